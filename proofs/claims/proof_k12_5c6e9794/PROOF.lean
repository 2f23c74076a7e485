import PyProof.Rows.All
import Wide.All
import OpenK.AllK
import Wide.FinOn
import HandS.ForMost
import HandS.ForExc
import HandS.TupAny
import HandS.TupMul
import HandS.Rev
import HandS.TryMany
import HandS.Zip
import HandS.Deep
import KE.KDictKeyed
import HandS.IsInst
import KE.GoesMore
import HandS.CallSlots
import HandS.Defaults
import PyProof.DictStraight
import HandS.DictComp
import KE.KSortTupG
import KE.SortData
import HandS.Sort
import KE.KDictList
import KE.KDictCopyH
import HandS.ExcInit
import HandS.ExcIs
import HandS.ExcField
import HandS.Conv
import HandS.TupSets
import HandS.Wide
import HandS.Gcd
import KE.KDictWalk
import KE.KExcIs
import KE.KExcInit
import HandS.RevTup
import HandS.Flow
import HandS.Style
import HandS.Call
import HandS.Iter
import KE.KMathGC
import KE.DataMinMax
import PyProof.Claim2Refuses
import HandS.SortKw
import PySem.Challenge.RW_nearercamps_k12_machines_by_hand_and_wha
set_option Elab.async false
set_option linter.all false
set_option maxRecDepth 100000
set_option maxHeartbeats 4000000
namespace Nc
open PySem PySem.Spec PyProof.Rows L2

/-- the written part, and the world (of which the hashes hang) -/
structure KW where
  k : PySem.W.Frag
  w : World
  mg : Str → Option Value
abbrev kwOf (X : Cx) : KW := ⟨X.K, X.w, X.mg⟩

/-! ## data -/
inductive D where
  | non | bl (b : Bool) | int (i : Int) | str (s : Str) | tup (ds : List D) | cell (n : Nat) | frl (ds : List D)

/-- what a draw gives, and what is left: a number's digits, then mixed ones -/
def mixZ (b c z : Int) : Int :=
  let once := ((b + 48271 * c) * (39373 + c)) % 2147483647
  let far := once % 40009 + 7
  let twice := ((once + c + b / 1000003) * far) % 2147483629
  ((twice * 48271 + once) % 2147483587 / 64) % z
/-- these draws come (of so many each), in this order -/
def drawsOk : Int → Int → Int → List (Int × Int) → Prop
  | _, _, _, [] => True
  | a, b, c, (z, v) :: r => 0 < z ∧ 0 ≤ a ∧ 0 ≤ b ∧ 0 ≤ c ∧ c < 1000000 ∧ ((0 < a ∧ v = a % z ∧ drawsOk (a / z) b c r) ∨ (a ≤ 0 ∧ v = mixZ b (c + 1) z ∧ drawsOk a b (c + 1) r))
/-- what a cell holds -/
inductive Cell where
  | lst (ds : List D)
  | dict (fz : Bool) (kvs : List (NestedKey × D × D))
  | obj (c : Str) (fs : List (Str × D))
  | junk
  | urn (l : List (Int × Int))

abbrev AH := List (Nat × Cell)
def AH.get (n : Nat) : AH → Option Cell
  | [] => none
  | (m, c) :: r => bif Nat.beq m n then some c else AH.get n r
def AH.new : AH → Nat
  | [] => 0
  | (m, _) :: _ => m + 1
def AH.put (n : Nat) (c : Cell) : AH → AH
  | [] => []
  | (m, c') :: r => bif Nat.beq m n then (m, c) :: r else (m, c') :: AH.put n c r
def AH.add (c : Cell) (h : AH) : AH := (h.new, c) :: h

theorem AH.get_add (c : Cell) (h : AH) (n : Nat) : AH.get n (AH.add c h) = if AH.new h = n then some c else AH.get n h := by
  show (bif Nat.beq (AH.new h) n then some c else AH.get n h) = _
  by_cases e : AH.new h = n
  · subst e; simp
  · rw [if_neg e]
    have : Nat.beq (AH.new h) n = false := by
      cases q : Nat.beq (AH.new h) n
      · rfl
      · exact absurd (Nat.eq_of_beq_eq_true q) e
    rw [this]; rfl
theorem AH.get_put (n : Nat) (c : Cell) : ∀ (h : AH) (m : Nat), AH.get m (AH.put n c h) = if m = n then (AH.get n h).map (fun _ => c) else AH.get m h
  | [], m => by simp [AH.put, AH.get]
  | (k, c') :: r, m => by
    unfold AH.put
    cases q : Nat.beq k n with
    | true =>
      have e := Nat.eq_of_beq_eq_true q
      subst e
      simp only [cond_true]
      by_cases hm : m = k
      · subst hm; simp [AH.get]
      · have : Nat.beq k m = false := by
          cases q : Nat.beq k m
          · rfl
          · exact absurd (Nat.eq_of_beq_eq_true q).symm hm
        rw [if_neg hm]; simp [AH.get, this]
    | false =>
      have hkn : k ≠ n := fun e => by subst e; simp at q
      simp only [cond_false]
      have ih := AH.get_put n c r m
      by_cases hm : m = n
      · subst hm
        rw [if_pos rfl] at ih ⊢
        simp [AH.get, q, ih]
      · rw [if_neg hm] at ih ⊢
        show (bif Nat.beq k m then some c' else AH.get m (AH.put n c r)) = (bif Nat.beq k m then some c' else AH.get m r)
        rw [ih]

/-! ## keys of dicts -/
mutual
def toNK : D → Option NestedKey
  | .non => some .none
  | .bl b => some (.num (if b then 1 else 0))
  | .int i => some (.num i)
  | .str s => some (.text s)
  | .tup ds => match toNKs ds with
    | some ks => some (.tup ks)
    | none => none
  | .cell _ => none
  | .frl _ => none
def toNKs : List D → Option (List NestedKey)
  | [] => some []
  | d :: r => match toNK d with
    | some k => match toNKs r with
      | some ks => some (k :: ks)
      | none => none
    | none => none
end
/-- a dict's own object: its entries by the keys' values, where the keys stand, the values -/
def DNφ (w : World) (L : List (NestedKey × V × V)) (a : Addr) (h : Heap) : Prop := ∃ xs : List (NestedKey × Value × Value), Paired (fun (p : NestedKey × V × V) (q : NestedKey × Value × Value) => p.1 = q.1 ∧ RelV p.2.1 q.2.1 ∧ RelV p.2.2 q.2.2) L xs ∧
  ∃ o es ep, h.get? a = some o ∧ o.ExactDict ∧ o.data = .dict es ep ∧ es.toList = xs.map (fun x => (⟨x.1.hash w, x.2.1, x.2.2⟩ : DictEntry)) ∧ (xs.map (·.1)).Nodup
def DN (w : World) (L : List (NestedKey × V × V)) (a : Addr) : HO := .ext (DNφ w L a)

/-! ## what data stands for -/
abbrev Rho := Nat → Option Addr
/-- a list that is read alone: what the law is handed -/
def SqF (K : PySem.W.Frag) (H : Hp) (a : Addr) (xs : List V) : Prop :=
  (∃ o, H a = some (.frz o (.lst xs))) ∨
    ∃ (o : Obj) (its : Array Value) (n : Nat), K.lookup a = some o ∧ o.cls = .type "list" ∧ o.dict = none ∧ o.data = .seq its n ∧ its.size ≤ sizeLine ∧ Vals xs its.toList
theorem SqF.sqL {K : PySem.W.Frag} {H : Hp} {a : Addr} {xs : List V} (s : SqF K H a xs) : SqL K H a xs := by
  rcases s with s | s
  · exact .inl (.inr s)
  · exact .inr s
section
variable (K : KW)
mutual
def Rp (ρ : Rho) (H : Hp) : D → V → Prop
  | .non, v => v = .non
  | .bl b, v => v = .bl b
  | .int i, v => v = .int i
  | .str s, v => v = .str s
  | .tup ds, v => ∃ a xs, v = .ref a ∧ SqT K.k H a xs ∧ Rps ρ H ds xs
  | .cell n, v => ∃ a, v = .ref a ∧ ρ n = some a
  | .frl ds, v => ∃ a xs, v = .ref a ∧ SqF K.k H a xs ∧ Rps ρ H ds xs
def Rps (ρ : Rho) (H : Hp) : List D → List V → Prop
  | [], xs => xs = []
  | d :: ds, xs => ∃ x r, xs = x :: r ∧ Rp ρ H d x ∧ Rps ρ H ds r
end
/-- an instance's attributes -/
def FEnt (ρ : Rho) (H : Hp) (p : Str × D) (q : Str × V) : Prop := p.1 = q.1 ∧ Rp K ρ H p.2 q.2
/-- an entry's key by value, the key, what stands there -/
def DEnt (ρ : Rho) (H : Hp) (p : NestedKey × D × D) (q : NestedKey × V × V) : Prop := p.1 = q.1 ∧ toNK p.2.1 = some p.1 ∧ NestedKey.depth p.1 ≤ 8 ∧ Rp K ρ H p.2.1 q.2.1 ∧ Rp K ρ H p.2.2 q.2.2
/-- all keys are tuples, or all are ints -/
def isTupD : D → Bool
  | .tup _ => true
  | _ => false
def isIntD : D → Bool
  | .int _ => true
  | _ => false
def HomD (kvs : List (NestedKey × D × D)) : Prop := (∀ p ∈ kvs, isTupD p.2.1 = true) ∨ (∀ p ∈ kvs, isIntD p.2.1 = true)
/-- as it is, or locked while a loop walks it -/
def Lk (fz : Bool) (x : Option HO) (u : HO) : Prop := match fz with
  | false => x = some u
  | true => ∃ o, x = some (.frz o u)
/-- what a cell may be: it may be written, or it is a locked dict -/
def Lv : Option HO → Prop
  | some (.frz _ (.ext _)) => True
  | x => Mut x
theorem mut_lst {H : Hp} {a : Addr} {xs : List V} (e : H a = some (.lst xs)) : Mut (H a) := by rw [e]; trivial
theorem Lv.of {o : HO} (m : Mut (some o)) : Lv (some o) := by
  cases o with
  | frz _ _ => exact m.elim
  | _ => exact m
theorem lk_rd {fz : Bool} {H : Hp} {a : Addr} {u : HO} (h : Lk fz (H a) u) : Rd H a u := by
  cases fz with
  | false => exact .inl h
  | true => exact .inr h
def CellR (ρ : Rho) (H : Hp) (a : Addr) : Cell → Prop
  | .lst ds => ∃ xs, H a = some (.lst xs) ∧ Rps K ρ H ds xs
  | .dict fz kvs => ∃ L, Lk fz (H a) (DN K.w L a) ∧ (a == sysModules) = false ∧ Paired (DEnt K ρ H) kvs L ∧ HomD kvs
  | .obj c fs => ∃ C dx vfs, H a = some (.ins C dx vfs) ∧ K.mg c = some (.ref C) ∧ Paired (FEnt K ρ H) fs vfs
  | .junk => True
  | .urn l => ∃ x b c, H a = some (.lst [.int x, .int b, .int c]) ∧ drawsOk x b c l

structure HR (ρ : Rho) (H : Hp) (h : AH) : Prop where
  inj : ∀ n m a, ρ n = some a → ρ m = some a → n = m
  top : ∀ n, h.new ≤ n → ρ n = none
  live : ∀ n a, ρ n = some a → Lv (H a)
  at_ : ∀ n c, h.get n = some c → ∃ a, ρ n = some a ∧ CellR K ρ H a c
end
structure Grow (ρ ρ' : Rho) (H H' : Hp) : Prop where
  rho : ∀ n a, ρ n = some a → ρ' n = some a
  new : ∀ n a, ρ' n = some a → ρ n = none → H a = none
  keep : ∀ a o, H a = some o → (∀ n, ρ n ≠ some a) → H' a = some o
  frz : ∀ a o u, H a = some (.frz o u) → H' a = some (.frz o u)
theorem Grow.refl (ρ : Rho) (H : Hp) : Grow ρ ρ H H := ⟨fun _ _ h => h, fun _ _ h h' => (by rw [h] at h'; cases h'), fun _ _ h _ => h, fun _ _ _ h => h⟩
theorem Grow.trans {ρ ρ1 ρ2 : Rho} {H H1 H2 : Hp} (l : ∀ n a, ρ1 n = some a → Lv (H1 a)) (g : Grow ρ ρ1 H H1) (g' : Grow ρ1 ρ2 H1 H2) : Grow ρ ρ2 H H2 := by
  refine ⟨fun n a h => g'.rho n a (g.rho n a h), fun n a h2 h0 => ?_, fun a o h hn => ?_, fun a o u h => g'.frz a o u (g.frz a o u h)⟩
  · cases q : ρ1 n with
    | some b =>
      have := g'.rho n b q
      rw [h2] at this; cases this
      exact g.new n _ q h0
    | none =>
      have z := g'.new n a h2 q
      cases e : H a with
      | none => rfl
      | some o =>
        by_cases hm : ∃ m, ρ m = some a
        · obtain ⟨m, hm⟩ := hm
          have := l m a (g.rho m a hm)
          rw [z] at this; exact this.elim
        · have := g.keep a o e fun m hm' => hm ⟨m, hm'⟩
          rw [z] at this; cases this
  · refine g'.keep a o (g.keep a o h hn) fun m hm => ?_
    cases q : ρ m with
    | some b =>
      have := g.rho m b q
      rw [hm] at this; cases this
      exact hn m q
    | none =>
      have := g.new m a hm q
      rw [h] at this; cases this
section
variable {K : KW} {ρ ρ' : Rho} {H H' : Hp} {h : AH}
theorem not_tup (l : ∀ n a, ρ n = some a → Lv (H a)) {a : Addr} {xs : List V} (r : Rd H a (.tup xs)) : ∀ n, ρ n ≠ some a := fun n e => by
  have := l n a e
  rcases r with r | ⟨o, r⟩ <;> (rw [r] at this; exact this)
theorem sqT_grow (l : ∀ n a, ρ n = some a → Lv (H a)) (g : Grow ρ ρ' H H') {a : Addr} {xs : List V} (s : SqT K.k H a xs) : SqT K.k H' a xs := by
  rcases s with s | s
  · have nt := not_tup l s
    rcases s with s | ⟨o, s⟩
    · exact .inl (.inl (g.keep _ _ s nt))
    · exact .inl (.inr ⟨o, g.keep _ _ s nt⟩)
  · exact .inr s
theorem sqF_grow (l : ∀ n a, ρ n = some a → Lv (H a)) (g : Grow ρ ρ' H H') {a : Addr} {xs : List V} (s : SqF K.k H a xs) : SqF K.k H' a xs := by
  rcases s with ⟨o, s⟩ | s
  · refine .inl ⟨o, g.keep _ _ s fun n e => ?_⟩
    have := l n a e
    rw [s] at this; exact this
  · exact .inr s
mutual
theorem Rp.grow (l : ∀ n a, ρ n = some a → Lv (H a)) (g : Grow ρ ρ' H H') : ∀ (d : D) {v : V}, Rp K ρ H d v → Rp K ρ' H' d v
  | .non, _, r => by unfold Rp at *; exact r
  | .bl _, _, r => by unfold Rp at *; exact r
  | .int _, _, r => by unfold Rp at *; exact r
  | .str _, _, r => by unfold Rp at *; exact r
  | .tup ds, _, r => by
    unfold Rp at *
    obtain ⟨a, xs, e, s, q⟩ := r
    exact ⟨a, xs, e, sqT_grow l g s, Rps.grow l g ds q⟩
  | .cell n, _, r => by
    unfold Rp at *
    obtain ⟨a, e, q⟩ := r
    exact ⟨a, e, g.rho n a q⟩
  | .frl ds, _, r => by
    unfold Rp at *
    obtain ⟨a, xs, e, s, q⟩ := r
    exact ⟨a, xs, e, sqF_grow l g s, Rps.grow l g ds q⟩
theorem Rps.grow (l : ∀ n a, ρ n = some a → Lv (H a)) (g : Grow ρ ρ' H H') : ∀ (ds : List D) {vs : List V}, Rps K ρ H ds vs → Rps K ρ' H' ds vs
  | [], _, r => by unfold Rps at *; exact r
  | d :: ds, _, r => by
    unfold Rps at *
    obtain ⟨x, q, e, r1, r2⟩ := r
    exact ⟨x, q, e, Rp.grow l g d r1, Rps.grow l g ds r2⟩
end
/-- the names stay, the tuples stay -/
structure Ext (K : KW) (ρ ρ' : Rho) (H H' : Hp) : Prop where
  rho : ∀ n a, ρ n = some a → ρ' n = some a
  tup : ∀ a xs, SqT K.k H a xs → SqT K.k H' a xs
  frl : ∀ a xs, SqF K.k H a xs → SqF K.k H' a xs
  frz : ∀ a o u, H a = some (.frz o u) → H' a = some (.frz o u)
theorem Ext.refl : Ext K ρ ρ H H := ⟨fun _ _ h => h, fun _ _ h => h, fun _ _ h => h, fun _ _ _ h => h⟩
theorem Ext.trans {ρ2 : Rho} {H2 : Hp} (a : Ext K ρ ρ' H H') (b : Ext K ρ' ρ2 H' H2) : Ext K ρ ρ2 H H2 := ⟨fun n x h => b.rho n x (a.rho n x h), fun x xs h => b.tup x xs (a.tup x xs h), fun x xs h => b.frl x xs (a.frl x xs h), fun x o u h => b.frz x o u (a.frz x o u h)⟩
theorem Grow.ext (l : ∀ n a, ρ n = some a → Lv (H a)) (g : Grow ρ ρ' H H') : Ext K ρ ρ' H H' := ⟨g.rho, fun _ _ s => sqT_grow l g s, fun _ _ s => sqF_grow l g s, g.frz⟩
mutual
theorem Rp.ext (g : Ext K ρ ρ' H H') : ∀ (d : D) {v : V}, Rp K ρ H d v → Rp K ρ' H' d v
  | .non, _, r => by unfold Rp at *; exact r
  | .bl _, _, r => by unfold Rp at *; exact r
  | .int _, _, r => by unfold Rp at *; exact r
  | .str _, _, r => by unfold Rp at *; exact r
  | .tup ds, _, r => by
    unfold Rp at *
    obtain ⟨a, xs, e, s, q⟩ := r
    exact ⟨a, xs, e, g.tup a xs s, Rps.ext g ds q⟩
  | .cell n, _, r => by
    unfold Rp at *
    obtain ⟨a, e, q⟩ := r
    exact ⟨a, e, g.rho n a q⟩
  | .frl ds, _, r => by
    unfold Rp at *
    obtain ⟨a, xs, e, s, q⟩ := r
    exact ⟨a, xs, e, g.frl a xs s, Rps.ext g ds q⟩
theorem Rps.ext (g : Ext K ρ ρ' H H') : ∀ (ds : List D) {vs : List V}, Rps K ρ H ds vs → Rps K ρ' H' ds vs
  | [], _, r => by unfold Rps at *; exact r
  | d :: ds, _, r => by
    unfold Rps at *
    obtain ⟨x, q, e, r1, r2⟩ := r
    exact ⟨x, q, e, Rp.ext g d r1, Rps.ext g ds r2⟩
end
theorem Paired.imp2 {α β : Type} {F G : α → β → Prop} (f : ∀ a b, F a b → G a b) : ∀ {l₁ : List α} {l₂ : List β}, Paired F l₁ l₂ → Paired G l₁ l₂
  | _, _, .nil => .nil
  | _, _, .cons r t => .cons (f _ _ r) (Paired.imp2 f t)
theorem CellR.ext {a : Addr} {c : Cell} (g : Ext K ρ ρ' H H') (e : H' a = H a) (q : CellR K ρ H a c) : CellR K ρ' H' a c := by
  cases c with
  | lst ds =>
    obtain ⟨xs, e1, r⟩ := q
    exact ⟨xs, e.trans e1, Rps.ext g ds r⟩
  | dict fz kvs =>
    obtain ⟨L, e1, e2, r, hm⟩ := q
    exact ⟨L, by rw [e]; exact e1, e2, Paired.imp2 (fun a b h => ⟨h.1, h.2.1, h.2.2.1, Rp.ext g _ h.2.2.2.1, Rp.ext g _ h.2.2.2.2⟩) r, hm⟩
  | obj c fs =>
    obtain ⟨C, dx, vfs, e1, e2, r⟩ := q
    exact ⟨C, dx, vfs, e.trans e1, e2, Paired.imp2 (fun a b h => ⟨h.1, Rp.ext g _ h.2⟩) r⟩
  | junk => trivial
  | urn l =>
    obtain ⟨x, b, c, e1, d⟩ := q
    exact ⟨x, b, c, e.trans e1, d⟩
theorem Rps.nil_iff {vs : List V} : Rps K ρ H [] vs ↔ vs = [] := by unfold Rps; exact Iff.rfl
theorem Rps.cons_iff {d : D} {ds : List D} {vs : List V} : Rps K ρ H (d :: ds) vs ↔ ∃ x r, vs = x :: r ∧ Rp K ρ H d x ∧ Rps K ρ H ds r := by
  constructor
  · intro h; unfold Rps at h; exact h
  · intro h; unfold Rps; exact h
theorem Rps.cons {d : D} {ds : List D} {v : V} {vs : List V} (r : Rp K ρ H d v) (q : Rps K ρ H ds vs) : Rps K ρ H (d :: ds) (v :: vs) := by
  unfold Rps; exact ⟨v, vs, rfl, r, q⟩
theorem Rps.length : ∀ {ds : List D} {vs : List V}, Rps K ρ H ds vs → ds.length = vs.length
  | [], _, r => by rw [Rps.nil_iff] at r; subst r; rfl
  | d :: ds, _, r => by
    obtain ⟨x, q, rfl, _, r2⟩ := Rps.cons_iff.mp r
    simp [Rps.length r2]
theorem Rps.append : ∀ {ds es : List D} {vs us : List V}, Rps K ρ H ds vs → Rps K ρ H es us → Rps K ρ H (ds ++ es) (vs ++ us)
  | [], _, _, _, r, q => by rw [Rps.nil_iff] at r; subst r; exact q
  | d :: ds, _, _, _, r, q => by
    obtain ⟨x, t, rfl, r1, r2⟩ := Rps.cons_iff.mp r
    exact Rps.cons r1 (Rps.append r2 q)
theorem Rps.get : ∀ {ds : List D} {vs : List V} {i : Nat} {d : D}, Rps K ρ H ds vs → ds[i]? = some d → ∃ v, vs[i]? = some v ∧ Rp K ρ H d v
  | [], _, _, _, _, e => by simp at e
  | d :: ds, _, 0, _, r, e => by
    obtain ⟨x, t, rfl, r1, r2⟩ := Rps.cons_iff.mp r
    simp at e; subst e; exact ⟨x, rfl, r1⟩
  | d :: ds, _, i + 1, _, r, e => by
    obtain ⟨x, t, rfl, r1, r2⟩ := Rps.cons_iff.mp r
    obtain ⟨v, e1, r3⟩ := Rps.get (i := i) r2 (by simpa using e)
    exact ⟨v, by simpa using e1, r3⟩
/-- a new object that is no cell -/
theorem grow_upd (l : ∀ n a, ρ n = some a → Lv (H a)) {p : Addr} {o : HO} (np : H p = none) : Grow ρ ρ H (upd H p o) :=
  ⟨fun _ _ h => h, fun _ _ h h' => (by rw [h] at h'; cases h'), fun a o h _ => by rw [upd_ne (ne_of_none h np)]; exact h, fun a o u h => by rw [upd_ne (ne_of_none h np)]; exact h⟩
theorem HR.upd (hr : HR K ρ H h) {p : Addr} {o : HO} (np : H p = none) : HR K ρ (upd H p o) h := by
  have g := grow_upd (o := o) hr.live np
  have ne : ∀ n a, ρ n = some a → a ≠ p := fun n a e z => by
    subst z
    have := hr.live n a e
    rw [np] at this; exact this
  refine ⟨hr.inj, hr.top, fun n a e => ?_, fun n c e => ?_⟩
  · rw [upd_ne (ne n a e)]; exact hr.live n a e
  · obtain ⟨a, e1, q⟩ := hr.at_ n c e
    exact ⟨a, e1, q.ext (g.ext hr.live) (upd_ne (ne n a e1))⟩
/-- a new list -/
def rhoAdd (ρ : Rho) (n : Nat) (a : Addr) : Rho := fun m => if m = n then some a else ρ m
theorem grow_add (hr : HR K ρ H h) {p : Addr} {o : HO} (np : H p = none) : Grow ρ (rhoAdd ρ h.new p) H (L2.upd H p o) := by
  refine ⟨fun n a e => ?_, fun n a e e0 => ?_, fun a o h _ => by rw [upd_ne (ne_of_none h np)]; exact h, fun a o u h => by rw [upd_ne (ne_of_none h np)]; exact h⟩
  · unfold rhoAdd
    by_cases q : n = h.new
    · subst q; rw [hr.top _ (Nat.le_refl _)] at e; cases e
    · rw [if_neg q]; exact e
  · unfold rhoAdd at e
    by_cases q : n = h.new
    · rw [if_pos q] at e; cases e; exact np
    · rw [if_neg q, e0] at e; cases e
theorem HR.addC (hr : HR K ρ H h) {p : Addr} {o : HO} {c : Cell} (np : H p = none) (mu : Lv (some o)) (q : CellR K (rhoAdd ρ h.new p) (L2.upd H p o) p c) :
    HR K (rhoAdd ρ h.new p) (L2.upd H p o) (h.add c) := by
  have g := grow_add (o := o) hr np
  have ne : ∀ n a, ρ n = some a → a ≠ p := fun n a e z => by
    subst z
    have := hr.live n a e
    rw [np] at this; exact this
  refine ⟨fun n m a e1 e2 => ?_, fun n hn => ?_, fun n a e => ?_, fun n c' e => ?_⟩
  · unfold rhoAdd at e1 e2
    by_cases q1 : n = h.new <;> by_cases q2 : m = h.new
    · rw [q1, q2]
    · rw [if_pos q1] at e1; rw [if_neg q2] at e2; cases e1; exact absurd rfl (ne _ _ e2)
    · rw [if_neg q1] at e1; rw [if_pos q2] at e2; cases e2; exact absurd rfl (ne _ _ e1)
    · rw [if_neg q1] at e1; rw [if_neg q2] at e2; exact hr.inj _ _ _ e1 e2
  · have : (h.add c).new = h.new + 1 := rfl
    rw [this] at hn
    unfold rhoAdd
    rw [if_neg (by omega)]
    exact hr.top n (by omega)
  · unfold rhoAdd at e
    by_cases q : n = h.new
    · rw [if_pos q] at e; cases e; rw [upd_same]; exact mu
    · rw [if_neg q] at e; rw [upd_ne (ne _ _ e)]; exact hr.live n a e
  · rw [AH.get_add] at e
    by_cases z : h.new = n
    · rw [if_pos z] at e; cases e
      refine ⟨p, ?_, q⟩
      unfold rhoAdd; rw [if_pos z.symm]
    · rw [if_neg z] at e
      obtain ⟨a, e1, qq⟩ := hr.at_ n c' e
      refine ⟨a, ?_, qq.ext (g.ext hr.live) (upd_ne (ne _ _ e1))⟩
      unfold rhoAdd; rw [if_neg (Ne.symm z)]; exact e1
theorem HR.add (hr : HR K ρ H h) {p : Addr} {xs : List V} {ds : List D} (np : H p = none) (r : Rps K ρ H ds xs) :
    HR K (rhoAdd ρ h.new p) (L2.upd H p (.lst xs)) (h.add (.lst ds)) :=
  hr.addC np trivial ⟨xs, upd_same, Rps.grow hr.live (grow_add hr np) ds r⟩
theorem rhoAdd_same {n : Nat} {a : Addr} : rhoAdd ρ n a n = some a := by unfold rhoAdd; rw [if_pos rfl]
/-- a list is changed -/
theorem grow_put {a : Addr} (m : Mut (H a)) {n : Nat} {o : HO} (e : ρ n = some a) : Grow ρ ρ H (L2.upd H a o) :=
  ⟨fun _ _ h => h, fun _ _ h h' => (by rw [h] at h'; cases h'), fun b o h hn => by rw [upd_ne (fun z => hn n (by rw [z]; exact e))]; exact h, fun b o u h => by rw [upd_ne (fun z => by rw [← z, h] at m; exact m)]; exact h⟩
theorem put_new (n : Nat) (c : Cell) : ∀ h : AH, (h.put n c).new = h.new := fun h => by
  cases h with
  | nil => rfl
  | cons p r =>
    obtain ⟨m, c'⟩ := p
    unfold AH.put
    cases Nat.beq m n <;> rfl
theorem HR.putC (hr : HR K ρ H h) {n : Nat} {a : Addr} {c0 c : Cell} {o : HO} (e : ρ n = some a) (e0 : h.get n = some c0) (m : Mut (H a)) (mu : Lv (some o)) (q : CellR K ρ (L2.upd H a o) a c) :
    HR K ρ (L2.upd H a o) (h.put n c) := by
  have g := grow_put (o := o) m e
  refine ⟨hr.inj, fun m hm => hr.top m (by rw [put_new] at hm; exact hm), fun m b em => ?_, fun m c' em => ?_⟩
  · by_cases q : b = a
    · subst q; rw [upd_same]; exact mu
    · rw [upd_ne q]; exact hr.live m b em
  · rw [AH.get_put] at em
    by_cases z : m = n
    · subst z
      rw [if_pos rfl, e0] at em; cases em
      exact ⟨a, e, q⟩
    · rw [if_neg z] at em
      obtain ⟨b, e1, qq⟩ := hr.at_ m c' em
      have nb : b ≠ a := fun y => by subst y; exact z (hr.inj _ _ _ e1 e)
      exact ⟨b, e1, qq.ext (g.ext hr.live) (upd_ne nb)⟩
theorem HR.put (hr : HR K ρ H h) {n : Nat} {a : Addr} {c0 : Cell} {xs : List V} {ds : List D} (e : ρ n = some a) (e0 : h.get n = some c0) (m : Mut (H a)) (r : Rps K ρ H ds xs) :
    HR K ρ (L2.upd H a (.lst xs)) (h.put n (.lst ds)) :=
  hr.putC e e0 m trivial ⟨xs, upd_same, Rps.grow hr.live (grow_put m e) ds r⟩
end

/-! ## slots -/
abbrev DSt := List (Option D)
structure StR (K : KW) (ρ : Rho) (H : Hp) (σ : L2.St) (s : DSt) : Prop where
  len : σ.length = s.length
  at_ : ∀ (i : Nat) (d : D), s[i]? = some (some d) → ∃ v, σ[i]? = some (some v) ∧ Rp K ρ H d v
theorem StR.grow {K : KW} {ρ ρ' : Rho} {H H' : Hp} {σ : L2.St} {s : DSt} (l : ∀ n a, ρ n = some a → Lv (H a)) (g : Grow ρ ρ' H H') (r : StR K ρ H σ s) : StR K ρ' H' σ s :=
  ⟨r.len, fun i d e => let ⟨v, e1, q⟩ := r.at_ i d e; ⟨v, e1, Rp.grow l g d q⟩⟩
theorem StR.set {K : KW} {ρ : Rho} {H : Hp} {σ : L2.St} {s : DSt} {i : Nat} {d : D} {v : V} (r : StR K ρ H σ s) (q : Rp K ρ H d v) : StR K ρ H (σ.set i (some v)) (s.set i (some d)) := by
  refine ⟨by simp [r.len], fun j e h => ?_⟩
  by_cases z : j = i
  · subst z
    rw [List.getElem?_set] at h
    simp only [if_true] at h
    split at h
    · rename_i hl
      cases h
      refine ⟨v, ?_, q⟩
      rw [List.getElem?_set_self (by rw [r.len]; exact hl)]
    · cases h
  · rw [List.getElem?_set_ne (Ne.symm z)] at h
    obtain ⟨u, e1, q1⟩ := r.at_ j e h
    exact ⟨u, by rw [List.getElem?_set_ne (Ne.symm z)]; exact e1, q1⟩

/-! ## results -/
/-- an exception of the program's own: which class, its one attribute -/
structure Xn where
  cls : Nat
  arg : Option D
inductive R (α : Type) where
  | ok (a : α) (h : AH) | ex (e : Xn) (h : AH) | no
def R.bind {α β : Type} (r : R α) (f : α → AH → R β) : R β := match r with
  | .ok a h => f a h
  | .ex e h => .ex e h
  | .no => .no
/-- where the classes of exceptions stand, and what their own dict holds -/
structure XT where
  cls : Nat → Option Value
  fld : Nat → Option Str
def XR (K : KW) (T : XT) (ρ : Rho) (H : Hp) (e : Xn) (c : Value) (d : Option Addr) : Prop :=
  T.cls e.cls = some c ∧ match T.fld e.cls, e.arg with
    | some f, some x => ∃ a v, d = some a ∧ H a = some (.xd [(f, v)]) ∧ Rp K ρ H x v
    | none, none => d = none
    | _, _ => False
/-- what is wanted of an exception, by data -/
def PostX (K : KW) (T : XT) (E : XK) (ρ : Rho) (H : Hp) (e : Xn) (h : AH) : Prop :=
  ∀ ρ' H' c d, Grow ρ ρ' H H' → HR K ρ' H' h → XR K T ρ' H' e c d → E c d H'
def Post {α : Type} (K : KW) (T : XT) (E : XK) (ρ : Rho) (H : Hp) (r : R α) (q : α → AH → Rho → Hp → Prop) : Prop := match r with
  | .ok a h => ∀ ρ' H', Grow ρ ρ' H H' → HR K ρ' H' h → q a h ρ' H'
  | .ex e h => PostX K T E ρ H e h
  | .no => False
theorem Post.bind {α β : Type} {K : KW} {T : XT} {E : XK} {ρ : Rho} {H : Hp} {r : R α} {f : α → AH → R β} {q : β → AH → Rho → Hp → Prop} (p : Post K T E ρ H (r.bind f) q) :
    Post K T E ρ H r fun a h ρ' H' => Post K T E ρ' H' (f a h) q := by
  cases r with
  | no => exact p
  | ex e h => exact p
  | ok a h =>
    intro ρ1 H1 g1 hr1
    have p : Post K T E ρ H (f a h) q := p
    show Post K T E ρ1 H1 (f a h) q
    generalize f a h = z at p ⊢
    cases z with
    | no => exact p
    | ex e h' => exact fun ρ2 H2 c d g2 hr2 x => p ρ2 H2 c d (g1.trans hr1.live g2) hr2 x
    | ok b h' => exact fun ρ2 H2 g2 hr2 => p ρ2 H2 (g1.trans hr1.live g2) hr2
theorem Post.mono {α : Type} {K : KW} {T : XT} {E : XK} {ρ : Rho} {H : Hp} {r : R α} {q q' : α → AH → Rho → Hp → Prop} (p : Post K T E ρ H r q)
    (m : ∀ a h ρ' H', r = .ok a h → Grow ρ ρ' H H' → HR K ρ' H' h → q a h ρ' H' → q' a h ρ' H') : Post K T E ρ H r q' := by
  cases r with
  | no => exact p
  | ex e h => exact p
  | ok a h => exact fun ρ1 H1 g1 hr1 => m a h ρ1 H1 rfl g1 hr1 (p ρ1 H1 g1 hr1)
end Nc
namespace Nc
open PySem PySem.Spec PyProof.Rows L2

abbrev DE := DSt → AH → R D
/-- the wish about exceptions, at these slots -/
def at_ (W : WX) (σ : L2.St) : XK := fun c d H => W c d σ H
abbrev DB := DSt → AH → R Bool
abbrev DA := DSt → AH → R (List D)
def tD (K : KW) (T : XT) (W : WX) (f : DE) : TE := fun σ H Q => ∃ ρ s h, StR K ρ H σ s ∧ HR K ρ H h ∧ Post K T (at_ W σ) ρ H (f s h) fun d _ ρ' H' => ∀ v, Rp K ρ' H' d v → Q v H'
def tDB (K : KW) (T : XT) (W : WX) (f : DB) : TT := fun σ H Q => ∃ ρ s h, StR K ρ H σ s ∧ HR K ρ H h ∧ Post K T (at_ W σ) ρ H (f s h) fun b _ _ H' => Q b H'
def tDA (K : KW) (T : XT) (W : WX) (f : DA) : TA := fun σ H Q => ∃ ρ s h, StR K ρ H σ s ∧ HR K ρ H h ∧ Post K T (at_ W σ) ρ H (f s h) fun ds _ ρ' H' => ∀ vs, Rps K ρ' H' ds vs → Q vs H'

theorem PE.imp {X : Cx} {e : Expr} {t t' : TE} (h : PE X e t) (m : ∀ σ H Q, t' σ H Q → t σ H Q) : PE X e t' := ⟨fun pins s σ H Q I q => h.run pins s σ H Q I (m σ H Q q)⟩
theorem PT.imp {X : Cx} {e : Expr} {t t' : TT} (h : PT X e t) (m : ∀ σ H Q, t' σ H Q → t σ H Q) : PT X e t' := ⟨fun pins s σ H Q I q => h.run pins s σ H Q I (m σ H Q q)⟩
theorem PW.imp {X : Cx} {e : Expr} {t t' : TT} (h : PW X e t) (m : ∀ σ H Q, t' σ H Q → t σ H Q) : PW X e t' := ⟨fun wh pins s σ H Q I q => h.run wh pins s σ H Q I (m σ H Q q)⟩
theorem PA.imp {X : Cx} {e : List Expr} {t t' : TA} (h : PA X e t) (m : ∀ σ H Q, t' σ H Q → t σ H Q) : PA X e t' := ⟨fun pos pins s σ H Q I q => h.run pos pins s σ H Q I (m σ H Q q)⟩
theorem PS.imp {X : Cx} {e : Stmt} {t t' : TS} (h : PS X e t) (m : ∀ D σ H, t' D σ H → t D σ H) : PS X e t' := ⟨fun pins s σ H Q I q => h.run pins s σ H Q I (m Q σ H q)⟩
theorem PSs.imp {X : Cx} {e : List Stmt} {t t' : TS} (h : PSs X e t) (m : ∀ D σ H, t' D σ H → t D σ H) : PSs X e t' := ⟨fun pins s σ H Q I q => h.run pins s σ H Q I (m Q σ H q)⟩

structure SE (X : Cx) (T : XT) (W : WX) (e : Expr) (f : DE) : Prop where
  p : PE X e (tD (kwOf X) T W f)
structure ST (X : Cx) (T : XT) (W : WX) (e : Expr) (f : DB) : Prop where
  p : PT X e (tDB (kwOf X) T W f)
structure SW (X : Cx) (T : XT) (W : WX) (e : Expr) (f : DB) : Prop where
  p : PW X e (tDB (kwOf X) T W f)
structure SA (X : Cx) (T : XT) (W : WX) (es : List Expr) (f : DA) : Prop where
  p : PA X es (tDA (kwOf X) T W f)

section
variable {K : KW} {T : XT} {E : XK} {W : WX} {ρ : Rho} {H : Hp} {h : AH} {σ : L2.St} {s : DSt}
/-- what follows, from the heap as it stands -/
theorem Post.here {α : Type} {a : α} {q : α → AH → Rho → Hp → Prop} (p : Post K T E ρ H (.ok a h) q) (hr : HR K ρ H h) : q a h ρ H := p ρ H (Grow.refl ρ H) hr
theorem tD_bind {β : Type} {f : DE} {g : D → AH → R β} {q : β → AH → Rho → Hp → Prop} {Q : VK} (st : StR K ρ H σ s) (hr : HR K ρ H h) (p : Post K T (at_ W σ) ρ H ((f s h).bind g) q)
    (k : ∀ d h1 ρ1 H1 v, Grow ρ ρ1 H H1 → HR K ρ1 H1 h1 → StR K ρ1 H1 σ s → Rp K ρ1 H1 d v → Post K T (at_ W σ) ρ1 H1 (g d h1) q → Q v H1) : tD K T W f σ H Q :=
  ⟨ρ, s, h, st, hr, p.bind.mono fun a h1 ρ1 H1 _ gr hr1 pq v rv => k a h1 ρ1 H1 v gr hr1 (st.grow hr.live gr) rv pq⟩
theorem tDB_bind {β : Type} {f : DB} {g : Bool → AH → R β} {q : β → AH → Rho → Hp → Prop} {Q : Bool → Hp → Prop} (st : StR K ρ H σ s) (hr : HR K ρ H h) (p : Post K T (at_ W σ) ρ H ((f s h).bind g) q)
    (k : ∀ d h1 ρ1 H1, Grow ρ ρ1 H H1 → HR K ρ1 H1 h1 → StR K ρ1 H1 σ s → Post K T (at_ W σ) ρ1 H1 (g d h1) q → Q d H1) : tDB K T W f σ H Q :=
  ⟨ρ, s, h, st, hr, p.bind.mono fun a h1 ρ1 H1 _ gr hr1 pq => k a h1 ρ1 H1 gr hr1 (st.grow hr.live gr) pq⟩
theorem tDA_bind {β : Type} {f : DA} {g : List D → AH → R β} {q : β → AH → Rho → Hp → Prop} {Q : List V → Hp → Prop} (st : StR K ρ H σ s) (hr : HR K ρ H h) (p : Post K T (at_ W σ) ρ H ((f s h).bind g) q)
    (k : ∀ d h1 ρ1 H1 v, Grow ρ ρ1 H H1 → HR K ρ1 H1 h1 → StR K ρ1 H1 σ s → Rps K ρ1 H1 d v → Post K T (at_ W σ) ρ1 H1 (g d h1) q → Q v H1) : tDA K T W f σ H Q :=
  ⟨ρ, s, h, st, hr, p.bind.mono fun a h1 ρ1 H1 _ gr hr1 pq v rv => k a h1 ρ1 H1 v gr hr1 (st.grow hr.live gr) rv pq⟩
theorem rp_int {i : Int} {v : V} : Rp K ρ H (.int i) v ↔ v = .int i := by unfold Rp; exact Iff.rfl
theorem rp_bl {i : Bool} {v : V} : Rp K ρ H (.bl i) v ↔ v = .bl i := by unfold Rp; exact Iff.rfl
theorem rp_non {v : V} : Rp K ρ H .non v ↔ v = .non := by unfold Rp; exact Iff.rfl
theorem rp_str {i : Str} {v : V} : Rp K ρ H (.str i) v ↔ v = .str i := by unfold Rp; exact Iff.rfl
theorem rp_tup {ds : List D} {v : V} : Rp K ρ H (.tup ds) v ↔ ∃ a xs, v = .ref a ∧ SqT K.k H a xs ∧ Rps K ρ H ds xs := by
  constructor
  · intro h; unfold Rp at h; exact h
  · intro h; unfold Rp; exact h
theorem rp_cell {n : Nat} {v : V} : Rp K ρ H (.cell n) v ↔ ∃ a, v = .ref a ∧ ρ n = some a := by unfold Rp; exact Iff.rfl
theorem rp_frl {ds : List D} {v : V} : Rp K ρ H (.frl ds) v ↔ ∃ a xs, v = .ref a ∧ SqF K.k H a xs ∧ Rps K ρ H ds xs := by
  constructor
  · intro h; unfold Rp at h; exact h
  · intro h; unfold Rp; exact h
end

section
variable {X : Cx} {T : XT} {W : WX} {pos : Pos} {a b e : Expr} {f g : DE}

/-! ### names, constants -/
def dVar (i : Nat) : DE := fun s h => match s[i]? with
  | some (some d) => .ok d h
  | _ => .no
theorem se_of {i : Nat} (p : PE X e (tVar i)) : SE X T W e (dVar i) := ⟨PE.imp p fun σ H Q ⟨ρ, s, h, st, hr, q⟩ => by
  unfold dVar at q
  split at q
  · rename_i d hd
    obtain ⟨v, e1, r⟩ := st.at_ _ _ hd
    exact ⟨v, e1, q.here hr v r⟩
  · exact q.elim⟩
theorem sv (i : Nat) {x : Str} {pos : Pos} (hN : X.N[i]? = some x := by rfl) (hv : Vis X.env.scope x := by first | exact Or.inl rfl | exact Or.inr (Or.inl rfl) | exact Or.inr (Or.inr rfl)) (hd : (x == ("__debug__" : Str)) = false := by decide)
    (hcd : (x == ("__classdict__" : Str)) = false := by decide) : SE X T W (.Name x pos) (dVar i) := se_of (pe_var hN hv hd hcd)
def dC (d : D) : DE := fun _ h => .ok d h
theorem se_int {i j pos} : SE X T W (.Constant (.int i) j pos) (dC (.int i)) := ⟨PE.imp pe_int fun σ H Q ⟨ρ, s, h, st, hr, q⟩ => q.here hr _ (rp_int.mpr rfl)⟩
theorem se_bl {i j pos} : SE X T W (.Constant (.bool i) j pos) (dC (.bl i)) := ⟨PE.imp pe_bl fun σ H Q ⟨ρ, s, h, st, hr, q⟩ => q.here hr _ (rp_bl.mpr rfl)⟩
theorem se_str {i j pos} : SE X T W (.Constant (.str i) j pos) (dC (.str i)) := ⟨PE.imp pe_str fun σ H Q ⟨ρ, s, h, st, hr, q⟩ => q.here hr _ (rp_str.mpr rfl)⟩
theorem se_non {j pos} : SE X T W (.Constant .none j pos) (dC .non) := ⟨PE.imp pe_non fun σ H Q ⟨ρ, s, h, st, hr, q⟩ => q.here hr _ (rp_non.mpr rfl)⟩

/-! ### arguments, displays -/
def dNil : DA := fun _ h => .ok [] h
def dCons (f : DE) (g : DA) : DA := fun s h => (f s h).bind fun d h1 => (g s h1).bind fun ds h2 => .ok (d :: ds) h2
theorem sa_nil : SA X T W [] dNil := ⟨PA.imp pa_nil fun σ H Q ⟨ρ, s, h, st, hr, q⟩ => q.here hr [] (Rps.nil_iff.mpr rfl)⟩
theorem sa_cons {es : List Expr} {g : DA} (ha : SE X T W e f) (hs : SA X T W es g) (he : starEach (e :: es) X.env = (false, eval e X.env) :: starEach es X.env := by rfl) : SA X T W (e :: es) (dCons f g) :=
  ⟨PA.imp (pa_cons ha.p hs.p he) fun σ H Q ⟨ρ, s, h, st, hr, q⟩ => tD_bind st hr q fun d h1 ρ1 H1 v g1 hr1 st1 r1 q1 =>
    tDA_bind st1 hr1 q1 fun ds h2 ρ2 H2 vs g2 hr2 st2 r2 q2 => q2.here hr2 _ (Rps.cons (Rp.grow hr1.live g2 d r1) r2)⟩
def lim : Nat := 1000000
theorem lim_ok {n : Nat} (h : Nat.ble n lim = true) : n ≤ sizeLine := by
  have h := Nat.le_of_ble_eq_true h
  have : lim ≤ sizeLine := by rw [sizeLine_eq]; decide
  omega
theorem lim_lt {n : Nat} (h : Nat.ble n lim = true) : n < sizeLine := by
  have h := Nat.le_of_ble_eq_true h
  have : lim < sizeLine := by rw [sizeLine_eq]; decide
  omega
/-- a check ahead -/
def chk {α : Type} (b : Bool) (r : R α) : R α := match b with
  | true => r
  | false => .no
theorem Post.chk {α : Type} {K : KW} {E : XK} {ρ : Rho} {H : Hp} {b : Bool} {r : R α} {q : α → AH → Rho → Hp → Prop} (p : Post K T E ρ H (Nc.chk b r) q) : b = true ∧ Post K T E ρ H r q := by
  cases b with
  | true => exact ⟨rfl, p⟩
  | false => exact p.elim
def mkL (ds : List D) (h : AH) : R D := chk (Nat.ble ds.length lim) (.ok (.cell h.new) (h.add (.lst ds)))
def mkT (ds : List D) (h : AH) : R D := chk (Nat.ble ds.length lim) (.ok (.tup ds) h)
section
variable {K : KW} {E : XK} {ρ : Rho} {H : Hp} {h : AH} {ds : List D} {vs : List V} {Q : VK}
theorem mkL_ok (hr : HR K ρ H h) (r : Rps K ρ H ds vs) (p : Post K T E ρ H (mkL ds h) fun d _ ρ' H' => ∀ v, Rp K ρ' H' d v → Q v H') : vs.length ≤ sizeLine ∧ ∀ p, H p = none → Q (.ref p) (upd H p (.lst vs)) := by
  obtain ⟨c, q⟩ := p.chk
  refine ⟨by rw [← r.length]; exact lim_ok c, fun p np => ?_⟩
  exact q _ _ (grow_add hr np) (hr.add np r) _ (rp_cell.mpr ⟨p, rfl, rhoAdd_same⟩)
theorem mkT_ok (hr : HR K ρ H h) (r : Rps K ρ H ds vs) (p : Post K T E ρ H (mkT ds h) fun d _ ρ' H' => ∀ v, Rp K ρ' H' d v → Q v H') : vs.length ≤ sizeLine ∧ ∀ p, H p = none → Q (.ref p) (upd H p (.tup vs)) := by
  obtain ⟨c, q⟩ := p.chk
  refine ⟨by rw [← r.length]; exact lim_ok c, fun p np => ?_⟩
  exact q _ _ (grow_upd hr.live np) (hr.upd np) _ (rp_tup.mpr ⟨p, vs, rfl, .inl (.inl upd_same), Rps.grow hr.live (grow_upd hr.live np) ds r⟩)
end
def dTup (f : DA) : DE := fun s h => (f s h).bind mkT
def dLst (f : DA) : DE := fun s h => (f s h).bind mkL
theorem se_tup {es : List Expr} {f : DA} {k} (ha : SA X T W es f) : SE X T W (.Tuple es k pos) (dTup f) :=
  ⟨PE.imp (pe_tup ha.p) fun σ H Q ⟨ρ, s, h, st, hr, q⟩ => tDA_bind st hr q fun ds h1 ρ1 H1 v g1 hr1 st1 r1 q1 => mkT_ok hr1 r1 q1⟩
theorem se_lst {es : List Expr} {f : DA} (ha : SA X T W es f) : SE X T W (.List es pos) (dLst f) :=
  ⟨PE.imp (pe_lst ha.p) fun σ H Q ⟨ρ, s, h, st, hr, q⟩ => tDA_bind st hr q fun ds h1 ρ1 H1 v g1 hr1 st1 r1 q1 => mkL_ok hr1 r1 q1⟩

/-! ### operators by values -/
abbrev P1 (K : KW) (T : XT) (E : XK) (ρ : Rho) (H : Hp) (r : R D) (Q : VK) : Prop := Post K T E ρ H r fun d _ ρ' H' => ∀ v, Rp K ρ' H' d v → Q v H'
def O2 (K : KW) (T : XT) (r : R2) (o : D → D → AH → R D) : Prop :=
  ∀ (E : XK) ρ H h x y v u Q, HR K ρ H h → Rp K ρ H x v → Rp K ρ H y u → P1 K T E ρ H (o x y h) Q → r v u H Q
def dOp (o : D → D → AH → R D) (f g : DE) : DE := fun s h => (f s h).bind fun x h1 => (g s h1).bind fun y h2 => o x y h2
theorem op_imp {r : R2} {o : D → D → AH → R D} (ho : O2 (kwOf X) T r o) : ∀ σ H Q, tD (kwOf X) T W (dOp o f g) σ H Q → tOp r (tD (kwOf X) T W f) (tD (kwOf X) T W g) σ H Q := fun σ H Q ⟨ρ, s, h, st, hr, q⟩ =>
  tD_bind st hr q fun x h1 ρ1 H1 v g1 hr1 st1 r1 q1 => tD_bind st1 hr1 q1 fun y h2 ρ2 H2 u g2 hr2 st2 r2 q2 => ho _ ρ2 H2 h2 x y v u Q hr2 (Rp.grow hr1.live g2 x r1) r2 q2
theorem se_op {op : Operator} {r : R2} {o : D → D → AH → R D} (hp : OpR X (binaryOp op) r) (ho : O2 (kwOf X) T r o) (ha : SE X T W a f) (hb : SE X T W b g) : SE X T W (.BinOp a op b pos) (dOp o f g) :=
  ⟨PE.imp (pe_op hp ha.p hb.p) (op_imp ho)⟩
theorem se_cmp {op : CmpOp} {r : R2} {o : D → D → AH → R D} (hp : OpR X (compareOp op) r) (ho : O2 (kwOf X) T r o) (ha : SE X T W a f) (hb : SE X T W b g) (hm : behindInMarks op b = false) : SE X T W (.Compare a [op] [b] pos) (dOp o f g) :=
  ⟨PE.imp (pe_cmpR hp ha.p hb.p hm) (op_imp ho)⟩
/-- a value as a truth value: bools alone -/
def toB : D → AH → R Bool
  | .bl b, h => .ok b h
  | _, _ => .no
def dTest (f : DE) : DB := fun s h => (f s h).bind toB
theorem toB_ok {K : KW} {E : XK} {ρ : Rho} {H : Hp} {h : AH} {d : D} {v : V} {q : Bool → AH → Rho → Hp → Prop} (hr : HR K ρ H h) (r : Rp K ρ H d v) (p : Post K T E ρ H (toB d h) q) : ∃ k, v = .bl k ∧ q k h ρ H := by
  cases d with
  | bl b => exact ⟨b, rp_bl.mp r, p.here hr⟩
  | _ => exact p.elim
theorem test_imp {t : TE} {f : DE} (h : ∀ σ H Q, tD (kwOf X) T W f σ H Q → t σ H Q) : ∀ σ H Q, tDB (kwOf X) T W (dTest f) σ H Q → tTest t σ H Q := fun σ H Q ⟨ρ, s, hh, st, hr, q⟩ =>
  h σ H _ (tD_bind st hr q fun x h1 ρ1 H1 v g1 hr1 st1 r1 q1 => toB_ok hr1 r1 q1)
theorem st_cmp {op : CmpOp} {r : R2} {o : D → D → AH → R D} (hp : OpR X (compareOp op) r) (ho : O2 (kwOf X) T r o) (ha : SE X T W a f) (hb : SE X T W b g) (hm : behindInMarks op b = false) : ST X T W (.Compare a [op] [b] pos) (dTest (dOp o f g)) :=
  ⟨PT.imp (pt_cmpR hp ha.p hb.p hm) (test_imp (op_imp ho))⟩
theorem st_val (ha : SE X T W e f) (he : ∀ whole, isTrue e X.env whole = (do let v ← whole; standAt e.pos; holding [v] (truthy v)) := by intro _; rfl) : ST X T W e (dTest f) :=
  ⟨PT.imp (pt_val ha.p he) fun σ H Q ⟨ρ, s, hh, st, hr, q⟩ => tD_bind st hr q fun x h1 ρ1 H1 v g1 hr1 st1 r1 q1 => toB_ok hr1 r1 q1⟩
/-- a < b < c -/
def dChain (o o' : D → D → AH → R D) (f g k : DE) : DE := fun s h => (f s h).bind fun x h1 => (g s h1).bind fun y h2 => (o x y h2).bind fun z h3 => (toB z h3).bind fun b h4 => match b with
  | true => (k s h4).bind fun w h5 => o' y w h5
  | false => .ok (.bl false) h4
theorem chain_imp {r r' : R2} {o o' : D → D → AH → R D} {k : DE} (ho : O2 (kwOf X) T r o) (ho' : O2 (kwOf X) T r' o') : ∀ σ H Q, tD (kwOf X) T W (dChain o o' f g k) σ H Q → tChain r r' (tD (kwOf X) T W f) (tD (kwOf X) T W g) (tD (kwOf X) T W k) σ H Q := fun σ H Q ⟨ρ, s, h, st, hr, q⟩ =>
  tD_bind st hr q fun x h1 ρ1 H1 v g1 hr1 st1 r1 q1 => tD_bind st1 hr1 q1 fun y h2 ρ2 H2 u g2 hr2 st2 r2 q2 =>
    ho _ ρ2 H2 h2 x y v u _ hr2 (Rp.grow hr1.live g2 x r1) r2 (q2.bind.mono fun z h3 ρ3 H3 _ g3 hr3 q3 w rw' => by
      obtain ⟨k', e1, q4⟩ := toB_ok hr3 rw' q3.bind
      refine ⟨k', e1, ?_⟩
      cases k' with
      | true => 
        rw [if_pos rfl]
        exact tD_bind (st2.grow hr2.live g3) hr3 q4 fun w2 h5 ρ5 H5 v5 g5 hr5 st5 r5 q5 => ho' _ ρ5 H5 h5 y w2 u v5 Q hr5 (Rp.grow hr3.live g5 y (Rp.grow hr2.live g3 y r2)) r5 q5
      | false =>
        rw [if_neg (by decide)]
        exact q4.here hr3 _ (rp_bl.mpr rfl))
theorem se_chain {op op' : CmpOp} {c : Expr} {k : DE} {r r' : R2} {o o' : D → D → AH → R D} (hp : OpR X (compareOp op) r) (ho : O2 (kwOf X) T r o) (hp' : OpR X (compareOp op') r') (ho' : O2 (kwOf X) T r' o') (ha : SE X T W a f) (hb : SE X T W b g) (hc : SE X T W c k)
    (hm : lastMarks [op, op'] [b, c] = false := by with_unfolding_all rfl) : SE X T W (.Compare a [op, op'] [b, c] pos) (dChain o o' f g k) := ⟨PE.imp (pe_chain hp hp' ha.p hb.p hc.p hm) (chain_imp ho ho')⟩
theorem st_chain {op op' : CmpOp} {c : Expr} {k : DE} {r r' : R2} {o o' : D → D → AH → R D} (hp : OpR X (compareOp op) r) (ho : O2 (kwOf X) T r o) (hp' : OpR X (compareOp op') r') (ho' : O2 (kwOf X) T r' o') (ha : SE X T W a f) (hb : SE X T W b g) (hc : SE X T W c k)
    (hm : lastMarks [op, op'] [b, c] = false := by with_unfolding_all rfl) : ST X T W (.Compare a [op, op'] [b, c] pos) (dTest (dChain o o' f g k)) := ⟨PT.imp (pt_chain hp hp' ha.p hb.p hc.p hm) (test_imp (chain_imp ho ho'))⟩

/-! ### and, or, not, if else -/
def dAnd (f g : DB) : DB := fun s h => (f s h).bind fun b h1 => match b with
  | true => g s h1
  | false => .ok false h1
def dOr (f g : DB) : DB := fun s h => (f s h).bind fun b h1 => match b with
  | true => .ok true h1
  | false => g s h1
def dNot (f : DB) : DB := fun s h => (f s h).bind fun b h1 => .ok (!b) h1
def dIf (c : DB) (f g : DE) : DE := fun s h => (c s h).bind fun b h1 => match b with
  | true => f s h1
  | false => g s h1
variable {rest : List Expr} {fb gb : DB}
theorem sw_and1 (ha : ST X T W a fb) : SW X T W (.BoolOp .And [a] pos) fb := ⟨PW.imp (pw_and1 ha.p) fun _ _ _ q => q⟩
theorem sw_or1 (ha : ST X T W a fb) : SW X T W (.BoolOp .Or [a] pos) fb := ⟨PW.imp (pw_or1 ha.p) fun _ _ _ q => q⟩
theorem sw_and (ha : ST X T W a fb) (hb : SW X T W (.BoolOp .And (b :: rest) pos) gb) : SW X T W (.BoolOp .And (a :: b :: rest) pos) (dAnd fb gb) :=
  ⟨PW.imp (pw_and ha.p hb.p) fun σ H Q ⟨ρ, s, h, st, hr, q⟩ => tDB_bind st hr q fun c h1 ρ1 H1 g1 hr1 st1 q1 => by
    cases c with
    | true => rw [if_pos rfl]; exact ⟨ρ1, s, h1, st1, hr1, q1⟩
    | false => rw [if_neg (by decide)]; exact q1.here hr1⟩
theorem sw_or (ha : ST X T W a fb) (hb : SW X T W (.BoolOp .Or (b :: rest) pos) gb) : SW X T W (.BoolOp .Or (a :: b :: rest) pos) (dOr fb gb) :=
  ⟨PW.imp (pw_or ha.p hb.p) fun σ H Q ⟨ρ, s, h, st, hr, q⟩ => tDB_bind st hr q fun c h1 ρ1 H1 g1 hr1 st1 q1 => by
    cases c with
    | true => rw [if_pos rfl]; exact q1.here hr1
    | false => rw [if_neg (by decide)]; exact ⟨ρ1, s, h1, st1, hr1, q1⟩⟩
theorem SW.st (h : SW X T W e fb) : ST X T W e fb := ⟨h.p.pt⟩
theorem st_not (ha : ST X T W a fb) : ST X T W (.UnaryOp .Not a pos) (dNot fb) :=
  ⟨PT.imp (pt_not ha.p) fun σ H Q ⟨ρ, s, h, st, hr, q⟩ => tDB_bind st hr q fun c h1 ρ1 H1 g1 hr1 st1 q1 => q1.here hr1⟩
/-- as values -/
def dAndV (f g : DE) : DE := fun s h => (f s h).bind fun x h1 => (toB x h1).bind fun b h2 => match b with
  | true => g s h2
  | false => .ok (.bl false) h2
def dOrV (f g : DE) : DE := fun s h => (f s h).bind fun x h1 => (toB x h1).bind fun b h2 => match b with
  | true => .ok (.bl true) h2
  | false => g s h2
def dNotV (f : DE) : DE := fun s h => (f s h).bind fun x h1 => (toB x h1).bind fun b h2 => .ok (.bl (!b)) h2
theorem se_one {op} (h : SE X T W a f) : SE X T W (.BoolOp op [a] pos) f := ⟨PE.imp (pe_one h.p) fun _ _ _ q => q⟩
theorem se_and (ha : SE X T W a f) (hb : SE X T W (.BoolOp .And (b :: rest) pos) g) : SE X T W (.BoolOp .And (a :: b :: rest) pos) (dAndV f g) :=
  ⟨PE.imp (pe_and ha.p hb.p) fun σ H Q ⟨ρ, s, h, st, hr, q⟩ => tD_bind st hr q fun x h1 ρ1 H1 v g1 hr1 st1 r1 q1 => by
    obtain ⟨c, e1, q2⟩ := toB_ok hr1 r1 q1.bind
    refine ⟨c, e1, ?_⟩
    cases c with
    | true => rw [if_pos rfl]; exact ⟨ρ1, s, h1, st1, hr1, q2⟩
    | false => rw [if_neg (by decide)]; exact q2.here hr1 _ (rp_bl.mpr rfl)⟩
theorem se_or (ha : SE X T W a f) (hb : SE X T W (.BoolOp .Or (b :: rest) pos) g) : SE X T W (.BoolOp .Or (a :: b :: rest) pos) (dOrV f g) :=
  ⟨PE.imp (pe_or ha.p hb.p) fun σ H Q ⟨ρ, s, h, st, hr, q⟩ => tD_bind st hr q fun x h1 ρ1 H1 v g1 hr1 st1 r1 q1 => by
    obtain ⟨c, e1, q2⟩ := toB_ok hr1 r1 q1.bind
    refine ⟨c, e1, ?_⟩
    cases c with
    | true => rw [if_pos rfl]; exact q2.here hr1 _ (rp_bl.mpr rfl)
    | false => rw [if_neg (by decide)]; exact ⟨ρ1, s, h1, st1, hr1, q2⟩⟩
theorem se_not (ha : SE X T W a f) : SE X T W (.UnaryOp .Not a pos) (dNotV f) :=
  ⟨PE.imp (pe_not ha.p) fun σ H Q ⟨ρ, s, h, st, hr, q⟩ => tD_bind st hr q fun x h1 ρ1 H1 v g1 hr1 st1 r1 q1 => by
    obtain ⟨c, e1, q2⟩ := toB_ok hr1 r1 q1.bind
    exact ⟨c, e1, q2.here hr1 _ (rp_bl.mpr rfl)⟩⟩
theorem se_if {c : Expr} (hc : ST X T W c fb) (ha : SE X T W a f) (hb : SE X T W b g) : SE X T W (.IfExp c a b pos) (dIf fb f g) :=
  ⟨PE.imp (pe_ifExp hc.p ha.p hb.p) fun σ H Q ⟨ρ, s, h, st, hr, q⟩ => tDB_bind st hr q fun d h1 ρ1 H1 g1 hr1 st1 q1 => by
    cases d with
    | true => rw [if_pos rfl]; exact ⟨ρ1, s, h1, st1, hr1, q1⟩
    | false => rw [if_neg (by decide)]; exact ⟨ρ1, s, h1, st1, hr1, q1⟩⟩

/-! ### calls of built-ins by values -/
def OC (K : KW) (T : XT) (r : List V → Hp → VK → Prop) (o : List D → AH → R D) : Prop := ∀ (E : XK) ρ H h ds vs Q, HR K ρ H h → Rps K ρ H ds vs → P1 K T E ρ H (o ds h) Q → r vs H Q
def dCall (o : List D → AH → R D) (f : DA) : DE := fun s h => (f s h).bind o
theorem call_imp {r : List V → Hp → VK → Prop} {o : List D → AH → R D} {f : DA} (ho : OC (kwOf X) T r o) : ∀ σ H Q, tD (kwOf X) T W (dCall o f) σ H Q → tCB r (tDA (kwOf X) T W f) σ H Q := fun σ H Q ⟨ρ, s, h, st, hr, q⟩ =>
  tDA_bind st hr q fun ds h1 ρ1 H1 v g1 hr1 st1 r1 q1 => ho _ ρ1 H1 h1 ds v Q hr1 r1 q1
theorem se_callB {x : Str} {p : Pos} {es : List Expr} {id : String} {r : List V → Hp → VK → Prop} {o : List D → AH → R D} {f : DA} (hc : CallR X (.builtin id) r) (ho : OC (kwOf X) T r o) (hg : Gl X x) (hm : X.mg x = none) (hv : bootBuiltins x = some (.builtin id)) (ha : SA X T W (e :: es) f) (hn : x ≠ "__name__" := by decide) (hdb : (x == ("__debug__" : Str)) = false := by decide)
    (he : starEach (e :: es) X.env = (false, eval e X.env) :: starEach es X.env := by rfl) (hpl : (backTo pos (starEach es X.env)).any (·.1) = false := by rfl) : SE X T W (.Call (.Name x p) (e :: es) [] pos) (dCall o f) :=
  ⟨PE.imp (pe_callB hc hg hm hv ha.p hn hdb he hpl) (call_imp ho)⟩
theorem se_callTy {x : Str} {p : Pos} {es : List Expr} {id : String} {r : List V → Hp → VK → Prop} {o : List D → AH → R D} {f : DA} (hc : CallR X (.type id) r) (ho : OC (kwOf X) T r o) (hg : Gl X x) (hm : X.mg x = none) (hv : bootBuiltins x = some (.type id)) (ha : SA X T W (e :: es) f) (hn : x ≠ "__name__" := by decide) (hdb : (x == ("__debug__" : Str)) = false := by decide)
    (he : starEach (e :: es) X.env = (false, eval e X.env) :: starEach es X.env := by rfl) (hpl : (backTo pos (starEach es X.env)).any (·.1) = false := by rfl) : SE X T W (.Call (.Name x p) (e :: es) [] pos) (dCall o f) :=
  ⟨PE.imp (pe_callTy hc hg hm hv ha.p hn hdb he hpl) (call_imp ho)⟩
/-! ### subscripts -/
theorem se_ix {r : R2} {o : D → D → AH → R D} (hp : IxR X r) (ho : O2 (kwOf X) T r o) (ha : SE X T W a f) (hb : SE X T W b g) (hs : PlainIx b) : SE X T W (.Subscript a b pos) (dOp o f g) :=
  ⟨PE.imp (pe_ix hp ha.p hb.p hs) (op_imp ho)⟩
end
end Nc
namespace Nc
open PySem PySem.Spec PyProof.Rows L2

section
variable {K : KW} {T : XT} {E : XK}

theorem O2.or {r r' : R2} {o : D → D → AH → R D} {sel : D → D → Bool} (h : ∀ (E : XK) ρ H h x y v u Q, sel x y = true → HR K ρ H h → Rp K ρ H x v → Rp K ρ H y u → P1 K T E ρ H (o x y h) Q → r v u H Q)
    (h' : ∀ (E : XK) ρ H h x y v u Q, sel x y = false → HR K ρ H h → Rp K ρ H x v → Rp K ρ H y u → P1 K T E ρ H (o x y h) Q → r' v u H Q) : O2 K T (fun x y H Q => r x y H Q ∨ r' x y H Q) o := fun E ρ H hh x y v u Q hr rx ry p => by
  cases e : sel x y with
  | true => exact .inl (h E ρ H hh x y v u Q e hr rx ry p)
  | false => exact .inr (h' E ρ H hh x y v u Q e hr rx ry p)

/-- the list in a cell -/
def lstAt (n : Nat) (h : AH) : Option (List D) := match AH.get n h with
  | some (.lst ds) => some ds
  | _ => none
theorem lstAt_ok {ρ : Rho} {H : Hp} {h : AH} {n : Nat} {ds : List D} (hr : HR K ρ H h) (e : lstAt n h = some ds) : ∃ a xs, ρ n = some a ∧ H a = some (.lst xs) ∧ Rps K ρ H ds xs ∧ AH.get n h = some (.lst ds) := by
  unfold lstAt at e
  cases q : AH.get n h with
  | none => rw [q] at e; cases e
  | some c =>
    cases c with
    | lst es =>
      rw [q] at e; cases e
      obtain ⟨a, e1, xs, e2, r⟩ := hr.at_ n _ q
      exact ⟨a, xs, e1, e2, r, rfl⟩
    | dict _ _ => rw [q] at e; cases e
    | obj _ _ => rw [q] at e; cases e
    | junk => rw [q] at e; cases e
    | urn _ => rw [q] at e; cases e
/-- the items of a list or a tuple -/
def seqOf (d : D) (h : AH) : Option (List D) := match d with
  | .tup ds => some ds
  | .cell n => lstAt n h
  | _ => none
theorem seqOf_ok {ρ : Rho} {H : Hp} {h : AH} {d : D} {v : V} {ds : List D} (hr : HR K ρ H h) (r : Rp K ρ H d v) (e : seqOf d h = some ds) :
    ∃ a xs, v = .ref a ∧ Rps K ρ H ds xs ∧ ((SqT K.k H a xs ∧ d = .tup ds) ∨ (H a = some (.lst xs) ∧ ∃ n, d = .cell n ∧ ρ n = some a ∧ AH.get n h = some (.lst ds))) := by
  cases d with
  | tup es =>
    cases e
    obtain ⟨a, xs, e1, s, q⟩ := rp_tup.mp r
    exact ⟨a, xs, e1, q, .inl ⟨s, rfl⟩⟩
  | cell n =>
    obtain ⟨a, xs, e1, e2, q, g⟩ := lstAt_ok hr e
    obtain ⟨b, e3, e4⟩ := rp_cell.mp r
    rw [e1] at e4; cases e4
    exact ⟨a, xs, e3, q, .inr ⟨e2, n, rfl, e1, g⟩⟩
  | _ => cases e
/-- with it, or not at all -/
def withS {α β : Type} (o : Option α) (k : α → R β) : R β := match o with
  | some a => k a
  | none => .no
theorem Post.withS {α β : Type} {ρ : Rho} {H : Hp} {o : Option α} {k : α → R β} {q : β → AH → Rho → Hp → Prop} (p : Post K T E ρ H (Nc.withS o k) q) : ∃ a, o = some a ∧ Post K T E ρ H (k a) q := by
  cases o with
  | some a => exact ⟨a, rfl, p⟩
  | none => exact p.elim

/-! ### + - * -/
def dAdd : D → D → AH → R D
  | .int i, .int j, h => .ok (.int (i + j)) h
  | .tup xs, .tup ys, h => mkT (xs ++ ys) h
  | .cell m, .cell n, h => withS (lstAt m h) fun xs => withS (lstAt n h) fun ys => mkL (xs ++ ys) h
  | _, _, _ => .no
theorem rps_nil {ρ : Rho} {H : Hp} {ds : List D} {xs : List V} (r : Rps K ρ H ds xs) : ds = [] ↔ xs = [] := by
  have := r.length
  constructor
  · intro e; subst e; exact List.length_eq_zero_iff.mp this.symm
  · intro e; subst e; exact List.length_eq_zero_iff.mp this
theorem o_add : O2 K T (fun x y H Q => rI0 (fun i j => .int (i + j)) x y H Q ∨ (rCat x y H Q ∨ rCatA K.k x y H Q)) dAdd := fun E ρ H h x y v u Q hr rx ry p => by
  cases x with
  | int i =>
    cases y with
    | int j => exact .inl ⟨i, j, rp_int.mp rx, rp_int.mp ry, p.here hr _ (rp_int.mpr rfl)⟩
    | _ => exact p.elim
  | tup xs =>
    cases y with
    | tup ys =>
      obtain ⟨a, vs, e1, s1, r1⟩ := rp_tup.mp rx
      obtain ⟨b, us, e2, s2, r2⟩ := rp_tup.mp ry
      have p' : P1 K T E ρ H (mkT (xs ++ ys) h) Q := p
      have m := mkT_ok hr (r1.append r2) p'
      refine .inr (.inr ⟨a, b, vs, us, e1, e2, s1, s2, by simpa using m.1, fun z => ?_, fun _ z => ?_, fun _ _ => m.2⟩)
      · obtain ⟨c, q⟩ := p'.chk
        have z2 := (rps_nil r1).mpr z
        subst z2
        exact q.here hr _ (rp_tup.mpr ⟨b, us, rfl, s2, r2⟩)
      · obtain ⟨c, q⟩ := p'.chk
        have z2 := (rps_nil r2).mpr z
        subst z2
        rw [List.append_nil] at q
        exact q.here hr _ (rp_tup.mpr ⟨a, vs, rfl, s1, r1⟩)
    | _ => exact p.elim
  | cell m =>
    cases y with
    | cell n =>
      obtain ⟨a, e1, e1'⟩ := rp_cell.mp rx
      obtain ⟨b, e2, e2'⟩ := rp_cell.mp ry
      obtain ⟨xs, g1, p⟩ := Post.withS (k := fun xs => withS (lstAt n h) fun ys => mkL (xs ++ ys) h) p
      obtain ⟨ys, g2, p⟩ := p.withS
      obtain ⟨a', vs, f1, f2, r1, _⟩ := lstAt_ok hr g1
      obtain ⟨b', us, f3, f4, r2, _⟩ := lstAt_ok hr g2
      rw [e1'] at f1; cases f1
      rw [e2'] at f3; cases f3
      have m := mkL_ok hr (r1.append r2) p
      exact .inr (.inl ⟨a, b, vs, us, e1, e2, f2, f4, by simpa using m.1, m.2⟩)
    | _ => exact p.elim
  | _ => exact p.elim
def dSub : D → D → AH → R D
  | .int i, .int j, h => .ok (.int (i - j)) h
  | _, _, _ => .no
theorem o_sub : O2 K T (rI0 fun i j => .int (i - j)) dSub := fun E ρ H h x y v u Q hr rx ry p => by
  cases x <;> first | exact p.elim | skip
  cases y <;> first | exact p.elim | skip
  exact ⟨_, _, rp_int.mp rx, rp_int.mp ry, p.here hr _ (rp_int.mpr rfl)⟩
def small64 (i : Int) : Bool := Nat.ble i.natAbs 1152921504606846976
theorem small64_ok {i : Int} (h : small64 i = true) : -(2 ^ 64) < i ∧ i < 2 ^ 64 := by
  have := Nat.le_of_ble_eq_true h
  have e : (2 : Int) ^ 64 = 18446744073709551616 := by decide
  omega
def repD (k : Nat) (ds : List D) : List D := match k with
  | 0 => []
  | k + 1 => ds ++ repD k ds
theorem repD_ok {ρ : Rho} {H : Hp} {ds : List D} {xs : List V} (r : Rps K ρ H ds xs) : ∀ k, Rps K ρ H (repD k ds) (List.replicate k xs).flatten
  | 0 => Rps.nil_iff.mpr rfl
  | k + 1 => by
    rw [List.replicate_succ, List.flatten_cons]
    exact r.append (repD_ok r k)
def dMul : D → D → AH → R D
  | .int i, .int j, h => chk (small64 i || small64 j) (.ok (.int (i * j)) h)
  | .cell n, .int k, h => withS (lstAt n h) fun xs => chk (Nat.ble k.natAbs 1000) (mkL (repD k.toNat xs) h)
  | .tup xs, .int k, h => chk (Nat.ble 1 xs.length && (Nat.ble 2 k.toNat && (Nat.ble k.natAbs 1000 && Nat.ble xs.length 1000))) (mkT (repD k.toNat xs) h)
  | _, _, _ => .no
theorem o_mul : O2 K T (fun x y H Q => rI CMul (fun i j => .int (i * j)) x y H Q ∨ (rRep x y H Q ∨ rRepT K.k x y H Q)) dMul := fun E ρ H h x y v u Q hr rx ry p => by
  cases x with
  | int i =>
    cases y with
    | int j =>
      obtain ⟨c, q⟩ := Post.chk p
      refine .inl ⟨i, j, rp_int.mp rx, rp_int.mp ry, ?_, q.here hr _ (rp_int.mpr rfl)⟩
      rcases Bool.or_eq_true_iff.mp c with c | c
      · exact .inl (small64_ok c)
      · exact .inr (small64_ok c)
    | _ => exact p.elim
  | cell n =>
    cases y with
    | int k =>
      obtain ⟨a, e1, e1'⟩ := rp_cell.mp rx
      obtain ⟨xs, g1, p⟩ := Post.withS p
      obtain ⟨c, p⟩ := p.chk
      obtain ⟨a', vs, f1, f2, r1, _⟩ := lstAt_ok hr g1
      rw [e1'] at f1; cases f1
      have m := mkL_ok hr (repD_ok r1 k.toNat) p
      have c := Nat.le_of_ble_eq_true c
      refine .inr (.inl ⟨a, k, vs, e1, rp_int.mp ry, f2, by omega, by omega, ?_, m.2⟩)
      have e := m.1
      rw [List.length_flatten, List.map_replicate, List.sum_replicate_nat] at e
      rw [Nat.mul_comm]; exact e
    | _ => exact p.elim
  | tup xs =>
    cases y with
    | int k =>
      obtain ⟨a, vs, e1, s1, r1⟩ := rp_tup.mp rx
      obtain ⟨c, p⟩ := Post.chk p
      simp only [Bool.and_eq_true] at c
      obtain ⟨c1, c2, c3, c4⟩ := c
      have c1 := Nat.le_of_ble_eq_true c1
      have c2 := Nat.le_of_ble_eq_true c2
      have c3 := Nat.le_of_ble_eq_true c3
      have c4 := Nat.le_of_ble_eq_true c4
      have m := mkT_ok hr (repD_ok r1 k.toNat) p
      have l := r1.length
      refine .inr (.inr ⟨a, k, vs, e1, rp_int.mp ry, s1, fun z => ?_, by omega, by omega, by omega, m.2⟩)
      rw [z] at l; simp at l; subst l; simp at c1
    | _ => exact p.elim
  | _ => exact p.elim

/-! ### < <= > >= -/
def intsD : List D → Option (List Int)
  | [] => some []
  | .int i :: r => match intsD r with
    | some is => some (i :: is)
    | none => none
  | _ => none
theorem intsD_ok {ρ : Rho} {H : Hp} : ∀ {ds : List D} {is : List Int} {vs : List V}, intsD ds = some is → Rps K ρ H ds vs → vs = is.map V.int
  | [], _, _, e, r => by cases e; exact Rps.nil_iff.mp r
  | .int i :: ds, is, vs, e, r => by
    obtain ⟨x, q, rfl, r1, r2⟩ := Rps.cons_iff.mp r
    unfold intsD at e
    cases z : intsD ds with
    | none => rw [z] at e; cases e
    | some js =>
      rw [z] at e; cases e
      rw [rp_int.mp r1, intsD_ok z r2]; rfl
  | .non :: _, _, _, e, _ => by cases e
  | .bl _ :: _, _, _, e, _ => by cases e
  | .str _ :: _, _, _, e, _ => by cases e
  | .tup _ :: _, _, _, e, _ => by cases e
  | .cell _ :: _, _, _, e, _ => by cases e
  | .frl _ :: _, _, _, e, _ => by cases e
def ltI (i j : Int) : Bool := decide (i < j)
def leI (i j : Int) : Bool := decide (i ≤ j)
def dLt : D → D → AH → R D
  | .int i, .int j, h => .ok (.bl (ltI i j)) h
  | .tup xs, .tup ys, h => withS (intsD xs) fun is => withS (intsD ys) fun js => .ok (.bl (HT.lexLt is js)) h
  | _, _, _ => .no
theorem o_lt : O2 K T (fun x y H Q => rI0 (fun i j => .bl (decide (i < j))) x y H Q ∨ rLtT K.k x y H Q) dLt := fun E ρ H h x y v u Q hr rx ry p => by
  cases x with
  | int i =>
    cases y with
    | int j => exact .inl ⟨i, j, rp_int.mp rx, rp_int.mp ry, p.here hr _ (rp_bl.mpr rfl)⟩
    | _ => exact p.elim
  | tup xs =>
    cases y with
    | tup ys =>
      obtain ⟨a, vs, e1, s1, r1⟩ := rp_tup.mp rx
      obtain ⟨b, us, e2, s2, r2⟩ := rp_tup.mp ry
      obtain ⟨is, g1, p⟩ := Post.withS (k := fun is => withS (intsD ys) fun js => (R.ok (D.bl (HT.lexLt is js)) h : R D)) p
      obtain ⟨js, g2, p⟩ := p.withS
      have := intsD_ok g1 r1; subst this
      have := intsD_ok g2 r2; subst this
      exact .inr ⟨a, b, is, js, e1, e2, s1, s2, p.here hr _ (rp_bl.mpr rfl)⟩
    | _ => exact p.elim
  | _ => exact p.elim
def dInts (g : Int → Int → Bool) : D → D → AH → R D
  | .int i, .int j, h => .ok (.bl (g i j)) h
  | _, _, _ => .no
theorem o_ints {g : Int → Int → Bool} : O2 K T (rI0 fun i j => .bl (g i j)) (dInts g) := fun E ρ H h x y v u Q hr rx ry p => by
  cases x <;> first | exact p.elim | skip
  cases y <;> first | exact p.elim | skip
  exact ⟨_, _, rp_int.mp rx, rp_int.mp ry, p.here hr _ (rp_bl.mpr rfl)⟩

/-! ### == != in -/
def pds (f : D → Option PyData) : List D → Option (List PyData)
  | [] => some []
  | d :: r => match f d with
    | some p => match pds f r with
      | some ps => some (p :: ps)
      | none => none
    | none => none
def toPD (h : AH) : Nat → D → Option PyData
  | 0, _ => none
  | k + 1, d => match d with
    | .non => some .none
    | .bl b => some (.bool b)
    | .int i => some (.int i)
    | .str s => some (.str s)
    | .tup ds => match pds (toPD h k) ds with
      | some ps => some (.tuple ps)
      | none => none
    | .cell n => match lstAt n h with
      | some ds => match pds (toPD h k) ds with
        | some ps => some (.list ps)
        | none => none
      | none => none
    | .frl _ => none
theorem pds_ok {ρ : Rho} {H : Hp} {f : D → Option PyData} (hf : ∀ d p v, f d = some p → Rp K ρ H d v → Dp K.k H v p) : ∀ {ds : List D} {ps : List PyData} {vs : List V}, pds f ds = some ps → Rps K ρ H ds vs → DpAll K.k H vs ps
  | [], _, _, e, r => by cases e; rw [Rps.nil_iff.mp r]; exact .nil
  | d :: ds, ps, vs, e, r => by
    obtain ⟨x, q, rfl, r1, r2⟩ := Rps.cons_iff.mp r
    unfold pds at e
    cases z : f d with
    | none => rw [z] at e; cases e
    | some p =>
      cases z2 : pds f ds with
      | none => rw [z, z2] at e; cases e
      | some qs =>
        rw [z, z2] at e; cases e
        exact .cons (hf _ _ _ z r1) (pds_ok hf z2 r2)
theorem toPD_ok {ρ : Rho} {H : Hp} {h : AH} (hr : HR K ρ H h) : ∀ (k : Nat) (d : D) (p : PyData) (v : V), toPD h k d = some p → Rp K ρ H d v → Dp K.k H v p
  | 0, _, _, _, e, _ => by cases e
  | k + 1, d, p, v, e, r => by
    unfold toPD at e
    cases d with
    | non => cases e; rw [rp_non.mp r]; exact .non
    | bl b => cases e; rw [rp_bl.mp r]; exact .bl b
    | int i => cases e; rw [rp_int.mp r]; exact .int i
    | str s => cases e; rw [rp_str.mp r]; exact .str s
    | tup ds =>
      obtain ⟨a, xs, rfl, s, q⟩ := rp_tup.mp r
      cases z : pds (toPD h k) ds with
      | none => simp only [z] at e; cases e
      | some ps =>
        simp only [z] at e; cases e
        exact .tup s (pds_ok (toPD_ok hr k) z q)
    | cell n =>
      obtain ⟨a, rfl, e1⟩ := rp_cell.mp r
      cases y : lstAt n h with
      | none => simp only [y] at e; cases e
      | some ds =>
        cases z : pds (toPD h k) ds with
        | none => simp only [y, z] at e; cases e
        | some ps =>
          simp only [y, z] at e; cases e
          obtain ⟨b, xs, f1, f2, q, _⟩ := lstAt_ok hr y
          rw [e1] at f1; cases f1
          exact .lst (.inl (.inl f2)) (pds_ok (toPD_ok hr k) z q)
    | frl _ => cases e
def eqD (x y : D) (h : AH) : Option Bool := match toPD h 12 x, toPD h 12 y with
  | some p, some q => match SeqAt.shaped p && SeqAt.shaped q with
    | true => some (PyData.eqv p q)
    | false => none
  | _, _ => none
def dEq (x y : D) (h : AH) : R D := withS (eqD x y h) fun b => .ok (.bl b) h
def dNe (x y : D) (h : AH) : R D := withS (eqD x y h) fun b => .ok (.bl (!b)) h
theorem eqD_ok {ρ : Rho} {H : Hp} {h : AH} {x y : D} {v u : V} {b : Bool} (hr : HR K ρ H h) (rx : Rp K ρ H x v) (ry : Rp K ρ H y u) (e : eqD x y h = some b) :
    ∃ p q, Dp K.k H v p ∧ Dp K.k H u q ∧ SeqAt.shaped p = true ∧ SeqAt.shaped q = true ∧ PyData.eqv p q = b := by
  unfold eqD at e
  cases z : toPD h 12 x with
  | none => simp only [z] at e; cases e
  | some p =>
    cases z2 : toPD h 12 y with
    | none => simp only [z, z2] at e; cases e
    | some q =>
      simp only [z, z2] at e
      cases c : SeqAt.shaped p && SeqAt.shaped q with
      | false => rw [c] at e; cases e
      | true =>
        rw [c] at e; cases e
        obtain ⟨c1, c2⟩ := Bool.and_eq_true_iff.mp c
        exact ⟨p, q, toPD_ok hr _ _ _ _ z rx, toPD_ok hr _ _ _ _ z2 ry, c1, c2, rfl⟩
theorem o_eq : O2 K T (rEqD K.k) dEq := fun E ρ H h x y v u Q hr rx ry p => by
  obtain ⟨b, e, p⟩ := Post.withS p
  obtain ⟨d, e', h1, h2, h3, h4, h5⟩ := eqD_ok hr rx ry e
  exact ⟨d, e', h1, h2, h3, h4, by rw [h5]; exact p.here hr _ (rp_bl.mpr rfl)⟩
theorem o_ne : O2 K T (rNeD K.k) dNe := fun E ρ H h x y v u Q hr rx ry p => by
  obtain ⟨b, e, p⟩ := Post.withS p
  obtain ⟨d, e', h1, h2, h3, h4, h5⟩ := eqD_ok hr rx ry e
  exact ⟨d, e', h1, h2, h3, h4, by rw [h5]; exact p.here hr _ (rp_bl.mpr rfl)⟩
/-- flat things -/
def toV : D → Option V
  | .non => some .non
  | .bl b => some (.bl b)
  | .int i => some (.int i)
  | .str s => some (.str s)
  | _ => none
def toVs : List D → Option (List V)
  | [] => some []
  | d :: r => match toV d with
    | some v => match toVs r with
      | some vs => some (v :: vs)
      | none => none
    | none => none
theorem toV_ok {ρ : Rho} {H : Hp} {d : D} {v u : V} (e : toV d = some v) (r : Rp K ρ H d u) : u = v ∧ flatV v = true := by
  cases d <;> (first | cases e | skip) <;> first | exact ⟨rp_non.mp r, rfl⟩ | exact ⟨rp_bl.mp r, rfl⟩ | exact ⟨rp_int.mp r, rfl⟩ | exact ⟨rp_str.mp r, rfl⟩
theorem toVs_ok {ρ : Rho} {H : Hp} : ∀ {ds : List D} {vs us : List V}, toVs ds = some vs → Rps K ρ H ds us → us = vs ∧ vs.all flatV = true
  | [], _, _, e, r => by cases e; exact ⟨Rps.nil_iff.mp r, rfl⟩
  | d :: ds, vs, us, e, r => by
    obtain ⟨x, q, rfl, r1, r2⟩ := Rps.cons_iff.mp r
    unfold toVs at e
    cases z : toV d with
    | none => rw [z] at e; cases e
    | some v =>
      cases z2 : toVs ds with
      | none => rw [z, z2] at e; cases e
      | some ws =>
        rw [z, z2] at e; cases e
        obtain ⟨e1, f1⟩ := toV_ok z r1
        obtain ⟨e2, f2⟩ := toVs_ok z2 r2
        exact ⟨by rw [e1, e2], by rw [List.all_cons, f1, f2]; rfl⟩
def anyEq (p : PyData) : List PyData → Bool
  | [] => false
  | q :: r => match PyData.eqv q p with
    | true => true
    | false => anyEq p r
theorem anyEq_ok (p : PyData) : ∀ qs : List PyData, anyEq p qs = qs.any fun z => PyData.eqv z p
  | [] => rfl
  | q :: r => by
    unfold anyEq
    rw [List.any_cons]
    cases PyData.eqv q p with
    | true => rfl
    | false => exact anyEq_ok p r
def inFlat (x y : D) (h : AH) : Option Bool := match toV x, seqOf y h with
  | some v, some ds => match toVs ds with
    | some vs => some (inV v vs)
    | none => none
  | _, _ => none
def inDeep (x y : D) (h : AH) : Option Bool := match toPD h 12 x, toPD h 12 y with
  | some p, some (.list qs) => match SeqAt.shaped p && SeqAt.shaped (.list qs) with
    | true => some (anyEq p qs)
    | false => none
  | _, _ => none
def inD (x y : D) (h : AH) : Option Bool := match inFlat x y h with
  | some b => some b
  | none => inDeep x y h
theorem inFlat_ok {ρ : Rho} {H : Hp} {h : AH} {x y : D} {v u : V} {b : Bool} {neg : Bool} {Q : VK} (hr : HR K ρ H h) (rx : Rp K ρ H x v) (ry : Rp K ρ H y u) (e : inFlat x y h = some b) (q : Q (.bl (if neg then !b else b)) H) : rIn K.k neg v u H Q := by
  unfold inFlat at e
  cases z : toV x with
  | none => simp only [z] at e; cases e
  | some w =>
    cases z2 : seqOf y h with
    | none => simp only [z, z2] at e; cases e
    | some ds =>
      cases z3 : toVs ds with
      | none => simp only [z, z2, z3] at e; cases e
      | some vs =>
        simp only [z, z2, z3] at e; cases e
        obtain ⟨e1, f1⟩ := toV_ok z rx
        subst e1
        obtain ⟨a, xs, e2, r2, s⟩ := seqOf_ok hr ry z2
        obtain ⟨e3, f3⟩ := toVs_ok z3 r2
        subst e3
        refine ⟨a, xs, e2, ?_, f1, f3, q⟩
        rcases s with ⟨s, _⟩ | ⟨s, _⟩
        · exact .inr s
        · exact .inl (.inl (.inl s))
theorem inDeep_ok {ρ : Rho} {H : Hp} {h : AH} {x y : D} {v u : V} {b : Bool} (hr : HR K ρ H h) (rx : Rp K ρ H x v) (ry : Rp K ρ H y u) (e : inDeep x y h = some b) :
    ∃ d ds, Dp K.k H v d ∧ Dp K.k H u (.list ds) ∧ SeqAt.shaped d = true ∧ SeqAt.shaped (.list ds) = true ∧ (ds.any fun z => PyData.eqv z d) = b := by
  unfold inDeep at e
  cases z : toPD h 12 x with
  | none => simp only [z] at e; cases e
  | some p =>
    cases z2 : toPD h 12 y with
    | none => simp only [z, z2] at e; cases e
    | some q =>
      cases q with
      | list qs =>
        simp only [z, z2] at e
        cases c : SeqAt.shaped p && SeqAt.shaped (.list qs) with
        | false => rw [c] at e; cases e
        | true =>
          rw [c] at e; cases e
          obtain ⟨c1, c2⟩ := Bool.and_eq_true_iff.mp c
          exact ⟨p, qs, toPD_ok hr _ _ _ _ z rx, toPD_ok hr _ _ _ _ z2 ry, c1, c2, (anyEq_ok p qs).symm⟩
      | _ => simp only [z, z2] at e; cases e
def dIn (x y : D) (h : AH) : R D := withS (inD x y h) fun b => .ok (.bl b) h
def dNotIn (x y : D) (h : AH) : R D := withS (inD x y h) fun b => .ok (.bl (!b)) h
theorem o_in : O2 K T (fun x y H Q => rIn K.k false x y H Q ∨ rInD K.k x y H Q) dIn := fun E ρ H h x y v u Q hr rx ry p => by
  obtain ⟨b, e, p⟩ := Post.withS p
  unfold inD at e
  cases z : inFlat x y h with
  | some c => rw [z] at e; cases e; exact .inl (inFlat_ok hr rx ry z (p.here hr _ (rp_bl.mpr rfl)))
  | none =>
    rw [z] at e
    obtain ⟨d, ds, h1, h2, h3, h4, h5⟩ := inDeep_ok hr rx ry e
    exact .inr ⟨d, ds, h1, h2, h3, h4, by rw [h5]; exact p.here hr _ (rp_bl.mpr rfl)⟩
theorem o_notIn : O2 K T (fun x y H Q => rIn K.k true x y H Q ∨ rNotInD K.k x y H Q) dNotIn := fun E ρ H h x y v u Q hr rx ry p => by
  obtain ⟨b, e, p⟩ := Post.withS p
  unfold inD at e
  cases z : inFlat x y h with
  | some c => rw [z] at e; cases e; exact .inl (inFlat_ok hr rx ry z (p.here hr _ (rp_bl.mpr rfl)))
  | none =>
    rw [z] at e
    obtain ⟨d, ds, h1, h2, h3, h4, h5⟩ := inDeep_ok hr rx ry e
    exact .inr ⟨d, ds, h1, h2, h3, h4, by rw [h5]; exact p.here hr _ (rp_bl.mpr rfl)⟩
/-- is None -/
def isN : D → Bool
  | .non => true
  | _ => false
def dIsN (x y : D) (h : AH) : R D := chk (isN y) (.ok (.bl (isN x)) h)
def dNotN (x y : D) (h : AH) : R D := chk (isN y) (.ok (.bl (!isN x)) h)
theorem isN_ok {ρ : Rho} {H : Hp} {x : D} {v : V} (r : Rp K ρ H x v) : decide (v = .non) = isN x := by
  cases x with
  | non => rw [rp_non.mp r]; rfl
  | bl b => rw [rp_bl.mp r]; rfl
  | int b => rw [rp_int.mp r]; rfl
  | str b => rw [rp_str.mp r]; rfl
  | tup ds => obtain ⟨a, xs, rfl, _⟩ := rp_tup.mp r; rfl
  | cell n => obtain ⟨a, rfl, _⟩ := rp_cell.mp r; rfl
  | frl ds => obtain ⟨a, xs, rfl, _⟩ := rp_frl.mp r; rfl
theorem isN_non {ρ : Rho} {H : Hp} {x : D} {v : V} (r : Rp K ρ H x v) (e : isN x = true) : v = .non := by
  cases x <;> first | exact rp_non.mp r | cases e
theorem o_isN : O2 K T (fun x y H Q => y = .non ∧ Q (.bl (decide (x = .non))) H) dIsN := fun E ρ H h x y v u Q hr rx ry p => by
  obtain ⟨c, p⟩ := Post.chk p
  exact ⟨isN_non ry c, by rw [isN_ok rx]; exact p.here hr _ (rp_bl.mpr rfl)⟩
theorem o_notN : O2 K T (fun x y H Q => y = .non ∧ Q (.bl (!decide (x = .non))) H) dNotN := fun E ρ H h x y v u Q hr rx ry p => by
  obtain ⟨c, p⟩ := Post.chk p
  exact ⟨isN_non ry c, by rw [isN_ok rx]; exact p.here hr _ (rp_bl.mpr rfl)⟩

/-! ### items, slices -/
def atD (ds : List D) (i : Int) : Option D := match ixN ds.length i with
  | some j => ds[j]?
  | none => none
theorem atD_ok {ρ : Rho} {H : Hp} {ds : List D} {xs : List V} {i : Int} {d : D} (r : Rps K ρ H ds xs) (e : atD ds i = some d) : ∃ v, atI xs i = some v ∧ Rp K ρ H d v := by
  unfold atD at e
  unfold atI
  rw [← r.length]
  cases z : ixN ds.length i with
  | none => rw [z] at e; cases e
  | some j => rw [z] at e; exact r.get e
def dIx (x y : D) (h : AH) : R D := match y with
  | .int i => withS (seqOf x h) fun ds => withS (atD ds i) fun d => .ok d h
  | _ => .no
theorem o_ix : O2 K T (fun x y H Q => rIxL K.k x y H Q ∨ rIxT K.k x y H Q) dIx := fun E ρ H h x y v u Q hr rx ry p => by
  cases y with
  | int i =>
    obtain ⟨ds, e1, p⟩ := Post.withS p
    obtain ⟨d, e2, p⟩ := p.withS
    obtain ⟨a, xs, e3, r, s⟩ := seqOf_ok hr rx e1
    obtain ⟨w, e4, rw'⟩ := atD_ok r e2
    rcases s with ⟨s, _⟩ | ⟨s, _⟩
    · exact .inr ⟨a, xs, i, w, e3, rp_int.mp ry, s, e4, p.here hr _ rw'⟩
    · exact .inl ⟨a, xs, i, w, e3, rp_int.mp ry, .inl (.inl s), e4, p.here hr _ rw'⟩
  | _ => exact p.elim
def cutD (ds : List D) (lo hi : Option Int) : List D := (ds.drop (HT.sIx ds.length 0 lo)).take (HT.sIx ds.length ds.length hi - HT.sIx ds.length 0 lo)
theorem Rps.drop {ρ : Rho} {H : Hp} : ∀ {ds : List D} {vs : List V} (n : Nat), Rps K ρ H ds vs → Rps K ρ H (ds.drop n) (vs.drop n)
  | _, _, 0, r => r
  | [], _, n + 1, r => by rw [Rps.nil_iff] at r; subst r; simp; exact Rps.nil_iff.mpr rfl
  | d :: ds, _, n + 1, r => by
    obtain ⟨x, q, rfl, r1, r2⟩ := Rps.cons_iff.mp r
    exact Rps.drop n r2
theorem Rps.take {ρ : Rho} {H : Hp} : ∀ {ds : List D} {vs : List V} (n : Nat), Rps K ρ H ds vs → Rps K ρ H (ds.take n) (vs.take n)
  | _, _, 0, r => by simp; exact Rps.nil_iff.mpr rfl
  | [], _, n + 1, r => by rw [Rps.nil_iff] at r; subst r; simp; exact Rps.nil_iff.mpr rfl
  | d :: ds, _, n + 1, r => by
    obtain ⟨x, q, rfl, r1, r2⟩ := Rps.cons_iff.mp r
    exact Rps.cons r1 (Rps.take n r2)
theorem cutD_ok {ρ : Rho} {H : Hp} {ds : List D} {xs : List V} (r : Rps K ρ H ds xs) (lo hi : Option Int) : Rps K ρ H (cutD ds lo hi) (cutV xs lo hi) := by
  unfold cutD cutV
  rw [r.length]
  exact (r.drop _).take _
end
end Nc
namespace Nc
open PySem PySem.Spec PyProof.Rows L2

inductive RS where
  | nx (s : DSt) (h : AH) | rt (d : D) (h : AH) | bk (s : DSt) (h : AH) | ct (s : DSt) (h : AH) | ex (e : Xn) (s : DSt) (h : AH) | no
abbrev DS := DSt → AH → RS
def PostS (K : KW) (T : XT) (W : WX) (ρ : Rho) (H : Hp) (r : RS) (D : Ends) : Prop := match r with
  | .nx s h => ∀ ρ' H' σ', Grow ρ ρ' H H' → HR K ρ' H' h → StR K ρ' H' σ' s → D.nx σ' H'
  | .rt d h => ∀ ρ' H' v, Grow ρ ρ' H H' → HR K ρ' H' h → Rp K ρ' H' d v → D.rt v H'
  | .bk s h => ∀ ρ' H' σ', Grow ρ ρ' H H' → HR K ρ' H' h → StR K ρ' H' σ' s → D.bk σ' H'
  | .ct s h => ∀ ρ' H' σ', Grow ρ ρ' H H' → HR K ρ' H' h → StR K ρ' H' σ' s → D.ct σ' H'
  | .ex e s h => ∀ ρ' H' σ' c d, Grow ρ ρ' H H' → HR K ρ' H' h → StR K ρ' H' σ' s → XR K T ρ' H' e c d → W c d σ' H'
  | .no => False
def tS (K : KW) (T : XT) (W : WX) (g : DS) : TS := fun D σ H => ∃ ρ s h, StR K ρ H σ s ∧ HR K ρ H h ∧ PostS K T W ρ H (g s h) D
structure SS (X : Cx) (T : XT) (W : WX) (st : Stmt) (g : DS) : Prop where
  p : PS X st (tS (kwOf X) T W g)
structure SSs (X : Cx) (T : XT) (W : WX) (st : List Stmt) (g : DS) : Prop where
  p : PSs X st (tS (kwOf X) T W g)
/-- an expression's result, then a statement's -/
def bindS {α : Type} (r : R α) (s : DSt) (k : α → AH → RS) : RS := match r with
  | .ok a h => k a h
  | .ex e h => .ex e s h
  | .no => .no
section
variable {K : KW} {T : XT} {W : WX} {ρ ρ' : Rho} {H H' : Hp} {h : AH} {σ : L2.St} {s : DSt} {Z : Ends}
theorem PostS.grow {r : RS} (l : ∀ n a, ρ' n = some a → Lv (H' a)) (g : Grow ρ ρ' H H') (p : PostS K T W ρ H r Z) : PostS K T W ρ' H' r Z := by
  cases r with
  | nx s h => exact fun ρ2 H2 σ2 g2 hr2 st2 => p ρ2 H2 σ2 (g.trans l g2) hr2 st2
  | rt d h => exact fun ρ2 H2 v g2 hr2 r2 => p ρ2 H2 v (g.trans l g2) hr2 r2
  | bk s h => exact fun ρ2 H2 σ2 g2 hr2 st2 => p ρ2 H2 σ2 (g.trans l g2) hr2 st2
  | ct s h => exact fun ρ2 H2 σ2 g2 hr2 st2 => p ρ2 H2 σ2 (g.trans l g2) hr2 st2
  | ex e s h => exact fun ρ2 H2 σ2 c d g2 hr2 st2 x => p ρ2 H2 σ2 c d (g.trans l g2) hr2 st2 x
  | no => exact p
theorem PostS.bind {α : Type} {r : R α} {k : α → AH → RS} (hr : HR K ρ H h) (st : StR K ρ H σ s) (p : PostS K T W ρ H (bindS r s k) Z) : Post K T (at_ W σ) ρ H r fun a h1 ρ1 H1 => PostS K T W ρ1 H1 (k a h1) Z := by
  cases r with
  | ok a h1 => exact fun ρ1 H1 g1 hr1 => PostS.grow hr1.live g1 p
  | ex e h1 => exact fun ρ1 H1 c d g1 hr1 x => p ρ1 H1 σ c d g1 hr1 (st.grow hr.live g1) x
  | no => exact p
theorem tD_bindS {f : DE} {k : D → AH → RS} {Q : VK} (st : StR K ρ H σ s) (hr : HR K ρ H h) (p : PostS K T W ρ H (bindS (f s h) s k) Z)
    (m : ∀ d h1 ρ1 H1 v, Grow ρ ρ1 H H1 → HR K ρ1 H1 h1 → StR K ρ1 H1 σ s → Rp K ρ1 H1 d v → PostS K T W ρ1 H1 (k d h1) Z → Q v H1) : tD K T W f σ H Q :=
  ⟨ρ, s, h, st, hr, (PostS.bind hr st p).mono fun a h1 ρ1 H1 _ gr hr1 pq v rv => m a h1 ρ1 H1 v gr hr1 (st.grow hr.live gr) rv pq⟩
theorem tDB_bindS {f : DB} {k : Bool → AH → RS} {Q : Bool → Hp → Prop} (st : StR K ρ H σ s) (hr : HR K ρ H h) (p : PostS K T W ρ H (bindS (f s h) s k) Z)
    (m : ∀ d h1 ρ1 H1, Grow ρ ρ1 H H1 → HR K ρ1 H1 h1 → StR K ρ1 H1 σ s → PostS K T W ρ1 H1 (k d h1) Z → Q d H1) : tDB K T W f σ H Q :=
  ⟨ρ, s, h, st, hr, (PostS.bind hr st p).mono fun a h1 ρ1 H1 _ gr hr1 pq => m a h1 ρ1 H1 gr hr1 (st.grow hr.live gr) pq⟩
theorem PostS.here {s : DSt} (p : PostS K T W ρ H (.nx s h) Z) (hr : HR K ρ H h) (st : StR K ρ H σ s) : Z.nx σ H := p ρ H σ (Grow.refl ρ H) hr st
end

section
variable {X : Cx} {T : XT} {W : WX} {pos : Pos} {e : Expr} {f : DE} {g g2 : DS} {st : Stmt} {rest : List Stmt}
def gNil : DS := fun s h => .nx s h
def gSeq (g1 g2 : DS) : DS := fun s h => match g1 s h with
  | .nx s1 h1 => g2 s1 h1
  | .rt d h1 => .rt d h1
  | .bk s1 h1 => .bk s1 h1
  | .ct s1 h1 => .ct s1 h1
  | .ex e s1 h1 => .ex e s1 h1
  | .no => .no
theorem ss_nil : SSs X T W [] gNil := ⟨PSs.imp pss_nil fun D σ H ⟨ρ, s, h, st, hr, q⟩ => PostS.here q hr st⟩
theorem ss_cons (h1 : SS X T W st g) (h2 : SSs X T W rest g2) : SSs X T W (st :: rest) (gSeq g g2) :=
  ⟨PSs.imp (pss_cons h1.p h2.p) fun D σ H ⟨ρ, s, h, st, hr, q⟩ => ⟨ρ, s, h, st, hr, by
    unfold gSeq at q
    cases z : g s h with
    | nx s1 h1 => rw [z] at q; exact fun ρ1 H1 σ1 g1 hr1 st1 => ⟨ρ1, s1, h1, st1, hr1, PostS.grow hr1.live g1 q⟩
    | rt d h1 => rw [z] at q; exact q
    | bk s1 h1 => rw [z] at q; exact q
    | ct s1 h1 => rw [z] at q; exact q
    | ex e s1 h1 => rw [z] at q; exact q
    | no => rw [z] at q; exact q⟩⟩
theorem ss_one (h1 : SS X T W st g) : SSs X T W [st] g := ⟨PSs.imp (pss_one h1.p) fun _ _ _ q => q⟩
def gPass : DS := fun s h => .nx s h
def gBreak : DS := fun s h => .bk s h
def gCont : DS := fun s h => .ct s h
theorem s_pass : SS X T W (.Pass pos) gPass := ⟨PS.imp ps_pass fun D σ H ⟨ρ, s, h, st, hr, q⟩ => PostS.here q hr st⟩
theorem s_break : SS X T W (.Break pos) gBreak := ⟨PS.imp ps_break fun D σ H ⟨ρ, s, h, st, hr, q⟩ => q ρ H σ (Grow.refl ρ H) hr st⟩
theorem s_cont : SS X T W (.Continue pos) gCont := ⟨PS.imp ps_continue fun D σ H ⟨ρ, s, h, st, hr, q⟩ => q ρ H σ (Grow.refl ρ H) hr st⟩
def gExpr (f : DE) : DS := fun s h => bindS (f s h) s fun _ h1 => .nx s h1
theorem s_expr (he : SE X T W e f) (hs : swapsWith e none pos.line X.env = pure false := by rfl) : SS X T W (.Expr e pos) (gExpr f) :=
  ⟨PS.imp (ps_expr he.p hs) fun D σ H ⟨ρ, s, h, st, hr, q⟩ => tD_bindS st hr q fun d h1 ρ1 H1 v g1 hr1 st1 r1 q1 => PostS.here q1 hr1 st1⟩
def gRet (f : DE) : DS := fun s h => bindS (f s h) s fun d h1 => .rt d h1
theorem s_ret (he : SE X T W e f) : SS X T W (.Return (some e) pos) (gRet f) :=
  ⟨PS.imp (ps_ret he.p) fun D σ H ⟨ρ, s, h, st, hr, q⟩ => tD_bindS st hr q fun d h1 ρ1 H1 v g1 hr1 st1 r1 q1 => q1 ρ1 H1 v (Grow.refl _ _) hr1 r1⟩
def gIf (c : DB) (g1 g2 : DS) : DS := fun s h => bindS (c s h) s fun b h1 => match b with
  | true => g1 s h1
  | false => g2 s h1
theorem s_if {c : Expr} {a b : List Stmt} {fc : DB} (hc : ST X T W c fc) (ha : SSs X T W a g) (hb : SSs X T W b g2) : SS X T W (.If c a b pos) (gIf fc g g2) :=
  ⟨PS.imp (ps_if hc.p ha.p hb.p) fun D σ H ⟨ρ, s, h, st, hr, q⟩ => tDB_bindS st hr q fun d h1 ρ1 H1 g1 hr1 st1 q1 => by
    cases d with
    | true => rw [if_pos rfl]; exact ⟨ρ1, s, h1, st1, hr1, q1⟩
    | false => rw [if_neg (by decide)]; exact ⟨ρ1, s, h1, st1, hr1, q1⟩⟩

/-! ### targets -/
abbrev DG := D → DSt → AH → Option (DSt × AH)
def Only (ws : List Nat) (σ σ' : L2.St) : Prop := ∀ vs : List Nat, (∀ i ∈ ws, i ∈ vs) → wipe σ' vs = wipe σ vs
def PostG (K : KW) (ρ : Rho) (H : Hp) (r : Option (DSt × AH)) (q : AH → DSt → Rho → L2.St → Hp → Prop) : Prop := match r with
  | some p => ∀ ρ' H' σ', Grow ρ ρ' H H' → HR K ρ' H' p.2 → StR K ρ' H' σ' p.1 → q p.2 p.1 ρ' σ' H'
  | none => False
def tG (K : KW) (ws : List Nat) (g : DG) : TG := fun v σ H Q => ∃ ρ s h d, StR K ρ H σ s ∧ HR K ρ H h ∧ Rp K ρ H d v ∧ PostG K ρ H (g d s h) fun _ _ _ σ' H' => Only ws σ σ' → Q σ' H'
abbrev DGs := List D → DSt → AH → Option (DSt × AH)
def tGs (K : KW) (ws : List Nat) (g : DGs) : TGs := fun vs σ H Q => ∃ ρ s h ds, StR K ρ H σ s ∧ HR K ρ H h ∧ Rps K ρ H ds vs ∧ PostG K ρ H (g ds s h) fun _ _ _ σ' H' => Only ws σ σ' → Q σ' H'
structure SG (X : Cx) (e : Expr) (ws : List Nat) (g : DG) : Prop where
  p : PG X e (tG (kwOf X) ws g)
structure SGs (X : Cx) (es : List Expr) (ws : List Nat) (g : DGs) : Prop where
  p : PGs X es (tGs (kwOf X) ws g)
theorem PG.imp {X : Cx} {e : Expr} {t t' : TG} (h : PG X e t) (m : ∀ v σ H Q, t' v σ H Q → t v σ H Q) : PG X e t' := ⟨fun pins s σ H v u Q I r q => h.run pins s σ H v u Q I r (m v σ H Q q)⟩
theorem PGs.imp {X : Cx} {e : List Expr} {t t' : TGs} (h : PGs X e t) (m : ∀ v σ H Q, t' v σ H Q → t v σ H Q) : PGs X e t' := ⟨fun pins s σ H v u Q I r q => h.run pins s σ H v u Q I r (m v σ H Q q)⟩
theorem PG.or {X : Cx} {e : Expr} {t t' : TG} (h : PG X e t) (h' : PG X e t') : PG X e (fun v σ H Q => t v σ H Q ∨ t' v σ H Q) := ⟨fun pins s σ H v u Q I r q => q.elim (h.run pins s σ H v u Q I r) (h'.run pins s σ H v u Q I r)⟩
theorem wipe_set (σ : L2.St) (x : Option V) {i : Nat} : ∀ {vs : List Nat}, i ∈ vs → wipe (σ.set i x) vs = wipe σ vs
  | v :: vs, hm => by
    unfold wipe
    by_cases e : i ∈ vs
    · rw [wipe_set σ x e]
    · have hv : i = v := by rcases List.mem_cons.mp hm with z | z; exact z; exact absurd z e
      subst hv
      have : ∀ (τ : L2.St) (us : List Nat), wipe (τ.set i x) us = (wipe τ us).set i x ∨ wipe (τ.set i x) us = wipe τ us := fun τ us => by
        induction us with
        | nil => exact .inl rfl
        | cons u us ih =>
          unfold wipe
          rcases ih with ih | ih
          · by_cases hu : u = i
            · subst hu; rw [ih]; right; rw [List.set_set]
            · rw [ih]; left; rw [List.set_comm _ _ (Ne.symm hu)]
          · rw [ih]; exact .inr rfl
      rcases this σ vs with z | z
      · rw [z, List.set_set]
      · rw [z]
theorem only_refl {ws : List Nat} {σ : L2.St} : Only ws σ σ := fun _ _ => rfl
def gN (i : Nat) : DG := fun d s h => some (s.set i (some d), h)
theorem sg_name {i : Nat} {x : Str} (hN : X.N.Nodup) (hi : X.N[i]? = some x) (hx : Loc X.env.scope x) (hf : X.fn x = true ∨ X.env.scope.names.lookup x = some .local := by first | exact .inl rfl | exact .inr rfl | assumption) : SG X (.Name x pos) [i] (gN i) :=
  ⟨PG.imp (pg_name hN hi hx hf) fun v σ H Q ⟨ρ, s, h, d, st, hr, r, q⟩ => q ρ H _ (Grow.refl _ _) hr (st.set r) fun vs hv => wipe_set σ _ (hv i List.mem_cons_self)⟩
def gsNil : DGs := fun ds s h => match ds with
  | [] => some (s, h)
  | _ => none
def gsCons (g : DG) (gs : DGs) : DGs := fun ds s h => match ds with
  | [] => none
  | d :: r => match g d s h with
    | some p => gs r p.1 p.2
    | none => none
theorem sgs_nil : SGs X [] [] gsNil := ⟨PGs.imp pgs_nil fun v σ H Q ⟨ρ, s, h, ds, st, hr, r, q⟩ => by
  cases ds with
  | nil => exact ⟨Rps.nil_iff.mp r, q ρ H σ (Grow.refl _ _) hr st only_refl⟩
  | cons d r => exact q.elim⟩
theorem sgs_cons {es : List Expr} {ws us : List Nat} {g : DG} {gs : DGs} (h1 : SG X e ws g) (h2 : SGs X es us gs) (hs : (assignEach (e :: es) X.env).map (·.2) = assign e X.env :: (assignEach es X.env).map (·.2) := by rfl) : SGs X (e :: es) (ws ++ us) (gsCons g gs) :=
  ⟨PGs.imp (pgs_cons h1.p h2.p hs) fun vs σ H Q ⟨ρ, s, h, ds, st, hr, r, q⟩ => by
    cases ds with
    | nil => exact q.elim
    | cons d ds =>
      obtain ⟨v, vr, e1, r1, r2⟩ := Rps.cons_iff.mp r
      refine ⟨v, vr, e1, ρ, s, h, d, st, hr, r1, ?_⟩
      unfold gsCons at q
      cases z : g d s h with
      | none => simp only [z] at q; exact q.elim
      | some p =>
        simp only [z] at q
        intro ρ1 H1 σ1 g1 hr1 st1 o1
        refine ⟨ρ1, p.1, p.2, ds, st1, hr1, Rps.grow hr.live g1 ds r2, ?_⟩
        cases z2 : gs ds p.1 p.2 with
        | none => rw [z2] at q; exact q.elim
        | some p2 =>
          rw [z2] at q
          exact fun ρ2 H2 σ2 g2 hr2 st2 o2 => q ρ2 H2 σ2 (g1.trans hr1.live g2) hr2 st2 fun us' hv => (o2 us' fun i hi => hv i (List.mem_append_right _ hi)).trans (o1 us' fun i hi => hv i (List.mem_append_left _ hi))⟩
def gTupD (n : Nat) (gs : DGs) : DG := fun d s h => match seqOf d h with
  | some ds => match Nat.beq ds.length n with
    | true => gs ds s h
    | false => none
  | none => none
theorem sg_tup {es : List Expr} {k : Nat} {n : Nat} {ws : List Nat} {gs : DGs} (hc : X.calm = true) (h : SGs X es ws gs) (hn : (assignEach es X.env).length = n := by rfl) (hst : (assignEach es X.env).findIdx? (·.1) = none := by rfl) : SG X (.Tuple es k pos) ws (gTupD n gs) :=
  ⟨PG.imp (PG.or (pg_tup hc h.p hn hst) (pg_lst hc h.p hn hst)) fun v σ H Q ⟨ρ, s, h, d, st, hr, r, q⟩ => by
    unfold gTupD at q
    cases z : seqOf d h with
    | none => simp only [z] at q; exact q.elim
    | some ds =>
      simp only [z] at q
      cases c : Nat.beq ds.length n with
      | false => simp only [c] at q; exact q.elim
      | true =>
        simp only [c] at q
        obtain ⟨a, xs, e1, rs, sq⟩ := seqOf_ok hr r z
        have hl : xs.length = n := by rw [← rs.length]; exact Nat.eq_of_beq_eq_true c
        rcases sq with ⟨sq, _⟩ | ⟨sq, _⟩
        · exact .inl ⟨a, xs, e1, sq, hl, ρ, s, h, ds, st, hr, rs, q⟩
        · exact .inr ⟨a, xs, e1, .inl (.inl sq), hl, ρ, s, h, ds, st, hr, rs, q⟩⟩
def ofG (r : Option (DSt × AH)) : RS := match r with
  | some p => .nx p.1 p.2
  | none => .no
theorem ofG_ok {K : KW} {ρ : Rho} {H : Hp} {σ : L2.St} {s : DSt} {h : AH} {d : D} {v : V} {g : DG} {ws : List Nat} {Ds : Ends} (st : StR K ρ H σ s) (hr : HR K ρ H h) (r : Rp K ρ H d v) (p : PostS K T W ρ H (ofG (g d s h)) Ds) : tG K ws g v σ H Ds.nx := by
  refine ⟨ρ, s, h, d, st, hr, r, ?_⟩
  cases z : g d s h with
  | none => rw [z] at p; exact p.elim
  | some q => rw [z] at p; exact fun ρ1 H1 σ1 g1 hr1 st1 _ => p ρ1 H1 σ1 g1 hr1 st1
def gAsg (f : DE) (g : DG) : DS := fun s h => bindS (f s h) s fun d h1 => ofG (g d s h1)
theorem s_asg {tg : Expr} {ws : List Nat} {g : DG} (he : SE X T W e f) (hg : SG X tg ws g) (hs : swapsWithSole [tg] e pos.line X.env = pure false := by rfl) (hw : swappedStores [tg] e X.env = pure none := by rfl)
    (h1 : (assignEach [tg] X.env).map (·.2) = [assign tg X.env] := by rfl) : SS X T W (.Assign [tg] e pos) (gAsg f g) :=
  ⟨PS.imp (ps_asg he.p hg.p hs hw h1) fun D σ H ⟨ρ, s, h, st, hr, q⟩ => tD_bindS st hr q fun d h1 ρ1 H1 v g1 hr1 st1 r1 q1 => ofG_ok st1 hr1 r1 q1⟩
theorem s_set {i : Nat} {x : Str} {pos' : Pos} (hN : X.N.Nodup) (hi : X.N[i]? = some x) (hx : Loc X.env.scope x) (he : SE X T W e f) (hs : swapsWith e (some (.Name x pos')) pos.line X.env = pure false := by rfl) (hf : X.fn x = true ∨ X.env.scope.names.lookup x = some .local := by first | exact .inl rfl | exact .inr rfl | assumption) :
    SS X T W (.Assign [.Name x pos'] e pos) (gAsg f (gN i)) :=
  ⟨PS.imp (ps_set hN hi hx he.p hs hf) fun D σ H ⟨ρ, s, h, st, hr, q⟩ => tD_bindS st hr q fun d h1 ρ1 H1 v g1 hr1 st1 r1 q1 => q1 ρ1 H1 _ (Grow.refl _ _) hr1 (st1.set r1)⟩
/-- a, b = x, y by plain local names -/
def gPar (i j : Nat) (fa : DA) : DS := fun s h => bindS (fa s h) s fun ds h1 => match ds with
  | [x, y] => .nx ((s.set i (some x)).set j (some y)) h1
  | _ => .no
theorem tDA_bindS {K : KW} {ρ : Rho} {H : Hp} {h : AH} {σ : L2.St} {s : DSt} {Z : Ends} {f : DA} {k : List D → AH → RS} {Q : List V → Hp → Prop} (st : StR K ρ H σ s) (hr : HR K ρ H h) (p : PostS K T W ρ H (bindS (f s h) s k) Z)
    (m : ∀ d h1 ρ1 H1 v, Grow ρ ρ1 H H1 → HR K ρ1 H1 h1 → StR K ρ1 H1 σ s → Rps K ρ1 H1 d v → PostS K T W ρ1 H1 (k d h1) Z → Q v H1) : tDA K T W f σ H Q :=
  ⟨ρ, s, h, st, hr, (PostS.bind hr st p).mono fun a h1 ρ1 H1 _ gr hr1 pq v rv => m a h1 ρ1 H1 v gr hr1 (st.grow hr.live gr) rv pq⟩
theorem s_par {i j : Nat} {x y : Str} {a b : Expr} {fa : DA} {px py pt : Pos} {kt k2 pt2} (hc : X.calm = true) (hN : X.N.Nodup) (hi : X.N[i]? = some x) (hj : X.N[j]? = some y) (hij : i ≠ j)
    (hx : X.env.scope.names.lookup x = some .local) (hy : X.env.scope.names.lookup y = some .local) (ha : SA X T W [a, b] fa)
    (hw : swappedStores [.Tuple [.Name x px, .Name y py] kt pt] (.Tuple [a, b] k2 pt2) X.env = pure (some [x, y]))
    (hs : swapsWithSole [.Tuple [.Name x px, .Name y py] kt pt] (.Tuple [a, b] k2 pt2) pos.line X.env = pure false := by rfl) :
    SS X T W (.Assign [.Tuple [.Name x px, .Name y py] kt pt] (.Tuple [a, b] k2 pt2) pos) (gPar i j fa) :=
  ⟨PS.imp (ps_par hc hN hi hj hij hx hy ha.p hw hs) fun D σ H ⟨ρ, s, h, st, hr, q⟩ => tDA_bindS st hr q fun ds h1 ρ1 H1 vs g1 hr1 st1 r1 q1 => by
    match ds, q1, r1 with
    | [x, y], q1, r1 =>
      obtain ⟨v, r, rfl, rx, r1⟩ := Rps.cons_iff.mp r1
      obtain ⟨w, r, rfl, ry, r1⟩ := Rps.cons_iff.mp r1
      have := Rps.nil_iff.mp r1; subst this
      exact ⟨v, w, rfl, q1 ρ1 H1 _ (Grow.refl _ _) hr1 ((st1.set rx).set ry)⟩
    | [], q1, _ => exact q1.elim
    | [_], q1, _ => exact q1.elim
    | _ :: _ :: _ :: _, q1, _ => exact q1.elim⟩
/-- name op= e: the same values as name op e -/
def OI (K : KW) (T : XT) (r : TIp) (o : D → D → AH → R D) : Prop := ∀ (E : XK) ρ H h x y v u Q, HR K ρ H h → Rp K ρ H x v → Rp K ρ H y u → P1 K T E ρ H (o x y h) Q → r v u H Q
def gAug (i : Nat) (f : DE) (o : D → D → AH → R D) : DS := fun s h => match s[i]? with
  | some (some x) => bindS (f s h) s fun y h1 => bindS (o x y h1) s fun z h2 => .nx (s.set i (some z)) h2
  | _ => .no
theorem s_aug {i : Nat} {x : Str} {op : Operator} {ti : TIp} {o : D → D → AH → R D} {pos' : Pos} (hN : X.N.Nodup) (hi : X.N[i]? = some x) (hx : Loc X.env.scope x) (he : SE X T W e f) (ho : PIp X op ti) (oi : OI (kwOf X) T ti o) (hf : X.fn x = true ∨ X.env.scope.names.lookup x = some .local := by first | exact .inl rfl | exact .inr rfl | assumption) :
    SS X T W (.AugAssign (.Name x pos') op e pos) (gAug i f o) :=
  ⟨PS.imp (ps_aug hN hi hx he.p ho hf) fun D σ H ⟨ρ, s, h, st, hr, q⟩ => by
    unfold gAug at q
    split at q
    · rename_i d hd
      obtain ⟨v, e1, r⟩ := st.at_ _ _ hd
      refine ⟨v, e1, tD_bindS st hr q fun y h1 ρ1 H1 u g1 hr1 st1 r1 q1 => ?_⟩
      exact oi _ ρ1 H1 h1 d y v u _ hr1 (Rp.grow hr.live g1 d r) r1 ((PostS.bind hr1 st1 q1).mono fun z h2 ρ2 H2 _ g2 hr2 q2 w rw' => q2 ρ2 H2 _ (Grow.refl _ _) hr2 ((st1.grow hr1.live g2).set rw'))
    · exact q.elim⟩

/-! ### while -/
def gWhile (c : DB) (g : DS) : Nat → DS
  | 0 => fun _ _ => .no
  | k + 1 => fun s h => bindS (c s h) s fun b h1 => match b with
    | false => .nx s h1
    | true => match g s h1 with
      | .nx s2 h2 => gWhile c g k s2 h2
      | .ct s2 h2 => gWhile c g k s2 h2
      | .bk s2 h2 => .nx s2 h2
      | .rt d h2 => .rt d h2
      | .ex e s2 h2 => .ex e s2 h2
      | .no => .no
theorem s_while {c : Expr} {body : List Stmt} {fc : DB} (n : Nat) (hp : PassesOwn (model X.prog X.w) X.A X.env X.xe) (hc : ST X T W c fc) (hb : SSs X T W body g) : SS X T W (.While c body [] pos) (gWhile fc g n) :=
  ⟨PS.imp (ps_while hp hc.p hb.p) fun D σ H ⟨ρ, s, h, st, hr, q⟩ => by
    refine ⟨fun m σ H => ∃ ρ s h, StR (kwOf X) ρ H σ s ∧ HR (kwOf X) ρ H h ∧ PostS (kwOf X) T W ρ H (gWhile fc g m s h) D, ⟨n, ρ, s, h, st, hr, q⟩, ?_⟩
    rintro m σ H ⟨ρ, s, h, st, hr, q⟩
    cases m with
    | zero => exact q.elim
    | succ k =>
      unfold gWhile at q
      refine tDB_bindS st hr q fun b h1 ρ1 H1 g1 hr1 st1 q1 => ?_
      cases b with
      | false => rw [if_neg (by decide)]; exact PostS.here q1 hr1 st1
      | true =>
        rw [if_pos rfl]
        refine ⟨fun σ' H' => ∃ ρ s h, StR (kwOf X) ρ H' σ' s ∧ HR (kwOf X) ρ H' h ∧ PostS (kwOf X) T W ρ H' (gWhile fc g k s h) D, fun σ' H' hN => ⟨k, Nat.lt_succ_self k, hN⟩, ρ1, s, h1, st1, hr1, ?_⟩
        cases z : g s h1 with
        | nx s2 h2 => simp only [z] at q1; exact fun ρ2 H2 σ2 g2 hr2 st2 => ⟨ρ2, s2, h2, st2, hr2, PostS.grow hr2.live g2 q1⟩
        | ct s2 h2 => simp only [z] at q1; exact fun ρ2 H2 σ2 g2 hr2 st2 => ⟨ρ2, s2, h2, st2, hr2, PostS.grow hr2.live g2 q1⟩
        | bk s2 h2 => simp only [z] at q1; exact q1
        | rt d h2 => simp only [z] at q1; exact q1
        | ex e s2 h2 => simp only [z] at q1; exact q1
        | no => simp only [z] at q1; exact q1⟩
end
end Nc
namespace Nc
open PySem PySem.Spec PyProof.Rows L2

/-! enumerate over a tuple -/
theorem newEnumT (t : Addr) (items : Array Value) (n : Nat) (dd : Option Addr) (ss : Array (Option Value)) :
    Meets (Builtin.«enumerate.__new__» ⟨[.type "enumerate", .ref t], []⟩) (fun _ R s => s.heap.get? t = some ⟨.type "tuple", dd, .seq items n, ss⟩ ∧
      R (.ok (.ret (.ref (s.heap.push ⟨.type "tuple_iterator", none, .fields #[.ref t, .int 0 0], #[]⟩).objs.size)))
        { s with heap := (s.heap.push ⟨.type "tuple_iterator", none, .fields #[.ref t, .int 0 0], #[]⟩).push ⟨.type "enumerate", none, .fields #[.none, .bool false, .ref s.heap.objs.size, rawInt 0, .none, .none], #[]⟩ }) :=
  .of_wp fun prog w A R s hyp => by
    obtain ⟨hp, gn, dr, tk, os⟩ := s; obtain ⟨ht, hyp⟩ := hyp
    have sub := sub_enumerate
    have hT : Heap.IsTuple (Shared.heap ⟨hp, gn, dr, tk, os⟩) t items := ⟨_, ht, rfl, n, rfl⟩
    wp_walk using AutoSeq1.wpAny_loadPart' ht
    refine wpAny_stack_any fun stk => wpAny_pure ?_
    split
    · rename_i cc _ _ _ _ _
      cases (cc == Value.type "enumerate") <;>
      · wp_walk using AutoSeq1.wpAny_loadPart' ht, wpAny_pyIter_tuple hT
        exact ⟨_, rfl, hyp⟩
    · wp_walk using AutoSeq1.wpAny_loadPart' ht, wpAny_pyIter_tuple hT
      exact ⟨_, rfl, hyp⟩
theorem callEnumT {prog : Program} {w : World} {A : Around} {E : Value → Shared → Prop} {s : Shared} {t : Addr} {items : Array Value} {Q : Value → Shared → Prop} (hT : s.heap.IsTuple t items)
    (k : ∀ h', IsEnum h' (s.heap.objs.size + 1) s.heap.objs.size 0 .none → h'.IsTupleIter s.heap.objs.size t 0 → (∀ b o, s.heap.get? b = some o → h'.get? b = some o) → Q (.ref (s.heap.objs.size + 1)) { s with heap := h' }) :
    wpAny (model prog w) A (call (.type "enumerate") [.ref t]) Q E s := by
  obtain ⟨⟨c, dd, dt, ss⟩, ht, hc, n, hd⟩ := hT
  replace hc : c = .type "tuple" := hc
  replace hd : dt = .seq items n := hd
  subst hc; subst hd
  refine callType_new F.called_enumerate (by decide) (F.typeCall_enumerate_1 _) (F.newCall_enumerate_1 _) (fun ob => F.args_object_init_2 ob _) F.entry_enumerate_new (newEnumT t items n dd ss) ⟨ht, ?_⟩
  have sz : (s.heap.push ⟨.type "tuple_iterator", none, .fields #[.ref t, .int 0 0], #[]⟩).objs.size = s.heap.objs.size + 1 := Heap.size_push ..
  show _ ∧ _
  rw [sz]
  have en : IsEnum ((s.heap.push ⟨.type "tuple_iterator", none, .fields #[.ref t, .int 0 0], #[]⟩).push ⟨.type "enumerate", none, .fields #[.none, .bool false, .ref s.heap.objs.size, rawInt 0, .none, .none], #[]⟩) (s.heap.objs.size + 1) s.heap.objs.size 0 .none := by
    have z := Heap.get?_push_size (s.heap.push ⟨.type "tuple_iterator", none, .fields #[.ref t, .int 0 0], #[]⟩) (o := ⟨.type "enumerate", none, .fields #[.none, .bool false, .ref s.heap.objs.size, rawInt 0, .none, .none], #[]⟩) rfl
    rw [sz] at z; exact z
  exact ⟨⟨_, en, rfl⟩, k _ en ⟨_, Heap.get?_push_of_some _ (Heap.get?_push_size _ rfl), rfl, rfl⟩ fun b o x => Heap.get?_push_of_some _ (Heap.get?_push_of_some _ x)⟩

/-- the tuple at a, each item in a new pair -/
def IteT (K : PySem.W.Frag) (a : Addr) : It where
  go := fun i H => ∃ (xs : List V) (x : V), SqT K H a xs ∧ xs[i]? = some x
  yld := fun i H v H' => ∃ T x, v = .ref T ∧ H T = none ∧ H' = upd H T (.tup [.int (i : Nat), x]) ∧ ∀ xs, SqT K H a xs → xs[i]? = some x
  stop := fun i H => ∃ xs : List V, SqT K H a xs ∧ xs.length ≤ i
theorem turnEnumT {P : Program} {w : World} {K : PySem.W.Frag} {els : List Expr} {kk : Nat} {tp : Pos} (a en it : Addr) :
    Turn P w K (.Tuple els kk tp) (IteT K a) [en, it] en (fun i h => (∃ old, IsEnum h en it ((i : Nat) : Int) old) ∧ h.IsTupleIter it a i ∧ en ≠ it) where
  mem := List.mem_cons_self
  obj := fun i h stt b hb => by
    obtain ⟨⟨old, he⟩, ⟨o, ho, hc, hd⟩, _⟩ := stt
    rcases (by simpa using hb : b = en ∨ b = it) with z | z
    · subst z; exact ⟨_, he, fun v q => nomatch q⟩
    · subst z; exact ⟨o, ho, fun v q => by rw [hd] at q; cases q⟩
  keep := fun i h h' stt k => ⟨stt.1.imp fun old he => k en (by simp) _ he, stt.2.1.at fun o q => k it (by simp) o q, stt.2.2⟩
  item := by
    intro X e1 e2 e3 hc i pins s σ H E I hf stt hg
    subst e1 e2 e3
    obtain ⟨⟨old, he⟩, hit, hne⟩ := stt
    obtain ⟨xs, x, hq, hx⟩ := hg
    obtain ⟨its, rv, p, hz⟩ := I.tuple hq
    have p' : s.heap.IsTuple a its.toArray := p
    obtain ⟨u, hu, ru⟩ := rv.get hx
    have l1 : en < s.heap.objs.size := Heap.lt_size he
    have l2 : it < s.heap.objs.size := by obtain ⟨_, q, _⟩ := hit; exact Heap.lt_size q
    have na : a ≠ it := fun z => by
      obtain ⟨o1, q1, c1, _⟩ := hit
      obtain ⟨o2, q2, c2, _⟩ := p'
      rw [z, q1] at q2; cases q2
      rw [c1] at c2; exact absurd (Value.type.inj c2) (by decide)
    have ne : a ≠ en := fun z => by
      obtain ⟨o2, q2, c2, _⟩ := p'
      rw [z, he] at q2; cases q2
      exact absurd (Value.type.inj c2) (by decide)
    have hi : i < its.toArray.size := by
      have := rv.length
      obtain ⟨lt, _⟩ := List.getElem?_eq_some_iff.mp hu
      simpa using lt
    refine wpAny_pyNext_enum_itemD (Draws.tuple (A := X.A.in1) (I.ok.hd hc) it a na its.toArray) he ⟨hit, p'⟩ hi hne (by simp [hne, Ne.symm ne]) fun y h' tk hy ho st' hT _ hk => ?_
    have ey : y = u := by
      have : its[i]? = some y := by simpa using hy
      rw [hu] at this; exact (Option.some.inj this).symm
    subst ey
    refine ⟨_, rfl, wpAny_letOwnedTupleGo_enum (s := { s with heap := h', toks := tk + 1 }) ho fun h'' he' sb => ?_⟩
    have hT2 := (sb.2 _ (Nat.ne_of_gt l1)).trans hT
    have nw : ObjOk X.prog X.w (upd H s.heap.objs.size (.tup [.int (i : Nat), x])) h'' s.heap.objs.size (.tup [.int (i : Nat), x]) :=
      ⟨by show 2 ≤ sizeLine; decide, [.int i tk, y], .cons ⟨_, rfl⟩ (.cons ru .nil), ⟨_, hT2, rfl, _, rfl⟩⟩
    have I1 : Inv X pins σ (upd H s.heap.objs.size (.tup [.int (i : Nat), x])) { s with heap := h'', toks := tk + 1 } :=
      I.turnedNew (ch := [en, it]) (fun b ob hb q => (sb.2 b (fun z => hb (by simp [z]))).trans (hk b ob (fun z => hb (by simp [z])) (fun z => hb (by simp [z])) q)) hf (Nat.le_refl _) nw
    refine ⟨.ref s.heap.objs.size, _, I1, rfl, ⟨_, x, rfl, I.hok.fresh (Nat.le_refl _), rfl, fun ys hy => by rw [I.tuple_inj hy hq]; exact hx⟩, ⟨⟨y, ?_⟩, st'.1.at fun o q => (sb.2 it (Ne.symm hne)).trans q, hne⟩, fun b hb => ?_⟩
    · rw [show ((i + 1 : Nat) : Int) = (i : Int) + 1 by omega]; exact he'
    · have lb : b < s.heap.objs.size := by
        rcases (by simpa using hb : b = en ∨ b = it) with z | z
        · subst z; exact l1
        · subst z; exact l2
      rw [upd_ne (Nat.ne_of_lt lb)]
      exact (hf b hb).1
  done := by
    intro X e1 e2 e3 hc i pins s σ H E I hf stt hg
    subst e1 e2 e3
    obtain ⟨⟨old, he⟩, hit, hne⟩ := stt
    obtain ⟨xs, hq, hx⟩ := hg
    obtain ⟨its, rv, p, hz⟩ := I.tuple hq
    have p' : s.heap.IsTuple a its.toArray := p
    have na : a ≠ it := fun z => by
      obtain ⟨o1, q1, c1, _⟩ := hit
      obtain ⟨o2, q2, c2, _⟩ := p'
      rw [z, q1] at q2; cases q2
      rw [c1] at c2; exact absurd (Value.type.inj c2) (by decide)
    obtain ⟨f0, f1, f2, f3, f4, f5⟩ := hf it (by simp)
    have hl := rv.length
    unfold pyNext
    refine wpAny_bind (wpAny_attempt (wpAny_callSpecial?_slot (name := Str.ofString "__next__") ⟨_, he, rfl⟩ F.slot_enumerate_next (wpAny_call_entry F.slot_enumerate_next ⟨_, he, rfl⟩ F.entry_enumerate_next ?_ (F.args_enumerate_next_1 _))))
    show wpAny _ _ (field (.ref en) 2 >>= _) _ _ _
    refine wpAny_bind (wpAny_field he rfl (x := .ref it) rfl ?_)
    refine wpAny_bind (wpAny_nextOf_tuple_end (I.ok.hd hc) hit p' (by simp; omega) fun h' ex eb hx' => ?_)
    obtain ⟨o, ho, hc'⟩ := hx'
    refine wpAny_bind (wpAny_isInstance (T := "StopIteration") (b := true) ⟨o, ho, hc'⟩ isSubtype_stop (wpAny_pure ?_))
    exact ⟨rfl, I.turned (t' := s.toks) (fun b o hb q => eb b o hb q) f0 f1 f3 f4 f5⟩
  self := fun A i s Q E stt h => let ⟨⟨_, he⟩, _⟩ := stt; wpAny_pyIter_enum he h
end Nc
namespace Nc
open PySem PySem.Spec PyProof.Rows L2

/-! ## what is walked -/
inductive ItD where
  | seq (d : D) | rng (lo : Int) (n : Nat) | enum (d : D) | zip (d e : D) | snap (ds : List D) | snap2 (ps : List (D × D)) | rev (d : D) (n : Nat)
/-- the i-th item of a list: so that the items ahead are looked up once -/
def tailOf {α : Type} (l : List α) : List α := match l with
  | [] => []
  | _ :: r => r
def headOf {α : Type} (l : List α) : Option α := match l with
  | [] => none
  | x :: _ => some x
def idxD {α : Type} (i : Nat) (l : List α) : Option α := headOf (Nat.rec l (fun _ r => tailOf r) i)
theorem dropOf {α : Type} (l : List α) : ∀ i : Nat, (Nat.rec l (fun _ r => tailOf r) i : List α) = l.drop i
  | 0 => rfl
  | i + 1 => by
    show tailOf (Nat.rec l (fun _ r => tailOf r) i : List α) = _
    rw [dropOf l i]
    cases z : l.drop i with
    | nil =>
      have hl := List.drop_eq_nil_iff.mp z
      show ([] : List α) = _
      exact (List.drop_eq_nil_iff.mpr (by omega)).symm
    | cons x r =>
      show r = _
      have e : l.drop (i + 1) = (l.drop i).drop 1 := by rw [List.drop_drop]
      rw [e, z]; rfl
@[simp] theorem idxD_eq {α : Type} (i : Nat) (l : List α) : idxD i l = l[i]? := by
  unfold idxD
  rw [dropOf l i]
  cases z : l.drop i with
  | nil =>
    have hl := List.drop_eq_nil_iff.mp z
    exact (List.getElem?_eq_none_iff.mpr hl).symm
  | cons x r =>
    have e : l[i]? = (l.drop i)[0]? := by rw [List.getElem?_drop]; rfl
    rw [e, z]; rfl
/-- the i-th item; none none: at the end -/
def itemAt (it : ItD) (i : Nat) (h : AH) : Option (Option D) := match it with
  | .seq d => match seqOf d h with
    | some ds => some (idxD i ds)
    | none => none
  | .rng lo n => match Nat.blt i n with
    | true => some (some (.int (lo + i)))
    | false => some none
  | .enum d => match seqOf d h with
    | some ds => match idxD i ds with
      | some x => some (some (.tup [.int i, x]))
      | none => some none
    | none => none
  | .zip d e => match seqOf d h, seqOf e h with
    | some ds, some es => match idxD i ds, idxD i es with
      | some x, some y => some (some (.tup [x, y]))
      | _, _ => some none
    | _, _ => none
  | .snap ds => some (idxD i ds)
  | .snap2 ps => match idxD i ps with
    | some p => some (some (.tup [p.1, p.2]))
    | none => some none
  | .rev d n => match Nat.blt i n with
    | true => match seqOf d h with
      | some ds => match idxD (n - 1 - i) ds with
        | some x => some (some x)
        | none => none
      | none => none
    | false => some none
def ItOk (K : KW) (ρ' : Rho) (H' : Hp) (h' : AH) (J : It) (i : Nat) : Option (Option D) → Prop
  | some none => J.stop i H'
  | some (some d) => J.go i H' ∧ ∀ x H'', J.yld i H' x H'' → ∃ ρ'', Grow ρ' ρ'' H' H'' ∧ HR K ρ'' H'' h' ∧ Rp K ρ'' H'' d x
  | none => True
def ItR (K : KW) (ρ : Rho) (H : Hp) (it : ItD) (J : It) : Prop := ∀ ρ' H' h', Ext K ρ ρ' H H' → HR K ρ' H' h' → ∀ i, ItOk K ρ' H' h' J i (itemAt it i h')
abbrev DI := DSt → AH → R ItD
def tI (K : KW) (T : XT) (W : WX) (f : DI) : TI := fun σ H Q => ∃ ρ s h, StR K ρ H σ s ∧ HR K ρ H h ∧ Post K T (at_ W σ) ρ H (f s h) fun it _ ρ' H' => ∀ J, ItR K ρ' H' it J → Q J H'
structure SI (X : Cx) (T : XT) (W : WX) (tg e : Expr) (f : DI) : Prop where
  p : PI X tg e (tI (kwOf X) T W f)
theorem PI.imp {X : Cx} {tg e : Expr} {t t' : TI} (h : PI X tg e t) (m : ∀ σ H Q, t' σ H Q → t σ H Q) : PI X tg e t' := ⟨fun pins s σ H Q I q => h.run pins s σ H Q I (m σ H Q q)⟩
theorem PI.or {X : Cx} {tg e : Expr} {t t' : TI} (h : PI X tg e t) (h' : PI X tg e t') : PI X tg e (fun σ H Q => t σ H Q ∨ t' σ H Q) := ⟨fun pins s σ H Q I q => q.elim (h.run pins s σ H Q I) (h'.run pins s σ H Q I)⟩
section
variable {K : KW} {ρ : Rho} {H : Hp} {a b : Addr}
theorem itR_tup {ds : List D} {xs : List V} (s : SqT K.k H a xs) (r : Rps K ρ H ds xs) : ItR K ρ H (.seq (.tup ds)) (Itt K.k a) := fun ρ' H' h' g hr i => by
  have s' := g.tup a xs s
  have r' := Rps.ext g ds r
  cases z : ds[i]? with
  | none =>
    rw [show itemAt (.seq (.tup ds)) i h' = some none by simp [itemAt, seqOf, z]]
    exact ⟨xs, s', by rw [← r'.length]; exact List.getElem?_eq_none_iff.mp z⟩
  | some d =>
    obtain ⟨v, e, q⟩ := r'.get z
    rw [show itemAt (.seq (.tup ds)) i h' = some (some d) by simp [itemAt, seqOf, z]]
    refine ⟨⟨xs, v, s', e⟩, fun x H'' y => ?_⟩
    obtain ⟨rfl, y⟩ := y
    have := y xs s'
    rw [e] at this; cases this
    exact ⟨ρ', Grow.refl _ _, hr, q⟩
theorem itR_cell {n : Nat} (e : ρ n = some a) : ItR K ρ H (.seq (.cell n)) (Itl K.k a) := fun ρ' H' h' g hr i => by
  have e' := g.rho _ _ e
  cases q : lstAt n h' with
  | none => rw [show itemAt (.seq (.cell n)) i h' = none by simp [itemAt, seqOf, q]]; trivial
  | some ds =>
    obtain ⟨b, xs, e1, e2, r, _⟩ := lstAt_ok hr q
    rw [e'] at e1; cases e1
    cases z : ds[i]? with
    | none =>
      rw [show itemAt (.seq (.cell n)) i h' = some none by simp [itemAt, seqOf, q, z]]
      exact ⟨xs, .inl (.inl e2), by rw [← r.length]; exact List.getElem?_eq_none_iff.mp z⟩
    | some d =>
      rw [show itemAt (.seq (.cell n)) i h' = some (some d) by simp [itemAt, seqOf, q, z]]
      obtain ⟨v, e3, q⟩ := r.get z
      refine ⟨⟨xs, v, .inl (.inl e2), e3⟩, fun x H'' y => ?_⟩
      obtain ⟨rfl, y⟩ := y
      have := y xs (.inl (.inl e2))
      rw [e3] at this; cases this
      exact ⟨ρ', Grow.refl _ _, hr, q⟩
theorem itR_rng {lo : Int} {n : Nat} : ItR K ρ H (.rng lo n) (Itr lo n) := fun ρ' H' h' g hr i => by
  cases z : Nat.blt i n with
  | true =>
    rw [show itemAt (.rng lo n) i h' = some (some (.int (lo + i))) by simp only [itemAt, z]]
    have : i < n := by simpa [Nat.blt_eq] using z
    refine ⟨this, fun x H'' y => ?_⟩
    obtain ⟨rfl, rfl⟩ := y
    exact ⟨ρ', Grow.refl _ _, hr, rp_int.mpr rfl⟩
  | false =>
    rw [show itemAt (.rng lo n) i h' = some none by simp only [itemAt, z]]
    have : ¬ i < n := fun q => by rw [← Nat.blt_eq] at q; rw [z] at q; cases q
    show n ≤ i
    omega
/-- a new pair for a turn -/
theorem pair_new {ρ' : Rho} {H' : Hp} {h' : AH} {d e : D} {v u : V} {p : Addr} (hr : HR K ρ' H' h') (np : H' p = none) (r : Rp K ρ' H' d v) (q : Rp K ρ' H' e u) :
    ∃ ρ'', Grow ρ' ρ'' H' (upd H' p (.tup [v, u])) ∧ HR K ρ'' (upd H' p (.tup [v, u])) h' ∧ Rp K ρ'' (upd H' p (.tup [v, u])) (.tup [d, e]) (.ref p) := by
  have g := grow_upd (o := .tup [v, u]) hr.live np
  refine ⟨ρ', g, hr.upd np, rp_tup.mpr ⟨p, _, rfl, .inl (.inl upd_same), ?_⟩⟩
  exact Rps.cons (Rp.grow hr.live g _ r) (Rps.cons (Rp.grow hr.live g _ q) (Rps.nil_iff.mpr rfl))
theorem itR_enumT {ds : List D} {xs : List V} (s : SqT K.k H a xs) (r : Rps K ρ H ds xs) : ItR K ρ H (.enum (.tup ds)) (IteT K.k a) := fun ρ' H' h' g hr i => by
  have s' := g.tup a xs s
  have r' := Rps.ext g ds r
  cases z : ds[i]? with
  | none =>
    rw [show itemAt (.enum (.tup ds)) i h' = some none by simp [itemAt, seqOf, z]]
    exact ⟨xs, s', by rw [← r'.length]; exact List.getElem?_eq_none_iff.mp z⟩
  | some d =>
    obtain ⟨v, e, q⟩ := r'.get z
    rw [show itemAt (.enum (.tup ds)) i h' = some (some (.tup [.int i, d])) by simp [itemAt, seqOf, z]]
    refine ⟨⟨xs, v, s', e⟩, fun x H'' y => ?_⟩
    obtain ⟨p, w, rfl, np, rfl, y⟩ := y
    have := y xs s'
    rw [e] at this; cases this
    exact pair_new hr np (rp_int.mpr rfl) q
theorem itR_enumL {n : Nat} (e : ρ n = some a) : ItR K ρ H (.enum (.cell n)) (Ite K.k a) := fun ρ' H' h' g hr i => by
  have e' := g.rho _ _ e
  cases q : lstAt n h' with
  | none => rw [show itemAt (.enum (.cell n)) i h' = none by simp [itemAt, seqOf, q]]; trivial
  | some ds =>
    obtain ⟨b, xs, e1, e2, r, _⟩ := lstAt_ok hr q
    rw [e'] at e1; cases e1
    cases z : ds[i]? with
    | none =>
      rw [show itemAt (.enum (.cell n)) i h' = some none by simp [itemAt, seqOf, q, z]]
      exact ⟨xs, .inl (.inl e2), by rw [← r.length]; exact List.getElem?_eq_none_iff.mp z⟩
    | some d =>
      rw [show itemAt (.enum (.cell n)) i h' = some (some (.tup [.int i, d])) by simp [itemAt, seqOf, q, z]]
      obtain ⟨v, e3, q⟩ := r.get z
      refine ⟨⟨xs, v, .inl (.inl e2), e3⟩, fun x H'' y => ?_⟩
      obtain ⟨p, w, rfl, np, rfl, y⟩ := y
      have := y xs (.inl (.inl e2))
      rw [e3] at this; cases this
      exact pair_new hr np (rp_int.mpr rfl) q
theorem itR_zipT {ds es : List D} {xs ys : List V} (s : SqT K.k H a xs) (r : Rps K ρ H ds xs) (s2 : SqT K.k H b ys) (r2 : Rps K ρ H es ys) : ItR K ρ H (.zip (.tup ds) (.tup es)) (RZ.ItzT K.k a b) := fun ρ' H' h' g hr i => by
  have s' := g.tup a xs s
  have r' := Rps.ext g ds r
  have s2' := g.tup b ys s2
  have r2' := Rps.ext g es r2
  cases z : ds[i]? with
  | none =>
    rw [show itemAt (.zip (.tup ds) (.tup es)) i h' = some none by simp [itemAt, seqOf, z]]
    exact ⟨xs, ys, s', s2', .inl (by rw [← r'.length]; exact List.getElem?_eq_none_iff.mp z)⟩
  | some d =>
    cases z2 : es[i]? with
    | none =>
      rw [show itemAt (.zip (.tup ds) (.tup es)) i h' = some none by simp [itemAt, seqOf, z, z2]]
      exact ⟨xs, ys, s', s2', .inr (by rw [← r2'.length]; exact List.getElem?_eq_none_iff.mp z2)⟩
    | some c =>
      rw [show itemAt (.zip (.tup ds) (.tup es)) i h' = some (some (.tup [d, c])) by simp [itemAt, seqOf, z, z2]]
      obtain ⟨v, e, q⟩ := r'.get z
      obtain ⟨u, e2, q2⟩ := r2'.get z2
      refine ⟨⟨xs, ys, v, u, s', s2', e, e2⟩, fun x H'' y => ?_⟩
      obtain ⟨p, w, w2, rfl, np, rfl, y, y2⟩ := y
      have := y xs s'
      rw [e] at this; cases this
      have := y2 ys s2'
      rw [e2] at this; cases this
      exact pair_new hr np q q2
theorem itR_zipL {m n : Nat} (e : ρ m = some a) (e2 : ρ n = some b) : ItR K ρ H (.zip (.cell m) (.cell n)) (Itz K.k a b) := fun ρ' H' h' g hr i => by
  have e' := g.rho _ _ e
  have e2' := g.rho _ _ e2
  cases q : lstAt m h' with
  | none => rw [show itemAt (.zip (.cell m) (.cell n)) i h' = none by simp [itemAt, seqOf, q]]; trivial
  | some ds =>
    cases q2 : lstAt n h' with
    | none => rw [show itemAt (.zip (.cell m) (.cell n)) i h' = none by simp [itemAt, seqOf, q, q2]]; trivial
    | some es =>
      obtain ⟨b1, xs, f1, f2, r, _⟩ := lstAt_ok hr q
      rw [e'] at f1; cases f1
      obtain ⟨b2, ys, g1, g2, r2, _⟩ := lstAt_ok hr q2
      rw [e2'] at g1; cases g1
      cases z : ds[i]? with
      | none =>
        rw [show itemAt (.zip (.cell m) (.cell n)) i h' = some none by simp [itemAt, seqOf, q, q2, z]]
        exact ⟨xs, ys, .inl (.inl f2), .inl (.inl g2), .inl (by rw [← r.length]; exact List.getElem?_eq_none_iff.mp z)⟩
      | some d =>
        cases z2 : es[i]? with
        | none =>
          rw [show itemAt (.zip (.cell m) (.cell n)) i h' = some none by simp [itemAt, seqOf, q, q2, z, z2]]
          exact ⟨xs, ys, .inl (.inl f2), .inl (.inl g2), .inr (by rw [← r2.length]; exact List.getElem?_eq_none_iff.mp z2)⟩
        | some c =>
          rw [show itemAt (.zip (.cell m) (.cell n)) i h' = some (some (.tup [d, c])) by simp [itemAt, seqOf, q, q2, z, z2]]
          obtain ⟨v, e3, p1⟩ := r.get z
          obtain ⟨u, e4, p2⟩ := r2.get z2
          refine ⟨⟨xs, ys, v, u, .inl (.inl f2), .inl (.inl g2), e3, e4⟩, fun x H'' y => ?_⟩
          obtain ⟨p, w, w2, rfl, np, rfl, y, y2⟩ := y
          have := y xs (.inl (.inl f2))
          rw [e3] at this; cases this
          have := y2 ys (.inl (.inl g2))
          rw [e4] at this; cases this
          exact pair_new hr np p1 p2
end
section
variable {X : Cx} {T : XT} {W : WX} {tg e : Expr} {f : DE} {p pos tpos : Pos}
def isTup : D → Bool
  | .tup _ => true
  | _ => false
def isSq (d : D) (h : AH) : Bool := match seqOf d h with
  | some _ => true
  | none => false
def iSeq (f : DE) : DI := fun s h => (f s h).bind fun d h1 => chk (isSq d h1) (.ok (.seq d) h1)
theorem isSq_cell {K : KW} {ρ : Rho} {H : Hp} {h : AH} {n : Nat} (hr : HR K ρ H h) (c : isSq (.cell n) h = true) : ∃ a xs, ρ n = some a ∧ H a = some (.lst xs) := by
  unfold isSq at c
  cases q : seqOf (.cell n) h with
  | none => rw [q] at c; cases c
  | some ds =>
    obtain ⟨a, xs, e1, e2, _⟩ := lstAt_ok hr (show lstAt n h = some ds from q)
    exact ⟨a, xs, e1, e2⟩
theorem si_seq (he : SE X T W e f) : SI X T W tg e (iSeq f) := ⟨PI.imp (PI.or (pi_tup he.p) (pi_list he.p)) fun σ H Q ⟨ρ, s, h, st, hr, q⟩ => by
  have q := q.bind
  cases z : f s h with
  | no => rw [z] at q; exact q.elim
  | ex e h1 => rw [z] at q; exact .inl ⟨ρ, s, h, st, hr, by rw [z]; exact q⟩
  | ok d h1 =>
    rw [z] at q
    by_cases c : isTup d = true
    · refine .inl ⟨ρ, s, h, st, hr, ?_⟩
      rw [z]
      intro ρ1 H1 g1 hr1 v r1
      obtain ⟨_, q1⟩ := (q ρ1 H1 g1 hr1).chk
      cases d with
      | tup ds =>
        obtain ⟨a, xs, e1, s1, r⟩ := rp_tup.mp r1
        exact ⟨a, e1, ⟨xs, s1⟩, q1.here hr1 _ (itR_tup s1 r)⟩
      | _ => cases c
    · refine .inr ⟨ρ, s, h, st, hr, ?_⟩
      rw [z]
      intro ρ1 H1 g1 hr1 v r1
      obtain ⟨c2, q1⟩ := (q ρ1 H1 g1 hr1).chk
      cases d with
      | cell n =>
        obtain ⟨a, e1, e2⟩ := rp_cell.mp r1
        obtain ⟨b, xs, e3, e4⟩ := isSq_cell hr1 c2
        rw [e2] at e3; cases e3
        exact ⟨a, e1, ⟨xs, .inl (.inl e4)⟩, q1.here hr1 _ (itR_cell e2)⟩
      | tup ds => exact absurd rfl c
      | _ => cases c2⟩
/-- a number that a range takes -/
def small62 (i : Int) : Bool := Nat.ble i.natAbs 1000000000000
theorem small62_ok {i : Int} (h : small62 i = true) : -(2 ^ 62) ≤ i ∧ i < 2 ^ 62 := by
  have := Nat.le_of_ble_eq_true h
  have e : (2 : Int) ^ 62 = 4611686018427387904 := by decide
  omega
def arg1 : List D → Option D
  | [] => none
  | d :: r => match r with
    | [] => some d
    | _ :: _ => none
def arg2 : List D → Option (D × D)
  | [] => none
  | d :: r => match arg1 r with
    | some e => some (d, e)
    | none => none
theorem arg1_ok {K : KW} {ρ : Rho} {H : Hp} {ds : List D} {d : D} {vs : List V} (r : Rps K ρ H ds vs) (e : arg1 ds = some d) : ∃ v, vs = [v] ∧ Rp K ρ H d v := by
  cases ds with
  | nil => cases e
  | cons c ds =>
    cases ds with
    | nil =>
      cases e
      obtain ⟨v, q, rfl, rv, r1⟩ := Rps.cons_iff.mp r
      have := Rps.nil_iff.mp r1; subst this
      exact ⟨v, rfl, rv⟩
    | cons _ _ => cases e
theorem arg2_ok {K : KW} {ρ : Rho} {H : Hp} {ds : List D} {d : D × D} {vs : List V} (r : Rps K ρ H ds vs) (e : arg2 ds = some d) : ∃ v u, vs = [v, u] ∧ Rp K ρ H d.1 v ∧ Rp K ρ H d.2 u := by
  cases ds with
  | nil => cases e
  | cons c ds =>
    unfold arg2 at e
    cases z : arg1 ds with
    | none => simp only [z] at e; cases e
    | some b =>
      simp only [z] at e; cases e
      obtain ⟨v, q, rfl, rv, r1⟩ := Rps.cons_iff.mp r
      obtain ⟨u, rfl, ru⟩ := arg1_ok r1 z
      exact ⟨v, u, rfl, rv, ru⟩
def intD : D → Option Int
  | .int i => some i
  | _ => none
theorem intD_ok {K : KW} {ρ : Rho} {H : Hp} {d : D} {i : Int} {v : V} (r : Rp K ρ H d v) (e : intD d = some i) : v = .int i := by
  cases d <;> first | (cases e; exact rp_int.mp r) | cases e
def iR1 (fa : DA) : DI := fun s h => (fa s h).bind fun ds h1 => withS (arg1 ds) fun d => withS (intD d) fun j => chk (small62 j) (.ok (.rng 0 j.toNat) h1)
def iR2 (fa : DA) : DI := fun s h => (fa s h).bind fun ds h1 => withS (arg2 ds) fun d => withS (intD d.1) fun i => withS (intD d.2) fun j => chk (small62 i && small62 j) (.ok (.rng i (j - i).toNat) h1)
theorem si_range1 {a : Expr} {fa : DA} (hg : Gl X "range") (hm : X.mg "range" = none) (ha : SA X T W [a] fa) (hs : starEach [a] X.env = [(false, eval a X.env)] := by rfl) : SI X T W tg (.Call (.Name "range" p) [a] [] pos) (iR1 fa) :=
  ⟨PI.imp (pi_range1 hg hm ha.p hs) fun σ H Q ⟨ρ, s, h, st, hr, q⟩ => tDA_bind st hr q fun ds h1 ρ1 H1 vs g1 hr1 st1 r1 q1 => by
    obtain ⟨d, e1, q1⟩ := q1.withS
    obtain ⟨j, e2, q1⟩ := q1.withS
    obtain ⟨c, q1⟩ := q1.chk
    obtain ⟨v, rfl, rv⟩ := arg1_ok r1 e1
    obtain ⟨c1, c2⟩ := small62_ok c
    exact ⟨j, by rw [intD_ok rv e2], c1, c2, q1.here hr1 _ itR_rng⟩⟩
theorem si_range2 {a b : Expr} {fa : DA} (hg : Gl X "range") (hm : X.mg "range" = none) (ha : SA X T W [a, b] fa) (hs : starEach [a, b] X.env = [(false, eval a X.env), (false, eval b X.env)] := by rfl) (hs2 : starEach [b] X.env = [(false, eval b X.env)] := by rfl) :
    SI X T W tg (.Call (.Name "range" p) [a, b] [] pos) (iR2 fa) :=
  ⟨PI.imp (pi_range2 hg hm ha.p hs hs2) fun σ H Q ⟨ρ, s, h, st, hr, q⟩ => tDA_bind st hr q fun ds h1 ρ1 H1 vs g1 hr1 st1 r1 q1 => by
    obtain ⟨d, e1, q1⟩ := q1.withS
    obtain ⟨i, e2, q1⟩ := q1.withS
    obtain ⟨j, e3, q1⟩ := q1.withS
    obtain ⟨c, q1⟩ := q1.chk
    obtain ⟨v, u, rfl, rv, ru⟩ := arg2_ok r1 e1
    obtain ⟨c1, c2⟩ := Bool.and_eq_true_iff.mp c
    obtain ⟨b1, b2⟩ := small62_ok c1
    obtain ⟨b3, b4⟩ := small62_ok c2
    exact ⟨i, j, by rw [intD_ok rv e2, intD_ok ru e3], ⟨b1, b2, b3, b4⟩, q1.here hr1 _ itR_rng⟩⟩
/-! enumerate -/
def iEnumT (K : PySem.W.Frag) (ta : TA) : TI := fun σ H R => ta σ H fun vs H1 => ∃ a xs, vs = [.ref a] ∧ SqT K H1 a xs ∧ R (IteT K a) H1
theorem pi_enumT {e : Expr} {ta : TA} {els : List Expr} {kk : Nat} (hg : Gl X "enumerate") (hm : X.mg "enumerate" = none) (ha : PA X [e] ta) (hs : starEach [e] X.env = [(false, eval e X.env)] := by rfl) :
    PI X (.Tuple els kk tpos) (.Call (.Name "enumerate" p) [e] [] pos) (iEnumT X.K ta) := by
  refine ⟨fun pins s σ H Rr I hyp => ?_⟩
  refine Call_ (ld_blt I hg hm boot_enumerate (PyProof.Rows.callWith_type1 (thn (ha.run pos pins s σ H _ I hyp) fun us s1 ⟨vs, H1, I1, r1, q1⟩ => ?_) hs rfl))
  obtain ⟨a, xs, ex, hq, q⟩ := q1
  subst ex
  obtain ⟨u, rfl, ru⟩ := vals1 r1
  cases ru
  obtain ⟨its, rv, p', _⟩ := I1.tuple hq
  refine callEnumT (show s1.heap.IsTuple a its.toArray from p') fun h' he hit hk => wpAny_pyIter_enum he ?_
  have I2 : Inv X pins σ H1 { s1 with heap := h' } := I1.kept (t' := s1.toks) hk
  refine ⟨s1.heap.objs.size + 1, [s1.heap.objs.size + 1, s1.heap.objs.size], _, _, H1, rfl, I2, turnEnumT a (s1.heap.objs.size + 1) s1.heap.objs.size, ⟨⟨.none, he⟩, hit, Nat.succ_ne_self _⟩, fun b hb => ?_, q⟩
  have le : s1.heap.objs.size ≤ b := by
    rcases (by simpa using hb : b = s1.heap.objs.size + 1 ∨ b = s1.heap.objs.size) with z | z
    · rw [z]; exact Nat.le_succ _
    · rw [z]; exact Nat.le_refl _
  exact I1.fpOk le (I1.hok.fresh le)
def iEnumD (fa : DA) : DI := fun s h => (fa s h).bind fun ds h1 => withS (arg1 ds) fun d => chk (isSq d h1) (.ok (.enum d) h1)
theorem si_enum {e : Expr} {fa : DA} {els : List Expr} {kk : Nat} (hg : Gl X "enumerate") (hm : X.mg "enumerate" = none) (ha : SA X T W [e] fa) (hs : starEach [e] X.env = [(false, eval e X.env)] := by rfl) :
    SI X T W (.Tuple els kk tpos) (.Call (.Name "enumerate" p) [e] [] pos) (iEnumD fa) :=
  ⟨PI.imp (PI.or (pi_enumT hg hm ha.p hs) (pi_enum hg hm ha.p hs)) fun σ H Q ⟨ρ, s, h, st, hr, q⟩ => by
    have q := q.bind
    cases z : fa s h with
    | no => rw [z] at q; exact q.elim
    | ex e h1 => rw [z] at q; exact .inl ⟨ρ, s, h, st, hr, by rw [z]; exact q⟩
    | ok ds h1 =>
      rw [z] at q
      cases y : arg1 ds with
      | none => exact .inl ⟨ρ, s, h, st, hr, by
          rw [z]
          exact fun ρ1 H1 g1 hr1 vs r1 => by
            obtain ⟨_, e', _⟩ := (Post.withS (q ρ1 H1 g1 hr1))
            rw [y] at e'; cases e'⟩
      | some d =>
        by_cases c : isTup d = true
        · refine .inl ⟨ρ, s, h, st, hr, ?_⟩
          rw [z]
          intro ρ1 H1 g1 hr1 vs r1
          obtain ⟨d', e', q1⟩ := Post.withS (q ρ1 H1 g1 hr1)
          rw [y] at e'; cases e'
          obtain ⟨_, q1⟩ := q1.chk
          obtain ⟨v, rfl, rv⟩ := arg1_ok r1 y
          cases d with
          | tup es =>
            obtain ⟨a, xs, rfl, s1, r⟩ := rp_tup.mp rv
            exact ⟨a, xs, rfl, s1, q1.here hr1 _ (itR_enumT s1 r)⟩
          | _ => cases c
        · refine .inr ⟨ρ, s, h, st, hr, ?_⟩
          rw [z]
          intro ρ1 H1 g1 hr1 vs r1
          obtain ⟨d', e', q1⟩ := Post.withS (q ρ1 H1 g1 hr1)
          rw [y] at e'; cases e'
          obtain ⟨c2, q1⟩ := q1.chk
          obtain ⟨v, rfl, rv⟩ := arg1_ok r1 y
          cases d with
          | cell n =>
            obtain ⟨a, rfl, e2⟩ := rp_cell.mp rv
            obtain ⟨b, xs, e3, e4⟩ := isSq_cell hr1 c2
            rw [e2] at e3; cases e3
            exact ⟨a, xs, rfl, .inl (.inl e4), q1.here hr1 _ (itR_enumL e2)⟩
          | tup es => exact absurd rfl c
          | _ => cases c2⟩
/-! zip -/
def iZipD (fa : DA) : DI := fun s h => (fa s h).bind fun ds h1 => withS (arg2 ds) fun d => chk ((isTup d.1 && isTup d.2) || (!isTup d.1 && !isTup d.2 && isSq d.1 h1 && isSq d.2 h1)) (.ok (.zip d.1 d.2) h1)
theorem si_zip {e e2 : Expr} {fa : DA} {els : List Expr} {kk : Nat} (hg : Gl X "zip") (hm : X.mg "zip" = none) (ha : SA X T W [e, e2] fa)
    (hs : starEach [e, e2] X.env = (false, eval e X.env) :: starEach [e2] X.env := by rfl) (hs2 : (backTo pos (starEach [e2] X.env)).any (·.1) = false := by rfl) :
    SI X T W (.Tuple els kk tpos) (.Call (.Name "zip" p) [e, e2] [] pos) (iZipD fa) :=
  ⟨PI.imp (RZ.pi_zipA hg hm ha.p hs hs2) fun σ H Q ⟨ρ, s, h, st, hr, q⟩ => tDA_bind st hr q fun ds h1 ρ1 H1 vs g1 hr1 st1 r1 q1 => by
    obtain ⟨d, e1, q1⟩ := q1.withS
    obtain ⟨c, q1⟩ := q1.chk
    obtain ⟨v, u, rfl, rv, ru⟩ := arg2_ok r1 e1
    obtain ⟨x, y⟩ := d
    rcases Bool.or_eq_true_iff.mp c with c | c
    · obtain ⟨c1, c2⟩ := Bool.and_eq_true_iff.mp c
      cases x <;> first | cases c1 | skip
      cases y <;> first | cases c2 | skip
      obtain ⟨a, xs, rfl, s1, p1⟩ := rp_tup.mp rv
      obtain ⟨b, ys, rfl, s2, p2⟩ := rp_tup.mp ru
      exact ⟨a, b, xs, ys, rfl, .inr ⟨s1, s2, q1.here hr1 _ (itR_zipT s1 p1 s2 p2)⟩⟩
    · simp only [Bool.and_eq_true, Bool.not_eq_true'] at c
      obtain ⟨⟨⟨c1, c2⟩, c3⟩, c4⟩ := c
      cases x with
      | cell m =>
        cases y with
        | cell n =>
          obtain ⟨a, rfl, e2⟩ := rp_cell.mp rv
          obtain ⟨b, rfl, e3⟩ := rp_cell.mp ru
          obtain ⟨a', xs, f1, f2⟩ := isSq_cell hr1 c3
          obtain ⟨b', ys, f3, f4⟩ := isSq_cell hr1 c4
          rw [e2] at f1; cases f1
          rw [e3] at f3; cases f3
          exact ⟨a, b, xs, ys, rfl, .inl ⟨.inl (.inl f2), .inl (.inl f4), q1.here hr1 _ (itR_zipL e2 e3)⟩⟩
        | tup _ => cases c2
        | _ => cases c4
      | tup _ => cases c1
      | _ => cases c3⟩

/-! ## for -/
variable {g : DS} {dg : DG} {ws : List Nat}
def gFor (it : ItD) (dg : DG) (g : DS) : Nat → Nat → DS
  | 0, _ => fun _ _ => .no
  | k + 1, i => fun s h => match itemAt it i h with
    | none => .no
    | some none => .nx s h
    | some (some d) => match dg d s h with
      | none => .no
      | some p => match g p.1 p.2 with
        | .nx s2 h2 => gFor it dg g k (i + 1) s2 h2
        | .ct s2 h2 => gFor it dg g k (i + 1) s2 h2
        | .bk s2 h2 => .nx s2 h2
        | .rt d h2 => .rt d h2
        | .ex e s2 h2 => .ex e s2 h2
        | .no => .no
def gForI (f : DI) (dg : DG) (g : DS) (n : Nat) : DS := fun s h => bindS (f s h) s fun it h1 => gFor it dg g n 0 s h1
theorem s_for {iter : Expr} {body : List Stmt} {fi : DI} (n : Nat) (hp : PassesOwn (model X.prog X.w) X.A X.env X.xe) (hc : X.calm = true) (hi : SI X T W tg iter fi) (hg : SG X tg ws dg) (hb : SSs X T W body g)
    (hs : ∀ x, foldedSetIterable iter X.env x = pure x := by intro _; rfl) : SS X T W (.For tg iter body [] pos) (gForI fi dg g n) :=
  ⟨PS.imp (ps_for hp hc hi.p hg.p hb.p hs) fun Ds σ H ⟨ρ, s, h, st, hr, q⟩ => by
    refine ⟨ρ, s, h, st, hr, (PostS.bind hr st q).mono fun it h1 ρ1 H1 _ g1 hr1 q1 J ij => ?_⟩
    refine ⟨fun i m σ H => ∃ ρ s h, Grow ρ1 ρ H1 H ∧ StR (kwOf X) ρ H σ s ∧ HR (kwOf X) ρ H h ∧ PostS (kwOf X) T W ρ H (gFor it dg g m i s h) Ds, ⟨n, ρ1, s, h1, Grow.refl _ _, st.grow hr.live g1, hr1, q1⟩, ?_⟩
    rintro i m σ2 H2 ⟨ρ2, s2, h2, g2, st2, hr2, q2⟩
    cases m with
    | zero => exact q2.elim
    | succ k =>
      unfold gFor at q2
      have io := ij ρ2 H2 h2 (g2.ext hr1.live) hr2 i
      cases z : itemAt it i h2 with
      | none => simp only [z] at q2; exact q2.elim
      | some o =>
        cases o with
        | none =>
          simp only [z] at q2
          rw [z] at io
          exact .inl ⟨io, PostS.here q2 hr2 st2⟩
        | some d =>
          simp only [z] at q2
          rw [z] at io
          obtain ⟨go, step⟩ := io
          refine .inr ⟨go, fun σ' H' => ∃ ρ s h, Grow ρ1 ρ H1 H' ∧ StR (kwOf X) ρ H' σ' s ∧ HR (kwOf X) ρ H' h ∧ PostS (kwOf X) T W ρ H' (gFor it dg g k (i + 1) s h) Ds, fun σ' H' hN => ⟨k, Nat.lt_succ_self k, hN⟩, fun x H3 y => ?_⟩
          obtain ⟨ρ3, g3, hr3, rx⟩ := step x H3 y
          refine ⟨ρ3, s2, h2, d, st2.grow hr2.live g3, hr3, rx, ?_⟩
          cases z2 : dg d s2 h2 with
          | none => simp only [z2] at q2; exact q2.elim
          | some pr =>
            simp only [z2] at q2
            intro ρ4 H4 σ4 g4 hr4 st4 _
            have g04 := (g2.trans hr2.live g3).trans hr3.live g4
            refine ⟨ρ4, pr.1, pr.2, st4, hr4, ?_⟩
            have q4 := PostS.grow hr4.live (g3.trans hr3.live g4) q2
            cases z3 : g pr.1 pr.2 with
            | nx s5 h5 => simp only [z3] at q4; exact fun ρ5 H5 σ5 g5 hr5 st5 => ⟨ρ5, s5, h5, g04.trans hr4.live g5, st5, hr5, PostS.grow hr5.live g5 q4⟩
            | ct s5 h5 => simp only [z3] at q4; exact fun ρ5 H5 σ5 g5 hr5 st5 => ⟨ρ5, s5, h5, g04.trans hr4.live g5, st5, hr5, PostS.grow hr5.live g5 q4⟩
            | bk s5 h5 => simp only [z3] at q4; exact q4
            | rt d h5 => simp only [z3] at q4; exact q4
            | ex e s5 h5 => simp only [z3] at q4; exact q4
            | no => simp only [z3] at q4; exact q4⟩
end
end Nc
namespace Nc
open PySem PySem.Spec PyProof.Rows L2

/-- no exception is wished for -/
def W0 : WX := fun _ _ _ _ => False
section
variable {K : KW} {ρ ρ' ρ1 : Rho} {H H' H1 : Hp} {h : AH} {A : Addr}
theorem sqT_updL {xs0 : List V} {o : HO} (hA : H A = some (.lst xs0)) : ∀ a xs, SqT K.k H a xs → SqT K.k (upd H A o) a xs := fun a xs s => by
  rcases s with (s | ⟨ob, s⟩) | s
  · exact .inl (.inl (by rw [upd_ne (ne_of s hA (by intro z; cases z))]; exact s))
  · exact .inl (.inr ⟨ob, by rw [upd_ne (ne_of s hA (by intro z; cases z))]; exact s⟩)
  · exact .inr s
theorem sqF_updL {xs0 : List V} {o : HO} (hA : H A = some (.lst xs0)) : ∀ a xs, SqF K.k H a xs → SqF K.k (upd H A o) a xs := fun a xs s => by
  rcases s with ⟨ob, s⟩ | s
  · exact .inl ⟨ob, by rw [upd_ne (ne_of s hA (by intro z; cases z))]; exact s⟩
  · exact .inr s
theorem ext_updL {xs0 : List V} {o : HO} (hA : H A = some (.lst xs0)) : Ext K ρ ρ H (upd H A o) := ⟨fun _ _ z => z, sqT_updL hA, sqF_updL hA, fun b o u h => by rw [upd_ne (fun z => by rw [z, hA] at h; cases h)]; exact h⟩
theorem HR.updL {xs0 xs : List V} (hr : HR K ρ H h) (hA : H A = some (.lst xs0)) (nA : ∀ n, ρ n ≠ some A) : HR K ρ (L2.upd H A (.lst xs)) h := by
  have ne : ∀ n a, ρ n = some a → a ≠ A := fun n a e z => nA n (z ▸ e)
  refine ⟨hr.inj, hr.top, fun n a e => ?_, fun n c e => ?_⟩
  · rw [upd_ne (ne n a e)]; exact hr.live n a e
  · obtain ⟨a, e1, q⟩ := hr.at_ n c e
    exact ⟨a, e1, q.ext (ext_updL hA) (upd_ne (ne n a e1))⟩
theorem Grow.updL {o : HO} (g : Grow ρ1 ρ H1 H) (n1 : H1 A = none) : Grow ρ1 ρ H1 (upd H A o) :=
  ⟨g.rho, g.new, fun a o' e hn => by rw [upd_ne (ne_of_none e n1)]; exact g.keep a o' e hn, fun a o' u e => by rw [upd_ne (ne_of_none e n1)]; exact g.frz a o' u e⟩
theorem HR.adopt {xs : List V} {ds : List D} (hr : HR K ρ H h) (hA : H A = some (.lst xs)) (nA : ∀ n, ρ n ≠ some A) (r : Rps K ρ H ds xs) : HR K (rhoAdd ρ h.new A) H (h.add (.lst ds)) := by
  have mm : ∀ n a, ρ n = some a → rhoAdd ρ h.new A n = some a := fun n a e => by
    unfold rhoAdd
    by_cases q : n = h.new
    · subst q; rw [hr.top _ (Nat.le_refl _)] at e; cases e
    · rw [if_neg q]; exact e
  refine ⟨fun n m a e1 e2 => ?_, fun n hn => ?_, fun n a e => ?_, fun n c e => ?_⟩
  · unfold rhoAdd at e1 e2
    by_cases q1 : n = h.new <;> by_cases q2 : m = h.new
    · rw [q1, q2]
    · rw [if_pos q1] at e1; rw [if_neg q2] at e2; cases e1; exact absurd e2 (nA _)
    · rw [if_neg q1] at e1; rw [if_pos q2] at e2; cases e2; exact absurd e1 (nA _)
    · rw [if_neg q1] at e1; rw [if_neg q2] at e2; exact hr.inj _ _ _ e1 e2
  · have z : AH.new (AH.add (.lst ds) h) = h.new + 1 := rfl
    rw [z] at hn
    unfold rhoAdd
    rw [if_neg (by omega)]
    exact hr.top n (by omega)
  · unfold rhoAdd at e
    by_cases q : n = h.new
    · rw [if_pos q] at e; cases e; rw [hA]; trivial
    · rw [if_neg q] at e; exact hr.live n a e
  · rw [AH.get_add] at e
    by_cases q : h.new = n
    · rw [if_pos q] at e; cases e
      refine ⟨A, ?_, xs, hA, Rps.ext ⟨mm, fun _ _ z => z, fun _ _ z => z, fun _ _ _ z => z⟩ ds r⟩
      unfold rhoAdd; rw [if_pos q.symm]
    · rw [if_neg q] at e
      obtain ⟨a, e1, qq⟩ := hr.at_ n c e
      exact ⟨a, mm n a e1, qq.ext ⟨mm, fun _ _ z => z, fun _ _ z => z, fun _ _ _ z => z⟩ rfl⟩
theorem Grow.adopt (hr : HR K ρ H h) (g : Grow ρ1 ρ H1 H) (n1 : H1 A = none) : Grow ρ1 (rhoAdd ρ h.new A) H1 H := by
  refine ⟨fun n a e => ?_, fun n a e e0 => ?_, g.keep, g.frz⟩
  · have e := g.rho n a e
    unfold rhoAdd
    by_cases q : n = h.new
    · subst q; rw [hr.top _ (Nat.le_refl _)] at e; cases e
    · rw [if_neg q]; exact e
  · unfold rhoAdd at e
    by_cases q : n = h.new
    · rw [if_pos q] at e; cases e; exact n1
    · rw [if_neg q] at e; exact g.new n a e e0
/-- what grows leaves a list alone that is no cell -/
theorem Grow.acc {xs : List V} (g : Grow ρ ρ' H H') (hA : H A = some (.lst xs)) (nA : ∀ n, ρ n ≠ some A) : H' A = some (.lst xs) ∧ ∀ n, ρ' n ≠ some A :=
  ⟨g.keep A _ hA nA, fun n e => by
    cases q : ρ n with
    | some b => have := g.rho n b q; rw [e] at this; cases this; exact nA n q
    | none => have := g.new n A e q; rw [hA] at this; cases this⟩
end
def wipeD (s : DSt) : List Nat → DSt
  | [] => s
  | v :: vs => (wipeD s vs).set v none
theorem StR.wipe {K : KW} {ρ : Rho} {H : Hp} {σ : L2.St} {s : DSt} (r : StR K ρ H σ s) : ∀ vs : List Nat, StR K ρ H (L2.wipe σ vs) (wipeD s vs)
  | [] => r
  | v :: vs => by
    have ih := StR.wipe r vs
    unfold L2.wipe wipeD
    refine ⟨by simp [ih.len], fun i d e => ?_⟩
    by_cases q : i = v
    · subst q
      rw [List.getElem?_set] at e
      simp only [if_true] at e
      split at e <;> cases e
    · rw [List.getElem?_set_ne (Ne.symm q)] at e
      obtain ⟨w, e1, r1⟩ := ih.at_ i d e
      exact ⟨w, by rw [List.getElem?_set_ne (Ne.symm q)]; exact e1, r1⟩
theorem wipe_none (σ : L2.St) {i : Nat} : ∀ {vs : List Nat}, i ∈ vs → (L2.wipe σ vs).set i none = L2.wipe σ vs
  | v :: vs, hm => by
    unfold L2.wipe
    by_cases e : i = v
    · subst e; rw [List.set_set]
    · have hm : i ∈ vs := by rcases List.mem_cons.mp hm with z | z; exact absurd z e; exact z
      rw [List.set_comm _ _ (Ne.symm e), wipe_none σ hm]
theorem wipe_self (σ : L2.St) (vs : List Nat) : ∀ us : List Nat, (∀ i ∈ us, i ∈ vs) → L2.wipe (L2.wipe σ vs) us = L2.wipe σ vs
  | [], _ => rfl
  | u :: us, hu => by
    show (L2.wipe (L2.wipe σ vs) us).set u none = _
    rw [wipe_self σ vs us fun i hi => hu i (List.mem_cons_of_mem _ hi)]
    exact wipe_none σ (hu u List.mem_cons_self)
/-- an exception is not foreseen here -/
def noX {α : Type} : R α → R α
  | .ok a h => .ok a h
  | _ => .no
theorem noX_ok {α : Type} {K : KW} {T : XT} {E E' : XK} {ρ : Rho} {H : Hp} {r : R α} {q : α → AH → Rho → Hp → Prop} (p : Post K T E ρ H (noX r) q) : Post K T E' ρ H r q := by
  cases r with
  | ok a h => exact p
  | ex e h => exact p.elim
  | no => exact p.elim
structure STs (X : Cx) (T : XT) (W : WX) (es : List Expr) (f : DB) : Prop where
  p : PTs X es (tDB (kwOf X) T W f)
theorem PTs.imp {X : Cx} {e : List Expr} {t t' : TT} (h : PTs X e t) (m : ∀ σ H Q, t' σ H Q → t σ H Q) : PTs X e t' := ⟨fun pins s σ H Q I q => h.run pins s σ H Q I (m σ H Q q)⟩
def dYes : DB := fun _ h => .ok true h
theorem sts_nil {X : Cx} {T : XT} {W : WX} : STs X T W [] dYes := ⟨PTs.imp pts_nil fun σ H Q ⟨ρ, s, h, st, hr, q⟩ => q.here hr⟩
theorem sts_one {X : Cx} {T : XT} {W : WX} {c : Expr} {f : DB} (h : ST X T W c f) : STs X T W [c] f := ⟨pts_one h.p⟩

/-- the loop of a comprehension, the list that grows told backwards -/
def lcLoop (it : ItD) (dg : DG) (test : DB) (elt : DE) (s : DSt) : Nat → Nat → List D → AH → R (List D)
  | 0, _, _, _ => .no
  | k + 1, i, acc, h => match itemAt it i h with
    | none => .no
    | some none => .ok acc h
    | some (some d) => match dg d s h with
      | none => .no
      | some p => (noX (test p.1 p.2)).bind fun b h3 => match b with
        | false => lcLoop it dg test elt s k (i + 1) acc h3
        | true => (noX (elt p.1 h3)).bind fun y h4 => lcLoop it dg test elt s k (i + 1) (y :: acc) h4
def dLc (fi : DI) (dg : DG) (test : DB) (elt : DE) (vs : List Nat) (n : Nat) : DE := fun s h => (fi s h).bind fun it h1 => (lcLoop it dg test elt (wipeD s vs) n 0 [] h1).bind fun acc h2 => mkL acc.reverse h2
section
variable {X : Cx} {T : XT} {W : WX} {tg iter elt : Expr} {ifs : List Expr} {fi : DI} {dg : DG} {ws : List Nat} {ft : DB} {fe : DE}
/-- the comprehension's reading, by data -/
theorem lc_imp {vs : List Nat} (n : Nat) (hn : n ≤ lim) (hv : ∀ i ∈ ws, i ∈ vs) : ∀ σ H Q, tD (kwOf X) T W (dLc fi dg ft fe vs n) σ H Q → tLc (tI (kwOf X) T W fi) (tG (kwOf X) ws dg) (tDB (kwOf X) T W0 ft) (tD (kwOf X) T W0 fe) vs σ H Q := fun σ H Q ⟨ρ, s, h, st, hr, q⟩ => by
  refine ⟨ρ, s, h, st, hr, q.bind.mono fun it h1 ρ1 H1 _ g1 hr1 q1 J ij => ?_⟩
  intro A nA
  have st1 := (st.grow hr.live g1).wipe vs
  have lz : n < sizeLine := by
    have : lim < sizeLine := by rw [sizeLine_eq]; decide
    omega
  refine ⟨fun i m H2 => ∃ ρ2 h2 acc xs, m + i = n ∧ acc.length ≤ i ∧ Grow ρ1 ρ2 H1 H2 ∧ HR (kwOf X) ρ2 H2 h2 ∧ (∀ k, ρ2 k ≠ some A) ∧ H2 A = some (.lst xs) ∧ Rps (kwOf X) ρ2 H2 acc.reverse xs ∧
    Post (kwOf X) T (at_ W σ) ρ1 H1 ((lcLoop it dg ft fe (wipeD s vs) m i acc h2).bind fun acc h2 => mkL acc.reverse h2) fun d _ ρ' H' => ∀ v, Rp (kwOf X) ρ' H' d v → Q v H', ⟨n, ρ1, h1, [], [], rfl, Nat.le_refl _, (Grow.refl ρ1 H1).updL nA, hr1.upd nA, fun k e => ?_, upd_same, Rps.nil_iff.mpr rfl, q1⟩, ?_⟩
  · have := hr1.live k A e
    rw [nA] at this; exact this
  · rintro i m H2 ⟨ρ2, h2, acc, xs, hm, ha, g2, hr2, nA2, eA, ra, q2⟩
    cases m with
    | zero => exact q2.elim
    | succ k =>
      unfold lcLoop at q2
      have io := ij ρ2 H2 h2 (g2.ext hr1.live) hr2 i
      cases z : itemAt it i h2 with
      | none => simp only [z] at q2; exact q2.elim
      | some o =>
        cases o with
        | none =>
          simp only [z] at q2
          rw [z] at io
          refine .inl ⟨io, ?_⟩
          obtain ⟨c, q3⟩ := Post.chk (show Post (kwOf X) T (at_ W σ) ρ1 H1 (mkL acc.reverse h2) _ from q2)
          exact q3 _ _ (Grow.adopt hr2 g2 nA) (hr2.adopt eA nA2 ra) _ (rp_cell.mpr ⟨A, rfl, rhoAdd_same⟩)
        | some d =>
          simp only [z] at q2
          rw [z] at io
          obtain ⟨go, step⟩ := io
          refine .inr ⟨go, fun H' => ∃ ρ2 h2 acc xs, k + (i + 1) = n ∧ acc.length ≤ i + 1 ∧ Grow ρ1 ρ2 H1 H' ∧ HR (kwOf X) ρ2 H' h2 ∧ (∀ k, ρ2 k ≠ some A) ∧ H' A = some (.lst xs) ∧ Rps (kwOf X) ρ2 H' acc.reverse xs ∧
            Post (kwOf X) T (at_ W σ) ρ1 H1 ((lcLoop it dg ft fe (wipeD s vs) k (i + 1) acc h2).bind fun acc h2 => mkL acc.reverse h2) fun d _ ρ' H' => ∀ v, Rp (kwOf X) ρ' H' d v → Q v H', fun H' hN => ⟨k, Nat.lt_succ_self k, hN⟩, fun x H3 y => ?_⟩
          obtain ⟨ρ3, g3, hr3, rx⟩ := step x H3 y
          obtain ⟨eA3, nA3⟩ := g3.acc eA nA2
          have g13 := g2.trans hr2.live g3
          have st3 := st1.grow hr1.live g13
          refine ⟨ρ3, wipeD s vs, h2, d, st3, hr3, rx, ?_⟩
          cases z2 : dg d (wipeD s vs) h2 with
          | none => simp only [z2] at q2; exact q2.elim
          | some pr =>
            simp only [z2] at q2
            intro ρ4 H4 σ4 g4 hr4 st4 o4
            refine ⟨by rw [o4 vs hv]; exact wipe_self σ vs vs fun _ hi => hi, ?_⟩
            obtain ⟨eA4, nA4⟩ := g4.acc eA3 nA3
            have g14 := g13.trans hr3.live g4
            have ra4 := Rps.grow hr3.live g4 _ (Rps.grow hr2.live g3 _ ra)
            refine ⟨ρ4, pr.1, pr.2, st4, hr4, ?_⟩
            cases z3 : ft pr.1 pr.2 with
            | no => rw [z3] at q2; exact q2.elim
            | ex e h5 => rw [z3] at q2; exact q2.elim
            | ok b h5 =>
              rw [z3] at q2
              intro ρ5 H5 g5 hr5
              obtain ⟨eA5, nA5⟩ := g5.acc eA4 nA4
              have g15 := g14.trans hr4.live g5
              have ra5 := Rps.grow hr4.live g5 _ ra4
              cases b with
              | false =>
                rw [if_neg (by decide)]
                exact ⟨ρ5, h5, acc, xs, by omega, by omega, g15, hr5, nA5, eA5, ra5, q2⟩
              | true =>
                rw [if_pos rfl]
                refine ⟨ρ5, pr.1, h5, st4.grow hr4.live g5, hr5, ?_⟩
                have q3 : Post (kwOf X) T (at_ W σ) ρ1 H1 (((noX (fe pr.1 h5)).bind fun y h4 => lcLoop it dg ft fe (wipeD s vs) k (i + 1) (y :: acc) h4).bind fun acc h2 => mkL acc.reverse h2) fun d _ ρ' H' => ∀ v, Rp (kwOf X) ρ' H' d v → Q v H' := q2
                cases z4 : fe pr.1 h5 with
                | no => rw [z4] at q3; exact q3.elim
                | ex e h6 => rw [z4] at q3; exact q3.elim
                | ok yd h6 =>
                  rw [z4] at q3
                  intro ρ6 H6 g6 hr6 yv ry
                  obtain ⟨eA6, nA6⟩ := g6.acc eA5 nA5
                  have g16 := g15.trans hr5.live g6
                  have ra6 := Rps.grow hr5.live g6 _ ra5
                  have la : xs.length = acc.length := by rw [← ra6.length, List.length_reverse]
                  refine ⟨xs, eA6, by omega, ρ6, h6, yd :: acc, xs ++ [yv], by omega, by simp only [List.length_cons]; omega, g16.updL nA, hr6.updL eA6 nA6, nA6, upd_same, ?_, q3⟩
                  rw [List.reverse_cons]
                  refine Rps.ext (ext_updL eA6) _ (Rps.append ra6 ?_)
                  exact Rps.cons ry (Rps.nil_iff.mpr rfl)
variable {scope : Scope} {own : List (Str × Nat)} {pos : Pos}
theorem se_lc (n : Nat) (hc : X.calm = true) (hN : X.N.Nodup) (hi : SI X T W tg iter fi) (ok : BlkOk X.N X.env.scope scope own) (hv : ∀ i ∈ ws, i ∈ own.map (·.2))
    (hg : ∀ (s : Shared) (H : Hp) (C : Addr) (cl : List (Str × Addr)) (fp : List Addr), SG (X.blk s H scope (compEnvC scope cl C X.env) fp) tg ws dg) (ht : ∀ (s : Shared) (H : Hp) (C : Addr) (cl : List (Str × Addr)) (fp : List Addr), STs (X.blk s H scope (compEnvC scope cl C X.env) fp) T W0 ifs ft)
    (he : ∀ (s : Shared) (H : Hp) (C : Addr) (cl : List (Str × Addr)) (fp : List Addr), SE (X.blk s H scope (compEnvC scope cl C X.env) fp) T W0 elt fe) (hs : ∀ x, foldedSetIterable iter X.env x = pure x := by intro _; rfl) (hn : n ≤ lim := by decide) :
    SE X T W (.ListComp elt [⟨tg, iter, ifs, 0⟩] scope pos) (dLc fi dg ft fe (own.map (·.2)) n) :=
  ⟨PE.imp (pe_lc hc hN hi.p ok (fun s H C cl fp => (hg s H C cl fp).p) (fun s H C cl fp => (ht s H C cl fp).p) (fun s H C cl fp => (he s H C cl fp).p) hs) (lc_imp n hn hv)⟩
theorem s_setLc (n : Nat) {i : Nat} {y : Str} {py spos : Pos} (hc : X.calm = true) (hN : X.N.Nodup) (hy : X.N[i]? = some y) (hyl : X.env.scope.names.lookup y = some .local)
    (hsw : swapsWith (.ListComp elt [⟨tg, iter, ifs, 0⟩] scope pos) (some (.Name y py)) spos.line X.env = pure true) (hi : SI X T W tg iter fi) (ok : BlkOk X.N X.env.scope scope own) (hv : ∀ i ∈ ws, i ∈ own.map (·.2))
    (hg : ∀ (s : Shared) (H : Hp) (C : Addr) (cl : List (Str × Addr)) (fp : List Addr), SG (X.blk s H scope (compEnvC scope cl C X.env) fp) tg ws dg) (ht : ∀ (s : Shared) (H : Hp) (C : Addr) (cl : List (Str × Addr)) (fp : List Addr), STs (X.blk s H scope (compEnvC scope cl C X.env) fp) T W0 ifs ft)
    (he : ∀ (s : Shared) (H : Hp) (C : Addr) (cl : List (Str × Addr)) (fp : List Addr), SE (X.blk s H scope (compEnvC scope cl C X.env) fp) T W0 elt fe) (hs : ∀ x, foldedSetIterable iter X.env x = pure x := by intro _; rfl) (hn : n ≤ lim := by decide) :
    SS X T W (.Assign [.Name y py] (.ListComp elt [⟨tg, iter, ifs, 0⟩] scope pos) spos) (gAsg (dLc fi dg ft fe (own.map (·.2)) n) (gN i)) :=
  ⟨PS.imp (ps_setLc hc hN hy hyl hsw hi.p ok (fun s H C cl fp => (hg s H C cl fp).p) (fun s H C cl fp => (ht s H C cl fp).p) (fun s H C cl fp => (he s H C cl fp).p) hs) fun D σ H ⟨ρ, s, h, st, hr, q⟩ =>
    lc_imp n hn hv σ H _ (tD_bindS st hr q fun d h1 ρ1 H1 v g1 hr1 st1 r1 q1 => q1 ρ1 H1 _ (Grow.refl _ _) hr1 (st1.set r1))⟩
end
end Nc
namespace Nc
open PySem PySem.Spec PyProof.Rows L2

def lim2 : Nat := 400000
def lc2Loop (it : ItD) (dg : DG) (test : DB) (fi1 : DI) (dg1 : DG) (test1 : DB) (elt : DE) (s : DSt) (vs1 : List Nat) (n1 : Nat) : Nat → Nat → List D → AH → R (List D)
  | 0, _, _, _ => .no
  | k + 1, i, acc, h => match itemAt it i h with
    | none => .no
    | some none => .ok acc h
    | some (some d) => match dg d s h with
      | none => .no
      | some p => (noX (test p.1 p.2)).bind fun b h3 => match b with
        | false => lc2Loop it dg test fi1 dg1 test1 elt s vs1 n1 k (i + 1) acc h3
        | true => (noX (fi1 p.1 h3)).bind fun it1 h4 => chk (Nat.ble acc.length lim2) ((lcLoop it1 dg1 test1 elt (wipeD p.1 vs1) n1 0 acc h4).bind fun acc2 h5 => lc2Loop it dg test fi1 dg1 test1 elt s vs1 n1 k (i + 1) acc2 h5)
def dLc2 (fi : DI) (dg : DG) (test : DB) (fi1 : DI) (dg1 : DG) (test1 : DB) (elt : DE) (vs vs1 : List Nat) (n n1 : Nat) : DE := fun s h => (fi s h).bind fun it h1 =>
  (lc2Loop it dg test fi1 dg1 test1 elt (wipeD s vs) vs1 n1 n 0 [] h1).bind fun acc h2 => mkL acc.reverse h2
section
variable {X : Cx} {T : XT} {W : WX} {tg iter tg1 iter1 elt : Expr} {ifs ifs1 : List Expr} {fi fi1 : DI} {dg dg1 : DG} {ws ws1 : List Nat} {ft ft1 : DB} {fe : DE}
theorem lc2_imp {vs vs1 : List Nat} (n n1 : Nat) (hn1 : n1 + lim2 ≤ lim) (hv : ∀ i ∈ ws, i ∈ vs) (hv1 : ∀ i ∈ ws1, i ∈ vs1) : ∀ σ H Q, tD (kwOf X) T W (dLc2 fi dg ft fi1 dg1 ft1 fe vs vs1 n n1) σ H Q →
    tLc2 (tI (kwOf X) T W fi) (tG (kwOf X) ws dg) (tDB (kwOf X) T W0 ft) (tI (kwOf X) T W0 fi1) (tG (kwOf X) ws1 dg1) (tDB (kwOf X) T W0 ft1) (tD (kwOf X) T W0 fe) vs vs1 σ H Q := fun σ H Q ⟨ρ, s, h, st, hr, q⟩ => by
  refine ⟨ρ, s, h, st, hr, q.bind.mono fun it h1 ρ1 H1 _ g1 hr1 q1 J ij => ?_⟩
  intro A nA
  have st1 := (st.grow hr.live g1).wipe vs
  have lz : lim < sizeLine := by rw [sizeLine_eq]; decide
  refine ⟨fun i m H2 => ∃ ρ2 h2 acc xs, Grow ρ1 ρ2 H1 H2 ∧ HR (kwOf X) ρ2 H2 h2 ∧ (∀ k, ρ2 k ≠ some A) ∧ H2 A = some (.lst xs) ∧ Rps (kwOf X) ρ2 H2 acc.reverse xs ∧
    Post (kwOf X) T (at_ W σ) ρ1 H1 ((lc2Loop it dg ft fi1 dg1 ft1 fe (wipeD s vs) vs1 n1 m i acc h2).bind fun acc h2 => mkL acc.reverse h2) fun d _ ρ' H' => ∀ v, Rp (kwOf X) ρ' H' d v → Q v H', ⟨n, ρ1, h1, [], [], (Grow.refl ρ1 H1).updL nA, hr1.upd nA, fun k e => ?_, upd_same, Rps.nil_iff.mpr rfl, q1⟩, ?_⟩
  · have := hr1.live k A e
    rw [nA] at this; exact this
  · rintro i m H2 ⟨ρ2, h2, acc, xs, g2, hr2, nA2, eA, ra, q2⟩
    cases m with
    | zero => exact q2.elim
    | succ k =>
      unfold lc2Loop at q2
      have io := ij ρ2 H2 h2 (g2.ext hr1.live) hr2 i
      cases z : itemAt it i h2 with
      | none => simp only [z] at q2; exact q2.elim
      | some o =>
        cases o with
        | none =>
          simp only [z] at q2
          rw [z] at io
          refine .inl ⟨io, ?_⟩
          obtain ⟨c, q3⟩ := Post.chk (show Post (kwOf X) T (at_ W σ) ρ1 H1 (mkL acc.reverse h2) _ from q2)
          exact q3 _ _ (Grow.adopt hr2 g2 nA) (hr2.adopt eA nA2 ra) _ (rp_cell.mpr ⟨A, rfl, rhoAdd_same⟩)
        | some d =>
          simp only [z] at q2
          rw [z] at io
          obtain ⟨go, step⟩ := io
          refine .inr ⟨go, fun H' => ∃ ρ2 h2 acc xs, Grow ρ1 ρ2 H1 H' ∧ HR (kwOf X) ρ2 H' h2 ∧ (∀ k, ρ2 k ≠ some A) ∧ H' A = some (.lst xs) ∧ Rps (kwOf X) ρ2 H' acc.reverse xs ∧
            Post (kwOf X) T (at_ W σ) ρ1 H1 ((lc2Loop it dg ft fi1 dg1 ft1 fe (wipeD s vs) vs1 n1 k (i + 1) acc h2).bind fun acc h2 => mkL acc.reverse h2) fun d _ ρ' H' => ∀ v, Rp (kwOf X) ρ' H' d v → Q v H', fun H' hN => ⟨k, Nat.lt_succ_self k, hN⟩, fun x H3 y => ?_⟩
          obtain ⟨ρ3, g3, hr3, rx⟩ := step x H3 y
          obtain ⟨eA3, nA3⟩ := g3.acc eA nA2
          have g13 := g2.trans hr2.live g3
          have st3 := st1.grow hr1.live g13
          refine ⟨ρ3, wipeD s vs, h2, d, st3, hr3, rx, ?_⟩
          cases z2 : dg d (wipeD s vs) h2 with
          | none => simp only [z2] at q2; exact q2.elim
          | some pr =>
            simp only [z2] at q2
            intro ρ4 H4 σ4 g4 hr4 st4 o4
            refine ⟨by rw [o4 vs hv]; exact wipe_self σ vs vs fun _ hi => hi, ?_⟩
            obtain ⟨eA4, nA4⟩ := g4.acc eA3 nA3
            have g14 := g13.trans hr3.live g4
            have ra4 := Rps.grow hr3.live g4 _ (Rps.grow hr2.live g3 _ ra)
            refine ⟨ρ4, pr.1, pr.2, st4, hr4, ?_⟩
            cases z3 : ft pr.1 pr.2 with
            | no => rw [z3] at q2; exact q2.elim
            | ex e h5 => rw [z3] at q2; exact q2.elim
            | ok b h5 =>
              rw [z3] at q2
              intro ρ5 H5 g5 hr5
              obtain ⟨eA5, nA5⟩ := g5.acc eA4 nA4
              have g15 := g14.trans hr4.live g5
              have ra5 := Rps.grow hr4.live g5 _ ra4
              cases b with
              | false =>
                rw [if_neg (by decide)]
                exact ⟨ρ5, h5, acc, xs, g15, hr5, nA5, eA5, ra5, q2⟩
              | true =>
                rw [if_pos rfl]
                have st5 := st4.grow hr4.live g5
                refine ⟨ρ5, pr.1, h5, st5, hr5, ?_⟩
                have q3 : Post (kwOf X) T (at_ W σ) ρ1 H1 (((noX (fi1 pr.1 h5)).bind fun it1 h4 => chk (Nat.ble acc.length lim2) ((lcLoop it1 dg1 ft1 fe (wipeD pr.1 vs1) n1 0 acc h4).bind fun acc2 h5 => lc2Loop it dg ft fi1 dg1 ft1 fe (wipeD s vs) vs1 n1 k (i + 1) acc2 h5)).bind fun acc h2 => mkL acc.reverse h2) fun d _ ρ' H' => ∀ v, Rp (kwOf X) ρ' H' d v → Q v H' := q2
                cases z4 : fi1 pr.1 h5 with
                | no => rw [z4] at q3; exact q3.elim
                | ex e h6 => rw [z4] at q3; exact q3.elim
                | ok it1 h6 =>
                  rw [z4] at q3
                  have q4 : Post (kwOf X) T (at_ W σ) ρ1 H1 ((chk (Nat.ble acc.length lim2) ((lcLoop it1 dg1 ft1 fe (wipeD pr.1 vs1) n1 0 acc h6).bind fun acc2 h5 => lc2Loop it dg ft fi1 dg1 ft1 fe (wipeD s vs) vs1 n1 k (i + 1) acc2 h5)).bind fun acc h2 => mkL acc.reverse h2) fun d _ ρ' H' => ∀ v, Rp (kwOf X) ρ' H' d v → Q v H' := q3
                  cases cl : Nat.ble acc.length lim2 with
                  | false => rw [cl] at q4; exact q4.elim
                  | true =>
                    rw [cl] at q4
                    have cl := Nat.le_of_ble_eq_true cl
                    intro ρ6 H6 g6 hr6 J1 ij1
                    obtain ⟨eA6, nA6⟩ := g6.acc eA5 nA5
                    have g16 := g15.trans hr5.live g6
                    have ra6 := Rps.grow hr5.live g6 _ ra5
                    have st6 := (st5.grow hr5.live g6).wipe vs1
                    refine ⟨fun j m H7 => ∃ ρ7 h7 acc7 xs7, m + j = n1 ∧ acc7.length ≤ lim2 + j ∧ Ext (kwOf X) ρ6 ρ7 H6 H7 ∧ Grow ρ1 ρ7 H1 H7 ∧ HR (kwOf X) ρ7 H7 h7 ∧ (∀ k, ρ7 k ≠ some A) ∧ H7 A = some (.lst xs7) ∧ Rps (kwOf X) ρ7 H7 acc7.reverse xs7 ∧
                      Post (kwOf X) T (at_ W σ) ρ1 H1 (((lcLoop it1 dg1 ft1 fe (wipeD pr.1 vs1) m j acc7 h7).bind fun acc2 h5 => lc2Loop it dg ft fi1 dg1 ft1 fe (wipeD s vs) vs1 n1 k (i + 1) acc2 h5).bind fun acc h2 => mkL acc.reverse h2) fun d _ ρ' H' => ∀ v, Rp (kwOf X) ρ' H' d v → Q v H',
                      ⟨n1, ρ6, h6, acc, xs, rfl, by omega, Ext.refl, g16, hr6, nA6, eA6, ra6, q4⟩, ?_⟩
                    rintro j m H7 ⟨ρ7, h7, acc7, xs7, hm7, ha7, x7, g7, hr7, nA7, eA7, ra7, q7⟩
                    cases m with
                    | zero => exact q7.elim
                    | succ k1 =>
                      unfold lcLoop at q7
                      have io1 := ij1 ρ7 H7 h7 x7 hr7 j
                      cases y1 : itemAt it1 j h7 with
                      | none => simp only [y1] at q7; exact q7.elim
                      | some o1 =>
                        cases o1 with
                        | none =>
                          simp only [y1] at q7
                          rw [y1] at io1
                          exact .inl ⟨io1, ρ7, h7, acc7, xs7, g7, hr7, nA7, eA7, ra7, q7⟩
                        | some d1 =>
                          simp only [y1] at q7
                          rw [y1] at io1
                          obtain ⟨go1, step1⟩ := io1
                          refine .inr ⟨go1, fun H' => ∃ ρ7 h7 acc7 xs7, k1 + (j + 1) = n1 ∧ acc7.length ≤ lim2 + (j + 1) ∧ Ext (kwOf X) ρ6 ρ7 H6 H' ∧ Grow ρ1 ρ7 H1 H' ∧ HR (kwOf X) ρ7 H' h7 ∧ (∀ k, ρ7 k ≠ some A) ∧ H' A = some (.lst xs7) ∧ Rps (kwOf X) ρ7 H' acc7.reverse xs7 ∧
                            Post (kwOf X) T (at_ W σ) ρ1 H1 (((lcLoop it1 dg1 ft1 fe (wipeD pr.1 vs1) k1 (j + 1) acc7 h7).bind fun acc2 h5 => lc2Loop it dg ft fi1 dg1 ft1 fe (wipeD s vs) vs1 n1 k (i + 1) acc2 h5).bind fun acc h2 => mkL acc.reverse h2) fun d _ ρ' H' => ∀ v, Rp (kwOf X) ρ' H' d v → Q v H', fun H' hN => ⟨k1, Nat.lt_succ_self k1, hN⟩, fun x1 H8 y8 => ?_⟩
                          obtain ⟨ρ8, g8, hr8, rx8⟩ := step1 x1 H8 y8
                          obtain ⟨eA8, nA8⟩ := g8.acc eA7 nA7
                          have x8 := x7.trans (g8.ext hr7.live)
                          have g18 := g7.trans hr7.live g8
                          have st8 : StR (kwOf X) ρ8 H8 (L2.wipe σ4 vs1) (wipeD pr.1 vs1) := ⟨st6.len, fun i d e => let ⟨v, e1, r1⟩ := st6.at_ i d e; ⟨v, e1, Rp.ext x8 d r1⟩⟩
                          refine ⟨ρ8, wipeD pr.1 vs1, h7, d1, st8, hr8, rx8, ?_⟩
                          cases y2 : dg1 d1 (wipeD pr.1 vs1) h7 with
                          | none => simp only [y2] at q7; exact q7.elim
                          | some p8 =>
                            simp only [y2] at q7
                            intro ρ9 H9 σ9 g9 hr9 st9 o9
                            refine ⟨by rw [o9 vs1 hv1]; exact wipe_self σ4 vs1 vs1 fun _ hi => hi, ?_⟩
                            obtain ⟨eA9, nA9⟩ := g9.acc eA8 nA8
                            have x9 := x8.trans (g9.ext hr8.live)
                            have g19 := g18.trans hr8.live g9
                            have ra9 := Rps.grow hr8.live g9 _ (Rps.grow hr7.live g8 _ ra7)
                            refine ⟨ρ9, p8.1, p8.2, st9, hr9, ?_⟩
                            cases y3 : ft1 p8.1 p8.2 with
                            | no => rw [y3] at q7; exact q7.elim
                            | ex e h5 => rw [y3] at q7; exact q7.elim
                            | ok b1 h10 =>
                              rw [y3] at q7
                              intro ρ10 H10 g10 hr10
                              obtain ⟨eA10, nA10⟩ := g10.acc eA9 nA9
                              have x10 := x9.trans (g10.ext hr9.live)
                              have g110 := g19.trans hr9.live g10
                              have ra10 := Rps.grow hr9.live g10 _ ra9
                              cases b1 with
                              | false =>
                                rw [if_neg (by decide)]
                                exact ⟨ρ10, h10, acc7, xs7, by omega, by omega, x10, g110, hr10, nA10, eA10, ra10, q7⟩
                              | true =>
                                rw [if_pos rfl]
                                refine ⟨ρ10, p8.1, h10, st9.grow hr9.live g10, hr10, ?_⟩
                                have q8 : Post (kwOf X) T (at_ W σ) ρ1 H1 ((((noX (fe p8.1 h10)).bind fun y h4 => lcLoop it1 dg1 ft1 fe (wipeD pr.1 vs1) k1 (j + 1) (y :: acc7) h4).bind fun acc2 h5 => lc2Loop it dg ft fi1 dg1 ft1 fe (wipeD s vs) vs1 n1 k (i + 1) acc2 h5).bind fun acc h2 => mkL acc.reverse h2) fun d _ ρ' H' => ∀ v, Rp (kwOf X) ρ' H' d v → Q v H' := q7
                                cases y4 : fe p8.1 h10 with
                                | no => rw [y4] at q8; exact q8.elim
                                | ex e h6 => rw [y4] at q8; exact q8.elim
                                | ok yd h11 =>
                                  rw [y4] at q8
                                  intro ρ11 H11 g11 hr11 yv ry
                                  obtain ⟨eA11, nA11⟩ := g11.acc eA10 nA10
                                  have x11 := x10.trans (g11.ext hr10.live)
                                  have g111 := g110.trans hr10.live g11
                                  have ra11 := Rps.grow hr10.live g11 _ ra10
                                  have la : xs7.length = acc7.length := by rw [← ra11.length, List.length_reverse]
                                  refine ⟨xs7, eA11, by omega, ρ11, h11, yd :: acc7, xs7 ++ [yv], by omega, by simp only [List.length_cons]; omega, x11.trans (ext_updL eA11), g111.updL nA, hr11.updL eA11 nA11, nA11, upd_same, ?_, q8⟩
                                  rw [List.reverse_cons]
                                  refine Rps.ext (ext_updL eA11) _ (Rps.append ra11 ?_)
                                  exact Rps.cons ry (Rps.nil_iff.mpr rfl)
variable {scope : Scope} {own : List (Str × Nat)} {pos : Pos} {vs1 : List Nat}
theorem se_lc2 (n n1 : Nat) (hc : X.calm = true) (hN : X.N.Nodup) (hi : SI X T W tg iter fi) (ok : BlkOk X.N X.env.scope scope own) (hvo : ∀ i ∈ vs1, i ∈ own.map (·.2)) (hv : ∀ i ∈ ws, i ∈ own.map (·.2)) (hv1 : ∀ i ∈ ws1, i ∈ vs1)
    (hg : ∀ (s : Shared) (H : Hp) (C : Addr) (cl : List (Str × Addr)) (fp : List Addr), SG (X.blk s H scope (compEnvC scope cl C X.env) fp) tg ws dg) (ht : ∀ (s : Shared) (H : Hp) (C : Addr) (cl : List (Str × Addr)) (fp : List Addr), STs (X.blk s H scope (compEnvC scope cl C X.env) fp) T W0 ifs ft)
    (hi1 : ∀ (s : Shared) (H : Hp) (C : Addr) (cl : List (Str × Addr)) (fp : List Addr), SI (X.blk s H scope (compEnvC scope cl C X.env) fp) T W0 tg1 iter1 fi1)
    (hg1 : ∀ (s : Shared) (H : Hp) (C : Addr) (cl : List (Str × Addr)) (fp : List Addr), SG (X.blk s H scope (compEnvC scope cl C X.env) fp) tg1 ws1 dg1) (ht1 : ∀ (s : Shared) (H : Hp) (C : Addr) (cl : List (Str × Addr)) (fp : List Addr), STs (X.blk s H scope (compEnvC scope cl C X.env) fp) T W0 ifs1 ft1)
    (he : ∀ (s : Shared) (H : Hp) (C : Addr) (cl : List (Str × Addr)) (fp : List Addr), SE (X.blk s H scope (compEnvC scope cl C X.env) fp) T W0 elt fe) (hs : ∀ x, foldedSetIterable iter X.env x = pure x := by intro _; rfl) (hs1 : ∀ env x, foldedSetIterable iter1 env x = pure x := by intro _ _; rfl) (hn1 : n1 + lim2 ≤ lim := by decide) :
    SE X T W (.ListComp elt [⟨tg, iter, ifs, 0⟩, ⟨tg1, iter1, ifs1, 0⟩] scope pos) (dLc2 fi dg ft fi1 dg1 ft1 fe (own.map (·.2)) vs1 n n1) :=
  ⟨PE.imp (pe_lc2 hc hN hi.p ok hvo (fun s H C cl fp => (hg s H C cl fp).p) (fun s H C cl fp => (ht s H C cl fp).p) (fun s H C cl fp => (hi1 s H C cl fp).p) (fun s H C cl fp => (hg1 s H C cl fp).p) (fun s H C cl fp => (ht1 s H C cl fp).p) (fun s H C cl fp => (he s H C cl fp).p) hs hs1) (lc2_imp n n1 hn1 hv hv1)⟩
end
end Nc
namespace Nc
open PySem PySem.Spec PyProof.Rows L2

/-! ## calls of the program's defs -/
/-- what a def hands back, by data -/
abbrev DF := List D → AH → R D
def spNc (K : KW) (T : XT) (F : DF) : Sp := fun vs H Q E => ∃ ρ h ds, HR K ρ H h ∧ Rps K ρ H ds vs ∧ Post K T E ρ H (F ds h) fun d _ ρ' H' => ∀ v, Rp K ρ' H' d v → Q v H'
section
variable {X : Cx} {T : XT} {W : WX} {k : Nat} {f : Addr} {fd : FuncData} {ps : List Str} {F : DF} {x : Str} {p pos : Pos} {e : Expr} {es : List Expr} {fa : DA}
def dFn (F : DF) (fa : DA) : DE := fun s h => (fa s h).bind F
theorem se_call (ok : FnOk X.prog X.w X.K X.mg X.base (L2.CX X.prog X.w) k f fd ps (spNc (kwOf X) T F)) (hr : Room k X.A) (hg : Gl X x) (hm : X.mg x = some (.ref f)) (hk : PySem.W.keepIn X.K (.ref f) = true) (hb : Binds X.K fd ps []) (tk : Takes X W)
    (ha : SA X T W (e :: es) fa) (hdb : (x == ("__debug__" : Str)) = false := by decide) (he : starEach (e :: es) X.env = (false, eval e X.env) :: starEach es X.env := by rfl) (hpl : (backTo pos (starEach es X.env)).any (·.1) = false := by rfl) :
    SE X T W (.Call (.Name x p) (e :: es) [] pos) (dFn F fa) :=
  ⟨PE.imp (pe_callSD (E := fun σ => at_ W σ) ok hr hg hm hk hb .nil (fun σ => passAt tk σ) ha.p hdb he hpl) fun σ H Q ⟨ρ, s, h, st, hr, q⟩ => tDA_bind st hr q fun ds h1 ρ1 H1 vs g1 hr1 st1 r1 q1 => by
    rw [List.append_nil]
    exact ⟨ρ1, h1, ds, hr1, r1, q1⟩⟩
theorem se_call0 (ok : FnOk X.prog X.w X.K X.mg X.base (L2.CX X.prog X.w) k f fd ps (spNc (kwOf X) T F)) (hr : Room k X.A) (hg : Gl X x) (hm : X.mg x = some (.ref f)) (hk : PySem.W.keepIn X.K (.ref f) = true) (hb : Binds X.K fd ps []) (tk : Takes X W)
    (hdb : (x == ("__debug__" : Str)) = false := by decide) : SE X T W (.Call (.Name x p) [] [] pos) (dFn F dNil) :=
  ⟨⟨fun pins s σ H Q I ⟨ρ, sd, h, st, hrr, q⟩ => by
    refine wpAny_Call_Name_kw (ld_glob I hg hm ?_ hdb)
    exact PySem.W.callWith_K0 I.kIn hk (run_fnSD (E := fun σ => at_ W σ) (us := []) ok hr hb .nil (passAt tk σ) I .nil ⟨ρ, h, [], hrr, Rps.nil_iff.mpr rfl, q⟩)⟩⟩
/-! keywords -/
def permL {α : Type} (perm : List Nat) (l : List α) : List α := match perm with
  | [] => []
  | i :: r => match l[i]? with
    | some x => x :: permL r l
    | none => permL r l
theorem permL_vals {vs : List V} {us : List Value} (r : Vals vs us) : ∀ perm : List Nat, Vals (permL perm vs) (permL perm us)
  | [] => .nil
  | i :: rest => by
    unfold permL
    cases z : vs[i]? with
    | some v =>
      obtain ⟨u, e, q⟩ := r.get z
      simp only [e]
      exact .cons q (permL_vals r rest)
    | none =>
      have e := r.none_of z
      simp only [e]
      exact permL_vals r rest
theorem permL_rps {K : KW} {ρ : Rho} {H : Hp} {ds : List D} {vs : List V} (r : Rps K ρ H ds vs) : ∀ perm : List Nat, Rps K ρ H (permL perm ds) (permL perm vs)
  | [] => Rps.nil_iff.mpr rfl
  | i :: rest => by
    unfold permL
    cases z : ds[i]? with
    | some d =>
      obtain ⟨u, e, q⟩ := r.get z
      simp only [e]
      exact Rps.cons q (permL_rps r rest)
    | none =>
      have e : vs[i]? = none := by
        rw [List.getElem?_eq_none_iff] at z ⊢
        rw [← r.length]; exact z
      simp only [e]
      exact permL_rps r rest
/-- the values of the keywords -/
structure SK (X : Cx) (T : XT) (W : WX) (ks : List Keyword) (f : DA) : Prop where
  p : PK X ks (tDA (kwOf X) T W f)
theorem PK.imp {X : Cx} {e : List Keyword} {t t' : TA} (h : PK X e t) (m : ∀ σ H Q, t' σ H Q → t σ H Q) : PK X e t' := ⟨fun pos pins s σ H Q I q => h.run pos pins s σ H Q I (m σ H Q q)⟩
theorem sk_nil : SK X T W [] dNil := ⟨PK.imp pk_nil fun σ H Q ⟨ρ, s, h, st, hr, q⟩ => q.here hr [] (Rps.nil_iff.mpr rfl)⟩
theorem sk_cons {kws : List Keyword} {nm : Option Str} {kp : Pos} {g : DE} {gs : DA} (ha : SE X T W e g) (hs : SK X T W kws gs) : SK X T W (⟨nm, e, kp⟩ :: kws) (dCons g gs) :=
  ⟨PK.imp (pk_cons ha.p hs.p) fun σ H Q ⟨ρ, s, h, st, hr, q⟩ => tD_bind st hr q fun d h1 ρ1 H1 v g1 hr1 st1 r1 q1 =>
    tDA_bind st1 hr1 q1 fun ds h2 ρ2 H2 vs g2 hr2 st2 r2 q2 => q2.here hr2 _ (Rps.cons (Rp.grow hr1.live g2 d r1) r2)⟩
def dFnK (F : DF) (perm : List Nat) (m : Nat) (fk : DA) : DE := fun s h => (fk s h).bind fun ds h1 => chk (Nat.beq ds.length m) (F (permL perm ds) h1)
theorem se_callK {kws : List Keyword} {ks : List Str} {fk : DA} (perm : List Nat) (ok : FnOk X.prog X.w X.K X.mg X.base (L2.CX X.prog X.w) k f fd ps (spNc (kwOf X) T F)) (hr : Room k X.A) (hg : Gl X x) (hm : X.mg x = some (.ref f)) (hk : PySem.W.keepIn X.K (.ref f) = true)
    (hb : ∀ (s : Shared) (ws : List Value), X.K.In s.heap → ws.length = ks.length → BindsTo s fd ⟨[], ks.zip ws⟩ (ps.zip (permL perm ws))) (tk : Takes X W)
    (hkw : SK X T W kws fk) (hall : (backToKw pos (keywordEach kws X.env)).all (·.1.isSome) = true := by rfl) (hks : (backToKw pos (keywordEach kws X.env)).filterMap (·.1) = ks := by rfl)
    (hdb : (x == ("__debug__" : Str)) = false := by decide) (hpl : ((backTo pos (starEach [] X.env)).any (·.1) || (backToKw pos (keywordEach kws X.env)).any (·.1.isNone)) = false := by rfl) :
    SE X T W (.Call (.Name x p) [] kws pos) (dFnK F perm ks.length fk) :=
  ⟨⟨fun pins s σ H Q I ⟨ρ, sd, h, st, hrr, q⟩ => by
    refine wpAny_Call_Name_kw (ld_glob I hg hm ?_ hdb)
    refine PySem.W.callWith_KW0 (h₀ := X.base) I.ok.mod.kin hk hall (thn (hkw.p.run pos pins s σ H (fun vs H1 => vs.length = ks.length ∧ spNc (kwOf X) T F (permL perm vs) H1 Q (at_ W σ)) I (tDA_bind st hrr q fun ds h1 ρ1 H1 vs g1 hr1 st1 r1 q1 => ?_)) fun ws s2 ⟨zs, H2, I2, rz, l2, q2⟩ => ⟨I2.kIn, ?_⟩) hpl
    · obtain ⟨c, q1⟩ := q1.chk
      exact ⟨by rw [← r1.length]; exact Nat.eq_of_beq_eq_true c, ρ1, h1, _, hr1, permL_rps r1 perm, q1⟩
    · rw [hks]
      have r2 := permL_vals rz perm
      refine wpAny_call (codeAny_mono (ok.run X.A X.stack s2 H2 ⟨[], ks.zip ws⟩ (permL perm ws) (permL perm zs) Q (at_ W σ) hr I2.env0 (hb s2 ws I2.kIn (rz.length.symm.trans l2)) r2 q2) fun r s' hq => ?_)
      cases r with
      | error e => exact passAt tk σ pins H2 s2 e s' I2 hq
      | ok fl =>
        cases fl with
        | ret u => exact I2.after hq
        | next => exact False.elim hq
        | brk => exact False.elim hq
        | cont => exact False.elim hq⟩⟩
end
/-! ## a def keeps its promise -/
def startD (N : Nat) (ds : List D) : DSt := ds.map some ++ List.replicate (N - ds.length) none
def runF (g : DS) (np n : Nat) : DF := fun ds h => chk (Nat.beq ds.length np) (match g (startD n ds) h with
  | .nx _ h1 => .ok .non h1
  | .rt d h1 => .ok d h1
  | .ex e _ h1 => .ex e h1
  | _ => .no)
theorem startR {K : KW} {ρ : Rho} {H : Hp} {N : List Str} {ds : List D} {vs : List V} (r : Rps K ρ H ds vs) : StR K ρ H (L2.start N vs) (startD N.length ds) := by
  have l := r.length
  unfold L2.start startD
  refine ⟨by simp [l], fun i d e => ?_⟩
  by_cases hi : i < ds.length
  · rw [List.getElem?_append_left (by simpa using hi), List.getElem?_map] at e
    rw [List.getElem?_append_left (by simpa [← l] using hi), List.getElem?_map]
    rw [List.getElem?_eq_getElem hi] at e
    simp only [Option.map_some, Option.some.injEq] at e
    obtain ⟨v, e1, q⟩ := r.get (List.getElem?_eq_getElem hi)
    subst e
    exact ⟨v, by rw [e1]; rfl, q⟩
  · rw [List.getElem?_append_right (by simpa using hi)] at e
    rw [List.getElem?_replicate] at e
    split at e <;> cases e
/-- no slot is looked at where an exception leaves a def -/
def wOf (E : XK) : WX := fun c d _ H => E c d H
theorem fn_ok {P : Program} {w : World} {K : PySem.W.Frag} {mg : Str → Option Value} {base : Heap} {T : XT} {x qual : Str} {st : Stmt} {f : Addr} {fd : FuncData} {N ps : List Str} {k : Nat} {g : DS} (F : Fun K x qual st f fd) (S : FnScope N ps (defScope st))
    (body : ∀ (cdv : Value) (A : Around) (outer : List Env) (s : Shared) (H : Hp) (E : XK), Room k (A.deeper (envOfC qual (defScope st) s.heap.objs.size f cdv)) →
      SSs (cxOf (L2.CX P w) P w K mg base N qual (defScope st) f cdv A outer s H E) T (wOf E) (defBody st) g) : FnOk P w K mg base (L2.CX P w) (k + 1) f fd ps (spNc ⟨K, w, mg⟩ T (runF g ps.length N.length)) := by
  refine F.okX S (fun vs H Q E ⟨ρ, h, ds, hr, r, q⟩ => ?_) fun cdv A outer s H vs Q E hrm ⟨ρ, h, ds, hr, r, q⟩ => ?_
  · obtain ⟨c, _⟩ := Post.chk q
    rw [← r.length]; exact Nat.eq_of_beq_eq_true c
  · obtain ⟨c, q⟩ := Post.chk q
    refine ⟨_, (body cdv A outer s H E hrm).p, ρ, startD N.length ds, h, startR r, hr, ?_⟩
    cases z : g (startD N.length ds) h with
    | nx s1 h1 => rw [z] at q; exact fun ρ1 H1 σ1 g1 hr1 st1 => q ρ1 H1 g1 hr1 _ (rp_non.mpr rfl)
    | rt d h1 => rw [z] at q; exact fun ρ1 H1 v g1 hr1 r1 => q ρ1 H1 g1 hr1 v r1
    | ex e s1 h1 => rw [z] at q; exact fun ρ1 H1 σ1 cc dd g1 hr1 st1 x => q ρ1 H1 cc dd g1 hr1 x
    | bk s1 h1 => rw [z] at q; exact q.elim
    | ct s1 h1 => rw [z] at q; exact q.elim
    | no => rw [z] at q; exact q.elim

/-! ## built-ins by values -/
section
variable {K : KW} {T : XT}
def oLen : List D → AH → R D := fun ds h => withS (arg1 ds) fun d => withS (seqOf d h) fun es => .ok (.int es.length) h
theorem oc_len : OC K T (fun xs H Q => ∃ x n, xs = [x] ∧ LenV K.k x H n ∧ Q (.int n) H) oLen := fun E ρ H h ds vs Q hr r p => by
  obtain ⟨d, e1, p⟩ := Post.withS p
  obtain ⟨es, e2, p⟩ := p.withS
  obtain ⟨v, rfl, rv⟩ := arg1_ok r e1
  obtain ⟨a, xs, rfl, re, s⟩ := seqOf_ok hr rv e2
  refine ⟨.ref a, es.length, rfl, ?_, p.here hr _ (rp_int.mpr rfl)⟩
  rcases s with ⟨s, _⟩ | ⟨s, _⟩
  · exact .inr ⟨xs, s, re.length⟩
  · exact .inl ⟨xs, .inl (.inl s), re.length⟩
def oTuple : List D → AH → R D := fun ds h => withS (arg1 ds) fun d => match d with
  | .tup es => .ok (.tup es) h
  | .cell n => withS (lstAt n h) fun es => mkT es h
  | _ => .no
theorem oc_tuple : OC K T (fun xs H Q => ∃ p ys, xs = [.ref p] ∧ ((SqL K.k H p ys ∧ ∀ l, H l = none → Q (.ref l) (upd H l (.tup ys))) ∨ (SqT K.k H p ys ∧ Q (.ref p) H))) oTuple := fun E ρ H h ds vs Q hr r p => by
  obtain ⟨d, e1, p⟩ := Post.withS p
  obtain ⟨v, rfl, rv⟩ := arg1_ok r e1
  cases d with
  | tup es =>
    obtain ⟨a, xs, rfl, s, re⟩ := rp_tup.mp rv
    exact ⟨a, xs, rfl, .inr ⟨s, Post.here p hr _ rv⟩⟩
  | cell n =>
    obtain ⟨es, e2, p⟩ := Post.withS (k := fun es => mkT es h) p
    obtain ⟨a, rfl, e3⟩ := rp_cell.mp rv
    obtain ⟨b, xs, f1, f2, re, _⟩ := lstAt_ok hr e2
    rw [e3] at f1; cases f1
    exact ⟨a, xs, rfl, .inl ⟨.inl (.inl f2), (mkT_ok hr re p).2⟩⟩
  | _ => exact p.elim
def oList : List D → AH → R D := fun ds h => withS (arg1 ds) fun d => withS (seqOf d h) fun es => mkL es h
theorem oc_list : OC K T (fun xs H Q => ∃ p ys, xs = [.ref p] ∧ (SqL K.k H p ys ∨ SqT K.k H p ys) ∧ ∀ l, H l = none → Q (.ref l) (upd H l (.lst ys))) oList := fun E ρ H h ds vs Q hr r p => by
  obtain ⟨d, e1, p⟩ := Post.withS p
  obtain ⟨es, e2, p⟩ := p.withS
  obtain ⟨v, rfl, rv⟩ := arg1_ok r e1
  obtain ⟨a, xs, rfl, re, s⟩ := seqOf_ok hr rv e2
  refine ⟨a, xs, rfl, ?_, (mkL_ok hr re p).2⟩
  rcases s with ⟨s, _⟩ | ⟨s, _⟩
  · exact .inr s
  · exact .inl (.inl (.inl s))
def boolsD : List D → Option (List Bool)
  | [] => some []
  | .bl b :: r => match boolsD r with
    | some bs => some (b :: bs)
    | none => none
  | _ => none
theorem boolsD_ok {ρ : Rho} {H : Hp} : ∀ {ds : List D} {bs : List Bool} {vs : List V}, boolsD ds = some bs → Rps K ρ H ds vs → vs = bs.map V.bl
  | [], _, _, e, r => by cases e; exact Rps.nil_iff.mp r
  | .bl b :: ds, bs, vs, e, r => by
    obtain ⟨x, q, rfl, r1, r2⟩ := Rps.cons_iff.mp r
    unfold boolsD at e
    cases z : boolsD ds with
    | none => rw [z] at e; cases e
    | some js =>
      rw [z] at e; cases e
      rw [rp_bl.mp r1, boolsD_ok z r2]; rfl
  | .non :: _, _, _, e, _ => by cases e
  | .int _ :: _, _, _, e, _ => by cases e
  | .str _ :: _, _, _, e, _ => by cases e
  | .tup _ :: _, _, _, e, _ => by cases e
  | .cell _ :: _, _, _, e, _ => by cases e
  | .frl _ :: _, _, _, e, _ => by cases e
def allB : List Bool → Bool
  | [] => true
  | b :: r => match b with
    | true => allB r
    | false => false
def anyB : List Bool → Bool
  | [] => false
  | b :: r => match b with
    | true => true
    | false => anyB r
theorem allB_eq : ∀ bs : List Bool, bs.all id = allB bs
  | [] => rfl
  | b :: r => by
    rw [List.all_cons, allB_eq r]
    cases b <;> rfl
theorem anyB_eq : ∀ bs : List Bool, bs.any id = anyB bs
  | [] => rfl
  | b :: r => by
    rw [List.any_cons, anyB_eq r]
    cases b <;> rfl
def oBools (g : List Bool → Bool) : List D → AH → R D := fun ds h => withS (arg1 ds) fun d => match d with
  | .cell n => withS (lstAt n h) fun es => withS (boolsD es) fun bs => .ok (.bl (g bs)) h
  | _ => .no
theorem oBools_ok {E : XK} {ρ : Rho} {H : Hp} {h : AH} {ds : List D} {vs : List V} {Q : VK} {g : List Bool → Bool} (hr : HR K ρ H h) (r : Rps K ρ H ds vs) (p : P1 K T E ρ H (oBools g ds h) Q) :
    ∃ (a : Addr) (bs : List Bool), vs = [V.ref a] ∧ SqL K.k H a (bs.map V.bl) ∧ Q (.bl (g bs)) H := by
  obtain ⟨d, e1, p⟩ := Post.withS p
  obtain ⟨v, rfl, rv⟩ := arg1_ok r e1
  cases d with
  | cell n =>
    obtain ⟨es, e2, p⟩ := Post.withS (k := fun es => withS (boolsD es) fun bs => (R.ok (D.bl (g bs)) h : R D)) p
    obtain ⟨bs, e3, p⟩ := p.withS
    obtain ⟨a, rfl, e4⟩ := rp_cell.mp rv
    obtain ⟨b, xs, f1, f2, re, _⟩ := lstAt_ok hr e2
    rw [e4] at f1; cases f1
    have := boolsD_ok e3 re; subst this
    exact ⟨a, bs, rfl, .inl (.inl f2), p.here hr _ (rp_bl.mpr rfl)⟩
  | _ => exact p.elim
theorem oc_all : OC K T (rAll K.k) (oBools allB) := fun E ρ H h ds vs Q hr r p => by
  obtain ⟨a, bs, e, s, q⟩ := oBools_ok hr r p
  exact ⟨a, bs, e, s, by rw [allB_eq]; exact q⟩
theorem oc_any : OC K T (rAny K.k) (oBools anyB) := fun E ρ H h ds vs Q hr r p => by
  obtain ⟨a, bs, e, s, q⟩ := oBools_ok hr r p
  exact ⟨a, bs, e, s, by rw [anyB_eq]; exact q⟩
def oMax2 : List D → AH → R D := fun ds h => withS (arg2 ds) fun d => withS (intD d.1) fun i => withS (intD d.2) fun j => .ok (.int (bif ltI i j then j else i)) h
theorem oc_max2 : OC K T (fun xs H Q => ∃ i j, xs = [.int i, .int j] ∧ Q (.int (if j > i then j else i)) H) oMax2 := fun E ρ H h ds vs Q hr r p => by
  obtain ⟨d, e1, p⟩ := Post.withS p
  obtain ⟨i, e2, p⟩ := p.withS
  obtain ⟨j, e3, p⟩ := p.withS
  obtain ⟨v, u, rfl, rv, ru⟩ := arg2_ok r e1
  refine ⟨i, j, by rw [intD_ok rv e2, intD_ok ru e3], ?_⟩
  have q := p.here hr _ (rp_int.mpr rfl)
  unfold ltI at q
  by_cases c : i < j
  · rw [decide_eq_true c] at q; rw [if_pos c]; exact q
  · rw [decide_eq_false c] at q; rw [if_neg c]; exact q
end
/-! ### isinstance -/
inductive TN where
  | non | bl | int | str | tup | lst
def TN.name : TN → String
  | .non => "NoneType"
  | .bl => "bool"
  | .int => "int"
  | .str => "str"
  | .tup => "tuple"
  | .lst => "list"
def isT : TN → TN → Bool
  | .non, .non => true
  | .bl, .bl => true
  | .bl, .int => true
  | .int, .int => true
  | .str, .str => true
  | .tup, .tup => true
  | .lst, .lst => true
  | _, _ => false
theorem isT_ok : ∀ a b : TN, b = .non ∨ kitB a.name b.name = some (isT a b) := by
  intro a b
  cases b <;> first | exact .inl rfl | (right; cases a <;> decide +kernel)
def tyD (d : D) (h : AH) : Option TN := match d with
  | .non => some .non
  | .bl _ => some .bl
  | .int _ => some .int
  | .str _ => some .str
  | .tup _ => some .tup
  | .cell n => match lstAt n h with
    | some _ => some .lst
    | none => none
  | .frl _ => none
theorem tyD_ok {K : KW} {ρ : Rho} {H : Hp} {h : AH} {d : D} {v : V} {t : TN} (hr : HR K ρ H h) (r : Rp K ρ H d v) (e : tyD d h = some t) : TyX K.k H v (.type t.name) := by
  cases d with
  | non => cases e; rw [rp_non.mp r]; exact .base .non
  | bl b => cases e; rw [rp_bl.mp r]; exact .base (.bl b)
  | int b => cases e; rw [rp_int.mp r]; exact .base (.int b)
  | str b => cases e; rw [rp_str.mp r]; exact .base (.str b)
  | tup ds =>
    cases e
    obtain ⟨a, xs, rfl, s, _⟩ := rp_tup.mp r
    rcases s with (s | ⟨o, s⟩) | ⟨o, its, n, hk, hc, _⟩
    · exact .base (.tup s)
    · exact .fTuple s
    · exact .kTuple hk hc
  | cell n =>
    unfold tyD at e
    cases z : lstAt n h with
    | none => simp only [z] at e; cases e
    | some ds =>
      simp only [z] at e; cases e
      obtain ⟨a, xs, f1, f2, _⟩ := lstAt_ok hr z
      obtain ⟨b, rfl, e3⟩ := rp_cell.mp r
      rw [e3] at f1; cases f1
      exact .base (.lst f2)
  | frl _ => cases e
section
variable {X : Cx} {T : XT} {W : WX} {e c : Expr} {f : DE} {p pos : Pos}
def dIsi (t : TN) (f : DE) : DE := fun s h => (f s h).bind fun d h1 => withS (tyD d h1) fun a => .ok (.bl (isT a t)) h1
theorem se_isi (t : TN) (ht : t ≠ .non) (he : SE X T W e f) (hg : Gl X "isinstance") (hm : X.mg "isinstance" = none) (hc : PE X c (tC (.ty t.name))) (hs1 : starEach [e, c] X.env = (false, eval e X.env) :: starEach [c] X.env := by rfl) (hs2 : starEach [c] X.env = (false, eval c X.env) :: starEach [] X.env := by rfl)
    (hpl : (backTo pos (starEach [c] X.env)).any (·.1) = false := by rfl) : SE X T W (.Call (.Name "isinstance" p) [e, c] [] pos) (dIsi t f) :=
  ⟨PE.imp (pe_callB call_isi hg hm PyProof.Rows.boot_isinstance (pa_cons he.p (pa_cons hc pa_nil hs2) hs1) (by decide) (by decide) hs1 hpl) fun σ H Q ⟨ρ, s, h, st, hr, q⟩ => tD_bind st hr q fun d h1 ρ1 H1 v g1 hr1 st1 r1 q1 => by
    obtain ⟨a, e1, q1⟩ := q1.withS
    have k := (isT_ok a t).resolve_left ht
    exact ⟨v, .ty t.name, .type a.name, .type t.name, isT a t, rfl, .ty _, tyD_ok hr1 r1 e1, kit_ty k, q1.here hr1 _ (rp_bl.mpr rfl)⟩⟩
/-- isinstance(e, (T, U)) -/
def dIsi2 (t u : TN) (f : DE) : DE := fun s h => (f s h).bind fun d h1 => withS (tyD d h1) fun a => .ok (.bl (isT a t || isT a u)) h1
theorem se_isi2 (t u : TN) (ht : t ≠ .non) (hu : u ≠ .non) {c2 : Expr} {kk : Nat} {tp : Pos} (he : SE X T W e f) (hg : Gl X "isinstance") (hm : X.mg "isinstance" = none) (hc : PE X c (tC (.ty t.name))) (hc2 : PE X c2 (tC (.ty u.name)))
    (hs1 : starEach [e, .Tuple [c, c2] kk tp] X.env = (false, eval e X.env) :: starEach [.Tuple [c, c2] kk tp] X.env := by rfl) (hs2 : starEach [.Tuple [c, c2] kk tp] X.env = (false, eval (.Tuple [c, c2] kk tp) X.env) :: starEach [] X.env := by rfl)
    (hs3 : starEach [c, c2] X.env = (false, eval c X.env) :: starEach [c2] X.env := by rfl) (hs4 : starEach [c2] X.env = (false, eval c2 X.env) :: starEach [] X.env := by rfl)
    (hpl : (backTo pos (starEach [.Tuple [c, c2] kk tp] X.env)).any (·.1) = false := by rfl) : SE X T W (.Call (.Name "isinstance" p) [e, .Tuple [c, c2] kk tp] [] pos) (dIsi2 t u f) :=
  ⟨PE.imp (pe_callB call_isiT hg hm PyProof.Rows.boot_isinstance (pa_cons he.p (pa_cons (pe_tup (pa_cons hc (pa_cons hc2 pa_nil hs4) hs3)) pa_nil hs2) hs1) (by decide) (by decide) hs1 hpl) fun σ H Q ⟨ρ, s, h, st, hr, q⟩ => tD_bind st hr q fun d h1 ρ1 H1 v g1 hr1 st1 r1 q1 => by
    obtain ⟨a, e1, q1⟩ := q1.withS
    have k1 := (isT_ok a t).resolve_left ht
    have k2 := (isT_ok a u).resolve_left hu
    refine ⟨by show 2 ≤ sizeLine; rw [sizeLine_eq]; decide, fun tp np => ?_⟩
    have g := grow_upd (o := .tup [.ty t.name, .ty u.name]) hr1.live np
    refine ⟨v, tp, [.ty t.name, .ty u.name], .type a.name, [.type t.name, .type u.name], isT a t || isT a u, rfl, upd_same, .cons (.ty _) (.cons (.ty _) .nil), tyD_ok (hr1.upd np) (Rp.grow hr1.live g d r1) e1, ?_, q1 ρ1 _ g (hr1.upd np) _ (rp_bl.mpr rfl)⟩
    refine kitAny_cons (kit_ty k1) (fun z => ?_) (fun z => by rw [z]; rfl)
    rw [z]
    refine kitAny_cons (kit_ty k2) (fun z2 => by rw [z2]; rfl) (fun z2 => by rw [z2]; rfl)⟩
end
/-! ### methods -/
section
variable {X : Cx} {T : XT} {W : WX} {o e : Expr} {es : List Expr} {f : DE} {fa : DA} {pos apos cpos : Pos}
def isLst (d : D) (h : AH) : Bool := match d with
  | .cell n => match lstAt n h with
    | some _ => true
    | none => false
  | _ => false
theorem isLst_ok {K : KW} {ρ : Rho} {H : Hp} {h : AH} {d : D} {v : V} (hr : HR K ρ H h) (r : Rp K ρ H d v) (c : isLst d h = true) : tyV K.k "list" v H := by
  cases d with
  | cell n =>
    unfold isLst at c
    cases z : lstAt n h with
    | none => simp only [z] at c; cases c
    | some ds =>
      obtain ⟨a, xs, f1, f2, _⟩ := lstAt_ok hr z
      obtain ⟨b, rfl, e3⟩ := rp_cell.mp r
      rw [e3] at f1; cases f1
      exact .inl ⟨rfl, xs, .inl (.inl f2)⟩
  | _ => cases c
def OM (K : KW) (T : XT) (r : V → List V → Hp → VK → Prop) (om : D → List D → AH → R D) : Prop := ∀ (E : XK) ρ H h x ds v vs Q, HR K ρ H h → Rp K ρ H x v → Rps K ρ H ds vs → P1 K T E ρ H (om x ds h) Q → r v vs H Q
def dMeth (om : D → List D → AH → R D) (f : DE) (fa : DA) : DE := fun s h => (f s h).bind fun x h1 => chk (isLst x h1) ((fa s h1).bind fun ds h2 => om x ds h2)
theorem se_meth {name : Str} {id : String} {r : V → List V → Hp → VK → Prop} {om : D → List D → AH → R D} (slot : Slot "list" name id) (hty : typeOf (.builtin id) = pure (.type "method_descriptor")) (hm : MtR X id r) (hom : OM (kwOf X) T r om) (ho : SE X T W o f) (ha : SA X T W (e :: es) fa)
    (hbase : attributeBase o name X.env (eval o X.env) = eval o X.env := by rfl)
    (hfew : ((backTo cpos (starEach (e :: es) X.env)).all (fun x => !x.1) && (backToKw cpos (keywordEach [] X.env)).all (fun x => x.1.isSome)
      && decide ((e :: es).length + ([] : List Keyword).length + (if ([] : List Keyword).isEmpty then 0 else 1) < 30)) = true := by rfl)
    (hline : (apos.endLine == cpos.line) = true := by rfl) (hs : starEach (e :: es) X.env = (false, eval e X.env) :: starEach es X.env := by rfl) (hplain : (backTo cpos (starEach es X.env)).any (·.1) = false := by rfl) :
    SE X T W (.Call (.Attribute o name apos) (e :: es) [] cpos) (dMeth om f fa) :=
  ⟨PE.imp (pe_bm PySem.F.plainAttrs_list slot hty hm ho.p ha.p hbase hfew hline hs hplain) fun σ H Q ⟨ρ, s, h, st, hr, q⟩ => tD_bind st hr q fun x h1 ρ1 H1 v g1 hr1 st1 r1 q1 => by
    obtain ⟨c, q1⟩ := q1.chk
    exact ⟨isLst_ok hr1 r1 c, tDA_bind st1 hr1 q1 fun ds h2 ρ2 H2 vs g2 hr2 st2 r2 q2 => hom _ ρ2 H2 h2 x ds v vs Q hr2 (Rp.grow hr1.live g2 x r1) r2 q2⟩⟩
def dMeth0 (om : D → List D → AH → R D) (f : DE) : DE := fun s h => (f s h).bind fun x h1 => chk (isLst x h1) (om x [] h1)
theorem se_meth0 {name : Str} {id : String} {r : V → List V → Hp → VK → Prop} {om : D → List D → AH → R D} (slot : Slot "list" name id) (hty : typeOf (.builtin id) = pure (.type "method_descriptor")) (hm : MtR X id r) (hom : OM (kwOf X) T r om) (ho : SE X T W o f)
    (hbase : attributeBase o name X.env (eval o X.env) = eval o X.env := by rfl) (hline : (apos.endLine == cpos.line) = true := by rfl) : SE X T W (.Call (.Attribute o name apos) [] [] cpos) (dMeth0 om f) :=
  ⟨PE.imp (pe_bm0 PySem.F.plainAttrs_list slot hty hm ho.p hbase hline) fun σ H Q ⟨ρ, s, h, st, hr, q⟩ => tD_bind st hr q fun x h1 ρ1 H1 v g1 hr1 st1 r1 q1 => by
    obtain ⟨c, q1⟩ := q1.chk
    exact ⟨isLst_ok hr1 r1 c, hom _ ρ1 H1 h1 x [] v [] Q hr1 r1 (Rps.nil_iff.mpr rfl) q1⟩⟩
end
section
variable {K : KW} {T : XT}
def oAppend (x : D) (ds : List D) (h : AH) : R D := match x with
  | .cell n => withS (lstAt n h) fun es => withS (arg1 ds) fun d => chk (Nat.ble es.length lim) (.ok .non (h.put n (.lst (es ++ [d]))))
  | _ => .no
theorem om_append : OM K T rAppend oAppend := fun E ρ H h x ds v vs Q hr rx rv p => by
  cases x with
  | cell n =>
    obtain ⟨es, e1, p⟩ := Post.withS (k := fun es => withS (arg1 ds) fun d => chk (Nat.ble es.length lim) (R.ok D.non (AH.put n (.lst (es ++ [d])) h))) p
    obtain ⟨d, e2, p⟩ := p.withS
    obtain ⟨c, p⟩ := p.chk
    obtain ⟨a, rfl, e3⟩ := rp_cell.mp rx
    obtain ⟨b, xs, f1, f2, re, f3⟩ := lstAt_ok hr e1
    rw [e3] at f1; cases f1
    obtain ⟨u, rfl, ru⟩ := arg1_ok rv e2
    refine ⟨a, xs, u, rfl, rfl, f2, by rw [← re.length]; exact lim_lt c, ?_⟩
    exact p ρ _ (grow_put (mut_lst f2) e3) (hr.put e3 f3 (mut_lst f2) (re.append (Rps.cons ru (Rps.nil_iff.mpr rfl)))) _ (rp_non.mpr rfl)
  | _ => exact p.elim
def oReverse (x : D) (ds : List D) (h : AH) : R D := match x with
  | .cell n => withS (lstAt n h) fun es => match ds with
    | [] => .ok .non (h.put n (.lst es.reverse))
    | _ => .no
  | _ => .no
theorem Rps.reverse {ρ : Rho} {H : Hp} : ∀ {ds : List D} {vs : List V}, Rps K ρ H ds vs → Rps K ρ H ds.reverse vs.reverse
  | [], _, r => by rw [Rps.nil_iff.mp r]; exact Rps.nil_iff.mpr rfl
  | d :: ds, _, r => by
    obtain ⟨x, q, rfl, r1, r2⟩ := Rps.cons_iff.mp r
    rw [List.reverse_cons, List.reverse_cons]
    exact (Rps.reverse r2).append (Rps.cons r1 (Rps.nil_iff.mpr rfl))
theorem om_reverse : OM K T rReverse oReverse := fun E ρ H h x ds v vs Q hr rx rv p => by
  cases x with
  | cell n =>
    cases ds with
    | nil =>
      obtain ⟨es, e1, p⟩ := Post.withS (k := fun (es : List D) => (R.ok D.non (AH.put n (.lst es.reverse) h) : R D)) p
      obtain ⟨a, rfl, e3⟩ := rp_cell.mp rx
      obtain ⟨b, xs, f1, f2, re, f3⟩ := lstAt_ok hr e1
      rw [e3] at f1; cases f1
      refine ⟨a, xs, rfl, Rps.nil_iff.mp rv, f2, ?_⟩
      exact p ρ _ (grow_put (mut_lst f2) e3) (hr.put e3 f3 (mut_lst f2) re.reverse) _ (rp_non.mpr rfl)
    | cons _ _ =>
      obtain ⟨es, e1, p⟩ := Post.withS (k := fun (es : List D) => (R.no : R D)) p
      exact p.elim
  | _ => exact p.elim
end
/-! ### slices -/
section
variable {X : Cx} {T : XT} {W : WX} {e : Expr} {f : DE} {pos p2 : Pos} {lo hi : Option Expr}
abbrev DO := DSt → AH → R (Option Int)
def tDO (K : KW) (T : XT) (W : WX) (f : DO) : TO := fun σ H Q => ∃ ρ s h, StR K ρ H σ s ∧ HR K ρ H h ∧ Post K T (at_ W σ) ρ H (f s h) fun o _ _ H' => Q o H'
structure SO (X : Cx) (T : XT) (W : WX) (e : Option Expr) (f : DO) : Prop where
  p : PO X e (tDO (kwOf X) T W f)
theorem PO.imp {X : Cx} {e : Option Expr} {t t' : TO} (h : PO X e t) (m : ∀ σ H Q, t' σ H Q → t σ H Q) : PO X e t' := ⟨fun pins s σ H Q I q => h.run pins s σ H Q I (m σ H Q q)⟩
def dNo : DO := fun _ h => .ok none h
def dSome (f : DE) : DO := fun s h => (f s h).bind fun d h1 => withS (intD d) fun i => .ok (some i) h1
theorem so_none : SO X T W none dNo := ⟨PO.imp po_none fun σ H Q ⟨ρ, s, h, st, hr, q⟩ => q.here hr⟩
theorem so_some (he : SE X T W e f) : SO X T W (some e) (dSome f) := ⟨PO.imp (po_some he.p) fun σ H Q ⟨ρ, s, h, st, hr, q⟩ => tD_bind st hr q fun d h1 ρ1 H1 v g1 hr1 st1 r1 q1 => by
  obtain ⟨i, e1, q1⟩ := q1.withS
  exact ⟨i, intD_ok r1 e1, q1.here hr1⟩⟩
def oSl (d : D) (l u : Option Int) (h : AH) : R D := match d with
  | .tup ds => mkT (cutD ds l u) h
  | .cell n => withS (lstAt n h) fun ds => mkL (cutD ds l u) h
  | .frl ds => mkL (cutD ds l u) h
  | _ => .no
def dSl (f : DE) (fl fh : DO) : DE := fun s h => (f s h).bind fun d h1 => (fl s h1).bind fun l h2 => (fh s h2).bind fun u h3 => oSl d l u h3
theorem cutD_all (ds : List D) (l u : Option Int) (h : HT.sIx ds.length 0 l = 0 ∧ HT.sIx ds.length ds.length u = ds.length) : cutD ds l u = ds := by
  unfold cutD
  rw [h.1, h.2]
  simp
theorem se_sl {fl fh : DO} (he : SE X T W e f) (hl : SO X T W lo fl) (hh : SO X T W hi fh) : SE X T W (.Subscript e (.Slice lo hi none p2) pos) (dSl f fl fh) :=
  ⟨PE.imp (pe_slice (SlR.or sl_list sl_tupA) he.p hl.p hh.p) fun σ H Q ⟨ρ, s, h, st, hr, q⟩ => tD_bind st hr q fun d h1 ρ1 H1 v g1 hr1 st1 r1 q1 =>
    ⟨ρ1, s, h1, st1, hr1, q1.bind.mono fun l h2 ρ2 H2 _ g2 hr2 q2 => ⟨ρ2, s, h2, st1.grow hr1.live g2, hr2, q2.bind.mono fun u h3 ρ3 H3 _ g3 hr3 q3 => by
      have r3 := Rp.grow hr2.live g3 d (Rp.grow hr1.live g2 d r1)
      cases d with
      | tup ds =>
        obtain ⟨a, xs, rfl, s3, re⟩ := rp_tup.mp r3
        have q3 : P1 (kwOf X) T (at_ W σ) ρ3 H3 (mkT (cutD ds l u) h3) Q := q3
        have m := mkT_ok hr3 (cutD_ok re l u) q3
        refine .inr ⟨a, xs, rfl, s3, fun z => ?_, fun _ => m.2⟩
        obtain ⟨c, q4⟩ := q3.chk
        rw [cutD_all ds l u (by rw [re.length]; exact z)] at q4
        exact q4.here hr3 _ r3
      | cell n =>
        obtain ⟨ds, e1, q3⟩ := Post.withS (k := fun ds => mkL (cutD ds l u) h3) q3
        obtain ⟨a, rfl, e3⟩ := rp_cell.mp r3
        obtain ⟨b, xs, f1, f2, re, f3⟩ := lstAt_ok hr3 e1
        rw [e3] at f1; cases f1
        have m := mkL_ok hr3 (cutD_ok re l u) q3
        exact .inl ⟨a, xs, rfl, .inl (.inl f2), m.2⟩
      | frl ds =>
        obtain ⟨a, xs, rfl, s3, re⟩ := rp_frl.mp r3
        have q3 : P1 (kwOf X) T (at_ W σ) ρ3 H3 (mkL (cutD ds l u) h3) Q := q3
        have m := mkL_ok hr3 (cutD_ok re l u) q3
        exact .inl ⟨a, xs, rfl, s3.sqL, m.2⟩
      | _ => exact q3.elim⟩⟩⟩
end
end Nc
namespace Nc
open PySem PySem.Spec PyProof.Rows L2

section
variable {X : Cx} {pins : List (Addr × Obj)} {σ : L2.St} {H : Hp} {s : Shared} {ρ : Rho}
mutual
theorem nk_is (I : Inv X pins σ H s) : ∀ (d : D) (k : NestedKey) (v : V) (u : Value), toNK d = some k → Rp (kwOf X) ρ H d v → RelV v u → NestedIs s.heap k u
  | .non, _, _, _, e, r, q => by
    unfold toNK at e; cases e
    rw [rp_non.mp r] at q; cases q; exact .none
  | .bl b, _, _, _, e, r, q => by
    unfold toNK at e; cases e
    rw [rp_bl.mp r] at q; cases q; exact .bool rfl
  | .int i, _, _, _, e, r, q => by
    unfold toNK at e; cases e
    rw [rp_int.mp r] at q; obtain ⟨t, rfl⟩ := q; exact .int i t
  | .str x, _, _, _, e, r, q => by
    unfold toNK at e; cases e
    rw [rp_str.mp r] at q; obtain ⟨t, rfl⟩ := q; exact .text x t
  | .tup ds, k, _, _, e, r, q => by
    unfold toNK at e
    cases z : toNKs ds with
    | none => simp only [z] at e; cases e
    | some ks =>
      simp only [z] at e; cases e
      obtain ⟨a, xs, rfl, st, rs⟩ := rp_tup.mp r
      cases q
      obtain ⟨its, rv, ⟨o, ho, hc, n, hd⟩, _⟩ := I.tuple st
      exact .tup ho hc hd (nk_all I ds ks xs its z rs rv)
  | .cell _, _, _, _, e, _, _ => by unfold toNK at e; cases e
  | .frl _, _, _, _, e, _, _ => by unfold toNK at e; cases e
theorem nk_all (I : Inv X pins σ H s) : ∀ (ds : List D) (ks : List NestedKey) (vs : List V) (us : List Value), toNKs ds = some ks → Rps (kwOf X) ρ H ds vs → Vals vs us → NestedAll s.heap ks us
  | [], _, _, _, e, r, q => by
    unfold toNKs at e; cases e
    rw [Rps.nil_iff.mp r] at q; cases q; exact .nil
  | d :: ds, ks, _, _, e, r, q => by
    unfold toNKs at e
    cases z : toNK d with
    | none => simp only [z] at e; cases e
    | some k =>
      cases z2 : toNKs ds with
      | none => simp only [z, z2] at e; cases e
      | some ks' =>
        simp only [z, z2] at e; cases e
        obtain ⟨v, vs, rfl, r1, r2⟩ := Rps.cons_iff.mp r
        cases q with
        | cons q1 q2 => exact .cons (nk_is I d k v _ z r1 q1) (nk_all I ds ks' vs _ z2 r2 q2)
end
/-- an entry as it stands, by values -/
abbrev EntV (p : NestedKey × V × V) (q : NestedKey × Value × Value) : Prop := p.1 = q.1 ∧ RelV p.2.1 q.2.1 ∧ RelV p.2.2 q.2.2
/-- the object of a dict -/
def RawD (w : World) (h : Heap) (a : Addr) (xs : List (NestedKey × Value × Value)) : Prop := ∃ o es ep, h.get? a = some o ∧ o.ExactDict ∧ o.data = .dict es ep ∧ es.toList = xs.map (fun x => (⟨x.1.hash w, x.2.1, x.2.2⟩ : DictEntry)) ∧ (xs.map (·.1)).Nodup
theorem keys_ok (I : Inv X pins σ H s) : ∀ {kvs : List (NestedKey × D × D)} {L : List (NestedKey × V × V)} {xs : List (NestedKey × Value × Value)}, Paired (DEnt (kwOf X) ρ H) kvs L → Paired EntV L xs → ∀ q ∈ xs, NestedIs s.heap q.1 q.2.1 ∧ NestedKey.depth q.1 ≤ 8
  | _, _, _, .nil, .nil, q, hq => by cases hq
  | _, _, _, .cons r t, .cons r' t', q, hq => by
    rcases List.mem_cons.mp hq with z | z
    · subst z
      obtain ⟨e1, e2, e3, r1, _⟩ := r
      rw [← r'.1, ← e1]
      exact ⟨nk_is I _ _ _ _ e2 r1 r'.2.1, e3⟩
    · exact keys_ok I t t' q z
theorem dn_get (I : Inv X pins σ H s) {a : Addr} {L : List (NestedKey × V × V)} (hD : Rd H a (DN X.w L a)) : ∃ xs, Paired EntV L xs ∧ RawD X.w s.heap a xs := by
  obtain ⟨⟨xs, r, o, es, ep, e1, e2, e3, e4, e5⟩, _⟩ := (show ObjOk X.prog X.w H s.heap a (DN X.w L a) from hD.ok I.hok)
  exact ⟨xs, r, o, es, ep, e1, e2, e3, e4, e5⟩
theorem dn_ok {P : Program} {w : World} {H' : Hp} {h' : Heap} {a : Addr} {L : List (NestedKey × V × V)} {xs : List (NestedKey × Value × Value)} (r : Paired EntV L xs) (d : RawD w h' a xs) : ObjOk P w H' h' a (DN w L a) := by
  obtain ⟨o, es, ep, e1, e2, e3, e4, e5⟩ := d
  refine ⟨⟨xs, r, o, es, ep, e1, e2, e3, e4, e5⟩, ⟨o, e1⟩, fun h1 h2 z k => ?_⟩
  obtain ⟨ys, r', o', es', ep', f1, f2⟩ := z
  exact ⟨ys, r', o', es', ep', k o' f1, f2⟩
theorem RawD.typeIs {w : World} {a : Addr} {xs : List (NestedKey × Value × Value)} (d : RawD w s.heap a xs) : s.TypeIs (.ref a) "dict" := by
  obtain ⟨o, es, ep, e1, e2, e3, e4, e5⟩ := d
  exact ⟨o, e1, e2.1⟩
/-! ### looking up, storing, on the three levels -/
def lookD (k : NestedKey) : List (NestedKey × D × D) → Option D
  | [] => none
  | p :: r => match NestedKey.beq p.1 k with
    | true => some p.2.2
    | false => lookD k r
def atK (k : NestedKey) : List (NestedKey × Value × Value) → Option Value
  | [] => none
  | p :: r => match NestedKey.beq p.1 k with
    | true => some p.2.2
    | false => atK k r
def stoD (k : NestedKey) (kd vd : D) : List (NestedKey × D × D) → List (NestedKey × D × D)
  | [] => [(k, kd, vd)]
  | p :: r => match NestedKey.beq p.1 k with
    | true => (p.1, p.2.1, vd) :: r
    | false => p :: stoD k kd vd r
def stoV {β α : Type} (k : NestedKey) (b : β) (v : α) : List (NestedKey × β × α) → List (NestedKey × β × α)
  | [] => [(k, b, v)]
  | p :: r => match NestedKey.beq p.1 k with
    | true => (p.1, p.2.1, v) :: r
    | false => p :: stoV k b v r
theorem nk_beq {a b : NestedKey} : NestedKey.beq a b = true ↔ a = b := ⟨NestedKey.eq_of_beq a b, fun e => by rw [e]; exact NestedKey.beq_self b⟩
theorem nk_bne {a b : NestedKey} (e : ¬ a = b) : NestedKey.beq a b = false := by
  cases z : NestedKey.beq a b
  · rfl
  · exact absurd (nk_beq.mp z) e
theorem look_ok {K : KW} {H : Hp} : ∀ {kvs : List (NestedKey × D × D)} {L : List (NestedKey × V × V)} {xs : List (NestedKey × Value × Value)} {k : NestedKey}, Paired (DEnt K ρ H) kvs L → Paired EntV L xs →
    match lookD k kvs with
    | some d => ∃ v p, atK k xs = some p ∧ RelV v p ∧ Rp K ρ H d v
    | none => atK k xs = none
  | _, _, _, _, .nil, .nil => rfl
  | p :: kvs, q :: L, x :: xs, k, .cons r t, .cons r' t' => by
    obtain ⟨e1, _, _, _, rv⟩ := r
    obtain ⟨e2, e3, rel⟩ := r'
    unfold lookD atK
    rw [← e2, ← e1]
    cases c : NestedKey.beq p.1 k with
    | true => exact ⟨q.2.2, x.2.2, rfl, rel, rv⟩
    | false => exact look_ok t t'
theorem stoV_ok : ∀ {L : List (NestedKey × V × V)} {xs : List (NestedKey × Value × Value)} {k : NestedKey} {b v : V} {c u : Value}, Paired EntV L xs → RelV b c → RelV v u → Paired EntV (stoV k b v L) (stoV k c u xs)
  | _, _, _, _, _, _, _, .nil, rb, r => .cons ⟨rfl, rb, r⟩ .nil
  | p :: L, x :: xs, k, b, v, c, u, .cons q t, rb, r => by
    unfold stoV
    rw [← q.1]
    cases NestedKey.beq p.1 k with
    | true => exact .cons ⟨rfl, q.2.1, r⟩ t
    | false => exact .cons q (stoV_ok t rb r)
theorem stoD_ok {K : KW} {H : Hp} {k : NestedKey} {kd vd : D} {b v : V} (e : toNK kd = some k) (hd : NestedKey.depth k ≤ 8) (rk : Rp K ρ H kd b) (rv : Rp K ρ H vd v) :
    ∀ {kvs : List (NestedKey × D × D)} {L : List (NestedKey × V × V)}, Paired (DEnt K ρ H) kvs L → Paired (DEnt K ρ H) (stoD k kd vd kvs) (stoV k b v L)
  | _, _, .nil => .cons ⟨rfl, e, hd, rk, rv⟩ .nil
  | p :: kvs, q :: L, .cons r t => by
    unfold stoD stoV
    rw [← r.1]
    cases NestedKey.beq p.1 k with
    | true => exact .cons ⟨r.1 ▸ rfl, r.2.1, r.2.2.1, r.2.2.2.1, rv⟩ t
    | false => exact .cons r (stoD_ok e hd rk rv t)
theorem mem_stoD {k : NestedKey} {kd vd : D} {f : D → Bool} (hk : f kd = true) : ∀ {kvs : List (NestedKey × D × D)}, (∀ p ∈ kvs, f p.2.1 = true) → ∀ p ∈ stoD k kd vd kvs, f p.2.1 = true
  | [], _, p, hp => by
    rcases List.mem_cons.mp hp with z | z
    · subst z; exact hk
    · cases z
  | q :: kvs, h, p, hp => by
    unfold stoD at hp
    cases c : NestedKey.beq q.1 k with
    | true =>
      rw [c] at hp
      rcases List.mem_cons.mp hp with z | z
      · subst z; exact h q List.mem_cons_self
      · exact h p (List.mem_cons_of_mem _ z)
    | false =>
      rw [c] at hp
      rcases List.mem_cons.mp hp with z | z
      · subst z; exact h p List.mem_cons_self
      · exact mem_stoD hk (fun y hy => h y (List.mem_cons_of_mem _ hy)) p z
/-! ### keys that are tuples: the dict as the library's -/
abbrev embR (y : NestedKey × Addr × Value) : NestedKey × Value × Value := (y.1, .ref y.2.1, y.2.2)
theorem refs_of : ∀ {xs : List (NestedKey × Value × Value)}, (∀ x ∈ xs, ∃ b, x.2.1 = Value.ref b) → ∃ ys : List (NestedKey × Addr × Value), xs = ys.map embR
  | [], _ => ⟨[], rfl⟩
  | x :: xs, h => by
    obtain ⟨b, e⟩ := h x List.mem_cons_self
    obtain ⟨ys, e2⟩ := refs_of (xs := xs) fun y hy => h y (List.mem_cons_of_mem _ hy)
    refine ⟨(x.1, b, x.2.2) :: ys, ?_⟩
    rw [List.map_cons, e2]
    show x :: _ = (x.1, Value.ref b, x.2.2) :: _
    rw [← e]
theorem raw_H {P : Program} {w : World} {h : Heap} {a : Addr} {ys : List (NestedKey × Addr × Value)} (d : RawD w h a (ys.map embR)) (k : ∀ q ∈ ys.map embR, NestedIs h q.1 q.2.1 ∧ NestedKey.depth q.1 ≤ 8) : h.DictOfH (nestedKind P w) a ys := by
  obtain ⟨o, es, ep, e1, e2, e3, e4, e5⟩ := d
  refine ⟨o, es, ep, e1, e2, e3, ?_, fun x hx => k (embR x) (List.mem_map.mpr ⟨x, hx, rfl⟩), ?_⟩
  · rw [e4, List.map_map]; rfl
  · rw [List.map_map] at e5; exact e5
theorem H_raw {P : Program} {w : World} {h : Heap} {a : Addr} {ys : List (NestedKey × Addr × Value)} (d : h.DictOfH (nestedKind P w) a ys) : RawD w h a (ys.map embR) := by
  obtain ⟨o, es, ep, e1, e2, e3, e4, _, e5⟩ := d
  refine ⟨o, es, ep, e1, e2, e3, ?_, ?_⟩
  · rw [e4, List.map_map]; rfl
  · rw [List.map_map]; exact e5
theorem atKey_cons (p : NestedKey × Addr × Value) (r : List (NestedKey × Addr × Value)) (k : NestedKey) : atKey (p :: r) k = if p.1 = k then some p.2 else atKey r k := by
  unfold atKey
  rw [List.find?_cons]
  by_cases e : p.1 = k
  · simp [e]
  · simp [e]
theorem atK_H : ∀ (ys : List (NestedKey × Addr × Value)) (k : NestedKey), atK k (ys.map embR) = (atKey ys k).map (·.2)
  | [], _ => rfl
  | y :: ys, k => by
    rw [List.map_cons, atKey_cons]
    unfold atK
    by_cases e : y.1 = k
    · rw [if_pos e]
      have : NestedKey.beq (embR y).1 k = true := nk_beq.mpr e
      rw [this]; rfl
    · rw [if_neg e]
      have : NestedKey.beq (embR y).1 k = false := nk_bne e
      rw [this]; exact atK_H ys k
theorem stored_is : ∀ {xs : List (NestedKey × Addr × Value)} {k : NestedKey} {b : Addr} {v : Value}, (xs.map (·.1)).Nodup → storedH xs k b v = stoV k b v xs
  | [], _, _, _, _ => rfl
  | x :: xs, k, b, v, nd => by
    rw [List.map_cons, List.nodup_cons] at nd
    unfold stoV
    by_cases e : x.1 = k
    · have c := nk_beq.mpr e
      simp only [c]
      have hs : (atKey (x :: xs) k).isSome = true := by rw [atKey_cons, if_pos e]; rfl
      unfold storedH
      rw [if_pos hs, List.map_cons]
      have h1 : putAt k v x = (x.1, x.2.1, v) := by unfold putAt; rw [if_pos e]
      have h2 : xs.map (putAt k v) = xs := by
        have : ∀ y ∈ xs, putAt k v y = y := fun y hy => by
          unfold putAt
          rw [if_neg]
          intro z
          exact nd.1 (List.mem_map.mpr ⟨y, hy, z.trans e.symm⟩)
        rw [List.map_congr_left this]
        exact List.map_id' xs
      rw [h1, h2]
    · have c : NestedKey.beq x.1 k = false := nk_bne e
      simp only [c]
      have ih := stored_is (k := k) (b := b) (v := v) nd.2
      rw [← ih]
      unfold storedH
      rw [atKey_cons, if_neg e]
      split
      · rw [List.map_cons]
        have : putAt k v x = x := by unfold putAt; rw [if_neg e]
        rw [this]
      · rfl
theorem sto_H (k : NestedKey) (b : Addr) (v : Value) : ∀ ys : List (NestedKey × Addr × Value), (stoV k b v ys).map embR = stoV k (Value.ref b) v (ys.map embR)
  | [] => rfl
  | y :: ys => by
    rw [List.map_cons]
    unfold stoV
    show _ = (match NestedKey.beq y.1 k with
      | true => _
      | false => _)
    cases NestedKey.beq y.1 k with
    | true => rfl
    | false => simp only []; rw [List.map_cons, sto_H k b v ys]
/-! ### keys that are ints -/
def IntE (x : NestedKey × Value × Value) : Prop := ∃ i t, x.1 = .num i ∧ x.2.1 = Value.int i t
def nkI : NestedKey → Int
  | .num i => i
  | _ => 0
abbrev kvI (x : NestedKey × Value × Value) : Int × Value := (nkI x.1, x.2.2)
theorem pairs_I {P : Program} {w : World} : ∀ {xs : List (NestedKey × Value × Value)}, (∀ x ∈ xs, IntE x) → Pairs (intKind P w) (xs.map fun x => (⟨x.1.hash w, x.2.1, x.2.2⟩ : DictEntry)) (xs.map kvI)
  | [], _ => .nil
  | x :: xs, h => by
    obtain ⟨i, t, e1, e2⟩ := h x List.mem_cons_self
    refine .cons ?_ rfl (pairs_I fun y hy => h y (List.mem_cons_of_mem _ hy))
    show Value.isInt (nkI x.1) x.2.1 = true
    rw [e1, e2]
    exact intKind_is P w i t
theorem nodup_I : ∀ {xs : List (NestedKey × Value × Value)}, (∀ x ∈ xs, IntE x) → (xs.map (·.1)).Nodup → ((xs.map kvI).map (·.1)).Nodup
  | [], _, _ => .nil
  | x :: xs, h, nd => by
    rw [List.map_cons, List.nodup_cons] at nd
    rw [List.map_cons, List.map_cons, List.nodup_cons]
    refine ⟨fun hm => nd.1 ?_, nodup_I (fun y hy => h y (List.mem_cons_of_mem _ hy)) nd.2⟩
    rw [List.map_map] at hm
    obtain ⟨y, hy, e⟩ := List.mem_map.mp hm
    obtain ⟨i, t, e1, _⟩ := h x List.mem_cons_self
    obtain ⟨j, u, f1, _⟩ := h y (List.mem_cons_of_mem _ hy)
    refine List.mem_map.mpr ⟨y, hy, ?_⟩
    have e : nkI y.1 = nkI x.1 := e
    rw [e1, f1] at e ⊢
    have e : j = i := e
    rw [e]
theorem raw_I {P : Program} {w : World} {h : Heap} {a : Addr} {xs : List (NestedKey × Value × Value)} (d : RawD w h a xs) (k : ∀ x ∈ xs, IntE x) : h.DictOf (intKind P w) a (xs.map kvI) := by
  obtain ⟨o, es, ep, e1, e2, e3, e4, e5⟩ := d
  refine ⟨o, es, ep, e1, e2, e3, fun e he => ?_, by rw [e4]; exact pairs_I k, nodup_I k e5⟩
  have he : e ∈ es.toList := Array.mem_toList_iff.mpr he
  rw [e4] at he
  obtain ⟨x, hx, rfl⟩ := List.mem_map.mp he
  obtain ⟨i, t, f1, f2⟩ := k x hx
  refine ⟨i, ?_, ?_⟩
  · show Value.isInt i x.2.1 = true
    rw [f2]; exact intKind_is P w i t
  · show NestedKey.hash w x.1 = hashInt i
    rw [f1]; rfl
/-- and back: what its entries are -/
theorem I_raw {P : Program} {w : World} {h : Heap} {a : Addr} {kvs : List (Int × Value)} (d : h.DictOf (intKind P w) a kvs) : ∃ xs, RawD w h a xs ∧ (∀ x ∈ xs, IntE x) ∧ xs.map kvI = kvs := by
  obtain ⟨o, es, ep, e1, e2, e3, e4, e5, e6⟩ := d
  have key : ∀ {l : List DictEntry} {kvs : List (Int × Value)}, Pairs (intKind P w) l kvs → (∀ e ∈ l, ∃ k, (intKind P w).is k e.key = true ∧ e.hash = (intKind P w).hash k) →
      ∃ xs : List (NestedKey × Value × Value), l = xs.map (fun x => (⟨x.1.hash w, x.2.1, x.2.2⟩ : DictEntry)) ∧ (∀ x ∈ xs, IntE x) ∧ xs.map kvI = kvs := by
    intro l kvs p
    induction p with
    | nil => exact fun _ => ⟨[], rfl, fun x hx => (by cases hx), rfl⟩
    | @cons e kv es kvs h1 h2 _ ih =>
      intro hk
      obtain ⟨xs, f1, f2, f3⟩ := ih fun e he => hk e (List.mem_cons_of_mem _ he)
      obtain ⟨k, g1, g2⟩ := hk e List.mem_cons_self
      obtain ⟨t, g3⟩ := Value.isInt_shape (show Value.isInt k e.key = true from g1)
      obtain ⟨t', g4⟩ := Value.isInt_shape (show Value.isInt kv.1 e.key = true from h1)
      have ek : k = kv.1 := by rw [g3] at g4; cases g4; rfl
      refine ⟨(.num k, e.key, e.val) :: xs, ?_, fun x hx => ?_, ?_⟩
      · rw [List.map_cons, f1]
        congr 1
        cases e
        simp only at g2 ⊢
        rw [g2]; rfl
      · rcases List.mem_cons.mp hx with z | z
        · subst z; exact ⟨k, t, rfl, g3⟩
        · exact f2 x z
      · rw [List.map_cons, f3]
        cases kv
        simp only at ek h2
        subst ek; subst h2
        rfl
  obtain ⟨xs, f1, f2, f3⟩ := key e5 fun e he => e4 e (Array.mem_toList_iff.mp he)
  refine ⟨xs, ⟨o, es, ep, e1, e2, e3, f1, ?_⟩, f2, f3⟩
  rw [← f3, List.map_map] at e6
  have : xs.map (·.1) = (xs.map ((fun p : Int × Value => p.1) ∘ kvI)).map NestedKey.num := by
    rw [List.map_map]
    refine List.map_congr_left fun x hx => ?_
    obtain ⟨i, t, g1, _⟩ := f2 x hx
    show x.1 = .num (nkI x.1)
    rw [g1]; rfl
  rw [this]
  exact List.pairwise_map.mpr (e6.imp fun {a b} hne e => hne (by injection e))
theorem atK_I : ∀ {xs : List (NestedKey × Value × Value)} (i : Int), (∀ x ∈ xs, IntE x) → valueAt (xs.map kvI) i = atK (.num i) xs
  | [], _, _ => rfl
  | x :: xs, i, h => by
    have ih := atK_I (xs := xs) i fun y hy => h y (List.mem_cons_of_mem _ hy)
    obtain ⟨j, t, e1, _⟩ := h x List.mem_cons_self
    unfold atK
    unfold valueAt at ih ⊢
    rw [List.map_cons, List.find?_cons]
    by_cases e : j = i
    · subst e
      have : NestedKey.beq x.1 (.num j) = true := nk_beq.mpr e1
      rw [this]
      have : decide ((kvI x).1 = j) = true := by rw [decide_eq_true_eq]; show nkI x.1 = j; rw [e1]; rfl
      rw [this]; rfl
    · have : NestedKey.beq x.1 (.num i) = false := nk_bne fun z => by rw [e1] at z; injection z with z; exact e z
      rw [this]
      have : decide ((kvI x).1 = i) = false := by rw [decide_eq_false_iff_not]; show ¬ nkI x.1 = i; rw [e1]; exact e
      rw [this]; exact ih
def stoI (k : Int) (v : Value) : List (Int × Value) → List (Int × Value)
  | [] => [(k, v)]
  | p :: r => if p.1 = k then (p.1, v) :: r else p :: stoI k v r
theorem stored_I : ∀ {kvs : List (Int × Value)} {k : Int} {v : Value}, (kvs.map (·.1)).Nodup → stored kvs k v = stoI k v kvs
  | [], _, _, _ => rfl
  | p :: r, k, v, nd => by
    rw [List.map_cons, List.nodup_cons] at nd
    have ih := stored_I (k := k) (v := v) nd.2
    unfold stoI
    unfold stored at ih ⊢
    rw [List.any_cons]
    by_cases e : p.1 = k
    · rw [if_pos e]
      have : decide (p.1 = k) = true := decide_eq_true e
      rw [this, Bool.true_or, if_pos rfl, List.map_cons, if_pos e, map_store_of_not_mem r k v (by rw [← e]; exact nd.1)]
    · rw [if_neg e, ← ih]
      have : decide (p.1 = k) = false := decide_eq_false e
      rw [this, Bool.false_or]
      by_cases c : (r.any fun kv => decide (kv.1 = k)) = true
      · rw [if_pos c, if_pos c, List.map_cons, if_neg e]
      · rw [if_neg c, if_neg c]; rfl
theorem paired_I {k : Int} {v : V} {u : Value} (rv : RelV v u) : ∀ {L : List (NestedKey × V × V)} {xs ys : List (NestedKey × Value × Value)}, Paired EntV L xs → (∀ p ∈ L, ∃ i, p.1 = .num i ∧ p.2.1 = V.int i) → (∀ x ∈ xs, IntE x) → (∀ x ∈ ys, IntE x) → ys.map kvI = stoI k u (xs.map kvI) → Paired EntV (stoV (.num k) (V.int k) v L) ys
  | [], [], ys, .nil, _, _, hy, e => by
    match ys, e with
    | [y], e =>
      obtain ⟨i, t, e1, e2⟩ := hy y List.mem_cons_self
      have e : [(nkI y.1, y.2.2)] = [(k, u)] := e
      injection e with e _
      injection e with ea eb
      rw [e1] at ea
      have ea : i = k := ea
      subst ea
      refine .cons ⟨e1.symm, ?_, ?_⟩ .nil
      · rw [e2]; exact ⟨t, rfl⟩
      · rw [eb]; exact rv
  | p :: L, x :: xs, ys, .cons q t, hL, hx, hy, e => by
    obtain ⟨i, p1, p2⟩ := hL p List.mem_cons_self
    obtain ⟨j, tk, x1, x2⟩ := hx x List.mem_cons_self
    have eij : i = j := by
      have := q.1
      rw [p1, x1] at this
      injection this
    subst eij
    match ys, e with
    | [], e => 
      rw [List.map_cons] at e
      unfold stoI at e
      split at e <;> cases e
    | y :: ys, e =>
      obtain ⟨l, tl, y1, y2⟩ := hy y List.mem_cons_self
      rw [List.map_cons, List.map_cons] at e
      have ex : (kvI x).1 = i := by show nkI x.1 = i; rw [x1]; rfl
      have ey : (kvI y).1 = l := by show nkI y.1 = l; rw [y1]; rfl
      unfold stoI at e
      unfold stoV
      rw [p1]
      by_cases c : i = k
      · subst c
        rw [ex, if_pos rfl] at e
        injection e with ea eb
        have b : NestedKey.beq (NestedKey.num i) (.num i) = true := nk_beq.mpr rfl
        rw [b]
        have el : l = i := by rw [← ey, ea]
        subst el
        have ev : y.2.2 = u := by
          have := congrArg Prod.snd ea
          exact this
        refine .cons ⟨y1.symm, by rw [p2, y2]; exact ⟨tl, rfl⟩, by rw [ev]; exact rv⟩ ?_
        have keyL : ∀ {L : List (NestedKey × V × V)} {xs ys : List (NestedKey × Value × Value)}, Paired EntV L xs → (∀ p ∈ L, ∃ i, p.1 = .num i ∧ p.2.1 = V.int i) → (∀ x ∈ xs, IntE x) → (∀ x ∈ ys, IntE x) → ys.map kvI = xs.map kvI → Paired EntV L ys := by
          intro L xs ys q
          induction q generalizing ys with
          | nil =>
            intro _ _ _ e
            match ys, e with
            | [], _ => exact .nil
          | @cons p x L xs r t ih =>
            intro hL hx hy e
            match ys, e with
            | y :: ys, e =>
              rw [List.map_cons, List.map_cons] at e
              injection e with ea eb
              refine .cons ?_ (ih (fun z hz => hL z (List.mem_cons_of_mem _ hz)) (fun z hz => hx z (List.mem_cons_of_mem _ hz)) (fun z hz => hy z (List.mem_cons_of_mem _ hz)) eb)
              obtain ⟨i, p1, p2⟩ := hL p List.mem_cons_self
              obtain ⟨j, tk, x1, x2⟩ := hx x List.mem_cons_self
              obtain ⟨l, tl, y1, y2⟩ := hy y List.mem_cons_self
              have e1 := congrArg Prod.fst ea
              have e2 := congrArg Prod.snd ea
              have e1 : nkI y.1 = nkI x.1 := e1
              have e2 : y.2.2 = x.2.2 := e2
              rw [x1, y1] at e1
              have e1 : l = j := e1
              have e3 := r.1
              rw [p1, x1] at e3
              injection e3 with e3
              subst e1; subst e3
              exact ⟨p1.trans y1.symm, by rw [p2, y2]; exact ⟨tl, rfl⟩, by rw [e2]; exact r.2.2⟩
        exact keyL t (fun z hz => hL z (List.mem_cons_of_mem _ hz)) (fun z hz => hx z (List.mem_cons_of_mem _ hz)) (fun z hz => hy z (List.mem_cons_of_mem _ hz)) eb
      · rw [ex, if_neg c] at e
        injection e with ea eb
        have b : NestedKey.beq (NestedKey.num i) (.num k) = false := nk_bne fun z => by injection z with z; exact c z
        rw [b]
        have e1 := congrArg Prod.fst ea
        have e2 := congrArg Prod.snd ea
        have e1 : nkI y.1 = nkI x.1 := e1
        have e2 : y.2.2 = x.2.2 := e2
        rw [x1, y1] at e1
        have e1 : l = i := e1
        subst e1
        exact .cons ⟨p1.trans y1.symm, by rw [p2, y2]; exact ⟨tl, rfl⟩, by rw [e2]; exact q.2.2⟩ (paired_I rv t (fun z hz => hL z (List.mem_cons_of_mem _ hz)) (fun z hz => hx z (List.mem_cons_of_mem _ hz)) (fun z hz => hy z (List.mem_cons_of_mem _ hz)) eb)
end
/-- the dict in a cell -/
def dctAt (n : Nat) (h : AH) : Option (List (NestedKey × D × D)) := match AH.get n h with
  | some (.dict _ kvs) => some kvs
  | _ => none
theorem dctAt_ok {K : KW} {ρ : Rho} {H : Hp} {h : AH} {n : Nat} {kvs : List (NestedKey × D × D)} (hr : HR K ρ H h) (e : dctAt n h = some kvs) :
    ∃ a L fz, ρ n = some a ∧ Lk fz (H a) (DN K.w L a) ∧ (a == sysModules) = false ∧ Paired (DEnt K ρ H) kvs L ∧ HomD kvs ∧ AH.get n h = some (.dict fz kvs) := by
  unfold dctAt at e
  cases q : AH.get n h with
  | none => rw [q] at e; cases e
  | some c =>
    cases c with
    | lst _ => rw [q] at e; cases e
    | obj _ _ => rw [q] at e; cases e
    | junk => rw [q] at e; cases e
    | urn _ => rw [q] at e; cases e
    | dict fz es =>
      rw [q] at e; cases e
      obtain ⟨a, e1, L, e2, e3, r, hm⟩ := hr.at_ n _ q
      exact ⟨a, L, fz, e1, e2, e3, r, hm, rfl⟩
end Nc
namespace Nc
open PySem PySem.Spec PyProof.Rows L2
/-- the first key is of this kind -/
def headK (f : D → Bool) : List (NestedKey × D × D) → Bool
  | [] => true
  | p :: _ => f p.2.1
/-- a key that a dict takes: a tuple, not too deep, among tuples; an int among ints -/
def keyD (kvs : List (NestedKey × D × D)) (d : D) : Option NestedKey := match d with
  | .tup ds => match headK isTupD kvs with
    | true => match toNK (.tup ds) with
      | some k => match Nat.ble (NestedKey.depth k) 8 with
        | true => some k
        | false => none
      | none => none
    | false => none
  | .int i => match headK isIntD kvs with
    | true => some (.num i)
    | false => none
  | _ => none
/-- all keys, and this one, are of one kind -/
def Kin (kvs : List (NestedKey × D × D)) (d : D) : Prop := (isTupD d = true ∧ ∀ p ∈ kvs, isTupD p.2.1 = true) ∨ (isIntD d = true ∧ ∀ p ∈ kvs, isIntD p.2.1 = true)
theorem hom_head {kvs : List (NestedKey × D × D)} (h : HomD kvs) (c : headK isTupD kvs = true) : ∀ p ∈ kvs, isTupD p.2.1 = true := by
  rcases h with h | h
  · exact h
  · cases kvs with
    | nil => intro p hp; cases hp
    | cons p r =>
      have c : isTupD p.2.1 = true := c
      have := h p List.mem_cons_self
      generalize p.2.1 = d at c this
      cases d <;> first | (cases c; done) | (cases this; done)
theorem hom_headI {kvs : List (NestedKey × D × D)} (h : HomD kvs) (c : headK isIntD kvs = true) : ∀ p ∈ kvs, isIntD p.2.1 = true := by
  rcases h with h | h
  · cases kvs with
    | nil => intro p hp; cases hp
    | cons p r =>
      have c : isIntD p.2.1 = true := c
      have := h p List.mem_cons_self
      generalize p.2.1 = d at c this
      cases d <;> first | (cases c; done) | (cases this; done)
  · exact h
theorem keyD_ok {kvs : List (NestedKey × D × D)} {d : D} {k : NestedKey} (h : HomD kvs) (e : keyD kvs d = some k) : toNK d = some k ∧ NestedKey.depth k ≤ 8 ∧ Kin kvs d := by
  cases d with
  | tup ds =>
    unfold keyD at e
    cases hc : headK isTupD kvs with
    | false => simp only [hc] at e; cases e
    | true =>
      cases z : toNK (.tup ds) with
      | none => simp only [hc, z] at e; cases e
      | some k' =>
        cases c : Nat.ble (NestedKey.depth k') 8 with
        | false => simp only [hc, z, c] at e; cases e
        | true =>
          simp only [hc, z, c] at e; cases e
          exact ⟨rfl, Nat.le_of_ble_eq_true c, .inl ⟨rfl, hom_head h hc⟩⟩
  | int i =>
    unfold keyD at e
    cases hc : headK isIntD kvs with
    | false => simp only [hc] at e; cases e
    | true =>
      simp only [hc] at e; cases e
      refine ⟨rfl, ?_, .inr ⟨rfl, hom_headI h hc⟩⟩
      simp [NestedKey.depth]
  | _ => cases e
theorem Kin.hom {k : NestedKey} {kd vd : D} {kvs : List (NestedKey × D × D)} (h : Kin kvs kd) : HomD (stoD k kd vd kvs) := by
  rcases h with ⟨h1, h2⟩ | ⟨h1, h2⟩
  · exact .inl (mem_stoD h1 h2)
  · exact .inr (mem_stoD h1 h2)
section
variable {X : Cx} {T : XT}
/-- what a dict and a key are, by values: the readings of the rules below -/
structure DKey (X : Cx) (ρ : Rho) (H : Hp) (a : Addr) (b : V) (L : List (NestedKey × V × V)) (kvs : List (NestedKey × D × D)) (k : NestedKey) (kd : D) : Prop where
  at_ : Rd H a (DN X.w L a)
  sys : (a == sysModules) = false
  ent : Paired (DEnt (kwOf X) ρ H) kvs L
  key : toNK kd = some k
  dep : NestedKey.depth k ≤ 8
  rel : Rp (kwOf X) ρ H kd b
  kin : Kin kvs kd
section
variable {pins : List (Addr × Obj)} {σ : L2.St} {H : Hp} {s : Shared} {ρ : Rho} {a : Addr} {b : V} {L : List (NestedKey × V × V)} {kvs : List (NestedKey × D × D)} {k : NestedKey} {kd : D} {xs : List (NestedKey × Value × Value)} {u : Value}
/-- of tuples, or of ints -/
theorem tup_refs {K : KW} : ∀ {kvs : List (NestedKey × D × D)} {L : List (NestedKey × V × V)} {xs : List (NestedKey × Value × Value)}, Paired (DEnt K ρ H) kvs L → Paired EntV L xs → (∀ p ∈ kvs, isTupD p.2.1 = true) → ∀ x ∈ xs, ∃ b, x.2.1 = Value.ref b
  | _, _, _, .nil, .nil, _, x, hx => by cases hx
  | p :: kvs, q :: L, y :: xs, .cons r t, .cons r' t', h, x, hx => by
    rcases List.mem_cons.mp hx with z | z
    · subst z
      have hp := h p List.mem_cons_self
      obtain ⟨_, _, _, rk, _⟩ := r
      have rel := r'.2.1
      generalize p.2.1 = d at hp rk
      cases d with
      | tup ds =>
        obtain ⟨c, _, e, _⟩ := rp_tup.mp rk
        rw [e] at rel
        exact ⟨c, rel⟩
      | _ => cases hp
    · exact tup_refs t t' (fun y hy => h y (List.mem_cons_of_mem _ hy)) x z
theorem int_keys {K : KW} : ∀ {kvs : List (NestedKey × D × D)} {L : List (NestedKey × V × V)} {xs : List (NestedKey × Value × Value)}, Paired (DEnt K ρ H) kvs L → Paired EntV L xs → (∀ p ∈ kvs, isIntD p.2.1 = true) → (∀ p ∈ L, ∃ i, p.1 = .num i ∧ p.2.1 = V.int i) ∧ ∀ x ∈ xs, IntE x
  | _, _, _, .nil, .nil, _ => ⟨fun x hx => (by cases hx), fun x hx => (by cases hx)⟩
  | p :: kvs, q :: L, y :: xs, .cons r t, .cons r' t', h => by
    obtain ⟨i1, i2⟩ := int_keys t t' fun y hy => h y (List.mem_cons_of_mem _ hy)
    have hp := h p List.mem_cons_self
    obtain ⟨e1, e2, _, rk, _⟩ := r
    have key : ∃ i, q.1 = .num i ∧ q.2.1 = V.int i := by
      generalize p.2.1 = d at hp rk e2
      cases d with
      | int i =>
        unfold toNK at e2
        injection e2 with e2
        exact ⟨i, by rw [← e1, ← e2], rp_int.mp rk⟩
      | _ => cases hp
    obtain ⟨i, k1, k2⟩ := key
    refine ⟨fun x hx => ?_, fun x hx => ?_⟩
    · rcases List.mem_cons.mp hx with z | z
      · subst z; exact ⟨i, k1, k2⟩
      · exact i1 x z
    · rcases List.mem_cons.mp hx with z | z
      · subst z
        have rel := r'.2.1
        rw [k2] at rel
        obtain ⟨t, e⟩ := rel
        exact ⟨i, t, by rw [← r'.1, k1], e⟩
      · exact i2 x z
theorem DKey.room {n : Nat} (hr : Room n X.A) : (nestedKind X.prog X.w).room X.A.in1 := by
  have := hr.units
  show X.A.units + 1 + 8 < cLine
  omega
/-- the key's value: an address, or an int -/
theorem DKey.val (Dk : DKey X ρ H a b L kvs k kd) (rb : RelV b u) : (∃ c, u = .ref c ∧ ∀ p ∈ kvs, isTupD p.2.1 = true) ∨ (∃ i t, b = .int i ∧ u = .int i t ∧ k = .num i ∧ ∀ p ∈ kvs, isIntD p.2.1 = true) := by
  rcases Dk.kin with ⟨h1, h2⟩ | ⟨h1, h2⟩
  · left
    have rel := Dk.rel
    cases kd with
    | tup ds =>
      obtain ⟨c, _, e, _⟩ := rp_tup.mp rel
      subst e
      cases rb
      exact ⟨c, rfl, h2⟩
    | _ => cases h1
  · right
    have rel := Dk.rel
    have key := Dk.key
    cases kd with
    | int i =>
      have e := rp_int.mp rel
      subst e
      obtain ⟨t, rfl⟩ := rb
      unfold toNK at key
      injection key with key
      exact ⟨i, t, rfl, rfl, key.symm, h2⟩
    | _ => cases h1
/-- d[k] -/
theorem DKey.get {n : Nat} (hr : Room n X.A) (I : Inv X pins σ H s) (Dk : DKey X ρ H a b L kvs k kd) (rb : RelV b u) (r : Paired EntV L xs) (dd : RawD X.w s.heap a xs) {p : Value} (e : atK k xs = some p) {Q : Value → Shared → Prop} {E : Value → Shared → Prop} (h : ∀ tk, Q p { s with toks := tk }) :
    wpAny (model X.prog X.w) X.A (getItem (.ref a) u) Q E s := by
  have ks := keys_ok I Dk.ent r
  rcases Dk.val rb with ⟨c, rfl, ht⟩ | ⟨i, t, rfl, rfl, rfl, hi⟩
  · obtain ⟨ys, rfl⟩ := refs_of (tup_refs Dk.ent r ht)
    rw [atK_H] at e
    cases z : atKey ys k with
    | none => rw [z] at e; cases e
    | some q =>
      rw [z] at e; cases e
      exact wpAny_getItem_heap (DKey.room hr) ⟨nk_is I _ _ _ _ Dk.key Dk.rel rb, Dk.dep⟩ (raw_H dd ks) z (h _)
  · obtain ⟨_, hI⟩ := int_keys Dk.ent r hi
    refine wpAny_getItem_of (knd := intKind X.prog X.w) (k := i) (intKind_is _ _ _ _) (raw_I dd hI).mapOf ?_ (h _)
    rw [atK_I i hI]; exact e
theorem DKey.has {n : Nat} (hr : Room n X.A) (I : Inv X pins σ H s) (Dk : DKey X ρ H a b L kvs k kd) (rb : RelV b u) (r : Paired EntV L xs) (dd : RawD X.w s.heap a xs) {Q : Value → Shared → Prop} {E : Value → Shared → Prop} (h : ∀ tk, Q (.bool (atK k xs).isSome) { s with toks := tk }) :
    wpAny (model X.prog X.w) X.A (compareOp .In u (.ref a)) Q E s := by
  have ks := keys_ok I Dk.ent r
  rcases Dk.val rb with ⟨c, rfl, ht⟩ | ⟨i, t, rfl, rfl, rfl, hi⟩
  · obtain ⟨ys, rfl⟩ := refs_of (tup_refs Dk.ent r ht)
    refine wpAny_in_heap (DKey.room hr) ⟨nk_is I _ _ _ _ Dk.key Dk.rel rb, Dk.dep⟩ Dk.sys (raw_H dd ks) ?_
    rw [atK_H, Option.isSome_map] at h
    exact h _
  · obtain ⟨_, hI⟩ := int_keys Dk.ent r hi
    refine wpAny_in_of (knd := intKind X.prog X.w) (k := i) (intKind_is _ _ _ _) Dk.sys (raw_I dd hI).mapOf ?_
    rw [atK_I i hI]; exact h _
theorem DKey.hasNot {n : Nat} (hr : Room n X.A) (I : Inv X pins σ H s) (Dk : DKey X ρ H a b L kvs k kd) (rb : RelV b u) (r : Paired EntV L xs) (dd : RawD X.w s.heap a xs) {Q : Value → Shared → Prop} {E : Value → Shared → Prop} (h : ∀ tk, Q (.bool (!(atK k xs).isSome)) { s with toks := tk }) :
    wpAny (model X.prog X.w) X.A (compareOp .NotIn u (.ref a)) Q E s := by
  have ks := keys_ok I Dk.ent r
  rcases Dk.val rb with ⟨c, rfl, ht⟩ | ⟨i, t, rfl, rfl, rfl, hi⟩
  · obtain ⟨ys, rfl⟩ := refs_of (tup_refs Dk.ent r ht)
    refine wpAny_notIn_heap (DKey.room hr) ⟨nk_is I _ _ _ _ Dk.key Dk.rel rb, Dk.dep⟩ Dk.sys (raw_H dd ks) ?_
    rw [atK_H, Option.isSome_map] at h
    exact h _
  · obtain ⟨_, hI⟩ := int_keys Dk.ent r hi
    refine wpAny_notIn_of (knd := intKind X.prog X.w) (k := i) (intKind_is _ _ _ _) Dk.sys (raw_I dd hI).mapOf ?_
    rw [atK_I i hI]; exact h _
/-- what a store leaves -/
def StoQ (X : Cx) (pins : List (Addr × Obj)) (σ : L2.St) (H : Hp) (a : Addr) (k : NestedKey) (b v : V) (L : List (NestedKey × V × V)) (Q : Unit → Shared → Prop) : Prop := ∀ s', Inv X pins σ (upd H a (DN X.w (stoV k b v L) a)) s' → Q () s'
theorem dn_put {h' : Heap} {t : Nat} {v : V} {ys : List (NestedKey × Value × Value)} (I : Inv X pins σ H s) (hD : H a = some (DN X.w L a)) (r : Paired EntV (stoV k b v L) ys) (d' : RawD X.w h' a ys) (hs : Heap.SameBut a s.heap h') : Inv X pins σ (upd H a (DN X.w (stoV k b v L) a)) { s with heap := h', toks := t } := by
  obtain ⟨o, _, _, ho, _⟩ := id d'
  exact d_write I (by rw [hD]; exact True.intro) hs ⟨o, ho⟩ (dn_ok r d')
theorem DKey.size (Dk : DKey X ρ H a b L kvs k kd) (r : Paired EntV L xs) (hl : kvs.length ≤ lim) : xs.length ≤ sizeLine := by
  have len : ∀ {α β : Type} {F : α → β → Prop} {l : List α} {m : List β}, Paired F l m → l.length = m.length := by
    intro α β F l m p
    induction p with
    | nil => rfl
    | cons _ _ ih => simp [ih]
  rw [← len r, ← len Dk.ent]
  have : lim ≤ sizeLine := by rw [sizeLine_eq]; decide
  omega
/-- d[k] = v -/
theorem DKey.put {n : Nat} (hr : Room n X.A) (I : Inv X pins σ H s) (Dk : DKey X ρ H a b L kvs k kd) (hw : H a = some (DN X.w L a)) (rb : RelV b u) (hl : kvs.length ≤ lim) {v : V} {z : Value} (rv : RelV v z) {Q : Unit → Shared → Prop} {E : Value → Shared → Prop} (h : StoQ X pins σ H a k b v L Q) :
    wpAny (model X.prog X.w) X.A (setItem (.ref a) u z) Q E s := by
  obtain ⟨xs, r, dd⟩ := dn_get I Dk.at_
  have ks := keys_ok I Dk.ent r
  have l := Dk.size r hl
  rcases Dk.val rb with ⟨c, rfl, ht⟩ | ⟨i, t, rfl, rfl, rfl, hi⟩
  · obtain ⟨ys, rfl⟩ := refs_of (tup_refs Dk.ent r ht)
    have dH := raw_H (P := X.prog) dd ks
    obtain ⟨_, _, _, _, _, _, _, _, nd⟩ := id dH
    refine wpAny_setItem_heap (hsz := by rw [List.length_map] at l; exact l) (DKey.room hr) ⟨nk_is I _ _ _ _ Dk.key Dk.rel rb, Dk.dep⟩ dH fun h' d' hs => ?_
    rw [stored_is nd] at d'
    have d2 := H_raw d'
    rw [sto_H] at d2
    exact h _ (dn_put I hw (stoV_ok r rb rv) d2 hs)
  · obtain ⟨hL, hI⟩ := int_keys Dk.ent r hi
    refine wpAny_setItem_pairs (knd := intKind X.prog X.w) (k := i) (hsz := by rw [List.length_map]; exact l) (intKind_is _ _ _ _) (raw_I dd hI) fun h' d' hs => ?_
    obtain ⟨ys, y1, y2, y3⟩ := I_raw d'
    rw [stored_I (nodup_I hI (by obtain ⟨_, _, _, _, _, _, _, nd⟩ := dd; exact nd))] at y3
    exact h _ (dn_put I hw (paired_I rv r hL hI y2 y3) y1 hs)
/-- the same, by a comprehension -/
theorem dictSet_ok {n : Nat} (hr : Room n X.A) (I : Inv X pins σ H s) (Dk : DKey X ρ H a b L kvs k kd) (hw : H a = some (DN X.w L a)) (rb : RelV b u) (hl : kvs.length ≤ lim) {v : V} {z : Value} (rv : RelV v z) {Q : Unit → Shared → Prop} {E : Value → Shared → Prop} (h : StoQ X pins σ H a k b v L Q) :
    wpAny (model X.prog X.w) X.A (dictSet a u z) Q E s := by
  obtain ⟨xs, r, dd⟩ := dn_get I Dk.at_
  have ks := keys_ok I Dk.ent r
  have l := Dk.size r hl
  have rm : (nestedKind X.prog X.w).room X.A := by
    have := hr.units
    show X.A.units + 8 < cLine
    omega
  rcases Dk.val rb with ⟨c, rfl, ht⟩ | ⟨i, t, rfl, rfl, rfl, hi⟩
  · obtain ⟨ys, rfl⟩ := refs_of (tup_refs Dk.ent r ht)
    have dH := raw_H (P := X.prog) dd ks
    obtain ⟨_, _, _, _, _, _, _, _, nd⟩ := id dH
    refine wpAny_dictSet_heap (hsz := by rw [List.length_map] at l; exact l) rm ⟨nk_is I _ _ _ _ Dk.key Dk.rel rb, Dk.dep⟩ dH fun h' d' hs => ?_
    rw [stored_is nd] at d'
    have d2 := H_raw d'
    rw [sto_H] at d2
    exact h _ (dn_put I hw (stoV_ok r rb rv) d2 hs)
  · obtain ⟨hL, hI⟩ := int_keys Dk.ent r hi
    refine wpAny_dictSet_pairs (knd := intKind X.prog X.w) (k := i) (hsz := by rw [List.length_map]; exact l) (intKind_is _ _ _ _) (raw_I dd hI) fun h' d' hs => ?_
    obtain ⟨ys, y1, y2, y3⟩ := I_raw d'
    rw [stored_I (nodup_I hI (by obtain ⟨_, _, _, _, _, _, _, nd⟩ := dd; exact nd))] at y3
    exact h _ (dn_put I hw (paired_I rv r hL hI y2 y3) y1 hs)
end
def rIxN (X : Cx) : R2 := fun x y H Q => ∃ ρ a L kvs k kd, x = .ref a ∧ DKey X ρ H a y L kvs k kd ∧ ∃ d, lookD k kvs = some d ∧ ∀ v, Rp (kwOf X) ρ H d v → Q v H
theorem ix_dict {k : Nat} (hr : Room k X.A) : IxR X (rIxN X) := by
  intro value slice pins s σ H x y v u Q I rx ry h hs
  obtain ⟨ρ, a, L, kvs, k, kd, rfl, D, d, e, q⟩ := h
  cases rx
  obtain ⟨xs, r, dd⟩ := dn_get I D.at_
  have lk := look_ok (k := k) D.ent r
  rw [e] at lk
  obtain ⟨w, p, e1, rw', rd⟩ := lk
  exact tail_any dd.typeIs PySem.F.slot_dict_getitem.lookup (D.get hr I ry r dd e1 fun tk => ⟨w, H, I.tok _, rw', q w rd⟩) hs
def rInN (X : Cx) (neg : Bool) : R2 := fun x y H Q => ∃ ρ a L kvs k kd, y = .ref a ∧ DKey X ρ H a x L kvs k kd ∧ Q (.bl (if neg then !(lookD k kvs).isSome else (lookD k kvs).isSome)) H
theorem at_some {K : KW} {ρ : Rho} {H : Hp} {kvs : List (NestedKey × D × D)} {L : List (NestedKey × V × V)} {xs : List (NestedKey × Value × Value)} {k : NestedKey} (a : Paired (DEnt K ρ H) kvs L) (b : Paired EntV L xs) : (atK k xs).isSome = (lookD k kvs).isSome := by
  have lk := look_ok (k := k) a b
  cases e : lookD k kvs with
  | none => rw [e] at lk; rw [lk]; rfl
  | some d => rw [e] at lk; obtain ⟨_, p, e1, _⟩ := lk; rw [e1]; rfl
theorem op_inN {k : Nat} (hr : Room k X.A) : OpR X (compareOp .In) (rInN X false) := by
  intro pins s σ H x y v u Q I rx ry h
  obtain ⟨ρ, a, L, kvs, k, kd, rfl, D, q⟩ := h
  cases ry
  obtain ⟨xs, r, dd⟩ := dn_get I D.at_
  exact D.has hr I rx r dd fun tk => ⟨.bl _, H, I.tok _, by rw [at_some D.ent r]; rfl, q⟩
theorem op_notInN {k : Nat} (hr : Room k X.A) : OpR X (compareOp .NotIn) (rInN X true) := by
  intro pins s σ H x y v u Q I rx ry h
  obtain ⟨ρ, a, L, kvs, k, kd, rfl, D, q⟩ := h
  cases ry
  obtain ⟨xs, r, dd⟩ := dn_get I D.at_
  exact D.hasNot hr I rx r dd fun tk => ⟨.bl _, H, I.tok _, by rw [at_some D.ent r]; rfl, q⟩
def rSetN (X : Cx) : V → V → V → Hp → (Hp → Prop) → Prop := fun o i v H Q => ∃ ρ a L kvs k kd, o = .ref a ∧ H a = some (DN X.w L a) ∧ DKey X ρ H a i L kvs k kd ∧ kvs.length ≤ lim ∧ Q (upd H a (DN X.w (stoV k i v L) a))
theorem paired_len {α β : Type} {F : α → β → Prop} {l : List α} {m : List β} (p : Paired F l m) : l.length = m.length := by
  induction p with
  | nil => rfl
  | cons _ _ ih => simp [ih]
theorem set_dict {k : Nat} (hr : Room k X.A) : PSet X (rSetN X) := by
  intro pins s σ H o i v ov iv u Q I ro ri rv h
  obtain ⟨ρ, a, L, kvs, k, kd, rfl, hw, D, hl, q⟩ := h
  cases ro
  exact D.put hr I hw ri hl rv fun s' I' => ⟨_, I', q⟩
end
end Nc
namespace Nc
open PySem PySem.Spec PyProof.Rows L2

/-! ## dicts by data -/
section
variable {X : Cx} {T : XT} {W : WX}
theorem dKey_of {ρ : Rho} {H : Hp} {h : AH} {n : Nat} {kvs : List (NestedKey × D × D)} {kd : D} {k : NestedKey} {x y : V} (hr : HR (kwOf X) ρ H h) (rx : Rp (kwOf X) ρ H (.cell n) x) (ry : Rp (kwOf X) ρ H kd y) (e1 : dctAt n h = some kvs) (e2 : keyD kvs kd = some k) :
    ∃ a L fz, x = .ref a ∧ ρ n = some a ∧ AH.get n h = some (.dict fz kvs) ∧ Lk fz (H a) (DN X.w L a) ∧ DKey X ρ H a y L kvs k kd := by
  obtain ⟨a, L, fz, f1, f2, f3, f4, fh, f5⟩ := dctAt_ok hr e1
  obtain ⟨c, rfl, f6⟩ := rp_cell.mp rx
  rw [f1] at f6; cases f6
  obtain ⟨g1, g2, g3⟩ := keyD_ok fh e2
  exact ⟨a, L, fz, rfl, f1, f5, f2, ⟨lk_rd f2, f3, f4, g1, g2, ry, g3⟩⟩
def dIxN (x y : D) (h : AH) : R D := match x with
  | .cell n => withS (dctAt n h) fun kvs => withS (keyD kvs y) fun k => withS (lookD k kvs) fun d => .ok d h
  | _ => .no
/-- a dict -/
def isD (y : D) (h : AH) : Bool := match y with
  | .cell n => match dctAt n h with
    | some _ => true
    | none => false
  | _ => false
def dIxA (x y : D) (h : AH) : R D := match y with
  | .int i => match isD x h with
    | true => dIxN x (.int i) h
    | false => withS (seqOf x h) fun ds => withS (atD ds i) fun d => .ok d h
  | _ => dIxN x y h
theorem ixN_of {E : XK} {ρ : Rho} {H : Hp} {h : AH} {x y : D} {v u : V} {Q : VK} (hr : HR (kwOf X) ρ H h) (rx : Rp (kwOf X) ρ H x v) (ry : Rp (kwOf X) ρ H y u)
    (p : P1 (kwOf X) T E ρ H (dIxN x y h) Q) : rIxN X v u H Q := by
  cases x with
  | cell n =>
    obtain ⟨kvs, e1, p⟩ := Post.withS (k := fun kvs => withS (keyD kvs y) fun k => withS (lookD k kvs) fun d => (R.ok d h : R D)) p
    obtain ⟨k, e2, p⟩ := p.withS
    obtain ⟨d, e3, p⟩ := p.withS
    obtain ⟨a, L, fz, rfl, _, _, _, D⟩ := dKey_of hr rx ry e1 e2
    exact ⟨ρ, a, L, kvs, k, y, rfl, D, d, e3, fun v r => p.here hr v r⟩
  | _ => exact p.elim
theorem o_ixA : O2 (kwOf X) T (fun x y H Q => (rIxL X.K x y H Q ∨ rIxT X.K x y H Q) ∨ rIxN X x y H Q) dIxA := fun E ρ H h x y v u Q hr rx ry p => by
  cases y with
  | int i =>
    unfold dIxA at p
    cases c : isD x h with
    | true => simp only [c] at p; exact .inr (ixN_of hr rx ry p)
    | false => simp only [c] at p; exact .inl (o_ix (K := kwOf X) E ρ H h x (.int i) v u Q hr rx ry p)
  | tup ds => exact .inr (ixN_of hr rx ry p)
  | non => exact .inr (ixN_of hr rx ry p)
  | bl b => exact .inr (ixN_of hr rx ry p)
  | str b => exact .inr (ixN_of hr rx ry p)
  | cell b => exact .inr (ixN_of hr rx ry p)
  | frl b => exact .inr (ixN_of hr rx ry p)
theorem IxR.or {r r' : R2} (h : IxR X r) (h' : IxR X r') : IxR X (fun x y H Q => r x y H Q ∨ r' x y H Q) := fun va sl pins s σ H x y v u Q I rx ry q hs => q.elim (fun z => h va sl pins s σ H x y v u Q I rx ry z hs) (fun z => h' va sl pins s σ H x y v u Q I rx ry z hs)
theorem se_sub {k : Nat} {a b : Expr} {f g : DE} {pos : Pos} (hr : Room k X.A) (ha : SE X T W a f) (hb : SE X T W b g) (hs : PlainIx b) : SE X T W (.Subscript a b pos) (dOp dIxA f g) :=
  se_ix (IxR.or (IxR.or ix_list ix_tup) (ix_dict hr)) o_ixA ha hb hs
/-- x in a dict -/
def inN (x y : D) (h : AH) : Option Bool := match y with
  | .cell n => match dctAt n h with
    | some kvs => match keyD kvs x with
      | some k => match lookD k kvs with
        | some _ => some true
        | none => some false
      | none => none
    | none => none
  | _ => none
def dInA (neg : Bool) (x y : D) (h : AH) : R D := match isD y h with
  | true => withS (inN x y h) fun b => .ok (.bl (if neg then !b else b)) h
  | false => withS (inD x y h) fun b => .ok (.bl (if neg then !b else b)) h
theorem inN_ok {E : XK} {ρ : Rho} {H : Hp} {h : AH} {x y : D} {v u : V} {Q : VK} {b neg : Bool} (hr : HR (kwOf X) ρ H h) (rx : Rp (kwOf X) ρ H x v) (ry : Rp (kwOf X) ρ H y u) (e : inN x y h = some b) (q : Q (.bl (if neg then !b else b)) H) : rInN X neg v u H Q := by
  unfold inN at e
  cases y with
  | cell n =>
    cases z : dctAt n h with
    | none => simp only [z] at e; cases e
    | some kvs =>
      cases z2 : keyD kvs x with
      | none => simp only [z, z2] at e; cases e
      | some k =>
        obtain ⟨a, L, fz, rfl, _, _, _, D⟩ := dKey_of hr ry rx z z2
        have : (lookD k kvs).isSome = b := by
          cases z3 : lookD k kvs with
          | none => simp only [z, z2, z3] at e; cases e; rfl
          | some d => simp only [z, z2, z3] at e; cases e; rfl
        exact ⟨ρ, a, L, kvs, k, x, rfl, D, by rw [this]; exact q⟩
  | _ => cases e
theorem o_inA : O2 (kwOf X) T (fun x y H Q => (rIn X.K false x y H Q ∨ rInD X.K x y H Q) ∨ rInN X false x y H Q) (dInA false) := fun E ρ H h x y v u Q hr rx ry p => by
  unfold dInA at p
  cases c : isD y h with
  | true =>
    simp only [c] at p
    obtain ⟨b, e, p⟩ := Post.withS p
    exact .inr (inN_ok (E := E) hr rx ry e (p.here hr _ (rp_bl.mpr rfl)))
  | false =>
    simp only [c] at p
    exact .inl (o_in (K := kwOf X) (T := T) E ρ H h x y v u Q hr rx ry p)
theorem o_notInA : O2 (kwOf X) T (fun x y H Q => (rIn X.K true x y H Q ∨ rNotInD X.K x y H Q) ∨ rInN X true x y H Q) (dInA true) := fun E ρ H h x y v u Q hr rx ry p => by
  unfold dInA at p
  cases c : isD y h with
  | true =>
    simp only [c] at p
    obtain ⟨b, e, p⟩ := Post.withS p
    exact .inr (inN_ok (E := E) hr rx ry e (p.here hr _ (rp_bl.mpr rfl)))
  | false =>
    simp only [c] at p
    exact .inl (o_notIn (K := kwOf X) (T := T) E ρ H h x y v u Q hr rx ry p)
/-- {} -/
def dEmpty : DE := fun _ h => .ok (.cell h.new) (h.add (.dict false []))
def tDNewN (X : Cx) : TE := fun _ H Q => ∀ p, H p = none → (p == sysModules) = false → Q (.ref p) (upd H p (DN X.w [] p))
theorem dn_empty {P : Program} {w : World} {H : Hp} (h : Heap) : ObjOk P w H (h.push { cls := .type "dict", data := .dict #[] }) h.objs.size (DN w [] h.objs.size) :=
  dn_ok (P := P) .nil ⟨_, #[], 0, Heap.get?_push_size _ rfl, ⟨rfl, rfl, rfl⟩, rfl, rfl, List.nodup_nil⟩
theorem sys_ne {pins : List (Addr × Obj)} {σ : L2.St} {H : Hp} {s : Shared} (I : Inv X pins σ H s) : (s.heap.objs.size == sysModules) = false := beq_eq_false_iff_ne.mpr (Ne.symm (Nat.ne_of_lt I.big))
theorem pe_dnewN {pos : Pos} : PE X (.Dict [] [] pos) (tDNewN X) := ⟨fun pins s σ H Q I h =>
  wpAny_Dict_empty ⟨.ref s.heap.objs.size, _, I.laid (t' := s.toks) (fun b u e => Heap.get?_push_of_some _ e) (Nat.le_refl _) (dn_empty s.heap), rfl, h _ (I.hok.fresh (Nat.le_refl _)) (sys_ne I)⟩⟩
theorem dn_new_ok {ρ : Rho} {H : Hp} {h : AH} {p : Addr} (hr : HR (kwOf X) ρ H h) (np : H p = none) (ns : (p == sysModules) = false) : HR (kwOf X) (rhoAdd ρ h.new p) (L2.upd H p (DN X.w [] p)) (h.add (.dict false [])) :=
  hr.addC np trivial ⟨[], upd_same, ns, .nil, .inl fun p hp => (by cases hp)⟩
theorem se_dict0 {pos : Pos} : SE X T W (.Dict [] [] pos) dEmpty := ⟨PE.imp pe_dnewN fun σ H Q ⟨ρ, s, h, st, hr, q⟩ p np ns =>
  q _ _ (grow_add hr np) (dn_new_ok hr np ns) _ (rp_cell.mpr ⟨p, rfl, rhoAdd_same⟩)⟩
/-! ### o[i] = v -/
def rSetA (X : Cx) : V → V → V → Hp → (Hp → Prop) → Prop := fun o i v H Q => rSetL o i v H Q ∨ rSetN X o i v H Q
theorem set_any {k : Nat} (hr : Room k X.A) : PSet X (rSetA X) := fun pins s σ H o i v ov iv u Q I ro ri rv h => h.elim (set_list pins s σ H o i v ov iv u Q I ro ri rv) (set_dict hr pins s σ H o i v ov iv u Q I ro ri rv)
def setD (ds : List D) (j : Nat) (d : D) : List D := ds.set j d
/-- a dict that may be written -/
def dctW (n : Nat) (h : AH) : Option (List (NestedKey × D × D)) := match AH.get n h with
  | some (.dict false kvs) => some kvs
  | _ => none
theorem dctW_at {n : Nat} {h : AH} {kvs : List (NestedKey × D × D)} (e : dctW n h = some kvs) : dctAt n h = some kvs ∧ AH.get n h = some (.dict false kvs) := by
  unfold dctW at e
  unfold dctAt
  cases q : AH.get n h with
  | none => rw [q] at e; cases e
  | some c =>
    cases c with
    | lst _ => rw [q] at e; cases e
    | obj _ _ => rw [q] at e; cases e
    | junk => rw [q] at e; cases e
    | urn _ => rw [q] at e; cases e
    | dict fz es =>
      rw [q] at e
      cases fz with
      | true => cases e
      | false => cases e; exact ⟨rfl, rfl⟩
def oSetN (n : Nat) (i d : D) (h : AH) : Option AH := match dctW n h with
  | some kvs => match keyD kvs i with
    | some k => match Nat.ble kvs.length lim with
      | true => some (h.put n (.dict false (stoD k i d kvs)))
      | false => none
    | none => none
  | none => none
/-- the heap behind a store -/
def oSet (o i d : D) (h : AH) : Option AH := match o with
  | .cell n => match i with
    | .int j => match lstAt n h with
      | some ds => match ixN ds.length j with
        | some k => some (h.put n (.lst (ds.set k d)))
        | none => none
      | none => oSetN n i d h
    | _ => oSetN n i d h
  | _ => none
theorem Rps.set {K : KW} {ρ : Rho} {H : Hp} {d : D} {v : V} (r : Rp K ρ H d v) : ∀ {ds : List D} {vs : List V} (i : Nat), Rps K ρ H ds vs → Rps K ρ H (ds.set i d) (vs.set i v)
  | [], _, _, q => by rw [Rps.nil_iff.mp q]; exact Rps.nil_iff.mpr rfl
  | c :: ds, _, 0, q => by
    obtain ⟨x, t, rfl, r1, r2⟩ := Rps.cons_iff.mp q
    exact Rps.cons r r2
  | c :: ds, _, i + 1, q => by
    obtain ⟨x, t, rfl, r1, r2⟩ := Rps.cons_iff.mp q
    exact Rps.cons r1 (Rps.set r i r2)
theorem oSet_dict {ρ : Rho} {H : Hp} {h h' : AH} {n : Nat} {i d : D} {vo vi vd : V} {Q : Hp → Prop} (hr : HR (kwOf X) ρ H h) (ro : Rp (kwOf X) ρ H (.cell n) vo) (ri : Rp (kwOf X) ρ H i vi) (rd : Rp (kwOf X) ρ H d vd)
    (e : oSetN n i d h = some h') (q : ∀ H', Grow ρ ρ H H' → HR (kwOf X) ρ H' h' → Q H') : rSetN X vo vi vd H Q := by
  unfold oSetN at e
  cases z : dctW n h with
  | none => simp only [z] at e; cases e
  | some kvs =>
    obtain ⟨z0, z1⟩ := dctW_at z
    cases z2 : keyD kvs i with
    | none => simp only [z, z2] at e; cases e
    | some k =>
      cases c : Nat.ble kvs.length lim with
      | false => simp only [z, z2, c] at e; cases e
      | true =>
        simp only [z, z2, c] at e; cases e
        obtain ⟨a, L, fz, rfl, e1, e2, lk, DD⟩ := dKey_of hr ro ri z0 z2
        rw [z1] at e2; cases e2
        have mm : Mut (H a) := by rw [show H a = some (DN X.w L a) from lk]; trivial
        have g := grow_put (o := DN X.w (stoV k vi vd L) a) mm e1
        refine ⟨ρ, a, L, kvs, k, i, rfl, lk, DD, Nat.le_of_ble_eq_true c, q _ g (hr.putC e1 z1 mm trivial ⟨_, upd_same, DD.sys, ?_, DD.kin.hom⟩)⟩
        exact Paired.imp2 (fun p q h => ⟨h.1, h.2.1, h.2.2.1, Rp.grow hr.live g _ h.2.2.2.1, Rp.grow hr.live g _ h.2.2.2.2⟩) (stoD_ok DD.key DD.dep DD.rel rd DD.ent)
theorem oSet_ok {ρ : Rho} {H : Hp} {h h' : AH} {o i d : D} {vo vi vd : V} {Q : Hp → Prop} (hr : HR (kwOf X) ρ H h) (ro : Rp (kwOf X) ρ H o vo) (ri : Rp (kwOf X) ρ H i vi) (rd : Rp (kwOf X) ρ H d vd) (e : oSet o i d h = some h') (q : ∀ H', Grow ρ ρ H H' → HR (kwOf X) ρ H' h' → Q H') : rSetA X vo vi vd H Q := by
  cases o with
  | cell n =>
    cases i with
    | int j =>
      unfold oSet at e
      cases z : lstAt n h with
      | none => simp only [z] at e; exact .inr (oSet_dict hr ro ri rd e q)
      | some ds =>
        cases z2 : ixN ds.length j with
        | none => simp only [z, z2] at e; cases e
        | some k =>
          simp only [z, z2] at e; cases e
          obtain ⟨a, xs, f1, f2, re, f3⟩ := lstAt_ok hr z
          obtain ⟨b, rfl, e3⟩ := rp_cell.mp ro
          rw [e3] at f1; cases f1
          exact .inl ⟨_, xs, j, k, rfl, rp_int.mp ri, f2, by rw [← re.length]; exact z2, q _ (grow_put (mut_lst f2) e3) (hr.put e3 f3 (mut_lst f2) (Rps.set rd k re))⟩
    | non => exact .inr (oSet_dict hr ro ri rd e q)
    | bl b => exact .inr (oSet_dict hr ro ri rd e q)
    | str b => exact .inr (oSet_dict hr ro ri rd e q)
    | tup b => exact .inr (oSet_dict hr ro ri rd e q)
    | cell b => exact .inr (oSet_dict hr ro ri rd e q)
    | frl b => exact .inr (oSet_dict hr ro ri rd e q)
  | _ => cases e
def okD {α : Type} (r : R α) : Option (α × AH) := match r with
  | .ok a h => some (a, h)
  | _ => none
def gSubD (fo fi : DE) : DG := fun d s h => match okD (fo s h) with
  | some (o, h1) => match okD (fi s h1) with
    | some (i, h2) => match oSet o i d h2 with
      | some h3 => some (s, h3)
      | none => none
    | none => none
  | none => none
theorem sg_sub {k : Nat} {o i : Expr} {fo fi : DE} {pos : Pos} (hr : Room k X.A) (ho : SE X T W0 o fo) (hi : SE X T W0 i fi) (ha : ∀ v, assign (.Subscript o i pos) X.env v = (do
      let ov ← holding [v] (eval o X.env)
      let iv ← holding [v, ov] (eval i X.env)
      standAt pos
      holding [v, ov, iv] (setItem ov iv v)
      release [v, ov, iv] []) := by intro _; rfl) : SG X (.Subscript o i pos) [] (gSubD fo fi) :=
  ⟨PG.imp (pg_sub ho.p hi.p (set_any hr) ha) fun v σ H Q ⟨ρ, s, h, d, st, hr, r, q⟩ => by
    unfold gSubD at q
    refine ⟨ρ, s, h, st, hr, ?_⟩
    cases z : fo s h with
    | no => rw [z] at q; exact q.elim
    | ex e h1 => rw [z] at q; exact q.elim
    | ok od h1 =>
      simp only [z, okD] at q
      intro ρ1 H1 g1 hr1 vo ro
      refine ⟨ρ1, s, h1, st.grow hr.live g1, hr1, ?_⟩
      cases z2 : fi s h1 with
      | no => rw [z2] at q; exact q.elim
      | ex e h2 => rw [z2] at q; exact q.elim
      | ok idd h2 =>
        simp only [z2] at q
        intro ρ2 H2 g2 hr2 vi ri
        cases z3 : oSet od idd d h2 with
        | none => simp only [z3] at q; exact q.elim
        | some h3 =>
          simp only [z3] at q
          have g12 := g1.trans hr1.live g2
          refine oSet_ok hr2 (Rp.grow hr1.live g2 od ro) ri (Rp.grow hr.live g12 d r) z3 fun H3 g3 hr3 => ?_
          exact q ρ2 H3 σ (g12.trans hr2.live g3) hr3 ((st.grow hr.live g12).grow hr2.live g3) only_refl⟩
end
end Nc
namespace Nc
open PySem PySem.Spec PyProof.Rows L2
/-! {k: v for .. in ..}, keys tuples -/
def tDcN (X : Cx) (wi : TI) (g : TG) (tt : TT) (tk tv : TE) (vs : List Nat) : TE := fun σ H Q => wi σ H fun J H1 => ∀ A, H1 A = none → (A == sysModules) = false → ∃ V : Nat → Nat → Hp → Prop, (∃ m, V 0 m (upd H1 A (DN X.w [] A))) ∧
  ∀ i m H, V i m H → (J.stop i H ∧ Q (.ref A) H) ∨ (J.go i H ∧ ∃ N : Hp → Prop, (∀ H', N H' → ∃ m', m' < m ∧ V (i + 1) m' H') ∧ ∀ x H', J.yld i H x H' → g x (L2.wipe σ vs) H' fun σ2 H2 => L2.wipe σ2 vs = L2.wipe σ vs ∧ tt σ2 H2 fun b H3 =>
    if b = true then tk σ2 H3 fun y H4 => tv σ2 H4 fun z H5 => ∃ ρ L kvs k kd, H5 A = some (DN X.w L A) ∧ DKey X ρ H5 A y L kvs k kd ∧ kvs.length ≤ lim ∧ N (upd H5 A (DN X.w (stoV k y z L) A)) else N H3)
section
variable {X : Cx} {kx vx tg iter : Expr} {ifs : List Expr} {scope : Scope} {own : List (Str × Nat)} {wi : TI} {g : TG} {tt : TT} {tk tv : TE}
/-- what holds between two turns, within the block -/
def Mid (X : Cx) (sB : Shared) (HB : Hp) (scope : Scope) (ce : Env) (fp : List Addr) (τ : L2.St) (tn : Nat → Heap → Prop) (V : Nat → Nat → Hp → Prop) (n : Nat) (sv : Shared) : Prop :=
  ∃ i Hv, Inv (X.blk sB HB scope ce fp) [] τ Hv sv ∧ tn i sv.heap ∧ (∀ b ∈ fp, Hv b = none) ∧ V i n Hv
theorem dcN_core {pins : List (Addr × Obj)} {s0 : Shared} {σ : L2.St} {H0 : Hp} {Q : VK} {pos pos' : Pos} {lv : Nat} {use : Option (Value → Sem Unit)} {Qf : Value → Shared → Prop} (rm : Room lv X.A) (calm : X.calm = true) (nd : X.N.Nodup) (I0 : Inv X pins σ H0 s0) (hi : PI X tg iter wi) (ok : BlkOk X.N X.env.scope scope own)
    (hg : ∀ (s : Shared) (H : Hp) (C : Addr) (cl : List (Str × Addr)) (fp : List Addr), PG (X.blk s H scope (compEnvC scope cl C X.env) fp) tg g)
    (ht : ∀ (s : Shared) (H : Hp) (C : Addr) (cl : List (Str × Addr)) (fp : List Addr), PTs (X.blk s H scope (compEnvC scope cl C X.env) fp) ifs tt)
    (hk : ∀ (s : Shared) (H : Hp) (C : Addr) (cl : List (Str × Addr)) (fp : List Addr), PE (X.blk s H scope (compEnvC scope cl C X.env) fp) kx tk)
    (he : ∀ (s : Shared) (H : Hp) (C : Addr) (cl : List (Str × Addr)) (fp : List Addr), PE (X.blk s H scope (compEnvC scope cl C X.env) fp) vx tv)
    (fold : ∀ x, foldedSetIterable iter X.env x = pure x) (rd : tDcN X wi g tt tk tv (own.map (·.2)) σ H0 Q)
    (fin : ∀ (D C : Addr) (s' : Shared) (m : Str → Option Value) (H' : Hp), Inv X pins σ H' s' → Q (.ref D) H' → s'.heap.Ns C m → FpOk X pins H' C → compPost (model X.prog X.w) X.A X.xe use Qf (.ref D) C (.ok .next) s') :
    wpAny (model X.prog X.w) X.A (comprehension (.DictComp kx vx [⟨tg, iter, ifs, 0⟩] scope pos) scope X.env pos' newDict false (eval iter X.env) use) Qf X.xe s0 := by
  have free : ∀ y ∈ scope.names, y.2 = .free → ∃ c, X.env.cells.lookup y.1 = some c := fun y hy e => I0.ok.has _ (ok.free y hy e)
  refine wpAny_comprehension_free (use := use) rfl fold (closure_ok free) ok.kind (fun y hy e => by rw [ok.uniq y hy, e]) (thn (hi.run pins s0 σ H0 _ I0 rd) fun _ sA hA => thn hA fun _ sB hB => ?_)
  obtain ⟨it, fp, tn, J, HB, rfl, IB, Tn, stB, fB, rdB⟩ := hB
  refine wpAny_newObj_type (newEnv_comp ?_)
  have big := sys_ne IB
  generalize eA : sB.heap.objs.size = A at big
  have nA : HB A = none := IB.hok.fresh (Nat.le_of_eq eA)
  obtain ⟨V, ⟨m0, v0⟩, turn⟩ := rdB A nA big
  generalize eC : ({ sB with heap := sB.heap.push { cls := .type "dict", data := .dict #[] } } : Shared) = sC
  have hC : sC.heap = sB.heap.push { cls := .type "dict", data := .dict #[] } := by rw [← eC]
  have IC : Inv X pins σ (upd HB A (DN X.w [] A)) sC := by
    rw [← eC]
    refine IB.laid (t' := sB.toks) (fun b o e => Heap.get?_push_of_some _ e) (Nat.le_of_eq eA) ?_
    rw [← eA]
    exact dn_empty sB.heap
  have lt : ∀ b ∈ fp, b < sB.heap.objs.size := fun b hb => let ⟨_, e, _⟩ := Tn.obj _ _ stB b hb; Heap.lt_size e
  have fC : ∀ b ∈ fp, FpOk X pins (upd HB A (DN X.w [] A)) b ∧ b < sC.heap.objs.size := fun b hb =>
    ⟨⟨by rw [upd_ne (by rw [← eA]; exact Nat.ne_of_lt (lt b hb))]; exact (fB b hb).1, (fB b hb).2⟩, by rw [hC, Heap.size_push]; exact Nat.lt_succ_of_lt (lt b hb)⟩
  have stC : tn 0 sC.heap := Tn.keep _ _ _ stB fun b _ o e => by rw [hC]; exact Heap.get?_push_of_some _ e
  have ID := block_start IC ok nd fC
  generalize eH : upd HB A (DN X.w [] A) = HC at IC ID v0 fC
  generalize ecl : cellsFrom (sC.heap.objs.size + 1) scope.names (cloFrom X.env.cells scope.names []) = cl at ID
  have jg := hg sC HC sC.heap.objs.size cl fp
  have jt := ht sC HC sC.heap.objs.size cl fp
  have jk := hk sC HC sC.heap.objs.size cl fp
  have je := he sC HC sC.heap.objs.size cl fp
  show codeAny _ _ (.compStart (.DictComp kx vx [⟨tg, iter, ifs, 0⟩] scope pos) 0 (.ref it) (.ref A) (compEnvC scope cl sC.heap.objs.size X.env)) (compPost (model X.prog X.w) X.A X.xe use Qf (.ref A) sC.heap.objs.size)
    { sC with heap := pushCells (sC.heap.push { cls := .type "dict", data := .dict #[] }) scope.names }
  generalize ece : compEnvC scope cl sC.heap.objs.size X.env = ce at ID jg jt jk je ⊢
  have cL : ce.locals = sC.heap.objs.size := by subst ece; rfl
  generalize eD : ({ sC with heap := pushCells (sC.heap.push { cls := .type "dict", data := .dict #[] }) scope.names } : Shared) = sD at ID ⊢
  have stD : tn 0 sD.heap := Tn.keep _ _ _ stC fun b _ o e => by rw [← eD]; exact pushCells_keeps _ _ _ _ (Heap.get?_push_of_some _ e)
  have still : ∀ {τ : L2.St} {Hv : Hp} {sv : Shared}, Inv (X.blk sC HC scope ce fp) [] τ Hv sv → (∀ b ∈ fp, Hv b = none) → ∀ b ∈ fp, FpOk (X.blk sC HC scope ce fp) [] Hv b := fun {τ Hv sv} Iv hn b hb =>
    ⟨hn b hb, (Iv.ok.exf b hb).1, Iv.ok.exfs b hb, .inl hb, (Iv.ok.exf b hb).2, fun p hp => absurd (show p ∈ ([] : List (Addr × Obj)) ++ [] from hp) (by simp)⟩
  refine codeAny_compStart_dict (?lp) (Tn.self X.A 0 _ _ _ stD ?lp)
  refine compLoop_anyD (Mid X sC HC scope ce fp (L2.wipe σ (own.map (·.2))) tn V) ?_ m0 ⟨0, HC, ID, stD, fun b hb => (fC b hb).1.1, v0⟩
  rintro n sE ⟨i, HE, IE, stE, nE, vE⟩
  rcases turn i n HE vE with ⟨stop, qq⟩ | ⟨go, N, hN, step⟩
  · refine thnF (Tn.done (X.blk sC HC scope ce fp) rfl rfl rfl calm i [] sE _ HE (fun _ _ => False) IE (still IE nE) stE stop) fun r sF ⟨er, IF⟩ => ?_
    subst er
    have IG : Inv X pins σ HE sF := IC.call' (ch := fp) IF.os IF.base IF.hok IF.bare fun b hb => ⟨(fC b hb).1.2.2.2.1, (fC b hb).1.2.1, (fC b hb).1.2.2.2.2.1, (fC b hb).1.2.2.2.2.2⟩
    have nC : HE sC.heap.objs.size = none := by rw [← cL]; exact IF.free
    obtain ⟨m, hm, _⟩ := IF.loc
    have hm : sF.heap.Ns ce.locals m := hm
    rw [cL] at hm
    exact fin A sC.heap.objs.size sF m HE IG qq hm (IC.fpOk (Nat.le_refl _) nC)
  · refine thnF (Tn.item (X.blk sC HC scope ce fp) rfl rfl rfl calm i [] sE _ HE (fun _ _ => False) IE (still IE nE) stE go) fun r sF ⟨u, er, hF⟩ => ?_
    subst er
    refine thnF hF fun _ sG ⟨x, HG, IG, rG, yG, stG, nG⟩ => ?_
    refine thnF (jg.run _ sG _ HG x u _ (IG.pinned (still IG nG) (Tn.obj _ _ stG)) rG (step x HG yG)) fun _ sI ⟨τ, HI, II, wI, qI⟩ => ?_
    refine thnF (jt.run _ sI τ HI _ II qI) fun b sJ ⟨HJ, IJ, qJ⟩ => ?_
    have ends : ∀ {sv : Shared} {Hv : Hp}, Inv (X.blk sC HC scope ce fp) ([] ++ pinsAt fp sG.heap) τ Hv sv → N Hv → ∃ m, m < n ∧ Mid X sC HC scope ce fp (L2.wipe σ (own.map (·.2))) tn V m sv := fun {sv Hv} Iv nv => by
      obtain ⟨m', lm, v'⟩ := hN Hv nv
      have pin : ∀ b ∈ fp, ∀ o, sG.heap.get? b = some o → sv.heap.get? b = some o ∧ Hv b = none := fun b hb o e => by
        have z := Iv.pin (b, o) (List.mem_append_right _ (List.mem_append_right _ (mem_pinsAt hb e)))
        exact ⟨z.1, z.2.1⟩
      refine ⟨m', lm, i + 1, Hv, (Iv.unpinned (pins := [])).weak (by rw [← wI, wipe_length]) (fun j w e => ?_), Tn.keep _ _ _ stG fun b hb o e => (pin b hb o e).1, fun b hb => ?_, v'⟩
      · rw [← wI] at e; exact (L2.wipe_some e).1
      · obtain ⟨o, e, _⟩ := Tn.obj _ _ stG b hb
        exact (pin b hb o e).2
    cases b with
    | false => simp only [Bool.false_eq_true, if_false] at qJ ⊢; exact ends IJ qJ
    | true =>
      simp only [if_true] at qJ ⊢
      refine thnF (jk.run _ sJ τ HJ _ IJ qJ) fun kz sK ⟨yk, HK, IK, rK, qK⟩ => ?_
      refine thnF (je.run _ sK τ HK _ IK qK) fun vz sL ⟨yv, HL, IL, rL, ρ, L, kvs, k, kd, hw, DD, ll, nx⟩ => ?_
      exact dictSet_ok (X := X.blk sC HC scope ce fp) (show Room lv X.A from rm) IL ⟨DD.at_, DD.sys, DD.ent, DD.key, DD.dep, DD.rel, DD.kin⟩ hw rK ll rL fun sM IM => ends IM nx
theorem pe_dcN {lv : Nat} {pos : Pos} (rm : Room lv X.A) (calm : X.calm = true) (nd : X.N.Nodup) (hi : PI X tg iter wi) (ok : BlkOk X.N X.env.scope scope own)
    (hg : ∀ (s : Shared) (H : Hp) (C : Addr) (cl : List (Str × Addr)) (fp : List Addr), PG (X.blk s H scope (compEnvC scope cl C X.env) fp) tg g)
    (ht : ∀ (s : Shared) (H : Hp) (C : Addr) (cl : List (Str × Addr)) (fp : List Addr), PTs (X.blk s H scope (compEnvC scope cl C X.env) fp) ifs tt)
    (hk : ∀ (s : Shared) (H : Hp) (C : Addr) (cl : List (Str × Addr)) (fp : List Addr), PE (X.blk s H scope (compEnvC scope cl C X.env) fp) kx tk)
    (he : ∀ (s : Shared) (H : Hp) (C : Addr) (cl : List (Str × Addr)) (fp : List Addr), PE (X.blk s H scope (compEnvC scope cl C X.env) fp) vx tv)
    (fold : ∀ x, foldedSetIterable iter X.env x = pure x := by intro _; rfl) : PE X (.DictComp kx vx [⟨tg, iter, ifs, 0⟩] scope pos) (tDcN X wi g tt tk tv (own.map (·.2))) :=
  ⟨fun pins s σ H Q I h => by rw [arm_eval_DictComp]; exact dcN_core rm calm nd I hi ok hg ht hk he fold h fun D C s' m H' I' q hn ⟨f0, f1, f2, f3, f4, f5⟩ => ⟨m, hn, fun h'' sb => ⟨.ref D, H', I'.turned (t' := s'.toks) (fun b o hb e => (sb.2 b hb).trans e) f0 f1 f3 f4 f5, rfl, q⟩⟩⟩
theorem ps_setDcN {lv : Nat} {i : Nat} {y : Str} {py pos spos : Pos} (rm : Room lv X.A) (calm : X.calm = true) (nd : X.N.Nodup) (hy : X.N[i]? = some y) (hyl : X.env.scope.names.lookup y = some .local)
    (hsw : swapsWith (.DictComp kx vx [⟨tg, iter, ifs, 0⟩] scope pos) (some (.Name y py)) spos.line X.env = pure true) (hi : PI X tg iter wi) (ok : BlkOk X.N X.env.scope scope own)
    (hg : ∀ (s : Shared) (H : Hp) (C : Addr) (cl : List (Str × Addr)) (fp : List Addr), PG (X.blk s H scope (compEnvC scope cl C X.env) fp) tg g)
    (ht : ∀ (s : Shared) (H : Hp) (C : Addr) (cl : List (Str × Addr)) (fp : List Addr), PTs (X.blk s H scope (compEnvC scope cl C X.env) fp) ifs tt)
    (hk : ∀ (s : Shared) (H : Hp) (C : Addr) (cl : List (Str × Addr)) (fp : List Addr), PE (X.blk s H scope (compEnvC scope cl C X.env) fp) kx tk)
    (he : ∀ (s : Shared) (H : Hp) (C : Addr) (cl : List (Str × Addr)) (fp : List Addr), PE (X.blk s H scope (compEnvC scope cl C X.env) fp) vx tv)
    (fold : ∀ x, foldedSetIterable iter X.env x = pure x := by intro _; rfl) : PS X (.Assign [.Name y py] (.DictComp kx vx [⟨tg, iter, ifs, 0⟩] scope pos) spos) (tAsg (tDcN X wi g tt tk tv (own.map (·.2))) (gName i)) := ⟨fun pins s σ H D I h => by
  rw [exec_Assign_Name_used y py _ spos hsw]
  refine wpAny_bind (wpAny_standAt (wpAny_bind ?_))
  refine wpAny_bind (thn (dcN_core rm calm nd I hi ok hg ht hk he fold h fun L C s' m H' I' q hn f => ?_) fun x s' hq => wpAny_pure (wpAny_pure hq))
  refine wpAny_assign_Name (store_ok2 (v := .ref L) I' nd hy (.inl hyl) rfl (fun s2 I2 hx => ?_) (.inr hyl))
  obtain ⟨a, sb, ha⟩ := hx
  obtain ⟨f0, f1, f2, f3, f4, f5⟩ := f
  have haC : C ≠ a := by
    rcases ha with z | z
    · rw [z]; exact f1
    · exact fun e => f4 y a z e.symm
  exact ⟨m, hn.sameBut sb haC, fun h3 sb3 => ⟨σ.set i (some (.ref L)), H', I2.turned (fun b o hb e => (sb3.2 b hb).trans e) f0 f1 f3 f4 f5, q⟩⟩⟩
end
end Nc
namespace Nc
open PySem PySem.Spec PyProof.Rows L2
section
variable {K : KW} {ρ ρ' ρ1 : Rho} {H H' H1 : Hp} {h : AH} {A : Addr} {o0 o : HO}
theorem sqT_updG (hA : H A = some o0) (m : Mut (some o0)) : ∀ a xs, SqT K.k H a xs → SqT K.k (upd H A o) a xs := fun a xs s => by
  have ne : ∀ {z : HO}, H a = some z → ¬ Mut (some z) → a ≠ A := fun {z} e q y => by
    subst y; rw [hA] at e; cases e; exact q m
  rcases s with (s | ⟨ob, s⟩) | s
  · exact .inl (.inl (by rw [upd_ne (ne s (fun z => z))]; exact s))
  · exact .inl (.inr ⟨ob, by rw [upd_ne (ne s (fun z => z))]; exact s⟩)
  · exact .inr s
theorem sqF_updG (hA : H A = some o0) (m : Mut (some o0)) : ∀ a xs, SqF K.k H a xs → SqF K.k (upd H A o) a xs := fun a xs s => by
  rcases s with ⟨ob, s⟩ | s
  · refine .inl ⟨ob, ?_⟩
    rw [upd_ne (fun y => ?_)]
    · exact s
    · subst y; rw [hA] at s; cases s; exact m
  · exact .inr s
theorem ext_updG (hA : H A = some o0) (m : Mut (some o0)) : Ext K ρ ρ H (upd H A o) := ⟨fun _ _ z => z, sqT_updG hA m, sqF_updG hA m, fun b o u h => by rw [upd_ne (fun z => by subst z; rw [hA] at h; cases h; exact m)]; exact h⟩
theorem HR.updG (hr : HR K ρ H h) (hA : H A = some o0) (m : Mut (some o0)) (nA : ∀ n, ρ n ≠ some A) : HR K ρ (L2.upd H A o) h := by
  have ne : ∀ n a, ρ n = some a → a ≠ A := fun n a e z => nA n (z ▸ e)
  refine ⟨hr.inj, hr.top, fun n a e => ?_, fun n c e => ?_⟩
  · rw [upd_ne (ne n a e)]; exact hr.live n a e
  · obtain ⟨a, e1, q⟩ := hr.at_ n c e
    exact ⟨a, e1, q.ext (ext_updG hA m) (upd_ne (ne n a e1))⟩
theorem HR.adoptG {c0 : Cell} (hr : HR K ρ H h) (hA : H A = some o0) (mu : Mut (some o0)) (nA : ∀ n, ρ n ≠ some A) (r : ∀ ρ', Ext K ρ ρ' H H → CellR K ρ' H A c0) : HR K (rhoAdd ρ h.new A) H (h.add c0) := by
  have mm : ∀ n a, ρ n = some a → rhoAdd ρ h.new A n = some a := fun n a e => by
    unfold rhoAdd
    by_cases q : n = h.new
    · subst q; rw [hr.top _ (Nat.le_refl _)] at e; cases e
    · rw [if_neg q]; exact e
  refine ⟨fun n m a e1 e2 => ?_, fun n hn => ?_, fun n a e => ?_, fun n c e => ?_⟩
  · unfold rhoAdd at e1 e2
    by_cases q1 : n = h.new <;> by_cases q2 : m = h.new
    · rw [q1, q2]
    · rw [if_pos q1] at e1; rw [if_neg q2] at e2; cases e1; exact absurd e2 (nA _)
    · rw [if_neg q1] at e1; rw [if_pos q2] at e2; cases e2; exact absurd e1 (nA _)
    · rw [if_neg q1] at e1; rw [if_neg q2] at e2; exact hr.inj _ _ _ e1 e2
  · have z : AH.new (AH.add c0 h) = h.new + 1 := rfl
    rw [z] at hn
    unfold rhoAdd
    rw [if_neg (by omega)]
    exact hr.top n (by omega)
  · unfold rhoAdd at e
    by_cases q : n = h.new
    · rw [if_pos q] at e; cases e; rw [hA]; exact Lv.of mu
    · rw [if_neg q] at e; exact hr.live n a e
  · rw [AH.get_add] at e
    by_cases q : h.new = n
    · rw [if_pos q] at e; cases e
      refine ⟨A, ?_, r _ ⟨mm, fun _ _ z => z, fun _ _ z => z, fun _ _ _ z => z⟩⟩
      unfold rhoAdd; rw [if_pos q.symm]
    · rw [if_neg q] at e
      obtain ⟨a, e1, qq⟩ := hr.at_ n c e
      exact ⟨a, mm n a e1, qq.ext ⟨mm, fun _ _ z => z, fun _ _ z => z, fun _ _ _ z => z⟩ rfl⟩
theorem Grow.accG (g : Grow ρ ρ' H H') (hA : H A = some o0) (nA : ∀ n, ρ n ≠ some A) : H' A = some o0 ∧ ∀ n, ρ' n ≠ some A :=
  ⟨g.keep A _ hA nA, fun n e => by
    cases q : ρ n with
    | some b => have := g.rho n b q; rw [e] at this; cases this; exact nA n q
    | none => have := g.new n A e q; rw [hA] at this; cases this⟩
theorem dent_ext {kvs : List (NestedKey × D × D)} {L : List (NestedKey × V × V)} (g : Ext K ρ ρ' H H') (p : Paired (DEnt K ρ H) kvs L) : Paired (DEnt K ρ' H') kvs L :=
  Paired.imp2 (fun _ _ h => ⟨h.1, h.2.1, h.2.2.1, Rp.ext g _ h.2.2.2.1, Rp.ext g _ h.2.2.2.2⟩) p
end
/-- the loop of {k: v for ..} -/
def dcLoop (it : ItD) (dg : DG) (test : DB) (fk fv : DE) (s : DSt) : Nat → Nat → List (NestedKey × D × D) → AH → R (List (NestedKey × D × D))
  | 0, _, _, _ => .no
  | k + 1, i, acc, h => match itemAt it i h with
    | none => .no
    | some none => .ok acc h
    | some (some d) => match dg d s h with
      | none => .no
      | some p => (noX (test p.1 p.2)).bind fun b h3 => match b with
        | false => dcLoop it dg test fk fv s k (i + 1) acc h3
        | true => (noX (fk p.1 h3)).bind fun kd h4 => (noX (fv p.1 h4)).bind fun vd h5 => withS (keyD acc kd) fun nk => chk (Nat.ble acc.length lim) (dcLoop it dg test fk fv s k (i + 1) (stoD nk kd vd acc) h5)
def mkD (acc : List (NestedKey × D × D)) (h : AH) : R D := .ok (.cell h.new) (h.add (.dict false acc))
def dDc (fi : DI) (dg : DG) (test : DB) (fk fv : DE) (vs : List Nat) (n : Nat) : DE := fun s h => (fi s h).bind fun it h1 => (dcLoop it dg test fk fv (wipeD s vs) n 0 [] h1).bind mkD
theorem withS_bind {α β γ : Type} (o : Option α) (k : α → R β) (f : β → AH → R γ) : (withS o k).bind f = withS o fun a => (k a).bind f := by
  cases o <;> rfl
theorem chk_bind {β γ : Type} (b : Bool) (r : R β) (f : β → AH → R γ) : (chk b r).bind f = chk b (r.bind f) := by
  cases b <;> rfl
section
variable {X : Cx} {T : XT} {W : WX} {tg iter kx vx : Expr} {ifs : List Expr} {fi : DI} {dg : DG} {ws : List Nat} {ft : DB} {fk fv : DE}
theorem dc_imp {vs : List Nat} (n : Nat) (hv : ∀ i ∈ ws, i ∈ vs) : ∀ σ H Q, tD (kwOf X) T W (dDc fi dg ft fk fv vs n) σ H Q → tDcN X (tI (kwOf X) T W fi) (tG (kwOf X) ws dg) (tDB (kwOf X) T W0 ft) (tD (kwOf X) T W0 fk) (tD (kwOf X) T W0 fv) vs σ H Q := fun σ H Q ⟨ρ, s, h, st, hr, q⟩ => by
  refine ⟨ρ, s, h, st, hr, q.bind.mono fun it h1 ρ1 H1 _ g1 hr1 q1 J ij => ?_⟩
  intro A nA sA
  have st1 := (st.grow hr.live g1).wipe vs
  have mD : ∀ L, Mut (some (DN X.w L A)) := fun L => trivial
  refine ⟨fun i m H2 => ∃ ρ2 h2 acc L, m + i = n ∧ Grow ρ1 ρ2 H1 H2 ∧ HR (kwOf X) ρ2 H2 h2 ∧ (∀ k, ρ2 k ≠ some A) ∧ H2 A = some (DN X.w L A) ∧ Paired (DEnt (kwOf X) ρ2 H2) acc L ∧ HomD acc ∧
    Post (kwOf X) T (at_ W σ) ρ1 H1 ((dcLoop it dg ft fk fv (wipeD s vs) m i acc h2).bind mkD) fun d _ ρ' H' => ∀ v, Rp (kwOf X) ρ' H' d v → Q v H', ⟨n, ρ1, h1, [], [], rfl, (Grow.refl ρ1 H1).updL nA, hr1.upd nA, fun k e => ?_, upd_same, .nil, .inl fun p hp => (by cases hp), q1⟩, ?_⟩
  · have := hr1.live k A e
    rw [nA] at this; exact this
  · rintro i m H2 ⟨ρ2, h2, acc, L, hm, g2, hr2, nA2, eA, ra, hom, q2⟩
    cases m with
    | zero => exact q2.elim
    | succ k =>
      unfold dcLoop at q2
      have io := ij ρ2 H2 h2 (g2.ext hr1.live) hr2 i
      cases z : itemAt it i h2 with
      | none => simp only [z] at q2; exact q2.elim
      | some o =>
        cases o with
        | none =>
          simp only [z] at q2
          rw [z] at io
          refine .inl ⟨io, ?_⟩
          exact q2 _ _ (Grow.adopt hr2 g2 nA) (hr2.adoptG eA (mD L) nA2 fun ρ' x => ⟨L, eA, sA, dent_ext x ra, hom⟩) _ (rp_cell.mpr ⟨A, rfl, rhoAdd_same⟩)
        | some d =>
          simp only [z] at q2
          rw [z] at io
          obtain ⟨go, step⟩ := io
          refine .inr ⟨go, fun H' => ∃ ρ2 h2 acc L, k + (i + 1) = n ∧ Grow ρ1 ρ2 H1 H' ∧ HR (kwOf X) ρ2 H' h2 ∧ (∀ k, ρ2 k ≠ some A) ∧ H' A = some (DN X.w L A) ∧ Paired (DEnt (kwOf X) ρ2 H') acc L ∧ HomD acc ∧
            Post (kwOf X) T (at_ W σ) ρ1 H1 ((dcLoop it dg ft fk fv (wipeD s vs) k (i + 1) acc h2).bind mkD) fun d _ ρ' H' => ∀ v, Rp (kwOf X) ρ' H' d v → Q v H', fun H' hN => ⟨k, Nat.lt_succ_self k, hN⟩, fun x H3 y => ?_⟩
          obtain ⟨ρ3, g3, hr3, rx⟩ := step x H3 y
          obtain ⟨eA3, nA3⟩ := g3.accG eA nA2
          have g13 := g2.trans hr2.live g3
          have st3 := st1.grow hr1.live g13
          refine ⟨ρ3, wipeD s vs, h2, d, st3, hr3, rx, ?_⟩
          cases z2 : dg d (wipeD s vs) h2 with
          | none => simp only [z2] at q2; exact q2.elim
          | some pr =>
            simp only [z2] at q2
            intro ρ4 H4 σ4 g4 hr4 st4 o4
            refine ⟨by rw [o4 vs hv]; exact wipe_self σ vs vs fun _ hi => hi, ?_⟩
            obtain ⟨eA4, nA4⟩ := g4.accG eA3 nA3
            have g14 := g13.trans hr3.live g4
            have ra4 := dent_ext ((g3.ext hr2.live).trans (g4.ext hr3.live)) ra
            refine ⟨ρ4, pr.1, pr.2, st4, hr4, ?_⟩
            cases z3 : ft pr.1 pr.2 with
            | no => rw [z3] at q2; exact q2.elim
            | ex e h5 => rw [z3] at q2; exact q2.elim
            | ok b h5 =>
              rw [z3] at q2
              intro ρ5 H5 g5 hr5
              obtain ⟨eA5, nA5⟩ := g5.accG eA4 nA4
              have g15 := g14.trans hr4.live g5
              have ra5 := dent_ext (g5.ext hr4.live) ra4
              cases b with
              | false =>
                rw [if_neg (by decide)]
                exact ⟨ρ5, h5, acc, L, by omega, g15, hr5, nA5, eA5, ra5, hom, q2⟩
              | true =>
                rw [if_pos rfl]
                have st5 := st4.grow hr4.live g5
                refine ⟨ρ5, pr.1, h5, st5, hr5, ?_⟩
                have q3 : Post (kwOf X) T (at_ W σ) ρ1 H1 (((noX (fk pr.1 h5)).bind fun kd h4 => (noX (fv pr.1 h4)).bind fun vd h5 => withS (keyD acc kd) fun nk => chk (Nat.ble acc.length lim) (dcLoop it dg ft fk fv (wipeD s vs) k (i + 1) (stoD nk kd vd acc) h5)).bind mkD) fun d _ ρ' H' => ∀ v, Rp (kwOf X) ρ' H' d v → Q v H' := q2
                cases z4 : fk pr.1 h5 with
                | no => rw [z4] at q3; exact q3.elim
                | ex e h6 => rw [z4] at q3; exact q3.elim
                | ok kd h6 =>
                  rw [z4] at q3
                  intro ρ6 H6 g6 hr6 yv ry
                  obtain ⟨eA6, nA6⟩ := g6.accG eA5 nA5
                  have g16 := g15.trans hr5.live g6
                  refine ⟨ρ6, pr.1, h6, st5.grow hr5.live g6, hr6, ?_⟩
                  have q4 : Post (kwOf X) T (at_ W σ) ρ1 H1 (((noX (fv pr.1 h6)).bind fun vd h5 => withS (keyD acc kd) fun nk => chk (Nat.ble acc.length lim) (dcLoop it dg ft fk fv (wipeD s vs) k (i + 1) (stoD nk kd vd acc) h5)).bind mkD) fun d _ ρ' H' => ∀ v, Rp (kwOf X) ρ' H' d v → Q v H' := q3
                  cases z5 : fv pr.1 h6 with
                  | no => rw [z5] at q4; exact q4.elim
                  | ex e h7 => rw [z5] at q4; exact q4.elim
                  | ok vd h7 =>
                    rw [z5] at q4
                    intro ρ7 H7 g7 hr7 zv rz
                    obtain ⟨eA7, nA7⟩ := g7.accG eA6 nA6
                    have g17 := g16.trans hr6.live g7
                    have ra7 := dent_ext ((g6.ext hr5.live).trans (g7.ext hr6.live)) ra5
                    have rk7 := Rp.grow hr6.live g7 kd ry
                    have q5 : Post (kwOf X) T (at_ W σ) ρ1 H1 ((withS (keyD acc kd) fun nk => chk (Nat.ble acc.length lim) (dcLoop it dg ft fk fv (wipeD s vs) k (i + 1) (stoD nk kd vd acc) h7)).bind mkD) fun d _ ρ' H' => ∀ v, Rp (kwOf X) ρ' H' d v → Q v H' := q4
                    rw [withS_bind] at q5
                    obtain ⟨nk, ek, q5⟩ := q5.withS
                    rw [chk_bind] at q5
                    obtain ⟨c, q5⟩ := q5.chk
                    obtain ⟨k1, k2, k3⟩ := keyD_ok hom ek
                    refine ⟨ρ7, L, acc, nk, kd, eA7, ⟨.inl eA7, sA, ra7, k1, k2, rk7, k3⟩, Nat.le_of_ble_eq_true c, ?_⟩
                    have xx := ext_updG (K := kwOf X) (ρ := ρ7) (o := DN X.w (stoV nk yv zv L) A) eA7 (mD L)
                    exact ⟨ρ7, h7, stoD nk kd vd acc, stoV nk yv zv L, by omega, g17.updL nA, hr7.updG eA7 (mD L) nA7, nA7, upd_same, dent_ext xx (stoD_ok k1 k2 rk7 rz ra7), k3.hom, q5⟩
variable {scope : Scope} {own : List (Str × Nat)} {pos : Pos}
theorem se_dcN {lv : Nat} (n : Nat) (rm : Room lv X.A) (hc : X.calm = true) (hN : X.N.Nodup) (hi : SI X T W tg iter fi) (ok : BlkOk X.N X.env.scope scope own) (hv : ∀ i ∈ ws, i ∈ own.map (·.2))
    (hg : ∀ (s : Shared) (H : Hp) (C : Addr) (cl : List (Str × Addr)) (fp : List Addr), SG (X.blk s H scope (compEnvC scope cl C X.env) fp) tg ws dg) (ht : ∀ (s : Shared) (H : Hp) (C : Addr) (cl : List (Str × Addr)) (fp : List Addr), STs (X.blk s H scope (compEnvC scope cl C X.env) fp) T W0 ifs ft)
    (hk : ∀ (s : Shared) (H : Hp) (C : Addr) (cl : List (Str × Addr)) (fp : List Addr), SE (X.blk s H scope (compEnvC scope cl C X.env) fp) T W0 kx fk) (he : ∀ (s : Shared) (H : Hp) (C : Addr) (cl : List (Str × Addr)) (fp : List Addr), SE (X.blk s H scope (compEnvC scope cl C X.env) fp) T W0 vx fv)
    (hs : ∀ x, foldedSetIterable iter X.env x = pure x := by intro _; rfl) :
    SE X T W (.DictComp kx vx [⟨tg, iter, ifs, 0⟩] scope pos) (dDc fi dg ft fk fv (own.map (·.2)) n) :=
  ⟨PE.imp (pe_dcN rm hc hN hi.p ok (fun s H C cl fp => (hg s H C cl fp).p) (fun s H C cl fp => (ht s H C cl fp).p) (fun s H C cl fp => (hk s H C cl fp).p) (fun s H C cl fp => (he s H C cl fp).p) hs) (dc_imp n hv)⟩
theorem s_setDcN {lv : Nat} (n : Nat) {i : Nat} {y : Str} {py spos : Pos} (rm : Room lv X.A) (hc : X.calm = true) (hN : X.N.Nodup) (hy : X.N[i]? = some y) (hyl : X.env.scope.names.lookup y = some .local)
    (hsw : swapsWith (.DictComp kx vx [⟨tg, iter, ifs, 0⟩] scope pos) (some (.Name y py)) spos.line X.env = pure true) (hi : SI X T W tg iter fi) (ok : BlkOk X.N X.env.scope scope own) (hv : ∀ i ∈ ws, i ∈ own.map (·.2))
    (hg : ∀ (s : Shared) (H : Hp) (C : Addr) (cl : List (Str × Addr)) (fp : List Addr), SG (X.blk s H scope (compEnvC scope cl C X.env) fp) tg ws dg) (ht : ∀ (s : Shared) (H : Hp) (C : Addr) (cl : List (Str × Addr)) (fp : List Addr), STs (X.blk s H scope (compEnvC scope cl C X.env) fp) T W0 ifs ft)
    (hk : ∀ (s : Shared) (H : Hp) (C : Addr) (cl : List (Str × Addr)) (fp : List Addr), SE (X.blk s H scope (compEnvC scope cl C X.env) fp) T W0 kx fk) (he : ∀ (s : Shared) (H : Hp) (C : Addr) (cl : List (Str × Addr)) (fp : List Addr), SE (X.blk s H scope (compEnvC scope cl C X.env) fp) T W0 vx fv)
    (hs : ∀ x, foldedSetIterable iter X.env x = pure x := by intro _; rfl) :
    SS X T W (.Assign [.Name y py] (.DictComp kx vx [⟨tg, iter, ifs, 0⟩] scope pos) spos) (gAsg (dDc fi dg ft fk fv (own.map (·.2)) n) (gN i)) :=
  ⟨PS.imp (ps_setDcN rm hc hN hy hyl hsw hi.p ok (fun s H C cl fp => (hg s H C cl fp).p) (fun s H C cl fp => (ht s H C cl fp).p) (fun s H C cl fp => (hk s H C cl fp).p) (fun s H C cl fp => (he s H C cl fp).p) hs) fun D σ H ⟨ρ, s, h, st, hr, q⟩ =>
    dc_imp n hv σ H _ (tD_bindS st hr q fun d h1 ρ1 H1 v g1 hr1 st1 r1 q1 => q1 ρ1 H1 _ (Grow.refl _ _) hr1 (st1.set r1))⟩
end
end Nc
namespace Nc
open PySem PySem.Spec PySem.W PyProof.Rows L2
/-! ## sorted, of a list of data; the first item may be an empty tuple -/
theorem call_tuple_lt {A : Around} {s : Shared} {prog : Program} {w : World} {E Q : Value → Shared → Prop} {l b : Addr} {items items2 : Array Value} {e r : Nat → Bool} (hl : s.heap.IsTuple l items) (hb : s.heap.IsTuple b items2)
    (he : ∀ (j : Nat) (h1 : j < items.size) (h2 : j < items2.size), SeqAt.EqAt A.in1 s items[j] items2[j] (e j)) (hr : ∀ (j : Nat) (h1 : j < items.size) (h2 : j < items2.size), e j = false → SeqAt.RcLt A.in1 s items[j] items2[j] (r j))
    (h : Q (Value.bool (SeqAt.firstLt e r (decide (items.size < items2.size)) (List.range (min items.size items2.size)))) s) : wpAny (model prog w) A (call (Value.builtin "tuple.__lt__") [Value.ref l, Value.ref b]) Q E s := by
  obtain ⟨⟨cls, dd, data, sl⟩, ho, hc, n, hd⟩ := hl
  obtain ⟨⟨cls2, dd2, data2, sl2⟩, ho2, hc2, n2, hd2⟩ := hb
  cases hc; cases hd; cases hc2; cases hd2
  exact call_meets F.slot_tuple_lt ⟨_, ho, rfl⟩ F.entry_tuple_lt (F.args_tuple_lt_2 _ _) (SeqAt.tuple_ltAt l b items items2 n n2 dd dd2 sl sl2 e r) ⟨ho, ho2, he, hr, h⟩
theorem truth_bool {M : Model} {A : Around} {E : Value → Shared → Prop} {s : Shared} {b : Bool} {Q : Bool → Shared → Prop} (h : Q b s) : wpAny M A (truthOfDropped (.bool b)) Q E s := wpAny_truthy_bool h
theorem oneLt_tups {prog : Program} {w : World} {A : Around} {E : Value → Shared → Prop} {s : Shared} {xs ys : List PyData} {a b : Value} {as bs : List Addr} {Q : Bool → Shared → Prop} (ra : Reads s.heap a (.tuple xs) as) (rb : Reads s.heap b (.tuple ys) bs) (hal : alike (.tuple xs) (.tuple ys) = true)
    (hu : A.units + min (PyData.depth (.tuple xs)) (PyData.depth (.tuple ys)) < cLine) (h : Q (dataLt (.tuple xs) (.tuple ys)) s) : wpAny (model prog w) A (oneLt' true a b) Q E s := by
  rw [oneLt'_eq]
  cases ra with
  | tuple ho hc hd hi =>
    cases rb with
    | tuple ho2 hc2 hd2 hi2 =>
      rename_i l o vs n l2 o2 vs2 n2
      have hall : alikeAll xs ys = true := hal
      have hu' : A.units + 1 + min (PyData.depthAll xs) (PyData.depthAll ys) < cLine := SeqAt.room_in hu
      simp only [if_true]
      refine wpAny_bind (wpAny_cRoomFor (SeqAt.room_here hu) ?_)
      refine wpAny_bind (wpAny_callSpecialIfBound?_slot ⟨o, ho, hc⟩ F.slot_tuple_lt ?_)
      have l1 := SeqAt.ReadsAll.length xs _ _ hi
      have l2 := SeqAt.ReadsAll.length ys _ _ hi2
      refine call_tuple_lt (e := SeqAt.pairEq xs ys) (r := fun j => dataLt (xs.getD j PyData.none) (ys.getD j PyData.none)) ⟨o, ho, hc, n, hd⟩ ⟨o2, ho2, hc2, n2, hd2⟩ (fun j h1 h2 => eqAt_alikeAll xs ys A.in1 s _ _ _ _ hi hi2 hall hu' j h1 h2) (fun j h1 h2 e => rcLt_alikeAll xs ys A.in1 s _ _ _ _ hi hi2 hall hu' j h1 h2 e) ?_
      have : SeqAt.firstLt (SeqAt.pairEq xs ys) (fun j => dataLt (xs.getD j PyData.none) (ys.getD j PyData.none)) (decide (vs.size < vs2.size)) (List.range (min vs.size vs2.size)) = dataLt (.tuple xs) (.tuple ys) := by
        rw [dataLt_tuple, ← firstLt_toks xs ys hall]
        rw [Array.length_toList] at l1 l2
        rw [l1, l2]
      rw [this]
      exact truth_bool h
def isTupP : PyData → Bool
  | .tuple _ => true
  | _ => false
theorem kind_tup0 {M : Model} {A : Around} {E : Value → Shared → Prop} {s : Shared} {v : Value} {vs : List Value} {as : List Addr} {Q : SortKind → Shared → Prop} (r0 : Reads s.heap v (.tuple []) as) (hT : ∀ u ∈ v :: vs, ∃ d as, Reads s.heap u d as ∧ isTupP d = true) (h : Q oneType' s) : wpAny M A (keyKind' (v :: vs).toArray) Q E s := by
  have hT' : ∀ u ∈ v :: vs, Looks M s.heap (typeOf u) (Value.type "tuple") := fun u hu => by
    obtain ⟨d, as, r, e⟩ := hT u hu
    cases d with
    | tuple xs => exact looks_reads r
    | _ => cases e
  have one : ∀ (u : Value) (xs : List PyData) (as' : List Addr) (Q' : Option Value → Shared → Prop), Reads s.heap u (.tuple xs) as' → (∀ f, (xs = [] → f = none) → Q' f s) → wpAny M A (firstOfTuple' u) Q' E s := by
    intro u xs as' Q' r q
    have lk : Looks M s.heap (typeOf u) (Value.type "tuple") := looks_reads r
    rw [kas_first_eq]
    refine wpAny_bind (lk.here ?_)
    rw [if_neg (by decide)]
    cases r with
    | tuple ho hc hd hi =>
      refine wpAny_bind (listItems_at ho hd (wpAny_pure (q _ fun e => ?_)))
      subst e
      have l := SeqAt.ReadsAll.length _ _ _ hi
      rw [← Array.getElem?_toList, List.getElem?_eq_none_iff, l]
      exact Nat.le_refl 0
  have firsts : ∀ (l : List Value) (Q' : List (Option Value) → Shared → Prop), (∀ u ∈ l, ∃ d as, Reads s.heap u d as ∧ isTupP d = true) → (∀ fs, Q' fs s) → wpAny M A (List.mapM firstOfTuple' l) Q' E s := by
    intro l
    induction l with
    | nil => intro Q' _ q; rw [List.mapM_nil]; exact wpAny_pure (q [])
    | cons u l ih =>
      intro Q' hl q
      rw [List.mapM_cons]
      obtain ⟨d, as', r, e⟩ := hl u List.mem_cons_self
      cases d with
      | tuple xs => exact wpAny_bind (one u xs as' _ r fun f _ => wpAny_bind (ih _ (fun x hx => hl x (List.mem_cons_of_mem _ hx)) fun fs => wpAny_pure (q _)))
      | _ => cases e
  rw [keyKind'_eq, List.mapM_toArray, map_eq_pure_bind]
  refine wpAny_bind (wpAny_bind ?_)
  rw [List.mapM_cons]
  refine wpAny_bind (one v [] as _ r0 fun f hf => wpAny_bind (firsts vs _ (fun x hx => hT x (List.mem_cons_of_mem _ hx)) fun fs => wpAny_pure (wpAny_pure ?_)))
  have hf := hf rfl
  subst hf
  rw [if_neg (by simp), if_neg (by simp), oneTypeOnly'_eq, List.mapM_toArray, map_eq_pure_bind]
  refine wpAny_bind (wpAny_bind (wpAny_bind (kas_mapM (v :: vs) (r := Value.type "tuple") (fun u hu Q' hq => (hT' u hu).here hq) (wpAny_pure ?_))))
  simp only [List.map_cons, List.getElem?_toArray, List.getElem?_cons_zero]
  refine wpAny_pure (wpAny_pure ?_)
  rw [if_pos (by simp)]
  exact h
/-- tuples, the first one empty -/
def Tup0 : List PyData → Prop
  | .tuple [] :: r => ∀ d ∈ r, isTupP d = true
  | _ => False
theorem sortsAt_tup0 {prog : Program} {w : World} {A : Around} {s : Shared} {vs : List Value} {ds : List PyData} (e : EachIs (fun v d => ∃ as, Reads s.heap v d as) vs ds) (hal : AllAlike ds) (hk : Tup0 ds) (hu : ∀ d ∈ ds, A.units + d.depth < cLine) : SortsAt prog w A s (dataKind s.heap ds) vs := by
  have tups : ∀ d ∈ ds, isTupP d = true := fun d hd => by
    match ds, hk, hd with
    | .tuple [] :: r, hk, hd =>
      rcases List.mem_cons.mp hd with z | z
      · subst z; rfl
      · exact hk d z
  refine ⟨fun v hv => ?_, oneType', fun E x y a b Q ha hb q => ?_, fun _ E Q q => ?_⟩
  · obtain ⟨d, hd, as, r⟩ := e.left v hv
    exact ⟨_, dataKind_some hal hd r⟩
  · obtain ⟨d, as, hd, r, e1⟩ := dataKind_inv ha
    obtain ⟨d', as', hd', r', e2⟩ := dataKind_inv hb
    rw [keyLt'_oneType]
    have t1 := tups d hd
    have t2 := tups d' hd'
    cases d with
    | tuple xs =>
      cases d' with
      | tuple ys =>
        refine oneLt_tups r r' (hal _ hd _ hd') (Nat.lt_of_le_of_lt (Nat.add_le_add_left (Nat.min_le_left _ _) _) (hu _ hd)) ?_
        subst e1; subst e2
        exact q
      | _ => cases t2
    | _ => cases t1
  · match ds, hk, vs, e with
    | .tuple [] :: r, hk, v :: vs, .cons ⟨as, r0⟩ er =>
      refine kind_tup0 r0 (fun u hu => ?_) q
      rcases List.mem_cons.mp hu with z | z
      · subst z; exact ⟨_, as, r0, rfl⟩
      · obtain ⟨d, hd, as', r'⟩ := er.left u z
        exact ⟨d, as', r', hk d hd⟩
theorem sorted_tup0 {prog : Program} {w : World} {A : Around} {E : Value → Shared → Prop} {s : Shared} {β : Type} {vs : List Value} {bs : List β} {enc : β → PyData} {R : Value → β → Prop} {l : Addr} {Q : Value → Shared → Prop} (hl : s.heap.IsList l vs.toArray) (e : EachIs R vs bs) (er : EachIs (fun v b => ∃ as, Reads s.heap v (enc b) as) vs bs)
    (hal : AllAlike (bs.map enc)) (hk : Tup0 (bs.map enc)) (hL : bs.length ≤ sizeLine) (hu : ∀ b ∈ bs, A.units + 2 + (enc b).depth < cLine)
    (h : ∀ out : List Value, out.length = bs.length → EachIs R out (bs.mergeSort (dataLe false enc)) → Q (Value.ref (s.heap.objs.size + 1)) { heap := sortedAll s.heap vs out.toArray, gens := s.gens, drawn := s.drawn, toks := s.toks, os := s.os }) :
    wpAny (model prog w) A (call (Value.builtin "sorted") [Value.ref l]) Q E s := by
  have er' : EachIs (fun v b => ∃ as, Reads (sortingHeap (copyHeap s.heap vs) (s.heap.objs.size + 1) vs) v (enc b) as) vs bs := er.mono fun x y z => by
    obtain ⟨as, r⟩ := z
    exact ⟨as, Reads.keeps (fun _ _ => sorting_copy_old) r⟩
  refine sorted_vals hl (sortsAt_tup0 (each_map enc er') hal hk (bound_map hu)) (by rw [e.length]; exact hL) (h _ ?_ ?_)
  · rw [sortVals_length false rfl, e.length]
  · exact sortVals_data false e er' hal
/-! ### sorting by insertion: what the kernel reckons -/
def insS {α : Type} (le : α → α → Bool) (x : α) : List α → List α
  | [] => [x]
  | y :: r => match le x y with
    | true => x :: y :: r
    | false => y :: insS le x r
def sortS {α : Type} (le : α → α → Bool) : List α → List α
  | [] => []
  | x :: r => insS le x (sortS le r)
theorem mem_insS {α : Type} {le : α → α → Bool} {x y : α} : ∀ {l : List α}, y ∈ insS le x l → y = x ∨ y ∈ l
  | [], h => by simp [insS] at h; exact .inl h
  | z :: r, h => by
    unfold insS at h
    cases c : le x z with
    | true => simp only [c] at h; exact List.mem_cons.mp h
    | false =>
      simp only [c] at h
      rcases List.mem_cons.mp h with q | q
      · exact .inr (q ▸ List.mem_cons_self)
      · rcases mem_insS q with q | q
        · exact .inl q
        · exact .inr (List.mem_cons_of_mem _ q)
theorem insS_sorted {α : Type} {le : α → α → Bool} (T : TotalLe le) (x : α) : ∀ {l : List α}, l.Pairwise (fun a b => le a b = true) → (insS le x l).Pairwise fun a b => le a b = true
  | [], _ => by simp [insS]
  | y :: r, p => by
    rw [List.pairwise_cons] at p
    unfold insS
    cases c : le x y with
    | true =>
      simp only [List.pairwise_cons]
      refine ⟨fun b hb => ?_, p.1, p.2⟩
      rcases List.mem_cons.mp hb with q | q
      · subst q; exact c
      · exact T.trans _ _ _ c (p.1 b q)
    | false =>
      simp only [List.pairwise_cons]
      refine ⟨fun b hb => ?_, insS_sorted T x p.2⟩
      rcases mem_insS hb with q | q
      · subst q
        rcases T.total b y with z | z
        · rw [c] at z; cases z
        · exact z
      · exact p.1 b q
theorem insS_filter {α : Type} {le : α → α → Bool} (T : TotalLe le) (x c : α) : ∀ {l : List α}, (insS le x l).filter (sameRank le c) = (x :: l).filter (sameRank le c)
  | [] => rfl
  | y :: r => by
    unfold insS
    cases d : le x y with
    | true => rfl
    | false =>
      simp only []
      rw [List.filter_cons, insS_filter T x c, List.filter_cons, List.filter_cons, List.filter_cons]
      cases e : sameRank le c x with
      | false => simp
      | true =>
        have : sameRank le c y = false := by
          cases f : sameRank le c y
          · rfl
          · unfold sameRank at e f
            simp only [Bool.and_eq_true] at e f
            have := T.trans _ _ _ e.2 f.1
            rw [d] at this; cases this
        simp [this]
theorem sortS_eq {α : Type} {le : α → α → Bool} (T : TotalLe le) (l : List α) : sortS le l = l.mergeSort le := by
  apply sort_unique T
  · induction l with
    | nil => exact .nil
    | cons x r ih => exact insS_sorted T x ih
  · intro c
    induction l with
    | nil => rfl
    | cons x r ih =>
      show (insS le x (sortS le r)).filter _ = _
      rw [insS_filter T, List.filter_cons, List.filter_cons, ih]
end Nc
namespace Nc
open PySem PySem.Spec PySem.W PyProof.Rows L2
abbrev leP {α : Type} : α × PyData → α × PyData → Bool := dataLe false Prod.snd
theorem leP_total {α : Type} : TotalLe (leP (α := α)) := sortLe_total _ _ _
/-! what may be sorted -/
def isIntP : PyData → Bool
  | .int _ => true
  | _ => false
def intRow : PyData → Bool
  | .tuple xs => xs.all isIntP
  | _ => false
def alikeB (ps : List PyData) : Bool := ps.all intRow || ps.all fun p => ps.all fun q => alike p q
def fullTup : PyData → Bool
  | .tuple (_ :: _) => true
  | _ => false
def flatP : PyData → Bool
  | .none => false
  | .tuple _ => false
  | _ => true
def tup0B : List PyData → Bool
  | .tuple [] :: r => r.all isTupP
  | _ => false
def sortOk (ps : List PyData) : Bool := alikeB ps && ((tup0B ps || ps.all fullTup) || ps.all flatP) && ps.all fun p => Nat.ble p.depth 12
structure SortP (ps : List PyData) : Prop where
  al : AllAlike ps
  kind : Tup0 ps ∨ Sortable ps
  dep : ∀ p ∈ ps, p.depth ≤ 12
theorem ints_of : ∀ {xs : List PyData}, xs.all isIntP = true → ∃ is : List Int, xs = is.map PyData.int
  | [], _ => ⟨[], rfl⟩
  | x :: xs, h => by
    rw [List.all_cons, Bool.and_eq_true] at h
    obtain ⟨is, rfl⟩ := ints_of h.2
    cases x with
    | int i => exact ⟨i :: is, rfl⟩
    | _ => cases h.1
theorem sortOk_ok {ps : List PyData} (h : sortOk ps = true) : SortP ps := by
  unfold sortOk at h
  simp only [Bool.and_eq_true, Bool.or_eq_true, List.all_eq_true] at h
  obtain ⟨⟨h1, h2⟩, h3⟩ := h
  refine ⟨?_, ?_, fun p hp => Nat.le_of_ble_eq_true (h3 p hp)⟩
  · unfold alikeB at h1
    simp only [Bool.or_eq_true, List.all_eq_true] at h1
    intro p hp q hq
    rcases h1 with h1 | h1
    · have a := h1 p hp
      have b := h1 q hq
      cases p with
      | tuple xs =>
        cases q with
        | tuple ys =>
          obtain ⟨is, rfl⟩ := ints_of a
          obtain ⟨js, rfl⟩ := ints_of b
          exact alike_ints is js
        | _ => cases b
      | _ => cases a
    · exact h1 p hp q hq
  · rcases h2 with (h2 | h2) | h2
    · left
      match ps, h2 with
      | .tuple [] :: r, h2 =>
        show ∀ d ∈ r, isTupP d = true
        unfold tup0B at h2
        rwa [List.all_eq_true] at h2
    · right; left
      intro d hd
      have := h2 d hd
      match d, this with
      | .tuple (x :: r), _ => exact ⟨x, r, rfl⟩
    · right; right
      intro d hd
      have := h2 d hd
      refine ⟨fun e => ?_, fun xs e => ?_⟩ <;> subst e <;> cases this
/-! the rule by values -/
def rSortP (K : PySem.W.Frag) (vs : List V) (H : Hp) (Q : VK) : Prop := ∃ a xs ps, vs = [V.ref a] ∧ SqL K H a xs ∧ DpAll K H xs ps ∧ SortP ps ∧ ∀ p, H p = none → Q (.ref p) (upd H p (.lst ((sortS leP (xs.zip ps)).map Prod.fst)))
theorem vals_len {vs : List V} {us : List Value} (r : Vals vs us) : vs.length = us.length := r.length
theorem dpAll_len {K : PySem.W.Frag} {H : Hp} : ∀ {xs : List V} {ps : List PyData}, DpAll K H xs ps → xs.length = ps.length
  | _, _, .nil => rfl
  | _, _, .cons _ t => by simp [dpAll_len t]
theorem each_vals {X : Cx} {pins : List (Addr × Obj)} {σ : L2.St} {H : Hp} {s : Shared} (I : Inv X pins σ H s) : ∀ {xs : List V} {us : List Value} {ps : List PyData}, Vals xs us → DpAll X.K H xs ps →
    EachIs (fun u (b : V × PyData) => RelV b.1 u) us (xs.zip ps) ∧ EachIs (fun u (b : V × PyData) => ∃ as, Reads s.heap u b.2 as) us (xs.zip ps)
  | _, _, _, .nil, .nil => ⟨.nil, .nil⟩
  | _, _, _, .cons r t, .cons d t' => by
    obtain ⟨e1, e2⟩ := each_vals I t t'
    exact ⟨.cons r e1, .cons (Dp.reads I _ _ _ d r) e2⟩
theorem vals_back : ∀ {us : List Value} {bs : List (V × PyData)}, EachIs (fun u (b : V × PyData) => RelV b.1 u) us bs → Vals (bs.map Prod.fst) us
  | _, _, .nil => .nil
  | _, _, .cons r t => .cons r (vals_back t)
theorem zip_snd {α : Type} : ∀ {xs : List α} {ps : List PyData}, xs.length = ps.length → (xs.zip ps).map Prod.snd = ps
  | [], [], _ => rfl
  | x :: xs, p :: ps, h => by
    simp only [List.zip_cons_cons, List.map_cons, zip_snd (xs := xs) (ps := ps) (by simpa using h)]
theorem insS_len {α : Type} (le : α → α → Bool) (x : α) : ∀ l : List α, (insS le x l).length = l.length + 1
  | [] => rfl
  | y :: r => by
    unfold insS
    cases le x y with
    | true => rfl
    | false => simp [insS_len le x r]
theorem sortS_len {α : Type} (le : α → α → Bool) : ∀ l : List α, (sortS le l).length = l.length
  | [] => rfl
  | x :: r => by show (insS le x (sortS le r)).length = _; rw [insS_len, sortS_len le r]; rfl
theorem cr_sortP {X : Cx} {k : Nat} (hr : Room k X.A) : CallR X (.builtin "sorted") (rSortP X.K) := fun pins s σ H vs us Q I r h => by
  obtain ⟨a, xs, ps, rfl, hs, hd, ok, q⟩ := h
  obtain ⟨its, rv, hl, hz⟩ := I.list hs
  rw [Vals.ref1 r]
  have lz : xs.length = ps.length := dpAll_len hd
  obtain ⟨e1, e2⟩ := each_vals I rv hd
  have es := zip_snd lz
  have hu : ∀ b ∈ xs.zip ps, X.A.units + 2 + b.2.depth < cLine := fun b hb => by
    have := ok.dep b.2 (by rw [← es]; exact List.mem_map.mpr ⟨b, hb, rfl⟩)
    have := hr.units
    omega
  have fin : ∀ out : List Value, out.length = (xs.zip ps).length → EachIs (fun u (b : V × PyData) => RelV b.1 u) out ((xs.zip ps).mergeSort (dataLe false Prod.snd)) →
      EP X pins σ Q (Value.ref (s.heap.objs.size + 1)) { heap := sortedAll s.heap its out.toArray, gens := s.gens, drawn := s.drawn, toks := s.toks, os := s.os } := fun out hlen eo => by
    rw [← sortS_eq leP_total] at eo
    have vb := vals_back eo
    obtain ⟨ep, he⟩ := sortedAll_at s.heap its out.toArray
    refine ⟨.ref (s.heap.objs.size + 1), upd H (s.heap.objs.size + 1) (.lst ((sortS leP (xs.zip ps)).map Prod.fst)), I.laid (fun b u e => sortedAll_old e) (Nat.le_succ _) ⟨?_, out, ep, vb, he⟩, rfl, q _ (HOk.fresh I.hok (Nat.le_succ _))⟩
    rw [List.length_map, sortS_len, List.length_zip, ← lz, Nat.min_self]; exact hz
  have hL : (xs.zip ps).length ≤ sizeLine := by rw [List.length_zip, ← lz, Nat.min_self]; exact hz
  rcases ok.kind with kd | kd
  · exact sorted_tup0 (enc := Prod.snd) hl.isList e1 e2 (by rw [es]; exact ok.al) (by rw [es]; exact kd) hL hu fin
  · exact sorted_data (enc := Prod.snd) hl.isList e1 e2 (by rw [es]; exact ok.al) (by rw [es]; exact kd) hL hu fin
/-! by data -/
section
variable {K : KW} {ρ : Rho} {H : Hp}
def Both (K : KW) (ρ : Rho) (H : Hp) (a : D × PyData) (b : V × PyData) : Prop := a.2 = b.2 ∧ Rp K ρ H a.1 b.1
theorem insS_both {a : D × PyData} {b : V × PyData} (h : Both K ρ H a b) : ∀ {l : List (D × PyData)} {m : List (V × PyData)}, Paired (Both K ρ H) l m → Paired (Both K ρ H) (insS leP a l) (insS leP b m)
  | _, _, .nil => .cons h .nil
  | x :: l, y :: m, .cons r t => by
    have : leP a x = leP b y := by
      show dataLe false Prod.snd a x = dataLe false Prod.snd b y
      rw [dataLe_eq, dataLe_eq]
      simp only [h.1, r.1]
    unfold insS
    rw [this]
    cases leP b y with
    | true => exact .cons h (.cons r t)
    | false => exact .cons r (insS_both h t)
theorem sortS_both : ∀ {l : List (D × PyData)} {m : List (V × PyData)}, Paired (Both K ρ H) l m → Paired (Both K ρ H) (sortS leP l) (sortS leP m)
  | _, _, .nil => .nil
  | _, _, .cons r t => insS_both r (sortS_both t)
theorem both_zip : ∀ {ds : List D} {vs : List V} (ps : List PyData), Rps K ρ H ds vs → Paired (Both K ρ H) (ds.zip ps) (vs.zip ps)
  | [], _, ps, r => by rw [Rps.nil_iff.mp r]; cases ps <;> exact .nil
  | d :: ds, _, [], r => by
    obtain ⟨x, t, rfl, _, _⟩ := Rps.cons_iff.mp r
    exact .nil
  | d :: ds, _, p :: ps, r => by
    obtain ⟨x, t, rfl, r1, r2⟩ := Rps.cons_iff.mp r
    exact .cons ⟨rfl, r1⟩ (both_zip ps r2)
theorem both_rps : ∀ {l : List (D × PyData)} {m : List (V × PyData)}, Paired (Both K ρ H) l m → Rps K ρ H (l.map Prod.fst) (m.map Prod.fst)
  | _, _, .nil => Rps.nil_iff.mpr rfl
  | _, _, .cons r t => Rps.cons r.2 (both_rps t)
end
def sortD (es : List D) (ps : List PyData) : List D := (sortS leP (es.zip ps)).map Prod.fst
def oSorted : List D → AH → R D := fun ds h => withS (arg1 ds) fun d => match d with
  | .cell n => withS (lstAt n h) fun es => withS (pds (toPD h 12) es) fun ps => chk (sortOk ps) (mkL (sortD es ps) h)
  | _ => .no
theorem oc_sorted {K : KW} {T : XT} : OC K T (rSortP K.k) oSorted := fun E ρ H h ds vs Q hr r p => by
  obtain ⟨d, e1, p⟩ := Post.withS p
  obtain ⟨v, rfl, rv⟩ := arg1_ok r e1
  cases d with
  | cell n =>
    obtain ⟨es, e2, p⟩ := Post.withS (k := fun es => withS (pds (toPD h 12) es) fun ps => chk (sortOk ps) (mkL (sortD es ps) h)) p
    obtain ⟨ps, e3, p⟩ := p.withS
    obtain ⟨c, p⟩ := p.chk
    obtain ⟨a, rfl, e4⟩ := rp_cell.mp rv
    obtain ⟨b, xs, f1, f2, re, _⟩ := lstAt_ok hr e2
    rw [e4] at f1; cases f1
    refine ⟨a, xs, ps, rfl, .inl (.inl f2), pds_ok (fun d p v => toPD_ok hr 12 d p v) e3 re, sortOk_ok c, ?_⟩
    exact (mkL_ok hr (both_rps (sortS_both (both_zip ps re))) p).2
  | _ => exact p.elim
end Nc
namespace Nc
open PySem PySem.Spec PySem.W PyProof.Rows L2
/-! ## list(o.values()), the keys tuples -/
def tListVals (X : Cx) (td : TE) : TE := fun σ H Q => td σ H fun x H1 => ∃ ρ a L kvs, x = .ref a ∧ Rd H1 a (DN X.w L a) ∧ (a == sysModules) = false ∧ Paired (DEnt (kwOf X) ρ H1) kvs L ∧ L.length ≤ lim ∧ ∀ p, H1 p = none → Q (.ref p) (upd H1 p (.lst (L.map fun q => q.2.2)))
theorem vals_items {xs : List (NestedKey × Value × Value)} {es : Array DictEntry} {acc : Array Value} : ∀ {L : List (NestedKey × V × V)}, Paired EntV L xs → es.size = xs.length → (∀ (i : Nat) (hi : i < es.size), ∃ y, xs[i]? = some y ∧ es[i].val = y.2.2) →
    acc.size = es.size → (∀ (j : Nat) (v : Value), acc[j]? = some v → ∃ hi, v = (es[j]'hi).val) → Vals (L.map fun q => q.2.2) acc.toList := by
  intro L r hs he ha hv
  have key : acc.toList = xs.map fun x => x.2.2 := by
    apply List.ext_getElem?
    intro i
    rw [Array.getElem?_toList]
    by_cases h : i < es.size
    · obtain ⟨y, e1, e2⟩ := he i h
      have hi : i < acc.size := by omega
      obtain ⟨hi', e3⟩ := hv i acc[i] (Array.getElem?_eq_getElem hi)
      rw [List.getElem?_map, e1, Array.getElem?_eq_getElem hi, e3, e2]; rfl
    · rw [List.getElem?_map, List.getElem?_eq_none (by omega), Array.getElem?_eq_none (by omega)]; rfl
  rw [key]
  clear key ha hv he hs
  induction r with
  | nil => exact .nil
  | cons q t ih => exact .cons q.2.2 ih
variable {X : Cx}
theorem pe_listVals {o : Expr} {p pos apos mpos : Pos} {td : TE} (hc : X.calm = true) (hg : Gl X ("list" : Str)) (hm : X.mg ("list" : Str) = none) (hd : PE X o td) (hb : attributeBase o ("values" : Str) X.env (eval o X.env) = eval o X.env := by rfl) (hline : (apos.endLine == mpos.line) = true := by rfl)
    (hse : starEach [.Call (.Attribute o ("values" : Str) apos) [] [] mpos] X.env = [(false, eval (.Call (.Attribute o ("values" : Str) apos) [] [] mpos) X.env)] := by rfl) :
    PE X (.Call (.Name ("list" : Str) p) [.Call (.Attribute o ("values" : Str) apos) [] [] mpos] [] pos) (tListVals X td) := ⟨fun pins s σ H Q I h => by
  refine wpAny_Call_Name_kw (ld_blt (u := .type "list") I hg hm rfl ?_)
  rw [hse]
  refine PySem.callWith_type1 (wpAny_Call_method0_late hb hline (thn (hd.run pins s σ H _ I h) fun v s1 ⟨x, H1, I1, r1, ρ, a, L, kvs, ex, ha, hsys, ent, hl, q⟩ => ?_))
  subst ex; cases r1
  obtain ⟨xs, r, ob, es, ep, ho, hex, hdat, hes, _⟩ := dn_get I1 ha
  have raw : s1.heap.DictRaw a es ep := ⟨ob, ho, hex, hdat⟩
  have hn : es.size = xs.length := by
    have := congrArg List.length hes
    rw [List.length_map, Array.length_toList] at this
    exact this
  have he : ∀ (i : Nat) (hi : i < es.size), ∃ y, xs[i]? = some y ∧ es[i].val = y.2.2 := fun i hi => by
    have e1 : es.toList[i]? = some es[i] := by rw [Array.getElem?_toList, Array.getElem?_eq_getElem hi]
    rw [hes, List.getElem?_map] at e1
    cases z : xs[i]? with
    | none => rw [z] at e1; cases e1
    | some y =>
      rw [z] at e1
      refine ⟨y, rfl, ?_⟩
      rw [← Option.some.inj e1]
  refine ⟨"dict", "dict.values", F.plainAttrs_dict, F.slot_dict_values, F.type_dict_values, ⟨ob, ho, hex.1⟩, ?_, ?_⟩
  · intro b e
    cases e
    exact ⟨ob, ho, hex.2.1⟩
  · refine Calls.callWith_builtin rfl (PySem.evalArgs_none (call_meetsIn F.slot_dict_values ⟨ob, ho, hex.1⟩ F.entry_dict_values (F.args_dict_values_1 (Value.ref a)) (meets_dict_values_raw a hsys) ⟨⟨es, ep, raw⟩, ?_⟩))
    have rawP : ∀ (u : Obj), (s1.heap.push u).DictRaw a es ep := fun u => ⟨ob, Heap.get?_push_of_some _ ho, hex, hdat⟩
    have view : (s1.heap.push { cls := Value.type "dict_values", data := Data.fields #[Value.ref a] }).IsValuesView s1.heap.objs.size a := ⟨_, Heap.get?_push_size _ rfl, rfl, rfl⟩
    have lL : L.length = xs.length := paired_len r
    have lz : es.size ≤ sizeLine := by
      have : lim ≤ sizeLine := by rw [sizeLine_eq]; decide
      omega
    refine kdl_call KdlSrc.rawValues (I1.ok.hd hc) ⟨view, rawP _⟩ lz fun h' tk acc' c' hk hl' hit => ?_
    have hsz : (s1.heap.push { cls := Value.type "dict_values", data := Data.fields #[Value.ref a] }).objs.size = s1.heap.objs.size + 1 := by simp [Heap.push]
    have vals := vals_items r hn he hit.1 hit.2
    refine ⟨.ref (s1.heap.objs.size + 1), upd H1 (s1.heap.objs.size + 1) (.lst (L.map fun q => q.2.2)), ?_, ?_, q _ (HOk.fresh I1.hok (Nat.le_succ _))⟩
    · refine I1.laid (fun b u e => hk b u (Heap.get?_push_of_some _ e)) (Nat.le_succ _) ⟨?_, acc'.toList, c', vals, ?_⟩
      · rw [List.length_map, lL, ← hn]; exact lz
      · rw [← hsz, hl']
    · show _ = _
      rw [hsz]⟩
/-! by data -/
def valsD (kvs : List (NestedKey × D × D)) : List D := kvs.map fun q => q.2.2
def dVals (f : DE) : DE := fun s h => (f s h).bind fun d h1 => match d with
  | .cell n => withS (dctAt n h1) fun kvs => chk (Nat.ble kvs.length lim) (mkL (valsD kvs) h1)
  | _ => .no
theorem ent_vals {K : KW} {ρ : Rho} {H : Hp} : ∀ {kvs : List (NestedKey × D × D)} {L : List (NestedKey × V × V)}, Paired (DEnt K ρ H) kvs L → Rps K ρ H (valsD kvs) (L.map fun q => q.2.2)
  | _, _, .nil => Rps.nil_iff.mpr rfl
  | _, _, .cons r t => Rps.cons r.2.2.2.2 (ent_vals t)
variable {T : XT} {W : WX}
theorem se_listVals {o : Expr} {p pos apos mpos : Pos} {f : DE} (hc : X.calm = true) (hg : Gl X ("list" : Str)) (hm : X.mg ("list" : Str) = none) (hd : SE X T W o f) (hb : attributeBase o ("values" : Str) X.env (eval o X.env) = eval o X.env := by rfl) (hline : (apos.endLine == mpos.line) = true := by rfl)
    (hse : starEach [.Call (.Attribute o ("values" : Str) apos) [] [] mpos] X.env = [(false, eval (.Call (.Attribute o ("values" : Str) apos) [] [] mpos) X.env)] := by rfl) :
    SE X T W (.Call (.Name ("list" : Str) p) [.Call (.Attribute o ("values" : Str) apos) [] [] mpos] [] pos) (dVals f) :=
  ⟨PE.imp (pe_listVals hc hg hm hd.p hb hline hse) fun σ H Q ⟨ρ, s, h, st, hr, q⟩ => tD_bind st hr q fun d h1 ρ1 H1 v g1 hr1 st1 r1 q1 => by
    cases d with
    | cell n =>
      obtain ⟨kvs, e1, q2⟩ := Post.withS (k := fun kvs => chk (Nat.ble kvs.length lim) (mkL (valsD kvs) h1)) q1
      obtain ⟨c, q2⟩ := q2.chk
      obtain ⟨a, L, fz, f1, f2, f3, f4, fh, f5⟩ := dctAt_ok hr1 e1
      obtain ⟨b, rfl, f6⟩ := rp_cell.mp r1
      rw [f1] at f6; cases f6
      exact ⟨ρ1, a, L, kvs, rfl, lk_rd f2, f3, f4, by rw [← paired_len f4]; exact Nat.le_of_ble_eq_true c, (mkL_ok hr1 (ent_vals f4) q2).2⟩
    | _ => exact q1.elim⟩
end Nc
namespace Nc
open PySem PySem.Spec PyProof.Rows L2
section
variable {X : Cx} {T : XT} {W : WX} {pos : Pos} {a b e : Expr} {f g : DE} {k : Nat}
theorem OpR.or {F : Value → Value → Sem Value} {r r' : R2} (h : OpR X F r) (h' : OpR X F r') : OpR X F (fun x y H Q => r x y H Q ∨ r' x y H Q) := fun pins s σ H x y v u Q I rx ry q => q.elim (h pins s σ H x y v u Q I rx ry) (h' pins s σ H x y v u Q I rx ry)
theorem u64 (hr : Room k X.A) : X.A.units + 64 < cLine := hr.units
theorem u0 (hr : Room k X.A) : X.A.units < cLine := by have := hr.units; omega
theorem u65 (hr : Room k X.A) : X.A.units + 65 < cLine := by have := hr.un; omega
/-! operators -/
theorem se_add (ha : SE X T W a f) (hb : SE X T W b g) : SE X T W (.BinOp a .Add b pos) (dOp dAdd f g) := se_op (OpR.or op_add (OpR.or op_cat op_catA)) o_add ha hb
theorem se_sb (ha : SE X T W a f) (hb : SE X T W b g) : SE X T W (.BinOp a .Sub b pos) (dOp dSub f g) := se_op op_sub o_sub ha hb
theorem se_mul (ha : SE X T W a f) (hb : SE X T W b g) : SE X T W (.BinOp a .Mult b pos) (dOp dMul f g) := se_op (OpR.or op_mul (OpR.or op_rep op_repT)) o_mul ha hb
section
variable {op : CmpOp} {r : R2} {o : D → D → AH → R D}
end
theorem se_lt (hr : Room k X.A) (ha : SE X T W a f) (hb : SE X T W b g) (hm : behindInMarks .Lt b = false := by rfl) : SE X T W (.Compare a [.Lt] [b] pos) (dOp dLt f g) := se_cmp (OpR.or op_lt (op_ltT (u0 hr))) o_lt ha hb hm
theorem st_lt (hr : Room k X.A) (ha : SE X T W a f) (hb : SE X T W b g) (hm : behindInMarks .Lt b = false := by rfl) : ST X T W (.Compare a [.Lt] [b] pos) (dTest (dOp dLt f g)) := st_cmp (OpR.or op_lt (op_ltT (u0 hr))) o_lt ha hb hm
def gtI (i j : Int) : Bool := decide (j < i)
def geI (i j : Int) : Bool := decide (j ≤ i)
theorem se_le (ha : SE X T W a f) (hb : SE X T W b g) (hm : behindInMarks .LtE b = false := by rfl) : SE X T W (.Compare a [.LtE] [b] pos) (dOp (dInts leI) f g) := se_cmp op_le (o_ints (g := leI)) ha hb hm
theorem st_le (ha : SE X T W a f) (hb : SE X T W b g) (hm : behindInMarks .LtE b = false := by rfl) : ST X T W (.Compare a [.LtE] [b] pos) (dTest (dOp (dInts leI) f g)) := st_cmp op_le (o_ints (g := leI)) ha hb hm
theorem se_gt (ha : SE X T W a f) (hb : SE X T W b g) (hm : behindInMarks .Gt b = false := by rfl) : SE X T W (.Compare a [.Gt] [b] pos) (dOp (dInts gtI) f g) := se_cmp op_gt (o_ints (g := gtI)) ha hb hm
theorem st_gt (ha : SE X T W a f) (hb : SE X T W b g) (hm : behindInMarks .Gt b = false := by rfl) : ST X T W (.Compare a [.Gt] [b] pos) (dTest (dOp (dInts gtI) f g)) := st_cmp op_gt (o_ints (g := gtI)) ha hb hm
theorem se_ge (ha : SE X T W a f) (hb : SE X T W b g) (hm : behindInMarks .GtE b = false := by rfl) : SE X T W (.Compare a [.GtE] [b] pos) (dOp (dInts geI) f g) := se_cmp op_ge (o_ints (g := geI)) ha hb hm
theorem st_ge (ha : SE X T W a f) (hb : SE X T W b g) (hm : behindInMarks .GtE b = false := by rfl) : ST X T W (.Compare a [.GtE] [b] pos) (dTest (dOp (dInts geI) f g)) := st_cmp op_ge (o_ints (g := geI)) ha hb hm
theorem se_eq (hr : Room k X.A) (ha : SE X T W a f) (hb : SE X T W b g) (hm : behindInMarks .Eq b = false := by rfl) : SE X T W (.Compare a [.Eq] [b] pos) (dOp dEq f g) := se_cmp (op_eqD (u64 hr)) o_eq ha hb hm
theorem st_eq (hr : Room k X.A) (ha : SE X T W a f) (hb : SE X T W b g) (hm : behindInMarks .Eq b = false := by rfl) : ST X T W (.Compare a [.Eq] [b] pos) (dTest (dOp dEq f g)) := st_cmp (op_eqD (u64 hr)) o_eq ha hb hm
theorem se_ne (hr : Room k X.A) (ha : SE X T W a f) (hb : SE X T W b g) (hm : behindInMarks .NotEq b = false := by rfl) : SE X T W (.Compare a [.NotEq] [b] pos) (dOp dNe f g) := se_cmp (op_neD (u64 hr)) o_ne ha hb hm
theorem st_ne (hr : Room k X.A) (ha : SE X T W a f) (hb : SE X T W b g) (hm : behindInMarks .NotEq b = false := by rfl) : ST X T W (.Compare a [.NotEq] [b] pos) (dTest (dOp dNe f g)) := st_cmp (op_neD (u64 hr)) o_ne ha hb hm
theorem se_in (hr : Room k X.A) (ha : SE X T W a f) (hb : SE X T W b g) (hm : behindInMarks .In b = false := by rfl) : SE X T W (.Compare a [.In] [b] pos) (dOp (dInA false) f g) := se_cmp (OpR.or (OpR.or op_in_seq (op_inD (u65 hr))) (op_inN hr)) o_inA ha hb hm
theorem st_in (hr : Room k X.A) (ha : SE X T W a f) (hb : SE X T W b g) (hm : behindInMarks .In b = false := by rfl) : ST X T W (.Compare a [.In] [b] pos) (dTest (dOp (dInA false) f g)) := st_cmp (OpR.or (OpR.or op_in_seq (op_inD (u65 hr))) (op_inN hr)) o_inA ha hb hm
theorem se_nin (hr : Room k X.A) (ha : SE X T W a f) (hb : SE X T W b g) (hm : behindInMarks .NotIn b = false := by rfl) : SE X T W (.Compare a [.NotIn] [b] pos) (dOp (dInA true) f g) := se_cmp (OpR.or (OpR.or op_notIn_seq (op_notInD (u65 hr))) (op_notInN hr)) o_notInA ha hb hm
theorem st_nin (hr : Room k X.A) (ha : SE X T W a f) (hb : SE X T W b g) (hm : behindInMarks .NotIn b = false := by rfl) : ST X T W (.Compare a [.NotIn] [b] pos) (dTest (dOp (dInA true) f g)) := st_cmp (OpR.or (OpR.or op_notIn_seq (op_notInD (u65 hr))) (op_notInN hr)) o_notInA ha hb hm
theorem se_isN (ha : SE X T W a f) (hb : SE X T W b g) (hm : behindInMarks .Is b = false := by rfl) : SE X T W (.Compare a [.Is] [b] pos) (dOp dIsN f g) := se_cmp op_isN o_isN ha hb hm
theorem st_isN (ha : SE X T W a f) (hb : SE X T W b g) (hm : behindInMarks .Is b = false := by rfl) : ST X T W (.Compare a [.Is] [b] pos) (dTest (dOp dIsN f g)) := st_cmp op_isN o_isN ha hb hm
theorem se_notN (ha : SE X T W a f) (hb : SE X T W b g) (hm : behindInMarks .IsNot b = false := by rfl) : SE X T W (.Compare a [.IsNot] [b] pos) (dOp dNotN f g) := se_cmp op_notN o_notN ha hb hm
theorem st_notN (ha : SE X T W a f) (hb : SE X T W b g) (hm : behindInMarks .IsNot b = false := by rfl) : ST X T W (.Compare a [.IsNot] [b] pos) (dTest (dOp dNotN f g)) := st_cmp op_notN o_notN ha hb hm
/-- 0 <= a < b -/
theorem se_leLt (hr : Room k X.A) {c : Expr} {h : DE} (ha : SE X T W a f) (hb : SE X T W b g) (hc : SE X T W c h) (hm : lastMarks [.LtE, .Lt] [b, c] = false := by with_unfolding_all rfl) : SE X T W (.Compare a [.LtE, .Lt] [b, c] pos) (dChain (dInts leI) dLt f g h) := se_chain op_le (o_ints (g := leI)) (OpR.or op_lt (op_ltT (u0 hr))) o_lt ha hb hc hm
/-- - a -/
def dNeg (f : DE) : DE := fun s h => (f s h).bind fun d h1 => withS (intD d) fun i => .ok (.int (-i)) h1
theorem se_neg (ha : SE X T W a f) : SE X T W (.UnaryOp .USub a pos) (dNeg f) := ⟨PE.imp (pe_un un_neg ha.p) fun σ H Q ⟨ρ, s, h, st, hr, q⟩ => tD_bind st hr q fun d h1 ρ1 H1 v g1 hr1 st1 r1 q1 => by
  obtain ⟨i, e1, q2⟩ := Post.withS q1
  exact ⟨i, intD_ok r1 e1, q2.here hr1 _ (rp_int.mpr rfl)⟩⟩
/-! built-ins of one argument -/
theorem bt_tuple : bootBuiltins ("tuple" : Str) = some (.type "tuple") := by rfl
theorem bt_list : bootBuiltins ("list" : Str) = some (.type "list") := by rfl
theorem bt_all : bootBuiltins ("all" : Str) = some (.builtin "all") := by rfl
theorem bt_any : bootBuiltins ("any" : Str) = some (.builtin "any") := by rfl
theorem bt_max : bootBuiltins ("max" : Str) = some (.builtin "max") := by rfl
theorem bt_sorted : bootBuiltins ("sorted" : Str) = some (.builtin "sorted") := by rfl
variable {p : Pos}
theorem se_len (hm : X.mg "len" = none) (ha : SE X T W e f) (hg : Gl X "len" := by rfl) (he : starEach [e] X.env = (false, eval e X.env) :: starEach [] X.env := by rfl) : SE X T W (.Call (.Name "len" p) [e] [] pos) (dCall oLen (dCons f dNil)) := se_callB call_len oc_len hg hm PySem.boot_len (sa_cons ha sa_nil he) (by decide) (by decide) he (by rfl)
theorem se_tuple (hm : X.mg "tuple" = none) (ha : SE X T W e f) (hg : Gl X "tuple" := by rfl) (he : starEach [e] X.env = (false, eval e X.env) :: starEach [] X.env := by rfl) : SE X T W (.Call (.Name "tuple" p) [e] [] pos) (dCall oTuple (dCons f dNil)) := se_callTy call_tuple_of oc_tuple hg hm bt_tuple (sa_cons ha sa_nil he) (by decide) (by decide) he (by rfl)
theorem se_list (hm : X.mg "list" = none) (ha : SE X T W e f) (hg : Gl X "list" := by rfl) (he : starEach [e] X.env = (false, eval e X.env) :: starEach [] X.env := by rfl) : SE X T W (.Call (.Name "list" p) [e] [] pos) (dCall oList (dCons f dNil)) := se_callTy call_list_of oc_list hg hm bt_list (sa_cons ha sa_nil he) (by decide) (by decide) he (by rfl)
theorem se_all (hc : X.calm = true) (hm : X.mg "all" = none) (ha : SE X T W e f) (hg : Gl X "all" := by rfl) (he : starEach [e] X.env = (false, eval e X.env) :: starEach [] X.env := by rfl) : SE X T W (.Call (.Name "all" p) [e] [] pos) (dCall (oBools allB) (dCons f dNil)) := se_callB (cr_all hc) oc_all hg hm bt_all (sa_cons ha sa_nil he) (by decide) (by decide) he (by rfl)
theorem se_any (hc : X.calm = true) (hm : X.mg "any" = none) (ha : SE X T W e f) (hg : Gl X "any" := by rfl) (he : starEach [e] X.env = (false, eval e X.env) :: starEach [] X.env := by rfl) : SE X T W (.Call (.Name "any" p) [e] [] pos) (dCall (oBools anyB) (dCons f dNil)) := se_callB (cr_any hc) oc_any hg hm bt_any (sa_cons ha sa_nil he) (by decide) (by decide) he (by rfl)
theorem se_sorted (hr : Room k X.A) (hm : X.mg "sorted" = none) (ha : SE X T W e f) (hg : Gl X "sorted" := by rfl) (he : starEach [e] X.env = (false, eval e X.env) :: starEach [] X.env := by rfl) : SE X T W (.Call (.Name "sorted" p) [e] [] pos) (dCall oSorted (dCons f dNil)) := se_callB (cr_sortP hr) oc_sorted hg hm bt_sorted (sa_cons ha sa_nil he) (by decide) (by decide) he (by rfl)
theorem se_max2 (hc : X.calm = true) (hm : X.mg "max" = none) (ha : SE X T W a f) (hb : SE X T W b g) (hg : Gl X "max" := by rfl) (he : starEach [a, b] X.env = (false, eval a X.env) :: starEach [b] X.env := by rfl) (he2 : starEach [b] X.env = (false, eval b X.env) :: starEach [] X.env := by rfl) (hpl : (backTo pos (starEach [b] X.env)).any (·.1) = false := by rfl) :
    SE X T W (.Call (.Name "max" p) [a, b] [] pos) (dCall oMax2 (dCons f (dCons g dNil))) := se_callB (call_max2 hc) oc_max2 hg hm bt_max (sa_cons ha (sa_cons hb sa_nil he2) he) (by decide) (by decide) he hpl
/-! isinstance -/
theorem pe_tyName (t : String) {x : Str} (hg : Gl X x) (hm : X.mg x = none) (hv : bootBuiltins x = some (.type t)) (hn : x ≠ "__name__" := by decide) (hdb : (x == ("__debug__" : Str)) = false := by decide) : PE X (.Name x p) (tC (.ty t)) := ⟨fun pins s σ H Q I h =>
  ld_blt I hg hm hv ⟨.ty t, H, I, rfl, h⟩ hn hdb⟩
/-! x += e -/
def dAddI (x y : D) (h : AH) : R D := withS (intD x) fun i => withS (intD y) fun j => .ok (.int (i + j)) h
def dSubI (x y : D) (h : AH) : R D := withS (intD x) fun i => withS (intD y) fun j => .ok (.int (i - j)) h
theorem oi_add {K : KW} : OI K T (ipI fun i j => i + j) dAddI := fun E ρ H h x y v u Q hr rx ry p => by
  obtain ⟨i, e1, p⟩ := Post.withS p
  obtain ⟨j, e2, p⟩ := p.withS
  exact ⟨i, j, intD_ok rx e1, intD_ok ry e2, p.here hr _ (rp_int.mpr rfl)⟩
theorem oi_sub {K : KW} : OI K T (ipI fun i j => i - j) dSubI := fun E ρ H h x y v u Q hr rx ry p => by
  obtain ⟨i, e1, p⟩ := Post.withS p
  obtain ⟨j, e2, p⟩ := p.withS
  exact ⟨i, j, intD_ok rx e1, intD_ok ry e2, p.here hr _ (rp_int.mpr rfl)⟩
end
end Nc
namespace Nc
open PySem PySem.Spec PyProof.Rows L2
theorem rm {j k : Nat} {A : Around} (h : Room k A) (e : j ≤ k := by first | decide | omega) : Room j A := h.mono e
/-- a def that stands at the top -/
structure Df (K : PySem.W.Frag) (mg : Str → Option Value) (x : Str) (st : Stmt) (ps : List Str) where
  f : Addr
  fd : FuncData
  F : Fun K x x st f fd
  gl : mg x = some (.ref f)
  bi : Binds K fd ps []
theorem bindsTo {K : PySem.W.Frag} {x qual : Str} {st : Stmt} {f : Addr} {fd : FuncData} {s : Shared} {args : Args} {r : List (Str × Value)} (F : Fun K x qual st f fd) (h : ∀ kV doc pm an cdv ct, bindArgs (PySem.W.fnOf x qual (defArgs st) (defBody st) (defScope st) Value.none kV doc pm an cdv ct) args = pure r) : BindsTo s fd args r := by
  obtain ⟨oc, od, kV, doc, pm, an, cdv, ct, osl, rfl, _, _⟩ := F.ex
  exact .of_eq (h _ _ _ _ _ _)
theorem fn_okD {P : Program} {w : World} {K : PySem.W.Frag} {mg : Str → Option Value} {base : Heap} {T : XT} {x qual : Str} {st : Stmt} {f : Addr} {fd : FuncData} {N ps : List Str} {k np nN : Nat} {g : DS} {F : DF} (Fn : Fun K x qual st f fd) (S : FnScope N ps (defScope st)) (hF : F = runF g np nN) (h1 : ps.length = np) (h2 : N.length = nN)
    (body : ∀ (cdv : Value) (A : Around) (outer : List Env) (s : Shared) (H : Hp) (E : XK), Room k (A.deeper (envOfC qual (defScope st) s.heap.objs.size f cdv)) →
      SSs (cxOf (L2.CX P w) P w K mg base N qual (defScope st) f cdv A outer s H E) T (wOf E) (defBody st) g) : FnOk P w K mg base (L2.CX P w) (k + 1) f fd ps (spNc ⟨K, w, mg⟩ T F) := by
  subst hF; subst h1; subst h2
  exact fn_ok Fn S body
/-! a block's scope, reckoned -/
def isFree : NameKind → Bool
  | .free => true
  | _ => false
def isOwnK : NameKind → Bool
  | .local => true
  | .cell => true
  | _ => false
def isCellFree : Option NameKind → Bool
  | some .cell => true
  | some .free => true
  | _ => false
def isFn : ScopeKind → Bool
  | .function => true
  | _ => false
def blkB (N : List Str) (sc scope : Scope) (own : List (Str × Nat)) : Bool :=
  (isFn scope.kind && scope.names.all fun y => decide (scope.names.lookup y.1 = some y.2)) && ((own.all fun p => decide (N[p.2]? = some p.1)) && ((scope.names.all fun y => !isFree y.2 || isCellFree (sc.names.lookup y.1)) && scope.names.all fun y => !isOwnK y.2 || (decide (y.1 ∈ own.map (·.1)) || !decide (y.1 ∈ N))))
theorem blk_of {N : List Str} {sc scope : Scope} {own : List (Str × Nat)} (h : blkB N sc scope own = true) : BlkOk N sc scope own := by
  unfold blkB at h
  simp only [Bool.and_eq_true, List.all_eq_true] at h
  obtain ⟨⟨h1, h2⟩, h3, h4, h5⟩ := h
  refine ⟨?_, fun y hy => of_decide_eq_true (h2 y hy), fun p hp => of_decide_eq_true (h3 p hp), fun y hy e => ?_, fun y hy e => ?_⟩
  · generalize scope.kind = k at h1 ⊢
    cases k <;> first | rfl | cases h1
  · have := h4 y hy
    rw [e] at this
    cases z : sc.names.lookup y.1 with
    | none => rw [z] at this; cases this
    | some q =>
      rw [z] at this
      cases q <;> first | exact .inl rfl | exact .inr rfl | cases this
  · have := h5 y hy
    have hk : isOwnK y.2 = true := by rcases e with e | e <;> rw [e] <;> rfl
    rw [hk] at this
    simp only [Bool.not_true, Bool.false_or, Bool.or_eq_true, decide_eq_true_eq, Bool.not_eq_true', decide_eq_false_iff_not] at this
    exact this
/-- what promises nothing is kept -/
theorem fn_no {P : Program} {w : World} {K : PySem.W.Frag} {mg : Str → Option Value} {base : Heap} {T : XT} {k : Nat} {f : Addr} {fd : FuncData} {ps : List Str} : FnOk P w K mg base (L2.CX P w) k f fd ps (spNc ⟨K, w, mg⟩ T fun _ _ => .no) :=
  ⟨fun vs H Q E h => by obtain ⟨_, _, _, _, _, z⟩ := h; exact z.elim, fun A outer s H args us vs Q E _ _ _ _ h => by obtain ⟨_, _, _, _, _, z⟩ := h; exact z.elim⟩
end Nc
namespace Nc
open PySem PySem.Spec PyProof.Rows L2
/-! ## an own class of exceptions whose __init__(self) passes -/
section
variable {X : Cx} {pins : List (Addr × Obj)} {σ : L2.St} {H1 : Hp} {Q : XK} {hp hp2 h2 : Heap} {g1 g2 : Array GenState} {d1 d2 : Drawn} {t1 t2 : Nat} {os1 os2 : OsState} {a C : Addr}
theorem mk_pass_end (R : Raises X (.ref C)) (I1 : Inv X pins σ H1 ⟨hp, g1, d1, t1, os1⟩) (ha : hp.objs.size ≤ a) (k : ∀ (b : Addr) (o : Obj), hp.get? b = some o → hp2.get? b = some o)
    (un : Un (frs X.stack) [] (upd H1 a (exo a C none)) (upd H1 a (exo a C none)) hp2 h2) (hok : HOk X.prog X.w (upd H1 a (exo a C none)) h2) (ho : os2 = os1) (hb : AllBare g2) (q : Q (.ref C) none H1) : MkP X pins σ Q (.ref a) ⟨h2, g2, d2, t2, os2⟩ := by
  have hn : H1 a = none := HOk.fresh I1.hok ha
  obtain ⟨t0, hoe⟩ := exo_at hok upd_same
  obtain ⟨G, g1', g2'⟩ := restrict h2 fun b => decide (b ≠ a)
  have gk : ∀ b, b ≠ a → G.get? b = h2.get? b := fun b hb => g1' b (decide_eq_true hb)
  have ge : G.get? a = none := g2' a (by simp)
  have nha : ∀ {b : Addr} {o : Obj}, hp.get? b = some o → b ≠ a := fun z => Nat.ne_of_lt (Nat.lt_of_lt_of_le (Heap.lt_size z) ha)
  have up : ∀ {b : Addr}, b ≠ a → H1 b = none → upd H1 a (exo a C none) b = none := fun hb n => by rw [upd_ne hb]; exact n
  have U : Un (frs X.stack) [] H1 H1 hp G := by
    refine ⟨fun b o z n hf hx => (gk b (nha z)).trans (un.keep b o (k b o z) (up (nha z) n) hf hx), fun b o z n hf hx => ?_, fun b o z n hx => n, fun b o z hx => ?_, fun b xs z => z, fun b o v z => z, fun b ps z => ⟨#[], by simpa using z⟩⟩
    · rw [gk b (nha z)]; exact un.slot b o (k b o z) (up (nha z) n) hf hx
    · rw [gk b (nha z)]; exact un.there b o (k b o z) hx
  have hok3 : HOk X.prog X.w H1 G := fun b o z => by
    have hba : b ≠ a := fun e => by subst e; rw [hn] at z; cases z
    have noa : ∀ {c : Addr}, upd H1 a (exo a C none) c = some (HO.own b) → c ≠ a := fun hc => at_ne upd_same hc exo_own
    refine ObjOk.stay (hok b o (by rw [upd_ne hba]; exact z)) (fun c v hc y => ?_) (fun c hc => ?_) (fun c xs hc => ?_)
    · have hca : c ≠ a := by
        rcases hc with hc | hc
        · rw [hc]; exact hba
        · exact noa hc
      exact (gk c hca).trans y
    · rw [upd_ne (noa hc)] at hc; exact hc
    · rw [upd_ne (at_ne upd_same hc exo_tup)] at hc; exact hc
  have J : Inv X pins σ H1 ⟨G, g2, d2, t2, os2⟩ := I1.call' (s' := ⟨G, g2, d2, t2, os2⟩) ho U hok3 hb fun b z => absurd z (by simp)
  refine ⟨a, _, _, ⟨G, g2, d2, t2, os2⟩, H1, .ref C, none, rfl, J, fun b o z => ?_, ge, hoe, ⟨rfl, rfl⟩, rfl, rfl, hn, rfl, hb, R, q⟩
  by_cases hba : b = a
  · subst hba
    have z : G.get? b = some o := z
    rw [ge] at z; cases z
  · exact (gk b hba).symm.trans z
end
/-- __init__(self): pass -/
def spPass : Sp := fun vs H Q _ => vs.length = 1 ∧ Q .non H
theorem ok_pass {P : Program} {w : World} {K : PySem.W.Frag} {mg : Str → Option Value} {base : Heap} {x qual : Str} {st : Stmt} {f : Addr} {fd : FuncData} {N : List Str} {n : Str} {k : Nat} {pos : Pos} (F : Fun K x qual st f fd) (S : FnScope N [n] (defScope st)) (hb : defBody st = [.Pass pos]) : FnOk P w K mg base (L2.CX P w) (k + 1) f fd [n] spPass := by
  refine F.okX S (fun vs H Q E h => h.1) fun cdv A outer s H vs Q E hr h => ?_
  rw [hb]
  exact ⟨_, pss_one ps_pass, h.2⟩
section
variable {X : Cx} {T : XT} {W : WX}
theorem pmk_pass {p pos : Pos} {x : Str} {C fI : Addr} {k : Nat} {fd : FuncData} {n : Str} (O : OexC X.K C) (iC : PySem.W.findIn X.K (.ref C) "__init__" = some (some (.ref fI))) (tI : PySem.W.typeIn X.K (.ref fI) = some (.type "function")) (F1 : FnOk X.prog X.w X.K X.mg X.base (L2.CX X.prog X.w) k fI fd [n] spPass) (hr : Room (k + 1) X.A) (hb : Binds X.K fd [n] [])
    (hg : Gl X x) (hm : X.mg x = some (.ref C)) (hdb : (x == ("__debug__" : Str)) = false := by decide) : PMk X (.Call (.Name x p) [] [] pos) (fun _ H Q => Q (.ref C) none H) := by
  intro pins s σ H Q I h
  obtain ⟨nm, q, N, bs, bm, sn, sub, ab, col, dd, k0, k1, k2, k3, k5, hC, hbm⟩ := O.cls
  refine wpAny_Call_Name_kw (ld_glob I hg hm ?_ hdb)
  refine PySem.W.callWith_K0 I.kIn O.kC ?_
  obtain ⟨hp, g, dr, tk, os⟩ := s
  have hsz := Nat.le_succ hp.objs.size
  have hn := HOk.fresh I.hok hsz
  have kk : ∀ (b : Addr) (o : Obj), hp.get? b = some o → ((hp.push (PySem.W.kdv_tup [])).push (HandSPX.excO C hp.objs.size)).get? b = some o := fun b o e => Heap.get?_push_of_some (HandSPX.excO C hp.objs.size) (Heap.get?_push_of_some (PySem.W.kdv_tup []) e)
  have hget : ((hp.push (PySem.W.kdv_tup [])).push (HandSPX.excO C hp.objs.size)).get? (hp.objs.size + 1) = some (HandSPX.excO C hp.objs.size) := Heap.get?_push_at (by rw [Heap.size_push]) rfl
  have I2 : Inv X pins σ (upd H (hp.objs.size + 1) (exo (hp.objs.size + 1) C none)) ⟨(hp.push (PySem.W.kdv_tup [])).push (HandSPX.excO C hp.objs.size), g, dr, tk, os⟩ := I.laid (t' := tk) kk hsz (exo_ok hget)
  refine wpAny_call (HandSPX.call_own (rest := []) F.excBase_ValueError (fun Y => HandSPX.refsVE_contains Y bm hbm) (I.kIn C _ hC) (PySem.W.looks_findIn I.kIn iC) (fun self => PySem.W.bind_fn I.kIn self tI) (Nat.zero_le _) ?_)
  refine codeAny_mono (F1.run (X.A.under (.builtin "type.__call__" { pos := [Value.ref C] })) X.stack _ (upd H (hp.objs.size + 1) (exo (hp.objs.size + 1) C none)) { pos := [.ref (hp.objs.size + 1)] } [.ref (hp.objs.size + 1)] [V.ref (hp.objs.size + 1)] (fun v H2 => v = .non ∧ H2 = upd H (hp.objs.size + 1) (exo (hp.objs.size + 1) C none)) (fun _ _ _ => False) (Room.make hr C [] []) (Env0.make I2.env0 C [] []) (hb _ [.ref (hp.objs.size + 1)] I2.kIn rfl) (.cons rfl .nil) ⟨rfl, rfl, rfl⟩) fun r s' hq => ?_
  cases r with
  | error e => 
    obtain ⟨_, _, _, _, _, _, _, _, _, _, _, _, z⟩ := hq
    exact z.elim
  | ok fl =>
    cases fl with
    | ret u =>
      obtain ⟨v, H', e1, e2, e3, e4, e5, e6, e7⟩ := hq
      subst e6; subst e7
      obtain ⟨hp', g', d', t', os'⟩ := s'
      exact ⟨e5, mk_pass_end (raises_own O.exC O.tyC) I hsz kk e3 e4 e1 e2 h⟩
    | next => exact hq.elim
    | brk => exact hq.elim
    | cont => exact hq.elim
/-! raise -/
def gRaise (c : Nat) : DS := fun s h => .ex ⟨c, none⟩ s h
theorem s_raise {e : Expr} {pos : Pos} {C : Addr} (c : Nat) (hT : T.cls c = some (.ref C)) (hF : T.fld c = none) (hc : X.calm = true) (tk : Takes X W) (pm : PMk X e (fun _ H Q => Q (.ref C) none H)) : SS X T W (.Raise (some e) none pos) (gRaise c) :=
  ⟨PS.imp (ps_raise hc tk pm) fun D σ H ⟨ρ, s, h, st, hr, q⟩ => q ρ H σ (.ref C) none (Grow.refl _ _) hr st (by unfold XR; refine ⟨hT, ?_⟩; simp only [hF])⟩
theorem StR.wild {K : KW} {ρ : Rho} {H : Hp} {σ : L2.St} {s : DSt} {i : Nat} {x : Option V} (r : StR K ρ H σ s) : StR K ρ H (σ.set i x) (s.set i none) := by
  refine ⟨by simp [r.len], fun j e h => ?_⟩
  by_cases z : j = i
  · subst z
    rw [List.getElem?_set] at h
    simp only [if_true] at h
    split at h <;> cases h
  · rw [List.getElem?_set_ne (Ne.symm z)] at h
    obtain ⟨u, e1, q1⟩ := r.at_ j e h
    exact ⟨u, by rw [List.getElem?_set_ne (Ne.symm z)]; exact e1, q1⟩
/-! try: .. except C as n: y = ["..", isinstance(n, B)] -/
def gTryIs (c i j : Nat) (txt : Str) (g : DS) : DS := fun s h => match g s h with
  | .ex e s1 h1 => match Nat.beq e.cls c with
    | true => match Nat.ble (i + 1) s1.length with
      | true => .nx (((s1.set i none).set j (some (.cell h1.new))).set i none) (h1.add (.lst [.str txt, .bl true]))
      | false => .no
    | false => .no
  | r => r
def tsIs (K : PySem.W.Frag) (C : Addr) (i j : Nat) (txt : Str) (a : Addr) (cls : Value) (d : Option Addr) : TS := fun D σ H => cls = .ref C ∧ d = none ∧ σ[i]? = some (some (V.ref a)) ∧ ∀ p, H p = none → D.nx (σ.set j (some (.ref p))) (upd H p (.lst [.str txt, .bl true]))
theorem suite_is {a C : Addr} {oe : Obj} {cls : Value} {d : Option Addr} {pn : List (Addr × Obj)} {i j : Nat} {n y x : Str} {txt : Str} {B : String} {py pn' p1 p2 pl pc ps pa : Pos} {ji : Nat} (hz : Zc cls d oe) (hf : ∃ vs, oe.data = .fields vs) (EC : ExcC X.K C) (hk : PySem.W.kitOne X.K (.ref C) (.type B) = some true)
    (hN : X.N.Nodup) (hi : X.N[i]? = some n) (hvn : Vis X.env.scope n) (hdn : (n == ("__debug__" : Str)) = false) (hcn : (n == ("__classdict__" : Str)) = false) (hj : X.N[j]? = some y) (hly : Loc X.env.scope y) (hfy : X.fn y = true ∨ X.env.scope.names.lookup y = some .local)
    (hg : Gl X "isinstance") (hm : X.mg "isinstance" = none) (hgB : Gl X x) (hmB : X.mg x = none) (hvB : bootBuiltins x = some (.type B)) (hnB : x ≠ "__name__") (hdB : (x == ("__debug__" : Str)) = false)
    (hs : swapsWith (.List [.Constant (.str txt) ji ps, .Call (.Name "isinstance" p1) [.Name n pn', .Name x p2] [] pc] pl) (some (.Name y py)) pa.line X.env = pure false)
    (h1 : starEach [.Name n pn', .Name x p2] X.env = (false, eval (.Name n pn') X.env) :: starEach [.Name x p2] X.env) (h2 : starEach [.Name x p2] X.env = (false, eval (.Name x p2) X.env) :: starEach [] X.env) (h3 : (backTo pc (starEach [.Name x p2] X.env)).any (·.1) = false)
    (h4 : starEach [.Constant (.str txt) ji ps, .Call (.Name "isinstance" p1) [.Name n pn', .Name x p2] [] pc] X.env = (false, eval (.Constant (.str txt) ji ps) X.env) :: starEach [.Call (.Name "isinstance" p1) [.Name n pn', .Name x p2] [] pc] X.env)
    (h5 : starEach [.Call (.Name "isinstance" p1) [.Name n pn', .Name x p2] [] pc] X.env = (false, eval (.Call (.Name "isinstance" p1) [.Name n pn', .Name x p2] [] pc) X.env) :: starEach [] X.env) :
    PSs (X.suite a ((a, oe) :: pn)) [.Assign [.Name y py] (.List [.Constant (.str txt) ji ps, .Call (.Name "isinstance" p1) [.Name n pn', .Name x p2] [] pc] pl) pa] (tsIs X.K C i j txt a cls d) := by
  refine ⟨fun pins s σ H Q I q => ?_⟩
  obtain ⟨e1, e2, e3, q⟩ := q
  subst e1; subst e2
  have pi : PE (X.suite a ((a, oe) :: pn)) (.Call (.Name "isinstance" p1) [.Name n pn', .Name x p2] [] pc) (tCB (rIsE X.K C a) (tCons (tVar i) (tCons (tC (.ty B)) tNil))) :=
    pe_callB (call_isE EC hz hf) hg hm PyProof.Rows.boot_isinstance (pa_cons (pe_var hi hvn hdn hcn) (pa_cons (pe_tyName B hgB hmB hvB hnB hdB) pa_nil h2) h1) (by decide) (by decide) h1 h3
  have pl' := pe_lst (pos := pl) (pa_cons (show PE (X.suite a ((a, oe) :: pn)) (.Constant (.str txt) ji ps) (tC (.str txt)) from pe_str) (pa_cons pi pa_nil h5) h4)
  refine (pss_one (ps_set (X := X.suite a ((a, oe) :: pn)) (pos := pa) (pos' := py) hN hj hly pl' hs hfy)).run pins s σ H Q I ?_
  refine ⟨_, e3, .ty B, .type B, true, rfl, fun u hu => hu, hk, (by rw [sizeLine_eq]; show 2 ≤ 16777216; decide), fun p np => q p np⟩
theorem s_tryIs {body : List Stmt} {g : DS} {W' : WX} {C : Addr} {c i j : Nat} {n y x cn : Str} {txt : Str} {B : String} {py pn' p1 p2 pl pc ps pa np pos pos' : Pos} {ji : Nat} (hT : T.cls c = some (.ref C)) (hF : T.fld c = none) (EC : ExcC X.K C) (hk : PySem.W.kitOne X.K (.ref C) (.type B) = some true) (hx : PySem.W.exmOne X.K (.ref C) (.ref C) = some true)
    (hij : i ≠ j) (hst : X.stack = X.env :: X.outer) (hfr : X.env.frame = some X.env.locals) (hkn : X.env.kindOf n = some .local) (hnm : Names X cn (.ref C))
    (hN : X.N.Nodup) (hi : X.N[i]? = some n) (hvn : Vis X.env.scope n) (hdn : (n == ("__debug__" : Str)) = false) (hcn : (n == ("__classdict__" : Str)) = false) (hj : X.N[j]? = some y) (hly : Loc X.env.scope y) (hfy : X.fn y = true ∨ X.env.scope.names.lookup y = some .local)
    (hg : Gl X "isinstance") (hm : X.mg "isinstance" = none) (hgB : Gl X x) (hmB : X.mg x = none) (hvB : bootBuiltins x = some (.type B)) (hnB : x ≠ "__name__") (hdB : (x == ("__debug__" : Str)) = false)
    (hb : ∀ (W : WX) (pn : List (Addr × Obj)) (xe : Value → Shared → Prop), Takes (X.tr pn xe) W → PassesOwn (model X.prog X.w) X.A X.env xe → SSs (X.tr pn xe) T W body g)
    (hs : swapsWith (.List [.Constant (.str txt) ji ps, .Call (.Name "isinstance" p1) [.Name n pn', .Name x p2] [] pc] pl) (some (.Name y py)) pa.line X.env = pure false := by rfl)
    (h1 : starEach [.Name n pn', .Name x p2] X.env = (false, eval (.Name n pn') X.env) :: starEach [.Name x p2] X.env := by rfl) (h2 : starEach [.Name x p2] X.env = (false, eval (.Name x p2) X.env) :: starEach [] X.env := by rfl) (h3 : (backTo pc (starEach [.Name x p2] X.env)).any (·.1) = false := by rfl)
    (h4 : starEach [.Constant (.str txt) ji ps, .Call (.Name "isinstance" p1) [.Name n pn', .Name x p2] [] pc] X.env = (false, eval (.Constant (.str txt) ji ps) X.env) :: starEach [.Call (.Name "isinstance" p1) [.Name n pn', .Name x p2] [] pc] X.env := by rfl)
    (h5 : starEach [.Call (.Name "isinstance" p1) [.Name n pn', .Name x p2] [] pc] X.env = (false, eval (.Call (.Name "isinstance" p1) [.Name n pn', .Name x p2] [] pc) X.env) :: starEach [] X.env := by rfl) :
    SS X T W' (.Try body [.ExceptHandler (some (.Name cn np)) (some n) [.Assign [.Name y py] (.List [.Constant (.str txt) ji ps, .Call (.Name "isinstance" p1) [.Name n pn', .Name x p2] [] pc] pl) pa] pos'] [] [] pos) (gTryIs c i j txt g) := by
  refine ⟨PS.imp (ps_try_as (tb := fun W => tS (kwOf X) T W g) (ts := tsIs X.K C i j txt) (Wout := fun _ _ _ _ => False) hst hfr hN hi hkn hnm takes0 (fun W pn xe tk hp => (hb W pn xe tk hp).p) (fun a oe cls d pn hz hf => suite_is hz hf EC hk hN hi hvn hdn hcn hj hly hfy hg hm hgB hmB hvB hnB hdB hs h1 h2 h3 h4 h5)) fun D σ H ⟨ρ, s, h, st, hr, q⟩ => ⟨ρ, s, h, st, hr, ?_⟩⟩
  unfold gTryIs at q
  cases z : g s h with
  | nx s1 h1 => rw [z] at q; exact q
  | rt d h1 => rw [z] at q; exact q
  | bk s1 h1 => rw [z] at q; exact q
  | ct s1 h1 => rw [z] at q; exact q
  | no => rw [z] at q; exact q
  | ex e s1 h1 =>
    simp only [z] at q
    intro ρ1 H1 σ1 cc dd g1 hr1 st1 xr
    cases ec : Nat.beq e.cls c with
    | false => simp only [ec] at q; exact q.elim
    | true =>
      simp only [ec] at q
      have ec := Nat.eq_of_beq_eq_true ec
      obtain ⟨x1, x2⟩ := xr
      rw [ec, hT] at x1
      cases x1
      rw [ec, hF] at x2
      have ed : dd = none := by
        cases ea : e.arg with
        | none => rw [ea] at x2; exact x2
        | some v => rw [ea] at x2; exact x2.elim
      subst ed
      cases el : Nat.ble (i + 1) s1.length with
      | false => simp only [el] at q; exact q.elim
      | true =>
        simp only [el] at q
        have hl : i < σ1.length := by rw [st1.len]; exact Nat.le_of_ble_eq_true el
        refine ⟨true, hx, fun _ a na => ⟨rfl, rfl, List.getElem?_set_self hl, fun p np => ?_⟩, fun w => by cases w⟩
        have rr : Rps (kwOf X) ρ1 H1 [.str txt, .bl true] [.str txt, .bl true] := Rps.cons (rp_str.mpr rfl) (Rps.cons (rp_bl.mpr rfl) (Rps.nil_iff.mpr rfl))
        have ga := grow_add (o := .lst [.str txt, .bl true]) hr1 np
        exact q _ _ _ (g1.trans hr1.live ga) (hr1.add np rr) (StR.wild (StR.set (StR.wild (st1.grow hr1.live ga)) (rp_cell.mpr ⟨p, rfl, rhoAdd_same⟩)))
end
end Nc
namespace Nc
open PySem PySem.Spec PyProof.Rows L2
/-! list(range(..)) -/
def upD : Nat → Int → List D
  | 0, _ => []
  | n + 1, i => .int i :: upD n (i + 1)
theorem upD_rps {K : KW} {ρ : Rho} {H : Hp} : ∀ (n : Nat) (i : Int), Rps K ρ H (upD n i) ((List.range n).map fun (j : Nat) => V.int (i + (j : Int)))
  | 0, _ => Rps.nil_iff.mpr rfl
  | n + 1, i => by
    rw [List.range_succ_eq_map, List.map_cons, List.map_map]
    refine Rps.cons (rp_int.mpr (by simp)) ?_
    have := upD_rps (K := K) (ρ := ρ) (H := H) n (i + 1)
    have e : (fun (j : Nat) => V.int (i + 1 + (j : Int))) = (fun (j : Nat) => V.int (i + (j : Int))) ∘ Nat.succ := by
      funext j
      show V.int _ = V.int _
      congr 1
      show i + 1 + (j : Int) = i + ((j + 1 : Nat) : Int)
      omega
    rw [← e]; exact this
def smallR (i : Int) : Bool := Nat.ble i.natAbs 1000000
def dLRg (f g : DE) : DE := fun s h => (f s h).bind fun x h1 => (g s h1).bind fun y h2 => withS (intD x) fun i => withS (intD y) fun j => chk (smallR i && smallR j) (mkL (upD (j - i).toNat i) h2)
section
variable {X : Cx} {T : XT} {W : WX} {a b : Expr} {f g : DE} {p p2 pos pos2 : Pos}
theorem se_lrg2 (hc : X.calm = true) (hm : X.mg "list" = none) (hm2 : X.mg "range" = none) (ha : SE X T W a f) (hb : SE X T W b g) (hg : Gl X "list" := by rfl) (hg2 : Gl X "range" := by rfl) (h1 : starEach [a, b] X.env = (false, eval a X.env) :: starEach [b] X.env := by rfl) (h2 : starEach [b] X.env = (false, eval b X.env) :: starEach [] X.env := by rfl) (h3 : (backTo pos2 (starEach [b] X.env)).any (·.1) = false := by rfl)
    (h4 : starEach [.Call (.Name "range" p2) [a, b] [] pos2] X.env = (false, eval (.Call (.Name "range" p2) [a, b] [] pos2) X.env) :: starEach [] X.env := by rfl) : SE X T W (.Call (.Name "list" p) [.Call (.Name "range" p2) [a, b] [] pos2] [] pos) (dLRg f g) :=
  ⟨PE.imp (pe_listRg hc hg hm (prg_2 hg2 hm2 ha.p hb.p h1 h2 h3) h4) fun σ H Q ⟨ρ, s, h, st, hr, q⟩ => tD_bind st hr q fun x h1 ρ1 H1 v g1 hr1 st1 r1 q1 => tD_bind st1 hr1 q1 fun y h2 ρ2 H2 u g2 hr2 st2 r2 q2 => by
    obtain ⟨i, e1, q2⟩ := Post.withS q2
    obtain ⟨j, e2, q2⟩ := q2.withS
    obtain ⟨c, q2⟩ := q2.chk
    rw [Bool.and_eq_true] at c
    have c1 := Nat.le_of_ble_eq_true c.1
    have c2 := Nat.le_of_ble_eq_true c.2
    refine ⟨i, j, intD_ok (Rp.grow hr1.live g2 x r1) e1, intD_ok r2 e2, ⟨by omega, by omega, by omega, by omega, by omega⟩, ?_⟩
    exact (mkL_ok hr2 (upD_rps (j - i).toNat i) q2).2⟩
end
/-! an own class of exceptions at the top -/
def clsInit : Stmt → Stmt
  | .ClassDef _ _ _ body _ _ _ _ _ _ _ => body.getD 0 (.Pass ⟨0, 0, 0, 0⟩)
  | s => s
structure Ex (K : PySem.W.Frag) (mg : Str → Option Value) (x q : Str) (st : Stmt) (B : String) where
  C : Addr
  fI : Addr
  fd : FuncData
  O : OexC K C
  iC : PySem.W.findIn K (.ref C) "__init__" = some (some (.ref fI))
  tI : PySem.W.typeIn K (.ref fI) = some (.type "function")
  F : Fun K "__init__" q (clsInit st) fI fd
  bi : Binds K fd ["self"] []
  gl : mg x = some (.ref C)
  EC : ExcC K C
  kit : PySem.W.kitOne K (.ref C) (.type B) = some true
  ex : PySem.W.exmOne K (.ref C) (.ref C) = some true
end Nc
namespace Nc
open PySem PySem.Spec PySem.W PyProof.Rows L2
def memK (k : NestedKey) : List NestedKey → Bool
  | [] => false
  | x :: r => match NestedKey.beq x k with
    | true => true
    | false => memK k r
end Nc
namespace Nc
open PySem PySem.Spec PySem.W PyProof.Rows L2
/-! ## keys without texts: their hash is their value's, their == is seen by nobody -/
mutual
def plainK : NestedKey → Bool
  | .none => true
  | .num _ => true
  | .text _ => false
  | .tup ks => plainKs ks
def plainKs : List NestedKey → Bool
  | [] => true
  | k :: r => plainK k && plainKs r
end
theorem depth_tup (ks : List NestedKey) : NestedKey.depth (.tup ks) = NestedKey.depthAll ks + 1 := by simp [NestedKey.depth]
theorem depth_cons (k : NestedKey) (r : List NestedKey) : NestedKey.depthAll (k :: r) = max k.depth (NestedKey.depthAll r) := by simp [NestedKey.depthAll]
variable {P : Program} {w : World} {A : Around} {E : Value → Shared → Prop} {s : Shared}
/-- what is asked of each item of a tuple of keys -/
def Items (s : Shared) (n : Nat) (vs : List Value) : Prop := ∀ v ∈ vs, ∃ k, NestedIs s.heap k v ∧ plainK k = true ∧ k.depth ≤ n
theorem items_of {n : Nat} : ∀ {ks : List NestedKey} {vs : List Value}, NestedAll s.heap ks vs → plainKs ks = true → NestedKey.depthAll ks ≤ n → Items s n vs
  | _, _, .nil, _, _, v, hv => by cases hv
  | _, _, .cons r t, hp, hd, v, hv => by
    unfold plainKs at hp
    rw [Bool.and_eq_true] at hp
    rw [depth_cons] at hd
    rcases List.mem_cons.mp hv with z | z
    · subst z; exact ⟨_, r, hp.1, by omega⟩
    · exact items_of t hp.2 (by omega) v z
theorem hashBy_nest : ∀ (n : Nat) (k : NestedKey) (v : Value) {Q : Bool → Shared → Prop}, NestedIs s.heap k v → plainK k = true → k.depth ≤ n → Q true s → wpAny (model P w) A (hashByValue n v) Q E s
  | n, _, _, Q, .none, _, _, h => by rw [hashByValue.eq_def]; exact wpAny_pure h
  | n, _, _, Q, .bool _, _, _, h => by rw [hashByValue.eq_def]; exact wpAny_pure h
  | n, _, _, Q, .int _ _, _, _, h => by rw [hashByValue.eq_def]; exact wpAny_pure h
  | n, _, _, Q, .text _ _, hp, _, h => by cases hp
  | 0, _, _, Q, .tup _ _ _ _, _, hd, h => by rw [depth_tup] at hd; omega
  | n + 1, _, _, Q, .tup (ks := ks) ho hc hd hall, hp, hdp, h => by
    rw [depth_tup] at hdp
    have hit := items_of hall hp (by omega : NestedKey.depthAll ks ≤ n)
    rw [hashByValue.eq_def]
    refine wpAny_bind (wpAny_specialOf ⟨_, ho, hc⟩ F.slot_tuple_hash.lookup ?_)
    refine wpAny_bind (wpAny_seqItems ho hd (wpAny_bind ?_))
    simp only [Option.getD_some]
    rw [← Array.forIn_toList]
    refine wpAny_forIn_list _ (fun rest r s' => r.fst = none ∧ s' = s ∧ Items s n rest) _ (fun v rest r s' hI => ?_) (fun r s' hI => ?_) _ _ ⟨rfl, rfl, hit⟩
    · obtain ⟨hr, e, hall⟩ := hI
      rw [e]
      obtain ⟨k', q1, q2, q3⟩ := hall v List.mem_cons_self
      refine wpAny_bind (hashBy_nest n k' v q1 q2 q3 ?_)
      rw [if_neg (by simp)]
      exact wpAny_pure ⟨rfl, rfl, fun u hu => hall u (List.mem_cons_of_mem _ hu)⟩
    · obtain ⟨hr, rfl, _⟩ := hI
      simp only [hr]
      exact wpAny_pure h
theorem noClass_nest : ∀ (n : Nat) (k : NestedKey) (v : Value) {Q : Bool → Shared → Prop}, NestedIs s.heap k v → plainK k = true → k.depth ≤ n → Q false s → wpAny (model P w) A (ofAClassStatement n v) Q E s
  | n, _, _, Q, .none, _, _, h => by rw [ofAClassStatement.eq_def]; exact wpAny_pure h
  | n, _, _, Q, .bool _, _, _, h => by rw [ofAClassStatement.eq_def]; exact wpAny_pure h
  | n, _, _, Q, .int _ _, _, _, h => by rw [ofAClassStatement.eq_def]; exact wpAny_pure h
  | n, _, _, Q, .text _ _, hp, _, h => by cases hp
  | 0, _, _, Q, .tup _ _ _ _, _, hd, h => by rw [depth_tup] at hd; omega
  | n + 1, _, _, Q, .tup (ks := ks) ho hc hd hall, hp, hdp, h => by
    rw [depth_tup] at hdp
    have hit := items_of hall hp (by omega : NestedKey.depthAll ks ≤ n)
    rw [ofAClassStatement.eq_def]
    refine wpAny_bind (wpAny_typeOf ⟨_, ho, hc⟩ ?_)
    simp only []
    rw [if_pos (by decide)]
    refine wpAny_bind (wpAny_pure ?_)
    rw [if_neg (by simp)]
    refine wpAny_bind (wpAny_seqItems ho hd ?_)
    simp only []
    refine wpAny_bind ?_
    rw [← Array.forIn_toList]
    refine wpAny_forIn_list _ (fun rest r s' => r.fst = none ∧ s' = s ∧ Items s n rest) _ (fun v rest r s' hI => ?_) (fun r s' hI => ?_) _ _ ⟨rfl, rfl, hit⟩
    · obtain ⟨hr, e, hall⟩ := hI
      rw [e]
      obtain ⟨k', q1, q2, q3⟩ := hall v List.mem_cons_self
      refine wpAny_bind (noClass_nest n k' v q1 q2 q3 ?_)
      rw [if_neg (by simp)]
      exact wpAny_pure ⟨rfl, rfl, fun u hu => hall u (List.mem_cons_of_mem _ hu)⟩
    · obtain ⟨hr, rfl, _⟩ := hI
      simp only [hr]
      exact wpAny_pure h
/-- a key of a set, at its place -/
structure KeyAt (h : Heap) (k : NestedKey) (b : Addr) : Prop where
  is : NestedIs h k (.ref b)
  dep : k.depth ≤ 8
  pl : plainK k = true
theorem KeyAt.quiet {k : NestedKey} {b : Addr} {Q : Bool → Shared → Prop} (K : KeyAt s.heap k b) (h : Q true s) : wpAny (model P w) A (eqIsQuiet 8 (.ref b)) Q E s := (nestedKind P w).quiet ⟨K.is, K.dep⟩ h
theorem seen_nest {k : NestedKey} {b : Addr} {Q : Bool → Shared → Prop} (K : KeyAt s.heap k b) {ys : List Value} (hy : ∀ y ∈ ys, ∃ k' c, y = Value.ref c ∧ KeyAt s.heap k' c) (h : Q false s) : wpAny (model P w) A (searchCouldBeSeen (.ref b) ys) Q E s := by
  unfold searchCouldBeSeen
  refine wpAny_bind (wpAny_forIn_list _ (fun rest r s' => r.fst = none ∧ s' = s ∧ ∀ y ∈ rest, ∃ k' c, y = Value.ref c ∧ KeyAt s.heap k' c) _ (fun v rest r s' hI => ?_) (fun r s' hI => ?_) _ _ ⟨rfl, rfl, hy⟩)
  · obtain ⟨hr, e, hall⟩ := hI
    rw [e]
    obtain ⟨k', c, rfl, K'⟩ := hall v List.mem_cons_self
    have go : ∀ u ∈ rest, ∃ k' c, u = Value.ref c ∧ KeyAt s.heap k' c := fun u hu => hall u (List.mem_cons_of_mem _ hu)
    simp only []
    split
    · exact wpAny_pure ⟨rfl, rfl, go⟩
    · refine wpAny_bind (K.quiet ?_)
      rw [if_neg (by simp)]
      refine wpAny_bind (K'.quiet ?_)
      rw [if_neg (by simp)]
      refine wpAny_bind (noClass_nest 8 k _ K.is K.pl K.dep ?_)
      rw [if_neg (by simp)]
      refine wpAny_bind (noClass_nest 8 k' _ K'.is K'.pl K'.dep ?_)
      rw [if_neg (by simp)]
      exact wpAny_pure ⟨rfl, rfl, go⟩
  · obtain ⟨hr, e, _⟩ := hI
    rw [e]
    simp only [hr]
    exact wpAny_pure h
mutual
theorem nest_keep {h h' : Heap} (kp : ∀ (b : Addr) (o : Obj), h.get? b = some o → o.cls = .type "tuple" → h'.get? b = some o) : ∀ (k : NestedKey) {v : Value}, NestedIs h k v → NestedIs h' k v
  | .none, _, .none => .none
  | .num _, _, .bool e => .bool e
  | .num _, _, .int i t => .int i t
  | .text _, _, .text x t => .text x t
  | .tup ks, _, .tup ho hc hd hall => .tup (kp _ _ ho hc) hc hd (nest_keeps kp ks hall)
theorem nest_keeps {h h' : Heap} (kp : ∀ (b : Addr) (o : Obj), h.get? b = some o → o.cls = .type "tuple" → h'.get? b = some o) : ∀ (ks : List NestedKey) {vs : List Value}, NestedAll h ks vs → NestedAll h' ks vs
  | [], _, .nil => .nil
  | k :: ks, _, .cons r t => .cons (nest_keep kp k r) (nest_keeps kp ks t)
end
theorem KeyAt.keep {h h' : Heap} {k : NestedKey} {b : Addr} (K : KeyAt h k b) (kp : ∀ (c : Addr) (o : Obj), h.get? c = some o → h'.get? c = some o) : KeyAt h' k b := ⟨nest_keep (fun c o e _ => kp c o e) k K.is, K.dep, K.pl⟩
theorem KeyAt.same {h h' : Heap} {k : NestedKey} {a b : Addr} {o : Obj} (K : KeyAt h k b) (ho : h.get? a = some o) (hx : o.ExactSet) (hs : Heap.SameBut a h h') : KeyAt h' k b :=
  ⟨nest_keep (fun c oc e ec => by
    have : c ≠ a := fun z => by
      subst z
      rw [ho] at e; cases e
      rw [hx.1] at ec
      exact absurd (Value.type.inj ec) (by decide)
    exact (hs.2 c this).trans e) k K.is, K.dep, K.pl⟩
end Nc
namespace Nc
open PySem PySem.Spec PySem.W PyProof.Rows L2
/-! ## a set of keys, as it lies in its table -/
def rowsN (w : World) (L : List (Addr × NestedKey)) : List (Int × Value) := L.map fun p => (NestedKey.hash w p.2, Value.ref p.1)
structure TabN (w : World) (h : Heap) (a : Addr) (L : List (Addr × NestedKey)) (es : Array (Int × Value)) (ep : Nat) (t : SetTable) : Prop where
  ob : ∃ o, h.get? a = some o ∧ o.ExactSet ∧ o.data = Data.set es ep t
  rows : es.toList = rowsN w L
  tab : TabOk t (L.map fun p => NestedKey.hash w p.2)
  nd : (L.map (·.2)).Nodup
  keys : ∀ p ∈ L, KeyAt h p.2 p.1
  plain : t.plain = true
  led : w.params.followText "set-order" = true ∨ t.led = true
  room : L.length * 5 < t.mask * 3
  few : L.length < 64
section
variable {P : Program} {w : World} {A : Around} {E : Value → Shared → Prop} {s : Shared} {a : Addr} {L : List (Addr × NestedKey)} {es : Array (Int × Value)} {ep : Nat} {t : SetTable}
theorem TabN.size {h : Heap} (R : TabN w h a L es ep t) : es.size = L.length := by
  have := congrArg List.length R.rows
  simpa [rowsN] using this
theorem TabN.fits {h : Heap} (R : TabN w h a L es ep t) : t.fits es.size = true := by
  have h1 := R.size
  have h2 := R.tab.sz
  have h3 := R.tab.dm
  have h4 := R.room
  show (t.place.size == es.size && decide (t.place.size + t.dummies.size ≤ t.mask)) = true
  rw [h3, Bool.and_eq_true, beq_iff_eq, decide_eq_true_eq]
  rw [List.length_map] at h2
  have : (#[] : Array Nat).size = 0 := rfl
  omega
theorem TabN.gw {h : Heap} (R : TabN w h a L es ep t) : ¬t.gaveWay = true := by
  have m := mask_odd R.tab.mok
  show ¬(t.mask % 2 == 0) = true
  rw [m]; decide
theorem TabN.entry {h : Heap} (R : TabN w h a L es ep t) {i : Nat} {p : Addr × NestedKey} (e : L[i]? = some p) : es[i]? = some (NestedKey.hash w p.2, Value.ref p.1) := by
  rw [← Array.getElem?_toList, R.rows]
  unfold rowsN
  rw [List.getElem?_map, e]; rfl
theorem TabN.mem {h : Heap} (R : TabN w h a L es ep t) {v : Value} (hv : v ∈ es.toList.map (·.2)) : ∃ k c, v = Value.ref c ∧ KeyAt h k c := by
  rw [R.rows] at hv
  unfold rowsN at hv
  rw [List.map_map] at hv
  obtain ⟨p, hp, e⟩ := List.mem_map.mp hv
  exact ⟨p.2, p.1, e.symm, R.keys p hp⟩
/-- a look along the table, from its c-th place on -/
theorem look_from (R : TabN w s.heap a L es ep t) {x : Addr} {k : NestedKey} (hx : KeyAt s.heap k x) (hu : A.units + 8 < cLine) {K : Nat} (hKf : K < 10 * SetTable.turns t.mask) (hK : ¬ way t.mask (NestedKey.hash w k) K ∈ t.place.toList) (hKb : ∀ c, c < K → way t.mask (NestedKey.hash w k) c ∈ t.place.toList)
    {Q : SetFound → Shared → Prop} (hin : k ∈ L.map (·.2) → Q (.there none) s) (hout : ¬ k ∈ L.map (·.2) → Q (.free (way t.mask (NestedKey.hash w k) K) false) s) :
    ∀ (f c : Nat) (stand : Option SetTable.Probe), stand.getD (t.probeStart (NestedKey.hash w k)) = nth t.mask (runAt t.mask (SetTable.bits (NestedKey.hash w k) % (t.mask + 1)) (SetTable.bits (NestedKey.hash w k))) c → c ≤ K → K - c < f →
      (∀ (i : Nat) (p : Addr × NestedKey), L[i]? = some p → p.2 = k → ∃ c', c ≤ c' ∧ c' < K ∧ t.place.toList[i]? = some (way t.mask (NestedKey.hash w k) c')) → wpAny (model P w) A (setSearchFrom a (.ref x) (NestedKey.hash w k) true f stand) Q E s
  | 0, c, stand, _, _, hf, _ => absurd hf (Nat.not_lt_zero _)
  | f + 1, c, stand, hst, hc, hf, hre => by
    obtain ⟨o, ho, hex, hd⟩ := R.ob
    rw [setSearchFrom_succ]
    refine wpAny_bind (wpAny_setState_of ho hd R.fits ?_)
    simp only []
    refine wp_if_neg R.gw (wpAny_bind (wpAny_pure ?_))
    generalize eB : runAt t.mask (SetTable.bits (NestedKey.hash w k) % (t.mask + 1)) (SetTable.bits (NestedKey.hash w k)) = B at hst
    have hw : ∀ q, way t.mask (NestedKey.hash w k) q = (nth t.mask B q).j := fun q => by rw [← eB]
    have hnd : ∀ (n : Nat) (p : SetTable.Probe), p.dummy = none → (nth t.mask p n).dummy = none := by
      intro n
      induction n with
      | zero => exact fun p h => h
      | succ n ih =>
        intro p h
        refine ih (adv t.mask p) ?_
        unfold adv
        split <;> exact h
    have hB : B.dummy = none := by rw [← eB]; rfl
    have sh : ∀ q, nth t.mask (nth t.mask B c) q = nth t.mask B (c + q) := fun q => (nth_add t.mask c B q).symm
    have hashAt : ∀ (i : Nat) (p : Addr × NestedKey), L[i]? = some p → (Option.map (fun x : Int × Value => x.1) es[i]?).getD 0 = NestedKey.hash w p.2 := fun i p hp => by rw [R.entry hp]; rfl
    have spec := go_spec t R.tab.ris R.tab.dm (fun i => (Option.map (fun x : Int × Value => x.1) es[i]?).getD 0) (NestedKey.hash w k) (10 * SetTable.turns t.mask) (K - c) (nth t.mask B c) (hnd c B hB) (by omega)
      (fun q hq => by rw [sh, ← hw]; exact hKb _ (by omega)) (by rw [sh, ← hw, show c + (K - c) = K by omega]; exact hK)
    rcases spec with ⟨q, i, hq, hi, hh, hno, hpr⟩ | ⟨hno, hpr⟩
    · rw [hst]
      have hpr' : t.probe (fun i => (Option.map (fun x : Int × Value => x.1) es[i]?).getD 0) (NestedKey.hash w k) (nth t.mask B c) = some (SetTable.Met.candidate (nth t.mask B (c + q)).j i (nth t.mask B (c + (q + 1)))) := by
        rw [← sh, ← sh]; exact hpr
      rw [hpr']
      simp only []
      rw [sh] at hi
      have hil : i < L.length := by
        have h1 := (List.getElem?_eq_some_iff.mp hi).1
        have h2 := R.tab.sz
        rw [List.length_map] at h2
        rw [Array.length_toList] at h1
        omega
      have hp := List.getElem?_eq_getElem hil
      have hmem := List.mem_of_getElem? hp
      have rest : wpAny (model P w) A (searchRest a (.ref x) (NestedKey.hash w k) true f es t (nth t.mask B (c + q)).j i (nth t.mask B (c + (q + 1)))) Q E s := by
        unfold searchRest
        rw [R.entry hp]
        simp only []
        refine wpAny_bind (wpAny_holding ?_)
        refine (nestedKind P w).eqBool (A := A) (show A.units + 8 < cLine from hu) ⟨(R.keys _ hmem).is, (R.keys _ hmem).dep⟩ ⟨hx.is, hx.dep⟩ ?_
        refine wpAny_bind (wpAny_setState_of ho hd R.fits ?_)
        simp only []
        by_cases hkk : L[i].2 = k
        · rw [if_pos (by simp [hkk])]
          exact wpAny_pure (hin (List.mem_map.mpr ⟨L[i], hmem, hkk⟩))
        · rw [if_neg (by simp [hkk]), sameMem]
          simp only [if_true]
          rw [slot_live R.tab.ris hi]
          simp only []
          rw [R.entry hp]
          simp only []
          refine wpAny_bind (wpAny_isSame_ref_self (wpAny_bind (wpAny_pure ?_)))
          simp only [if_true]
          rw [if_neg (by simp [hkk])]
          refine look_from R hx hu hKf hK hKb hin hout f (c + (q + 1)) _ (by rw [eB]; rfl) (by omega) (by omega) fun i' p' hp' hk' => ?_
          obtain ⟨c', c1, c2, c3⟩ := hre i' p' hp' hk'
          refine ⟨c', ?_, c2, c3⟩
          rcases Nat.lt_or_ge c' (c + (q + 1)) with z | z
          · exfalso
            rcases Nat.lt_or_ge c' (c + q) with z2 | z2
            · refine hno (c' - c) i' (by omega) ?_ ?_
              · rw [sh, show c + (c' - c) = c' by omega, ← hw]; exact c3
              · rw [hashAt i' p' hp', hk']
            · have ec : c' = c + q := by omega
              rw [ec, hw] at c3
              have : i' = i := by
                have z1 := slot_live R.tab.ris hi
                rw [slot_live R.tab.ris c3] at z1
                cases z1; rfl
              subst this
              rw [hp] at hp'
              cases hp'
              exact hkk hk'
          · exact z
      split
      · refine wpAny_bind (seen_nest hx (fun y hy => R.mem ?_) ?_)
        · obtain ⟨e, he, rfl⟩ := List.mem_map.mp hy
          rw [Array.toList_filter] at he
          exact List.mem_map.mpr ⟨e, (List.mem_filter.mp he).1, rfl⟩
        · rw [if_neg (by decide)]
          exact rest
      · exact rest
    · rw [hst]
      have hpr' : t.probe (fun i => (Option.map (fun x : Int × Value => x.1) es[i]?).getD 0) (NestedKey.hash w k) (nth t.mask B c) = some (SetTable.Met.empty (nth t.mask B K).j none) := by
        have := hpr
        rw [sh, show c + (K - c) = K by omega] at this
        exact this
      rw [hpr']
      simp only []
      refine wpAny_pure ?_
      rw [← hw]
      refine hout fun hm => ?_
      obtain ⟨p, hp, hk⟩ := List.mem_map.mp hm
      obtain ⟨i, hi⟩ := List.getElem?_of_mem hp
      obtain ⟨c', c1, c2, c3⟩ := hre i p hi hk
      refine hno (c' - c) i (by omega) ?_ ?_
      · rw [sh, show c + (c' - c) = c' by omega, ← hw]; exact c3
      · rw [hashAt i p hi, hk]
theorem look_at (R : TabN w s.heap a L es ep t) {x : Addr} {k : NestedKey} (hx : KeyAt s.heap k x) (hu : A.units + 8 < cLine) {Q : SetFound → Shared → Prop} (hin : k ∈ L.map (·.2) → Q (.there none) s)
    (hout : ∀ K : Nat, ¬ k ∈ L.map (·.2) → ¬ way t.mask (NestedKey.hash w k) K ∈ t.place.toList → (∀ c, c < K → way t.mask (NestedKey.hash w k) c ∈ t.place.toList) → Q (.free (way t.mask (NestedKey.hash w k) K) false) s) : wpAny (model P w) A (setSearch a (.ref x) (NestedKey.hash w k) true) Q E s := by
  have hroom := R.room
  obtain ⟨K, hKf, hK, hKb⟩ := R.tab.first (by rw [List.length_map]; omega) (NestedKey.hash w k)
  have hbig : K < 100000 := by
    have : 10 * SetTable.turns t.mask ≤ 100000 := by
      rcases R.tab.mok with e | e | e <;> rw [e] <;> decide
    omega
  refine look_from R hx hu hKf hK hKb hin (fun hn => hout K hn hK hKb) 100000 0 none rfl (Nat.zero_le K) (by omega) fun i p hp hk => ?_
  have hi : (L.map fun p => NestedKey.hash w p.2)[i]? = some (NestedKey.hash w k) := by rw [List.getElem?_map, hp, ← hk]; rfl
  have hil : i < t.place.toList.length := by
    have h1 := (List.getElem?_eq_some_iff.mp hp).1
    have h2 := R.tab.sz
    rw [List.length_map] at h2
    rw [Array.length_toList]; omega
  have hj := List.getElem?_eq_getElem hil
  obtain ⟨c, hc, e⟩ := R.tab.before hK hi hj
  exact ⟨c, Nat.zero_le c, hc, by rw [hj, ← e]⟩
theorem rowsN_put (L : List (Addr × NestedKey)) (p : Nat) (x : Addr) (k : NestedKey) : rowsN w (L.take p ++ (x, k) :: L.drop p) = (rowsN w L).take p ++ (NestedKey.hash w k, Value.ref x) :: (rowsN w L).drop p := by
  unfold rowsN
  rw [List.map_append, List.map_cons, List.map_take, List.map_drop]
end
end Nc
namespace Nc
open PySem PySem.Spec PySem.W PyProof.Rows L2
section
variable {P : Program} {w : World} {A : Around} {E : Value → Shared → Prop} {s : Shared} {a : Addr} {L : List (Addr × NestedKey)} {es : Array (Int × Value)} {ep : Nat} {t : SetTable}
theorem range_pick {α : Type} (l : List α) : (List.range l.length).filterMap (fun i => l[i]?) = l := by
  induction l with
  | nil => rfl
  | cons x r ih =>
    rw [List.length_cons, List.range_succ_eq_map, List.filterMap_cons]
    simp only [List.getElem?_cons_zero]
    rw [List.filterMap_map]
    congr 1
theorem pick_all {α β : Type} (l : List α) (g : α → β) (d : β) : ∀ order : List Nat, (∀ i ∈ order, i < l.length) → (order.filterMap fun i => l[i]?).map g = order.map fun i => ((l[i]?).map g).getD d
  | [], _ => rfl
  | i :: r, h => by
    have hi := h i List.mem_cons_self
    rw [List.filterMap_cons, List.getElem?_eq_getElem hi]
    simp only [List.map_cons]
    rw [pick_all l g d r fun j hj => h j (List.mem_cons_of_mem _ hj), List.getElem?_eq_getElem hi]
    rfl
theorem order_rowsN (L : List (Addr × NestedKey)) (es : Array (Int × Value)) (order : Array Nat) (hr : es.toList = rowsN w L) (hp : order.toList.Perm (List.range L.length)) :
    ∃ L2, (order.filterMap fun x => es[x]?).toList = rowsN w L2 ∧ L2.Perm L ∧ (L2.map fun p => NestedKey.hash w p.2) = order.toList.map fun i => (es.map fun x => x.1).getD i 0 := by
  have lt : ∀ i ∈ order.toList, i < L.length := fun i hi => List.mem_range.mp (hp.mem_iff.mp hi)
  have ent : ∀ i, es[i]? = (L[i]?).map (fun p : Addr × NestedKey => (NestedKey.hash w p.2, Value.ref p.1)) := fun i => by
    rw [← Array.getElem?_toList, hr]
    unfold rowsN
    rw [List.getElem?_map]
  refine ⟨order.toList.filterMap fun i => L[i]?, ?_, ?_, ?_⟩
  · rw [Array.toList_filterMap]
    unfold rowsN
    rw [List.map_filterMap]
    congr 1
    funext i
    exact ent i
  · have := hp.filterMap fun i => L[i]?
    rw [range_pick] at this
    exact this
  · rw [pick_all L (fun p => NestedKey.hash w p.2) 0 _ lt]
    apply List.map_congr_left
    intro i hi
    rw [Array.getD_eq_getD_getElem?, Array.getElem?_map, ent i, Option.map_map]
    rfl
theorem relayN {o : Obj} (ho : s.heap.get? a = some o) (hex : o.ExactSet) (hd : o.data = Data.set es ep t) (hrows : es.toList = rowsN w L) (hsz : t.place.size = es.size) (hdm : t.dummies = #[]) (hfl : es.size ≤ t.mask) (nd : (L.map (·.2)).Nodup) (keys : ∀ p ∈ L, KeyAt s.heap p.2 p.1) (pl : t.plain = true)
    (ld : w.params.followText "set-order" = true ∨ t.led = true) (few : L.length < 64) {wanted M : Nat} (hw : SetTable.sizeAbove wanted - 1 = M) (hM : MaskOk M) (hw2 : SetTable.sizeAbove wanted ≤ 128) (hn : L.length * 5 < M * 3) {Q : Unit → Shared → Prop}
    (hQ : ∀ (h' : Heap) (L' : List (Addr × NestedKey)) (es' : Array (Int × Value)) (ep' : Nat) (t' : SetTable), Heap.SameBut a s.heap h' → TabN w h' a L' es' ep' t' → L'.Perm L → Q () { heap := h', gens := s.gens, drawn := s.drawn, toks := s.toks, os := s.os }) :
    wpAny (model P w) A (setRelay a wanted) Q E s := by
  have hsl : es.size = L.length := by
    have := congrArg List.length hrows
    simpa [rowsN] using this
  have hfits : t.fits es.size = true := by
    show (t.place.size == es.size && decide (t.place.size + t.dummies.size ≤ t.mask)) = true
    rw [hdm, Bool.and_eq_true, beq_iff_eq, decide_eq_true_eq]
    have : (#[] : Array Nat).size = 0 := rfl
    omega
  have hmap : (es.map fun x => x.1).size = es.size := Array.size_map ..
  obtain ⟨t', order, e, hp, T, em, el, epl, ed⟩ := relaid_ok t (hs := es.map fun x => x.1) hw hM (by rw [hmap]; omega)
  rw [hmap, hsl] at hp
  obtain ⟨L2, r1, r2, r3⟩ := order_rowsN L es order hrows hp
  have hs2 : (order.filterMap fun x => es[x]?).size = es.size := by
    have := congrArg List.length r1
    rw [Array.length_toList] at this
    rw [this, hsl, ← r2.length_eq]
    simp [rowsN]
  rw [setRelay_eq]
  refine wpAny_bind (wpAny_setState_of ho hd hfits ?_)
  simp only []
  refine wp_if_neg (by
    have := sizeLine_eq
    omega) ?_
  rw [e]
  simp only []
  refine wpAny_bind (wp_if_neg (by rw [hs2]; simp) (wpAny_pure ?_))
  have sb := Heap.SameBut.update s.heap a (Obj.putSet (order.filterMap fun x => es[x]?) t')
  refine wpAny_storeSet_of ho hd ?_ ?_
  · refine hQ _ L2 (order.filterMap fun x => es[x]?) (ep + 1) t' sb ⟨⟨_, store_at ho hd, ⟨hex.1, hex.2.1, hex.2.2⟩, rfl⟩, r1, by rw [r3]; exact T, (r2.map (·.2)).nodup_iff.mpr nd, fun p hpm => (keys p (r2.mem_iff.mp hpm)).same ho hex sb, by rw [epl]; exact pl, by rw [el]; exact ld, by rw [r2.length_eq, em]; exact hn, by rw [r2.length_eq]; exact few⟩ r2
  · rw [hs2]
    have := sizeLine_eq
    omega
end
end Nc
namespace Nc
open PySem PySem.Spec PySem.W PyProof.Rows L2
section
variable {P : Program} {w : World} {A : Around} {E : Value → Shared → Prop} {s : Shared} {a : Addr} {L : List (Addr × NestedKey)} {es : Array (Int × Value)} {ep : Nat} {t : SetTable}
theorem addN (R : TabN w s.heap a L es ep t) {x : Addr} {k : NestedKey} (hx : KeyAt s.heap k x) (hu : A.units + 8 < cLine) (hfew : L.length + 1 < 64) {Q : Bool → Shared → Prop}
    (hQ : ∀ (b : Bool) (h' : Heap) (L' : List (Addr × NestedKey)) (es' : Array (Int × Value)) (ep' : Nat) (t' : SetTable), Heap.SameBut a s.heap h' → TabN w h' a L' es' ep' t' → (k ∈ L.map (·.2) → L' = L) → (¬ k ∈ L.map (·.2) → L'.Perm ((x, k) :: L)) → Q b { heap := h', gens := s.gens, drawn := s.drawn, toks := s.toks, os := s.os }) :
    wpAny (model P w) A (setAddHashed a (.ref x) (NestedKey.hash w k)) Q E s := by
  obtain ⟨o, ho, hex, hd⟩ := R.ob
  have hsl := R.size
  have hroom := R.room
  unfold setAddHashed
  refine wpAny_holding ?_
  show wpAny (model P w) A (setAddHashedIn a (.ref x) (NestedKey.hash w k) (99999 + 1)) Q E s
  rw [setAddHashedIn_succ]
  refine wpAny_bind (wpAny_setState_of ho hd R.fits ?_)
  simp only []
  refine wp_if_neg (by simp [byScan, Value.scannable]) ?_
  refine wpAny_bind (look_at R hx hu (fun hm => ?_) fun K hm hK hb => ?_)
  · simp only []
    exact wpAny_pure (hQ false s.heap L es ep t (Heap.SameBut.refl a s.heap) R (fun _ => rfl) fun z => absurd hm z)
  · simp only []
    refine wpAny_bind (wpAny_setState_of ho hd R.fits ?_)
    simp only []
    obtain ⟨q1, q2, q3, q4, q5, q6, q7, q8, q9⟩ := R.tab.put hK hb
    rw [R.plain] at q6
    generalize ept : t.put (way t.mask (NestedKey.hash w k) K) = tp at q1 q3 q4 q5 q6 q7 q8 q9 ⊢
    obtain ⟨t1, p⟩ := tp
    simp only [] at q1 q3 q4 q5 q6 q7 q8 q9 ⊢
    subst q1
    rw [if_pos q6]
    refine wpAny_bind (hashBy_nest 8 k _ hx.is hx.pl hx.dep ?_)
    simp only [if_true]
    generalize SetTable.below t.place (way t.mask (NestedKey.hash w k) K) = p at q2 q3 ⊢
    have hin : (SetTable.insertAt es p (NestedKey.hash w k, Value.ref x)).toList = rowsN w (L.take p ++ (x, k) :: L.drop p) := by
      rw [SetTable.toList_insertAt, R.rows, rowsN_put]
    have pm := put_perm L p (x, k)
    have hlen := pm.length_eq
    rw [List.length_cons] at hlen
    have hhs : ((L.take p ++ (x, k) :: L.drop p).map fun p => NestedKey.hash w p.2) = (L.map fun p => NestedKey.hash w p.2).take p ++ NestedKey.hash w k :: (L.map fun p => NestedKey.hash w p.2).drop p := by
      rw [List.map_append, List.map_cons, List.map_take, List.map_drop]
    have hsz : (SetTable.insertAt es p (NestedKey.hash w k, Value.ref x)).size = L.length + 1 := by
      have := congrArg List.length hin
      rw [Array.length_toList] at this
      rw [this]
      unfold rowsN
      rw [List.length_map, hlen]
    have nd' : ((L.take p ++ (x, k) :: L.drop p).map (·.2)).Nodup := by
      rw [(pm.map (·.2)).nodup_iff, List.map_cons, List.nodup_cons]
      exact ⟨hm, R.nd⟩
    have keys' : ∀ q ∈ L.take p ++ (x, k) :: L.drop p, KeyAt s.heap q.2 q.1 := fun q hq => by
      rcases List.mem_cons.mp (pm.mem_iff.mp hq) with z | z
      · subst z; exact hx
      · exact R.keys q z
    rw [List.length_map] at q9
    have ho1 := store_at (es' := SetTable.insertAt es p (NestedKey.hash w k, Value.ref x)) (t' := t1) ho hd
    have sb := Heap.SameBut.update s.heap a (Obj.putSet (SetTable.insertAt es p (NestedKey.hash w k, Value.ref x)) t1)
    have hf := q3.sz
    have hdm := q3.dm
    rw [← hhs, List.length_map, hlen] at hf
    refine wpAny_bind (wpAny_storeSet_of ho hd ?_ (by
      rw [hsz]
      have := sizeLine_eq
      omega))
    have T1 : TabOk t1 ((L.take p ++ (x, k) :: L.drop p).map fun p => NestedKey.hash w p.2) := by rw [hhs]; exact q3
    by_cases tf : t1.tooFull = true
    · refine wp_if_pos (by simp [tf]) ?_
      have tf' : t1.fill * 5 ≥ t1.mask * 3 := by
        unfold SetTable.tooFull at tf
        exact of_decide_eq_true tf
      rw [q9, q4] at tf'
      have fin : ∀ {wanted M : Nat}, SetTable.grown (es.size + 1) = wanted → SetTable.sizeAbove wanted - 1 = M → MaskOk M → SetTable.sizeAbove wanted ≤ 128 → (L.length + 1) * 5 < M * 3 → wpAny (model P w) A (setRelay a (SetTable.grown (es.size + 1)) >>= fun _ => pure true) Q E { heap := s.heap.update a (Obj.putSet (SetTable.insertAt es p (NestedKey.hash w k, Value.ref x)) t1), gens := s.gens, drawn := s.drawn, toks := s.toks, os := s.os } := fun {wanted M} e1 e2 e3 e4 e5 => by
        rw [e1]
        refine wpAny_bind (relayN (o := { cls := o.cls, dict := o.dict, data := Data.set (SetTable.insertAt es p (NestedKey.hash w k, Value.ref x)) (ep + 1) t1, slots := o.slots }) (L := L.take p ++ (x, k) :: L.drop p) ho1 ⟨hex.1, hex.2.1, hex.2.2⟩ rfl hin (by rw [hf, hsz]) hdm (by rw [hsz, q4]; omega) nd' (fun q hq => (keys' q hq).same ho hex sb) q6 (by rw [q5]; exact R.led) (by rw [hlen]; omega) e2 e3 e4 (by rw [hlen]; exact e5) fun h' L' es' ep' t' sb' R' pm' => ?_)
        exact wpAny_pure (hQ true h' L' es' ep' t' (sb.trans sb') R' (fun z => absurd z hm) fun _ => pm'.trans pm)
      rcases R.tab.mok with m | m | m
      · have : L.length = 4 := by omega
        exact fin (wanted := SetTable.grown 5) (M := 31) (by rw [hsl, this]) (by rw [size_20]) (.inr (.inl rfl)) (by rw [size_20]; decide) (by omega)
      · have : L.length = 18 := by omega
        exact fin (wanted := SetTable.grown 19) (M := 127) (by rw [hsl, this]) (by rw [size_76]) (.inr (.inr rfl)) (by rw [size_76]; decide) (by omega)
      · omega
    · refine wp_if_neg (by simp [tf]) (wpAny_pure ?_)
      have tf' : ¬ (t1.fill * 5 ≥ t1.mask * 3) := fun z => tf (by unfold SetTable.tooFull; exact decide_eq_true z)
      rw [q9] at tf'
      exact hQ true _ _ _ _ _ sb ⟨⟨_, ho1, ⟨hex.1, hex.2.1, hex.2.2⟩, rfl⟩, hin, T1, nd', fun q hq => (keys' q hq).same ho hex sb, q6, by rw [q5]; exact R.led, by rw [hlen]; omega, by rw [hlen]; omega⟩ (fun z => absurd z hm) fun _ => pm
end
end Nc
namespace Nc
open PySem PySem.Spec PySem.W PyProof.Rows L2
/-! ## the keys that a set keeps: of equal ones the first -/
def uq : List (Addr × NestedKey) → List (Addr × NestedKey) → List (Addr × NestedKey)
  | acc, [] => acc
  | acc, p :: r => match memK p.2 (acc.map (·.2)) with
    | true => uq acc r
    | false => uq (p :: acc) r
theorem memK_iff (k : NestedKey) : ∀ l : List NestedKey, memK k l = true ↔ k ∈ l
  | [] => by simp [memK]
  | x :: r => by
    unfold memK
    cases c : NestedKey.beq x k with
    | true => simp [nk_beq.mp c]
    | false =>
      simp only []
      rw [memK_iff k r, List.mem_cons]
      constructor
      · exact .inr
      · rintro (z | z)
        · rw [z, NestedKey.beq_self] at c; cases c
        · exact z
theorem uq_snoc (p : Addr × NestedKey) : ∀ (l acc : List (Addr × NestedKey)), uq acc (l ++ [p]) = match memK p.2 ((uq acc l).map (·.2)) with
    | true => uq acc l
    | false => p :: uq acc l
  | [], acc => by
    show uq acc [p] = _
    unfold uq
    show (match memK p.2 (acc.map (·.2)) with
      | true => uq acc []
      | false => uq (p :: acc) []) = _
    cases memK p.2 (acc.map (·.2)) <;> rfl
  | q :: l, acc => by
    rw [List.cons_append]
    unfold uq
    cases memK q.2 (acc.map (·.2)) with
    | true => exact uq_snoc p l acc
    | false => exact uq_snoc p l (q :: acc)
theorem uq_len : ∀ (l acc : List (Addr × NestedKey)), (uq acc l).length ≤ acc.length + l.length
  | [], acc => by show acc.length ≤ acc.length + 0; omega
  | q :: l, acc => by
    unfold uq
    cases memK q.2 (acc.map (·.2)) with
    | true => have := uq_len l acc; rw [List.length_cons]; simp only []; omega
    | false => have := uq_len l (q :: acc); rw [List.length_cons] at this ⊢; simp only []; omega
theorem uq_sub : ∀ (l acc : List (Addr × NestedKey)), ∀ p ∈ uq acc l, p ∈ acc ∨ p ∈ l
  | [], acc, p, h => .inl h
  | q :: l, acc, p, h => by
    unfold uq at h
    cases c : memK q.2 (acc.map (·.2)) with
    | true =>
      rw [c] at h
      rcases uq_sub l acc p h with z | z
      · exact .inl z
      · exact .inr (List.mem_cons_of_mem _ z)
    | false =>
      rw [c] at h
      rcases uq_sub l (q :: acc) p h with z | z
      · rcases List.mem_cons.mp z with y | y
        · exact .inr (y ▸ List.mem_cons_self)
        · exact .inl y
      · exact .inr (List.mem_cons_of_mem _ z)
theorem TabN.keep {w : World} {h h' : Heap} {a : Addr} {L : List (Addr × NestedKey)} {es : Array (Int × Value)} {ep : Nat} {t : SetTable} (R : TabN w h a L es ep t) (k : ∀ (o : Obj), h.get? a = some o → h'.get? a = some o) (kk : ∀ p ∈ L, KeyAt h' p.2 p.1) : TabN w h' a L es ep t := by
  obtain ⟨o, ho, hx⟩ := R.ob
  exact ⟨⟨o, k o ho, hx⟩, R.rows, R.tab, R.nd, kk, R.plain, R.led, R.room, R.few⟩
theorem set_loop {P : Program} {w : World} {A : Around} {I : Addr} {fp wr : List Addr} {G : Array GenState → Array GenState → Prop} {n : Nat} {Pv : Nat → Value → Prop} {St : Nat → Shared → Prop} {R : Result → Shared → Prop} (W : WalksS P w A.in1 I fp wr G n Pv St) (S : Addr) (hSf : ¬ S ∈ fp) (ks : List (Addr × NestedKey)) (hn : n = ks.length) (hfew : ks.length < 64)
    (hval : ∀ (i : Nat) (v : Value), Pv i v → ∃ p, ks[i]? = some p ∧ v = Value.ref p.1) (h0 : Heap) (hk : ∀ p ∈ ks, KeyAt h0 p.2 p.1) (hS0 : h0.get? S = none) (hw0 : ∀ b ∈ wr, h0.get? b = none) (hu : A.in1.units + 8 < cLine) :
    ∀ (k i : Nat) (s : Shared), n - i = k → i ≤ n → St i s → (∀ (b : Addr) (o : Obj), h0.get? b = some o → s.heap.get? b = some o) → (∃ L es ep t, TabN w s.heap S L es ep t ∧ L.Perm (uq [] (ks.take i))) →
      (∀ (s' : Shared) (L : List (Addr × NestedKey)) (es : Array (Int × Value)) (ep : Nat) (t : SetTable), Moved (S :: wr) G s s' → TabN w s'.heap S L es ep t → L.Perm (uq [] ks) → (∀ (b : Addr) (o : Obj), h0.get? b = some o → s'.heap.get? b = some o) → R (.ok (.ret .none)) s') →
      codeAny (model P w) A (.builtin "set.update.loop" { pos := [.ref S, .ref I] }) R s := by
  have hSw : ¬ S ∈ wr := fun h => hSf (W.sub S h)
  have hsub : ∀ b ∈ wr, b ∈ S :: wr := fun b hb => List.mem_cons_of_mem S hb
  have keepM : ∀ {s s' : Shared}, Moved wr G s s' → (∀ (b : Addr) (o : Obj), h0.get? b = some o → s.heap.get? b = some o) → ∀ (b : Addr) (o : Obj), h0.get? b = some o → s'.heap.get? b = some o := fun hm hkp b o e => hm.heap b o (fun hb => by rw [hw0 b hb] at e; cases e) (hkp b o e)
  have tk : ∀ {i : Nat} {p : Addr × NestedKey}, p ∈ uq [] (ks.take i) → p ∈ ks := fun hp => by
    rcases uq_sub _ _ _ hp with z | z
    · cases z
    · exact List.mem_of_mem_take z
  intro k
  induction k with
  | zero =>
    intro i s hk' hi hst hkp ⟨L, es, ep, t, hS, g⟩ hR
    have hin : i = n := by omega
    subst hin
    refine codeAny_builtin F.entry_set_update_loop ?_
    rw [Around.under_plainId F.plain_set_update_loop]
    show wpAny _ _ (pyNext (.ref I) >>= _) _ _ _
    refine wpAny_bind (W.done s _ _ hst fun s' hm => ?_)
    have hkp' := keepM hm hkp
    refine wpAny_pure (hR s' L es ep t (hm.mono hsub) (hS.keep (fun o e => hm.heap S o hSw e) fun p hp => (hk p (tk (g.mem_iff.mp hp))).keep hkp') ?_ hkp')
    rw [hn, List.take_length] at g
    exact g
  | succ k ih =>
    intro i s hk' hi hst hkp ⟨L, es, ep, t, hS, g⟩ hR
    have hlt : i < n := by omega
    refine codeAny_builtin F.entry_set_update_loop ?_
    rw [Around.under_plainId F.plain_set_update_loop]
    show wpAny _ _ (pyNext (.ref I) >>= _) _ _ _
    refine wpAny_bind (W.item i s _ _ hlt hst fun v s' hP hst' hm => ?_)
    obtain ⟨p, hp, rfl⟩ := hval i v hP
    have hpm : p ∈ ks := List.mem_of_getElem? hp
    have hkp' := keepM hm hkp
    have hS' : TabN w s'.heap S L es ep t := hS.keep (fun o e => hm.heap S o hSw e) fun q hq => (hk q (tk (g.mem_iff.mp hq))).keep hkp'
    have hKp : KeyAt s'.heap p.2 p.1 := (hk p hpm).keep hkp'
    have hLl : L.length + 1 < 64 := by
      have h1 := uq_len (ks.take i) []
      rw [← g.length_eq, List.length_take] at h1
      rw [List.length_nil] at h1
      omega
    simp only []
    refine wpAny_bind (wpAny_holding (wpAny_holding (wpAny_bind ((nestedKind P w).pyHash (show A.in1.units + 8 < cLine from hu) ⟨hKp.is, hKp.dep⟩ ?_))))
    refine addN (s := { heap := s'.heap, gens := s'.gens, drawn := s'.drawn, toks := s'.toks + p.2.draws, os := s'.os }) hS' hKp hu hLl fun b h' L' es' ep' t' hsb hS2 hsame hmore => ?_
    have hkp2 : ∀ (b : Addr) (o : Obj), h0.get? b = some o → h'.get? b = some o := fun b o e => by
      have : b ≠ S := fun z => by rw [z, hS0] at e; cases e
      exact (hsb.2 b this).trans (hkp' b o e)
    refine wpAny_pure ⟨Code.quiet_builtin _ (by decide +kernel), ih (i + 1) _ (by omega) hlt (W.frame (i + 1) s' h' (s'.toks + p.2.draws) hst' (Nat.le_add_right _ _) fun b hb o e => ?_) hkp2 ⟨L', es', ep', t', hS2, ?_⟩ fun s'' L2 es2 ep2 t2 hm'' hS'' g'' hkp'' => hR s'' L2 es2 ep2 t2 (Moved.trans W.gtrans ((hm.mono hsub).then_heap (Nat.le_add_right s'.toks p.2.draws) fun b o hb e => ?_) hm'') hS'' g'' hkp''⟩
    · have : b ≠ S := fun z => hSf (z ▸ hb)
      exact (hsb.2 b this).trans e
    · have et : ks.take (i + 1) = ks.take i ++ [p] := take_next hp
      rw [et, uq_snoc]
      have hmem : memK p.2 ((uq [] (ks.take i)).map (·.2)) = true ↔ p.2 ∈ L.map (·.2) := by rw [memK_iff, ((g.map (·.2)).mem_iff)]
      cases c : memK p.2 ((uq [] (ks.take i)).map (·.2)) with
      | true =>
        rw [hsame (hmem.mp c)]
        exact g
      | false =>
        have : ¬ p.2 ∈ L.map (·.2) := fun z => by rw [hmem.mpr z] at c; cases c
        exact (hmore this).trans (List.Perm.cons _ g)
    · have : b ≠ S := fun z => hb (z ▸ List.mem_cons_self)
      exact (hsb.2 b this).trans e
end Nc
namespace Nc
open PySem PySem.Spec PySem.W PyProof.Rows L2
theorem call_setN {P : Program} {w : World} {A : Around} {E : Value → Shared → Prop} {s : Shared} {l : Addr} {items : Array Value} (ks : List (Addr × NestedKey)) {Q : Value → Shared → Prop} (hh : A.handled = none) (hl : s.heap.IsList l items) (hit : items.toList = ks.map fun p => Value.ref p.1) (hk : ∀ p ∈ ks, KeyAt s.heap p.2 p.1) (hfew : ks.length < 64) (hu : A.units + 12 < cLine)
    (h : ∀ (h' : Heap) (tk : Nat) (L : List (Addr × NestedKey)) (es : Array (Int × Value)) (ep : Nat) (t : SetTable), TabN w h' s.heap.objs.size L es ep t → L.Perm (uq [] ks) → (∀ (b : Addr) (o : Obj), s.heap.get? b = some o → h'.get? b = some o) → Q (.ref s.heap.objs.size) { heap := h', gens := s.gens, drawn := s.drawn, toks := tk, os := s.os }) :
    wpAny (model P w) A (call (.type "set") [.ref l]) Q E s := by
  obtain ⟨c, tl, hmro⟩ := F.called_set.mro
  have hmade := F.called_set.made
  have hsub := F.called_set.sub
  have h1 := F.called_set.notType
  have h2 := F.called_set.canCreate
  have hct := F.typeCall_set_1 (Value.ref l)
  have hli := F.called_set.init.lookup
  have hbi := F.called_set.init.bind (Value.ref s.heap.objs.size)
  refine wpAny_call (codeAny_of_tree ?_)
  refine wpAny_pure ⟨Code.quiet_builtin _ (by decide +kernel), codeAny_builtin F.entry_type_call ?_⟩
  rw [Around.under_plain (weight_type_call_type "set" [Value.ref l] []) rfl]
  unfold Builtin.«type.__call__»
  simp only []
  refine wp_if_neg (by rw [h1]; decide) ?_
  refine wp_if_neg (by rw [h2]; decide) ?_
  refine wpAny_bind (wpAny_of_eq hct ?_)
  refine wpAny_bind (wpAny_of_eq hmro ?_)
  refine wp_if_neg (by simp) ?_
  refine wpAny_bind (wpAny_of_eq hmade ?_)
  refine wpAny_bind (wpAny_pure ?_)
  refine wpAny_bind (wpAny_holding ?_)
  refine wpAny_call (codeAny_mono (code_set_led1 (E := E) (Q₁ := fun obj s₁ => obj = Value.ref s.heap.objs.size ∧ s₁ = { heap := s.heap.push { cls := .type "set", data := .set #[] 0 (SetTable.fresh 0 0 !w.params.followText "set-order") }, gens := s.gens, drawn := s.drawn, toks := s.toks, os := s.os }) (Value.ref l) ⟨rfl, rfl⟩) fun r s₁ hr => ?_)
  cases r with
  | error e => exact hr
  | ok fl =>
    cases fl with
    | ret obj =>
      obtain ⟨e1, e2⟩ := hr
      subst e1; subst e2
      have hS : (s.heap.push { cls := Value.type "set", data := Data.set #[] 0 (SetTable.fresh 0 0 !w.params.followText "set-order") }).get? s.heap.objs.size = some { cls := Value.type "set", data := Data.set #[] 0 (SetTable.fresh 0 0 !w.params.followText "set-order") } := Heap.get?_push_size _ rfl
      have hT : ({ heap := s.heap.push { cls := Value.type "set", data := Data.set #[] 0 (SetTable.fresh 0 0 !w.params.followText "set-order") }, gens := s.gens, drawn := s.drawn, toks := s.toks, os := s.os } : Shared).TypeIs (Value.ref s.heap.objs.size) "set" := ⟨_, hS, rfl⟩
      refine wpAny_bind (wpAny_isInstance hT hsub (wpAny_ite_false (by rfl) (wpAny_bind (wpAny_holding ?_))))
      refine wpAny_bind (wpAny_specialOf hT hli (wpAny_holding (wpAny_bind (wpAny_of_eq hbi (wpAny_bind (wpAny_call (codeAny_mono (codeAny_call_builtin (R := wants (fun r s₂ => r = Value.none ∧ ∃ (h' : Heap) (tk : Nat) (L : List (Addr × NestedKey)) (es : Array (Int × Value)) (ep : Nat) (t : SetTable), s₂ = { heap := h', gens := s.gens, drawn := s.drawn, toks := tk, os := s.os } ∧ TabN w h' s.heap.objs.size L es ep t ∧ L.Perm (uq [] ks) ∧ ∀ (b : Addr) (o : Obj), s.heap.get? b = some o → h'.get? b = some o) E) F.called_set.init.plain F.entry_set_init (check_set_init_1 hT ?_)) fun r s₂ hr => ?_)))))))
      · have hlp := hl.push { cls := Value.type "set", data := Data.set #[] 0 (SetTable.fresh 0 0 !w.params.followText "set-order") }
        have hTl : ({ heap := s.heap.push { cls := Value.type "set", data := Data.set #[] 0 (SetTable.fresh 0 0 !w.params.followText "set-order") }, gens := s.gens, drawn := s.drawn, toks := s.toks, os := s.os } : Shared).TypeIs (Value.ref l) "list" := by
          obtain ⟨o, e1, e2, _⟩ := hlp
          exact ⟨o, e1, e2⟩
        have R0 : TabN w (s.heap.push { cls := Value.type "set", data := Data.set #[] 0 (SetTable.fresh 0 0 !w.params.followText "set-order") }) s.heap.objs.size [] #[] 0 (SetTable.fresh 0 0 !w.params.followText "set-order") :=
          { ob := ⟨_, hS, ⟨rfl, rfl, rfl⟩, rfl⟩, rows := rfl, tab := (L2.setTR_fresh (P := P) (w := w) (a := s.heap.objs.size) hS).tab, nd := List.nodup_nil, keys := fun p hp => (by cases hp), plain := rfl, led := (L2.setTR_fresh (P := P) (w := w) (a := s.heap.objs.size) hS).led, room := (show 0 * 5 < 7 * 3 by decide), few := (show 0 < 64 by decide) }
        unfold Builtin.«set.__init__»
        simp only [List.cons_append, List.nil_append]
        refine wpAny_bind ?_
        unfold noKeywords
        refine wp_if_pos (by rfl) (wpAny_pure ?_)
        refine wpAny_bind ?_
        unfold typeNameOfCut
        refine wpAny_bind ?_
        unfold shownTypeOf
        refine wpAny_bind (wpAny_typeOf hT ?_)
        simp only []
        refine wp_if_neg (by decide) (wpAny_pure ?_)
        unfold typeNameCut
        simp only []
        refine wpAny_pure ?_
        refine wpAny_bind ?_
        unfold checkCount
        simp only []
        refine wp_if_neg (by simp) (wp_if_neg (by simp) (wp_if_neg (by simp) (wpAny_pure ?_)))
        refine wpAny_bind (wpAny_pure ?_)
        refine wpAny_bind ?_
        unfold setUsed
        refine wpAny_bind (wpAny_setState_of hS rfl R0.fits (wpAny_pure ?_))
        refine wp_if_neg (by show ¬ ((0 : Nat) != 0) = true; decide) ?_
        refine wpAny_bind ?_
        unfold Builtin.Frozenset.updateFrom
        refine wpAny_bind ?_
        unfold Builtin.Frozenset.isAnySet orM
        refine wpAny_bind (wpAny_isInstance hTl F.sub_list_set ?_)
        refine wpAny_isInstance hTl F.sub_list_frozenset ?_
        refine wp_if_neg (by decide) ?_
        refine wpAny_bind (wpAny_typeOf hTl ?_)
        refine wp_if_neg (by decide) ?_
        refine wpAny_bind (wpAny_pyIter_list hlp ?_)
        refine wpAny_bind (wpAny_runValue ?_)
        have hlt : l < s.heap.objs.size := by
          obtain ⟨o, e1, _⟩ := hl
          exact Heap.lt_size e1
        have hsz : (s.heap.push { cls := Value.type "set", data := Data.set #[] 0 (SetTable.fresh 0 0 !w.params.followText "set-order") }).objs.size = s.heap.objs.size + 1 := Heap.size_push _ _
        rw [hsz]
        have nS : ∀ b, s.heap.objs.size ≤ b → s.heap.get? b = none := fun b hb => by
          cases q : s.heap.get? b with
          | none => rfl
          | some o => exact absurd (Heap.lt_size q) (Nat.not_lt.mpr hb)
        have hisz : items.size = ks.length := by
          have := congrArg List.length hit
          simpa using this
        refine set_loop (A := A.in1.in1) (Walks.toS (Walks.list (prog := P) (w := w) (A := A.in1.in1.in1) hh (s.heap.objs.size + 1) l (Nat.ne_of_lt (Nat.lt_succ_of_lt hlt)) items)) s.heap.objs.size (fun z => by
          rcases List.mem_cons.mp z with z | z
          · exact Nat.ne_of_lt (Nat.lt_succ_self _) z
          · rcases List.mem_cons.mp z with z | z
            · exact Nat.ne_of_gt hlt z
            · cases z) ks hisz hfew (fun i v hv => ?_) s.heap hk (nS _ (Nat.le_refl _)) (fun b hb => nS b (by
          rcases List.mem_cons.mp hb with z | z
          · rw [z]; exact Nat.le_succ _
          · cases z)) (by show A.units + 1 + 1 + 1 + 8 < cLine; omega) items.size 0 _ rfl (Nat.zero_le _) ?_ (fun b o e => ?_) ⟨[], #[], 0, _, R0.keep (fun o e => Heap.get?_push_of_some _ e) (fun p hp => (by cases hp)), List.Perm.refl _⟩ fun s' L es ep t hm hR hp hk' => ?_
        · have hv : items[i]? = some v := hv
          rw [← Array.getElem?_toList, hit, List.getElem?_map] at hv
          cases q : ks[i]? with
          | none => rw [q] at hv; cases hv
          | some p => rw [q] at hv; cases hv; exact ⟨p, rfl, rfl⟩
        · exact ⟨⟨_, Heap.get?_push_at hsz.symm rfl, rfl, rfl⟩, hlp.push _⟩
        · exact Heap.get?_push_of_some _ (Heap.get?_push_of_some _ e)
        · refine wpAny_pure (wpAny_pure ⟨rfl, s'.heap, s'.toks, L, es, ep, t, ?_, hR, hp, hk'⟩)
          have g1 : s'.gens = s.gens := hm.gens
          have g2 : s'.drawn = s.drawn := hm.drawn
          have g3 : s'.os = s.os := hm.os
          rw [← g1, ← g2, ← g3]
      · cases r with
        | error e => exact hr
        | ok fl =>
          cases fl with
          | ret v =>
            obtain ⟨e1, h', tk, L, es, ep, t, e2, r1, r2, r3⟩ := hr
            subst e1; subst e2
            refine wpAny_pure ?_
            simp only []
            refine wp_if_neg (by decide) ?_
            exact wpAny_pure (h h' tk L es ep t r1 r2 r3)
          | next => exact hr
          | brk => exact hr
          | cont => exact hr
    | next => exact hr
    | brk => exact hr
    | cont => exact hr
theorem call_setNT {P : Program} {w : World} {A : Around} {E : Value → Shared → Prop} {s : Shared} {l : Addr} {items : Array Value} (ks : List (Addr × NestedKey)) {Q : Value → Shared → Prop} (hh : A.handled = none) (hl : s.heap.IsTuple l items) (hit : items.toList = ks.map fun p => Value.ref p.1) (hk : ∀ p ∈ ks, KeyAt s.heap p.2 p.1) (hfew : ks.length < 64) (hu : A.units + 12 < cLine)
    (h : ∀ (h' : Heap) (tk : Nat) (L : List (Addr × NestedKey)) (es : Array (Int × Value)) (ep : Nat) (t : SetTable), TabN w h' s.heap.objs.size L es ep t → L.Perm (uq [] ks) → (∀ (b : Addr) (o : Obj), s.heap.get? b = some o → h'.get? b = some o) → Q (.ref s.heap.objs.size) { heap := h', gens := s.gens, drawn := s.drawn, toks := tk, os := s.os }) :
    wpAny (model P w) A (call (.type "set") [.ref l]) Q E s := by
  obtain ⟨c, tl, hmro⟩ := F.called_set.mro
  have hmade := F.called_set.made
  have hsub := F.called_set.sub
  have h1 := F.called_set.notType
  have h2 := F.called_set.canCreate
  have hct := F.typeCall_set_1 (Value.ref l)
  have hli := F.called_set.init.lookup
  have hbi := F.called_set.init.bind (Value.ref s.heap.objs.size)
  refine wpAny_call (codeAny_of_tree ?_)
  refine wpAny_pure ⟨Code.quiet_builtin _ (by decide +kernel), codeAny_builtin F.entry_type_call ?_⟩
  rw [Around.under_plain (weight_type_call_type "set" [Value.ref l] []) rfl]
  unfold Builtin.«type.__call__»
  simp only []
  refine wp_if_neg (by rw [h1]; decide) ?_
  refine wp_if_neg (by rw [h2]; decide) ?_
  refine wpAny_bind (wpAny_of_eq hct ?_)
  refine wpAny_bind (wpAny_of_eq hmro ?_)
  refine wp_if_neg (by simp) ?_
  refine wpAny_bind (wpAny_of_eq hmade ?_)
  refine wpAny_bind (wpAny_pure ?_)
  refine wpAny_bind (wpAny_holding ?_)
  refine wpAny_call (codeAny_mono (code_set_led1 (E := E) (Q₁ := fun obj s₁ => obj = Value.ref s.heap.objs.size ∧ s₁ = { heap := s.heap.push { cls := .type "set", data := .set #[] 0 (SetTable.fresh 0 0 !w.params.followText "set-order") }, gens := s.gens, drawn := s.drawn, toks := s.toks, os := s.os }) (Value.ref l) ⟨rfl, rfl⟩) fun r s₁ hr => ?_)
  cases r with
  | error e => exact hr
  | ok fl =>
    cases fl with
    | ret obj =>
      obtain ⟨e1, e2⟩ := hr
      subst e1; subst e2
      have hS : (s.heap.push { cls := Value.type "set", data := Data.set #[] 0 (SetTable.fresh 0 0 !w.params.followText "set-order") }).get? s.heap.objs.size = some { cls := Value.type "set", data := Data.set #[] 0 (SetTable.fresh 0 0 !w.params.followText "set-order") } := Heap.get?_push_size _ rfl
      have hT : ({ heap := s.heap.push { cls := Value.type "set", data := Data.set #[] 0 (SetTable.fresh 0 0 !w.params.followText "set-order") }, gens := s.gens, drawn := s.drawn, toks := s.toks, os := s.os } : Shared).TypeIs (Value.ref s.heap.objs.size) "set" := ⟨_, hS, rfl⟩
      refine wpAny_bind (wpAny_isInstance hT hsub (wpAny_ite_false (by rfl) (wpAny_bind (wpAny_holding ?_))))
      refine wpAny_bind (wpAny_specialOf hT hli (wpAny_holding (wpAny_bind (wpAny_of_eq hbi (wpAny_bind (wpAny_call (codeAny_mono (codeAny_call_builtin (R := wants (fun r s₂ => r = Value.none ∧ ∃ (h' : Heap) (tk : Nat) (L : List (Addr × NestedKey)) (es : Array (Int × Value)) (ep : Nat) (t : SetTable), s₂ = { heap := h', gens := s.gens, drawn := s.drawn, toks := tk, os := s.os } ∧ TabN w h' s.heap.objs.size L es ep t ∧ L.Perm (uq [] ks) ∧ ∀ (b : Addr) (o : Obj), s.heap.get? b = some o → h'.get? b = some o) E) F.called_set.init.plain F.entry_set_init (check_set_init_1 hT ?_)) fun r s₂ hr => ?_)))))))
      · have hlp := hl.push { cls := Value.type "set", data := Data.set #[] 0 (SetTable.fresh 0 0 !w.params.followText "set-order") }
        have hTl : ({ heap := s.heap.push { cls := Value.type "set", data := Data.set #[] 0 (SetTable.fresh 0 0 !w.params.followText "set-order") }, gens := s.gens, drawn := s.drawn, toks := s.toks, os := s.os } : Shared).TypeIs (Value.ref l) "tuple" := by
          obtain ⟨o, e1, e2, _⟩ := hlp
          exact ⟨o, e1, e2⟩
        have R0 : TabN w (s.heap.push { cls := Value.type "set", data := Data.set #[] 0 (SetTable.fresh 0 0 !w.params.followText "set-order") }) s.heap.objs.size [] #[] 0 (SetTable.fresh 0 0 !w.params.followText "set-order") :=
          { ob := ⟨_, hS, ⟨rfl, rfl, rfl⟩, rfl⟩, rows := rfl, tab := (L2.setTR_fresh (P := P) (w := w) (a := s.heap.objs.size) hS).tab, nd := List.nodup_nil, keys := fun p hp => (by cases hp), plain := rfl, led := (L2.setTR_fresh (P := P) (w := w) (a := s.heap.objs.size) hS).led, room := (show 0 * 5 < 7 * 3 by decide), few := (show 0 < 64 by decide) }
        unfold Builtin.«set.__init__»
        simp only [List.cons_append, List.nil_append]
        refine wpAny_bind ?_
        unfold noKeywords
        refine wp_if_pos (by rfl) (wpAny_pure ?_)
        refine wpAny_bind ?_
        unfold typeNameOfCut
        refine wpAny_bind ?_
        unfold shownTypeOf
        refine wpAny_bind (wpAny_typeOf hT ?_)
        simp only []
        refine wp_if_neg (by decide) (wpAny_pure ?_)
        unfold typeNameCut
        simp only []
        refine wpAny_pure ?_
        refine wpAny_bind ?_
        unfold checkCount
        simp only []
        refine wp_if_neg (by simp) (wp_if_neg (by simp) (wp_if_neg (by simp) (wpAny_pure ?_)))
        refine wpAny_bind (wpAny_pure ?_)
        refine wpAny_bind ?_
        unfold setUsed
        refine wpAny_bind (wpAny_setState_of hS rfl R0.fits (wpAny_pure ?_))
        refine wp_if_neg (by show ¬ ((0 : Nat) != 0) = true; decide) ?_
        refine wpAny_bind ?_
        unfold Builtin.Frozenset.updateFrom
        refine wpAny_bind ?_
        unfold Builtin.Frozenset.isAnySet orM
        refine wpAny_bind (wpAny_isInstance hTl F.sub_tuple_set ?_)
        refine wpAny_isInstance hTl F.sub_tuple_frozenset ?_
        refine wp_if_neg (by decide) ?_
        refine wpAny_bind (wpAny_typeOf hTl ?_)
        refine wp_if_neg (by decide) ?_
        refine wpAny_bind (wpAny_pyIter_tuple hlp ?_)
        refine wpAny_bind (wpAny_runValue ?_)
        have hlt : l < s.heap.objs.size := by
          obtain ⟨o, e1, _⟩ := hl
          exact Heap.lt_size e1
        have hsz : (s.heap.push { cls := Value.type "set", data := Data.set #[] 0 (SetTable.fresh 0 0 !w.params.followText "set-order") }).objs.size = s.heap.objs.size + 1 := Heap.size_push _ _
        rw [hsz]
        have nS : ∀ b, s.heap.objs.size ≤ b → s.heap.get? b = none := fun b hb => by
          cases q : s.heap.get? b with
          | none => rfl
          | some o => exact absurd (Heap.lt_size q) (Nat.not_lt.mpr hb)
        have hisz : items.size = ks.length := by
          have := congrArg List.length hit
          simpa using this
        refine set_loop (A := A.in1.in1) (Walks.toS (Walks.tuple (prog := P) (w := w) (A := A.in1.in1.in1) hh (s.heap.objs.size + 1) l (Nat.ne_of_lt (Nat.lt_succ_of_lt hlt)) items)) s.heap.objs.size (fun z => by
          rcases List.mem_cons.mp z with z | z
          · exact Nat.ne_of_lt (Nat.lt_succ_self _) z
          · rcases List.mem_cons.mp z with z | z
            · exact Nat.ne_of_gt hlt z
            · cases z) ks hisz hfew (fun i v hv => ?_) s.heap hk (nS _ (Nat.le_refl _)) (fun b hb => nS b (by
          rcases List.mem_cons.mp hb with z | z
          · rw [z]; exact Nat.le_succ _
          · cases z)) (by show A.units + 1 + 1 + 1 + 8 < cLine; omega) items.size 0 _ rfl (Nat.zero_le _) ?_ (fun b o e => ?_) ⟨[], #[], 0, _, R0.keep (fun o e => Heap.get?_push_of_some _ e) (fun p hp => (by cases hp)), List.Perm.refl _⟩ fun s' L es ep t hm hR hp hk' => ?_
        · have hv : items[i]? = some v := hv
          rw [← Array.getElem?_toList, hit, List.getElem?_map] at hv
          cases q : ks[i]? with
          | none => rw [q] at hv; cases hv
          | some p => rw [q] at hv; cases hv; exact ⟨p, rfl, rfl⟩
        · exact ⟨⟨_, Heap.get?_push_at hsz.symm rfl, rfl, rfl⟩, hlp.push _⟩
        · exact Heap.get?_push_of_some _ (Heap.get?_push_of_some _ e)
        · refine wpAny_pure (wpAny_pure ⟨rfl, s'.heap, s'.toks, L, es, ep, t, ?_, hR, hp, hk'⟩)
          have g1 : s'.gens = s.gens := hm.gens
          have g2 : s'.drawn = s.drawn := hm.drawn
          have g3 : s'.os = s.os := hm.os
          rw [← g1, ← g2, ← g3]
      · cases r with
        | error e => exact hr
        | ok fl =>
          cases fl with
          | ret v =>
            obtain ⟨e1, h', tk, L, es, ep, t, e2, r1, r2, r3⟩ := hr
            subst e1; subst e2
            refine wpAny_pure ?_
            simp only []
            refine wp_if_neg (by decide) ?_
            exact wpAny_pure (h h' tk L es ep t r1 r2 r3)
          | next => exact hr
          | brk => exact hr
          | cont => exact hr
    | next => exact hr
    | brk => exact hr
    | cont => exact hr
end Nc
namespace Nc
open PySem PySem.Spec PySem.W PyProof.Rows L2
theorem refs_perm {L : List (Addr × NestedKey)} : ∀ {vs : List Value}, (∀ v ∈ vs, ∃ q, q ∈ L ∧ v = Value.ref q.1) → ∃ L1 : List (Addr × NestedKey), vs = L1.map (fun q => Value.ref q.1) ∧ ∀ q ∈ L1, q ∈ L
  | [], _ => ⟨[], rfl, fun q hq => by cases hq⟩
  | v :: vs, h => by
    obtain ⟨q, hq, rfl⟩ := h v List.mem_cons_self
    obtain ⟨L1, e1, hs⟩ := refs_perm (vs := vs) fun u hu => h u (List.mem_cons_of_mem _ hu)
    refine ⟨q :: L1, by rw [e1]; rfl, fun r hr => ?_⟩
    rcases List.mem_cons.mp hr with z | z
    · rw [z]; exact hq
    · exact hs r z
theorem each_refs (L : List (Addr × NestedKey)) : EachIs (fun v (b : Addr × NestedKey) => v = Value.ref b.1) (L.map fun q => Value.ref q.1) L := by
  induction L with
  | nil => exact .nil
  | cons q r ih => exact .cons rfl ih
theorem refs_each : ∀ {vs : List Value} {L : List (Addr × NestedKey)}, EachIs (fun v (b : Addr × NestedKey) => v = Value.ref b.1) vs L → vs = L.map fun q => Value.ref q.1
  | _, _, .nil => rfl
  | _, _, .cons r t => by rw [r, refs_each t]; rfl
theorem each_reads {h : Heap} {a : Addr} {pd : Addr × NestedKey → PyData} : ∀ {L : List (Addr × NestedKey)}, (∀ p ∈ L, Reads h (.ref p.1) (pd p) []) → EachIs (fun v b => ∃ as, Reads h v (pd b) as ∧ ¬ a ∈ as) (L.map fun q => Value.ref q.1) L
  | [], _ => .nil
  | p :: L, h => .cons ⟨[], h p List.mem_cons_self, by simp⟩ (each_reads fun q hq => h q (List.mem_cons_of_mem _ hq))
theorem sorted_setN {P : Program} {w : World} {A : Around} {E : Value → Shared → Prop} {s : Shared} {a : Addr} {L : List (Addr × NestedKey)} {es : Array (Int × Value)} {ep : Nat} {t : SetTable} {Q : Value → Shared → Prop} (R : TabN w s.heap a L es ep t) (hh : A.handled = none) (pd : Addr × NestedKey → PyData) (rd : ∀ p ∈ L, Reads s.heap (.ref p.1) (pd p) [])
    (inj : ∀ q ∈ L, ∀ r ∈ L, q.1 = r.1 → q = r) (al : ∀ p ∈ L, ∀ q ∈ L, alike (pd p) (pd q) = true) (so : (∀ p ∈ L, ∃ x r, pd p = .tuple (x :: r)) ∨ ∀ p ∈ L, pd p ≠ .none ∧ ∀ xs, pd p ≠ .tuple xs) (dep : ∀ p ∈ L, (pd p).depth ≤ 12) (hu : A.units + 30 < cLine)
    (hQ : ∀ (s' : Shared) (p : Addr) (c : Nat) (L1 : List (Addr × NestedKey)), (∀ (b : Addr) (o : Obj), s.heap.get? b = some o → s'.heap.get? b = some o) → s'.gens = s.gens → s'.os = s.os → s.heap.objs.size ≤ p → L1.Perm L → s'.heap.get? p = some (seqObj "list" ((L1.mergeSort (dataLe false pd)).map fun q => Value.ref q.1).toArray c) → Q (.ref p) s') :
    wpAny (model P w) A (call (.builtin "sorted") [.ref a]) Q E s := by
  obtain ⟨o, ho, hex, hd⟩ := R.ob
  have hsz := R.size
  have hfew := R.few
  refine Calls.call_function_entry kind_sorted plain_sorted entry_sorted (args_sorted1 (Value.ref a)) (wpAny_bind (wpAny_pure (wpAny_bind (collect_set hh ⟨o, ho, hex.1, hd⟩ R.fits (by show es.size < 4096; omega) R.tab.ris R.led fun s1 vs k1 hz g1 o1 pm => ?_))))
  have hes : es.toList.map (fun x : Int × Value => x.2) = L.map fun q => Value.ref q.1 := by
    rw [R.rows]; unfold rowsN; rw [List.map_map]; rfl
  rw [hes] at pm
  obtain ⟨L1, e1, hs1⟩ := refs_perm (L := L) (vs := vs) fun v hv => by
    obtain ⟨q, hq, e⟩ := List.mem_map.mp (pm.mem_iff.mp hv)
    exact ⟨q, hq, e.symm⟩
  subst e1
  have nL : L.Nodup := nodup_of_map R.nd
  have nref : (L.map fun q => Value.ref q.1).Nodup := List.pairwise_map.mpr (nL.imp_of_mem fun {q r} hq hr hne e => hne (inj q hq r hr (Value.ref.inj e)))
  have n1 : L1.Nodup := nodup_of_map (pm.nodup_iff.mpr nref)
  have p1 : L1.Perm L := (List.perm_ext_iff_of_nodup n1 nL).mpr fun q => ⟨hs1 q, fun hq => by
    obtain ⟨r, hr, e⟩ := List.mem_map.mp (pm.mem_iff.mpr (List.mem_map.mpr ⟨q, hq, rfl⟩))
    rw [← inj r (hs1 r hr) q hq (Value.ref.inj e)]; exact hr⟩
  have hlen : L1.length ≤ sizeLine := by
    rw [p1.length_eq, sizeLine_eq]; omega
  refine wpAny_bind (wpAny_newList ?_ (by rw [List.length_map]; exact hlen))
  have hoL : (s1.heap.push (seqObj "list" (L1.map fun q => Value.ref q.1).toArray 0)).get? s1.heap.objs.size = some (seqObj "list" (L1.map fun q => Value.ref q.1).toArray 0) := Heap.get?_push_size _ rfl
  refine wpAny_bind (wpAny_holding (list_sort_data (enc := pd) hoL (each_refs L1) (each_reads fun p hp => Reads.keeps (fun b o e => Heap.get?_push_of_some _ (k1 b o e)) (rd p (hs1 p hp))) ?_ ?_ hlen ?_ fun out hl eo => ?_))
  · intro d hd' d' hd2
    obtain ⟨p, hp, rfl⟩ := List.mem_map.mp hd'
    obtain ⟨q, hq, rfl⟩ := List.mem_map.mp hd2
    exact al p (hs1 p hp) q (hs1 q hq)
  · rcases so with so | so
    · left
      intro d hd'
      obtain ⟨p, hp, rfl⟩ := List.mem_map.mp hd'
      exact so p (hs1 p hp)
    · right
      intro d hd'
      obtain ⟨p, hp, rfl⟩ := List.mem_map.mp hd'
      exact so p (hs1 p hp)
  · intro p hp
    have := dep p (hs1 p hp)
    show A.units + 1 + 1 + (pd p).depth < cLine
    omega
  · have eo := refs_each eo
    obtain ⟨c, hc⟩ := sortedHeap_at (vs := L1.map fun q => Value.ref q.1) (out := out.toArray) hoL
    refine wpAny_pure ⟨Value.ref s1.heap.objs.size, rfl, ?_⟩
    refine hQ _ s1.heap.objs.size c L1 ?k ?g ?o ?z p1 ?h
    case g => exact g1
    case o => exact o1
    case z => exact hz
    case h => rw [← eo]; exact hc
    case k =>
      intro b u e
      have q := k1 b u e
      have hlt := Heap.lt_size q
      have key := sortedHeap_old (h := s1.heap.push (seqObj "list" (L1.map fun q => Value.ref q.1).toArray 0)) (a := s1.heap.objs.size) (b := b) (vs := L1.map fun q => Value.ref q.1) (out := out.toArray) (Nat.ne_of_lt hlt) (by rw [Heap.size_push]; exact Nat.lt_succ_of_lt hlt)
      have k2 : (s1.heap.push (seqObj "list" (L1.map fun q => Value.ref q.1).toArray 0)).get? b = some u := Heap.get?_push_of_some _ q
      exact key.trans k2
end Nc
namespace Nc
open PySem PySem.Spec PySem.W PyProof.Rows L2
theorem call_set_lstI {P : Program} {w : World} {A : Around} {E : Value → Shared → Prop} {s : Shared} {l : Addr} {items : Array Value} (ns : List Int) {Q : Value → Shared → Prop} (hh : A.handled = none) (hl : s.heap.IsList l items) (hit : IntsAre items.toList ns) (hb : ns.length + 1 < scanBound)
    (h : ∀ (h' : Heap) (tk c : Nat), SetR w h' s.heap.objs.size (fun j => decide (j ∈ ns)) c → c ≤ ns.length → (∀ (b : Addr) (o : Obj), s.heap.get? b = some o → h'.get? b = some o) → Q (.ref s.heap.objs.size) { heap := h', gens := s.gens, drawn := s.drawn, toks := tk, os := s.os }) :
    wpAny (model P w) A (call (.type "set") [.ref l]) Q E s := by
  obtain ⟨c, tl, hmro⟩ := F.called_set.mro
  have hmade := F.called_set.made
  have hsub := F.called_set.sub
  have h1 := F.called_set.notType
  have h2 := F.called_set.canCreate
  have hct := F.typeCall_set_1 (Value.ref l)
  have hli := F.called_set.init.lookup
  have hbi := F.called_set.init.bind (Value.ref s.heap.objs.size)
  refine wpAny_call (codeAny_of_tree ?_)
  refine wpAny_pure ⟨Code.quiet_builtin _ (by decide +kernel), codeAny_builtin F.entry_type_call ?_⟩
  rw [Around.under_plain (weight_type_call_type "set" [Value.ref l] []) rfl]
  unfold Builtin.«type.__call__»
  simp only []
  refine wp_if_neg (by rw [h1]; decide) ?_
  refine wp_if_neg (by rw [h2]; decide) ?_
  refine wpAny_bind (wpAny_of_eq hct ?_)
  refine wpAny_bind (wpAny_of_eq hmro ?_)
  refine wp_if_neg (by simp) ?_
  refine wpAny_bind (wpAny_of_eq hmade ?_)
  refine wpAny_bind (wpAny_pure ?_)
  refine wpAny_bind (wpAny_holding ?_)
  refine wpAny_call (codeAny_mono (code_set_led1 (E := E) (Q₁ := fun obj s₁ => obj = Value.ref s.heap.objs.size ∧ s₁ = { heap := s.heap.push { cls := .type "set", data := .set #[] 0 (SetTable.fresh 0 0 !w.params.followText "set-order") }, gens := s.gens, drawn := s.drawn, toks := s.toks, os := s.os }) (Value.ref l) ⟨rfl, rfl⟩) fun r s₁ hr => ?_)
  cases r with
  | error e => exact hr
  | ok fl =>
    cases fl with
    | ret obj =>
      obtain ⟨e1, e2⟩ := hr
      subst e1; subst e2
      have hS : (s.heap.push { cls := Value.type "set", data := Data.set #[] 0 (SetTable.fresh 0 0 !w.params.followText "set-order") }).get? s.heap.objs.size = some { cls := Value.type "set", data := Data.set #[] 0 (SetTable.fresh 0 0 !w.params.followText "set-order") } := Heap.get?_push_size _ rfl
      have hT : ({ heap := s.heap.push { cls := Value.type "set", data := Data.set #[] 0 (SetTable.fresh 0 0 !w.params.followText "set-order") }, gens := s.gens, drawn := s.drawn, toks := s.toks, os := s.os } : Shared).TypeIs (Value.ref s.heap.objs.size) "set" := ⟨_, hS, rfl⟩
      refine wpAny_bind (wpAny_isInstance hT hsub (wpAny_ite_false (by rfl) (wpAny_bind (wpAny_holding ?_))))
      refine wpAny_bind (wpAny_specialOf hT hli (wpAny_holding (wpAny_bind (wpAny_of_eq hbi (wpAny_bind (wpAny_call (codeAny_mono (codeAny_call_builtin (R := wants (fun r s₂ => r = Value.none ∧ ∃ (h' : Heap) (tk c : Nat), s₂ = { heap := h', gens := s.gens, drawn := s.drawn, toks := tk, os := s.os } ∧ SetR w h' s.heap.objs.size (fun j => decide (j ∈ ns)) c ∧ c ≤ ns.length ∧ ∀ (b : Addr) (o : Obj), s.heap.get? b = some o → h'.get? b = some o) E) F.called_set.init.plain F.entry_set_init (check_set_init_1 hT ?_)) fun r s₂ hr => ?_)))))))
      · have hlp := hl.push { cls := Value.type "set", data := Data.set #[] 0 (SetTable.fresh 0 0 !w.params.followText "set-order") }
        have hTl : ({ heap := s.heap.push { cls := Value.type "set", data := Data.set #[] 0 (SetTable.fresh 0 0 !w.params.followText "set-order") }, gens := s.gens, drawn := s.drawn, toks := s.toks, os := s.os } : Shared).TypeIs (Value.ref l) "list" := by
          obtain ⟨o, e1, e2, _⟩ := hlp
          exact ⟨o, e1, e2⟩
        have R0 : TabN w (s.heap.push { cls := Value.type "set", data := Data.set #[] 0 (SetTable.fresh 0 0 !w.params.followText "set-order") }) s.heap.objs.size [] #[] 0 (SetTable.fresh 0 0 !w.params.followText "set-order") :=
          { ob := ⟨_, hS, ⟨rfl, rfl, rfl⟩, rfl⟩, rows := rfl, tab := (L2.setTR_fresh (P := P) (w := w) (a := s.heap.objs.size) hS).tab, nd := List.nodup_nil, keys := fun p hp => (by cases hp), plain := rfl, led := (L2.setTR_fresh (P := P) (w := w) (a := s.heap.objs.size) hS).led, room := (show 0 * 5 < 7 * 3 by decide), few := (show 0 < 64 by decide) }
        unfold Builtin.«set.__init__»
        simp only [List.cons_append, List.nil_append]
        refine wpAny_bind ?_
        unfold noKeywords
        refine wp_if_pos (by rfl) (wpAny_pure ?_)
        refine wpAny_bind ?_
        unfold typeNameOfCut
        refine wpAny_bind ?_
        unfold shownTypeOf
        refine wpAny_bind (wpAny_typeOf hT ?_)
        simp only []
        refine wp_if_neg (by decide) (wpAny_pure ?_)
        unfold typeNameCut
        simp only []
        refine wpAny_pure ?_
        refine wpAny_bind ?_
        unfold checkCount
        simp only []
        refine wp_if_neg (by simp) (wp_if_neg (by simp) (wp_if_neg (by simp) (wpAny_pure ?_)))
        refine wpAny_bind (wpAny_pure ?_)
        refine wpAny_bind ?_
        unfold setUsed
        refine wpAny_bind (wpAny_setState_of hS rfl R0.fits (wpAny_pure ?_))
        refine wp_if_neg (by show ¬ ((0 : Nat) != 0) = true; decide) ?_
        refine wpAny_bind ?_
        unfold Builtin.Frozenset.updateFrom
        refine wpAny_bind ?_
        unfold Builtin.Frozenset.isAnySet orM
        refine wpAny_bind (wpAny_isInstance hTl F.sub_list_set ?_)
        refine wpAny_isInstance hTl F.sub_list_frozenset ?_
        refine wp_if_neg (by decide) ?_
        refine wpAny_bind (wpAny_typeOf hTl ?_)
        refine wp_if_neg (by decide) ?_
        refine wpAny_bind (wpAny_pyIter_list hlp ?_)
        refine wpAny_bind (wpAny_runValue ?_)
        have hlt : l < s.heap.objs.size := by
          obtain ⟨o, e1, _⟩ := hl
          exact Heap.lt_size e1
        have hsz : (s.heap.push { cls := Value.type "set", data := Data.set #[] 0 (SetTable.fresh 0 0 !w.params.followText "set-order") }).objs.size = s.heap.objs.size + 1 := Heap.size_push _ _
        rw [hsz]
        have hisz : items.size = ns.length := by
          have q := IntsAre.length hit
          rw [Array.length_toList] at q
          exact q
        have hval : ∀ (i : Nat) (v : Value), items[i]? = some v → ∃ k t, ns[i]? = some k ∧ v = .int k t := fun i v hv => by
          have hi : i < ns.length := by rw [← hisz]; exact (Array.getElem?_eq_some_iff.mp hv).1
          obtain ⟨t, e⟩ := PyProof.Rows.IntsAre.int_at hit i v (by rw [Array.getElem?_toList]; exact hv)
          refine ⟨ns[i], t, List.getElem?_eq_getElem hi, ?_⟩
          rw [e, List.getD_eq_getElem?_getD, List.getElem?_eq_getElem hi] <;> rfl
        have hget : ((s.heap.push { cls := .type "set", dict := none, data := .set #[] 0 (SetTable.fresh 0 0 (!w.params.followText "set-order")) }).push { cls := .type "list_iterator", data := .fields #[.ref l, .int 0 0] }).get? s.heap.objs.size
              = some { cls := .type "set", dict := none, data := .set #[] 0 (SetTable.fresh 0 0 (!w.params.followText "set-order")) } := Heap.get?_push_of_some _ hS
        refine set_update_ints (A := A.in1.in1) (Walks.toS (Walks.list (prog := P) (w := w) (A := A.in1.in1.in1) hh (s.heap.objs.size + 1) l (Nat.ne_of_lt (Nat.lt_succ_of_lt hlt)) items)) s.heap.objs.size (fun z => by
          rcases List.mem_cons.mp z with z | z
          · exact Nat.ne_of_lt (Nat.lt_succ_self _) z
          · rcases List.mem_cons.mp z with z | z
            · exact Nat.ne_of_gt hlt z
            · cases z) ns hisz hb hval items.size 0 _ rfl (Nat.zero_le _) ⟨⟨_, Heap.get?_push_at hsz.symm rfl, rfl, rfl⟩, hlp.push _⟩ ⟨0, Nat.le_refl 0, setR_new_at hget⟩ fun s' c' hm hc' hS' => ?_
        have g1 : s'.gens = s.gens := hm.gens
        have g2 : s'.drawn = s.drawn := hm.drawn
        have g3 : s'.os = s.os := hm.os
        refine wpAny_pure (wpAny_pure ⟨rfl, s'.heap, s'.toks, c', ?_, hS', Nat.le_trans hc' (Nat.le_of_eq hisz), fun b o e => ?_⟩)
        · rw [← g1, ← g2, ← g3]
        · have hb0 : b < s.heap.objs.size := Heap.lt_size e
          have hb1 : b ≠ s.heap.objs.size := Nat.ne_of_lt hb0
          have hb2 : b ≠ s.heap.objs.size + 1 := Nat.ne_of_lt (Nat.lt_succ_of_lt hb0)
          exact hm.heap b o (by
            intro z
            rcases List.mem_cons.mp z with z | z
            · exact hb1 z
            · rcases List.mem_cons.mp z with z | z
              · exact hb2 z
              · cases z) (Heap.get?_push_of_some _ (Heap.get?_push_of_some _ e))
      · cases r with
        | error e => exact hr
        | ok fl =>
          cases fl with
          | ret v =>
            obtain ⟨e1, h', tk, c2, e2, r1, r2, r3⟩ := hr
            subst e1; subst e2
            refine wpAny_pure ?_
            simp only []
            refine wp_if_neg (by decide) ?_
            exact wpAny_pure (h h' tk c2 r1 r2 r3)
          | next => exact hr
          | brk => exact hr
          | cont => exact hr
    | next => exact hr
    | brk => exact hr
    | cont => exact hr
end Nc
namespace Nc
open PySem PySem.Spec PySem.W PyProof.Rows L2
/-! ## data of ints and tuples alone -/
mutual
def purD : D → Bool
  | .int _ => true
  | .tup ds => purDs ds
  | _ => false
def purDs : List D → Bool
  | [] => true
  | d :: r => purD d && purDs r
end
mutual
def nkD : D → NestedKey
  | .int i => .num i
  | .tup ds => .tup (nkDs ds)
  | _ => .none
def nkDs : List D → List NestedKey
  | [] => []
  | d :: r => nkD d :: nkDs r
end
mutual
def pdD : D → PyData
  | .int i => .int i
  | .tup ds => .tuple (pdDs ds)
  | _ => .none
def pdDs : List D → List PyData
  | [] => []
  | d :: r => pdD d :: pdDs r
end
mutual
def pdK : NestedKey → PyData
  | .num i => .int i
  | .tup ds => .tuple (pdKs ds)
  | _ => .none
def pdKs : List NestedKey → List PyData
  | [] => []
  | d :: r => pdK d :: pdKs r
end
mutual
theorem pdK_nk : ∀ d : D, pdK (nkD d) = pdD d
  | .int _ => rfl
  | .tup ds => by unfold nkD pdK pdD; rw [pdKs_nk ds]
  | .non => rfl
  | .bl _ => rfl
  | .str _ => rfl
  | .cell _ => rfl
  | .frl _ => rfl
theorem pdKs_nk : ∀ ds : List D, pdKs (nkDs ds) = pdDs ds
  | [] => rfl
  | d :: r => by unfold nkDs pdKs pdDs; rw [pdK_nk d, pdKs_nk r]
end
mutual
theorem pur_nk : ∀ d : D, purD d = true → toNK d = some (nkD d)
  | .int _, _ => rfl
  | .tup ds, h => by
    unfold purD at h
    unfold toNK nkD
    rw [pur_nks ds h]
  | .non, h => by cases h
  | .bl _, h => by cases h
  | .str _, h => by cases h
  | .cell _, h => by cases h
  | .frl _, h => by cases h
theorem pur_nks : ∀ ds : List D, purDs ds = true → toNKs ds = some (nkDs ds)
  | [], _ => rfl
  | d :: r, h => by
    unfold purDs at h
    rw [Bool.and_eq_true] at h
    unfold toNKs nkDs
    rw [pur_nk d h.1, pur_nks r h.2]
end
mutual
theorem pur_plain : ∀ d : D, purD d = true → plainK (nkD d) = true
  | .int _, _ => rfl
  | .tup ds, h => by
    unfold purD at h
    unfold nkD plainK
    exact purs_plain ds h
  | .non, h => by cases h
  | .bl _, h => by cases h
  | .str _, h => by cases h
  | .cell _, h => by cases h
  | .frl _, h => by cases h
theorem purs_plain : ∀ ds : List D, purDs ds = true → plainKs (nkDs ds) = true
  | [], _ => rfl
  | d :: r, h => by
    unfold purDs at h
    rw [Bool.and_eq_true] at h
    unfold nkDs plainKs
    rw [pur_plain d h.1, purs_plain r h.2]; rfl
end
section
variable {X : Cx} {pins : List (Addr × Obj)} {σ : L2.St} {H : Hp} {s : Shared} {ρ : Rho}
mutual
theorem pur_reads (I : Inv X pins σ H s) : ∀ (d : D) (v : V) (u : Value), purD d = true → Rp (kwOf X) ρ H d v → RelV v u → Reads s.heap u (pdD d) []
  | .int i, _, _, _, r, q => by
    rw [rp_int.mp r] at q; obtain ⟨t, rfl⟩ := q; exact .int i t
  | .tup ds, _, _, h, r, q => by
    unfold purD at h
    obtain ⟨a, xs, rfl, st, rs⟩ := rp_tup.mp r
    cases q
    obtain ⟨its, rv, ⟨o, ho, hc, n, hd⟩, _⟩ := I.tuple st
    exact .tuple ho hc hd (purs_reads I ds xs its h rs rv)
  | .non, _, _, h, _, _ => by cases h
  | .bl _, _, _, h, _, _ => by cases h
  | .str _, _, _, h, _, _ => by cases h
  | .cell _, _, _, h, _, _ => by cases h
  | .frl _, _, _, h, _, _ => by cases h
theorem purs_reads (I : Inv X pins σ H s) : ∀ (ds : List D) (vs : List V) (us : List Value), purDs ds = true → Rps (kwOf X) ρ H ds vs → Vals vs us → ReadsAll s.heap us (pdDs ds) []
  | [], _, _, _, r, q => by
    rw [Rps.nil_iff.mp r] at q; cases q; exact .nil
  | d :: ds, _, _, h, r, q => by
    unfold purDs at h
    rw [Bool.and_eq_true] at h
    obtain ⟨v, vs, rfl, r1, r2⟩ := Rps.cons_iff.mp r
    cases q with
    | cons q1 q2 =>
      have := ReadsAll.cons (pur_reads I d v _ h.1 r1 q1) (purs_reads I ds vs _ h.2 r2 q2)
      exact this
end
end
/-! what a value is as a key, it is once -/
mutual
theorem nest_fun {h : Heap} : ∀ {k k' : NestedKey} {v : Value}, NestedIs h k v → NestedIs h k' v → k = k'
  | _, _, _, .none, .none => rfl
  | _, _, _, .bool e, .bool e' => by
    rw [e, e']
  | _, _, _, .int _ _, .int _ _ => rfl
  | _, _, _, .text _ _, .text _ _ => rfl
  | _, _, _, .tup ho hc hd hall, .tup ho' hc' hd' hall' => by
    rw [ho] at ho'; cases ho'
    rw [hd] at hd'; cases hd'
    rw [nests_fun hall hall']
theorem nests_fun {h : Heap} : ∀ {k k' : List NestedKey} {v : List Value}, NestedAll h k v → NestedAll h k' v → k = k'
  | _, _, _, .nil, .nil => rfl
  | _, _, _, .cons r t, .cons r' t' => by rw [nest_fun r r', nests_fun t t']
end
/-! the first of equal keys, whatever they are keys of -/
def uqG {α : Type} (key : α → NestedKey) : List α → List α → List α
  | acc, [] => acc
  | acc, p :: r => match memK (key p) (acc.map key) with
    | true => uqG key acc r
    | false => uqG key (p :: acc) r
theorem uqG_map {α β : Type} (f : α → β) {ka : α → NestedKey} {kb : β → NestedKey} (hk : ∀ a, kb (f a) = ka a) : ∀ (l acc : List α), uqG kb (acc.map f) (l.map f) = (uqG ka acc l).map f
  | [], acc => rfl
  | p :: r, acc => by
    rw [List.map_cons]
    unfold uqG
    have e : (acc.map f).map kb = acc.map ka := by
      rw [List.map_map]
      exact List.map_congr_left fun a _ => hk a
    rw [hk, e]
    cases memK (ka p) (acc.map ka) with
    | true => exact uqG_map f hk r acc
    | false => exact uqG_map f hk r (p :: acc)
theorem uq_eq : ∀ (l acc : List (Addr × NestedKey)), uq acc l = uqG (·.2) acc l
  | [], acc => rfl
  | p :: r, acc => by
    unfold uq uqG
    cases memK p.2 (acc.map (·.2)) with
    | true => exact uq_eq r acc
    | false => exact uq_eq r (p :: acc)
theorem insS_map {α β : Type} (f : α → β) {la : α → α → Bool} {lb : β → β → Bool} (hl : ∀ a b, lb (f a) (f b) = la a b) (x : α) : ∀ l : List α, insS lb (f x) (l.map f) = (insS la x l).map f
  | [] => rfl
  | y :: r => by
    rw [List.map_cons]
    unfold insS
    rw [hl]
    cases la x y with
    | true => rfl
    | false => simp only [List.map_cons]; rw [insS_map f hl x r]
theorem sortS_map {α β : Type} (f : α → β) {la : α → α → Bool} {lb : β → β → Bool} (hl : ∀ a b, lb (f a) (f b) = la a b) : ∀ l : List α, sortS lb (l.map f) = (sortS la l).map f
  | [] => rfl
  | x :: r => by
    show insS lb (f x) (sortS lb (r.map f)) = (insS la x (sortS la r)).map f
    rw [sortS_map f hl r, insS_map f hl]
/-- rises strictly -/
def strictB {α : Type} (le : α → α → Bool) : List α → Bool
  | a :: b :: r => match le b a with
    | true => false
    | false => strictB le (b :: r)
  | _ => true
theorem strictB_map {α β : Type} (f : α → β) {la : α → α → Bool} {lb : β → β → Bool} (hl : ∀ a b, lb (f a) (f b) = la a b) : ∀ l : List α, strictB lb (l.map f) = strictB la l
  | [] => rfl
  | [a] => rfl
  | a :: b :: r => by
    rw [List.map_cons, List.map_cons]
    unfold strictB
    rw [hl]
    cases la b a with
    | true => rfl
    | false =>
      have := strictB_map f hl (b :: r)
      rw [List.map_cons] at this
      exact this
theorem strict_all {α : Type} {le : α → α → Bool} (T : TotalLe le) : ∀ (l : List α), strictB le l = true → l.Pairwise fun a b => le b a = false
  | [], _ => .nil
  | [a], _ => List.pairwise_singleton _ _
  | a :: b :: r, h => by
    unfold strictB at h
    cases c : le b a with
    | true => rw [c] at h; cases h
    | false =>
      rw [c] at h
      have ih := strict_all T (b :: r) h
      refine List.pairwise_cons.mpr ⟨fun x hx => ?_, ih⟩
      rcases List.mem_cons.mp hx with z | z
      · subst z; exact c
      · have bx := (List.pairwise_cons.mp ih).1 x z
        cases d : le x a with
        | false => rfl
        | true =>
          have : le b x = true := (T.total b x).resolve_right (by rw [bx]; decide)
          have := T.trans _ _ _ this d
          rw [c] at this; cases this
theorem strict_one {α : Type} {le : α → α → Bool} : ∀ {S M : List α}, S.Pairwise (fun a b => le b a = false) → M.Perm S → M.Pairwise (fun a b => le a b = true) → M = S
  | [], M, _, p, _ => p.eq_nil
  | x :: S, [], _, p, _ => by have := p.length_eq; simp at this
  | x :: S, y :: M, hs, p, hm => by
    rw [List.pairwise_cons] at hs hm
    have e : y = x := by
      rcases List.mem_cons.mp (p.mem_iff.mp List.mem_cons_self) with z | z
      · exact z
      · rcases List.mem_cons.mp (p.mem_iff.mpr List.mem_cons_self) with w | w
        · exact w.symm
        · have a := hs.1 y z
          have b := hm.1 x w
          rw [a] at b; cases b
    subst e
    rw [strict_one hs.2 ((List.perm_cons _).mp p) hm.2]
/-! ints: each once, in order -/
def insU (k : Int) : List Int → List Int
  | [] => [k]
  | x :: r => match ltI k x with
    | true => k :: x :: r
    | false => match ltI x k with
      | true => x :: insU k r
      | false => x :: r
def sortU : List Int → List Int
  | [] => []
  | k :: r => insU k (sortU r)
theorem ltI_iff {i j : Int} : ltI i j = true ↔ i < j := by unfold ltI; simp
theorem mem_insU {k j : Int} : ∀ {l : List Int}, j ∈ insU k l ↔ j = k ∨ j ∈ l
  | [] => by simp [insU]
  | x :: r => by
    unfold insU
    cases c : ltI k x with
    | true => simp
    | false =>
      cases d : ltI x k with
      | true => simp only [List.mem_cons, mem_insU (l := r)]; constructor <;> (rintro (h | h | h) <;> simp [h])
      | false =>
        have : x = k := by
          have h1 : ¬ k < x := fun z => by rw [ltI_iff.mpr z] at c; cases c
          have h2 : ¬ x < k := fun z => by rw [ltI_iff.mpr z] at d; cases d
          omega
        subst this
        simp
theorem insU_sorted {k : Int} : ∀ {l : List Int}, l.Pairwise (· < ·) → (insU k l).Pairwise (· < ·)
  | [], _ => by simp [insU]
  | x :: r, h => by
    rw [List.pairwise_cons] at h
    unfold insU
    cases c : ltI k x with
    | true =>
      have c := ltI_iff.mp c
      refine List.pairwise_cons.mpr ⟨fun y hy => ?_, List.pairwise_cons.mpr h⟩
      rcases List.mem_cons.mp hy with z | z
      · omega
      · have := h.1 y z; omega
    | false =>
      cases d : ltI x k with
      | true =>
        have d := ltI_iff.mp d
        refine List.pairwise_cons.mpr ⟨fun y hy => ?_, insU_sorted h.2⟩
        rcases mem_insU.mp hy with z | z
        · omega
        · exact h.1 y z
      | false => exact List.pairwise_cons.mpr h
theorem sortU_sorted : ∀ l : List Int, (sortU l).Pairwise (· < ·)
  | [] => .nil
  | k :: r => insU_sorted (sortU_sorted r)
theorem mem_sortU {j : Int} : ∀ {l : List Int}, j ∈ sortU l ↔ j ∈ l
  | [] => Iff.rfl
  | k :: r => by show j ∈ insU k (sortU r) ↔ _; rw [mem_insU, mem_sortU, List.mem_cons]
theorem asc_one : ∀ {l m : List Int}, l.Pairwise (· < ·) → m.Pairwise (· < ·) → (∀ k, k ∈ l ↔ k ∈ m) → l = m
  | [], [], _, _, _ => rfl
  | [], y :: m, _, _, h => absurd ((h y).mpr List.mem_cons_self) (by simp)
  | x :: l, [], _, _, h => absurd ((h x).mp List.mem_cons_self) (by simp)
  | x :: l, y :: m, hl, hm, h => by
    rw [List.pairwise_cons] at hl hm
    have e : x = y := by
      rcases List.mem_cons.mp ((h x).mp List.mem_cons_self) with z | z
      · exact z
      · rcases List.mem_cons.mp ((h y).mpr List.mem_cons_self) with w | w
        · exact w.symm
        · have := hl.1 y w
          have := hm.1 x z
          omega
    subst e
    rw [asc_one hl.2 hm.2 fun k => ?_]
    constructor
    · intro hk
      rcases List.mem_cons.mp ((h k).mp (List.mem_cons_of_mem _ hk)) with z | z
      · have := hl.1 k hk; omega
      · exact z
    · intro hk
      rcases List.mem_cons.mp ((h k).mpr (List.mem_cons_of_mem _ hk)) with z | z
      · have := hm.1 k hk; omega
      · exact z
end Nc
namespace Nc
open PySem PySem.Spec PySem.W PyProof.Rows L2
/-! ## sorted(set(e)), len(set(e)), by values -/
abbrev leD : D → D → Bool := dataLe false pdD
abbrev leT : D × Addr → D × Addr → Bool := dataLe false fun t => pdD t.1
abbrev nkT : D × Addr → NestedKey := fun t => nkD t.1
/-- tuples that may stand in a set, and the set be sorted -/
structure SetT {X : Cx} (ρ : Rho) (H : Hp) (xs : List V) (ts : List (D × Addr)) : Prop where
  eq : xs = ts.map fun t => V.ref t.2
  rp : Rps (kwOf X) ρ H (ts.map (·.1)) xs
  few : ts.length ≤ 63
  pur : ∀ t ∈ ts, purD t.1 = true ∧ (nkD t.1).depth ≤ 8
def tSet (X : Cx) (td : TE) (R : List V → Hp → VK → Prop) : TE := fun σ H Q => td σ H fun x H1 => ∃ a xs, x = .ref a ∧ (SqL X.K H1 a xs ∨ SqT X.K H1 a xs) ∧ R xs H1 Q
structure SortT (us : List (D × Addr)) : Prop where
  al : ∀ p ∈ us, ∀ q ∈ us, alike (pdD p.1) (pdD q.1) = true
  full : ∀ p ∈ us, ∃ x r, pdD p.1 = .tuple (x :: r)
  dep : ∀ p ∈ us, (pdD p.1).depth ≤ 12
  up : strictB leT (sortS leT us) = true
def rSortSetP (X : Cx) : List V → Hp → VK → Prop := fun xs H1 Q =>
  (∃ ns, xs = ns.map V.int ∧ ns.length ≤ 63 ∧ ∀ p, H1 p = none → Q (.ref p) (upd H1 p (.lst ((sortU ns).map V.int)))) ∨
  (∃ ρ ts, SetT (X := X) ρ H1 xs ts ∧ SortT (uqG nkT [] ts) ∧ ∀ p, H1 p = none → Q (.ref p) (upd H1 p (.lst ((sortS leT (uqG nkT [] ts)).map fun t => V.ref t.2))))
def rLenSetP (X : Cx) : List V → Hp → VK → Prop := fun xs H1 Q =>
  (∃ ns, xs = ns.map V.int ∧ ns.length ≤ 63 ∧ Q (.int ((sortU ns).length : Nat)) H1) ∨
  (∃ ρ ts, SetT (X := X) ρ H1 xs ts ∧ Q (.int ((uqG nkT [] ts).length : Nat)) H1)
section
variable {X : Cx} {pins : List (Addr × Obj)} {σ : L2.St} {H : Hp} {s : Shared}
theorem int_vals : ∀ {ns : List Int} {us : List Value}, Vals (ns.map V.int) us → IntsAre us ns
  | [], _, .nil => .nil
  | n :: ns, _, .cons r t => by
    obtain ⟨tk, rfl⟩ := r
    exact .cons n tk (int_vals t)
theorem ref_vals : ∀ {bs : List Addr} {us : List Value}, Vals (bs.map V.ref) us → us = bs.map Value.ref
  | [], _, .nil => rfl
  | b :: bs, _, .cons r t => by
    cases r
    rw [ref_vals t]; rfl
theorem lst_end {s' : Shared} {p c : Nat} {out : Array Value} {vs : List V} {Q : VK} (I : Inv X pins σ H s) (k : ∀ (b : Addr) (o : Obj), s.heap.get? b = some o → s'.heap.get? b = some o) (g : s'.gens = s.gens) (o : s'.os = s.os) (hp : s.heap.objs.size ≤ p)
    (hg : s'.heap.get? p = some (seqObj "list" out c)) (hv : Vals vs out.toList) (hl : vs.length ≤ sizeLine) (q : ∀ p, H p = none → Q (.ref p) (upd H p (.lst vs))) : EP X pins σ Q (Value.ref p) s' := by
  have hn : H p = none := I.hok.fresh hp
  have J : Inv X pins σ (upd H p (.lst vs)) { s with heap := s'.heap, gens := s'.gens, drawn := s'.drawn, toks := s'.toks } :=
    I.call (ch := []) (Un.laid k hp hn) (I.hok.laid k hp ⟨hl, out.toList, c, hv, hg⟩) (by rw [g]; exact I.bare) (fun _ z => nomatch z)
  have e : s' = { s with heap := s'.heap, gens := s'.gens, drawn := s'.drawn, toks := s'.toks } := by
    cases s'
    cases s
    cases o
    rfl
  rw [e]
  exact ⟨.ref p, _, J, rfl, q p hn⟩
/-- set(e), of tuples or of ints -/
theorem pe_setOf {e : Expr} {td : TE} {p2 pos2 : Pos} {R : List V → Hp → VK → Prop} {Q : Value → Shared → Prop} {Q0 : VK} (hm2 : X.mg "set" = none) (hd : PE X e td) (hg2 : Gl X "set") (h1 : starEach [e] X.env = (false, eval e X.env) :: starEach [] X.env) (I : Inv X pins σ H s)
    (h : tSet X td R σ H Q0)
    (k : ∀ (s1 : Shared) (H1 : Hp) (a : Addr) (xs : List V) (us : List Value), Inv X pins σ H1 s1 → Vals xs us → (s1.heap.IsList a us.toArray ∨ s1.heap.IsTuple a us.toArray) → R xs H1 Q0 → wpAny (model X.prog X.w) X.A (call (.type "set") [.ref a]) Q X.xe s1) :
    wpAny (model X.prog X.w) X.A (eval (.Call (.Name "set" p2) [e] [] pos2) X.env) Q X.xe s := by
  refine wpAny_Call_Name_kw (ld_blt (u := .type "set") I hg2 hm2 PyProof.Rows.boot_set ?_)
  rw [h1]
  refine PySem.callWith_type1 (thn (hd.run pins s σ H _ I h) fun v s1 ⟨x, H1, I1, r1, a, xs, ex, sq, q⟩ => ?_)
  subst ex; cases r1
  rcases sq with sq | sq
  · obtain ⟨its, rv, hl, hz⟩ := I1.list sq
    exact k s1 H1 a xs its I1 rv (.inl hl.isList) q
  · obtain ⟨its, rv, hl, hz⟩ := I1.tuple sq
    exact k s1 H1 a xs its I1 rv (.inr hl) q
/-- the keys of such tuples, as they stand -/
theorem setT_keys {ρ : Rho} {H1 : Hp} {xs : List V} {ts : List (D × Addr)} {us : List Value} (I : Inv X pins σ H1 s) (S : SetT (X := X) ρ H1 xs ts) (rv : Vals xs us) :
    us = ts.map (fun t => Value.ref t.2) ∧ ∀ t ∈ ts, KeyAt s.heap (nkT t) t.2 ∧ Reads s.heap (.ref t.2) (pdD t.1) [] := by
  have e := S.eq
  have rp := S.rp
  have pu := S.pur
  clear S
  subst e
  refine ⟨?_, ?_⟩
  · have := ref_vals (bs := ts.map (·.2)) (us := us) (by rw [List.map_map]; exact rv)
    rw [this, List.map_map]; rfl
  · clear rv
    induction ts with
    | nil => intro t ht; cases ht
    | cons t r ih =>
      rw [List.map_cons, List.map_cons] at rp
      obtain ⟨x, q, e, r1, r2⟩ := Rps.cons_iff.mp rp
      cases e
      intro u hu
      rcases List.mem_cons.mp hu with z | z
      · subst z
        obtain ⟨p1, p2⟩ := pu u List.mem_cons_self
        exact ⟨⟨nk_is I _ _ _ _ (pur_nk _ p1) r1 rfl, p2, pur_plain _ p1⟩, pur_reads I _ _ _ p1 r1 rfl⟩
      · exact ih (fun y hy => pu y (List.mem_cons_of_mem _ hy)) r2 u z
def keyT (t : D × Addr) : Addr × NestedKey := (t.2, nkT t)
/-- set(e) of such tuples -/
theorem setT_call {k : Nat} (hr : Room k X.A) (hc : X.calm = true) {ρ : Rho} {H1 : Hp} {xs : List V} {ts : List (D × Addr)} {us : List Value} {a : Addr} {Q : Value → Shared → Prop} (I : Inv X pins σ H1 s) (S : SetT (X := X) ρ H1 xs ts) (rv : Vals xs us) (hl : s.heap.IsList a us.toArray ∨ s.heap.IsTuple a us.toArray)
    (h : ∀ (h' : Heap) (tk : Nat) (L : List (Addr × NestedKey)) (es : Array (Int × Value)) (ep : Nat) (t : SetTable), TabN X.w h' s.heap.objs.size L es ep t → L.Perm ((uqG nkT [] ts).map keyT) → (∀ (b : Addr) (o : Obj), s.heap.get? b = some o → h'.get? b = some o) → Q (.ref s.heap.objs.size) { heap := h', gens := s.gens, drawn := s.drawn, toks := tk, os := s.os }) :
    wpAny (model X.prog X.w) X.A (call (.type "set") [.ref a]) Q X.xe s := by
  obtain ⟨e1, e2⟩ := setT_keys I S rv
  have hit : us.toArray.toList = (ts.map keyT).map fun p => Value.ref p.1 := by
    rw [e1, List.map_map]; rfl
  have hk : ∀ p ∈ ts.map keyT, KeyAt s.heap p.2 p.1 := fun p hp => by
    obtain ⟨t, ht, rfl⟩ := List.mem_map.mp hp
    exact (e2 t ht).1
  have hf : (ts.map keyT).length < 64 := by rw [List.length_map]; have := S.few; omega
  have hu : X.A.units + 12 < cLine := by have := hr.units; omega
  have eu : uq [] (ts.map keyT) = (uqG nkT [] ts).map keyT := by
    rw [uq_eq]
    exact uqG_map keyT (fun _ => rfl) ts []
  rcases hl with hl | hl
  · exact call_setN (ts.map keyT) (I.ok.hd hc) hl hit hk hf hu fun h' tk L es ep t q1 q2 q3 => h h' tk L es ep t q1 (by rw [← eu]; exact q2) q3
  · exact call_setNT (ts.map keyT) (I.ok.hd hc) hl hit hk hf hu fun h' tk L es ep t q1 q2 q3 => h h' tk L es ep t q1 (by rw [← eu]; exact q2) q3
theorem uqG_sub {α : Type} (key : α → NestedKey) : ∀ (l acc : List α), ∀ p ∈ uqG key acc l, p ∈ acc ∨ p ∈ l
  | [], acc, p, h => .inl h
  | q :: l, acc, p, h => by
    unfold uqG at h
    cases c : memK (key q) (acc.map key) with
    | true =>
      rw [c] at h
      rcases uqG_sub key l acc p h with z | z
      · exact .inl z
      · exact .inr (List.mem_cons_of_mem _ z)
    | false =>
      rw [c] at h
      rcases uqG_sub key l (q :: acc) p h with z | z
      · rcases List.mem_cons.mp z with y | y
        · exact .inr (y ▸ List.mem_cons_self)
        · exact .inl y
      · exact .inr (List.mem_cons_of_mem _ z)
theorem setI_call (hc : X.calm = true) {H1 : Hp} {ns : List Int} {us : List Value} {a : Addr} {Q : Value → Shared → Prop} (I : Inv X pins σ H1 s) (hn : ns.length ≤ 63) (rv : Vals (ns.map V.int) us) (hl : s.heap.IsList a us.toArray ∨ s.heap.IsTuple a us.toArray)
    (h : ∀ (h' : Heap) (tk c : Nat), SetR X.w h' s.heap.objs.size (fun j => decide (j ∈ ns)) c → c ≤ ns.length → (∀ (b : Addr) (o : Obj), s.heap.get? b = some o → h'.get? b = some o) → Q (.ref s.heap.objs.size) { heap := h', gens := s.gens, drawn := s.drawn, toks := tk, os := s.os }) :
    wpAny (model X.prog X.w) X.A (call (.type "set") [.ref a]) Q X.xe s := by
  have hi : IntsAre us.toArray.toList ns := int_vals rv
  have hb : ns.length + 1 < scanBound := by unfold scanBound; omega
  rcases hl with hl | hl
  · exact call_set_lstI ns (I.ok.hd hc) hl hi hb h
  · exact call_set_tupI ns (I.ok.hd hc) hl hi hb h
theorem pe_sortSet {k : Nat} {e : Expr} {td : TE} {p p2 pos pos2 : Pos} (hr : Room k X.A) (hc : X.calm = true) (hm : X.mg "sorted" = none) (hm2 : X.mg "set" = none) (hd : PE X e td) (hg : Gl X "sorted") (hg2 : Gl X "set") (h1 : starEach [e] X.env = (false, eval e X.env) :: starEach [] X.env)
    (h2 : starEach [.Call (.Name "set" p2) [e] [] pos2] X.env = (false, eval (.Call (.Name "set" p2) [e] [] pos2) X.env) :: starEach [] X.env) :
    PE X (.Call (.Name "sorted" p) [.Call (.Name "set" p2) [e] [] pos2] [] pos) (tSet X td (rSortSetP X)) := ⟨fun pins s σ H Q I h => by
  refine wpAny_Call_Name_kw (ld_blt (u := .builtin "sorted") I hg hm bt_sorted ?_)
  rw [h2]
  refine PySem.callWith_builtin1 (pe_setOf hm2 hd hg2 h1 I h fun s1 H1 a xs us I1 rv hl q => ?_)
  rcases q with ⟨ns, rfl, hn, q⟩ | ⟨ρ, ts, S, so, q⟩
  · refine setI_call hc I1 hn rv hl fun h' tk c R1 hcn k1 => ?_
    refine sorted_set (s := { heap := h', gens := s1.gens, drawn := s1.drawn, toks := tk, os := s1.os }) R1 (I1.ok.hd hc) (by omega) fun s2 p2 out c2 ns2 k2 g2 o2 hp2 hg2 hi2 hs2 hm2 hl2 => ?_
    have en : ns2 = sortU ns := asc_one hs2 (sortU_sorted ns) fun j => by rw [hm2, mem_sortU, decide_eq_true_eq]
    subst en
    have hlt : s1.heap.objs.size < h'.objs.size := R1.lt
    have hle : s1.heap.objs.size ≤ p2 := Nat.le_trans (Nat.le_of_lt hlt) hp2
    exact lst_end I1 (fun b o z => k2 b o (k1 b o z)) g2 o2 hle hg2 (vals_of_ints hi2) (by rw [List.length_map, hl2, sizeLine_eq]; omega) q
  · refine setT_call hr hc I1 S rv hl fun h' tk L es ep t R1 pL k1 => ?_
    obtain ⟨e1, e2⟩ := setT_keys I1 S rv
    have inU : ∀ q ∈ L, ∃ t ∈ uqG nkT [] ts, q = keyT t ∧ t ∈ ts := fun q hq => by
      obtain ⟨t, ht, rfl⟩ := List.mem_map.mp (pL.mem_iff.mp hq)
      refine ⟨t, ht, rfl, ?_⟩
      rcases uqG_sub nkT ts [] t ht with z | z
      · cases z
      · exact z
    have rd1 : ∀ q ∈ L, Reads h' (.ref q.1) (pdK q.2) [] := fun q hq => by
      obtain ⟨t, ht, rfl, hts⟩ := inU q hq
      have := Reads.keeps (fun b o e => k1 b o e) (e2 t hts).2
      show Reads h' (.ref t.2) (pdK (nkD t.1)) []
      rw [pdK_nk]
      exact this
    have inj : ∀ q ∈ L, ∀ r ∈ L, q.1 = r.1 → q = r := fun q hq r hr e => by
      have a1 := (R1.keys q hq).is
      have a2 := (R1.keys r hr).is
      rw [e] at a1
      have := nest_fun a1 a2
      cases q; cases r
      simp only [] at e this
      rw [e, this]
    have hu : X.A.units + 30 < cLine := by have := hr.units; omega
    refine sorted_setN (s := { heap := h', gens := s1.gens, drawn := s1.drawn, toks := tk, os := s1.os }) R1 (I1.ok.hd hc) (fun q => pdK q.2) rd1 inj (fun q hq r hr => ?_) (.inl fun q hq => ?_) (fun q hq => ?_) hu fun s2 p2 c2 L1 k2 g2 o2 hp2 p1 hg2 => ?_
    · obtain ⟨t, ht, rfl, _⟩ := inU q hq
      obtain ⟨u, hu, rfl, _⟩ := inU r hr
      show alike (pdK (nkD t.1)) (pdK (nkD u.1)) = true
      rw [pdK_nk, pdK_nk]
      exact so.al t ht u hu
    · obtain ⟨t, ht, rfl, _⟩ := inU q hq
      show ∃ x r, pdK (nkD t.1) = _
      rw [pdK_nk]
      exact so.full t ht
    · obtain ⟨t, ht, rfl, _⟩ := inU q hq
      show (pdK (nkD t.1)).depth ≤ 12
      rw [pdK_nk]
      exact so.dep t ht
    · have hle : s1.heap.objs.size ≤ p2 := by
        obtain ⟨o, ho, _⟩ := R1.ob
        exact Nat.le_trans (Nat.le_of_lt (Heap.lt_size ho)) hp2
      have hle2 : ∀ a b : D × Addr, dataLe false (fun q : Addr × NestedKey => pdK q.2) (keyT a) (keyT b) = leT a b := fun a b => by
        show (!dataLt (pdK (nkD b.1)) (pdK (nkD a.1))) = !dataLt (pdD b.1) (pdD a.1)
        rw [pdK_nk, pdK_nk]
      have T1 : TotalLe (dataLe false (fun q : Addr × NestedKey => pdK q.2)) := sortLe_total _ _ _
      have es : L1.mergeSort (dataLe false fun q => pdK q.2) = (sortS leT (uqG nkT [] ts)).map keyT := by
        rw [← sortS_map keyT hle2]
        refine strict_one (le := dataLe false fun q : Addr × NestedKey => pdK q.2) ?_ ?_ (sort_pairwise T1 L1)
        · refine strict_all T1 _ ?_
          rw [sortS_map keyT hle2, strictB_map keyT hle2]
          exact so.up
        · rw [sortS_eq T1]
          exact (List.mergeSort_perm _ _).trans ((p1.trans pL).trans (List.mergeSort_perm _ _).symm)
      rw [es, List.map_map] at hg2
      refine lst_end I1 (fun b o z => k2 b o (k1 b o z)) g2 o2 hle hg2 ?_ ?_ q
      · generalize sortS leT (uqG nkT [] ts) = zs
        induction zs with
        | nil => exact .nil
        | cons z r ih => exact .cons rfl ih
      · have : (uqG nkT [] ts).length ≤ 63 := by
          have := pL.length_eq
          rw [List.length_map] at this
          have := R1.few
          omega
        rw [List.length_map, sortS_len, sizeLine_eq]; omega⟩
end
end Nc
namespace Nc
open PySem PySem.Spec PySem.W PyProof.Rows L2
section
variable {X : Cx} {pins : List (Addr × Obj)} {σ : L2.St} {H : Hp} {s : Shared}
theorem Inv.tok' (I : Inv X pins σ H s) {h' : Heap} {tk : Nat} (k : ∀ (b : Addr) (o : Obj), s.heap.get? b = some o → h'.get? b = some o) : Inv X pins σ H { heap := h', gens := s.gens, drawn := s.drawn, toks := tk, os := s.os } :=
  I.call (ch := []) (g' := s.gens) (t' := tk) (d' := s.drawn) (Un.kept k) (I.hok.kept k) I.bare (fun _ z => nomatch z)
theorem pe_lenSet {k : Nat} {e : Expr} {td : TE} {p p2 pos pos2 : Pos} (hr : Room k X.A) (hc : X.calm = true) (hm : X.mg "len" = none) (hm2 : X.mg "set" = none) (hd : PE X e td) (hg : Gl X "len") (hg2 : Gl X "set") (h1 : starEach [e] X.env = (false, eval e X.env) :: starEach [] X.env)
    (h2 : starEach [.Call (.Name "set" p2) [e] [] pos2] X.env = (false, eval (.Call (.Name "set" p2) [e] [] pos2) X.env) :: starEach [] X.env) :
    PE X (.Call (.Name "len" p) [.Call (.Name "set" p2) [e] [] pos2] [] pos) (tSet X td (rLenSetP X)) := ⟨fun pins s σ H Q I h => by
  refine wpAny_Call_Name_kw (ld_blt (u := .builtin "len") I hg hm PySem.boot_len ?_)
  rw [h2]
  refine PySem.callWith_builtin1 (pe_setOf hm2 hd hg2 h1 I h fun s1 H1 a xs us I1 rv hl q => ?_)
  rcases q with ⟨ns, rfl, hn, q⟩ | ⟨ρ, ts, S, q⟩
  · refine setI_call hc I1 hn rv hl fun h' tk c R1 hcn k1 => ?_
    obtain ⟨o, es, ep, t, ho, hex, hdt, g, nd, hm3, hb, hf, hn3, hrs, hl3⟩ := R1
    have ec : es.size = (sortU ns).length := by
      have p : (es.toList.map keyOf).Perm (sortU ns) := (List.perm_ext_iff_of_nodup nd ((sortU_sorted ns).imp fun h => Int.ne_of_lt h)).mpr fun j => by
        rw [← hm3, decide_eq_true_eq, mem_sortU]
      have := p.length_eq
      rw [List.length_map, Array.length_toList] at this
      exact this
    refine PySem.call_len_set (s := { heap := h', gens := s1.gens, drawn := s1.drawn, toks := tk, os := s1.os }) ho hex hdt hf (by unfold scanBound at hb; omega) ?_
    rw [ec]
    exact ⟨.int ((sortU ns).length : Nat), H1, Inv.tok' I1 k1, ⟨_, rfl⟩, q⟩
  · refine setT_call hr hc I1 S rv hl fun h' tk L es ep t R1 pL k1 => ?_
    obtain ⟨o, ho, hex, hdt⟩ := R1.ob
    have ec : es.size = (uqG nkT [] ts).length := by rw [R1.size, pL.length_eq, List.length_map]
    have := R1.few
    have := R1.size
    refine PySem.call_len_set (s := { heap := h', gens := s1.gens, drawn := s1.drawn, toks := tk, os := s1.os }) ho hex hdt R1.fits (by omega) ?_
    rw [ec]
    exact ⟨.int ((uqG nkT [] ts).length : Nat), H1, Inv.tok' I1 k1, ⟨_, rfl⟩, q⟩⟩
end
/-! ## by data -/
def intsL : List D → Option (List Int)
  | [] => some []
  | .int i :: r => match intsL r with
    | some is => some (i :: is)
    | none => none
  | _ => none
theorem intsL_ok : ∀ {es : List D} {ns : List Int}, intsL es = some ns → es = ns.map D.int
  | [], _, h => by cases h; rfl
  | .int i :: r, ns, h => by
    unfold intsL at h
    cases z : intsL r with
    | none => rw [z] at h; cases h
    | some is => rw [z] at h; cases h; rw [intsL_ok z]; rfl
  | .non :: _, _, h => by cases h
  | .bl _ :: _, _, h => by cases h
  | .str _ :: _, _, h => by cases h
  | .tup _ :: _, _, h => by cases h
  | .cell _ :: _, _, h => by cases h
  | .frl _ :: _, _, h => by cases h
theorem ints_rps {K : KW} {ρ : Rho} {H : Hp} : ∀ {ns : List Int} {vs : List V}, Rps K ρ H (ns.map D.int) vs → vs = ns.map V.int
  | [], _, r => Rps.nil_iff.mp r
  | n :: ns, _, r => by
    obtain ⟨x, q, rfl, r1, r2⟩ := Rps.cons_iff.mp r
    rw [rp_int.mp r1, ints_rps r2]; rfl
theorem rps_ints {K : KW} {ρ : Rho} {H : Hp} : ∀ (ns : List Int), Rps K ρ H (ns.map D.int) (ns.map V.int)
  | [] => Rps.nil_iff.mpr rfl
  | n :: ns => Rps.cons (rp_int.mpr rfl) (rps_ints ns)
/-- what may be keys: tuples of ints and tuples, 63 at most -/
def keyOk (d : D) : Bool := match d with
  | .tup ds => purDs ds && Nat.ble (nkD d).depth 8
  | _ => false
def setOkD (es : List D) : Bool := Nat.ble es.length 63 && es.all keyOk
def uqD (es : List D) : List D := uqG nkD [] es
def fullD (d : D) : Bool := match d with
  | .tup (_ :: _) => true
  | _ => false
def sortOkD (us : List D) : Bool := alikeB (us.map pdD) && (us.all fullD && us.all fun d => Nat.ble (pdD d).depth 12)
def sortedD (us : List D) : List D := sortS leD us
def oSortSet (es : List D) (h1 : AH) : R D := match intsL es with
  | some ns => chk (Nat.ble ns.length 63) (mkL ((sortU ns).map .int) h1)
  | none => chk (setOkD es && (sortOkD (uqD es) && strictB leD (sortedD (uqD es)))) (mkL (sortedD (uqD es)) h1)
def oLenSet (es : List D) (h1 : AH) : R D := match intsL es with
  | some ns => chk (Nat.ble ns.length 63) (.ok (.int (sortU ns).length) h1)
  | none => chk (setOkD es) (.ok (.int (uqD es).length) h1)
def dSortSet (f : DE) : DE := fun s h => (f s h).bind fun x h1 => withS (seqOf x h1) fun es => oSortSet es h1
def dLenSet (f : DE) : DE := fun s h => (f s h).bind fun x h1 => withS (seqOf x h1) fun es => oLenSet es h1
def adrOf : V → Addr
  | .ref a => a
  | _ => 0
theorem alikeB_ok {ps : List PyData} (h1 : alikeB ps = true) : AllAlike ps := by
  unfold alikeB at h1
  simp only [Bool.or_eq_true, List.all_eq_true] at h1
  intro p hp q hq
  rcases h1 with h1 | h1
  · have a := h1 p hp
    have b := h1 q hq
    cases p with
    | tuple xs =>
      cases q with
      | tuple ys =>
        obtain ⟨is, rfl⟩ := Nc.ints_of a
        obtain ⟨js, rfl⟩ := Nc.ints_of b
        exact alike_ints is js
      | _ => cases b
    | _ => cases a
  · exact h1 p hp q hq
theorem setT_of {X : Cx} {ρ : Rho} {H : Hp} {es : List D} {xs : List V} (c : setOkD es = true) (r : Rps (kwOf X) ρ H es xs) : ∃ ts : List (D × Addr), ts.map (·.1) = es ∧ SetT (X := X) ρ H xs ts := by
  unfold setOkD at c
  simp only [Bool.and_eq_true, List.all_eq_true] at c
  obtain ⟨c1, c2⟩ := c
  have c1 := Nat.le_of_ble_eq_true c1
  have key : ∀ {es : List D} {xs : List V}, (∀ e ∈ es, keyOk e = true) → Rps (kwOf X) ρ H es xs → ∃ ts : List (D × Addr), ts.map (·.1) = es ∧ xs = ts.map fun t => V.ref t.2 := by
    intro es
    induction es with
    | nil => intro xs _ r; exact ⟨[], rfl, Rps.nil_iff.mp r⟩
    | cons d es ih =>
      intro xs hk r
      obtain ⟨x, q, rfl, r1, r2⟩ := Rps.cons_iff.mp r
      obtain ⟨ts, e1, e2⟩ := ih (fun e he => hk e (List.mem_cons_of_mem _ he)) r2
      have hd := hk d List.mem_cons_self
      cases d with
      | tup ds =>
        obtain ⟨a, ys, rfl, _⟩ := rp_tup.mp r1
        exact ⟨(.tup ds, a) :: ts, by rw [List.map_cons, e1], by rw [e2]; rfl⟩
      | _ => cases hd
  obtain ⟨ts, e1, e2⟩ := key c2 r
  refine ⟨ts, e1, e2, by rw [e1]; exact r, by rw [← e1, List.length_map] at c1; exact c1, fun t ht => ?_⟩
  have := c2 t.1 (by rw [← e1]; exact List.mem_map.mpr ⟨t, ht, rfl⟩)
  unfold keyOk at this
  split at this
  · rename_i ds e
    rw [Bool.and_eq_true] at this
    obtain ⟨t1, t2⟩ := this
    rw [e] at t2 ⊢
    exact ⟨t1, Nat.le_of_ble_eq_true t2⟩
  · cases this
theorem uqT {ts : List (D × Addr)} {es : List D} (e : ts.map (·.1) = es) : (uqG nkT [] ts).map (·.1) = uqD es := by
  subst e
  exact (uqG_map (fun t : D × Addr => t.1) (kb := nkD) (fun _ => rfl) ts []).symm
theorem sortT_of {ts : List (D × Addr)} {es : List D} (e : ts.map (·.1) = es) (c : sortOkD (uqD es) = true) (c2 : strictB leD (sortedD (uqD es)) = true) : SortT (uqG nkT [] ts) ∧ (sortS leT (uqG nkT [] ts)).map (·.1) = sortedD (uqD es) := by
  have eu := uqT e
  have em : (sortS leT (uqG nkT [] ts)).map (·.1) = sortedD (uqD es) := by
    unfold sortedD
    rw [← eu]
    exact (sortS_map (fun t : D × Addr => t.1) (lb := leD) (fun _ _ => rfl) _).symm
  refine ⟨?_, em⟩
  unfold sortOkD at c
  simp only [Bool.and_eq_true, List.all_eq_true] at c
  obtain ⟨c1, c3, c4⟩ := c
  have al := alikeB_ok c1
  have mem : ∀ t ∈ uqG nkT [] ts, t.1 ∈ uqD es := fun t ht => by rw [← eu]; exact List.mem_map.mpr ⟨t, ht, rfl⟩
  refine ⟨fun p hp q hq => al _ (List.mem_map.mpr ⟨p.1, mem p hp, rfl⟩) _ (List.mem_map.mpr ⟨q.1, mem q hq, rfl⟩), fun p hp => ?_, fun p hp => Nat.le_of_ble_eq_true (c4 _ (mem p hp)), ?_⟩
  · have := c3 _ (mem p hp)
    unfold fullD at this
    split at this
    · rename_i d r e
      rw [e]
      exact ⟨pdD d, pdDs r, rfl⟩
    · cases this
  · rw [← em, strictB_map (fun t : D × Addr => t.1) (la := leT) (fun _ _ => rfl)] at c2
    exact c2
theorem rps_sub {X : Cx} {ρ : Rho} {H : Hp} {ts : List (D × Addr)} : Rps (kwOf X) ρ H (ts.map (·.1)) (ts.map fun t => V.ref t.2) → ∀ t ∈ ts, Rp (kwOf X) ρ H t.1 (.ref t.2) := by
  induction ts with
  | nil => intro _ t ht; cases ht
  | cons t r ih =>
    intro h u hu
    rw [List.map_cons, List.map_cons] at h
    obtain ⟨x, q, e, r1, r2⟩ := Rps.cons_iff.mp h
    cases e
    rcases List.mem_cons.mp hu with z | z
    · subst z; exact r1
    · exact ih r2 u z
theorem rps_of {X : Cx} {ρ : Rho} {H : Hp} : ∀ {us : List (D × Addr)}, (∀ t ∈ us, Rp (kwOf X) ρ H t.1 (.ref t.2)) → Rps (kwOf X) ρ H (us.map (·.1)) (us.map fun t => V.ref t.2)
  | [], _ => Rps.nil_iff.mpr rfl
  | t :: r, h => Rps.cons (h t List.mem_cons_self) (rps_of fun u hu => h u (List.mem_cons_of_mem _ hu))
theorem mem_sortS {α : Type} {le : α → α → Bool} {x : α} : ∀ {l : List α}, x ∈ sortS le l → x ∈ l
  | [], h => h
  | y :: r, h => by
    rcases mem_insS (show x ∈ insS le y (sortS le r) from h) with z | z
    · rw [z]; exact List.mem_cons_self
    · exact List.mem_cons_of_mem _ (mem_sortS z)
section
variable {X : Cx} {T : XT} {W : WX} {e : Expr} {f : DE} {p p2 pos pos2 : Pos} {k : Nat}
theorem set_imp {Rv : List V → Hp → VK → Prop} {o : List D → AH → R D} (ho : ∀ (E : XK) ρ H h es xs Q, HR (kwOf X) ρ H h → Rps (kwOf X) ρ H es xs → P1 (kwOf X) T E ρ H (o es h) Q → Rv xs H Q) :
    ∀ σ H Q, tD (kwOf X) T W (fun s h => (f s h).bind fun x h1 => withS (seqOf x h1) fun es => o es h1) σ H Q → tSet X (tD (kwOf X) T W f) Rv σ H Q := fun σ H Q ⟨ρ, s, h, st, hr, q⟩ =>
  tD_bind st hr q fun x h1 ρ1 H1 v g1 hr1 st1 r1 q1 => by
    obtain ⟨es, e1, q2⟩ := Post.withS q1
    obtain ⟨a, xs, rfl, rs, sq⟩ := seqOf_ok hr1 r1 e1
    refine ⟨a, xs, rfl, ?_, ho _ ρ1 H1 h1 es xs Q hr1 rs q2⟩
    rcases sq with ⟨sq, _⟩ | ⟨sq, _⟩
    · exact .inr sq
    · exact .inl (.inl (.inl sq))
theorem se_sortSet (hr : Room k X.A) (hc : X.calm = true) (hm : X.mg "sorted" = none) (hm2 : X.mg "set" = none) (ha : SE X T W e f) (hg : Gl X "sorted" := by rfl) (hg2 : Gl X "set" := by rfl) (h1 : starEach [e] X.env = (false, eval e X.env) :: starEach [] X.env := by rfl)
    (h2 : starEach [.Call (.Name "set" p2) [e] [] pos2] X.env = (false, eval (.Call (.Name "set" p2) [e] [] pos2) X.env) :: starEach [] X.env := by rfl) : SE X T W (.Call (.Name "sorted" p) [.Call (.Name "set" p2) [e] [] pos2] [] pos) (dSortSet f) :=
  ⟨PE.imp (pe_sortSet hr hc hm hm2 ha.p hg hg2 h1 h2) (set_imp fun E ρ H h es xs Q hr rs q => by
    unfold oSortSet at q
    split at q
    · rename_i ns e
      obtain ⟨c, q⟩ := q.chk
      have := intsL_ok e
      subst this
      rw [ints_rps rs]
      exact .inl ⟨ns, rfl, Nat.le_of_ble_eq_true c, (mkL_ok hr (rps_ints (sortU ns)) q).2⟩
    · obtain ⟨c, q⟩ := q.chk
      simp only [Bool.and_eq_true] at c
      obtain ⟨ts, e1, S⟩ := setT_of c.1 rs
      obtain ⟨so, em⟩ := sortT_of e1 c.2.1 c.2.2
      refine .inr ⟨ρ, ts, S, so, ?_⟩
      have ers : Rps (kwOf X) ρ H (ts.map (·.1)) (ts.map fun t => V.ref t.2) := by rw [← S.eq]; exact S.rp
      have all := rps_sub ers
      refine (mkL_ok hr (vs := (sortS leT (uqG nkT [] ts)).map fun t => V.ref t.2) ?_ q).2
      rw [← em]
      refine rps_of fun t ht => all t ?_
      rcases uqG_sub nkT ts [] t (mem_sortS ht) with z | z
      · cases z
      · exact z)⟩
theorem se_lenSet (hr : Room k X.A) (hc : X.calm = true) (hm : X.mg "len" = none) (hm2 : X.mg "set" = none) (ha : SE X T W e f) (hg : Gl X "len" := by rfl) (hg2 : Gl X "set" := by rfl) (h1 : starEach [e] X.env = (false, eval e X.env) :: starEach [] X.env := by rfl)
    (h2 : starEach [.Call (.Name "set" p2) [e] [] pos2] X.env = (false, eval (.Call (.Name "set" p2) [e] [] pos2) X.env) :: starEach [] X.env := by rfl) : SE X T W (.Call (.Name "len" p) [.Call (.Name "set" p2) [e] [] pos2] [] pos) (dLenSet f) :=
  ⟨PE.imp (pe_lenSet hr hc hm hm2 ha.p hg hg2 h1 h2) (set_imp fun E ρ H h es xs Q hr rs q => by
    unfold oLenSet at q
    split at q
    · rename_i ns e
      obtain ⟨c, q⟩ := q.chk
      have := intsL_ok e
      subst this
      rw [ints_rps rs]
      exact .inl ⟨ns, rfl, Nat.le_of_ble_eq_true c, q.here hr _ (rp_int.mpr rfl)⟩
    · obtain ⟨c, q⟩ := q.chk
      obtain ⟨ts, e1, S⟩ := setT_of c rs
      refine .inr ⟨ρ, ts, S, ?_⟩
      have : (uqG nkT [] ts).length = (uqD es).length := by rw [← uqT e1, List.length_map]
      rw [this]
      exact q.here hr _ (rp_int.mpr rfl))⟩
end
end Nc
namespace Nc
open PySem PySem.Spec PyProof.Rows L2
/-! ## a def that looks at none of its arguments, asked with nothing in memory -/
def runFree (g : DS) (n : Nat) : R D := match g (List.replicate n none) [] with
  | .nx _ h1 => .ok .non h1
  | .rt d h1 => .ok d h1
  | .ex e _ h1 => .ex e h1
  | _ => .no
def okT (r : R D) : Bool := match r with
  | .ok (.bl true) _ => true
  | _ => false
def spTrue (n : Nat) : Sp := fun vs H Q _ => vs.length = n ∧ ∀ H', Q (.bl true) H'
theorem hr0 {K : KW} {H : Hp} : HR K (fun _ => none) H [] := ⟨fun n m a h _ => (by cases h), fun n _ => rfl, fun n a h => (by cases h), fun n c h => (by cases h)⟩
theorem free_start {K : KW} {H : Hp} {N : List Str} {vs : List V} (h : vs.length ≤ N.length) : StR K (fun _ => none) H (L2.start N vs) (List.replicate N.length none) := by
  refine ⟨by unfold L2.start; simp; omega, fun i d e => ?_⟩
  rw [List.getElem?_replicate] at e
  split at e <;> cases e
theorem fn_okFree {P : Program} {w : World} {K : PySem.W.Frag} {mg : Str → Option Value} {base : Heap} {T : XT} {x qual : Str} {st : Stmt} {f : Addr} {fd : FuncData} {N ps : List Str} {k : Nat} {g : DS} (Fn : Fun K x qual st f fd) (S : FnScope N ps (defScope st)) (hl : ps.length ≤ N.length)
    (body : ∀ (cdv : Value) (A : Around) (outer : List Env) (s : Shared) (H : Hp) (E : XK), Room k (A.deeper (envOfC qual (defScope st) s.heap.objs.size f cdv)) →
      SSs (cxOf (L2.CX P w) P w K mg base N qual (defScope st) f cdv A outer s H E) T (wOf E) (defBody st) g)
    (ok : okT (runFree g N.length) = true) : FnOk P w K mg base (L2.CX P w) (k + 1) f fd ps (spTrue ps.length) := by
  refine Fn.okX S (fun vs H Q E h => h.1) fun cdv A outer s H vs Q E hrm ⟨hv, q⟩ => ?_
  refine ⟨_, (body cdv A outer s H E hrm).p, fun _ => none, List.replicate N.length none, [], free_start (by omega), hr0, ?_⟩
  unfold runFree at ok
  cases z : g (List.replicate N.length none) [] with
  | nx s1 h1 => rw [z] at ok; cases ok
  | rt d h1 =>
    rw [z] at ok
    cases d with
    | bl b =>
      cases b with
      | true => exact fun ρ1 H1 v g1 hr1 r1 => by rw [rp_bl.mp r1]; exact q H1
      | false => cases ok
    | _ => cases ok
  | ex e s1 h1 => rw [z] at ok; cases ok
  | bk s1 h1 => rw [z] at ok; cases ok
  | ct s1 h1 => rw [z] at ok; cases ok
  | no => rw [z] at ok; cases ok
end Nc
namespace Nc
open PySem PySem.Spec PyProof.Rows L2
/-! ## what the top has left -/
theorem mkDf {K : PySem.W.Frag} {h : Heap} {mg : Str → Option Value} {x : Str} {st : Stmt} {ps : List Str} {f : Addr} {od an : Option Addr} {sl : Array (Option Value)} {oc kV dc pm cd ct : Value} (X : K.In h) (G : h.Ns mainGlobals mg)
    (a : PySem.W.nsIn K mainGlobals x = some (some (.ref f))) (l : K.lookup f = some ⟨oc, od, .func (PySem.W.fnOf x x (defArgs st) (defBody st) (defScope st) .none kV dc pm an cd ct), sl⟩) (c : PySem.W.codeIn K cd x = true) (k : PySem.W.keepIn K (.ref f) = true)
    (b : ∀ (kV doc pm : Value) (an : Option Addr) (cdv ct : Value) (us : List Value), us.length = ps.length → bindArgs (PySem.W.fnOf x x (defArgs st) (defBody st) (defScope st) Value.none kV doc pm an cdv ct) { pos := us } = pure (ps.zip us)) : Nonempty (Df K mg x st ps) :=
  ⟨⟨f, _, fun_mk l c k, PySem.W.mg_of X G a, (fun_mk l c k).binds b⟩⟩
theorem kit_of {K : PySem.W.Frag} {C : Addr} {B : String} (hB : PySem.W.kitMeta B = true) (eB : PySem.W.subIn K (.ref C) (.type B) = some true) : PySem.W.kitOne K (.ref C) (.type B) = some true := by
  unfold PySem.W.kitOne PySem.W.kitCls
  rw [if_neg (by show ¬ (Value.ref C == Value.type B) = true; simp)]
  simp only []
  rw [if_pos hB]; exact eB
theorem ex_of {K : PySem.W.Frag} {C N : Addr} {nm qn : Str} {bs bm : List Value} {sn : List Str} {sub : List Value} {ab : Bool} {col : Option Bool} {dd : Option Addr} {m0 m1 m2 m3 m5 : Option Value} (xL : K.lookup C = some (excClassObj nm qn C N bs bm true sn sub ab col dd m0 m1 m2 m3 m5 "ValueError.__new__")) (tyC : PySem.W.typeIn K (.ref C) = some (.type "type"))
    (exC : PySem.W.subIn K (.ref C) (.type "BaseException") = some true) (sC : PySem.W.subIn K (.ref C) (.ref C) = some true) : PySem.W.exmOne K (.ref C) (.ref C) = some true := by
  unfold PySem.W.exmOne PySem.W.kitCls
  rw [exC]
  rw [if_pos (by rfl)]
  simp only []
  rw [if_pos, sC]
  rw [tyC]
  have : (PySem.W.clsIn K C).isSome = true := by
    unfold PySem.W.clsIn
    rw [xL]
    rfl
  rw [this]; rfl
theorem mkEx {K : PySem.W.Frag} {h : Heap} {mg : Str → Option Value} {x q : Str} {st : Stmt} {B : String} {C f : Addr} {od an : Option Addr} {sl : Array (Option Value)} {oc kV dc pm cd ct : Value} {nm qn : Str} {N : Addr} {bs bm : List Value} {sn : List Str} {sub : List Value} {ab : Bool} {col : Option Bool} {dd : Option Addr} {m0 m1 m2 m3 m5 : Option Value} (X : K.In h) (G : h.Ns mainGlobals mg)
    (aC : PySem.W.nsIn K mainGlobals x = some (some (.ref C)))
    (xL : K.lookup C = some (excClassObj nm qn C N bs bm true sn sub ab col dd m0 m1 m2 m3 m5 "ValueError.__new__")) (xV : HandSPX.refsVE bm = true)
    (sa : PySem.W.findIn K (.ref C) "__setattr__" = some (some (.builtin "object.__setattr__"))) (exC : PySem.W.subIn K (.ref C) (.type "BaseException") = some true) (tyC : PySem.W.typeIn K (.ref C) = some (.type "type")) (kC : PySem.W.keepIn K (.ref C) = true)
    (a1 : PySem.W.findIn K (.ref C) "__init__" = some (some (.ref f))) (t1 : PySem.W.typeIn K (.ref f) = some (.type "function"))
    (l : K.lookup f = some ⟨oc, od, .func (PySem.W.fnOf "__init__" q (defArgs (clsInit st)) (defBody (clsInit st)) (defScope (clsInit st)) .none kV dc pm an cd ct), sl⟩) (c : PySem.W.codeIn K cd q = true) (k : PySem.W.keepIn K (.ref f) = true)
    (b : ∀ (kV doc pm : Value) (an : Option Addr) (cdv ct : Value) (us : List Value), us.length = (["self"] : List Str).length → bindArgs (PySem.W.fnOf "__init__" q (defArgs (clsInit st)) (defBody (clsInit st)) (defScope (clsInit st)) Value.none kV doc pm an cdv ct) { pos := us } = pure ((["self"] : List Str).zip us))
    (hg : PySem.W.findIn K (.ref C) "__getattribute__" = some (some (.builtin "BaseException.__getattribute__"))) (hk : PySem.W.findIn K (.ref C) "__getattr__" = some none) (hd : PySem.W.hasDictIn K C = true) (ha : PySem.W.findIn K (.ref C) "__class__" = some (some (.builtin "object.__class__")))
    (hn : PySem.W.specialIn K (.builtin "object.__class__") "__get__" = some (some (.builtin "getset_descriptor.__get__"))) (ht : PySem.W.takesIn K (.builtin "object.__class__") = some true) (hm : PySem.W.mroIn K C (.type "object") = some true)
    (sC : PySem.W.subIn K (.ref C) (.ref C) = some true) (hB : PySem.W.kitMeta B = true) (eB : PySem.W.subIn K (.ref C) (.type B) = some true) : Nonempty (Ex K mg x q st B) :=
  ⟨⟨C, f, _, ⟨⟨nm, qn, N, bs, bm, sn, sub, ab, col, dd, m0, m1, m2, m3, m5, xL, xV⟩, sa, exC, tyC, kC⟩, a1, t1, fun_mk l c k, (fun_mk l c k).binds b, PySem.W.mg_of X G aC, ⟨hg, hk, exC, hd, ha, hn, ht, hm⟩, kit_of hB eB, ex_of xL tyC exC sC⟩⟩
theorem no_end {P : Program} {w : World} {H : Hp} {s : Shared} {e : Value} {s' : Shared} (h : L2.CX P w [] H s (fun _ _ _ => False) e s') : False := by
  obtain ⟨_, _, _, _, _, _, _, _, _, _, _, _, z⟩ := h
  exact z
end Nc
namespace Nc
open PySem PySem.Spec PyProof.Rows L2
/-! ## // % ** << & -/
def posI (i : Int) : Bool := match i with
  | .ofNat (_ + 1) => true
  | _ => false
theorem posI_ok {i : Int} (h : posI i = true) : 0 < i := by
  unfold posI at h
  split at h
  · exact Int.natCast_pos.mpr (Nat.succ_pos _)
  · cases h
def divOk (j : Int) : Bool := posI j && Nat.blt (Nat.log2 j.natAbs) 9000
def dIntOp (c : Int → Int → Bool) (g : Int → Int → Int) (x y : D) (h : AH) : R D := withS (intD x) fun i => withS (intD y) fun j => chk (c i j) (.ok (.int (g i j)) h)
section
variable {X : Cx} {T : XT} {W : WX} {pos : Pos} {a b e : Expr} {f g : DE} {k : Nat}
theorem o_intOp {K : KW} {C : Int → Int → Prop} {c : Int → Int → Bool} {g : Int → Int → Int} (hc : ∀ i j, c i j = true → C i j) : O2 K T (rI C fun i j => .int (g i j)) (dIntOp c g) := fun E ρ H h x y v u Q hr rx ry p => by
  obtain ⟨i, e1, p⟩ := Post.withS p
  obtain ⟨j, e2, p⟩ := p.withS
  obtain ⟨cc, p⟩ := p.chk
  exact ⟨i, j, intD_ok rx e1, intD_ok ry e2, hc i j cc, p.here hr _ (rp_int.mpr rfl)⟩
theorem se_fdiv (ha : SE X T W a f) (hb : SE X T W b g) : SE X T W (.BinOp a .FloorDiv b pos) (dOp (dIntOp (fun _ j => divOk j) fun i j => i / j) f g) :=
  se_op op_fdivW (o_intOp fun i j h => by
    unfold divOk at h
    rw [Bool.and_eq_true] at h
    exact ⟨posI_ok h.1, Nat.blt_eq ▸ h.2⟩) ha hb
theorem se_mod (ha : SE X T W a f) (hb : SE X T W b g) : SE X T W (.BinOp a .Mod b pos) (dOp (dIntOp (fun _ j => posI j) fun i j => i % j) f g) :=
  se_op op_mod (o_intOp fun i j h => posI_ok h) ha hb
def nnI (i : Int) : Bool := match i with
  | .ofNat _ => true
  | _ => false
theorem nnI_ok {i : Int} (h : nnI i = true) : 0 ≤ i := by
  unfold nnI at h
  split at h
  · exact Int.natCast_nonneg _
  · cases h
def powOk (i j : Int) : Bool := nnI j && (Nat.ble j.natAbs 1000000 && Nat.blt i.natAbs 18446744073709551616)
theorem powOk_ok {i j : Int} (h : powOk i j = true) : CPow i j := by
  unfold powOk at h
  simp only [Bool.and_eq_true] at h
  obtain ⟨h1, h2, h3⟩ := h
  have h1 := nnI_ok h1
  have h2 := Nat.le_of_ble_eq_true h2
  have h3 : i.natAbs < 18446744073709551616 := Nat.blt_eq ▸ h3
  exact ⟨h1, by omega, by simpa using h3⟩
theorem se_pow (ha : SE X T W a f) (hb : SE X T W b g) : SE X T W (.BinOp a .Pow b pos) (dOp (dIntOp powOk fun i j => i ^ j.toNat) f g) := se_op op_pow (o_intOp fun i j h => powOk_ok h) ha hb
theorem se_shl (ha : SE X T W a f) (hb : SE X T W b g) : SE X T W (.BinOp a .LShift b pos) (dOp (dIntOp powOk fun i j => i * 2 ^ j.toNat) f g) := se_op op_shl (o_intOp fun i j h => powOk_ok h) ha hb
def dAndI (x y : D) (h : AH) : R D := withS (intD x) fun i => withS (intD y) fun j => .ok (.int (Builtin.bitAnd i j)) h
theorem se_bitand (ha : SE X T W a f) (hb : SE X T W b g) : SE X T W (.BinOp a .BitAnd b pos) (dOp dAndI f g) := se_op op_and (fun E ρ H h x y v u Q hr rx ry p => by
  obtain ⟨i, e1, p⟩ := Post.withS p
  obtain ⟨j, e2, p⟩ := p.withS
  exact ⟨i, j, intD_ok rx e1, intD_ok ry e2, p.here hr _ (rp_int.mpr rfl)⟩) ha hb
/-! ## abs, int, min, max, sum, gcd -/
theorem bt_abs : bootBuiltins ("abs" : Str) = some (.builtin "abs") := by rfl
theorem bt_int : bootBuiltins ("int" : Str) = some (.type "int") := by rfl
theorem bt_min : bootBuiltins ("min" : Str) = some (.builtin "min") := by rfl
theorem bt_sum : bootBuiltins ("sum" : Str) = some (.builtin "sum") := by rfl
def absI (i : Int) : Int := match i with
  | .ofNat n => .ofNat n
  | .negSucc n => .ofNat (n + 1)
theorem absI_eq (i : Int) : absI i = if i < 0 then -i else i := by
  cases i with
  | ofNat n => exact (if_neg (c := Int.ofNat n < 0) (Int.not_lt.mpr (Int.natCast_nonneg n))).symm
  | negSucc n => exact (if_pos (c := Int.negSucc n < 0) (Int.negSucc_lt_zero n)).symm
def oAbs : List D → AH → R D := fun ds h => withS (arg1 ds) fun d => withS (intD d) fun i => .ok (.int (absI i)) h
theorem oc_abs {K : KW} : OC K T (fun xs H Q => ∃ i, xs = [.int i] ∧ Q (.int (if i < 0 then -i else i)) H) oAbs := fun E ρ H h ds vs Q hr r p => by
  obtain ⟨d, e1, p⟩ := Post.withS p
  obtain ⟨v, rfl, rv⟩ := arg1_ok r e1
  obtain ⟨i, e2, p⟩ := p.withS
  refine ⟨i, by rw [intD_ok rv e2], ?_⟩
  rw [← absI_eq]
  exact p.here hr _ (rp_int.mpr rfl)
def oInt : List D → AH → R D := fun ds h => withS (arg1 ds) fun d => match d with
  | .int i => .ok (.int i) h
  | .bl true => .ok (.int 1) h
  | .bl false => .ok (.int 0) h
  | _ => .no
theorem oc_int {K : KW} : OC K T (fun xs H Q => (∃ i, xs = [.int i] ∧ Q (.int i) H) ∨ ∃ k, xs = [.bl k] ∧ Q (.int (if k then 1 else 0)) H) oInt := fun E ρ H h ds vs Q hr r p => by
  obtain ⟨d, e1, p⟩ := Post.withS p
  obtain ⟨v, rfl, rv⟩ := arg1_ok r e1
  cases d with
  | int i => exact .inl ⟨i, by rw [rp_int.mp rv], p.here hr _ (rp_int.mpr rfl)⟩
  | bl k =>
    cases k with
    | true => exact .inr ⟨true, by rw [rp_bl.mp rv], p.here hr _ (rp_int.mpr rfl)⟩
    | false => exact .inr ⟨false, by rw [rp_bl.mp rv], p.here hr _ (rp_int.mpr rfl)⟩
  | _ => exact p.elim
def oMin2 : List D → AH → R D := fun ds h => withS (arg2 ds) fun d => withS (intD d.1) fun i => withS (intD d.2) fun j => .ok (.int (bif ltI j i then j else i)) h
theorem oc_min2 {K : KW} : OC K T (fun xs H Q => ∃ i j, xs = [.int i, .int j] ∧ Q (.int (if j < i then j else i)) H) oMin2 := fun E ρ H h ds vs Q hr r p => by
  obtain ⟨d, e1, p⟩ := Post.withS p
  obtain ⟨v, u, rfl, rv, ru⟩ := arg2_ok r e1
  obtain ⟨i, e2, p⟩ := p.withS
  obtain ⟨j, e3, p⟩ := p.withS
  refine ⟨i, j, by rw [intD_ok rv e2, intD_ok ru e3], ?_⟩
  have q := p.here hr _ (rp_int.mpr rfl)
  by_cases c : j < i
  · rw [if_pos c]; rw [ltI_iff.mpr c] at q; exact q
  · rw [if_neg c]
    have : ltI j i = false := by cases z : ltI j i <;> first | rfl | exact absurd (ltI_iff.mp z) c
    rw [this] at q; exact q
/-- ints of a list -/
def intsD' (es : List D) : Option (List Int) := intsL es
def minL : Int → List Int → Int
  | m, [] => m
  | m, x :: r => minL (bif ltI x m then x else m) r
def maxL : Int → List Int → Int
  | m, [] => m
  | m, x :: r => maxL (bif ltI m x then x else m) r
theorem minL_ok : ∀ (r : List Int) (m : Int), (minL m r = m ∨ minL m r ∈ r) ∧ minL m r ≤ m ∧ ∀ y ∈ r, minL m r ≤ y
  | [], m => ⟨.inl rfl, Int.le_refl _, fun y hy => by cases hy⟩
  | x :: r, m => by
    have ih := minL_ok r (bif ltI x m then x else m)
    unfold minL
    cases c : ltI x m with
    | true =>
      have c := ltI_iff.mp c
      simp only [c, cond_true] at ih ⊢
      rw [show ltI x m = true from ltI_iff.mpr c] at ih
      simp only [cond_true] at ih
      refine ⟨.inr ?_, by omega, fun y hy => ?_⟩
      · rcases ih.1 with z | z
        · rw [z]; exact List.mem_cons_self
        · exact List.mem_cons_of_mem _ z
      · rcases List.mem_cons.mp hy with z | z
        · subst z; exact ih.2.1
        · exact ih.2.2 y z
    | false =>
      have c' : ¬ x < m := fun z => by rw [ltI_iff.mpr z] at c; cases c
      rw [c] at ih
      simp only [cond_false] at ih ⊢
      refine ⟨?_, ih.2.1, fun y hy => ?_⟩
      · rcases ih.1 with z | z
        · exact .inl z
        · exact .inr (List.mem_cons_of_mem _ z)
      · rcases List.mem_cons.mp hy with z | z
        · subst z; omega
        · exact ih.2.2 y z
theorem maxL_ok : ∀ (r : List Int) (m : Int), (maxL m r = m ∨ maxL m r ∈ r) ∧ m ≤ maxL m r ∧ ∀ y ∈ r, y ≤ maxL m r
  | [], m => ⟨.inl rfl, Int.le_refl _, fun y hy => by cases hy⟩
  | x :: r, m => by
    have ih := maxL_ok r (bif ltI m x then x else m)
    unfold maxL
    cases c : ltI m x with
    | true =>
      have c' := ltI_iff.mp c
      rw [c] at ih
      simp only [cond_true] at ih ⊢
      refine ⟨.inr ?_, by omega, fun y hy => ?_⟩
      · rcases ih.1 with z | z
        · rw [z]; exact List.mem_cons_self
        · exact List.mem_cons_of_mem _ z
      · rcases List.mem_cons.mp hy with z | z
        · subst z; exact ih.2.1
        · exact ih.2.2 y z
    | false =>
      have c' : ¬ m < x := fun z => by rw [ltI_iff.mpr z] at c; cases c
      rw [c] at ih
      simp only [cond_false] at ih ⊢
      refine ⟨?_, ih.2.1, fun y hy => ?_⟩
      · rcases ih.1 with z | z
        · exact .inl z
        · exact .inr (List.mem_cons_of_mem _ z)
      · rcases List.mem_cons.mp hy with z | z
        · subst z; omega
        · exact ih.2.2 y z
/-- min(xs), max(xs), of a list of ints -/
def oMM (g : Int → List Int → Int) : List D → AH → R D := fun ds h => withS (arg1 ds) fun d => match d with
  | .cell n => withS (lstAt n h) fun es => withS (intsL es) fun ns => match ns with
    | m :: r => .ok (.int (g m r)) h
    | [] => .no
  | _ => .no
theorem oMM_ok {K : KW} {E : XK} {ρ : Rho} {H : Hp} {h : AH} {ds : List D} {vs : List V} {Q : VK} {g : Int → List Int → Int} (hr : HR K ρ H h) (r : Rps K ρ H ds vs) (p : P1 K T E ρ H (oMM g ds h) Q) :
    ∃ a m ns, vs = [V.ref a] ∧ SqL K.k H a ((m :: ns).map V.int) ∧ Q (.int (g m ns)) H := by
  obtain ⟨d, e1, p⟩ := Post.withS p
  obtain ⟨v, rfl, rv⟩ := arg1_ok r e1
  cases d with
  | cell n =>
    obtain ⟨es, e2, p⟩ := Post.withS (k := fun es => withS (intsL es) fun ns => match ns with
      | m :: r => (.ok (.int (g m r)) h : R D)
      | [] => .no) p
    obtain ⟨ns, e3, p2⟩ := p.withS
    clear p
    obtain ⟨a, rfl, e4⟩ := rp_cell.mp rv
    obtain ⟨b, xs, f1, f2, re, _⟩ := lstAt_ok hr e2
    rw [e4] at f1; cases f1
    have e5 := intsL_ok e3
    subst e5
    cases ns with
    | nil => exact p2.elim
    | cons m ns =>
      rw [ints_rps re] at f2
      exact ⟨a, m, ns, rfl, .inl (.inl f2), Post.here (q := fun d _ ρ' H' => ∀ v, Rp K ρ' H' d v → Q v H') p2 hr _ (rp_int.mpr rfl)⟩
  | _ => exact p.elim
theorem oc_minL {K : KW} : OC K T (rMin K.k) (oMM minL) := fun E ρ H h ds vs Q hr r p => by
  obtain ⟨a, m, ns, e, s, q⟩ := oMM_ok hr r p
  refine ⟨a, m :: ns, e, s, by simp, fun x hx hl => ?_⟩
  have k := minL_ok ns m
  have : x = minL m ns := by
    have h1 := hl (minL m ns) (by rcases k.1 with z | z; · rw [z]; exact List.mem_cons_self
                                  · exact List.mem_cons_of_mem _ z)
    have h2 : minL m ns ≤ x := by
      rcases List.mem_cons.mp hx with z | z
      · subst z; exact k.2.1
      · exact k.2.2 x z
    omega
  rw [this]; exact q
theorem oc_maxL {K : KW} : OC K T (rMax K.k) (oMM maxL) := fun E ρ H h ds vs Q hr r p => by
  obtain ⟨a, m, ns, e, s, q⟩ := oMM_ok hr r p
  refine ⟨a, m :: ns, e, s, by simp, fun x hx hl => ?_⟩
  have k := maxL_ok ns m
  have : x = maxL m ns := by
    have h1 := hl (maxL m ns) (by rcases k.1 with z | z; · rw [z]; exact List.mem_cons_self
                                  · exact List.mem_cons_of_mem _ z)
    have h2 : x ≤ maxL m ns := by
      rcases List.mem_cons.mp hx with z | z
      · subst z; exact k.2.1
      · exact k.2.2 x z
    omega
  rw [this]; exact q
def sumI : List Int → Int
  | [] => 0
  | x :: r => x + sumI r
theorem sumI_eq : ∀ ns : List Int, ns.sum = sumI ns
  | [] => rfl
  | x :: r => by rw [List.sum_cons, sumI_eq r]; rfl
def oSum : List D → AH → R D := fun ds h => withS (arg1 ds) fun d => match d with
  | .cell n => withS (lstAt n h) fun es => withS (intsL es) fun ns => .ok (.int (sumI ns)) h
  | _ => .no
theorem oc_sum {K : KW} : OC K T (rSum K.k) oSum := fun E ρ H h ds vs Q hr r p => by
  obtain ⟨d, e1, p⟩ := Post.withS p
  obtain ⟨v, rfl, rv⟩ := arg1_ok r e1
  cases d with
  | cell n =>
    obtain ⟨es, e2, p⟩ := Post.withS (k := fun es => withS (intsL es) fun ns => (.ok (.int (sumI ns)) h : R D)) p
    obtain ⟨ns, e3, p2⟩ := p.withS
    clear p
    obtain ⟨a, rfl, e4⟩ := rp_cell.mp rv
    obtain ⟨b, xs, f1, f2, re, _⟩ := lstAt_ok hr e2
    rw [e4] at f1; cases f1
    have e5 := intsL_ok e3
    subst e5
    rw [ints_rps re] at f2
    exact ⟨a, ns, rfl, .inl (.inl f2), by rw [sumI_eq]; exact Post.here (q := fun d _ ρ' H' => ∀ v, Rp K ρ' H' d v → Q v H') p2 hr _ (rp_int.mpr rfl)⟩
  | _ => exact p.elim
def oGcd : List D → AH → R D := fun ds h => withS (arg2 ds) fun d => withS (intD d.1) fun i => withS (intD d.2) fun j => .ok (.int (Nat.gcd i.natAbs j.natAbs : Nat)) h
theorem oc_gcd {K : KW} : OC K T rGcd oGcd := fun E ρ H h ds vs Q hr r p => by
  obtain ⟨d, e1, p⟩ := Post.withS p
  obtain ⟨v, u, rfl, rv, ru⟩ := arg2_ok r e1
  obtain ⟨i, e2, p⟩ := p.withS
  obtain ⟨j, e3, p⟩ := p.withS
  exact ⟨i, j, by rw [intD_ok rv e2, intD_ok ru e3], p.here hr _ (rp_int.mpr rfl)⟩
variable {p : Pos}
theorem se_abs (hm : X.mg "abs" = none) (ha : SE X T W e f) (hg : Gl X "abs" := by rfl) (he : starEach [e] X.env = (false, eval e X.env) :: starEach [] X.env := by rfl) : SE X T W (.Call (.Name "abs" p) [e] [] pos) (dCall oAbs (dCons f dNil)) := se_callB call_abs oc_abs hg hm bt_abs (sa_cons ha sa_nil he) (by decide) (by decide) he (by rfl)
theorem se_int1 (hm : X.mg "int" = none) (ha : SE X T W e f) (hg : Gl X "int" := by rfl) (he : starEach [e] X.env = (false, eval e X.env) :: starEach [] X.env := by rfl) : SE X T W (.Call (.Name "int" p) [e] [] pos) (dCall oInt (dCons f dNil)) := se_callTy call_int1 oc_int hg hm bt_int (sa_cons ha sa_nil he) (by decide) (by decide) he (by rfl)
theorem se_min1 (hc : X.calm = true) (hm : X.mg "min" = none) (ha : SE X T W e f) (hg : Gl X "min" := by rfl) (he : starEach [e] X.env = (false, eval e X.env) :: starEach [] X.env := by rfl) : SE X T W (.Call (.Name "min" p) [e] [] pos) (dCall (oMM minL) (dCons f dNil)) := se_callB (cr_min hc) oc_minL hg hm bt_min (sa_cons ha sa_nil he) (by decide) (by decide) he (by rfl)
theorem se_max1 (hc : X.calm = true) (hm : X.mg "max" = none) (ha : SE X T W e f) (hg : Gl X "max" := by rfl) (he : starEach [e] X.env = (false, eval e X.env) :: starEach [] X.env := by rfl) : SE X T W (.Call (.Name "max" p) [e] [] pos) (dCall (oMM maxL) (dCons f dNil)) := se_callB (cr_max hc) oc_maxL hg hm bt_max (sa_cons ha sa_nil he) (by decide) (by decide) he (by rfl)
theorem se_sum (hc : X.calm = true) (hm : X.mg "sum" = none) (ha : SE X T W e f) (hg : Gl X "sum" := by rfl) (he : starEach [e] X.env = (false, eval e X.env) :: starEach [] X.env := by rfl) : SE X T W (.Call (.Name "sum" p) [e] [] pos) (dCall oSum (dCons f dNil)) := se_callB (cr_sum hc) oc_sum hg hm bt_sum (sa_cons ha sa_nil he) (by decide) (by decide) he (by rfl)
theorem se_min2 (hc : X.calm = true) (hm : X.mg "min" = none) (ha : SE X T W a f) (hb : SE X T W b g) (hg : Gl X "min" := by rfl) (he : starEach [a, b] X.env = (false, eval a X.env) :: starEach [b] X.env := by rfl) (he2 : starEach [b] X.env = (false, eval b X.env) :: starEach [] X.env := by rfl) (hpl : (backTo pos (starEach [b] X.env)).any (·.1) = false := by rfl) :
    SE X T W (.Call (.Name "min" p) [a, b] [] pos) (dCall oMin2 (dCons f (dCons g dNil))) := se_callB (call_min2 hc) oc_min2 hg hm bt_min (sa_cons ha (sa_cons hb sa_nil he2) he) (by decide) (by decide) he hpl
/-- gcd(a, b), the module's name for math.gcd -/
theorem se_gcd {x : Str} (hm : X.mg x = some (.builtin "math.gcd")) (ha : SE X T W a f) (hb : SE X T W b g) (hg : Gl X x := by rfl) (he : starEach [a, b] X.env = (false, eval a X.env) :: starEach [b] X.env := by rfl) (he2 : starEach [b] X.env = (false, eval b X.env) :: starEach [] X.env := by rfl) (hpl : (backTo pos (starEach [b] X.env)).any (·.1) = false := by rfl) (hdb : (x == ("__debug__" : Str)) = false := by decide) :
    SE X T W (.Call (.Name x p) [a, b] [] pos) (dCall oGcd (dCons f (dCons g dNil))) := ⟨PE.imp (pe_callBfun cr_gcd hg hm (sa_cons ha (sa_cons hb sa_nil he2) he).p hdb he hpl) (call_imp oc_gcd)⟩
end
end Nc
namespace Nc
open PySem PySem.Spec PyProof.Rows L2 RT
/-! ## reversed(e) -/
def iRevD (f : DE) : DI := fun s h => (f s h).bind fun d h1 => withS (seqOf d h1) fun ds => .ok (.rev d ds.length) h1
theorem blt_t {i n : Nat} (h : i < n) : Nat.blt i n = true := by rw [Nat.blt_eq]; exact h
theorem blt_f {i n : Nat} (h : ¬ i < n) : Nat.blt i n = false := by
  cases z : Nat.blt i n
  · rfl
  · rw [Nat.blt_eq] at z; exact absurd z h
section
variable {K : KW} {ρ : Rho} {H : Hp} {a : Addr}
theorem itR_revT {ds : List D} {xs : List V} {n : Nat} (s : SqT K.k H a xs) (r : Rps K ρ H ds xs) : ItR K ρ H (.rev (.tup ds) n) (ItvT K.k a n) := fun ρ' H' h' g hr i => by
  have s' := g.tup a xs s
  have r' := Rps.ext g ds r
  by_cases c : i < n
  · cases z : ds[n - 1 - i]? with
    | none => rw [show itemAt (.rev (.tup ds) n) i h' = none by simp [itemAt, seqOf, blt_t c, z]]; trivial
    | some d =>
      obtain ⟨v, e, q⟩ := r'.get z
      rw [show itemAt (.rev (.tup ds) n) i h' = some (some d) by simp [itemAt, seqOf, blt_t c, z]]
      refine ⟨⟨c, xs, v, s', e⟩, fun x H'' y => ?_⟩
      obtain ⟨rfl, y⟩ := y
      have := y xs s'
      rw [e] at this; cases this
      exact ⟨ρ', Grow.refl _ _, hr, q⟩
  · rw [show itemAt (.rev (.tup ds) n) i h' = some none by simp [itemAt, seqOf, blt_f c]]
    exact Nat.le_of_not_lt c
theorem itR_revL {m n : Nat} (e : ρ m = some a) : ItR K ρ H (.rev (.cell m) n) (Itv K.k a n) := fun ρ' H' h' g hr i => by
  have e' := g.rho _ _ e
  by_cases c : i < n
  · cases q : lstAt m h' with
    | none => rw [show itemAt (.rev (.cell m) n) i h' = none by simp [itemAt, seqOf, blt_t c, q]]; trivial
    | some ds =>
      obtain ⟨b, xs, f1, f2, r', _⟩ := lstAt_ok hr q
      rw [e'] at f1; cases f1
      have s' : SqL K.k H' a xs := .inl (.inl f2)
      cases z : ds[n - 1 - i]? with
      | none => rw [show itemAt (.rev (.cell m) n) i h' = none by simp [itemAt, seqOf, blt_t c, q, z]]; trivial
      | some d =>
        obtain ⟨v, e2, rv⟩ := r'.get z
        rw [show itemAt (.rev (.cell m) n) i h' = some (some d) by simp [itemAt, seqOf, blt_t c, q, z]]
        refine ⟨⟨c, xs, v, s', e2⟩, fun x H'' y => ?_⟩
        obtain ⟨rfl, y⟩ := y
        have := y xs s'
        rw [e2] at this; cases this
        exact ⟨ρ', Grow.refl _ _, hr, rv⟩
  · rw [show itemAt (.rev (.cell m) n) i h' = some none by simp [itemAt, blt_f c]]
    exact Nat.le_of_not_lt c
end
section
variable {X : Cx} {T : XT} {W : WX} {tg e : Expr} {f : DE} {p pos tpos : Pos}
theorem si_rev (hg : Gl X "reversed") (hm : X.mg "reversed" = none) (he : SE X T W e f) (hs : starEach [e] X.env = (false, eval e X.env) :: starEach [] X.env := by rfl) : SI X T W tg (.Call (.Name "reversed" p) [e] [] pos) (iRevD f) :=
  ⟨PI.imp (pi_revA hg hm he.p hs) fun σ H Q ⟨ρ, s, h, st, hr, q⟩ => tD_bind st hr q fun d h1 ρ1 H1 v g1 hr1 st1 r1 q1 => by
    obtain ⟨ds, e1, q1⟩ := Post.withS q1
    obtain ⟨a, xs, rfl, re, sq⟩ := seqOf_ok hr1 r1 e1
    refine ⟨a, xs, rfl, ?_⟩
    have q2 := q1.here hr1
    rw [re.length] at q2
    rcases sq with ⟨sq, rfl⟩ | ⟨sq, n, rfl, en, _⟩
    · exact .inr ⟨sq, q2 _ (itR_revT sq re)⟩
    · exact .inl ⟨.inl (.inl sq), q2 _ (itR_revL en)⟩⟩
end
end Nc
namespace Nc
open PySem PySem.Spec PySem.W PyProof.Rows L2
/-! ## walking a locked dict -/
section
variable {X : Cx} {pins : List (Addr × Obj)} {σ : L2.St} {H : Hp} {s : Shared} {d : Addr} {o : Obj} {L : List (NestedKey × V × V)} {es : Array DictEntry} {ep : Nat}
theorem entV_get : ∀ {L : List (NestedKey × V × V)} {xs : List (NestedKey × Value × Value)} {i : Nat} {p : NestedKey × V × V}, Paired EntV L xs → L[i]? = some p → ∃ x, xs[i]? = some x ∧ RelV p.2.1 x.2.1 ∧ RelV p.2.2 x.2.2
  | _, _, i, p, .nil, e => by simp at e
  | q :: L, x :: xs, 0, p, .cons r t, e => by
    simp at e; subst e
    exact ⟨x, rfl, r.2.1, r.2.2⟩
  | q :: L, x :: xs, i + 1, p, .cons r t, e => by
    obtain ⟨y, h1, h2⟩ := entV_get (i := i) t (by simpa using e)
    exact ⟨y, by simpa using h1, h2⟩
/-- what is known of a locked dict -/
theorem frz_raw (I : Inv X pins σ H s) (h : H d = some (.frz o (DN X.w L d))) (hod : o.data = .dict es ep) : s.heap.get? d = some o ∧ o.ExactDict ∧ es.size = L.length ∧ ∀ (i : Nat) (hi : i < es.size) (p : NestedKey × V × V), L[i]? = some p → RelV p.2.1 es[i].key ∧ RelV p.2.2 es[i].val := by
  obtain ⟨e1, ⟨xs, r, o', es', ep', e2, e3, e4, e5, _⟩, _⟩ := I.hok d _ h
  rw [e1] at e2; cases e2
  rw [hod] at e4; cases e4
  have hs : es.size = xs.length := by
    have := congrArg List.length e5
    rw [Array.length_toList, List.length_map] at this
    exact this
  refine ⟨e1, e3, by rw [hs, paired_len r], fun i hi p hp => ?_⟩
  obtain ⟨x, hx, h1, h2⟩ := entV_get r hp
  have e6 : es.toList[i]? = some es[i] := by rw [Array.getElem?_toList, Array.getElem?_eq_getElem hi]
  rw [e5, List.getElem?_map, hx] at e6
  have e6 := Option.some.inj e6
  rw [← e6]
  exact ⟨h1, h2⟩
/-- the keys, as they stood at the start -/
def Itq (w : World) (d : Addr) (o : Obj) (L : List (NestedKey × V × V)) : It :=
  ⟨fun i H => H d = some (.frz o (DN w L d)) ∧ i < L.length, fun i H x H' => H' = H ∧ ∃ p, L[i]? = some p ∧ x = p.2.1, fun i H => H d = some (.frz o (DN w L d)) ∧ L.length ≤ i⟩
/-- the pairs, each a new tuple -/
def Itp (w : World) (d : Addr) (o : Obj) (L : List (NestedKey × V × V)) : It :=
  ⟨fun i H => H d = some (.frz o (DN w L d)) ∧ i < L.length, fun i H x H' => ∃ t p, L[i]? = some p ∧ x = .ref t ∧ H t = none ∧ H' = upd H t (.tup [p.2.1, p.2.2]), fun i H => H d = some (.frz o (DN w L d)) ∧ L.length ≤ i⟩
end
section
variable {P : Program} {w : World} {K : PySem.W.Frag} {tg : Expr} {d : Addr} {o : Obj} {es : Array DictEntry} {ep : Nat} {L : List (NestedKey × V × V)}
theorem turn_q (it : Addr) (hod : o.data = .dict es ep) (hn : es.size = L.length) : Turn P w K tg (Itq w d o L) [it] it (fun i h => h.IsKeyIter it d i es.size ep) where
  mem := by simp
  obj := fun i h st b hb => by
    have e : b = it := by simpa using hb
    subst e
    obtain ⟨oi, e, c, dd⟩ := st
    exact ⟨oi, e, fun v z => by rw [dd] at z; cases z⟩
  keep := fun i h h' st k => st.at fun oi e => k it (by simp) oi e
  item := by
    intro X hP hw hK hc i pins s σ H E I hf st hg
    subst hP hw hK
    obtain ⟨hd, hi⟩ := hg
    obtain ⟨f0, f1, f2, f3, f4, f5⟩ := hf it (by simp)
    obtain ⟨hgd, hx, _, ent⟩ := frz_raw I hd hod
    have hi' : i < es.size := by omega
    obtain ⟨p, hp⟩ : ∃ p, L[i]? = some p := ⟨L[i], List.getElem?_eq_getElem hi⟩
    obtain ⟨rk, _⟩ := ent i hi' p hp
    refine next_key_item st hgd hod rfl (Array.getElem?_eq_getElem hi') fun h' st' sb => ?_
    have I1 : Inv X pins σ H { s with heap := h' } := I.turned (t' := s.toks) (fun b ob hb e => (sb.2 b hb).trans e) f0 f1 f3 f4 f5
    obtain ⟨oi, e, c, dd⟩ := id st'
    exact ⟨es[i].key, rfl, go_of (s := { s with heap := h' }) e c dd (by decide) ⟨p.2.1, H, I1, rk, ⟨rfl, p, hp, rfl⟩, st', fun b hb => (hf b hb).1⟩⟩
  done := by
    intro X hP hw hK hc i pins s σ H E I hf st hg
    subst hP hw hK
    obtain ⟨hd, hi⟩ := hg
    obtain ⟨f0, f1, f2, f3, f4, f5⟩ := hf it (by simp)
    obtain ⟨hgd, hx, _, _⟩ := frz_raw I hd hod
    exact next_key_end (I.ok.hd hc) st hgd hod rfl (by omega) fun h' eb => ⟨rfl, I.turned (t' := s.toks) (fun b ob hb e => eb b ob hb e) f0 f1 f3 f4 f5⟩
  self := fun A i s Q E st h => wpAny_pyIter_keyiter st h
theorem turn_p {elts : List Expr} {kk : Nat} {tpos : Pos} (it : Addr) (hod : o.data = .dict es ep) (hn : es.size = L.length) : Turn P w K (.Tuple elts kk tpos) (Itp w d o L) [it] it (fun i h => ∃ ok ov, IsItemIter h it d i es.size ep ok ov) where
  mem := by simp
  obj := fun i h st b hb => by
    have e : b = it := by simpa using hb
    subst e
    obtain ⟨ok, ov, e⟩ := st
    exact ⟨_, e, fun v z => nomatch z⟩
  keep := fun i h h' st k => let ⟨ok, ov, e⟩ := st; ⟨ok, ov, k it (by simp) _ e⟩
  item := by
    intro X hP hw hK hc i pins s σ H E I hf st hg
    subst hP hw hK
    obtain ⟨hd, hi⟩ := hg
    obtain ⟨hgd, hx, _, ent⟩ := frz_raw I hd hod
    have hi' : i < es.size := by omega
    obtain ⟨p, hp⟩ : ∃ p, L[i]? = some p := ⟨L[i], List.getElem?_eq_getElem hi⟩
    obtain ⟨rk, rv⟩ := ent i hi' p hp
    obtain ⟨ok, ov, he⟩ := st
    have hlt : it < s.heap.objs.size := Heap.lt_size he
    refine wpAny_pyNext_items_item_raw he ⟨o, hgd, hx, hod⟩ hi' fun h' ho hT hz hk => ?_
    refine ⟨_, rfl, wpAny_letOwnedTupleGo_items (s := { s with heap := h' }) ho fun h'' he' sb => ?_⟩
    have hT2 : h''.get? s.heap.objs.size = some { cls := .type "tuple", data := .seq #[es[i].key, es[i].val] } := (sb.2 _ (Nat.ne_of_gt hlt)).trans hT
    have new : ObjOk X.prog X.w (upd H s.heap.objs.size (.tup [p.2.1, p.2.2])) h'' s.heap.objs.size (.tup [p.2.1, p.2.2]) :=
      ⟨by show 2 ≤ sizeLine; decide, [es[i].key, es[i].val], .cons rk (.cons rv .nil), ⟨_, hT2, rfl, _, rfl⟩⟩
    have I1 : Inv X pins σ (upd H s.heap.objs.size (.tup [p.2.1, p.2.2])) { s with heap := h'' } :=
      I.turnedNew (t' := s.toks) (ch := [it]) (fun b ob hb e => (sb.2 b (by simpa using hb)).trans (hk b ob (by simpa using hb) e)) hf (Nat.le_refl _) new
    refine ⟨.ref s.heap.objs.size, _, I1, rfl, ⟨_, p, hp, rfl, I.hok.fresh (Nat.le_refl _), rfl⟩, ⟨es[i].key, es[i].val, he'⟩, fun b hb => ?_⟩
    have e : b = it := by simpa using hb
    rw [e, upd_ne (Nat.ne_of_lt hlt)]
    exact (hf it (by simp)).1
  done := by
    intro X hP hw hK hc i pins s σ H E I hf st hg
    subst hP hw hK
    obtain ⟨hd, hi⟩ := hg
    obtain ⟨f0, f1, f2, f3, f4, f5⟩ := hf it (by simp)
    obtain ⟨hgd, hx, _, _⟩ := frz_raw I hd hod
    obtain ⟨ok, ov, he⟩ := st
    exact wpAny_pyNext_items_end_raw (I.ok.hd hc) he ⟨o, hgd, hx, hod⟩ (by omega) fun h' eb => ⟨rfl, I.turned (t' := s.toks) (fun b ob hb e => eb b ob hb e) f0 f1 f3 f4 f5⟩
  self := fun A i s Q E st h => let ⟨_, _, e⟩ := st; PySem.W.kcp_self e h
end
/-- .. in e, e.items(): the dict is locked; its object is found -/
def iQ (X : Cx) (td : TE) (J : Addr → Obj → List (NestedKey × V × V) → It) : TI := fun σ H R => td σ H fun x H1 => ∃ d o L, x = .ref d ∧ H1 d = some (.frz o (DN X.w L d)) ∧ (d == sysModules) = false ∧ R (J d o L) H1
section
variable {X : Cx} {tg e : Expr} {td : TE} {apos cpos : Pos} {pins : List (Addr × Obj)} {σ : L2.St} {H : Hp} {s : Shared} {d : Addr} {o : Obj} {L : List (NestedKey × V × V)}
theorem frz_data (I : Inv X pins σ H s) (h : H d = some (.frz o (DN X.w L d))) : ∃ es ep, o.data = .dict es ep := by
  obtain ⟨e1, ⟨xs, r, o', es', ep', e2, e3, e4, e5, _⟩, _⟩ := I.hok d _ h
  rw [e1] at e2; cases e2
  exact ⟨es', ep', e4⟩
theorem pi_q (he : PE X e td) : PI X tg e (iQ X td (Itq X.w)) := by
  refine ⟨fun pins s σ H R I h => ?_⟩
  refine thn (he.run pins s σ H _ I h) fun u s1 ⟨x, H1, I1, rx, d, o, L, ex, hd, hs, q⟩ => ?_
  subst ex
  obtain rfl : u = Value.ref d := rx
  obtain ⟨es, ep, hod⟩ := frz_data I1 hd
  obtain ⟨hgd, hx, hn, _⟩ := frz_raw I1 hd hod
  exact iter_keys hs hgd hx hod (pi_one (tk := s1.toks) I1 _ (turn_q _ hod hn) ⟨_, Heap.get?_push_size _ rfl, rfl, rfl⟩ q)
theorem pi_p {elts : List Expr} {kk : Nat} {tpos : Pos} (he : PE X e td) (hbase : attributeBase e "items" X.env (eval e X.env) = eval e X.env := by rfl) (hline : (apos.endLine == cpos.line) = true := by rfl) :
    PI X (.Tuple elts kk tpos) (.Call (.Attribute e "items" apos) [] [] cpos) (iQ X td (Itp X.w)) := by
  refine ⟨fun pins s σ H R I h => ?_⟩
  refine wpAny_Call_method (T := "dict") (id := "dict.items") hbase rfl hline F.plainAttrs_dict F.slot_dict_items F.type_dict_items (thn (he.run pins s σ H _ I h) fun u s1 ⟨x, H1, I1, rx, d, o, L, ex, hd, hs, q⟩ => ?_)
  subst ex
  obtain rfl : u = Value.ref d := rx
  obtain ⟨es, ep, hod⟩ := frz_data I1 hd
  obtain ⟨hgd, hx, hn, _⟩ := frz_raw I1 hd hod
  refine ⟨⟨o, hgd, hx.1⟩, fun b e => ?_, ?_⟩
  · cases e
    exact ⟨o, hgd, hx.2.1⟩
  have I2 : Inv X pins σ H1 { s1 with heap := s1.heap.push { cls := .type "dict_items", data := .fields #[.ref d] } } := I1.kept (t' := s1.toks) fun b ob q => Heap.get?_push_of_some _ q
  have fin : wpAny (model X.prog X.w) X.A (pyIter (.ref s1.heap.objs.size)) (PIE X pins σ (.Tuple elts kk tpos) R) X.xe { s1 with heap := s1.heap.push { cls := .type "dict_items", data := .fields #[.ref d] } } :=
    wpAny_pyIter_items_raw (d := d) (es := es) (ep := ep) ⟨_, Heap.get?_push_size _ rfl, rfl, rfl⟩ ⟨o, Heap.get?_push_of_some _ hgd, hx, hod⟩ (pi_one (tk := s1.toks) I2 _ (turn_p _ hod hn) ⟨.none, .none, Heap.get?_push_size _ rfl⟩ q)
  show wpAny _ _ (callWith cpos (.builtin "dict.items") [.ref d] [] []) _ X.xe s1
  exact method_meetsIn F.slot_dict_items F.entry_dict_items rfl (PySem.evalArgs_none ⟨rfl, ⟨o, hgd, hx.1⟩, F.args_dict_items_1 _, _, meets_dict_items_raw d hs, ⟨⟨es, ep, o, hgd, hx, hod⟩, fin⟩⟩)
end
end Nc
namespace Nc
open PySem PySem.Spec PySem.W PyProof.Rows L2
/-! ## a dict is locked while a statement, an expression runs -/
def tLk (t : TE) : TE := fun σ H Q => ∃ d u, H d = some u ∧ Mut (some u) ∧ ∀ od, t σ (upd H d (.frz od u)) fun v H' => ∃ o' u', H' d = some (.frz o' u') ∧ Q v (upd H' d u')
def tLks (t : TS) : TS := fun D σ H => ∃ d u, H d = some u ∧ Mut (some u) ∧ ∀ od, t ⟨fun σ' H' => ∃ o' u', H' d = some (.frz o' u') ∧ D.nx σ' (upd H' d u'), fun v H' => ∃ o' u', H' d = some (.frz o' u') ∧ D.rt v (upd H' d u'), fun σ' H' => ∃ o' u', H' d = some (.frz o' u') ∧ D.bk σ' (upd H' d u'), fun σ' H' => ∃ o' u', H' d = some (.frz o' u') ∧ D.ct σ' (upd H' d u')⟩ σ (upd H d (.frz od u))
/-- a dict that has just come stays locked -/
def tLkT (t : TE) : TE := fun σ H Q => t σ H fun v H1 => ∃ d u, H1 d = some u ∧ Mut (some u) ∧ ∀ od, Q v (upd H1 d (.frz od u))
section
variable {X : Cx}
theorem pe_lk {e : Expr} {t : TE} (h : PE X e t) : PE X e (tLk t) := by
  refine ⟨fun pins s σ H Q I hw => ?_⟩
  obtain ⟨d, u, hd, mu, hw⟩ := hw
  obtain ⟨od, I1⟩ := I.lock hd mu
  refine thn (h.run pins s σ _ _ I1 (hw od)) fun v s1 ⟨x, H1, I2, r, o', u', e2, q⟩ => ?_
  exact ⟨x, _, I2.unlock e2 (I.nofrz hd mu), r, q⟩
theorem ps_lk {st : Stmt} {t : TS} (h : PS X st t) : PS X st (tLks t) := by
  refine ⟨fun pins s σ H D I hw => ?_⟩
  obtain ⟨d, u, hd, mu, hw⟩ := hw
  obtain ⟨od, I1⟩ := I.lock hd mu
  refine thn (h.run pins s σ _ _ I1 (hw od)) fun f s1 q => ?_
  cases f with
  | next => obtain ⟨σ', H', I2, o', u', e, q⟩ := q; exact ⟨σ', _, I2.unlock e (I.nofrz hd mu), q⟩
  | brk => obtain ⟨σ', H', I2, o', u', e, q⟩ := q; exact ⟨σ', _, I2.unlock e (I.nofrz hd mu), q⟩
  | cont => obtain ⟨σ', H', I2, o', u', e, q⟩ := q; exact ⟨σ', _, I2.unlock e (I.nofrz hd mu), q⟩
  | ret v => obtain ⟨x, σ', H', I2, r, o', u', e, q⟩ := q; exact ⟨x, σ', _, I2.unlock e (I.nofrz hd mu), r, q⟩
theorem pe_lkT {e : Expr} {t : TE} (h : PE X e t) : PE X e (tLkT t) := by
  refine ⟨fun pins s σ H Q I hw => ?_⟩
  refine thn (h.run pins s σ _ _ I hw) fun v s1 ⟨x, H1, I1, r, d, u, hd, mu, q⟩ => ?_
  obtain ⟨od, I2⟩ := I1.lock hd mu
  exact ⟨x, _, I2, r, q od⟩
end
/-! by data -/
section
variable {K : KW} {ρ ρ' : Rho} {H H' : Hp} {h h' : AH} {n : Nat} {a : Addr} {o : Obj} {kvs : List (NestedKey × D × D)} {L : List (NestedKey × V × V)}
theorem ext_lock (e : H a = some (DN K.w L a)) : Ext K ρ ρ H (upd H a (.frz o (DN K.w L a))) := ext_updG e trivial
theorem lock_ok (hr : HR K ρ H h) (en : ρ n = some a) (e0 : h.get n = some (.dict false kvs)) (e : H a = some (DN K.w L a)) (hs : (a == sysModules) = false) (p : Paired (DEnt K ρ H) kvs L) (hm : HomD kvs) : HR K ρ (upd H a (.frz o (DN K.w L a))) (h.put n (.dict true kvs)) :=
  hr.putC en e0 (by rw [e]; trivial) trivial ⟨L, ⟨o, upd_same⟩, hs, dent_ext (ext_lock e) p, hm⟩
theorem ext_unlock {u : HO} (e : H a = some (.frz o u)) (nt : ∀ xs, u ≠ .tup xs) (nl : ∀ xs, u ≠ .lst xs) : (∀ b xs, SqT K.k H b xs → SqT K.k (upd H a u) b xs) ∧ ∀ b xs, SqF K.k H b xs → SqF K.k (upd H a u) b xs := by
  refine ⟨fun b xs s => ?_, fun b xs s => ?_⟩
  · rcases s with (s | ⟨ob, s⟩) | s
    · exact .inl (.inl (by rw [upd_ne (fun z => by rw [z, e] at s; cases s)]; exact s))
    · refine .inl (.inr ⟨ob, ?_⟩)
      rw [upd_ne (fun z => by rw [z, e] at s; cases s; exact nt _ rfl)]; exact s
    · exact .inr s
  · rcases s with ⟨ob, s⟩ | s
    · refine .inl ⟨ob, ?_⟩
      rw [upd_ne (fun z => by rw [z, e] at s; cases s; exact nl _ rfl)]; exact s
    · exact .inr s
/-- a value stands for the same data behind the unlocking -/
structure ExtU (K : KW) (ρ : Rho) (H H' : Hp) : Prop where
  tup : ∀ a xs, SqT K.k H a xs → SqT K.k H' a xs
  frl : ∀ a xs, SqF K.k H a xs → SqF K.k H' a xs
mutual
theorem Rp.extU (g : ExtU K ρ H H') : ∀ (d : D) {v : V}, Rp K ρ H d v → Rp K ρ H' d v
  | .non, _, r => by unfold Rp at *; exact r
  | .bl _, _, r => by unfold Rp at *; exact r
  | .int _, _, r => by unfold Rp at *; exact r
  | .str _, _, r => by unfold Rp at *; exact r
  | .tup ds, _, r => by
    unfold Rp at *
    obtain ⟨a, xs, e, s, q⟩ := r
    exact ⟨a, xs, e, g.tup a xs s, Rps.extU g ds q⟩
  | .cell n, _, r => by
    unfold Rp at *
    exact r
  | .frl ds, _, r => by
    unfold Rp at *
    obtain ⟨a, xs, e, s, q⟩ := r
    exact ⟨a, xs, e, g.frl a xs s, Rps.extU g ds q⟩
theorem Rps.extU (g : ExtU K ρ H H') : ∀ (ds : List D) {vs : List V}, Rps K ρ H ds vs → Rps K ρ H' ds vs
  | [], _, r => by unfold Rps at *; exact r
  | d :: ds, _, r => by
    unfold Rps at *
    obtain ⟨x, q, e, r1, r2⟩ := r
    exact ⟨x, q, e, Rp.extU g d r1, Rps.extU g ds r2⟩
end
theorem CellR.extU {c : Cell} (g : ExtU K ρ H H') (e : H' a = H a) (q : CellR K ρ H a c) : CellR K ρ H' a c := by
  cases c with
  | lst ds =>
    obtain ⟨xs, e1, r⟩ := q
    exact ⟨xs, e.trans e1, Rps.extU g ds r⟩
  | dict fz kvs =>
    obtain ⟨L, e1, e2, r, hm⟩ := q
    exact ⟨L, by rw [e]; exact e1, e2, Paired.imp2 (fun a b h => ⟨h.1, h.2.1, h.2.2.1, Rp.extU g _ h.2.2.2.1, Rp.extU g _ h.2.2.2.2⟩) r, hm⟩
  | obj c fs =>
    obtain ⟨C, dx, vfs, e1, e2, r⟩ := q
    exact ⟨C, dx, vfs, e.trans e1, e2, Paired.imp2 (fun a b h => ⟨h.1, Rp.extU g _ h.2⟩) r⟩
  | junk => trivial
  | urn l =>
    obtain ⟨x, b, c, e1, d⟩ := q
    exact ⟨x, b, c, e.trans e1, d⟩
/-- a locked dict is unlocked -/
theorem unlock_ok (hr : HR K ρ H h) (en : ρ n = some a) (e0 : h.get n = some (.dict true kvs)) (e : H a = some (.frz o (DN K.w L a))) (hs : (a == sysModules) = false) (p : Paired (DEnt K ρ H) kvs L) (hm : HomD kvs) : HR K ρ (upd H a (DN K.w L a)) (h.put n (.dict false kvs)) ∧ ExtU K ρ H (upd H a (DN K.w L a)) := by
  obtain ⟨x1, x2⟩ := ext_unlock (K := K) e (fun xs z => by cases z) (fun xs z => by cases z)
  have x : ExtU K ρ H (upd H a (DN K.w L a)) := ⟨x1, x2⟩
  refine ⟨⟨hr.inj, fun m hm' => hr.top m (by rw [put_new] at hm'; exact hm'), fun m b em => ?_, fun m c' em => ?_⟩, x⟩
  · by_cases q : b = a
    · subst q; rw [upd_same]; trivial
    · rw [upd_ne q]; exact hr.live m b em
  · rw [AH.get_put] at em
    by_cases z : m = n
    · subst z
      rw [if_pos rfl, e0] at em; cases em
      exact ⟨a, en, L, upd_same, hs, Paired.imp2 (fun a b h => ⟨h.1, h.2.1, h.2.2.1, Rp.extU x _ h.2.2.2.1, Rp.extU x _ h.2.2.2.2⟩) p, hm⟩
    · rw [if_neg z] at em
      obtain ⟨b, e1, qq⟩ := hr.at_ m c' em
      have nb : b ≠ a := fun y => by subst y; exact z (hr.inj _ _ _ e1 en)
      exact ⟨b, e1, qq.extU x (upd_ne nb)⟩
theorem StR.extU {σ : L2.St} {s : DSt} (g : ExtU K ρ H H') (r : StR K ρ H σ s) : StR K ρ H' σ s :=
  ⟨r.len, fun i d e => let ⟨v, e1, q⟩ := r.at_ i d e; ⟨v, e1, Rp.extU g d q⟩⟩
/-- from before the lock to behind the unlocking -/
theorem grow_lk {u u' : HO} {o' : Obj} (mu : Mut (H a)) (en : ρ n = some a) (g : Grow ρ ρ' (upd H a (.frz o u)) H') (e : H' a = some (.frz o' u')) : Grow ρ ρ' H (upd H' a u') := by
  have ne : ∀ b, (∀ n, ρ n ≠ some b) → b ≠ a := fun b h z => h n (by rw [z]; exact en)
  refine ⟨g.rho, fun m b e1 e0 => ?_, fun b x e1 hn => ?_, fun b x y e1 => ?_⟩
  · have := g.new m b e1 e0
    by_cases z : b = a
    · subst z; rw [upd_same] at this; cases this
    · rw [upd_ne z] at this; exact this
  · have nb := ne b hn
    rw [upd_ne nb]
    exact g.keep b x (by rw [upd_ne nb]; exact e1) hn
  · have nb : b ≠ a := fun z => by rw [← z, e1] at mu; exact mu
    rw [upd_ne nb]
    exact g.frz b x y (by rw [upd_ne nb]; exact e1)
end
/-- unlock -/
def unlkD (n : Nat) (h : AH) : Option AH := match h.get n with
  | some (.dict true kvs) => some (h.put n (.dict false kvs))
  | _ => none
/-- the dict that slot i holds, if it may be written -/
def lkSlot (i : Nat) (s : DSt) (h : AH) : Option (Nat × List (NestedKey × D × D)) := match s[i]? with
  | some (some (.cell n)) => match h.get n with
    | some (.dict false kvs) => some (n, kvs)
    | _ => none
  | _ => none
def dLk (i : Nat) (f : DE) : DE := fun s h => match lkSlot i s h with
  | some p => match f s (h.put p.1 (.dict true p.2)) with
    | .ok d h1 => match unlkD p.1 h1 with
      | some h2 => .ok d h2
      | none => .no
    | .ex e h1 => .ex e h1
    | .no => .no
  | none => f s h
def unlkS (n : Nat) (r : RS) : RS := match r with
  | .nx s h => match unlkD n h with
    | some h2 => .nx s h2
    | none => .no
  | .rt d h => match unlkD n h with
    | some h2 => .rt d h2
    | none => .no
  | .bk s h => match unlkD n h with
    | some h2 => .bk s h2
    | none => .no
  | .ct s h => match unlkD n h with
    | some h2 => .ct s h2
    | none => .no
  | .ex e s h => .ex e s h
  | .no => .no
def gLk (i : Nat) (g : DS) : DS := fun s h => match lkSlot i s h with
  | some p => unlkS p.1 (g s (h.put p.1 (.dict true p.2)))
  | none => g s h
section
variable {X : Cx} {T : XT} {W : WX} {e : Expr} {f : DE} {g : DS} {st : Stmt}
theorem PE.or {t t' : TE} (h : PE X e t) (h' : PE X e t') : PE X e (fun σ H Q => t σ H Q ∨ t' σ H Q) := ⟨fun pins s σ H Q I q => q.elim (h.run pins s σ H Q I) (h'.run pins s σ H Q I)⟩
theorem PS.or {t t' : TS} (h : PS X st t) (h' : PS X st t') : PS X st (fun D σ H => t D σ H ∨ t' D σ H) := ⟨fun pins s σ H Q I q => q.elim (h.run pins s σ H Q I) (h'.run pins s σ H Q I)⟩
theorem lkSlot_ok {K : KW} {ρ : Rho} {H : Hp} {σ : L2.St} {s : DSt} {h : AH} {i n : Nat} {kvs : List (NestedKey × D × D)} (hr : HR K ρ H h) (st : StR K ρ H σ s) (e : lkSlot i s h = some (n, kvs)) :
    ∃ a L, ρ n = some a ∧ h.get n = some (.dict false kvs) ∧ H a = some (DN K.w L a) ∧ (a == sysModules) = false ∧ Paired (DEnt K ρ H) kvs L ∧ HomD kvs := by
  unfold lkSlot at e
  split at e
  · rename_i m hm
    split at e
    · rename_i kvs' hk
      cases e
      obtain ⟨a, e1, L, e2, e3, r, hom⟩ := hr.at_ _ _ hk
      exact ⟨a, L, e1, hk, e2, e3, r, hom⟩
    · cases e
  · cases e
/-- the heap as it is handed on, unlocked -/
theorem unlkD_ok {K : KW} {ρ : Rho} {H : Hp} {h h2 : AH} {n : Nat} {a : Addr} (hr : HR K ρ H h) (en : ρ n = some a) (e : unlkD n h = some h2) : ∃ o u, H a = some (.frz o u) ∧ HR K ρ (upd H a u) h2 ∧ ExtU K ρ H (upd H a u) := by
  unfold unlkD at e
  split at e
  · rename_i kvs hk
    cases e
    obtain ⟨b, e1, L, ⟨o, e2⟩, e3, r, hom⟩ := hr.at_ _ _ hk
    rw [en] at e1; cases e1
    obtain ⟨q1, q2⟩ := unlock_ok hr en hk e2 e3 r hom
    exact ⟨o, _, e2, q1, q2⟩
  · cases e
theorem se_lk (i : Nat) (he : SE X T W e f) : SE X T W e (dLk i f) := ⟨PE.imp (PE.or he.p (pe_lk he.p)) fun σ H Q ⟨ρ, s, h, st, hr, q⟩ => by
  unfold dLk at q
  cases z : lkSlot i s h with
  | none => rw [z] at q; exact .inl ⟨ρ, s, h, st, hr, q⟩
  | some p =>
    obtain ⟨n, kvs⟩ := p
    simp only [z] at q
    right
    obtain ⟨a, L, en, e0, ea, hs, pr, hom⟩ := lkSlot_ok hr st z
    refine ⟨a, _, ea, trivial, fun od => ?_⟩
    have hr1 := lock_ok (o := od) hr en e0 ea hs pr hom
    have mu : Mut (H a) := by rw [ea]; trivial
    have g0 := grow_put (o := HO.frz od (DN X.w L a)) mu en
    refine ⟨ρ, s, _, st.grow hr.live g0, hr1, ?_⟩
    cases z2 : f s (h.put n (.dict true kvs)) with
    | no => rw [z2] at q; exact q
    | ex x h1 =>
      rw [z2] at q
      refine fun ρ' H' c d g2 hr2 xr => ?_
      have : Grow ρ ρ' H H' := by
        refine ⟨g2.rho, fun m b e1 e2 => ?_, fun b y e1 hn => ?_, fun b y w e1 => ?_⟩
        · have := g2.new m b e1 e2
          by_cases y : b = a
          · subst y; rw [upd_same] at this; cases this
          · rw [upd_ne y] at this; exact this
        · exact g2.keep b y (by rw [upd_ne (fun y => hn n (by rw [y]; exact en))]; exact e1) hn
        · exact g2.frz b y w (by rw [upd_ne (fun y => by rw [← y, e1] at mu; exact mu)]; exact e1)
      exact q ρ' H' c d this hr2 xr
    | ok d h1 =>
      rw [z2] at q
      intro ρ1 H1 g1 h1r v rv
      cases z3 : unlkD n h1 with
      | none => simp only [z3] at q; exact q.elim
      | some h2 =>
        simp only [z3] at q
        obtain ⟨o', u', eu, hr2, xu⟩ := unlkD_ok h1r (g1.rho _ _ en) z3
        exact ⟨o', u', eu, q ρ1 _ (grow_lk mu en g1 eu) hr2 v (Rp.extU xu d rv)⟩⟩
theorem s_lk (i : Nat) (hs : SS X T W st g) : SS X T W st (gLk i g) := ⟨PS.imp (PS.or hs.p (ps_lk hs.p)) fun D σ H ⟨ρ, s, h, st, hr, q⟩ => by
  unfold gLk at q
  cases z : lkSlot i s h with
  | none => rw [z] at q; exact .inl ⟨ρ, s, h, st, hr, q⟩
  | some p =>
    obtain ⟨n, kvs⟩ := p
    simp only [z] at q
    right
    obtain ⟨a, L, en, e0, ea, hs, pr, hom⟩ := lkSlot_ok hr st z
    refine ⟨a, _, ea, trivial, fun od => ?_⟩
    have hr1 := lock_ok (o := od) hr en e0 ea hs pr hom
    have mu : Mut (H a) := by rw [ea]; trivial
    have g0 := grow_put (o := HO.frz od (DN X.w L a)) mu en
    refine ⟨ρ, s, _, st.grow hr.live g0, hr1, ?_⟩
    have grow : ∀ {ρ' : Rho} {H' : Hp}, Grow ρ ρ' (upd H a (.frz od (DN X.w L a))) H' → Grow ρ ρ' H H' := fun {ρ' H'} g2 => by
      refine ⟨g2.rho, fun m b e1 e2 => ?_, fun b y e1 hn => ?_, fun b y w e1 => ?_⟩
      · have := g2.new m b e1 e2
        by_cases y : b = a
        · subst y; rw [upd_same] at this; cases this
        · rw [upd_ne y] at this; exact this
      · exact g2.keep b y (by rw [upd_ne (fun y => hn n (by rw [y]; exact en))]; exact e1) hn
      · exact g2.frz b y w (by rw [upd_ne (fun y => by rw [← y, e1] at mu; exact mu)]; exact e1)
    cases z2 : g s (h.put n (.dict true kvs)) with
    | no => rw [z2] at q; exact q
    | ex x s1 h1 =>
      rw [z2] at q
      exact fun ρ' H' σ' c d g2 hr2 st2 xr => q ρ' H' σ' c d (grow g2) hr2 st2 xr
    | nx s1 h1 =>
      rw [z2] at q
      intro ρ1 H1 σ1 g1 h1r st1
      unfold unlkS at q
      cases z3 : unlkD n h1 with
      | none => simp only [z3] at q; exact q.elim
      | some h2 =>
        simp only [z3] at q
        obtain ⟨o', u', eu, hr2, xu⟩ := unlkD_ok h1r (g1.rho _ _ en) z3
        exact ⟨o', u', eu, q ρ1 _ σ1 (grow_lk mu en g1 eu) hr2 (st1.extU xu)⟩
    | bk s1 h1 =>
      rw [z2] at q
      intro ρ1 H1 σ1 g1 h1r st1
      unfold unlkS at q
      cases z3 : unlkD n h1 with
      | none => simp only [z3] at q; exact q.elim
      | some h2 =>
        simp only [z3] at q
        obtain ⟨o', u', eu, hr2, xu⟩ := unlkD_ok h1r (g1.rho _ _ en) z3
        exact ⟨o', u', eu, q ρ1 _ σ1 (grow_lk mu en g1 eu) hr2 (st1.extU xu)⟩
    | ct s1 h1 =>
      rw [z2] at q
      intro ρ1 H1 σ1 g1 h1r st1
      unfold unlkS at q
      cases z3 : unlkD n h1 with
      | none => simp only [z3] at q; exact q.elim
      | some h2 =>
        simp only [z3] at q
        obtain ⟨o', u', eu, hr2, xu⟩ := unlkD_ok h1r (g1.rho _ _ en) z3
        exact ⟨o', u', eu, q ρ1 _ σ1 (grow_lk mu en g1 eu) hr2 (st1.extU xu)⟩
    | rt d h1 =>
      rw [z2] at q
      intro ρ1 H1 v g1 h1r rv
      unfold unlkS at q
      cases z3 : unlkD n h1 with
      | none => simp only [z3] at q; exact q.elim
      | some h2 =>
        simp only [z3] at q
        obtain ⟨o', u', eu, hr2, xu⟩ := unlkD_ok h1r (g1.rho _ _ en) z3
        exact ⟨o', u', eu, q ρ1 _ v (grow_lk mu en g1 eu) hr2 (Rp.extU xu d rv)⟩⟩
/-! ## walking -/
def keysD (kvs : List (NestedKey × D × D)) : List D := kvs.map fun q => q.2.1
def prsD (kvs : List (NestedKey × D × D)) : List (D × D) := kvs.map fun q => q.2
/-- a locked dict -/
def dctL (d : D) (h : AH) : Option (List (NestedKey × D × D)) := match d with
  | .cell n => match h.get n with
    | some (.dict true kvs) => some kvs
    | _ => none
  | _ => none
theorem dctL_ok {K : KW} {ρ : Rho} {H : Hp} {h : AH} {d : D} {v : V} {kvs : List (NestedKey × D × D)} (hr : HR K ρ H h) (r : Rp K ρ H d v) (e : dctL d h = some kvs) : ∃ a o L, v = .ref a ∧ H a = some (.frz o (DN K.w L a)) ∧ (a == sysModules) = false ∧ Paired (DEnt K ρ H) kvs L := by
  unfold dctL at e
  cases d with
  | cell n =>
    simp only at e
    split at e
    · rename_i kvs' hk
      cases e
      obtain ⟨a, e1, L, ⟨o, e2⟩, e3, p, hom⟩ := hr.at_ _ _ hk
      obtain ⟨b, rfl, e4⟩ := rp_cell.mp r
      rw [e1] at e4; cases e4
      exact ⟨a, o, L, rfl, e2, e3, p⟩
    · cases e
  | _ => cases e
def iKeysD (f : DE) : DI := fun s h => (f s h).bind fun d h1 => withS (dctL d h1) fun kvs => .ok (.snap (keysD kvs)) h1
def iPrsD (f : DE) : DI := fun s h => (f s h).bind fun d h1 => withS (dctL d h1) fun kvs => .ok (.snap2 (prsD kvs)) h1
theorem paired_at {α β : Type} {F : α → β → Prop} : ∀ {l : List α} {m : List β} {i : Nat} {a : α}, Paired F l m → l[i]? = some a → ∃ b, m[i]? = some b ∧ F a b
  | _, _, i, a, .nil, e => by simp at e
  | x :: l, y :: m, 0, a, .cons r t, e => by simp at e; subst e; exact ⟨y, rfl, r⟩
  | x :: l, y :: m, i + 1, a, .cons r t, e => by
    obtain ⟨b, h1, h2⟩ := paired_at (i := i) t (by simpa using e)
    exact ⟨b, by simpa using h1, h2⟩
theorem itR_q {K : KW} {ρ : Rho} {H : Hp} {a : Addr} {o : Obj} {L : List (NestedKey × V × V)} {kvs : List (NestedKey × D × D)} (e : H a = some (.frz o (DN K.w L a))) (p : Paired (DEnt K ρ H) kvs L) : ItR K ρ H (.snap (keysD kvs)) (Itq K.w a o L) := fun ρ' H' h' g hr i => by
  have e' := g.frz _ _ _ e
  cases z : kvs[i]? with
  | none =>
    rw [show itemAt (.snap (keysD kvs)) i h' = some none by simp [itemAt, keysD, z]]
    exact ⟨e', by rw [← paired_len p]; exact List.getElem?_eq_none_iff.mp z⟩
  | some q =>
    rw [show itemAt (.snap (keysD kvs)) i h' = some (some q.2.1) by simp [itemAt, keysD, z]]
    obtain ⟨b, hb, r⟩ := paired_at p z
    refine ⟨⟨e', (List.getElem?_eq_some_iff.mp hb).1⟩, fun x H'' y => ?_⟩
    obtain ⟨rfl, b', hb', rfl⟩ := y
    rw [hb] at hb'; cases hb'
    exact ⟨ρ', Grow.refl _ _, hr, Rp.ext g _ r.2.2.2.1⟩
theorem itR_p {K : KW} {ρ : Rho} {H : Hp} {a : Addr} {o : Obj} {L : List (NestedKey × V × V)} {kvs : List (NestedKey × D × D)} (e : H a = some (.frz o (DN K.w L a))) (p : Paired (DEnt K ρ H) kvs L) : ItR K ρ H (.snap2 (prsD kvs)) (Itp K.w a o L) := fun ρ' H' h' g hr i => by
  have e' := g.frz _ _ _ e
  cases z : kvs[i]? with
  | none =>
    rw [show itemAt (.snap2 (prsD kvs)) i h' = some none by simp [itemAt, prsD, z]]
    exact ⟨e', by rw [← paired_len p]; exact List.getElem?_eq_none_iff.mp z⟩
  | some q =>
    rw [show itemAt (.snap2 (prsD kvs)) i h' = some (some (.tup [q.2.1, q.2.2])) by simp [itemAt, prsD, z]]
    obtain ⟨b, hb, r⟩ := paired_at p z
    refine ⟨⟨e', (List.getElem?_eq_some_iff.mp hb).1⟩, fun x H'' y => ?_⟩
    obtain ⟨t, b', hb', rfl, nt, rfl⟩ := y
    rw [hb] at hb'; cases hb'
    exact pair_new hr nt (Rp.ext g _ r.2.2.2.1) (Rp.ext g _ r.2.2.2.2)
theorem si_keys {tg : Expr} (he : SE X T W e f) : SI X T W tg e (iKeysD f) := ⟨PI.imp (pi_q he.p) fun σ H Q ⟨ρ, s, h, st, hr, q⟩ => tD_bind st hr q fun d h1 ρ1 H1 v g1 hr1 st1 r1 q1 => by
  obtain ⟨kvs, e1, q1⟩ := Post.withS q1
  obtain ⟨a, o, L, rfl, e2, e3, p⟩ := dctL_ok hr1 r1 e1
  exact ⟨a, o, L, rfl, e2, e3, q1.here hr1 _ (itR_q e2 p)⟩⟩
theorem si_items {elts : List Expr} {kk : Nat} {tpos apos cpos : Pos} (he : SE X T W e f) (hbase : attributeBase e "items" X.env (eval e X.env) = eval e X.env := by rfl) (hline : (apos.endLine == cpos.line) = true := by rfl) :
    SI X T W (.Tuple elts kk tpos) (.Call (.Attribute e "items" apos) [] [] cpos) (iPrsD f) := ⟨PI.imp (pi_p he.p hbase hline) fun σ H Q ⟨ρ, s, h, st, hr, q⟩ => tD_bind st hr q fun d h1 ρ1 H1 v g1 hr1 st1 r1 q1 => by
  obtain ⟨kvs, e1, q1⟩ := Post.withS q1
  obtain ⟨a, o, L, rfl, e2, e3, p⟩ := dctL_ok hr1 r1 e1
  exact ⟨a, o, L, rfl, e2, e3, q1.here hr1 _ (itR_p e2 p)⟩⟩
/-- a dict that has just come is locked for good -/
def dLkT (f : DE) : DE := fun s h => (f s h).bind fun d h1 => match d with
  | .cell n => match h1.get n with
    | some (.dict false kvs) => .ok d (h1.put n (.dict true kvs))
    | _ => .no
  | _ => .no
theorem se_lkT (he : SE X T W e f) : SE X T W e (dLkT f) := ⟨PE.imp (pe_lkT he.p) fun σ H Q ⟨ρ, s, h, st, hr, q⟩ => tD_bind st hr q fun d h1 ρ1 H1 v g1 hr1 st1 r1 q1 => by
  cases d with
  | cell n =>
    simp only at q1
    split at q1
    · rename_i kvs hk
      obtain ⟨a, en, L, ea, hs, pr, hom⟩ := hr1.at_ _ _ hk
      have ea : H1 a = some (DN X.w L a) := ea
      refine ⟨a, _, ea, trivial, fun od => ?_⟩
      have mu : Mut (H1 a) := by rw [ea]; trivial
      have g0 := grow_put (o := HO.frz od (DN X.w L a)) mu en
      exact q1 ρ1 _ g0 (lock_ok (o := od) hr1 en hk ea hs pr hom) v (Rp.grow hr1.live g0 _ r1)
    · exact q1.elim
  | _ => exact q1.elim⟩
end
end Nc
namespace Nc
open PySem PySem.Spec PyProof.Rows L2
/-! ## own exceptions over LookupError whose __init__ stores one field -/
abbrev leTail : List Value := [.type "LookupError", .type "Exception", .type "BaseException", .type "object"]
theorem le_pass (self : Value) (C : Addr) : refuseLoop self "__setattr__" (.ref C :: leTail) = pure () := by
  rw [refuseLoop_ref]; exact F.store_LookupError.passes self
section
open Builtin Builtin.ObjectAttr PySem.W PySem.Calls PySem.HandSPX
variable {prog : Program} {w : World} {A : Around} {E : Value → Shared → Prop} {R : Result → Shared → Prop} {hp : Heap} {g : Array GenState} {d : Drawn} {t : Nat} {os : OsState}
theorem osa_le {K : W.Frag} {name : Str} {tk : Tok} {v : Value} {x C : Addr} {fv : Array Value} {cd : ClassData}
    (X : K.In hp) (hx : hp.get? x = some { cls := .ref C, data := .fields fv }) (hcd : W.clsIn K C = some cd) (hm : cd.mro = .ref C :: leTail) (hh : cd.hasDict = true) (ha : W.findIn K (.ref C) name = some none)
    (hq : ∀ h' tk' dx, (∀ b o, b ≠ x → hp.get? b = some o → h'.get? b = some o) → hp.objs.size ≤ dx → dx ≠ x → h'.get? x = some { cls := .ref C, dict := some dx, data := .fields fv } →
      h'.Ns1 dx (fun y => if y = name then some v else none) → R (.ok (.ret .none)) ⟨h', g, d, tk', os⟩) :
    codeAny (model prog w) A (.call (.builtin "object.__setattr__") ⟨[.ref x, .str name tk, v], []⟩) R ⟨hp, g, d, t, os⟩ := by
  have I : W.InstAt hp x { cls := .ref C, data := .fields fv } C none := ⟨hx, rfl, rfl, trivial⟩
  have SF := F.store_object
  have hob : cd.mro.contains (.type "object") = true := by rw [hm]; rfl
  have ne : cd.mro.isEmpty = false := by rw [hm]; rfl
  have hxs : x ≠ hp.objs.size := Nat.ne_of_lt (Heap.lt_size hx)
  have sub : W.Looks (model prog w) hp (isInstance (.ref x) (.type "object")) true := I.type.andThen (W.looks_mroIn X (by unfold W.mroIn; rw [hcd, Option.bind_some, if_neg (by rw [ne]; decide), hob]))
  refine codeAny_call_builtin SF.slot.plain SF.entry (@W.check_slot (model prog w) _ _ ⟨hp, g, d, t, os⟩ "object.__setattr__" "object" "__setattr__" (.ref x) [.str name tk, v] [] _ SF.kind SF.split sub (SF.args (.ref x) (.str name tk) v) ?_)
  have hmr : W.Looks (model prog w) hp (mroOf (.ref C)) cd.mro := (W.looks_clsIn X hcd).andThen .now
  have L3 : W.Looks (model prog w) hp (storeTaker? none) none := .now
  have hcls : W.Looks (model prog w) hp (classData C) cd := W.looks_clsIn X hcd
  rw [W.osa_eq, refuse_eq]
  refine wpAny_bind (wpAny_bind (I.type.at (wpAny_bind (hmr.at ?_))))
  rw [hm, le_pass]
  refine wpAny_pure (wpAny_bind (I.type.at (wpAny_bind ((W.looks_findIn X ha).at (wpAny_bind (L3.at ?_))))))
  show wpAny _ _ (storeInOwnDict (.ref x) (.ref C) (.str name tk) name v false) _ _ _
  obtain ⟨nm, bs, mro, ns, qn, hd, sn, sb, ab, col, del⟩ := cd
  dsimp only at hh
  subst hh
  unfold storeInOwnDict ownDictForStores
  repeat (first | with_reducible refine store_in_new ?_ ?_ | with_reducible refine wpAny_loadPart_at hx ?_ | with_reducible refine hcls.at ?_ | wp_step)
  · exact ⟨_, #[], _, (Heap.get?_update_ne _ _ _ _ hxs.symm).trans (Heap.get?_push_at rfl rfl), rfl, fun e he => absurd he (by simp), fun _ => rfl⟩
  · intro h' tk' hn' hs
    have hx₁ : (hp.push { cls := .type "dict", data := .dict #[] }).get? x = some { cls := .ref C, data := .fields fv } := Heap.get?_push_of_some _ hx
    refine hq h' tk' hp.objs.size (fun b o hb ho => ?_) (Nat.le_refl _) hxs.symm ?_ hn'
    · exact (hs.2 b (Nat.ne_of_lt (Heap.lt_size ho))).trans ((Heap.get?_update_ne _ _ _ _ hb).trans (Heap.get?_push_of_some _ ho))
    · exact (hs.2 x hxs).trans (Heap.get?_update_self _ hx₁ rfl)
end
structure OexL (K : PySem.W.Frag) (C : Addr) : Prop where
  cls : ∃ nm q N bs sn sub ab col dd k0 k1 k2 k3 k5, K.lookup C = some (excClassObj nm q C N bs leTail true sn sub ab col dd k0 k1 k2 k3 k5 "LookupError.__new__")
  sa : PySem.W.findIn K (.ref C) "__setattr__" = some (some (.builtin "object.__setattr__"))
  exC : PySem.W.subIn K (.ref C) (.type "BaseException") = some true
  tyC : PySem.W.typeIn K (.ref C) = some (.type "type")
  kC : PySem.W.keepIn K (.ref C) = true
section
variable {X : Cx} {pins : List (Addr × Obj)} {σ : L2.St} {H : Hp} {s : Shared} {a C dx : Addr} {f : Str} {y : V} {u : Value} {Q : Unit → Shared → Prop} {E : Value → Shared → Prop} {A : Around}
theorem ost_le (T : OexL X.K C) (I : Inv X pins σ H s) (e : H a = some (exo a C none)) (hno : PySem.W.findIn X.K (.ref C) f = some none) (ry : RelV y u)
    (h : ∀ dx s', H dx = none → dx ≠ a → Inv X pins σ (upd (upd H dx (exd dx [(f, y)])) a (exo a C (some dx))) s' → Q () s') : wpAny (model X.prog X.w) A (setAttr (.ref a) f u) Q E s := by
  obtain ⟨nm, q, N, bs, sn, sub, ab, col, dd, k0, k1, k2, k3, k5, hC⟩ := T.cls
  have hcl : PySem.W.clsIn X.K C = some { name := nm, bases := bs, mro := .ref C :: leTail, ns := N, qualname := q, hasDict := true, slotNames := sn, subclasses := sub, abstract := ab, collection := col, hasDel := false } := by unfold PySem.W.clsIn; rw [hC] <;> rfl
  obtain ⟨t1, ho⟩ := exo_at I.hok e
  obtain ⟨hp, g, d, t, os⟩ := s
  refine PySem.W.set_plain I.kIn (ox := { cls := .ref C, dict := none, data := .fields #[.ref t1, .none, .none, .none, .bool false, .none] }) (od := none) ⟨ho, rfl, rfl, trivial⟩ T.sa ?_
  refine osa_le I.kIn ho hcl rfl rfl hno (fun h' tk' dx k dn dne hx hn => ?_)
  have hnd : H dx = none := I.hok.fresh dn
  have nd : ∀ {b : Addr} {o : Obj}, hp.get? b = some o → b ≠ dx := fun {b o} q => Nat.ne_of_lt (Nat.lt_of_lt_of_le (Heap.lt_size q) dn)
  have na : ∀ {b : Addr}, H b = none → b ≠ a := fun {b} n z => by
    rw [z, e] at n
    cases n
  have Un1 : Un X.fs [] H (upd (upd H dx (exd dx [(f, y)])) a (exo a C (some dx))) hp h' := {
    keep := fun b o q n _ _ => k b o (na n) q
    slot := fun b o q n _ _ => ⟨o.slots, k b o (na n) q⟩
    free := fun b o q n _ => by rw [upd_ne (na n), upd_ne (nd q)]; exact n
    there := fun b o q _ => by
      by_cases hb : b = a
      · exact ⟨_, by rw [hb]; exact hx⟩
      · exact ⟨o, k b o hb q⟩
    tups := fun b xs q => by rw [upd_ne (at_ne e q exo_tup), upd_ne (ne_of_none q hnd)]; exact q
    frzs := fun b o v q => by rw [upd_ne (at_ne e q exo_frz), upd_ne (ne_of_none q hnd)]; exact q
    tbls := fun b ps q => ⟨#[], by rw [upd_ne (at_ne e q exo_tbl), upd_ne (ne_of_none q hnd), q]; simp⟩ }
  refine h dx _ hnd dne (I.un (t' := tk') Un1 fun b o q => ?_)
  by_cases hb : b = a
  · subst hb
    rw [upd_same] at q
    cases q
    exact exo_ok hx
  · rw [upd_ne hb] at q
    by_cases hd : b = dx
    · subst hd
      rw [upd_same] at q
      cases q
      exact exd_ok hn (relO_put (fs := []) ry fun g => True.intro)
    · rw [upd_ne hd] at q
      exact (I.hok b o q).stay (fun c v hc z => k c v (by
          rcases hc with hc | hc
          · rw [hc]
            exact hb
          · exact at_ne e hc exo_own) z)
        (fun c hc => by rw [upd_ne (at_ne e hc exo_own), upd_ne (ne_of_none hc hnd)]; exact hc) (fun c xs hc => by rw [upd_ne (at_ne e hc exo_tup), upd_ne (ne_of_none hc hnd)]; exact hc)
end
/-- self.f = e -/
def tOstL (K : PySem.W.Frag) (f : Str) (to te : TE) : TS := fun D σ H => te σ H fun y H1 => to σ H1 fun x H2 => ∃ a C : Addr, x = .ref a ∧ OexL K C ∧ PySem.W.findIn K (.ref C) f = some none ∧
  H2 a = some (exo a C none) ∧ ∀ dx, H2 dx = none → dx ≠ a → D.nx σ (upd (upd H2 dx (exd dx [(f, y)])) a (exo a C (some dx)))
theorem ps_ostL {X : Cx} {o e : Expr} {to te : TE} {f : Str} {p' pos : Pos} (ho : PE X o to) (he : PE X e te) (hs : swapsWith e (some (.Attribute o f p')) pos.line X.env = pure false := by rfl) : PS X (.Assign [.Attribute o f p'] e pos) (tOstL X.K f to te) := by
  refine ⟨fun pins s σ H D I h => ?_⟩
  refine plainObj_wpAny_Assign_Attribute (thn (he.run pins s σ H _ I h) fun v s1 ⟨y, H1, I1, r1, q1⟩ => thn (ho.run pins s1 σ H1 _ I1 q1) fun u s2 ⟨x, H2, I2, r2, a, C, ex, T, hno, q⟩ => ?_) hs
  subst ex
  obtain rfl : u = Value.ref a := r2
  obtain ⟨ea, q⟩ := q
  exact ost_le T I2 ea hno r1 fun dx s' n ne J => ⟨σ, _, J, q dx n ne⟩
/-- __init__(self, f): self.f = f -/
def spFld (C : Addr) (f : Str) : Sp := fun vs H Q _ => ∃ a v, vs = [.ref a, v] ∧ H a = some (exo a C none) ∧ ∀ dx, H dx = none → dx ≠ a → Q .non (upd (upd H dx (exd dx [(f, v)])) a (exo a C (some dx)))
theorem ok_fld {P : Program} {w : World} {K : PySem.W.Frag} {mg : Str → Option Value} {base : Heap} {x qual : Str} {st : Stmt} {fa : Addr} {fd : FuncData} {f : Str} {k : Nat} {C : Addr} {p0 p1 p2 p3 : Pos} (F : Fun K x qual st fa fd) (S : FnScope ["self", f] ["self", f] (defScope st)) (O : OexL K C) (hno : PySem.W.findIn K (.ref C) f = some none)
    (hb : defBody st = [.Assign [.Attribute (.Name "self" p0) f p1] (.Name f p2) p3]) (hd : (f == ("__debug__" : Str)) = false) (hcd : (f == ("__classdict__" : Str)) = false)
    (hl : (defScope st).names.lookup f = some .local) (hl0 : (defScope st).names.lookup ("self" : Str) = some .local) (hsw : ∀ {prog : Program} {w : World} (env : Env), env.scope = defScope st → swapsWith (.Name f p2) (some (.Attribute (.Name "self" p0) f p1)) p3.line env = pure false) : FnOk P w K mg base (L2.CX P w) (k + 1) fa fd ["self", f] (spFld C f) := by
  refine F.okX S (fun vs H Q E h => ?_) fun cdv A outer s H vs Q E hr h => ?_
  · obtain ⟨a, v, e, _⟩ := h; rw [e]; rfl
  · obtain ⟨a, v, e, ea, q⟩ := h
    subst e
    rw [hb]
    refine ⟨_, pss_one (ps_ostL (pe_var (i := 0) rfl (.inl hl0) (by decide) (by decide)) (pe_var (i := 1) rfl (.inl hl) hd hcd) (hsw (prog := P) (w := w) _ rfl)), ?_⟩
    exact ⟨v, rfl, .ref a, rfl, a, C, rfl, O, hno, ea, fun dx n ne => q dx n ne⟩
section
variable {X : Cx} {e : Expr} {es : List Expr} {ta : TA} {p pos : Pos}
theorem pmk_le {x f : Str} {C fI : Addr} {k : Nat} {fd : FuncData} (T : OexL X.K C) (iC : PySem.W.findIn X.K (.ref C) "__init__" = some (some (.ref fI))) (tI : PySem.W.typeIn X.K (.ref fI) = some (.type "function"))
    (F1 : FnOk X.prog X.w X.K X.mg X.base (L2.CX X.prog X.w) k fI fd ["self", f] (spFld C f)) (hr : Room (k + 1) X.A) (hb : Binds X.K fd ["self", f] []) (hg : Gl X x) (hm : X.mg x = some (.ref C)) (ha : PA X [e] ta)
    (hdb : (x == ("__debug__" : Str)) = false := by decide) (he : starEach [e] X.env = (false, eval e X.env) :: starEach [] X.env := by rfl) (hpl : (backTo pos (starEach [] X.env)).any (·.1) = false := by rfl) :
    PMk X (.Call (.Name x p) [e] [] pos) (fun σ H Q => ta σ H fun vs H1 => ∃ v, vs = [v] ∧ ∀ d, H1 d = none → Q (.ref C) (some d) (upd H1 d (.xd [(f, v)]))) := by
  intro pins s σ H Q I h
  obtain ⟨nm, q, N, bs, sn, sub, ab, col, dd, k0, k1, k2, k3, k5, hC⟩ := T.cls
  refine wpAny_Call_Name_kw (ld_glob I hg hm ?_ hdb)
  refine PySem.W.callWith_K (h₀ := X.base) I.ok.mod.kin T.kC (thn (ha.run pos pins s σ H _ I h) fun us s1 ⟨vs, H1, I1, r1, v, ev, q1⟩ => ⟨I1.kIn, ?_⟩) he hpl
  show wpAny _ _ (call (.ref C) us) _ _ _
  subst ev
  obtain ⟨hp, g, dr, tk, os⟩ := s1
  have hsz : hp.objs.size ≤ hp.objs.size + 1 := Nat.le_succ _
  have hn : H1 (hp.objs.size + 1) = none := I1.hok.fresh hsz
  have kk : ∀ b o, hp.get? b = some o → ((hp.push (PySem.W.kdv_tup us)).push (PySem.HandSPX.excO C hp.objs.size)).get? b = some o := fun b o e => Heap.get?_push_of_some _ (Heap.get?_push_of_some _ e)
  have hget : ((hp.push (PySem.W.kdv_tup us)).push (PySem.HandSPX.excO C hp.objs.size)).get? (hp.objs.size + 1) = some (PySem.HandSPX.excO C hp.objs.size) := by heap_get
  have I2 : Inv X pins σ (upd H1 (hp.objs.size + 1) (exo (hp.objs.size + 1) C none)) ⟨(hp.push (PySem.W.kdv_tup us)).push (PySem.HandSPX.excO C hp.objs.size), g, dr, tk, os⟩ :=
    I1.laid (t' := tk) (a := hp.objs.size + 1) (o := exo (hp.objs.size + 1) C none) (h' := (hp.push (PySem.W.kdv_tup us)).push (PySem.HandSPX.excO C hp.objs.size)) kk hsz (exo_ok hget)
  have r2 : Vals (V.ref (hp.objs.size + 1) :: [v]) (Value.ref (hp.objs.size + 1) :: us) := .cons rfl r1
  have hl : (Value.ref (hp.objs.size + 1) :: us).length = ([("self" : Str), f] : List Str).length := by
    have e := r2.length
    exact e.symm
  have hbb : BindsTo ⟨(hp.push (PySem.W.kdv_tup us)).push (PySem.HandSPX.excO C hp.objs.size), g, dr, tk, os⟩ fd ⟨Value.ref (hp.objs.size + 1) :: us, []⟩ (([("self" : Str), f] : List Str).zip (Value.ref (hp.objs.size + 1) :: us)) := by
    have z := hb ⟨(hp.push (PySem.W.kdv_tup us)).push (PySem.HandSPX.excO C hp.objs.size), g, dr, tk, os⟩ (Value.ref (hp.objs.size + 1) :: us) I2.kIn (by rw [List.append_nil]; exact hl)
    rw [List.append_nil] at z; exact z
  have hus : us.length ≤ sizeLine := by
    have := Paired.length r1
    rw [← this, sizeLine_eq]
    show 1 ≤ _
    omega
  refine wpAny_call (PySem.HandSPX.call_own F.excBase_LookupError (fun Y => rfl) (I1.kIn _ _ hC) (PySem.W.looks_findIn I1.kIn iC) (fun self => PySem.W.bind_fn I1.kIn self tI) hus
    (codeAny_mono (F1.run _ X.stack _ _ ⟨Value.ref (hp.objs.size + 1) :: us, []⟩ (Value.ref (hp.objs.size + 1) :: us) _ (fun u H2 => u = .non ∧ ∃ d, H1 d = none ∧ d ≠ hp.objs.size + 1 ∧ H2 = upd (upd (upd H1 (hp.objs.size + 1) (exo (hp.objs.size + 1) C none)) d (exd d [(f, v)])) (hp.objs.size + 1) (exo (hp.objs.size + 1) C (some d))) (fun _ _ _ => False) (hr.make C us []) (I2.env0.make C us []) hbb r2 ⟨_, v, rfl, upd_same, fun dx n ne => ⟨rfl, dx, by rw [upd_ne ne] at n; exact n, ne, rfl⟩⟩) fun r s' hq' => ?_))
  cases r with
  | error er =>
    obtain ⟨_, _, _, _, _, _, _, _, _, _, _, _, z⟩ := hq'
    exact z.elim
  | ok fl =>
    cases fl with
    | ret u =>
      obtain ⟨v', H2, os2, bare2, un2, hok2, rv, ev, d, hd1, hda, eH⟩ := hq'
      subst ev; subst eH
      obtain ⟨h2, g2, d2, t2, os'⟩ := s'
      have e1 : (upd (upd (upd H1 (hp.objs.size + 1) (exo (hp.objs.size + 1) C none)) d (exd d [(f, v)])) (hp.objs.size + 1) (exo (hp.objs.size + 1) C (some d))) d = some (exd d [(f, v)]) := by rw [upd_ne hda, upd_same]
      have e2 : upd (del (upd (upd (upd H1 (hp.objs.size + 1) (exo (hp.objs.size + 1) C none)) d (exd d [(f, v)])) (hp.objs.size + 1) (exo (hp.objs.size + 1) C (some d))) (hp.objs.size + 1)) d (.xd [(f, v)]) = upd H1 d (.xd [(f, v)]) := by
        funext b
        by_cases z : b = d
        · subst z; rw [upd_same, upd_same]
        · rw [upd_ne z, upd_ne z]
          by_cases z2 : b = hp.objs.size + 1
          · subst z2; rw [del_same, hn]
          · rw [del_ne z2, upd_ne z2, upd_ne z, upd_ne z2]
      exact ⟨rv, mk_end (raises_own T.exC T.tyC) I1 hsz kk un2 hok2 os2 bare2 upd_same e1 hd1 (by rw [e2]; exact q1 d hd1)⟩
    | next => exact False.elim hq'
    | brk => exact False.elim hq'
    | cont => exact False.elim hq'
end
end Nc
namespace Nc
open PySem PySem.Spec PyProof.Rows L2
/-! ## several except clauses, named or not -/
def endN (i : Option Nat) (D : Ends) : Ends := match i with
  | none => D
  | some i => { nx := fun σ' H' => D.nx (σ'.set i none) H', rt := D.rt, bk := fun σ' H' => D.bk (σ'.set i none) H', ct := fun σ' H' => D.ct (σ'.set i none) H' }
def setN (i : Option Nat) (a : Addr) (σ : L2.St) : L2.St := match i with
  | none => σ
  | some i => σ.set i (some (.ref a))
abbrev HTs := Addr → Value → Option Addr → TS
def wHs (K : PySem.W.Frag) (Wout : WX) (D : Ends) : List (Value × Option Nat × HTs) → WX
  | [] => Wout
  | (c, i, ts) :: r => fun cls d σ H => ∃ b, PySem.W.exmOne K cls c = some b ∧ (b = true → ∀ a, H a = none → ts a cls d (endN i D) (setN i a σ) H) ∧ (b = false → wHs K Wout D r cls d σ H)
inductive HdsN (X : Cx) : List ExceptHandler → List (Value × Option Nat × HTs) → Prop
  | nil : HdsN X [] []
  | cons {x : Str} {c : Value} {ts : HTs} {b₀ : Stmt} {suite : List Stmt} {np pos' : Pos} {hds : List ExceptHandler} {l : List (Value × Option Nat × HTs)} (hc : Names X x c)
      (hsu : ∀ (a : Addr) (oe : Obj) (cls : Value) (d : Option Addr) (pn : List (Addr × Obj)), Zc cls d oe → (∃ vs, oe.data = .fields vs) → PSs (X.suite a ((a, oe) :: pn)) (b₀ :: suite) (ts a cls d)) (r : HdsN X hds l) :
      HdsN X (.ExceptHandler (some (.Name x np)) none (b₀ :: suite) pos' :: hds) ((c, none, ts) :: l)
  | consA {x n : Str} {i : Nat} {c : Value} {ts : HTs} {b₀ : Stmt} {suite : List Stmt} {np pos' : Pos} {hds : List ExceptHandler} {l : List (Value × Option Nat × HTs)} (hc : Names X x c) (hi : X.N[i]? = some n) (hln : X.env.kindOf n = some .local)
      (hsu : ∀ (a : Addr) (oe : Obj) (cls : Value) (d : Option Addr) (pn : List (Addr × Obj)), Zc cls d oe → (∃ vs, oe.data = .fields vs) → PSs (X.suite a ((a, oe) :: pn)) (b₀ :: suite) (ts a cls d)) (r : HdsN X hds l) :
      HdsN X (.ExceptHandler (some (.Name x np)) (some n) (b₀ :: suite) pos' :: hds) ((c, some i, ts) :: l)
section
variable {X : Cx} {body : List Stmt} {h₀ : ExceptHandler} {hds : List ExceptHandler} {l : List (Value × Option Nat × HTs)} {pos : Pos} {tb : WX → TS} {Wout : WX}
theorem ps_try_hs (hs : X.stack = X.env :: X.outer) (hf : X.env.frame = some X.env.locals) (hN : X.N.Nodup) (tk : Takes X Wout)
    (hb : ∀ (W : WX) (pn : List (Addr × Obj)) (xe : Value → Shared → Prop), Takes (X.tr pn xe) W → PassesOwn (model X.prog X.w) X.A X.env xe → PSs (X.tr pn xe) body (tb W))
    (hh : HdsN X (h₀ :: hds) l) : PS X (.Try body (h₀ :: hds) [] [] pos) (fun D σ H => tb (wHs X.K Wout D l) D σ H) := by
  refine ⟨fun pins s σ H D I h => ?_⟩
  have ok := I.ok
  have hfr : X.A.frames = some (X.env :: X.outer) := by rw [ok.frames, hs]
  refine wpAny_Try_except ?_
  refine wpAny_mono ((hb (wHs X.K Wout D l) (X.pn ++ pins) (fun e s₁ => wpAny (model X.prog X.w) X.A (noteFrame e X.env) (fun _ s₂ => wpAny (model X.prog X.w) X.A (setFlight e none) (fun _ s₃ =>
    wpAny (model X.prog X.w) X.A (handleBy e X.env (h₀ :: hds)) (SP X pins D) X.xe s₃) X.xe s₂) X.xe s₁) (fun u s' xx => ?_) PassesOwn.looking).run [] s σ H D (I.toTry _) h) (fun f s1 hsp => ?_) (fun e s1 he => he)
  · -- the catch
    obtain ⟨a, B, sI, pins', σ', H', cls, d, rfl, J', nb, up, sky, na, os, ag, w⟩ := xx
    have J : Inv X pins σ' H' sI := J'.ofTry ok
    have sky' : Sky B (X.env :: X.outer) a (Zc cls d) X.env.locals s'.heap := by rw [← hs]; exact sky
    show wpAny (model X.prog X.w) X.A (noteFrame (.ref a) X.env) _ _ _
    refine Sky.land Zc.steady hfr hf sky' fun h3 fl3 up3 => ?_
    have J3 : Inv X pins σ' H' { s' with heap := h3 } := J.landed nb fl3.1 (up.trans up3) os ag
    obtain ⟨oe3, vs3, he3, hz3, hd3⟩ := fl3.there
    have notFr : ∀ {h : Heap} {o : Obj} {vs : Array Value}, h.FunFrames B (X.env :: X.outer) → h.get? a = some o → o.data = .fields vs → a ∉ frs (X.env :: X.outer) := fun {h o vs} ff e dd hm => by
      obtain ⟨_, o', e', hnf⟩ := ff.mem hm
      rw [e] at e'; cases e'
      exact hnf _ dd
    have nfr := notFr fl3.2.2.1 he3 hd3
    have nL : a ≠ X.env.locals := fun z => nfr (List.mem_filterMap.mpr ⟨X.env, List.mem_cons_self, by rw [hf, z]⟩)
    have nF : a ∉ X.fs := fun hm => by
      obtain ⟨e, he, q⟩ := List.mem_filterMap.mp hm
      exact nfr (List.mem_filterMap.mpr ⟨e, List.mem_cons_of_mem _ he, q⟩)
    have S3 := J3.suite he3 hd3 na nL nF
    have LT : PySem.W.Looks (model X.prog X.w) h3 (typeOf (.ref a)) cls := fun A Q E s k q => wpAny_typeOf_ref (k _ _ he3) (by rw [hz3.1]; exact q)
    have test : ∀ {x : Str} {c : Value} {np : Pos} {Q : Value → Shared → Prop} {E : Value → Shared → Prop}, Names X x c → Q c { s' with heap := h3 } → wpAny (model X.prog X.w) (X.A.mark (some (.ref a))) (eval (.Name x np) X.env) Q E { s' with heap := h3 } := fun {x c np Q E} hc q => by
      obtain ⟨hg, hdbg, hm | ⟨hm, hv, hnn⟩⟩ := hc
      · exact ld_glob (X := X.suite a ((a, oe3) :: (X.pn ++ pins))) S3 hg hm q hdbg
      · exact ld_blt (X := X.suite a ((a, oe3) :: (X.pn ++ pins))) S3 hg hm hv q hnn hdbg
    have go : ∀ {hds' : List ExceptHandler} {l' : List (Value × Option Nat × HTs)}, HdsN X hds' l' → wHs X.K Wout D l' cls d σ' H' →
        wpAny (model X.prog X.w) X.A (handleBy (.ref a) X.env hds') (SP X pins D) X.xe { s' with heap := h3 } := by
      intro hds' l' hk
      induction hk with
      | nil =>
        intro w
        refine wpAny_handleBy_nil ?_
        obtain ⟨k1, k2, k3, oe, vs, T, oT, ts', he, hz, hd, h1, hr⟩ := id fl3
        unfold PySem.passOn
        refine wpAny_bind (wpAny_field he hd h1 ?_)
        rw [if_neg (show ¬ ((Value.ref T == Value.none) = true) from by simp)]
        have fin : wpAny (model X.prog X.w) X.A (setFlight (.ref a) X.env.frame) (fun _ s4 => wpAny (model X.prog X.w) X.A (throw (.ref a) : Sem Flow) (SP X pins D) X.xe s4) X.xe { s' with heap := h3 } := by
          rw [hf]
          refine HandSPX.setFlight_upZ fl3 fun h4 hh4 up4 => wpAny_throw (tk _ _ ?_)
          exact ⟨a, B, sI, pins, σ', H', cls, d, rfl, J, nb, (up.trans up3).trans up4, .inr (.inr (by rw [hs]; exact hh4)), na, os, ag, w⟩
        first
          | exact wpAny_bind (wpAny_pure (wpAny_bind fin))
          | exact wpAny_bind fin
      | @cons x c ts b₀ suite np pos' hds2 l2 hc hsu r ih =>
        intro w
        obtain ⟨b, hb1, hyes, hno⟩ := w
        refine wpAny_handleBy_cons (codeAny_handlers_test ?_) (by intro q; cases q)
        have LM := PySem.W.exm_one (M := model X.prog X.w) (J3.kIn) LT hb1
        refine test hc (LM.here ?_)
        cases b with
        | true =>
          refine codeAny_handlers_suite ?_
          refine HandSPX.lands_againZ fl3 fun h4 fl4 up4 => ?_
          have J4 : Inv X pins σ' H' { s' with heap := h4 } := J.landed nb fl4.1 ((up.trans up3).trans up4) os ag
          obtain ⟨oe4, vs4, he4, hz4, hd4⟩ := fl4.there
          have S4 := J4.suite he4 hd4 na nL nF
          refine wpAny_mono ((hsu a oe4 cls d (X.pn ++ pins) hz4 ⟨_, hd4⟩).run [] _ _ H' _ S4 (hyes rfl a na)) (fun f s6 hsp => ?_) (fun _ _ z => False.elim z)
          cases f with
          | next =>
            obtain ⟨σ6, H6, S6, q6⟩ := hsp
            exact ⟨_, _, S6.unsuite ok, q6⟩
          | brk =>
            obtain ⟨σ6, H6, S6, q6⟩ := hsp
            exact ⟨_, _, S6.unsuite ok, q6⟩
          | cont =>
            obtain ⟨σ6, H6, S6, q6⟩ := hsp
            exact ⟨_, _, S6.unsuite ok, q6⟩
          | ret u =>
            obtain ⟨v6, σ6, H6, S6, r6, q6⟩ := hsp
            exact ⟨_, _, _, S6.unsuite ok, r6, q6⟩
        | false =>
          show wpAny _ X.A (handleBy (.ref a) X.env hds2) _ _ _
          exact ih (hno rfl)
      | @consA x n i c ts b₀ suite np pos' hds2 l2 hc hi hln hsu r ih =>
        intro w
        obtain ⟨b, hb1, hyes, hno⟩ := w
        have hloc : Loc X.env.scope n := .inl hln
        refine wpAny_handleBy_cons (codeAny_handlers_test ?_) (by intro q; cases q)
        have LM := PySem.W.exm_one (M := model X.prog X.w) (J3.kIn) LT hb1
        refine test hc (LM.here ?_)
        cases b with
        | true =>
          refine codeAny_handlers_suite_as ?_
          refine HandSPX.lands_againZ fl3 fun h4 fl4 up4 => ?_
          have J4 : Inv X pins σ' H' { s' with heap := h4 } := J.landed nb fl4.1 ((up.trans up3).trans up4) os ag
          obtain ⟨oe4, vs4, he4, hz4, hd4⟩ := fl4.there
          have S4 := J4.suite he4 hd4 na nL nF
          refine store_ok (X := X.suite a ((a, oe4) :: (X.pn ++ pins))) (v := .ref a) S4 hN hi hloc rfl (fun s5 S5 => ?_) (.inr hln)
          refine wpAny_mono ((hsu a oe4 cls d (X.pn ++ pins) hz4 ⟨_, hd4⟩).run [] s5 _ H' _ S5 (hyes rfl a na)) (fun f s6 hsp => ?_) (fun _ _ z => False.elim z)
          have end_ : ∀ {σ6 : L2.St} {H6 : Hp} {Q : Shared → Prop}, Inv (X.suite a ((a, oe4) :: (X.pn ++ pins))) [] σ6 H6 s6 → (∀ s7, Inv X pins (σ6.set i none) H6 s7 → Q s7) →
              wpAny (model X.prog X.w) X.A (do bindName X.env n .none; unbindBehindTheSuite X.env n pos') (fun _ s7 => Q s7) X.xe s6 := fun {σ6 H6 Q} S6 hq => gone_ok (S6.unsuite ok) hN hi hln hq
          cases f with
          | next =>
            obtain ⟨σ6, H6, S6, q6⟩ := hsp
            exact end_ S6 fun s7 J7 => ⟨_, _, J7, q6⟩
          | brk =>
            obtain ⟨σ6, H6, S6, q6⟩ := hsp
            exact end_ S6 fun s7 J7 => ⟨_, _, J7, q6⟩
          | cont =>
            obtain ⟨σ6, H6, S6, q6⟩ := hsp
            exact end_ S6 fun s7 J7 => ⟨_, _, J7, q6⟩
          | ret u =>
            obtain ⟨v6, σ6, H6, S6, r6, q6⟩ := hsp
            exact end_ S6 fun s7 J7 => ⟨_, _, _, J7, r6, q6⟩
        | false =>
          show wpAny _ X.A (handleBy (.ref a) X.env hds2) _ _ _
          exact ih (hno rfl)
    exact go hh w
  · cases f with
    | next =>
      obtain ⟨σ', H', J', q⟩ := hsp
      exact wpAny_execs_nil ⟨σ', H', J'.ofTry ok, q⟩
    | brk =>
      obtain ⟨σ', H', J', q⟩ := hsp
      exact ⟨σ', H', J'.ofTry ok, q⟩
    | cont =>
      obtain ⟨σ', H', J', q⟩ := hsp
      exact ⟨σ', H', J'.ofTry ok, q⟩
    | ret u =>
      obtain ⟨v, σ', H', J', r, q⟩ := hsp
      exact ⟨v, σ', H', J'.ofTry ok, r, q⟩
end
/-! ## isinstance of a caught exception, its dict there or not -/
theorem call_isX {X : Cx} {a D : Addr} {d : Option Addr} {oe : Obj} {pn : List (Addr × Obj)} (C : ExcC X.K D) (hz : Zc (.ref D) d oe) (hf : ∃ vs, oe.data = .fields vs) : CallR (X.suite a ((a, oe) :: pn)) (.builtin "isinstance") (fun xs H Q => (∀ dd, d = some dd → ∃ fs, H dd = some (.xd fs)) ∧ rIsE X.K D a xs H Q) := by
  intro pins s σ H xs us Q I r h
  obtain ⟨hdd, c, cv, b, rfl, hcv, e, q⟩ := h
  cases r with
  | cons rx rr =>
    cases rr with
    | cons rt rr =>
      cases rr
      cases rx
      have ec := hcv _ rt
      subst ec
      obtain ⟨hget, _⟩ := I.pin (a, oe) (List.mem_append.mpr (.inl List.mem_cons_self))
      obtain ⟨vs, hv⟩ := hf
      have J : ∃ od, PySem.W.InstAt s.heap a oe D od := by
        obtain ⟨oc, od, oda, osl⟩ := oe
        obtain ⟨h1, h2⟩ := hz
        dsimp only at h1 h2 hv
        subst h1 h2 hv
        cases od with
        | none => exact ⟨none, hget, rfl, rfl, trivial⟩
        | some dd =>
          obtain ⟨fs, e1⟩ := hdd dd rfl
          have hx : ObjOk X.prog X.w H s.heap dd (.xd fs) := I.hok dd _ e1
          obtain ⟨mA, hns, _⟩ := hx
          obtain ⟨od, ho, _⟩ := lookIn_ns hns
          exact ⟨some od, hget, rfl, rfl, ho⟩
      obtain ⟨od, J⟩ := J
      obtain ⟨cd, hc, _⟩ := PySem.W.any_some C.hd
      exact PySem.W.kia_one (PySem.W.kitx_exc (by rw [hc]; rfl) C.hg C.hk C.hs C.ha C.hn C.ht C.hm) I.kIn J e (fun z => nomatch z) fun tk => ⟨.bl b, H, I.kept (t' := tk) fun _ _ z => z, rfl, q⟩
end Nc
namespace Nc
open PySem PySem.Spec PyProof.Rows L2
/-! ## except suites by data: v = e, return e; e a constant, the field, a list of them and of isinstance -/
inductive Itm where
  | c (d : D) | f
inductive Sx where
  | one (x : Itm) | lst (xs : List Itm)
inductive Su where
  | set (j : Nat) (x : Sx) | ret (x : Sx)
structure HdD where
  c : Nat
  i : Option Nat
  su : Su
def Itm.d : Itm → Option D → Option D
  | .c x, _ => some x
  | .f, x => x
def itsD : List Itm → Option D → Option (List D)
  | [], _ => some []
  | x :: r, a => match x.d a with
    | some d => match itsD r a with
      | some ds => some (d :: ds)
      | none => none
    | none => none
def sxD (x : Sx) (a : Option D) (h : AH) : R D := match x with
  | .one x => withS (x.d a) fun d => .ok d h
  | .lst xs => withS (itsD xs a) fun ds => mkL ds h
def wipeO (i : Option Nat) (s : DSt) : DSt := match i with
  | none => s
  | some i => s.set i none
def inO (i : Option Nat) (s : DSt) : Bool := match i with
  | none => true
  | some i => Nat.ble (i + 1) s.length
def suD (i : Option Nat) (su : Su) (a : Option D) (s : DSt) (h : AH) : RS := match inO i s with
  | false => .no
  | true => match su with
    | .set j x => bindS (sxD x a h) s fun d h1 => .nx (wipeO i ((wipeO i s).set j (some d))) h1
    | .ret x => bindS (sxD x a h) s fun d h1 => .rt d h1
def gHs : List HdD → Xn → DSt → AH → RS
  | [], _, _, _ => .no
  | k :: r, e, s, h => match Nat.beq e.cls k.c with
    | true => suD k.i k.su e.arg s h
    | false => gHs r e s h
def gTryH (hs : List HdD) (g : DS) : DS := fun s h => match g s h with
  | .ex e s1 h1 => gHs hs e s1 h1
  | r => r
/-! by values -/
def SuS (i : Option Nat) (a C : Addr) (cls : Value) (d : Option Addr) (fn : Option Str) (σ : L2.St) (H : Hp) : Prop :=
  cls = .ref C ∧ (∀ k, i = some k → σ[k]? = some (some (.ref a))) ∧ (∀ dd, d = some dd → ∃ f v, fn = some f ∧ H dd = some (.xd [(f, v)]))
def ItV (it : Itm) (d : Option Addr) (H : Hp) (v : V) : Prop := match it with
  | .c x => toV x = some v
  | .f => ∃ f dd, d = some dd ∧ H dd = some (.xd [(f, v)])
def ItVs : List Itm → Option Addr → Hp → List V → Prop
  | [], _, _, vs => vs = []
  | x :: r, d, H, vs => ∃ v us, vs = v :: us ∧ ItV x d H v ∧ ItVs r d H us
def SxV (x : Sx) (d : Option Addr) (H : Hp) (Q : VK) : Prop := match x with
  | .one x => ∃ v, ItV x d H v ∧ Q v H
  | .lst xs => ∃ vs, ItVs xs d H vs ∧ vs.length ≤ sizeLine ∧ ∀ p, H p = none → Q (.ref p) (upd H p (.lst vs))
def SuV (su : Su) (d : Option Addr) : TS := match su with
  | .set j x => fun D σ H => SxV x d H fun v H' => D.nx (σ.set j (some v)) H'
  | .ret x => fun D σ H => SxV x d H D.rt
structure HIt (X : Cx) (C : Addr) (fn : Option Str) (i : Option Nat) (e : Expr) (it : Itm) : Prop where
  p : ∀ (a : Addr) (oe : Obj) (cls : Value) (d : Option Addr) (pn : List (Addr × Obj)), Zc cls d oe → (∃ vs, oe.data = .fields vs) → PE (X.suite a ((a, oe) :: pn)) e fun σ H Q => SuS i a C cls d fn σ H ∧ ∃ v, ItV it d H v ∧ Q v H
structure HIts (X : Cx) (C : Addr) (fn : Option Str) (i : Option Nat) (es : List Expr) (its : List Itm) : Prop where
  p : ∀ (a : Addr) (oe : Obj) (cls : Value) (d : Option Addr) (pn : List (Addr × Obj)), Zc cls d oe → (∃ vs, oe.data = .fields vs) → PA (X.suite a ((a, oe) :: pn)) es fun σ H Q => SuS i a C cls d fn σ H ∧ ∃ vs, ItVs its d H vs ∧ Q vs H
structure HSx (X : Cx) (C : Addr) (fn : Option Str) (i : Option Nat) (e : Expr) (x : Sx) : Prop where
  p : ∀ (a : Addr) (oe : Obj) (cls : Value) (d : Option Addr) (pn : List (Addr × Obj)), Zc cls d oe → (∃ vs, oe.data = .fields vs) → PE (X.suite a ((a, oe) :: pn)) e fun σ H Q => SuS i a C cls d fn σ H ∧ SxV x d H Q
structure HSu (X : Cx) (C : Addr) (fn : Option Str) (i : Option Nat) (b : List Stmt) (su : Su) : Prop where
  p : ∀ (a : Addr) (oe : Obj) (cls : Value) (d : Option Addr) (pn : List (Addr × Obj)), Zc cls d oe → (∃ vs, oe.data = .fields vs) → PSs (X.suite a ((a, oe) :: pn)) b fun D σ H => SuS i a C cls d fn σ H ∧ SuV su d D σ H
section
variable {X : Cx} {C : Addr} {fn : Option Str} {i : Option Nat} {e : Expr} {es : List Expr} {it : Itm} {its : List Itm} {x : Sx} {pos p1 p2 p3 p4 : Pos}
theorem hi_str {s : Str} {j} : HIt X C fn i (.Constant (.str s) j pos) (.c (.str s)) := ⟨fun a oe cls d pn hz hf => PE.imp pe_str fun σ H Q ⟨_, v, e, q⟩ => by cases e; exact q⟩
theorem hi_non {j} : HIt X C fn i (.Constant .none j pos) (.c .non) := ⟨fun a oe cls d pn hz hf => PE.imp pe_non fun σ H Q ⟨_, v, e, q⟩ => by cases e; exact q⟩
theorem hi_bl {b j} : HIt X C fn i (.Constant (.bool b) j pos) (.c (.bl b)) := ⟨fun a oe cls d pn hz hf => PE.imp pe_bl fun σ H Q ⟨_, v, e, q⟩ => by cases e; exact q⟩
theorem hi_fld {n f : Str} {k : Nat} (T : XfC X.K C) (hno : PySem.W.findIn X.K (.ref C) f = some none) (hi : X.N[k]? = some n) (hv : Vis X.env.scope n) (hdn : (n == ("__debug__" : Str)) = false := by decide) (hcn : (n == ("__classdict__" : Str)) = false := by decide)
    (hb : attributeBase (.Name n p1) f X.env (eval (.Name n p1) X.env) = eval (.Name n p1) X.env := by rfl) : HIt X C (some f) (some k) (.Attribute (.Name n p1) f p2) .f := ⟨fun a oe cls d pn hz hf =>
  PE.imp (pe_xf T hno hz hf (pe_var hi hv hdn hcn) hb) fun σ H Q ⟨⟨e1, e2, e3⟩, v, ⟨f', dd, e4, e5⟩, q⟩ => by
    obtain ⟨f2, v2, e6, e7⟩ := e3 dd e4
    cases e6
    rw [e5] at e7; cases e7
    exact ⟨.ref a, e2 k rfl, rfl, e1, dd, _, v, e4, e5, by simp [List.lookup], q⟩⟩
theorem hi_is {n y : Str} {k : Nat} {B : String} (EC : ExcC X.K C) (hk : PySem.W.kitOne X.K (.ref C) (.type B) = some true) (hi : X.N[k]? = some n) (hv : Vis X.env.scope n) (hm : X.mg "isinstance" = none) (hmB : X.mg y = none)
    (hvB : bootBuiltins y = some (.type B)) (hg : Gl X "isinstance" := by rfl) (hgB : Gl X y := by rfl) (hnB : y ≠ "__name__" := by decide) (hdB : (y == ("__debug__" : Str)) = false := by decide) (hdn : (n == ("__debug__" : Str)) = false := by decide) (hcn : (n == ("__classdict__" : Str)) = false := by decide)
    (h1 : starEach [.Name n p2, .Name y p3] X.env = (false, eval (.Name n p2) X.env) :: starEach [.Name y p3] X.env := by rfl) (h2 : starEach [.Name y p3] X.env = (false, eval (.Name y p3) X.env) :: starEach [] X.env := by rfl) (h3 : (backTo p4 (starEach [.Name y p3] X.env)).any (·.1) = false := by rfl) :
    HIt X C fn (some k) (.Call (.Name "isinstance" p1) [.Name n p2, .Name y p3] [] p4) (.c (.bl true)) := ⟨fun a oe cls d pn hz hf => ⟨fun pins s σ H Q I ⟨⟨e1, e2, e3⟩, v, e4, q⟩ => by
  subst e1
  cases e4
  refine (pe_callB (X := X.suite a ((a, oe) :: pn)) (call_isX EC hz hf) hg hm PyProof.Rows.boot_isinstance (pa_cons (pe_var hi hv hdn hcn) (pa_cons (pe_tyName B hgB hmB hvB hnB hdB) pa_nil h2) h1) (by decide) (by decide) h1 h3).run pins s σ H Q I ?_
  exact ⟨_, e2 k rfl, fun dd ed => let ⟨f, v, _, e⟩ := e3 dd ed; ⟨_, e⟩, .ty B, .type B, true, rfl, fun u hu => hu, hk, q⟩⟩⟩
theorem his_nil : HIts X C fn i [] [] := ⟨fun a oe cls d pn hz hf => PA.imp pa_nil fun σ H Q ⟨_, vs, e, q⟩ => by cases e; exact q⟩
theorem his_cons (h1 : HIt X C fn i e it) (h2 : HIts X C fn i es its) (he : starEach (e :: es) X.env = (false, eval e X.env) :: starEach es X.env := by rfl) : HIts X C fn i (e :: es) (it :: its) := ⟨fun a oe cls d pn hz hf =>
  PA.imp (pa_cons (h1.p a oe cls d pn hz hf) (h2.p a oe cls d pn hz hf) he) fun σ H Q ⟨hs, vs, ⟨v, us, e, iv, r⟩, q⟩ => by subst e; exact ⟨hs, v, iv, hs, us, r, q⟩⟩
theorem hx_one (h : HIt X C fn i e it) : HSx X C fn i e (.one it) := ⟨fun a oe cls d pn hz hf => h.p a oe cls d pn hz hf⟩
theorem hx_lst (h : HIts X C fn i es its) : HSx X C fn i (.List es pos) (.lst its) := ⟨fun a oe cls d pn hz hf => PE.imp (pe_lst (h.p a oe cls d pn hz hf)) fun σ H Q ⟨hs, vs, r, l, q⟩ => ⟨hs, vs, r, l, q⟩⟩
theorem hs_set {y : Str} {j : Nat} (hN : X.N.Nodup) (hj : X.N[j]? = some y) (hly : Loc X.env.scope y) (h : HSx X C fn i e x) (hfy : X.fn y = true ∨ X.env.scope.names.lookup y = some .local := by first | exact .inl rfl | exact .inr rfl | assumption)
    (hs : swapsWith e (some (.Name y p1)) pos.line X.env = pure false := by rfl) : HSu X C fn i [.Assign [.Name y p1] e pos] (.set j x) := ⟨fun a oe cls d pn hz hf =>
  PSs.imp (pss_one (ps_set (X := X.suite a ((a, oe) :: pn)) (pos := pos) (pos' := p1) hN hj hly (h.p a oe cls d pn hz hf) hs hfy)) fun D σ H ⟨q0, q⟩ => ⟨q0, q⟩⟩
theorem hs_ret (h : HSx X C fn i e x) : HSu X C fn i [.Return (some e) pos] (.ret x) := ⟨fun a oe cls d pn hz hf =>
  PSs.imp (pss_one (ps_ret (X := X.suite a ((a, oe) :: pn)) (h.p a oe cls d pn hz hf))) fun D σ H ⟨q0, q⟩ => ⟨q0, q⟩⟩
end
/-! the clauses -/
inductive HdsD (X : Cx) (T : XT) : List ExceptHandler → List HdD → Prop
  | nil : HdsD X T [] []
  | cons {x : Str} {c : Nat} {C : Addr} {b₀ : Stmt} {su : Su} {np pos' : Pos} {hds : List ExceptHandler} {l : List HdD} (hc : Names X x (.ref C)) (hT : T.cls c = some (.ref C)) (hx : ∀ n v, T.cls n = some v → PySem.W.exmOne X.K v (.ref C) = some (Nat.beq n c))
      (hsu : HSu X C (T.fld c) none [b₀] su) (r : HdsD X T hds l) : HdsD X T (.ExceptHandler (some (.Name x np)) none [b₀] pos' :: hds) (⟨c, none, su⟩ :: l)
  | consA {x n : Str} {i : Nat} {c : Nat} {C : Addr} {b₀ : Stmt} {su : Su} {np pos' : Pos} {hds : List ExceptHandler} {l : List HdD} (hc : Names X x (.ref C)) (hT : T.cls c = some (.ref C)) (hx : ∀ n v, T.cls n = some v → PySem.W.exmOne X.K v (.ref C) = some (Nat.beq n c))
      (hi : X.N[i]? = some n) (hln : X.env.kindOf n = some .local) (hsu : HSu X C (T.fld c) (some i) [b₀] su) (r : HdsD X T hds l) : HdsD X T (.ExceptHandler (some (.Name x np)) (some n) [b₀] pos' :: hds) (⟨c, some i, su⟩ :: l)
section
variable {K : KW} {T : XT} {W : WX} {ρ : Rho} {H : Hp} {h : AH} {σ : L2.St} {s : DSt}
theorem itV_ok {it : Itm} {arg : Option D} {d : Option Addr} {x : D} (ha : ∀ y, arg = some y → ∃ f dd v, d = some dd ∧ H dd = some (.xd [(f, v)]) ∧ Rp K ρ H y v) (e : it.d arg = some x) (hx : ∀ y, it = .c y → ∃ v, toV y = some v) : ∃ v, ItV it d H v ∧ Rp K ρ H x v := by
  cases it with
  | c y =>
    cases e
    obtain ⟨v, e1⟩ := hx _ rfl
    refine ⟨v, e1, ?_⟩
    cases x <;> cases e1
    · exact rp_non.mpr rfl
    · exact rp_bl.mpr rfl
    · exact rp_int.mpr rfl
    · exact rp_str.mpr rfl
  | f =>
    obtain ⟨f, dd, v, e1, e2, r⟩ := ha x e
    exact ⟨v, ⟨f, dd, e1, e2⟩, r⟩
def flatI : Itm → Bool
  | .c x => (toV x).isSome
  | .f => true
theorem flatI_ok {it : Itm} (h : flatI it = true) : ∀ y, it = .c y → ∃ v, toV y = some v := fun y e => by
  subst e
  exact Option.isSome_iff_exists.mp h
theorem itsV_ok {arg : Option D} {d : Option Addr} (ha : ∀ y, arg = some y → ∃ f dd v, d = some dd ∧ H dd = some (.xd [(f, v)]) ∧ Rp K ρ H y v) : ∀ {its : List Itm} {xs : List D}, itsD its arg = some xs → its.all flatI = true → ∃ vs, ItVs its d H vs ∧ Rps K ρ H xs vs
  | [], xs, e, _ => by cases e; exact ⟨[], rfl, Rps.nil_iff.mpr rfl⟩
  | it :: its, xs, e, hx => by
    rw [List.all_cons, Bool.and_eq_true] at hx
    unfold itsD at e
    cases z : it.d arg with
    | none => rw [z] at e; cases e
    | some x =>
      rw [z] at e
      cases z2 : itsD its arg with
      | none => rw [z2] at e; cases e
      | some ys =>
        rw [z2] at e; cases e
        obtain ⟨v, i1, r1⟩ := itV_ok ha z (flatI_ok hx.1)
        obtain ⟨vs, i2, r2⟩ := itsV_ok ha z2 hx.2
        exact ⟨v :: vs, ⟨v, vs, rfl, i1, i2⟩, Rps.cons r1 r2⟩
def flatX : Sx → Bool
  | .one x => flatI x
  | .lst xs => xs.all flatI
theorem sxV_ok {x : Sx} {arg : Option D} {d : Option Addr} {k : D → AH → RS} {Z : Ends} {Q : VK} (hr : HR K ρ H h) (st : StR K ρ H σ s) (ha : ∀ y, arg = some y → ∃ f dd v, d = some dd ∧ H dd = some (.xd [(f, v)]) ∧ Rp K ρ H y v) (hx : flatX x = true)
    (p : PostS K T W ρ H (bindS (sxD x arg h) s k) Z) (m : ∀ d1 h1 ρ1 H1 v, Grow ρ ρ1 H H1 → HR K ρ1 H1 h1 → StR K ρ1 H1 σ s → Rp K ρ1 H1 d1 v → PostS K T W ρ1 H1 (k d1 h1) Z → Q v H1) : SxV x d H Q := by
  have pb : P1 K T (at_ W σ) ρ H (sxD x arg h) Q := (PostS.bind hr st p).mono fun a h1 ρ1 H1 _ gr hr1 pq v rv => m a h1 ρ1 H1 v gr hr1 (st.grow hr.live gr) rv pq
  cases x with
  | one x =>
    obtain ⟨y, e1, q⟩ := Post.withS pb
    obtain ⟨v, i1, r1⟩ := itV_ok ha e1 (flatI_ok hx)
    exact ⟨v, i1, q.here hr _ r1⟩
  | lst xs =>
    obtain ⟨ys, e1, q⟩ := Post.withS pb
    obtain ⟨vs, i1, r1⟩ := itsV_ok ha e1 hx
    exact ⟨vs, i1, mkL_ok hr r1 q⟩
end
def flatS : Su → Bool
  | .set _ x => flatX x
  | .ret x => flatX x
def flatH (hs : List HdD) : Bool := hs.all fun k => flatS k.su
section
variable {X : Cx} {T : XT} {W : WX}
theorem suV_ok {W : WX} {ρ : Rho} {H : Hp} {h : AH} {σ : L2.St} {s : DSt} {i : Option Nat} {su : Su} {arg : Option D} {a C : Addr} {d : Option Addr} {fn : Option Str} {Z : Ends} (hr : HR (kwOf X) ρ H h) (st : StR (kwOf X) ρ H σ s) (ha : ∀ y, arg = some y → ∃ f dd v, d = some dd ∧ H dd = some (.xd [(f, v)]) ∧ Rp (kwOf X) ρ H y v) (hx : flatS su = true)
    (hfn : ∀ dd, d = some dd → ∃ f v, fn = some f ∧ H dd = some (.xd [(f, v)])) (p : PostS (kwOf X) T W ρ H (suD i su arg s h) Z) : SuS i a C (.ref C) d fn (setN i a σ) H ∧ SuV su d (endN i Z) (setN i a σ) H := by
  unfold suD at p
  cases hin : inO i s with
  | false => rw [hin] at p; exact p.elim
  | true =>
    rw [hin] at p
    have sl : ∀ k, i = some k → k < s.length := fun k e => by subst e; exact Nat.le_of_ble_eq_true hin
    refine ⟨⟨rfl, fun k e => ?_, hfn⟩, ?_⟩
    · subst e
      show (σ.set k (some (.ref a)))[k]? = _
      rw [List.getElem?_set_self (by rw [st.len]; exact sl k rfl)]
    · have st2 : StR (kwOf X) ρ H (setN i a σ) (wipeO i s) := by
        cases i with
        | none => exact st
        | some i => exact st.wild
      cases su with
      | set j x =>
        refine sxV_ok hr st ha hx p fun d1 h1 ρ1 H1 v g1 hr1 st1 r1 q1 => ?_
        have st3 : StR (kwOf X) ρ1 H1 ((setN i a σ).set j (some v)) ((wipeO i s).set j (some d1)) := (st2.grow hr.live g1).set r1
        cases i with
        | none => exact q1 ρ1 H1 _ (Grow.refl _ _) hr1 st3
        | some i => exact q1 ρ1 H1 _ (Grow.refl _ _) hr1 (st3.wild (i := i) (x := none))
      | ret x =>
        refine sxV_ok hr st ha hx p fun d1 h1 ρ1 H1 v g1 hr1 st1 r1 q1 => ?_
        cases i with
        | none => exact q1 ρ1 H1 v (Grow.refl _ _) hr1 r1
        | some i => exact q1 ρ1 H1 v (Grow.refl _ _) hr1 r1
theorem hdsD_ok {hds : List ExceptHandler} {hs : List HdD} (hh : HdsD X T hds hs) (hfl : flatH hs = true) : ∃ l, HdsN X hds l ∧ ∀ {W : WX} {ρ : Rho} {H : Hp} {h : AH} {σ : L2.St} {s : DSt} {e : Xn} {cls : Value} {d : Option Addr} {Z : Ends},
    HR (kwOf X) ρ H h → StR (kwOf X) ρ H σ s → XR (kwOf X) T ρ H e cls d → PostS (kwOf X) T W ρ H (gHs hs e s h) Z → wHs X.K (fun _ _ _ _ => False) Z l cls d σ H := by
  have args : ∀ {ρ : Rho} {H : Hp} {e : Xn} {cls : Value} {d : Option Addr}, XR (kwOf X) T ρ H e cls d → (∀ y, e.arg = some y → ∃ f dd v, d = some dd ∧ H dd = some (.xd [(f, v)]) ∧ Rp (kwOf X) ρ H y v) ∧ (∀ dd, d = some dd → ∃ f v, T.fld e.cls = some f ∧ H dd = some (.xd [(f, v)])) := by
    intro ρ H e cls d ⟨x1, x2⟩
    cases ef : T.fld e.cls with
    | none =>
      cases ea : e.arg with
      | none =>
        rw [ef, ea] at x2
        have x2 : d = none := x2
        subst x2
        exact ⟨fun y z => (by cases z), fun dd z => (by cases z)⟩
      | some y => rw [ef, ea] at x2; exact x2.elim
    | some f =>
      cases ea : e.arg with
      | none => rw [ef, ea] at x2; exact x2.elim
      | some y =>
        rw [ef, ea] at x2
        obtain ⟨dd, v, e1, e2, r⟩ := x2
        subst e1
        exact ⟨fun z ez => (by cases ez; exact ⟨f, dd, v, rfl, e2, r⟩), fun z ez => (by cases ez; exact ⟨f, v, rfl, e2⟩)⟩
  induction hh with
  | nil => exact ⟨[], .nil, fun _ _ _ p => p.elim⟩
  | @cons x c C b₀ su np pos' hds l hc hT hx hsu r ih =>
    unfold flatH at hfl
    rw [List.all_cons, Bool.and_eq_true] at hfl
    obtain ⟨l', hl, k⟩ := ih hfl.2
    refine ⟨(.ref C, none, fun a cls d => fun D σ H => SuS none a C cls d (T.fld c) σ H ∧ SuV su d D σ H) :: l', .cons hc hsu.p hl, fun {W ρ H h σ s e cls d Z} hr st xr p => ⟨_, hx _ _ xr.1, fun eb a na => ?_, fun eb => ?_⟩⟩
    · have p : PostS (kwOf X) T W ρ H (match Nat.beq e.cls c with | true => suD none su e.arg s h | false => gHs l e s h) Z := p
      rw [eb] at p
      obtain ⟨ha, hfn⟩ := args xr
      have ec := Nat.eq_of_beq_eq_true eb
      have e1 := xr.1
      rw [ec, hT] at e1; cases e1
      rw [ec] at hfn
      exact suV_ok hr st ha hfl.1 hfn p
    · have p : PostS (kwOf X) T W ρ H (match Nat.beq e.cls c with | true => suD none su e.arg s h | false => gHs l e s h) Z := p
      rw [eb] at p
      exact k hr st xr p
  | @consA x n i c C b₀ su np pos' hds l hc hT hx hi hln hsu r ih =>
    unfold flatH at hfl
    rw [List.all_cons, Bool.and_eq_true] at hfl
    obtain ⟨l', hl, k⟩ := ih hfl.2
    refine ⟨(.ref C, some i, fun a cls d => fun D σ H => SuS (some i) a C cls d (T.fld c) σ H ∧ SuV su d D σ H) :: l', .consA hc hi hln hsu.p hl, fun {W ρ H h σ s e cls d Z} hr st xr p => ⟨_, hx _ _ xr.1, fun eb a na => ?_, fun eb => ?_⟩⟩
    · have p : PostS (kwOf X) T W ρ H (match Nat.beq e.cls c with | true => suD (some i) su e.arg s h | false => gHs l e s h) Z := p
      rw [eb] at p
      obtain ⟨ha, hfn⟩ := args xr
      have ec := Nat.eq_of_beq_eq_true eb
      have e1 := xr.1
      rw [ec, hT] at e1; cases e1
      rw [ec] at hfn
      exact suV_ok hr st ha hfl.1 hfn p
    · have p : PostS (kwOf X) T W ρ H (match Nat.beq e.cls c with | true => suD (some i) su e.arg s h | false => gHs l e s h) Z := p
      rw [eb] at p
      exact k hr st xr p
theorem s_tryH {body : List Stmt} {g : DS} {W' : WX} {h₀ : ExceptHandler} {hds : List ExceptHandler} {hs : List HdD} {pos : Pos} (hst : X.stack = X.env :: X.outer) (hfr : X.env.frame = some X.env.locals) (hN : X.N.Nodup)
    (hb : ∀ (W : WX) (pn : List (Addr × Obj)) (xe : Value → Shared → Prop), Takes (X.tr pn xe) W → PassesOwn (model X.prog X.w) X.A X.env xe → SSs (X.tr pn xe) T W body g)
    (hh : HdsD X T (h₀ :: hds) hs) (hfl : flatH hs = true) : SS X T W' (.Try body (h₀ :: hds) [] [] pos) (gTryH hs g) := by
  obtain ⟨l, hl, k⟩ := hdsD_ok hh hfl
  refine ⟨PS.imp (ps_try_hs (tb := fun W => tS (kwOf X) T W g) (Wout := fun _ _ _ _ => False) hst hfr hN takes0 (fun W pn xe tk hp => (hb W pn xe tk hp).p) hl) fun D σ H ⟨ρ, s, h, st, hr, q⟩ => ⟨ρ, s, h, st, hr, ?_⟩⟩
  unfold gTryH at q
  cases z : g s h with
  | nx s1 h1 => rw [z] at q; exact q
  | rt d h1 => rw [z] at q; exact q
  | bk s1 h1 => rw [z] at q; exact q
  | ct s1 h1 => rw [z] at q; exact q
  | no => rw [z] at q; exact q
  | ex e s1 h1 =>
    simp only [z] at q
    intro ρ1 H1 σ1 cc dd g1 hr1 st1 xr
    exact k (W := W') hr1 st1 xr (PostS.grow hr1.live g1 q)
end
end Nc
namespace Nc
open PySem PySem.Spec PyProof.Rows L2
/-! ## raise C(e), C keeping e in a field -/
def gRaise1 (c : Nat) (f : DE) : DS := fun s h => bindS (f s h) s fun d h1 => .ex ⟨c, some d⟩ s h1
section
variable {X : Cx} {T : XT} {W : WX} {e : Expr} {f : DE} {p pos pos2 : Pos}
theorem s_raise1 {C fI : Addr} {x fn : Str} {k : Nat} {fd : FuncData} (c : Nat) (hT : T.cls c = some (.ref C)) (hF : T.fld c = some fn) (hc : X.calm = true) (tk : Takes X W) (O : OexL X.K C) (iC : PySem.W.findIn X.K (.ref C) "__init__" = some (some (.ref fI))) (tI : PySem.W.typeIn X.K (.ref fI) = some (.type "function"))
    (F1 : FnOk X.prog X.w X.K X.mg X.base (L2.CX X.prog X.w) k fI fd ["self", fn] (spFld C fn)) (hr : Room (k + 1) X.A) (hb : Binds X.K fd ["self", fn] []) (hg : Gl X x) (hm : X.mg x = some (.ref C)) (he : SE X T W e f)
    (hdb : (x == ("__debug__" : Str)) = false := by decide) (h1 : starEach [e] X.env = (false, eval e X.env) :: starEach [] X.env := by rfl) (hpl : (backTo pos2 (starEach [] X.env)).any (·.1) = false := by rfl) :
    SS X T W (.Raise (some (.Call (.Name x p) [e] [] pos2)) none pos) (gRaise1 c f) :=
  ⟨PS.imp (ps_raise hc tk (pmk_le O iC tI F1 hr hb hg hm (sa_cons he sa_nil h1).p hdb h1 hpl)) fun D σ H ⟨ρ, s, h, st, hh, q⟩ => by
    have q2 : PostS (kwOf X) T W ρ H (bindS (dCons f dNil s h) s fun ds h1 => match ds with | [d] => .ex ⟨c, some d⟩ s h1 | _ => .no) D := by
      unfold gRaise1 at q
      unfold dCons dNil
      cases z : f s h with
      | ok d h1 => rw [z] at q; exact q
      | ex e h1 => rw [z] at q; exact q
      | no => rw [z] at q; exact q
    refine tDA_bindS st hh q2 fun ds h1 ρ1 H1 vs g1 hr1 st1 r1 q1 => ?_
    match ds, q1, r1 with
    | [d], q1, r1 =>
      obtain ⟨v, r, rfl, rv, r1⟩ := Rps.cons_iff.mp r1
      have := Rps.nil_iff.mp r1; subst this
      refine ⟨v, rfl, fun dd nd => ?_⟩
      have g2 := grow_upd (o := .xd [(fn, v)]) hr1.live nd
      exact q1 ρ1 _ σ (.ref C) (some dd) g2 (hr1.upd nd) (st1.grow hr1.live g2) ⟨hT, by simp only [hF]; exact ⟨dd, v, rfl, upd_same, Rp.grow hr1.live g2 d rv⟩⟩
    | [], q1, _ => exact q1.elim
    | _ :: _ :: _, q1, _ => exact q1.elim⟩
end
/-- such a class at the top -/
structure ExL (K : PySem.W.Frag) (mg : Str → Option Value) (x q : Str) (st : Stmt) (f : Str) (B : String) where
  C : Addr
  fI : Addr
  fd : FuncData
  O : OexL K C
  iC : PySem.W.findIn K (.ref C) "__init__" = some (some (.ref fI))
  tI : PySem.W.typeIn K (.ref fI) = some (.type "function")
  F : Fun K "__init__" q (clsInit st) fI fd
  bi : Binds K fd ["self", f] []
  gl : mg x = some (.ref C)
  EC : ExcC K C
  XF : XfC K C
  no : PySem.W.findIn K (.ref C) f = some none
  kit : PySem.W.kitOne K (.ref C) (.type B) = some true
  ex : PySem.W.exmOne K (.ref C) (.ref C) = some true
theorem exL_of {K : PySem.W.Frag} {C N : Addr} {nm qn : Str} {bs bm : List Value} {sn : List Str} {sub : List Value} {ab : Bool} {col : Option Bool} {dd : Option Addr} {m0 m1 m2 m3 m5 : Option Value} (xL : K.lookup C = some (excClassObj nm qn C N bs bm true sn sub ab col dd m0 m1 m2 m3 m5 "LookupError.__new__")) (tyC : PySem.W.typeIn K (.ref C) = some (.type "type"))
    (exC : PySem.W.subIn K (.ref C) (.type "BaseException") = some true) {c : Value} {b : Bool} (sC : PySem.W.subIn K c (.ref C) = some b) : PySem.W.exmOne K c (.ref C) = some b := by
  unfold PySem.W.exmOne PySem.W.kitCls
  rw [exC]
  rw [if_pos (by rfl)]
  simp only []
  rw [if_pos, sC]
  rw [tyC]
  have : (PySem.W.clsIn K C).isSome = true := by
    unfold PySem.W.clsIn
    rw [xL]
    rfl
  rw [this]; rfl
theorem mkExL {K : PySem.W.Frag} {h : Heap} {mg : Str → Option Value} {x q f : Str} {st : Stmt} {B : String} {C fI : Addr} {od an : Option Addr} {sl : Array (Option Value)} {oc kV dc pm cd ct : Value} {nm qn : Str} {N : Addr} {bs : List Value} {sn : List Str} {sub : List Value} {ab : Bool} {col : Option Bool} {dd : Option Addr} {m0 m1 m2 m3 m5 : Option Value} (X : K.In h) (G : h.Ns mainGlobals mg)
    (aC : PySem.W.nsIn K mainGlobals x = some (some (.ref C)))
    (xL : K.lookup C = some (excClassObj nm qn C N bs leTail true sn sub ab col dd m0 m1 m2 m3 m5 "LookupError.__new__"))
    (sa : PySem.W.findIn K (.ref C) "__setattr__" = some (some (.builtin "object.__setattr__"))) (exC : PySem.W.subIn K (.ref C) (.type "BaseException") = some true) (tyC : PySem.W.typeIn K (.ref C) = some (.type "type")) (kC : PySem.W.keepIn K (.ref C) = true)
    (a1 : PySem.W.findIn K (.ref C) "__init__" = some (some (.ref fI))) (t1 : PySem.W.typeIn K (.ref fI) = some (.type "function"))
    (l : K.lookup fI = some ⟨oc, od, .func (PySem.W.fnOf "__init__" q (defArgs (clsInit st)) (defBody (clsInit st)) (defScope (clsInit st)) .none kV dc pm an cd ct), sl⟩) (c : PySem.W.codeIn K cd q = true) (k : PySem.W.keepIn K (.ref fI) = true)
    (b : ∀ (kV doc pm : Value) (an : Option Addr) (cdv ct : Value) (us : List Value), us.length = (["self", f] : List Str).length → bindArgs (PySem.W.fnOf "__init__" q (defArgs (clsInit st)) (defBody (clsInit st)) (defScope (clsInit st)) Value.none kV doc pm an cdv ct) { pos := us } = pure ((["self", f] : List Str).zip us))
    (hg : PySem.W.findIn K (.ref C) "__getattribute__" = some (some (.builtin "BaseException.__getattribute__"))) (hk : PySem.W.findIn K (.ref C) "__getattr__" = some none) (hd : PySem.W.hasDictIn K C = true) (ha : PySem.W.findIn K (.ref C) "__class__" = some (some (.builtin "object.__class__")))
    (hn : PySem.W.specialIn K (.builtin "object.__class__") "__get__" = some (some (.builtin "getset_descriptor.__get__"))) (ht : PySem.W.takesIn K (.builtin "object.__class__") = some true) (hm : PySem.W.mroIn K C (.type "object") = some true) (hno : PySem.W.findIn K (.ref C) f = some none)
    (sC : PySem.W.subIn K (.ref C) (.ref C) = some true) (hB : PySem.W.kitMeta B = true) (eB : PySem.W.subIn K (.ref C) (.type B) = some true) : Nonempty (ExL K mg x q st f B) :=
  ⟨⟨C, fI, _, ⟨⟨nm, qn, N, bs, sn, sub, ab, col, dd, m0, m1, m2, m3, m5, xL⟩, sa, exC, tyC, kC⟩, a1, t1, fun_mk l c k, (fun_mk l c k).binds b, PySem.W.mg_of X G aC, ⟨hg, hk, exC, hd, ha, hn, ht, hm⟩, ⟨hg, hk, exC, hd⟩, hno, kit_of hB eB, exL_of xL tyC exC sC⟩⟩
/-- an exception of one own class is none of another's -/
theorem exm_ne {K : PySem.W.Frag} {C D : Addr} {b : Bool} (EC : ExcC K D) (ty : PySem.W.typeIn K (.ref D) = some (.type "type")) (s : PySem.W.subIn K (.ref C) (.ref D) = some b) : PySem.W.exmOne K (.ref C) (.ref D) = some b := PySem.W.exm_ref EC.hs EC.hd ty s
end Nc
namespace Nc
open PySem PySem.Spec PyProof.Rows L2
/-! ## constants of the module -/
section
variable {X : Cx} {T : XT} {W : WX} {pos : Pos} {x : Str}
theorem se_gint {i : Int} {t : Tok} (hm : X.mg x = some (.int i t)) (hg : Gl X x := by rfl) (hdb : (x == ("__debug__" : Str)) = false := by decide) : SE X T W (.Name x pos) (dC (.int i)) :=
  ⟨PE.imp (pe_glob (v := .int i) hg hm ⟨_, rfl⟩ hdb) fun σ H Q ⟨ρ, s, h, st, hr, q⟩ => q.here hr _ (rp_int.mpr rfl)⟩
/-- a written tuple of ints -/
structure CTup (K : PySem.W.Frag) (mg : Str → Option Value) (x : Str) (is : List Int) where
  a : Addr
  o : Obj
  its : Array Value
  n : Nat
  gl : mg x = some (.ref a)
  lk : K.lookup a = some o
  cl : o.cls = .type "tuple"
  dt : o.data = .seq its n
  sz : its.size ≤ sizeLine
  vs : Vals (is.map V.int) its.toList
def intsT : List Int → List D
  | [] => []
  | i :: r => .int i :: intsT r
theorem intsT_rps {K : KW} {ρ : Rho} {H : Hp} : ∀ is : List Int, Rps K ρ H (intsT is) (is.map V.int)
  | [] => Rps.nil_iff.mpr rfl
  | i :: r => Rps.cons (rp_int.mpr rfl) (intsT_rps r)
theorem se_gtup {is : List Int} (C : CTup X.K X.mg x is) (hg : Gl X x := by rfl) (hdb : (x == ("__debug__" : Str)) = false := by decide) : SE X T W (.Name x pos) (dC (.tup (intsT is))) :=
  ⟨PE.imp (pe_glob (v := .ref C.a) hg C.gl rfl hdb) fun σ H Q ⟨ρ, s, h, st, hr, q⟩ => q.here hr _ (rp_tup.mpr ⟨C.a, is.map V.int, rfl, .inr ⟨C.o, C.its, C.n, C.lk, C.cl, C.dt, C.sz, C.vs⟩, intsT_rps is⟩)⟩
theorem mk_CTup {K : PySem.W.Frag} {h : Heap} {mg : Str → Option Value} {x : Str} {is : List Int} {a : Addr} {d : Option Addr} {its : Array Value} {n : Nat} {sl : Array (Option Value)} (X : K.In h) (G : h.Ns mainGlobals mg) (aC : PySem.W.nsIn K mainGlobals x = some (some (.ref a)))
    (l : K.lookup a = some ⟨.type "tuple", d, .seq its n, sl⟩) (sz : its.size ≤ sizeLine) (vs : Vals (is.map V.int) its.toList) : Nonempty (CTup K mg x is) := ⟨⟨a, _, its, n, PySem.W.mg_of X G aC, l, rfl, rfl, sz, vs⟩⟩
end
/-! ## xs[i] += e, ints, a list -/
theorem get_list {X : Cx} : PGet X (fun x y H Q => rIxL X.K x y H Q) := by
  intro pins s σ H x y v u Q I rx ry h
  obtain ⟨p, xs, i, z, rfl, rfl, hq, he, q⟩ := h
  cases rx
  obtain ⟨t, rfl⟩ := ry
  obtain ⟨its, r, pl, hz⟩ := I.list hq
  obtain ⟨j, h1, h2, h3, h4, h5⟩ := atI_get he
  obtain ⟨w, ew, rw'⟩ := r.get h2
  have hl := r.length
  have hn := line63
  have fin : EP X pins σ Q w s := ⟨z, H, I, rw', q⟩
  by_cases h0 : 0 ≤ i
  · have hj : i.toNat = j := by
      rw [seqIndex_of h0 h5] at h1
      exact Option.some.inj h1
    exact wpAny_getItem_list pl.isList h0 (by omega) (by rw [hj]; simpa using ew) fin
  · have hj : (i + (its.toArray.size : Int)).toNat = j := by
      rw [seqIndex_neg (by omega) h4] at h1
      rw [List.size_toArray, ← hl]
      exact Option.some.inj h1
    exact wpAny_getItem_list_neg pl.isList (by omega) (by rw [List.size_toArray] <;> omega) (by omega) (by rw [hj]; simpa using ew) fin
def dIxL (x y : D) (h : AH) : R D := match x with
  | .cell n => match y with
    | .int i => withS (lstAt n h) fun ds => withS (atD ds i) fun d => .ok d h
    | _ => .no
  | _ => .no
theorem o_ixL {K : KW} {T : XT} : O2 K T (rIxL K.k) dIxL := fun E ρ H h x y v u Q hr rx ry p => by
  cases x with
  | cell n =>
    cases y with
    | int i =>
      obtain ⟨ds, e1, p⟩ := Post.withS (k := fun ds => withS (atD ds i) fun d => (R.ok d h : R D)) p
      obtain ⟨d, e2, p⟩ := p.withS
      obtain ⟨a, xs, f1, f2, re, f3⟩ := lstAt_ok hr e1
      obtain ⟨b, rfl, e3⟩ := rp_cell.mp rx
      rw [e3] at f1; cases f1
      obtain ⟨w, e4, rw'⟩ := atD_ok re e2
      exact ⟨_, xs, i, w, rfl, rp_int.mp ry, .inl (.inl f2), e4, p.here hr _ rw'⟩
    | _ => exact p.elim
  | _ => exact p.elim
def gAugS (fo fi f : DE) (op : D → D → AH → R D) : DS := fun s h => bindS (fo s h) s fun o h1 => bindS (fi s h1) s fun i h2 => bindS (dIxL o i h2) s fun x h3 => bindS (f s h3) s fun y h4 => bindS (op x y h4) s fun z h5 =>
  match oSet o i z h5 with
  | some h6 => .nx s h6
  | none => .no
section
variable {X : Cx} {T : XT} {W : WX} {o i e : Expr} {fo fi f : DE} {pos tpos : Pos}
theorem s_augS {op : Operator} {g : Int → Int → Int} {od : D → D → AH → R D} {k : Nat} (hr : Room k X.A) (ho : SE X T W o fo) (hi : SE X T W i fi) (he : SE X T W e f) (hp : PIp X op (ipI g)) (oi : OI (kwOf X) T (ipI g) od)
    (ha : ∀ ov iv new, augStore i ov iv new = (do holding [new, ov, iv] (setItem ov iv new); release [new, ov, iv] []; pure .next) := by intros; rfl) : SS X T W (.AugAssign (.Subscript o i tpos) op e pos) (gAugS fo fi f od) :=
  ⟨PS.imp (ps_augS ho.p hi.p get_list he.p hp (set_any hr) ha) fun D σ H ⟨ρ, s, h, st, hr, q⟩ =>
    tD_bindS st hr q fun od1 h1 ρ1 H1 vo g1 hr1 st1 ro q1 => tD_bindS st1 hr1 q1 fun id1 h2 ρ2 H2 vi g2 hr2 st2 ri q2 =>
      o_ixL (K := kwOf X) (T := T) (at_ W σ) ρ2 H2 h2 od1 id1 vo vi _ hr2 (Rp.grow hr1.live g2 od1 ro) ri
        ((PostS.bind hr2 st2 q2).mono fun x h3 ρ3 H3 _ g3 hr3 q3 v rv => tD_bindS (st2.grow hr2.live g3) hr3 q3 fun y h4 ρ4 H4 vy g4 hr4 st4 ry q4 =>
          oi _ ρ4 H4 h4 x y v vy _ hr4 (Rp.grow hr3.live g4 x rv) ry ((PostS.bind hr4 st4 q4).mono fun z h5 ρ5 H5 _ g5 hr5 q5 vz rz => by
            have ro5 := Rp.grow hr4.live g5 _ (Rp.grow hr3.live g4 _ (Rp.grow hr2.live g3 od1 (Rp.grow hr1.live g2 od1 ro)))
            have ri5 := Rp.grow hr4.live g5 _ (Rp.grow hr3.live g4 _ (Rp.grow hr2.live g3 id1 ri))
            cases z3 : oSet od1 id1 z h5 with
            | none => simp only [z3] at q5; exact q5.elim
            | some h6 =>
              simp only [z3] at q5
              have st5 := st4.grow hr4.live g5
              exact oSet_ok hr5 ro5 ri5 rz z3 fun H6 g6 hr6 => q5 ρ5 H6 σ g6 hr6 (st5.grow hr5.live g6)))⟩
end
/-! ## {k: v} -/
section
variable {X : Cx} {T : XT} {W : WX} {k v : Expr} {fk fv : DE} {pos : Pos}
def rPutN (X : Cx) : V → V → V → Hp → (Hp → Prop) → Prop := rSetN X
def tDisp1 (X : Cx) (tk tv : TE) : TE := fun σ H Q => ∀ p, H p = none → (p == sysModules) = false → tk σ (upd H p (DN X.w [] p)) fun x H1 => tv σ H1 fun y H2 => rSetN X (.ref p) x y H2 fun H3 => Q (.ref p) H3
theorem pe_disp1 {n : Nat} {tk tv : TE} (hr : Room n X.A) (hk : PE X k tk) (hv : PE X v tv) : PE X (.Dict [some k] [v] pos) (tDisp1 X tk tv) := ⟨fun pins s σ H Q I h => by
  have hs := zip_pairTrees [some k] [v] X.env pos rfl rfl
  rw [arm_eval_Dict, hs, dictDisplay_pairs _ (by intro e; have := pairTrees_length [some k] [v] X.env pos rfl rfl; rw [e] at this; cases this) (by have := pairTrees_length [some k] [v] X.env pos rfl rfl; rw [this]; simp)]
  refine wpAny_bind (wpAny_standAt (wpAny_bind ?_))
  unfold subDict
  refine wpAny_bind (wpAny_alloc ?_)
  refine wpAny_bind (wpAny_holding ?_)
  rw [if_pos (by have := pairTrees_length [some k] [v] X.env pos rfl rfl; rw [this]; simp)]
  have I1 := I.laid (a := s.heap.objs.size) (o := DN X.w [] s.heap.objs.size) (h' := s.heap.push { cls := .type "dict", data := .dict #[] }) (t' := s.toks) (fun _ _ q => Heap.get?_push_of_some _ q) (Nat.le_refl _) (dn_empty s.heap)
  refine wpAny_bind (pairTrees_cons_walk (thn (hk.run pins _ σ _ _ I1 (h _ (I.hok.fresh (Nat.le_refl _)) (sys_ne I))) fun u s1 ⟨x, H1, I2, rx, q1⟩ => thn (hv.run pins s1 σ H1 _ I2 q1) fun u2 s2 ⟨y, H2, I3, ry, q2⟩ => pairTrees_nil_walk ?_))
  obtain ⟨ρ, a, L, kvs, k', kd, ea, hw, Dk, hl, q⟩ := q2
  cases ea
  refine wpAny_holding ?_
  refine wpAny_bind ?_
  rw [List.forIn_cons]
  refine wpAny_bind (wpAny_bind (dictSet_ok hr I3 Dk hw rx hl ry fun s' I' => wpAny_pure ?_))
  dsimp only
  rw [List.forIn_nil]
  exact wpAny_pure (wpAny_pure (wpAny_pure (wpAny_pure ⟨.ref s.heap.objs.size, _, I', rfl, q⟩)))⟩
def dDict1 (fk fv : DE) : DE := fun s h => (fk s (h.add (.dict false []))).bind fun k h1 => (fv s h1).bind fun v h2 => withS (oSetN h.new k v h2) fun h3 => .ok (.cell h.new) h3
theorem se_dict1 {n : Nat} (hr : Room n X.A) (hk : SE X T W k fk) (hv : SE X T W v fv) : SE X T W (.Dict [some k] [v] pos) (dDict1 fk fv) :=
  ⟨PE.imp (pe_disp1 hr hk.p hv.p) fun σ H Q ⟨ρ, s, h, st, hr, q⟩ p np ns => by
    have g0 := grow_add (o := DN X.w [] p) hr np
    have hr0 := dn_new_ok hr np ns
    have q0 : Post (kwOf X) T (at_ W σ) (rhoAdd ρ h.new p) (upd H p (DN X.w [] p)) ((fk s (h.add (.dict false []))).bind fun k h1 => (fv s h1).bind fun v h2 => withS (oSetN h.new k v h2) fun h3 => .ok (.cell h.new) h3) fun d _ ρ' H' => ∀ v, Rp (kwOf X) ρ' H' d v → Q v H' := by
      have q : Post (kwOf X) T (at_ W σ) ρ H ((fk s (h.add (.dict false []))).bind fun k h1 => (fv s h1).bind fun v h2 => withS (oSetN h.new k v h2) fun h3 => .ok (.cell h.new) h3) fun d _ ρ' H' => ∀ v, Rp (kwOf X) ρ' H' d v → Q v H' := q
      generalize ((fk s (h.add (.dict false []))).bind fun k h1 => (fv s h1).bind fun v h2 => withS (oSetN h.new k v h2) fun h3 => (R.ok (.cell h.new) h3 : R D)) = z at q
      cases z with
      | ok a h1 => exact fun ρ1 H1 g1 hr1 => q ρ1 H1 (g0.trans hr0.live g1) hr1
      | ex e h1 => exact fun ρ1 H1 c d g1 hr1 x => q ρ1 H1 c d (g0.trans hr0.live g1) hr1 x
      | no => exact q
    refine tD_bind (st.grow hr.live g0) hr0 q0 fun kd h1 ρ1 H1 vk g1 hr1 st1 rk q1 => tD_bind st1 hr1 q1 fun vd h2 ρ2 H2 vv g2 hr2 st2 rv q2 => ?_
    obtain ⟨h3, e3, q3⟩ := Post.withS q2
    have rp0 : Rp (kwOf X) (rhoAdd ρ h.new p) (upd H p (DN X.w [] p)) (.cell h.new) (.ref p) := rp_cell.mpr ⟨p, rfl, rhoAdd_same⟩
    have rp2 := Rp.grow hr1.live g2 _ (Rp.grow hr0.live g1 _ rp0)
    exact oSet_dict hr2 rp2 (Rp.grow hr1.live g2 kd rk) rv e3 fun H3 g3 hr3 => q3 ρ2 H3 g3 hr3 _ (Rp.grow hr2.live g3 _ rp2)⟩
end
end Nc
namespace Nc
open PySem PySem.Spec PySem.W PyProof.Rows L2 RT
/-! ## list(reversed(a list)) -/
section
variable {prog : Program} {w : World} {A : Around} {E : Value → Shared → Prop} {s : Shared} {it l : Addr} {items : Array Value}
theorem hint_rev {Q : Bool → Shared → Prop} (hT : s.TypeIs (.ref it) "list_reverseiterator") (h : Q false s) : wpAny (model prog w) A (Builtin.List.listLengthHint (.ref it)) Q E s := by
  unfold Builtin.List.listLengthHint
  refine wpAny_bind (wpAny_specialOf hT nolen_lri ?_)
  show wpAny _ A (specialOf (Value.ref it) (Str.ofString "__length_hint__") >>= _) _ _ _
  refine wpAny_bind (wpAny_specialOf hT hint_lri ?_)
  generalize hid : ("list_reverseiterator.__length_hint__" : String) = id0
  wp_delta
  rw [show splitId id0 = some ("list_reverseiterator", "__length_hint__") from by subst hid; decide +kernel]
  subst hid
  refine wpAny_bind (wpAny_isInstance (b := true) hT (by rw [isSubtype_type]; kernel_rfl) ?_)
  exact wpAny_pure h
theorem extend_rev {R : Result → Shared → Prop} (hh : A.handled = none) (hit : s.heap.IsRevIter it l ((items.size : Int) - 1)) (hl : s.heap.IsList l items) (hne : l ≠ it) (hn : items.size ≤ sizeLine) (S : Addr) (hSi : S ≠ it) (hSl : S ≠ l) (res : Value) (c₀ : Nat) (hS : s.heap.get? S = some { cls := .type "list", data := .seq #[] c₀ })
    (hR : ∀ h' tk acc' c', (∀ b o, b ≠ S → b ≠ it → s.heap.get? b = some o → h'.get? b = some o) → h'.get? S = some { cls := .type "list", dict := none, data := .seq acc' c', slots := #[] } → ItemsOf (fun i v => items[items.size - 1 - i]? = some v) acc' items.size → R (.ok (.ret res)) { s with heap := h', toks := tk }) :
    wpAny (model prog w) A.in1 (Builtin.List.listExtendWith (.ref S) (.ref it) res)
      (fun fin s' => match fin with | .done f => R (.ok f) s' | .again c' => c'.quiet = true ∧ codeAny (model prog w) A c' R s') (fun e s' => R (.error e) s') s := by
  have W := (Walks.listRev (prog := prog) (w := w) (A := A.in1) hh it l hne items).toS
  have hSf : S ∉ [it, l] := by simp only [List.mem_cons, List.not_mem_nil, or_false, not_or]; exact ⟨hSi, hSl⟩
  have hT : s.TypeIs (.ref it) "list_reverseiterator" := hit.typeIs
  have h1 : Builtin.List.listSameRef (.ref S) (.ref it) = false := by simp [Builtin.List.listSameRef, hSi]
  unfold Builtin.List.listExtendWith
  refine wpAny_bind (wpAny_typeOf hT ?_)
  rw [if_neg (by rw [h1]; decide)]
  refine wpAny_bind (wpAny_pyIter_revIter hit ?_)
  refine wpAny_bind (wpAny_holding (hint_rev hT ?_))
  rw [if_neg (by decide)]
  have e0 : ((items.size : Nat) : Int) - 1 - ((0 : Nat) : Int) = (items.size : Int) - 1 := by omega
  refine wpAny_pure ⟨plainId_quiet F.plain_extend_loop _, codeAny_extend_loopS W hn _ hSf _ items.size 0 _ _ _ rfl (Nat.zero_le _) ⟨Nat.zero_le _, by rw [e0]; exact hit, hl⟩ hS (ItemsOf.nil _) fun s' acc' c' hm hS' hacc => ?_⟩
  rw [Moved.eq_with hm]
  refine hR s'.heap s'.toks acc' c' (fun b o hb hbi e => hm.heap b o (fun hmem => ?_) e) hS' hacc
  rcases List.mem_cons.mp hmem with e' | hmem
  · exact hb e'
  · exact hbi (List.mem_singleton.mp hmem)
theorem call_list_rev {Q : Value → Shared → Prop} (hh : A.handled = none) (hit : s.heap.IsRevIter it l ((items.size : Int) - 1)) (hl : s.heap.IsList l items) (hne : l ≠ it) (hn : items.size ≤ sizeLine)
    (hQ : ∀ h' tk acc' c', (∀ b o, b ≠ it → s.heap.get? b = some o → h'.get? b = some o) → h'.get? s.heap.objs.size = some { cls := .type "list", dict := none, data := .seq acc' c', slots := #[] } → ItemsOf (fun i v => items[items.size - 1 - i]? = some v) acc' items.size → Q (.ref s.heap.objs.size) { s with heap := h', toks := tk }) :
    wpAny (model prog w) A (call (.type "list") [.ref it]) Q E s := by
  obtain ⟨oi, hoi, _⟩ := id hit
  obtain ⟨ol, hol, _⟩ := id hl
  have hSi : s.heap.objs.size ≠ it := Nat.ne_of_gt (Heap.lt_size hoi)
  have hSl : s.heap.objs.size ≠ l := Nat.ne_of_gt (Heap.lt_size hol)
  refine callType_codes (Q₁ := fun obj s₁ => obj = .ref s.heap.objs.size ∧ s₁ = { s with heap := s.heap.push { cls := .type "list", data := .seq #[] } }) PySem.F.called_list (PySem.F.typeCall_list_1 _) PySem.F.entry_list_init
    (code_list_new _ ⟨rfl, rfl⟩) fun obj s₁ h₁ => ?_
  obtain ⟨rfl, rfl⟩ := h₁
  have hS : (s.heap.push { cls := .type "list", data := .seq #[] }).get? s.heap.objs.size = some { cls := .type "list", data := .seq #[] } := Heap.get?_push_size _ rfl
  refine ⟨⟨_, hS, rfl⟩, PySem.F.args_list_init_2 _ _, ?_⟩
  show wpAny _ _ (do let old ← Builtin.List.listItems (.ref s.heap.objs.size); Builtin.List.listUpdate (.ref s.heap.objs.size) (fun _ => #[]); letGo old.toList.reverse; Builtin.List.listExtendWith (.ref s.heap.objs.size) (.ref it) .none) _ _ _
  refine wpAny_bind ?_
  unfold Builtin.List.listItems
  refine wpAny_bind (wpAny_seqItems hS rfl (wpAny_pure ?_))
  show wpAny _ _ (updateSeq s.heap.objs.size (fun _ => #[]) >>= fun _ => letGo (#[] : Array Value).toList.reverse >>= fun _ => Builtin.List.listExtendWith (.ref s.heap.objs.size) (.ref it) .none) _ _ _
  refine wpAny_bind (wpAny_updateSeq hS rfl ?_)
  have hS₂ := Heap.get?_update_self (Obj.mapSeq (fun _ => (#[] : Array Value))) hS rfl
  have oth : ∀ b o, s.heap.get? b = some o → ((s.heap.push { cls := .type "list", data := .seq #[] }).update s.heap.objs.size (Obj.mapSeq (fun _ => (#[] : Array Value)))).get? b = some o :=
    fun b o e => (Heap.get?_update_other _ _ (Nat.ne_of_gt (Heap.lt_size e))).trans (Heap.get?_push_of_some _ e)
  refine wpAny_bind (wpAny_letGo ?_)
  refine extend_rev (A := A.in1) hh (hit.at fun o e => oth it o e) (hl.at fun o e => oth l o e) hne hn _ hSi hSl .none _ hS₂ fun h' tk acc' c' hk hS' hacc => ?_
  exact ⟨rfl, hQ h' tk acc' c' (fun b o hb e => hk b o (Nat.ne_of_lt (Heap.lt_size e)) hb (oth b o e)) hS' hacc⟩
end
section
variable {X : Cx} {pins : List (Addr × Obj)} {σ : L2.St} {H : Hp} {s : Shared} {h' : Heap}
/-- an iterator of ours has turned, and a new object stands -/
theorem turned_laid {t' : Nat} {it a : Addr} {o : HO} (I : Inv X pins σ H s) (k : ∀ b o, b ≠ it → s.heap.get? b = some o → h'.get? b = some o) (ha : s.heap.objs.size ≤ a) (new : ObjOk X.prog X.w (upd H a o) h' a o) (hn : H it = none) (hL : it ≠ X.env.locals)
    (h1 : it ∈ X.ex ∨ X.s_0.heap.objs.size ≤ it) (h2 : ∀ x c, X.env.cells.lookup x = some c → c ≠ it) (h3 : ∀ p ∈ X.pn ++ pins, p.1 ≠ it) : Inv X pins σ (upd H a o) { s with heap := h', toks := t' } := by
  have nit : ∀ b u, H b = some u → b ≠ it := fun b u e z => by rw [z, hn] at e; cases e
  have na : H a = none := I.hok.fresh ha
  have ne : ∀ {b : Addr} {u : Obj}, s.heap.get? b = some u → b ≠ a := fun q => Nat.ne_of_lt (Nat.lt_of_lt_of_le (Heap.lt_size q) ha)
  refine I.step (g' := s.gens) (d' := s.drawn) (ch := [it]) (fun b hb => ?_) (fun b o _ _ hc e _ => k b o (fun z => hc (by simp [z])) e) (fun b o _ _ hc e _ => ⟨o.slots, k b o (fun z => hc (by simp [z])) e⟩) (fun b u _ q n => by rw [upd_ne (ne q)]; exact n)
    (fun b o hc e => ⟨o, k b o (fun z => hc (by simp [z])) e⟩) (fun b xs e => by rw [upd_ne (ne_of_none e na)]; exact e) (fun b u v e => by rw [upd_ne (ne_of_none e na)]; exact e) (fun b ps e => ⟨#[], by rw [upd_ne (ne_of_none e na), e]; simp⟩) (fun m hm => ?_) (fun b u e => ?_) I.bare
  · have e : b = it := by simpa using hb
    subst e
    exact ⟨h1, hL, h2, h3⟩
  · obtain ⟨o, es, ep, ho, r⟩ := hm
    exact ⟨o, es, ep, k _ o (Ne.symm hL) ho, r⟩
  · by_cases hb : b = a
    · subst hb; rw [upd_same] at e; cases e; exact new
    · rw [upd_ne hb] at e
      refine (I.hok b u e).stay (fun c v hc q => k c v ?_ q) (fun c q => by rw [upd_ne (ne_of_none q na)]; exact q) fun c xs q => by rw [upd_ne (ne_of_none q na)]; exact q
      rcases hc with z | z
      · rw [z]; exact nit b u e
      · exact nit c _ z
end
section
variable {X : Cx} {T : XT} {W : WX}
def tListRev (K : PySem.W.Frag) (te : TE) : TE := fun σ H Q => te σ H fun v H1 => ∃ (a : Addr) (xs : List V), v = .ref a ∧ SqL K H1 a xs ∧ ∀ q, H1 q = none → Q (.ref q) (upd H1 q (.lst xs.reverse))
theorem pe_listRev {e : Expr} {te : TE} {p p2 pos pos2 : Pos} (hc : X.calm = true) (hg : Gl X "list") (hm : X.mg "list" = none) (hg2 : Gl X "reversed") (hm2 : X.mg "reversed" = none) (he : PE X e te)
    (hs : starEach [e] X.env = (false, eval e X.env) :: starEach [] X.env := by rfl)
    (hs2 : starEach [.Call (.Name "reversed" p2) [e] [] pos2] X.env = (false, eval (.Call (.Name "reversed" p2) [e] [] pos2) X.env) :: starEach [] X.env := by rfl) :
    PE X (.Call (.Name "list" p) [.Call (.Name "reversed" p2) [e] [] pos2] [] pos) (tListRev X.K te) := by
  refine ⟨fun pins s σ H Q I h => ?_⟩
  refine Call_ (ld_blt I hg hm boot_list (PyProof.Rows.callWith_type1 (args_cons (Call_ (ld_blt I hg2 hm2 PyProof.Rows.boot_reversed (PyProof.Rows.callWith_type1 (args_cons (thn (he.run pins s σ H _ I h) fun u s1 ⟨v, H1, I1, r1, q1⟩ => args_nil ?_) hs) hs rfl))) hs2) hs2 rfl))
  obtain ⟨a, xs, ev, hq, q⟩ := q1
  subst ev
  obtain rfl : u = Value.ref a := r1
  obtain ⟨its, rv, p', hz⟩ := I1.list hq
  refine call_reversed_list p'.isList (args_nil ?_)
  have k0 : ∀ b o, s1.heap.get? b = some o → (s1.heap.push (revObj a ((its.toArray.size : Int) - 1))).get? b = some o := fun b o e => Heap.get?_push_of_some _ e
  have I2 : Inv X pins σ H1 { s1 with heap := s1.heap.push (revObj a ((its.toArray.size : Int) - 1)) } := I1.kept (t' := s1.toks) k0
  obtain ⟨f0, f1, f2, f3, f4, f5⟩ := I1.fpOk (H' := H1) (b := s1.heap.objs.size) (Nat.le_refl _) (I1.hok.fresh (Nat.le_refl _))
  have hl := p'.isList
  obtain ⟨ol, hol, _⟩ := id hl
  have hne : a ≠ s1.heap.objs.size := Nat.ne_of_lt (Heap.lt_size hol)
  have hn : its.toArray.size ≤ sizeLine := by rw [List.size_toArray, ← rv.length]; exact hz
  refine call_list_rev (s := { s1 with heap := s1.heap.push (revObj a ((its.toArray.size : Int) - 1)) }) (I1.ok.hd hc) ⟨_, Heap.get?_push_size _ rfl, rfl, rfl⟩ (hl.push _) hne hn fun h' tk acc c' hk hS hi => ?_
  have fr : H1 (s1.heap.push (revObj a ((its.toArray.size : Int) - 1))).objs.size = none := I2.hok.fresh (Nat.le_refl _)
  refine ⟨.ref _, _, turned_laid (t' := tk) (o := .lst xs.reverse) I2 (fun b o hb e => hk b o hb e) (Nat.le_refl _) ⟨by rw [List.length_reverse]; exact hz, acc.toList, c', vals_rev rv hi, by rw [Array.toArray_toList]; exact hS⟩ f0 f1 f3 f4 f5, rfl, q _ fr⟩
def dListRev (f : DE) : DE := fun s h => (f s h).bind fun d h1 => match d with
  | .cell n => withS (lstAt n h1) fun ds => mkL ds.reverse h1
  | _ => .no
theorem se_listRev {e : Expr} {f : DE} {p p2 pos pos2 : Pos} (hc : X.calm = true) (hm : X.mg "list" = none) (hm2 : X.mg "reversed" = none) (he : SE X T W e f) (hg : Gl X "list" := by rfl) (hg2 : Gl X "reversed" := by rfl)
    (hs : starEach [e] X.env = (false, eval e X.env) :: starEach [] X.env := by rfl)
    (hs2 : starEach [.Call (.Name "reversed" p2) [e] [] pos2] X.env = (false, eval (.Call (.Name "reversed" p2) [e] [] pos2) X.env) :: starEach [] X.env := by rfl) :
    SE X T W (.Call (.Name "list" p) [.Call (.Name "reversed" p2) [e] [] pos2] [] pos) (dListRev f) :=
  ⟨PE.imp (pe_listRev hc hg hm hg2 hm2 he.p hs hs2) fun σ H Q ⟨ρ, s, h, st, hr, q⟩ => tD_bind st hr q fun d h1 ρ1 H1 v g1 hr1 st1 r1 q1 => by
    cases d with
    | cell n =>
      obtain ⟨ds, e1, q2⟩ := Post.withS (k := fun (ds : List D) => mkL ds.reverse h1) q1
      obtain ⟨a, xs, f1, f2, re, f3⟩ := lstAt_ok hr1 e1
      obtain ⟨b, rfl, e3⟩ := rp_cell.mp r1
      rw [e3] at f1; cases f1
      exact ⟨_, xs, rfl, .inl (.inl f2), (mkL_ok hr1 re.reverse q2).2⟩
    | _ => exact q1.elim⟩
end
end Nc
namespace Nc
open PySem PySem.Spec PySem.W PyProof.Rows L2
/-! ## x in a tuple of data -/
section
variable {X : Cx} {T : XT} {W : WX} {a b : Expr} {f g : DE} {pos : Pos} {k : Nat}
def rInT2 (K : PySem.W.Frag) (neg : Bool) : R2 := fun x y H Q => ∃ d ds, Dp K H x d ∧ Dp K H y (.tuple ds) ∧ SeqAt.shaped d = true ∧ SeqAt.shaped (.tuple ds) = true ∧ Q (.bl (if neg then !(ds.any fun z => PyData.eqv z d) else ds.any fun z => PyData.eqv z d)) H
theorem op_inT2 (hu : X.A.units + 65 < cLine) : OpR X (compareOp .In) (rInT2 X.K false) := by
  intro pins s σ H x y v u Q I rx ry h
  obtain ⟨d, ds, hd, he, sd, se, q⟩ := h
  obtain ⟨as, r1⟩ := Dp.reads I d x v hd rx
  obtain ⟨bs, r2⟩ := Dp.reads I (.tuple ds) y u he ry
  exact SeqAt.in_tuple_reads r2 r1 (SeqAt.canLay_of_shaped se) (SeqAt.canLay_of_shaped sd) (room_in_shaped sd hu) ⟨.bl _, H, I, rfl, q⟩
theorem op_ninT2 (hu : X.A.units + 65 < cLine) : OpR X (compareOp .NotIn) (rInT2 X.K true) := by
  intro pins s σ H x y v u Q I rx ry h
  obtain ⟨d, ds, hd, he, sd, se, q⟩ := h
  obtain ⟨as, r1⟩ := Dp.reads I d x v hd rx
  obtain ⟨bs, r2⟩ := Dp.reads I (.tuple ds) y u he ry
  exact SeqAt.notIn_tuple_reads r2 r1 (SeqAt.canLay_of_shaped se) (SeqAt.canLay_of_shaped sd) (room_in_shaped sd hu) ⟨.bl _, H, I, rfl, q⟩
def inTup2 (x y : D) (h : AH) : Option Bool := match toPD h 12 x, toPD h 12 y with
  | some p, some (.tuple qs) => match SeqAt.shaped p && SeqAt.shaped (.tuple qs) with
    | true => some (anyEq p qs)
    | false => none
  | _, _ => none
def dInB (neg : Bool) (x y : D) (h : AH) : R D := match isTupD y && (inFlat x y h).isNone with
  | true => withS (inTup2 x y h) fun b => .ok (.bl (if neg then !b else b)) h
  | false => dInA neg x y h
theorem inTup2_ok {K : KW} {E : XK} {ρ : Rho} {H : Hp} {h : AH} {x y : D} {v u : V} {Q : VK} {neg : Bool} (hr : HR K ρ H h) (rx : Rp K ρ H x v) (ry : Rp K ρ H y u) (p : P1 K T E ρ H (withS (inTup2 x y h) fun b => .ok (.bl (if neg then !b else b)) h) Q) : rInT2 K.k neg v u H Q := by
  obtain ⟨b, e, p⟩ := Post.withS p
  unfold inTup2 at e
  cases z : toPD h 12 x with
  | none => simp only [z] at e; cases e
  | some p' =>
    cases z2 : toPD h 12 y with
    | none => simp only [z, z2] at e; cases e
    | some q =>
      cases q with
      | tuple qs =>
        simp only [z, z2] at e
        cases c : SeqAt.shaped p' && SeqAt.shaped (.tuple qs) with
        | false => rw [c] at e; cases e
        | true =>
          rw [c] at e; cases e
          obtain ⟨c1, c2⟩ := Bool.and_eq_true_iff.mp c
          exact ⟨p', qs, toPD_ok hr _ _ _ _ z rx, toPD_ok hr _ _ _ _ z2 ry, c1, c2, by rw [← anyEq_ok p' qs]; exact p.here hr _ (rp_bl.mpr rfl)⟩
      | _ => simp only [z, z2] at e; cases e
theorem o_inB {r : R2} {neg : Bool} (h0 : O2 (kwOf X) T r (dInA neg)) : O2 (kwOf X) T (fun x y H Q => r x y H Q ∨ rInT2 X.K neg x y H Q) (dInB neg) := fun E ρ H h x y v u Q hr rx ry p => by
  unfold dInB at p
  cases c : isTupD y && (inFlat x y h).isNone with
  | true => simp only [c] at p; exact .inr (inTup2_ok hr rx ry p)
  | false => simp only [c] at p; exact .inl (h0 E ρ H h x y v u Q hr rx ry p)
theorem se_in2 (hr : Room k X.A) (ha : SE X T W a f) (hb : SE X T W b g) (hm : behindInMarks .In b = false := by rfl) : SE X T W (.Compare a [.In] [b] pos) (dOp (dInB false) f g) := se_cmp (OpR.or (OpR.or (OpR.or op_in_seq (op_inD (u65 hr))) (op_inN hr)) (op_inT2 (u65 hr))) (o_inB o_inA) ha hb hm
theorem st_in2 (hr : Room k X.A) (ha : SE X T W a f) (hb : SE X T W b g) (hm : behindInMarks .In b = false := by rfl) : ST X T W (.Compare a [.In] [b] pos) (dTest (dOp (dInB false) f g)) := st_cmp (OpR.or (OpR.or (OpR.or op_in_seq (op_inD (u65 hr))) (op_inN hr)) (op_inT2 (u65 hr))) (o_inB o_inA) ha hb hm
theorem se_nin2 (hr : Room k X.A) (ha : SE X T W a f) (hb : SE X T W b g) (hm : behindInMarks .NotIn b = false := by rfl) : SE X T W (.Compare a [.NotIn] [b] pos) (dOp (dInB true) f g) := se_cmp (OpR.or (OpR.or (OpR.or op_notIn_seq (op_notInD (u65 hr))) (op_notInN hr)) (op_ninT2 (u65 hr))) (o_inB o_notInA) ha hb hm
theorem st_nin2 (hr : Room k X.A) (ha : SE X T W a f) (hb : SE X T W b g) (hm : behindInMarks .NotIn b = false := by rfl) : ST X T W (.Compare a [.NotIn] [b] pos) (dTest (dOp (dInB true) f g)) := st_cmp (OpR.or (OpR.or (OpR.or op_notIn_seq (op_notInD (u65 hr))) (op_notInN hr)) (op_ninT2 (u65 hr))) (o_inB o_notInA) ha hb hm
end
/-! ## a or b, a a list -/
section
variable {X : Cx} {T : XT} {W : WX} {a b : Expr} {rest : List Expr} {f g : DE} {pos : Pos}
def dOrL (f g : DE) : DE := fun s h => (f s h).bind fun d h1 => withS (seqOf d h1) fun ds => match ds with
  | [] => g s h1
  | _ => .ok d h1
theorem se_orL (ha : SE X T W a f) (hb : SE X T W (.BoolOp .Or (b :: rest) pos) g) : SE X T W (.BoolOp .Or (a :: b :: rest) pos) (dOrL f g) :=
  ⟨PE.imp (pe_orT ha.p hb.p) fun σ H Q ⟨ρ, s, h, st, hr, q⟩ => tD_bind st hr q fun d h1 ρ1 H1 v g1 hr1 st1 r1 q1 => by
    obtain ⟨ds, e1, q2⟩ := Post.withS q1
    obtain ⟨p, xs, rfl, re, sq⟩ := seqOf_ok hr1 r1 e1
    have l := re.length
    have tru : TruV X.K (.ref p) H1 (!xs.isEmpty) := by
      rcases sq with ⟨sq, _⟩ | ⟨sq, _⟩
      · exact .inr (.inl ⟨xs, sq, rfl⟩)
      · exact .inl ⟨xs, .inl (.inl sq), rfl⟩
    refine ⟨_, tru, ?_⟩
    cases ds with
    | nil =>
      have : xs = [] := List.length_eq_zero_iff.mp l.symm
      subst this
      rw [if_neg (by decide)]
      exact ⟨ρ1, s, h1, st1, hr1, q2⟩
    | cons d0 dr =>
      have : xs ≠ [] := fun z => by rw [z] at l; cases l
      rw [if_pos (by cases xs with | nil => exact absurd rfl this | cons _ _ => rfl)]
      exact q2.here hr1 _ r1⟩
end
/-! ## list(d) of a dict -/
section
variable {X : Cx} {T : XT} {W : WX}
theorem keys_items {xs : List (NestedKey × Value × Value)} {es : Array DictEntry} {acc : Array Value} : ∀ {L : List (NestedKey × V × V)}, Paired EntV L xs → es.size = xs.length → (∀ (i : Nat) (hi : i < es.size), ∃ y, xs[i]? = some y ∧ es[i].key = y.2.1) →
    acc.size = es.size → (∀ (j : Nat) (v : Value), acc[j]? = some v → ∃ hi, v = (es[j]'hi).key) → Vals (L.map fun q => q.2.1) acc.toList := by
  intro L r hs he ha hv
  have key : acc.toList = xs.map fun x => x.2.1 := by
    apply List.ext_getElem?
    intro i
    rw [Array.getElem?_toList]
    by_cases h : i < es.size
    · obtain ⟨y, e1, e2⟩ := he i h
      have hi : i < acc.size := by omega
      obtain ⟨hi', e3⟩ := hv i acc[i] (Array.getElem?_eq_getElem hi)
      rw [List.getElem?_map, e1, Array.getElem?_eq_getElem hi, e3, e2]; rfl
    · rw [List.getElem?_map, List.getElem?_eq_none (by omega), Array.getElem?_eq_none (by omega)]; rfl
  rw [key]
  clear key ha hv he hs
  induction r with
  | nil => exact .nil
  | cons q t ih => exact .cons q.2.1 ih
def tListKeys (X : Cx) (td : TE) : TE := fun σ H Q => td σ H fun x H1 => ∃ ρ a L kvs, x = .ref a ∧ Rd H1 a (DN X.w L a) ∧ (a == sysModules) = false ∧ Paired (DEnt (kwOf X) ρ H1) kvs L ∧ L.length ≤ lim ∧ ∀ p, H1 p = none → Q (.ref p) (upd H1 p (.lst (L.map fun q => q.2.1)))
theorem pe_listKeys {o : Expr} {p pos : Pos} {td : TE} (hc : X.calm = true) (hg : Gl X ("list" : Str)) (hm : X.mg ("list" : Str) = none) (hd : PE X o td)
    (hse : starEach [o] X.env = (false, eval o X.env) :: starEach [] X.env := by rfl) : PE X (.Call (.Name ("list" : Str) p) [o] [] pos) (tListKeys X td) := ⟨fun pins s σ H Q I h => by
  refine Call_ (ld_blt I hg hm boot_list (PyProof.Rows.callWith_type1 (args_cons (thn (hd.run pins s σ H _ I h) fun v s1 ⟨x, H1, I1, r1, ρ, a, L, kvs, ex, ha, hsys, ent, hl, q⟩ => args_nil ?_) hse) hse rfl))
  subst ex; cases r1
  obtain ⟨xs, r, ob, es, ep, ho, hex, hdat, hes, _⟩ := dn_get I1 ha
  have raw : s1.heap.DictRaw a es ep := ⟨ob, ho, hex, hdat⟩
  have hn : es.size = xs.length := by
    have := congrArg List.length hes
    rw [List.length_map, Array.length_toList] at this
    exact this
  have he : ∀ (i : Nat) (hi : i < es.size), ∃ y, xs[i]? = some y ∧ es[i].key = y.2.1 := fun i hi => by
    have e1 : es.toList[i]? = some es[i] := by rw [Array.getElem?_toList, Array.getElem?_eq_getElem hi]
    rw [hes, List.getElem?_map] at e1
    cases z : xs[i]? with
    | none => rw [z] at e1; cases e1
    | some y =>
      rw [z] at e1
      refine ⟨y, rfl, ?_⟩
      rw [← Option.some.inj e1]
  have lL : L.length = xs.length := paired_len r
  have lz : es.size ≤ sizeLine := by
    have : lim ≤ sizeLine := by rw [sizeLine_eq]; decide
    omega
  refine kdl_call (KdlSrc.rawDict hsys) (I1.ok.hd hc) raw lz fun h' tk acc' c' hk hl' hit => ?_
  have vals := keys_items r hn he hit.1 hit.2
  refine ⟨.ref s1.heap.objs.size, upd H1 s1.heap.objs.size (.lst (L.map fun q => q.2.1)), ?_, rfl, q _ (HOk.fresh I1.hok (Nat.le_refl _))⟩
  refine I1.laid (fun b u e => hk b u e) (Nat.le_refl _) ⟨?_, acc'.toList, c', vals, ?_⟩
  · rw [List.length_map, lL, ← hn]; exact lz
  · rw [Array.toArray_toList]; exact hl'⟩
theorem ent_keys {K : KW} {ρ : Rho} {H : Hp} : ∀ {kvs : List (NestedKey × D × D)} {L : List (NestedKey × V × V)}, Paired (DEnt K ρ H) kvs L → Rps K ρ H (keysD kvs) (L.map fun q => q.2.1)
  | _, _, .nil => Rps.nil_iff.mpr rfl
  | _, _, .cons r t => Rps.cons r.2.2.2.1 (ent_keys t)
def dKeysL (f : DE) : DE := fun s h => (f s h).bind fun d h1 => match d with
  | .cell n => withS (dctAt n h1) fun kvs => chk (Nat.ble kvs.length lim) (mkL (keysD kvs) h1)
  | _ => .no
theorem se_listKeys {o : Expr} {p pos : Pos} {f : DE} (hc : X.calm = true) (hm : X.mg ("list" : Str) = none) (hd : SE X T W o f) (hg : Gl X ("list" : Str) := by rfl)
    (hse : starEach [o] X.env = (false, eval o X.env) :: starEach [] X.env := by rfl) : SE X T W (.Call (.Name ("list" : Str) p) [o] [] pos) (dKeysL f) :=
  ⟨PE.imp (pe_listKeys hc hg hm hd.p hse) fun σ H Q ⟨ρ, s, h, st, hr, q⟩ => tD_bind st hr q fun d h1 ρ1 H1 v g1 hr1 st1 r1 q1 => by
    cases d with
    | cell n =>
      obtain ⟨kvs, e1, q2⟩ := Post.withS (k := fun kvs => chk (Nat.ble kvs.length lim) (mkL (keysD kvs) h1)) q1
      obtain ⟨c, q2⟩ := q2.chk
      obtain ⟨a, L, fz, f1, f2, f3, f4, fh, f5⟩ := dctAt_ok hr1 e1
      obtain ⟨b, rfl, f6⟩ := rp_cell.mp r1
      rw [f1] at f6; cases f6
      exact ⟨ρ1, a, L, kvs, rfl, lk_rd f2, f3, f4, by rw [← paired_len f4]; exact Nat.le_of_ble_eq_true c, (mkL_ok hr1 (ent_keys f4) q2).2⟩
    | _ => exact q1.elim⟩
end
/-! ## pop, index -/
section
variable {K : KW} {T : XT}
def oPopAt (x : D) (ds : List D) (h : AH) : R D := match x with
  | .cell n => withS (lstAt n h) fun es => withS (arg1 ds) fun d => match d with
    | .int i => chk (Nat.ble i.natAbs 1000000) (withS (seqIndex? i es.length) fun k => withS (es[k]?) fun e => .ok e (h.put n (.lst (es.eraseIdx k))))
    | _ => .no
  | _ => .no
theorem Rps.eraseIdx {ρ : Rho} {H : Hp} : ∀ {ds : List D} {vs : List V} (k : Nat), Rps K ρ H ds vs → Rps K ρ H (ds.eraseIdx k) (vs.eraseIdx k)
  | [], _, k, r => by rw [Rps.nil_iff.mp r]; simp; exact Rps.nil_iff.mpr rfl
  | d :: ds, _, 0, r => by
    obtain ⟨x, q, rfl, r1, r2⟩ := Rps.cons_iff.mp r
    exact r2
  | d :: ds, _, k + 1, r => by
    obtain ⟨x, q, rfl, r1, r2⟩ := Rps.cons_iff.mp r
    exact Rps.cons r1 (Rps.eraseIdx k r2)
theorem om_popAt : OM K T rPopAt oPopAt := fun E ρ H h x ds v vs Q hr rx rv p => by
  cases x with
  | cell n =>
    obtain ⟨es, e1, p⟩ := Post.withS (k := fun (es : List D) => withS (arg1 ds) fun d => match d with
      | .int i => chk (Nat.ble i.natAbs 1000000) (withS (seqIndex? i es.length) fun k => withS (es[k]?) fun e => (R.ok e (h.put n (.lst (es.eraseIdx k))) : R D))
      | _ => .no) p
    obtain ⟨d, e2, p⟩ := p.withS
    cases d with
    | int i =>
      obtain ⟨c, p⟩ := Post.chk p
      obtain ⟨k, e4, p⟩ := Post.withS p
      obtain ⟨e, e5, p⟩ := Post.withS p
      obtain ⟨a, rfl, e3⟩ := rp_cell.mp rx
      obtain ⟨b, xs, f1, f2, re, f3⟩ := lstAt_ok hr e1
      rw [e3] at f1; cases f1
      obtain ⟨u, rfl, ru⟩ := arg1_ok rv e2
      have c := Nat.le_of_ble_eq_true c
      obtain ⟨w, e6, rw'⟩ := re.get e5
      have g := grow_put (o := .lst (xs.eraseIdx k)) (mut_lst f2) e3
      exact ⟨a, xs, i, k, w, rfl, by rw [rp_int.mp ru], f2, by omega, by omega, by rw [← re.length]; exact e4, e6, p ρ _ g (hr.put e3 f3 (mut_lst f2) (Rps.eraseIdx k re)) _ (Rp.grow hr.live g e rw')⟩
    | _ => exact p.elim
  | _ => exact p.elim
def findV (v : V) : List V → Option Nat
  | [] => none
  | z :: r => match eqV z v with
    | true => some 0
    | false => match findV v r with
      | some j => some (j + 1)
      | none => none
theorem findV_ok {v : V} : ∀ {vs : List V} {j : Nat}, findV v vs = some j → ∃ z, vs[j]? = some z ∧ eqV z v = true ∧ ∀ (m : Nat) (z' : V), m < j → vs[m]? = some z' → eqV z' v = false
  | z :: r, j, e => by
    unfold findV at e
    cases c : eqV z v with
    | true => rw [c] at e; cases e; exact ⟨z, rfl, c, fun m z' hm => absurd hm (Nat.not_lt_zero _)⟩
    | false =>
      rw [c] at e
      cases q : findV v r with
      | none => rw [q] at e; cases e
      | some i =>
        rw [q] at e; cases e
        obtain ⟨y, h1, h2, h3⟩ := findV_ok q
        refine ⟨y, h1, h2, fun m z' hm hz => ?_⟩
        cases m with
        | zero => cases hz; exact c
        | succ m => exact h3 m z' (by omega) hz
def findP (v : PyData) : List PyData → Option Nat
  | [] => none
  | z :: r => match PyData.eqv z v with
    | true => some 0
    | false => match findP v r with
      | some j => some (j + 1)
      | none => none
theorem findP_ok {v : PyData} : ∀ {vs : List PyData} {j : Nat}, findP v vs = some j → ∃ z, vs[j]? = some z ∧ PyData.eqv z v = true ∧ ∀ (m : Nat) (z' : PyData), m < j → vs[m]? = some z' → PyData.eqv z' v = false
  | z :: r, j, e => by
    unfold findP at e
    cases c : PyData.eqv z v with
    | true => rw [c] at e; cases e; exact ⟨z, rfl, c, fun m z' hm => absurd hm (Nat.not_lt_zero _)⟩
    | false =>
      rw [c] at e
      cases q : findP v r with
      | none => rw [q] at e; cases e
      | some i =>
        rw [q] at e; cases e
        obtain ⟨y, h1, h2, h3⟩ := findP_ok q
        refine ⟨y, h1, h2, fun m z' hm hz => ?_⟩
        cases m with
        | zero => cases hz; exact c
        | succ m => exact h3 m z' (by omega) hz
def ixFlat (es : List D) (d : D) : Option Nat := match toV d, toVs es with
  | some v, some vs => findV v vs
  | _, _ => none
def ixDeep (x d : D) (h : AH) : Option Nat := match toPD h 12 d, toPD h 12 x with
  | some p, some (.list qs) => match SeqAt.shaped p && SeqAt.shaped (.list qs) with
    | true => findP p qs
    | false => none
  | _, _ => none
def oIndex (x : D) (ds : List D) (h : AH) : R D := match x with
  | .cell n => withS (lstAt n h) fun es => withS (arg1 ds) fun d => match ixFlat es d with
    | some j => .ok (.int j) h
    | none => withS (ixDeep (.cell n) d h) fun j => .ok (.int j) h
  | _ => .no
theorem om_index : OM K T (fun x xs H Q => rIndex K.k x xs H Q ∨ rIndexD K.k x xs H Q) oIndex := fun E ρ H h x ds v vs Q hr rx rv p => by
  cases x with
  | cell n =>
    obtain ⟨es, e1, p⟩ := Post.withS (k := fun (es : List D) => withS (arg1 ds) fun d => match ixFlat es d with
      | some j => (R.ok (.int j) h : R D)
      | none => withS (ixDeep (.cell n) d h) fun j => .ok (.int j) h) p
    obtain ⟨d, e2, p⟩ := p.withS
    obtain ⟨u, rfl, ru⟩ := arg1_ok rv e2
    cases z : ixFlat es d with
    | some j =>
      rw [z] at p
      unfold ixFlat at z
      cases z1 : toV d with
      | none => simp only [z1] at z; cases z
      | some w =>
        cases z2 : toVs es with
        | none => simp only [z1, z2] at z; cases z
        | some ws =>
          simp only [z1, z2] at z
          obtain ⟨a, rfl, e3⟩ := rp_cell.mp rx
          obtain ⟨b, xs, f1, f2, re, f3⟩ := lstAt_ok hr e1
          rw [e3] at f1; cases f1
          obtain ⟨h1, h2⟩ := toV_ok z1 ru
          obtain ⟨h3, h4⟩ := toVs_ok z2 re
          subst h1; subst h3
          obtain ⟨y, k1, k2, k3⟩ := findV_ok z
          exact .inl ⟨a, xs, u, j, y, rfl, rfl, .inl (.inl f2), h2, h4, k1, k2, k3, Post.here p hr _ (rp_int.mpr rfl)⟩
    | none =>
      rw [z] at p
      obtain ⟨j, e5, p⟩ := Post.withS p
      unfold ixDeep at e5
      cases z1 : toPD h 12 d with
      | none => simp only [z1] at e5; cases e5
      | some pd =>
        cases z2 : toPD h 12 (.cell n) with
        | none => simp only [z1, z2] at e5; cases e5
        | some q =>
          cases q with
          | list qs =>
            simp only [z1, z2] at e5
            cases c : SeqAt.shaped pd && SeqAt.shaped (.list qs) with
            | false => rw [c] at e5; cases e5
            | true =>
              rw [c] at e5
              obtain ⟨c1, c2⟩ := Bool.and_eq_true_iff.mp c
              obtain ⟨y, k1, k2, k3⟩ := findP_ok e5
              obtain ⟨a, rfl, e3⟩ := rp_cell.mp rx
              exact .inr ⟨a, u, pd, qs, j, y, rfl, rfl, toPD_ok hr _ _ _ _ z2 rx, toPD_ok hr _ _ _ _ z1 ru, c2, c1, k1, k2, k3, p.here hr _ (rp_int.mpr rfl)⟩
          | _ => simp only [z1, z2] at e5; cases e5
  | _ => exact p.elim
end
end Nc
namespace Nc
open PySem PySem.Spec PySem.W PyProof.Rows L2
/-! ## len of a dict -/
section
variable {prog : Program} {w : World} {A : Around} {E : Value → Shared → Prop} {s : Shared} {d : Addr} {es : Array DictEntry} {ep : Nat}
theorem len_body_raw {Q : Value → Shared → Prop} (hd : (d == sysModules) = false) (hm : s.heap.DictRaw d es ep) (hfit : (es.size : Int) < 2 ^ 63)
    (h : Q (.int es.size (s.toks + 1)) { s with toks := s.toks + 1 + 1 }) : wpAny (model prog w) A (Builtin.«len» ⟨[.ref d], []⟩) (fun fin s' => ∃ r, fin = .done (.ret r) ∧ Q r s') E s := by
  unfold Builtin.«len»
  refine wpAny_bind (m := oneArg "len" _) (wpAny_pure ?_)
  refine wpAny_bind (m := callSpecial? (.ref d) (Str.ofString "__len__")) (wpAny_callSpecial?_slot (name := Str.ofString "__len__") hm.typeIs F.slot_dict_len
    (call_meetsIn F.slot_dict_len hm.typeIs F.entry_dict_len (F.args_dict_len_1 _) (meets_dict_len_raw d hd) ⟨es, ep, hm, ?_⟩))
  show wpAny _ _ _ _ _ { s with toks := s.toks + 1 }
  refine wpAny_bind (wpAny_holding (wpAny_pure ?_))
  refine wpAny_bind (wpAny_letGo ?_)
  show wpAny _ _ (if ((es.size : Nat) : Int) < 0 then _ else _) _ _ _
  rw [if_neg (by omega)]
  show wpAny _ _ (if ((es.size : Nat) : Int) ≥ 2 ^ 63 then _ else _) _ _ _
  rw [if_neg (by omega)]
  exact wpAny_bind (wpAny_mkInt (wpAny_pure ⟨_, rfl, h⟩))
end
section
variable {X : Cx} {T : XT} {W : WX} {e : Expr} {f : DE} {p pos : Pos}
theorem call_lenN : CallR X (.builtin "len") (fun xs H Q => ∃ ρ a L kvs, xs = [V.ref a] ∧ Rd H a (DN X.w L a) ∧ (a == sysModules) = false ∧ Paired (DEnt (kwOf X) ρ H) kvs L ∧ kvs.length ≤ lim ∧ Q (.int kvs.length) H) := by
  intro pins s σ H xs us Q I r h
  obtain ⟨ρ, a, L, kvs, rfl, ha, hsys, ent, hl, q⟩ := h
  obtain ⟨u, rfl, ru⟩ := vals1 r
  cases ru
  obtain ⟨ys, r2, ob, es, ep, ho, hex, hdat, hes, _⟩ := dn_get I ha
  have raw : s.heap.DictRaw a es ep := ⟨ob, ho, hex, hdat⟩
  have hn : es.size = ys.length := by
    have := congrArg List.length hes
    rw [List.length_map, Array.length_toList] at this
    exact this
  have lL : L.length = ys.length := paired_len r2
  have lk : kvs.length = L.length := paired_len ent
  have lz : es.size ≤ lim := by omega
  have e2 : es.size = kvs.length := by omega
  refine Calls.call_function_entry kind_len plain_len entry_len (args_len1 _) (len_body_raw hsys raw (by have : lim = 1000000 := rfl; omega) ?_)
  rw [e2]
  exact ⟨.int kvs.length, H, I.tok _, ⟨_, rfl⟩, q⟩
theorem CallR.or {v : Value} {r r' : List V → Hp → VK → Prop} (h : CallR X v r) (h' : CallR X v r') : CallR X v (fun xs H Q => r xs H Q ∨ r' xs H Q) := fun pins s σ H xs us Q I rr q => q.elim (h pins s σ H xs us Q I rr) (h' pins s σ H xs us Q I rr)
def oLen2 : List D → AH → R D := fun ds h => match ds with
  | [.cell n] => match dctAt n h with
    | some kvs => chk (Nat.ble kvs.length lim) (.ok (.int kvs.length) h)
    | none => oLen ds h
  | _ => oLen ds h
theorem oc_len2 : OC (kwOf X) T (fun xs H Q => (∃ x n, xs = [x] ∧ LenV X.K x H n ∧ Q (.int n) H) ∨ (∃ ρ a L kvs, xs = [V.ref a] ∧ Rd H a (DN X.w L a) ∧ (a == sysModules) = false ∧ Paired (DEnt (kwOf X) ρ H) kvs L ∧ kvs.length ≤ lim ∧ Q (.int kvs.length) H)) oLen2 := fun E ρ H h ds vs Q hr r p => by
  unfold oLen2 at p
  split at p
  · rename_i n
    cases z : dctAt n h with
    | none => simp only [z] at p; exact .inl (oc_len (K := kwOf X) E ρ H h _ vs Q hr r p)
    | some kvs =>
      simp only [z] at p
      obtain ⟨c, p⟩ := p.chk
      obtain ⟨a, L, fz, f1, f2, f3, f4, fh, f5⟩ := dctAt_ok hr z
      obtain ⟨v, t, rfl, rv, rt⟩ := Rps.cons_iff.mp r
      have := Rps.nil_iff.mp rt; subst this
      obtain ⟨b, rfl, f6⟩ := rp_cell.mp rv
      rw [f1] at f6; cases f6
      exact .inr ⟨ρ, a, L, kvs, rfl, lk_rd f2, f3, f4, Nat.le_of_ble_eq_true c, p.here hr _ (rp_int.mpr rfl)⟩
  · exact .inl (oc_len (K := kwOf X) E ρ H h _ vs Q hr r p)
theorem se_len2 (hm : X.mg "len" = none) (ha : SE X T W e f) (hg : Gl X "len" := by rfl) (he : starEach [e] X.env = (false, eval e X.env) :: starEach [] X.env := by rfl) : SE X T W (.Call (.Name "len" p) [e] [] pos) (dCall oLen2 (dCons f dNil)) := se_callB (CallR.or call_len call_lenN) oc_len2 hg hm PySem.boot_len (sa_cons ha sa_nil he) (by decide) (by decide) he (by rfl)
end
/-! ## constants at the top -/
structure CInt (mg : Str → Option Value) (x : Str) (i : Int) where
  t : Tok
  gl : mg x = some (.int i t)
theorem mk_CInt {K : PySem.W.Frag} {h : Heap} {mg : Str → Option Value} {x : Str} {i : Int} {t : Tok} (X : K.In h) (G : h.Ns mainGlobals mg) (aC : PySem.W.nsIn K mainGlobals x = some (some (.int i t))) : Nonempty (CInt mg x i) := ⟨⟨t, PySem.W.mg_of X G aC⟩⟩
/-! ## list(range(n)) -/
section
variable {X : Cx} {T : XT} {W : WX} {a : Expr} {f : DE} {p p2 pos pos2 : Pos}
def dLRg1 (f : DE) : DE := fun s h => (f s h).bind fun x h1 => withS (intD x) fun i => chk (smallR i) (mkL (upD i.toNat 0) h1)
theorem se_lrg1 (hc : X.calm = true) (hm : X.mg "list" = none) (hm2 : X.mg "range" = none) (ha : SE X T W a f) (hg : Gl X "list" := by rfl) (hg2 : Gl X "range" := by rfl) (h1 : starEach [a] X.env = (false, eval a X.env) :: starEach [] X.env := by rfl)
    (h4 : starEach [.Call (.Name "range" p2) [a] [] pos2] X.env = (false, eval (.Call (.Name "range" p2) [a] [] pos2) X.env) :: starEach [] X.env := by rfl) : SE X T W (.Call (.Name "list" p) [.Call (.Name "range" p2) [a] [] pos2] [] pos) (dLRg1 f) :=
  ⟨PE.imp (pe_listRg hc hg hm (prg_1 hg2 hm2 ha.p h1) h4) fun σ H Q ⟨ρ, s, h, st, hr, q⟩ => tD_bind st hr q fun x h1 ρ1 H1 v g1 hr1 st1 r1 q1 => by
    obtain ⟨i, e1, q2⟩ := Post.withS q1
    obtain ⟨c, q2⟩ := q2.chk
    have c1 := Nat.le_of_ble_eq_true c
    refine ⟨i, intD_ok r1 e1, ⟨by omega, by omega, by omega, by omega, by omega⟩, ?_⟩
    have q3 : P1 (kwOf X) T (at_ W σ) ρ1 H1 (mkL (upD (i - 0).toNat 0) h1) Q := by rw [Int.sub_zero]; exact q2
    exact (mkL_ok hr1 (upD_rps (i - 0).toNat 0) q3).2⟩
end
end Nc
namespace Nc
open PySem PySem.Spec PySem.W PyProof.Rows L2
theorem ne_mk {K : PySem.W.Frag} {h : Heap} {mg : Str → Option Value} {x y : Str} {C D C' D' : Addr} (X : K.In h) (G : h.Ns mainGlobals mg) (gx : mg x = some (.ref C)) (gy : mg y = some (.ref D)) (aC : PySem.W.nsIn K mainGlobals x = some (some (.ref C'))) (aD : PySem.W.nsIn K mainGlobals y = some (some (.ref D')))
    (s : PySem.W.subIn K (.ref C') (.ref D') = some false) : PySem.W.subIn K (.ref C) (.ref D) = some false := by
  have e1 := gx.symm.trans (PySem.W.mg_of X G aC)
  have e2 := gy.symm.trans (PySem.W.mg_of X G aD)
  cases e1; cases e2
  exact s
theorem mt_ixA {X : Cx} (hu : X.A.units + 65 < cLine) : MtR X "list.index" (fun x xs H Q => rIndex X.K x xs H Q ∨ rIndexD X.K x xs H Q) := MtR.or mt_index (mt_indexD hu)
/-! ## a call whose result hangs on nothing in memory: it is reckoned with nothing in memory -/
section
variable {K : KW} {T : XT} {ρ : Rho} {H H' : Hp} {h : AH}
/-- all that stood stands -/
theorem keep_all (hr : HR K ρ H h) (k : ∀ a o, H a = some o → H' a = some o) : Grow ρ ρ H H' ∧ HR K ρ H' h := by
  have g : Grow ρ ρ H H' := ⟨fun _ _ e => e, fun n a e e' => (by rw [e] at e'; cases e'), fun a o e _ => k a o e, fun a o u e => k a _ e⟩
  have at_ : ∀ n a, ρ n = some a → H' a = H a := fun n a e => by
    have l := hr.live n a e
    cases z : H a with
    | none => rw [z] at l; exact l.elim
    | some o => exact k a o z
  refine ⟨g, ⟨hr.inj, hr.top, fun n a e => ?_, fun n c e => ?_⟩⟩
  · rw [at_ n a e]; exact hr.live n a e
  · obtain ⟨a, e1, q⟩ := hr.at_ n c e
    exact ⟨a, e1, q.ext (g.ext hr.live) (at_ n a e1)⟩
def Ftt : DF := fun ds h => match ds with
  | [] => .ok (.bl true) h
  | _ => .no
theorem okT_ok {r : R D} (h : okT r = true) : ∃ h1, r = .ok (.bl true) h1 := by
  cases r with
  | ok d h1 =>
    cases d with
    | bl b => cases b with
      | true => exact ⟨h1, rfl⟩
      | false => cases h
    | _ => cases h
  | ex _ _ => cases h
  | no => cases h
theorem ok_fresh {P : Program} {w : World} {K : PySem.W.Frag} {mg : Str → Option Value} {base : Heap} {T : XT} {k : Nat} {f : Addr} {fd : FuncData} {ps : List Str} {F : DF} (ok : FnOk P w K mg base (L2.CX P w) k f fd ps (spNc ⟨K, w, mg⟩ T F)) (e : okT (F [] []) = true) : FnOk P w K mg base (L2.CX P w) k f fd ps (spNc ⟨K, w, mg⟩ T Ftt) :=
  ok.imp fun vs H Q E ⟨ρ, h, ds, hr, r, p⟩ => by
    cases ds with
    | nil =>
      obtain ⟨h1, e1⟩ := okT_ok e
      refine ⟨fun _ => none, [], [], hr0, r, ?_⟩
      rw [e1]
      intro ρ' H' g hr' v rv
      obtain ⟨g2, hr2⟩ := keep_all hr fun a o z => g.keep a o z fun n z2 => by cases z2
      exact p ρ H' g2 hr2 v (by rw [rp_bl.mp rv]; exact rp_bl.mpr rfl)
    | cons _ _ => exact p.elim
end
end Nc
namespace Nc
open PySem PySem.Spec PySem.W PyProof.Rows L2
section
variable {X : Cx} {T : XT} {W : WX} {pos : Pos}
/-- a, b, c = x, y, z by plain local names -/
def gPar3 (i j l : Nat) (fa : DA) : DS := fun s h => bindS (fa s h) s fun ds h1 => match ds with
  | [x, y, z] => .nx (((s.set i (some x)).set j (some y)).set l (some z)) h1
  | _ => .no
theorem s_par3 {i j l : Nat} {x y z : Str} {a b c : Expr} {fa : DA} {px py pz pt : Pos} {kt k2 pt2} (hc : X.calm = true) (hN : X.N.Nodup) (hi : X.N[i]? = some x) (hj : X.N[j]? = some y) (hl : X.N[l]? = some z) (hij : i ≠ j) (hil : i ≠ l) (hjl : j ≠ l)
    (hx : X.env.scope.names.lookup x = some .local) (hy : X.env.scope.names.lookup y = some .local) (hz : X.env.scope.names.lookup z = some .local) (ha : SA X T W [a, b, c] fa)
    (hw : swappedStores [.Tuple [.Name x px, .Name y py, .Name z pz] kt pt] (.Tuple [a, b, c] k2 pt2) X.env = pure (some [x, y, z]))
    (hs : swapsWithSole [.Tuple [.Name x px, .Name y py, .Name z pz] kt pt] (.Tuple [a, b, c] k2 pt2) pos.line X.env = pure false := by rfl) :
    SS X T W (.Assign [.Tuple [.Name x px, .Name y py, .Name z pz] kt pt] (.Tuple [a, b, c] k2 pt2) pos) (gPar3 i j l fa) :=
  ⟨PS.imp (ps_par3 hc hN hi hj hl hij hil hjl hx hy hz ha.p hw hs) fun D σ H ⟨ρ, s, h, st, hr, q⟩ => tDA_bindS st hr q fun ds h1 ρ1 H1 vs g1 hr1 st1 r1 q1 => by
    match ds, q1, r1 with
    | [x, y, z], q1, r1 =>
      obtain ⟨v, r, rfl, rx, r1⟩ := Rps.cons_iff.mp r1
      obtain ⟨w, r, rfl, ry, r1⟩ := Rps.cons_iff.mp r1
      obtain ⟨u, r, rfl, rz, r1⟩ := Rps.cons_iff.mp r1
      have := Rps.nil_iff.mp r1; subst this
      exact ⟨v, w, u, rfl, q1 ρ1 H1 _ (Grow.refl _ _) hr1 (((st1.set rx).set ry).set rz)⟩
    | [], q1, _ => exact q1.elim
    | [_], q1, _ => exact q1.elim
    | [_, _], q1, _ => exact q1.elim
    | _ :: _ :: _ :: _ :: _, q1, _ => exact q1.elim⟩
end
end Nc
namespace Nc
open PySem PySem.Spec PySem.W PyProof.Rows L2
/-! ## t * 1, t * 0, () * n -/
theorem tuple_mul1 (l : Addr) (items : Array Value) (n : Nat) (dd : Option Addr) (sl : Array (Option Value)) (x : Int) (u : Tok) (c0 : (decide (x < -(2 ^ 63)) || decide (x ≥ 2 ^ 63)) = false) (c1 : (items.isEmpty || x == 1) = true) :
    Meets (Builtin.«tuple.__mul__» ⟨[.ref l, .int x u], []⟩) (fun _ R s => s.heap.get? l = some { cls := .type "tuple", dict := dd, data := .seq items n, slots := sl } ∧ R (.ok (.ret (Value.ref l))) s) :=
  .of_wp fun prog w A R s h => by
    obtain ⟨hp, g, d, tk, os⟩ := s
    obtain ⟨hl, h⟩ := h
    have f1 := AutoSeq1.idx_int
    wp_walk using wpAny_loadPart' hl
    repeat (first
      | (refine wpAny_ite_false (decide_eq_false (by rw [c0]; exact Bool.false_ne_true)) ?_; wp_walk using wpAny_loadPart' hl)
      | (refine wpAny_ite_true (decide_eq_true (by rw [c1])) ?_; wp_walk using wpAny_loadPart' hl))
    exact ⟨_, rfl, h⟩
theorem tuple_mul0 (l : Addr) (items : Array Value) (n : Nat) (dd : Option Addr) (sl : Array (Option Value)) (x : Int) (u : Tok) (c0 : (decide (x < -(2 ^ 63)) || decide (x ≥ 2 ^ 63)) = false) (c1 : (items.isEmpty || x == 1) = false) (c2 : (decide (x ≤ 0) || items.isEmpty) = true) :
    Meets (Builtin.«tuple.__mul__» ⟨[.ref l, .int x u], []⟩) (fun _ R s => s.heap.get? l = some { cls := .type "tuple", dict := dd, data := .seq items n, slots := sl } ∧
      R (.ok (.ret (Value.ref s.heap.objs.size))) { s with heap := s.heap.push { cls := Value.type "tuple", data := Data.seq #[] }, toks := s.toks }) :=
  .of_wp fun prog w A R s h => by
    obtain ⟨hp, g, d, tk, os⟩ := s
    obtain ⟨hl, h⟩ := h
    have f1 := AutoSeq1.idx_int
    wp_walk using wpAny_loadPart' hl
    repeat (first
      | (refine wpAny_ite_false (decide_eq_false (by rw [c0]; exact Bool.false_ne_true)) ?_; wp_walk using wpAny_loadPart' hl)
      | (refine wpAny_ite_false (decide_eq_false (by rw [c1]; exact Bool.false_ne_true)) ?_; wp_walk using wpAny_loadPart' hl)
      | (refine wpAny_ite_true (decide_eq_true (by rw [c2])) ?_; wp_walk using wpAny_loadPart' hl))
    exact ⟨_, rfl, h⟩
def rRep1 (K : PySem.W.Frag) : R2 := fun x y H Q => ∃ l k xs, x = .ref l ∧ y = .int k ∧ SqT K H l xs ∧ -1000 ≤ k ∧ k ≤ 1000 ∧ (((xs = [] ∨ k = 1) ∧ Q (.ref l) H) ∨ (xs ≠ [] ∧ k ≤ 0 ∧ ∀ p, H p = none → Q (.ref p) (upd H p (.tup []))))
section
variable {X : Cx} {T : XT} {W : WX} {a b : Expr} {f g : DE} {pos : Pos}
theorem op_rep1 : OpR X (binaryOp .Mult) (rRep1 X.K) := by
  intro pins s σ H x y v u Q I rx ry h
  obtain ⟨l, k, xs, rfl, rfl, hT, hk1, hk2, q⟩ := h
  cases rx
  obtain ⟨t, rfl⟩ := ry
  obtain ⟨its, r, ⟨⟨cls, dd, data, sl⟩, ho, hc, n, hd⟩, hs⟩ := I.tuple hT
  simp only at hc hd
  subst hc hd
  have hle : its.length = xs.length := r.length.symm
  have c0 : (decide (k < -(2 ^ 63)) || decide (k ≥ 2 ^ 63)) = false := by
    rw [decide_eq_false (by omega), decide_eq_false (by omega)] <;> rfl
  rcases q with ⟨hx, q⟩ | ⟨hne, hk, q⟩
  · have c1 : (its.toArray.isEmpty || k == 1) = true := by
      rcases hx with hx | hx
      · subst hx
        have : its = [] := List.length_eq_zero_iff.mp hle
        subst this; rfl
      · subst hx; simp
    refine wpAny_binaryOp_repeat_ref (T := "tuple") (U := "int") (by decide) ⟨_, ho, rfl⟩ (fun s' => typeIs_int s' k t) noFill_tuple_mul F.fills_int_mul F.slot_int_rmul repeat_tuple F.slot_int_index.lookup
      (call_meets F.slot_int_rmul (typeIs_int s k t) F.entry_int_rmul (F.args_int_rmul_2 _ _) (int_rmul_tuple k t l its.toArray n dd sl)
        ⟨ho, rfl, ⟨_, ho, rfl⟩, call_meets F.slot_tuple_mul ⟨_, ho, rfl⟩ F.entry_tuple_mul (F.args_tuple_mul_2 _ _) (tuple_mul1 l its.toArray n dd sl k t c0 c1) ⟨ho, ?_⟩⟩)
    exact ⟨.ref l, H, I, rfl, q⟩
  · have hi : its.toArray.isEmpty = false := by
      cases its with
      | nil => exact absurd (List.eq_nil_of_length_eq_zero hle.symm) hne
      | cons a b => rfl
    have c1 : (its.toArray.isEmpty || k == 1) = false := by
      rw [hi, Bool.false_or]
      exact beq_eq_false_iff_ne.mpr (by omega)
    have c2 : (decide (k ≤ 0) || its.toArray.isEmpty) = true := by
      rw [decide_eq_true hk]; rfl
    refine wpAny_binaryOp_repeat_ref (T := "tuple") (U := "int") (by decide) ⟨_, ho, rfl⟩ (fun s' => typeIs_int s' k t) noFill_tuple_mul F.fills_int_mul F.slot_int_rmul repeat_tuple F.slot_int_index.lookup
      (call_meets F.slot_int_rmul (typeIs_int s k t) F.entry_int_rmul (F.args_int_rmul_2 _ _) (int_rmul_tuple k t l its.toArray n dd sl)
        ⟨ho, rfl, ⟨_, ho, rfl⟩, call_meets F.slot_tuple_mul ⟨_, ho, rfl⟩ F.entry_tuple_mul (F.args_tuple_mul_2 _ _) (tuple_mul0 l its.toArray n dd sl k t c0 c1 c2) ⟨ho, ?_⟩⟩)
    exact ⟨.ref s.heap.objs.size, _, I.laid (t' := s.toks) (o := .tup []) (fun b ob q => Heap.get?_push_of_some _ q) (Nat.le_refl _) ⟨Nat.zero_le _, [], .nil, IsTup.new _ _⟩, rfl, q _ (I.hok.fresh (Nat.le_refl _))⟩
/-- * of any -/
def dMul2 (x y : D) (h : AH) : R D := match x with
  | .tup xs => match y with
    | .int k => chk (Nat.ble k.natAbs 1000) (match xs with
      | [] => .ok (.tup []) h
      | _ => match decide (k = 1) with
        | true => .ok (.tup xs) h
        | false => match decide (k ≤ 0) with
          | true => mkT [] h
          | false => dMul x y h)
    | _ => dMul x y h
  | _ => dMul x y h
theorem o_mul2 {K : KW} {T : XT} : O2 K T (fun x y H Q => (rI CMul (fun i j => .int (i * j)) x y H Q ∨ (rRep x y H Q ∨ rRepT K.k x y H Q)) ∨ rRep1 K.k x y H Q) dMul2 := fun E ρ H h x y v u Q hr rx ry p => by
  cases x with
  | tup xs =>
    cases y with
    | int k =>
      obtain ⟨c, p⟩ := Post.chk p
      have c := Nat.le_of_ble_eq_true c
      obtain ⟨a, vs, e1, s1, r1⟩ := rp_tup.mp rx
      have l := r1.length
      cases xs with
      | nil =>
        refine .inr ⟨a, k, vs, e1, rp_int.mp ry, s1, by omega, by omega, .inl ⟨.inl (Rps.nil_iff.mp r1), ?_⟩⟩
        have := p.here hr v rx
        rw [e1] at this; exact this
      | cons x0 xr =>
        cases c1 : decide (k = 1) with
        | true =>
          simp only [c1] at p
          refine .inr ⟨a, k, vs, e1, rp_int.mp ry, s1, by omega, by omega, .inl ⟨.inr (of_decide_eq_true c1), ?_⟩⟩
          have := p.here hr v rx
          rw [e1] at this; exact this
        | false =>
          cases c2 : decide (k ≤ 0) with
          | true =>
            simp only [c1, c2] at p
            refine .inr ⟨a, k, vs, e1, rp_int.mp ry, s1, by omega, by omega, .inr ⟨fun z => (by rw [z] at l; cases l), of_decide_eq_true c2, ?_⟩⟩
            exact (mkT_ok hr (Rps.nil_iff.mpr rfl) p).2
          | false =>
            simp only [c1, c2] at p
            exact .inl (o_mul (K := K) (T := T) E ρ H h _ _ v u Q hr rx ry p)
    | _ => exact .inl (o_mul (K := K) (T := T) E ρ H h _ _ v u Q hr rx ry p)
  | _ => exact .inl (o_mul (K := K) (T := T) E ρ H h _ _ v u Q hr rx ry p)
theorem se_mul2 (ha : SE X T W a f) (hb : SE X T W b g) : SE X T W (.BinOp a .Mult b pos) (dOp dMul2 f g) := se_op (OpR.or (OpR.or op_mul (OpR.or op_rep op_repT)) op_rep1) o_mul2 ha hb
end
end Nc
namespace Nc
open PySem PySem.Spec PyProof.Rows L2
/-! ## zip of a list and a tuple, either way about: one proof for all kinds of iterators -/
/-- a kind of iterators (St it l i: it stands at place i of l) over a kind of sequences -/
structure WK (St : Heap → Addr → Addr → Nat → Prop) (Sq : Heap → Addr → Array Value → Prop) (cn : String) : Prop where
  item : ∀ {prog : Program} {w : World} {A : Around} {E : Value → Shared → Prop} {s : Shared} {it l : Addr} {i : Nat} {items : Array Value} {x : Value} {Q : Value → Shared → Prop}, St s.heap it l i → Sq s.heap l items → items[i]? = some x →
    (∀ h', St h' it l (i + 1) → Heap.SameBut it s.heap h' → Q x { s with heap := h' }) → wpAny (model prog w) A (Builtin.SmallTypes.nextOf (.ref it)) Q E s
  stop : ∀ {prog : Program} {w : World} {A : Around} {E : Value → Shared → Prop} {s : Shared} {it l : Addr} {i : Nat} {items : Array Value} {Q : Value → Shared → Prop}, A.handled = none → St s.heap it l i → Sq s.heap l items → items[i]? = none →
    (∀ h' e, Heap.ExtBut it s.heap h' → (∃ o, h'.get? e = some o ∧ o.cls = .type "StopIteration") → E (.ref e) { s with heap := h' }) → wpAny (model prog w) A (Builtin.SmallTypes.nextOf (.ref it)) Q E s
  ats : ∀ {h h' : Heap} {it l : Addr} {i : Nat}, St h it l i → (∀ o, h.get? it = some o → h'.get? it = some o) → St h' it l i
  atq : ∀ {h h' : Heap} {l : Addr} {items : Array Value}, Sq h l items → (∀ o, h.get? l = some o → h'.get? l = some o) → Sq h' l items
  obj : ∀ {h : Heap} {it l : Addr} {i : Nat}, St h it l i → ∃ o, h.get? it = some o ∧ ∀ v, o.data ≠ .cell v
  lt : ∀ {h : Heap} {l : Addr} {items : Array Value}, Sq h l items → l < h.objs.size
  new : ∀ {h : Heap} {it l : Addr}, h.get? it = some { cls := .type cn, data := .fields #[.ref l, .int 0 0] } → St h it l 0
  iter : ∀ {prog : Program} {w : World} {A : Around} {E : Value → Shared → Prop} {s : Shared} {l : Addr} {items : Array Value} {Q : Value → Shared → Prop}, Sq s.heap l items → Q (.ref s.heap.objs.size) { s with heap := s.heap.push { cls := .type cn, data := .fields #[.ref l, .int 0 0] } } → wpAny (model prog w) A (pyIter (.ref l)) Q E s
theorem wk_list : WK Heap.IsListIter Heap.IsList "list_iterator" where
  item := fun a b c d => wpAny_nextOf_list_item a b c d
  stop := fun a b c d e => wpAny_nextOf_list_end a b c d e
  ats := fun x e => x.at e
  atq := fun ⟨o, ho, r⟩ e => ⟨o, e o ho, r⟩
  obj := fun ⟨o, e, _, d⟩ => ⟨o, e, fun v q => by rw [d] at q; cases q⟩
  lt := fun ⟨_, e, _⟩ => Heap.lt_size e
  new := fun e => ⟨_, e, rfl, rfl⟩
  iter := fun a b => wpAny_pyIter_list a b
theorem wk_tup : WK Heap.IsTupleIter Heap.IsTuple "tuple_iterator" where
  item := fun a b c d => RZ.nextOf_tuple_item a b c d
  stop := fun a b c d e => RZ.nextOf_tuple_end a b c d e
  ats := fun x e => x.at e
  atq := fun ⟨o, ho, r⟩ e => ⟨o, e o ho, r⟩
  obj := fun ⟨o, e, _, d⟩ => ⟨o, e, fun v q => by rw [d] at q; cases q⟩
  lt := fun ⟨_, e, _⟩ => Heap.lt_size e
  new := fun e => ⟨_, e, rfl, rfl⟩
  iter := fun a b => wpAny_pyIter_tuple a b
section
variable {prog : Program} {w : World} {A : Around} {E : Value → Shared → Prop} {s : Shared} {S1 S2 : Heap → Addr → Addr → Nat → Prop} {Q1 Q2 : Heap → Addr → Array Value → Prop} {c1 c2 : String}
  {z TI TO i1 i2 l1 l2 : Addr} {k1 k2 : Nat} {xs ys : Array Value} {a b : Value}
/-- all but these four stand -/
def But4 (z TO i1 i2 : Addr) (h h' : Heap) : Prop := ∀ c o, c ≠ z → c ≠ TO → c ≠ i1 → c ≠ i2 → h.get? c = some o → h'.get? c = some o
theorem zipK_item (K1 : WK S1 Q1 c1) (K2 : WK S2 Q2 c2) {x y : Value} {Q : Value → Shared → Prop} (D : ZipApart z TI TO i1 i2 l1 l2) (hz : IsZip s.heap z TI TO .none) (hTI : IsPair s.heap TI (.ref i1) (.ref i2)) (hTO : IsPair s.heap TO a b)
    (g1 : S1 s.heap i1 l1 k1) (g2 : S2 s.heap i2 l2 k2) (q1 : Q1 s.heap l1 xs) (q2 : Q2 s.heap l2 ys) (hx : xs[k1]? = some x) (hy : ys[k2]? = some y)
    (hQ : ∀ h', IsZip h' z TI TO (rawInt s.heap.objs.size) → IsPair h' TO x y → S1 h' i1 l1 (k1 + 1) → S2 h' i2 l2 (k2 + 1) → IsPair h' s.heap.objs.size x y → h'.objs.size = s.heap.objs.size + 1 → But4 z TO i1 i2 s.heap h' → Q (.ref s.heap.objs.size) { s with heap := h' }) :
    wpAny (model prog w) A (Builtin.«zip.__next__» ⟨[.ref z], []⟩) (fun fin s' => ∃ v, fin = .done (.ret v) ∧ Q v s') E s := by
  show wpAny _ _ (field (.ref z) 2 >>= _) _ _ _
  refine wpAny_bind (wpAny_field hz rfl (x := .bool false) rfl ?_)
  show wpAny _ _ (field (.ref z) 3 >>= _) _ _ _
  refine wpAny_bind (wpAny_field hz rfl (x := .ref TI) rfl (wpAny_bind (wpAny_seqItems hTI rfl ?_)))
  show wpAny _ _ (Builtin.SmallTypes.ownedTupleIsFree (.ref z) >>= _) _ _ _
  refine wpAny_bind ?_
  unfold Builtin.SmallTypes.ownedTupleIsFree
  refine wpAny_bind (wpAny_field hz rfl (x := .none) rfl (wpAny_pure ?_))
  simp only [if_true]
  refine wpAny_bind (wpAny_rule (wpAny_bind (wpAny_field hz rfl (x := .ref TO) rfl (wpAny_bind (wpAny_setField_rec hz (by simp) fun ha za sa => ?_)))))
  have za : IsZip ha z TI TO .ellipsis := za
  have ea := sa.extBut
  refine wpAny_bind ?_
  simp only [List.zipIdx_cons, List.zipIdx_nil, List.forIn_cons, List.forIn_nil]
  -- the first iterator's item
  refine wpAny_bind (wpAny_bind (wpAny_onRaise ?_))
  show wpAny _ _ (Builtin.SmallTypes.nextOf (.ref i1) >>= _) _ _ _
  refine wpAny_bind (K1.item (K1.ats g1 fun o e => ea _ o D.i1z e) (K1.atq q1 fun o e => ea _ o D.l1z e) hx fun hb gb sb => wpAny_pure ?_)
  have eb := sb.extBut
  have pb : IsPair hb TO a b := eb _ _ D.TOi1 (ea _ _ D.TOz hTO)
  refine wpAny_bind (wpAny_seqItems pb rfl ?_)
  refine wpAny_bind (wpAny_updateSeq_pair pb fun hc pc sc => wpAny_bind (wpAny_letGo (wpAny_pure ?_)))
  have pc : IsPair hc TO x b := pc
  have ec := sc.extBut
  -- the second one's
  refine wpAny_bind (wpAny_bind (wpAny_onRaise ?_))
  show wpAny _ _ (Builtin.SmallTypes.nextOf (.ref i2) >>= _) _ _ _
  refine wpAny_bind (K2.item (K2.ats g2 fun o e => ec _ o D.TOi2.symm (eb _ o D.i12.symm (ea _ o D.i2z e))) (K2.atq q2 fun o e => ec _ o D.l2TO (eb _ o D.l2i1 (ea _ o D.l2z e))) hy fun hd gd sd => wpAny_pure ?_)
  have ed := sd.extBut
  have pd : IsPair hd TO x b := ed _ _ D.TOi2 pc
  refine wpAny_bind (wpAny_seqItems pd rfl ?_)
  refine wpAny_bind (wpAny_updateSeq_pair pd fun he pe se => wpAny_bind (wpAny_letGo (wpAny_pure (wpAny_pure ?_))))
  have pe : IsPair he TO x y := pe
  have ee := se.extBut
  refine wpAny_bind (wpAny_seqItems pe rfl (wpAny_bind (wpAny_newTuple ?_)))
  have size : he.objs.size = s.heap.objs.size := by rw [se.1, sd.1, sc.1, sb.1, sa.1]
  have ze : IsZip he z TI TO .ellipsis := ee _ _ D.TOz.symm (ed _ _ D.i2z.symm (ec _ _ D.TOz.symm (eb _ _ D.i1z.symm za)))
  have ge : S1 he i1 l1 (k1 + 1) := K1.ats gb fun o e => ee _ o D.TOi1.symm (ed _ o D.i12 (ec _ o D.TOi1.symm e))
  have ge2 : S2 he i2 l2 (k2 + 1) := K2.ats gd fun o e => ee _ o D.TOi2.symm e
  have be : But4 z TO i1 i2 s.heap he := fun c o n1 n2 n3 n4 e => ee _ _ n2 (ed _ _ n4 (ec _ _ n2 (eb _ _ n3 (ea _ _ n1 e))))
  show wpAny _ _ (Builtin.SmallTypes.ownedTupleHandOut (.ref z) (.ref he.objs.size) >>= _) _ _ _
  refine wpAny_bind ?_
  unfold Builtin.SmallTypes.ownedTupleHandOut
  have zp : IsZip (he.push { cls := .type "tuple", data := .seq #[x, y] }) z TI TO .ellipsis := Heap.get?_push_of_some _ ze
  refine wpAny_bind (wpAny_setField_rec zp (by simp) fun hf zf sf => ?_)
  have zf : IsZip hf z TI TO (rawInt he.objs.size) := zf
  refine wpAny_setField_rec zf (by simp) fun hg zg sg => ?_
  have zg : IsZip hg z TI TO (rawInt he.objs.size) := zg
  have up : ∀ c o, c ≠ z → he.get? c = some o → hg.get? c = some o := fun c o n e => sg.extBut _ _ n (sf.extBut _ _ n (Heap.get?_push_of_some _ e))
  have zlt : z < he.objs.size := Heap.lt_size ze
  have tg : IsPair hg he.objs.size x y := sg.extBut _ _ (Nat.ne_of_gt zlt) (sf.extBut _ _ (Nat.ne_of_gt zlt) (Heap.get?_push_size _ rfl))
  have size2 : hg.objs.size = he.objs.size + 1 := by rw [sg.1, sf.1, Heap.size_push]
  refine wpAny_pure ⟨_, rfl, ?_⟩
  rw [size] at zg tg size2
  show Q (.ref he.objs.size) _
  rw [size]
  exact hQ hg zg (up _ _ D.TOz pe) (K1.ats ge fun o e => up _ o D.i1z e) (K2.ats ge2 fun o e => up _ o D.i2z e) tg size2 fun c o n1 n2 n3 n4 e => up c o n1 (be c o n1 n2 n3 n4 e)
theorem zipK_end (K1 : WK S1 Q1 c1) (K2 : WK S2 Q2 c2) {Q : PySem.Fin → Shared → Prop} (hh : A.handled = none) (D : ZipApart z TI TO i1 i2 l1 l2) (hz : IsZip s.heap z TI TO .none) (hTI : IsPair s.heap TI (.ref i1) (.ref i2)) (hTO : IsPair s.heap TO a b)
    (g1 : S1 s.heap i1 l1 k1) (g2 : S2 s.heap i2 l2 k2) (q1 : Q1 s.heap l1 xs) (q2 : Q2 s.heap l2 ys) (hend : xs[k1]? = none ∨ ys[k2]? = none)
    (hE : ∀ h' e, But4 z TO i1 i2 s.heap h' → (∃ o, h'.get? e = some o ∧ o.cls = .type "StopIteration") → E (.ref e) { s with heap := h' }) : wpAny (model prog w) A (Builtin.«zip.__next__» ⟨[.ref z], []⟩) Q E s := by
  show wpAny _ _ (field (.ref z) 2 >>= _) _ _ _
  refine wpAny_bind (wpAny_field hz rfl (x := .bool false) rfl ?_)
  show wpAny _ _ (field (.ref z) 3 >>= _) _ _ _
  refine wpAny_bind (wpAny_field hz rfl (x := .ref TI) rfl (wpAny_bind (wpAny_seqItems hTI rfl ?_)))
  show wpAny _ _ (Builtin.SmallTypes.ownedTupleIsFree (.ref z) >>= _) _ _ _
  refine wpAny_bind ?_
  unfold Builtin.SmallTypes.ownedTupleIsFree
  refine wpAny_bind (wpAny_field hz rfl (x := .none) rfl (wpAny_pure ?_))
  simp only [if_true]
  refine wpAny_bind (wpAny_rule (wpAny_bind (wpAny_field hz rfl (x := .ref TO) rfl (wpAny_bind (wpAny_setField_rec hz (by simp) fun ha za sa => ?_)))))
  have za : IsZip ha z TI TO .ellipsis := za
  have ea := sa.extBut
  refine wpAny_bind ?_
  simp only [List.zipIdx_cons, List.zipIdx_nil, List.forIn_cons, List.forIn_nil]
  refine wpAny_bind (wpAny_bind (wpAny_onRaise ?_))
  show wpAny _ _ (Builtin.SmallTypes.nextOf (.ref i1) >>= _) _ _ _
  have gone : ∀ {hk : Heap} {e : Addr}, IsZip hk z TI TO .ellipsis → (∃ o, hk.get? e = some o ∧ o.cls = .type "StopIteration") → e ≠ z := fun {hk e} hz ⟨o, ho, hc⟩ n => by
    subst n; rw [hz] at ho; cases ho; simp at hc
  cases hx : xs[k1]? with
  | none =>
    refine wpAny_bind (K1.stop hh (K1.ats g1 fun o e => ea _ o D.i1z e) (K1.atq q1 fun o e => ea _ o D.l1z e) hx fun hb e eb he => ?_)
    have zb : IsZip hb z TI TO .ellipsis := eb _ _ D.i1z.symm za
    obtain ⟨oe, hoe, hce⟩ := id he
    exact wpAny_setField_rec zb (by simp) fun hc _ sc => hE hc e (fun c o n1 _ n3 _ x => sc.extBut _ _ n1 (eb _ _ n3 (ea _ _ n1 x))) ⟨oe, sc.extBut _ _ (gone zb he) hoe, hce⟩
  | some x =>
    have hy : ys[k2]? = none := hend.resolve_left (by rw [hx]; simp)
    refine wpAny_bind (K1.item (K1.ats g1 fun o e => ea _ o D.i1z e) (K1.atq q1 fun o e => ea _ o D.l1z e) hx fun hb gb sb => wpAny_pure ?_)
    have eb := sb.extBut
    have pb : IsPair hb TO a b := eb _ _ D.TOi1 (ea _ _ D.TOz hTO)
    refine wpAny_bind (wpAny_seqItems pb rfl ?_)
    refine wpAny_bind (wpAny_updateSeq_pair pb fun hc pc sc => wpAny_bind (wpAny_letGo (wpAny_pure ?_)))
    have ec := sc.extBut
    refine wpAny_bind (wpAny_bind (wpAny_onRaise ?_))
    show wpAny _ _ (Builtin.SmallTypes.nextOf (.ref i2) >>= _) _ _ _
    refine wpAny_bind (K2.stop hh (K2.ats g2 fun o e => ec _ o D.TOi2.symm (eb _ o D.i12.symm (ea _ o D.i2z e))) (K2.atq q2 fun o e => ec _ o D.l2TO (eb _ o D.l2i1 (ea _ o D.l2z e))) hy fun hd e ed he => ?_)
    have zd : IsZip hd z TI TO .ellipsis := ed _ _ D.i2z.symm (ec _ _ D.TOz.symm (eb _ _ D.i1z.symm za))
    obtain ⟨oe, hoe, hce⟩ := id he
    exact wpAny_setField_rec zd (by simp) fun hf _ sf => hE hf e (fun c o n1 n2 n3 n4 x => sf.extBut _ _ n1 (ed _ _ n4 (ec _ _ n2 (eb _ _ n3 (ea _ _ n1 x))))) ⟨oe, sf.extBut _ _ (gone zd he) hoe, hce⟩
theorem nextK_item (K1 : WK S1 Q1 c1) (K2 : WK S2 Q2 c2) {x y : Value} {Q : Option Value → Shared → Prop} (D : ZipApart z TI TO i1 i2 l1 l2) (hz : IsZip s.heap z TI TO .none) (hTI : IsPair s.heap TI (.ref i1) (.ref i2)) (hTO : IsPair s.heap TO a b)
    (g1 : S1 s.heap i1 l1 k1) (g2 : S2 s.heap i2 l2 k2) (q1 : Q1 s.heap l1 xs) (q2 : Q2 s.heap l2 ys) (hx : xs[k1]? = some x) (hy : ys[k2]? = some y)
    (hQ : ∀ h', IsZip h' z TI TO (rawInt s.heap.objs.size) → IsPair h' TO x y → S1 h' i1 l1 (k1 + 1) → S2 h' i2 l2 (k2 + 1) → IsPair h' s.heap.objs.size x y → h'.objs.size = s.heap.objs.size + 1 → But4 z TO i1 i2 s.heap h' → Q (some (.ref s.heap.objs.size)) { s with heap := h' }) :
    wpAny (model prog w) A (pyNext (.ref z)) Q E s := by
  have hT : s.TypeIs (.ref z) "zip" := ⟨_, hz, rfl⟩
  unfold pyNext
  exact wpAny_bind (wpAny_attempt (wpAny_callSpecial?_slot (name := Str.ofString "__next__") hT F.slot_zip_next
    (wpAny_call_entry F.slot_zip_next hT F.entry_zip_next (zipK_item K1 K2 D hz hTI hTO g1 g2 q1 q2 hx hy fun h' a1 a2 a3 a4 a5 a6 a7 => wpAny_pure (hQ h' a1 a2 a3 a4 a5 a6 a7)) (F.args_zip_next_1 _))))
theorem nextK_end (K1 : WK S1 Q1 c1) (K2 : WK S2 Q2 c2) {Q : Option Value → Shared → Prop} (hh : A.handled = none) (D : ZipApart z TI TO i1 i2 l1 l2) (hz : IsZip s.heap z TI TO .none) (hTI : IsPair s.heap TI (.ref i1) (.ref i2)) (hTO : IsPair s.heap TO a b)
    (g1 : S1 s.heap i1 l1 k1) (g2 : S2 s.heap i2 l2 k2) (q1 : Q1 s.heap l1 xs) (q2 : Q2 s.heap l2 ys) (hend : xs[k1]? = none ∨ ys[k2]? = none)
    (hQ : ∀ h', But4 z TO i1 i2 s.heap h' → Q none { s with heap := h' }) : wpAny (model prog w) A (pyNext (.ref z)) Q E s := by
  have hT : s.TypeIs (.ref z) "zip" := ⟨_, hz, rfl⟩
  unfold pyNext
  refine wpAny_bind (wpAny_attempt (wpAny_callSpecial?_slot (name := Str.ofString "__next__") hT F.slot_zip_next
    (wpAny_call_entry F.slot_zip_next hT F.entry_zip_next (zipK_end hh (K1 := K1) (K2 := K2) D hz hTI hTO g1 g2 q1 q2 hend fun h' e hk ⟨o, ho, hc⟩ => ?_) (F.args_zip_next_1 _))))
  exact wpAny_bind (wpAny_isInstance (T := "StopIteration") (b := true) ⟨o, ho, hc⟩ isSubtype_stop (wpAny_pure (hQ _ hk)))
end
/-- zip(a, b): five objects more -/
theorem zipK_call {prog : Program} {w : World} {A : Around} {E : Value → Shared → Prop} {s : Shared} {S1 S2 : Heap → Addr → Addr → Nat → Prop} {Q1 Q2 : Heap → Addr → Array Value → Prop} {c1 c2 : String} (K1 : WK S1 Q1 c1) (K2 : WK S2 Q2 c2) {l1 l2 : Addr} {xs ys : Array Value} {Q : Value → Shared → Prop} (q1 : Q1 s.heap l1 xs) (q2 : Q2 s.heap l2 ys)
    (h : ∀ h', IsZip h' (s.heap.objs.size + 4) (s.heap.objs.size + 2) (s.heap.objs.size + 3) .none → IsPair h' (s.heap.objs.size + 2) (.ref s.heap.objs.size) (.ref (s.heap.objs.size + 1)) →
      IsPair h' (s.heap.objs.size + 3) .none .none → S1 h' s.heap.objs.size l1 0 → S2 h' (s.heap.objs.size + 1) l2 0 → (∀ c o, s.heap.get? c = some o → h'.get? c = some o) → Q (.ref (s.heap.objs.size + 4)) { s with heap := h' }) :
    wpAny (model prog w) A (call (.type "zip") [.ref l1, .ref l2]) Q E s := by
  let n := s.heap.objs.size
  let p1 := s.heap.push { cls := .type c1, data := .fields #[.ref l1, .int 0 0] }
  let p2 := p1.push { cls := .type c2, data := .fields #[.ref l2, .int 0 0] }
  let p3 := p2.push { cls := .type "tuple", data := .seq #[.ref n, .ref p1.objs.size] }
  let p4 := p3.push { cls := .type "tuple", data := .seq #[.none, .none] }
  let p5 := p4.push { cls := .type "zip", data := .fields #[.none, .bool false, .bool false, .ref p2.objs.size, .ref p3.objs.size] }
  have n1 : p1.objs.size = n + 1 := Heap.size_push ..
  have n2 : p2.objs.size = n + 2 := (Heap.size_push ..).trans (by rw [n1])
  have n3 : p3.objs.size = n + 3 := (Heap.size_push ..).trans (by rw [n2])
  have n4 : p4.objs.size = n + 4 := (Heap.size_push ..).trans (by rw [n3])
  have mt : Meets (Builtin.«zip.__new__» ⟨[.type "zip", .ref l1, .ref l2], []⟩) (fun _ R s' => s' = s ∧ R (.ok (.ret (.ref p4.objs.size))) { s with heap := p5 }) := .of_wp fun prog w A R s' h => by
    obtain ⟨rfl, h⟩ := h
    have hsub := sub_zip
    have it1 : ∀ {A : Around} {E : Value → Shared → Prop} {Q : Value → Shared → Prop}, Q (.ref s'.heap.objs.size) { s' with heap := p1 } → wpAny (model prog w) A (pyIter (.ref l1)) Q E s' := fun q => K1.iter q1 q
    have it2 : ∀ {A : Around} {E : Value → Shared → Prop} {Q : Value → Shared → Prop}, Q (.ref p1.objs.size) { s' with heap := p2 } → wpAny (model prog w) A (pyIter (.ref l2)) Q E { s' with heap := p1 } := fun q => K2.iter (K2.atq q2 fun o e => Heap.get?_push_of_some _ e) q
    obtain ⟨hp, g, d, tk, os⟩ := s'
    wp_walk using it1, it2
    exact ⟨_, rfl, h⟩
  refine callType_new F.called_zip (by decide) (F.typeCall_zip_2 _ _) (F.newCall_zip_2 _ _) (fun obj => F.args_object_init_3 obj _ _) F.entry_zip_new mt ⟨rfl, ?_⟩
  have h5 : p5.get? p4.objs.size = some _ := Heap.get?_push_size _ rfl
  have h4 : p5.get? p3.objs.size = some _ := Heap.get?_push_of_some _ (Heap.get?_push_size _ rfl)
  have h3 : p5.get? p2.objs.size = some _ := Heap.get?_push_of_some _ (Heap.get?_push_of_some _ (Heap.get?_push_size _ rfl))
  have h2 : p5.get? p1.objs.size = some _ := Heap.get?_push_of_some _ (Heap.get?_push_of_some _ (Heap.get?_push_of_some _ (Heap.get?_push_size _ rfl)))
  have h1 : p5.get? n = some _ := Heap.get?_push_of_some _ (Heap.get?_push_of_some _ (Heap.get?_push_of_some _ (Heap.get?_push_of_some _ (Heap.get?_push_size _ rfl))))
  show _ ∧ _
  rw [n2, n3, n4] at h5
  rw [n1, n2] at h3
  rw [n3] at h4
  rw [n1] at h2
  rw [n4]
  exact ⟨⟨_, h5, rfl⟩, h _ h5 h3 h4 (K1.new h1) (K2.new h2) fun c o x => Heap.get?_push_of_some _ (Heap.get?_push_of_some _ (Heap.get?_push_of_some _ (Heap.get?_push_of_some _ (Heap.get?_push_of_some _ x))))⟩
end Nc
namespace Nc
open PySem PySem.Spec PyProof.Rows L2
/-- how such a sequence is known by values -/
structure VK1 (Sq : Heap → Addr → Array Value → Prop) (SV : PySem.W.Frag → Hp → Addr → List V → Prop) : Prop where
  get : ∀ {X : Cx} {pins : List (Addr × Obj)} {σ : L2.St} {H : Hp} {s : Shared} {a : Addr} {xs : List V}, Inv X pins σ H s → SV X.K H a xs → ∃ its : List Value, Vals xs its ∧ Sq s.heap a its.toArray
  inj : ∀ {X : Cx} {pins : List (Addr × Obj)} {σ : L2.St} {H : Hp} {s : Shared} {a : Addr} {xs ys : List V}, Inv X pins σ H s → SV X.K H a xs → SV X.K H a ys → xs = ys
theorem vk_list : VK1 Heap.IsList SqL where
  get := fun I h => by
    obtain ⟨its, r, p, _⟩ := I.list h
    exact ⟨its, r, p.isList⟩
  inj := fun I h h' => I.list_inj h h'
theorem vk_tup : VK1 Heap.IsTuple SqT where
  get := fun I h => by
    obtain ⟨its, r, p, _⟩ := I.tuple h
    exact ⟨its, r, p⟩
  inj := fun I h h' => I.tuple_inj h h'
def ItzK (V1 V2 : PySem.W.Frag → Hp → Addr → List V → Prop) (K : PySem.W.Frag) (a b : Addr) : It :=
  ⟨fun i H => ∃ (xs ys : List V) (x y : V), V1 K H a xs ∧ V2 K H b ys ∧ xs[i]? = some x ∧ ys[i]? = some y,
    fun i H v H' => ∃ T x y, v = .ref T ∧ H T = none ∧ H' = upd H T (.tup [x, y]) ∧ (∀ xs, V1 K H a xs → xs[i]? = some x) ∧ ∀ ys, V2 K H b ys → ys[i]? = some y,
    fun i H => ∃ xs ys : List V, V1 K H a xs ∧ V2 K H b ys ∧ (xs.length ≤ i ∨ ys.length ≤ i)⟩
section
variable {P : Program} {w : World} {K : PySem.W.Frag} {elts : List Expr} {kk : Nat} {tpos : Pos} {a b z TI TO i1 i2 : Addr} {S1 S2 : Heap → Addr → Addr → Nat → Prop} {Q1 Q2 : Heap → Addr → Array Value → Prop} {c1 c2 : String} {V1 V2 : PySem.W.Frag → Hp → Addr → List V → Prop}
theorem turn_zipK (K1 : WK S1 Q1 c1) (K2 : WK S2 Q2 c2) (B1 : VK1 Q1 V1) (B2 : VK1 Q2 V2) (D : ZipApart z TI TO i1 i2 a b) :
    Turn P w K (.Tuple elts kk tpos) (ItzK V1 V2 K a b) [z, TI, TO, i1, i2] z (fun i h => IsZip h z TI TO .none ∧ IsPair h TI (.ref i1) (.ref i2) ∧ (∃ x y, IsPair h TO x y) ∧ S1 h i1 a i ∧ S2 h i2 b i) where
  mem := by simp
  obj := fun i h ⟨hz, hTI, ⟨x, y, hTO⟩, g1, g2⟩ c hc => by
    have e' : c = z ∨ c = TI ∨ c = TO ∨ c = i1 ∨ c = i2 := by simpa using hc
    rcases e' with rfl | rfl | rfl | rfl | rfl
    · exact ⟨_, hz, fun v q => nomatch q⟩
    · exact ⟨_, hTI, fun v q => nomatch q⟩
    · exact ⟨_, hTO, fun v q => nomatch q⟩
    · exact K1.obj g1
    · exact K2.obj g2
  keep := fun i h h' ⟨hz, hTI, ⟨x, y, hTO⟩, g1, g2⟩ k => ⟨k z (by simp) _ hz, k TI (by simp) _ hTI, ⟨x, y, k TO (by simp) _ hTO⟩, K1.ats g1 fun o q => k i1 (by simp) o q, K2.ats g2 fun o q => k i2 (by simp) o q⟩
  item := by
    intro X hP hw hK hc i pins s σ H E I hf ⟨hz, hTI, ⟨x0, y0, hTO⟩, g1, g2⟩ ⟨xs, ys, x, y, hqx, hqy, hx, hy⟩
    subst hP hw hK
    obtain ⟨its, rv, p1⟩ := B1.get I hqx
    obtain ⟨its2, rv2, p2⟩ := B2.get I hqy
    obtain ⟨u, hu, ru⟩ := rv.get hx
    obtain ⟨u2, hu2, ru2⟩ := rv2.get hy
    have zl : z < s.heap.objs.size := Heap.lt_size hz
    have lts : ∀ c ∈ [z, TI, TO, i1, i2], c < s.heap.objs.size := fun c hc => by
      have e' : c = z ∨ c = TI ∨ c = TO ∨ c = i1 ∨ c = i2 := by simpa using hc
      rcases e' with rfl | rfl | rfl | rfl | rfl
      · exact zl
      · exact Heap.lt_size hTI
      · exact Heap.lt_size hTO
      · obtain ⟨_, e, _⟩ := K1.obj g1; exact Heap.lt_size e
      · obtain ⟨_, e, _⟩ := K2.obj g2; exact Heap.lt_size e
    refine nextK_item K1 K2 D hz hTI hTO g1 g2 p1 p2 (x := u) (y := u2) (by simpa using hu) (by simpa using hu2) fun h' z' TO' g1' g2' hT hsz hk => ?_
    refine ⟨_, rfl, wpAny_letOwnedTupleGo_zip (s := { s with heap := h' }) z' fun h'' z'' sb => ?_⟩
    have kk : ∀ c o, c ∉ [z, TI, TO, i1, i2] → s.heap.get? c = some o → h''.get? c = some o := fun c o nc q =>
      (sb.2 c fun e => nc (by simp [e])).trans (hk c o (fun e => nc (by simp [e])) (fun e => nc (by simp [e])) (fun e => nc (by simp [e])) (fun e => nc (by simp [e])) q)
    have new : ObjOk X.prog X.w (upd H s.heap.objs.size (.tup [x, y])) h'' s.heap.objs.size (.tup [x, y]) :=
      ⟨by show 2 ≤ sizeLine; decide, [u, u2], .cons ru (.cons ru2 .nil), ⟨_, (sb.2 _ (Nat.ne_of_gt zl)).trans hT, rfl, _, rfl⟩⟩
    have I1 := I.turnedNew (t' := s.toks) (ch := [z, TI, TO, i1, i2]) kk hf (Nat.le_refl _) new
    refine ⟨.ref s.heap.objs.size, _, I1, rfl, ⟨_, x, y, rfl, I.hok.fresh (Nat.le_refl _), rfl, fun l hl => by rw [B1.inj I hl hqx]; exact hx, fun l hl => by rw [B2.inj I hl hqy]; exact hy⟩, ⟨z'', ?_, ⟨u, u2, (sb.2 _ D.TOz).trans TO'⟩, K1.ats g1' fun o q => (sb.2 _ D.i1z).trans q, K2.ats g2' fun o q => (sb.2 _ D.i2z).trans q⟩, fun c hc => ?_⟩
    · exact (sb.2 _ D.TIz).trans (hk _ _ D.TIz D.TITO D.TIi1 D.TIi2 hTI)
    · rw [upd_ne (Nat.ne_of_lt (lts c hc))]
      exact (hf c hc).1
  done := by
    intro X hP hw hK hc i pins s σ H E I hf ⟨hz, hTI, ⟨x0, y0, hTO⟩, g1, g2⟩ ⟨xs, ys, hqx, hqy, hend⟩
    subst hP hw hK
    obtain ⟨its, rv, p1⟩ := B1.get I hqx
    obtain ⟨its2, rv2, p2⟩ := B2.get I hqy
    have l1 := rv.length
    have l2 := rv2.length
    have he : its.toArray[i]? = none ∨ its2.toArray[i]? = none := hend.imp (fun q => by simp; omega) fun q => by simp; omega
    exact nextK_end K1 K2 (I.ok.hd hc) D hz hTI hTO g1 g2 p1 p2 he fun h' hk => ⟨rfl, I.turnedL (t' := s.toks) (ch := [z, TI, TO, i1, i2]) (fun c o nc q => hk c o (fun e => nc (by simp [e])) (fun e => nc (by simp [e])) (fun e => nc (by simp [e])) (fun e => nc (by simp [e])) q) hf⟩
  self := fun A i s Q E st h => wpAny_pyIter_zip st.1 h
def iZipK (V1 V2 : PySem.W.Frag → Hp → Addr → List V → Prop) (K : PySem.W.Frag) (ta : TA) : L2.TI := fun σ H R => ta σ H fun vs H1 => ∃ a b xs ys, vs = [.ref a, .ref b] ∧ V1 K H1 a xs ∧ V2 K H1 b ys ∧ R (ItzK V1 V2 K a b) H1
theorem pi_zipK {X : Cx} {e e2 : Expr} {ta : TA} {p pos tpos : Pos} (K1 : WK S1 Q1 c1) (K2 : WK S2 Q2 c2) (B1 : VK1 Q1 V1) (B2 : VK1 Q2 V2) (hg : Gl X "zip") (hm : X.mg "zip" = none) (ha : PA X [e, e2] ta)
    (hs : starEach [e, e2] X.env = (false, eval e X.env) :: starEach [e2] X.env) (hpl : (backTo pos (starEach [e2] X.env)).any (·.1) = false) : PI X (.Tuple elts kk tpos) (.Call (.Name "zip" p) [e, e2] [] pos) (iZipK V1 V2 X.K ta) := by
  refine ⟨fun pins s σ H R I h => ?_⟩
  refine Call_ (ld_blt I hg hm PyProof.Rows.boot_zip (PyProof.Rows.callWith_type1 (thn (ha.run pos pins s σ H _ I h) fun us s1 ⟨vs, H1, I1, r1, a, b, xs, ys, ex, hqx, hqy, q⟩ => ?_) hs hpl))
  subst ex
  obtain ⟨v, u, rfl, r, r'⟩ : ∃ v u, us = [v, u] ∧ RelV (.ref a) v ∧ RelV (.ref b) u := by
    cases r1 with
    | cons r rr => cases rr with
      | cons r' rr => cases rr; exact ⟨_, _, rfl, r, r'⟩
  cases r
  cases r'
  obtain ⟨its, _, p1⟩ := B1.get I1 hqx
  obtain ⟨its2, _, p2⟩ := B2.get I1 hqy
  refine zipK_call K1 K2 p1 p2 fun h' hz hTI hTO g1 g2 hk => wpAny_pyIter_zip hz ?_
  refine ⟨s1.heap.objs.size + 4, [s1.heap.objs.size + 4, s1.heap.objs.size + 2, s1.heap.objs.size + 3, s1.heap.objs.size, s1.heap.objs.size + 1], _, _, H1, rfl, I1.kept (t' := s1.toks) hk, turn_zipK K1 K2 B1 B2 (PySem.W.ktu_apart s1.heap.objs.size a b (K1.lt p1) (K2.lt p2)), ⟨hz, hTI, ⟨_, _, hTO⟩, g1, g2⟩, fun c hc => ?_, q⟩
  have le : s1.heap.objs.size ≤ c := by
    have e' : c = s1.heap.objs.size + 4 ∨ c = s1.heap.objs.size + 2 ∨ c = s1.heap.objs.size + 3 ∨ c = s1.heap.objs.size ∨ c = s1.heap.objs.size + 1 := by simpa using hc
    rcases e' with e | e | e | e | e <;> rw [e] <;> first | exact Nat.le_add_right _ _ | exact Nat.le_refl _
  exact I1.fpOk le (I1.hok.fresh le)
end
section
variable {K : KW} {ρ : Rho} {H : Hp} {a b : Addr}
/-- one of both is a list, which may change: its items as they stand -/
theorem itR_zipLT {m : Nat} {es : List D} {ys : List V} (e : ρ m = some a) (s2 : SqT K.k H b ys) (r2 : Rps K ρ H es ys) : ItR K ρ H (.zip (.cell m) (.tup es)) (ItzK SqL SqT K.k a b) := fun ρ' H' h' g hr i => by
  have e' := g.rho _ _ e
  have s2' := g.tup b ys s2
  have r2' := Rps.ext g es r2
  cases q : lstAt m h' with
  | none => rw [show itemAt (.zip (.cell m) (.tup es)) i h' = none by simp [itemAt, seqOf, q]]; trivial
  | some ds =>
    obtain ⟨b1, xs, f1, f2, r, _⟩ := lstAt_ok hr q
    rw [e'] at f1; cases f1
    have s' : SqL K.k H' a xs := .inl (.inl f2)
    cases z : ds[i]? with
    | none =>
      rw [show itemAt (.zip (.cell m) (.tup es)) i h' = some none by simp [itemAt, seqOf, q, z]]
      exact ⟨xs, ys, s', s2', .inl (by rw [← r.length]; exact List.getElem?_eq_none_iff.mp z)⟩
    | some d =>
      cases z2 : es[i]? with
      | none =>
        rw [show itemAt (.zip (.cell m) (.tup es)) i h' = some none by simp [itemAt, seqOf, q, z, z2]]
        exact ⟨xs, ys, s', s2', .inr (by rw [← r2'.length]; exact List.getElem?_eq_none_iff.mp z2)⟩
      | some c =>
        rw [show itemAt (.zip (.cell m) (.tup es)) i h' = some (some (.tup [d, c])) by simp [itemAt, seqOf, q, z, z2]]
        obtain ⟨v, e3, p1⟩ := r.get z
        obtain ⟨u, e4, p2⟩ := r2'.get z2
        refine ⟨⟨xs, ys, v, u, s', s2', e3, e4⟩, fun x H'' y => ?_⟩
        obtain ⟨p, w, w2, rfl, np, rfl, y, y2⟩ := y
        have := y xs s'
        rw [e3] at this; cases this
        have := y2 ys s2'
        rw [e4] at this; cases this
        exact pair_new hr np p1 p2
theorem itR_zipTL {m : Nat} {ds : List D} {xs : List V} (s1 : SqT K.k H a xs) (r1 : Rps K ρ H ds xs) (e : ρ m = some b) : ItR K ρ H (.zip (.tup ds) (.cell m)) (ItzK SqT SqL K.k a b) := fun ρ' H' h' g hr i => by
  have e' := g.rho _ _ e
  have s1' := g.tup a xs s1
  have r1' := Rps.ext g ds r1
  cases q : lstAt m h' with
  | none => rw [show itemAt (.zip (.tup ds) (.cell m)) i h' = none by simp [itemAt, seqOf, q]]; trivial
  | some es =>
    obtain ⟨b1, ys, f1, f2, r, _⟩ := lstAt_ok hr q
    rw [e'] at f1; cases f1
    have s' : SqL K.k H' b ys := .inl (.inl f2)
    cases z : ds[i]? with
    | none =>
      rw [show itemAt (.zip (.tup ds) (.cell m)) i h' = some none by simp [itemAt, seqOf, q, z]]
      exact ⟨xs, ys, s1', s', .inl (by rw [← r1'.length]; exact List.getElem?_eq_none_iff.mp z)⟩
    | some d =>
      cases z2 : es[i]? with
      | none =>
        rw [show itemAt (.zip (.tup ds) (.cell m)) i h' = some none by simp [itemAt, seqOf, q, z, z2]]
        exact ⟨xs, ys, s1', s', .inr (by rw [← r.length]; exact List.getElem?_eq_none_iff.mp z2)⟩
      | some c =>
        rw [show itemAt (.zip (.tup ds) (.cell m)) i h' = some (some (.tup [d, c])) by simp [itemAt, seqOf, q, z, z2]]
        obtain ⟨v, e3, p1⟩ := r1'.get z
        obtain ⟨u, e4, p2⟩ := r.get z2
        refine ⟨⟨xs, ys, v, u, s1', s', e3, e4⟩, fun x H'' y => ?_⟩
        obtain ⟨p, w, w2, rfl, np, rfl, y, y2⟩ := y
        have := y xs s1'
        rw [e3] at this; cases this
        have := y2 ys s'
        rw [e4] at this; cases this
        exact pair_new hr np p1 p2
end
section
variable {X : Cx} {T : XT} {W : WX} {p pos tpos : Pos}
def iZip2 (fa : DA) : DI := fun s h => (fa s h).bind fun ds h1 => withS (arg2 ds) fun d => chk (((isTup d.1 && isTup d.2) || (!isTup d.1 && !isTup d.2 && isSq d.1 h1 && isSq d.2 h1)) || ((isTup d.1 && !isTup d.2 && isSq d.2 h1) || (!isTup d.1 && isTup d.2 && isSq d.1 h1))) (.ok (.zip d.1 d.2) h1)
theorem si_zip2 {e e2 : Expr} {fa : DA} {els : List Expr} {kk : Nat} (hg : Gl X "zip") (hm : X.mg "zip" = none) (ha : SA X T W [e, e2] fa)
    (hs : starEach [e, e2] X.env = (false, eval e X.env) :: starEach [e2] X.env := by rfl) (hs2 : (backTo pos (starEach [e2] X.env)).any (·.1) = false := by rfl) :
    SI X T W (.Tuple els kk tpos) (.Call (.Name "zip" p) [e, e2] [] pos) (iZip2 fa) :=
  ⟨PI.imp (PI.or (si_zip (T := T) (W := W) hg hm ha hs hs2).p (PI.or (pi_zipK wk_list wk_tup vk_list vk_tup hg hm ha.p hs hs2) (pi_zipK wk_tup wk_list vk_tup vk_list hg hm ha.p hs hs2))) fun σ H Q ⟨ρ, s, h, st, hr, q⟩ => by
    have q : Post (kwOf X) T (at_ W σ) ρ H ((fa s h).bind fun ds h1 => withS (arg2 ds) fun d => chk (((isTup d.1 && isTup d.2) || (!isTup d.1 && !isTup d.2 && isSq d.1 h1 && isSq d.2 h1)) || ((isTup d.1 && !isTup d.2 && isSq d.2 h1) || (!isTup d.1 && isTup d.2 && isSq d.1 h1))) (.ok (.zip d.1 d.2) h1)) fun it _ ρ' H' => ∀ J, ItR (kwOf X) ρ' H' it J → Q J H' := q
    cases z : fa s h with
    | no => rw [z] at q; exact q.elim
    | ex e h1 => exact .inl ⟨ρ, s, h, st, hr, by unfold iZipD; rw [z]; rw [z] at q; exact q⟩
    | ok ds h1 =>
      rw [z] at q
      obtain ⟨d, e1, q⟩ := Post.withS (o := arg2 ds) q
      obtain ⟨c, q⟩ := q.chk
      cases c1 : ((isTup d.1 && isTup d.2) || (!isTup d.1 && !isTup d.2 && isSq d.1 h1 && isSq d.2 h1)) with
      | true =>
        refine .inl ⟨ρ, s, h, st, hr, ?_⟩
        unfold iZipD
        rw [z]
        show Post _ _ _ _ _ (withS (arg2 ds) _) _
        rw [e1]
        show Post _ _ _ _ _ (chk _ _) _
        rw [c1]
        exact q
      | false =>
        rw [c1, Bool.false_or, Bool.or_eq_true] at c
        obtain ⟨x, y⟩ := d
        simp only [Bool.and_eq_true, Bool.not_eq_true'] at c
        rcases c with ⟨⟨d1, d2⟩, d3⟩ | ⟨⟨d1, d2⟩, d3⟩
        · refine .inr (.inr ⟨ρ, s, h, st, hr, ?_⟩)
          rw [z]
          intro ρ1 H1 g1 hr1 vs r1
          obtain ⟨v, u, rfl, rv, ru⟩ := arg2_ok r1 e1
          cases x <;> first | cases d1 | skip
          cases y with
          | cell n =>
            obtain ⟨a, xs, rfl, s1, p1⟩ := rp_tup.mp rv
            obtain ⟨b, rfl, e3⟩ := rp_cell.mp ru
            obtain ⟨b', ys, f3, f4⟩ := isSq_cell hr1 d3
            rw [e3] at f3; cases f3
            exact ⟨a, b, xs, ys, rfl, s1, .inl (.inl f4), q ρ1 H1 g1 hr1 _ (itR_zipTL s1 p1 e3)⟩
          | tup _ => cases d2
          | frl _ => cases d3
          | _ => cases d3
        · refine .inr (.inl ⟨ρ, s, h, st, hr, ?_⟩)
          rw [z]
          intro ρ1 H1 g1 hr1 vs r1
          obtain ⟨v, u, rfl, rv, ru⟩ := arg2_ok r1 e1
          cases y <;> first | cases d2 | skip
          cases x with
          | cell n =>
            obtain ⟨b, ys, rfl, s2, p2⟩ := rp_tup.mp ru
            obtain ⟨a, rfl, e3⟩ := rp_cell.mp rv
            obtain ⟨a', xs, f3, f4⟩ := isSq_cell hr1 d3
            rw [e3] at f3; cases f3
            exact ⟨a, b, xs, ys, rfl, .inl (.inl f4), s2, q ρ1 H1 g1 hr1 _ (itR_zipLT e3 s2 p2)⟩
          | tup _ => cases d1
          | frl _ => cases d3
          | _ => cases d3⟩
end
end Nc
namespace Nc
open PySem PySem.Spec PySem.W PyProof.Rows L2
/-! ## own classes: instances in the data layer -/
theorem Post.grow {α : Type} {K : KW} {T : XT} {E : XK} {ρ ρ' : Rho} {H H' : Hp} {r : R α} {q : α → AH → Rho → Hp → Prop} (l : ∀ n a, ρ' n = some a → Lv (H' a)) (g : Grow ρ ρ' H H') (p : Post K T E ρ H r q) : Post K T E ρ' H' r q := by
  cases r with
  | ok a h => exact fun ρ2 H2 g2 hr2 => p ρ2 H2 (g.trans l g2) hr2
  | ex e h => exact fun ρ2 H2 c d g2 hr2 x => p ρ2 H2 c d (g.trans l g2) hr2 x
  | no => exact p
def strEq (a b : Str) : Bool := decide (a = b)
theorem strEq_ok {a b : Str} (h : strEq a b = true) : a = b := of_decide_eq_true h
/-- the instance in a cell -/
def objAt (n : Nat) (h : AH) : Option (Str × List (Str × D)) := match AH.get n h with
  | some (.obj c fs) => some (c, fs)
  | _ => none
/-- an attribute's value -/
def lookF (f : Str) : List (Str × D) → Option D
  | [] => none
  | (g, v) :: r => match strEq g f with
    | true => some v
    | false => lookF f r
/-- an attribute is set -/
def putFD (f : Str) (v : D) : List (Str × D) → List (Str × D)
  | [] => [(f, v)]
  | (g, x) :: r => match strEq g f with
    | true => (g, v) :: r
    | false => (g, x) :: putFD f v r
section
variable {K : KW} {ρ : Rho} {H : Hp} {h : AH}
theorem objAt_ok {n : Nat} {c : Str} {fs : List (Str × D)} (hr : HR K ρ H h) (e : objAt n h = some (c, fs)) :
    ∃ a C dx vfs, ρ n = some a ∧ H a = some (.ins C dx vfs) ∧ K.mg c = some (.ref C) ∧ Paired (FEnt K ρ H) fs vfs ∧ AH.get n h = some (.obj c fs) := by
  unfold objAt at e
  cases q : AH.get n h with
  | none => rw [q] at e; cases e
  | some x =>
    rw [q] at e
    cases x with
    | obj c' fs' =>
      cases e
      obtain ⟨a, e1, C, dx, vfs, e2, e3, e4⟩ := hr.at_ n _ q
      exact ⟨a, C, dx, vfs, e1, e2, e3, e4, rfl⟩
    | lst _ => cases e
    | dict _ _ => cases e
    | junk => cases e
    | urn _ => cases e
theorem lookup_step (f g : Str) (v : V) (r : List (Str × V)) : List.lookup f ((g, v) :: r) = if g = f then some v else List.lookup f r := by
  by_cases e : g = f
  · subst e; simp [List.lookup]
  · have : (f == g) = false := by
      cases z : f == g
      · rfl
      · exact absurd (beq_iff_eq.mp z).symm e
    simp [List.lookup, this, e]
theorem lookF_ok {f : Str} : ∀ {fs : List (Str × D)} {vfs : List (Str × V)} {d : D}, Paired (FEnt K ρ H) fs vfs → lookF f fs = some d → ∃ v, vfs.lookup f = some v ∧ Rp K ρ H d v
  | _, _, _, .nil, e => by cases e
  | (g, x) :: fs, (g', v) :: vfs, d, .cons r t, e => by
    obtain ⟨e1, e2⟩ := r
    have e1 : g = g' := e1
    subst e1
    rw [lookup_step]
    unfold lookF at e
    cases z : strEq g f with
    | true =>
      simp only [z] at e; cases e
      rw [if_pos (strEq_ok z)]
      exact ⟨v, rfl, e2⟩
    | false =>
      simp only [z] at e
      rw [if_neg (of_decide_eq_false z)]
      exact lookF_ok t e
theorem lookF_none {f : Str} : ∀ {fs : List (Str × D)} {vfs : List (Str × V)}, Paired (FEnt K ρ H) fs vfs → lookF f fs = none → vfs.lookup f = none
  | _, _, .nil, _ => rfl
  | (g, x) :: fs, (g', v) :: vfs, .cons r t, e => by
    obtain ⟨e1, e2⟩ := r
    have e1 : g = g' := e1
    subst e1
    rw [lookup_step]
    unfold lookF at e
    cases z : strEq g f with
    | true => simp only [z] at e; cases e
    | false =>
      simp only [z] at e
      rw [if_neg (of_decide_eq_false z)]
      exact lookF_none t e
theorem putFD_ok {f : Str} {d : D} {v : V} (rv : Rp K ρ H d v) : ∀ {fs : List (Str × D)} {vfs : List (Str × V)}, Paired (FEnt K ρ H) fs vfs → Paired (FEnt K ρ H) (putFD f d fs) (putF f v vfs)
  | _, _, .nil => .cons ⟨rfl, rv⟩ .nil
  | (g, x) :: fs, (g', u) :: vfs, .cons r t => by
    obtain ⟨e1, e2⟩ := r
    have e1 : g = g' := e1
    subst e1
    unfold putFD putF
    cases z : strEq g f with
    | true => rw [if_pos (strEq_ok z)]; exact .cons ⟨rfl, rv⟩ t
    | false => rw [if_neg (of_decide_eq_false z)]; exact .cons ⟨rfl, e2⟩ (putFD_ok rv t)
theorem paired_len2 {α β : Type} {F : α → β → Prop} : ∀ {l : List α} {r : List β}, Paired F l r → l.length = r.length
  | _, _, .nil => rfl
  | _, _, .cons _ t => congrArg (· + 1) (paired_len2 t)
end
/-- an own class at the top -/
structure ClsD (K : PySem.W.Frag) (mg : Str → Option Value) (c : Str) where
  C : Addr
  cl : Cls K C
  gl : mg c = some (.ref C)
/-- .. that may be made -/
structure MakD (K : PySem.W.Frag) (mg : Str → Option Value) (c q : Str) (st : Stmt) (ps : List Str) extends ClsD K mg c where
  f : Addr
  fd : FuncData
  mkC : Mk K C f
  F : Fun K "__init__" q st f fd
  bi : Binds K fd ps []
/-- a method -/
structure MetD (K : PySem.W.Frag) (C : Addr) (m q : Str) (st : Stmt) (ps : List Str) where
  f : Addr
  fd : FuncData
  me : Meth K C m f
  F : Fun K m q st f fd
  bi : Binds K fd ps []
/-- the k-th def of a class -/
def clsDef (k : Nat) : Stmt → Stmt
  | .ClassDef _ _ _ body _ _ _ _ _ _ _ => body.getD k (.Pass ⟨0, 0, 0, 0⟩)
  | s => s
def withObj {α : Type} (c : Str) (d : D) (h : AH) (k : Nat → List (Str × D) → R α) : R α := match d with
  | .cell n => withS (objAt n h) fun o => chk (strEq o.1 c) (k n o.2)
  | _ => .no
theorem withObj_ok {α : Type} {K : KW} {T : XT} {E : XK} {ρ : Rho} {H : Hp} {h : AH} {c : Str} {C : Addr} {d : D} {v : V} {k : Nat → List (Str × D) → R α} {q : α → AH → Rho → Hp → Prop} (hm : K.mg c = some (.ref C)) (hr : HR K ρ H h) (rv : Rp K ρ H d v) (p : Post K T E ρ H (withObj c d h k) q) :
    ∃ n a dx fs vfs, v = .ref a ∧ ρ n = some a ∧ H a = some (.ins C dx vfs) ∧ Paired (FEnt K ρ H) fs vfs ∧ AH.get n h = some (.obj c fs) ∧ Post K T E ρ H (k n fs) q := by
  unfold withObj at p
  cases d with
  | cell n =>
    obtain ⟨⟨c', fs⟩, e, p1⟩ := Post.withS p
    obtain ⟨z, p2⟩ := p1.chk
    clear p p1
    have z : c' = c := strEq_ok z
    subst z
    obtain ⟨a, C', dx, vfs, e1, e2, e3, e4, e5⟩ := objAt_ok hr e
    have := hm.symm.trans e3
    cases this
    obtain ⟨b, rfl, e6⟩ := rp_cell.mp rv
    rw [e1] at e6; cases e6
    exact ⟨n, a, dx, fs, vfs, rfl, e1, e2, e4, e5, p2⟩
  | _ => exact p.elim
section
variable {X : Cx} {T : XT} {W : WX} {o e value : Expr} {f c m x : Str} {pos pos' p apos : Pos} {fo g : DE} {C : Addr}
/-! ### o.f -/
def dFld (c f : Str) (fo : DE) : DE := fun s h => (fo s h).bind fun d h1 => withObj c d h1 fun _ fs => withS (lookF f fs) fun v => .ok v h1
theorem se_fld (cd : ClsD X.K X.mg c) (hn : NoAttr X.K cd.C f) (ho : SE X T W o fo) (hb : attributeBase o f X.env (eval o X.env) = eval o X.env := by rfl) : SE X T W (.Attribute o f pos) (dFld c f fo) :=
  ⟨PE.imp (pe_fld ho.p hb) fun σ H Q ⟨ρ, s, h, st, hr, q⟩ => tD_bind st hr q fun d h1 ρ1 H1 v g1 hr1 st1 r1 q1 => by
    obtain ⟨n, a, dx, fs, vfs, rfl, e1, e2, e3, e4, q1⟩ := withObj_ok (K := kwOf X) cd.gl hr1 r1 q1
    obtain ⟨d2, e5, q1⟩ := Post.withS q1
    obtain ⟨v2, e6, r2⟩ := lookF_ok e3 e5
    exact ⟨a, cd.C, dx, vfs, v2, rfl, e2, cd.cl, hn, e6, q1.here hr1 v2 r2⟩⟩
/-! ### o.f = value -/
def gSetF (c f : Str) (fo fv : DE) : DS := fun s h => bindS (fv s h) s fun y h1 => bindS (fo s h1) s fun d h2 => bindS (withObj c d h2 fun n fs => chk (Nat.blt fs.length 1000) (.ok (n, fs) h2)) s fun nf h3 => .nx s (h3.put nf.1 (.obj c (putFD f y nf.2)))
theorem s_fld (cd : ClsD X.K X.mg c) (hn : NoAttr X.K cd.C f) (ho : SE X T W o fo) (hv : SE X T W value g) (hs : swapsWith value (some (.Attribute o f pos')) pos.line X.env = pure false := by rfl) : SS X T W (.Assign [.Attribute o f pos'] value pos) (gSetF c f fo g) :=
  ⟨PS.imp (ps_fld ho.p hv.p hs) fun Z σ H ⟨ρ, s, h, st, hr, q⟩ => tD_bindS st hr q fun y h1 ρ1 H1 w g1 hr1 st1 r1 q1 => tD_bindS st1 hr1 q1 fun d h2 ρ2 H2 v g2 hr2 st2 r2 q2 => by
    have q3 := PostS.bind hr2 st2 q2
    obtain ⟨n, a, dx, fs, vfs, rfl, e1, e2, e3, e4, q4⟩ := withObj_ok (K := kwOf X) cd.gl hr2 r2 q3
    obtain ⟨z, q5⟩ := q4.chk
    have z := Nat.le_of_ble_eq_true z
    have ll := paired_len2 e3
    refine ⟨a, cd.C, dx, vfs, rfl, e2, cd.cl, hn, by omega, ?_⟩
    have q6 := q5.here hr2
    have mu : Mut (H2 a) := by rw [e2]; trivial
    have gp := grow_put (o := HO.ins cd.C dx (putF f w vfs)) mu e1
    have ry := Rp.grow hr1.live g2 y r1
    have hp : HR (kwOf X) ρ2 (upd H2 a (.ins cd.C dx (putF f w vfs))) (h2.put n (.obj c (putFD f y fs))) := by
      refine hr2.putC e1 e4 mu trivial ⟨cd.C, dx, _, upd_same, cd.gl, ?_⟩
      exact Paired.imp2 (fun x u r => ⟨r.1, Rp.grow hr2.live gp _ r.2⟩) (putFD_ok ry e3)
    exact PostS.here (PostS.grow hp.live gp q6) hp (st2.grow hr2.live gp)⟩
/-! ### o.m(..) -/
def dMet (c m : Str) (F : DF) (fo : DE) (fa : DA) : DE := fun s h => (fo s h).bind fun d h1 => withObj c d h1 fun _ fs => match lookF m fs with
  | some _ => .no
  | none => (fa s h1).bind fun ds h2 => F (d :: ds) h2
theorem passE {E : XK} (tk : Takes X (wOf E)) : Passes (L2.CX X.prog X.w) X E := fun pins σ H s e s' I h => passAt tk σ pins H s e s' I h
variable {k : Nat} {q : Str} {st : Stmt} {ps : List Str} {es : List Expr} {F : DF} {fa : DA} {E : XK}
theorem met_imp (cd : ClsD X.K X.mg c) : ∀ σ H Q, tD (kwOf X) T (wOf E) (dMet c m F fo fa) σ H Q → tMeth cd.C m (spNc (kwOf X) T F) [] E (tD (kwOf X) T (wOf E) fo) (tDA (kwOf X) T (wOf E) fa) σ H Q := fun σ H Q ⟨ρ, s, h, st, hr, q⟩ =>
  tD_bind st hr q fun d h1 ρ1 H1 v g1 hr1 st1 r1 q1 => by
    obtain ⟨n, a, dx, fs, vfs, rfl, e1, e2, e3, e4, q1⟩ := withObj_ok (K := kwOf X) cd.gl hr1 r1 q1
    cases z : lookF m fs with
    | some _ => simp only [z] at q1; exact q1.elim
    | none =>
      simp only [z] at q1
      refine ⟨a, dx, vfs, rfl, e2, lookF_none e3 z, ?_⟩
      exact tDA_bind st1 hr1 q1 fun ds h2 ρ2 H2 vs g2 hr2 st2 r2 q2 => by
        rw [List.append_nil]
        exact ⟨ρ2, h2, d :: ds, hr2, Rps.cons (Rp.grow hr1.live g2 d r1) r2, q2⟩
theorem se_met (cd : ClsD X.K X.mg c) (md : MetD X.K cd.C m q st ps) (ok : FnOk X.prog X.w X.K X.mg X.base (L2.CX X.prog X.w) k md.f md.fd ps (spNc (kwOf X) T F)) (hr : Room k X.A) (tk : Takes X (wOf E)) (ho : SE X T (wOf E) o fo) (ha : SA X T (wOf E) (e :: es) fa)
    (h1 : starEach (e :: es) X.env = (false, eval e X.env) :: starEach es X.env := by rfl) (h2 : (backTo pos (starEach es X.env)).any (·.1) = false := by rfl) {pl : Sem Bool}
    (h3 : eval (.Call (.Attribute o m apos) (e :: es) [] pos) X.env = (do let ov ← eval o X.env; standAt apos.atName; let (f, first) ← holding [ov] (getMethod ov m pl); callWith pos f first (backTo pos (starEach (e :: es) X.env)) (backToKw pos (keywordEach [] X.env))) := by rfl) :
    SE X T (wOf E) (.Call (.Attribute o m apos) (e :: es) [] pos) (dMet c m F fo fa) :=
  ⟨PE.imp (pe_meth ho.p cd.cl md.me ok hr md.bi .nil (passE tk) ha.p h1 h2 h3) (met_imp cd)⟩
theorem se_met0 (cd : ClsD X.K X.mg c) (md : MetD X.K cd.C m q st ps) (ok : FnOk X.prog X.w X.K X.mg X.base (L2.CX X.prog X.w) k md.f md.fd ps (spNc (kwOf X) T F)) (hr : Room k X.A) (tk : Takes X (wOf E)) (ho : SE X T (wOf E) o fo) {pl : Sem Bool}
    (h3 : eval (.Call (.Attribute o m apos) [] [] pos) X.env = (do let ov ← eval o X.env; standAt apos.atName; let (f, first) ← holding [ov] (getMethod ov m pl); callWith pos f first (backTo pos (starEach [] X.env)) (backToKw pos (keywordEach [] X.env))) := by rfl) :
    SE X T (wOf E) (.Call (.Attribute o m apos) [] [] pos) (dMet c m F fo dNil) :=
  ⟨PE.imp (pe_meth0 ho.p cd.cl md.me ok hr md.bi .nil (passE tk) h3) fun σ H Q t => by
    obtain ⟨ρ, s, h, st, hr, q⟩ := met_imp (fa := dNil) cd σ H Q t
    refine ⟨ρ, s, h, st, hr, q.mono fun d h1 ρ1 H1 _ _ _ z v rv => ?_⟩
    obtain ⟨a, dx, fs, e1, e2, e3, ρ', s', h', st', hr', q'⟩ := z v rv
    exact ⟨a, dx, fs, e1, e2, e3, q'.here hr' [] (Rps.nil_iff.mpr rfl)⟩⟩
/-! ### C(..) -/
def dMak (c : Str) (F : DF) (fa : DA) : DE := fun s h => (fa s h).bind fun ds h1 => (F (.cell h1.new :: ds) (h1.add (.obj c []))).bind fun z h2 => match z with
  | .non => .ok (.cell h1.new) h2
  | _ => .no
theorem se_mak {st : Stmt} (cd : MakD X.K X.mg c q st ps) (ok : FnOk X.prog X.w X.K X.mg X.base (L2.CX X.prog X.w) k cd.f cd.fd ps (spNc (kwOf X) T F)) (hr : Room (k + 1) X.A) (tk : Takes X (wOf E)) (ha : SA X T (wOf E) (e :: es) fa) (hg : Gl X c := by rfl) (hdb : (c == ("__debug__" : Str)) = false := by decide)
    (h1 : starEach (e :: es) X.env = (false, eval e X.env) :: starEach es X.env := by rfl) (h2 : (backTo pos (starEach es X.env)).any (·.1) = false := by rfl) : SE X T (wOf E) (.Call (.Name c p) (e :: es) [] pos) (dMak c F fa) :=
  ⟨PE.imp (pe_make cd.mkC ok hr hg cd.gl cd.bi .nil (passE tk) ha.p hdb h1 h2) fun σ H Q ⟨ρ, s, h, st, hr, q⟩ => tDA_bind st hr q fun ds h1 ρ1 H1 vs g1 hr1 st1 r1 q1 => fun x dx nx ndx ne => by
    rw [List.append_nil]
    have hu := hr1.upd (o := HO.own x) ndx
    have gu := grow_upd (o := HO.own x) hr1.live ndx
    have nx' : upd H1 dx (.own x) x = none := by rw [upd_ne (Ne.symm ne)]; exact nx
    have ha' : HR (kwOf X) (rhoAdd ρ1 h1.new x) (upd (upd H1 dx (.own x)) x (.ins cd.C dx [])) (h1.add (.obj c [])) := hu.addC nx' trivial ⟨cd.C, dx, [], upd_same, cd.gl, .nil⟩
    have ga := grow_add (o := HO.ins cd.C dx []) hu nx'
    have gg := gu.trans hu.live ga
    refine ⟨_, _, .cell h1.new :: ds, ha', Rps.cons (rp_cell.mpr ⟨x, rfl, rhoAdd_same⟩) (Rps.grow hr1.live gg ds r1), (Post.grow ha'.live gg q1).bind.mono fun z h2 ρ2 H2 _ g2 hr2 q2 v rv => ?_⟩
    cases z with
    | non => exact ⟨rp_non.mp rv, q2.here hr2 _ (rp_cell.mpr ⟨x, rfl, g2.rho _ _ rhoAdd_same⟩)⟩
    | _ => exact q2.elim⟩
end
end Nc
namespace Nc
open PySem PySem.Spec PySem.W PyProof.Rows L2
/-- a def under another global name -/
structure DfA (K : PySem.W.Frag) (mg : Str → Option Value) (g x : Str) (st : Stmt) (ps : List Str) where
  f : Addr
  fd : FuncData
  F : Fun K x x st f fd
  gl : mg g = some (.ref f)
  bi : Binds K fd ps []
section
variable {K : PySem.W.Frag} {h : Heap} {mg : Str → Option Value} {g x q m fl : Str} {st : Stmt} {ps : List Str} {f C C' : Addr} {od an : Option Addr} {sl : Array (Option Value)} {oc kV dc pm cd ct : Value}
theorem mkDfA (X : K.In h) (G : h.Ns mainGlobals mg) (a : nsIn K mainGlobals g = some (some (.ref f)))
    (l : K.lookup f = some ⟨oc, od, .func (fnOf x x (defArgs st) (defBody st) (defScope st) .none kV dc pm an cd ct), sl⟩) (c : codeIn K cd x = true) (k : keepIn K (.ref f) = true)
    (b : ∀ (kV doc pm : Value) (an : Option Addr) (cdv ct : Value) (us : List Value), us.length = ps.length → bindArgs (fnOf x x (defArgs st) (defBody st) (defScope st) Value.none kV doc pm an cdv ct) { pos := us } = pure (ps.zip us)) : Nonempty (DfA K mg g x st ps) :=
  ⟨⟨f, _, fun_mk l c k, mg_of X G a, (fun_mk l c k).binds b⟩⟩
theorem mkMak (X : K.In h) (G : h.Ns mainGlobals mg) (aC : nsIn K mainGlobals x = some (some (.ref C))) (pg : plainGet K C Str.empty = true) (hd : hasDictIn K C = true) (po : plainOver K C = true) (sa : findIn K (.ref C) "__setattr__" = some (some (.builtin "object.__setattr__")))
    (mk : makesIn K C = true) (a1 : findIn K (.ref C) "__init__" = some (some (.ref f))) (i1 : PySem.W.isFn K (.ref f) = true) (kc : keepIn K (.ref C) = true)
    (l : K.lookup f = some ⟨oc, od, .func (fnOf "__init__" q (defArgs st) (defBody st) (defScope st) .none kV dc pm an cd ct), sl⟩) (c : codeIn K cd q = true) (k : keepIn K (.ref f) = true)
    (b : ∀ (kV doc pm : Value) (an : Option Addr) (cdv ct : Value) (us : List Value), us.length = ps.length → bindArgs (fnOf "__init__" q (defArgs st) (defBody st) (defScope st) Value.none kV doc pm an cdv ct) { pos := us } = pure (ps.zip us)) : Nonempty (MakD K mg x q st ps) :=
  ⟨⟨⟨C, ⟨pg, hd, po, sa⟩, mg_of X G aC⟩, f, _, ⟨mk, a1, i1, kc⟩, fun_mk l c k, (fun_mk l c k).binds b⟩⟩
theorem mkMet (X : K.In h) (G : h.Ns mainGlobals mg) (gx : mg x = some (.ref C)) (aC : nsIn K mainGlobals x = some (some (.ref C'))) (a1 : findIn K (.ref C') m = some (some (.ref f))) (i1 : PySem.W.isFn K (.ref f) = true)
    (l : K.lookup f = some ⟨oc, od, .func (fnOf m q (defArgs st) (defBody st) (defScope st) .none kV dc pm an cd ct), sl⟩) (c : codeIn K cd q = true) (k : keepIn K (.ref f) = true)
    (b : ∀ (kV doc pm : Value) (an : Option Addr) (cdv ct : Value) (us : List Value), us.length = ps.length → bindArgs (fnOf m q (defArgs st) (defBody st) (defScope st) Value.none kV doc pm an cdv ct) { pos := us } = pure (ps.zip us)) : Nonempty (MetD K C m q st ps) := by
  have e := gx.symm.trans (mg_of X G aC)
  cases e
  exact ⟨⟨f, _, ⟨a1, i1, k⟩, fun_mk l c k, (fun_mk l c k).binds b⟩⟩
theorem mkNo (X : K.In h) (G : h.Ns mainGlobals mg) (gx : mg x = some (.ref C)) (aC : nsIn K mainGlobals x = some (some (.ref C'))) (n : findIn K (.ref C') fl = some none) : NoAttr K C fl := by
  have e := gx.symm.trans (mg_of X G aC)
  cases e
  exact n
end
end Nc
namespace Nc
open PySem PySem.Spec PySem.W PyProof.Rows L2
/-! ## calls that are reckoned once: the same arguments, with nothing in memory -/
mutual
def pureD : D → Bool
  | .tup ds => pureDs ds
  | .cell _ => false
  | .frl _ => false
  | _ => true
def pureDs : List D → Bool
  | [] => true
  | d :: r => match pureD d with
    | true => pureDs r
    | false => false
end
mutual
def eqDt : D → D → Bool
  | .non, .non => true
  | .bl a, .bl b => match a, b with
    | true, true => true
    | false, false => true
    | _, _ => false
  | .int i, .int j => decide (i = j)
  | .str s, .str t => strEq s t
  | .tup xs, .tup ys => eqDts xs ys
  | _, _ => false
def eqDts : List D → List D → Bool
  | [], [] => true
  | x :: xs, y :: ys => match eqDt x y with
    | true => eqDts xs ys
    | false => false
  | _, _ => false
end
mutual
theorem eqDt_ok : ∀ (x y : D), eqDt x y = true → x = y ∧ pureD x = true
  | .non, y, h => by cases y <;> first | exact ⟨rfl, rfl⟩ | cases h
  | .bl a, y, h => by
    cases y with
    | bl b => cases a <;> cases b <;> first | exact ⟨rfl, rfl⟩ | cases h
    | _ => cases h
  | .int i, y, h => by
    cases y with
    | int j =>
      have h : decide (i = j) = true := h
      exact ⟨by rw [of_decide_eq_true h], rfl⟩
    | _ => cases h
  | .str i, y, h => by
    cases y with
    | str j =>
      have h : strEq i j = true := h
      exact ⟨by rw [strEq_ok h], rfl⟩
    | _ => cases h
  | .tup xs, y, h => by
    cases y with
    | tup ys =>
      have h : eqDts xs ys = true := h
      obtain ⟨e, p⟩ := eqDts_ok xs ys h
      exact ⟨by rw [e], p⟩
    | _ => cases h
  | .cell n, y, h => by cases y <;> cases h
  | .frl n, y, h => by cases y <;> cases h
theorem eqDts_ok : ∀ (x y : List D), eqDts x y = true → x = y ∧ pureDs x = true
  | [], y, h => by
    cases y with
    | nil => exact ⟨rfl, rfl⟩
    | cons _ _ => cases h
  | x :: xs, y, h => by
    cases y with
    | nil => cases h
    | cons y ys =>
      unfold eqDts at h
      cases z : eqDt x y with
      | false => rw [z] at h; cases h
      | true =>
        rw [z] at h
        obtain ⟨e, p⟩ := eqDt_ok x y z
        obtain ⟨e2, p2⟩ := eqDts_ok xs ys h
        refine ⟨by rw [e, e2], ?_⟩
        unfold pureDs
        rw [p]; exact p2
end
section
variable {K : KW} {ρ ρ' : Rho} {H H' : Hp}
mutual
theorem Rp.pure : ∀ (d : D) {v : V}, pureD d = true → Rp K ρ H d v → Rp K ρ' H d v
  | .non, _, _, r => by unfold Rp at *; exact r
  | .bl _, _, _, r => by unfold Rp at *; exact r
  | .int _, _, _, r => by unfold Rp at *; exact r
  | .str _, _, _, r => by unfold Rp at *; exact r
  | .tup ds, _, p, r => by
    unfold Rp at *
    obtain ⟨a, xs, e, s, q⟩ := r
    exact ⟨a, xs, e, s, Rps.pure ds p q⟩
  | .cell n, _, p, _ => by cases p
  | .frl ds, _, p, _ => by cases p
theorem Rps.pure : ∀ (ds : List D) {vs : List V}, pureDs ds = true → Rps K ρ H ds vs → Rps K ρ' H ds vs
  | [], _, _, r => by unfold Rps at *; exact r
  | d :: ds, _, p, r => by
    unfold Rps at *
    obtain ⟨x, q, e, r1, r2⟩ := r
    unfold pureDs at p
    cases z : pureD d with
    | false => rw [z] at p; cases p
    | true =>
      rw [z] at p
      exact ⟨x, q, e, Rp.pure d z r1, Rps.pure ds p r2⟩
end
end
/-- what is reckoned: data, or a new list of data -/
inductive MR where
  | val (d : D) | lst (ds : List D)
def resOk (r : R D) (m : MR) : Bool := match r with
  | .ok d h => match m with
    | .val e => eqDt d e
    | .lst es => match d with
      | .cell n => match lstAt n h with
        | some ds => eqDts ds es
        | none => false
      | _ => false
  | _ => false
def giveM (m : MR) (h : AH) : R D := match m with
  | .val d => .ok d h
  | .lst es => mkL es h
def findM (ds : List D) : List (List D × MR) → Option MR
  | [] => none
  | (k, m) :: r => match eqDts ds k with
    | true => some m
    | false => findM ds r
def memoF (tab : List (List D × MR)) (F : DF) : DF := fun ds h => match findM ds tab with
  | some m => giveM m h
  | none => F ds h
theorem findM_ok {ds : List D} {m : MR} : ∀ {tab : List (List D × MR)}, findM ds tab = some m → (ds, m) ∈ tab ∧ pureDs ds = true
  | [], e => by cases e
  | (k, m') :: r, e => by
    unfold findM at e
    cases z : eqDts ds k with
    | true =>
      rw [z] at e; cases e
      obtain ⟨e1, p⟩ := eqDts_ok _ _ z
      subst e1
      exact ⟨List.mem_cons_self, p⟩
    | false =>
      rw [z] at e
      obtain ⟨h1, h2⟩ := findM_ok e
      exact ⟨List.mem_cons_of_mem _ h1, h2⟩
/-- a list that has come is given a name -/
theorem given_lst {K : KW} {ρ ρ' : Rho} {H H' : Hp} {h : AH} {a : Addr} {n : Nat} {xs : List V} {es : List D} (hr : HR K ρ H h) (g : Grow (fun _ => none) ρ' H H') (e : ρ' n = some a) (ea : H' a = some (.lst xs)) (r : Rps K ρ' H' es xs) (p : pureDs es = true) :
    Grow ρ (rhoAdd ρ h.new a) H H' ∧ HR K (rhoAdd ρ h.new a) H' (h.add (.lst es)) := by
  have na : H a = none := g.new n a e rfl
  have kp : ∀ b o, H b = some o → H' b = some o := fun b o z => g.keep b o z fun m z2 => by cases z2
  let G : Hp := fun b => if b = a then none else H' b
  have ga : G a = none := if_pos rfl
  have gb : ∀ b, b ≠ a → G b = H' b := fun b hb => if_neg hb
  have kG : ∀ b o, H b = some o → G b = some o := fun b o z => by
    have hb : b ≠ a := fun z2 => by subst z2; rw [na] at z; cases z
    rw [gb b hb]; exact kp b o z
  obtain ⟨g1, hr1⟩ := keep_all hr kG
  have eu : L2.upd G a (.lst xs) = H' := by
    funext b
    by_cases hb : b = a
    · subst hb; rw [upd_same]; exact ea.symm
    · rw [upd_ne hb]; exact gb b hb
  have hr2 := hr1.addC (o := .lst xs) (c := .lst es) ga trivial (by
    rw [eu]
    exact ⟨xs, ea, Rps.pure es p r⟩)
  have g2 := grow_add (o := .lst xs) hr1 ga
  rw [eu] at hr2 g2
  exact ⟨g1.trans hr1.live g2, hr2⟩
theorem ok_memo {P : Program} {w : World} {K : PySem.W.Frag} {mg : Str → Option Value} {base : Heap} {T : XT} {k : Nat} {f : Addr} {fd : FuncData} {ps : List Str} {F : DF} {tab : List (List D × MR)} (ok : FnOk P w K mg base (L2.CX P w) k f fd ps (spNc ⟨K, w, mg⟩ T F))
    (t : ∀ e ∈ tab, resOk (F e.1 []) e.2 = true) : FnOk P w K mg base (L2.CX P w) k f fd ps (spNc ⟨K, w, mg⟩ T (memoF tab F)) :=
  ok.imp fun vs H Q E ⟨ρ, h, ds, hr, r, p⟩ => by
    unfold memoF at p
    cases z : findM ds tab with
    | none => rw [z] at p; exact ⟨ρ, h, ds, hr, r, p⟩
    | some m =>
      rw [z] at p
      obtain ⟨hm, hp⟩ := findM_ok z
      have e := t _ hm
      refine ⟨fun _ => none, [], ds, hr0, Rps.pure ds hp r, ?_⟩
      simp only at e
      cases y : F ds [] with
      | no => rw [y] at e; cases e
      | ex _ _ => rw [y] at e; cases e
      | ok d h1 =>
        rw [y] at e
        intro ρ' H' g hr' v rv
        cases m with
        | val d2 =>
          have e : eqDt d d2 = true := e
          obtain ⟨e1, e2⟩ := eqDt_ok _ _ e
          subst e1
          obtain ⟨g2, hr2⟩ := keep_all hr fun a o z => g.keep a o z fun n z2 => by cases z2
          exact p ρ H' g2 hr2 v (Rp.pure d e2 rv)
        | lst es =>
          cases d with
          | cell n =>
            have e : (match lstAt n h1 with | some ds => eqDts ds es | none => false) = true := e
            cases x : lstAt n h1 with
            | none => rw [x] at e; cases e
            | some ds2 =>
              rw [x] at e
              obtain ⟨e1, e2⟩ := eqDts_ok _ _ e
              subst e1
              obtain ⟨a, xs, f1, f2, f3, _⟩ := lstAt_ok hr' x
              obtain ⟨b, rfl, f4⟩ := rp_cell.mp rv
              rw [f1] at f4; cases f4
              obtain ⟨g2, hr2⟩ := given_lst hr g f1 f2 f3 e2
              obtain ⟨_, q⟩ := Post.chk p
              exact q _ _ g2 hr2 _ (rp_cell.mpr ⟨a, rfl, rhoAdd_same⟩)
          | _ => cases e
end Nc
namespace NcT
open PySem PySem.Spec PyProof.Rows HT
section
variable {prog : Program} {w : World} {A : Around} {E : Value → Shared → Prop} {s : Shared}
/-! ## t[::-1] -/
theorem places_back (n : Nat) : Builtin.Slice.slicePlaces ((n : Int) - 1) (-1) (-1) = n := by
  unfold Builtin.Slice.slicePlaces
  have h1 : ¬ ((-1 : Int) > 0) := by decide
  simp only [h1, if_false]
  by_cases h : (n : Int) - 1 > -1
  · simp only [h, if_true]
    have : ((n : Int) - 1 - -1 - 1) / (- -1) = (n : Int) - 1 := by
      rw [show (- -1 : Int) = 1 by decide, Int.ediv_one]; omega
    rw [this]; omega
  · simp only [h, if_false]; omega
theorem applied_back {sl : Addr} {t : Tok} {n : Nat} {Q : Int × Int × Nat → Shared → Prop} (hs : s.heap.IsSliceOf sl .none .none (.int (-1) t))
    (h : Q ((n : Int) - 1, -1, n) s) : wpAny (model prog w) A (Builtin.Slice.sliceApplied (.ref sl) (pure (n : Int))) Q E s := by
  obtain ⟨os, hos, hcs, hds⟩ := id hs
  unfold Builtin.Slice.sliceApplied Builtin.Slice.sliceFields
  refine wpAny_bind (wpAny_bind (wpAny_field hos hds (x := .none) rfl (wpAny_bind (wpAny_field hos hds (x := .none) rfl (wpAny_bind (wpAny_field hos hds (x := .int (-1) t) rfl (wpAny_pure ?_)))))))
  refine wpAny_bind (slicePart_int ?_)
  show wpAny _ _ (if ((-1 : Int) == 0) = true then _ else _) _ _ s
  rw [if_neg (by decide)]
  refine wpAny_bind (slicePart_none (wpAny_bind (slicePart_none (wpAny_bind (wpAny_pure ?_)))))
  show wpAny _ _ (pure ((n : Int) - 1, (-1 : Int), Builtin.Slice.slicePlaces ((n : Int) - 1) (-1) (-1))) _ _ s
  rw [places_back]
  exact wpAny_pure h
theorem fm_congr {α β : Type} {f g : α → Option β} : ∀ {l : List α}, (∀ x ∈ l, f x = g x) → l.filterMap f = l.filterMap g
  | [], _ => rfl
  | x :: l, h => by
    rw [List.filterMap_cons, List.filterMap_cons, h x List.mem_cons_self, fm_congr fun y hy => h y (List.mem_cons_of_mem _ hy)]
theorem pick_back (xs : Array Value) : ((List.range xs.size).filterMap fun (m : Nat) => xs[(((xs.size : Nat) : Int) - 1 + (m : Int) * (-1)).toNat]?) = xs.toList.reverse := by
  have e : ∀ m ∈ List.range xs.size, xs[(((xs.size : Nat) : Int) - 1 + (m : Int) * (-1)).toNat]? = xs.toList.reverse[m]? := by
    intro m hm
    have hm := List.mem_range.mp hm
    have : (((xs.size : Nat) : Int) - 1 + (m : Int) * (-1)).toNat = xs.size - 1 - m := by omega
    rw [this, List.getElem?_reverse (by rw [Array.length_toList]; exact hm), Array.length_toList, Array.getElem?_toList]
  have e2 : (List.range xs.size).filterMap (fun (m : Nat) => xs[(((xs.size : Nat) : Int) - 1 + (m : Int) * (-1)).toNat]?) = (List.range xs.size).filterMap (fun m => xs.toList.reverse[m]?) :=
    fm_congr e
  rw [e2]
  have := pick_run xs.toList.reverse.toArray 0 xs.size
  have e3 : (List.range xs.size).map (0 + ·) = List.range xs.size := by
    rw [show ((0 + ·) : Nat → Nat) = id from funext fun k => Nat.zero_add k, List.map_id]
  rw [e3, List.drop_zero] at this
  simp only [List.getElem?_toArray] at this
  rw [this]
  exact List.take_of_length_le (by rw [List.length_reverse, Array.length_toList]; exact Nat.le_refl _)
theorem getItem_tuple_back {t sl : Addr} {items : Array Value} {tk : Tok} {Q : Value → Shared → Prop} (ht : IsTup s.heap t items) (hs : s.heap.IsSliceOf sl .none .none (.int (-1) tk))
    (h : Q (.ref s.heap.objs.size) { s with heap := s.heap.push { cls := .type "tuple", data := .seq items.toList.reverse.toArray } })
    (hsz : items.size ≤ sizeLine) : wpAny (model prog w) A (getItem (.ref t) (.ref sl)) Q E s := by
  have hrev : sizeOk (.seq items.toList.reverse.toArray) := by
    show items.toList.reverse.toArray.size ≤ sizeLine
    rw [List.size_toArray, List.length_reverse, Array.length_toList]
    exact hsz
  obtain ⟨os, hos, hcs, hds⟩ := id hs
  have hTs : s.TypeIs (.ref sl) "slice" := ⟨os, hos, hcs⟩
  unfold getItem
  try with_reducible refine wpAny_holding ?_
  first | refine wpAny_bind (wpAny_pure ?_) | skip
  refine wpAny_bind (wpAny_sequenceKey ht.typeIs (by decide) ?_)
  refine wpAny_bind (wpAny_callSpecial?_slot (name := Str.ofString "__getitem__") ht.typeIs PyProof.Rows.slot_tuple_getitem
    (wpAny_call_entry PyProof.Rows.slot_tuple_getitem ht.typeIs entry_tuple_getitem ?_ (args_tuple_getitem _ _)))
  show wpAny _ _ (Builtin.Tuple.tupleItemsOf (.ref t) >>= _) _ _ s
  refine wpAny_bind (tupleItemsOf_ ht ?_)
  refine wpAny_bind (wpAny_typeOf hTs ?_)
  rw [if_pos (by decide)]
  refine wpAny_bind (applied_back hs ?_)
  have hno : ¬ ((((items.size : Int) - 1) == 0 && (-1 : Int) == 1 && items.size == items.size) = true) := by
    intro q
    rw [Bool.and_eq_true, Bool.and_eq_true] at q
    exact absurd q.1.2 (by decide)
  show wpAny _ _ (if (((items.size : Int) - 1) == 0 && (-1 : Int) == 1 && items.size == items.size) = true then _ else _) _ _ s
  rw [if_neg hno, pick_back]
  first
    | exact wpAny_bind (m := Builtin.Tuple.tupleExact _) (wpAny_newObj_type (wpAny_pure ⟨_, rfl, wpAny_pure h⟩) hrev)
    | exact wpAny_bind (m := Builtin.Tuple.tupleExact _) (wpAny_newObj_type (wpAny_bind (wpAny_pure (wpAny_pure ⟨_, rfl, wpAny_pure h⟩))) hrev)
    | exact wpAny_bind (wpAny_bind (m := Builtin.Tuple.tupleExact _) (wpAny_newObj_type (wpAny_pure (wpAny_pure ⟨_, rfl, wpAny_pure h⟩)) hrev))
    | exact wpAny_bind (wpAny_bind (m := Builtin.Tuple.tupleExact _) (wpAny_newObj_type (wpAny_pure ⟨_, rfl, wpAny_pure h⟩) hrev))
end
end NcT

namespace Nc
open PySem PySem.Spec PySem.W PyProof.Rows L2
section
variable {X : Cx} {T : XT} {W : WX} {e a b c : Expr} {f g k : DE} {p pos : Pos} {fa : DA}
/-! ## t[::-1] -/
def tRevT (K : PySem.W.Frag) (te : TE) : TE := fun σ H Q => te σ H fun x H1 => ∃ a xs, x = .ref a ∧ SqT K H1 a xs ∧ ∀ p, H1 p = none → Q (.ref p) (upd H1 p (.tup xs.reverse))
theorem pe_revT {te : TE} {j : Nat} {p1 p2 p3 : Pos} (he : PE X e te) : PE X (.Subscript e (.Slice none none (some (.UnaryOp .USub (.Constant (.int 1) j p1) p2)) p3) pos) (tRevT X.K te) := by
  refine ⟨fun pins s σ H Q I h => ?_⟩
  refine Subscript_ (thn (he.run pins s σ H _ I h) fun v s1 ⟨x, H1, I1, r1, a, xs, ex, hx, q⟩ => ?_)
  subst ex
  cases r1
  have hst : PO X (some (.UnaryOp .USub (.Constant (.int 1) j p1) p2)) (tPart (tUn (rU fun i => .int (-i)) (tC (.int 1)))) := po_some (pe_un un_neg pe_int)
  refine wpAny_Slice (thn (po_none.run pins s1 σ H1 (fun o H2 => o = none ∧ H2 = H1) I1 ⟨rfl, rfl⟩) fun vl s2 ⟨l, H2, I2, pl, el, e2⟩ => ?_)
  subst el; subst e2
  cases pl
  refine thn (po_none.run pins s2 σ _ (fun o H3 => o = none ∧ H3 = _) I2 ⟨rfl, rfl⟩) fun vu s3 ⟨u, H3, I3, pu, eu, e3⟩ => ?_
  subst eu; subst e3
  cases pu
  refine thn (hst.run pins s3 σ _ (fun o H4 => o = some (-1) ∧ H4 = _) I3 ⟨1, rfl, -1, rfl, rfl, rfl⟩) fun vs s4 ⟨o, H4, I4, ps, eo, e4⟩ => ?_
  subst eo; subst e4
  cases ps with
  | int i t =>
  have I5 : L2.Inv X pins σ H4 { s4 with heap := s4.heap.push { cls := .type "slice", data := .fields #[.none, .none, .int (-1) t] } } := I4.kept (t' := s4.toks) fun b ob q => Heap.get?_push_of_some _ q
  obtain ⟨its, r, ht, hz⟩ := I5.tuple hx
  have hlen := r.length
  show wpAny (model X.prog X.w) X.A (subscriptTail e (.Slice none none (some (.UnaryOp .USub (.Constant (.int 1) j p1) p2)) p3) (.ref a) (.ref s4.heap.objs.size)) (EP X pins σ Q) X.xe { s4 with heap := s4.heap.push { cls := .type "slice", data := .fields #[.none, .none, .int (-1) t] } }
  refine tail_any (ops := [.ref a, .ref s4.heap.objs.size]) ht.typeIs PyProof.Rows.slot_tuple_getitem.lookup ?_ (by with_unfolding_all rfl)
  refine NcT.getItem_tuple_back ht (Heap.IsSliceOf.new ..) ?_ (by rw [List.size_toArray]; omega)
  refine ⟨.ref _, _, I5.laid (t' := s4.toks) (o := .tup xs.reverse) (fun b ob q => Heap.get?_push_of_some _ q) (Nat.le_refl _) ?_, rfl, q _ (I5.hok.fresh (Nat.le_refl _))⟩
  exact ⟨by rw [List.length_reverse]; exact hz, _, r.reverse, IsTup.new _ _⟩
/-- of a tuple or a list -/
def dRevS (f : DE) : DE := fun s h => (f s h).bind fun d h1 => match d with
  | .tup ds => mkT ds.reverse h1
  | _ => .no
theorem se_revT {j : Nat} {p1 p2 p3 : Pos} (he : SE X T W e f) : SE X T W (.Subscript e (.Slice none none (some (.UnaryOp .USub (.Constant (.int 1) j p1) p2)) p3) pos) (dRevS f) :=
  ⟨PE.imp (pe_revT he.p) fun σ H Q ⟨ρ, s, h, st, hr, q⟩ => tD_bind st hr q fun d h1 ρ1 H1 v g1 hr1 st1 r1 q1 => by
    cases d with
    | tup ds =>
      obtain ⟨a, xs, rfl, hs, r2⟩ := rp_tup.mp r1
      exact ⟨a, xs, rfl, hs, (mkT_ok hr1 (Rps.reverse r2) q1).2⟩
    | _ => exact q1.elim⟩
/-! ## range(a, b, c) -/
def upC : Nat → Int → Int → List D
  | 0, _, _ => []
  | n + 1, i, c => .int i :: upC n (i + c) c
theorem upC_get (c : Int) : ∀ (n : Nat) (i : Int) (k : Nat), (upC n i c)[k]? = if k < n then some (.int (i + (k : Nat) * c)) else none
  | 0, i, k => by simp [upC]
  | n + 1, i, 0 => by simp [upC]
  | n + 1, i, k + 1 => by
    show (upC n (i + c) c)[k]? = _
    rw [upC_get c n (i + c) k]
    by_cases h : k < n
    · rw [if_pos h, if_pos (by omega)]
      have : i + c + (k : Nat) * c = i + ((k + 1 : Nat) : Int) * c := by
        rw [Int.natCast_add, Int.add_mul]; omega
      rw [this]
    · rw [if_neg h, if_neg (by omega)]
theorem itR_rngC {K : KW} {ρ : Rho} {H : Hp} (n : Nat) (i c : Int) : ItR K ρ H (.snap (upC n i c)) (Itc i c n) := fun ρ' H' h' g hr k => by
  have e := upC_get c n i k
  by_cases z : k < n
  · rw [if_pos z] at e
    rw [show itemAt (.snap (upC n i c)) k h' = some (some (.int (i + (k : Nat) * c))) by simp [itemAt, e]]
    exact ⟨z, fun x H'' ⟨e1, e2⟩ => by subst e1; exact ⟨ρ', Grow.refl _ _, hr, rp_int.mpr e2⟩⟩
  · rw [if_neg z] at e
    rw [show itemAt (.snap (upC n i c)) k h' = some none by simp [itemAt, e]]
    exact Nat.le_of_not_lt z
def arg3 : List D → Option (D × D × D)
  | [x, y, z] => some (x, y, z)
  | _ => none
def smallC (i j c : Int) : Bool := (Nat.ble i.natAbs 1000000 && Nat.ble j.natAbs 1000000) && (Nat.ble 1 c.toNat && Nat.ble c.toNat 1000)
def iR3 (fa : DA) : DI := fun s h => (fa s h).bind fun ds h1 => withS (arg3 ds) fun d => withS (intD d.1) fun i => withS (intD d.2.1) fun j => withS (intD d.2.2) fun c => chk (smallC i j c && (Builtin.Range.small i j c && leI 0 (Builtin.Range.rangeSize i j c))) (.ok (.snap (upC (Builtin.Range.rangeSize i j c).toNat i c)) h1)
theorem arg3_ok {K : KW} {ρ : Rho} {H : Hp} {ds : List D} {vs : List V} {d : D × D × D} (r : Rps K ρ H ds vs) (e : arg3 ds = some d) : ∃ x y z, vs = [x, y, z] ∧ Rp K ρ H d.1 x ∧ Rp K ρ H d.2.1 y ∧ Rp K ρ H d.2.2 z := by
  unfold arg3 at e
  split at e
  · cases e
    obtain ⟨x, q, rfl, r1, r2⟩ := Rps.cons_iff.mp r
    obtain ⟨y, q, rfl, r3, r4⟩ := Rps.cons_iff.mp r2
    obtain ⟨z, q, rfl, r5, r6⟩ := Rps.cons_iff.mp r4
    rw [Rps.nil_iff] at r6; subst r6
    exact ⟨x, y, z, rfl, r1, r3, r5⟩
  · cases e
theorem si_range3 {tg : Expr} (hg : Gl X "range") (hm : X.mg "range" = none) (ha : SA X T W [a, b, c] fa) (hs : starEach [a, b, c] X.env = (false, eval a X.env) :: starEach [b, c] X.env := by rfl) (hpl : (backTo pos (starEach [b, c] X.env)).any (·.1) = false := by rfl) : SI X T W tg (.Call (.Name "range" p) [a, b, c] [] pos) (iR3 fa) :=
  ⟨PI.imp (pi_range3 hg hm ha.p hs hpl) fun σ H R ⟨ρ, s, h, st, hr, q⟩ => tDA_bind st hr q fun ds h1 ρ1 H1 vs g1 hr1 st1 r1 q1 => by
    obtain ⟨d, e1, q1⟩ := Post.withS q1
    obtain ⟨i, e2, q1⟩ := q1.withS
    obtain ⟨j, e3, q1⟩ := q1.withS
    obtain ⟨c, e4, q1⟩ := q1.withS
    obtain ⟨z, q1⟩ := q1.chk
    obtain ⟨x, y, u, rfl, rx, ry, ru⟩ := arg3_ok r1 e1
    unfold smallC at z
    simp only [Bool.and_eq_true] at z
    obtain ⟨⟨⟨z1, z2⟩, z3, z4⟩, z5, z6⟩ := z
    have z6 : 0 ≤ Builtin.Range.rangeSize i j c := of_decide_eq_true z6
    have z3 := Nat.le_of_ble_eq_true z3
    have z4 := Nat.le_of_ble_eq_true z4
    exact ⟨i, j, c, _, by rw [intD_ok rx e2, intD_ok ry e3, intD_ok ru e4], ⟨by omega, by omega, z5, by omega⟩, q1.here hr1 _ (itR_rngC _ i c)⟩⟩
end
end Nc
namespace Nc
open PySem PySem.Spec PySem.W PyProof.Rows L2
/-! ## [f, g, ..][i](..): one of several defs -/
structure FnE (X : Cx) (T : XT) (k : Nat) where
  x : Str
  f : Addr
  fd : FuncData
  ps : List Str
  F : DF
  ok : FnOk X.prog X.w X.K X.mg X.base (L2.CX X.prog X.w) k f fd ps (spNc (kwOf X) T F)
  gl : X.mg x = some (.ref f)
  kp : keepIn X.K (.ref f) = true
  bi : Binds X.K fd ps []
  hg : Gl X x
  hd : (x == ("__debug__" : Str)) = false
inductive FnList (X : Cx) (T : XT) (k : Nat) : List Expr → List (FnE X T k) → Prop where
  | nil : FnList X T k [] []
  | cons {e : FnE X T k} {p : Pos} {es : List Expr} {fs : List (FnE X T k)} (h : FnList X T k es fs) (he : starEach (.Name e.x p :: es) X.env = (false, eval (.Name e.x p) X.env) :: starEach es X.env) : FnList X T k (.Name e.x p :: es) (e :: fs)
def refsOf {X : Cx} {T : XT} {k : Nat} (fs : List (FnE X T k)) : List V := fs.map fun e => .ref e.f
theorem FnList.pa {X : Cx} {T : XT} {k : Nat} : ∀ {es : List Expr} {fs : List (FnE X T k)}, FnList X T k es fs → PA X es (fun _ H Q => Q (refsOf fs) H)
  | _, _, .nil => pa_nil
  | _, _, .cons (e := e) h he => PA.imp (pa_cons (te := tC (.ref e.f)) ⟨fun pins s σ H Q I q => ld_glob I e.hg e.gl ⟨.ref e.f, H, I, rfl, q⟩ e.hd⟩ h.pa he) fun σ H Q q => q
def atF {α : Type} : List α → Nat → Option α
  | [], _ => none
  | x :: _, 0 => some x
  | _ :: r, n + 1 => atF r n
theorem atF_eq {α : Type} : ∀ (l : List α) (n : Nat), atF l n = l[n]?
  | [], n => by simp [atF]
  | x :: r, 0 => rfl
  | x :: r, n + 1 => by show atF r n = _; rw [atF_eq r n]; rfl
def dPick (Fs : List DF) (fi : DE) (fa : DA) : DE := fun s h => (fi s h).bind fun d h1 => withS (intD d) fun i => chk (leI 0 i) (withS (atF Fs i.toNat) fun F => (fa s h1).bind F)
section
variable {X : Cx} {T : XT} {W : WX} {k : Nat} {names : List Expr} {ix e : Expr} {es : List Expr} {lp sp pos : Pos} {fs : List (FnE X T k)} {fi : DE} {fa : DA} {Fs : List DF}
theorem se_pick (hn : FnList X T k names fs) (hF : Fs = fs.map (·.F)) (hl : Nat.ble names.length 100 = true) (hs : PlainIx ix) (hr : Room k X.A) (tk : Takes X W) (hi : SE X T W ix fi) (ha : SA X T W (e :: es) fa)
    (ht : eval (.Call (.Subscript (.List names lp) ix sp) (e :: es) [] pos) X.env = (do callWith pos (← eval (.Subscript (.List names lp) ix sp) X.env) [] (backTo pos (starEach (e :: es) X.env)) (backToKw pos (keywordEach [] X.env))) := by rfl)
    (he : starEach (e :: es) X.env = (false, eval e X.env) :: starEach es X.env := by rfl) (hpl : (backTo pos (starEach es X.env)).any (·.1) = false := by rfl) :
    SE X T W (.Call (.Subscript (.List names lp) ix sp) (e :: es) [] pos) (dPick Fs fi fa) :=
  ⟨⟨fun pins s σ H Q I ⟨ρ, sd, h, st, hrr, q⟩ => by
    subst hF
    have hll : (refsOf fs).length ≤ sizeLine := by
      have h1 := Nat.le_of_ble_eq_true hl
      have h2 : ∀ {es : List Expr} {gs : List (FnE X T k)}, FnList X T k es gs → es.length = gs.length := by
        intro es gs z
        induction z with
        | nil => rfl
        | cons _ _ ih => simp [ih]
      have h3 := h2 hn
      have : (refsOf fs).length = fs.length := by simp [refsOf]
      have : (100 : Nat) ≤ sizeLine := by rw [sizeLine_eq]; decide
      omega
    have hfe := pe_ix (pos := sp) ix_list (pe_lst (pos := lp) hn.pa) hi.p hs
    refine Call_ (thn (hfe.run pins s σ H (fun v H1 => ∃ fe ∈ fs, v = .ref fe.f ∧ tDA (kwOf X) T W fa σ H1 fun vs H2 => spNc (kwOf X) T fe.F vs H2 Q (at_ W σ)) I ?_) fun u s1 ⟨y, H1, I1, ry, fe, hm, ey, q1⟩ => ?_) ht
    · refine ⟨hll, fun p np => ?_⟩
      have hr1 := hrr.upd (o := .lst (refsOf fs)) np
      have gr := grow_upd (o := .lst (refsOf fs)) hrr.live np
      exact tD_bind (st.grow hrr.live gr) hr1 (Post.grow hr1.live gr q) fun d h1 ρ1 H1 v g1 hr2 st1 r1 q1 => by
        obtain ⟨i, e1, q1⟩ := Post.withS q1
        obtain ⟨z, q1⟩ := q1.chk
        have z : 0 ≤ i := of_decide_eq_true z
        obtain ⟨F, e2, q1⟩ := q1.withS
        rw [atF_eq, List.getElem?_map] at e2
        cases y : fs[i.toNat]? with
        | none => rw [y] at e2; cases e2
        | some fe =>
          rw [y] at e2
          cases e2
          have hp : H1 p = some (.lst (refsOf fs)) := g1.keep p _ upd_same fun n hn => by
            have := hrr.live n p hn
            rw [np] at this; exact this
          have hlt : i.toNat < fs.length := by
            rcases Nat.lt_or_ge i.toNat fs.length with h | h
            · exact h
            · rw [List.getElem?_eq_none_iff.mpr h] at y; cases y
          refine ⟨p, refsOf fs, i, .ref fe.f, rfl, intD_ok r1 e1, .inl (.inl hp), ?_, fe, List.mem_of_getElem? y, rfl, ?_⟩
          · have hlen : (refsOf fs).length = fs.length := by simp [refsOf]
            have hix : (refsOf fs)[i.toNat]? = some (.ref fe.f) := by
              unfold refsOf
              rw [List.getElem?_map, y]; rfl
            show (ixN (refsOf fs).length i).bind (fun j => (refsOf fs)[j]?) = _
            unfold ixN
            rw [if_pos z, if_pos (by omega)]
            exact hix
          · exact tDA_bind st1 hr2 q1 fun ds h2 ρ2 H2 vs g2 hr3 st2 r2 q2 => ⟨ρ2, h2, ds, hr3, r2, q2⟩
    · subst ey
      obtain rfl : u = Value.ref fe.f := ry
      refine PySem.W.callWith_K (h₀ := X.base) I1.ok.mod.kin fe.kp (thn (ha.p.run pos pins s1 σ H1 _ I1 q1) fun us s2 ⟨vs, H2, I2, r, q2⟩ => ⟨I2.kIn, ?_⟩) he hpl
      exact run_fnSD (E := fun σ => at_ W σ) fe.ok hr fe.bi .nil (passAt tk σ) I2 r (by rw [List.append_nil]; exact q2)⟩⟩
end
end Nc
namespace Nc
open PySem PySem.Spec PySem.W PyProof.Rows L2
/-! ## min(xs), xs a list of alike data -/
mutual
theorem toPD_inj (h h' : AH) : ∀ (k : Nat) (x y : D) (p : PyData), pureD x = true → pureD y = true → toPD h k x = some p → toPD h' k y = some p → x = y
  | 0, _, _, _, _, _, e, _ => by cases e
  | k + 1, x, y, p, px, py, e1, e2 => by
    unfold toPD at e1 e2
    cases x with
    | non => cases y <;> simp only at e1 e2 <;> first | rfl | (cases e1; cases e2; done) | (cases e1; split at e2 <;> first | cases e2 | (split at e2 <;> cases e2)) | cases py
    | bl b =>
      cases y with
      | bl c => cases e1; cases e2; rfl
      | non => cases e1; cases e2
      | int _ => cases e1; cases e2
      | str _ => cases e1; cases e2
      | tup _ => cases e1; simp only at e2; split at e2 <;> cases e2
      | cell _ => cases py
      | frl _ => cases py
    | int b =>
      cases y with
      | int c => cases e1; cases e2; rfl
      | non => cases e1; cases e2
      | bl _ => cases e1; cases e2
      | str _ => cases e1; cases e2
      | tup _ => cases e1; simp only at e2; split at e2 <;> cases e2
      | cell _ => cases py
      | frl _ => cases py
    | str b =>
      cases y with
      | str c => cases e1; cases e2; rfl
      | non => cases e1; cases e2
      | bl _ => cases e1; cases e2
      | int _ => cases e1; cases e2
      | tup _ => cases e1; simp only at e2; split at e2 <;> cases e2
      | cell _ => cases py
      | frl _ => cases py
    | tup xs =>
      simp only at e1
      cases z : pds (toPD h k) xs with
      | none => rw [z] at e1; cases e1
      | some ps =>
        rw [z] at e1; cases e1
        cases y with
        | tup ys =>
          simp only at e2
          cases z2 : pds (toPD h' k) ys with
          | none => rw [z2] at e2; cases e2
          | some qs =>
            rw [z2] at e2; cases e2
            rw [pds_inj h h' k xs ys ps px py z z2]
        | non => cases e2
        | bl _ => cases e2
        | int _ => cases e2
        | str _ => cases e2
        | cell _ => cases py
        | frl _ => cases py
    | cell _ => cases px
    | frl _ => cases px
theorem pds_inj (h h' : AH) (k : Nat) : ∀ (xs ys : List D) (ps : List PyData), pureDs xs = true → pureDs ys = true → pds (toPD h k) xs = some ps → pds (toPD h' k) ys = some ps → xs = ys
  | [], ys, ps, _, _, e1, e2 => by
    cases e1
    cases ys with
    | nil => rfl
    | cons y r =>
      unfold pds at e2
      cases z : toPD h' k y with
      | none => rw [z] at e2; cases e2
      | some q =>
        cases z2 : pds (toPD h' k) r with
        | none => rw [z, z2] at e2; cases e2
        | some qs => rw [z, z2] at e2; cases e2
  | x :: xs, ys, ps, px, py, e1, e2 => by
    unfold pds at e1
    cases z : toPD h k x with
    | none => rw [z] at e1; cases e1
    | some p =>
      cases z2 : pds (toPD h k) xs with
      | none => rw [z, z2] at e1; cases e1
      | some qs =>
        rw [z, z2] at e1; cases e1
        cases ys with
        | nil => cases e2
        | cons y r =>
          unfold pds at e2
          cases y1 : toPD h' k y with
          | none => rw [y1] at e2; cases e2
          | some q =>
            cases y2 : pds (toPD h' k) r with
            | none => rw [y1, y2] at e2; cases e2
            | some qs' =>
              rw [y1, y2] at e2
              cases e2
              unfold pureDs at px py
              cases a : pureD x with
              | false => rw [a] at px; cases px
              | true =>
                cases b : pureD y with
                | false => rw [b] at py; cases py
                | true =>
                  rw [a] at px; rw [b] at py
                  rw [toPD_inj h h' k x y p a b z y1, pds_inj h h' k xs r qs px py z2 y2]
end
/-- the least, with its data -/
def minB (d : D) (p : PyData) : List D → List PyData → D × PyData
  | x :: xs, q :: qs => match dataLt q p with
    | true => minB x q xs qs
    | false => minB d p xs qs
  | _, _ => (d, p)
theorem minB_ok : ∀ (xs : List D) (qs : List PyData) (d : D) (p : PyData), xs.length = qs.length → (minB d p xs qs).2 = minD p qs
  | [], [], _, _, _ => rfl
  | x :: xs, q :: qs, d, p, h => by
    unfold minB minD
    rw [List.foldl_cons]
    cases z : dataLt q p with
    | true => rw [if_pos rfl]; exact minB_ok xs qs x q (by simpa using h)
    | false => rw [if_neg (by simp)]; exact minB_ok xs qs d p (by simpa using h)
  | [], _ :: _, _, _, h => by simp at h
  | _ :: _, [], _, _, h => by simp at h
theorem pds_len {f : D → Option PyData} : ∀ {xs : List D} {ps : List PyData}, pds f xs = some ps → xs.length = ps.length
  | [], _, e => by cases e; rfl
  | x :: xs, ps, e => by
    unfold pds at e
    cases z : f x with
    | none => rw [z] at e; cases e
    | some p =>
      cases z2 : pds f xs with
      | none => rw [z, z2] at e; cases e
      | some qs => rw [z, z2] at e; cases e; simp [pds_len z2]
theorem pds_at {f : D → Option PyData} : ∀ {xs : List D} {ps : List PyData} {i : Nat} {d : D}, pds f xs = some ps → xs[i]? = some d → ∃ p, ps[i]? = some p ∧ f d = some p
  | [], _, _, _, _, e => by simp at e
  | x :: xs, ps, i, d, e, hi => by
    unfold pds at e
    cases z : f x with
    | none => rw [z] at e; cases e
    | some p =>
      cases z2 : pds f xs with
      | none => rw [z, z2] at e; cases e
      | some qs =>
        rw [z, z2] at e; cases e
        cases i with
        | zero => simp at hi; subst hi; exact ⟨p, rfl, z⟩
        | succ i =>
          obtain ⟨q, a, b⟩ := pds_at (i := i) z2 (by simpa using hi)
          exact ⟨q, by simpa using a, b⟩
theorem minB_in {f : D → Option PyData} : ∀ (xs : List D) (qs : List PyData) (d : D) (p : PyData), pds f xs = some qs → f d = some p → pureD d = true → pureDs xs = true → f (minB d p xs qs).1 = some (minB d p xs qs).2 ∧ pureD (minB d p xs qs).1 = true
  | [], qs, d, p, e, hd, hp, _ => by cases e; exact ⟨hd, hp⟩
  | x :: xs, qs, d, p, e, hd, hp, hps => by
    unfold pds at e
    cases z : f x with
    | none => rw [z] at e; cases e
    | some q =>
      cases z2 : pds f xs with
      | none => rw [z, z2] at e; cases e
      | some rs =>
        rw [z, z2] at e; cases e
        unfold pureDs at hps
        cases a : pureD x with
        | false => rw [a] at hps; cases hps
        | true =>
          rw [a] at hps
          unfold minB
          cases y : dataLt q p with
          | true => exact minB_in xs rs x q z2 z a hps
          | false => exact minB_in xs rs d p z2 hd hp hps
def noNone : List PyData → Bool
  | [] => true
  | .none :: _ => false
  | _ :: r => noNone r
theorem noNone_ok : ∀ {ps : List PyData}, noNone ps = true → ∀ p ∈ ps, p ≠ .none
  | [], _, p, hp => by cases hp
  | q :: r, h, p, hp => by
    have hq : q ≠ .none := fun e => by subst e; cases h
    have hr : noNone r = true := by cases q <;> first | exact h | cases h
    rcases List.mem_cons.mp hp with e | e
    · subst e; exact hq
    · exact noNone_ok hr p e
def oMinP : List D → AH → R D := fun ds h => withS (arg1 ds) fun d => match d with
  | .cell n => withS (lstAt n h) fun es => match es with
    | x :: xs => withS (toPD h 12 x) fun p => withS (pds (toPD h 12) xs) fun qs => chk ((pureDs (x :: xs) && sortOk (p :: qs)) && noNone (p :: qs)) (.ok (minB x p xs qs).1 h)
    | [] => .no
  | _ => .no
def rMinP (K : PySem.W.Frag) (vs : List V) (H : Hp) (Q : VK) : Prop := ∃ a xs p ps, vs = [V.ref a] ∧ SqL K H a xs ∧ DpAll K H xs (p :: ps) ∧ SortP (p :: ps) ∧ noNone (p :: ps) = true ∧ ∀ (i : Nat) (v : V), xs[i]? = some v → (p :: ps)[i]? = some (minD p ps) → Q v H
theorem depth_all : ∀ {ps : List PyData} {n : Nat}, (∀ p ∈ ps, p.depth ≤ n) → PyData.depthAll ps ≤ n
  | [], n, _ => Nat.zero_le _
  | p :: ps, n, h => by
    show max p.depth (PyData.depthAll ps) ≤ n
    have h1 := h p List.mem_cons_self
    have h2 := depth_all (ps := ps) (n := n) fun q hq => h q (List.mem_cons_of_mem _ hq)
    omega
theorem cr_minP {X : Cx} {k : Nat} (hc : X.calm = true) (hr : Room k X.A) : CallR X (.builtin "min") (rMinP X.K) := fun pins s σ H vs us Q I r h => by
  obtain ⟨a, xs, p, ps, rfl, hs, hd, ok, hn, q⟩ := h
  obtain ⟨its, rv, hl, hz⟩ := I.list hs
  rw [Vals.ref1 r]
  obtain ⟨as, ra⟩ := Dp.readsAll I (p :: ps) xs its hd rv
  have ra2 : ReadsAll s.heap its.toArray.toList (p :: ps) as := by rw [List.toList_toArray]; exact ra
  have hdep : X.A.units + 1 + PyData.depthAll (p :: ps) < cLine := by
    have := depth_all ok.dep
    have := hr.units
    omega
  refine min_list_data (I.ok.hd hc) hl.isList ra2 ⟨ok.al, noNone_ok hn⟩ hdep fun i v h' tk bs hi hv hk => ?_
  have hi2 : its[i]? = some v := by rw [← hi, List.getElem?_toArray]
  obtain ⟨bs2, r2, hlt, _, _⟩ := readsAll_at ra i v hi2
  have e := (PySem.Reads.unique (Reads.keeps hk r2) _ _ hv).1
  have hx : ∃ u, xs[i]? = some u := by
    have : i < xs.length := by rw [dpAll_len hd]; exact hlt
    exact ⟨_, List.getElem?_eq_getElem this⟩
  obtain ⟨u, hu⟩ := hx
  obtain ⟨v2, e2, ru⟩ := rv.get hu
  rw [hi2] at e2; cases e2
  have hp : (p :: ps)[i]? = some (minD p ps) := by
    rw [← e, List.getD_eq_getElem?_getD, List.getElem?_eq_getElem hlt]; rfl
  exact ⟨u, H, I.kept hk, ru, q i u hu hp⟩
theorem oc_minP {K : KW} {T : XT} : OC K T (rMinP K.k) oMinP := fun E ρ H h ds vs Q hr r p => by
  obtain ⟨d, e1, p⟩ := Post.withS p
  obtain ⟨v, rfl, rv⟩ := arg1_ok r e1
  cases d with
  | cell n =>
    obtain ⟨es, e2, p⟩ := Post.withS (k := fun es => match es with
      | x :: xs => withS (toPD h 12 x) fun p => withS (pds (toPD h 12) xs) fun qs => chk ((pureDs (x :: xs) && sortOk (p :: qs)) && noNone (p :: qs)) (.ok (minB x p xs qs).1 h)
      | [] => .no) p
    cases es with
    | nil => exact p.elim
    | cons x es =>
      obtain ⟨pd, e3, p⟩ := Post.withS p
      obtain ⟨qs, e4, p⟩ := p.withS
      obtain ⟨c, p⟩ := p.chk
      rw [Bool.and_eq_true, Bool.and_eq_true] at c
      obtain ⟨a, rfl, e5⟩ := rp_cell.mp rv
      obtain ⟨b, xs, f1, f2, re, _⟩ := lstAt_ok hr e2
      rw [e5] at f1; cases f1
      have hpd : pds (toPD h 12) (x :: es) = some (pd :: qs) := by
        unfold pds; rw [e3, e4]
      have hd := pds_ok (fun d p v e r => toPD_ok hr 12 d p v e r) hpd re
      refine ⟨a, xs, pd, qs, rfl, .inl (.inl f2), hd, sortOk_ok c.1.2, c.2, fun i v hv hi => ?_⟩
      have pu := c.1.1
      have px : pureD x = true ∧ pureDs es = true := by
        unfold pureDs at pu
        cases y : pureD x with
        | false => rw [y] at pu; cases pu
        | true => rw [y] at pu; exact ⟨rfl, pu⟩
      have hlen := pds_len e4
      obtain ⟨m1, m2⟩ := minB_in (f := toPD h 12) es qs x pd e4 e3 px.1 px.2
      rw [minB_ok es qs x pd hlen] at m1
      have hlt : i < (x :: es).length := by
        rw [pds_len hpd]
        rcases Nat.lt_or_ge i (pd :: qs).length with z | z
        · exact z
        · rw [List.getElem?_eq_none_iff.mpr z] at hi; cases hi
      have hdi : (x :: es)[i]? = some (x :: es)[i] := List.getElem?_eq_getElem hlt
      obtain ⟨pi, g1, g2⟩ := pds_at hpd hdi
      rw [hi] at g1; cases g1
      have pdi : pureD (x :: es)[i] = true := by
        have : ∀ {l : List D}, pureDs l = true → ∀ y ∈ l, pureD y = true := by
          intro l
          induction l with
          | nil => intro _ y hy; cases hy
          | cons z r ih =>
            intro hp y hy
            unfold pureDs at hp
            cases w : pureD z with
            | false => rw [w] at hp; cases hp
            | true =>
              rw [w] at hp
              rcases List.mem_cons.mp hy with e | e
              · subst e; exact w
              · exact ih hp y e
        exact this pu _ (List.getElem_mem hlt)
      have ed := toPD_inj h h 12 _ _ _ pdi m2 g2 m1
      obtain ⟨v2, h1, h2⟩ := re.get hdi
      rw [hv] at h1; cases h1
      rw [ed] at h2
      exact p.here hr _ h2
  | _ => exact p.elim
/-- of ints, or of alike data -/
def oMin12 : List D → AH → R D := fun ds h => match ds with
  | [.cell n] => match lstAt n h with
    | some (.int _ :: _) => oMM minL ds h
    | _ => oMinP ds h
  | _ => .no
theorem oc_min12 {K : KW} {T : XT} : OC K T (fun xs H Q => rMin K.k xs H Q ∨ rMinP K.k xs H Q) oMin12 := fun E ρ H h ds vs Q hr r p => by
  unfold oMin12 at p
  split at p
  · split at p
    · exact .inl (oc_minL E ρ H h _ vs Q hr r p)
    · exact .inr (oc_minP E ρ H h _ vs Q hr r p)
  · exact p.elim
section
variable {X : Cx} {T : XT} {W : WX} {k : Nat} {e e2 : Expr} {f g : DE} {p pos kp : Pos}
theorem se_min12 (hc : X.calm = true) (hr : Room k X.A) (hm : X.mg "min" = none) (ha : SE X T W e f) (hg : Gl X "min" := by rfl) (he : starEach [e] X.env = (false, eval e X.env) :: starEach [] X.env := by rfl) : SE X T W (.Call (.Name "min" p) [e] [] pos) (dCall oMin12 (dCons f dNil)) := se_callB (CallR.or (cr_min hc) (cr_minP hc hr)) oc_min12 hg hm (by rfl) (sa_cons ha sa_nil he) (by decide) (by decide) he (by rfl)
/-! ## max(xs, default=d), xs a list of ints -/
def rMaxDf (K : PySem.W.Frag) : List V → List V → Hp → VK → Prop := fun xs zs H Q => ∃ a ns d, xs = [V.ref a] ∧ zs = [d] ∧ SqL K H a (ns.map V.int) ∧ (ns = [] → Q d H) ∧ ∀ m r, ns = m :: r → Q (.int (r.foldl max m)) H
theorem intsAlike (ns : List Int) : AlikeAll (ns.map PyData.int) := by
  refine ⟨fun x hx y hy => ?_, fun x hx e => ?_⟩
  · obtain ⟨i, _, rfl⟩ := List.mem_map.mp hx
    obtain ⟨j, _, rfl⟩ := List.mem_map.mp hy
    rfl
  · obtain ⟨i, _, rfl⟩ := List.mem_map.mp hx
    cases e
theorem cr_maxDf (hc : X.calm = true) (hr : Room k X.A) : CallRK X (.builtin "max") ["default"] (rMaxDf X.K) := fun pins s σ H xs zs us ws Q I r rz h => by
  obtain ⟨a, ns, d, rfl, rfl, hs, q0, q1⟩ := h
  obtain ⟨its, rv, hl, hz⟩ := I.list hs
  rw [Vals.ref1 r]
  obtain ⟨u, rfl, ru⟩ := vals1 rz
  have hd : DpAll X.K H (ns.map V.int) (ns.map PyData.int) := by
    clear hs rv q0 q1 hl hz
    induction ns with
    | nil => exact .nil
    | cons n r ih => exact .cons (.int n) ih
  obtain ⟨as, ra⟩ := Dp.readsAll I _ _ its hd rv
  have ra2 : ReadsAll s.heap its.toArray.toList (ns.map PyData.int) as := by rw [List.toList_toArray]; exact ra
  have hdep : X.A.units + 1 + PyData.depthAll (ns.map PyData.int) < cLine := by
    have h0 : PyData.depthAll (ns.map PyData.int) ≤ 12 := depth_all fun p hp => by
      obtain ⟨i, _, rfl⟩ := List.mem_map.mp hp
      unfold PyData.depth
      omega
    have := hr.units
    omega
  refine max_list_default (I.ok.hd hc) hl.isList ra2 (intsAlike ns) hdep (fun e h' tk hk => ?_) fun y ys i v h' tk bs e hi hv hk => ?_
  · exact ⟨d, H, I.kept hk, ru, q0 (by simpa using e)⟩
  · cases ns with
    | nil => cases e
    | cons m r =>
      rw [List.map_cons] at e
      cases e
      rw [maxD_ints] at hv
      cases hv with
      | int i t => exact ⟨.int (r.foldl max m), H, I.kept hk, ⟨_, rfl⟩, q1 m r rfl⟩
end
end Nc
namespace Nc
open PySem PySem.Spec PySem.W PyProof.Rows L2
section
variable {X : Cx} {T : XT} {W : WX} {k : Nat} {a b e e2 : Expr} {f g : DE} {p pos kp : Pos}
theorem maxL_fold : ∀ (r : List Int) (m : Int), maxL m r = r.foldl max m
  | [], _ => rfl
  | x :: r, m => by
    unfold maxL
    rw [List.foldl_cons, maxL_fold r]
    congr 1
    unfold ltI
    by_cases h : m < x
    · rw [decide_eq_true h]; show x = _; omega
    · rw [decide_eq_false h]; show m = _; omega
def dMaxDf (f g : DE) : DE := fun s h => (f s h).bind fun d h1 => (g s h1).bind fun z h2 => match d with
  | .cell n => withS (lstAt n h2) fun es => withS (intsD es) fun ns => match ns with
    | [] => .ok z h2
    | m :: r => .ok (.int (maxL m r)) h2
  | _ => .no
theorem se_maxDf (hc : X.calm = true) (hr : Room k X.A) (hm : X.mg "max" = none) (ha : SE X T W e f) (hb : SE X T W e2 g) (hg : Gl X "max" := by rfl) (he : backTo pos (starEach [e] X.env) = (false, eval e X.env) :: backTo pos (starEach [] X.env) := by rfl) (hs : starEach [e] X.env = (false, eval e X.env) :: starEach [] X.env := by rfl) (hpl : (backTo pos (starEach [e] X.env)).any (·.1) = false := by rfl)
    (h1 : (backToKw pos (keywordEach [⟨some "default", e2, kp⟩] X.env)).all (·.1.isSome) = true := by rfl) (h2 : (backToKw pos (keywordEach [⟨some "default", e2, kp⟩] X.env)).any (·.1.isNone) = false := by rfl) (h3 : (backToKw pos (keywordEach [⟨some "default", e2, kp⟩] X.env)).filterMap (·.1) = ([("default" : Str)] : List Str) := by rfl) :
    SE X T W (.Call (.Name "max" p) [e] [⟨some "default", e2, kp⟩] pos) (dMaxDf f g) :=
  ⟨PE.imp (pe_callBK (cr_maxDf hc hr) hg hm (by rfl) (sa_cons ha sa_nil hs).p (sk_cons hb sk_nil).p (by decide) (by decide) he hpl h1 h2 h3) fun σ H Q ⟨ρ, s, h, st, hr, q⟩ => by
    have q0 := q.bind
    refine ⟨ρ, s, h, st, hr, ?_⟩
    show Post (kwOf X) T (at_ W σ) ρ H ((f s h).bind fun d h1 => (dNil s h1).bind fun ds h2 => .ok (d :: ds) h2) _
    cases z : f s h with
    | no => rw [z] at q0; exact q0.elim
    | ex e h1 => rw [z] at q0; exact q0
    | ok d h1 =>
      rw [z] at q0
      intro ρ1 H1 g1 hr1 vs rvs
      have q1 := q0 ρ1 H1 g1 hr1
      obtain ⟨v, t, rfl, rv, rt⟩ := Rps.cons_iff.mp rvs
      rw [Rps.nil_iff] at rt; subst rt
      have st1 := st.grow hr.live g1
      refine ⟨ρ1, s, h1, st1, hr1, ?_⟩
      have q2 := q1.bind
      show Post (kwOf X) T (at_ W σ) ρ1 H1 ((g s h1).bind fun d h1 => (dNil s h1).bind fun ds h2 => .ok (d :: ds) h2) _
      cases y : g s h1 with
      | no => rw [y] at q2; exact q2.elim
      | ex e h1 => rw [y] at q2; exact q2
      | ok d2 h2 =>
        rw [y] at q2
        intro ρ2 H2 g2 hr2 zs rzs
        have q3 := q2 ρ2 H2 g2 hr2
        obtain ⟨u, t, rfl, ru, rt⟩ := Rps.cons_iff.mp rzs
        rw [Rps.nil_iff] at rt; subst rt
        have rv2 := Rp.grow hr1.live g2 d rv
        cases d with
        | cell n =>
          obtain ⟨es, e1, q3⟩ := Post.withS q3
          obtain ⟨ns, e3, q3⟩ := q3.withS
          obtain ⟨a, rfl, e5⟩ := rp_cell.mp rv2
          obtain ⟨b, xs, f1, f2, re, _⟩ := lstAt_ok hr2 e1
          rw [e5] at f1; cases f1
          have := intsD_ok e3 re; subst this
          refine ⟨a, ns, u, rfl, rfl, .inl (.inl f2), fun e => ?_, fun m r e => ?_⟩
          · subst e; exact q3.here hr2 u ru
          · subst e; rw [← maxL_fold]; exact q3.here hr2 _ (rp_int.mpr rfl)
        | _ => exact q3.elim⟩
/-! ## comb(a, b) -/
def rComb : List V → Hp → VK → Prop := fun xs H Q => ∃ i j : Int, xs = [.int i, .int j] ∧ 0 ≤ i ∧ 0 ≤ j ∧ i < 2 ^ 64 ∧ j ≤ 9000 ∧ Q (.int (mcComb i j)) H
theorem cr_comb : CallR X (.builtin "math.comb") rComb := by
  intro pins s σ H vs us Q I r ⟨i, j, e, h1, h2, h3, h4, q⟩
  subst e
  obtain ⟨t, u, rfl⟩ := Vals.int2 r
  exact mc_comb h1 h2 h3 (.inl h4) fun _ => ⟨.int _, H, I.tok _, ⟨_, rfl⟩, q⟩
def oComb : List D → AH → R D := fun ds h => withS (arg2 ds) fun d => withS (intD d.1) fun i => withS (intD d.2) fun j => chk (leI 0 i && (leI 0 j && (Nat.ble i.toNat 1000000 && Nat.ble j.toNat 9000))) (.ok (.int (mcComb i j)) h)
theorem oc_comb {K : KW} : OC K T rComb oComb := fun E ρ H h ds vs Q hr r p => by
  obtain ⟨d, e1, p⟩ := Post.withS p
  obtain ⟨i, e2, p⟩ := p.withS
  obtain ⟨j, e3, p⟩ := p.withS
  obtain ⟨c, p⟩ := p.chk
  obtain ⟨v, u, rfl, rv, ru⟩ := arg2_ok r e1
  simp only [Bool.and_eq_true] at c
  obtain ⟨c1, c2, c3, c4⟩ := c
  have c1 : 0 ≤ i := of_decide_eq_true c1
  have c2 : 0 ≤ j := of_decide_eq_true c2
  have c3 := Nat.le_of_ble_eq_true c3
  have c4 := Nat.le_of_ble_eq_true c4
  exact ⟨i, j, by rw [intD_ok rv e2, intD_ok ru e3], c1, c2, by omega, by omega, p.here hr _ (rp_int.mpr rfl)⟩
theorem se_comb {x : Str} (hm : X.mg x = some (.builtin "math.comb")) (ha : SE X T W a f) (hb : SE X T W b g) (hg : Gl X x := by rfl) (he : starEach [a, b] X.env = (false, eval a X.env) :: starEach [b] X.env := by rfl) (he2 : starEach [b] X.env = (false, eval b X.env) :: starEach [] X.env := by rfl) (hpl : (backTo pos (starEach [b] X.env)).any (·.1) = false := by rfl) (hdb : (x == ("__debug__" : Str)) = false := by decide) :
    SE X T W (.Call (.Name x p) [a, b] [] pos) (dCall oComb (dCons f (dCons g dNil))) := ⟨PE.imp (pe_callBfun cr_comb hg hm (sa_cons ha (sa_cons hb sa_nil he2) he).p hdb he hpl) (call_imp oc_comb)⟩
end
end Nc
namespace Nc
open PySem PySem.Spec PySem.W PyProof.Rows L2
section
variable {X : Cx} {T : XT} {W : WX} {a : Expr} {f : DE} {p p2 pos pos2 : Pos}
def dTRg1 (f : DE) : DE := fun s h => (f s h).bind fun x h1 => withS (intD x) fun i => chk (smallR i) (mkT (upD i.toNat 0) h1)
theorem se_trg1 (hc : X.calm = true) (hm : X.mg "tuple" = none) (hm2 : X.mg "range" = none) (ha : SE X T W a f) (hg : Gl X "tuple" := by rfl) (hg2 : Gl X "range" := by rfl) (h1 : starEach [a] X.env = (false, eval a X.env) :: starEach [] X.env := by rfl)
    (h4 : starEach [.Call (.Name "range" p2) [a] [] pos2] X.env = (false, eval (.Call (.Name "range" p2) [a] [] pos2) X.env) :: starEach [] X.env := by rfl) : SE X T W (.Call (.Name "tuple" p) [.Call (.Name "range" p2) [a] [] pos2] [] pos) (dTRg1 f) :=
  ⟨PE.imp (pe_tupRg hc hg hm (prg_1 hg2 hm2 ha.p h1) h4) fun σ H Q ⟨ρ, s, h, st, hr, q⟩ => tD_bind st hr q fun x h1 ρ1 H1 v g1 hr1 st1 r1 q1 => by
    obtain ⟨i, e1, q2⟩ := Post.withS q1
    obtain ⟨c, q2⟩ := q2.chk
    have c1 := Nat.le_of_ble_eq_true c
    refine ⟨i, intD_ok r1 e1, ⟨by omega, by omega, by omega, by omega, by omega⟩, ?_⟩
    have q3 : P1 (kwOf X) T (at_ W σ) ρ1 H1 (mkT (upD (i - 0).toNat 0) h1) Q := by rw [Int.sub_zero]; exact q2
    exact (mkT_ok hr1 (upD_rps (i - 0).toNat 0) q3).2⟩
end
end Nc
namespace Nc
open PySem PySem.Spec PySem.W PyProof.Rows L2
section
variable {X : Cx} {T : XT} {W : WX} {tg iter tg1 iter1 elt : Expr} {ifs ifs1 : List Expr} {fi fi1 : DI} {dg dg1 : DG} {ws ws1 : List Nat} {ft ft1 : DB} {fe : DE} {scope : Scope} {own : List (Str × Nat)} {vs1 : List Nat} {pos : Pos}
/-- name = [.. for .. for ..], the name a local -/
theorem s_setLc2 (n n1 : Nat) {i : Nat} {y : Str} {py spos : Pos} (hc : X.calm = true) (hN : X.N.Nodup) (hy : X.N[i]? = some y) (hyl : X.env.scope.names.lookup y = some .local)
    (hsw : swapsWith (.ListComp elt [⟨tg, iter, ifs, 0⟩, ⟨tg1, iter1, ifs1, 0⟩] scope pos) (some (.Name y py)) spos.line X.env = pure true) (hi : SI X T W tg iter fi) (ok : BlkOk X.N X.env.scope scope own) (hvo : ∀ i ∈ vs1, i ∈ own.map (·.2)) (hv : ∀ i ∈ ws, i ∈ own.map (·.2)) (hv1 : ∀ i ∈ ws1, i ∈ vs1)
    (hg : ∀ (s : Shared) (H : Hp) (C : Addr) (cl : List (Str × Addr)) (fp : List Addr), SG (X.blk s H scope (compEnvC scope cl C X.env) fp) tg ws dg)
    (ht : ∀ (s : Shared) (H : Hp) (C : Addr) (cl : List (Str × Addr)) (fp : List Addr), STs (X.blk s H scope (compEnvC scope cl C X.env) fp) T W0 ifs ft)
    (hi1 : ∀ (s : Shared) (H : Hp) (C : Addr) (cl : List (Str × Addr)) (fp : List Addr), SI (X.blk s H scope (compEnvC scope cl C X.env) fp) T W0 tg1 iter1 fi1)
    (hg1 : ∀ (s : Shared) (H : Hp) (C : Addr) (cl : List (Str × Addr)) (fp : List Addr), SG (X.blk s H scope (compEnvC scope cl C X.env) fp) tg1 ws1 dg1)
    (ht1 : ∀ (s : Shared) (H : Hp) (C : Addr) (cl : List (Str × Addr)) (fp : List Addr), STs (X.blk s H scope (compEnvC scope cl C X.env) fp) T W0 ifs1 ft1)
    (he : ∀ (s : Shared) (H : Hp) (C : Addr) (cl : List (Str × Addr)) (fp : List Addr), SE (X.blk s H scope (compEnvC scope cl C X.env) fp) T W0 elt fe)
    (hs : ∀ x, foldedSetIterable iter X.env x = pure x := by intro _; rfl) (hs1 : ∀ env x, foldedSetIterable iter1 env x = pure x := by intro _ _; rfl) (hn1 : n1 + lim2 ≤ lim := by decide) :
    SS X T W (.Assign [.Name y py] (.ListComp elt [⟨tg, iter, ifs, 0⟩, ⟨tg1, iter1, ifs1, 0⟩] scope pos) spos) (gAsg (dLc2 fi dg ft fi1 dg1 ft1 fe (own.map (·.2)) vs1 n n1) (gN i)) :=
  ⟨PS.imp (ps_setLc2 hc hN hy hyl hsw hi.p ok hvo (fun s H C cl fp => (hg s H C cl fp).p) (fun s H C cl fp => (ht s H C cl fp).p) (fun s H C cl fp => (hi1 s H C cl fp).p) (fun s H C cl fp => (hg1 s H C cl fp).p) (fun s H C cl fp => (ht1 s H C cl fp).p) (fun s H C cl fp => (he s H C cl fp).p) hs hs1) fun Z σ H ⟨ρ, s, h, st, hr, q⟩ =>
    lc2_imp n n1 hn1 hv hv1 σ H _ (tD_bindS st hr q fun d h1 ρ1 H1 v g1 hr1 st1 r1 q1 => q1 ρ1 H1 _ (Grow.refl _ _) hr1 (st1.set r1))⟩
end
end Nc
set_option maxRecDepth 1000000
set_option maxHeartbeats 4000000
namespace K17
open PySem PySem.Spec PyProof.Rows L2 Nc
abbrev RL : Nat := 10
def topS (i : Nat) : Stmt := PySem.Challenge.pw_nearercamps_k12_machines_by_hand_and_wha.main.body.getD i (.Pass ⟨0, 0, 0, 0⟩)
abbrev s_is_number : Stmt := topS 2
abbrev s_is_number_below : Stmt := topS 3
abbrev s_is_tuple_of : Stmt := topS 4
abbrev s_is_filled_tuple : Stmt := topS 5
abbrev s_is_rising : Stmt := topS 6
abbrev s_frozen : Stmt := topS 7
abbrev s_ascending : Stmt := topS 8
abbrev s_inner_order : Stmt := topS 10
abbrev s_end_of : Stmt := topS 11
abbrev s_longer_rows : Stmt := topS 12
abbrev s_met_order : Stmt := topS 13
abbrev s_numbers_of : Stmt := topS 15
abbrev s_kind_of_stand : Stmt := topS 16
abbrev s_inner_kinds : Stmt := topS 17
abbrev s_begin_kind : Stmt := topS 18
abbrev s_counts_behind : Stmt := topS 25
abbrev s_short_arrows : Stmt := topS 26
abbrev s_met_pairs : Stmt := topS 27
abbrev s_ending_pairs : Stmt := topS 28
abbrev s_is_lot : Stmt := topS 30
abbrev s_is_looks : Stmt := topS 31
abbrev s_is_fraction : Stmt := topS 35
abbrev s_lowest : Stmt := topS 36
abbrev s_plus : Stmt := topS 37
abbrev s_total_of : Stmt := topS 38
abbrev s_is_row_of : Stmt := topS 40
abbrev s_are_rows : Stmt := topS 41
abbrev s_is_step : Stmt := topS 42
abbrev s_is_arrow : Stmt := topS 45
abbrev s_is_stand : Stmt := topS 46
abbrev s_is_machine : Stmt := topS 47
abbrev s_places_of : Stmt := topS 48
abbrev s_one_round : Stmt := topS 49
abbrev s_one_choice : Stmt := topS 50
abbrev s_choices : Stmt := topS 51
abbrev s_is_row : Stmt := topS 52
abbrev s_row_end : Stmt := topS 53
abbrev s_rows_of : Stmt := topS 54
abbrev s_count_rounds : Stmt := topS 55
abbrev s_rounds : Stmt := topS 56
abbrev s_round_lengths : Stmt := topS 57
abbrev s_go_alike : Stmt := topS 58
abbrev s_stands_as_met : Stmt := topS 59
abbrev s_steps_as_met : Stmt := topS 60
abbrev s_each_once : Stmt := topS 61
abbrev s_merged : Stmt := topS 62
abbrev s_renamed_step : Stmt := topS 63
abbrev s_renamed : Stmt := topS 64
abbrev s_one_after_other : Stmt := topS 65
abbrev s_within_rounds : Stmt := topS 66
abbrev s__law_same : Stmt := topS 68
abbrev s__law_two : Stmt := topS 69
abbrev s__law_bad : Stmt := topS 70
abbrev s__law_chain : Stmt := topS 71
abbrev s__law_wide : Stmt := topS 72
abbrev s__law_heard : Stmt := topS 73
abbrev s__law_made_right : Stmt := topS 74
abbrev s__law_alike_right : Stmt := topS 75
abbrev s__law_within_right : Stmt := topS 76
abbrev s_law : Stmt := topS 77
structure Defs (K : PySem.W.Frag) (mg : Str → Option Value) where
  h_is_number : Df K mg "is_number" s_is_number ["thing"]
  h_is_number_below : Df K mg "is_number_below" s_is_number_below ["thing", "limit"]
  h_is_tuple_of : Df K mg "is_tuple_of" s_is_tuple_of ["thing", "count"]
  h_is_filled_tuple : Df K mg "is_filled_tuple" s_is_filled_tuple ["thing"]
  h_is_rising : Df K mg "is_rising" s_is_rising ["values"]
  h_frozen : Df K mg "frozen" s_frozen ["value"]
  h_ascending : Df K mg "ascending" s_ascending ["values"]
  h_inner_order : Df K mg "inner_order" s_inner_order ["stands"]
  h_end_of : Df K mg "end_of" s_end_of ["stands", "stand", "row"]
  h_longer_rows : Df K mg "longer_rows" s_longer_rows ["stands", "found"]
  h_met_order : Df K mg "met_order" s_met_order ["begin", "arrows"]
  h_numbers_of : Df K mg "numbers_of" s_numbers_of ["values", "known"]
  h_kind_of_stand : Df K mg "kind_of_stand" s_kind_of_stand ["stand", "step_kinds", "stand_kinds"]
  h_inner_kinds : Df K mg "inner_kinds" s_inner_kinds ["stands", "step_kinds", "known"]
  h_begin_kind : Df K mg "begin_kind" s_begin_kind ["machine", "known_steps", "known_kinds"]
  h_counts_behind : Df K mg "counts_behind" s_counts_behind ["counts", "wants", "step"]
  h_short_arrows : Df K mg "short_arrows" s_short_arrows ["stands", "pair", "wants"]
  h_met_pairs : Df K mg "met_pairs" s_met_pairs ["stands", "wants"]
  h_ending_pairs : Df K mg "ending_pairs" s_ending_pairs ["stands", "wants"]
  h_is_lot : Df K mg "is_lot" s_is_lot ["thing", "n"]
  h_is_looks : Df K mg "is_looks" s_is_looks ["thing", "n"]
  h_is_fraction : Df K mg "is_fraction" s_is_fraction ["thing"]
  h_lowest : Df K mg "lowest" s_lowest ["top", "bottom"]
  h_plus : Df K mg "plus" s_plus ["one", "other"]
  h_total_of : Df K mg "total_of" s_total_of ["numbers"]
  h_is_row_of : Df K mg "is_row_of" s_is_row_of ["thing", "count"]
  h_are_rows : Df K mg "are_rows" s_are_rows ["thing", "looks"]
  h_is_step : Df K mg "is_step" s_is_step ["thing", "n"]
  h_is_arrow : Df K mg "is_arrow" s_is_arrow ["thing", "steps", "stands"]
  h_is_stand : Df K mg "is_stand" s_is_stand ["thing", "steps", "stands"]
  h_is_machine : Df K mg "is_machine" s_is_machine ["thing", "n"]
  h_places_of : Df K mg "places_of" s_places_of ["machine"]
  h_one_round : Df K mg "one_round" s_one_round ["steps"]
  h_one_choice : Df K mg "one_choice" s_one_choice ["owner", "steps"]
  h_choices : Df K mg "choices" s_choices ["machine", "owner"]
  h_is_row : Df K mg "is_row" s_is_row ["machine", "stand", "thing"]
  h_row_end : Df K mg "row_end" s_row_end ["machine", "stand", "row"]
  h_rows_of : Df K mg "rows_of" s_rows_of ["machine", "stand", "many"]
  h_count_rounds : Df K mg "count_rounds" s_count_rounds ["stands"]
  h_rounds : Df K mg "rounds" s_rounds ["machine"]
  h_round_lengths : Df K mg "round_lengths" s_round_lengths ["machine"]
  h_go_alike : Df K mg "go_alike" s_go_alike ["machine", "other"]
  h_stands_as_met : Df K mg "stands_as_met" s_stands_as_met ["begin", "arrows", "owners"]
  h_steps_as_met : Df K mg "steps_as_met" s_steps_as_met ["steps", "stands"]
  h_each_once : Df K mg "each_once" s_each_once ["values"]
  h_merged : Df K mg "merged" s_merged ["machine"]
  h_renamed_step : Df K mg "renamed_step" s_renamed_step ["step", "order"]
  h_renamed : Df K mg "renamed" s_renamed ["machine", "order"]
  h_one_after_other : Df K mg "one_after_other" s_one_after_other ["machine", "other"]
  h_within_rounds : Df K mg "within_rounds" s_within_rounds ["machine", "wants"]
  h__law_same : Df K mg "_law_same" s__law_same ["got", "due"]
  h__law_two : Df K mg "_law_two" s__law_two []
  h__law_bad : Df K mg "_law_bad" s__law_bad []
  h__law_chain : Df K mg "_law_chain" s__law_chain ["many_so"]
  h__law_wide : Df K mg "_law_wide" s__law_wide ["widths_so"]
  h__law_heard : Df K mg "_law_heard" s__law_heard ["door_so", "machine_so", "more_so"]
  h__law_made_right : Df K mg "_law_made_right" s__law_made_right []
  h__law_alike_right : Df K mg "_law_alike_right" s__law_alike_right []
  h__law_within_right : Df K mg "_law_within_right" s__law_within_right []
  h_law : Df K mg "law" s_law ["script"]
  x_NoPlace : ExL K mg "NoPlace" "NoPlace.__init__" (topS 20) "place" "LookupError"
  x_CanNot : Ex K mg "CanNot" "CanNot.__init__" (topS 21) "ValueError"
  x_TooMuch : Ex K mg "TooMuch" "TooMuch.__init__" (topS 22) "ValueError"
  x_Unfit : Ex K mg "Unfit" "Unfit.__init__" (topS 23) "ValueError"
  ne_NoPlace_Unfit : PySem.W.subIn K (.ref x_NoPlace.C) (.ref x_Unfit.C) = some false
  ne_CanNot_Unfit : PySem.W.subIn K (.ref x_CanNot.C) (.ref x_Unfit.C) = some false
  ne_TooMuch_Unfit : PySem.W.subIn K (.ref x_TooMuch.C) (.ref x_Unfit.C) = some false
  ne_NoPlace_TooMuch : PySem.W.subIn K (.ref x_NoPlace.C) (.ref x_TooMuch.C) = some false
  ne_CanNot_TooMuch : PySem.W.subIn K (.ref x_CanNot.C) (.ref x_TooMuch.C) = some false
  ne_Unfit_TooMuch : PySem.W.subIn K (.ref x_Unfit.C) (.ref x_TooMuch.C) = some false
  ne_CanNot_NoPlace : PySem.W.subIn K (.ref x_CanNot.C) (.ref x_NoPlace.C) = some false
  ne_TooMuch_NoPlace : PySem.W.subIn K (.ref x_TooMuch.C) (.ref x_NoPlace.C) = some false
  ne_Unfit_NoPlace : PySem.W.subIn K (.ref x_Unfit.C) (.ref x_NoPlace.C) = some false
  ne_NoPlace_CanNot : PySem.W.subIn K (.ref x_NoPlace.C) (.ref x_CanNot.C) = some false
  ne_TooMuch_CanNot : PySem.W.subIn K (.ref x_TooMuch.C) (.ref x_CanNot.C) = some false
  ne_Unfit_CanNot : PySem.W.subIn K (.ref x_Unfit.C) (.ref x_CanNot.C) = some false
  c_MOST_ROWS : CInt mg "MOST_ROWS" 2000
  c_NOUGHT : CTup K mg "NOUGHT" [0, 1]
  c_UNIT : CTup K mg "UNIT" [1, 1]
  g_gcd : mg "gcd" = some (.builtin "math.gcd")
  m_ValueError : mg "ValueError" = none
  m_all : mg "all" = none
  m_bool : mg "bool" = none
  m_enumerate : mg "enumerate" = none
  m_int : mg "int" = none
  m_isinstance : mg "isinstance" = none
  m_len : mg "len" = none
  m_list : mg "list" = none
  m_max : mg "max" = none
  m_min : mg "min" = none
  m_range : mg "range" = none
  m_reversed : mg "reversed" = none
  m_set : mg "set" = none
  m_sorted : mg "sorted" = none
  m_str : mg "str" = none
  m_sum : mg "sum" = none
  m_tuple : mg "tuple" = none
  m_zip : mg "zip" = none
def tx {K : PySem.W.Frag} {mg : Str → Option Value} (D : Defs K mg) : XT := ⟨fun c => match c with
  | 0 => some (.ref D.x_NoPlace.C)
  | 1 => some (.ref D.x_CanNot.C)
  | 2 => some (.ref D.x_TooMuch.C)
  | 3 => some (.ref D.x_Unfit.C)
  | _ => none, fun c => match c with
  | 0 => some "place"
  | _ => none⟩
theorem hx_CanNot {K : PySem.W.Frag} {mg : Str → Option Value} (D : Defs K mg) : ∀ n v, (tx D).cls n = some v → PySem.W.exmOne K v (.ref D.x_CanNot.C) = some (Nat.beq n 1)
  | 0, v, e => by cases e; exact exm_ne D.x_CanNot.EC D.x_CanNot.O.tyC D.ne_NoPlace_CanNot
  | 1, v, e => by cases e; exact D.x_CanNot.ex
  | 2, v, e => by cases e; exact exm_ne D.x_CanNot.EC D.x_CanNot.O.tyC D.ne_TooMuch_CanNot
  | 3, v, e => by cases e; exact exm_ne D.x_CanNot.EC D.x_CanNot.O.tyC D.ne_Unfit_CanNot
  | n + 4, v, e => by cases e
theorem hx_NoPlace {K : PySem.W.Frag} {mg : Str → Option Value} (D : Defs K mg) : ∀ n v, (tx D).cls n = some v → PySem.W.exmOne K v (.ref D.x_NoPlace.C) = some (Nat.beq n 0)
  | 0, v, e => by cases e; exact D.x_NoPlace.ex
  | 1, v, e => by cases e; exact exm_ne D.x_NoPlace.EC D.x_NoPlace.O.tyC D.ne_CanNot_NoPlace
  | 2, v, e => by cases e; exact exm_ne D.x_NoPlace.EC D.x_NoPlace.O.tyC D.ne_TooMuch_NoPlace
  | 3, v, e => by cases e; exact exm_ne D.x_NoPlace.EC D.x_NoPlace.O.tyC D.ne_Unfit_NoPlace
  | n + 4, v, e => by cases e
theorem hx_TooMuch {K : PySem.W.Frag} {mg : Str → Option Value} (D : Defs K mg) : ∀ n v, (tx D).cls n = some v → PySem.W.exmOne K v (.ref D.x_TooMuch.C) = some (Nat.beq n 2)
  | 0, v, e => by cases e; exact exm_ne D.x_TooMuch.EC D.x_TooMuch.O.tyC D.ne_NoPlace_TooMuch
  | 1, v, e => by cases e; exact exm_ne D.x_TooMuch.EC D.x_TooMuch.O.tyC D.ne_CanNot_TooMuch
  | 2, v, e => by cases e; exact D.x_TooMuch.ex
  | 3, v, e => by cases e; exact exm_ne D.x_TooMuch.EC D.x_TooMuch.O.tyC D.ne_Unfit_TooMuch
  | n + 4, v, e => by cases e
theorem hx_Unfit {K : PySem.W.Frag} {mg : Str → Option Value} (D : Defs K mg) : ∀ n v, (tx D).cls n = some v → PySem.W.exmOne K v (.ref D.x_Unfit.C) = some (Nat.beq n 3)
  | 0, v, e => by cases e; exact exm_ne D.x_Unfit.EC D.x_Unfit.O.tyC D.ne_NoPlace_Unfit
  | 1, v, e => by cases e; exact exm_ne D.x_Unfit.EC D.x_Unfit.O.tyC D.ne_CanNot_Unfit
  | 2, v, e => by cases e; exact exm_ne D.x_Unfit.EC D.x_Unfit.O.tyC D.ne_TooMuch_Unfit
  | 3, v, e => by cases e; exact D.x_Unfit.ex
  | n + 4, v, e => by cases e
section
variable {P : Program} {w : World} {K : PySem.W.Frag} {mg : Str → Option Value} {base : Heap}
theorem sc_NoPlace : FnScope ["self", "place"] ["self", "place"] (defScope (clsInit (topS 20))) := ⟨rfl, rfl, rfl, by decide +kernel, rfl, by decide +kernel, by decide +kernel⟩
theorem ok_NoPlace (D : Defs K mg) : FnOk P w K mg base (L2.CX P w) 1 D.x_NoPlace.fI D.x_NoPlace.fd ["self", "place"] (spFld D.x_NoPlace.C "place") := ok_fld D.x_NoPlace.F sc_NoPlace D.x_NoPlace.O D.x_NoPlace.no (by rfl) (by decide) (by decide) (by rfl) (by rfl) (fun _ _ => by rfl)
theorem sc_CanNot : FnScope ["self"] ["self"] (defScope (clsInit (topS 21))) := ⟨rfl, rfl, rfl, by decide +kernel, rfl, by decide +kernel, by decide +kernel⟩
theorem ok_CanNot (D : Defs K mg) : FnOk P w K mg base (L2.CX P w) 1 D.x_CanNot.fI D.x_CanNot.fd ["self"] spPass := ok_pass D.x_CanNot.F sc_CanNot (by rfl)
theorem sc_TooMuch : FnScope ["self"] ["self"] (defScope (clsInit (topS 22))) := ⟨rfl, rfl, rfl, by decide +kernel, rfl, by decide +kernel, by decide +kernel⟩
theorem ok_TooMuch (D : Defs K mg) : FnOk P w K mg base (L2.CX P w) 1 D.x_TooMuch.fI D.x_TooMuch.fd ["self"] spPass := ok_pass D.x_TooMuch.F sc_TooMuch (by rfl)
theorem sc_Unfit : FnScope ["self"] ["self"] (defScope (clsInit (topS 23))) := ⟨rfl, rfl, rfl, by decide +kernel, rfl, by decide +kernel, by decide +kernel⟩
theorem ok_Unfit (D : Defs K mg) : FnOk P w K mg base (L2.CX P w) 1 D.x_Unfit.fI D.x_Unfit.fd ["self"] spPass := ok_pass D.x_Unfit.F sc_Unfit (by rfl)
/-! ### is_number -/
theorem sc_is_number : FnScope ["thing"] ["thing"] (defScope s_is_number) := ⟨rfl, rfl, rfl, by decide +kernel, rfl, by decide +kernel, by decide +kernel⟩
def g_is_number : DS := (gRet (dAndV (dIsi .int (dVar 0)) (dNotV (dIsi .bl (dVar 0)))))
def F_is_number : DF := runF g_is_number 1 1
theorem b_is_number (D : Defs K mg) (f : Addr) (cdv : Value) (A : Around) (outer : List Env) (s : Shared) (H : Hp) (E : XK) (hr : Room 0 (A.deeper (envOfC "is_number" (defScope s_is_number) s.heap.objs.size f cdv))) :
    SSs (cxOf (L2.CX P w) P w K mg base ["thing"] "is_number" (defScope s_is_number) f cdv A outer s H E) (tx D) (wOf E) (defBody s_is_number) g_is_number :=
  (ss_one (s_ret (se_and (se_isi .int (by intro h; cases h) (sv 0) (by rfl) D.m_isinstance (pe_tyName "int" (by rfl) D.m_int (by rfl))) (se_one (se_not (se_isi .bl (by intro h; cases h) (sv 0) (by rfl) D.m_isinstance (pe_tyName "bool" (by rfl) D.m_bool (by rfl))))))))
theorem ok_is_number (D : Defs K mg) : FnOk P w K mg base (L2.CX P w) 1 (D.h_is_number).f (D.h_is_number).fd ["thing"] (spNc ⟨K, w, mg⟩ (tx D) F_is_number) := fn_okD (g := g_is_number) (D.h_is_number).F sc_is_number (hF := rfl) (h1 := rfl) (h2 := rfl) (body := fun cdv A outer s H E hr => b_is_number D _ cdv A outer s H E hr)
/-! ### is_number_below -/
theorem sc_is_number_below : FnScope ["thing", "limit"] ["thing", "limit"] (defScope s_is_number_below) := ⟨rfl, rfl, rfl, by decide +kernel, rfl, by decide +kernel, by decide +kernel⟩
def g_is_number_below : DS := (gRet (dAndV (dFn F_is_number (dCons (dVar 0) dNil)) (dChain (dInts leI) dLt (dC (.int 0)) (dVar 0) (dVar 1))))
def F_is_number_below : DF := runF g_is_number_below 2 2
theorem b_is_number_below (D : Defs K mg) (f : Addr) (cdv : Value) (A : Around) (outer : List Env) (s : Shared) (H : Hp) (E : XK) (hr : Room 1 (A.deeper (envOfC "is_number_below" (defScope s_is_number_below) s.heap.objs.size f cdv))) :
    SSs (cxOf (L2.CX P w) P w K mg base ["thing", "limit"] "is_number_below" (defScope s_is_number_below) f cdv A outer s H E) (tx D) (wOf E) (defBody s_is_number_below) g_is_number_below :=
  (ss_one (s_ret (se_and (se_call (ok_is_number (base := base) D) (rm hr) (by rfl) (D.h_is_number).gl (D.h_is_number).F.kp (D.h_is_number).bi (takes_of rfl rfl rfl rfl) (sa_cons (sv 0) sa_nil)) (se_one (se_leLt hr se_int (sv 0) (sv 1))))))
theorem ok_is_number_below (D : Defs K mg) : FnOk P w K mg base (L2.CX P w) 2 (D.h_is_number_below).f (D.h_is_number_below).fd ["thing", "limit"] (spNc ⟨K, w, mg⟩ (tx D) F_is_number_below) := fn_okD (g := g_is_number_below) (D.h_is_number_below).F sc_is_number_below (hF := rfl) (h1 := rfl) (h2 := rfl) (body := fun cdv A outer s H E hr => b_is_number_below D _ cdv A outer s H E hr)
/-! ### is_tuple_of -/
theorem sc_is_tuple_of : FnScope ["thing", "count"] ["thing", "count"] (defScope s_is_tuple_of) := ⟨rfl, rfl, rfl, by decide +kernel, rfl, by decide +kernel, by decide +kernel⟩
def g_is_tuple_of : DS := (gRet (dAndV (dIsi .tup (dVar 0)) (dOp dEq (dCall oLen (dCons (dVar 0) dNil)) (dVar 1))))
def F_is_tuple_of : DF := runF g_is_tuple_of 2 2
theorem b_is_tuple_of (D : Defs K mg) (f : Addr) (cdv : Value) (A : Around) (outer : List Env) (s : Shared) (H : Hp) (E : XK) (hr : Room 0 (A.deeper (envOfC "is_tuple_of" (defScope s_is_tuple_of) s.heap.objs.size f cdv))) :
    SSs (cxOf (L2.CX P w) P w K mg base ["thing", "count"] "is_tuple_of" (defScope s_is_tuple_of) f cdv A outer s H E) (tx D) (wOf E) (defBody s_is_tuple_of) g_is_tuple_of :=
  (ss_one (s_ret (se_and (se_isi .tup (by intro h; cases h) (sv 0) (by rfl) D.m_isinstance (pe_tyName "tuple" (by rfl) D.m_tuple (by rfl))) (se_one (se_eq hr (se_len D.m_len (sv 0)) (sv 1))))))
theorem ok_is_tuple_of (D : Defs K mg) : FnOk P w K mg base (L2.CX P w) 1 (D.h_is_tuple_of).f (D.h_is_tuple_of).fd ["thing", "count"] (spNc ⟨K, w, mg⟩ (tx D) F_is_tuple_of) := fn_okD (g := g_is_tuple_of) (D.h_is_tuple_of).F sc_is_tuple_of (hF := rfl) (h1 := rfl) (h2 := rfl) (body := fun cdv A outer s H E hr => b_is_tuple_of D _ cdv A outer s H E hr)
/-! ### is_filled_tuple -/
theorem sc_is_filled_tuple : FnScope ["thing"] ["thing"] (defScope s_is_filled_tuple) := ⟨rfl, rfl, rfl, by decide +kernel, rfl, by decide +kernel, by decide +kernel⟩
def g_is_filled_tuple : DS := (gRet (dAndV (dIsi .tup (dVar 0)) (dOp (dInts gtI) (dCall oLen (dCons (dVar 0) dNil)) (dC (.int 0)))))
def F_is_filled_tuple : DF := runF g_is_filled_tuple 1 1
theorem b_is_filled_tuple (D : Defs K mg) (f : Addr) (cdv : Value) (A : Around) (outer : List Env) (s : Shared) (H : Hp) (E : XK) (hr : Room 0 (A.deeper (envOfC "is_filled_tuple" (defScope s_is_filled_tuple) s.heap.objs.size f cdv))) :
    SSs (cxOf (L2.CX P w) P w K mg base ["thing"] "is_filled_tuple" (defScope s_is_filled_tuple) f cdv A outer s H E) (tx D) (wOf E) (defBody s_is_filled_tuple) g_is_filled_tuple :=
  (ss_one (s_ret (se_and (se_isi .tup (by intro h; cases h) (sv 0) (by rfl) D.m_isinstance (pe_tyName "tuple" (by rfl) D.m_tuple (by rfl))) (se_one (se_gt (se_len D.m_len (sv 0)) se_int)))))
theorem ok_is_filled_tuple (D : Defs K mg) : FnOk P w K mg base (L2.CX P w) 1 (D.h_is_filled_tuple).f (D.h_is_filled_tuple).fd ["thing"] (spNc ⟨K, w, mg⟩ (tx D) F_is_filled_tuple) := fn_okD (g := g_is_filled_tuple) (D.h_is_filled_tuple).F sc_is_filled_tuple (hF := rfl) (h1 := rfl) (h2 := rfl) (body := fun cdv A outer s H E hr => b_is_filled_tuple D _ cdv A outer s H E hr)
/-! ### is_rising -/
theorem sc_is_rising : FnScope ["values", "k"] ["values"] (defScope s_is_rising) := ⟨rfl, rfl, rfl, by decide +kernel, rfl, by decide +kernel, by decide +kernel⟩
def g_is_rising : DS := (gRet (dCall (oBools allB) (dCons (dLc (iR2 (dCons (dC (.int 1)) (dCons (dCall oLen (dCons (dVar 0) dNil)) dNil))) (gN 1) dYes (dOp dLt (dOp dIxA (dVar 0) (dOp dSub (dVar 1) (dC (.int 1)))) (dOp dIxA (dVar 0) (dVar 1))) [1] 10000) dNil)))
def F_is_rising : DF := runF g_is_rising 1 2
theorem b_is_rising (D : Defs K mg) (f : Addr) (cdv : Value) (A : Around) (outer : List Env) (s : Shared) (H : Hp) (E : XK) (hr : Room 0 (A.deeper (envOfC "is_rising" (defScope s_is_rising) s.heap.objs.size f cdv))) :
    SSs (cxOf (L2.CX P w) P w K mg base ["values", "k"] "is_rising" (defScope s_is_rising) f cdv A outer s H E) (tx D) (wOf E) (defBody s_is_rising) g_is_rising :=
  (ss_one (s_ret (se_all rfl D.m_all (se_lc (own := [("k", 1)]) 10000 rfl sc_is_rising.nd (si_range2 (by rfl) D.m_range (sa_cons se_int (sa_cons (se_len D.m_len (sv 0)) sa_nil))) (blk_of (by kernel_rfl)) (by decide) (fun _ _ _ _ _ => (sg_name sc_is_rising.nd (by rfl) (by first | exact Or.inl rfl | exact Or.inr rfl))) (fun _ _ _ _ _ => sts_nil) (fun _ _ _ _ _ => (se_lt hr (se_sub hr (sv 0) (se_sb (sv 1) se_int) (fun _ _ => rfl)) (se_sub hr (sv 0) (sv 1) (fun _ _ => rfl))))))))
theorem ok_is_rising (D : Defs K mg) : FnOk P w K mg base (L2.CX P w) 1 (D.h_is_rising).f (D.h_is_rising).fd ["values"] (spNc ⟨K, w, mg⟩ (tx D) F_is_rising) := fn_okD (g := g_is_rising) (D.h_is_rising).F sc_is_rising (hF := rfl) (h1 := rfl) (h2 := rfl) (body := fun cdv A outer s H E hr => b_is_rising D _ cdv A outer s H E hr)
/-! ### frozen -/
theorem sc_frozen : FnScope ["value", "part"] ["value"] (defScope s_frozen) := ⟨rfl, rfl, rfl, by decide +kernel, rfl, by decide +kernel, by decide +kernel⟩
def g_frozen (F : DF) : DS := (gSeq (gIf (dTest (dIsi2 .lst .tup (dVar 0))) (gRet (dCall oTuple (dCons (dLc (iSeq (dVar 0)) (gN 1) dYes (dFn F (dCons (dVar 1) dNil)) [1] 10000) dNil))) gNil)
  (gRet (dVar 0)))
def F_frozen : Nat → DF
  | 0 => fun _ _ => .no
  | n + 1 => runF (g_frozen (F_frozen n)) 1 2
theorem b_frozen (D : Defs K mg) (n : Nat) (F : DF) (ih : FnOk P w K mg base (L2.CX P w) (0 + n) (D.h_frozen).f (D.h_frozen).fd ["value"] (spNc ⟨K, w, mg⟩ (tx D) F)) (f : Addr) (cdv : Value) (A : Around) (outer : List Env) (s : Shared) (H : Hp) (E : XK) (hr : Room (0 + n) (A.deeper (envOfC "frozen" (defScope s_frozen) s.heap.objs.size f cdv))) :
    SSs (cxOf (L2.CX P w) P w K mg base ["value", "part"] "frozen" (defScope s_frozen) f cdv A outer s H E) (tx D) (wOf E) (defBody s_frozen) (g_frozen F) :=
  (ss_cons (s_if (st_val (se_isi2 .lst .tup (by intro h; cases h) (by intro h; cases h) (sv 0) (by rfl) D.m_isinstance (pe_tyName "list" (by rfl) D.m_list (by rfl)) (pe_tyName "tuple" (by rfl) D.m_tuple (by rfl)))) (ss_one (s_ret (se_tuple D.m_tuple (se_lc (own := [("part", 1)]) 10000 rfl sc_frozen.nd (si_seq (sv 0)) (blk_of (by kernel_rfl)) (by decide) (fun _ _ _ _ _ => (sg_name sc_frozen.nd (by rfl) (by first | exact Or.inl rfl | exact Or.inr rfl))) (fun _ _ _ _ _ => sts_nil) (fun _ _ _ _ _ => (se_call ih (rm hr) (by rfl) (D.h_frozen).gl (D.h_frozen).F.kp (D.h_frozen).bi takes0 (sa_cons (sv 1) sa_nil))))))) ss_nil)
      (ss_one (s_ret (sv 0))))
theorem okN_frozen (D : Defs K mg) : ∀ n : Nat, FnOk P w K mg base (L2.CX P w) (0 + n) (D.h_frozen).f (D.h_frozen).fd ["value"] (spNc ⟨K, w, mg⟩ (tx D) (F_frozen n))
  | 0 => fn_no
  | n + 1 => fn_okD (k := 0 + n) (g := g_frozen (F_frozen n)) (D.h_frozen).F sc_frozen (hF := rfl) (h1 := rfl) (h2 := rfl) (body := fun cdv A outer s H E hr => b_frozen D n _ (okN_frozen D n) _ cdv A outer s H E hr)
theorem ok_frozen (D : Defs K mg) : FnOk P w K mg base (L2.CX P w) 10 (D.h_frozen).f (D.h_frozen).fd ["value"] (spNc ⟨K, w, mg⟩ (tx D) (F_frozen RL)) := okN_frozen D RL
/-! ### ascending -/
theorem sc_ascending : FnScope ["values"] ["values"] (defScope s_ascending) := ⟨rfl, rfl, rfl, by decide +kernel, rfl, by decide +kernel, by decide +kernel⟩
def g_ascending : DS := (gRet (dCall oTuple (dCons (dSortSet (dVar 0)) dNil)))
def F_ascending : DF := runF g_ascending 1 1
theorem b_ascending (D : Defs K mg) (f : Addr) (cdv : Value) (A : Around) (outer : List Env) (s : Shared) (H : Hp) (E : XK) (hr : Room 0 (A.deeper (envOfC "ascending" (defScope s_ascending) s.heap.objs.size f cdv))) :
    SSs (cxOf (L2.CX P w) P w K mg base ["values"] "ascending" (defScope s_ascending) f cdv A outer s H E) (tx D) (wOf E) (defBody s_ascending) g_ascending :=
  (ss_one (s_ret (se_tuple D.m_tuple (se_sortSet hr rfl D.m_sorted D.m_set (sv 0)))))
theorem ok_ascending (D : Defs K mg) : FnOk P w K mg base (L2.CX P w) 1 (D.h_ascending).f (D.h_ascending).fd ["values"] (spNc ⟨K, w, mg⟩ (tx D) F_ascending) := fn_okD (g := g_ascending) (D.h_ascending).F sc_ascending (hF := rfl) (h1 := rfl) (h2 := rfl) (body := fun cdv A outer s H E hr => b_ascending D _ cdv A outer s H E hr)
/-! ### inner_order -/
theorem sc_inner_order : FnScope ["stands", "_", "ahead", "arrows", "end", "stand", "order", "at"] ["stands"] (defScope s_inner_order) := ⟨rfl, rfl, rfl, by decide +kernel, rfl, by decide +kernel, by decide +kernel⟩
def g_inner_order : DS := (gSeq (gAsg (dLc (iSeq (dVar 0)) (gN 1) dYes (dC (.int 0)) [1] 10000) (gN 2))
  (gSeq (gForI (iSeq (dSl (dVar 0) (dSome (dC (.int 1))) dNo)) (gTupD 2 (gsCons (gN 1) (gsCons (gN 3) gsNil))) (gForI (iSeq (dVar 3)) (gTupD 2 (gsCons (gN 1) (gsCons (gN 4) gsNil))) (gAugS (dVar 2) (dVar 4) (dC (.int 1)) dAddI) 10000) 10000)
  (gSeq (gAsg (dLc (iR2 (dCons (dC (.int 1)) (dCons (dCall oLen (dCons (dVar 0) dNil)) dNil))) (gN 5) (dTest (dOp dEq (dOp dIxA (dVar 2) (dVar 5)) (dC (.int 0)))) (dVar 5) [5] 10000) (gN 6))
  (gSeq (gAsg (dC (.int 0)) (gN 7))
  (gSeq (gWhile (dTest (dOp dLt (dVar 7) (dCall oLen (dCons (dVar 6) dNil)))) (gSeq (gAsg (dOp dIxA (dOp dIxA (dVar 0) (dOp dIxA (dVar 6) (dVar 7))) (dC (.int 1))) (gN 3))
  (gSeq (gForI (iSeq (dVar 3)) (gTupD 2 (gsCons (gN 1) (gsCons (gN 4) gsNil))) (gSeq (gAugS (dVar 2) (dVar 4) (dC (.int 1)) dSubI)
  (gIf (dAnd (dTest (dOp dNe (dVar 4) (dC (.int 0)))) (dTest (dOp dEq (dOp dIxA (dVar 2) (dVar 4)) (dC (.int 0))))) (gExpr (dMeth oAppend (dVar 6) (dCons (dVar 4) dNil))) gNil)) 10000)
  (gAug 7 (dC (.int 1)) dAddI))) 10000)
  (gRet (dVar 6)))))))
def F_inner_order : DF := runF g_inner_order 1 8
theorem b_inner_order (D : Defs K mg) (f : Addr) (cdv : Value) (A : Around) (outer : List Env) (s : Shared) (H : Hp) (E : XK) (hr : Room 0 (A.deeper (envOfC "inner_order" (defScope s_inner_order) s.heap.objs.size f cdv))) :
    SSs (cxOf (L2.CX P w) P w K mg base ["stands", "_", "ahead", "arrows", "end", "stand", "order", "at"] "inner_order" (defScope s_inner_order) f cdv A outer s H E) (tx D) (wOf E) (defBody s_inner_order) g_inner_order :=
  (ss_cons (s_set sc_inner_order.nd (by rfl) (by first | exact Or.inl rfl | exact Or.inr rfl) (se_lc (own := [("_", 1)]) 10000 rfl sc_inner_order.nd (si_seq (sv 0)) (blk_of (by kernel_rfl)) (by decide) (fun _ _ _ _ _ => (sg_name sc_inner_order.nd (by rfl) (by first | exact Or.inl rfl | exact Or.inr rfl))) (fun _ _ _ _ _ => sts_nil) (fun _ _ _ _ _ => se_int)))
      (ss_cons (s_for 10000 (passes_of rfl) rfl (si_seq (se_sl (sv 0) (so_some se_int) so_none)) (sg_tup rfl (sgs_cons (sg_name sc_inner_order.nd (by rfl) (by first | exact Or.inl rfl | exact Or.inr rfl)) (sgs_cons (sg_name sc_inner_order.nd (by rfl) (by first | exact Or.inl rfl | exact Or.inr rfl)) sgs_nil))) (ss_one (s_for 10000 (passes_of rfl) rfl (si_seq (sv 3)) (sg_tup rfl (sgs_cons (sg_name sc_inner_order.nd (by rfl) (by first | exact Or.inl rfl | exact Or.inr rfl)) (sgs_cons (sg_name sc_inner_order.nd (by rfl) (by first | exact Or.inl rfl | exact Or.inr rfl)) sgs_nil))) (ss_one (s_augS hr (sv 2) (sv 4) se_int ip_add oi_add)))))
      (ss_cons (s_setLc (own := [("stand", 5)]) 10000 (i := 6) rfl sc_inner_order.nd (by rfl) (by rfl) (by rfl) (si_range2 (by rfl) D.m_range (sa_cons se_int (sa_cons (se_len D.m_len (sv 0)) sa_nil))) (blk_of (by kernel_rfl)) (by decide) (fun _ _ _ _ _ => (sg_name sc_inner_order.nd (by rfl) (by first | exact Or.inl rfl | exact Or.inr rfl))) (fun _ _ _ _ _ => (sts_one (st_eq hr (se_sub hr (sv 2) (sv 5) (fun _ _ => rfl)) se_int))) (fun _ _ _ _ _ => (sv 5)))
      (ss_cons (s_set sc_inner_order.nd (by rfl) (by first | exact Or.inl rfl | exact Or.inr rfl) se_int)
      (ss_cons (s_while 10000 (passes_of rfl) (st_lt hr (sv 7) (se_len D.m_len (sv 6))) (ss_cons (s_set sc_inner_order.nd (by rfl) (by first | exact Or.inl rfl | exact Or.inr rfl) (se_sub hr (se_sub hr (sv 0) (se_sub hr (sv 6) (sv 7) (fun _ _ => rfl)) (fun _ _ => rfl)) se_int (fun _ _ => rfl)))
      (ss_cons (s_for 10000 (passes_of rfl) rfl (si_seq (sv 3)) (sg_tup rfl (sgs_cons (sg_name sc_inner_order.nd (by rfl) (by first | exact Or.inl rfl | exact Or.inr rfl)) (sgs_cons (sg_name sc_inner_order.nd (by rfl) (by first | exact Or.inl rfl | exact Or.inr rfl)) sgs_nil))) (ss_cons (s_augS hr (sv 2) (sv 4) se_int ip_sub oi_sub)
      (ss_one (s_if (SW.st (sw_and (st_ne hr (sv 4) se_int) (sw_and1 (st_eq hr (se_sub hr (sv 2) (sv 4) (fun _ _ => rfl)) se_int)))) (ss_one (s_expr (se_meth PySem.F.slot_list_append PySem.F.type_list_append mt_append om_append (sv 6) (sa_cons (sv 4) sa_nil)))) ss_nil))))
      (ss_one (s_aug sc_inner_order.nd (by rfl) (by first | exact Or.inl rfl | exact Or.inr rfl) se_int ip_add oi_add)))))
      (ss_one (s_ret (sv 6))))))))
theorem ok_inner_order (D : Defs K mg) : FnOk P w K mg base (L2.CX P w) 1 (D.h_inner_order).f (D.h_inner_order).fd ["stands"] (spNc ⟨K, w, mg⟩ (tx D) F_inner_order) := fn_okD (g := g_inner_order) (D.h_inner_order).F sc_inner_order (hF := rfl) (h1 := rfl) (h2 := rfl) (body := fun cdv A outer s H E hr => b_inner_order D _ cdv A outer s H E hr)
/-! ### end_of -/
theorem sc_end_of : FnScope ["stands", "stand", "row", "arrow"] ["stands", "stand", "row"] (defScope s_end_of) := ⟨rfl, rfl, rfl, by decide +kernel, rfl, by decide +kernel, by decide +kernel⟩
def g_end_of : DS := (gSeq (gForI (iSeq (dVar 2)) (gN 3) (gAsg (dOp dIxA (dOp dIxA (dOp dIxA (dOp dIxA (dVar 0) (dVar 1)) (dC (.int 1))) (dVar 3)) (dC (.int 1))) (gN 1)) 10000)
  (gRet (dVar 1)))
def F_end_of : DF := runF g_end_of 3 4
theorem b_end_of (D : Defs K mg) (f : Addr) (cdv : Value) (A : Around) (outer : List Env) (s : Shared) (H : Hp) (E : XK) (hr : Room 0 (A.deeper (envOfC "end_of" (defScope s_end_of) s.heap.objs.size f cdv))) :
    SSs (cxOf (L2.CX P w) P w K mg base ["stands", "stand", "row", "arrow"] "end_of" (defScope s_end_of) f cdv A outer s H E) (tx D) (wOf E) (defBody s_end_of) g_end_of :=
  (ss_cons (s_for 10000 (passes_of rfl) rfl (si_seq (sv 2)) (sg_name sc_end_of.nd (by rfl) (by first | exact Or.inl rfl | exact Or.inr rfl)) (ss_one (s_set sc_end_of.nd (by rfl) (by first | exact Or.inl rfl | exact Or.inr rfl) (se_sub hr (se_sub hr (se_sub hr (se_sub hr (sv 0) (sv 1) (fun _ _ => rfl)) se_int (fun _ _ => rfl)) (sv 3) (fun _ _ => rfl)) se_int (fun _ _ => rfl)))))
      (ss_one (s_ret (sv 1))))
theorem ok_end_of (D : Defs K mg) : FnOk P w K mg base (L2.CX P w) 1 (D.h_end_of).f (D.h_end_of).fd ["stands", "stand", "row"] (spNc ⟨K, w, mg⟩ (tx D) F_end_of) := fn_okD (g := g_end_of) (D.h_end_of).F sc_end_of (hF := rfl) (h1 := rfl) (h2 := rfl) (body := fun cdv A outer s H E hr => b_end_of D _ cdv A outer s H E hr)
/-! ### longer_rows -/
theorem sc_longer_rows : FnScope ["stands", "found", "row", "here", "k", "_", "end"] ["stands", "found"] (defScope s_longer_rows) := ⟨rfl, rfl, rfl, by decide +kernel, rfl, by decide +kernel, by decide +kernel⟩
def g_longer_rows : DS := (gRet (dLc2 (iSeq (dVar 1)) (gTupD 2 (gsCons (gN 2) (gsCons (gN 3) gsNil))) dYes (iEnumD (dCons (dOp dIxA (dOp dIxA (dVar 0) (dVar 3)) (dC (.int 1))) dNil)) (gTupD 2 (gsCons (gN 4) (gsCons (gTupD 2 (gsCons (gN 5) (gsCons (gN 6) gsNil))) gsNil))) dYes (dTup (dCons (dOp dAdd (dVar 2) (dTup (dCons (dVar 4) dNil))) (dCons (dVar 6) dNil))) [2, 3, 4, 5, 6] [4, 5, 6] 10000 10000))
def F_longer_rows : DF := runF g_longer_rows 2 7
theorem b_longer_rows (D : Defs K mg) (f : Addr) (cdv : Value) (A : Around) (outer : List Env) (s : Shared) (H : Hp) (E : XK) (hr : Room 0 (A.deeper (envOfC "longer_rows" (defScope s_longer_rows) s.heap.objs.size f cdv))) :
    SSs (cxOf (L2.CX P w) P w K mg base ["stands", "found", "row", "here", "k", "_", "end"] "longer_rows" (defScope s_longer_rows) f cdv A outer s H E) (tx D) (wOf E) (defBody s_longer_rows) g_longer_rows :=
  (ss_one (s_ret (se_lc2 (own := [("row", 2), ("here", 3), ("k", 4), ("_", 5), ("end", 6)]) (vs1 := [4, 5, 6]) 10000 10000 rfl sc_longer_rows.nd (si_seq (sv 1)) (blk_of (by kernel_rfl)) (by decide) (by decide) (by decide) (fun _ _ _ _ _ => (sg_tup rfl (sgs_cons (sg_name sc_longer_rows.nd (by rfl) (by first | exact Or.inl rfl | exact Or.inr rfl)) (sgs_cons (sg_name sc_longer_rows.nd (by rfl) (by first | exact Or.inl rfl | exact Or.inr rfl)) sgs_nil)))) (fun _ _ _ _ _ => sts_nil) (fun _ _ _ _ _ => (si_enum (by rfl) D.m_enumerate (sa_cons (se_sub hr (se_sub hr (sv 0) (sv 3) (fun _ _ => rfl)) se_int (fun _ _ => rfl)) sa_nil))) (fun _ _ _ _ _ => (sg_tup rfl (sgs_cons (sg_name sc_longer_rows.nd (by rfl) (by first | exact Or.inl rfl | exact Or.inr rfl)) (sgs_cons (sg_tup rfl (sgs_cons (sg_name sc_longer_rows.nd (by rfl) (by first | exact Or.inl rfl | exact Or.inr rfl)) (sgs_cons (sg_name sc_longer_rows.nd (by rfl) (by first | exact Or.inl rfl | exact Or.inr rfl)) sgs_nil))) sgs_nil)))) (fun _ _ _ _ _ => sts_nil) (fun _ _ _ _ _ => (se_tup (sa_cons (se_add (sv 2) (se_tup (sa_cons (sv 4) sa_nil))) (sa_cons (sv 6) sa_nil)))))))
theorem ok_longer_rows (D : Defs K mg) : FnOk P w K mg base (L2.CX P w) 1 (D.h_longer_rows).f (D.h_longer_rows).fd ["stands", "found"] (spNc ⟨K, w, mg⟩ (tx D) F_longer_rows) := fn_okD (g := g_longer_rows) (D.h_longer_rows).F sc_longer_rows (hF := rfl) (h1 := rfl) (h2 := rfl) (body := fun cdv A outer s H E hr => b_longer_rows D _ cdv A outer s H E hr)
/-! ### met_order -/
theorem sc_met_order : FnScope ["begin", "arrows", "order", "met", "at", "going", "_", "end"] ["begin", "arrows"] (defScope s_met_order) := ⟨rfl, rfl, rfl, by decide +kernel, rfl, by decide +kernel, by decide +kernel⟩
def g_met_order : DS := (gSeq (gAsg (dLst (dCons (dVar 0) dNil)) (gN 2))
  (gSeq (gAsg (dDict1 (dVar 0) (dC (.bl true))) (gN 3))
  (gSeq (gAsg (dC (.int 0)) (gN 4))
  (gSeq (gWhile (dTest (dOp dLt (dVar 4) (dCall oLen (dCons (dVar 2) dNil)))) (gSeq (gAsg (dOp dIxA (dVar 1) (dOp dIxA (dVar 2) (dVar 4))) (gN 5))
  (gSeq (gForI (iSeq (dVar 5)) (gTupD 2 (gsCons (gN 6) (gsCons (gN 7) gsNil))) (gIf (dTest (dOp (dInB true) (dVar 7) (dVar 3))) (gSeq (gAsg (dC (.bl true)) (gSubD (dVar 3) (dVar 7)))
  (gExpr (dMeth oAppend (dVar 2) (dCons (dVar 7) dNil)))) gNil) 10000)
  (gAug 4 (dC (.int 1)) dAddI))) 10000)
  (gRet (dVar 2))))))
def F_met_order : DF := runF g_met_order 2 8
theorem b_met_order (D : Defs K mg) (f : Addr) (cdv : Value) (A : Around) (outer : List Env) (s : Shared) (H : Hp) (E : XK) (hr : Room 0 (A.deeper (envOfC "met_order" (defScope s_met_order) s.heap.objs.size f cdv))) :
    SSs (cxOf (L2.CX P w) P w K mg base ["begin", "arrows", "order", "met", "at", "going", "_", "end"] "met_order" (defScope s_met_order) f cdv A outer s H E) (tx D) (wOf E) (defBody s_met_order) g_met_order :=
  (ss_cons (s_set sc_met_order.nd (by rfl) (by first | exact Or.inl rfl | exact Or.inr rfl) (se_lst (sa_cons (sv 0) sa_nil)))
      (ss_cons (s_set sc_met_order.nd (by rfl) (by first | exact Or.inl rfl | exact Or.inr rfl) (se_dict1 hr (sv 0) se_bl))
      (ss_cons (s_set sc_met_order.nd (by rfl) (by first | exact Or.inl rfl | exact Or.inr rfl) se_int)
      (ss_cons (s_while 10000 (passes_of rfl) (st_lt hr (sv 4) (se_len D.m_len (sv 2))) (ss_cons (s_set sc_met_order.nd (by rfl) (by first | exact Or.inl rfl | exact Or.inr rfl) (se_sub hr (sv 1) (se_sub hr (sv 2) (sv 4) (fun _ _ => rfl)) (fun _ _ => rfl)))
      (ss_cons (s_for 10000 (passes_of rfl) rfl (si_seq (sv 5)) (sg_tup rfl (sgs_cons (sg_name sc_met_order.nd (by rfl) (by first | exact Or.inl rfl | exact Or.inr rfl)) (sgs_cons (sg_name sc_met_order.nd (by rfl) (by first | exact Or.inl rfl | exact Or.inr rfl)) sgs_nil))) (ss_one (s_if (st_nin2 hr (sv 7) (sv 3)) (ss_cons (s_asg se_bl (sg_sub (T := tx D) hr (sv 3) (sv 7)))
      (ss_one (s_expr (se_meth PySem.F.slot_list_append PySem.F.type_list_append mt_append om_append (sv 2) (sa_cons (sv 7) sa_nil))))) ss_nil)))
      (ss_one (s_aug sc_met_order.nd (by rfl) (by first | exact Or.inl rfl | exact Or.inr rfl) se_int ip_add oi_add)))))
      (ss_one (s_ret (sv 2)))))))
theorem ok_met_order (D : Defs K mg) : FnOk P w K mg base (L2.CX P w) 1 (D.h_met_order).f (D.h_met_order).fd ["begin", "arrows"] (spNc ⟨K, w, mg⟩ (tx D) F_met_order) := fn_okD (g := g_met_order) (D.h_met_order).F sc_met_order (hF := rfl) (h1 := rfl) (h2 := rfl) (body := fun cdv A outer s H E hr => b_met_order D _ cdv A outer s H E hr)
/-! ### numbers_of -/
theorem sc_numbers_of : FnScope ["values", "known", "numbers", "value"] ["values", "known"] (defScope s_numbers_of) := ⟨rfl, rfl, rfl, by decide +kernel, rfl, by decide +kernel, by decide +kernel⟩
def g_numbers_of : DS := (gSeq (gAsg (dLst dNil) (gN 2))
  (gSeq (gForI (iSeq (dVar 0)) (gN 3) (gSeq (gIf (dTest (dOp (dInB true) (dVar 3) (dVar 1))) (gAsg (dCall oLen2 (dCons (dVar 1) dNil)) (gSubD (dVar 1) (dVar 3))) gNil)
  (gExpr (dMeth oAppend (dVar 2) (dCons (dOp dIxA (dVar 1) (dVar 3)) dNil)))) 10000)
  (gRet (dVar 2))))
def F_numbers_of : DF := runF g_numbers_of 2 4
theorem b_numbers_of (D : Defs K mg) (f : Addr) (cdv : Value) (A : Around) (outer : List Env) (s : Shared) (H : Hp) (E : XK) (hr : Room 0 (A.deeper (envOfC "numbers_of" (defScope s_numbers_of) s.heap.objs.size f cdv))) :
    SSs (cxOf (L2.CX P w) P w K mg base ["values", "known", "numbers", "value"] "numbers_of" (defScope s_numbers_of) f cdv A outer s H E) (tx D) (wOf E) (defBody s_numbers_of) g_numbers_of :=
  (ss_cons (s_set sc_numbers_of.nd (by rfl) (by first | exact Or.inl rfl | exact Or.inr rfl) (se_lst sa_nil))
      (ss_cons (s_for 10000 (passes_of rfl) rfl (si_seq (sv 0)) (sg_name sc_numbers_of.nd (by rfl) (by first | exact Or.inl rfl | exact Or.inr rfl)) (ss_cons (s_if (st_nin2 hr (sv 3) (sv 1)) (ss_one (s_asg (se_len2 D.m_len (sv 1)) (sg_sub (T := tx D) hr (sv 1) (sv 3)))) ss_nil)
      (ss_one (s_expr (se_meth PySem.F.slot_list_append PySem.F.type_list_append mt_append om_append (sv 2) (sa_cons (se_sub hr (sv 1) (sv 3) (fun _ _ => rfl)) sa_nil))))))
      (ss_one (s_ret (sv 2)))))
theorem ok_numbers_of (D : Defs K mg) : FnOk P w K mg base (L2.CX P w) 1 (D.h_numbers_of).f (D.h_numbers_of).fd ["values", "known"] (spNc ⟨K, w, mg⟩ (tx D) F_numbers_of) := fn_okD (g := g_numbers_of) (D.h_numbers_of).F sc_numbers_of (hF := rfl) (h1 := rfl) (h2 := rfl) (body := fun cdv A outer s H E hr => b_numbers_of D _ cdv A outer s H E hr)
/-! ### kind_of_stand -/
theorem sc_kind_of_stand : FnScope ["stand", "step_kinds", "stand_kinds", "owner", "arrows", "step", "end", "going"] ["stand", "step_kinds", "stand_kinds"] (defScope s_kind_of_stand) := ⟨rfl, rfl, rfl, by decide +kernel, rfl, by decide +kernel, by decide +kernel⟩
def g_kind_of_stand : DS := (gSeq (gAsg (dVar 0) (gTupD 2 (gsCons (gN 3) (gsCons (gN 4) gsNil))))
  (gSeq (gAsg (dFn F_ascending (dCons (dLc (iSeq (dVar 4)) (gTupD 2 (gsCons (gN 5) (gsCons (gN 6) gsNil))) dYes (dTup (dCons (dOp dIxA (dVar 1) (dVar 5)) (dCons (dOp dIxA (dVar 2) (dVar 6)) dNil))) [5, 6] 10000) dNil)) (gN 7))
  (gSeq (gIf (dTest (dOp dEq (dCall oLen (dCons (dVar 7) dNil)) (dC (.int 1)))) (gRet (dTup (dCons (dC (.str "")) (dCons (dVar 7) dNil)))) gNil)
  (gRet (dTup (dCons (dVar 3) (dCons (dVar 7) dNil)))))))
def F_kind_of_stand : DF := runF g_kind_of_stand 3 8
theorem b_kind_of_stand (D : Defs K mg) (f : Addr) (cdv : Value) (A : Around) (outer : List Env) (s : Shared) (H : Hp) (E : XK) (hr : Room 1 (A.deeper (envOfC "kind_of_stand" (defScope s_kind_of_stand) s.heap.objs.size f cdv))) :
    SSs (cxOf (L2.CX P w) P w K mg base ["stand", "step_kinds", "stand_kinds", "owner", "arrows", "step", "end", "going"] "kind_of_stand" (defScope s_kind_of_stand) f cdv A outer s H E) (tx D) (wOf E) (defBody s_kind_of_stand) g_kind_of_stand :=
  (ss_cons (s_asg (sv 0) (sg_tup rfl (sgs_cons (sg_name sc_kind_of_stand.nd (by rfl) (by first | exact Or.inl rfl | exact Or.inr rfl)) (sgs_cons (sg_name sc_kind_of_stand.nd (by rfl) (by first | exact Or.inl rfl | exact Or.inr rfl)) sgs_nil))))
      (ss_cons (s_set sc_kind_of_stand.nd (by rfl) (by first | exact Or.inl rfl | exact Or.inr rfl) (se_call (ok_ascending (base := base) D) (rm hr) (by rfl) (D.h_ascending).gl (D.h_ascending).F.kp (D.h_ascending).bi (takes_of rfl rfl rfl rfl) (sa_cons (se_lc (own := [("step", 5), ("end", 6)]) 10000 rfl sc_kind_of_stand.nd (si_seq (sv 4)) (blk_of (by kernel_rfl)) (by decide) (fun _ _ _ _ _ => (sg_tup rfl (sgs_cons (sg_name sc_kind_of_stand.nd (by rfl) (by first | exact Or.inl rfl | exact Or.inr rfl)) (sgs_cons (sg_name sc_kind_of_stand.nd (by rfl) (by first | exact Or.inl rfl | exact Or.inr rfl)) sgs_nil)))) (fun _ _ _ _ _ => sts_nil) (fun _ _ _ _ _ => (se_tup (sa_cons (se_sub hr (sv 1) (sv 5) (fun _ _ => rfl)) (sa_cons (se_sub hr (sv 2) (sv 6) (fun _ _ => rfl)) sa_nil))))) sa_nil)))
      (ss_cons (s_if (st_eq hr (se_len D.m_len (sv 7)) se_int) (ss_one (s_ret (se_tup (sa_cons se_str (sa_cons (sv 7) sa_nil))))) ss_nil)
      (ss_one (s_ret (se_tup (sa_cons (sv 3) (sa_cons (sv 7) sa_nil))))))))
theorem ok_kind_of_stand (D : Defs K mg) : FnOk P w K mg base (L2.CX P w) 2 (D.h_kind_of_stand).f (D.h_kind_of_stand).fd ["stand", "step_kinds", "stand_kinds"] (spNc ⟨K, w, mg⟩ (tx D) F_kind_of_stand) := fn_okD (g := g_kind_of_stand) (D.h_kind_of_stand).F sc_kind_of_stand (hF := rfl) (h1 := rfl) (h2 := rfl) (body := fun cdv A outer s H E hr => b_kind_of_stand D _ cdv A outer s H E hr)
/-! ### inner_kinds -/
theorem sc_inner_kinds : FnScope ["stands", "step_kinds", "known", "kinds", "stand"] ["stands", "step_kinds", "known"] (defScope s_inner_kinds) := ⟨rfl, rfl, rfl, by decide +kernel, rfl, by decide +kernel, by decide +kernel⟩
def g_inner_kinds : DS := (gSeq (gAsg (dDict1 (dC (.int 0)) (dC (.int 0))) (gN 3))
  (gSeq (gForI (iRevD (dFn F_inner_order (dCons (dVar 0) dNil))) (gN 4) (gAsg (dOp dAdd (dC (.int 1)) (dOp dIxA (dFn F_numbers_of (dCons (dLst (dCons (dFn F_kind_of_stand (dCons (dOp dIxA (dVar 0) (dVar 4)) (dCons (dVar 1) (dCons (dVar 3) dNil)))) dNil)) (dCons (dVar 2) dNil))) (dC (.int 0)))) (gSubD (dVar 3) (dVar 4))) 10000)
  (gRet (dVar 3))))
def F_inner_kinds : DF := runF g_inner_kinds 3 5
theorem b_inner_kinds (D : Defs K mg) (f : Addr) (cdv : Value) (A : Around) (outer : List Env) (s : Shared) (H : Hp) (E : XK) (hr : Room 2 (A.deeper (envOfC "inner_kinds" (defScope s_inner_kinds) s.heap.objs.size f cdv))) :
    SSs (cxOf (L2.CX P w) P w K mg base ["stands", "step_kinds", "known", "kinds", "stand"] "inner_kinds" (defScope s_inner_kinds) f cdv A outer s H E) (tx D) (wOf E) (defBody s_inner_kinds) g_inner_kinds :=
  (ss_cons (s_set sc_inner_kinds.nd (by rfl) (by first | exact Or.inl rfl | exact Or.inr rfl) (se_dict1 hr se_int se_int))
      (ss_cons (s_for 10000 (passes_of rfl) rfl (si_rev (by rfl) D.m_reversed (se_call (ok_inner_order (base := base) D) (rm hr) (by rfl) (D.h_inner_order).gl (D.h_inner_order).F.kp (D.h_inner_order).bi (takes_of rfl rfl rfl rfl) (sa_cons (sv 0) sa_nil))) (sg_name sc_inner_kinds.nd (by rfl) (by first | exact Or.inl rfl | exact Or.inr rfl)) (ss_one (s_asg (se_add se_int (se_sub hr (se_call (ok_numbers_of (base := base) D) (rm hr) (by rfl) (D.h_numbers_of).gl (D.h_numbers_of).F.kp (D.h_numbers_of).bi (takes_of rfl rfl rfl rfl) (sa_cons (se_lst (sa_cons (se_call (ok_kind_of_stand (base := base) D) (rm hr) (by rfl) (D.h_kind_of_stand).gl (D.h_kind_of_stand).F.kp (D.h_kind_of_stand).bi (takes_of rfl rfl rfl rfl) (sa_cons (se_sub hr (sv 0) (sv 4) (fun _ _ => rfl)) (sa_cons (sv 1) (sa_cons (sv 3) sa_nil)))) sa_nil)) (sa_cons (sv 2) sa_nil))) se_int (fun _ _ => rfl))) (sg_sub (T := tx D) hr (sv 3) (sv 4)))))
      (ss_one (s_ret (sv 3)))))
theorem ok_inner_kinds (D : Defs K mg) : FnOk P w K mg base (L2.CX P w) 3 (D.h_inner_kinds).f (D.h_inner_kinds).fd ["stands", "step_kinds", "known"] (spNc ⟨K, w, mg⟩ (tx D) F_inner_kinds) := fn_okD (g := g_inner_kinds) (D.h_inner_kinds).F sc_inner_kinds (hF := rfl) (h1 := rfl) (h2 := rfl) (body := fun cdv A outer s H E hr => b_inner_kinds D _ cdv A outer s H E hr)
/-! ### begin_kind -/
theorem sc_begin_kind : FnScope ["machine", "known_steps", "known_kinds", "steps", "stands", "step_kinds"] ["machine", "known_steps", "known_kinds"] (defScope s_begin_kind) := ⟨rfl, rfl, rfl, by decide +kernel, rfl, by decide +kernel, by decide +kernel⟩
def g_begin_kind : DS := (gSeq (gAsg (dVar 0) (gTupD 2 (gsCons (gN 3) (gsCons (gN 4) gsNil))))
  (gSeq (gAsg (dFn F_numbers_of (dCons (dVar 3) (dCons (dVar 1) dNil))) (gN 5))
  (gRet (dFn F_kind_of_stand (dCons (dOp dIxA (dVar 4) (dC (.int 0))) (dCons (dVar 5) (dCons (dFn F_inner_kinds (dCons (dVar 4) (dCons (dVar 5) (dCons (dVar 2) dNil)))) dNil)))))))
def F_begin_kind : DF := runF g_begin_kind 3 6
theorem b_begin_kind (D : Defs K mg) (f : Addr) (cdv : Value) (A : Around) (outer : List Env) (s : Shared) (H : Hp) (E : XK) (hr : Room 3 (A.deeper (envOfC "begin_kind" (defScope s_begin_kind) s.heap.objs.size f cdv))) :
    SSs (cxOf (L2.CX P w) P w K mg base ["machine", "known_steps", "known_kinds", "steps", "stands", "step_kinds"] "begin_kind" (defScope s_begin_kind) f cdv A outer s H E) (tx D) (wOf E) (defBody s_begin_kind) g_begin_kind :=
  (ss_cons (s_asg (sv 0) (sg_tup rfl (sgs_cons (sg_name sc_begin_kind.nd (by rfl) (by first | exact Or.inl rfl | exact Or.inr rfl)) (sgs_cons (sg_name sc_begin_kind.nd (by rfl) (by first | exact Or.inl rfl | exact Or.inr rfl)) sgs_nil))))
      (ss_cons (s_set sc_begin_kind.nd (by rfl) (by first | exact Or.inl rfl | exact Or.inr rfl) (se_call (ok_numbers_of (base := base) D) (rm hr) (by rfl) (D.h_numbers_of).gl (D.h_numbers_of).F.kp (D.h_numbers_of).bi (takes_of rfl rfl rfl rfl) (sa_cons (sv 3) (sa_cons (sv 1) sa_nil))))
      (ss_one (s_ret (se_call (ok_kind_of_stand (base := base) D) (rm hr) (by rfl) (D.h_kind_of_stand).gl (D.h_kind_of_stand).F.kp (D.h_kind_of_stand).bi (takes_of rfl rfl rfl rfl) (sa_cons (se_sub hr (sv 4) se_int (fun _ _ => rfl)) (sa_cons (sv 5) (sa_cons (se_call (ok_inner_kinds (base := base) D) (rm hr) (by rfl) (D.h_inner_kinds).gl (D.h_inner_kinds).F.kp (D.h_inner_kinds).bi (takes_of rfl rfl rfl rfl) (sa_cons (sv 4) (sa_cons (sv 5) (sa_cons (sv 2) sa_nil)))) sa_nil))))))))
theorem ok_begin_kind (D : Defs K mg) : FnOk P w K mg base (L2.CX P w) 4 (D.h_begin_kind).f (D.h_begin_kind).fd ["machine", "known_steps", "known_kinds"] (spNc ⟨K, w, mg⟩ (tx D) F_begin_kind) := fn_okD (g := g_begin_kind) (D.h_begin_kind).F sc_begin_kind (hF := rfl) (h1 := rfl) (h2 := rfl) (body := fun cdv A outer s H E hr => b_begin_kind D _ cdv A outer s H E hr)
/-! ### counts_behind -/
theorem sc_counts_behind : FnScope ["counts", "wants", "step", "behind", "count", "place", "most"] ["counts", "wants", "step"] (defScope s_counts_behind) := ⟨rfl, rfl, rfl, by decide +kernel, rfl, by decide +kernel, by decide +kernel⟩
def g_counts_behind : DS := (gSeq (gAsg (dLst dNil) (gN 3))
  (gSeq (gForI (iZip2 (dCons (dVar 0) (dCons (dVar 1) dNil))) (gTupD 2 (gsCons (gN 4) (gsCons (gTupD 2 (gsCons (gN 5) (gsCons (gN 6) gsNil))) gsNil))) (gIf (dTest (dOp dEq (dVar 2) (dVar 5))) (gExpr (dMeth oAppend (dVar 3) (dCons (dC (.int 0)) dNil))) (gIf (dTest (dOp dLt (dOp dAdd (dVar 4) (dC (.int 1))) (dVar 6))) (gExpr (dMeth oAppend (dVar 3) (dCons (dOp dAdd (dVar 4) (dC (.int 1))) dNil))) (gRet (dC .non)))) 10000)
  (gRet (dCall oTuple (dCons (dVar 3) dNil)))))
def F_counts_behind : DF := runF g_counts_behind 3 7
theorem b_counts_behind (D : Defs K mg) (f : Addr) (cdv : Value) (A : Around) (outer : List Env) (s : Shared) (H : Hp) (E : XK) (hr : Room 0 (A.deeper (envOfC "counts_behind" (defScope s_counts_behind) s.heap.objs.size f cdv))) :
    SSs (cxOf (L2.CX P w) P w K mg base ["counts", "wants", "step", "behind", "count", "place", "most"] "counts_behind" (defScope s_counts_behind) f cdv A outer s H E) (tx D) (wOf E) (defBody s_counts_behind) g_counts_behind :=
  (ss_cons (s_set sc_counts_behind.nd (by rfl) (by first | exact Or.inl rfl | exact Or.inr rfl) (se_lst sa_nil))
      (ss_cons (s_for 10000 (passes_of rfl) rfl (si_zip2 (by rfl) D.m_zip (sa_cons (sv 0) (sa_cons (sv 1) sa_nil))) (sg_tup rfl (sgs_cons (sg_name sc_counts_behind.nd (by rfl) (by first | exact Or.inl rfl | exact Or.inr rfl)) (sgs_cons (sg_tup rfl (sgs_cons (sg_name sc_counts_behind.nd (by rfl) (by first | exact Or.inl rfl | exact Or.inr rfl)) (sgs_cons (sg_name sc_counts_behind.nd (by rfl) (by first | exact Or.inl rfl | exact Or.inr rfl)) sgs_nil))) sgs_nil))) (ss_one (s_if (st_eq hr (sv 2) (sv 5)) (ss_one (s_expr (se_meth PySem.F.slot_list_append PySem.F.type_list_append mt_append om_append (sv 3) (sa_cons se_int sa_nil)))) (ss_one (s_if (st_lt hr (se_add (sv 4) se_int) (sv 6)) (ss_one (s_expr (se_meth PySem.F.slot_list_append PySem.F.type_list_append mt_append om_append (sv 3) (sa_cons (se_add (sv 4) se_int) sa_nil)))) (ss_one (s_ret se_non)))))))
      (ss_one (s_ret (se_tuple D.m_tuple (sv 3))))))
theorem ok_counts_behind (D : Defs K mg) : FnOk P w K mg base (L2.CX P w) 1 (D.h_counts_behind).f (D.h_counts_behind).fd ["counts", "wants", "step"] (spNc ⟨K, w, mg⟩ (tx D) F_counts_behind) := fn_okD (g := g_counts_behind) (D.h_counts_behind).F sc_counts_behind (hF := rfl) (h1 := rfl) (h2 := rfl) (body := fun cdv A outer s H E hr => b_counts_behind D _ cdv A outer s H E hr)
/-! ### short_arrows -/
theorem sc_short_arrows : FnScope ["stands", "pair", "wants", "stand", "counts", "found", "step", "end", "behind"] ["stands", "pair", "wants"] (defScope s_short_arrows) := ⟨rfl, rfl, rfl, by decide +kernel, rfl, by decide +kernel, by decide +kernel⟩
def g_short_arrows : DS := (gSeq (gAsg (dVar 1) (gTupD 2 (gsCons (gN 3) (gsCons (gN 4) gsNil))))
  (gSeq (gAsg (dLst dNil) (gN 5))
  (gSeq (gForI (iSeq (dOp dIxA (dOp dIxA (dVar 0) (dVar 3)) (dC (.int 1)))) (gTupD 2 (gsCons (gN 6) (gsCons (gN 7) gsNil))) (gSeq (gAsg (dFn F_counts_behind (dCons (dVar 4) (dCons (dVar 2) (dCons (dVar 6) dNil)))) (gN 8))
  (gSeq (gIf (dAnd (dTest (dOp dNotN (dVar 8) (dC .non))) (dTest (dOp dEq (dVar 7) (dC (.int 0))))) (gAsg (dOp dMul2 (dTup (dCons (dC (.int 0)) dNil)) (dCall oLen (dCons (dVar 2) dNil))) (gN 8)) gNil)
  (gIf (dTest (dOp dNotN (dVar 8) (dC .non))) (gExpr (dMeth oAppend (dVar 5) (dCons (dTup (dCons (dVar 6) (dCons (dTup (dCons (dVar 7) (dCons (dVar 8) dNil))) dNil))) dNil))) gNil))) 10000)
  (gRet (dVar 5)))))
def F_short_arrows : DF := runF g_short_arrows 3 9
theorem b_short_arrows (D : Defs K mg) (f : Addr) (cdv : Value) (A : Around) (outer : List Env) (s : Shared) (H : Hp) (E : XK) (hr : Room 1 (A.deeper (envOfC "short_arrows" (defScope s_short_arrows) s.heap.objs.size f cdv))) :
    SSs (cxOf (L2.CX P w) P w K mg base ["stands", "pair", "wants", "stand", "counts", "found", "step", "end", "behind"] "short_arrows" (defScope s_short_arrows) f cdv A outer s H E) (tx D) (wOf E) (defBody s_short_arrows) g_short_arrows :=
  (ss_cons (s_asg (sv 1) (sg_tup rfl (sgs_cons (sg_name sc_short_arrows.nd (by rfl) (by first | exact Or.inl rfl | exact Or.inr rfl)) (sgs_cons (sg_name sc_short_arrows.nd (by rfl) (by first | exact Or.inl rfl | exact Or.inr rfl)) sgs_nil))))
      (ss_cons (s_set sc_short_arrows.nd (by rfl) (by first | exact Or.inl rfl | exact Or.inr rfl) (se_lst sa_nil))
      (ss_cons (s_for 10000 (passes_of rfl) rfl (si_seq (se_sub hr (se_sub hr (sv 0) (sv 3) (fun _ _ => rfl)) se_int (fun _ _ => rfl))) (sg_tup rfl (sgs_cons (sg_name sc_short_arrows.nd (by rfl) (by first | exact Or.inl rfl | exact Or.inr rfl)) (sgs_cons (sg_name sc_short_arrows.nd (by rfl) (by first | exact Or.inl rfl | exact Or.inr rfl)) sgs_nil))) (ss_cons (s_set sc_short_arrows.nd (by rfl) (by first | exact Or.inl rfl | exact Or.inr rfl) (se_call (ok_counts_behind (base := base) D) (rm hr) (by rfl) (D.h_counts_behind).gl (D.h_counts_behind).F.kp (D.h_counts_behind).bi (takes_of rfl rfl rfl rfl) (sa_cons (sv 4) (sa_cons (sv 2) (sa_cons (sv 6) sa_nil)))))
      (ss_cons (s_if (SW.st (sw_and (st_notN (sv 8) se_non) (sw_and1 (st_eq hr (sv 7) se_int)))) (ss_one (s_set sc_short_arrows.nd (by rfl) (by first | exact Or.inl rfl | exact Or.inr rfl) (se_mul2 (se_tup (sa_cons se_int sa_nil)) (se_len D.m_len (sv 2))))) ss_nil)
      (ss_one (s_if (st_notN (sv 8) se_non) (ss_one (s_expr (se_meth PySem.F.slot_list_append PySem.F.type_list_append mt_append om_append (sv 5) (sa_cons (se_tup (sa_cons (sv 6) (sa_cons (se_tup (sa_cons (sv 7) (sa_cons (sv 8) sa_nil))) sa_nil))) sa_nil)))) ss_nil)))))
      (ss_one (s_ret (sv 5))))))
theorem ok_short_arrows (D : Defs K mg) : FnOk P w K mg base (L2.CX P w) 2 (D.h_short_arrows).f (D.h_short_arrows).fd ["stands", "pair", "wants"] (spNc ⟨K, w, mg⟩ (tx D) F_short_arrows) := fn_okD (g := g_short_arrows) (D.h_short_arrows).F sc_short_arrows (hF := rfl) (h1 := rfl) (h2 := rfl) (body := fun cdv A outer s H E hr => b_short_arrows D _ cdv A outer s H E hr)
/-! ### met_pairs -/
theorem sc_met_pairs : FnScope ["stands", "wants", "order", "met", "found", "at", "arrows", "_", "end"] ["stands", "wants"] (defScope s_met_pairs) := ⟨rfl, rfl, rfl, by decide +kernel, rfl, by decide +kernel, by decide +kernel⟩
def g_met_pairs : DS := (gSeq (gAsg (dLst (dCons (dTup (dCons (dC (.int 0)) (dCons (dOp dMul2 (dTup (dCons (dC (.int 0)) dNil)) (dCall oLen (dCons (dVar 1) dNil))) dNil))) dNil)) (gN 2))
  (gSeq (gAsg (dDict1 (dOp dIxA (dVar 2) (dC (.int 0))) (dC (.bl true))) (gN 3))
  (gSeq (gAsg dEmpty (gN 4))
  (gSeq (gAsg (dC (.int 0)) (gN 5))
  (gSeq (gWhile (dTest (dOp dLt (dVar 5) (dCall oLen (dCons (dVar 2) dNil)))) (gSeq (gAsg (dFn F_short_arrows (dCons (dVar 0) (dCons (dOp dIxA (dVar 2) (dVar 5)) (dCons (dVar 1) dNil)))) (gN 6))
  (gSeq (gAsg (dVar 6) (gSubD (dVar 4) (dOp dIxA (dVar 2) (dVar 5))))
  (gSeq (gForI (iSeq (dVar 6)) (gTupD 2 (gsCons (gN 7) (gsCons (gN 8) gsNil))) (gIf (dTest (dOp (dInB true) (dVar 8) (dVar 3))) (gSeq (gAsg (dC (.bl true)) (gSubD (dVar 3) (dVar 8)))
  (gExpr (dMeth oAppend (dVar 2) (dCons (dVar 8) dNil)))) gNil) 10000)
  (gAug 5 (dC (.int 1)) dAddI)))) 10000)
  (gRet (dVar 4)))))))
def F_met_pairs : DF := runF g_met_pairs 2 9
theorem b_met_pairs (D : Defs K mg) (f : Addr) (cdv : Value) (A : Around) (outer : List Env) (s : Shared) (H : Hp) (E : XK) (hr : Room 2 (A.deeper (envOfC "met_pairs" (defScope s_met_pairs) s.heap.objs.size f cdv))) :
    SSs (cxOf (L2.CX P w) P w K mg base ["stands", "wants", "order", "met", "found", "at", "arrows", "_", "end"] "met_pairs" (defScope s_met_pairs) f cdv A outer s H E) (tx D) (wOf E) (defBody s_met_pairs) g_met_pairs :=
  (ss_cons (s_set sc_met_pairs.nd (by rfl) (by first | exact Or.inl rfl | exact Or.inr rfl) (se_lst (sa_cons (se_tup (sa_cons se_int (sa_cons (se_mul2 (se_tup (sa_cons se_int sa_nil)) (se_len D.m_len (sv 1))) sa_nil))) sa_nil)))
      (ss_cons (s_set sc_met_pairs.nd (by rfl) (by first | exact Or.inl rfl | exact Or.inr rfl) (se_dict1 hr (se_sub hr (sv 2) se_int (fun _ _ => rfl)) se_bl))
      (ss_cons (s_set sc_met_pairs.nd (by rfl) (by first | exact Or.inl rfl | exact Or.inr rfl) se_dict0)
      (ss_cons (s_set sc_met_pairs.nd (by rfl) (by first | exact Or.inl rfl | exact Or.inr rfl) se_int)
      (ss_cons (s_while 10000 (passes_of rfl) (st_lt hr (sv 5) (se_len D.m_len (sv 2))) (ss_cons (s_set sc_met_pairs.nd (by rfl) (by first | exact Or.inl rfl | exact Or.inr rfl) (se_call (ok_short_arrows (base := base) D) (rm hr) (by rfl) (D.h_short_arrows).gl (D.h_short_arrows).F.kp (D.h_short_arrows).bi (takes_of rfl rfl rfl rfl) (sa_cons (sv 0) (sa_cons (se_sub hr (sv 2) (sv 5) (fun _ _ => rfl)) (sa_cons (sv 1) sa_nil)))))
      (ss_cons (s_asg (sv 6) (sg_sub (T := tx D) hr (sv 4) (se_sub hr (sv 2) (sv 5) (fun _ _ => rfl))))
      (ss_cons (s_for 10000 (passes_of rfl) rfl (si_seq (sv 6)) (sg_tup rfl (sgs_cons (sg_name sc_met_pairs.nd (by rfl) (by first | exact Or.inl rfl | exact Or.inr rfl)) (sgs_cons (sg_name sc_met_pairs.nd (by rfl) (by first | exact Or.inl rfl | exact Or.inr rfl)) sgs_nil))) (ss_one (s_if (st_nin2 hr (sv 8) (sv 3)) (ss_cons (s_asg se_bl (sg_sub (T := tx D) hr (sv 3) (sv 8)))
      (ss_one (s_expr (se_meth PySem.F.slot_list_append PySem.F.type_list_append mt_append om_append (sv 2) (sa_cons (sv 8) sa_nil))))) ss_nil)))
      (ss_one (s_aug sc_met_pairs.nd (by rfl) (by first | exact Or.inl rfl | exact Or.inr rfl) se_int ip_add oi_add))))))
      (ss_one (s_ret (sv 4))))))))
theorem ok_met_pairs (D : Defs K mg) : FnOk P w K mg base (L2.CX P w) 3 (D.h_met_pairs).f (D.h_met_pairs).fd ["stands", "wants"] (spNc ⟨K, w, mg⟩ (tx D) F_met_pairs) := fn_okD (g := g_met_pairs) (D.h_met_pairs).F sc_met_pairs (hF := rfl) (h1 := rfl) (h2 := rfl) (body := fun cdv A outer s H E hr => b_met_pairs D _ cdv A outer s H E hr)
/-! ### ending_pairs -/
theorem sc_ending_pairs : FnScope ["stands", "wants", "found", "begin", "_", "pairs_at", "pair", "ending", "stand", "step", "end", "arrows"] ["stands", "wants"] (defScope s_ending_pairs) := ⟨rfl, rfl, rfl, by decide +kernel, rfl, by decide +kernel, by decide +kernel⟩
def g_ending_pairs : DS := (gSeq (gAsg (dFn F_met_pairs (dCons (dVar 0) (dCons (dVar 1) dNil))) (gN 2))
  (gSeq (gAsg (dTup (dCons (dC (.int 0)) (dCons (dOp dMul2 (dTup (dCons (dC (.int 0)) dNil)) (dCall oLen (dCons (dVar 1) dNil))) dNil))) (gN 3))
  (gSeq (gAsg (dLc (iSeq (dVar 0)) (gN 4) dYes (dLst dNil) [4] 10000) (gN 5))
  (gSeq (gLk 2 (gForI (iKeysD (dVar 2)) (gN 6) (gExpr (dMeth oAppend (dOp dIxA (dVar 5) (dOp dIxA (dVar 6) (dC (.int 0)))) (dCons (dVar 6) dNil))) 10000))
  (gSeq (gAsg (dDict1 (dVar 3) (dLst dNil)) (gN 7))
  (gSeq (gForI (iSeq (dOp dAdd (dListRev (dFn F_inner_order (dCons (dVar 0) dNil))) (dLst (dCons (dC (.int 0)) dNil)))) (gN 8) (gForI (iSeq (dOp dIxA (dVar 5) (dVar 8))) (gN 6) (gSeq (gAsg (dLc (iSeq (dOp dIxA (dVar 2) (dVar 6))) (gTupD 2 (gsCons (gN 9) (gsCons (gN 10) gsNil))) (dTest (dOp (dInB false) (dVar 10) (dVar 7))) (dTup (dCons (dVar 9) (dCons (dVar 10) dNil))) [9, 10] 10000) (gN 11))
  (gIf (dTest (dOp dNe (dVar 11) (dLst dNil))) (gAsg (dVar 11) (gSubD (dVar 7) (dVar 6))) gNil)) 10000) 10000)
  (gRet (dVar 7))))))))
def F_ending_pairs : DF := runF g_ending_pairs 2 12
theorem b_ending_pairs (D : Defs K mg) (f : Addr) (cdv : Value) (A : Around) (outer : List Env) (s : Shared) (H : Hp) (E : XK) (hr : Room 3 (A.deeper (envOfC "ending_pairs" (defScope s_ending_pairs) s.heap.objs.size f cdv))) :
    SSs (cxOf (L2.CX P w) P w K mg base ["stands", "wants", "found", "begin", "_", "pairs_at", "pair", "ending", "stand", "step", "end", "arrows"] "ending_pairs" (defScope s_ending_pairs) f cdv A outer s H E) (tx D) (wOf E) (defBody s_ending_pairs) g_ending_pairs :=
  (ss_cons (s_set sc_ending_pairs.nd (by rfl) (by first | exact Or.inl rfl | exact Or.inr rfl) (se_call (ok_met_pairs (base := base) D) (rm hr) (by rfl) (D.h_met_pairs).gl (D.h_met_pairs).F.kp (D.h_met_pairs).bi (takes_of rfl rfl rfl rfl) (sa_cons (sv 0) (sa_cons (sv 1) sa_nil))))
      (ss_cons (s_set sc_ending_pairs.nd (by rfl) (by first | exact Or.inl rfl | exact Or.inr rfl) (se_tup (sa_cons se_int (sa_cons (se_mul2 (se_tup (sa_cons se_int sa_nil)) (se_len D.m_len (sv 1))) sa_nil))))
      (ss_cons (s_setLc (own := [("_", 4)]) 10000 (i := 5) rfl sc_ending_pairs.nd (by rfl) (by rfl) (by rfl) (si_seq (sv 0)) (blk_of (by kernel_rfl)) (by decide) (fun _ _ _ _ _ => (sg_name sc_ending_pairs.nd (by rfl) (by first | exact Or.inl rfl | exact Or.inr rfl))) (fun _ _ _ _ _ => sts_nil) (fun _ _ _ _ _ => (se_lst sa_nil)))
      (ss_cons (s_lk 2 (s_for 10000 (passes_of rfl) rfl (si_keys (sv 2)) (sg_name sc_ending_pairs.nd (by rfl) (by first | exact Or.inl rfl | exact Or.inr rfl)) (ss_one (s_expr (se_meth PySem.F.slot_list_append PySem.F.type_list_append mt_append om_append (se_sub hr (sv 5) (se_sub hr (sv 6) se_int (fun _ _ => rfl)) (fun _ _ => rfl)) (sa_cons (sv 6) sa_nil))))))
      (ss_cons (s_set sc_ending_pairs.nd (by rfl) (by first | exact Or.inl rfl | exact Or.inr rfl) (se_dict1 hr (sv 3) (se_lst sa_nil)))
      (ss_cons (s_for 10000 (passes_of rfl) rfl (si_seq (se_add (se_listRev rfl D.m_list D.m_reversed (se_call (ok_inner_order (base := base) D) (rm hr) (by rfl) (D.h_inner_order).gl (D.h_inner_order).F.kp (D.h_inner_order).bi (takes_of rfl rfl rfl rfl) (sa_cons (sv 0) sa_nil))) (se_lst (sa_cons se_int sa_nil)))) (sg_name sc_ending_pairs.nd (by rfl) (by first | exact Or.inl rfl | exact Or.inr rfl)) (ss_one (s_for 10000 (passes_of rfl) rfl (si_seq (se_sub hr (sv 5) (sv 8) (fun _ _ => rfl))) (sg_name sc_ending_pairs.nd (by rfl) (by first | exact Or.inl rfl | exact Or.inr rfl)) (ss_cons (s_setLc (own := [("step", 9), ("end", 10)]) 10000 (i := 11) rfl sc_ending_pairs.nd (by rfl) (by rfl) (by rfl) (si_seq (se_sub hr (sv 2) (sv 6) (fun _ _ => rfl))) (blk_of (by kernel_rfl)) (by decide) (fun _ _ _ _ _ => (sg_tup rfl (sgs_cons (sg_name sc_ending_pairs.nd (by rfl) (by first | exact Or.inl rfl | exact Or.inr rfl)) (sgs_cons (sg_name sc_ending_pairs.nd (by rfl) (by first | exact Or.inl rfl | exact Or.inr rfl)) sgs_nil)))) (fun _ _ _ _ _ => (sts_one (st_in2 hr (sv 10) (sv 7)))) (fun _ _ _ _ _ => (se_tup (sa_cons (sv 9) (sa_cons (sv 10) sa_nil)))))
      (ss_one (s_if (st_ne hr (sv 11) (se_lst sa_nil)) (ss_one (s_asg (sv 11) (sg_sub (T := tx D) hr (sv 7) (sv 6)))) ss_nil))))))
      (ss_one (s_ret (sv 7)))))))))
theorem ok_ending_pairs (D : Defs K mg) : FnOk P w K mg base (L2.CX P w) 4 (D.h_ending_pairs).f (D.h_ending_pairs).fd ["stands", "wants"] (spNc ⟨K, w, mg⟩ (tx D) F_ending_pairs) := fn_okD (g := g_ending_pairs) (D.h_ending_pairs).F sc_ending_pairs (hF := rfl) (h1 := rfl) (h2 := rfl) (body := fun cdv A outer s H E hr => b_ending_pairs D _ cdv A outer s H E hr)
/-! ### is_lot -/
theorem sc_is_lot : FnScope ["thing", "n", "place"] ["thing", "n"] (defScope s_is_lot) := ⟨rfl, rfl, rfl, by decide +kernel, rfl, by decide +kernel, by decide +kernel⟩
def g_is_lot : DS := (gSeq (gIf (dNot (dTest (dFn F_is_filled_tuple (dCons (dVar 0) dNil)))) (gRet (dC (.bl false))) gNil)
  (gRet (dAndV (dCall (oBools allB) (dCons (dLc (iSeq (dVar 0)) (gN 2) dYes (dFn F_is_number_below (dCons (dVar 2) (dCons (dVar 1) dNil))) [2] 10000) dNil)) (dFn F_is_rising (dCons (dVar 0) dNil)))))
def F_is_lot : DF := runF g_is_lot 2 3
theorem b_is_lot (D : Defs K mg) (f : Addr) (cdv : Value) (A : Around) (outer : List Env) (s : Shared) (H : Hp) (E : XK) (hr : Room 2 (A.deeper (envOfC "is_lot" (defScope s_is_lot) s.heap.objs.size f cdv))) :
    SSs (cxOf (L2.CX P w) P w K mg base ["thing", "n", "place"] "is_lot" (defScope s_is_lot) f cdv A outer s H E) (tx D) (wOf E) (defBody s_is_lot) g_is_lot :=
  (ss_cons (s_if (st_not (st_val (se_call (ok_is_filled_tuple (base := base) D) (rm hr) (by rfl) (D.h_is_filled_tuple).gl (D.h_is_filled_tuple).F.kp (D.h_is_filled_tuple).bi (takes_of rfl rfl rfl rfl) (sa_cons (sv 0) sa_nil)))) (ss_one (s_ret se_bl)) ss_nil)
      (ss_one (s_ret (se_and (se_all rfl D.m_all (se_lc (own := [("place", 2)]) 10000 rfl sc_is_lot.nd (si_seq (sv 0)) (blk_of (by kernel_rfl)) (by decide) (fun _ _ _ _ _ => (sg_name sc_is_lot.nd (by rfl) (by first | exact Or.inl rfl | exact Or.inr rfl))) (fun _ _ _ _ _ => sts_nil) (fun _ _ _ _ _ => (se_call (ok_is_number_below (base := base) D) (rm hr) (by rfl) (D.h_is_number_below).gl (D.h_is_number_below).F.kp (D.h_is_number_below).bi takes0 (sa_cons (sv 2) (sa_cons (sv 1) sa_nil)))))) (se_one (se_call (ok_is_rising (base := base) D) (rm hr) (by rfl) (D.h_is_rising).gl (D.h_is_rising).F.kp (D.h_is_rising).bi (takes_of rfl rfl rfl rfl) (sa_cons (sv 0) sa_nil)))))))
theorem ok_is_lot (D : Defs K mg) : FnOk P w K mg base (L2.CX P w) 3 (D.h_is_lot).f (D.h_is_lot).fd ["thing", "n"] (spNc ⟨K, w, mg⟩ (tx D) F_is_lot) := fn_okD (g := g_is_lot) (D.h_is_lot).F sc_is_lot (hF := rfl) (h1 := rfl) (h2 := rfl) (body := fun cdv A outer s H E hr => b_is_lot D _ cdv A outer s H E hr)
/-! ### is_looks -/
theorem sc_is_looks : FnScope ["thing", "n", "lot"] ["thing", "n"] (defScope s_is_looks) := ⟨rfl, rfl, rfl, by decide +kernel, rfl, by decide +kernel, by decide +kernel⟩
def g_is_looks : DS := (gRet (dAndV (dFn F_is_tuple_of (dCons (dVar 0) (dCons (dVar 1) dNil))) (dCall (oBools allB) (dCons (dLc (iSeq (dVar 0)) (gN 2) dYes (dFn F_is_lot (dCons (dVar 2) (dCons (dVar 1) dNil))) [2] 10000) dNil))))
def F_is_looks : DF := runF g_is_looks 2 3
theorem b_is_looks (D : Defs K mg) (f : Addr) (cdv : Value) (A : Around) (outer : List Env) (s : Shared) (H : Hp) (E : XK) (hr : Room 3 (A.deeper (envOfC "is_looks" (defScope s_is_looks) s.heap.objs.size f cdv))) :
    SSs (cxOf (L2.CX P w) P w K mg base ["thing", "n", "lot"] "is_looks" (defScope s_is_looks) f cdv A outer s H E) (tx D) (wOf E) (defBody s_is_looks) g_is_looks :=
  (ss_one (s_ret (se_and (se_call (ok_is_tuple_of (base := base) D) (rm hr) (by rfl) (D.h_is_tuple_of).gl (D.h_is_tuple_of).F.kp (D.h_is_tuple_of).bi (takes_of rfl rfl rfl rfl) (sa_cons (sv 0) (sa_cons (sv 1) sa_nil))) (se_one (se_all rfl D.m_all (se_lc (own := [("lot", 2)]) 10000 rfl sc_is_looks.nd (si_seq (sv 0)) (blk_of (by kernel_rfl)) (by decide) (fun _ _ _ _ _ => (sg_name sc_is_looks.nd (by rfl) (by first | exact Or.inl rfl | exact Or.inr rfl))) (fun _ _ _ _ _ => sts_nil) (fun _ _ _ _ _ => (se_call (ok_is_lot (base := base) D) (rm hr) (by rfl) (D.h_is_lot).gl (D.h_is_lot).F.kp (D.h_is_lot).bi takes0 (sa_cons (sv 2) (sa_cons (sv 1) sa_nil))))))))))
theorem ok_is_looks (D : Defs K mg) : FnOk P w K mg base (L2.CX P w) 4 (D.h_is_looks).f (D.h_is_looks).fd ["thing", "n"] (spNc ⟨K, w, mg⟩ (tx D) F_is_looks) := fn_okD (g := g_is_looks) (D.h_is_looks).F sc_is_looks (hF := rfl) (h1 := rfl) (h2 := rfl) (body := fun cdv A outer s H E hr => b_is_looks D _ cdv A outer s H E hr)
/-! ### is_fraction -/
theorem sc_is_fraction : FnScope ["thing", "top", "bottom"] ["thing"] (defScope s_is_fraction) := ⟨rfl, rfl, rfl, by decide +kernel, rfl, by decide +kernel, by decide +kernel⟩
def g_is_fraction : DS := (gSeq (gIf (dNot (dTest (dFn F_is_tuple_of (dCons (dVar 0) (dCons (dC (.int 2)) dNil))))) (gRet (dC (.bl false))) gNil)
  (gSeq (gAsg (dVar 0) (gTupD 2 (gsCons (gN 1) (gsCons (gN 2) gsNil))))
  (gRet (dAndV (dFn F_is_number (dCons (dVar 1) dNil)) (dAndV (dFn F_is_number (dCons (dVar 2) dNil)) (dAndV (dOp (dInts geI) (dVar 2) (dC (.int 1))) (dOp dEq (dCall oGcd (dCons (dVar 1) (dCons (dVar 2) dNil))) (dC (.int 1)))))))))
def F_is_fraction : DF := runF g_is_fraction 1 3
theorem b_is_fraction (D : Defs K mg) (f : Addr) (cdv : Value) (A : Around) (outer : List Env) (s : Shared) (H : Hp) (E : XK) (hr : Room 1 (A.deeper (envOfC "is_fraction" (defScope s_is_fraction) s.heap.objs.size f cdv))) :
    SSs (cxOf (L2.CX P w) P w K mg base ["thing", "top", "bottom"] "is_fraction" (defScope s_is_fraction) f cdv A outer s H E) (tx D) (wOf E) (defBody s_is_fraction) g_is_fraction :=
  (ss_cons (s_if (st_not (st_val (se_call (ok_is_tuple_of (base := base) D) (rm hr) (by rfl) (D.h_is_tuple_of).gl (D.h_is_tuple_of).F.kp (D.h_is_tuple_of).bi (takes_of rfl rfl rfl rfl) (sa_cons (sv 0) (sa_cons se_int sa_nil))))) (ss_one (s_ret se_bl)) ss_nil)
      (ss_cons (s_asg (sv 0) (sg_tup rfl (sgs_cons (sg_name sc_is_fraction.nd (by rfl) (by first | exact Or.inl rfl | exact Or.inr rfl)) (sgs_cons (sg_name sc_is_fraction.nd (by rfl) (by first | exact Or.inl rfl | exact Or.inr rfl)) sgs_nil))))
      (ss_one (s_ret (se_and (se_call (ok_is_number (base := base) D) (rm hr) (by rfl) (D.h_is_number).gl (D.h_is_number).F.kp (D.h_is_number).bi (takes_of rfl rfl rfl rfl) (sa_cons (sv 1) sa_nil)) (se_and (se_call (ok_is_number (base := base) D) (rm hr) (by rfl) (D.h_is_number).gl (D.h_is_number).F.kp (D.h_is_number).bi (takes_of rfl rfl rfl rfl) (sa_cons (sv 2) sa_nil)) (se_and (se_ge (sv 2) se_int) (se_one (se_eq hr (se_gcd D.g_gcd (sv 1) (sv 2)) se_int)))))))))
theorem ok_is_fraction (D : Defs K mg) : FnOk P w K mg base (L2.CX P w) 2 (D.h_is_fraction).f (D.h_is_fraction).fd ["thing"] (spNc ⟨K, w, mg⟩ (tx D) F_is_fraction) := fn_okD (g := g_is_fraction) (D.h_is_fraction).F sc_is_fraction (hF := rfl) (h1 := rfl) (h2 := rfl) (body := fun cdv A outer s H E hr => b_is_fraction D _ cdv A outer s H E hr)
/-! ### lowest -/
theorem sc_lowest : FnScope ["top", "bottom", "common"] ["top", "bottom"] (defScope s_lowest) := ⟨rfl, rfl, rfl, by decide +kernel, rfl, by decide +kernel, by decide +kernel⟩
def g_lowest : DS := (gSeq (gAsg (dCall oGcd (dCons (dVar 0) (dCons (dVar 1) dNil))) (gN 2))
  (gSeq (gIf (dTest (dOp dLt (dVar 1) (dC (.int 0)))) (gAsg (dNeg (dVar 2)) (gN 2)) gNil)
  (gRet (dTup (dCons (dOp (dIntOp (fun _ j => divOk j) fun i j => i / j) (dVar 0) (dVar 2)) (dCons (dOp (dIntOp (fun _ j => divOk j) fun i j => i / j) (dVar 1) (dVar 2)) dNil))))))
def F_lowest : DF := runF g_lowest 2 3
theorem b_lowest (D : Defs K mg) (f : Addr) (cdv : Value) (A : Around) (outer : List Env) (s : Shared) (H : Hp) (E : XK) (hr : Room 0 (A.deeper (envOfC "lowest" (defScope s_lowest) s.heap.objs.size f cdv))) :
    SSs (cxOf (L2.CX P w) P w K mg base ["top", "bottom", "common"] "lowest" (defScope s_lowest) f cdv A outer s H E) (tx D) (wOf E) (defBody s_lowest) g_lowest :=
  (ss_cons (s_set sc_lowest.nd (by rfl) (by first | exact Or.inl rfl | exact Or.inr rfl) (se_gcd D.g_gcd (sv 0) (sv 1)))
      (ss_cons (s_if (st_lt hr (sv 1) se_int) (ss_one (s_set sc_lowest.nd (by rfl) (by first | exact Or.inl rfl | exact Or.inr rfl) (se_neg (sv 2)))) ss_nil)
      (ss_one (s_ret (se_tup (sa_cons (se_fdiv (sv 0) (sv 2)) (sa_cons (se_fdiv (sv 1) (sv 2)) sa_nil)))))))
theorem ok_lowest (D : Defs K mg) : FnOk P w K mg base (L2.CX P w) 1 (D.h_lowest).f (D.h_lowest).fd ["top", "bottom"] (spNc ⟨K, w, mg⟩ (tx D) F_lowest) := fn_okD (g := g_lowest) (D.h_lowest).F sc_lowest (hF := rfl) (h1 := rfl) (h2 := rfl) (body := fun cdv A outer s H E hr => b_lowest D _ cdv A outer s H E hr)
/-! ### plus -/
theorem sc_plus : FnScope ["one", "other"] ["one", "other"] (defScope s_plus) := ⟨rfl, rfl, rfl, by decide +kernel, rfl, by decide +kernel, by decide +kernel⟩
def g_plus : DS := (gRet (dFn F_lowest (dCons (dOp dAdd (dOp dMul2 (dOp dIxA (dVar 0) (dC (.int 0))) (dOp dIxA (dVar 1) (dC (.int 1)))) (dOp dMul2 (dOp dIxA (dVar 1) (dC (.int 0))) (dOp dIxA (dVar 0) (dC (.int 1))))) (dCons (dOp dMul2 (dOp dIxA (dVar 0) (dC (.int 1))) (dOp dIxA (dVar 1) (dC (.int 1)))) dNil))))
def F_plus : DF := runF g_plus 2 2
theorem b_plus (D : Defs K mg) (f : Addr) (cdv : Value) (A : Around) (outer : List Env) (s : Shared) (H : Hp) (E : XK) (hr : Room 1 (A.deeper (envOfC "plus" (defScope s_plus) s.heap.objs.size f cdv))) :
    SSs (cxOf (L2.CX P w) P w K mg base ["one", "other"] "plus" (defScope s_plus) f cdv A outer s H E) (tx D) (wOf E) (defBody s_plus) g_plus :=
  (ss_one (s_ret (se_call (ok_lowest (base := base) D) (rm hr) (by rfl) (D.h_lowest).gl (D.h_lowest).F.kp (D.h_lowest).bi (takes_of rfl rfl rfl rfl) (sa_cons (se_add (se_mul2 (se_sub hr (sv 0) se_int (fun _ _ => rfl)) (se_sub hr (sv 1) se_int (fun _ _ => rfl))) (se_mul2 (se_sub hr (sv 1) se_int (fun _ _ => rfl)) (se_sub hr (sv 0) se_int (fun _ _ => rfl)))) (sa_cons (se_mul2 (se_sub hr (sv 0) se_int (fun _ _ => rfl)) (se_sub hr (sv 1) se_int (fun _ _ => rfl))) sa_nil)))))
theorem ok_plus (D : Defs K mg) : FnOk P w K mg base (L2.CX P w) 2 (D.h_plus).f (D.h_plus).fd ["one", "other"] (spNc ⟨K, w, mg⟩ (tx D) F_plus) := fn_okD (g := g_plus) (D.h_plus).F sc_plus (hF := rfl) (h1 := rfl) (h2 := rfl) (body := fun cdv A outer s H E hr => b_plus D _ cdv A outer s H E hr)
/-! ### total_of -/
theorem sc_total_of : FnScope ["numbers", "total", "number"] ["numbers"] (defScope s_total_of) := ⟨rfl, rfl, rfl, by decide +kernel, rfl, by decide +kernel, by decide +kernel⟩
def g_total_of : DS := (gSeq (gAsg (dC (.tup (intsT [0, 1]))) (gN 1))
  (gSeq (gForI (iSeq (dVar 0)) (gN 2) (gAsg (dFn F_plus (dCons (dVar 1) (dCons (dVar 2) dNil))) (gN 1)) 10000)
  (gRet (dVar 1))))
def F_total_of : DF := runF g_total_of 1 3
theorem b_total_of (D : Defs K mg) (f : Addr) (cdv : Value) (A : Around) (outer : List Env) (s : Shared) (H : Hp) (E : XK) (hr : Room 2 (A.deeper (envOfC "total_of" (defScope s_total_of) s.heap.objs.size f cdv))) :
    SSs (cxOf (L2.CX P w) P w K mg base ["numbers", "total", "number"] "total_of" (defScope s_total_of) f cdv A outer s H E) (tx D) (wOf E) (defBody s_total_of) g_total_of :=
  (ss_cons (s_set sc_total_of.nd (by rfl) (by first | exact Or.inl rfl | exact Or.inr rfl) (se_gtup D.c_NOUGHT))
      (ss_cons (s_for 10000 (passes_of rfl) rfl (si_seq (sv 0)) (sg_name sc_total_of.nd (by rfl) (by first | exact Or.inl rfl | exact Or.inr rfl)) (ss_one (s_set sc_total_of.nd (by rfl) (by first | exact Or.inl rfl | exact Or.inr rfl) (se_call (ok_plus (base := base) D) (rm hr) (by rfl) (D.h_plus).gl (D.h_plus).F.kp (D.h_plus).bi (takes_of rfl rfl rfl rfl) (sa_cons (sv 1) (sa_cons (sv 2) sa_nil))))))
      (ss_one (s_ret (sv 1)))))
theorem ok_total_of (D : Defs K mg) : FnOk P w K mg base (L2.CX P w) 3 (D.h_total_of).f (D.h_total_of).fd ["numbers"] (spNc ⟨K, w, mg⟩ (tx D) F_total_of) := fn_okD (g := g_total_of) (D.h_total_of).F sc_total_of (hF := rfl) (h1 := rfl) (h2 := rfl) (body := fun cdv A outer s H E hr => b_total_of D _ cdv A outer s H E hr)
/-! ### is_row_of -/
theorem sc_is_row_of : FnScope ["thing", "count", "share"] ["thing", "count"] (defScope s_is_row_of) := ⟨rfl, rfl, rfl, by decide +kernel, rfl, by decide +kernel, by decide +kernel⟩
def g_is_row_of : DS := (gSeq (gIf (dOr (dNot (dTest (dFn F_is_tuple_of (dCons (dVar 0) (dCons (dVar 1) dNil))))) (dNot (dTest (dCall (oBools allB) (dCons (dLc (iSeq (dVar 0)) (gN 2) dYes (dAndV (dFn F_is_fraction (dCons (dVar 2) dNil)) (dOp (dInts gtI) (dOp dIxA (dVar 2) (dC (.int 0))) (dC (.int 0)))) [2] 10000) dNil))))) (gRet (dC (.bl false))) gNil)
  (gRet (dOp dEq (dFn F_total_of (dCons (dVar 0) dNil)) (dC (.tup (intsT [1, 1]))))))
def F_is_row_of : DF := runF g_is_row_of 2 3
theorem b_is_row_of (D : Defs K mg) (f : Addr) (cdv : Value) (A : Around) (outer : List Env) (s : Shared) (H : Hp) (E : XK) (hr : Room 3 (A.deeper (envOfC "is_row_of" (defScope s_is_row_of) s.heap.objs.size f cdv))) :
    SSs (cxOf (L2.CX P w) P w K mg base ["thing", "count", "share"] "is_row_of" (defScope s_is_row_of) f cdv A outer s H E) (tx D) (wOf E) (defBody s_is_row_of) g_is_row_of :=
  (ss_cons (s_if (SW.st (sw_or (st_not (st_val (se_call (ok_is_tuple_of (base := base) D) (rm hr) (by rfl) (D.h_is_tuple_of).gl (D.h_is_tuple_of).F.kp (D.h_is_tuple_of).bi (takes_of rfl rfl rfl rfl) (sa_cons (sv 0) (sa_cons (sv 1) sa_nil))))) (sw_or1 (st_not (st_val (se_all rfl D.m_all (se_lc (own := [("share", 2)]) 10000 rfl sc_is_row_of.nd (si_seq (sv 0)) (blk_of (by kernel_rfl)) (by decide) (fun _ _ _ _ _ => (sg_name sc_is_row_of.nd (by rfl) (by first | exact Or.inl rfl | exact Or.inr rfl))) (fun _ _ _ _ _ => sts_nil) (fun _ _ _ _ _ => (se_and (se_call (ok_is_fraction (base := base) D) (rm hr) (by rfl) (D.h_is_fraction).gl (D.h_is_fraction).F.kp (D.h_is_fraction).bi takes0 (sa_cons (sv 2) sa_nil)) (se_one (se_gt (se_sub hr (sv 2) se_int (fun _ _ => rfl)) se_int))))))))))) (ss_one (s_ret se_bl)) ss_nil)
      (ss_one (s_ret (se_eq hr (se_call (ok_total_of (base := base) D) (rm hr) (by rfl) (D.h_total_of).gl (D.h_total_of).F.kp (D.h_total_of).bi (takes_of rfl rfl rfl rfl) (sa_cons (sv 0) sa_nil)) (se_gtup D.c_UNIT)))))
theorem ok_is_row_of (D : Defs K mg) : FnOk P w K mg base (L2.CX P w) 4 (D.h_is_row_of).f (D.h_is_row_of).fd ["thing", "count"] (spNc ⟨K, w, mg⟩ (tx D) F_is_row_of) := fn_okD (g := g_is_row_of) (D.h_is_row_of).F sc_is_row_of (hF := rfl) (h1 := rfl) (h2 := rfl) (body := fun cdv A outer s H E hr => b_is_row_of D _ cdv A outer s H E hr)
/-! ### are_rows -/
theorem sc_are_rows : FnScope ["thing", "looks", "row", "lot"] ["thing", "looks"] (defScope s_are_rows) := ⟨rfl, rfl, rfl, by decide +kernel, rfl, by decide +kernel, by decide +kernel⟩
def g_are_rows : DS := (gSeq (gIf (dNot (dTest (dFn F_is_tuple_of (dCons (dVar 0) (dCons (dCall oLen (dCons (dVar 1) dNil)) dNil))))) (gRet (dC (.bl false))) gNil)
  (gRet (dCall (oBools allB) (dCons (dLc (iZip2 (dCons (dVar 0) (dCons (dVar 1) dNil))) (gTupD 2 (gsCons (gN 2) (gsCons (gN 3) gsNil))) dYes (dFn F_is_row_of (dCons (dVar 2) (dCons (dCall oLen (dCons (dVar 3) dNil)) dNil))) [2, 3] 10000) dNil))))
def F_are_rows : DF := runF g_are_rows 2 4
theorem b_are_rows (D : Defs K mg) (f : Addr) (cdv : Value) (A : Around) (outer : List Env) (s : Shared) (H : Hp) (E : XK) (hr : Room 4 (A.deeper (envOfC "are_rows" (defScope s_are_rows) s.heap.objs.size f cdv))) :
    SSs (cxOf (L2.CX P w) P w K mg base ["thing", "looks", "row", "lot"] "are_rows" (defScope s_are_rows) f cdv A outer s H E) (tx D) (wOf E) (defBody s_are_rows) g_are_rows :=
  (ss_cons (s_if (st_not (st_val (se_call (ok_is_tuple_of (base := base) D) (rm hr) (by rfl) (D.h_is_tuple_of).gl (D.h_is_tuple_of).F.kp (D.h_is_tuple_of).bi (takes_of rfl rfl rfl rfl) (sa_cons (sv 0) (sa_cons (se_len D.m_len (sv 1)) sa_nil))))) (ss_one (s_ret se_bl)) ss_nil)
      (ss_one (s_ret (se_all rfl D.m_all (se_lc (own := [("row", 2), ("lot", 3)]) 10000 rfl sc_are_rows.nd (si_zip2 (by rfl) D.m_zip (sa_cons (sv 0) (sa_cons (sv 1) sa_nil))) (blk_of (by kernel_rfl)) (by decide) (fun _ _ _ _ _ => (sg_tup rfl (sgs_cons (sg_name sc_are_rows.nd (by rfl) (by first | exact Or.inl rfl | exact Or.inr rfl)) (sgs_cons (sg_name sc_are_rows.nd (by rfl) (by first | exact Or.inl rfl | exact Or.inr rfl)) sgs_nil)))) (fun _ _ _ _ _ => sts_nil) (fun _ _ _ _ _ => (se_call (ok_is_row_of (base := base) D) (rm hr) (by rfl) (D.h_is_row_of).gl (D.h_is_row_of).F.kp (D.h_is_row_of).bi takes0 (sa_cons (sv 2) (sa_cons (se_len D.m_len (sv 3)) sa_nil)))))))))
theorem ok_are_rows (D : Defs K mg) : FnOk P w K mg base (L2.CX P w) 5 (D.h_are_rows).f (D.h_are_rows).fd ["thing", "looks"] (spNc ⟨K, w, mg⟩ (tx D) F_are_rows) := fn_okD (g := g_are_rows) (D.h_are_rows).F sc_are_rows (hF := rfl) (h1 := rfl) (h2 := rfl) (body := fun cdv A outer s H E hr => b_are_rows D _ cdv A outer s H E hr)
/-! ### is_step -/
theorem sc_is_step : FnScope ["thing", "n"] ["thing", "n"] (defScope s_is_step) := ⟨rfl, rfl, rfl, by decide +kernel, rfl, by decide +kernel, by decide +kernel⟩
def g_is_step : DS := (gSeq (gIf (dOr (dNot (dTest (dFn F_is_tuple_of (dCons (dVar 0) (dCons (dC (.int 2)) dNil))))) (dNot (dTest (dFn F_is_looks (dCons (dOp dIxA (dVar 0) (dC (.int 0))) (dCons (dVar 1) dNil)))))) (gRet (dC (.bl false))) gNil)
  (gRet (dOrV (dOp dIsN (dOp dIxA (dVar 0) (dC (.int 1))) (dC .non)) (dFn F_are_rows (dCons (dOp dIxA (dVar 0) (dC (.int 1))) (dCons (dOp dIxA (dVar 0) (dC (.int 0))) dNil))))))
def F_is_step : DF := runF g_is_step 2 2
theorem b_is_step (D : Defs K mg) (f : Addr) (cdv : Value) (A : Around) (outer : List Env) (s : Shared) (H : Hp) (E : XK) (hr : Room 5 (A.deeper (envOfC "is_step" (defScope s_is_step) s.heap.objs.size f cdv))) :
    SSs (cxOf (L2.CX P w) P w K mg base ["thing", "n"] "is_step" (defScope s_is_step) f cdv A outer s H E) (tx D) (wOf E) (defBody s_is_step) g_is_step :=
  (ss_cons (s_if (SW.st (sw_or (st_not (st_val (se_call (ok_is_tuple_of (base := base) D) (rm hr) (by rfl) (D.h_is_tuple_of).gl (D.h_is_tuple_of).F.kp (D.h_is_tuple_of).bi (takes_of rfl rfl rfl rfl) (sa_cons (sv 0) (sa_cons se_int sa_nil))))) (sw_or1 (st_not (st_val (se_call (ok_is_looks (base := base) D) (rm hr) (by rfl) (D.h_is_looks).gl (D.h_is_looks).F.kp (D.h_is_looks).bi (takes_of rfl rfl rfl rfl) (sa_cons (se_sub hr (sv 0) se_int (fun _ _ => rfl)) (sa_cons (sv 1) sa_nil)))))))) (ss_one (s_ret se_bl)) ss_nil)
      (ss_one (s_ret (se_or (se_isN (se_sub hr (sv 0) se_int (fun _ _ => rfl)) se_non) (se_one (se_call (ok_are_rows (base := base) D) (rm hr) (by rfl) (D.h_are_rows).gl (D.h_are_rows).F.kp (D.h_are_rows).bi (takes_of rfl rfl rfl rfl) (sa_cons (se_sub hr (sv 0) se_int (fun _ _ => rfl)) (sa_cons (se_sub hr (sv 0) se_int (fun _ _ => rfl)) sa_nil))))))))
theorem ok_is_step (D : Defs K mg) : FnOk P w K mg base (L2.CX P w) 6 (D.h_is_step).f (D.h_is_step).fd ["thing", "n"] (spNc ⟨K, w, mg⟩ (tx D) F_is_step) := fn_okD (g := g_is_step) (D.h_is_step).F sc_is_step (hF := rfl) (h1 := rfl) (h2 := rfl) (body := fun cdv A outer s H E hr => b_is_step D _ cdv A outer s H E hr)
/-! ### is_arrow -/
theorem sc_is_arrow : FnScope ["thing", "steps", "stands"] ["thing", "steps", "stands"] (defScope s_is_arrow) := ⟨rfl, rfl, rfl, by decide +kernel, rfl, by decide +kernel, by decide +kernel⟩
def g_is_arrow : DS := (gRet (dAndV (dFn F_is_tuple_of (dCons (dVar 0) (dCons (dC (.int 2)) dNil))) (dAndV (dFn F_is_number_below (dCons (dOp dIxA (dVar 0) (dC (.int 0))) (dCons (dVar 1) dNil))) (dFn F_is_number_below (dCons (dOp dIxA (dVar 0) (dC (.int 1))) (dCons (dVar 2) dNil))))))
def F_is_arrow : DF := runF g_is_arrow 3 3
theorem b_is_arrow (D : Defs K mg) (f : Addr) (cdv : Value) (A : Around) (outer : List Env) (s : Shared) (H : Hp) (E : XK) (hr : Room 2 (A.deeper (envOfC "is_arrow" (defScope s_is_arrow) s.heap.objs.size f cdv))) :
    SSs (cxOf (L2.CX P w) P w K mg base ["thing", "steps", "stands"] "is_arrow" (defScope s_is_arrow) f cdv A outer s H E) (tx D) (wOf E) (defBody s_is_arrow) g_is_arrow :=
  (ss_one (s_ret (se_and (se_call (ok_is_tuple_of (base := base) D) (rm hr) (by rfl) (D.h_is_tuple_of).gl (D.h_is_tuple_of).F.kp (D.h_is_tuple_of).bi (takes_of rfl rfl rfl rfl) (sa_cons (sv 0) (sa_cons se_int sa_nil))) (se_and (se_call (ok_is_number_below (base := base) D) (rm hr) (by rfl) (D.h_is_number_below).gl (D.h_is_number_below).F.kp (D.h_is_number_below).bi (takes_of rfl rfl rfl rfl) (sa_cons (se_sub hr (sv 0) se_int (fun _ _ => rfl)) (sa_cons (sv 1) sa_nil))) (se_one (se_call (ok_is_number_below (base := base) D) (rm hr) (by rfl) (D.h_is_number_below).gl (D.h_is_number_below).F.kp (D.h_is_number_below).bi (takes_of rfl rfl rfl rfl) (sa_cons (se_sub hr (sv 0) se_int (fun _ _ => rfl)) (sa_cons (sv 2) sa_nil))))))))
theorem ok_is_arrow (D : Defs K mg) : FnOk P w K mg base (L2.CX P w) 3 (D.h_is_arrow).f (D.h_is_arrow).fd ["thing", "steps", "stands"] (spNc ⟨K, w, mg⟩ (tx D) F_is_arrow) := fn_okD (g := g_is_arrow) (D.h_is_arrow).F sc_is_arrow (hF := rfl) (h1 := rfl) (h2 := rfl) (body := fun cdv A outer s H E hr => b_is_arrow D _ cdv A outer s H E hr)
/-! ### is_stand -/
theorem sc_is_stand : FnScope ["thing", "steps", "stands", "arrows", "arrow"] ["thing", "steps", "stands"] (defScope s_is_stand) := ⟨rfl, rfl, rfl, by decide +kernel, rfl, by decide +kernel, by decide +kernel⟩
def g_is_stand : DS := (gSeq (gIf (dOr (dNot (dTest (dFn F_is_tuple_of (dCons (dVar 0) (dCons (dC (.int 2)) dNil))))) (dOr (dTest (dOp (dInB true) (dOp dIxA (dVar 0) (dC (.int 0))) (dTup (dCons (dC (.str "ours")) (dCons (dC (.str "any")) dNil))))) (dNot (dTest (dFn F_is_filled_tuple (dCons (dOp dIxA (dVar 0) (dC (.int 1))) dNil)))))) (gRet (dC (.bl false))) gNil)
  (gSeq (gAsg (dOp dIxA (dVar 0) (dC (.int 1))) (gN 3))
  (gRet (dAndV (dCall (oBools allB) (dCons (dLc (iSeq (dVar 3)) (gN 4) dYes (dFn F_is_arrow (dCons (dVar 4) (dCons (dVar 1) (dCons (dVar 2) dNil)))) [4] 10000) dNil)) (dOp dEq (dLenSet (dVar 3)) (dCall oLen (dCons (dVar 3) dNil)))))))
def F_is_stand : DF := runF g_is_stand 3 5
theorem b_is_stand (D : Defs K mg) (f : Addr) (cdv : Value) (A : Around) (outer : List Env) (s : Shared) (H : Hp) (E : XK) (hr : Room 3 (A.deeper (envOfC "is_stand" (defScope s_is_stand) s.heap.objs.size f cdv))) :
    SSs (cxOf (L2.CX P w) P w K mg base ["thing", "steps", "stands", "arrows", "arrow"] "is_stand" (defScope s_is_stand) f cdv A outer s H E) (tx D) (wOf E) (defBody s_is_stand) g_is_stand :=
  (ss_cons (s_if (SW.st (sw_or (st_not (st_val (se_call (ok_is_tuple_of (base := base) D) (rm hr) (by rfl) (D.h_is_tuple_of).gl (D.h_is_tuple_of).F.kp (D.h_is_tuple_of).bi (takes_of rfl rfl rfl rfl) (sa_cons (sv 0) (sa_cons se_int sa_nil))))) (sw_or (st_nin2 hr (se_sub hr (sv 0) se_int (fun _ _ => rfl)) (se_tup (sa_cons se_str (sa_cons se_str sa_nil)))) (sw_or1 (st_not (st_val (se_call (ok_is_filled_tuple (base := base) D) (rm hr) (by rfl) (D.h_is_filled_tuple).gl (D.h_is_filled_tuple).F.kp (D.h_is_filled_tuple).bi (takes_of rfl rfl rfl rfl) (sa_cons (se_sub hr (sv 0) se_int (fun _ _ => rfl)) sa_nil)))))))) (ss_one (s_ret se_bl)) ss_nil)
      (ss_cons (s_set sc_is_stand.nd (by rfl) (by first | exact Or.inl rfl | exact Or.inr rfl) (se_sub hr (sv 0) se_int (fun _ _ => rfl)))
      (ss_one (s_ret (se_and (se_all rfl D.m_all (se_lc (own := [("arrow", 4)]) 10000 rfl sc_is_stand.nd (si_seq (sv 3)) (blk_of (by kernel_rfl)) (by decide) (fun _ _ _ _ _ => (sg_name sc_is_stand.nd (by rfl) (by first | exact Or.inl rfl | exact Or.inr rfl))) (fun _ _ _ _ _ => sts_nil) (fun _ _ _ _ _ => (se_call (ok_is_arrow (base := base) D) (rm hr) (by rfl) (D.h_is_arrow).gl (D.h_is_arrow).F.kp (D.h_is_arrow).bi takes0 (sa_cons (sv 4) (sa_cons (sv 1) (sa_cons (sv 2) sa_nil))))))) (se_one (se_eq hr (se_lenSet hr rfl D.m_len D.m_set (sv 3)) (se_len D.m_len (sv 3)))))))))
theorem ok_is_stand (D : Defs K mg) : FnOk P w K mg base (L2.CX P w) 4 (D.h_is_stand).f (D.h_is_stand).fd ["thing", "steps", "stands"] (spNc ⟨K, w, mg⟩ (tx D) F_is_stand) := fn_okD (g := g_is_stand) (D.h_is_stand).F sc_is_stand (hF := rfl) (h1 := rfl) (h2 := rfl) (body := fun cdv A outer s H E hr => b_is_stand D _ cdv A outer s H E hr)
/-! ### is_machine -/
theorem sc_is_machine : FnScope ["thing", "n", "steps", "stands", "step", "stand", "_", "arrows", "reached"] ["thing", "n"] (defScope s_is_machine) := ⟨rfl, rfl, rfl, by decide +kernel, rfl, by decide +kernel, by decide +kernel⟩
def g_is_machine : DS := (gSeq (gIf (dOr (dNot (dTest (dFn F_is_tuple_of (dCons (dVar 0) (dCons (dC (.int 2)) dNil))))) (dOr (dNot (dTest (dFn F_is_filled_tuple (dCons (dOp dIxA (dVar 0) (dC (.int 0))) dNil)))) (dNot (dTest (dFn F_is_filled_tuple (dCons (dOp dIxA (dVar 0) (dC (.int 1))) dNil)))))) (gRet (dC (.bl false))) gNil)
  (gSeq (gAsg (dVar 0) (gTupD 2 (gsCons (gN 2) (gsCons (gN 3) gsNil))))
  (gSeq (gIf (dNot (dTest (dCall (oBools allB) (dCons (dLc (iSeq (dVar 2)) (gN 4) dYes (dFn F_is_step (dCons (dVar 4) (dCons (dVar 1) dNil))) [4] 10000) dNil)))) (gRet (dC (.bl false))) gNil)
  (gSeq (gIf (dNot (dTest (dCall (oBools allB) (dCons (dLc (iSeq (dVar 3)) (gN 5) dYes (dFn F_is_stand (dCons (dVar 5) (dCons (dCall oLen (dCons (dVar 2) dNil)) (dCons (dCall oLen (dCons (dVar 3) dNil)) dNil)))) [5] 10000) dNil)))) (gRet (dC (.bl false))) gNil)
  (gSeq (gAsg (dFn F_met_order (dCons (dC (.int 0)) (dCons (dLc (iSeq (dVar 3)) (gTupD 2 (gsCons (gN 6) (gsCons (gN 7) gsNil))) dYes (dVar 7) [6, 7] 10000) dNil))) (gN 8))
  (gRet (dAndV (dOp dEq (dCall oLen (dCons (dVar 8) dNil)) (dCall oLen (dCons (dVar 3) dNil))) (dOp dEq (dCall oLen (dCons (dFn F_inner_order (dCons (dVar 3) dNil)) dNil)) (dOp dSub (dCall oLen (dCons (dVar 3) dNil)) (dC (.int 1)))))))))))
def F_is_machine : DF := runF g_is_machine 2 9
theorem b_is_machine (D : Defs K mg) (f : Addr) (cdv : Value) (A : Around) (outer : List Env) (s : Shared) (H : Hp) (E : XK) (hr : Room 6 (A.deeper (envOfC "is_machine" (defScope s_is_machine) s.heap.objs.size f cdv))) :
    SSs (cxOf (L2.CX P w) P w K mg base ["thing", "n", "steps", "stands", "step", "stand", "_", "arrows", "reached"] "is_machine" (defScope s_is_machine) f cdv A outer s H E) (tx D) (wOf E) (defBody s_is_machine) g_is_machine :=
  (ss_cons (s_if (SW.st (sw_or (st_not (st_val (se_call (ok_is_tuple_of (base := base) D) (rm hr) (by rfl) (D.h_is_tuple_of).gl (D.h_is_tuple_of).F.kp (D.h_is_tuple_of).bi (takes_of rfl rfl rfl rfl) (sa_cons (sv 0) (sa_cons se_int sa_nil))))) (sw_or (st_not (st_val (se_call (ok_is_filled_tuple (base := base) D) (rm hr) (by rfl) (D.h_is_filled_tuple).gl (D.h_is_filled_tuple).F.kp (D.h_is_filled_tuple).bi (takes_of rfl rfl rfl rfl) (sa_cons (se_sub hr (sv 0) se_int (fun _ _ => rfl)) sa_nil)))) (sw_or1 (st_not (st_val (se_call (ok_is_filled_tuple (base := base) D) (rm hr) (by rfl) (D.h_is_filled_tuple).gl (D.h_is_filled_tuple).F.kp (D.h_is_filled_tuple).bi (takes_of rfl rfl rfl rfl) (sa_cons (se_sub hr (sv 0) se_int (fun _ _ => rfl)) sa_nil)))))))) (ss_one (s_ret se_bl)) ss_nil)
      (ss_cons (s_asg (sv 0) (sg_tup rfl (sgs_cons (sg_name sc_is_machine.nd (by rfl) (by first | exact Or.inl rfl | exact Or.inr rfl)) (sgs_cons (sg_name sc_is_machine.nd (by rfl) (by first | exact Or.inl rfl | exact Or.inr rfl)) sgs_nil))))
      (ss_cons (s_if (st_not (st_val (se_all rfl D.m_all (se_lc (own := [("step", 4)]) 10000 rfl sc_is_machine.nd (si_seq (sv 2)) (blk_of (by kernel_rfl)) (by decide) (fun _ _ _ _ _ => (sg_name sc_is_machine.nd (by rfl) (by first | exact Or.inl rfl | exact Or.inr rfl))) (fun _ _ _ _ _ => sts_nil) (fun _ _ _ _ _ => (se_call (ok_is_step (base := base) D) (rm hr) (by rfl) (D.h_is_step).gl (D.h_is_step).F.kp (D.h_is_step).bi takes0 (sa_cons (sv 4) (sa_cons (sv 1) sa_nil)))))))) (ss_one (s_ret se_bl)) ss_nil)
      (ss_cons (s_if (st_not (st_val (se_all rfl D.m_all (se_lc (own := [("stand", 5)]) 10000 rfl sc_is_machine.nd (si_seq (sv 3)) (blk_of (by kernel_rfl)) (by decide) (fun _ _ _ _ _ => (sg_name sc_is_machine.nd (by rfl) (by first | exact Or.inl rfl | exact Or.inr rfl))) (fun _ _ _ _ _ => sts_nil) (fun _ _ _ _ _ => (se_call (ok_is_stand (base := base) D) (rm hr) (by rfl) (D.h_is_stand).gl (D.h_is_stand).F.kp (D.h_is_stand).bi takes0 (sa_cons (sv 5) (sa_cons (se_len D.m_len (sv 2)) (sa_cons (se_len D.m_len (sv 3)) sa_nil))))))))) (ss_one (s_ret se_bl)) ss_nil)
      (ss_cons (s_set sc_is_machine.nd (by rfl) (by first | exact Or.inl rfl | exact Or.inr rfl) (se_call (ok_met_order (base := base) D) (rm hr) (by rfl) (D.h_met_order).gl (D.h_met_order).F.kp (D.h_met_order).bi (takes_of rfl rfl rfl rfl) (sa_cons se_int (sa_cons (se_lc (own := [("_", 6), ("arrows", 7)]) 10000 rfl sc_is_machine.nd (si_seq (sv 3)) (blk_of (by kernel_rfl)) (by decide) (fun _ _ _ _ _ => (sg_tup rfl (sgs_cons (sg_name sc_is_machine.nd (by rfl) (by first | exact Or.inl rfl | exact Or.inr rfl)) (sgs_cons (sg_name sc_is_machine.nd (by rfl) (by first | exact Or.inl rfl | exact Or.inr rfl)) sgs_nil)))) (fun _ _ _ _ _ => sts_nil) (fun _ _ _ _ _ => (sv 7))) sa_nil))))
      (ss_one (s_ret (se_and (se_eq hr (se_len D.m_len (sv 8)) (se_len D.m_len (sv 3))) (se_one (se_eq hr (se_len D.m_len (se_call (ok_inner_order (base := base) D) (rm hr) (by rfl) (D.h_inner_order).gl (D.h_inner_order).F.kp (D.h_inner_order).bi (takes_of rfl rfl rfl rfl) (sa_cons (sv 3) sa_nil))) (se_sb (se_len D.m_len (sv 3)) se_int)))))))))))
theorem ok_is_machine (D : Defs K mg) : FnOk P w K mg base (L2.CX P w) 7 (D.h_is_machine).f (D.h_is_machine).fd ["thing", "n"] (spNc ⟨K, w, mg⟩ (tx D) F_is_machine) := fn_okD (g := g_is_machine) (D.h_is_machine).F sc_is_machine (hF := rfl) (h1 := rfl) (h2 := rfl) (body := fun cdv A outer s H E hr => b_is_machine D _ cdv A outer s H E hr)
/-! ### places_of -/
theorem sc_places_of : FnScope ["machine", "steps", "_"] ["machine"] (defScope s_places_of) := ⟨rfl, rfl, rfl, by decide +kernel, rfl, by decide +kernel, by decide +kernel⟩
def g_places_of : DS := (gSeq (gAsg (dVar 0) (gTupD 2 (gsCons (gN 1) (gsCons (gN 2) gsNil))))
  (gRet (dCall oLen (dCons (dOp dIxA (dOp dIxA (dVar 1) (dC (.int 0))) (dC (.int 0))) dNil))))
def F_places_of : DF := runF g_places_of 1 3
theorem b_places_of (D : Defs K mg) (f : Addr) (cdv : Value) (A : Around) (outer : List Env) (s : Shared) (H : Hp) (E : XK) (hr : Room 0 (A.deeper (envOfC "places_of" (defScope s_places_of) s.heap.objs.size f cdv))) :
    SSs (cxOf (L2.CX P w) P w K mg base ["machine", "steps", "_"] "places_of" (defScope s_places_of) f cdv A outer s H E) (tx D) (wOf E) (defBody s_places_of) g_places_of :=
  (ss_cons (s_asg (sv 0) (sg_tup rfl (sgs_cons (sg_name sc_places_of.nd (by rfl) (by first | exact Or.inl rfl | exact Or.inr rfl)) (sgs_cons (sg_name sc_places_of.nd (by rfl) (by first | exact Or.inl rfl | exact Or.inr rfl)) sgs_nil))))
      (ss_one (s_ret (se_len D.m_len (se_sub hr (se_sub hr (sv 1) se_int (fun _ _ => rfl)) se_int (fun _ _ => rfl))))))
theorem ok_places_of (D : Defs K mg) : FnOk P w K mg base (L2.CX P w) 1 (D.h_places_of).f (D.h_places_of).fd ["machine"] (spNc ⟨K, w, mg⟩ (tx D) F_places_of) := fn_okD (g := g_places_of) (D.h_places_of).F sc_places_of (hF := rfl) (h1 := rfl) (h2 := rfl) (body := fun cdv A outer s H E hr => b_places_of D _ cdv A outer s H E hr)
/-! ### one_round -/
theorem sc_one_round : FnScope ["steps", "ends", "k", "end"] ["steps"] (defScope s_one_round) := ⟨rfl, rfl, rfl, by decide +kernel, rfl, by decide +kernel, by decide +kernel⟩
def g_one_round : DS := (gSeq (gAsg (dFn (F_frozen RL) (dCons (dVar 0) dNil)) (gN 0))
  (gSeq (gAsg (dOp dAdd (dLRg (dC (.int 1)) (dCall oLen (dCons (dVar 0) dNil))) (dLst (dCons (dC (.int 0)) dNil))) (gN 1))
  (gRet (dTup (dCons (dVar 0) (dCons (dCall oTuple (dCons (dLc (iEnumD (dCons (dVar 1) dNil)) (gTupD 2 (gsCons (gN 2) (gsCons (gN 3) gsNil))) dYes (dTup (dCons (dC (.str "any")) (dCons (dTup (dCons (dTup (dCons (dVar 2) (dCons (dVar 3) dNil))) dNil)) dNil))) [2, 3] 10000) dNil)) dNil))))))
def F_one_round : DF := runF g_one_round 1 4
theorem b_one_round (D : Defs K mg) (f : Addr) (cdv : Value) (A : Around) (outer : List Env) (s : Shared) (H : Hp) (E : XK) (hr : Room 10 (A.deeper (envOfC "one_round" (defScope s_one_round) s.heap.objs.size f cdv))) :
    SSs (cxOf (L2.CX P w) P w K mg base ["steps", "ends", "k", "end"] "one_round" (defScope s_one_round) f cdv A outer s H E) (tx D) (wOf E) (defBody s_one_round) g_one_round :=
  (ss_cons (s_set sc_one_round.nd (by rfl) (by first | exact Or.inl rfl | exact Or.inr rfl) (se_call (ok_frozen (base := base) D) (rm hr) (by rfl) (D.h_frozen).gl (D.h_frozen).F.kp (D.h_frozen).bi (takes_of rfl rfl rfl rfl) (sa_cons (sv 0) sa_nil)))
      (ss_cons (s_set sc_one_round.nd (by rfl) (by first | exact Or.inl rfl | exact Or.inr rfl) (se_add (se_lrg2 rfl D.m_list D.m_range se_int (se_len D.m_len (sv 0))) (se_lst (sa_cons se_int sa_nil))))
      (ss_one (s_ret (se_tup (sa_cons (sv 0) (sa_cons (se_tuple D.m_tuple (se_lc (own := [("k", 2), ("end", 3)]) 10000 rfl sc_one_round.nd (si_enum (by rfl) D.m_enumerate (sa_cons (sv 1) sa_nil)) (blk_of (by kernel_rfl)) (by decide) (fun _ _ _ _ _ => (sg_tup rfl (sgs_cons (sg_name sc_one_round.nd (by rfl) (by first | exact Or.inl rfl | exact Or.inr rfl)) (sgs_cons (sg_name sc_one_round.nd (by rfl) (by first | exact Or.inl rfl | exact Or.inr rfl)) sgs_nil)))) (fun _ _ _ _ _ => sts_nil) (fun _ _ _ _ _ => (se_tup (sa_cons se_str (sa_cons (se_tup (sa_cons (se_tup (sa_cons (sv 2) (sa_cons (sv 3) sa_nil))) sa_nil)) sa_nil)))))) sa_nil)))))))
theorem ok_one_round (D : Defs K mg) : FnOk P w K mg base (L2.CX P w) 11 (D.h_one_round).f (D.h_one_round).fd ["steps"] (spNc ⟨K, w, mg⟩ (tx D) F_one_round) := fn_okD (g := g_one_round) (D.h_one_round).F sc_one_round (hF := rfl) (h1 := rfl) (h2 := rfl) (body := fun cdv A outer s H E hr => b_one_round D _ cdv A outer s H E hr)
/-! ### one_choice -/
theorem sc_one_choice : FnScope ["owner", "steps", "k"] ["owner", "steps"] (defScope s_one_choice) := ⟨rfl, rfl, rfl, by decide +kernel, rfl, by decide +kernel, by decide +kernel⟩
def g_one_choice : DS := (gSeq (gAsg (dFn (F_frozen RL) (dCons (dVar 1) dNil)) (gN 1))
  (gRet (dTup (dCons (dVar 1) (dCons (dTup (dCons (dTup (dCons (dVar 0) (dCons (dCall oTuple (dCons (dLc (iR1 (dCons (dCall oLen (dCons (dVar 1) dNil)) dNil)) (gN 2) dYes (dTup (dCons (dVar 2) (dCons (dC (.int 0)) dNil))) [2] 10000) dNil)) dNil))) dNil)) dNil)))))
def F_one_choice : DF := runF g_one_choice 2 3
theorem b_one_choice (D : Defs K mg) (f : Addr) (cdv : Value) (A : Around) (outer : List Env) (s : Shared) (H : Hp) (E : XK) (hr : Room 10 (A.deeper (envOfC "one_choice" (defScope s_one_choice) s.heap.objs.size f cdv))) :
    SSs (cxOf (L2.CX P w) P w K mg base ["owner", "steps", "k"] "one_choice" (defScope s_one_choice) f cdv A outer s H E) (tx D) (wOf E) (defBody s_one_choice) g_one_choice :=
  (ss_cons (s_set sc_one_choice.nd (by rfl) (by first | exact Or.inl rfl | exact Or.inr rfl) (se_call (ok_frozen (base := base) D) (rm hr) (by rfl) (D.h_frozen).gl (D.h_frozen).F.kp (D.h_frozen).bi (takes_of rfl rfl rfl rfl) (sa_cons (sv 1) sa_nil)))
      (ss_one (s_ret (se_tup (sa_cons (sv 1) (sa_cons (se_tup (sa_cons (se_tup (sa_cons (sv 0) (sa_cons (se_tuple D.m_tuple (se_lc (own := [("k", 2)]) 10000 rfl sc_one_choice.nd (si_range1 (by rfl) D.m_range (sa_cons (se_len D.m_len (sv 1)) sa_nil)) (blk_of (by kernel_rfl)) (by decide) (fun _ _ _ _ _ => (sg_name sc_one_choice.nd (by rfl) (by first | exact Or.inl rfl | exact Or.inr rfl))) (fun _ _ _ _ _ => sts_nil) (fun _ _ _ _ _ => (se_tup (sa_cons (sv 2) (sa_cons se_int sa_nil)))))) sa_nil))) sa_nil)) sa_nil))))))
theorem ok_one_choice (D : Defs K mg) : FnOk P w K mg base (L2.CX P w) 11 (D.h_one_choice).f (D.h_one_choice).fd ["owner", "steps"] (spNc ⟨K, w, mg⟩ (tx D) F_one_choice) := fn_okD (g := g_one_choice) (D.h_one_choice).F sc_one_choice (hF := rfl) (h1 := rfl) (h2 := rfl) (body := fun cdv A outer s H E hr => b_one_choice D _ cdv A outer s H E hr)
/-! ### choices -/
theorem sc_choices : FnScope ["machine", "owner", "_", "stands", "k", "own", "arrows"] ["machine", "owner"] (defScope s_choices) := ⟨rfl, rfl, rfl, by decide +kernel, rfl, by decide +kernel, by decide +kernel⟩
def g_choices : DS := (gSeq (gAsg (dVar 0) (gTupD 2 (gsCons (gN 2) (gsCons (gN 3) gsNil))))
  (gRet (dCall oTuple (dCons (dLc (iEnumD (dCons (dVar 3) dNil)) (gTupD 2 (gsCons (gN 4) (gsCons (gTupD 2 (gsCons (gN 5) (gsCons (gN 6) gsNil))) gsNil))) (dAnd (dTest (dOp dEq (dVar 5) (dVar 1))) (dTest (dOp (dInts gtI) (dCall oLen (dCons (dVar 6) dNil)) (dC (.int 1))))) (dVar 4) [4, 5, 6] 10000) dNil))))
def F_choices : DF := runF g_choices 2 7
theorem b_choices (D : Defs K mg) (f : Addr) (cdv : Value) (A : Around) (outer : List Env) (s : Shared) (H : Hp) (E : XK) (hr : Room 0 (A.deeper (envOfC "choices" (defScope s_choices) s.heap.objs.size f cdv))) :
    SSs (cxOf (L2.CX P w) P w K mg base ["machine", "owner", "_", "stands", "k", "own", "arrows"] "choices" (defScope s_choices) f cdv A outer s H E) (tx D) (wOf E) (defBody s_choices) g_choices :=
  (ss_cons (s_asg (sv 0) (sg_tup rfl (sgs_cons (sg_name sc_choices.nd (by rfl) (by first | exact Or.inl rfl | exact Or.inr rfl)) (sgs_cons (sg_name sc_choices.nd (by rfl) (by first | exact Or.inl rfl | exact Or.inr rfl)) sgs_nil))))
      (ss_one (s_ret (se_tuple D.m_tuple (se_lc (own := [("k", 4), ("own", 5), ("arrows", 6)]) 10000 rfl sc_choices.nd (si_enum (by rfl) D.m_enumerate (sa_cons (sv 3) sa_nil)) (blk_of (by kernel_rfl)) (by decide) (fun _ _ _ _ _ => (sg_tup rfl (sgs_cons (sg_name sc_choices.nd (by rfl) (by first | exact Or.inl rfl | exact Or.inr rfl)) (sgs_cons (sg_tup rfl (sgs_cons (sg_name sc_choices.nd (by rfl) (by first | exact Or.inl rfl | exact Or.inr rfl)) (sgs_cons (sg_name sc_choices.nd (by rfl) (by first | exact Or.inl rfl | exact Or.inr rfl)) sgs_nil))) sgs_nil)))) (fun _ _ _ _ _ => (sts_one (SW.st (sw_and (st_eq hr (sv 5) (sv 1)) (sw_and1 (st_gt (se_len D.m_len (sv 6)) se_int)))))) (fun _ _ _ _ _ => (sv 4)))))))
theorem ok_choices (D : Defs K mg) : FnOk P w K mg base (L2.CX P w) 1 (D.h_choices).f (D.h_choices).fd ["machine", "owner"] (spNc ⟨K, w, mg⟩ (tx D) F_choices) := fn_okD (g := g_choices) (D.h_choices).F sc_choices (hF := rfl) (h1 := rfl) (h2 := rfl) (body := fun cdv A outer s H E hr => b_choices D _ cdv A outer s H E hr)
/-! ### is_row -/
theorem sc_is_row : FnScope ["machine", "stand", "thing", "_", "stands", "arrow", "arrows"] ["machine", "stand", "thing"] (defScope s_is_row) := ⟨rfl, rfl, rfl, by decide +kernel, rfl, by decide +kernel, by decide +kernel⟩
def g_is_row : DS := (gSeq (gAsg (dVar 0) (gTupD 2 (gsCons (gN 3) (gsCons (gN 4) gsNil))))
  (gSeq (gIf (dNot (dTest (dIsi .tup (dVar 2)))) (gRet (dC (.bl false))) gNil)
  (gSeq (gForI (iSeq (dVar 2)) (gN 5) (gSeq (gAsg (dOp dIxA (dOp dIxA (dVar 4) (dVar 1)) (dC (.int 1))) (gN 6))
  (gSeq (gIf (dNot (dTest (dFn F_is_number_below (dCons (dVar 5) (dCons (dCall oLen (dCons (dVar 6) dNil)) dNil))))) (gRet (dC (.bl false))) gNil)
  (gAsg (dOp dIxA (dOp dIxA (dVar 6) (dVar 5)) (dC (.int 1))) (gN 1)))) 10000)
  (gRet (dC (.bl true))))))
def F_is_row : DF := runF g_is_row 3 7
theorem b_is_row (D : Defs K mg) (f : Addr) (cdv : Value) (A : Around) (outer : List Env) (s : Shared) (H : Hp) (E : XK) (hr : Room 2 (A.deeper (envOfC "is_row" (defScope s_is_row) s.heap.objs.size f cdv))) :
    SSs (cxOf (L2.CX P w) P w K mg base ["machine", "stand", "thing", "_", "stands", "arrow", "arrows"] "is_row" (defScope s_is_row) f cdv A outer s H E) (tx D) (wOf E) (defBody s_is_row) g_is_row :=
  (ss_cons (s_asg (sv 0) (sg_tup rfl (sgs_cons (sg_name sc_is_row.nd (by rfl) (by first | exact Or.inl rfl | exact Or.inr rfl)) (sgs_cons (sg_name sc_is_row.nd (by rfl) (by first | exact Or.inl rfl | exact Or.inr rfl)) sgs_nil))))
      (ss_cons (s_if (st_not (st_val (se_isi .tup (by intro h; cases h) (sv 2) (by rfl) D.m_isinstance (pe_tyName "tuple" (by rfl) D.m_tuple (by rfl))))) (ss_one (s_ret se_bl)) ss_nil)
      (ss_cons (s_for 10000 (passes_of rfl) rfl (si_seq (sv 2)) (sg_name sc_is_row.nd (by rfl) (by first | exact Or.inl rfl | exact Or.inr rfl)) (ss_cons (s_set sc_is_row.nd (by rfl) (by first | exact Or.inl rfl | exact Or.inr rfl) (se_sub hr (se_sub hr (sv 4) (sv 1) (fun _ _ => rfl)) se_int (fun _ _ => rfl)))
      (ss_cons (s_if (st_not (st_val (se_call (ok_is_number_below (base := base) D) (rm hr) (by rfl) (D.h_is_number_below).gl (D.h_is_number_below).F.kp (D.h_is_number_below).bi (takes_of rfl rfl rfl rfl) (sa_cons (sv 5) (sa_cons (se_len D.m_len (sv 6)) sa_nil))))) (ss_one (s_ret se_bl)) ss_nil)
      (ss_one (s_set sc_is_row.nd (by rfl) (by first | exact Or.inl rfl | exact Or.inr rfl) (se_sub hr (se_sub hr (sv 6) (sv 5) (fun _ _ => rfl)) se_int (fun _ _ => rfl)))))))
      (ss_one (s_ret se_bl)))))
theorem ok_is_row (D : Defs K mg) : FnOk P w K mg base (L2.CX P w) 3 (D.h_is_row).f (D.h_is_row).fd ["machine", "stand", "thing"] (spNc ⟨K, w, mg⟩ (tx D) F_is_row) := fn_okD (g := g_is_row) (D.h_is_row).F sc_is_row (hF := rfl) (h1 := rfl) (h2 := rfl) (body := fun cdv A outer s H E hr => b_is_row D _ cdv A outer s H E hr)
/-! ### row_end -/
theorem sc_row_end : FnScope ["machine", "stand", "row", "_", "stands"] ["machine", "stand", "row"] (defScope s_row_end) := ⟨rfl, rfl, rfl, by decide +kernel, rfl, by decide +kernel, by decide +kernel⟩
def g_row_end : DS := (gSeq (gAsg (dVar 0) (gTupD 2 (gsCons (gN 3) (gsCons (gN 4) gsNil))))
  (gRet (dFn F_end_of (dCons (dVar 4) (dCons (dVar 1) (dCons (dVar 2) dNil))))))
def F_row_end : DF := runF g_row_end 3 5
theorem b_row_end (D : Defs K mg) (f : Addr) (cdv : Value) (A : Around) (outer : List Env) (s : Shared) (H : Hp) (E : XK) (hr : Room 1 (A.deeper (envOfC "row_end" (defScope s_row_end) s.heap.objs.size f cdv))) :
    SSs (cxOf (L2.CX P w) P w K mg base ["machine", "stand", "row", "_", "stands"] "row_end" (defScope s_row_end) f cdv A outer s H E) (tx D) (wOf E) (defBody s_row_end) g_row_end :=
  (ss_cons (s_asg (sv 0) (sg_tup rfl (sgs_cons (sg_name sc_row_end.nd (by rfl) (by first | exact Or.inl rfl | exact Or.inr rfl)) (sgs_cons (sg_name sc_row_end.nd (by rfl) (by first | exact Or.inl rfl | exact Or.inr rfl)) sgs_nil))))
      (ss_one (s_ret (se_call (ok_end_of (base := base) D) (rm hr) (by rfl) (D.h_end_of).gl (D.h_end_of).F.kp (D.h_end_of).bi (takes_of rfl rfl rfl rfl) (sa_cons (sv 4) (sa_cons (sv 1) (sa_cons (sv 2) sa_nil)))))))
theorem ok_row_end (D : Defs K mg) : FnOk P w K mg base (L2.CX P w) 2 (D.h_row_end).f (D.h_row_end).fd ["machine", "stand", "row"] (spNc ⟨K, w, mg⟩ (tx D) F_row_end) := fn_okD (g := g_row_end) (D.h_row_end).F sc_row_end (hF := rfl) (h1 := rfl) (h2 := rfl) (body := fun cdv A outer s H E hr => b_row_end D _ cdv A outer s H E hr)
/-! ### rows_of -/
theorem sc_rows_of : FnScope ["machine", "stand", "many", "_", "stands", "found", "row"] ["machine", "stand", "many"] (defScope s_rows_of) := ⟨rfl, rfl, rfl, by decide +kernel, rfl, by decide +kernel, by decide +kernel⟩
def g_rows_of : DS := (gSeq (gAsg (dVar 0) (gTupD 2 (gsCons (gN 3) (gsCons (gN 4) gsNil))))
  (gSeq (gAsg (dLst (dCons (dTup (dCons (dTup dNil) (dCons (dVar 1) dNil))) dNil)) (gN 5))
  (gSeq (gForI (iR1 (dCons (dVar 2) dNil)) (gN 3) (gSeq (gIf (dTest (dOp (dInts gtI) (dCall oLen (dCons (dVar 5) dNil)) (dC (.int 2000)))) (gRaise 2) gNil)
  (gAsg (dFn F_longer_rows (dCons (dVar 4) (dCons (dVar 5) dNil))) (gN 5))) 10000)
  (gSeq (gIf (dTest (dOp (dInts gtI) (dCall oLen (dCons (dVar 5) dNil)) (dC (.int 2000)))) (gRaise 2) gNil)
  (gRet (dLc (iSeq (dVar 5)) (gTupD 2 (gsCons (gN 6) (gsCons (gN 3) gsNil))) dYes (dVar 6) [6, 3] 10000))))))
def F_rows_of : DF := runF g_rows_of 3 7
theorem b_rows_of (D : Defs K mg) (f : Addr) (cdv : Value) (A : Around) (outer : List Env) (s : Shared) (H : Hp) (E : XK) (hr : Room 2 (A.deeper (envOfC "rows_of" (defScope s_rows_of) s.heap.objs.size f cdv))) :
    SSs (cxOf (L2.CX P w) P w K mg base ["machine", "stand", "many", "_", "stands", "found", "row"] "rows_of" (defScope s_rows_of) f cdv A outer s H E) (tx D) (wOf E) (defBody s_rows_of) g_rows_of :=
  (ss_cons (s_asg (sv 0) (sg_tup rfl (sgs_cons (sg_name sc_rows_of.nd (by rfl) (by first | exact Or.inl rfl | exact Or.inr rfl)) (sgs_cons (sg_name sc_rows_of.nd (by rfl) (by first | exact Or.inl rfl | exact Or.inr rfl)) sgs_nil))))
      (ss_cons (s_set sc_rows_of.nd (by rfl) (by first | exact Or.inl rfl | exact Or.inr rfl) (se_lst (sa_cons (se_tup (sa_cons (se_tup sa_nil) (sa_cons (sv 1) sa_nil))) sa_nil)))
      (ss_cons (s_for 10000 (passes_of rfl) rfl (si_range1 (by rfl) D.m_range (sa_cons (sv 2) sa_nil)) (sg_name sc_rows_of.nd (by rfl) (by first | exact Or.inl rfl | exact Or.inr rfl)) (ss_cons (s_if (st_gt (se_len D.m_len (sv 5)) (se_gint D.c_MOST_ROWS.gl)) (ss_one (s_raise 2 rfl rfl rfl (takes_of rfl rfl rfl rfl) (pmk_pass D.x_TooMuch.O D.x_TooMuch.iC D.x_TooMuch.tI (ok_TooMuch (base := base) D) (rm hr) D.x_TooMuch.bi (by rfl) D.x_TooMuch.gl))) ss_nil)
      (ss_one (s_set sc_rows_of.nd (by rfl) (by first | exact Or.inl rfl | exact Or.inr rfl) (se_call (ok_longer_rows (base := base) D) (rm hr) (by rfl) (D.h_longer_rows).gl (D.h_longer_rows).F.kp (D.h_longer_rows).bi (takes_of rfl rfl rfl rfl) (sa_cons (sv 4) (sa_cons (sv 5) sa_nil)))))))
      (ss_cons (s_if (st_gt (se_len D.m_len (sv 5)) (se_gint D.c_MOST_ROWS.gl)) (ss_one (s_raise 2 rfl rfl rfl (takes_of rfl rfl rfl rfl) (pmk_pass D.x_TooMuch.O D.x_TooMuch.iC D.x_TooMuch.tI (ok_TooMuch (base := base) D) (rm hr) D.x_TooMuch.bi (by rfl) D.x_TooMuch.gl))) ss_nil)
      (ss_one (s_ret (se_lc (own := [("row", 6), ("_", 3)]) 10000 rfl sc_rows_of.nd (si_seq (sv 5)) (blk_of (by kernel_rfl)) (by decide) (fun _ _ _ _ _ => (sg_tup rfl (sgs_cons (sg_name sc_rows_of.nd (by rfl) (by first | exact Or.inl rfl | exact Or.inr rfl)) (sgs_cons (sg_name sc_rows_of.nd (by rfl) (by first | exact Or.inl rfl | exact Or.inr rfl)) sgs_nil)))) (fun _ _ _ _ _ => sts_nil) (fun _ _ _ _ _ => (sv 6)))))))))
theorem ok_rows_of (D : Defs K mg) : FnOk P w K mg base (L2.CX P w) 3 (D.h_rows_of).f (D.h_rows_of).fd ["machine", "stand", "many"] (spNc ⟨K, w, mg⟩ (tx D) F_rows_of) := fn_okD (g := g_rows_of) (D.h_rows_of).F sc_rows_of (hF := rfl) (h1 := rfl) (h2 := rfl) (body := fun cdv A outer s H E hr => b_rows_of D _ cdv A outer s H E hr)
/-! ### count_rounds -/
theorem sc_count_rounds : FnScope ["stands", "counts", "stand", "_", "end"] ["stands"] (defScope s_count_rounds) := ⟨rfl, rfl, rfl, by decide +kernel, rfl, by decide +kernel, by decide +kernel⟩
def g_count_rounds : DS := (gSeq (gAsg dEmpty (gN 1))
  (gSeq (gForI (iSeq (dOp dAdd (dListRev (dFn F_inner_order (dCons (dVar 0) dNil))) (dLst (dCons (dC (.int 0)) dNil)))) (gN 2) (gAsg (dCall oSum (dCons (dLc (iSeq (dOp dIxA (dOp dIxA (dVar 0) (dVar 2)) (dC (.int 1)))) (gTupD 2 (gsCons (gN 3) (gsCons (gN 4) gsNil))) dYes (dIf (dTest (dOp dNe (dVar 4) (dC (.int 0)))) (dOp dIxA (dVar 1) (dVar 4)) (dC (.int 1))) [3, 4] 10000) dNil)) (gSubD (dVar 1) (dVar 2))) 10000)
  (gRet (dOp dIxA (dVar 1) (dC (.int 0))))))
def F_count_rounds : DF := runF g_count_rounds 1 5
theorem b_count_rounds (D : Defs K mg) (f : Addr) (cdv : Value) (A : Around) (outer : List Env) (s : Shared) (H : Hp) (E : XK) (hr : Room 1 (A.deeper (envOfC "count_rounds" (defScope s_count_rounds) s.heap.objs.size f cdv))) :
    SSs (cxOf (L2.CX P w) P w K mg base ["stands", "counts", "stand", "_", "end"] "count_rounds" (defScope s_count_rounds) f cdv A outer s H E) (tx D) (wOf E) (defBody s_count_rounds) g_count_rounds :=
  (ss_cons (s_set sc_count_rounds.nd (by rfl) (by first | exact Or.inl rfl | exact Or.inr rfl) se_dict0)
      (ss_cons (s_for 10000 (passes_of rfl) rfl (si_seq (se_add (se_listRev rfl D.m_list D.m_reversed (se_call (ok_inner_order (base := base) D) (rm hr) (by rfl) (D.h_inner_order).gl (D.h_inner_order).F.kp (D.h_inner_order).bi (takes_of rfl rfl rfl rfl) (sa_cons (sv 0) sa_nil))) (se_lst (sa_cons se_int sa_nil)))) (sg_name sc_count_rounds.nd (by rfl) (by first | exact Or.inl rfl | exact Or.inr rfl)) (ss_one (s_asg (se_sum rfl D.m_sum (se_lc (own := [("_", 3), ("end", 4)]) 10000 rfl sc_count_rounds.nd (si_seq (se_sub hr (se_sub hr (sv 0) (sv 2) (fun _ _ => rfl)) se_int (fun _ _ => rfl))) (blk_of (by kernel_rfl)) (by decide) (fun _ _ _ _ _ => (sg_tup rfl (sgs_cons (sg_name sc_count_rounds.nd (by rfl) (by first | exact Or.inl rfl | exact Or.inr rfl)) (sgs_cons (sg_name sc_count_rounds.nd (by rfl) (by first | exact Or.inl rfl | exact Or.inr rfl)) sgs_nil)))) (fun _ _ _ _ _ => sts_nil) (fun _ _ _ _ _ => (se_if (st_ne hr (sv 4) se_int) (se_sub hr (sv 1) (sv 4) (fun _ _ => rfl)) se_int)))) (sg_sub (T := tx D) hr (sv 1) (sv 2)))))
      (ss_one (s_ret (se_sub hr (sv 1) se_int (fun _ _ => rfl))))))
theorem ok_count_rounds (D : Defs K mg) : FnOk P w K mg base (L2.CX P w) 2 (D.h_count_rounds).f (D.h_count_rounds).fd ["stands"] (spNc ⟨K, w, mg⟩ (tx D) F_count_rounds) := fn_okD (g := g_count_rounds) (D.h_count_rounds).F sc_count_rounds (hF := rfl) (h1 := rfl) (h2 := rfl) (body := fun cdv A outer s H E hr => b_count_rounds D _ cdv A outer s H E hr)
/-! ### rounds -/
theorem sc_rounds : FnScope ["machine", "_", "stands", "ended", "going", "longer", "row", "end"] ["machine"] (defScope s_rounds) := ⟨rfl, rfl, rfl, by decide +kernel, rfl, by decide +kernel, by decide +kernel⟩
def g_rounds : DS := (gSeq (gAsg (dVar 0) (gTupD 2 (gsCons (gN 1) (gsCons (gN 2) gsNil))))
  (gSeq (gIf (dTest (dOp (dInts gtI) (dFn F_count_rounds (dCons (dVar 2) dNil)) (dC (.int 2000)))) (gRaise 2) gNil)
  (gSeq (gAsg (dLst dNil) (gN 3))
  (gSeq (gAsg (dLst (dCons (dTup (dCons (dTup dNil) (dCons (dC (.int 0)) dNil))) dNil)) (gN 4))
  (gSeq (gWhile (dTest (dOp dNe (dVar 4) (dLst dNil))) (gSeq (gAsg (dFn F_longer_rows (dCons (dVar 2) (dCons (dVar 4) dNil))) (gN 5))
  (gSeq (gAsg (dOp dAdd (dVar 3) (dLc (iSeq (dVar 5)) (gTupD 2 (gsCons (gN 6) (gsCons (gN 7) gsNil))) (dTest (dOp dEq (dVar 7) (dC (.int 0)))) (dVar 6) [6, 7] 10000)) (gN 3))
  (gAsg (dLc (iSeq (dVar 5)) (gTupD 2 (gsCons (gN 6) (gsCons (gN 7) gsNil))) (dTest (dOp dNe (dVar 7) (dC (.int 0)))) (dTup (dCons (dVar 6) (dCons (dVar 7) dNil))) [6, 7] 10000) (gN 4)))) 10000)
  (gRet (dCall oSorted (dCons (dVar 3) dNil))))))))
def F_rounds : DF := runF g_rounds 1 8
theorem b_rounds (D : Defs K mg) (f : Addr) (cdv : Value) (A : Around) (outer : List Env) (s : Shared) (H : Hp) (E : XK) (hr : Room 2 (A.deeper (envOfC "rounds" (defScope s_rounds) s.heap.objs.size f cdv))) :
    SSs (cxOf (L2.CX P w) P w K mg base ["machine", "_", "stands", "ended", "going", "longer", "row", "end"] "rounds" (defScope s_rounds) f cdv A outer s H E) (tx D) (wOf E) (defBody s_rounds) g_rounds :=
  (ss_cons (s_asg (sv 0) (sg_tup rfl (sgs_cons (sg_name sc_rounds.nd (by rfl) (by first | exact Or.inl rfl | exact Or.inr rfl)) (sgs_cons (sg_name sc_rounds.nd (by rfl) (by first | exact Or.inl rfl | exact Or.inr rfl)) sgs_nil))))
      (ss_cons (s_if (st_gt (se_call (ok_count_rounds (base := base) D) (rm hr) (by rfl) (D.h_count_rounds).gl (D.h_count_rounds).F.kp (D.h_count_rounds).bi (takes_of rfl rfl rfl rfl) (sa_cons (sv 2) sa_nil)) (se_gint D.c_MOST_ROWS.gl)) (ss_one (s_raise 2 rfl rfl rfl (takes_of rfl rfl rfl rfl) (pmk_pass D.x_TooMuch.O D.x_TooMuch.iC D.x_TooMuch.tI (ok_TooMuch (base := base) D) (rm hr) D.x_TooMuch.bi (by rfl) D.x_TooMuch.gl))) ss_nil)
      (ss_cons (s_set sc_rounds.nd (by rfl) (by first | exact Or.inl rfl | exact Or.inr rfl) (se_lst sa_nil))
      (ss_cons (s_set sc_rounds.nd (by rfl) (by first | exact Or.inl rfl | exact Or.inr rfl) (se_lst (sa_cons (se_tup (sa_cons (se_tup sa_nil) (sa_cons se_int sa_nil))) sa_nil)))
      (ss_cons (s_while 10000 (passes_of rfl) (st_ne hr (sv 4) (se_lst sa_nil)) (ss_cons (s_set sc_rounds.nd (by rfl) (by first | exact Or.inl rfl | exact Or.inr rfl) (se_call (ok_longer_rows (base := base) D) (rm hr) (by rfl) (D.h_longer_rows).gl (D.h_longer_rows).F.kp (D.h_longer_rows).bi (takes_of rfl rfl rfl rfl) (sa_cons (sv 2) (sa_cons (sv 4) sa_nil))))
      (ss_cons (s_set sc_rounds.nd (by rfl) (by first | exact Or.inl rfl | exact Or.inr rfl) (se_add (sv 3) (se_lc (own := [("row", 6), ("end", 7)]) 10000 rfl sc_rounds.nd (si_seq (sv 5)) (blk_of (by kernel_rfl)) (by decide) (fun _ _ _ _ _ => (sg_tup rfl (sgs_cons (sg_name sc_rounds.nd (by rfl) (by first | exact Or.inl rfl | exact Or.inr rfl)) (sgs_cons (sg_name sc_rounds.nd (by rfl) (by first | exact Or.inl rfl | exact Or.inr rfl)) sgs_nil)))) (fun _ _ _ _ _ => (sts_one (st_eq hr (sv 7) se_int))) (fun _ _ _ _ _ => (sv 6)))))
      (ss_one (s_setLc (own := [("row", 6), ("end", 7)]) 10000 (i := 4) rfl sc_rounds.nd (by rfl) (by rfl) (by rfl) (si_seq (sv 5)) (blk_of (by kernel_rfl)) (by decide) (fun _ _ _ _ _ => (sg_tup rfl (sgs_cons (sg_name sc_rounds.nd (by rfl) (by first | exact Or.inl rfl | exact Or.inr rfl)) (sgs_cons (sg_name sc_rounds.nd (by rfl) (by first | exact Or.inl rfl | exact Or.inr rfl)) sgs_nil)))) (fun _ _ _ _ _ => (sts_one (st_ne hr (sv 7) se_int))) (fun _ _ _ _ _ => (se_tup (sa_cons (sv 6) (sa_cons (sv 7) sa_nil)))))))))
      (ss_one (s_ret (se_sorted hr D.m_sorted (sv 3)))))))))
theorem ok_rounds (D : Defs K mg) : FnOk P w K mg base (L2.CX P w) 3 (D.h_rounds).f (D.h_rounds).fd ["machine"] (spNc ⟨K, w, mg⟩ (tx D) F_rounds) := fn_okD (g := g_rounds) (D.h_rounds).F sc_rounds (hF := rfl) (h1 := rfl) (h2 := rfl) (body := fun cdv A outer s H E hr => b_rounds D _ cdv A outer s H E hr)
/-! ### round_lengths -/
theorem sc_round_lengths : FnScope ["machine", "_", "stands", "least", "greatest", "stand", "end", "ends"] ["machine"] (defScope s_round_lengths) := ⟨rfl, rfl, rfl, by decide +kernel, rfl, by decide +kernel, by decide +kernel⟩
def g_round_lengths : DS := (gSeq (gAsg (dVar 0) (gTupD 2 (gsCons (gN 1) (gsCons (gN 2) gsNil))))
  (gSeq (gAsg dEmpty (gN 3))
  (gSeq (gAsg dEmpty (gN 4))
  (gSeq (gForI (iSeq (dOp dAdd (dListRev (dFn F_inner_order (dCons (dVar 2) dNil))) (dLst (dCons (dC (.int 0)) dNil)))) (gN 5) (gSeq (gAsg (dLc (iSeq (dOp dIxA (dOp dIxA (dVar 2) (dVar 5)) (dC (.int 1)))) (gTupD 2 (gsCons (gN 1) (gsCons (gN 6) gsNil))) dYes (dVar 6) [1, 6] 10000) (gN 7))
  (gSeq (gAsg (dOp dAdd (dC (.int 1)) (dCall (oMM minL) (dCons (dLc (iSeq (dVar 7)) (gN 6) dYes (dIf (dTest (dOp dNe (dVar 6) (dC (.int 0)))) (dOp dIxA (dVar 3) (dVar 6)) (dC (.int 0))) [6] 10000) dNil))) (gSubD (dVar 3) (dVar 5)))
  (gAsg (dOp dAdd (dC (.int 1)) (dCall (oMM maxL) (dCons (dLc (iSeq (dVar 7)) (gN 6) dYes (dIf (dTest (dOp dNe (dVar 6) (dC (.int 0)))) (dOp dIxA (dVar 4) (dVar 6)) (dC (.int 0))) [6] 10000) dNil))) (gSubD (dVar 4) (dVar 5))))) 10000)
  (gRet (dTup (dCons (dOp dIxA (dVar 3) (dC (.int 0))) (dCons (dOp dIxA (dVar 4) (dC (.int 0))) dNil))))))))
def F_round_lengths : DF := runF g_round_lengths 1 8
theorem b_round_lengths (D : Defs K mg) (f : Addr) (cdv : Value) (A : Around) (outer : List Env) (s : Shared) (H : Hp) (E : XK) (hr : Room 1 (A.deeper (envOfC "round_lengths" (defScope s_round_lengths) s.heap.objs.size f cdv))) :
    SSs (cxOf (L2.CX P w) P w K mg base ["machine", "_", "stands", "least", "greatest", "stand", "end", "ends"] "round_lengths" (defScope s_round_lengths) f cdv A outer s H E) (tx D) (wOf E) (defBody s_round_lengths) g_round_lengths :=
  (ss_cons (s_asg (sv 0) (sg_tup rfl (sgs_cons (sg_name sc_round_lengths.nd (by rfl) (by first | exact Or.inl rfl | exact Or.inr rfl)) (sgs_cons (sg_name sc_round_lengths.nd (by rfl) (by first | exact Or.inl rfl | exact Or.inr rfl)) sgs_nil))))
      (ss_cons (s_set sc_round_lengths.nd (by rfl) (by first | exact Or.inl rfl | exact Or.inr rfl) se_dict0)
      (ss_cons (s_set sc_round_lengths.nd (by rfl) (by first | exact Or.inl rfl | exact Or.inr rfl) se_dict0)
      (ss_cons (s_for 10000 (passes_of rfl) rfl (si_seq (se_add (se_listRev rfl D.m_list D.m_reversed (se_call (ok_inner_order (base := base) D) (rm hr) (by rfl) (D.h_inner_order).gl (D.h_inner_order).F.kp (D.h_inner_order).bi (takes_of rfl rfl rfl rfl) (sa_cons (sv 2) sa_nil))) (se_lst (sa_cons se_int sa_nil)))) (sg_name sc_round_lengths.nd (by rfl) (by first | exact Or.inl rfl | exact Or.inr rfl)) (ss_cons (s_setLc (own := [("_", 1), ("end", 6)]) 10000 (i := 7) rfl sc_round_lengths.nd (by rfl) (by rfl) (by rfl) (si_seq (se_sub hr (se_sub hr (sv 2) (sv 5) (fun _ _ => rfl)) se_int (fun _ _ => rfl))) (blk_of (by kernel_rfl)) (by decide) (fun _ _ _ _ _ => (sg_tup rfl (sgs_cons (sg_name sc_round_lengths.nd (by rfl) (by first | exact Or.inl rfl | exact Or.inr rfl)) (sgs_cons (sg_name sc_round_lengths.nd (by rfl) (by first | exact Or.inl rfl | exact Or.inr rfl)) sgs_nil)))) (fun _ _ _ _ _ => sts_nil) (fun _ _ _ _ _ => (sv 6)))
      (ss_cons (s_asg (se_add se_int (se_min1 rfl D.m_min (se_lc (own := [("end", 6)]) 10000 rfl sc_round_lengths.nd (si_seq (sv 7)) (blk_of (by kernel_rfl)) (by decide) (fun _ _ _ _ _ => (sg_name sc_round_lengths.nd (by rfl) (by first | exact Or.inl rfl | exact Or.inr rfl))) (fun _ _ _ _ _ => sts_nil) (fun _ _ _ _ _ => (se_if (st_ne hr (sv 6) se_int) (se_sub hr (sv 3) (sv 6) (fun _ _ => rfl)) se_int))))) (sg_sub (T := tx D) hr (sv 3) (sv 5)))
      (ss_one (s_asg (se_add se_int (se_max1 rfl D.m_max (se_lc (own := [("end", 6)]) 10000 rfl sc_round_lengths.nd (si_seq (sv 7)) (blk_of (by kernel_rfl)) (by decide) (fun _ _ _ _ _ => (sg_name sc_round_lengths.nd (by rfl) (by first | exact Or.inl rfl | exact Or.inr rfl))) (fun _ _ _ _ _ => sts_nil) (fun _ _ _ _ _ => (se_if (st_ne hr (sv 6) se_int) (se_sub hr (sv 4) (sv 6) (fun _ _ => rfl)) se_int))))) (sg_sub (T := tx D) hr (sv 4) (sv 5)))))))
      (ss_one (s_ret (se_tup (sa_cons (se_sub hr (sv 3) se_int (fun _ _ => rfl)) (sa_cons (se_sub hr (sv 4) se_int (fun _ _ => rfl)) sa_nil)))))))))
theorem ok_round_lengths (D : Defs K mg) : FnOk P w K mg base (L2.CX P w) 2 (D.h_round_lengths).f (D.h_round_lengths).fd ["machine"] (spNc ⟨K, w, mg⟩ (tx D) F_round_lengths) := fn_okD (g := g_round_lengths) (D.h_round_lengths).F sc_round_lengths (hF := rfl) (h1 := rfl) (h2 := rfl) (body := fun cdv A outer s H E hr => b_round_lengths D _ cdv A outer s H E hr)
/-! ### go_alike -/
theorem sc_go_alike : FnScope ["machine", "other", "known_steps", "known_kinds", "one"] ["machine", "other"] (defScope s_go_alike) := ⟨rfl, rfl, rfl, by decide +kernel, rfl, by decide +kernel, by decide +kernel⟩
def g_go_alike : DS := (gSeq (gAsg dEmpty (gN 2))
  (gSeq (gAsg dEmpty (gN 3))
  (gSeq (gAsg (dFn F_begin_kind (dCons (dFn (F_frozen RL) (dCons (dVar 0) dNil)) (dCons (dVar 2) (dCons (dVar 3) dNil)))) (gN 4))
  (gRet (dOp dEq (dVar 4) (dFn F_begin_kind (dCons (dFn (F_frozen RL) (dCons (dVar 1) dNil)) (dCons (dVar 2) (dCons (dVar 3) dNil)))))))))
def F_go_alike : DF := runF g_go_alike 2 5
theorem b_go_alike (D : Defs K mg) (f : Addr) (cdv : Value) (A : Around) (outer : List Env) (s : Shared) (H : Hp) (E : XK) (hr : Room 10 (A.deeper (envOfC "go_alike" (defScope s_go_alike) s.heap.objs.size f cdv))) :
    SSs (cxOf (L2.CX P w) P w K mg base ["machine", "other", "known_steps", "known_kinds", "one"] "go_alike" (defScope s_go_alike) f cdv A outer s H E) (tx D) (wOf E) (defBody s_go_alike) g_go_alike :=
  (ss_cons (s_set sc_go_alike.nd (by rfl) (by first | exact Or.inl rfl | exact Or.inr rfl) se_dict0)
      (ss_cons (s_set sc_go_alike.nd (by rfl) (by first | exact Or.inl rfl | exact Or.inr rfl) se_dict0)
      (ss_cons (s_set sc_go_alike.nd (by rfl) (by first | exact Or.inl rfl | exact Or.inr rfl) (se_call (ok_begin_kind (base := base) D) (rm hr) (by rfl) (D.h_begin_kind).gl (D.h_begin_kind).F.kp (D.h_begin_kind).bi (takes_of rfl rfl rfl rfl) (sa_cons (se_call (ok_frozen (base := base) D) (rm hr) (by rfl) (D.h_frozen).gl (D.h_frozen).F.kp (D.h_frozen).bi (takes_of rfl rfl rfl rfl) (sa_cons (sv 0) sa_nil)) (sa_cons (sv 2) (sa_cons (sv 3) sa_nil)))))
      (ss_one (s_ret (se_eq hr (sv 4) (se_call (ok_begin_kind (base := base) D) (rm hr) (by rfl) (D.h_begin_kind).gl (D.h_begin_kind).F.kp (D.h_begin_kind).bi (takes_of rfl rfl rfl rfl) (sa_cons (se_call (ok_frozen (base := base) D) (rm hr) (by rfl) (D.h_frozen).gl (D.h_frozen).F.kp (D.h_frozen).bi (takes_of rfl rfl rfl rfl) (sa_cons (sv 1) sa_nil)) (sa_cons (sv 2) (sa_cons (sv 3) sa_nil))))))))))
theorem ok_go_alike (D : Defs K mg) : FnOk P w K mg base (L2.CX P w) 11 (D.h_go_alike).f (D.h_go_alike).fd ["machine", "other"] (spNc ⟨K, w, mg⟩ (tx D) F_go_alike) := fn_okD (g := g_go_alike) (D.h_go_alike).F sc_go_alike (hF := rfl) (h1 := rfl) (h2 := rfl) (body := fun cdv A outer s H E hr => b_go_alike D _ cdv A outer s H E hr)
/-! ### stands_as_met -/
theorem sc_stands_as_met : FnScope ["begin", "arrows", "owners", "order", "k", "met", "number", "step", "end"] ["begin", "arrows", "owners"] (defScope s_stands_as_met) := ⟨rfl, rfl, rfl, by decide +kernel, rfl, by decide +kernel, by decide +kernel⟩
def g_stands_as_met : DS := (gSeq (gAsg (dFn F_met_order (dCons (dVar 0) (dCons (dVar 1) dNil))) (gN 3))
  (gSeq (gAsg (dDc (iEnumD (dCons (dVar 3) dNil)) (gTupD 2 (gsCons (gN 4) (gsCons (gN 5) gsNil))) dYes (dVar 5) (dVar 4) [4, 5] 10000) (gN 6))
  (gRet (dCall oTuple (dCons (dLc (iSeq (dVar 3)) (gN 5) dYes (dTup (dCons (dOp dIxA (dVar 2) (dVar 5)) (dCons (dCall oTuple (dCons (dLc (iSeq (dOp dIxA (dVar 1) (dVar 5))) (gTupD 2 (gsCons (gN 7) (gsCons (gN 8) gsNil))) dYes (dTup (dCons (dVar 7) (dCons (dOp dIxA (dVar 6) (dVar 8)) dNil))) [7, 8] 10000) dNil)) dNil))) [5] 10000) dNil)))))
def F_stands_as_met : DF := runF g_stands_as_met 3 9
theorem b_stands_as_met (D : Defs K mg) (f : Addr) (cdv : Value) (A : Around) (outer : List Env) (s : Shared) (H : Hp) (E : XK) (hr : Room 1 (A.deeper (envOfC "stands_as_met" (defScope s_stands_as_met) s.heap.objs.size f cdv))) :
    SSs (cxOf (L2.CX P w) P w K mg base ["begin", "arrows", "owners", "order", "k", "met", "number", "step", "end"] "stands_as_met" (defScope s_stands_as_met) f cdv A outer s H E) (tx D) (wOf E) (defBody s_stands_as_met) g_stands_as_met :=
  (ss_cons (s_set sc_stands_as_met.nd (by rfl) (by first | exact Or.inl rfl | exact Or.inr rfl) (se_call (ok_met_order (base := base) D) (rm hr) (by rfl) (D.h_met_order).gl (D.h_met_order).F.kp (D.h_met_order).bi (takes_of rfl rfl rfl rfl) (sa_cons (sv 0) (sa_cons (sv 1) sa_nil))))
      (ss_cons (s_set sc_stands_as_met.nd (by rfl) (by first | exact Or.inl rfl | exact Or.inr rfl) (se_dcN (own := [("k", 4), ("met", 5)]) 10000 hr rfl sc_stands_as_met.nd (si_enum (by rfl) D.m_enumerate (sa_cons (sv 3) sa_nil)) (blk_of (by kernel_rfl)) (by decide) (fun _ _ _ _ _ => (sg_tup rfl (sgs_cons (sg_name sc_stands_as_met.nd (by rfl) (by first | exact Or.inl rfl | exact Or.inr rfl)) (sgs_cons (sg_name sc_stands_as_met.nd (by rfl) (by first | exact Or.inl rfl | exact Or.inr rfl)) sgs_nil)))) (fun _ _ _ _ _ => sts_nil) (fun _ _ _ _ _ => (sv 5)) (fun _ _ _ _ _ => (sv 4))))
      (ss_one (s_ret (se_tuple D.m_tuple (se_lc (own := [("met", 5)]) 10000 rfl sc_stands_as_met.nd (si_seq (sv 3)) (blk_of (by kernel_rfl)) (by decide) (fun _ _ _ _ _ => (sg_name sc_stands_as_met.nd (by rfl) (by first | exact Or.inl rfl | exact Or.inr rfl))) (fun _ _ _ _ _ => sts_nil) (fun _ _ _ _ _ => (se_tup (sa_cons (se_sub hr (sv 2) (sv 5) (fun _ _ => rfl)) (sa_cons (se_tuple D.m_tuple (se_lc (own := [("step", 7), ("end", 8)]) 10000 rfl sc_stands_as_met.nd (si_seq (se_sub hr (sv 1) (sv 5) (fun _ _ => rfl))) (blk_of (by kernel_rfl)) (by decide) (fun _ _ _ _ _ => (sg_tup rfl (sgs_cons (sg_name sc_stands_as_met.nd (by rfl) (by first | exact Or.inl rfl | exact Or.inr rfl)) (sgs_cons (sg_name sc_stands_as_met.nd (by rfl) (by first | exact Or.inl rfl | exact Or.inr rfl)) sgs_nil)))) (fun _ _ _ _ _ => sts_nil) (fun _ _ _ _ _ => (se_tup (sa_cons (sv 7) (sa_cons (se_sub hr (sv 6) (sv 8) (fun _ _ => rfl)) sa_nil)))))) sa_nil))))))))))
theorem ok_stands_as_met (D : Defs K mg) : FnOk P w K mg base (L2.CX P w) 2 (D.h_stands_as_met).f (D.h_stands_as_met).fd ["begin", "arrows", "owners"] (spNc ⟨K, w, mg⟩ (tx D) F_stands_as_met) := fn_okD (g := g_stands_as_met) (D.h_stands_as_met).F sc_stands_as_met (hF := rfl) (h1 := rfl) (h2 := rfl) (body := fun cdv A outer s H E hr => b_stands_as_met D _ cdv A outer s H E hr)
/-! ### steps_as_met -/
theorem sc_steps_as_met : FnScope ["steps", "stands", "known", "new_stands", "owner", "arrows", "step", "_", "taken", "end"] ["steps", "stands"] (defScope s_steps_as_met) := ⟨rfl, rfl, rfl, by decide +kernel, rfl, by decide +kernel, by decide +kernel⟩
def g_steps_as_met : DS := (gSeq (gAsg dEmpty (gN 2))
  (gSeq (gAsg (dLst dNil) (gN 3))
  (gSeq (gForI (iSeq (dVar 1)) (gTupD 2 (gsCons (gN 4) (gsCons (gN 5) gsNil))) (gSeq (gAsg (dFn F_numbers_of (dCons (dLc (iSeq (dVar 5)) (gTupD 2 (gsCons (gN 6) (gsCons (gN 7) gsNil))) dYes (dVar 6) [6, 7] 10000) (dCons (dVar 2) dNil))) (gN 8))
  (gExpr (dMeth oAppend (dVar 3) (dCons (dTup (dCons (dVar 4) (dCons (dCall oTuple (dCons (dLc (iZip2 (dCons (dVar 8) (dCons (dVar 5) dNil))) (gTupD 2 (gsCons (gN 6) (gsCons (gTupD 2 (gsCons (gN 7) (gsCons (gN 9) gsNil))) gsNil))) dYes (dTup (dCons (dVar 6) (dCons (dVar 9) dNil))) [6, 7, 9] 10000) dNil)) dNil))) dNil)))) 10000)
  (gRet (dTup (dCons (dCall oTuple (dCons (dLk 2 (dLc (iKeysD (dVar 2)) (gN 6) dYes (dOp dIxA (dVar 0) (dVar 6)) [6] 10000)) dNil)) (dCons (dCall oTuple (dCons (dVar 3) dNil)) dNil)))))))
def F_steps_as_met : DF := runF g_steps_as_met 2 10
theorem b_steps_as_met (D : Defs K mg) (f : Addr) (cdv : Value) (A : Around) (outer : List Env) (s : Shared) (H : Hp) (E : XK) (hr : Room 1 (A.deeper (envOfC "steps_as_met" (defScope s_steps_as_met) s.heap.objs.size f cdv))) :
    SSs (cxOf (L2.CX P w) P w K mg base ["steps", "stands", "known", "new_stands", "owner", "arrows", "step", "_", "taken", "end"] "steps_as_met" (defScope s_steps_as_met) f cdv A outer s H E) (tx D) (wOf E) (defBody s_steps_as_met) g_steps_as_met :=
  (ss_cons (s_set sc_steps_as_met.nd (by rfl) (by first | exact Or.inl rfl | exact Or.inr rfl) se_dict0)
      (ss_cons (s_set sc_steps_as_met.nd (by rfl) (by first | exact Or.inl rfl | exact Or.inr rfl) (se_lst sa_nil))
      (ss_cons (s_for 10000 (passes_of rfl) rfl (si_seq (sv 1)) (sg_tup rfl (sgs_cons (sg_name sc_steps_as_met.nd (by rfl) (by first | exact Or.inl rfl | exact Or.inr rfl)) (sgs_cons (sg_name sc_steps_as_met.nd (by rfl) (by first | exact Or.inl rfl | exact Or.inr rfl)) sgs_nil))) (ss_cons (s_set sc_steps_as_met.nd (by rfl) (by first | exact Or.inl rfl | exact Or.inr rfl) (se_call (ok_numbers_of (base := base) D) (rm hr) (by rfl) (D.h_numbers_of).gl (D.h_numbers_of).F.kp (D.h_numbers_of).bi (takes_of rfl rfl rfl rfl) (sa_cons (se_lc (own := [("step", 6), ("_", 7)]) 10000 rfl sc_steps_as_met.nd (si_seq (sv 5)) (blk_of (by kernel_rfl)) (by decide) (fun _ _ _ _ _ => (sg_tup rfl (sgs_cons (sg_name sc_steps_as_met.nd (by rfl) (by first | exact Or.inl rfl | exact Or.inr rfl)) (sgs_cons (sg_name sc_steps_as_met.nd (by rfl) (by first | exact Or.inl rfl | exact Or.inr rfl)) sgs_nil)))) (fun _ _ _ _ _ => sts_nil) (fun _ _ _ _ _ => (sv 6))) (sa_cons (sv 2) sa_nil))))
      (ss_one (s_expr (se_meth PySem.F.slot_list_append PySem.F.type_list_append mt_append om_append (sv 3) (sa_cons (se_tup (sa_cons (sv 4) (sa_cons (se_tuple D.m_tuple (se_lc (own := [("step", 6), ("_", 7), ("end", 9)]) 10000 rfl sc_steps_as_met.nd (si_zip2 (by rfl) D.m_zip (sa_cons (sv 8) (sa_cons (sv 5) sa_nil))) (blk_of (by kernel_rfl)) (by decide) (fun _ _ _ _ _ => (sg_tup rfl (sgs_cons (sg_name sc_steps_as_met.nd (by rfl) (by first | exact Or.inl rfl | exact Or.inr rfl)) (sgs_cons (sg_tup rfl (sgs_cons (sg_name sc_steps_as_met.nd (by rfl) (by first | exact Or.inl rfl | exact Or.inr rfl)) (sgs_cons (sg_name sc_steps_as_met.nd (by rfl) (by first | exact Or.inl rfl | exact Or.inr rfl)) sgs_nil))) sgs_nil)))) (fun _ _ _ _ _ => sts_nil) (fun _ _ _ _ _ => (se_tup (sa_cons (sv 6) (sa_cons (sv 9) sa_nil)))))) sa_nil))) sa_nil))))))
      (ss_one (s_ret (se_tup (sa_cons (se_tuple D.m_tuple (se_lk 2 (se_lc (own := [("step", 6)]) 10000 rfl sc_steps_as_met.nd (si_keys (sv 2)) (blk_of (by kernel_rfl)) (by decide) (fun _ _ _ _ _ => (sg_name sc_steps_as_met.nd (by rfl) (by first | exact Or.inl rfl | exact Or.inr rfl))) (fun _ _ _ _ _ => sts_nil) (fun _ _ _ _ _ => (se_sub hr (sv 0) (sv 6) (fun _ _ => rfl)))))) (sa_cons (se_tuple D.m_tuple (sv 3)) sa_nil))))))))
theorem ok_steps_as_met (D : Defs K mg) : FnOk P w K mg base (L2.CX P w) 2 (D.h_steps_as_met).f (D.h_steps_as_met).fd ["steps", "stands"] (spNc ⟨K, w, mg⟩ (tx D) F_steps_as_met) := fn_okD (g := g_steps_as_met) (D.h_steps_as_met).F sc_steps_as_met (hF := rfl) (h1 := rfl) (h2 := rfl) (body := fun cdv A outer s H E hr => b_steps_as_met D _ cdv A outer s H E hr)
/-! ### each_once -/
theorem sc_each_once : FnScope ["values", "value"] ["values"] (defScope s_each_once) := ⟨rfl, rfl, rfl, by decide +kernel, rfl, by decide +kernel, by decide +kernel⟩
def g_each_once : DS := (gRet (dKeysL (dDc (iSeq (dVar 0)) (gN 1) dYes (dVar 1) (dC (.bl true)) [1] 10000)))
def F_each_once : DF := runF g_each_once 1 2
theorem b_each_once (D : Defs K mg) (f : Addr) (cdv : Value) (A : Around) (outer : List Env) (s : Shared) (H : Hp) (E : XK) (hr : Room 0 (A.deeper (envOfC "each_once" (defScope s_each_once) s.heap.objs.size f cdv))) :
    SSs (cxOf (L2.CX P w) P w K mg base ["values", "value"] "each_once" (defScope s_each_once) f cdv A outer s H E) (tx D) (wOf E) (defBody s_each_once) g_each_once :=
  (ss_one (s_ret (se_listKeys rfl D.m_list (se_dcN (own := [("value", 1)]) 10000 hr rfl sc_each_once.nd (si_seq (sv 0)) (blk_of (by kernel_rfl)) (by decide) (fun _ _ _ _ _ => (sg_name sc_each_once.nd (by rfl) (by first | exact Or.inl rfl | exact Or.inr rfl))) (fun _ _ _ _ _ => sts_nil) (fun _ _ _ _ _ => (sv 1)) (fun _ _ _ _ _ => se_bl)))))
theorem ok_each_once (D : Defs K mg) : FnOk P w K mg base (L2.CX P w) 1 (D.h_each_once).f (D.h_each_once).fd ["values"] (spNc ⟨K, w, mg⟩ (tx D) F_each_once) := fn_okD (g := g_each_once) (D.h_each_once).F sc_each_once (hF := rfl) (h1 := rfl) (h2 := rfl) (body := fun cdv A outer s H E hr => b_each_once D _ cdv A outer s H E hr)
/-! ### merged -/
theorem sc_merged : FnScope ["machine", "steps", "stands", "numbers", "kinds", "arrows", "owners", "stand", "owner", "own", "kind", "step", "end", "unlike"] ["machine"] (defScope s_merged) := ⟨rfl, rfl, rfl, by decide +kernel, rfl, by decide +kernel, by decide +kernel⟩
def g_merged : DS := (gSeq (gAsg (dFn (F_frozen RL) (dCons (dVar 0) dNil)) (gTupD 2 (gsCons (gN 1) (gsCons (gN 2) gsNil))))
  (gSeq (gAsg (dFn F_numbers_of (dCons (dVar 1) (dCons dEmpty dNil))) (gN 3))
  (gSeq (gAsg (dFn F_inner_kinds (dCons (dVar 2) (dCons (dVar 3) (dCons dEmpty dNil)))) (gN 4))
  (gSeq (gAsg dEmpty (gN 5))
  (gSeq (gAsg dEmpty (gN 6))
  (gSeq (gForI (iEnumD (dCons (dVar 2) dNil)) (gTupD 2 (gsCons (gN 7) (gsCons (gTupD 2 (gsCons (gN 8) (gsCons (gN 9) gsNil))) gsNil))) (gSeq (gAsg (dOp dIxA (dVar 4) (dVar 7)) (gN 10))
  (gIf (dTest (dOp (dInB true) (dVar 10) (dVar 5))) (gSeq (gAsg (dFn F_each_once (dCons (dLc (iSeq (dVar 9)) (gTupD 2 (gsCons (gN 11) (gsCons (gN 12) gsNil))) dYes (dTup (dCons (dOp dIxA (dVar 3) (dVar 11)) (dCons (dOp dIxA (dVar 4) (dVar 12)) dNil))) [11, 12] 10000) dNil)) (gSubD (dVar 5) (dVar 10)))
  (gAsg (dIf (dTest (dOp (dInts gtI) (dCall oLen (dCons (dOp dIxA (dVar 5) (dVar 10)) dNil)) (dC (.int 1)))) (dVar 8) (dC (.str "any"))) (gSubD (dVar 6) (dVar 10)))) gNil)) 10000)
  (gSeq (gAsg (dFn F_each_once (dCons (dVar 1) dNil)) (gN 13))
  (gRet (dFn F_steps_as_met (dCons (dVar 13) (dCons (dFn F_stands_as_met (dCons (dC (.int 0)) (dCons (dVar 5) (dCons (dVar 6) dNil)))) dNil)))))))))))
def F_merged : DF := runF g_merged 1 14
theorem b_merged (D : Defs K mg) (f : Addr) (cdv : Value) (A : Around) (outer : List Env) (s : Shared) (H : Hp) (E : XK) (hr : Room 10 (A.deeper (envOfC "merged" (defScope s_merged) s.heap.objs.size f cdv))) :
    SSs (cxOf (L2.CX P w) P w K mg base ["machine", "steps", "stands", "numbers", "kinds", "arrows", "owners", "stand", "owner", "own", "kind", "step", "end", "unlike"] "merged" (defScope s_merged) f cdv A outer s H E) (tx D) (wOf E) (defBody s_merged) g_merged :=
  (ss_cons (s_asg (se_call (ok_frozen (base := base) D) (rm hr) (by rfl) (D.h_frozen).gl (D.h_frozen).F.kp (D.h_frozen).bi (takes_of rfl rfl rfl rfl) (sa_cons (sv 0) sa_nil)) (sg_tup rfl (sgs_cons (sg_name sc_merged.nd (by rfl) (by first | exact Or.inl rfl | exact Or.inr rfl)) (sgs_cons (sg_name sc_merged.nd (by rfl) (by first | exact Or.inl rfl | exact Or.inr rfl)) sgs_nil))))
      (ss_cons (s_set sc_merged.nd (by rfl) (by first | exact Or.inl rfl | exact Or.inr rfl) (se_call (ok_numbers_of (base := base) D) (rm hr) (by rfl) (D.h_numbers_of).gl (D.h_numbers_of).F.kp (D.h_numbers_of).bi (takes_of rfl rfl rfl rfl) (sa_cons (sv 1) (sa_cons se_dict0 sa_nil))))
      (ss_cons (s_set sc_merged.nd (by rfl) (by first | exact Or.inl rfl | exact Or.inr rfl) (se_call (ok_inner_kinds (base := base) D) (rm hr) (by rfl) (D.h_inner_kinds).gl (D.h_inner_kinds).F.kp (D.h_inner_kinds).bi (takes_of rfl rfl rfl rfl) (sa_cons (sv 2) (sa_cons (sv 3) (sa_cons se_dict0 sa_nil)))))
      (ss_cons (s_set sc_merged.nd (by rfl) (by first | exact Or.inl rfl | exact Or.inr rfl) se_dict0)
      (ss_cons (s_set sc_merged.nd (by rfl) (by first | exact Or.inl rfl | exact Or.inr rfl) se_dict0)
      (ss_cons (s_for 10000 (passes_of rfl) rfl (si_enum (by rfl) D.m_enumerate (sa_cons (sv 2) sa_nil)) (sg_tup rfl (sgs_cons (sg_name sc_merged.nd (by rfl) (by first | exact Or.inl rfl | exact Or.inr rfl)) (sgs_cons (sg_tup rfl (sgs_cons (sg_name sc_merged.nd (by rfl) (by first | exact Or.inl rfl | exact Or.inr rfl)) (sgs_cons (sg_name sc_merged.nd (by rfl) (by first | exact Or.inl rfl | exact Or.inr rfl)) sgs_nil))) sgs_nil))) (ss_cons (s_set sc_merged.nd (by rfl) (by first | exact Or.inl rfl | exact Or.inr rfl) (se_sub hr (sv 4) (sv 7) (fun _ _ => rfl)))
      (ss_one (s_if (st_nin2 hr (sv 10) (sv 5)) (ss_cons (s_asg (se_call (ok_each_once (base := base) D) (rm hr) (by rfl) (D.h_each_once).gl (D.h_each_once).F.kp (D.h_each_once).bi (takes_of rfl rfl rfl rfl) (sa_cons (se_lc (own := [("step", 11), ("end", 12)]) 10000 rfl sc_merged.nd (si_seq (sv 9)) (blk_of (by kernel_rfl)) (by decide) (fun _ _ _ _ _ => (sg_tup rfl (sgs_cons (sg_name sc_merged.nd (by rfl) (by first | exact Or.inl rfl | exact Or.inr rfl)) (sgs_cons (sg_name sc_merged.nd (by rfl) (by first | exact Or.inl rfl | exact Or.inr rfl)) sgs_nil)))) (fun _ _ _ _ _ => sts_nil) (fun _ _ _ _ _ => (se_tup (sa_cons (se_sub hr (sv 3) (sv 11) (fun _ _ => rfl)) (sa_cons (se_sub hr (sv 4) (sv 12) (fun _ _ => rfl)) sa_nil))))) sa_nil)) (sg_sub (T := tx D) hr (sv 5) (sv 10)))
      (ss_one (s_asg (se_if (st_gt (se_len D.m_len (se_sub hr (sv 5) (sv 10) (fun _ _ => rfl))) se_int) (sv 8) se_str) (sg_sub (T := tx D) hr (sv 6) (sv 10))))) ss_nil))))
      (ss_cons (s_set sc_merged.nd (by rfl) (by first | exact Or.inl rfl | exact Or.inr rfl) (se_call (ok_each_once (base := base) D) (rm hr) (by rfl) (D.h_each_once).gl (D.h_each_once).F.kp (D.h_each_once).bi (takes_of rfl rfl rfl rfl) (sa_cons (sv 1) sa_nil)))
      (ss_one (s_ret (se_call (ok_steps_as_met (base := base) D) (rm hr) (by rfl) (D.h_steps_as_met).gl (D.h_steps_as_met).F.kp (D.h_steps_as_met).bi (takes_of rfl rfl rfl rfl) (sa_cons (sv 13) (sa_cons (se_call (ok_stands_as_met (base := base) D) (rm hr) (by rfl) (D.h_stands_as_met).gl (D.h_stands_as_met).F.kp (D.h_stands_as_met).bi (takes_of rfl rfl rfl rfl) (sa_cons se_int (sa_cons (sv 5) (sa_cons (sv 6) sa_nil)))) sa_nil))))))))))))
theorem ok_merged (D : Defs K mg) : FnOk P w K mg base (L2.CX P w) 11 (D.h_merged).f (D.h_merged).fd ["machine"] (spNc ⟨K, w, mg⟩ (tx D) F_merged) := fn_okD (g := g_merged) (D.h_merged).F sc_merged (hF := rfl) (h1 := rfl) (h2 := rfl) (body := fun cdv A outer s H E hr => b_merged D _ cdv A outer s H E hr)
/-! ### renamed_step -/
theorem sc_renamed_step : FnScope ["step", "order", "looks", "shares", "_", "new_looks", "rows", "place", "lot", "at", "one", "seen"] ["step", "order"] (defScope s_renamed_step) := ⟨rfl, rfl, rfl, by decide +kernel, rfl, by decide +kernel, by decide +kernel⟩
def g_renamed_step : DS := (gSeq (gAsg (dVar 0) (gTupD 2 (gsCons (gN 2) (gsCons (gN 3) gsNil))))
  (gSeq (gAsg (dLc (iSeq (dVar 2)) (gN 4) dYes (dTup dNil) [4] 10000) (gN 5))
  (gSeq (gAsg (dLc (iSeq (dVar 2)) (gN 4) dYes (dTup dNil) [4] 10000) (gN 6))
  (gSeq (gForI (iEnumD (dCons (dVar 2) dNil)) (gTupD 2 (gsCons (gN 7) (gsCons (gN 8) gsNil))) (gSeq (gAsg (dCall oSorted (dCons (dLc (iEnumD (dCons (dVar 8) dNil)) (gTupD 2 (gsCons (gN 9) (gsCons (gN 10) gsNil))) dYes (dTup (dCons (dOp dIxA (dVar 1) (dVar 10)) (dCons (dVar 9) dNil))) [9, 10] 10000) dNil)) (gN 11))
  (gSeq (gAsg (dCall oTuple (dCons (dLc (iSeq (dVar 11)) (gTupD 2 (gsCons (gN 10) (gsCons (gN 4) gsNil))) dYes (dVar 10) [10, 4] 10000) dNil)) (gSubD (dVar 5) (dOp dIxA (dVar 1) (dVar 7))))
  (gIf (dTest (dOp dNotN (dVar 3) (dC .non))) (gAsg (dCall oTuple (dCons (dLc (iSeq (dVar 11)) (gTupD 2 (gsCons (gN 4) (gsCons (gN 9) gsNil))) dYes (dOp dIxA (dOp dIxA (dVar 3) (dVar 7)) (dVar 9)) [4, 9] 10000) dNil)) (gSubD (dVar 6) (dOp dIxA (dVar 1) (dVar 7)))) gNil))) 10000)
  (gRet (dTup (dCons (dCall oTuple (dCons (dVar 5) dNil)) (dCons (dIf (dTest (dOp dIsN (dVar 3) (dC .non))) (dC .non) (dCall oTuple (dCons (dVar 6) dNil))) dNil))))))))
def F_renamed_step : DF := runF g_renamed_step 2 12
theorem b_renamed_step (D : Defs K mg) (f : Addr) (cdv : Value) (A : Around) (outer : List Env) (s : Shared) (H : Hp) (E : XK) (hr : Room 0 (A.deeper (envOfC "renamed_step" (defScope s_renamed_step) s.heap.objs.size f cdv))) :
    SSs (cxOf (L2.CX P w) P w K mg base ["step", "order", "looks", "shares", "_", "new_looks", "rows", "place", "lot", "at", "one", "seen"] "renamed_step" (defScope s_renamed_step) f cdv A outer s H E) (tx D) (wOf E) (defBody s_renamed_step) g_renamed_step :=
  (ss_cons (s_asg (sv 0) (sg_tup rfl (sgs_cons (sg_name sc_renamed_step.nd (by rfl) (by first | exact Or.inl rfl | exact Or.inr rfl)) (sgs_cons (sg_name sc_renamed_step.nd (by rfl) (by first | exact Or.inl rfl | exact Or.inr rfl)) sgs_nil))))
      (ss_cons (s_setLc (own := [("_", 4)]) 10000 (i := 5) rfl sc_renamed_step.nd (by rfl) (by rfl) (by rfl) (si_seq (sv 2)) (blk_of (by kernel_rfl)) (by decide) (fun _ _ _ _ _ => (sg_name sc_renamed_step.nd (by rfl) (by first | exact Or.inl rfl | exact Or.inr rfl))) (fun _ _ _ _ _ => sts_nil) (fun _ _ _ _ _ => (se_tup sa_nil)))
      (ss_cons (s_setLc (own := [("_", 4)]) 10000 (i := 6) rfl sc_renamed_step.nd (by rfl) (by rfl) (by rfl) (si_seq (sv 2)) (blk_of (by kernel_rfl)) (by decide) (fun _ _ _ _ _ => (sg_name sc_renamed_step.nd (by rfl) (by first | exact Or.inl rfl | exact Or.inr rfl))) (fun _ _ _ _ _ => sts_nil) (fun _ _ _ _ _ => (se_tup sa_nil)))
      (ss_cons (s_for 10000 (passes_of rfl) rfl (si_enum (by rfl) D.m_enumerate (sa_cons (sv 2) sa_nil)) (sg_tup rfl (sgs_cons (sg_name sc_renamed_step.nd (by rfl) (by first | exact Or.inl rfl | exact Or.inr rfl)) (sgs_cons (sg_name sc_renamed_step.nd (by rfl) (by first | exact Or.inl rfl | exact Or.inr rfl)) sgs_nil))) (ss_cons (s_set sc_renamed_step.nd (by rfl) (by first | exact Or.inl rfl | exact Or.inr rfl) (se_sorted hr D.m_sorted (se_lc (own := [("at", 9), ("one", 10)]) 10000 rfl sc_renamed_step.nd (si_enum (by rfl) D.m_enumerate (sa_cons (sv 8) sa_nil)) (blk_of (by kernel_rfl)) (by decide) (fun _ _ _ _ _ => (sg_tup rfl (sgs_cons (sg_name sc_renamed_step.nd (by rfl) (by first | exact Or.inl rfl | exact Or.inr rfl)) (sgs_cons (sg_name sc_renamed_step.nd (by rfl) (by first | exact Or.inl rfl | exact Or.inr rfl)) sgs_nil)))) (fun _ _ _ _ _ => sts_nil) (fun _ _ _ _ _ => (se_tup (sa_cons (se_sub hr (sv 1) (sv 10) (fun _ _ => rfl)) (sa_cons (sv 9) sa_nil)))))))
      (ss_cons (s_asg (se_tuple D.m_tuple (se_lc (own := [("one", 10), ("_", 4)]) 10000 rfl sc_renamed_step.nd (si_seq (sv 11)) (blk_of (by kernel_rfl)) (by decide) (fun _ _ _ _ _ => (sg_tup rfl (sgs_cons (sg_name sc_renamed_step.nd (by rfl) (by first | exact Or.inl rfl | exact Or.inr rfl)) (sgs_cons (sg_name sc_renamed_step.nd (by rfl) (by first | exact Or.inl rfl | exact Or.inr rfl)) sgs_nil)))) (fun _ _ _ _ _ => sts_nil) (fun _ _ _ _ _ => (sv 10)))) (sg_sub (T := tx D) hr (sv 5) (se_sub hr (sv 1) (sv 7) (fun _ _ => rfl))))
      (ss_one (s_if (st_notN (sv 3) se_non) (ss_one (s_asg (se_tuple D.m_tuple (se_lc (own := [("_", 4), ("at", 9)]) 10000 rfl sc_renamed_step.nd (si_seq (sv 11)) (blk_of (by kernel_rfl)) (by decide) (fun _ _ _ _ _ => (sg_tup rfl (sgs_cons (sg_name sc_renamed_step.nd (by rfl) (by first | exact Or.inl rfl | exact Or.inr rfl)) (sgs_cons (sg_name sc_renamed_step.nd (by rfl) (by first | exact Or.inl rfl | exact Or.inr rfl)) sgs_nil)))) (fun _ _ _ _ _ => sts_nil) (fun _ _ _ _ _ => (se_sub hr (se_sub hr (sv 3) (sv 7) (fun _ _ => rfl)) (sv 9) (fun _ _ => rfl))))) (sg_sub (T := tx D) hr (sv 6) (se_sub hr (sv 1) (sv 7) (fun _ _ => rfl))))) ss_nil)))))
      (ss_one (s_ret (se_tup (sa_cons (se_tuple D.m_tuple (sv 5)) (sa_cons (se_if (st_isN (sv 3) se_non) se_non (se_tuple D.m_tuple (sv 6))) sa_nil)))))))))
theorem ok_renamed_step (D : Defs K mg) : FnOk P w K mg base (L2.CX P w) 1 (D.h_renamed_step).f (D.h_renamed_step).fd ["step", "order"] (spNc ⟨K, w, mg⟩ (tx D) F_renamed_step) := fn_okD (g := g_renamed_step) (D.h_renamed_step).F sc_renamed_step (hF := rfl) (h1 := rfl) (h2 := rfl) (body := fun cdv A outer s H E hr => b_renamed_step D _ cdv A outer s H E hr)
/-! ### renamed -/
theorem sc_renamed : FnScope ["machine", "order", "steps", "stands", "step"] ["machine", "order"] (defScope s_renamed) := ⟨rfl, rfl, rfl, by decide +kernel, rfl, by decide +kernel, by decide +kernel⟩
def g_renamed : DS := (gSeq (gAsg (dFn (F_frozen RL) (dCons (dVar 0) dNil)) (gTupD 2 (gsCons (gN 2) (gsCons (gN 3) gsNil))))
  (gRet (dTup (dCons (dCall oTuple (dCons (dLc (iSeq (dVar 2)) (gN 4) dYes (dFn F_renamed_step (dCons (dVar 4) (dCons (dVar 1) dNil))) [4] 10000) dNil)) (dCons (dVar 3) dNil)))))
def F_renamed : DF := runF g_renamed 2 5
theorem b_renamed (D : Defs K mg) (f : Addr) (cdv : Value) (A : Around) (outer : List Env) (s : Shared) (H : Hp) (E : XK) (hr : Room 10 (A.deeper (envOfC "renamed" (defScope s_renamed) s.heap.objs.size f cdv))) :
    SSs (cxOf (L2.CX P w) P w K mg base ["machine", "order", "steps", "stands", "step"] "renamed" (defScope s_renamed) f cdv A outer s H E) (tx D) (wOf E) (defBody s_renamed) g_renamed :=
  (ss_cons (s_asg (se_call (ok_frozen (base := base) D) (rm hr) (by rfl) (D.h_frozen).gl (D.h_frozen).F.kp (D.h_frozen).bi (takes_of rfl rfl rfl rfl) (sa_cons (sv 0) sa_nil)) (sg_tup rfl (sgs_cons (sg_name sc_renamed.nd (by rfl) (by first | exact Or.inl rfl | exact Or.inr rfl)) (sgs_cons (sg_name sc_renamed.nd (by rfl) (by first | exact Or.inl rfl | exact Or.inr rfl)) sgs_nil))))
      (ss_one (s_ret (se_tup (sa_cons (se_tuple D.m_tuple (se_lc (own := [("step", 4)]) 10000 rfl sc_renamed.nd (si_seq (sv 2)) (blk_of (by kernel_rfl)) (by decide) (fun _ _ _ _ _ => (sg_name sc_renamed.nd (by rfl) (by first | exact Or.inl rfl | exact Or.inr rfl))) (fun _ _ _ _ _ => sts_nil) (fun _ _ _ _ _ => (se_call (ok_renamed_step (base := base) D) (rm hr) (by rfl) (D.h_renamed_step).gl (D.h_renamed_step).F.kp (D.h_renamed_step).bi takes0 (sa_cons (sv 4) (sa_cons (sv 1) sa_nil)))))) (sa_cons (sv 3) sa_nil))))))
theorem ok_renamed (D : Defs K mg) : FnOk P w K mg base (L2.CX P w) 11 (D.h_renamed).f (D.h_renamed).fd ["machine", "order"] (spNc ⟨K, w, mg⟩ (tx D) F_renamed) := fn_okD (g := g_renamed) (D.h_renamed).F sc_renamed (hF := rfl) (h1 := rfl) (h2 := rfl) (body := fun cdv A outer s H E hr => b_renamed D _ cdv A outer s H E hr)
/-! ### one_after_other -/
theorem sc_one_after_other : FnScope ["machine", "other", "steps", "stands", "other_steps", "other_stands", "ahead", "begin", "owner", "arrows", "step", "end", "first", "second", "moved"] ["machine", "other"] (defScope s_one_after_other) := ⟨rfl, rfl, rfl, by decide +kernel, rfl, by decide +kernel, by decide +kernel⟩
def g_one_after_other : DS := (gSeq (gAsg (dFn (F_frozen RL) (dCons (dVar 0) dNil)) (gTupD 2 (gsCons (gN 2) (gsCons (gN 3) gsNil))))
  (gSeq (gAsg (dFn (F_frozen RL) (dCons (dVar 1) dNil)) (gTupD 2 (gsCons (gN 4) (gsCons (gN 5) gsNil))))
  (gSeq (gIf (dTest (dOp dNe (dFn F_places_of (dCons (dVar 0) dNil)) (dFn F_places_of (dCons (dVar 1) dNil)))) (gRaise 3) gNil)
  (gSeq (gAsg (dCall oLen (dCons (dVar 2) dNil)) (gN 6))
  (gSeq (gAsg (dCall oLen (dCons (dVar 3) dNil)) (gN 7))
  (gSeq (gAsg (dLc (iSeq (dVar 3)) (gTupD 2 (gsCons (gN 8) (gsCons (gN 9) gsNil))) dYes (dTup (dCons (dVar 8) (dCons (dCall oTuple (dCons (dLc (iSeq (dVar 9)) (gTupD 2 (gsCons (gN 10) (gsCons (gN 11) gsNil))) dYes (dTup (dCons (dVar 10) (dCons (dIf (dTest (dOp dNe (dVar 11) (dC (.int 0)))) (dVar 11) (dVar 7)) dNil))) [10, 11] 10000) dNil)) dNil))) [8, 9] 10000) (gN 12))
  (gSeq (gAsg (dLst dNil) (gN 13))
  (gSeq (gForI (iSeq (dVar 5)) (gTupD 2 (gsCons (gN 8) (gsCons (gN 9) gsNil))) (gSeq (gAsg (dLc (iSeq (dVar 9)) (gTupD 2 (gsCons (gN 10) (gsCons (gN 11) gsNil))) dYes (dTup (dCons (dOp dAdd (dVar 6) (dVar 10)) (dCons (dIf (dTest (dOp dNe (dVar 11) (dC (.int 0)))) (dOp dAdd (dVar 7) (dVar 11)) (dC (.int 0))) dNil))) [10, 11] 10000) (gN 14))
  (gExpr (dMeth oAppend (dVar 13) (dCons (dTup (dCons (dVar 8) (dCons (dCall oTuple (dCons (dVar 14) dNil)) dNil))) dNil)))) 10000)
  (gRet (dTup (dCons (dOp dAdd (dVar 2) (dVar 4)) (dCons (dCall oTuple (dCons (dOp dAdd (dVar 12) (dVar 13)) dNil)) dNil))))))))))))
def F_one_after_other : DF := runF g_one_after_other 2 15
theorem b_one_after_other (D : Defs K mg) (f : Addr) (cdv : Value) (A : Around) (outer : List Env) (s : Shared) (H : Hp) (E : XK) (hr : Room 10 (A.deeper (envOfC "one_after_other" (defScope s_one_after_other) s.heap.objs.size f cdv))) :
    SSs (cxOf (L2.CX P w) P w K mg base ["machine", "other", "steps", "stands", "other_steps", "other_stands", "ahead", "begin", "owner", "arrows", "step", "end", "first", "second", "moved"] "one_after_other" (defScope s_one_after_other) f cdv A outer s H E) (tx D) (wOf E) (defBody s_one_after_other) g_one_after_other :=
  (ss_cons (s_asg (se_call (ok_frozen (base := base) D) (rm hr) (by rfl) (D.h_frozen).gl (D.h_frozen).F.kp (D.h_frozen).bi (takes_of rfl rfl rfl rfl) (sa_cons (sv 0) sa_nil)) (sg_tup rfl (sgs_cons (sg_name sc_one_after_other.nd (by rfl) (by first | exact Or.inl rfl | exact Or.inr rfl)) (sgs_cons (sg_name sc_one_after_other.nd (by rfl) (by first | exact Or.inl rfl | exact Or.inr rfl)) sgs_nil))))
      (ss_cons (s_asg (se_call (ok_frozen (base := base) D) (rm hr) (by rfl) (D.h_frozen).gl (D.h_frozen).F.kp (D.h_frozen).bi (takes_of rfl rfl rfl rfl) (sa_cons (sv 1) sa_nil)) (sg_tup rfl (sgs_cons (sg_name sc_one_after_other.nd (by rfl) (by first | exact Or.inl rfl | exact Or.inr rfl)) (sgs_cons (sg_name sc_one_after_other.nd (by rfl) (by first | exact Or.inl rfl | exact Or.inr rfl)) sgs_nil))))
      (ss_cons (s_if (st_ne hr (se_call (ok_places_of (base := base) D) (rm hr) (by rfl) (D.h_places_of).gl (D.h_places_of).F.kp (D.h_places_of).bi (takes_of rfl rfl rfl rfl) (sa_cons (sv 0) sa_nil)) (se_call (ok_places_of (base := base) D) (rm hr) (by rfl) (D.h_places_of).gl (D.h_places_of).F.kp (D.h_places_of).bi (takes_of rfl rfl rfl rfl) (sa_cons (sv 1) sa_nil))) (ss_one (s_raise 3 rfl rfl rfl (takes_of rfl rfl rfl rfl) (pmk_pass D.x_Unfit.O D.x_Unfit.iC D.x_Unfit.tI (ok_Unfit (base := base) D) (rm hr) D.x_Unfit.bi (by rfl) D.x_Unfit.gl))) ss_nil)
      (ss_cons (s_set sc_one_after_other.nd (by rfl) (by first | exact Or.inl rfl | exact Or.inr rfl) (se_len D.m_len (sv 2)))
      (ss_cons (s_set sc_one_after_other.nd (by rfl) (by first | exact Or.inl rfl | exact Or.inr rfl) (se_len D.m_len (sv 3)))
      (ss_cons (s_setLc (own := [("owner", 8), ("arrows", 9)]) 10000 (i := 12) rfl sc_one_after_other.nd (by rfl) (by rfl) (by rfl) (si_seq (sv 3)) (blk_of (by kernel_rfl)) (by decide) (fun _ _ _ _ _ => (sg_tup rfl (sgs_cons (sg_name sc_one_after_other.nd (by rfl) (by first | exact Or.inl rfl | exact Or.inr rfl)) (sgs_cons (sg_name sc_one_after_other.nd (by rfl) (by first | exact Or.inl rfl | exact Or.inr rfl)) sgs_nil)))) (fun _ _ _ _ _ => sts_nil) (fun _ _ _ _ _ => (se_tup (sa_cons (sv 8) (sa_cons (se_tuple D.m_tuple (se_lc (own := [("step", 10), ("end", 11)]) 10000 rfl sc_one_after_other.nd (si_seq (sv 9)) (blk_of (by kernel_rfl)) (by decide) (fun _ _ _ _ _ => (sg_tup rfl (sgs_cons (sg_name sc_one_after_other.nd (by rfl) (by first | exact Or.inl rfl | exact Or.inr rfl)) (sgs_cons (sg_name sc_one_after_other.nd (by rfl) (by first | exact Or.inl rfl | exact Or.inr rfl)) sgs_nil)))) (fun _ _ _ _ _ => sts_nil) (fun _ _ _ _ _ => (se_tup (sa_cons (sv 10) (sa_cons (se_if (st_ne hr (sv 11) se_int) (sv 11) (sv 7)) sa_nil)))))) sa_nil)))))
      (ss_cons (s_set sc_one_after_other.nd (by rfl) (by first | exact Or.inl rfl | exact Or.inr rfl) (se_lst sa_nil))
      (ss_cons (s_for 10000 (passes_of rfl) rfl (si_seq (sv 5)) (sg_tup rfl (sgs_cons (sg_name sc_one_after_other.nd (by rfl) (by first | exact Or.inl rfl | exact Or.inr rfl)) (sgs_cons (sg_name sc_one_after_other.nd (by rfl) (by first | exact Or.inl rfl | exact Or.inr rfl)) sgs_nil))) (ss_cons (s_setLc (own := [("step", 10), ("end", 11)]) 10000 (i := 14) rfl sc_one_after_other.nd (by rfl) (by rfl) (by rfl) (si_seq (sv 9)) (blk_of (by kernel_rfl)) (by decide) (fun _ _ _ _ _ => (sg_tup rfl (sgs_cons (sg_name sc_one_after_other.nd (by rfl) (by first | exact Or.inl rfl | exact Or.inr rfl)) (sgs_cons (sg_name sc_one_after_other.nd (by rfl) (by first | exact Or.inl rfl | exact Or.inr rfl)) sgs_nil)))) (fun _ _ _ _ _ => sts_nil) (fun _ _ _ _ _ => (se_tup (sa_cons (se_add (sv 6) (sv 10)) (sa_cons (se_if (st_ne hr (sv 11) se_int) (se_add (sv 7) (sv 11)) se_int) sa_nil)))))
      (ss_one (s_expr (se_meth PySem.F.slot_list_append PySem.F.type_list_append mt_append om_append (sv 13) (sa_cons (se_tup (sa_cons (sv 8) (sa_cons (se_tuple D.m_tuple (sv 14)) sa_nil))) sa_nil))))))
      (ss_one (s_ret (se_tup (sa_cons (se_add (sv 2) (sv 4)) (sa_cons (se_tuple D.m_tuple (se_add (sv 12) (sv 13))) sa_nil)))))))))))))
theorem ok_one_after_other (D : Defs K mg) : FnOk P w K mg base (L2.CX P w) 11 (D.h_one_after_other).f (D.h_one_after_other).fd ["machine", "other"] (spNc ⟨K, w, mg⟩ (tx D) F_one_after_other) := fn_okD (g := g_one_after_other) (D.h_one_after_other).F sc_one_after_other (hF := rfl) (h1 := rfl) (h2 := rfl) (body := fun cdv A outer s H E hr => b_one_after_other D _ cdv A outer s H E hr)
/-! ### within_rounds -/
theorem sc_within_rounds : FnScope ["machine", "wants", "steps", "stands", "place", "_", "arrows", "begin", "pair", "owners"] ["machine", "wants"] (defScope s_within_rounds) := ⟨rfl, rfl, rfl, by decide +kernel, rfl, by decide +kernel, by decide +kernel⟩
def g_within_rounds : DS := (gSeq (gAsg (dFn (F_frozen RL) (dCons (dVar 0) dNil)) (gTupD 2 (gsCons (gN 2) (gsCons (gN 3) gsNil))))
  (gSeq (gAsg (dFn (F_frozen RL) (dCons (dVar 1) dNil)) (gN 1))
  (gSeq (gForI (iSeq (dVar 1)) (gTupD 2 (gsCons (gN 4) (gsCons (gN 5) gsNil))) (gIf (dNot (dTest (dFn F_is_number_below (dCons (dVar 4) (dCons (dCall oLen (dCons (dVar 2) dNil)) dNil))))) (gRaise1 0 (dVar 4)) gNil) 10000)
  (gSeq (gAsg (dFn F_ending_pairs (dCons (dVar 3) (dCons (dVar 1) dNil))) (gN 6))
  (gSeq (gAsg (dTup (dCons (dC (.int 0)) (dCons (dOp dMul2 (dTup (dCons (dC (.int 0)) dNil)) (dCall oLen (dCons (dVar 1) dNil))) dNil))) (gN 7))
  (gSeq (gIf (dTest (dOp dEq (dOp dIxA (dVar 6) (dVar 7)) (dLst dNil))) (gRaise 1) gNil)
  (gSeq (gLk 6 (gAsg (dDc (iKeysD (dVar 6)) (gN 8) dYes (dVar 8) (dOp dIxA (dOp dIxA (dVar 3) (dOp dIxA (dVar 8) (dC (.int 0)))) (dC (.int 0))) [8] 10000) (gN 9)))
  (gRet (dTup (dCons (dVar 2) (dCons (dFn F_stands_as_met (dCons (dVar 7) (dCons (dVar 6) (dCons (dVar 9) dNil)))) dNil)))))))))))
def F_within_rounds : DF := runF g_within_rounds 2 10
theorem b_within_rounds (D : Defs K mg) (f : Addr) (cdv : Value) (A : Around) (outer : List Env) (s : Shared) (H : Hp) (E : XK) (hr : Room 10 (A.deeper (envOfC "within_rounds" (defScope s_within_rounds) s.heap.objs.size f cdv))) :
    SSs (cxOf (L2.CX P w) P w K mg base ["machine", "wants", "steps", "stands", "place", "_", "arrows", "begin", "pair", "owners"] "within_rounds" (defScope s_within_rounds) f cdv A outer s H E) (tx D) (wOf E) (defBody s_within_rounds) g_within_rounds :=
  (ss_cons (s_asg (se_call (ok_frozen (base := base) D) (rm hr) (by rfl) (D.h_frozen).gl (D.h_frozen).F.kp (D.h_frozen).bi (takes_of rfl rfl rfl rfl) (sa_cons (sv 0) sa_nil)) (sg_tup rfl (sgs_cons (sg_name sc_within_rounds.nd (by rfl) (by first | exact Or.inl rfl | exact Or.inr rfl)) (sgs_cons (sg_name sc_within_rounds.nd (by rfl) (by first | exact Or.inl rfl | exact Or.inr rfl)) sgs_nil))))
      (ss_cons (s_set sc_within_rounds.nd (by rfl) (by first | exact Or.inl rfl | exact Or.inr rfl) (se_call (ok_frozen (base := base) D) (rm hr) (by rfl) (D.h_frozen).gl (D.h_frozen).F.kp (D.h_frozen).bi (takes_of rfl rfl rfl rfl) (sa_cons (sv 1) sa_nil)))
      (ss_cons (s_for 10000 (passes_of rfl) rfl (si_seq (sv 1)) (sg_tup rfl (sgs_cons (sg_name sc_within_rounds.nd (by rfl) (by first | exact Or.inl rfl | exact Or.inr rfl)) (sgs_cons (sg_name sc_within_rounds.nd (by rfl) (by first | exact Or.inl rfl | exact Or.inr rfl)) sgs_nil))) (ss_one (s_if (st_not (st_val (se_call (ok_is_number_below (base := base) D) (rm hr) (by rfl) (D.h_is_number_below).gl (D.h_is_number_below).F.kp (D.h_is_number_below).bi (takes_of rfl rfl rfl rfl) (sa_cons (sv 4) (sa_cons (se_len D.m_len (sv 2)) sa_nil))))) (ss_one (s_raise1 0 rfl rfl rfl (takes_of rfl rfl rfl rfl) D.x_NoPlace.O D.x_NoPlace.iC D.x_NoPlace.tI (ok_NoPlace (base := base) D) (rm hr) D.x_NoPlace.bi (by rfl) D.x_NoPlace.gl (sv 4))) ss_nil)))
      (ss_cons (s_set sc_within_rounds.nd (by rfl) (by first | exact Or.inl rfl | exact Or.inr rfl) (se_call (ok_ending_pairs (base := base) D) (rm hr) (by rfl) (D.h_ending_pairs).gl (D.h_ending_pairs).F.kp (D.h_ending_pairs).bi (takes_of rfl rfl rfl rfl) (sa_cons (sv 3) (sa_cons (sv 1) sa_nil))))
      (ss_cons (s_set sc_within_rounds.nd (by rfl) (by first | exact Or.inl rfl | exact Or.inr rfl) (se_tup (sa_cons se_int (sa_cons (se_mul2 (se_tup (sa_cons se_int sa_nil)) (se_len D.m_len (sv 1))) sa_nil))))
      (ss_cons (s_if (st_eq hr (se_sub hr (sv 6) (sv 7) (fun _ _ => rfl)) (se_lst sa_nil)) (ss_one (s_raise 1 rfl rfl rfl (takes_of rfl rfl rfl rfl) (pmk_pass D.x_CanNot.O D.x_CanNot.iC D.x_CanNot.tI (ok_CanNot (base := base) D) (rm hr) D.x_CanNot.bi (by rfl) D.x_CanNot.gl))) ss_nil)
      (ss_cons (s_lk 6 (s_setDcN (own := [("pair", 8)]) 10000 (i := 9) hr rfl sc_within_rounds.nd (by rfl) (by rfl) (by rfl) (si_keys (sv 6)) (blk_of (by kernel_rfl)) (by decide) (fun _ _ _ _ _ => (sg_name sc_within_rounds.nd (by rfl) (by first | exact Or.inl rfl | exact Or.inr rfl))) (fun _ _ _ _ _ => sts_nil) (fun _ _ _ _ _ => (sv 8)) (fun _ _ _ _ _ => (se_sub hr (se_sub hr (sv 3) (se_sub hr (sv 8) se_int (fun _ _ => rfl)) (fun _ _ => rfl)) se_int (fun _ _ => rfl)))))
      (ss_one (s_ret (se_tup (sa_cons (sv 2) (sa_cons (se_call (ok_stands_as_met (base := base) D) (rm hr) (by rfl) (D.h_stands_as_met).gl (D.h_stands_as_met).F.kp (D.h_stands_as_met).bi (takes_of rfl rfl rfl rfl) (sa_cons (sv 7) (sa_cons (sv 6) (sa_cons (sv 9) sa_nil)))) sa_nil))))))))))))
theorem ok_within_rounds (D : Defs K mg) : FnOk P w K mg base (L2.CX P w) 11 (D.h_within_rounds).f (D.h_within_rounds).fd ["machine", "wants"] (spNc ⟨K, w, mg⟩ (tx D) F_within_rounds) := fn_okD (g := g_within_rounds) (D.h_within_rounds).F sc_within_rounds (hF := rfl) (h1 := rfl) (h2 := rfl) (body := fun cdv A outer s H E hr => b_within_rounds D _ cdv A outer s H E hr)
/-! ### _law_same -/
theorem sc__law_same : FnScope ["got", "due", "a_so", "b_so"] ["got", "due"] (defScope s__law_same) := ⟨rfl, rfl, rfl, by decide +kernel, rfl, by decide +kernel, by decide +kernel⟩
def g__law_same (F : DF) : DS := (gSeq (gIf (dTest (dIsi2 .lst .tup (dVar 1))) (gSeq (gIf (dTest (dOp dNe (dIsi .lst (dVar 0)) (dIsi .lst (dVar 1)))) (gRet (dC (.bl false))) gNil)
  (gSeq (gIf (dTest (dOp dNe (dIsi .tup (dVar 0)) (dIsi .tup (dVar 1)))) (gRet (dC (.bl false))) gNil)
  (gRet (dAndV (dOp dEq (dCall oLen (dCons (dVar 0) dNil)) (dCall oLen (dCons (dVar 1) dNil))) (dCall (oBools allB) (dCons (dLc (iZip2 (dCons (dVar 0) (dCons (dVar 1) dNil))) (gTupD 2 (gsCons (gN 2) (gsCons (gN 3) gsNil))) dYes (dFn F (dCons (dVar 2) (dCons (dVar 3) dNil))) [2, 3] 10000) dNil)))))) gNil)
  (gSeq (gIf (dOr (dTest (dOp dIsN (dVar 1) (dC .non))) (dTest (dIsi2 .bl .str (dVar 1)))) (gRet (dAndV (dOp dEq (dVar 0) (dVar 1)) (dAndV (dOp dEq (dIsi .bl (dVar 0)) (dIsi .bl (dVar 1))) (dOp dEq (dOp dIsN (dVar 0) (dC .non)) (dOp dIsN (dVar 1) (dC .non)))))) gNil)
  (gRet (dAndV (dIsi .int (dVar 0)) (dAndV (dNotV (dIsi .bl (dVar 0))) (dOp dEq (dVar 0) (dVar 1)))))))
def F__law_same : Nat → DF
  | 0 => fun _ _ => .no
  | n + 1 => runF (g__law_same (F__law_same n)) 2 4
theorem b__law_same (D : Defs K mg) (n : Nat) (F : DF) (ih : FnOk P w K mg base (L2.CX P w) (0 + n) (D.h__law_same).f (D.h__law_same).fd ["got", "due"] (spNc ⟨K, w, mg⟩ (tx D) F)) (f : Addr) (cdv : Value) (A : Around) (outer : List Env) (s : Shared) (H : Hp) (E : XK) (hr : Room (0 + n) (A.deeper (envOfC "_law_same" (defScope s__law_same) s.heap.objs.size f cdv))) :
    SSs (cxOf (L2.CX P w) P w K mg base ["got", "due", "a_so", "b_so"] "_law_same" (defScope s__law_same) f cdv A outer s H E) (tx D) (wOf E) (defBody s__law_same) (g__law_same F) :=
  (ss_cons (s_if (st_val (se_isi2 .lst .tup (by intro h; cases h) (by intro h; cases h) (sv 1) (by rfl) D.m_isinstance (pe_tyName "list" (by rfl) D.m_list (by rfl)) (pe_tyName "tuple" (by rfl) D.m_tuple (by rfl)))) (ss_cons (s_if (st_ne hr (se_isi .lst (by intro h; cases h) (sv 0) (by rfl) D.m_isinstance (pe_tyName "list" (by rfl) D.m_list (by rfl))) (se_isi .lst (by intro h; cases h) (sv 1) (by rfl) D.m_isinstance (pe_tyName "list" (by rfl) D.m_list (by rfl)))) (ss_one (s_ret se_bl)) ss_nil)
      (ss_cons (s_if (st_ne hr (se_isi .tup (by intro h; cases h) (sv 0) (by rfl) D.m_isinstance (pe_tyName "tuple" (by rfl) D.m_tuple (by rfl))) (se_isi .tup (by intro h; cases h) (sv 1) (by rfl) D.m_isinstance (pe_tyName "tuple" (by rfl) D.m_tuple (by rfl)))) (ss_one (s_ret se_bl)) ss_nil)
      (ss_one (s_ret (se_and (se_eq hr (se_len D.m_len (sv 0)) (se_len D.m_len (sv 1))) (se_one (se_all rfl D.m_all (se_lc (own := [("a_so", 2), ("b_so", 3)]) 10000 rfl sc__law_same.nd (si_zip2 (by rfl) D.m_zip (sa_cons (sv 0) (sa_cons (sv 1) sa_nil))) (blk_of (by kernel_rfl)) (by decide) (fun _ _ _ _ _ => (sg_tup rfl (sgs_cons (sg_name sc__law_same.nd (by rfl) (by first | exact Or.inl rfl | exact Or.inr rfl)) (sgs_cons (sg_name sc__law_same.nd (by rfl) (by first | exact Or.inl rfl | exact Or.inr rfl)) sgs_nil)))) (fun _ _ _ _ _ => sts_nil) (fun _ _ _ _ _ => (se_call ih (rm hr) (by rfl) (D.h__law_same).gl (D.h__law_same).F.kp (D.h__law_same).bi takes0 (sa_cons (sv 2) (sa_cons (sv 3) sa_nil)))))))))))) ss_nil)
      (ss_cons (s_if (SW.st (sw_or (st_isN (sv 1) se_non) (sw_or1 (st_val (se_isi2 .bl .str (by intro h; cases h) (by intro h; cases h) (sv 1) (by rfl) D.m_isinstance (pe_tyName "bool" (by rfl) D.m_bool (by rfl)) (pe_tyName "str" (by rfl) D.m_str (by rfl))))))) (ss_one (s_ret (se_and (se_eq hr (sv 0) (sv 1)) (se_and (se_eq hr (se_isi .bl (by intro h; cases h) (sv 0) (by rfl) D.m_isinstance (pe_tyName "bool" (by rfl) D.m_bool (by rfl))) (se_isi .bl (by intro h; cases h) (sv 1) (by rfl) D.m_isinstance (pe_tyName "bool" (by rfl) D.m_bool (by rfl)))) (se_one (se_eq hr (se_isN (sv 0) se_non) (se_isN (sv 1) se_non))))))) ss_nil)
      (ss_one (s_ret (se_and (se_isi .int (by intro h; cases h) (sv 0) (by rfl) D.m_isinstance (pe_tyName "int" (by rfl) D.m_int (by rfl))) (se_and (se_not (se_isi .bl (by intro h; cases h) (sv 0) (by rfl) D.m_isinstance (pe_tyName "bool" (by rfl) D.m_bool (by rfl)))) (se_one (se_eq hr (sv 0) (sv 1)))))))))
theorem okN__law_same (D : Defs K mg) : ∀ n : Nat, FnOk P w K mg base (L2.CX P w) (0 + n) (D.h__law_same).f (D.h__law_same).fd ["got", "due"] (spNc ⟨K, w, mg⟩ (tx D) (F__law_same n))
  | 0 => fn_no
  | n + 1 => fn_okD (k := 0 + n) (g := g__law_same (F__law_same n)) (D.h__law_same).F sc__law_same (hF := rfl) (h1 := rfl) (h2 := rfl) (body := fun cdv A outer s H E hr => b__law_same D n _ (okN__law_same D n) _ cdv A outer s H E hr)
theorem ok__law_same (D : Defs K mg) : FnOk P w K mg base (L2.CX P w) 10 (D.h__law_same).f (D.h__law_same).fd ["got", "due"] (spNc ⟨K, w, mg⟩ (tx D) (F__law_same RL)) := okN__law_same D RL
/-! ### _law_two -/
theorem sc__law_two : FnScope [] [] (defScope s__law_two) := ⟨rfl, rfl, rfl, by decide +kernel, rfl, by decide +kernel, by decide +kernel⟩
def g__law_two : DS := (gRet (dTup (dCons (dTup (dCons (dTup (dCons (dTup (dCons (dC (.int 0)) dNil)) (dCons (dTup (dCons (dC (.int 0)) dNil)) (dCons (dTup (dCons (dC (.int 1)) dNil)) dNil)))) (dCons (dC .non) dNil))) (dCons (dTup (dCons (dTup (dCons (dTup (dCons (dC (.int 1)) dNil)) (dCons (dTup (dCons (dC (.int 2)) dNil)) (dCons (dTup (dCons (dC (.int 2)) dNil)) dNil)))) (dCons (dC .non) dNil))) dNil))))
def F__law_two : DF := runF g__law_two 0 0
theorem b__law_two (D : Defs K mg) (f : Addr) (cdv : Value) (A : Around) (outer : List Env) (s : Shared) (H : Hp) (E : XK) (hr : Room 0 (A.deeper (envOfC "_law_two" (defScope s__law_two) s.heap.objs.size f cdv))) :
    SSs (cxOf (L2.CX P w) P w K mg base [] "_law_two" (defScope s__law_two) f cdv A outer s H E) (tx D) (wOf E) (defBody s__law_two) g__law_two :=
  (ss_one (s_ret (se_tup (sa_cons (se_tup (sa_cons (se_tup (sa_cons (se_tup (sa_cons se_int sa_nil)) (sa_cons (se_tup (sa_cons se_int sa_nil)) (sa_cons (se_tup (sa_cons se_int sa_nil)) sa_nil)))) (sa_cons se_non sa_nil))) (sa_cons (se_tup (sa_cons (se_tup (sa_cons (se_tup (sa_cons se_int sa_nil)) (sa_cons (se_tup (sa_cons se_int sa_nil)) (sa_cons (se_tup (sa_cons se_int sa_nil)) sa_nil)))) (sa_cons se_non sa_nil))) sa_nil)))))
theorem ok__law_two (D : Defs K mg) : FnOk P w K mg base (L2.CX P w) 1 (D.h__law_two).f (D.h__law_two).fd [] (spNc ⟨K, w, mg⟩ (tx D) F__law_two) := fn_okD (g := g__law_two) (D.h__law_two).F sc__law_two (hF := rfl) (h1 := rfl) (h2 := rfl) (body := fun cdv A outer s H E hr => b__law_two D _ cdv A outer s H E hr)
/-! ### _law_bad -/
theorem sc__law_bad : FnScope ["s_so", "t_so", "fine_so", "told_so", "found"] [] (defScope s__law_bad) := ⟨rfl, rfl, rfl, by decide +kernel, rfl, by decide +kernel, by decide +kernel⟩
def g__law_bad : DS := (gSeq (gAsg (dFn F__law_two dNil) (gTupD 2 (gsCons (gN 0) (gsCons (gN 1) gsNil))))
  (gSeq (gAsg (dTup (dCons (dTup (dCons (dC (.str "any")) (dCons (dTup (dCons (dTup (dCons (dC (.int 0)) (dCons (dC (.int 0)) dNil))) dNil)) dNil))) (dCons (dTup (dCons (dTup (dCons (dTup (dCons (dC (.int 0)) dNil)) (dCons (dTup (dCons (dC (.int 0)) (dCons (dC (.int 1)) dNil))) (dCons (dTup (dCons (dC (.int 2)) dNil)) dNil)))) (dCons (dTup (dCons (dTup (dCons (dTup (dCons (dC (.int 1)) (dCons (dC (.int 1)) dNil))) dNil)) (dCons (dTup (dCons (dTup (dCons (dC (.int 1)) (dCons (dC (.int 2)) dNil))) (dCons (dTup (dCons (dC (.int 1)) (dCons (dC (.int 3)) dNil))) dNil))) (dCons (dTup (dCons (dTup (dCons (dC (.int 1)) (dCons (dC (.int 1)) dNil))) dNil)) dNil)))) dNil))) dNil))) (gTupD 2 (gsCons (gN 2) (gsCons (gN 3) gsNil))))
  (gSeq (gAsg (dLst (dCons (dC .non) (dCons (dC (.int 7)) (dCons (dC (.bl true)) (dCons (dC (.str "any")) (dCons (dTup dNil) (dCons (dTup (dCons (dTup (dCons (dVar 0) dNil)) dNil)) (dCons (dTup (dCons (dTup (dCons (dVar 0) dNil)) (dCons (dTup (dCons (dVar 2) dNil)) (dCons (dC (.int 0)) dNil)))) (dCons (dLst (dCons (dTup (dCons (dVar 0) dNil)) (dCons (dTup (dCons (dVar 2) dNil)) dNil))) (dCons (dTup (dCons (dTup dNil) (dCons (dTup (dCons (dVar 2) dNil)) dNil))) (dCons (dTup (dCons (dTup (dCons (dVar 0) dNil)) (dCons (dTup dNil) dNil))) dNil))))))))))) (gN 4))
  (gSeq (gAsg (dOp dAdd (dVar 4) (dLst (dCons (dTup (dCons (dLst (dCons (dVar 0) dNil)) (dCons (dTup (dCons (dVar 2) dNil)) dNil))) (dCons (dTup (dCons (dTup (dCons (dVar 0) dNil)) (dCons (dLst (dCons (dVar 2) dNil)) dNil))) (dCons (dTup (dCons (dTup (dCons (dOp dIxA (dVar 0) (dC (.int 0))) dNil)) (dCons (dTup (dCons (dVar 2) dNil)) dNil))) (dCons (dTup (dCons (dTup (dCons (dTup (dCons (dTup (dCons (dC (.int 0)) dNil)) (dCons (dTup (dCons (dC (.int 0)) dNil)) dNil))) (dCons (dC .non) dNil))) (dCons (dTup (dCons (dVar 2) dNil)) dNil))) (dCons (dTup (dCons (dTup (dCons (dTup (dCons (dTup (dCons (dTup (dCons (dC (.int 0)) dNil)) (dCons (dTup (dCons (dC (.int 0)) dNil)) dNil))) (dCons (dC .non) dNil))) dNil)) (dCons (dTup (dCons (dVar 2) dNil)) dNil))) dNil))))))) (gN 4))
  (gSeq (gAsg (dOp dAdd (dVar 4) (dLst (dCons (dTup (dCons (dTup (dCons (dVar 3) dNil)) (dCons (dTup (dCons (dVar 2) dNil)) dNil))) (dCons (dTup (dCons (dTup (dCons (dVar 0) dNil)) (dCons (dTup (dCons (dTup (dCons (dC (.str "Ours")) (dCons (dTup (dCons (dTup (dCons (dC (.int 0)) (dCons (dC (.int 0)) dNil))) dNil)) dNil))) dNil)) dNil))) (dCons (dTup (dCons (dTup (dCons (dVar 0) dNil)) (dCons (dTup (dCons (dTup (dCons (dC .non) (dCons (dTup (dCons (dTup (dCons (dC (.int 0)) (dCons (dC (.int 0)) dNil))) dNil)) dNil))) dNil)) dNil))) (dCons (dTup (dCons (dTup (dCons (dVar 0) dNil)) (dCons (dTup (dCons (dTup (dCons (dLst (dCons (dC (.str "any")) dNil)) (dCons (dTup (dCons (dTup (dCons (dC (.int 0)) (dCons (dC (.int 0)) dNil))) dNil)) dNil))) dNil)) dNil))) dNil)))))) (gN 4))
  (gSeq (gAsg (dOp dAdd (dVar 4) (dLst (dCons (dTup (dCons (dTup (dCons (dVar 0) dNil)) (dCons (dTup (dCons (dTup (dCons (dC (.str "any")) (dCons (dTup dNil) dNil))) dNil)) dNil))) (dCons (dTup (dCons (dTup (dCons (dVar 0) dNil)) (dCons (dTup (dCons (dTup (dCons (dC (.str "any")) (dCons (dLst (dCons (dTup (dCons (dC (.int 0)) (dCons (dC (.int 0)) dNil))) dNil)) dNil))) dNil)) dNil))) (dCons (dTup (dCons (dTup (dCons (dVar 0) dNil)) (dCons (dTup (dCons (dTup (dCons (dC (.str "any")) (dCons (dTup (dCons (dLst (dCons (dC (.int 0)) (dCons (dC (.int 0)) dNil))) dNil)) dNil))) dNil)) dNil))) (dCons (dTup (dCons (dTup (dCons (dVar 0) dNil)) (dCons (dTup (dCons (dTup (dCons (dC (.str "any")) (dCons (dTup (dCons (dTup (dCons (dC (.int 0)) (dCons (dC (.int 0)) (dCons (dC (.int 0)) dNil)))) dNil)) dNil))) dNil)) dNil))) dNil)))))) (gN 4))
  (gSeq (gAsg (dOp dAdd (dVar 4) (dLst (dCons (dTup (dCons (dTup (dCons (dVar 0) dNil)) (dCons (dTup (dCons (dTup (dCons (dC (.str "any")) (dCons (dTup (dCons (dTup (dCons (dC (.int 1)) (dCons (dC (.int 0)) dNil))) dNil)) dNil))) dNil)) dNil))) (dCons (dTup (dCons (dTup (dCons (dVar 0) dNil)) (dCons (dTup (dCons (dTup (dCons (dC (.str "any")) (dCons (dTup (dCons (dTup (dCons (dC (.int 0)) (dCons (dC (.int 1)) dNil))) dNil)) dNil))) dNil)) dNil))) (dCons (dTup (dCons (dTup (dCons (dVar 0) dNil)) (dCons (dTup (dCons (dTup (dCons (dC (.str "any")) (dCons (dTup (dCons (dTup (dCons (dNeg (dC (.int 1))) (dCons (dC (.int 0)) dNil))) dNil)) dNil))) dNil)) dNil))) (dCons (dTup (dCons (dTup (dCons (dVar 0) dNil)) (dCons (dTup (dCons (dTup (dCons (dC (.str "any")) (dCons (dTup (dCons (dTup (dCons (dC (.int 0)) (dCons (dNeg (dC (.int 1))) dNil))) dNil)) dNil))) dNil)) dNil))) dNil)))))) (gN 4))
  (gSeq (gAsg (dOp dAdd (dVar 4) (dLst (dCons (dTup (dCons (dTup (dCons (dVar 0) dNil)) (dCons (dTup (dCons (dTup (dCons (dC (.str "any")) (dCons (dTup (dCons (dTup (dCons (dC (.bl false)) (dCons (dC (.int 0)) dNil))) dNil)) dNil))) dNil)) dNil))) (dCons (dTup (dCons (dTup (dCons (dVar 0) dNil)) (dCons (dTup (dCons (dTup (dCons (dC (.str "any")) (dCons (dTup (dCons (dTup (dCons (dC (.int 0)) (dCons (dC (.int 0)) dNil))) (dCons (dTup (dCons (dC (.int 0)) (dCons (dC (.int 0)) dNil))) dNil))) dNil))) dNil)) dNil))) (dCons (dTup (dCons (dTup (dCons (dVar 0) dNil)) (dCons (dTup (dCons (dTup (dCons (dC (.str "any")) (dCons (dTup (dCons (dC (.int 0)) (dCons (dC (.int 0)) dNil))) dNil))) dNil)) dNil))) (dCons (dTup (dCons (dTup (dCons (dVar 0) dNil)) (dCons (dTup (dCons (dVar 2) (dCons (dVar 2) dNil))) dNil))) dNil)))))) (gN 4))
  (gSeq (gAsg (dOp dAdd (dVar 4) (dLst (dCons (dTup (dCons (dTup (dCons (dVar 0) dNil)) (dCons (dTup (dCons (dTup (dCons (dC (.str "any")) (dCons (dTup (dCons (dTup (dCons (dC (.int 0)) (dCons (dC (.int 1)) dNil))) dNil)) dNil))) (dCons (dTup (dCons (dC (.str "any")) (dCons (dTup (dCons (dTup (dCons (dC (.int 0)) (dCons (dC (.int 1)) dNil))) dNil)) dNil))) dNil))) dNil))) (dCons (dTup (dCons (dTup (dCons (dVar 0) dNil)) (dCons (dTup (dCons (dTup (dCons (dC (.str "any")) (dCons (dTup (dCons (dTup (dCons (dC (.int 0)) (dCons (dC (.int 0)) dNil))) (dCons (dTup (dCons (dC (.int 0)) (dCons (dC (.int 1)) dNil))) dNil))) dNil))) (dCons (dTup (dCons (dC (.str "any")) (dCons (dTup (dCons (dTup (dCons (dC (.int 0)) (dCons (dC (.int 1)) dNil))) (dCons (dTup (dCons (dC (.int 0)) (dCons (dC (.int 0)) dNil))) dNil))) dNil))) dNil))) dNil))) dNil)))) (gN 4))
  (gSeq (gAsg (dOp dAdd (dVar 4) (dLst (dCons (dTup (dCons (dTup (dCons (dVar 0) dNil)) (dCons (dTup (dCons (dTup (dCons (dC (.str "any")) (dCons (dTup (dCons (dTup (dCons (dC (.int 0)) (dCons (dC (.int 1)) dNil))) dNil)) dNil))) (dCons (dTup (dCons (dC (.str "any")) (dCons (dTup (dCons (dTup (dCons (dC (.int 0)) (dCons (dC (.int 2)) dNil))) (dCons (dTup (dCons (dC (.int 0)) (dCons (dC (.int 0)) dNil))) dNil))) dNil))) (dCons (dTup (dCons (dC (.str "any")) (dCons (dTup (dCons (dTup (dCons (dC (.int 0)) (dCons (dC (.int 1)) dNil))) dNil)) dNil))) dNil)))) dNil))) (dCons (dTup (dCons (dTup (dCons (dVar 0) dNil)) (dCons (dTup (dCons (dTup (dCons (dC (.str "any")) dNil)) dNil)) dNil))) (dCons (dTup (dCons (dTup (dCons (dVar 0) dNil)) (dCons (dTup (dCons (dTup (dCons (dC (.str "any")) (dCons (dTup (dCons (dTup (dCons (dC (.int 0)) (dCons (dC (.int 0)) dNil))) dNil)) (dCons (dC (.int 0)) dNil)))) dNil)) dNil))) dNil))))) (gN 4))
  (gRet (dVar 4))))))))))))
def F__law_bad : DF := runF g__law_bad 0 5
theorem b__law_bad (D : Defs K mg) (f : Addr) (cdv : Value) (A : Around) (outer : List Env) (s : Shared) (H : Hp) (E : XK) (hr : Room 1 (A.deeper (envOfC "_law_bad" (defScope s__law_bad) s.heap.objs.size f cdv))) :
    SSs (cxOf (L2.CX P w) P w K mg base ["s_so", "t_so", "fine_so", "told_so", "found"] "_law_bad" (defScope s__law_bad) f cdv A outer s H E) (tx D) (wOf E) (defBody s__law_bad) g__law_bad :=
  (ss_cons (s_asg (se_call0 (ok__law_two (base := base) D) (rm hr) (by rfl) (D.h__law_two).gl (D.h__law_two).F.kp (D.h__law_two).bi (takes_of rfl rfl rfl rfl)) (sg_tup rfl (sgs_cons (sg_name sc__law_bad.nd (by rfl) (by first | exact Or.inl rfl | exact Or.inr rfl)) (sgs_cons (sg_name sc__law_bad.nd (by rfl) (by first | exact Or.inl rfl | exact Or.inr rfl)) sgs_nil))))
      (ss_cons (s_asg (se_tup (sa_cons (se_tup (sa_cons se_str (sa_cons (se_tup (sa_cons (se_tup (sa_cons se_int (sa_cons se_int sa_nil))) sa_nil)) sa_nil))) (sa_cons (se_tup (sa_cons (se_tup (sa_cons (se_tup (sa_cons se_int sa_nil)) (sa_cons (se_tup (sa_cons se_int (sa_cons se_int sa_nil))) (sa_cons (se_tup (sa_cons se_int sa_nil)) sa_nil)))) (sa_cons (se_tup (sa_cons (se_tup (sa_cons (se_tup (sa_cons se_int (sa_cons se_int sa_nil))) sa_nil)) (sa_cons (se_tup (sa_cons (se_tup (sa_cons se_int (sa_cons se_int sa_nil))) (sa_cons (se_tup (sa_cons se_int (sa_cons se_int sa_nil))) sa_nil))) (sa_cons (se_tup (sa_cons (se_tup (sa_cons se_int (sa_cons se_int sa_nil))) sa_nil)) sa_nil)))) sa_nil))) sa_nil))) (sg_tup rfl (sgs_cons (sg_name sc__law_bad.nd (by rfl) (by first | exact Or.inl rfl | exact Or.inr rfl)) (sgs_cons (sg_name sc__law_bad.nd (by rfl) (by first | exact Or.inl rfl | exact Or.inr rfl)) sgs_nil))))
      (ss_cons (s_set sc__law_bad.nd (by rfl) (by first | exact Or.inl rfl | exact Or.inr rfl) (se_lst (sa_cons se_non (sa_cons se_int (sa_cons se_bl (sa_cons se_str (sa_cons (se_tup sa_nil) (sa_cons (se_tup (sa_cons (se_tup (sa_cons (sv 0) sa_nil)) sa_nil)) (sa_cons (se_tup (sa_cons (se_tup (sa_cons (sv 0) sa_nil)) (sa_cons (se_tup (sa_cons (sv 2) sa_nil)) (sa_cons se_int sa_nil)))) (sa_cons (se_lst (sa_cons (se_tup (sa_cons (sv 0) sa_nil)) (sa_cons (se_tup (sa_cons (sv 2) sa_nil)) sa_nil))) (sa_cons (se_tup (sa_cons (se_tup sa_nil) (sa_cons (se_tup (sa_cons (sv 2) sa_nil)) sa_nil))) (sa_cons (se_tup (sa_cons (se_tup (sa_cons (sv 0) sa_nil)) (sa_cons (se_tup sa_nil) sa_nil))) sa_nil))))))))))))
      (ss_cons (s_set sc__law_bad.nd (by rfl) (by first | exact Or.inl rfl | exact Or.inr rfl) (se_add (sv 4) (se_lst (sa_cons (se_tup (sa_cons (se_lst (sa_cons (sv 0) sa_nil)) (sa_cons (se_tup (sa_cons (sv 2) sa_nil)) sa_nil))) (sa_cons (se_tup (sa_cons (se_tup (sa_cons (sv 0) sa_nil)) (sa_cons (se_lst (sa_cons (sv 2) sa_nil)) sa_nil))) (sa_cons (se_tup (sa_cons (se_tup (sa_cons (se_sub hr (sv 0) se_int (fun _ _ => rfl)) sa_nil)) (sa_cons (se_tup (sa_cons (sv 2) sa_nil)) sa_nil))) (sa_cons (se_tup (sa_cons (se_tup (sa_cons (se_tup (sa_cons (se_tup (sa_cons se_int sa_nil)) (sa_cons (se_tup (sa_cons se_int sa_nil)) sa_nil))) (sa_cons se_non sa_nil))) (sa_cons (se_tup (sa_cons (sv 2) sa_nil)) sa_nil))) (sa_cons (se_tup (sa_cons (se_tup (sa_cons (se_tup (sa_cons (se_tup (sa_cons (se_tup (sa_cons se_int sa_nil)) (sa_cons (se_tup (sa_cons se_int sa_nil)) sa_nil))) (sa_cons se_non sa_nil))) sa_nil)) (sa_cons (se_tup (sa_cons (sv 2) sa_nil)) sa_nil))) sa_nil))))))))
      (ss_cons (s_set sc__law_bad.nd (by rfl) (by first | exact Or.inl rfl | exact Or.inr rfl) (se_add (sv 4) (se_lst (sa_cons (se_tup (sa_cons (se_tup (sa_cons (sv 3) sa_nil)) (sa_cons (se_tup (sa_cons (sv 2) sa_nil)) sa_nil))) (sa_cons (se_tup (sa_cons (se_tup (sa_cons (sv 0) sa_nil)) (sa_cons (se_tup (sa_cons (se_tup (sa_cons se_str (sa_cons (se_tup (sa_cons (se_tup (sa_cons se_int (sa_cons se_int sa_nil))) sa_nil)) sa_nil))) sa_nil)) sa_nil))) (sa_cons (se_tup (sa_cons (se_tup (sa_cons (sv 0) sa_nil)) (sa_cons (se_tup (sa_cons (se_tup (sa_cons se_non (sa_cons (se_tup (sa_cons (se_tup (sa_cons se_int (sa_cons se_int sa_nil))) sa_nil)) sa_nil))) sa_nil)) sa_nil))) (sa_cons (se_tup (sa_cons (se_tup (sa_cons (sv 0) sa_nil)) (sa_cons (se_tup (sa_cons (se_tup (sa_cons (se_lst (sa_cons se_str sa_nil)) (sa_cons (se_tup (sa_cons (se_tup (sa_cons se_int (sa_cons se_int sa_nil))) sa_nil)) sa_nil))) sa_nil)) sa_nil))) sa_nil)))))))
      (ss_cons (s_set sc__law_bad.nd (by rfl) (by first | exact Or.inl rfl | exact Or.inr rfl) (se_add (sv 4) (se_lst (sa_cons (se_tup (sa_cons (se_tup (sa_cons (sv 0) sa_nil)) (sa_cons (se_tup (sa_cons (se_tup (sa_cons se_str (sa_cons (se_tup sa_nil) sa_nil))) sa_nil)) sa_nil))) (sa_cons (se_tup (sa_cons (se_tup (sa_cons (sv 0) sa_nil)) (sa_cons (se_tup (sa_cons (se_tup (sa_cons se_str (sa_cons (se_lst (sa_cons (se_tup (sa_cons se_int (sa_cons se_int sa_nil))) sa_nil)) sa_nil))) sa_nil)) sa_nil))) (sa_cons (se_tup (sa_cons (se_tup (sa_cons (sv 0) sa_nil)) (sa_cons (se_tup (sa_cons (se_tup (sa_cons se_str (sa_cons (se_tup (sa_cons (se_lst (sa_cons se_int (sa_cons se_int sa_nil))) sa_nil)) sa_nil))) sa_nil)) sa_nil))) (sa_cons (se_tup (sa_cons (se_tup (sa_cons (sv 0) sa_nil)) (sa_cons (se_tup (sa_cons (se_tup (sa_cons se_str (sa_cons (se_tup (sa_cons (se_tup (sa_cons se_int (sa_cons se_int (sa_cons se_int sa_nil)))) sa_nil)) sa_nil))) sa_nil)) sa_nil))) sa_nil)))))))
      (ss_cons (s_set sc__law_bad.nd (by rfl) (by first | exact Or.inl rfl | exact Or.inr rfl) (se_add (sv 4) (se_lst (sa_cons (se_tup (sa_cons (se_tup (sa_cons (sv 0) sa_nil)) (sa_cons (se_tup (sa_cons (se_tup (sa_cons se_str (sa_cons (se_tup (sa_cons (se_tup (sa_cons se_int (sa_cons se_int sa_nil))) sa_nil)) sa_nil))) sa_nil)) sa_nil))) (sa_cons (se_tup (sa_cons (se_tup (sa_cons (sv 0) sa_nil)) (sa_cons (se_tup (sa_cons (se_tup (sa_cons se_str (sa_cons (se_tup (sa_cons (se_tup (sa_cons se_int (sa_cons se_int sa_nil))) sa_nil)) sa_nil))) sa_nil)) sa_nil))) (sa_cons (se_tup (sa_cons (se_tup (sa_cons (sv 0) sa_nil)) (sa_cons (se_tup (sa_cons (se_tup (sa_cons se_str (sa_cons (se_tup (sa_cons (se_tup (sa_cons (se_neg se_int) (sa_cons se_int sa_nil))) sa_nil)) sa_nil))) sa_nil)) sa_nil))) (sa_cons (se_tup (sa_cons (se_tup (sa_cons (sv 0) sa_nil)) (sa_cons (se_tup (sa_cons (se_tup (sa_cons se_str (sa_cons (se_tup (sa_cons (se_tup (sa_cons se_int (sa_cons (se_neg se_int) sa_nil))) sa_nil)) sa_nil))) sa_nil)) sa_nil))) sa_nil)))))))
      (ss_cons (s_set sc__law_bad.nd (by rfl) (by first | exact Or.inl rfl | exact Or.inr rfl) (se_add (sv 4) (se_lst (sa_cons (se_tup (sa_cons (se_tup (sa_cons (sv 0) sa_nil)) (sa_cons (se_tup (sa_cons (se_tup (sa_cons se_str (sa_cons (se_tup (sa_cons (se_tup (sa_cons se_bl (sa_cons se_int sa_nil))) sa_nil)) sa_nil))) sa_nil)) sa_nil))) (sa_cons (se_tup (sa_cons (se_tup (sa_cons (sv 0) sa_nil)) (sa_cons (se_tup (sa_cons (se_tup (sa_cons se_str (sa_cons (se_tup (sa_cons (se_tup (sa_cons se_int (sa_cons se_int sa_nil))) (sa_cons (se_tup (sa_cons se_int (sa_cons se_int sa_nil))) sa_nil))) sa_nil))) sa_nil)) sa_nil))) (sa_cons (se_tup (sa_cons (se_tup (sa_cons (sv 0) sa_nil)) (sa_cons (se_tup (sa_cons (se_tup (sa_cons se_str (sa_cons (se_tup (sa_cons se_int (sa_cons se_int sa_nil))) sa_nil))) sa_nil)) sa_nil))) (sa_cons (se_tup (sa_cons (se_tup (sa_cons (sv 0) sa_nil)) (sa_cons (se_tup (sa_cons (sv 2) (sa_cons (sv 2) sa_nil))) sa_nil))) sa_nil)))))))
      (ss_cons (s_set sc__law_bad.nd (by rfl) (by first | exact Or.inl rfl | exact Or.inr rfl) (se_add (sv 4) (se_lst (sa_cons (se_tup (sa_cons (se_tup (sa_cons (sv 0) sa_nil)) (sa_cons (se_tup (sa_cons (se_tup (sa_cons se_str (sa_cons (se_tup (sa_cons (se_tup (sa_cons se_int (sa_cons se_int sa_nil))) sa_nil)) sa_nil))) (sa_cons (se_tup (sa_cons se_str (sa_cons (se_tup (sa_cons (se_tup (sa_cons se_int (sa_cons se_int sa_nil))) sa_nil)) sa_nil))) sa_nil))) sa_nil))) (sa_cons (se_tup (sa_cons (se_tup (sa_cons (sv 0) sa_nil)) (sa_cons (se_tup (sa_cons (se_tup (sa_cons se_str (sa_cons (se_tup (sa_cons (se_tup (sa_cons se_int (sa_cons se_int sa_nil))) (sa_cons (se_tup (sa_cons se_int (sa_cons se_int sa_nil))) sa_nil))) sa_nil))) (sa_cons (se_tup (sa_cons se_str (sa_cons (se_tup (sa_cons (se_tup (sa_cons se_int (sa_cons se_int sa_nil))) (sa_cons (se_tup (sa_cons se_int (sa_cons se_int sa_nil))) sa_nil))) sa_nil))) sa_nil))) sa_nil))) sa_nil)))))
      (ss_cons (s_set sc__law_bad.nd (by rfl) (by first | exact Or.inl rfl | exact Or.inr rfl) (se_add (sv 4) (se_lst (sa_cons (se_tup (sa_cons (se_tup (sa_cons (sv 0) sa_nil)) (sa_cons (se_tup (sa_cons (se_tup (sa_cons se_str (sa_cons (se_tup (sa_cons (se_tup (sa_cons se_int (sa_cons se_int sa_nil))) sa_nil)) sa_nil))) (sa_cons (se_tup (sa_cons se_str (sa_cons (se_tup (sa_cons (se_tup (sa_cons se_int (sa_cons se_int sa_nil))) (sa_cons (se_tup (sa_cons se_int (sa_cons se_int sa_nil))) sa_nil))) sa_nil))) (sa_cons (se_tup (sa_cons se_str (sa_cons (se_tup (sa_cons (se_tup (sa_cons se_int (sa_cons se_int sa_nil))) sa_nil)) sa_nil))) sa_nil)))) sa_nil))) (sa_cons (se_tup (sa_cons (se_tup (sa_cons (sv 0) sa_nil)) (sa_cons (se_tup (sa_cons (se_tup (sa_cons se_str sa_nil)) sa_nil)) sa_nil))) (sa_cons (se_tup (sa_cons (se_tup (sa_cons (sv 0) sa_nil)) (sa_cons (se_tup (sa_cons (se_tup (sa_cons se_str (sa_cons (se_tup (sa_cons (se_tup (sa_cons se_int (sa_cons se_int sa_nil))) sa_nil)) (sa_cons se_int sa_nil)))) sa_nil)) sa_nil))) sa_nil))))))
      (ss_one (s_ret (sv 4)))))))))))))
theorem ok__law_bad (D : Defs K mg) : FnOk P w K mg base (L2.CX P w) 2 (D.h__law_bad).f (D.h__law_bad).fd [] (spNc ⟨K, w, mg⟩ (tx D) F__law_bad) := fn_okD (g := g__law_bad) (D.h__law_bad).F sc__law_bad (hF := rfl) (h1 := rfl) (h2 := rfl) (body := fun cdv A outer s H E hr => b__law_bad D _ cdv A outer s H E hr)
/-! ### _law_chain -/
theorem sc__law_chain : FnScope ["many_so", "s_so", "t_so", "k"] ["many_so"] (defScope s__law_chain) := ⟨rfl, rfl, rfl, by decide +kernel, rfl, by decide +kernel, by decide +kernel⟩
def g__law_chain : DS := (gSeq (gAsg (dFn F__law_two dNil) (gTupD 2 (gsCons (gN 1) (gsCons (gN 2) gsNil))))
  (gRet (dTup (dCons (dTup (dCons (dVar 1) (dCons (dVar 2) dNil))) (dCons (dCall oTuple (dCons (dLc (iR1 (dCons (dVar 0) dNil)) (gN 3) dYes (dTup (dCons (dC (.str "any")) (dCons (dTup (dCons (dTup (dCons (dC (.int 0)) (dCons (dOp (dIntOp (fun _ j => posI j) fun i j => i % j) (dOp dAdd (dVar 3) (dC (.int 1))) (dVar 0)) dNil))) (dCons (dTup (dCons (dC (.int 1)) (dCons (dOp (dIntOp (fun _ j => posI j) fun i j => i % j) (dOp dAdd (dVar 3) (dC (.int 1))) (dVar 0)) dNil))) dNil))) dNil))) [3] 10000) dNil)) dNil)))))
def F__law_chain : DF := runF g__law_chain 1 4
theorem b__law_chain (D : Defs K mg) (f : Addr) (cdv : Value) (A : Around) (outer : List Env) (s : Shared) (H : Hp) (E : XK) (hr : Room 1 (A.deeper (envOfC "_law_chain" (defScope s__law_chain) s.heap.objs.size f cdv))) :
    SSs (cxOf (L2.CX P w) P w K mg base ["many_so", "s_so", "t_so", "k"] "_law_chain" (defScope s__law_chain) f cdv A outer s H E) (tx D) (wOf E) (defBody s__law_chain) g__law_chain :=
  (ss_cons (s_asg (se_call0 (ok__law_two (base := base) D) (rm hr) (by rfl) (D.h__law_two).gl (D.h__law_two).F.kp (D.h__law_two).bi (takes_of rfl rfl rfl rfl)) (sg_tup rfl (sgs_cons (sg_name sc__law_chain.nd (by rfl) (by first | exact Or.inl rfl | exact Or.inr rfl)) (sgs_cons (sg_name sc__law_chain.nd (by rfl) (by first | exact Or.inl rfl | exact Or.inr rfl)) sgs_nil))))
      (ss_one (s_ret (se_tup (sa_cons (se_tup (sa_cons (sv 1) (sa_cons (sv 2) sa_nil))) (sa_cons (se_tuple D.m_tuple (se_lc (own := [("k", 3)]) 10000 rfl sc__law_chain.nd (si_range1 (by rfl) D.m_range (sa_cons (sv 0) sa_nil)) (blk_of (by kernel_rfl)) (by decide) (fun _ _ _ _ _ => (sg_name sc__law_chain.nd (by rfl) (by first | exact Or.inl rfl | exact Or.inr rfl))) (fun _ _ _ _ _ => sts_nil) (fun _ _ _ _ _ => (se_tup (sa_cons se_str (sa_cons (se_tup (sa_cons (se_tup (sa_cons se_int (sa_cons (se_mod (se_add (sv 3) se_int) (sv 0)) sa_nil))) (sa_cons (se_tup (sa_cons se_int (sa_cons (se_mod (se_add (sv 3) se_int) (sv 0)) sa_nil))) sa_nil))) sa_nil)))))) sa_nil))))))
theorem ok__law_chain (D : Defs K mg) : FnOk P w K mg base (L2.CX P w) 2 (D.h__law_chain).f (D.h__law_chain).fd ["many_so"] (spNc ⟨K, w, mg⟩ (tx D) F__law_chain) := fn_okD (g := g__law_chain) (D.h__law_chain).F sc__law_chain (hF := rfl) (h1 := rfl) (h2 := rfl) (body := fun cdv A outer s H E hr => b__law_chain D _ cdv A outer s H E hr)
/-! ### _law_wide -/
theorem sc__law_wide : FnScope ["widths_so", "stands_so", "k", "wide_so", "on_so", "j"] ["widths_so"] (defScope s__law_wide) := ⟨rfl, rfl, rfl, by decide +kernel, rfl, by decide +kernel, by decide +kernel⟩
def g__law_wide : DS := (gSeq (gAsg (dLst dNil) (gN 1))
  (gSeq (gForI (iEnumD (dCons (dVar 0) dNil)) (gTupD 2 (gsCons (gN 2) (gsCons (gN 3) gsNil))) (gSeq (gAsg (dIf (dTest (dOp dLt (dOp dAdd (dVar 2) (dC (.int 1))) (dCall oLen (dCons (dVar 0) dNil)))) (dOp dAdd (dVar 2) (dC (.int 1))) (dC (.int 0))) (gN 4))
  (gExpr (dMeth oAppend (dVar 1) (dCons (dTup (dCons (dC (.str "any")) (dCons (dCall oTuple (dCons (dLc (iR1 (dCons (dVar 3) dNil)) (gN 5) dYes (dTup (dCons (dVar 5) (dCons (dVar 4) dNil))) [5] 10000) dNil)) dNil))) dNil)))) 10000)
  (gRet (dTup (dCons (dOp dMul2 (dTup (dCons (dOp dIxA (dFn F__law_two dNil) (dC (.int 0))) dNil)) (dC (.int 5))) (dCons (dCall oTuple (dCons (dVar 1) dNil)) dNil))))))
def F__law_wide : DF := runF g__law_wide 1 6
theorem b__law_wide (D : Defs K mg) (f : Addr) (cdv : Value) (A : Around) (outer : List Env) (s : Shared) (H : Hp) (E : XK) (hr : Room 1 (A.deeper (envOfC "_law_wide" (defScope s__law_wide) s.heap.objs.size f cdv))) :
    SSs (cxOf (L2.CX P w) P w K mg base ["widths_so", "stands_so", "k", "wide_so", "on_so", "j"] "_law_wide" (defScope s__law_wide) f cdv A outer s H E) (tx D) (wOf E) (defBody s__law_wide) g__law_wide :=
  (ss_cons (s_set sc__law_wide.nd (by rfl) (by first | exact Or.inl rfl | exact Or.inr rfl) (se_lst sa_nil))
      (ss_cons (s_for 10000 (passes_of rfl) rfl (si_enum (by rfl) D.m_enumerate (sa_cons (sv 0) sa_nil)) (sg_tup rfl (sgs_cons (sg_name sc__law_wide.nd (by rfl) (by first | exact Or.inl rfl | exact Or.inr rfl)) (sgs_cons (sg_name sc__law_wide.nd (by rfl) (by first | exact Or.inl rfl | exact Or.inr rfl)) sgs_nil))) (ss_cons (s_set sc__law_wide.nd (by rfl) (by first | exact Or.inl rfl | exact Or.inr rfl) (se_if (st_lt hr (se_add (sv 2) se_int) (se_len D.m_len (sv 0))) (se_add (sv 2) se_int) se_int))
      (ss_one (s_expr (se_meth PySem.F.slot_list_append PySem.F.type_list_append mt_append om_append (sv 1) (sa_cons (se_tup (sa_cons se_str (sa_cons (se_tuple D.m_tuple (se_lc (own := [("j", 5)]) 10000 rfl sc__law_wide.nd (si_range1 (by rfl) D.m_range (sa_cons (sv 3) sa_nil)) (blk_of (by kernel_rfl)) (by decide) (fun _ _ _ _ _ => (sg_name sc__law_wide.nd (by rfl) (by first | exact Or.inl rfl | exact Or.inr rfl))) (fun _ _ _ _ _ => sts_nil) (fun _ _ _ _ _ => (se_tup (sa_cons (sv 5) (sa_cons (sv 4) sa_nil)))))) sa_nil))) sa_nil))))))
      (ss_one (s_ret (se_tup (sa_cons (se_mul2 (se_tup (sa_cons (se_sub hr (se_call0 (ok__law_two (base := base) D) (rm hr) (by rfl) (D.h__law_two).gl (D.h__law_two).F.kp (D.h__law_two).bi (takes_of rfl rfl rfl rfl)) se_int (fun _ _ => rfl)) sa_nil)) se_int) (sa_cons (se_tuple D.m_tuple (sv 1)) sa_nil)))))))
theorem ok__law_wide (D : Defs K mg) : FnOk P w K mg base (L2.CX P w) 2 (D.h__law_wide).f (D.h__law_wide).fd ["widths_so"] (spNc ⟨K, w, mg⟩ (tx D) F__law_wide) := fn_okD (g := g__law_wide) (D.h__law_wide).F sc__law_wide (hF := rfl) (h1 := rfl) (h2 := rfl) (body := fun cdv A outer s H E hr => b__law_wide D _ cdv A outer s H E hr)
/-! ### _law_heard -/
theorem sc__law_heard : FnScope ["door_so", "machine_so", "more_so", "found", "caught", "error", "error_b", "error_c", "error_d"] ["door_so", "machine_so", "more_so"] (defScope s__law_heard) := ⟨rfl, rfl, rfl, by decide +kernel, rfl, by decide +kernel, by decide +kernel⟩
def g__law_heard : DS := (gSeq (gAsg (dTup (dCons (dC .non) (dCons (dC .non) dNil))) (gTupD 2 (gsCons (gN 3) (gsCons (gN 4) gsNil))))
  (gSeq (gTryH [⟨2, some 5, .set 4 (.lst [(.c (.str "much")), (.c (.bl true))])⟩, ⟨3, some 6, .set 4 (.lst [(.c (.str "unfit")), (.c (.bl true))])⟩, ⟨0, some 7, .set 4 (.lst [(.c (.str "place")), .f])⟩, ⟨1, some 8, .set 4 (.lst [(.c (.str "not")), (.c (.bl true))])⟩] (gIf (dTest (dOp dEq (dVar 0) (dC (.int 0)))) (gAsg (dCall oLen (dCons (dFn F_rows_of (dCons (dVar 1) (dCons (dC (.int 0)) (dCons (dVar 2) dNil)))) dNil)) (gN 3)) (gIf (dTest (dOp dEq (dVar 0) (dC (.int 1)))) (gAsg (dCall oLen (dCons (dFn F_rounds (dCons (dVar 1) dNil)) dNil)) (gN 3)) (gIf (dTest (dOp dEq (dVar 0) (dC (.int 2)))) (gAsg (dFn F_one_after_other (dCons (dVar 1) (dCons (dVar 2) dNil))) (gN 3)) (gAsg (dFn F_within_rounds (dCons (dVar 1) (dCons (dVar 2) dNil))) (gN 3))))))
  (gRet (dIf (dTest (dOp dIsN (dVar 4) (dC .non))) (dVar 3) (dVar 4)))))
def F__law_heard : DF := runF g__law_heard 3 9
theorem b__law_heard (D : Defs K mg) (f : Addr) (cdv : Value) (A : Around) (outer : List Env) (s : Shared) (H : Hp) (E : XK) (hr : Room 11 (A.deeper (envOfC "_law_heard" (defScope s__law_heard) s.heap.objs.size f cdv))) :
    SSs (cxOf (L2.CX P w) P w K mg base ["door_so", "machine_so", "more_so", "found", "caught", "error", "error_b", "error_c", "error_d"] "_law_heard" (defScope s__law_heard) f cdv A outer s H E) (tx D) (wOf E) (defBody s__law_heard) g__law_heard :=
  (ss_cons (s_asg (se_tup (sa_cons se_non (sa_cons se_non sa_nil))) (sg_tup rfl (sgs_cons (sg_name sc__law_heard.nd (by rfl) (by first | exact Or.inl rfl | exact Or.inr rfl)) (sgs_cons (sg_name sc__law_heard.nd (by rfl) (by first | exact Or.inl rfl | exact Or.inr rfl)) sgs_nil))))
      (ss_cons (s_tryH rfl rfl sc__law_heard.nd (fun W pn xe tk hp => (ss_one (s_if (st_eq hr (sv 0) se_int) (ss_one (s_set sc__law_heard.nd (by rfl) (by first | exact Or.inl rfl | exact Or.inr rfl) (se_len D.m_len (se_call (ok_rows_of (base := base) D) (rm hr) (by rfl) (D.h_rows_of).gl (D.h_rows_of).F.kp (D.h_rows_of).bi tk (sa_cons (sv 1) (sa_cons se_int (sa_cons (sv 2) sa_nil))))))) (ss_one (s_if (st_eq hr (sv 0) se_int) (ss_one (s_set sc__law_heard.nd (by rfl) (by first | exact Or.inl rfl | exact Or.inr rfl) (se_len D.m_len (se_call (ok_rounds (base := base) D) (rm hr) (by rfl) (D.h_rounds).gl (D.h_rounds).F.kp (D.h_rounds).bi tk (sa_cons (sv 1) sa_nil))))) (ss_one (s_if (st_eq hr (sv 0) se_int) (ss_one (s_set sc__law_heard.nd (by rfl) (by first | exact Or.inl rfl | exact Or.inr rfl) (se_call (ok_one_after_other (base := base) D) (rm hr) (by rfl) (D.h_one_after_other).gl (D.h_one_after_other).F.kp (D.h_one_after_other).bi tk (sa_cons (sv 1) (sa_cons (sv 2) sa_nil))))) (ss_one (s_set sc__law_heard.nd (by rfl) (by first | exact Or.inl rfl | exact Or.inr rfl) (se_call (ok_within_rounds (base := base) D) (rm hr) (by rfl) (D.h_within_rounds).gl (D.h_within_rounds).F.kp (D.h_within_rounds).bi tk (sa_cons (sv 1) (sa_cons (sv 2) sa_nil)))))))))))) (HdsD.consA (i := 5) ⟨by rfl, by decide, Or.inl D.x_TooMuch.gl⟩ rfl (hx_TooMuch D) rfl (by rfl) (hs_set (j := 4) sc__law_heard.nd (by rfl) (by first | exact Or.inl rfl | exact Or.inr rfl) (hx_lst (his_cons hi_str (his_cons (hi_is (k := 5) D.x_TooMuch.EC D.x_TooMuch.kit rfl (by first | exact Or.inl rfl | exact Or.inr (Or.inl rfl) | exact Or.inr (Or.inr rfl)) D.m_isinstance D.m_ValueError (by rfl)) his_nil)))) (HdsD.consA (i := 6) ⟨by rfl, by decide, Or.inl D.x_Unfit.gl⟩ rfl (hx_Unfit D) rfl (by rfl) (hs_set (j := 4) sc__law_heard.nd (by rfl) (by first | exact Or.inl rfl | exact Or.inr rfl) (hx_lst (his_cons hi_str (his_cons (hi_is (k := 6) D.x_Unfit.EC D.x_Unfit.kit rfl (by first | exact Or.inl rfl | exact Or.inr (Or.inl rfl) | exact Or.inr (Or.inr rfl)) D.m_isinstance D.m_ValueError (by rfl)) his_nil)))) (HdsD.consA (i := 7) ⟨by rfl, by decide, Or.inl D.x_NoPlace.gl⟩ rfl (hx_NoPlace D) rfl (by rfl) (hs_set (j := 4) sc__law_heard.nd (by rfl) (by first | exact Or.inl rfl | exact Or.inr rfl) (hx_lst (his_cons hi_str (his_cons (hi_fld (k := 7) D.x_NoPlace.XF D.x_NoPlace.no rfl (by first | exact Or.inl rfl | exact Or.inr (Or.inl rfl) | exact Or.inr (Or.inr rfl))) his_nil)))) (HdsD.consA (i := 8) ⟨by rfl, by decide, Or.inl D.x_CanNot.gl⟩ rfl (hx_CanNot D) rfl (by rfl) (hs_set (j := 4) sc__law_heard.nd (by rfl) (by first | exact Or.inl rfl | exact Or.inr rfl) (hx_lst (his_cons hi_str (his_cons (hi_is (k := 8) D.x_CanNot.EC D.x_CanNot.kit rfl (by first | exact Or.inl rfl | exact Or.inr (Or.inl rfl) | exact Or.inr (Or.inr rfl)) D.m_isinstance D.m_ValueError (by rfl)) his_nil)))) HdsD.nil)))) rfl)
      (ss_one (s_ret (se_if (st_isN (sv 4) se_non) (sv 3) (sv 4))))))
theorem ok__law_heard (D : Defs K mg) : FnOk P w K mg base (L2.CX P w) 12 (D.h__law_heard).f (D.h__law_heard).fd ["door_so", "machine_so", "more_so"] (spNc ⟨K, w, mg⟩ (tx D) F__law_heard) := fn_okD (g := g__law_heard) (D.h__law_heard).F sc__law_heard (hF := rfl) (h1 := rfl) (h2 := rfl) (body := fun cdv A outer s H E hr => b__law_heard D _ cdv A outer s H E hr)
def m__law_heard_0 : List D × MR := ([.int 0, .tup [.tup [.tup [.tup [.tup [.int 0], .tup [.int 0], .tup [.int 1]], .non], .tup [.tup [.tup [.int 1], .tup [.int 2], .tup [.int 2]], .non]], .tup [.tup [.str "any", .tup [.tup [.int 0, .int 0], .tup [.int 1, .int 0]]]]], .int 10], .val (.int 1024))
theorem mm__law_heard_0 : resOk (F__law_heard m__law_heard_0.1 []) m__law_heard_0.2 = true := by decide +kernel
def m__law_heard_1 : List D × MR := ([.int 0, .tup [.tup [.tup [.tup [.tup [.int 0], .tup [.int 0], .tup [.int 1]], .non], .tup [.tup [.tup [.int 1], .tup [.int 2], .tup [.int 2]], .non]], .tup [.tup [.str "any", .tup [.tup [.int 0, .int 0], .tup [.int 1, .int 0]]]]], .int 11], .lst [.str "much", .bl true])
theorem mm__law_heard_1 : resOk (F__law_heard m__law_heard_1.1 []) m__law_heard_1.2 = true := by decide +kernel
def m__law_heard_2 : List D × MR := ([.int 1, .tup [.tup [.tup [.tup [.tup [.int 0], .tup [.int 0], .tup [.int 1]], .non], .tup [.tup [.tup [.int 1], .tup [.int 2], .tup [.int 2]], .non]], .tup [.tup [.str "any", .tup [.tup [.int 0, .int 1], .tup [.int 1, .int 1]]], .tup [.str "any", .tup [.tup [.int 0, .int 2], .tup [.int 1, .int 2]]], .tup [.str "any", .tup [.tup [.int 0, .int 3], .tup [.int 1, .int 3]]], .tup [.str "any", .tup [.tup [.int 0, .int 4], .tup [.int 1, .int 4]]], .tup [.str "any", .tup [.tup [.int 0, .int 5], .tup [.int 1, .int 5]]], .tup [.str "any", .tup [.tup [.int 0, .int 6], .tup [.int 1, .int 6]]], .tup [.str "any", .tup [.tup [.int 0, .int 7], .tup [.int 1, .int 7]]], .tup [.str "any", .tup [.tup [.int 0, .int 8], .tup [.int 1, .int 8]]], .tup [.str "any", .tup [.tup [.int 0, .int 9], .tup [.int 1, .int 9]]], .tup [.str "any", .tup [.tup [.int 0, .int 0], .tup [.int 1, .int 0]]]]], .non], .val (.int 1024))
theorem mm__law_heard_2 : resOk (F__law_heard m__law_heard_2.1 []) m__law_heard_2.2 = true := by decide +kernel
def m__law_heard_3 : List D × MR := ([.int 1, .tup [.tup [.tup [.tup [.tup [.int 0], .tup [.int 0], .tup [.int 1]], .non], .tup [.tup [.tup [.int 1], .tup [.int 2], .tup [.int 2]], .non]], .tup [.tup [.str "any", .tup [.tup [.int 0, .int 1], .tup [.int 1, .int 1]]], .tup [.str "any", .tup [.tup [.int 0, .int 2], .tup [.int 1, .int 2]]], .tup [.str "any", .tup [.tup [.int 0, .int 3], .tup [.int 1, .int 3]]], .tup [.str "any", .tup [.tup [.int 0, .int 4], .tup [.int 1, .int 4]]], .tup [.str "any", .tup [.tup [.int 0, .int 5], .tup [.int 1, .int 5]]], .tup [.str "any", .tup [.tup [.int 0, .int 6], .tup [.int 1, .int 6]]], .tup [.str "any", .tup [.tup [.int 0, .int 7], .tup [.int 1, .int 7]]], .tup [.str "any", .tup [.tup [.int 0, .int 8], .tup [.int 1, .int 8]]], .tup [.str "any", .tup [.tup [.int 0, .int 9], .tup [.int 1, .int 9]]], .tup [.str "any", .tup [.tup [.int 0, .int 10], .tup [.int 1, .int 10]]], .tup [.str "any", .tup [.tup [.int 0, .int 0], .tup [.int 1, .int 0]]]]], .non], .lst [.str "much", .bl true])
theorem mm__law_heard_3 : resOk (F__law_heard m__law_heard_3.1 []) m__law_heard_3.2 = true := by decide +kernel
def m__law_heard_4 : List D × MR := ([.int 1, .tup [.tup [.tup [.tup [.tup [.int 0], .tup [.int 0], .tup [.int 1]], .non], .tup [.tup [.tup [.int 0], .tup [.int 0], .tup [.int 1]], .non], .tup [.tup [.tup [.int 0], .tup [.int 0], .tup [.int 1]], .non], .tup [.tup [.tup [.int 0], .tup [.int 0], .tup [.int 1]], .non], .tup [.tup [.tup [.int 0], .tup [.int 0], .tup [.int 1]], .non]], .tup [.tup [.str "any", .tup [.tup [.int 0, .int 1], .tup [.int 1, .int 1], .tup [.int 2, .int 1], .tup [.int 3, .int 1], .tup [.int 4, .int 1]]], .tup [.str "any", .tup [.tup [.int 0, .int 2], .tup [.int 1, .int 2], .tup [.int 2, .int 2], .tup [.int 3, .int 2], .tup [.int 4, .int 2]]], .tup [.str "any", .tup [.tup [.int 0, .int 3], .tup [.int 1, .int 3], .tup [.int 2, .int 3], .tup [.int 3, .int 3], .tup [.int 4, .int 3]]], .tup [.str "any", .tup [.tup [.int 0, .int 4], .tup [.int 1, .int 4]]], .tup [.str "any", .tup [.tup [.int 0, .int 5], .tup [.int 1, .int 5]]], .tup [.str "any", .tup [.tup [.int 0, .int 6], .tup [.int 1, .int 6]]], .tup [.str "any", .tup [.tup [.int 0, .int 0], .tup [.int 1, .int 0]]]]], .non], .val (.int 2000))
theorem mm__law_heard_4 : resOk (F__law_heard m__law_heard_4.1 []) m__law_heard_4.2 = true := by decide +kernel
def m__law_heard_5 : List D × MR := ([.int 0, .tup [.tup [.tup [.tup [.tup [.int 0], .tup [.int 0], .tup [.int 1]], .non], .tup [.tup [.tup [.int 0], .tup [.int 0], .tup [.int 1]], .non], .tup [.tup [.tup [.int 0], .tup [.int 0], .tup [.int 1]], .non], .tup [.tup [.tup [.int 0], .tup [.int 0], .tup [.int 1]], .non], .tup [.tup [.tup [.int 0], .tup [.int 0], .tup [.int 1]], .non]], .tup [.tup [.str "any", .tup [.tup [.int 0, .int 1], .tup [.int 1, .int 1], .tup [.int 2, .int 1], .tup [.int 3, .int 1], .tup [.int 4, .int 1]]], .tup [.str "any", .tup [.tup [.int 0, .int 2], .tup [.int 1, .int 2], .tup [.int 2, .int 2], .tup [.int 3, .int 2], .tup [.int 4, .int 2]]], .tup [.str "any", .tup [.tup [.int 0, .int 3], .tup [.int 1, .int 3], .tup [.int 2, .int 3], .tup [.int 3, .int 3], .tup [.int 4, .int 3]]], .tup [.str "any", .tup [.tup [.int 0, .int 4], .tup [.int 1, .int 4]]], .tup [.str "any", .tup [.tup [.int 0, .int 5], .tup [.int 1, .int 5]]], .tup [.str "any", .tup [.tup [.int 0, .int 6], .tup [.int 1, .int 6]]], .tup [.str "any", .tup [.tup [.int 0, .int 0], .tup [.int 1, .int 0]]]]], .int 7], .val (.int 2000))
theorem mm__law_heard_5 : resOk (F__law_heard m__law_heard_5.1 []) m__law_heard_5.2 = true := by decide +kernel
def m__law_heard_6 : List D × MR := ([.int 1, .tup [.tup [.tup [.tup [.tup [.int 0], .tup [.int 0], .tup [.int 1]], .non], .tup [.tup [.tup [.int 0], .tup [.int 0], .tup [.int 1]], .non], .tup [.tup [.tup [.int 0], .tup [.int 0], .tup [.int 1]], .non], .tup [.tup [.tup [.int 0], .tup [.int 0], .tup [.int 1]], .non], .tup [.tup [.tup [.int 0], .tup [.int 0], .tup [.int 1]], .non]], .tup [.tup [.str "any", .tup [.tup [.int 0, .int 1], .tup [.int 1, .int 1], .tup [.int 2, .int 1], .tup [.int 3, .int 1], .tup [.int 4, .int 1]]], .tup [.str "any", .tup [.tup [.int 0, .int 2], .tup [.int 1, .int 2], .tup [.int 2, .int 2], .tup [.int 3, .int 2], .tup [.int 4, .int 2]]], .tup [.str "any", .tup [.tup [.int 0, .int 3], .tup [.int 1, .int 3], .tup [.int 2, .int 3], .tup [.int 3, .int 3], .tup [.int 4, .int 3]]], .tup [.str "any", .tup [.tup [.int 0, .int 4], .tup [.int 1, .int 4]]], .tup [.str "any", .tup [.tup [.int 0, .int 5], .tup [.int 1, .int 5]]], .tup [.str "any", .tup [.tup [.int 0, .int 6], .tup [.int 1, .int 6]]], .tup [.str "any", .tup [.tup [.int 0, .int 0], .tup [.int 1, .int 0], .tup [.int 2, .int 0]]]]], .non], .lst [.str "much", .bl true])
theorem mm__law_heard_6 : resOk (F__law_heard m__law_heard_6.1 []) m__law_heard_6.2 = true := by decide +kernel
def m__law_heard_7 : List D × MR := ([.int 0, .tup [.tup [.tup [.tup [.tup [.int 0], .tup [.int 0], .tup [.int 1]], .non], .tup [.tup [.tup [.int 0], .tup [.int 0], .tup [.int 1]], .non], .tup [.tup [.tup [.int 0], .tup [.int 0], .tup [.int 1]], .non], .tup [.tup [.tup [.int 0], .tup [.int 0], .tup [.int 1]], .non], .tup [.tup [.tup [.int 0], .tup [.int 0], .tup [.int 1]], .non]], .tup [.tup [.str "any", .tup [.tup [.int 0, .int 1], .tup [.int 1, .int 1], .tup [.int 2, .int 1], .tup [.int 3, .int 1], .tup [.int 4, .int 1]]], .tup [.str "any", .tup [.tup [.int 0, .int 2], .tup [.int 1, .int 2], .tup [.int 2, .int 2], .tup [.int 3, .int 2], .tup [.int 4, .int 2]]], .tup [.str "any", .tup [.tup [.int 0, .int 3], .tup [.int 1, .int 3], .tup [.int 2, .int 3], .tup [.int 3, .int 3], .tup [.int 4, .int 3]]], .tup [.str "any", .tup [.tup [.int 0, .int 4], .tup [.int 1, .int 4]]], .tup [.str "any", .tup [.tup [.int 0, .int 5], .tup [.int 1, .int 5]]], .tup [.str "any", .tup [.tup [.int 0, .int 6], .tup [.int 1, .int 6]]], .tup [.str "any", .tup [.tup [.int 0, .int 0], .tup [.int 1, .int 0], .tup [.int 2, .int 0]]]]], .int 7], .lst [.str "much", .bl true])
theorem mm__law_heard_7 : resOk (F__law_heard m__law_heard_7.1 []) m__law_heard_7.2 = true := by decide +kernel
def m__law_heard_8 : List D × MR := ([.int 2, .tup [.tup [.tup [.tup [.tup [.int 0], .tup [.int 0], .tup [.int 1]], .non], .tup [.tup [.tup [.int 1], .tup [.int 2], .tup [.int 2]], .non]], .tup [.tup [.str "any", .tup [.tup [.int 0, .int 1]]], .tup [.str "any", .tup [.tup [.int 1, .int 0]]]]], .tup [.tup [.tup [.tup [.tup [.int 0], .tup [.int 0]], .non]], .tup [.tup [.str "any", .tup [.tup [.int 0, .int 0]]]]]], .lst [.str "unfit", .bl true])
theorem mm__law_heard_8 : resOk (F__law_heard m__law_heard_8.1 []) m__law_heard_8.2 = true := by decide +kernel
def m__law_heard_9 : List D × MR := ([.int 2, .tup [.tup [.tup [.tup [.tup [.int 0], .tup [.int 0]], .non]], .tup [.tup [.str "any", .tup [.tup [.int 0, .int 0]]]]], .tup [.tup [.tup [.tup [.tup [.int 0], .tup [.int 0], .tup [.int 1]], .non], .tup [.tup [.tup [.int 1], .tup [.int 2], .tup [.int 2]], .non]], .tup [.tup [.str "any", .tup [.tup [.int 0, .int 0], .tup [.int 1, .int 0]]]]]], .lst [.str "unfit", .bl true])
theorem mm__law_heard_9 : resOk (F__law_heard m__law_heard_9.1 []) m__law_heard_9.2 = true := by decide +kernel
def m__law_heard_10 : List D × MR := ([.int 3, .tup [.tup [.tup [.tup [.tup [.int 0], .tup [.int 0], .tup [.int 1]], .non], .tup [.tup [.tup [.int 1], .tup [.int 2], .tup [.int 2]], .non]], .tup [.tup [.str "any", .tup [.tup [.int 0, .int 1]]], .tup [.str "any", .tup [.tup [.int 1, .int 0]]]]], .tup [.tup [.int 0, .int 1]]], .lst [.str "not", .bl true])
theorem mm__law_heard_10 : resOk (F__law_heard m__law_heard_10.1 []) m__law_heard_10.2 = true := by decide +kernel
def m__law_heard_11 : List D × MR := ([.int 3, .tup [.tup [.tup [.tup [.tup [.int 0], .tup [.int 0], .tup [.int 1]], .non], .tup [.tup [.tup [.int 1], .tup [.int 2], .tup [.int 2]], .non]], .tup [.tup [.str "any", .tup [.tup [.int 0, .int 1], .tup [.int 1, .int 1]]], .tup [.str "ours", .tup [.tup [.int 0, .int 0], .tup [.int 1, .int 0]]]]], .tup [.tup [.int 0, .int 1], .tup [.int 1, .int 2]]], .lst [.str "not", .bl true])
theorem mm__law_heard_11 : resOk (F__law_heard m__law_heard_11.1 []) m__law_heard_11.2 = true := by decide +kernel
def m__law_heard_12 : List D × MR := ([.int 3, .tup [.tup [.tup [.tup [.tup [.int 0], .tup [.int 0], .tup [.int 1]], .non], .tup [.tup [.tup [.int 1], .tup [.int 2], .tup [.int 2]], .non]], .tup [.tup [.str "any", .tup [.tup [.int 0, .int 1]]], .tup [.str "any", .tup [.tup [.int 1, .int 0]]]]], .tup [.tup [.int 0, .int 2], .tup [.int 5, .int 1], .tup [.int (-1), .int 1]]], .lst [.str "place", .int 5])
theorem mm__law_heard_12 : resOk (F__law_heard m__law_heard_12.1 []) m__law_heard_12.2 = true := by decide +kernel
def m__law_heard_13 : List D × MR := ([.int 3, .tup [.tup [.tup [.tup [.tup [.int 0], .tup [.int 0], .tup [.int 1]], .non], .tup [.tup [.tup [.int 1], .tup [.int 2], .tup [.int 2]], .non]], .tup [.tup [.str "any", .tup [.tup [.int 0, .int 1]]], .tup [.str "any", .tup [.tup [.int 1, .int 0]]]]], .tup [.tup [.int (-1), .int 6], .tup [.int 2, .int 1]]], .lst [.str "place", .int (-1)])
theorem mm__law_heard_13 : resOk (F__law_heard m__law_heard_13.1 []) m__law_heard_13.2 = true := by decide +kernel
def m__law_heard_14 : List D × MR := ([.int 3, .tup [.tup [.tup [.tup [.tup [.int 0], .tup [.int 0], .tup [.int 1]], .non], .tup [.tup [.tup [.int 1], .tup [.int 2], .tup [.int 2]], .non]], .tup [.tup [.str "any", .tup [.tup [.int 0, .int 1]]], .tup [.str "any", .tup [.tup [.int 1, .int 0]]]]], .tup [.tup [.int 2, .int 1], .tup [.int 0, .int 1]]], .lst [.str "place", .int 2])
theorem mm__law_heard_14 : resOk (F__law_heard m__law_heard_14.1 []) m__law_heard_14.2 = true := by decide +kernel
def m__law_heard_15 : List D × MR := ([.int 3, .tup [.tup [.tup [.tup [.tup [.int 1], .tup [.int 2], .tup [.int 2]], .non], .tup [.tup [.tup [.int 0], .tup [.int 0], .tup [.int 1]], .non], .tup [.tup [.tup [.int 0], .tup [.int 0], .tup [.int 1]], .non], .tup [.tup [.tup [.int 1], .tup [.int 2], .tup [.int 2]], .non]], .tup [.tup [.str "any", .tup [.tup [.int 0, .int 1]]], .tup [.str "any", .tup [.tup [.int 1, .int 2]]], .tup [.str "any", .tup [.tup [.int 2, .int 3]]], .tup [.str "any", .tup [.tup [.int 3, .int 0]]]]], .tup [.tup [.int 1, .int 2]]], .lst [.str "not", .bl true])
theorem mm__law_heard_15 : resOk (F__law_heard m__law_heard_15.1 []) m__law_heard_15.2 = true := by decide +kernel
def m__law_heard_16 : List D × MR := ([.int 3, .tup [.tup [.tup [.tup [.tup [.int 1], .tup [.int 2], .tup [.int 2]], .non], .tup [.tup [.tup [.int 0], .tup [.int 0], .tup [.int 1]], .non], .tup [.tup [.tup [.int 0], .tup [.int 0], .tup [.int 1]], .non], .tup [.tup [.tup [.int 1], .tup [.int 2], .tup [.int 2]], .non]], .tup [.tup [.str "any", .tup [.tup [.int 0, .int 1]]], .tup [.str "any", .tup [.tup [.int 1, .int 2]]], .tup [.str "any", .tup [.tup [.int 2, .int 3]]], .tup [.str "any", .tup [.tup [.int 3, .int 0]]]]], .tup [.tup [.int 0, .int 3]]], .lst [.str "not", .bl true])
theorem mm__law_heard_16 : resOk (F__law_heard m__law_heard_16.1 []) m__law_heard_16.2 = true := by decide +kernel
def tab__law_heard : List (List D × MR) := [m__law_heard_0, m__law_heard_1, m__law_heard_2, m__law_heard_3, m__law_heard_4, m__law_heard_5, m__law_heard_6, m__law_heard_7, m__law_heard_8, m__law_heard_9, m__law_heard_10, m__law_heard_11, m__law_heard_12, m__law_heard_13, m__law_heard_14, m__law_heard_15, m__law_heard_16]
theorem mt__law_heard : ∀ e ∈ tab__law_heard, resOk (F__law_heard e.1 []) e.2 = true := List.forall_mem_cons.mpr ⟨mm__law_heard_0, List.forall_mem_cons.mpr ⟨mm__law_heard_1, List.forall_mem_cons.mpr ⟨mm__law_heard_2, List.forall_mem_cons.mpr ⟨mm__law_heard_3, List.forall_mem_cons.mpr ⟨mm__law_heard_4, List.forall_mem_cons.mpr ⟨mm__law_heard_5, List.forall_mem_cons.mpr ⟨mm__law_heard_6, List.forall_mem_cons.mpr ⟨mm__law_heard_7, List.forall_mem_cons.mpr ⟨mm__law_heard_8, List.forall_mem_cons.mpr ⟨mm__law_heard_9, List.forall_mem_cons.mpr ⟨mm__law_heard_10, List.forall_mem_cons.mpr ⟨mm__law_heard_11, List.forall_mem_cons.mpr ⟨mm__law_heard_12, List.forall_mem_cons.mpr ⟨mm__law_heard_13, List.forall_mem_cons.mpr ⟨mm__law_heard_14, List.forall_mem_cons.mpr ⟨mm__law_heard_15, List.forall_mem_cons.mpr ⟨mm__law_heard_16, fun _ z => by cases z⟩⟩⟩⟩⟩⟩⟩⟩⟩⟩⟩⟩⟩⟩⟩⟩⟩
def M__law_heard : DF := memoF tab__law_heard F__law_heard
theorem mo__law_heard (D : Defs K mg) : FnOk P w K mg base (L2.CX P w) 12 (D.h__law_heard).f (D.h__law_heard).fd ["door_so", "machine_so", "more_so"] (spNc ⟨K, w, mg⟩ (tx D) M__law_heard) := ok_memo (ok__law_heard D) mt__law_heard
/-! ### _law_made_right -/
theorem sc__law_made_right : FnScope ["s_so", "t_so", "free_so", "turn_so", "got", "due", "own", "lone_so", "k", "seven_so", "long_so", "nine_so", "told_so", "last_so", "wide_so", "odd_so"] [] (defScope s__law_made_right) := ⟨rfl, rfl, rfl, by decide +kernel, rfl, by decide +kernel, by decide +kernel⟩
def g__law_made_right : DS := (gSeq (gAsg (dFn F__law_two dNil) (gTupD 2 (gsCons (gN 0) (gsCons (gN 1) gsNil))))
  (gSeq (gAsg (dTup (dCons (dFn F_one_choice (dCons (dC (.str "any")) (dCons (dTup (dCons (dVar 0) (dCons (dVar 1) dNil))) dNil))) (dCons (dFn F_one_round (dCons (dTup (dCons (dVar 0) (dCons (dVar 1) dNil))) dNil)) dNil))) (gTupD 2 (gsCons (gN 2) (gsCons (gN 3) gsNil))))
  (gSeq (gAsg (dLst (dCons (dVar 2) (dCons (dVar 3) (dCons (dFnK F_one_choice [1, 0] 2 (dCons (dLst (dCons (dVar 0) dNil)) (dCons (dC (.str "ours")) dNil))) (dCons (dFnK F_one_round [0] 1 (dCons (dLst (dCons (dCall oList (dCons (dVar 1) dNil)) dNil)) dNil)) (dCons (dFn F_one_choice (dCons (dC (.str "ours")) (dCons (dTup (dCons (dVar 0) (dCons (dVar 0) dNil))) dNil))) dNil)))))) (gN 4))
  (gSeq (gAsg (dLst (dCons (dTup (dCons (dTup (dCons (dVar 0) (dCons (dVar 1) dNil))) (dCons (dTup (dCons (dTup (dCons (dC (.str "any")) (dCons (dTup (dCons (dTup (dCons (dC (.int 0)) (dCons (dC (.int 0)) dNil))) (dCons (dTup (dCons (dC (.int 1)) (dCons (dC (.int 0)) dNil))) dNil))) dNil))) dNil)) dNil))) (dCons (dTup (dCons (dTup (dCons (dVar 0) (dCons (dVar 1) dNil))) (dCons (dTup (dCons (dTup (dCons (dC (.str "any")) (dCons (dTup (dCons (dTup (dCons (dC (.int 0)) (dCons (dC (.int 1)) dNil))) dNil)) dNil))) (dCons (dTup (dCons (dC (.str "any")) (dCons (dTup (dCons (dTup (dCons (dC (.int 1)) (dCons (dC (.int 0)) dNil))) dNil)) dNil))) dNil))) dNil))) (dCons (dTup (dCons (dTup (dCons (dVar 0) dNil)) (dCons (dTup (dCons (dTup (dCons (dC (.str "ours")) (dCons (dTup (dCons (dTup (dCons (dC (.int 0)) (dCons (dC (.int 0)) dNil))) dNil)) dNil))) dNil)) dNil))) dNil)))) (gN 5))
  (gSeq (gAsg (dOp dAdd (dVar 5) (dLst (dCons (dTup (dCons (dTup (dCons (dVar 1) dNil)) (dCons (dTup (dCons (dTup (dCons (dC (.str "any")) (dCons (dTup (dCons (dTup (dCons (dC (.int 0)) (dCons (dC (.int 0)) dNil))) dNil)) dNil))) dNil)) dNil))) (dCons (dTup (dCons (dTup (dCons (dVar 0) (dCons (dVar 0) dNil))) (dCons (dTup (dCons (dTup (dCons (dC (.str "ours")) (dCons (dTup (dCons (dTup (dCons (dC (.int 0)) (dCons (dC (.int 0)) dNil))) (dCons (dTup (dCons (dC (.int 1)) (dCons (dC (.int 0)) dNil))) dNil))) dNil))) dNil)) dNil))) dNil)))) (gN 5))
  (gSeq (gAsg (dOp dAdd (dVar 4) (dLst (dCons (dLc (iSeq (dFn F__law_bad dNil)) (gN 6) dYes (dFn F_is_machine (dCons (dVar 6) (dCons (dC (.int 3)) dNil))) [6] 10000) (dCons (dLc (iSeq (dTup (dCons (dVar 2) (dCons (dVar 3) (dCons (dFn F__law_chain (dCons (dC (.int 4)) dNil)) dNil))))) (gN 6) dYes (dFn F_is_machine (dCons (dVar 6) (dCons (dC (.int 3)) dNil))) [6] 10000) dNil)))) (gN 4))
  (gSeq (gAsg (dOp dAdd (dVar 5) (dLst (dCons (dOp dMul2 (dLst (dCons (dC (.bl false)) dNil)) (dCall oLen (dCons (dFn F__law_bad dNil) dNil))) (dCons (dOp dMul2 (dLst (dCons (dC (.bl true)) dNil)) (dC (.int 3))) dNil)))) (gN 5))
  (gSeq (gAsg (dTup (dCons (dTup (dCons (dTup (dCons (dTup (dCons (dTup (dCons (dC (.int 0)) dNil)) dNil)) (dCons (dC .non) dNil))) dNil)) (dCons (dTup (dCons (dTup (dCons (dC (.str "ours")) (dCons (dTup (dCons (dTup (dCons (dC (.int 0)) (dCons (dC (.int 0)) dNil))) dNil)) dNil))) dNil)) dNil))) (gN 7))
  (gSeq (gAsg (dOp dAdd (dVar 4) (dLst (dCons (dFnK F_is_machine [1, 0] 2 (dCons (dC (.int 2)) (dCons (dVar 2) dNil))) (dCons (dFn F_is_machine (dCons (dVar 7) (dCons (dC (.int 1)) dNil))) (dCons (dFnK F_places_of [0] 1 (dCons (dVar 2) dNil)) (dCons (dFnK F_is_row [2, 1, 0] 3 (dCons (dTup (dCons (dC (.int 0)) (dCons (dC (.int 0)) dNil))) (dCons (dC (.int 0)) (dCons (dVar 3) dNil)))) dNil)))))) (gN 4))
  (gSeq (gAsg (dOp dAdd (dVar 5) (dLst (dCons (dC (.bl false)) (dCons (dC (.bl true)) (dCons (dC (.int 3)) (dCons (dC (.bl true)) dNil)))))) (gN 5))
  (gSeq (gAsg (dOp dAdd (dVar 4) (dLst (dCons (dFn F_choices (dCons (dVar 2) (dCons (dC (.str "any")) dNil))) (dCons (dFn F_choices (dCons (dVar 2) (dCons (dC (.str "ours")) dNil))) (dCons (dFn F_choices (dCons (dVar 3) (dCons (dC (.str "any")) dNil))) (dCons (dFnK F_choices [1, 0] 2 (dCons (dC (.str "ours")) (dCons (dCall oList (dCons (dOp dIxA (dVar 5) (dC (.int 4))) dNil)) dNil))) (dCons (dFn F_choices (dCons (dOp dIxA (dVar 5) (dC (.int 2))) (dCons (dC (.str "ours")) dNil))) dNil))))))) (gN 4))
  (gSeq (gAsg (dOp dAdd (dVar 5) (dLst (dCons (dTup (dCons (dC (.int 0)) dNil)) (dCons (dTup dNil) (dCons (dTup dNil) (dCons (dTup (dCons (dC (.int 0)) dNil)) (dCons (dTup dNil) dNil))))))) (gN 5))
  (gSeq (gAsg (dOp dAdd (dVar 4) (dLst (dCons (dFn F_rounds (dCons (dVar 2) dNil)) (dCons (dFn F_rounds (dCons (dVar 3) dNil)) (dCons (dFn F_round_lengths (dCons (dVar 3) dNil)) (dCons (dFn F_rows_of (dCons (dVar 2) (dCons (dC (.int 0)) (dCons (dC (.int 2)) dNil)))) (dCons (dFn F_rows_of (dCons (dVar 3) (dCons (dC (.int 1)) (dCons (dC (.int 0)) dNil)))) (dCons (dFnK F_rows_of [2, 1, 0] 3 (dCons (dC (.int 3)) (dCons (dC (.int 1)) (dCons (dVar 3) dNil)))) dNil)))))))) (gN 4))
  (gSeq (gAsg (dOp dAdd (dVar 5) (dLst (dCons (dLst (dCons (dTup (dCons (dC (.int 0)) dNil)) (dCons (dTup (dCons (dC (.int 1)) dNil)) dNil))) (dCons (dLst (dCons (dTup (dCons (dC (.int 0)) (dCons (dC (.int 0)) dNil))) dNil)) (dCons (dTup (dCons (dC (.int 2)) (dCons (dC (.int 2)) dNil))) (dCons (dLst (dCons (dTup (dCons (dC (.int 0)) (dCons (dC (.int 0)) dNil))) (dCons (dTup (dCons (dC (.int 0)) (dCons (dC (.int 1)) dNil))) (dCons (dTup (dCons (dC (.int 1)) (dCons (dC (.int 0)) dNil))) (dCons (dTup (dCons (dC (.int 1)) (dCons (dC (.int 1)) dNil))) dNil))))) (dCons (dLst (dCons (dTup dNil) dNil)) (dCons (dLst (dCons (dTup (dCons (dC (.int 0)) (dCons (dC (.int 0)) (dCons (dC (.int 0)) dNil)))) dNil)) dNil)))))))) (gN 5))
  (gSeq (gAsg (dOp dAdd (dVar 4) (dLst (dCons (dFn F_row_end (dCons (dVar 3) (dCons (dC (.int 0)) (dCons (dTup (dCons (dC (.int 0)) (dCons (dC (.int 0)) (dCons (dC (.int 0)) dNil)))) dNil)))) (dCons (dFn F_row_end (dCons (dVar 3) (dCons (dC (.int 1)) (dCons (dTup dNil) dNil)))) (dCons (dFnK F_row_end [2, 1, 0] 3 (dCons (dLst (dCons (dC (.int 0)) dNil)) (dCons (dC (.int 1)) (dCons (dVar 3) dNil)))) (dCons (dFn F_is_row (dCons (dVar 3) (dCons (dC (.int 0)) (dCons (dTup dNil) dNil)))) (dCons (dFn F_is_row (dCons (dVar 3) (dCons (dC (.int 0)) (dCons (dTup (dCons (dC (.int 0)) (dCons (dC (.int 0)) dNil))) dNil)))) dNil))))))) (gN 4))
  (gSeq (gAsg (dOp dAdd (dVar 5) (dLst (dCons (dC (.int 1)) (dCons (dC (.int 1)) (dCons (dC (.int 0)) (dCons (dC (.bl true)) (dCons (dC (.bl true)) dNil))))))) (gN 5))
  (gSeq (gAsg (dOp dAdd (dOp dAdd (dVar 4) (dLc (iSeq (dTup (dCons (dTup (dCons (dC (.int 1)) (dCons (dC (.int 0)) dNil))) (dCons (dTup (dCons (dC (.int 2)) dNil)) (dCons (dTup (dCons (dNeg (dC (.int 1))) dNil)) (dCons (dLst (dCons (dC (.int 0)) dNil)) (dCons (dTup (dCons (dC (.bl true)) dNil)) (dCons (dC .non) (dCons (dC (.int 0)) (dCons (dTup (dCons (dTup (dCons (dC (.int 0)) dNil)) dNil)) (dCons (dTup (dCons (dC (.int 0)) (dCons (dC (.int 0)) (dCons (dC (.int 2)) dNil)))) dNil))))))))))) (gN 6) dYes (dFn F_is_row (dCons (dVar 2) (dCons (dC (.int 0)) (dCons (dVar 6) dNil)))) [6] 10000)) (dLst (dCons (dFn F_is_row (dCons (dVar 3) (dCons (dC (.int 1)) (dCons (dTup (dCons (dC (.int 1)) dNil)) dNil)))) dNil))) (gN 4))
  (gSeq (gAsg (dOp dAdd (dOp dAdd (dVar 5) (dLst (dCons (dC (.bl true)) dNil))) (dOp dMul2 (dLst (dCons (dC (.bl false)) dNil)) (dC (.int 9)))) (gN 5))
  (gSeq (gAsg (dOp dAdd (dVar 4) (dLst (dCons (dFn M__law_heard (dCons (dC (.int 0)) (dCons (dVar 2) (dCons (dC (.int 10)) dNil)))) (dCons (dFn M__law_heard (dCons (dC (.int 0)) (dCons (dVar 2) (dCons (dC (.int 11)) dNil)))) (dCons (dFn M__law_heard (dCons (dC (.int 1)) (dCons (dFn F__law_chain (dCons (dC (.int 10)) dNil)) (dCons (dC .non) dNil)))) (dCons (dFn M__law_heard (dCons (dC (.int 1)) (dCons (dFn F__law_chain (dCons (dC (.int 11)) dNil)) (dCons (dC .non) dNil)))) (dCons (dFn F_round_lengths (dCons (dFn F__law_chain (dCons (dC (.int 11)) dNil)) dNil)) dNil))))))) (gN 4))
  (gSeq (gAsg (dOp dAdd (dVar 5) (dLst (dCons (dC (.int 1024)) (dCons (dLst (dCons (dC (.str "much")) (dCons (dC (.bl true)) dNil))) (dCons (dC (.int 1024)) (dCons (dLst (dCons (dC (.str "much")) (dCons (dC (.bl true)) dNil))) (dCons (dTup (dCons (dC (.int 11)) (dCons (dC (.int 11)) dNil))) dNil))))))) (gN 5))
  (gSeq (gAsg (dTup (dCons (dTup (dCons (dCall oTuple (dCons (dLc (iR1 (dCons (dC (.int 7)) dNil)) (gN 8) dYes (dTup (dCons (dVar 8) dNil)) [8] 10000) dNil)) (dCons (dC .non) dNil))) dNil)) (gN 9))
  (gSeq (gAsg (dTup (dCons (dTup (dCons (dVar 0) dNil)) (dCons (dCall oTuple (dCons (dLc (iR1 (dCons (dC (.int 61)) dNil)) (gN 8) dYes (dTup (dCons (dC (.str "any")) (dCons (dTup (dCons (dTup (dCons (dC (.int 0)) (dCons (dOp (dIntOp (fun _ j => posI j) fun i j => i % j) (dOp dAdd (dVar 8) (dC (.int 1))) (dC (.int 61))) dNil))) dNil)) dNil))) [8] 10000) dNil)) dNil))) (gN 10))
  (gSeq (gAsg (dTup (dCons (dOp dMul2 (dTup (dCons (dVar 0) dNil)) (dC (.int 9))) (dCons (dTup (dCons (dTup (dCons (dC (.str "ours")) (dCons (dCall oTuple (dCons (dLc (iR1 (dCons (dC (.int 9)) dNil)) (gN 8) dYes (dTup (dCons (dVar 8) (dCons (dC (.int 0)) dNil))) [8] 10000) dNil)) dNil))) dNil)) dNil))) (gN 11))
  (gSeq (gAsg (dOp dAdd (dVar 4) (dLst (dCons (dFn F_is_machine (dCons (dVar 10) (dCons (dC (.int 3)) dNil))) (dCons (dFn F_is_machine (dCons (dVar 11) (dCons (dC (.int 3)) dNil))) (dCons (dFn F_is_machine (dCons (dTup (dCons (dVar 9) (dCons (dTup (dCons (dTup (dCons (dC (.str "any")) (dCons (dTup (dCons (dTup (dCons (dC (.int 0)) (dCons (dC (.int 0)) dNil))) dNil)) dNil))) dNil)) dNil))) (dCons (dC (.int 7)) dNil))) dNil))))) (gN 4))
  (gSeq (gAsg (dOp dAdd (dVar 5) (dLst (dCons (dC (.bl true)) (dCons (dC (.bl true)) (dCons (dC (.bl true)) dNil))))) (gN 5))
  (gSeq (gForI (iSeq (dTup (dCons (dFn F_rounds (dCons (dVar 2) dNil)) (dCons (dFn F_rows_of (dCons (dVar 2) (dCons (dC (.int 0)) (dCons (dC (.int 1)) dNil)))) dNil)))) (gN 12) (gSeq (gExpr (dMeth oAppend (dVar 12) (dCons (dTup dNil) dNil)))
  (gExpr (dMeth0 oReverse (dVar 12)))) 10000)
  (gSeq (gAsg (dOp dAdd (dVar 4) (dLst (dCons (dFn F_rounds (dCons (dVar 2) dNil)) (dCons (dFn F_rows_of (dCons (dVar 2) (dCons (dC (.int 0)) (dCons (dC (.int 1)) dNil)))) dNil)))) (gN 4))
  (gSeq (gAsg (dOp dAdd (dVar 5) (dLst (dCons (dLst (dCons (dTup (dCons (dC (.int 0)) dNil)) (dCons (dTup (dCons (dC (.int 1)) dNil)) dNil))) (dCons (dLst (dCons (dTup (dCons (dC (.int 0)) dNil)) (dCons (dTup (dCons (dC (.int 1)) dNil)) dNil))) dNil)))) (gN 5))
  (gSeq (gForI (iSeq (dTup (dCons (dC (.int 2)) (dCons (dC (.int 3)) dNil)))) (gN 13) (gSeq (gAsg (dFn F__law_wide (dCons (dTup (dCons (dC (.int 5)) (dCons (dC (.int 5)) (dCons (dC (.int 5)) (dCons (dC (.int 2)) (dCons (dC (.int 2)) (dCons (dC (.int 2)) (dCons (dVar 13) dNil)))))))) dNil)) (gN 14))
  (gAsg (dOp dAdd (dVar 4) (dLst (dCons (dFn M__law_heard (dCons (dC (.int 1)) (dCons (dVar 14) (dCons (dC .non) dNil)))) (dCons (dFn M__law_heard (dCons (dC (.int 0)) (dCons (dVar 14) (dCons (dC (.int 7)) dNil)))) dNil)))) (gN 4))) 10000)
  (gSeq (gAsg (dOp dAdd (dVar 5) (dLst (dCons (dC (.int 2000)) (dCons (dC (.int 2000)) (dCons (dLst (dCons (dC (.str "much")) (dCons (dC (.bl true)) dNil))) (dCons (dLst (dCons (dC (.str "much")) (dCons (dC (.bl true)) dNil))) dNil)))))) (gN 5))
  (gSeq (gAsg (dTup (dCons (dTup (dCons (dVar 0) dNil)) (dCons (dTup (dCons (dTup (dCons (dC (.str "any")) (dCons (dTup (dCons (dTup (dCons (dC (.int 0)) (dCons (dC (.int 1)) dNil))) (dCons (dTup (dCons (dC (.int 0)) (dCons (dC (.int 2)) dNil))) (dCons (dTup (dCons (dC (.int 0)) (dCons (dC (.int 0)) dNil))) dNil)))) dNil))) (dCons (dTup (dCons (dC (.str "any")) (dCons (dTup (dCons (dTup (dCons (dC (.int 0)) (dCons (dC (.int 2)) dNil))) dNil)) dNil))) (dCons (dTup (dCons (dC (.str "any")) (dCons (dTup (dCons (dTup (dCons (dC (.int 0)) (dCons (dC (.int 0)) dNil))) dNil)) dNil))) dNil)))) dNil))) (gN 15))
  (gRet (dFn (F__law_same RL) (dCons (dOp dAdd (dVar 4) (dLst (dCons (dFn F_rounds (dCons (dVar 15) dNil)) (dCons (dFnK F_round_lengths [0] 1 (dCons (dVar 15) dNil)) dNil)))) (dCons (dOp dAdd (dVar 5) (dLst (dCons (dLst (dCons (dTup (dCons (dC (.int 0)) (dCons (dC (.int 0)) (dCons (dC (.int 0)) dNil)))) (dCons (dTup (dCons (dC (.int 1)) (dCons (dC (.int 0)) dNil))) (dCons (dTup (dCons (dC (.int 2)) dNil)) dNil)))) (dCons (dTup (dCons (dC (.int 1)) (dCons (dC (.int 3)) dNil))) dNil)))) dNil)))))))))))))))))))))))))))))))))))
def F__law_made_right : DF := runF g__law_made_right 0 16
theorem b__law_made_right (D : Defs K mg) (f : Addr) (cdv : Value) (A : Around) (outer : List Env) (s : Shared) (H : Hp) (E : XK) (hr : Room 12 (A.deeper (envOfC "_law_made_right" (defScope s__law_made_right) s.heap.objs.size f cdv))) :
    SSs (cxOf (L2.CX P w) P w K mg base ["s_so", "t_so", "free_so", "turn_so", "got", "due", "own", "lone_so", "k", "seven_so", "long_so", "nine_so", "told_so", "last_so", "wide_so", "odd_so"] "_law_made_right" (defScope s__law_made_right) f cdv A outer s H E) (tx D) (wOf E) (defBody s__law_made_right) g__law_made_right :=
  (ss_cons (s_asg (se_call0 (ok__law_two (base := base) D) (rm hr) (by rfl) (D.h__law_two).gl (D.h__law_two).F.kp (D.h__law_two).bi (takes_of rfl rfl rfl rfl)) (sg_tup rfl (sgs_cons (sg_name sc__law_made_right.nd (by rfl) (by first | exact Or.inl rfl | exact Or.inr rfl)) (sgs_cons (sg_name sc__law_made_right.nd (by rfl) (by first | exact Or.inl rfl | exact Or.inr rfl)) sgs_nil))))
      (ss_cons (s_asg (se_tup (sa_cons (se_call (ok_one_choice (base := base) D) (rm hr) (by rfl) (D.h_one_choice).gl (D.h_one_choice).F.kp (D.h_one_choice).bi (takes_of rfl rfl rfl rfl) (sa_cons se_str (sa_cons (se_tup (sa_cons (sv 0) (sa_cons (sv 1) sa_nil))) sa_nil))) (sa_cons (se_call (ok_one_round (base := base) D) (rm hr) (by rfl) (D.h_one_round).gl (D.h_one_round).F.kp (D.h_one_round).bi (takes_of rfl rfl rfl rfl) (sa_cons (se_tup (sa_cons (sv 0) (sa_cons (sv 1) sa_nil))) sa_nil)) sa_nil))) (sg_tup rfl (sgs_cons (sg_name sc__law_made_right.nd (by rfl) (by first | exact Or.inl rfl | exact Or.inr rfl)) (sgs_cons (sg_name sc__law_made_right.nd (by rfl) (by first | exact Or.inl rfl | exact Or.inr rfl)) sgs_nil))))
      (ss_cons (s_set sc__law_made_right.nd (by rfl) (by first | exact Or.inl rfl | exact Or.inr rfl) (se_lst (sa_cons (sv 2) (sa_cons (sv 3) (sa_cons (se_callK (ks := ["steps", "owner"]) [1, 0] (ok_one_choice (base := base) D) (rm hr) (by rfl) (D.h_one_choice).gl (D.h_one_choice).F.kp (fun s ws _ hl => match ws, hl with | [u0, u1], _ => bindsTo (D.h_one_choice).F (fun _ _ _ _ _ _ => rfl)) (takes_of rfl rfl rfl rfl) (sk_cons (se_lst (sa_cons (sv 0) sa_nil)) (sk_cons se_str sk_nil))) (sa_cons (se_callK (ks := ["steps"]) [0] (ok_one_round (base := base) D) (rm hr) (by rfl) (D.h_one_round).gl (D.h_one_round).F.kp (fun s ws _ hl => match ws, hl with | [u0], _ => bindsTo (D.h_one_round).F (fun _ _ _ _ _ _ => rfl)) (takes_of rfl rfl rfl rfl) (sk_cons (se_lst (sa_cons (se_list D.m_list (sv 1)) sa_nil)) sk_nil)) (sa_cons (se_call (ok_one_choice (base := base) D) (rm hr) (by rfl) (D.h_one_choice).gl (D.h_one_choice).F.kp (D.h_one_choice).bi (takes_of rfl rfl rfl rfl) (sa_cons se_str (sa_cons (se_tup (sa_cons (sv 0) (sa_cons (sv 0) sa_nil))) sa_nil))) sa_nil)))))))
      (ss_cons (s_set sc__law_made_right.nd (by rfl) (by first | exact Or.inl rfl | exact Or.inr rfl) (se_lst (sa_cons (se_tup (sa_cons (se_tup (sa_cons (sv 0) (sa_cons (sv 1) sa_nil))) (sa_cons (se_tup (sa_cons (se_tup (sa_cons se_str (sa_cons (se_tup (sa_cons (se_tup (sa_cons se_int (sa_cons se_int sa_nil))) (sa_cons (se_tup (sa_cons se_int (sa_cons se_int sa_nil))) sa_nil))) sa_nil))) sa_nil)) sa_nil))) (sa_cons (se_tup (sa_cons (se_tup (sa_cons (sv 0) (sa_cons (sv 1) sa_nil))) (sa_cons (se_tup (sa_cons (se_tup (sa_cons se_str (sa_cons (se_tup (sa_cons (se_tup (sa_cons se_int (sa_cons se_int sa_nil))) sa_nil)) sa_nil))) (sa_cons (se_tup (sa_cons se_str (sa_cons (se_tup (sa_cons (se_tup (sa_cons se_int (sa_cons se_int sa_nil))) sa_nil)) sa_nil))) sa_nil))) sa_nil))) (sa_cons (se_tup (sa_cons (se_tup (sa_cons (sv 0) sa_nil)) (sa_cons (se_tup (sa_cons (se_tup (sa_cons se_str (sa_cons (se_tup (sa_cons (se_tup (sa_cons se_int (sa_cons se_int sa_nil))) sa_nil)) sa_nil))) sa_nil)) sa_nil))) sa_nil)))))
      (ss_cons (s_set sc__law_made_right.nd (by rfl) (by first | exact Or.inl rfl | exact Or.inr rfl) (se_add (sv 5) (se_lst (sa_cons (se_tup (sa_cons (se_tup (sa_cons (sv 1) sa_nil)) (sa_cons (se_tup (sa_cons (se_tup (sa_cons se_str (sa_cons (se_tup (sa_cons (se_tup (sa_cons se_int (sa_cons se_int sa_nil))) sa_nil)) sa_nil))) sa_nil)) sa_nil))) (sa_cons (se_tup (sa_cons (se_tup (sa_cons (sv 0) (sa_cons (sv 0) sa_nil))) (sa_cons (se_tup (sa_cons (se_tup (sa_cons se_str (sa_cons (se_tup (sa_cons (se_tup (sa_cons se_int (sa_cons se_int sa_nil))) (sa_cons (se_tup (sa_cons se_int (sa_cons se_int sa_nil))) sa_nil))) sa_nil))) sa_nil)) sa_nil))) sa_nil)))))
      (ss_cons (s_set sc__law_made_right.nd (by rfl) (by first | exact Or.inl rfl | exact Or.inr rfl) (se_add (sv 4) (se_lst (sa_cons (se_lc (own := [("own", 6)]) 10000 rfl sc__law_made_right.nd (si_seq (se_call0 (ok__law_bad (base := base) D) (rm hr) (by rfl) (D.h__law_bad).gl (D.h__law_bad).F.kp (D.h__law_bad).bi (takes_of rfl rfl rfl rfl))) (blk_of (by kernel_rfl)) (by decide) (fun _ _ _ _ _ => (sg_name sc__law_made_right.nd (by rfl) (by first | exact Or.inl rfl | exact Or.inr rfl))) (fun _ _ _ _ _ => sts_nil) (fun _ _ _ _ _ => (se_call (ok_is_machine (base := base) D) (rm hr) (by rfl) (D.h_is_machine).gl (D.h_is_machine).F.kp (D.h_is_machine).bi takes0 (sa_cons (sv 6) (sa_cons se_int sa_nil))))) (sa_cons (se_lc (own := [("own", 6)]) 10000 rfl sc__law_made_right.nd (si_seq (se_tup (sa_cons (sv 2) (sa_cons (sv 3) (sa_cons (se_call (ok__law_chain (base := base) D) (rm hr) (by rfl) (D.h__law_chain).gl (D.h__law_chain).F.kp (D.h__law_chain).bi (takes_of rfl rfl rfl rfl) (sa_cons se_int sa_nil)) sa_nil))))) (blk_of (by kernel_rfl)) (by decide) (fun _ _ _ _ _ => (sg_name sc__law_made_right.nd (by rfl) (by first | exact Or.inl rfl | exact Or.inr rfl))) (fun _ _ _ _ _ => sts_nil) (fun _ _ _ _ _ => (se_call (ok_is_machine (base := base) D) (rm hr) (by rfl) (D.h_is_machine).gl (D.h_is_machine).F.kp (D.h_is_machine).bi takes0 (sa_cons (sv 6) (sa_cons se_int sa_nil))))) sa_nil)))))
      (ss_cons (s_set sc__law_made_right.nd (by rfl) (by first | exact Or.inl rfl | exact Or.inr rfl) (se_add (sv 5) (se_lst (sa_cons (se_mul2 (se_lst (sa_cons se_bl sa_nil)) (se_len D.m_len (se_call0 (ok__law_bad (base := base) D) (rm hr) (by rfl) (D.h__law_bad).gl (D.h__law_bad).F.kp (D.h__law_bad).bi (takes_of rfl rfl rfl rfl)))) (sa_cons (se_mul2 (se_lst (sa_cons se_bl sa_nil)) se_int) sa_nil)))))
      (ss_cons (s_set sc__law_made_right.nd (by rfl) (by first | exact Or.inl rfl | exact Or.inr rfl) (se_tup (sa_cons (se_tup (sa_cons (se_tup (sa_cons (se_tup (sa_cons (se_tup (sa_cons se_int sa_nil)) sa_nil)) (sa_cons se_non sa_nil))) sa_nil)) (sa_cons (se_tup (sa_cons (se_tup (sa_cons se_str (sa_cons (se_tup (sa_cons (se_tup (sa_cons se_int (sa_cons se_int sa_nil))) sa_nil)) sa_nil))) sa_nil)) sa_nil))))
      (ss_cons (s_set sc__law_made_right.nd (by rfl) (by first | exact Or.inl rfl | exact Or.inr rfl) (se_add (sv 4) (se_lst (sa_cons (se_callK (ks := ["n", "thing"]) [1, 0] (ok_is_machine (base := base) D) (rm hr) (by rfl) (D.h_is_machine).gl (D.h_is_machine).F.kp (fun s ws _ hl => match ws, hl with | [u0, u1], _ => bindsTo (D.h_is_machine).F (fun _ _ _ _ _ _ => rfl)) (takes_of rfl rfl rfl rfl) (sk_cons se_int (sk_cons (sv 2) sk_nil))) (sa_cons (se_call (ok_is_machine (base := base) D) (rm hr) (by rfl) (D.h_is_machine).gl (D.h_is_machine).F.kp (D.h_is_machine).bi (takes_of rfl rfl rfl rfl) (sa_cons (sv 7) (sa_cons se_int sa_nil))) (sa_cons (se_callK (ks := ["machine"]) [0] (ok_places_of (base := base) D) (rm hr) (by rfl) (D.h_places_of).gl (D.h_places_of).F.kp (fun s ws _ hl => match ws, hl with | [u0], _ => bindsTo (D.h_places_of).F (fun _ _ _ _ _ _ => rfl)) (takes_of rfl rfl rfl rfl) (sk_cons (sv 2) sk_nil)) (sa_cons (se_callK (ks := ["thing", "stand", "machine"]) [2, 1, 0] (ok_is_row (base := base) D) (rm hr) (by rfl) (D.h_is_row).gl (D.h_is_row).F.kp (fun s ws _ hl => match ws, hl with | [u0, u1, u2], _ => bindsTo (D.h_is_row).F (fun _ _ _ _ _ _ => rfl)) (takes_of rfl rfl rfl rfl) (sk_cons (se_tup (sa_cons se_int (sa_cons se_int sa_nil))) (sk_cons se_int (sk_cons (sv 3) sk_nil)))) sa_nil)))))))
      (ss_cons (s_set sc__law_made_right.nd (by rfl) (by first | exact Or.inl rfl | exact Or.inr rfl) (se_add (sv 5) (se_lst (sa_cons se_bl (sa_cons se_bl (sa_cons se_int (sa_cons se_bl sa_nil)))))))
      (ss_cons (s_set sc__law_made_right.nd (by rfl) (by first | exact Or.inl rfl | exact Or.inr rfl) (se_add (sv 4) (se_lst (sa_cons (se_call (ok_choices (base := base) D) (rm hr) (by rfl) (D.h_choices).gl (D.h_choices).F.kp (D.h_choices).bi (takes_of rfl rfl rfl rfl) (sa_cons (sv 2) (sa_cons se_str sa_nil))) (sa_cons (se_call (ok_choices (base := base) D) (rm hr) (by rfl) (D.h_choices).gl (D.h_choices).F.kp (D.h_choices).bi (takes_of rfl rfl rfl rfl) (sa_cons (sv 2) (sa_cons se_str sa_nil))) (sa_cons (se_call (ok_choices (base := base) D) (rm hr) (by rfl) (D.h_choices).gl (D.h_choices).F.kp (D.h_choices).bi (takes_of rfl rfl rfl rfl) (sa_cons (sv 3) (sa_cons se_str sa_nil))) (sa_cons (se_callK (ks := ["owner", "machine"]) [1, 0] (ok_choices (base := base) D) (rm hr) (by rfl) (D.h_choices).gl (D.h_choices).F.kp (fun s ws _ hl => match ws, hl with | [u0, u1], _ => bindsTo (D.h_choices).F (fun _ _ _ _ _ _ => rfl)) (takes_of rfl rfl rfl rfl) (sk_cons se_str (sk_cons (se_list D.m_list (se_sub hr (sv 5) se_int (fun _ _ => rfl))) sk_nil))) (sa_cons (se_call (ok_choices (base := base) D) (rm hr) (by rfl) (D.h_choices).gl (D.h_choices).F.kp (D.h_choices).bi (takes_of rfl rfl rfl rfl) (sa_cons (se_sub hr (sv 5) se_int (fun _ _ => rfl)) (sa_cons se_str sa_nil))) sa_nil))))))))
      (ss_cons (s_set sc__law_made_right.nd (by rfl) (by first | exact Or.inl rfl | exact Or.inr rfl) (se_add (sv 5) (se_lst (sa_cons (se_tup (sa_cons se_int sa_nil)) (sa_cons (se_tup sa_nil) (sa_cons (se_tup sa_nil) (sa_cons (se_tup (sa_cons se_int sa_nil)) (sa_cons (se_tup sa_nil) sa_nil))))))))
      (ss_cons (s_set sc__law_made_right.nd (by rfl) (by first | exact Or.inl rfl | exact Or.inr rfl) (se_add (sv 4) (se_lst (sa_cons (se_call (ok_rounds (base := base) D) (rm hr) (by rfl) (D.h_rounds).gl (D.h_rounds).F.kp (D.h_rounds).bi (takes_of rfl rfl rfl rfl) (sa_cons (sv 2) sa_nil)) (sa_cons (se_call (ok_rounds (base := base) D) (rm hr) (by rfl) (D.h_rounds).gl (D.h_rounds).F.kp (D.h_rounds).bi (takes_of rfl rfl rfl rfl) (sa_cons (sv 3) sa_nil)) (sa_cons (se_call (ok_round_lengths (base := base) D) (rm hr) (by rfl) (D.h_round_lengths).gl (D.h_round_lengths).F.kp (D.h_round_lengths).bi (takes_of rfl rfl rfl rfl) (sa_cons (sv 3) sa_nil)) (sa_cons (se_call (ok_rows_of (base := base) D) (rm hr) (by rfl) (D.h_rows_of).gl (D.h_rows_of).F.kp (D.h_rows_of).bi (takes_of rfl rfl rfl rfl) (sa_cons (sv 2) (sa_cons se_int (sa_cons se_int sa_nil)))) (sa_cons (se_call (ok_rows_of (base := base) D) (rm hr) (by rfl) (D.h_rows_of).gl (D.h_rows_of).F.kp (D.h_rows_of).bi (takes_of rfl rfl rfl rfl) (sa_cons (sv 3) (sa_cons se_int (sa_cons se_int sa_nil)))) (sa_cons (se_callK (ks := ["many", "stand", "machine"]) [2, 1, 0] (ok_rows_of (base := base) D) (rm hr) (by rfl) (D.h_rows_of).gl (D.h_rows_of).F.kp (fun s ws _ hl => match ws, hl with | [u0, u1, u2], _ => bindsTo (D.h_rows_of).F (fun _ _ _ _ _ _ => rfl)) (takes_of rfl rfl rfl rfl) (sk_cons se_int (sk_cons se_int (sk_cons (sv 3) sk_nil)))) sa_nil)))))))))
      (ss_cons (s_set sc__law_made_right.nd (by rfl) (by first | exact Or.inl rfl | exact Or.inr rfl) (se_add (sv 5) (se_lst (sa_cons (se_lst (sa_cons (se_tup (sa_cons se_int sa_nil)) (sa_cons (se_tup (sa_cons se_int sa_nil)) sa_nil))) (sa_cons (se_lst (sa_cons (se_tup (sa_cons se_int (sa_cons se_int sa_nil))) sa_nil)) (sa_cons (se_tup (sa_cons se_int (sa_cons se_int sa_nil))) (sa_cons (se_lst (sa_cons (se_tup (sa_cons se_int (sa_cons se_int sa_nil))) (sa_cons (se_tup (sa_cons se_int (sa_cons se_int sa_nil))) (sa_cons (se_tup (sa_cons se_int (sa_cons se_int sa_nil))) (sa_cons (se_tup (sa_cons se_int (sa_cons se_int sa_nil))) sa_nil))))) (sa_cons (se_lst (sa_cons (se_tup sa_nil) sa_nil)) (sa_cons (se_lst (sa_cons (se_tup (sa_cons se_int (sa_cons se_int (sa_cons se_int sa_nil)))) sa_nil)) sa_nil)))))))))
      (ss_cons (s_set sc__law_made_right.nd (by rfl) (by first | exact Or.inl rfl | exact Or.inr rfl) (se_add (sv 4) (se_lst (sa_cons (se_call (ok_row_end (base := base) D) (rm hr) (by rfl) (D.h_row_end).gl (D.h_row_end).F.kp (D.h_row_end).bi (takes_of rfl rfl rfl rfl) (sa_cons (sv 3) (sa_cons se_int (sa_cons (se_tup (sa_cons se_int (sa_cons se_int (sa_cons se_int sa_nil)))) sa_nil)))) (sa_cons (se_call (ok_row_end (base := base) D) (rm hr) (by rfl) (D.h_row_end).gl (D.h_row_end).F.kp (D.h_row_end).bi (takes_of rfl rfl rfl rfl) (sa_cons (sv 3) (sa_cons se_int (sa_cons (se_tup sa_nil) sa_nil)))) (sa_cons (se_callK (ks := ["row", "stand", "machine"]) [2, 1, 0] (ok_row_end (base := base) D) (rm hr) (by rfl) (D.h_row_end).gl (D.h_row_end).F.kp (fun s ws _ hl => match ws, hl with | [u0, u1, u2], _ => bindsTo (D.h_row_end).F (fun _ _ _ _ _ _ => rfl)) (takes_of rfl rfl rfl rfl) (sk_cons (se_lst (sa_cons se_int sa_nil)) (sk_cons se_int (sk_cons (sv 3) sk_nil)))) (sa_cons (se_call (ok_is_row (base := base) D) (rm hr) (by rfl) (D.h_is_row).gl (D.h_is_row).F.kp (D.h_is_row).bi (takes_of rfl rfl rfl rfl) (sa_cons (sv 3) (sa_cons se_int (sa_cons (se_tup sa_nil) sa_nil)))) (sa_cons (se_call (ok_is_row (base := base) D) (rm hr) (by rfl) (D.h_is_row).gl (D.h_is_row).F.kp (D.h_is_row).bi (takes_of rfl rfl rfl rfl) (sa_cons (sv 3) (sa_cons se_int (sa_cons (se_tup (sa_cons se_int (sa_cons se_int sa_nil))) sa_nil)))) sa_nil))))))))
      (ss_cons (s_set sc__law_made_right.nd (by rfl) (by first | exact Or.inl rfl | exact Or.inr rfl) (se_add (sv 5) (se_lst (sa_cons se_int (sa_cons se_int (sa_cons se_int (sa_cons se_bl (sa_cons se_bl sa_nil))))))))
      (ss_cons (s_set sc__law_made_right.nd (by rfl) (by first | exact Or.inl rfl | exact Or.inr rfl) (se_add (se_add (sv 4) (se_lc (own := [("own", 6)]) 10000 rfl sc__law_made_right.nd (si_seq (se_tup (sa_cons (se_tup (sa_cons se_int (sa_cons se_int sa_nil))) (sa_cons (se_tup (sa_cons se_int sa_nil)) (sa_cons (se_tup (sa_cons (se_neg se_int) sa_nil)) (sa_cons (se_lst (sa_cons se_int sa_nil)) (sa_cons (se_tup (sa_cons se_bl sa_nil)) (sa_cons se_non (sa_cons se_int (sa_cons (se_tup (sa_cons (se_tup (sa_cons se_int sa_nil)) sa_nil)) (sa_cons (se_tup (sa_cons se_int (sa_cons se_int (sa_cons se_int sa_nil)))) sa_nil))))))))))) (blk_of (by kernel_rfl)) (by decide) (fun _ _ _ _ _ => (sg_name sc__law_made_right.nd (by rfl) (by first | exact Or.inl rfl | exact Or.inr rfl))) (fun _ _ _ _ _ => sts_nil) (fun _ _ _ _ _ => (se_call (ok_is_row (base := base) D) (rm hr) (by rfl) (D.h_is_row).gl (D.h_is_row).F.kp (D.h_is_row).bi takes0 (sa_cons (sv 2) (sa_cons se_int (sa_cons (sv 6) sa_nil))))))) (se_lst (sa_cons (se_call (ok_is_row (base := base) D) (rm hr) (by rfl) (D.h_is_row).gl (D.h_is_row).F.kp (D.h_is_row).bi (takes_of rfl rfl rfl rfl) (sa_cons (sv 3) (sa_cons se_int (sa_cons (se_tup (sa_cons se_int sa_nil)) sa_nil)))) sa_nil))))
      (ss_cons (s_set sc__law_made_right.nd (by rfl) (by first | exact Or.inl rfl | exact Or.inr rfl) (se_add (se_add (sv 5) (se_lst (sa_cons se_bl sa_nil))) (se_mul2 (se_lst (sa_cons se_bl sa_nil)) se_int)))
      (ss_cons (s_set sc__law_made_right.nd (by rfl) (by first | exact Or.inl rfl | exact Or.inr rfl) (se_add (sv 4) (se_lst (sa_cons (se_call (mo__law_heard (base := base) D) (rm hr) (by rfl) (D.h__law_heard).gl (D.h__law_heard).F.kp (D.h__law_heard).bi (takes_of rfl rfl rfl rfl) (sa_cons se_int (sa_cons (sv 2) (sa_cons se_int sa_nil)))) (sa_cons (se_call (mo__law_heard (base := base) D) (rm hr) (by rfl) (D.h__law_heard).gl (D.h__law_heard).F.kp (D.h__law_heard).bi (takes_of rfl rfl rfl rfl) (sa_cons se_int (sa_cons (sv 2) (sa_cons se_int sa_nil)))) (sa_cons (se_call (mo__law_heard (base := base) D) (rm hr) (by rfl) (D.h__law_heard).gl (D.h__law_heard).F.kp (D.h__law_heard).bi (takes_of rfl rfl rfl rfl) (sa_cons se_int (sa_cons (se_call (ok__law_chain (base := base) D) (rm hr) (by rfl) (D.h__law_chain).gl (D.h__law_chain).F.kp (D.h__law_chain).bi (takes_of rfl rfl rfl rfl) (sa_cons se_int sa_nil)) (sa_cons se_non sa_nil)))) (sa_cons (se_call (mo__law_heard (base := base) D) (rm hr) (by rfl) (D.h__law_heard).gl (D.h__law_heard).F.kp (D.h__law_heard).bi (takes_of rfl rfl rfl rfl) (sa_cons se_int (sa_cons (se_call (ok__law_chain (base := base) D) (rm hr) (by rfl) (D.h__law_chain).gl (D.h__law_chain).F.kp (D.h__law_chain).bi (takes_of rfl rfl rfl rfl) (sa_cons se_int sa_nil)) (sa_cons se_non sa_nil)))) (sa_cons (se_call (ok_round_lengths (base := base) D) (rm hr) (by rfl) (D.h_round_lengths).gl (D.h_round_lengths).F.kp (D.h_round_lengths).bi (takes_of rfl rfl rfl rfl) (sa_cons (se_call (ok__law_chain (base := base) D) (rm hr) (by rfl) (D.h__law_chain).gl (D.h__law_chain).F.kp (D.h__law_chain).bi (takes_of rfl rfl rfl rfl) (sa_cons se_int sa_nil)) sa_nil)) sa_nil))))))))
      (ss_cons (s_set sc__law_made_right.nd (by rfl) (by first | exact Or.inl rfl | exact Or.inr rfl) (se_add (sv 5) (se_lst (sa_cons se_int (sa_cons (se_lst (sa_cons se_str (sa_cons se_bl sa_nil))) (sa_cons se_int (sa_cons (se_lst (sa_cons se_str (sa_cons se_bl sa_nil))) (sa_cons (se_tup (sa_cons se_int (sa_cons se_int sa_nil))) sa_nil))))))))
      (ss_cons (s_set sc__law_made_right.nd (by rfl) (by first | exact Or.inl rfl | exact Or.inr rfl) (se_tup (sa_cons (se_tup (sa_cons (se_tuple D.m_tuple (se_lc (own := [("k", 8)]) 10000 rfl sc__law_made_right.nd (si_range1 (by rfl) D.m_range (sa_cons se_int sa_nil)) (blk_of (by kernel_rfl)) (by decide) (fun _ _ _ _ _ => (sg_name sc__law_made_right.nd (by rfl) (by first | exact Or.inl rfl | exact Or.inr rfl))) (fun _ _ _ _ _ => sts_nil) (fun _ _ _ _ _ => (se_tup (sa_cons (sv 8) sa_nil))))) (sa_cons se_non sa_nil))) sa_nil)))
      (ss_cons (s_set sc__law_made_right.nd (by rfl) (by first | exact Or.inl rfl | exact Or.inr rfl) (se_tup (sa_cons (se_tup (sa_cons (sv 0) sa_nil)) (sa_cons (se_tuple D.m_tuple (se_lc (own := [("k", 8)]) 10000 rfl sc__law_made_right.nd (si_range1 (by rfl) D.m_range (sa_cons se_int sa_nil)) (blk_of (by kernel_rfl)) (by decide) (fun _ _ _ _ _ => (sg_name sc__law_made_right.nd (by rfl) (by first | exact Or.inl rfl | exact Or.inr rfl))) (fun _ _ _ _ _ => sts_nil) (fun _ _ _ _ _ => (se_tup (sa_cons se_str (sa_cons (se_tup (sa_cons (se_tup (sa_cons se_int (sa_cons (se_mod (se_add (sv 8) se_int) se_int) sa_nil))) sa_nil)) sa_nil)))))) sa_nil))))
      (ss_cons (s_set sc__law_made_right.nd (by rfl) (by first | exact Or.inl rfl | exact Or.inr rfl) (se_tup (sa_cons (se_mul2 (se_tup (sa_cons (sv 0) sa_nil)) se_int) (sa_cons (se_tup (sa_cons (se_tup (sa_cons se_str (sa_cons (se_tuple D.m_tuple (se_lc (own := [("k", 8)]) 10000 rfl sc__law_made_right.nd (si_range1 (by rfl) D.m_range (sa_cons se_int sa_nil)) (blk_of (by kernel_rfl)) (by decide) (fun _ _ _ _ _ => (sg_name sc__law_made_right.nd (by rfl) (by first | exact Or.inl rfl | exact Or.inr rfl))) (fun _ _ _ _ _ => sts_nil) (fun _ _ _ _ _ => (se_tup (sa_cons (sv 8) (sa_cons se_int sa_nil)))))) sa_nil))) sa_nil)) sa_nil))))
      (ss_cons (s_set sc__law_made_right.nd (by rfl) (by first | exact Or.inl rfl | exact Or.inr rfl) (se_add (sv 4) (se_lst (sa_cons (se_call (ok_is_machine (base := base) D) (rm hr) (by rfl) (D.h_is_machine).gl (D.h_is_machine).F.kp (D.h_is_machine).bi (takes_of rfl rfl rfl rfl) (sa_cons (sv 10) (sa_cons se_int sa_nil))) (sa_cons (se_call (ok_is_machine (base := base) D) (rm hr) (by rfl) (D.h_is_machine).gl (D.h_is_machine).F.kp (D.h_is_machine).bi (takes_of rfl rfl rfl rfl) (sa_cons (sv 11) (sa_cons se_int sa_nil))) (sa_cons (se_call (ok_is_machine (base := base) D) (rm hr) (by rfl) (D.h_is_machine).gl (D.h_is_machine).F.kp (D.h_is_machine).bi (takes_of rfl rfl rfl rfl) (sa_cons (se_tup (sa_cons (sv 9) (sa_cons (se_tup (sa_cons (se_tup (sa_cons se_str (sa_cons (se_tup (sa_cons (se_tup (sa_cons se_int (sa_cons se_int sa_nil))) sa_nil)) sa_nil))) sa_nil)) sa_nil))) (sa_cons se_int sa_nil))) sa_nil))))))
      (ss_cons (s_set sc__law_made_right.nd (by rfl) (by first | exact Or.inl rfl | exact Or.inr rfl) (se_add (sv 5) (se_lst (sa_cons se_bl (sa_cons se_bl (sa_cons se_bl sa_nil))))))
      (ss_cons (s_for 10000 (passes_of rfl) rfl (si_seq (se_tup (sa_cons (se_call (ok_rounds (base := base) D) (rm hr) (by rfl) (D.h_rounds).gl (D.h_rounds).F.kp (D.h_rounds).bi (takes_of rfl rfl rfl rfl) (sa_cons (sv 2) sa_nil)) (sa_cons (se_call (ok_rows_of (base := base) D) (rm hr) (by rfl) (D.h_rows_of).gl (D.h_rows_of).F.kp (D.h_rows_of).bi (takes_of rfl rfl rfl rfl) (sa_cons (sv 2) (sa_cons se_int (sa_cons se_int sa_nil)))) sa_nil)))) (sg_name sc__law_made_right.nd (by rfl) (by first | exact Or.inl rfl | exact Or.inr rfl)) (ss_cons (s_expr (se_meth PySem.F.slot_list_append PySem.F.type_list_append mt_append om_append (sv 12) (sa_cons (se_tup sa_nil) sa_nil)))
      (ss_one (s_expr (se_meth0 PySem.F.slot_list_reverse PySem.F.type_list_reverse mt_reverse om_reverse (sv 12))))))
      (ss_cons (s_set sc__law_made_right.nd (by rfl) (by first | exact Or.inl rfl | exact Or.inr rfl) (se_add (sv 4) (se_lst (sa_cons (se_call (ok_rounds (base := base) D) (rm hr) (by rfl) (D.h_rounds).gl (D.h_rounds).F.kp (D.h_rounds).bi (takes_of rfl rfl rfl rfl) (sa_cons (sv 2) sa_nil)) (sa_cons (se_call (ok_rows_of (base := base) D) (rm hr) (by rfl) (D.h_rows_of).gl (D.h_rows_of).F.kp (D.h_rows_of).bi (takes_of rfl rfl rfl rfl) (sa_cons (sv 2) (sa_cons se_int (sa_cons se_int sa_nil)))) sa_nil)))))
      (ss_cons (s_set sc__law_made_right.nd (by rfl) (by first | exact Or.inl rfl | exact Or.inr rfl) (se_add (sv 5) (se_lst (sa_cons (se_lst (sa_cons (se_tup (sa_cons se_int sa_nil)) (sa_cons (se_tup (sa_cons se_int sa_nil)) sa_nil))) (sa_cons (se_lst (sa_cons (se_tup (sa_cons se_int sa_nil)) (sa_cons (se_tup (sa_cons se_int sa_nil)) sa_nil))) sa_nil)))))
      (ss_cons (s_for 10000 (passes_of rfl) rfl (si_seq (se_tup (sa_cons se_int (sa_cons se_int sa_nil)))) (sg_name sc__law_made_right.nd (by rfl) (by first | exact Or.inl rfl | exact Or.inr rfl)) (ss_cons (s_set sc__law_made_right.nd (by rfl) (by first | exact Or.inl rfl | exact Or.inr rfl) (se_call (ok__law_wide (base := base) D) (rm hr) (by rfl) (D.h__law_wide).gl (D.h__law_wide).F.kp (D.h__law_wide).bi (takes_of rfl rfl rfl rfl) (sa_cons (se_tup (sa_cons se_int (sa_cons se_int (sa_cons se_int (sa_cons se_int (sa_cons se_int (sa_cons se_int (sa_cons (sv 13) sa_nil)))))))) sa_nil)))
      (ss_one (s_set sc__law_made_right.nd (by rfl) (by first | exact Or.inl rfl | exact Or.inr rfl) (se_add (sv 4) (se_lst (sa_cons (se_call (mo__law_heard (base := base) D) (rm hr) (by rfl) (D.h__law_heard).gl (D.h__law_heard).F.kp (D.h__law_heard).bi (takes_of rfl rfl rfl rfl) (sa_cons se_int (sa_cons (sv 14) (sa_cons se_non sa_nil)))) (sa_cons (se_call (mo__law_heard (base := base) D) (rm hr) (by rfl) (D.h__law_heard).gl (D.h__law_heard).F.kp (D.h__law_heard).bi (takes_of rfl rfl rfl rfl) (sa_cons se_int (sa_cons (sv 14) (sa_cons se_int sa_nil)))) sa_nil))))))))
      (ss_cons (s_set sc__law_made_right.nd (by rfl) (by first | exact Or.inl rfl | exact Or.inr rfl) (se_add (sv 5) (se_lst (sa_cons se_int (sa_cons se_int (sa_cons (se_lst (sa_cons se_str (sa_cons se_bl sa_nil))) (sa_cons (se_lst (sa_cons se_str (sa_cons se_bl sa_nil))) sa_nil)))))))
      (ss_cons (s_set sc__law_made_right.nd (by rfl) (by first | exact Or.inl rfl | exact Or.inr rfl) (se_tup (sa_cons (se_tup (sa_cons (sv 0) sa_nil)) (sa_cons (se_tup (sa_cons (se_tup (sa_cons se_str (sa_cons (se_tup (sa_cons (se_tup (sa_cons se_int (sa_cons se_int sa_nil))) (sa_cons (se_tup (sa_cons se_int (sa_cons se_int sa_nil))) (sa_cons (se_tup (sa_cons se_int (sa_cons se_int sa_nil))) sa_nil)))) sa_nil))) (sa_cons (se_tup (sa_cons se_str (sa_cons (se_tup (sa_cons (se_tup (sa_cons se_int (sa_cons se_int sa_nil))) sa_nil)) sa_nil))) (sa_cons (se_tup (sa_cons se_str (sa_cons (se_tup (sa_cons (se_tup (sa_cons se_int (sa_cons se_int sa_nil))) sa_nil)) sa_nil))) sa_nil)))) sa_nil))))
      (ss_one (s_ret (se_call (ok__law_same (base := base) D) (rm hr) (by rfl) (D.h__law_same).gl (D.h__law_same).F.kp (D.h__law_same).bi (takes_of rfl rfl rfl rfl) (sa_cons (se_add (sv 4) (se_lst (sa_cons (se_call (ok_rounds (base := base) D) (rm hr) (by rfl) (D.h_rounds).gl (D.h_rounds).F.kp (D.h_rounds).bi (takes_of rfl rfl rfl rfl) (sa_cons (sv 15) sa_nil)) (sa_cons (se_callK (ks := ["machine"]) [0] (ok_round_lengths (base := base) D) (rm hr) (by rfl) (D.h_round_lengths).gl (D.h_round_lengths).F.kp (fun s ws _ hl => match ws, hl with | [u0], _ => bindsTo (D.h_round_lengths).F (fun _ _ _ _ _ _ => rfl)) (takes_of rfl rfl rfl rfl) (sk_cons (sv 15) sk_nil)) sa_nil)))) (sa_cons (se_add (sv 5) (se_lst (sa_cons (se_lst (sa_cons (se_tup (sa_cons se_int (sa_cons se_int (sa_cons se_int sa_nil)))) (sa_cons (se_tup (sa_cons se_int (sa_cons se_int sa_nil))) (sa_cons (se_tup (sa_cons se_int sa_nil)) sa_nil)))) (sa_cons (se_tup (sa_cons se_int (sa_cons se_int sa_nil))) sa_nil)))) sa_nil))))))))))))))))))))))))))))))))))))
theorem ok__law_made_right (D : Defs K mg) : FnOk P w K mg base (L2.CX P w) 13 (D.h__law_made_right).f (D.h__law_made_right).fd [] (spNc ⟨K, w, mg⟩ (tx D) F__law_made_right) := fn_okD (g := g__law_made_right) (D.h__law_made_right).F sc__law_made_right (hF := rfl) (h1 := rfl) (h2 := rfl) (body := fun cdv A outer s H E hr => b__law_made_right D _ cdv A outer s H E hr)
theorem ft__law_made_right : okT (F__law_made_right [] []) = true := by decide +kernel
theorem fr__law_made_right (D : Defs K mg) : FnOk P w K mg base (L2.CX P w) 13 (D.h__law_made_right).f (D.h__law_made_right).fd [] (spNc ⟨K, w, mg⟩ (tx D) Ftt) := ok_fresh (ok__law_made_right D) ft__law_made_right
/-! ### _law_alike_right -/
theorem sc__law_alike_right : FnScope ["s_so", "t_so", "free_so", "turn_so", "short_so", "wide_so", "got", "due", "late_so", "told_so", "own", "soft_so"] [] (defScope s__law_alike_right) := ⟨rfl, rfl, rfl, by decide +kernel, rfl, by decide +kernel, by decide +kernel⟩
def g__law_alike_right : DS := (gSeq (gAsg (dFn F__law_two dNil) (gTupD 2 (gsCons (gN 0) (gsCons (gN 1) gsNil))))
  (gSeq (gPar3 2 3 4 (dCons (dFn F_one_choice (dCons (dC (.str "any")) (dCons (dTup (dCons (dVar 0) (dCons (dVar 1) dNil))) dNil))) (dCons (dFn F_one_round (dCons (dTup (dCons (dVar 0) (dCons (dVar 1) dNil))) dNil)) (dCons (dFn F_one_round (dCons (dTup (dCons (dTup (dCons (dTup (dCons (dTup (dCons (dC (.int 0)) dNil)) (dCons (dTup (dCons (dC (.int 0)) dNil)) dNil))) (dCons (dC .non) dNil))) dNil)) dNil)) dNil))))
  (gSeq (gAsg (dTup (dCons (dTup (dCons (dVar 1) (dCons (dVar 0) (dCons (dVar 1) dNil)))) (dCons (dTup (dCons (dTup (dCons (dC (.str "any")) (dCons (dTup (dCons (dTup (dCons (dC (.int 1)) (dCons (dC (.int 1)) dNil))) (dCons (dTup (dCons (dC (.int 1)) (dCons (dC (.int 2)) dNil))) dNil))) dNil))) (dCons (dTup (dCons (dC (.str "ours")) (dCons (dTup (dCons (dTup (dCons (dC (.int 0)) (dCons (dC (.int 0)) dNil))) dNil)) dNil))) (dCons (dTup (dCons (dC (.str "any")) (dCons (dTup (dCons (dTup (dCons (dC (.int 2)) (dCons (dC (.int 0)) dNil))) dNil)) dNil))) dNil)))) dNil))) (gN 5))
  (gSeq (gAsg (dLst (dCons (dFn F_go_alike (dCons (dVar 5) (dCons (dVar 3) dNil))) (dCons (dFn F_merged (dCons (dVar 5) dNil)) (dCons (dFn F_go_alike (dCons (dVar 2) (dCons (dFn F_one_choice (dCons (dC (.str "ours")) (dCons (dTup (dCons (dVar 0) (dCons (dVar 1) dNil))) dNil))) dNil))) (dCons (dFn F_go_alike (dCons (dFn F_one_choice (dCons (dC (.str "ours")) (dCons (dTup (dCons (dVar 0) (dCons (dVar 0) dNil))) dNil))) (dCons (dFn F_one_choice (dCons (dC (.str "any")) (dCons (dTup (dCons (dVar 0) dNil)) dNil))) dNil))) dNil))))) (gN 6))
  (gSeq (gAsg (dLst (dCons (dC (.bl true)) (dCons (dVar 3) (dCons (dC (.bl false)) (dCons (dC (.bl true)) dNil))))) (gN 7))
  (gSeq (gAsg (dOp dAdd (dVar 6) (dLst (dCons (dFn F_go_alike (dCons (dVar 3) (dCons (dFn F_one_round (dCons (dTup (dCons (dVar 1) (dCons (dVar 0) dNil))) dNil)) dNil))) (dCons (dFn F_go_alike (dCons (dVar 3) (dCons (dFn F_one_round (dCons (dTup (dCons (dVar 0) (dCons (dVar 1) (dCons (dVar 0) (dCons (dVar 1) dNil))))) dNil)) dNil))) (dCons (dFnK F_go_alike [1, 0] 2 (dCons (dCall oList (dCons (dVar 3) dNil)) (dCons (dCall oList (dCons (dVar 3) dNil)) dNil))) dNil))))) (gN 6))
  (gSeq (gAsg (dOp dAdd (dVar 7) (dLst (dCons (dC (.bl false)) (dCons (dC (.bl false)) (dCons (dC (.bl true)) dNil))))) (gN 7))
  (gSeq (gAsg (dOp dAdd (dVar 6) (dLst (dCons (dFn F_go_alike (dCons (dVar 3) (dCons (dVar 4) dNil))) (dCons (dFn F_merged (dCons (dFn F_one_choice (dCons (dC (.str "ours")) (dCons (dTup (dCons (dVar 0) (dCons (dVar 0) dNil))) dNil))) dNil)) (dCons (dFnK F_merged [0] 1 (dCons (dCall oList (dCons (dVar 2) dNil)) dNil)) (dCons (dFn F_merged (dCons (dFn F_one_choice (dCons (dC (.str "ours")) (dCons (dTup (dCons (dVar 1) (dCons (dVar 0) dNil))) dNil))) dNil)) dNil)))))) (gN 6))
  (gSeq (gAsg (dOp dAdd (dVar 7) (dLst (dCons (dC (.bl false)) (dCons (dTup (dCons (dTup (dCons (dVar 0) dNil)) (dCons (dTup (dCons (dTup (dCons (dC (.str "any")) (dCons (dTup (dCons (dTup (dCons (dC (.int 0)) (dCons (dC (.int 0)) dNil))) dNil)) dNil))) dNil)) dNil))) (dCons (dVar 2) (dCons (dFn F_one_choice (dCons (dC (.str "ours")) (dCons (dTup (dCons (dVar 1) (dCons (dVar 0) dNil))) dNil))) dNil)))))) (gN 7))
  (gSeq (gAsg (dTup (dCons (dTup (dCons (dVar 0) (dCons (dVar 1) dNil))) (dCons (dTup (dCons (dTup (dCons (dC (.str "any")) (dCons (dTup (dCons (dTup (dCons (dC (.int 1)) (dCons (dC (.int 2)) dNil))) (dCons (dTup (dCons (dC (.int 0)) (dCons (dC (.int 1)) dNil))) dNil))) dNil))) (dCons (dTup (dCons (dC (.str "any")) (dCons (dTup (dCons (dTup (dCons (dC (.int 0)) (dCons (dC (.int 0)) dNil))) (dCons (dTup (dCons (dC (.int 1)) (dCons (dC (.int 0)) dNil))) dNil))) dNil))) (dCons (dTup (dCons (dC (.str "ours")) (dCons (dTup (dCons (dTup (dCons (dC (.int 0)) (dCons (dC (.int 3)) dNil))) (dCons (dTup (dCons (dC (.int 1)) (dCons (dC (.int 0)) dNil))) dNil))) dNil))) (dCons (dTup (dCons (dC (.str "any")) (dCons (dTup (dCons (dTup (dCons (dC (.int 1)) (dCons (dC (.int 0)) dNil))) dNil)) dNil))) dNil))))) dNil))) (gN 8))
  (gSeq (gExpr (dMeth oAppend (dVar 6) (dCons (dFn F_merged (dCons (dVar 8) dNil)) dNil)))
  (gSeq (gExpr (dMeth oAppend (dVar 7) (dCons (dTup (dCons (dTup (dCons (dVar 1) (dCons (dVar 0) dNil))) (dCons (dTup (dCons (dTup (dCons (dC (.str "any")) (dCons (dTup (dCons (dTup (dCons (dC (.int 0)) (dCons (dC (.int 1)) dNil))) (dCons (dTup (dCons (dC (.int 1)) (dCons (dC (.int 2)) dNil))) dNil))) dNil))) (dCons (dTup (dCons (dC (.str "ours")) (dCons (dTup (dCons (dTup (dCons (dC (.int 1)) (dCons (dC (.int 3)) dNil))) (dCons (dTup (dCons (dC (.int 0)) (dCons (dC (.int 0)) dNil))) dNil))) dNil))) (dCons (dTup (dCons (dC (.str "any")) (dCons (dTup (dCons (dTup (dCons (dC (.int 1)) (dCons (dC (.int 0)) dNil))) (dCons (dTup (dCons (dC (.int 0)) (dCons (dC (.int 0)) dNil))) dNil))) dNil))) (dCons (dTup (dCons (dC (.str "any")) (dCons (dTup (dCons (dTup (dCons (dC (.int 0)) (dCons (dC (.int 0)) dNil))) dNil)) dNil))) dNil))))) dNil))) dNil)))
  (gSeq (gAsg (dTup (dCons (dTup (dCons (dTup (dCons (dC (.int 0)) (dCons (dC (.int 1)) dNil))) (dCons (dTup (dCons (dC (.int 1)) dNil)) (dCons (dTup (dCons (dC (.int 0)) (dCons (dC (.int 2)) dNil))) dNil)))) (dCons (dTup (dCons (dTup (dCons (dTup (dCons (dC (.int 1)) (dCons (dC (.int 4)) dNil))) (dCons (dTup (dCons (dC (.int 3)) (dCons (dC (.int 4)) dNil))) dNil))) (dCons (dTup (dCons (dTup (dCons (dC (.int 1)) (dCons (dC (.int 1)) dNil))) dNil)) (dCons (dTup (dCons (dTup (dCons (dC (.int 1)) (dCons (dC (.int 3)) dNil))) (dCons (dTup (dCons (dC (.int 2)) (dCons (dC (.int 3)) dNil))) dNil))) dNil)))) dNil))) (gN 9))
  (gSeq (gAsg (dOp dAdd (dVar 6) (dLst (dCons (dFn F_renamed (dCons (dVar 3) (dCons (dTup (dCons (dC (.int 2)) (dCons (dC (.int 1)) (dCons (dC (.int 0)) dNil)))) dNil))) (dCons (dOp dIxA (dOp dIxA (dFnK F_renamed [1, 0] 2 (dCons (dLst (dCons (dC (.int 2)) (dCons (dC (.int 0)) (dCons (dC (.int 1)) dNil)))) (dCons (dFn F_one_round (dCons (dTup (dCons (dVar 9) dNil)) dNil)) dNil))) (dC (.int 0))) (dC (.int 0))) dNil)))) (gN 6))
  (gSeq (gAsg (dOp dAdd (dVar 7) (dLst (dCons (dTup (dCons (dTup (dCons (dVar 1) (dCons (dVar 0) dNil))) (dCons (dOp dIxA (dVar 3) (dC (.int 1))) dNil))) (dCons (dTup (dCons (dTup (dCons (dTup (dCons (dC (.int 0)) dNil)) (dCons (dTup (dCons (dC (.int 1)) (dCons (dC (.int 2)) dNil))) (dCons (dTup (dCons (dC (.int 0)) (dCons (dC (.int 2)) dNil))) dNil)))) (dCons (dTup (dCons (dTup (dCons (dTup (dCons (dC (.int 1)) (dCons (dC (.int 1)) dNil))) dNil)) (dCons (dTup (dCons (dTup (dCons (dC (.int 2)) (dCons (dC (.int 3)) dNil))) (dCons (dTup (dCons (dC (.int 1)) (dCons (dC (.int 3)) dNil))) dNil))) (dCons (dTup (dCons (dTup (dCons (dC (.int 3)) (dCons (dC (.int 4)) dNil))) (dCons (dTup (dCons (dC (.int 1)) (dCons (dC (.int 4)) dNil))) dNil))) dNil)))) dNil))) dNil)))) (gN 7))
  (gSeq (gAsg (dOp dAdd (dVar 6) (dLst (dCons (dFn F_one_after_other (dCons (dVar 2) (dCons (dVar 3) dNil))) (dCons (dOp dIxA (dFnK F_one_after_other [1, 0] 2 (dCons (dVar 2) (dCons (dCall oList (dCons (dVar 3) dNil)) dNil))) (dC (.int 1))) (dCons (dFn M__law_heard (dCons (dC (.int 2)) (dCons (dVar 3) (dCons (dVar 4) dNil)))) (dCons (dFn M__law_heard (dCons (dC (.int 2)) (dCons (dVar 4) (dCons (dVar 2) dNil)))) dNil)))))) (gN 6))
  (gSeq (gExpr (dMeth oAppend (dVar 7) (dCons (dTup (dCons (dTup (dCons (dVar 0) (dCons (dVar 1) (dCons (dVar 0) (dCons (dVar 1) dNil))))) (dCons (dTup (dCons (dTup (dCons (dC (.str "any")) (dCons (dTup (dCons (dTup (dCons (dC (.int 0)) (dCons (dC (.int 1)) dNil))) (dCons (dTup (dCons (dC (.int 1)) (dCons (dC (.int 1)) dNil))) dNil))) dNil))) (dCons (dTup (dCons (dC (.str "any")) (dCons (dTup (dCons (dTup (dCons (dC (.int 2)) (dCons (dC (.int 2)) dNil))) dNil)) dNil))) (dCons (dTup (dCons (dC (.str "any")) (dCons (dTup (dCons (dTup (dCons (dC (.int 3)) (dCons (dC (.int 0)) dNil))) dNil)) dNil))) dNil)))) dNil))) dNil)))
  (gSeq (gAsg (dOp dAdd (dVar 7) (dLst (dCons (dTup (dCons (dTup (dCons (dC (.str "any")) (dCons (dTup (dCons (dTup (dCons (dC (.int 0)) (dCons (dC (.int 1)) dNil))) dNil)) dNil))) (dCons (dTup (dCons (dC (.str "any")) (dCons (dTup (dCons (dTup (dCons (dC (.int 1)) (dCons (dC (.int 2)) dNil))) dNil)) dNil))) (dCons (dTup (dCons (dC (.str "any")) (dCons (dTup (dCons (dTup (dCons (dC (.int 2)) (dCons (dC (.int 0)) dNil))) (dCons (dTup (dCons (dC (.int 3)) (dCons (dC (.int 0)) dNil))) dNil))) dNil))) dNil)))) (dCons (dLst (dCons (dC (.str "unfit")) (dCons (dC (.bl true)) dNil))) (dCons (dLst (dCons (dC (.str "unfit")) (dCons (dC (.bl true)) dNil))) dNil))))) (gN 7))
  (gSeq (gAsg (dLst (dCons (dLc (iSeq (dOp dIxA (dVar 3) (dC (.int 0)))) (gN 10) dYes (dCall oList (dCons (dVar 10) dNil)) [10] 10000) (dCons (dLc (iSeq (dOp dIxA (dVar 3) (dC (.int 1)))) (gN 10) dYes (dCall oList (dCons (dVar 10) dNil)) [10] 10000) dNil))) (gN 11))
  (gSeq (gAsg (dOp dAdd (dVar 6) (dLst (dCons (dOp dEq (dFn F_merged (dCons (dVar 11) dNil)) (dVar 3)) (dCons (dVar 11) dNil)))) (gN 6))
  (gRet (dFn (F__law_same RL) (dCons (dVar 6) (dCons (dOp dAdd (dVar 7) (dLst (dCons (dC (.bl true)) (dCons (dLst (dCons (dLc (iSeq (dOp dIxA (dVar 3) (dC (.int 0)))) (gN 10) dYes (dCall oList (dCons (dVar 10) dNil)) [10] 10000) (dCons (dLc (iSeq (dOp dIxA (dVar 3) (dC (.int 1)))) (gN 10) dYes (dCall oList (dCons (dVar 10) dNil)) [10] 10000) dNil))) dNil)))) dNil))))))))))))))))))))))))
def F__law_alike_right : DF := runF g__law_alike_right 0 12
theorem b__law_alike_right (D : Defs K mg) (f : Addr) (cdv : Value) (A : Around) (outer : List Env) (s : Shared) (H : Hp) (E : XK) (hr : Room 12 (A.deeper (envOfC "_law_alike_right" (defScope s__law_alike_right) s.heap.objs.size f cdv))) :
    SSs (cxOf (L2.CX P w) P w K mg base ["s_so", "t_so", "free_so", "turn_so", "short_so", "wide_so", "got", "due", "late_so", "told_so", "own", "soft_so"] "_law_alike_right" (defScope s__law_alike_right) f cdv A outer s H E) (tx D) (wOf E) (defBody s__law_alike_right) g__law_alike_right :=
  (ss_cons (s_asg (se_call0 (ok__law_two (base := base) D) (rm hr) (by rfl) (D.h__law_two).gl (D.h__law_two).F.kp (D.h__law_two).bi (takes_of rfl rfl rfl rfl)) (sg_tup rfl (sgs_cons (sg_name sc__law_alike_right.nd (by rfl) (by first | exact Or.inl rfl | exact Or.inr rfl)) (sgs_cons (sg_name sc__law_alike_right.nd (by rfl) (by first | exact Or.inl rfl | exact Or.inr rfl)) sgs_nil))))
      (ss_cons (s_par3 rfl sc__law_alike_right.nd (by rfl) (by rfl) (by rfl) (by decide) (by decide) (by decide) (by rfl) (by rfl) (by rfl) (sa_cons (se_call (ok_one_choice (base := base) D) (rm hr) (by rfl) (D.h_one_choice).gl (D.h_one_choice).F.kp (D.h_one_choice).bi (takes_of rfl rfl rfl rfl) (sa_cons se_str (sa_cons (se_tup (sa_cons (sv 0) (sa_cons (sv 1) sa_nil))) sa_nil))) (sa_cons (se_call (ok_one_round (base := base) D) (rm hr) (by rfl) (D.h_one_round).gl (D.h_one_round).F.kp (D.h_one_round).bi (takes_of rfl rfl rfl rfl) (sa_cons (se_tup (sa_cons (sv 0) (sa_cons (sv 1) sa_nil))) sa_nil)) (sa_cons (se_call (ok_one_round (base := base) D) (rm hr) (by rfl) (D.h_one_round).gl (D.h_one_round).F.kp (D.h_one_round).bi (takes_of rfl rfl rfl rfl) (sa_cons (se_tup (sa_cons (se_tup (sa_cons (se_tup (sa_cons (se_tup (sa_cons se_int sa_nil)) (sa_cons (se_tup (sa_cons se_int sa_nil)) sa_nil))) (sa_cons se_non sa_nil))) sa_nil)) sa_nil)) sa_nil))) (by rfl))
      (ss_cons (s_set sc__law_alike_right.nd (by rfl) (by first | exact Or.inl rfl | exact Or.inr rfl) (se_tup (sa_cons (se_tup (sa_cons (sv 1) (sa_cons (sv 0) (sa_cons (sv 1) sa_nil)))) (sa_cons (se_tup (sa_cons (se_tup (sa_cons se_str (sa_cons (se_tup (sa_cons (se_tup (sa_cons se_int (sa_cons se_int sa_nil))) (sa_cons (se_tup (sa_cons se_int (sa_cons se_int sa_nil))) sa_nil))) sa_nil))) (sa_cons (se_tup (sa_cons se_str (sa_cons (se_tup (sa_cons (se_tup (sa_cons se_int (sa_cons se_int sa_nil))) sa_nil)) sa_nil))) (sa_cons (se_tup (sa_cons se_str (sa_cons (se_tup (sa_cons (se_tup (sa_cons se_int (sa_cons se_int sa_nil))) sa_nil)) sa_nil))) sa_nil)))) sa_nil))))
      (ss_cons (s_set sc__law_alike_right.nd (by rfl) (by first | exact Or.inl rfl | exact Or.inr rfl) (se_lst (sa_cons (se_call (ok_go_alike (base := base) D) (rm hr) (by rfl) (D.h_go_alike).gl (D.h_go_alike).F.kp (D.h_go_alike).bi (takes_of rfl rfl rfl rfl) (sa_cons (sv 5) (sa_cons (sv 3) sa_nil))) (sa_cons (se_call (ok_merged (base := base) D) (rm hr) (by rfl) (D.h_merged).gl (D.h_merged).F.kp (D.h_merged).bi (takes_of rfl rfl rfl rfl) (sa_cons (sv 5) sa_nil)) (sa_cons (se_call (ok_go_alike (base := base) D) (rm hr) (by rfl) (D.h_go_alike).gl (D.h_go_alike).F.kp (D.h_go_alike).bi (takes_of rfl rfl rfl rfl) (sa_cons (sv 2) (sa_cons (se_call (ok_one_choice (base := base) D) (rm hr) (by rfl) (D.h_one_choice).gl (D.h_one_choice).F.kp (D.h_one_choice).bi (takes_of rfl rfl rfl rfl) (sa_cons se_str (sa_cons (se_tup (sa_cons (sv 0) (sa_cons (sv 1) sa_nil))) sa_nil))) sa_nil))) (sa_cons (se_call (ok_go_alike (base := base) D) (rm hr) (by rfl) (D.h_go_alike).gl (D.h_go_alike).F.kp (D.h_go_alike).bi (takes_of rfl rfl rfl rfl) (sa_cons (se_call (ok_one_choice (base := base) D) (rm hr) (by rfl) (D.h_one_choice).gl (D.h_one_choice).F.kp (D.h_one_choice).bi (takes_of rfl rfl rfl rfl) (sa_cons se_str (sa_cons (se_tup (sa_cons (sv 0) (sa_cons (sv 0) sa_nil))) sa_nil))) (sa_cons (se_call (ok_one_choice (base := base) D) (rm hr) (by rfl) (D.h_one_choice).gl (D.h_one_choice).F.kp (D.h_one_choice).bi (takes_of rfl rfl rfl rfl) (sa_cons se_str (sa_cons (se_tup (sa_cons (sv 0) sa_nil)) sa_nil))) sa_nil))) sa_nil))))))
      (ss_cons (s_set sc__law_alike_right.nd (by rfl) (by first | exact Or.inl rfl | exact Or.inr rfl) (se_lst (sa_cons se_bl (sa_cons (sv 3) (sa_cons se_bl (sa_cons se_bl sa_nil))))))
      (ss_cons (s_set sc__law_alike_right.nd (by rfl) (by first | exact Or.inl rfl | exact Or.inr rfl) (se_add (sv 6) (se_lst (sa_cons (se_call (ok_go_alike (base := base) D) (rm hr) (by rfl) (D.h_go_alike).gl (D.h_go_alike).F.kp (D.h_go_alike).bi (takes_of rfl rfl rfl rfl) (sa_cons (sv 3) (sa_cons (se_call (ok_one_round (base := base) D) (rm hr) (by rfl) (D.h_one_round).gl (D.h_one_round).F.kp (D.h_one_round).bi (takes_of rfl rfl rfl rfl) (sa_cons (se_tup (sa_cons (sv 1) (sa_cons (sv 0) sa_nil))) sa_nil)) sa_nil))) (sa_cons (se_call (ok_go_alike (base := base) D) (rm hr) (by rfl) (D.h_go_alike).gl (D.h_go_alike).F.kp (D.h_go_alike).bi (takes_of rfl rfl rfl rfl) (sa_cons (sv 3) (sa_cons (se_call (ok_one_round (base := base) D) (rm hr) (by rfl) (D.h_one_round).gl (D.h_one_round).F.kp (D.h_one_round).bi (takes_of rfl rfl rfl rfl) (sa_cons (se_tup (sa_cons (sv 0) (sa_cons (sv 1) (sa_cons (sv 0) (sa_cons (sv 1) sa_nil))))) sa_nil)) sa_nil))) (sa_cons (se_callK (ks := ["other", "machine"]) [1, 0] (ok_go_alike (base := base) D) (rm hr) (by rfl) (D.h_go_alike).gl (D.h_go_alike).F.kp (fun s ws _ hl => match ws, hl with | [u0, u1], _ => bindsTo (D.h_go_alike).F (fun _ _ _ _ _ _ => rfl)) (takes_of rfl rfl rfl rfl) (sk_cons (se_list D.m_list (sv 3)) (sk_cons (se_list D.m_list (sv 3)) sk_nil))) sa_nil))))))
      (ss_cons (s_set sc__law_alike_right.nd (by rfl) (by first | exact Or.inl rfl | exact Or.inr rfl) (se_add (sv 7) (se_lst (sa_cons se_bl (sa_cons se_bl (sa_cons se_bl sa_nil))))))
      (ss_cons (s_set sc__law_alike_right.nd (by rfl) (by first | exact Or.inl rfl | exact Or.inr rfl) (se_add (sv 6) (se_lst (sa_cons (se_call (ok_go_alike (base := base) D) (rm hr) (by rfl) (D.h_go_alike).gl (D.h_go_alike).F.kp (D.h_go_alike).bi (takes_of rfl rfl rfl rfl) (sa_cons (sv 3) (sa_cons (sv 4) sa_nil))) (sa_cons (se_call (ok_merged (base := base) D) (rm hr) (by rfl) (D.h_merged).gl (D.h_merged).F.kp (D.h_merged).bi (takes_of rfl rfl rfl rfl) (sa_cons (se_call (ok_one_choice (base := base) D) (rm hr) (by rfl) (D.h_one_choice).gl (D.h_one_choice).F.kp (D.h_one_choice).bi (takes_of rfl rfl rfl rfl) (sa_cons se_str (sa_cons (se_tup (sa_cons (sv 0) (sa_cons (sv 0) sa_nil))) sa_nil))) sa_nil)) (sa_cons (se_callK (ks := ["machine"]) [0] (ok_merged (base := base) D) (rm hr) (by rfl) (D.h_merged).gl (D.h_merged).F.kp (fun s ws _ hl => match ws, hl with | [u0], _ => bindsTo (D.h_merged).F (fun _ _ _ _ _ _ => rfl)) (takes_of rfl rfl rfl rfl) (sk_cons (se_list D.m_list (sv 2)) sk_nil)) (sa_cons (se_call (ok_merged (base := base) D) (rm hr) (by rfl) (D.h_merged).gl (D.h_merged).F.kp (D.h_merged).bi (takes_of rfl rfl rfl rfl) (sa_cons (se_call (ok_one_choice (base := base) D) (rm hr) (by rfl) (D.h_one_choice).gl (D.h_one_choice).F.kp (D.h_one_choice).bi (takes_of rfl rfl rfl rfl) (sa_cons se_str (sa_cons (se_tup (sa_cons (sv 1) (sa_cons (sv 0) sa_nil))) sa_nil))) sa_nil)) sa_nil)))))))
      (ss_cons (s_set sc__law_alike_right.nd (by rfl) (by first | exact Or.inl rfl | exact Or.inr rfl) (se_add (sv 7) (se_lst (sa_cons se_bl (sa_cons (se_tup (sa_cons (se_tup (sa_cons (sv 0) sa_nil)) (sa_cons (se_tup (sa_cons (se_tup (sa_cons se_str (sa_cons (se_tup (sa_cons (se_tup (sa_cons se_int (sa_cons se_int sa_nil))) sa_nil)) sa_nil))) sa_nil)) sa_nil))) (sa_cons (sv 2) (sa_cons (se_call (ok_one_choice (base := base) D) (rm hr) (by rfl) (D.h_one_choice).gl (D.h_one_choice).F.kp (D.h_one_choice).bi (takes_of rfl rfl rfl rfl) (sa_cons se_str (sa_cons (se_tup (sa_cons (sv 1) (sa_cons (sv 0) sa_nil))) sa_nil))) sa_nil)))))))
      (ss_cons (s_set sc__law_alike_right.nd (by rfl) (by first | exact Or.inl rfl | exact Or.inr rfl) (se_tup (sa_cons (se_tup (sa_cons (sv 0) (sa_cons (sv 1) sa_nil))) (sa_cons (se_tup (sa_cons (se_tup (sa_cons se_str (sa_cons (se_tup (sa_cons (se_tup (sa_cons se_int (sa_cons se_int sa_nil))) (sa_cons (se_tup (sa_cons se_int (sa_cons se_int sa_nil))) sa_nil))) sa_nil))) (sa_cons (se_tup (sa_cons se_str (sa_cons (se_tup (sa_cons (se_tup (sa_cons se_int (sa_cons se_int sa_nil))) (sa_cons (se_tup (sa_cons se_int (sa_cons se_int sa_nil))) sa_nil))) sa_nil))) (sa_cons (se_tup (sa_cons se_str (sa_cons (se_tup (sa_cons (se_tup (sa_cons se_int (sa_cons se_int sa_nil))) (sa_cons (se_tup (sa_cons se_int (sa_cons se_int sa_nil))) sa_nil))) sa_nil))) (sa_cons (se_tup (sa_cons se_str (sa_cons (se_tup (sa_cons (se_tup (sa_cons se_int (sa_cons se_int sa_nil))) sa_nil)) sa_nil))) sa_nil))))) sa_nil))))
      (ss_cons (s_expr (se_meth PySem.F.slot_list_append PySem.F.type_list_append mt_append om_append (sv 6) (sa_cons (se_call (ok_merged (base := base) D) (rm hr) (by rfl) (D.h_merged).gl (D.h_merged).F.kp (D.h_merged).bi (takes_of rfl rfl rfl rfl) (sa_cons (sv 8) sa_nil)) sa_nil)))
      (ss_cons (s_expr (se_meth PySem.F.slot_list_append PySem.F.type_list_append mt_append om_append (sv 7) (sa_cons (se_tup (sa_cons (se_tup (sa_cons (sv 1) (sa_cons (sv 0) sa_nil))) (sa_cons (se_tup (sa_cons (se_tup (sa_cons se_str (sa_cons (se_tup (sa_cons (se_tup (sa_cons se_int (sa_cons se_int sa_nil))) (sa_cons (se_tup (sa_cons se_int (sa_cons se_int sa_nil))) sa_nil))) sa_nil))) (sa_cons (se_tup (sa_cons se_str (sa_cons (se_tup (sa_cons (se_tup (sa_cons se_int (sa_cons se_int sa_nil))) (sa_cons (se_tup (sa_cons se_int (sa_cons se_int sa_nil))) sa_nil))) sa_nil))) (sa_cons (se_tup (sa_cons se_str (sa_cons (se_tup (sa_cons (se_tup (sa_cons se_int (sa_cons se_int sa_nil))) (sa_cons (se_tup (sa_cons se_int (sa_cons se_int sa_nil))) sa_nil))) sa_nil))) (sa_cons (se_tup (sa_cons se_str (sa_cons (se_tup (sa_cons (se_tup (sa_cons se_int (sa_cons se_int sa_nil))) sa_nil)) sa_nil))) sa_nil))))) sa_nil))) sa_nil)))
      (ss_cons (s_set sc__law_alike_right.nd (by rfl) (by first | exact Or.inl rfl | exact Or.inr rfl) (se_tup (sa_cons (se_tup (sa_cons (se_tup (sa_cons se_int (sa_cons se_int sa_nil))) (sa_cons (se_tup (sa_cons se_int sa_nil)) (sa_cons (se_tup (sa_cons se_int (sa_cons se_int sa_nil))) sa_nil)))) (sa_cons (se_tup (sa_cons (se_tup (sa_cons (se_tup (sa_cons se_int (sa_cons se_int sa_nil))) (sa_cons (se_tup (sa_cons se_int (sa_cons se_int sa_nil))) sa_nil))) (sa_cons (se_tup (sa_cons (se_tup (sa_cons se_int (sa_cons se_int sa_nil))) sa_nil)) (sa_cons (se_tup (sa_cons (se_tup (sa_cons se_int (sa_cons se_int sa_nil))) (sa_cons (se_tup (sa_cons se_int (sa_cons se_int sa_nil))) sa_nil))) sa_nil)))) sa_nil))))
      (ss_cons (s_set sc__law_alike_right.nd (by rfl) (by first | exact Or.inl rfl | exact Or.inr rfl) (se_add (sv 6) (se_lst (sa_cons (se_call (ok_renamed (base := base) D) (rm hr) (by rfl) (D.h_renamed).gl (D.h_renamed).F.kp (D.h_renamed).bi (takes_of rfl rfl rfl rfl) (sa_cons (sv 3) (sa_cons (se_tup (sa_cons se_int (sa_cons se_int (sa_cons se_int sa_nil)))) sa_nil))) (sa_cons (se_sub hr (se_sub hr (se_callK (ks := ["order", "machine"]) [1, 0] (ok_renamed (base := base) D) (rm hr) (by rfl) (D.h_renamed).gl (D.h_renamed).F.kp (fun s ws _ hl => match ws, hl with | [u0, u1], _ => bindsTo (D.h_renamed).F (fun _ _ _ _ _ _ => rfl)) (takes_of rfl rfl rfl rfl) (sk_cons (se_lst (sa_cons se_int (sa_cons se_int (sa_cons se_int sa_nil)))) (sk_cons (se_call (ok_one_round (base := base) D) (rm hr) (by rfl) (D.h_one_round).gl (D.h_one_round).F.kp (D.h_one_round).bi (takes_of rfl rfl rfl rfl) (sa_cons (se_tup (sa_cons (sv 9) sa_nil)) sa_nil)) sk_nil))) se_int (fun _ _ => rfl)) se_int (fun _ _ => rfl)) sa_nil)))))
      (ss_cons (s_set sc__law_alike_right.nd (by rfl) (by first | exact Or.inl rfl | exact Or.inr rfl) (se_add (sv 7) (se_lst (sa_cons (se_tup (sa_cons (se_tup (sa_cons (sv 1) (sa_cons (sv 0) sa_nil))) (sa_cons (se_sub hr (sv 3) se_int (fun _ _ => rfl)) sa_nil))) (sa_cons (se_tup (sa_cons (se_tup (sa_cons (se_tup (sa_cons se_int sa_nil)) (sa_cons (se_tup (sa_cons se_int (sa_cons se_int sa_nil))) (sa_cons (se_tup (sa_cons se_int (sa_cons se_int sa_nil))) sa_nil)))) (sa_cons (se_tup (sa_cons (se_tup (sa_cons (se_tup (sa_cons se_int (sa_cons se_int sa_nil))) sa_nil)) (sa_cons (se_tup (sa_cons (se_tup (sa_cons se_int (sa_cons se_int sa_nil))) (sa_cons (se_tup (sa_cons se_int (sa_cons se_int sa_nil))) sa_nil))) (sa_cons (se_tup (sa_cons (se_tup (sa_cons se_int (sa_cons se_int sa_nil))) (sa_cons (se_tup (sa_cons se_int (sa_cons se_int sa_nil))) sa_nil))) sa_nil)))) sa_nil))) sa_nil)))))
      (ss_cons (s_set sc__law_alike_right.nd (by rfl) (by first | exact Or.inl rfl | exact Or.inr rfl) (se_add (sv 6) (se_lst (sa_cons (se_call (ok_one_after_other (base := base) D) (rm hr) (by rfl) (D.h_one_after_other).gl (D.h_one_after_other).F.kp (D.h_one_after_other).bi (takes_of rfl rfl rfl rfl) (sa_cons (sv 2) (sa_cons (sv 3) sa_nil))) (sa_cons (se_sub hr (se_callK (ks := ["other", "machine"]) [1, 0] (ok_one_after_other (base := base) D) (rm hr) (by rfl) (D.h_one_after_other).gl (D.h_one_after_other).F.kp (fun s ws _ hl => match ws, hl with | [u0, u1], _ => bindsTo (D.h_one_after_other).F (fun _ _ _ _ _ _ => rfl)) (takes_of rfl rfl rfl rfl) (sk_cons (sv 2) (sk_cons (se_list D.m_list (sv 3)) sk_nil))) se_int (fun _ _ => rfl)) (sa_cons (se_call (mo__law_heard (base := base) D) (rm hr) (by rfl) (D.h__law_heard).gl (D.h__law_heard).F.kp (D.h__law_heard).bi (takes_of rfl rfl rfl rfl) (sa_cons se_int (sa_cons (sv 3) (sa_cons (sv 4) sa_nil)))) (sa_cons (se_call (mo__law_heard (base := base) D) (rm hr) (by rfl) (D.h__law_heard).gl (D.h__law_heard).F.kp (D.h__law_heard).bi (takes_of rfl rfl rfl rfl) (sa_cons se_int (sa_cons (sv 4) (sa_cons (sv 2) sa_nil)))) sa_nil)))))))
      (ss_cons (s_expr (se_meth PySem.F.slot_list_append PySem.F.type_list_append mt_append om_append (sv 7) (sa_cons (se_tup (sa_cons (se_tup (sa_cons (sv 0) (sa_cons (sv 1) (sa_cons (sv 0) (sa_cons (sv 1) sa_nil))))) (sa_cons (se_tup (sa_cons (se_tup (sa_cons se_str (sa_cons (se_tup (sa_cons (se_tup (sa_cons se_int (sa_cons se_int sa_nil))) (sa_cons (se_tup (sa_cons se_int (sa_cons se_int sa_nil))) sa_nil))) sa_nil))) (sa_cons (se_tup (sa_cons se_str (sa_cons (se_tup (sa_cons (se_tup (sa_cons se_int (sa_cons se_int sa_nil))) sa_nil)) sa_nil))) (sa_cons (se_tup (sa_cons se_str (sa_cons (se_tup (sa_cons (se_tup (sa_cons se_int (sa_cons se_int sa_nil))) sa_nil)) sa_nil))) sa_nil)))) sa_nil))) sa_nil)))
      (ss_cons (s_set sc__law_alike_right.nd (by rfl) (by first | exact Or.inl rfl | exact Or.inr rfl) (se_add (sv 7) (se_lst (sa_cons (se_tup (sa_cons (se_tup (sa_cons se_str (sa_cons (se_tup (sa_cons (se_tup (sa_cons se_int (sa_cons se_int sa_nil))) sa_nil)) sa_nil))) (sa_cons (se_tup (sa_cons se_str (sa_cons (se_tup (sa_cons (se_tup (sa_cons se_int (sa_cons se_int sa_nil))) sa_nil)) sa_nil))) (sa_cons (se_tup (sa_cons se_str (sa_cons (se_tup (sa_cons (se_tup (sa_cons se_int (sa_cons se_int sa_nil))) (sa_cons (se_tup (sa_cons se_int (sa_cons se_int sa_nil))) sa_nil))) sa_nil))) sa_nil)))) (sa_cons (se_lst (sa_cons se_str (sa_cons se_bl sa_nil))) (sa_cons (se_lst (sa_cons se_str (sa_cons se_bl sa_nil))) sa_nil))))))
      (ss_cons (s_set sc__law_alike_right.nd (by rfl) (by first | exact Or.inl rfl | exact Or.inr rfl) (se_lst (sa_cons (se_lc (own := [("own", 10)]) 10000 rfl sc__law_alike_right.nd (si_seq (se_sub hr (sv 3) se_int (fun _ _ => rfl))) (blk_of (by kernel_rfl)) (by decide) (fun _ _ _ _ _ => (sg_name sc__law_alike_right.nd (by rfl) (by first | exact Or.inl rfl | exact Or.inr rfl))) (fun _ _ _ _ _ => sts_nil) (fun _ _ _ _ _ => (se_list D.m_list (sv 10)))) (sa_cons (se_lc (own := [("own", 10)]) 10000 rfl sc__law_alike_right.nd (si_seq (se_sub hr (sv 3) se_int (fun _ _ => rfl))) (blk_of (by kernel_rfl)) (by decide) (fun _ _ _ _ _ => (sg_name sc__law_alike_right.nd (by rfl) (by first | exact Or.inl rfl | exact Or.inr rfl))) (fun _ _ _ _ _ => sts_nil) (fun _ _ _ _ _ => (se_list D.m_list (sv 10)))) sa_nil))))
      (ss_cons (s_set sc__law_alike_right.nd (by rfl) (by first | exact Or.inl rfl | exact Or.inr rfl) (se_add (sv 6) (se_lst (sa_cons (se_eq hr (se_call (ok_merged (base := base) D) (rm hr) (by rfl) (D.h_merged).gl (D.h_merged).F.kp (D.h_merged).bi (takes_of rfl rfl rfl rfl) (sa_cons (sv 11) sa_nil)) (sv 3)) (sa_cons (sv 11) sa_nil)))))
      (ss_one (s_ret (se_call (ok__law_same (base := base) D) (rm hr) (by rfl) (D.h__law_same).gl (D.h__law_same).F.kp (D.h__law_same).bi (takes_of rfl rfl rfl rfl) (sa_cons (sv 6) (sa_cons (se_add (sv 7) (se_lst (sa_cons se_bl (sa_cons (se_lst (sa_cons (se_lc (own := [("own", 10)]) 10000 rfl sc__law_alike_right.nd (si_seq (se_sub hr (sv 3) se_int (fun _ _ => rfl))) (blk_of (by kernel_rfl)) (by decide) (fun _ _ _ _ _ => (sg_name sc__law_alike_right.nd (by rfl) (by first | exact Or.inl rfl | exact Or.inr rfl))) (fun _ _ _ _ _ => sts_nil) (fun _ _ _ _ _ => (se_list D.m_list (sv 10)))) (sa_cons (se_lc (own := [("own", 10)]) 10000 rfl sc__law_alike_right.nd (si_seq (se_sub hr (sv 3) se_int (fun _ _ => rfl))) (blk_of (by kernel_rfl)) (by decide) (fun _ _ _ _ _ => (sg_name sc__law_alike_right.nd (by rfl) (by first | exact Or.inl rfl | exact Or.inr rfl))) (fun _ _ _ _ _ => sts_nil) (fun _ _ _ _ _ => (se_list D.m_list (sv 10)))) sa_nil))) sa_nil)))) sa_nil)))))))))))))))))))))))))
theorem ok__law_alike_right (D : Defs K mg) : FnOk P w K mg base (L2.CX P w) 13 (D.h__law_alike_right).f (D.h__law_alike_right).fd [] (spNc ⟨K, w, mg⟩ (tx D) F__law_alike_right) := fn_okD (g := g__law_alike_right) (D.h__law_alike_right).F sc__law_alike_right (hF := rfl) (h1 := rfl) (h2 := rfl) (body := fun cdv A outer s H E hr => b__law_alike_right D _ cdv A outer s H E hr)
theorem ft__law_alike_right : okT (F__law_alike_right [] []) = true := by decide +kernel
theorem fr__law_alike_right (D : Defs K mg) : FnOk P w K mg base (L2.CX P w) 13 (D.h__law_alike_right).f (D.h__law_alike_right).fd [] (spNc ⟨K, w, mg⟩ (tx D) Ftt) := ok_fresh (ok__law_alike_right D) ft__law_alike_right
/-! ### _law_within_right -/
theorem sc__law_within_right : FnScope ["s_so", "t_so", "free_so", "turn_so", "two_so", "got", "due", "far_so"] [] (defScope s__law_within_right) := ⟨rfl, rfl, rfl, by decide +kernel, rfl, by decide +kernel, by decide +kernel⟩
def g__law_within_right : DS := (gSeq (gAsg (dFn F__law_two dNil) (gTupD 2 (gsCons (gN 0) (gsCons (gN 1) gsNil))))
  (gSeq (gPar 2 3 (dCons (dFn F_one_choice (dCons (dC (.str "any")) (dCons (dTup (dCons (dVar 0) (dCons (dVar 1) dNil))) dNil))) (dCons (dFn F_one_round (dCons (dTup (dCons (dVar 0) (dCons (dVar 1) dNil))) dNil)) dNil)))
  (gSeq (gAsg (dTup (dCons (dTup (dCons (dVar 0) (dCons (dVar 1) dNil))) (dCons (dTup (dCons (dTup (dCons (dC (.str "any")) (dCons (dTup (dCons (dTup (dCons (dC (.int 0)) (dCons (dC (.int 1)) dNil))) (dCons (dTup (dCons (dC (.int 1)) (dCons (dC (.int 1)) dNil))) dNil))) dNil))) (dCons (dTup (dCons (dC (.str "ours")) (dCons (dTup (dCons (dTup (dCons (dC (.int 0)) (dCons (dC (.int 0)) dNil))) (dCons (dTup (dCons (dC (.int 1)) (dCons (dC (.int 0)) dNil))) dNil))) dNil))) dNil))) dNil))) (gN 4))
  (gSeq (gAsg (dLst (dCons (dFn F_within_rounds (dCons (dVar 4) (dCons (dTup (dCons (dTup (dCons (dC (.int 0)) (dCons (dC (.int 2)) dNil))) dNil)) dNil))) (dCons (dFn F_within_rounds (dCons (dVar 3) (dCons (dTup (dCons (dTup (dCons (dC (.int 0)) (dCons (dC (.int 2)) dNil))) dNil)) dNil))) (dCons (dFn F_within_rounds (dCons (dVar 2) (dCons (dTup (dCons (dTup (dCons (dC (.int 1)) (dCons (dC (.int 1)) dNil))) dNil)) dNil))) (dCons (dFnK F_within_rounds [1, 0] 2 (dCons (dLst dNil) (dCons (dCall oList (dCons (dVar 4) dNil)) dNil))) dNil))))) (gN 5))
  (gSeq (gAsg (dLst (dCons (dTup (dCons (dTup (dCons (dVar 0) (dCons (dVar 1) dNil))) (dCons (dTup (dCons (dTup (dCons (dC (.str "any")) (dCons (dTup (dCons (dTup (dCons (dC (.int 0)) (dCons (dC (.int 1)) dNil))) (dCons (dTup (dCons (dC (.int 1)) (dCons (dC (.int 2)) dNil))) dNil))) dNil))) (dCons (dTup (dCons (dC (.str "ours")) (dCons (dTup (dCons (dTup (dCons (dC (.int 0)) (dCons (dC (.int 0)) dNil))) (dCons (dTup (dCons (dC (.int 1)) (dCons (dC (.int 0)) dNil))) dNil))) dNil))) (dCons (dTup (dCons (dC (.str "ours")) (dCons (dTup (dCons (dTup (dCons (dC (.int 0)) (dCons (dC (.int 0)) dNil))) dNil)) dNil))) dNil)))) dNil))) dNil)) (gN 6))
  (gSeq (gAsg (dOp dAdd (dVar 6) (dLst (dCons (dVar 3) (dCons (dTup (dCons (dTup (dCons (dVar 0) (dCons (dVar 1) dNil))) (dCons (dTup (dCons (dTup (dCons (dC (.str "any")) (dCons (dTup (dCons (dTup (dCons (dC (.int 1)) (dCons (dC (.int 0)) dNil))) dNil)) dNil))) dNil)) dNil))) (dCons (dVar 4) dNil))))) (gN 6))
  (gSeq (gAsg (dOp dAdd (dVar 5) (dLst (dCons (dFn F_rounds (dCons (dFn F_within_rounds (dCons (dVar 4) (dCons (dTup (dCons (dTup (dCons (dC (.int 0)) (dCons (dC (.int 2)) dNil))) (dCons (dTup (dCons (dC (.int 1)) (dCons (dC (.int 2)) dNil))) dNil))) dNil))) dNil)) (dCons (dFn F_rounds (dCons (dFn F_within_rounds (dCons (dVar 4) (dCons (dLst (dCons (dLst (dCons (dC (.int 0)) (dCons (dC (.int 3)) dNil))) dNil)) dNil))) dNil)) (dCons (dFn M__law_heard (dCons (dC (.int 3)) (dCons (dVar 3) (dCons (dTup (dCons (dTup (dCons (dC (.int 0)) (dCons (dC (.int 1)) dNil))) dNil)) dNil)))) (dCons (dFn M__law_heard (dCons (dC (.int 3)) (dCons (dVar 4) (dCons (dTup (dCons (dTup (dCons (dC (.int 0)) (dCons (dC (.int 1)) dNil))) (dCons (dTup (dCons (dC (.int 1)) (dCons (dC (.int 2)) dNil))) dNil))) dNil)))) dNil)))))) (gN 5))
  (gSeq (gAsg (dOp dAdd (dVar 6) (dLst (dCons (dLst (dCons (dTup (dCons (dC (.int 0)) (dCons (dC (.int 0)) dNil))) (dCons (dTup (dCons (dC (.int 1)) (dCons (dC (.int 0)) dNil))) dNil))) (dCons (dLst (dCons (dTup (dCons (dC (.int 0)) (dCons (dC (.int 0)) dNil))) (dCons (dTup (dCons (dC (.int 0)) (dCons (dC (.int 1)) dNil))) (dCons (dTup (dCons (dC (.int 1)) (dCons (dC (.int 0)) dNil))) (dCons (dTup (dCons (dC (.int 1)) (dCons (dC (.int 1)) dNil))) dNil))))) (dCons (dLst (dCons (dC (.str "not")) (dCons (dC (.bl true)) dNil))) (dCons (dLst (dCons (dC (.str "not")) (dCons (dC (.bl true)) dNil))) dNil)))))) (gN 6))
  (gSeq (gAsg (dOp dAdd (dVar 5) (dLst (dCons (dFn M__law_heard (dCons (dC (.int 3)) (dCons (dVar 3) (dCons (dTup (dCons (dTup (dCons (dC (.int 0)) (dCons (dC (.int 2)) dNil))) (dCons (dTup (dCons (dC (.int 5)) (dCons (dC (.int 1)) dNil))) (dCons (dTup (dCons (dNeg (dC (.int 1))) (dCons (dC (.int 1)) dNil))) dNil)))) dNil)))) (dCons (dFn M__law_heard (dCons (dC (.int 3)) (dCons (dVar 3) (dCons (dTup (dCons (dTup (dCons (dNeg (dC (.int 1))) (dCons (dC (.int 6)) dNil))) (dCons (dTup (dCons (dC (.int 2)) (dCons (dC (.int 1)) dNil))) dNil))) dNil)))) (dCons (dFn M__law_heard (dCons (dC (.int 3)) (dCons (dVar 3) (dCons (dTup (dCons (dTup (dCons (dC (.int 2)) (dCons (dC (.int 1)) dNil))) (dCons (dTup (dCons (dC (.int 0)) (dCons (dC (.int 1)) dNil))) dNil))) dNil)))) dNil))))) (gN 5))
  (gSeq (gAsg (dOp dAdd (dVar 6) (dLst (dCons (dLst (dCons (dC (.str "place")) (dCons (dC (.int 5)) dNil))) (dCons (dLst (dCons (dC (.str "place")) (dCons (dNeg (dC (.int 1))) dNil))) (dCons (dLst (dCons (dC (.str "place")) (dCons (dC (.int 2)) dNil))) dNil))))) (gN 6))
  (gSeq (gAsg (dFn F_one_round (dCons (dTup (dCons (dVar 1) (dCons (dVar 0) (dCons (dVar 0) (dCons (dVar 1) dNil))))) dNil)) (gN 7))
  (gSeq (gAsg (dOp dAdd (dVar 5) (dLst (dCons (dCall oLen (dCons (dOp dIxA (dFn F_within_rounds (dCons (dVar 7) (dCons (dTup (dCons (dTup (dCons (dC (.int 0)) (dCons (dC (.int 4)) dNil))) (dCons (dTup (dCons (dC (.int 2)) (dCons (dC (.int 3)) dNil))) dNil))) dNil))) (dC (.int 1))) dNil)) (dCons (dFn M__law_heard (dCons (dC (.int 3)) (dCons (dVar 7) (dCons (dTup (dCons (dTup (dCons (dC (.int 1)) (dCons (dC (.int 2)) dNil))) dNil)) dNil)))) (dCons (dOp dEq (dOp dIxA (dFn F_within_rounds (dCons (dVar 7) (dCons (dTup (dCons (dTup (dCons (dC (.int 1)) (dCons (dC (.int 3)) dNil))) (dCons (dTup (dCons (dC (.int 0)) (dCons (dC (.int 4)) dNil))) dNil))) dNil))) (dC (.int 1))) (dOp dIxA (dVar 7) (dC (.int 1)))) dNil))))) (gN 5))
  (gRet (dFn (F__law_same RL) (dCons (dOp dAdd (dVar 5) (dLst (dCons (dFn M__law_heard (dCons (dC (.int 3)) (dCons (dVar 7) (dCons (dTup (dCons (dTup (dCons (dC (.int 0)) (dCons (dC (.int 3)) dNil))) dNil)) dNil)))) dNil))) (dCons (dOp dAdd (dVar 6) (dLst (dCons (dC (.int 4)) (dCons (dLst (dCons (dC (.str "not")) (dCons (dC (.bl true)) dNil))) (dCons (dC (.bl true)) (dCons (dLst (dCons (dC (.str "not")) (dCons (dC (.bl true)) dNil))) dNil)))))) dNil))))))))))))))))
def F__law_within_right : DF := runF g__law_within_right 0 8
theorem b__law_within_right (D : Defs K mg) (f : Addr) (cdv : Value) (A : Around) (outer : List Env) (s : Shared) (H : Hp) (E : XK) (hr : Room 12 (A.deeper (envOfC "_law_within_right" (defScope s__law_within_right) s.heap.objs.size f cdv))) :
    SSs (cxOf (L2.CX P w) P w K mg base ["s_so", "t_so", "free_so", "turn_so", "two_so", "got", "due", "far_so"] "_law_within_right" (defScope s__law_within_right) f cdv A outer s H E) (tx D) (wOf E) (defBody s__law_within_right) g__law_within_right :=
  (ss_cons (s_asg (se_call0 (ok__law_two (base := base) D) (rm hr) (by rfl) (D.h__law_two).gl (D.h__law_two).F.kp (D.h__law_two).bi (takes_of rfl rfl rfl rfl)) (sg_tup rfl (sgs_cons (sg_name sc__law_within_right.nd (by rfl) (by first | exact Or.inl rfl | exact Or.inr rfl)) (sgs_cons (sg_name sc__law_within_right.nd (by rfl) (by first | exact Or.inl rfl | exact Or.inr rfl)) sgs_nil))))
      (ss_cons (s_par rfl sc__law_within_right.nd (by rfl) (by rfl) (by decide) (by rfl) (by rfl) (sa_cons (se_call (ok_one_choice (base := base) D) (rm hr) (by rfl) (D.h_one_choice).gl (D.h_one_choice).F.kp (D.h_one_choice).bi (takes_of rfl rfl rfl rfl) (sa_cons se_str (sa_cons (se_tup (sa_cons (sv 0) (sa_cons (sv 1) sa_nil))) sa_nil))) (sa_cons (se_call (ok_one_round (base := base) D) (rm hr) (by rfl) (D.h_one_round).gl (D.h_one_round).F.kp (D.h_one_round).bi (takes_of rfl rfl rfl rfl) (sa_cons (se_tup (sa_cons (sv 0) (sa_cons (sv 1) sa_nil))) sa_nil)) sa_nil)) (by rfl))
      (ss_cons (s_set sc__law_within_right.nd (by rfl) (by first | exact Or.inl rfl | exact Or.inr rfl) (se_tup (sa_cons (se_tup (sa_cons (sv 0) (sa_cons (sv 1) sa_nil))) (sa_cons (se_tup (sa_cons (se_tup (sa_cons se_str (sa_cons (se_tup (sa_cons (se_tup (sa_cons se_int (sa_cons se_int sa_nil))) (sa_cons (se_tup (sa_cons se_int (sa_cons se_int sa_nil))) sa_nil))) sa_nil))) (sa_cons (se_tup (sa_cons se_str (sa_cons (se_tup (sa_cons (se_tup (sa_cons se_int (sa_cons se_int sa_nil))) (sa_cons (se_tup (sa_cons se_int (sa_cons se_int sa_nil))) sa_nil))) sa_nil))) sa_nil))) sa_nil))))
      (ss_cons (s_set sc__law_within_right.nd (by rfl) (by first | exact Or.inl rfl | exact Or.inr rfl) (se_lst (sa_cons (se_call (ok_within_rounds (base := base) D) (rm hr) (by rfl) (D.h_within_rounds).gl (D.h_within_rounds).F.kp (D.h_within_rounds).bi (takes_of rfl rfl rfl rfl) (sa_cons (sv 4) (sa_cons (se_tup (sa_cons (se_tup (sa_cons se_int (sa_cons se_int sa_nil))) sa_nil)) sa_nil))) (sa_cons (se_call (ok_within_rounds (base := base) D) (rm hr) (by rfl) (D.h_within_rounds).gl (D.h_within_rounds).F.kp (D.h_within_rounds).bi (takes_of rfl rfl rfl rfl) (sa_cons (sv 3) (sa_cons (se_tup (sa_cons (se_tup (sa_cons se_int (sa_cons se_int sa_nil))) sa_nil)) sa_nil))) (sa_cons (se_call (ok_within_rounds (base := base) D) (rm hr) (by rfl) (D.h_within_rounds).gl (D.h_within_rounds).F.kp (D.h_within_rounds).bi (takes_of rfl rfl rfl rfl) (sa_cons (sv 2) (sa_cons (se_tup (sa_cons (se_tup (sa_cons se_int (sa_cons se_int sa_nil))) sa_nil)) sa_nil))) (sa_cons (se_callK (ks := ["wants", "machine"]) [1, 0] (ok_within_rounds (base := base) D) (rm hr) (by rfl) (D.h_within_rounds).gl (D.h_within_rounds).F.kp (fun s ws _ hl => match ws, hl with | [u0, u1], _ => bindsTo (D.h_within_rounds).F (fun _ _ _ _ _ _ => rfl)) (takes_of rfl rfl rfl rfl) (sk_cons (se_lst sa_nil) (sk_cons (se_list D.m_list (sv 4)) sk_nil))) sa_nil))))))
      (ss_cons (s_set sc__law_within_right.nd (by rfl) (by first | exact Or.inl rfl | exact Or.inr rfl) (se_lst (sa_cons (se_tup (sa_cons (se_tup (sa_cons (sv 0) (sa_cons (sv 1) sa_nil))) (sa_cons (se_tup (sa_cons (se_tup (sa_cons se_str (sa_cons (se_tup (sa_cons (se_tup (sa_cons se_int (sa_cons se_int sa_nil))) (sa_cons (se_tup (sa_cons se_int (sa_cons se_int sa_nil))) sa_nil))) sa_nil))) (sa_cons (se_tup (sa_cons se_str (sa_cons (se_tup (sa_cons (se_tup (sa_cons se_int (sa_cons se_int sa_nil))) (sa_cons (se_tup (sa_cons se_int (sa_cons se_int sa_nil))) sa_nil))) sa_nil))) (sa_cons (se_tup (sa_cons se_str (sa_cons (se_tup (sa_cons (se_tup (sa_cons se_int (sa_cons se_int sa_nil))) sa_nil)) sa_nil))) sa_nil)))) sa_nil))) sa_nil)))
      (ss_cons (s_set sc__law_within_right.nd (by rfl) (by first | exact Or.inl rfl | exact Or.inr rfl) (se_add (sv 6) (se_lst (sa_cons (sv 3) (sa_cons (se_tup (sa_cons (se_tup (sa_cons (sv 0) (sa_cons (sv 1) sa_nil))) (sa_cons (se_tup (sa_cons (se_tup (sa_cons se_str (sa_cons (se_tup (sa_cons (se_tup (sa_cons se_int (sa_cons se_int sa_nil))) sa_nil)) sa_nil))) sa_nil)) sa_nil))) (sa_cons (sv 4) sa_nil))))))
      (ss_cons (s_set sc__law_within_right.nd (by rfl) (by first | exact Or.inl rfl | exact Or.inr rfl) (se_add (sv 5) (se_lst (sa_cons (se_call (ok_rounds (base := base) D) (rm hr) (by rfl) (D.h_rounds).gl (D.h_rounds).F.kp (D.h_rounds).bi (takes_of rfl rfl rfl rfl) (sa_cons (se_call (ok_within_rounds (base := base) D) (rm hr) (by rfl) (D.h_within_rounds).gl (D.h_within_rounds).F.kp (D.h_within_rounds).bi (takes_of rfl rfl rfl rfl) (sa_cons (sv 4) (sa_cons (se_tup (sa_cons (se_tup (sa_cons se_int (sa_cons se_int sa_nil))) (sa_cons (se_tup (sa_cons se_int (sa_cons se_int sa_nil))) sa_nil))) sa_nil))) sa_nil)) (sa_cons (se_call (ok_rounds (base := base) D) (rm hr) (by rfl) (D.h_rounds).gl (D.h_rounds).F.kp (D.h_rounds).bi (takes_of rfl rfl rfl rfl) (sa_cons (se_call (ok_within_rounds (base := base) D) (rm hr) (by rfl) (D.h_within_rounds).gl (D.h_within_rounds).F.kp (D.h_within_rounds).bi (takes_of rfl rfl rfl rfl) (sa_cons (sv 4) (sa_cons (se_lst (sa_cons (se_lst (sa_cons se_int (sa_cons se_int sa_nil))) sa_nil)) sa_nil))) sa_nil)) (sa_cons (se_call (mo__law_heard (base := base) D) (rm hr) (by rfl) (D.h__law_heard).gl (D.h__law_heard).F.kp (D.h__law_heard).bi (takes_of rfl rfl rfl rfl) (sa_cons se_int (sa_cons (sv 3) (sa_cons (se_tup (sa_cons (se_tup (sa_cons se_int (sa_cons se_int sa_nil))) sa_nil)) sa_nil)))) (sa_cons (se_call (mo__law_heard (base := base) D) (rm hr) (by rfl) (D.h__law_heard).gl (D.h__law_heard).F.kp (D.h__law_heard).bi (takes_of rfl rfl rfl rfl) (sa_cons se_int (sa_cons (sv 4) (sa_cons (se_tup (sa_cons (se_tup (sa_cons se_int (sa_cons se_int sa_nil))) (sa_cons (se_tup (sa_cons se_int (sa_cons se_int sa_nil))) sa_nil))) sa_nil)))) sa_nil)))))))
      (ss_cons (s_set sc__law_within_right.nd (by rfl) (by first | exact Or.inl rfl | exact Or.inr rfl) (se_add (sv 6) (se_lst (sa_cons (se_lst (sa_cons (se_tup (sa_cons se_int (sa_cons se_int sa_nil))) (sa_cons (se_tup (sa_cons se_int (sa_cons se_int sa_nil))) sa_nil))) (sa_cons (se_lst (sa_cons (se_tup (sa_cons se_int (sa_cons se_int sa_nil))) (sa_cons (se_tup (sa_cons se_int (sa_cons se_int sa_nil))) (sa_cons (se_tup (sa_cons se_int (sa_cons se_int sa_nil))) (sa_cons (se_tup (sa_cons se_int (sa_cons se_int sa_nil))) sa_nil))))) (sa_cons (se_lst (sa_cons se_str (sa_cons se_bl sa_nil))) (sa_cons (se_lst (sa_cons se_str (sa_cons se_bl sa_nil))) sa_nil)))))))
      (ss_cons (s_set sc__law_within_right.nd (by rfl) (by first | exact Or.inl rfl | exact Or.inr rfl) (se_add (sv 5) (se_lst (sa_cons (se_call (mo__law_heard (base := base) D) (rm hr) (by rfl) (D.h__law_heard).gl (D.h__law_heard).F.kp (D.h__law_heard).bi (takes_of rfl rfl rfl rfl) (sa_cons se_int (sa_cons (sv 3) (sa_cons (se_tup (sa_cons (se_tup (sa_cons se_int (sa_cons se_int sa_nil))) (sa_cons (se_tup (sa_cons se_int (sa_cons se_int sa_nil))) (sa_cons (se_tup (sa_cons (se_neg se_int) (sa_cons se_int sa_nil))) sa_nil)))) sa_nil)))) (sa_cons (se_call (mo__law_heard (base := base) D) (rm hr) (by rfl) (D.h__law_heard).gl (D.h__law_heard).F.kp (D.h__law_heard).bi (takes_of rfl rfl rfl rfl) (sa_cons se_int (sa_cons (sv 3) (sa_cons (se_tup (sa_cons (se_tup (sa_cons (se_neg se_int) (sa_cons se_int sa_nil))) (sa_cons (se_tup (sa_cons se_int (sa_cons se_int sa_nil))) sa_nil))) sa_nil)))) (sa_cons (se_call (mo__law_heard (base := base) D) (rm hr) (by rfl) (D.h__law_heard).gl (D.h__law_heard).F.kp (D.h__law_heard).bi (takes_of rfl rfl rfl rfl) (sa_cons se_int (sa_cons (sv 3) (sa_cons (se_tup (sa_cons (se_tup (sa_cons se_int (sa_cons se_int sa_nil))) (sa_cons (se_tup (sa_cons se_int (sa_cons se_int sa_nil))) sa_nil))) sa_nil)))) sa_nil))))))
      (ss_cons (s_set sc__law_within_right.nd (by rfl) (by first | exact Or.inl rfl | exact Or.inr rfl) (se_add (sv 6) (se_lst (sa_cons (se_lst (sa_cons se_str (sa_cons se_int sa_nil))) (sa_cons (se_lst (sa_cons se_str (sa_cons (se_neg se_int) sa_nil))) (sa_cons (se_lst (sa_cons se_str (sa_cons se_int sa_nil))) sa_nil))))))
      (ss_cons (s_set sc__law_within_right.nd (by rfl) (by first | exact Or.inl rfl | exact Or.inr rfl) (se_call (ok_one_round (base := base) D) (rm hr) (by rfl) (D.h_one_round).gl (D.h_one_round).F.kp (D.h_one_round).bi (takes_of rfl rfl rfl rfl) (sa_cons (se_tup (sa_cons (sv 1) (sa_cons (sv 0) (sa_cons (sv 0) (sa_cons (sv 1) sa_nil))))) sa_nil)))
      (ss_cons (s_set sc__law_within_right.nd (by rfl) (by first | exact Or.inl rfl | exact Or.inr rfl) (se_add (sv 5) (se_lst (sa_cons (se_len D.m_len (se_sub hr (se_call (ok_within_rounds (base := base) D) (rm hr) (by rfl) (D.h_within_rounds).gl (D.h_within_rounds).F.kp (D.h_within_rounds).bi (takes_of rfl rfl rfl rfl) (sa_cons (sv 7) (sa_cons (se_tup (sa_cons (se_tup (sa_cons se_int (sa_cons se_int sa_nil))) (sa_cons (se_tup (sa_cons se_int (sa_cons se_int sa_nil))) sa_nil))) sa_nil))) se_int (fun _ _ => rfl))) (sa_cons (se_call (mo__law_heard (base := base) D) (rm hr) (by rfl) (D.h__law_heard).gl (D.h__law_heard).F.kp (D.h__law_heard).bi (takes_of rfl rfl rfl rfl) (sa_cons se_int (sa_cons (sv 7) (sa_cons (se_tup (sa_cons (se_tup (sa_cons se_int (sa_cons se_int sa_nil))) sa_nil)) sa_nil)))) (sa_cons (se_eq hr (se_sub hr (se_call (ok_within_rounds (base := base) D) (rm hr) (by rfl) (D.h_within_rounds).gl (D.h_within_rounds).F.kp (D.h_within_rounds).bi (takes_of rfl rfl rfl rfl) (sa_cons (sv 7) (sa_cons (se_tup (sa_cons (se_tup (sa_cons se_int (sa_cons se_int sa_nil))) (sa_cons (se_tup (sa_cons se_int (sa_cons se_int sa_nil))) sa_nil))) sa_nil))) se_int (fun _ _ => rfl)) (se_sub hr (sv 7) se_int (fun _ _ => rfl))) sa_nil))))))
      (ss_one (s_ret (se_call (ok__law_same (base := base) D) (rm hr) (by rfl) (D.h__law_same).gl (D.h__law_same).F.kp (D.h__law_same).bi (takes_of rfl rfl rfl rfl) (sa_cons (se_add (sv 5) (se_lst (sa_cons (se_call (mo__law_heard (base := base) D) (rm hr) (by rfl) (D.h__law_heard).gl (D.h__law_heard).F.kp (D.h__law_heard).bi (takes_of rfl rfl rfl rfl) (sa_cons se_int (sa_cons (sv 7) (sa_cons (se_tup (sa_cons (se_tup (sa_cons se_int (sa_cons se_int sa_nil))) sa_nil)) sa_nil)))) sa_nil))) (sa_cons (se_add (sv 6) (se_lst (sa_cons se_int (sa_cons (se_lst (sa_cons se_str (sa_cons se_bl sa_nil))) (sa_cons se_bl (sa_cons (se_lst (sa_cons se_str (sa_cons se_bl sa_nil))) sa_nil)))))) sa_nil)))))))))))))))))
theorem ok__law_within_right (D : Defs K mg) : FnOk P w K mg base (L2.CX P w) 13 (D.h__law_within_right).f (D.h__law_within_right).fd [] (spNc ⟨K, w, mg⟩ (tx D) F__law_within_right) := fn_okD (g := g__law_within_right) (D.h__law_within_right).F sc__law_within_right (hF := rfl) (h1 := rfl) (h2 := rfl) (body := fun cdv A outer s H E hr => b__law_within_right D _ cdv A outer s H E hr)
theorem ft__law_within_right : okT (F__law_within_right [] []) = true := by decide +kernel
theorem fr__law_within_right (D : Defs K mg) : FnOk P w K mg base (L2.CX P w) 13 (D.h__law_within_right).f (D.h__law_within_right).fd [] (spNc ⟨K, w, mg⟩ (tx D) Ftt) := ok_fresh (ok__law_within_right D) ft__law_within_right
/-! ### law -/
theorem sc_law : FnScope ["script"] ["script"] (defScope s_law) := ⟨rfl, rfl, rfl, by decide +kernel, rfl, by decide +kernel, by decide +kernel⟩
def g_law : DS := (gRet (dAndV (dFn Ftt dNil) (dAndV (dFn Ftt dNil) (dFn Ftt dNil))))
def F_law : DF := runF g_law 1 1
theorem b_law (D : Defs K mg) (f : Addr) (cdv : Value) (A : Around) (outer : List Env) (s : Shared) (H : Hp) (E : XK) (hr : Room 13 (A.deeper (envOfC "law" (defScope s_law) s.heap.objs.size f cdv))) :
    SSs (cxOf (L2.CX P w) P w K mg base ["script"] "law" (defScope s_law) f cdv A outer s H E) (tx D) (wOf E) (defBody s_law) g_law :=
  (ss_one (s_ret (se_and (se_call0 (fr__law_made_right (base := base) D) (rm hr) (by rfl) (D.h__law_made_right).gl (D.h__law_made_right).F.kp (D.h__law_made_right).bi (takes_of rfl rfl rfl rfl)) (se_and (se_call0 (fr__law_alike_right (base := base) D) (rm hr) (by rfl) (D.h__law_alike_right).gl (D.h__law_alike_right).F.kp (D.h__law_alike_right).bi (takes_of rfl rfl rfl rfl)) (se_one (se_call0 (fr__law_within_right (base := base) D) (rm hr) (by rfl) (D.h__law_within_right).gl (D.h__law_within_right).F.kp (D.h__law_within_right).bi (takes_of rfl rfl rfl rfl)))))))
theorem ok_law (D : Defs K mg) : FnOk P w K mg base (L2.CX P w) 14 (D.h_law).f (D.h_law).fd ["script"] (spNc ⟨K, w, mg⟩ (tx D) F_law) := fn_okD (g := g_law) (D.h_law).F sc_law (hF := rfl) (h1 := rfl) (h2 := rfl) (body := fun cdv A outer s H E hr => b_law D _ cdv A outer s H E hr)
theorem okL_law (D : Defs K mg) (ok : okT (runFree g_law 1) = true) : FnOk P w K mg base (L2.CX P w) 14 (D.h_law).f (D.h_law).fd ["script"] (spTrue 1) := fn_okFree (g := g_law) (D.h_law).F sc_law (by decide) (fun cdv A outer s H E hr => b_law D _ cdv A outer s H E hr) ok
theorem law_true : okT (runFree g_law 1) = true := by decide +kernel
end
end K17
open PySem PySem.W PyProof.Rows Nc K17
set_option maxHeartbeats 0 in
theorem PySem.Challenge.cw_nearercamps_k12_machines_by_hand_and_wha_holds : PySem.Challenge.rw_nearercamps_k12_machines_by_hand_and_wha.Holds := by
  w_on; o_law; k_head; (case hw => w_witness2)
  k_fill
  refine L2.walk_of (l := PySem.Challenge.rw_nearercamps_k12_machines_by_hand_and_wha) (n := 63) (k := 14) (x := "script") (CX := fun w => L2.CX PySem.Challenge.pw_nearercamps_k12_machines_by_hand_and_wha w) (sp := fun w => spTrue 1) rfl (by decide) rfl ⟨rfl, by decide, by decide⟩ (fun w h Y => PySem.W.kIn_of Y) ?F (fun _ _ a ns hl _ hS => ⟨rfl, fun _ => rfl⟩) (fun _ _ _ _ _ h => no_end h)
  case F =>
    intro w mg fa h KX G hmg
    obtain ⟨h_is_number⟩ : Nonempty (Df _ mg "is_number" s_is_number ["thing"]) := by
      refine' mkDf KX G ?a ?l ?c ?k (fun _ _ _ _ _ _ us hl => match us, hl with | [_], _ => rfl)
      (case a => k_is); (case l => k_is); (case c => k_is); (case k => k_is)
    obtain ⟨h_is_number_below⟩ : Nonempty (Df _ mg "is_number_below" s_is_number_below ["thing", "limit"]) := by
      refine' mkDf KX G ?a ?l ?c ?k (fun _ _ _ _ _ _ us hl => match us, hl with | [_, _], _ => rfl)
      (case a => k_is); (case l => k_is); (case c => k_is); (case k => k_is)
    obtain ⟨h_is_tuple_of⟩ : Nonempty (Df _ mg "is_tuple_of" s_is_tuple_of ["thing", "count"]) := by
      refine' mkDf KX G ?a ?l ?c ?k (fun _ _ _ _ _ _ us hl => match us, hl with | [_, _], _ => rfl)
      (case a => k_is); (case l => k_is); (case c => k_is); (case k => k_is)
    obtain ⟨h_is_filled_tuple⟩ : Nonempty (Df _ mg "is_filled_tuple" s_is_filled_tuple ["thing"]) := by
      refine' mkDf KX G ?a ?l ?c ?k (fun _ _ _ _ _ _ us hl => match us, hl with | [_], _ => rfl)
      (case a => k_is); (case l => k_is); (case c => k_is); (case k => k_is)
    obtain ⟨h_is_rising⟩ : Nonempty (Df _ mg "is_rising" s_is_rising ["values"]) := by
      refine' mkDf KX G ?a ?l ?c ?k (fun _ _ _ _ _ _ us hl => match us, hl with | [_], _ => rfl)
      (case a => k_is); (case l => k_is); (case c => k_is); (case k => k_is)
    obtain ⟨h_frozen⟩ : Nonempty (Df _ mg "frozen" s_frozen ["value"]) := by
      refine' mkDf KX G ?a ?l ?c ?k (fun _ _ _ _ _ _ us hl => match us, hl with | [_], _ => rfl)
      (case a => k_is); (case l => k_is); (case c => k_is); (case k => k_is)
    obtain ⟨h_ascending⟩ : Nonempty (Df _ mg "ascending" s_ascending ["values"]) := by
      refine' mkDf KX G ?a ?l ?c ?k (fun _ _ _ _ _ _ us hl => match us, hl with | [_], _ => rfl)
      (case a => k_is); (case l => k_is); (case c => k_is); (case k => k_is)
    obtain ⟨h_inner_order⟩ : Nonempty (Df _ mg "inner_order" s_inner_order ["stands"]) := by
      refine' mkDf KX G ?a ?l ?c ?k (fun _ _ _ _ _ _ us hl => match us, hl with | [_], _ => rfl)
      (case a => k_is); (case l => k_is); (case c => k_is); (case k => k_is)
    obtain ⟨h_end_of⟩ : Nonempty (Df _ mg "end_of" s_end_of ["stands", "stand", "row"]) := by
      refine' mkDf KX G ?a ?l ?c ?k (fun _ _ _ _ _ _ us hl => match us, hl with | [_, _, _], _ => rfl)
      (case a => k_is); (case l => k_is); (case c => k_is); (case k => k_is)
    obtain ⟨h_longer_rows⟩ : Nonempty (Df _ mg "longer_rows" s_longer_rows ["stands", "found"]) := by
      refine' mkDf KX G ?a ?l ?c ?k (fun _ _ _ _ _ _ us hl => match us, hl with | [_, _], _ => rfl)
      (case a => k_is); (case l => k_is); (case c => k_is); (case k => k_is)
    obtain ⟨h_met_order⟩ : Nonempty (Df _ mg "met_order" s_met_order ["begin", "arrows"]) := by
      refine' mkDf KX G ?a ?l ?c ?k (fun _ _ _ _ _ _ us hl => match us, hl with | [_, _], _ => rfl)
      (case a => k_is); (case l => k_is); (case c => k_is); (case k => k_is)
    obtain ⟨h_numbers_of⟩ : Nonempty (Df _ mg "numbers_of" s_numbers_of ["values", "known"]) := by
      refine' mkDf KX G ?a ?l ?c ?k (fun _ _ _ _ _ _ us hl => match us, hl with | [_, _], _ => rfl)
      (case a => k_is); (case l => k_is); (case c => k_is); (case k => k_is)
    obtain ⟨h_kind_of_stand⟩ : Nonempty (Df _ mg "kind_of_stand" s_kind_of_stand ["stand", "step_kinds", "stand_kinds"]) := by
      refine' mkDf KX G ?a ?l ?c ?k (fun _ _ _ _ _ _ us hl => match us, hl with | [_, _, _], _ => rfl)
      (case a => k_is); (case l => k_is); (case c => k_is); (case k => k_is)
    obtain ⟨h_inner_kinds⟩ : Nonempty (Df _ mg "inner_kinds" s_inner_kinds ["stands", "step_kinds", "known"]) := by
      refine' mkDf KX G ?a ?l ?c ?k (fun _ _ _ _ _ _ us hl => match us, hl with | [_, _, _], _ => rfl)
      (case a => k_is); (case l => k_is); (case c => k_is); (case k => k_is)
    obtain ⟨h_begin_kind⟩ : Nonempty (Df _ mg "begin_kind" s_begin_kind ["machine", "known_steps", "known_kinds"]) := by
      refine' mkDf KX G ?a ?l ?c ?k (fun _ _ _ _ _ _ us hl => match us, hl with | [_, _, _], _ => rfl)
      (case a => k_is); (case l => k_is); (case c => k_is); (case k => k_is)
    obtain ⟨h_counts_behind⟩ : Nonempty (Df _ mg "counts_behind" s_counts_behind ["counts", "wants", "step"]) := by
      refine' mkDf KX G ?a ?l ?c ?k (fun _ _ _ _ _ _ us hl => match us, hl with | [_, _, _], _ => rfl)
      (case a => k_is); (case l => k_is); (case c => k_is); (case k => k_is)
    obtain ⟨h_short_arrows⟩ : Nonempty (Df _ mg "short_arrows" s_short_arrows ["stands", "pair", "wants"]) := by
      refine' mkDf KX G ?a ?l ?c ?k (fun _ _ _ _ _ _ us hl => match us, hl with | [_, _, _], _ => rfl)
      (case a => k_is); (case l => k_is); (case c => k_is); (case k => k_is)
    obtain ⟨h_met_pairs⟩ : Nonempty (Df _ mg "met_pairs" s_met_pairs ["stands", "wants"]) := by
      refine' mkDf KX G ?a ?l ?c ?k (fun _ _ _ _ _ _ us hl => match us, hl with | [_, _], _ => rfl)
      (case a => k_is); (case l => k_is); (case c => k_is); (case k => k_is)
    obtain ⟨h_ending_pairs⟩ : Nonempty (Df _ mg "ending_pairs" s_ending_pairs ["stands", "wants"]) := by
      refine' mkDf KX G ?a ?l ?c ?k (fun _ _ _ _ _ _ us hl => match us, hl with | [_, _], _ => rfl)
      (case a => k_is); (case l => k_is); (case c => k_is); (case k => k_is)
    obtain ⟨h_is_lot⟩ : Nonempty (Df _ mg "is_lot" s_is_lot ["thing", "n"]) := by
      refine' mkDf KX G ?a ?l ?c ?k (fun _ _ _ _ _ _ us hl => match us, hl with | [_, _], _ => rfl)
      (case a => k_is); (case l => k_is); (case c => k_is); (case k => k_is)
    obtain ⟨h_is_looks⟩ : Nonempty (Df _ mg "is_looks" s_is_looks ["thing", "n"]) := by
      refine' mkDf KX G ?a ?l ?c ?k (fun _ _ _ _ _ _ us hl => match us, hl with | [_, _], _ => rfl)
      (case a => k_is); (case l => k_is); (case c => k_is); (case k => k_is)
    obtain ⟨h_is_fraction⟩ : Nonempty (Df _ mg "is_fraction" s_is_fraction ["thing"]) := by
      refine' mkDf KX G ?a ?l ?c ?k (fun _ _ _ _ _ _ us hl => match us, hl with | [_], _ => rfl)
      (case a => k_is); (case l => k_is); (case c => k_is); (case k => k_is)
    obtain ⟨h_lowest⟩ : Nonempty (Df _ mg "lowest" s_lowest ["top", "bottom"]) := by
      refine' mkDf KX G ?a ?l ?c ?k (fun _ _ _ _ _ _ us hl => match us, hl with | [_, _], _ => rfl)
      (case a => k_is); (case l => k_is); (case c => k_is); (case k => k_is)
    obtain ⟨h_plus⟩ : Nonempty (Df _ mg "plus" s_plus ["one", "other"]) := by
      refine' mkDf KX G ?a ?l ?c ?k (fun _ _ _ _ _ _ us hl => match us, hl with | [_, _], _ => rfl)
      (case a => k_is); (case l => k_is); (case c => k_is); (case k => k_is)
    obtain ⟨h_total_of⟩ : Nonempty (Df _ mg "total_of" s_total_of ["numbers"]) := by
      refine' mkDf KX G ?a ?l ?c ?k (fun _ _ _ _ _ _ us hl => match us, hl with | [_], _ => rfl)
      (case a => k_is); (case l => k_is); (case c => k_is); (case k => k_is)
    obtain ⟨h_is_row_of⟩ : Nonempty (Df _ mg "is_row_of" s_is_row_of ["thing", "count"]) := by
      refine' mkDf KX G ?a ?l ?c ?k (fun _ _ _ _ _ _ us hl => match us, hl with | [_, _], _ => rfl)
      (case a => k_is); (case l => k_is); (case c => k_is); (case k => k_is)
    obtain ⟨h_are_rows⟩ : Nonempty (Df _ mg "are_rows" s_are_rows ["thing", "looks"]) := by
      refine' mkDf KX G ?a ?l ?c ?k (fun _ _ _ _ _ _ us hl => match us, hl with | [_, _], _ => rfl)
      (case a => k_is); (case l => k_is); (case c => k_is); (case k => k_is)
    obtain ⟨h_is_step⟩ : Nonempty (Df _ mg "is_step" s_is_step ["thing", "n"]) := by
      refine' mkDf KX G ?a ?l ?c ?k (fun _ _ _ _ _ _ us hl => match us, hl with | [_, _], _ => rfl)
      (case a => k_is); (case l => k_is); (case c => k_is); (case k => k_is)
    obtain ⟨h_is_arrow⟩ : Nonempty (Df _ mg "is_arrow" s_is_arrow ["thing", "steps", "stands"]) := by
      refine' mkDf KX G ?a ?l ?c ?k (fun _ _ _ _ _ _ us hl => match us, hl with | [_, _, _], _ => rfl)
      (case a => k_is); (case l => k_is); (case c => k_is); (case k => k_is)
    obtain ⟨h_is_stand⟩ : Nonempty (Df _ mg "is_stand" s_is_stand ["thing", "steps", "stands"]) := by
      refine' mkDf KX G ?a ?l ?c ?k (fun _ _ _ _ _ _ us hl => match us, hl with | [_, _, _], _ => rfl)
      (case a => k_is); (case l => k_is); (case c => k_is); (case k => k_is)
    obtain ⟨h_is_machine⟩ : Nonempty (Df _ mg "is_machine" s_is_machine ["thing", "n"]) := by
      refine' mkDf KX G ?a ?l ?c ?k (fun _ _ _ _ _ _ us hl => match us, hl with | [_, _], _ => rfl)
      (case a => k_is); (case l => k_is); (case c => k_is); (case k => k_is)
    obtain ⟨h_places_of⟩ : Nonempty (Df _ mg "places_of" s_places_of ["machine"]) := by
      refine' mkDf KX G ?a ?l ?c ?k (fun _ _ _ _ _ _ us hl => match us, hl with | [_], _ => rfl)
      (case a => k_is); (case l => k_is); (case c => k_is); (case k => k_is)
    obtain ⟨h_one_round⟩ : Nonempty (Df _ mg "one_round" s_one_round ["steps"]) := by
      refine' mkDf KX G ?a ?l ?c ?k (fun _ _ _ _ _ _ us hl => match us, hl with | [_], _ => rfl)
      (case a => k_is); (case l => k_is); (case c => k_is); (case k => k_is)
    obtain ⟨h_one_choice⟩ : Nonempty (Df _ mg "one_choice" s_one_choice ["owner", "steps"]) := by
      refine' mkDf KX G ?a ?l ?c ?k (fun _ _ _ _ _ _ us hl => match us, hl with | [_, _], _ => rfl)
      (case a => k_is); (case l => k_is); (case c => k_is); (case k => k_is)
    obtain ⟨h_choices⟩ : Nonempty (Df _ mg "choices" s_choices ["machine", "owner"]) := by
      refine' mkDf KX G ?a ?l ?c ?k (fun _ _ _ _ _ _ us hl => match us, hl with | [_, _], _ => rfl)
      (case a => k_is); (case l => k_is); (case c => k_is); (case k => k_is)
    obtain ⟨h_is_row⟩ : Nonempty (Df _ mg "is_row" s_is_row ["machine", "stand", "thing"]) := by
      refine' mkDf KX G ?a ?l ?c ?k (fun _ _ _ _ _ _ us hl => match us, hl with | [_, _, _], _ => rfl)
      (case a => k_is); (case l => k_is); (case c => k_is); (case k => k_is)
    obtain ⟨h_row_end⟩ : Nonempty (Df _ mg "row_end" s_row_end ["machine", "stand", "row"]) := by
      refine' mkDf KX G ?a ?l ?c ?k (fun _ _ _ _ _ _ us hl => match us, hl with | [_, _, _], _ => rfl)
      (case a => k_is); (case l => k_is); (case c => k_is); (case k => k_is)
    obtain ⟨h_rows_of⟩ : Nonempty (Df _ mg "rows_of" s_rows_of ["machine", "stand", "many"]) := by
      refine' mkDf KX G ?a ?l ?c ?k (fun _ _ _ _ _ _ us hl => match us, hl with | [_, _, _], _ => rfl)
      (case a => k_is); (case l => k_is); (case c => k_is); (case k => k_is)
    obtain ⟨h_count_rounds⟩ : Nonempty (Df _ mg "count_rounds" s_count_rounds ["stands"]) := by
      refine' mkDf KX G ?a ?l ?c ?k (fun _ _ _ _ _ _ us hl => match us, hl with | [_], _ => rfl)
      (case a => k_is); (case l => k_is); (case c => k_is); (case k => k_is)
    obtain ⟨h_rounds⟩ : Nonempty (Df _ mg "rounds" s_rounds ["machine"]) := by
      refine' mkDf KX G ?a ?l ?c ?k (fun _ _ _ _ _ _ us hl => match us, hl with | [_], _ => rfl)
      (case a => k_is); (case l => k_is); (case c => k_is); (case k => k_is)
    obtain ⟨h_round_lengths⟩ : Nonempty (Df _ mg "round_lengths" s_round_lengths ["machine"]) := by
      refine' mkDf KX G ?a ?l ?c ?k (fun _ _ _ _ _ _ us hl => match us, hl with | [_], _ => rfl)
      (case a => k_is); (case l => k_is); (case c => k_is); (case k => k_is)
    obtain ⟨h_go_alike⟩ : Nonempty (Df _ mg "go_alike" s_go_alike ["machine", "other"]) := by
      refine' mkDf KX G ?a ?l ?c ?k (fun _ _ _ _ _ _ us hl => match us, hl with | [_, _], _ => rfl)
      (case a => k_is); (case l => k_is); (case c => k_is); (case k => k_is)
    obtain ⟨h_stands_as_met⟩ : Nonempty (Df _ mg "stands_as_met" s_stands_as_met ["begin", "arrows", "owners"]) := by
      refine' mkDf KX G ?a ?l ?c ?k (fun _ _ _ _ _ _ us hl => match us, hl with | [_, _, _], _ => rfl)
      (case a => k_is); (case l => k_is); (case c => k_is); (case k => k_is)
    obtain ⟨h_steps_as_met⟩ : Nonempty (Df _ mg "steps_as_met" s_steps_as_met ["steps", "stands"]) := by
      refine' mkDf KX G ?a ?l ?c ?k (fun _ _ _ _ _ _ us hl => match us, hl with | [_, _], _ => rfl)
      (case a => k_is); (case l => k_is); (case c => k_is); (case k => k_is)
    obtain ⟨h_each_once⟩ : Nonempty (Df _ mg "each_once" s_each_once ["values"]) := by
      refine' mkDf KX G ?a ?l ?c ?k (fun _ _ _ _ _ _ us hl => match us, hl with | [_], _ => rfl)
      (case a => k_is); (case l => k_is); (case c => k_is); (case k => k_is)
    obtain ⟨h_merged⟩ : Nonempty (Df _ mg "merged" s_merged ["machine"]) := by
      refine' mkDf KX G ?a ?l ?c ?k (fun _ _ _ _ _ _ us hl => match us, hl with | [_], _ => rfl)
      (case a => k_is); (case l => k_is); (case c => k_is); (case k => k_is)
    obtain ⟨h_renamed_step⟩ : Nonempty (Df _ mg "renamed_step" s_renamed_step ["step", "order"]) := by
      refine' mkDf KX G ?a ?l ?c ?k (fun _ _ _ _ _ _ us hl => match us, hl with | [_, _], _ => rfl)
      (case a => k_is); (case l => k_is); (case c => k_is); (case k => k_is)
    obtain ⟨h_renamed⟩ : Nonempty (Df _ mg "renamed" s_renamed ["machine", "order"]) := by
      refine' mkDf KX G ?a ?l ?c ?k (fun _ _ _ _ _ _ us hl => match us, hl with | [_, _], _ => rfl)
      (case a => k_is); (case l => k_is); (case c => k_is); (case k => k_is)
    obtain ⟨h_one_after_other⟩ : Nonempty (Df _ mg "one_after_other" s_one_after_other ["machine", "other"]) := by
      refine' mkDf KX G ?a ?l ?c ?k (fun _ _ _ _ _ _ us hl => match us, hl with | [_, _], _ => rfl)
      (case a => k_is); (case l => k_is); (case c => k_is); (case k => k_is)
    obtain ⟨h_within_rounds⟩ : Nonempty (Df _ mg "within_rounds" s_within_rounds ["machine", "wants"]) := by
      refine' mkDf KX G ?a ?l ?c ?k (fun _ _ _ _ _ _ us hl => match us, hl with | [_, _], _ => rfl)
      (case a => k_is); (case l => k_is); (case c => k_is); (case k => k_is)
    obtain ⟨h__law_same⟩ : Nonempty (Df _ mg "_law_same" s__law_same ["got", "due"]) := by
      refine' mkDf KX G ?a ?l ?c ?k (fun _ _ _ _ _ _ us hl => match us, hl with | [_, _], _ => rfl)
      (case a => k_is); (case l => k_is); (case c => k_is); (case k => k_is)
    obtain ⟨h__law_two⟩ : Nonempty (Df _ mg "_law_two" s__law_two []) := by
      refine' mkDf KX G ?a ?l ?c ?k (fun _ _ _ _ _ _ us hl => match us, hl with | [], _ => rfl)
      (case a => k_is); (case l => k_is); (case c => k_is); (case k => k_is)
    obtain ⟨h__law_bad⟩ : Nonempty (Df _ mg "_law_bad" s__law_bad []) := by
      refine' mkDf KX G ?a ?l ?c ?k (fun _ _ _ _ _ _ us hl => match us, hl with | [], _ => rfl)
      (case a => k_is); (case l => k_is); (case c => k_is); (case k => k_is)
    obtain ⟨h__law_chain⟩ : Nonempty (Df _ mg "_law_chain" s__law_chain ["many_so"]) := by
      refine' mkDf KX G ?a ?l ?c ?k (fun _ _ _ _ _ _ us hl => match us, hl with | [_], _ => rfl)
      (case a => k_is); (case l => k_is); (case c => k_is); (case k => k_is)
    obtain ⟨h__law_wide⟩ : Nonempty (Df _ mg "_law_wide" s__law_wide ["widths_so"]) := by
      refine' mkDf KX G ?a ?l ?c ?k (fun _ _ _ _ _ _ us hl => match us, hl with | [_], _ => rfl)
      (case a => k_is); (case l => k_is); (case c => k_is); (case k => k_is)
    obtain ⟨h__law_heard⟩ : Nonempty (Df _ mg "_law_heard" s__law_heard ["door_so", "machine_so", "more_so"]) := by
      refine' mkDf KX G ?a ?l ?c ?k (fun _ _ _ _ _ _ us hl => match us, hl with | [_, _, _], _ => rfl)
      (case a => k_is); (case l => k_is); (case c => k_is); (case k => k_is)
    obtain ⟨h__law_made_right⟩ : Nonempty (Df _ mg "_law_made_right" s__law_made_right []) := by
      refine' mkDf KX G ?a ?l ?c ?k (fun _ _ _ _ _ _ us hl => match us, hl with | [], _ => rfl)
      (case a => k_is); (case l => k_is); (case c => k_is); (case k => k_is)
    obtain ⟨h__law_alike_right⟩ : Nonempty (Df _ mg "_law_alike_right" s__law_alike_right []) := by
      refine' mkDf KX G ?a ?l ?c ?k (fun _ _ _ _ _ _ us hl => match us, hl with | [], _ => rfl)
      (case a => k_is); (case l => k_is); (case c => k_is); (case k => k_is)
    obtain ⟨h__law_within_right⟩ : Nonempty (Df _ mg "_law_within_right" s__law_within_right []) := by
      refine' mkDf KX G ?a ?l ?c ?k (fun _ _ _ _ _ _ us hl => match us, hl with | [], _ => rfl)
      (case a => k_is); (case l => k_is); (case c => k_is); (case k => k_is)
    obtain ⟨h_law⟩ : Nonempty (Df _ mg "law" s_law ["script"]) := by
      refine' mkDf KX G ?a ?l ?c ?k (fun _ _ _ _ _ _ us hl => match us, hl with | [_], _ => rfl)
      (case a => k_is); (case l => k_is); (case c => k_is); (case k => k_is)
    obtain ⟨x_NoPlace⟩ : Nonempty (ExL _ mg "NoPlace" "NoPlace.__init__" (topS 20) "place" "LookupError") := by
      refine' mkExL KX G ?aC ?xL ?sa ?exC ?tyC ?kC ?a1 ?t1 ?l ?c ?k (fun _ _ _ _ _ _ us hl => match us, hl with | [_, _], _ => rfl) ?hg ?hk ?hd ?ha ?hn ?ht ?hm ?no ?sC ?hB ?eB
      (case aC => k_is); (case xL => k_is); (case sa => k_is); (case exC => k_is); (case tyC => k_is); (case kC => k_is); (case a1 => k_is); (case t1 => k_is); (case l => k_is); (case c => k_is); (case k => k_is); (case hg => k_is); (case hk => k_is); (case hd => k_is); (case ha => k_is); (case hn => k_is); (case ht => k_is); (case hm => k_is); (case no => k_is); (case sC => first | rfl | k_is); (case hB => decide +kernel); (case eB => k_is)
    obtain ⟨x_CanNot⟩ : Nonempty (Ex _ mg "CanNot" "CanNot.__init__" (topS 21) "ValueError") := by
      refine' mkEx KX G ?aC ?xL ?xV ?sa ?exC ?tyC ?kC ?a1 ?t1 ?l ?c ?k (fun _ _ _ _ _ _ us hl => match us, hl with | [_], _ => rfl) ?hg ?hk ?hd ?ha ?hn ?ht ?hm ?sC ?hB ?eB
      (case aC => k_is); (case xL => k_is); (case xV => decide +kernel); (case sa => k_is); (case exC => k_is); (case tyC => k_is); (case kC => k_is); (case a1 => k_is); (case t1 => k_is); (case l => k_is); (case c => k_is); (case k => k_is); (case hg => k_is); (case hk => k_is); (case hd => k_is); (case ha => k_is); (case hn => k_is); (case ht => k_is); (case hm => k_is); (case sC => first | rfl | k_is); (case hB => decide +kernel); (case eB => k_is)
    obtain ⟨x_TooMuch⟩ : Nonempty (Ex _ mg "TooMuch" "TooMuch.__init__" (topS 22) "ValueError") := by
      refine' mkEx KX G ?aC ?xL ?xV ?sa ?exC ?tyC ?kC ?a1 ?t1 ?l ?c ?k (fun _ _ _ _ _ _ us hl => match us, hl with | [_], _ => rfl) ?hg ?hk ?hd ?ha ?hn ?ht ?hm ?sC ?hB ?eB
      (case aC => k_is); (case xL => k_is); (case xV => decide +kernel); (case sa => k_is); (case exC => k_is); (case tyC => k_is); (case kC => k_is); (case a1 => k_is); (case t1 => k_is); (case l => k_is); (case c => k_is); (case k => k_is); (case hg => k_is); (case hk => k_is); (case hd => k_is); (case ha => k_is); (case hn => k_is); (case ht => k_is); (case hm => k_is); (case sC => first | rfl | k_is); (case hB => decide +kernel); (case eB => k_is)
    obtain ⟨x_Unfit⟩ : Nonempty (Ex _ mg "Unfit" "Unfit.__init__" (topS 23) "ValueError") := by
      refine' mkEx KX G ?aC ?xL ?xV ?sa ?exC ?tyC ?kC ?a1 ?t1 ?l ?c ?k (fun _ _ _ _ _ _ us hl => match us, hl with | [_], _ => rfl) ?hg ?hk ?hd ?ha ?hn ?ht ?hm ?sC ?hB ?eB
      (case aC => k_is); (case xL => k_is); (case xV => decide +kernel); (case sa => k_is); (case exC => k_is); (case tyC => k_is); (case kC => k_is); (case a1 => k_is); (case t1 => k_is); (case l => k_is); (case c => k_is); (case k => k_is); (case hg => k_is); (case hk => k_is); (case hd => k_is); (case ha => k_is); (case hn => k_is); (case ht => k_is); (case hm => k_is); (case sC => first | rfl | k_is); (case hB => decide +kernel); (case eB => k_is)
    have ne_NoPlace_CanNot := by
      refine' ne_mk KX G x_NoPlace.gl x_CanNot.gl ?a ?b ?c
      (case a => k_is); (case b => k_is); (case c => k_is)
    have ne_TooMuch_CanNot := by
      refine' ne_mk KX G x_TooMuch.gl x_CanNot.gl ?a ?b ?c
      (case a => k_is); (case b => k_is); (case c => k_is)
    have ne_Unfit_CanNot := by
      refine' ne_mk KX G x_Unfit.gl x_CanNot.gl ?a ?b ?c
      (case a => k_is); (case b => k_is); (case c => k_is)
    have ne_CanNot_NoPlace := by
      refine' ne_mk KX G x_CanNot.gl x_NoPlace.gl ?a ?b ?c
      (case a => k_is); (case b => k_is); (case c => k_is)
    have ne_TooMuch_NoPlace := by
      refine' ne_mk KX G x_TooMuch.gl x_NoPlace.gl ?a ?b ?c
      (case a => k_is); (case b => k_is); (case c => k_is)
    have ne_Unfit_NoPlace := by
      refine' ne_mk KX G x_Unfit.gl x_NoPlace.gl ?a ?b ?c
      (case a => k_is); (case b => k_is); (case c => k_is)
    have ne_NoPlace_TooMuch := by
      refine' ne_mk KX G x_NoPlace.gl x_TooMuch.gl ?a ?b ?c
      (case a => k_is); (case b => k_is); (case c => k_is)
    have ne_CanNot_TooMuch := by
      refine' ne_mk KX G x_CanNot.gl x_TooMuch.gl ?a ?b ?c
      (case a => k_is); (case b => k_is); (case c => k_is)
    have ne_Unfit_TooMuch := by
      refine' ne_mk KX G x_Unfit.gl x_TooMuch.gl ?a ?b ?c
      (case a => k_is); (case b => k_is); (case c => k_is)
    have ne_NoPlace_Unfit := by
      refine' ne_mk KX G x_NoPlace.gl x_Unfit.gl ?a ?b ?c
      (case a => k_is); (case b => k_is); (case c => k_is)
    have ne_CanNot_Unfit := by
      refine' ne_mk KX G x_CanNot.gl x_Unfit.gl ?a ?b ?c
      (case a => k_is); (case b => k_is); (case c => k_is)
    have ne_TooMuch_Unfit := by
      refine' ne_mk KX G x_TooMuch.gl x_Unfit.gl ?a ?b ?c
      (case a => k_is); (case b => k_is); (case c => k_is)
    obtain ⟨c_MOST_ROWS⟩ : Nonempty (CInt mg "MOST_ROWS" 2000) := by
      refine' mk_CInt KX G ?a
      (case a => k_is)
    obtain ⟨c_NOUGHT⟩ : Nonempty (CTup _ mg "NOUGHT" [0, 1]) := by
      refine' mk_CTup KX G ?a ?l ?s ?v
      (case a => k_is); (case l => k_is); (case s => rw [sizeLine_eq]; decide); (case v => exact (.cons ⟨_, rfl⟩ (.cons ⟨_, rfl⟩ .nil)))
    obtain ⟨c_UNIT⟩ : Nonempty (CTup _ mg "UNIT" [1, 1]) := by
      refine' mk_CTup KX G ?a ?l ?s ?v
      (case a => k_is); (case l => k_is); (case s => rw [sizeLine_eq]; decide); (case v => exact (.cons ⟨_, rfl⟩ (.cons ⟨_, rfl⟩ .nil)))
    have g_gcd : mg "gcd" = some (.builtin "math.gcd") := PySem.W.mg_of KX G (by k_is)
    have m_ValueError : mg "ValueError" = none := PySem.W.mg_none_of KX G (by k_is)
    have m_all : mg "all" = none := PySem.W.mg_none_of KX G (by k_is)
    have m_bool : mg "bool" = none := PySem.W.mg_none_of KX G (by k_is)
    have m_enumerate : mg "enumerate" = none := PySem.W.mg_none_of KX G (by k_is)
    have m_int : mg "int" = none := PySem.W.mg_none_of KX G (by k_is)
    have m_isinstance : mg "isinstance" = none := PySem.W.mg_none_of KX G (by k_is)
    have m_len : mg "len" = none := PySem.W.mg_none_of KX G (by k_is)
    have m_list : mg "list" = none := PySem.W.mg_none_of KX G (by k_is)
    have m_max : mg "max" = none := PySem.W.mg_none_of KX G (by k_is)
    have m_min : mg "min" = none := PySem.W.mg_none_of KX G (by k_is)
    have m_range : mg "range" = none := PySem.W.mg_none_of KX G (by k_is)
    have m_reversed : mg "reversed" = none := PySem.W.mg_none_of KX G (by k_is)
    have m_set : mg "set" = none := PySem.W.mg_none_of KX G (by k_is)
    have m_sorted : mg "sorted" = none := PySem.W.mg_none_of KX G (by k_is)
    have m_str : mg "str" = none := PySem.W.mg_none_of KX G (by k_is)
    have m_sum : mg "sum" = none := PySem.W.mg_none_of KX G (by k_is)
    have m_tuple : mg "tuple" = none := PySem.W.mg_none_of KX G (by k_is)
    have m_zip : mg "zip" = none := PySem.W.mg_none_of KX G (by k_is)
    let D : Defs _ mg := { h_is_number := h_is_number, h_is_number_below := h_is_number_below, h_is_tuple_of := h_is_tuple_of, h_is_filled_tuple := h_is_filled_tuple, h_is_rising := h_is_rising, h_frozen := h_frozen, h_ascending := h_ascending, h_inner_order := h_inner_order, h_end_of := h_end_of, h_longer_rows := h_longer_rows, h_met_order := h_met_order, h_numbers_of := h_numbers_of, h_kind_of_stand := h_kind_of_stand, h_inner_kinds := h_inner_kinds, h_begin_kind := h_begin_kind, h_counts_behind := h_counts_behind, h_short_arrows := h_short_arrows, h_met_pairs := h_met_pairs, h_ending_pairs := h_ending_pairs, h_is_lot := h_is_lot, h_is_looks := h_is_looks, h_is_fraction := h_is_fraction, h_lowest := h_lowest, h_plus := h_plus, h_total_of := h_total_of, h_is_row_of := h_is_row_of, h_are_rows := h_are_rows, h_is_step := h_is_step, h_is_arrow := h_is_arrow, h_is_stand := h_is_stand, h_is_machine := h_is_machine, h_places_of := h_places_of, h_one_round := h_one_round, h_one_choice := h_one_choice, h_choices := h_choices, h_is_row := h_is_row, h_row_end := h_row_end, h_rows_of := h_rows_of, h_count_rounds := h_count_rounds, h_rounds := h_rounds, h_round_lengths := h_round_lengths, h_go_alike := h_go_alike, h_stands_as_met := h_stands_as_met, h_steps_as_met := h_steps_as_met, h_each_once := h_each_once, h_merged := h_merged, h_renamed_step := h_renamed_step, h_renamed := h_renamed, h_one_after_other := h_one_after_other, h_within_rounds := h_within_rounds, h__law_same := h__law_same, h__law_two := h__law_two, h__law_bad := h__law_bad, h__law_chain := h__law_chain, h__law_wide := h__law_wide, h__law_heard := h__law_heard, h__law_made_right := h__law_made_right, h__law_alike_right := h__law_alike_right, h__law_within_right := h__law_within_right, h_law := h_law, x_NoPlace := x_NoPlace, x_CanNot := x_CanNot, x_TooMuch := x_TooMuch, x_Unfit := x_Unfit, ne_NoPlace_CanNot := ne_NoPlace_CanNot, ne_TooMuch_CanNot := ne_TooMuch_CanNot, ne_Unfit_CanNot := ne_Unfit_CanNot, ne_CanNot_NoPlace := ne_CanNot_NoPlace, ne_TooMuch_NoPlace := ne_TooMuch_NoPlace, ne_Unfit_NoPlace := ne_Unfit_NoPlace, ne_NoPlace_TooMuch := ne_NoPlace_TooMuch, ne_CanNot_TooMuch := ne_CanNot_TooMuch, ne_Unfit_TooMuch := ne_Unfit_TooMuch, ne_NoPlace_Unfit := ne_NoPlace_Unfit, ne_CanNot_Unfit := ne_CanNot_Unfit, ne_TooMuch_Unfit := ne_TooMuch_Unfit, c_MOST_ROWS := c_MOST_ROWS, c_NOUGHT := c_NOUGHT, c_UNIT := c_UNIT, g_gcd := g_gcd, m_ValueError := m_ValueError, m_all := m_all, m_bool := m_bool, m_enumerate := m_enumerate, m_int := m_int, m_isinstance := m_isinstance, m_len := m_len, m_list := m_list, m_max := m_max, m_min := m_min, m_range := m_range, m_reversed := m_reversed, m_set := m_set, m_sorted := m_sorted, m_str := m_str, m_sum := m_sum, m_tuple := m_tuple, m_zip := m_zip }
    have e : fa = h_law.f := by
      have := hmg.symm.trans h_law.gl
      cases this; rfl
    subst e
    exact ⟨h_law.fd, fun s u => bindsTo h_law.F (fun _ _ _ _ _ _ => rfl), fun base _ _ => okL_law D law_true⟩
