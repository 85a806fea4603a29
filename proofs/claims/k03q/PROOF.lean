import PyProof.Rows.All
import Wide.All
import OpenK.AllK
import Wide.FinOn
import HandS.ForMost
import HandS.ForExc
import KE.KDictKeyed
import KE.KeyNested
import HandS.IsInst
import HandS.StrMore
import HandS.Wide
import HandS.TupMul
import HandS.More
import HandS.Iter
import HandS.Comp
import KE.IntTextLaws
import HandS.ExcOwn
import HandS.TryMany
import HandS.TryElse
import HandS.ExcInit
import HandS.ExcField
import HandS.FStr
import HandS.ClsMeth
import PyProof.Draws
import KE.GoesEnum
import HandS.Style
import HandS.Codes
import HandS.OwnEq
import HandS.TryOnly
import PySem.Challenge.RW_twinleaves_k03_known_texts
set_option Elab.async false
set_option linter.all false
set_option maxRecDepth 1000000
set_option maxHeartbeats 0
/-! VI, part A: own values, own heap, how they stand to the abstract heap. -/
namespace VI
open PySem L2

inductive Ix where
  | o | z (i : Ix) | s (i : Ix)
  deriving DecidableEq
def Ix.up : Ix → Ix
  | .o => .z .o
  | .z i => .s i
  | .s i => .z i.up
def Ix.nat : Ix → Nat
  | .o => 1
  | .z i => 2 * i.nat
  | .s i => 2 * i.nat + 1
theorem Ix.nat_pos : ∀ i : Ix, 0 < i.nat
  | .o => by simp [Ix.nat]
  | .z i => by have := nat_pos i; simp [Ix.nat]; omega
  | .s i => by simp [Ix.nat]
theorem Ix.nat_up : ∀ i : Ix, i.up.nat = i.nat + 1
  | .o => rfl
  | .z i => rfl
  | .s i => by have := nat_up i; simp [Ix.nat, Ix.up, this]; omega
theorem Ix.nat_inj : ∀ i j : Ix, i.nat = j.nat → i = j
  | .o, .o, _ => rfl
  | .o, .z j, h => by have := nat_pos j; simp [Ix.nat] at h; omega
  | .o, .s j, h => by have := nat_pos j; simp [Ix.nat] at h; omega
  | .z i, .o, h => by have := nat_pos i; simp [Ix.nat] at h; omega
  | .z i, .z j, h => by simp [Ix.nat] at h; rw [nat_inj i j (by omega)]
  | .z i, .s j, h => by simp [Ix.nat] at h; omega
  | .s i, .o, h => by have := nat_pos i; simp [Ix.nat] at h; omega
  | .s i, .z j, h => by simp [Ix.nat] at h; omega
  | .s i, .s j, h => by simp [Ix.nat] at h; rw [nat_inj i j (by omega)]

inductive U where
  | non | bl (b : Bool) | int (i : Int) | str (x : List Nat) | tup (us : List U) | ref (n : Ix) | g (i : Nat)
/-- an own object: a list, an instance (its class by number, its attributes by name), a dict (locked: it is walked), its keys flat or nested tuples -/
inductive Ob where
  | lst (us : List U)
  | ins (c : Nat) (fs : List (List Nat × U))
  | dct (lk : Bool) (kvs : List (U × U))
inductive Tr (α : Type) where
  | lf | nd (l : Tr α) (x : Option α) (r : Tr α)
def Tr.get {α : Type} : Tr α → Ix → Option α
  | .lf, _ => none
  | .nd _ x _, .o => x
  | .nd l _ _, .z i => l.get i
  | .nd _ _ r, .s i => r.get i
def Tr.set {α : Type} : Ix → α → Tr α → Tr α
  | .o, a, .lf => .nd .lf (some a) .lf
  | .z i, a, .lf => .nd (Tr.set i a .lf) none .lf
  | .s i, a, .lf => .nd .lf none (Tr.set i a .lf)
  | .o, a, .nd l _ r => .nd l (some a) r
  | .z i, a, .nd l x r => .nd (Tr.set i a l) x r
  | .s i, a, .nd l x r => .nd l x (Tr.set i a r)
theorem Tr.get_lf {α : Type} (i : Ix) : (Tr.lf : Tr α).get i = none := by cases i <;> rfl
theorem Tr.get_set {α : Type} (a : α) : ∀ (i j : Ix) (t : Tr α), (Tr.set i a t).get j = if j = i then some a else t.get j
  | .o, .o, .lf => by simp [Tr.set, Tr.get]
  | .o, .z j, .lf => by simp [Tr.set, Tr.get, Tr.get_lf]
  | .o, .s j, .lf => by simp [Tr.set, Tr.get, Tr.get_lf]
  | .z i, .o, .lf => by simp [Tr.set, Tr.get]
  | .z i, .z j, .lf => by simp [Tr.set, Tr.get, get_set a i j, Tr.get_lf]
  | .z i, .s j, .lf => by simp [Tr.set, Tr.get, Tr.get_lf]
  | .s i, .o, .lf => by simp [Tr.set, Tr.get]
  | .s i, .z j, .lf => by simp [Tr.set, Tr.get, Tr.get_lf]
  | .s i, .s j, .lf => by simp [Tr.set, Tr.get, get_set a i j, Tr.get_lf]
  | .o, .o, .nd l x r => by simp [Tr.set, Tr.get]
  | .o, .z j, .nd l x r => by simp [Tr.set, Tr.get]
  | .o, .s j, .nd l x r => by simp [Tr.set, Tr.get]
  | .z i, .o, .nd l x r => by simp [Tr.set, Tr.get]
  | .z i, .z j, .nd l x r => by simp [Tr.set, Tr.get, get_set a i j]
  | .z i, .s j, .nd l x r => by simp [Tr.set, Tr.get]
  | .s i, .o, .nd l x r => by simp [Tr.set, Tr.get]
  | .s i, .z j, .nd l x r => by simp [Tr.set, Tr.get]
  | .s i, .s j, .nd l x r => by simp [Tr.set, Tr.get, get_set a i j]

structure Hv where
  t : Tr Ob
  nx : Ix
def Hv.get (h : Hv) (p : Ix) : Option Ob := h.t.get p
def Hv.put (h : Hv) (p : Ix) (o : Ob) : Hv := ⟨Tr.set p o h.t, h.nx⟩
def Hv.new (h : Hv) (o : Ob) : Hv := ⟨Tr.set h.nx o h.t, h.nx.up⟩
def Hv.nil : Hv := ⟨.lf, .o⟩

/-- what stands for the numbers: the written part, the module's things by number -/
structure Tb where
  K : PySem.W.Frag
  gt : Nat → V
  P : Program
  w : World
abbrev Mp := Ix → Option Addr
def Mp.add (m : Mp) (p : Ix) (a : Addr) : Mp := fun q => if q = p then some a else m q

def strV (x : List Nat) : Str := ⟨x.toArray⟩
mutual
def Rel (T : Tb) (m : Mp) (H : Hp) : U → V → Prop
  | .non, v => v = .non
  | .bl b, v => v = .bl b
  | .int i, v => v = .int i
  | .str x, v => v = .str (strV x)
  | .tup us, v => ∃ a vs, v = .ref a ∧ SqT T.K H a vs ∧ RelL T m H us vs
  | .ref n, v => ∃ a, m n = some a ∧ v = .ref a
  | .g i, v => v = T.gt i
def RelL (T : Tb) (m : Mp) (H : Hp) : List U → List V → Prop
  | [], vs => vs = []
  | u :: us, vs => ∃ v r, vs = v :: r ∧ Rel T m H u v ∧ RelL T m H us r
end
def RelF (T : Tb) (m : Mp) (H : Hp) : List (List Nat × U) → List (Str × V) → Prop
  | [], vs => vs = []
  | (f, u) :: us, vs => ∃ v r, vs = (strV f, v) :: r ∧ Rel T m H u v ∧ RelF T m H us r
/-- a flat key -/
def keyU : U → Option Key
  | .int i => some (.inl i)
  | .str x => some (.inr (strV x))
  | _ => none
/-- a key that is a tuple, by what it holds -/
def okey : U → Option NestedKey
  | .non => some .none
  | .int i => some (.num i)
  | .str x => some (.text (strV x))
  | .tup us => match okeys us with
    | some ks => some (.tup ks)
    | none => none
  | _ => none
where okeys : List U → Option (List NestedKey)
  | [] => some []
  | u :: us => match okey u, okeys us with
    | some k, some ks => some (k :: ks)
    | _, _ => none
def EntK (T : Tb) (m : Mp) (H : Hp) : List (U × U) → List (Key × Value) → Prop
  | [], vs => vs = []
  | (k, u) :: us, vs => ∃ k' x v r, vs = (k', x) :: r ∧ keyU k = some k' ∧ RelV v x ∧ Rel T m H u v ∧ EntK T m H us r
def EntN (T : Tb) (m : Mp) (H : Hp) : List (U × U) → List (NestedKey × Addr × Value) → Prop
  | [], vs => vs = []
  | (k, u) :: us, vs => ∃ n b x v r, vs = (n, b, x) :: r ∧ okey k = some n ∧ n.depth ≤ 8 ∧ Rel T m H k (.ref b) ∧ RelV v x ∧ Rel T m H u v ∧ EntN T m H us r
/-- a dict by its very object -/
def exO (a : Addr) (o : Obj) : HO := .ext fun h => h.get? a = some o
def lkO (lk : Bool) (a : Addr) (o : Obj) : HO := if lk then .frz o (exO a o) else exO a o
def DBody (T : Tb) (m : Mp) (H : Hp) (o : Obj) (kvs : List (U × U)) : Prop :=
  (∃ vs, o.IsDictOf (mixKind T.P T.w) vs ∧ EntK T m H kvs vs) ∨
  ∃ xs : List (NestedKey × Addr × Value), o.ExactDict ∧ (∃ es ep, o.data = .dict es ep ∧ es.toList = xs.map (entryOfKey (nestedKind T.P T.w))) ∧ (xs.map (·.1)).Nodup ∧ EntN T m H kvs xs
def ObR (T : Tb) (m : Mp) (H : Hp) (a : Addr) : Ob → Prop
  | .lst us => ∃ vs, H a = some (.lst vs) ∧ RelL T m H us vs
  | .ins c fs => ∃ C dx vs, T.gt c = .ref C ∧ H a = some (.ins C dx vs) ∧ RelF T m H fs vs
  | .dct lk kvs => ∃ o, H a = some (lkO lk a o) ∧ (a == sysModules) = false ∧ kvs.length ≤ sizeLine ∧ DBody T m H o kvs
structure SimH (T : Tb) (m : Mp) (h : Hv) (H : Hp) : Prop where
  fresh : ∀ p, h.nx.nat ≤ p.nat → m p = none
  dom : ∀ p a, m p = some a → ∃ o, h.get p = some o ∧ ObR T m H a o
  cod : ∀ p o, h.get p = some o → ∃ a, m p = some a
  inj : ∀ p q a, m p = some a → m q = some a → p = q
structure Grow (m : Mp) (H : Hp) (m' : Mp) (H' : Hp) : Prop where
  frz : ∀ a o u, H a = some (.frz o u) → H' a = some (.frz o u)
  sub : ∀ p a, m p = some a → m' p = some a
  tup : ∀ a xs, Rd H a (.tup xs) → Rd H' a (.tup xs)
  out : ∀ a o, H a = some o → (∀ p, m p ≠ some a) → H' a = some o
  kept : ∀ a o, H a = some o → ∃ o', H' a = some o'
  old : ∀ p a, m' p = some a → m p = some a ∨ H a = none
theorem Grow.refl (m : Mp) (H : Hp) : Grow m H m H := ⟨fun _ _ _ h => h, fun _ _ h => h, fun _ _ h => h, fun _ _ h _ => h, fun _ o h => ⟨o, h⟩, fun _ _ h => .inl h⟩
theorem Grow.sqT {K : PySem.W.Frag} {m m' : Mp} {H H' : Hp} (g : Grow m H m' H') {a : Addr} {xs : List V} (h : SqT K H a xs) : SqT K H' a xs := by
  rcases h with h | h
  · exact .inl (g.tup a xs h)
  · exact .inr h
theorem Grow.trans {m m1 m2 : Mp} {H H1 H2 : Hp} (a : Grow m H m1 H1) (b : Grow m1 H1 m2 H2) : Grow m H m2 H2 where
  frz := fun p o u h => b.frz p o u (a.frz p o u h)
  sub := fun p x h => b.sub p x (a.sub p x h)
  tup := fun p x h => b.tup p x (a.tup p x h)
  out := fun x o h n => b.out x o (a.out x o h n) fun p hp => by
    rcases a.old p x hp with q | q
    · exact n p q
    · rw [h] at q; cases q
  kept := fun x o h => let ⟨o1, h1⟩ := a.kept x o h; b.kept x o1 h1
  old := fun p x h => by
    rcases b.old p x h with q | q
    · exact a.old p x q
    · refine .inr ?_
      cases e : H x with
      | none => rfl
      | some o =>
        obtain ⟨o1, h1⟩ := a.kept x o e
        rw [q] at h1; cases h1
section
variable {T : Tb} {m m' : Mp} {H H' : Hp} {h : Hv}
/-- the numbers and the tuples stay -/
structure Le (m : Mp) (H : Hp) (m' : Mp) (H' : Hp) : Prop where
  sub : ∀ p a, m p = some a → m' p = some a
  tup : ∀ a xs, Rd H a (.tup xs) → Rd H' a (.tup xs)
theorem Grow.le (g : Grow m H m' H') : Le m H m' H' := ⟨g.sub, g.tup⟩
mutual
theorem Rel.le (g : Le m H m' H') : ∀ {u : U} {v : V}, Rel T m H u v → Rel T m' H' u v
  | .non, _, r => r
  | .bl _, _, r => r
  | .int _, _, r => r
  | .str _, _, r => r
  | .tup us, _, r => by
    obtain ⟨a, vs, e, q, l⟩ := r
    refine ⟨a, vs, e, ?_, RelL.le g l⟩
    rcases q with q | q
    · exact .inl (g.tup a vs q)
    · exact .inr q
  | .ref n, _, r => by
    obtain ⟨a, e, q⟩ := r
    exact ⟨a, g.sub _ _ e, q⟩
  | .g _, _, r => r
theorem RelL.le (g : Le m H m' H') : ∀ {us : List U} {vs : List V}, RelL T m H us vs → RelL T m' H' us vs
  | [], _, r => r
  | u :: us, _, r => by
    obtain ⟨v, w, e, q, l⟩ := r
    exact ⟨v, w, e, Rel.le g q, RelL.le g l⟩
end
theorem Rel.up (g : Grow m H m' H') {u : U} {v : V} (r : Rel T m H u v) : Rel T m' H' u v := r.le g.le
theorem RelL.up (g : Grow m H m' H') {us : List U} {vs : List V} (r : RelL T m H us vs) : RelL T m' H' us vs := r.le g.le
theorem RelF.le (g : Le m H m' H') : ∀ {us : List (List Nat × U)} {vs : List (Str × V)}, RelF T m H us vs → RelF T m' H' us vs
  | [], _, r => r
  | (f, u) :: us, _, r => by
    obtain ⟨v, w, e, q, l⟩ := r
    exact ⟨v, w, e, Rel.le g q, RelF.le g l⟩
theorem RelF.up (g : Grow m H m' H') {us : List (List Nat × U)} {vs : List (Str × V)} (r : RelF T m H us vs) : RelF T m' H' us vs := r.le g.le
theorem EntK.le (g : Le m H m' H') : ∀ {us : List (U × U)} {vs : List (Key × Value)}, EntK T m H us vs → EntK T m' H' us vs
  | [], _, r => r
  | (f, u) :: us, _, r => by
    obtain ⟨k, x, v, w, e, ek, ev, q, l⟩ := r
    exact ⟨k, x, v, w, e, ek, ev, Rel.le g q, EntK.le g l⟩
theorem EntN.le (g : Le m H m' H') : ∀ {us : List (U × U)} {vs : List (NestedKey × Addr × Value)}, EntN T m H us vs → EntN T m' H' us vs
  | [], _, r => r
  | (f, u) :: us, _, r => by
    obtain ⟨n, b, x, v, w, e, ek, dp, rk, ev, q, l⟩ := r
    exact ⟨n, b, x, v, w, e, ek, dp, Rel.le g rk, ev, Rel.le g q, EntN.le g l⟩
theorem DBody.le (g : Le m H m' H') {o : Obj} {us : List (U × U)} (r : DBody T m H o us) : DBody T m' H' o us := by
  rcases r with ⟨vs, d, l⟩ | ⟨xs, d1, d2, d3, l⟩
  · exact .inl ⟨vs, d, l.le g⟩
  · exact .inr ⟨xs, d1, d2, d3, l.le g⟩
/-- an object that stands where it stood -/
theorem ObR.le (g : Le m H m' H') {a : Addr} (e : H' a = H a) : ∀ {o : Ob}, ObR T m H a o → ObR T m' H' a o
  | .lst us, r => by
    obtain ⟨vs, q, l⟩ := r
    exact ⟨vs, e.trans q, l.le g⟩
  | .ins c fs, r => by
    obtain ⟨C, dx, vs, ec, q, l⟩ := r
    exact ⟨C, dx, vs, ec, e.trans q, l.le g⟩
  | .dct lk kvs, r => by
    obtain ⟨o, q, n, z, l⟩ := r
    exact ⟨o, e.trans q, n, z, l.le g⟩
theorem ObR.up (g : Grow m H m' H') {a : Addr} (e : H' a = H a) {o : Ob} (r : ObR T m H a o) : ObR T m' H' a o := r.le g.le e
theorem lkO_tup {lk : Bool} {a : Addr} {o : Obj} {xs : List V} : lkO lk a o ≠ .tup xs := by
  cases lk <;> exact fun z => by cases z
theorem lkO_ft {lk : Bool} {a : Addr} {o o' : Obj} {xs : List V} : lkO lk a o ≠ .frz o' (.tup xs) := by
  cases lk <;> exact fun z => by cases z
theorem ObR.some {a : Addr} : ∀ {o : Ob}, ObR T m H a o → ∃ u, H a = Option.some u ∧ (∀ xs, u ≠ .tup xs) ∧ ∀ f xs, u ≠ .frz f (.tup xs)
  | .lst us, ⟨vs, q, l⟩ => ⟨_, q, fun _ => by simp, fun _ _ => by simp⟩
  | .ins c fs, ⟨C, dx, vs, ec, q, l⟩ => ⟨_, q, fun _ => by simp, fun _ _ => by simp⟩
  | .dct lk kvs, ⟨o, q, _⟩ => ⟨_, q, fun _ => lkO_tup, fun _ _ => lkO_ft⟩
theorem SimH.at (s : SimH T m h H) {p : Ix} {a : Addr} {o : Ob} (e : m p = some a) (q : h.get p = some o) : ObR T m H a o := by
  obtain ⟨o', e', r⟩ := s.dom p a e
  rw [q] at e'; cases e'; exact r
theorem SimH.ne (s : SimH T m h H) {p : Ix} {a b : Addr} (e : m p = some a) (q : H b = none) : a ≠ b := by
  obtain ⟨o, _, r⟩ := s.dom p a e
  obtain ⟨u, hu, _⟩ := r.some
  exact ne_of_none hu q
/-- a new object beside the own ones -/
theorem Grow.beside {a : Addr} {o : HO} (hn : H a = none) : Grow m H m (upd H a o) where
  frz := fun b f u e => by rw [upd_ne (ne_of_none e hn)]; exact e
  sub := fun _ _ e => e
  tup := fun b xs r => by
    rcases r with r | ⟨f, r⟩
    · exact .inl (by rw [upd_ne (ne_of_none r hn)]; exact r)
    · exact .inr ⟨f, by rw [upd_ne (ne_of_none r hn)]; exact r⟩
  out := fun b u e _ => by rw [upd_ne (ne_of_none e hn)]; exact e
  kept := fun b u e => ⟨u, by rw [upd_ne (ne_of_none e hn)]; exact e⟩
  old := fun _ _ e => .inl e
theorem SimH.beside (s : SimH T m h H) {a : Addr} {o : HO} (hn : H a = none) : SimH T m h (upd H a o) where
  fresh := s.fresh
  dom := fun p b e => by
    obtain ⟨u, q, r⟩ := s.dom p b e
    exact ⟨u, q, r.up (Grow.beside hn) (upd_ne (s.ne e hn))⟩
  cod := s.cod
  inj := s.inj
/-- a new own object -/
theorem Grow.new (s : SimH T m h H) {a : Addr} {o : HO} (hn : H a = none) : Grow m H (m.add h.nx a) (upd H a o) where
  sub := fun p b e => by
    unfold Mp.add
    by_cases z : p = h.nx
    · subst z; rw [s.fresh h.nx (Nat.le_refl _)] at e; cases e
    · rw [if_neg z]; exact e
  frz := (Grow.beside (m := m) hn).frz
  tup := (Grow.beside (m := m) hn).tup
  out := (Grow.beside (m := m) hn).out
  kept := (Grow.beside (m := m) hn).kept
  old := fun p b e => by
    unfold Mp.add at e
    by_cases z : p = h.nx
    · rw [if_pos z] at e; cases e; exact .inr hn
    · rw [if_neg z] at e; exact .inl e
theorem SimH.new (s : SimH T m h H) {a : Addr} {o : HO} {u : Ob} (hn : H a = none) (r : ObR T (m.add h.nx a) (upd H a o) a u) : SimH T (m.add h.nx a) (h.new u) (upd H a o) where
  fresh := fun p e => by
    have e : h.nx.up.nat ≤ p.nat := e
    rw [Ix.nat_up] at e
    unfold Mp.add
    rw [if_neg (fun z => by subst z; omega)]
    exact s.fresh p (by omega)
  dom := fun p b e => by
    unfold Mp.add at e
    show ∃ o', (Tr.set h.nx u h.t).get p = some o' ∧ _
    rw [Tr.get_set]
    by_cases z : p = h.nx
    · rw [if_pos z] at e ⊢; cases e; exact ⟨u, rfl, r⟩
    · rw [if_neg z] at e ⊢
      obtain ⟨w, q, r'⟩ := s.dom p b e
      exact ⟨w, q, r'.up (Grow.new s hn) (upd_ne (s.ne e hn))⟩
  cod := fun p w e => by
    unfold Mp.add
    by_cases z : p = h.nx
    · exact ⟨a, by rw [if_pos z]⟩
    · rw [if_neg z]
      refine s.cod p w ?_
      have e : (Tr.set h.nx u h.t).get p = some w := e
      rw [Tr.get_set, if_neg z] at e
      exact e
  inj := fun p q b e1 e2 => by
    unfold Mp.add at e1 e2
    by_cases z : p = h.nx <;> by_cases y : q = h.nx
    · rw [z, y]
    · rw [if_pos z] at e1; rw [if_neg y] at e2; cases e1
      exact absurd rfl (s.ne e2 hn)
    · rw [if_neg z] at e1; rw [if_pos y] at e2; cases e2
      exact absurd rfl (s.ne e1 hn)
    · rw [if_neg z] at e1; rw [if_neg y] at e2
      exact s.inj p q b e1 e2
/-- an own object changed (none that is locked) -/
theorem Grow.put (s : SimH T m h H) {p : Ix} {a : Addr} {o : HO} (e : m p = some a) (nf : ∀ f u, H a ≠ some (.frz f u)) : Grow m H m (upd H a o) where
  frz := fun b f u q => by rw [upd_ne (fun z => by subst z; exact nf _ _ q)]; exact q
  sub := fun _ _ q => q
  tup := fun b xs r => by
    obtain ⟨w, _, r'⟩ := s.dom p a e
    obtain ⟨u, hu, n1, n2⟩ := r'.some
    rcases r with r | ⟨f, r⟩
    · refine .inl ?_
      rw [upd_ne (fun z => by subst z; rw [hu] at r; cases r; exact n1 _ rfl)]; exact r
    · refine .inr ⟨f, ?_⟩
      rw [upd_ne (fun z => by subst z; rw [hu] at r; cases r; exact n2 _ _ rfl)]; exact r
  out := fun b u q n => by rw [upd_ne (fun z => by subst z; exact n p e)]; exact q
  kept := fun b u q => by
    by_cases z : b = a
    · exact ⟨o, by rw [z, upd_same]⟩
    · exact ⟨u, by rw [upd_ne z]; exact q⟩
  old := fun _ _ q => .inl q
theorem SimH.put (s : SimH T m h H) {p : Ix} {a : Addr} {o : HO} {u : Ob} (e : m p = some a) (nf : ∀ f u, H a ≠ some (.frz f u)) (r : ObR T m (upd H a o) a u) : SimH T m (h.put p u) (upd H a o) where
  fresh := s.fresh
  dom := fun q b eb => by
    show ∃ o', (Tr.set p u h.t).get q = some o' ∧ _
    rw [Tr.get_set]
    by_cases z : q = p
    · subst z; rw [e] at eb; cases eb; rw [if_pos rfl]; exact ⟨u, rfl, r⟩
    · rw [if_neg z]
      obtain ⟨w, q', r'⟩ := s.dom q b eb
      refine ⟨w, q', r'.up (Grow.put s e nf) (upd_ne fun y => ?_)⟩
      subst y; exact z (s.inj _ _ _ eb e)
  cod := fun q w eb => by
    have eb : (Tr.set p u h.t).get q = some w := eb
    rw [Tr.get_set] at eb
    by_cases z : q = p
    · exact ⟨a, by rw [z]; exact e⟩
    · rw [if_neg z] at eb; exact s.cod q w eb
  inj := s.inj
theorem RelL.len : ∀ {us : List U} {vs : List V}, RelL T m H us vs → us.length = vs.length
  | [], _, r => by have r : _ = _ := r; subst r; rfl
  | u :: us, _, ⟨v, w, e, q, l⟩ => by subst e; simp [RelL.len l]
theorem RelL.get : ∀ {us : List U} {vs : List V} {i : Nat} {u : U}, RelL T m H us vs → us[i]? = some u → ∃ v, vs[i]? = some v ∧ Rel T m H u v
  | [], _, _, _, _, e => by simp at e
  | x :: us, _, 0, u, ⟨v, w, e, q, l⟩, eu => by subst e; simp at eu; subst eu; exact ⟨v, rfl, q⟩
  | x :: us, _, i + 1, u, ⟨v, w, e, q, l⟩, eu => by
    subst e
    obtain ⟨y, ey, ry⟩ := RelL.get (us := us) (vs := w) (i := i) (u := u) l (by rw [List.getElem?_cons_succ] at eu; exact eu)
    exact ⟨y, by rw [List.getElem?_cons_succ]; exact ey, ry⟩
theorem RelL.app : ∀ {us us' : List U} {vs vs' : List V}, RelL T m H us vs → RelL T m H us' vs' → RelL T m H (us ++ us') (vs ++ vs')
  | [], _, _, _, r, s => by have r : _ = _ := r; subst r; exact s
  | u :: us, _, _, _, ⟨v, w, e, q, l⟩, s => by subst e; exact ⟨v, _, rfl, q, RelL.app l s⟩
theorem RelL.set : ∀ {us : List U} {vs : List V} {i : Nat} {u : U} {v : V}, RelL T m H us vs → Rel T m H u v → RelL T m H (us.set i u) (vs.set i v)
  | [], _, _, _, _, r, _ => by have r : _ = _ := r; subst r; rfl
  | x :: us, _, 0, u, v, ⟨y, w, e, q, l⟩, s => by subst e; exact ⟨v, w, rfl, s, l⟩
  | x :: us, _, i + 1, u, v, ⟨y, w, e, q, l⟩, s => by subst e; exact ⟨y, _, rfl, q, RelL.set l s⟩
theorem RelL.drop : ∀ {us : List U} {vs : List V} (i : Nat), RelL T m H us vs → RelL T m H (us.drop i) (vs.drop i)
  | _, _, 0, r => by simpa using r
  | [], _, i + 1, r => by have r : _ = _ := r; subst r; simp [RelL]
  | x :: us, _, i + 1, ⟨y, w, e, q, l⟩ => by subst e; simpa using RelL.drop i l
theorem RelL.take : ∀ {us : List U} {vs : List V} (i : Nat), RelL T m H us vs → RelL T m H (us.take i) (vs.take i)
  | _, _, 0, r => by simp [RelL]
  | [], _, i + 1, r => by have r : _ = _ := r; subst r; simp [RelL]
  | x :: us, _, i + 1, ⟨y, w, e, q, l⟩ => by subst e; exact ⟨y, _, rfl, q, RelL.take i l⟩
end
end VI

/-! VI, part B: results, the judgements, expressions. -/
namespace VI
open PySem L2

/-- a result: a value; an exception of the class by number, with its attributes; no result -/
inductive R (α : Type) where
  | ok (a : α) (h : Hv)
  | ex (c : Nat) (fs : Option (List (List Nat × U))) (h : Hv)
  | bad
def R.bind {α β : Type} (r : R α) (k : α → Hv → R β) : R β :=
  match r with
  | .ok a h => k a h
  | .ex c fs h => .ex c fs h
  | .bad => .bad
abbrev Ev := List (Option U)
/-- expressions as functions of the names' values and the heap -/
abbrev FE := Ev → Hv → R U
abbrev FL := Ev → Hv → R (List U)

def EnvR (T : Tb) (m : Mp) (H : Hp) : Ev → St → Prop
  | [], σ => σ = []
  | e :: es, σ => ∃ s r, σ = s :: r ∧ (∀ u, e = some u → ∃ v, s = some v ∧ Rel T m H u v) ∧ EnvR T m H es r
/-- an exception as it lies in the abstract heap -/
def RelX (T : Tb) (m : Mp) (H : Hp) (c : Nat) : Option (List (List Nat × U)) → Value → Option Addr → Prop
  | none, cls, d => (∃ C, T.gt c = .ref C ∧ cls = .ref C) ∧ d = none
  | some fs, cls, d => (∃ C, T.gt c = .ref C ∧ cls = .ref C) ∧ ∃ dx vs, d = some dx ∧ H dx = some (.xd vs) ∧ RelF T m H fs vs
section
variable {T : Tb} {m m' m1 : Mp} {H H' H1 : Hp} {h h1 : Hv}
theorem EnvR.up (g : Grow m H m' H') : ∀ {es : Ev} {σ : St}, EnvR T m H es σ → EnvR T m' H' es σ
  | [], _, r => r
  | e :: es, _, ⟨s, r, q, a, b⟩ => ⟨s, r, q, fun u z => let ⟨v, y, x⟩ := a u z; ⟨v, y, x.up g⟩, EnvR.up g b⟩
theorem EnvR.len : ∀ {es : Ev} {σ : St}, EnvR T m H es σ → es.length = σ.length
  | [], _, r => by have r : _ = _ := r; subst r; rfl
  | e :: es, _, ⟨s, r, q, a, b⟩ => by subst q; simp [EnvR.len b]
theorem EnvR.get : ∀ {es : Ev} {σ : St} {i : Nat} {u : U}, EnvR T m H es σ → es[i]? = some (some u) → ∃ v, σ[i]? = some (some v) ∧ Rel T m H u v
  | [], _, _, _, _, e => by simp at e
  | e :: es, _, 0, u, ⟨s, r, q, a, b⟩, z => by
    subst q
    simp at z
    obtain ⟨v, y, x⟩ := a u z
    exact ⟨v, by simp [y], x⟩
  | e :: es, _, i + 1, u, ⟨s, r, q, a, b⟩, z => by
    subst q
    rw [List.getElem?_cons_succ] at z
    obtain ⟨v, y, x⟩ := EnvR.get b z
    exact ⟨v, by rw [List.getElem?_cons_succ]; exact y, x⟩
theorem EnvR.set : ∀ {es : Ev} {σ : St} {i : Nat} {u : U} {v : V}, EnvR T m H es σ → Rel T m H u v → EnvR T m H (es.set i (some u)) (σ.set i (some v))
  | [], _, _, _, _, r, _ => by have r : _ = _ := r; subst r; rfl
  | e :: es, _, 0, u, v, ⟨s, r, q, a, b⟩, x => by
    subst q
    exact ⟨some v, r, rfl, fun w z => by cases z; exact ⟨v, rfl, x⟩, b⟩
  | e :: es, _, i + 1, u, v, ⟨s, r, q, a, b⟩, x => by
    subst q
    exact ⟨s, _, rfl, a, EnvR.set b x⟩
theorem EnvR.forget : ∀ {es : Ev} {σ : St} {i : Nat} {x : Option V}, EnvR T m H es σ → EnvR T m H (es.set i none) (σ.set i x)
  | [], _, _, _, r => by have r : _ = _ := r; subst r; rfl
  | e :: es, _, 0, x, ⟨s, r, q, a, b⟩ => by
    subst q
    exact ⟨x, r, rfl, (fun w z => nomatch z), b⟩
  | e :: es, _, i + 1, x, ⟨s, r, q, a, b⟩ => by
    subst q
    exact ⟨s, _, rfl, a, EnvR.forget b⟩

/-- where a result leads: what is wanted of a value, of an exception -/
def Out (T : Tb) (m : Mp) (H : Hp) (E : XK) {α β : Type} (R' : Mp → Hp → α → β → Prop) (r : R α) (Q : β → Hp → Prop) : Prop :=
  match r with
  | .ok a h' => ∀ m' H' b, Grow m H m' H' → SimH T m' h' H' → R' m' H' a b → Q b H'
  | .ex c fs h' => ∀ m' H' cls d, Grow m H m' H' → SimH T m' h' H' → RelX T m' H' c fs cls d → E cls d H'
  | .bad => False
theorem Out.up {E : XK} {α β : Type} {R' : Mp → Hp → α → β → Prop} {r : R α} {Q : β → Hp → Prop} (g : Grow m H m' H') (o : Out T m H E R' r Q) : Out T m' H' E R' r Q := by
  cases r with
  | ok a h' => exact fun m2 H2 b g2 s2 r2 => o m2 H2 b (g.trans g2) s2 r2
  | ex c fs h' => exact fun m2 H2 cls d g2 s2 r2 => o m2 H2 cls d (g.trans g2) s2 r2
  | bad => exact o
theorem Out.imp {E : XK} {α β : Type} {R1 R2 : Mp → Hp → α → β → Prop} {r : R α} {Q : β → Hp → Prop} (o : Out T m H E R1 r Q) (hr : ∀ m2 H2 a b, R2 m2 H2 a b → R1 m2 H2 a b) : Out T m H E R2 r Q := by
  cases r with
  | ok a h' => exact fun m2 H2 b g2 s2 r2 => o m2 H2 b g2 s2 (hr _ _ _ _ r2)
  | ex c fs h' => exact o
  | bad => exact o
abbrev RV (T : Tb) : Mp → Hp → U → V → Prop := fun m H u v => Rel T m H u v
abbrev RVs (T : Tb) : Mp → Hp → List U → List V → Prop := fun m H u v => RelL T m H u v

/-- an expression's reading as it is best -/
def EX (X : Cx) (e : Expr) : TE := fun σ H Q => ∃ t, PE X e t ∧ t σ H Q
def TX (X : Cx) (e : Expr) : TT := fun σ H Q => ∃ t, PT X e t ∧ t σ H Q
def AX (X : Cx) (es : List Expr) : TA := fun σ H Q => ∃ t, PA X es t ∧ t σ H Q
def SX (X : Cx) (st : Stmt) : TS := fun D σ H => ∃ t, PS X st t ∧ t D σ H
def SsX (X : Cx) (st : List Stmt) : TS := fun D σ H => ∃ t, PSs X st t ∧ t D σ H
variable {X : Cx}
theorem EX.pe {e : Expr} : PE X e (EX X e) := ⟨fun pins s σ H Q I ⟨t, ht, q⟩ => ht.run pins s σ H Q I q⟩
theorem TX.pt {e : Expr} : PT X e (TX X e) := ⟨fun pins s σ H Q I ⟨t, ht, q⟩ => ht.run pins s σ H Q I q⟩
theorem AX.pa {es : List Expr} : PA X es (AX X es) := ⟨fun pos pins s σ H Q I ⟨t, ht, q⟩ => ht.run pos pins s σ H Q I q⟩
theorem SX.ps {st : Stmt} : PS X st (SX X st) := ⟨fun pins s σ H Q I ⟨t, ht, q⟩ => ht.run pins s σ H Q I q⟩
theorem SsX.pss {st : List Stmt} : PSs X st (SsX X st) := ⟨fun pins s σ H Q I ⟨t, ht, q⟩ => ht.run pins s σ H Q I q⟩

/-- the wish of exceptions, at names' values -/
abbrev WX' := Value → Option Addr → St → Hp → Prop
abbrev wat (W : WX') (σ : St) : XK := fun c d H => W c d σ H
/-- e does what f says -/
def SE (T : Tb) (X : Cx) (W : WX') (e : Expr) (f : FE) : Prop :=
  ∀ env h m σ H Q, EnvR T m H env σ → SimH T m h H → Out T m H (wat W σ) (RV T) (f env h) Q → EX X e σ H Q
def SL (T : Tb) (X : Cx) (W : WX') (es : List Expr) (f : FL) : Prop :=
  ∀ env h m σ H Q, EnvR T m H env σ → SimH T m h H → Out T m H (wat W σ) (RVs T) (f env h) Q → AX X es σ H Q
/-- a test: what f says is True or False -/
def STt (T : Tb) (X : Cx) (W : WX') (e : Expr) (f : Ev → Hv → R Bool) : Prop :=
  ∀ env h m σ H Q, EnvR T m H env σ → SimH T m h H → Out T m H (wat W σ) (fun _ _ a b => a = b) (f env h) Q → TX X e σ H Q

variable {W : WX'}
/-- what comes first, then the rest -/
theorem Out.bind {E : XK} {α β γ δ : Type} {R1 : Mp → Hp → α → β → Prop} {R2 : Mp → Hp → γ → δ → Prop} {r : R α} {k : α → Hv → R γ} {Q : δ → Hp → Prop} {Q' : β → Hp → Prop}
    (o : Out T m H E R2 (r.bind k) Q)
    (go : ∀ a h1 m1 H1 b, r = .ok a h1 → Grow m H m1 H1 → SimH T m1 h1 H1 → R1 m1 H1 a b → Out T m1 H1 E R2 (k a h1) Q → Q' b H1) : Out T m H E R1 r Q' := by
  cases r with
  | ok a h1 => exact fun m1 H1 b g s r1 => go a h1 m1 H1 b rfl g s r1 (o.up g)
  | ex c fs h1 => exact o
  | bad => exact o
end
end VI

/-! VI, part C: expressions, one rule a construct. -/
namespace VI
open PySem L2
section
variable {T : Tb} {X : Cx} {W : WX'} {e a b c : Expr} {pos : Pos}
/-! names, constants -/
def fVar (i : Nat) : FE := fun env h => match env[i]? with
  | some (some u) => .ok u h
  | _ => .bad
theorem s_var (i : Nat) (p : PE X e (tVar i)) : SE T X W e (fVar i) := by
  intro env h m σ H Q hE hS ho
  unfold fVar at ho
  cases q : env[i]? with
  | none => rw [q] at ho; exact ho.elim
  | some ou =>
    rw [q] at ho
    cases ou with
    | none => exact ho.elim
    | some u =>
      obtain ⟨v, ev, r⟩ := hE.get q
      exact ⟨_, p, v, ev, ho m H v (Grow.refl m H) hS r⟩
def fCon (u : U) : FE := fun _ h => .ok u h
theorem s_con {u : U} {v : V} (p : PE X e (tC v)) (r : ∀ m H, Rel T m H u v) : SE T X W e (fCon u) := fun env h m σ H Q hE hS ho =>
  ⟨_, p, ho m H v (Grow.refl m H) hS (r m H)⟩

/-! two operands -/
def OpS (T : Tb) (X : Cx) (f : Value → Value → Sem Value) (g : U → U → Hv → R U) : Prop :=
  ∀ m h H u1 u2 v1 v2 E Q, SimH T m h H → Rel T m H u1 v1 → Rel T m H u2 v2 → Out T m H E (RV T) (g u1 u2 h) Q → ∃ r, OpR X f r ∧ r v1 v2 H Q
def opx (X : Cx) (f : Value → Value → Sem Value) : R2 := fun x y H Q => ∃ r, OpR X f r ∧ r x y H Q
theorem opx_ok (f : Value → Value → Sem Value) : OpR X f (opx X f) := by
  intro pins s σ H x y v u Q I rx ry ⟨r, hr, q⟩
  exact hr pins s σ H x y v u Q I rx ry q
def f2 (g : U → U → Hv → R U) (fa fb : FE) : FE := fun env h => (fa env h).bind fun u1 h1 => (fb env h1).bind fun u2 h2 => g u1 u2 h2
theorem two {fa fb : FE} {g : U → U → Hv → R U} {r : V → V → Hp → VK → Prop} (ha : SE T X W a fa) (hb : SE T X W b fb)
    (hg : ∀ m h H u1 u2 v1 v2 E Q, SimH T m h H → Rel T m H u1 v1 → Rel T m H u2 v2 → Out T m H E (RV T) (g u1 u2 h) Q → r v1 v2 H Q)
    {env : Ev} {h : Hv} {m : Mp} {σ : St} {H : Hp} {Q : VK} (hE : EnvR T m H env σ) (hS : SimH T m h H) (ho : Out T m H (wat W σ) (RV T) (f2 g fa fb env h) Q) : tOp r (EX X a) (EX X b) σ H Q := by
  refine ha env h m σ H _ hE hS (ho.bind fun u1 h1 m1 H1 v1 _ g1 s1 r1 o1 => ?_)
  refine hb env h1 m1 σ H1 _ (hE.up g1) s1 (o1.bind fun u2 h2 m2 H2 v2 _ g2 s2 r2 o2 => ?_)
  exact hg m2 h2 H2 u1 u2 v1 v2 _ _ s2 (r1.up g2) r2 o2
theorem s_bin {op : Operator} {fa fb : FE} {g : U → U → Hv → R U} (hg : OpS T X (binaryOp op) g) (ha : SE T X W a fa) (hb : SE T X W b fb) : SE T X W (.BinOp a op b pos) (f2 g fa fb) := fun env h m σ H Q hE hS ho =>
  ⟨_, pe_op (opx_ok _) EX.pe EX.pe, two ha hb hg hE hS ho⟩
theorem s_cmp {op : CmpOp} {fa fb : FE} {g : U → U → Hv → R U} (hg : OpS T X (compareOp op) g) (ha : SE T X W a fa) (hb : SE T X W b fb) (hm : behindInMarks op b = false) : SE T X W (.Compare a [op] [b] pos) (f2 g fa fb) := fun env h m σ H Q hE hS ho =>
  ⟨_, pe_cmpR (opx_ok _) EX.pe EX.pe hm, two ha hb hg hE hS ho⟩
/-- what is True or False -/
def asB : U → Hv → R Bool := fun u h => match u with
  | .bl k => .ok k h
  | _ => .bad
def fB (f : FE) : Ev → Hv → R Bool := fun env h => (f env h).bind asB
theorem out_asB {m : Mp} {h : Hv} {H : Hp} {E : XK} {u : U} {v : V} {Q : Bool → Hp → Prop} (hS : SimH T m h H) (r : Rel T m H u v) (o : Out T m H E (fun _ _ a b => a = b) (asB u h) Q) : ∃ k, u = .bl k ∧ v = .bl k ∧ Q k H := by
  cases u with
  | bl k => exact ⟨k, rfl, r, o m H k (Grow.refl m H) hS rfl⟩
  | _ => exact o.elim
theorem s_tcmp {op : CmpOp} {fa fb : FE} {g : U → U → Hv → R U} (hg : OpS T X (compareOp op) g) (ha : SE T X W a fa) (hb : SE T X W b fb) (hm : behindInMarks op b = false) : STt T X W (.Compare a [op] [b] pos) (fB (f2 g fa fb)) := fun env h m σ H Q hE hS ho => by
  refine ⟨_, pt_cmpR (opx_ok _) EX.pe EX.pe hm, ?_⟩
  refine two ha hb hg hE hS (ho.bind fun u h1 m1 H1 v _ g1 s1 r1 o1 => ?_)
  obtain ⟨k, _, ev, q⟩ := out_asB s1 r1 o1
  exact ⟨k, ev, q⟩
/-- an expression as a test, its value True or False -/
theorem s_tval {f : FE} (hf : SE T X W e f) (he : ∀ whole, isTrue e X.env whole = (do let v ← whole; standAt e.pos; holding [v] (truthy v))) : STt T X W e (fB f) := fun env h m σ H Q hE hS ho => by
  refine ⟨_, pt_val EX.pe he, ?_⟩
  refine hf env h m σ H _ hE hS (ho.bind fun u h1 m1 H1 v _ g1 s1 r1 o1 => ?_)
  obtain ⟨k, _, ev, q⟩ := out_asB s1 r1 o1
  exact ⟨k, ev, q⟩
/-! not, and, or -/
abbrev FT := Ev → Hv → R Bool
def fNotT (f : FT) : FT := fun env h => (f env h).bind fun k h1 => .ok (!k) h1
theorem s_tnot {f : FT} (hf : STt T X W a f) : STt T X W (.UnaryOp .Not a pos) (fNotT f) := fun env h m σ H Q hE hS ho => by
  refine ⟨_, pt_not TX.pt, ?_⟩
  refine hf env h m σ H _ hE hS (ho.bind fun k h1 m1 H1 k' _ g1 s1 r1 o1 => ?_)
  subst r1
  exact o1 m1 H1 (!k) (Grow.refl _ _) s1 rfl
/-- and, or of tests, whatever stands around -/
def SW (T : Tb) (X : Cx) (W : WX') (e : Expr) (f : FT) : Prop :=
  ∀ env h m σ H Q, EnvR T m H env σ → SimH T m h H → Out T m H (wat W σ) (fun _ _ a b => a = b) (f env h) Q → ∃ t, PW X e t ∧ t σ H Q
theorem WX.pw {e : Expr} : PW X e (fun σ H Q => ∃ t, PW X e t ∧ t σ H Q) := ⟨fun wh pins s σ H Q I ⟨t, ht, q⟩ => ht.run wh pins s σ H Q I q⟩
theorem s_w {f : FT} (hf : SW T X W e f) : STt T X W e f := fun env h m σ H Q hE hS ho => let ⟨t, p, q⟩ := hf env h m σ H Q hE hS ho; ⟨t, p.pt, q⟩
theorem s_wand1 {f : FT} (hf : STt T X W a f) : SW T X W (.BoolOp .And [a] pos) f := fun env h m σ H Q hE hS ho => ⟨_, pw_and1 TX.pt, hf env h m σ H Q hE hS ho⟩
theorem s_wor1 {f : FT} (hf : STt T X W a f) : SW T X W (.BoolOp .Or [a] pos) f := fun env h m σ H Q hE hS ho => ⟨_, pw_or1 TX.pt, hf env h m σ H Q hE hS ho⟩
def fAndT (f g : FT) : FT := fun env h => (f env h).bind fun k h1 => match k with
  | true => g env h1
  | false => .ok false h1
def fOrT (f g : FT) : FT := fun env h => (f env h).bind fun k h1 => match k with
  | true => .ok true h1
  | false => g env h1
theorem s_wand {rest : List Expr} {f g : FT} (hf : STt T X W a f) (hg : SW T X W (.BoolOp .And (b :: rest) pos) g) : SW T X W (.BoolOp .And (a :: b :: rest) pos) (fAndT f g) := fun env h m σ H Q hE hS ho => by
  refine ⟨_, pw_and TX.pt WX.pw, ?_⟩
  refine hf env h m σ H _ hE hS (ho.bind fun k h1 m1 H1 k' _ g1 s1 r1 o1 => ?_)
  subst r1
  cases k with
  | true => exact iteT (hg env h1 m1 σ H1 Q (hE.up g1) s1 o1)
  | false => exact iteF (o1 m1 H1 false (Grow.refl _ _) s1 rfl)
theorem s_wor {rest : List Expr} {f g : FT} (hf : STt T X W a f) (hg : SW T X W (.BoolOp .Or (b :: rest) pos) g) : SW T X W (.BoolOp .Or (a :: b :: rest) pos) (fOrT f g) := fun env h m σ H Q hE hS ho => by
  refine ⟨_, pw_or TX.pt WX.pw, ?_⟩
  refine hf env h m σ H _ hE hS (ho.bind fun k h1 m1 H1 k' _ g1 s1 r1 o1 => ?_)
  subst r1
  cases k with
  | true => exact iteT (o1 m1 H1 true (Grow.refl _ _) s1 rfl)
  | false => exact iteF (hg env h1 m1 σ H1 Q (hE.up g1) s1 o1)
/-! .. as values: all but the last True or False -/
def fAnd (f g : FE) : FE := fun env h => (f env h).bind fun u h1 => match u with
  | .bl true => g env h1
  | .bl false => .ok (.bl false) h1
  | _ => .bad
def fOr (f g : FE) : FE := fun env h => (f env h).bind fun u h1 => match u with
  | .bl true => .ok (.bl true) h1
  | .bl false => g env h1
  | _ => .bad
def fNot (f : FE) : FE := fun env h => (f env h).bind fun u h1 => match u with
  | .bl k => .ok (.bl (!k)) h1
  | _ => .bad
theorem s_one {op} {f : FE} (hf : SE T X W a f) : SE T X W (.BoolOp op [a] pos) f := fun env h m σ H Q hE hS ho => ⟨_, pe_one EX.pe, hf env h m σ H Q hE hS ho⟩
theorem s_and {rest : List Expr} {f g : FE} (hf : SE T X W a f) (hg : SE T X W (.BoolOp .And (b :: rest) pos) g) : SE T X W (.BoolOp .And (a :: b :: rest) pos) (fAnd f g) := fun env h m σ H Q hE hS ho => by
  refine ⟨_, pe_and EX.pe EX.pe, ?_⟩
  refine hf env h m σ H _ hE hS (ho.bind fun u h1 m1 H1 v _ g1 s1 r1 o1 => ?_)
  cases u with
  | bl k =>
    refine ⟨k, r1, ?_⟩
    cases k with
    | true => exact iteT (hg env h1 m1 σ H1 Q (hE.up g1) s1 o1)
    | false => exact iteF (o1 m1 H1 (.bl false) (Grow.refl _ _) s1 rfl)
  | _ => exact o1.elim
theorem s_or {rest : List Expr} {f g : FE} (hf : SE T X W a f) (hg : SE T X W (.BoolOp .Or (b :: rest) pos) g) : SE T X W (.BoolOp .Or (a :: b :: rest) pos) (fOr f g) := fun env h m σ H Q hE hS ho => by
  refine ⟨_, pe_or EX.pe EX.pe, ?_⟩
  refine hf env h m σ H _ hE hS (ho.bind fun u h1 m1 H1 v _ g1 s1 r1 o1 => ?_)
  cases u with
  | bl k =>
    refine ⟨k, r1, ?_⟩
    cases k with
    | true => exact iteT (o1 m1 H1 (.bl true) (Grow.refl _ _) s1 rfl)
    | false => exact iteF (hg env h1 m1 σ H1 Q (hE.up g1) s1 o1)
  | _ => exact o1.elim
theorem s_not {f : FE} (hf : SE T X W a f) : SE T X W (.UnaryOp .Not a pos) (fNot f) := fun env h m σ H Q hE hS ho => by
  refine ⟨_, pe_not EX.pe, ?_⟩
  refine hf env h m σ H _ hE hS (ho.bind fun u h1 m1 H1 v _ g1 s1 r1 o1 => ?_)
  cases u with
  | bl k => exact ⟨k, r1, o1 m1 H1 (.bl (!k)) (Grow.refl _ _) s1 rfl⟩
  | _ => exact o1.elim
def fIf (t : FT) (f g : FE) : FE := fun env h => (t env h).bind fun k h1 => match k with
  | true => f env h1
  | false => g env h1
theorem s_ifx {t : FT} {f g : FE} (ht : STt T X W c t) (hf : SE T X W a f) (hg : SE T X W b g) : SE T X W (.IfExp c a b pos) (fIf t f g) := fun env h m σ H Q hE hS ho => by
  refine ⟨_, pe_ifExp TX.pt EX.pe EX.pe, ?_⟩
  refine ht env h m σ H _ hE hS (ho.bind fun k h1 m1 H1 k' _ g1 s1 r1 o1 => ?_)
  subst r1
  cases k with
  | true => exact iteT (hf env h1 m1 σ H1 Q (hE.up g1) s1 o1)
  | false => exact iteF (hg env h1 m1 σ H1 Q (hE.up g1) s1 o1)
/-! argument lists, displays -/
def fNilA : FL := fun _ h => .ok [] h
def fConsA (f : FE) (g : FL) : FL := fun env h => (f env h).bind fun u h1 => (g env h1).bind fun us h2 => .ok (u :: us) h2
theorem s_nil : SL T X W [] fNilA := fun env h m σ H Q hE hS ho => ⟨_, pa_nil, ho m H [] (Grow.refl _ _) hS rfl⟩
theorem s_cons {es : List Expr} {f : FE} {g : FL} (hf : SE T X W e f) (hg : SL T X W es g) (hs : starEach (e :: es) X.env = (false, eval e X.env) :: starEach es X.env := by rfl) : SL T X W (e :: es) (fConsA f g) := fun env h m σ H Q hE hS ho => by
  refine ⟨_, pa_cons EX.pe AX.pa hs, ?_⟩
  refine hf env h m σ H _ hE hS (ho.bind fun u h1 m1 H1 v _ g1 s1 r1 o1 => ?_)
  refine hg env h1 m1 σ H1 _ (hE.up g1) s1 (o1.bind fun us h2 m2 H2 vs _ g2 s2 r2 o2 => ?_)
  exact o2 m2 H2 (v :: vs) (Grow.refl _ _) s2 ⟨v, vs, rfl, r1.up g2, r2⟩
def many : Nat := 16777216
theorem many_eq : many = sizeLine := by rw [sizeLine_eq]; rfl
def few (us : List U) (r : R U) : R U := if us.length ≤ many then r else .bad
theorem few_ok {us : List U} {r : R U} {m : Mp} {H : Hp} {E : XK} {Q : VK} (o : Out T m H E (RV T) (few us r) Q) : us.length ≤ sizeLine ∧ Out T m H E (RV T) r Q := by
  unfold few at o
  by_cases z : us.length ≤ many
  · rw [if_pos z] at o; exact ⟨by rw [← many_eq]; exact z, o⟩
  · rw [if_neg z] at o; exact o.elim
def fTup (g : FL) : FE := fun env h => (g env h).bind fun us h1 => few us (.ok (.tup us) h1)
def newL (us : List U) (h : Hv) : R U := few us (.ok (.ref h.nx) (h.new (.lst us)))
def fLst (g : FL) : FE := fun env h => (g env h).bind newL
theorem out_tup {m : Mp} {h : Hv} {H : Hp} {E : XK} {us : List U} {vs : List V} {Q : VK} (hS : SimH T m h H) (r : RelL T m H us vs) (o : Out T m H E (RV T) (few us (.ok (.tup us) h)) Q) : vs.length ≤ sizeLine ∧ ∀ p, H p = none → Q (.ref p) (upd H p (.tup vs)) := by
  obtain ⟨z, o⟩ := few_ok o
  refine ⟨by rw [← r.len]; exact z, fun p hp => ?_⟩
  have g := Grow.beside (m := m) (o := .tup vs) hp
  exact o m _ (.ref p) g (hS.beside hp) ⟨p, vs, rfl, SqT.of upd_same, r.up g⟩
theorem out_lst {m : Mp} {h : Hv} {H : Hp} {E : XK} {us : List U} {vs : List V} {Q : VK} (hS : SimH T m h H) (r : RelL T m H us vs) (o : Out T m H E (RV T) (newL us h) Q) : vs.length ≤ sizeLine ∧ ∀ p, H p = none → Q (.ref p) (upd H p (.lst vs)) := by
  obtain ⟨z, o⟩ := few_ok o
  refine ⟨by rw [← r.len]; exact z, fun p hp => ?_⟩
  have g := Grow.new (o := .lst vs) hS hp
  refine o _ _ (.ref p) g (hS.new hp ⟨vs, upd_same, r.up g⟩) ⟨p, ?_, rfl⟩
  unfold Mp.add; rw [if_pos rfl]
theorem s_tup {es : List Expr} {x1} {g : FL} (hg : SL T X W es g) : SE T X W (.Tuple es x1 pos) (fTup g) := fun env h m σ H Q hE hS ho => by
  refine ⟨_, pe_tup AX.pa, ?_⟩
  exact hg env h m σ H _ hE hS (ho.bind fun us h1 m1 H1 vs _ g1 s1 r1 o1 => out_tup s1 r1 o1)
theorem s_lst {es : List Expr} {g : FL} (hg : SL T X W es g) : SE T X W (.List es pos) (fLst g) := fun env h m σ H Q hE hS ho => by
  refine ⟨_, pe_lst AX.pa, ?_⟩
  exact hg env h m σ H _ hE hS (ho.bind fun us h1 m1 H1 vs _ g1 s1 r1 o1 => out_lst s1 r1 o1)
end
end VI

/-! VI, part D: operators and comparisons by values. -/
namespace VI
open PySem L2
section
variable {T : Tb} {X : Cx} {W : WX'}
theorem strV_len (x : List Nat) : (strV x).length = x.length := by simp [strV, Str.length]
theorem strV_list (x : List Nat) : (strV x).cps.toList = x := by simp [strV]
theorem strV_inj {x y : List Nat} (h : strV x = strV y) : x = y := by
  have := congrArg (fun s : Str => s.cps.toList) h
  simpa [strV] using this
theorem strV_app (x y : List Nat) : strV x ++ strV y = strV (x ++ y) := by
  show (⟨_⟩ : Str) = ⟨_⟩
  simp [strV]
def short (x : List Nat) (r : R U) : R U := if x.length ≤ many then r else .bad
theorem short_ok {x : List Nat} {r : R U} {m : Mp} {H : Hp} {E : XK} {Q : VK} (o : Out T m H E (RV T) (short x r) Q) : x.length ≤ sizeLine ∧ Out T m H E (RV T) r Q := by
  unfold short at o
  by_cases z : x.length ≤ many
  · rw [if_pos z] at o; exact ⟨by rw [← many_eq]; exact z, o⟩
  · rw [if_neg z] at o; exact o.elim
/-- the own list behind a reference -/
def Hv.lst (h : Hv) (p : Ix) : Option (List U) := match h.get p with
  | some (.lst us) => some us
  | _ => none
theorem SimH.lst {m : Mp} {h : Hv} {H : Hp} (s : SimH T m h H) {p : Ix} {a : Addr} {us : List U} (e : m p = some a) (q : h.lst p = some us) : ∃ vs, H a = some (.lst vs) ∧ RelL T m H us vs := by
  have q' : h.get p = some (.lst us) := by
    unfold Hv.lst at q
    split at q
    · rename_i us' e'; cases q; exact e'
    · cases q
  exact s.at e q'
def gAdd (u1 u2 : U) (h : Hv) : R U := match u1, u2 with
  | .int i, .int j => .ok (.int (i + j)) h
  | .str x, .str y => short (x ++ y) (.ok (.str (x ++ y)) h)
  | .tup us, .tup ws => match us with
    | [] => .bad
    | u :: us => few (u :: us ++ ws) (.ok (.tup (u :: us ++ ws)) h)
  | .ref p, .ref q => match h.lst p, h.lst q with
    | some us, some ws => newL (us ++ ws) h
    | _, _ => .bad
  | _, _ => .bad
theorem o_add (hK : T.K = X.K := by rfl) : OpS T X (binaryOp .Add) gAdd := by
  intro m h H u1 u2 v1 v2 E Q hS r1 r2 o
  cases u1 <;> cases u2 <;> try exact o.elim
  · rename_i i j
    exact ⟨_, op_add, i, j, r1, r2, o m H _ (Grow.refl _ _) hS rfl⟩
  · rename_i x y
    obtain ⟨z, o⟩ := short_ok o
    refine ⟨_, op_add_str, _, _, r1, r2, ?_, ?_⟩
    · rw [strV_len, strV_len, ← List.length_append]; exact z
    · rw [strV_app]; exact o m H _ (Grow.refl _ _) hS rfl
  · rename_i us ws
    cases us with
    | nil => exact o.elim
    | cons u us =>
      obtain ⟨a, xs, e1, q1, l1⟩ := r1
      obtain ⟨b, ys, e2, q2, l2⟩ := r2
      have l := l1.app l2
      obtain ⟨z, k⟩ := out_tup hS l o
      refine ⟨_, op_catT, a, b, xs, ys, e1, e2, hK ▸ q1, hK ▸ q2, ?_, ?_, fun e => ?_, fun _ => k⟩
      · intro e; subst e; obtain ⟨v, r, e, _⟩ := l1; cases e
      · rw [← List.length_append]; exact z
      · subst e
        obtain ⟨z, o⟩ := few_ok o
        refine o m H (.ref a) (Grow.refl _ _) hS ⟨a, xs, rfl, q1, ?_⟩
        simpa using l
  · rename_i p q
    obtain ⟨a, e1, rfl⟩ := r1
    obtain ⟨b, e2, rfl⟩ := r2
    simp only [gAdd] at o
    cases z1 : h.lst p with
    | none => rw [z1] at o; exact o.elim
    | some us =>
      cases z2 : h.lst q with
      | none => rw [z1, z2] at o; exact o.elim
      | some ws =>
        rw [z1, z2] at o
        obtain ⟨xs, q1, l1⟩ := hS.lst e1 z1
        obtain ⟨ys, q2, l2⟩ := hS.lst e2 z2
        obtain ⟨z, k⟩ := out_lst hS (l1.app l2) o
        exact ⟨_, op_cat, a, b, xs, ys, rfl, rfl, q1, q2, by rw [← List.length_append]; exact z, k⟩
def gSub (u1 u2 : U) (h : Hv) : R U := match u1, u2 with
  | .int i, .int j => .ok (.int (i - j)) h
  | _, _ => .bad
theorem o_sub : OpS T X (binaryOp .Sub) gSub := by
  intro m h H u1 u2 v1 v2 E Q hS r1 r2 o
  cases u1 <;> cases u2 <;> try exact o.elim
  rename_i i j
  exact ⟨_, op_sub, i, j, r1, r2, o m H _ (Grow.refl _ _) hS rfl⟩
/-! comparisons of scalars -/
def cmpI (k : Bool) (h : Hv) : R U := .ok (.bl k) h
def gLt (u1 u2 : U) (h : Hv) : R U := match u1, u2 with
  | .int i, .int j => .ok (.bl (decide (i < j))) h
  | .str x, .str y => .ok (.bl (decide (x < y))) h
  | _, _ => .bad
def gLe (u1 u2 : U) (h : Hv) : R U := match u1, u2 with
  | .int i, .int j => .ok (.bl (decide (i ≤ j))) h
  | .str x, .str y => .ok (.bl (!decide (y < x))) h
  | _, _ => .bad
def gGt (u1 u2 : U) (h : Hv) : R U := gLt u2 u1 h
def gGe (u1 u2 : U) (h : Hv) : R U := gLe u2 u1 h
theorem o_lt : OpS T X (compareOp .Lt) gLt := by
  intro m h H u1 u2 v1 v2 E Q hS r1 r2 o
  cases u1 <;> cases u2 <;> try exact o.elim
  · rename_i i j
    exact ⟨_, op_lt, i, j, r1, r2, o m H _ (Grow.refl _ _) hS rfl⟩
  · rename_i x y
    refine ⟨_, op_lt_str, _, _, r1, r2, ?_⟩
    rw [strV_list, strV_list]
    exact o m H _ (Grow.refl _ _) hS rfl
theorem o_le : OpS T X (compareOp .LtE) gLe := by
  intro m h H u1 u2 v1 v2 E Q hS r1 r2 o
  cases u1 <;> cases u2 <;> try exact o.elim
  · rename_i i j
    exact ⟨_, op_le, i, j, r1, r2, o m H _ (Grow.refl _ _) hS rfl⟩
  · rename_i x y
    refine ⟨_, op_le_str, _, _, r1, r2, ?_⟩
    rw [strV_list, strV_list]
    exact o m H _ (Grow.refl _ _) hS rfl
theorem o_gt : OpS T X (compareOp .Gt) gGt := by
  intro m h H u1 u2 v1 v2 E Q hS r1 r2 o
  cases u1 <;> cases u2 <;> try exact o.elim
  · rename_i i j
    exact ⟨_, op_gt, i, j, r1, r2, o m H _ (Grow.refl _ _) hS rfl⟩
  · rename_i x y
    refine ⟨_, op_gt_str, _, _, r1, r2, ?_⟩
    rw [strV_list, strV_list]
    exact o m H _ (Grow.refl _ _) hS rfl
theorem o_ge : OpS T X (compareOp .GtE) gGe := by
  intro m h H u1 u2 v1 v2 E Q hS r1 r2 o
  cases u1 <;> cases u2 <;> try exact o.elim
  · rename_i i j
    exact ⟨_, op_ge, i, j, r1, r2, o m H _ (Grow.refl _ _) hS rfl⟩
  · rename_i x y
    refine ⟨_, op_ge_str, _, _, r1, r2, ?_⟩
    rw [strV_list, strV_list]
    exact o m H _ (Grow.refl _ _) hS rfl
/-! == of data -/
mutual
def dat : U → Option PyData
  | .non => some .none
  | .bl b => some (.bool b)
  | .int i => some (.int i)
  | .str x => some (.str (strV x))
  | .tup us => match dats us with
    | some ds => some (.tuple ds)
    | none => none
  | .ref _ => none
  | .g _ => none
def dats : List U → Option (List PyData)
  | [] => some []
  | u :: us => match dat u, dats us with
    | some d, some ds => some (d :: ds)
    | _, _ => none
end
mutual
theorem dat_dp {m : Mp} {H : Hp} : ∀ {u : U} {v : V} {d : PyData}, Rel T m H u v → dat u = some d → Dp T.K H v d
  | .non, _, _, r, e => by cases e; have r : _ = _ := r; subst r; exact .non
  | .bl b, _, _, r, e => by cases e; have r : _ = _ := r; subst r; exact .bl b
  | .int i, _, _, r, e => by cases e; have r : _ = _ := r; subst r; exact .int i
  | .str x, _, _, r, e => by cases e; have r : _ = _ := r; subst r; exact .str _
  | .tup us, _, d, r, e => by
    obtain ⟨a, vs, ev, q, l⟩ := r
    subst ev
    unfold dat at e
    cases z : dats us with
    | none => rw [z] at e; cases e
    | some ds => rw [z] at e; cases e; exact .tup q (dats_dp l z)
  | .ref _, _, _, r, e => by cases e
  | .g _, _, _, r, e => by cases e
theorem dats_dp {m : Mp} {H : Hp} : ∀ {us : List U} {vs : List V} {ds : List PyData}, RelL T m H us vs → dats us = some ds → DpAll T.K H vs ds
  | [], _, _, r, e => by cases e; have r : _ = _ := r; subst r; exact .nil
  | u :: us, _, ds, ⟨v, w, ev, q, l⟩, e => by
    subst ev
    unfold dats at e
    cases z1 : dat u with
    | none => rw [z1] at e; cases e
    | some d =>
      cases z2 : dats us with
      | none => rw [z1, z2] at e; cases e
      | some ds' => rw [z1, z2] at e; cases e; exact .cons (dat_dp q z1) (dats_dp l z2)
end
/-- own equality of lists of numbers -/
def eqN : List Nat → List Nat → Bool
  | [], [] => true
  | x :: xs, y :: ys => Nat.beq x y && eqN xs ys
  | _, _ => false
theorem eqN_iff : ∀ {x y : List Nat}, eqN x y = true ↔ x = y
  | [], [] => by simp [eqN]
  | [], _ :: _ => by simp [eqN]
  | _ :: _, [] => by simp [eqN]
  | a :: x, b :: y => by simp [eqN, eqN_iff (x := x) (y := y)]
mutual
def ueq : U → U → Bool
  | .non, .non => true
  | .bl a, .bl b => a == b
  | .bl a, .int j => (if a then 1 else 0) == j
  | .int i, .bl b => i == (if b then 1 else 0)
  | .int i, .int j => i == j
  | .str x, .str y => eqN x y
  | .tup us, .tup ws => ueqs us ws
  | _, _ => false
def ueqs : List U → List U → Bool
  | [], [] => true
  | u :: us, w :: ws => ueq u w && ueqs us ws
  | _, _ => false
end
theorem str_beq (x y : List Nat) : (strV x == strV y) = eqN x y := by
  by_cases h : x = y
  · subst h; rw [eqN_iff.mpr rfl]; simp
  · have h1 : ¬ strV x = strV y := fun z => h (strV_inj z)
    have h2 : eqN x y = false := by
      cases z : eqN x y with
      | false => rfl
      | true => exact absurd (eqN_iff.mp z) h
    rw [h2]
    exact beq_eq_false_iff_ne.mpr h1
mutual
theorem ueq_eqv : ∀ {u w : U} {d e : PyData}, dat u = some d → dat w = some e → PyData.eqv d e = ueq u w
  | .tup us, .tup ws, d, e, hu, hw => by
    simp only [dat] at hu hw
    cases z1 : dats us with
    | none => rw [z1] at hu; cases hu
    | some ds =>
      cases z2 : dats ws with
      | none => rw [z2] at hw; cases hw
      | some es =>
        rw [z1] at hu; rw [z2] at hw; cases hu; cases hw
        simp only [PyData.eqv, ueq]
        exact ueqs_eqv z1 z2
  | .str x, .str y, d, e, hu, hw => by
    cases hu; cases hw; simp only [PyData.eqv, ueq]; exact str_beq _ _
  | .tup us, w, d, e, hu, hw => by
    simp only [dat] at hu
    cases z1 : dats us with
    | none => rw [z1] at hu; cases hu
    | some ds =>
      rw [z1] at hu; cases hu
      cases w <;> first
        | (cases hw; rfl)
        | (cases hw; done)
        | (rename_i ws; simp only [dat] at hw; cases z2 : dats ws with
           | none => rw [z2] at hw; cases hw
           | some es => rw [z2] at hw; cases hw; simp only [PyData.eqv, ueq]; exact ueqs_eqv z1 z2)
  | u, .tup ws, d, e, hu, hw => by
    simp only [dat] at hw
    cases z1 : dats ws with
    | none => rw [z1] at hw; cases hw
    | some ds =>
      rw [z1] at hw; cases hw
      cases u <;> first
        | (cases hu; rfl)
        | (cases hu; done)
        | (rename_i us; simp only [dat] at hu; cases z2 : dats us with
           | none => rw [z2] at hu; cases hu
           | some es => rw [z2] at hu; cases hu; simp only [PyData.eqv, ueq]; exact ueqs_eqv z2 z1)
  | .non, w, d, e, hu, hw => by cases hu; cases w <;> simp only [dat] at hw <;> first | (cases hw; rfl) | (cases hw; done) | (split at hw <;> cases hw; rfl)
  | .bl _, w, d, e, hu, hw => by cases hu; cases w <;> simp only [dat] at hw <;> first | (cases hw; rfl) | (cases hw; done) | (split at hw <;> cases hw; rfl)
  | .int _, w, d, e, hu, hw => by cases hu; cases w <;> simp only [dat] at hw <;> first | (cases hw; rfl) | (cases hw; done) | (split at hw <;> cases hw; rfl)
  | .str x, w, d, e, hu, hw => by cases hu; cases w <;> simp only [dat] at hw <;> first | (cases hw; simp only [PyData.eqv, ueq]; exact str_beq _ _) | (cases hw; rfl) | (cases hw; done) | (split at hw <;> cases hw; rfl)
  | .ref _, _, _, _, hu, _ => by cases hu
  | .g _, _, _, _, hu, _ => by cases hu
theorem ueqs_eqv : ∀ {u w : List U} {d e : List PyData}, dats u = some d → dats w = some e → PyData.eqvAll d e = ueqs u w
  | [], [], _, _, hu, hw => by cases hu; cases hw; rfl
  | [], y :: w, _, _, hu, hw => by
    cases hu
    simp only [dats] at hw
    split at hw
    · cases hw; rfl
    · cases hw
  | x :: u, [], _, _, hu, hw => by
    cases hw
    simp only [dats] at hu
    split at hu
    · cases hu; rfl
    · cases hu
  | x :: u, y :: w, _, _, hu, hw => by
    simp only [dats] at hu hw
    split at hu
    · split at hw
      · rename_i d ds e1 e2 _ _ e' es' f1 f2
        cases hu; cases hw
        simp only [PyData.eqvAll, ueqs]
        rw [ueq_eqv e1 f1, ueqs_eqv e2 f2]
      · cases hw
    · cases hu
end
/-- may be laid out: texts of signs, not too deep -/
def okD (u : U) : Bool := match dat u with
  | some d => SeqAt.shaped d
  | none => false
def gEq (u1 u2 : U) (h : Hv) : R U := match okD u1, okD u2 with
  | true, true => .ok (.bl (ueq u1 u2)) h
  | _, _ => .bad
def gNe (u1 u2 : U) (h : Hv) : R U := match okD u1, okD u2 with
  | true, true => .ok (.bl (!ueq u1 u2)) h
  | _, _ => .bad
theorem okD_ok {u : U} (h : okD u = true) : ∃ d, dat u = some d ∧ SeqAt.shaped d = true := by
  unfold okD at h
  split at h
  · rename_i d e; exact ⟨d, e, h⟩
  · cases h
theorem o_eq {k : Nat} (hr : Room k X.A) (hK : T.K = X.K := by rfl) : OpS T X (compareOp .Eq) gEq := by
  intro m h H u1 u2 v1 v2 E Q hS r1 r2 o
  unfold gEq at o
  cases z1 : okD u1 with
  | false => rw [z1] at o; exact o.elim
  | true =>
    cases z2 : okD u2 with
    | false => rw [z1, z2] at o; exact o.elim
    | true =>
      rw [z1, z2] at o
      obtain ⟨d, e1, s1⟩ := okD_ok z1
      obtain ⟨e, e2, s2⟩ := okD_ok z2
      refine ⟨_, op_eqD hr.units, d, e, hK ▸ dat_dp r1 e1, hK ▸ dat_dp r2 e2, s1, s2, ?_⟩
      rw [ueq_eqv e1 e2]
      exact o m H _ (Grow.refl _ _) hS rfl
theorem o_ne {k : Nat} (hr : Room k X.A) (hK : T.K = X.K := by rfl) : OpS T X (compareOp .NotEq) gNe := by
  intro m h H u1 u2 v1 v2 E Q hS r1 r2 o
  unfold gNe at o
  cases z1 : okD u1 with
  | false => rw [z1] at o; exact o.elim
  | true =>
    cases z2 : okD u2 with
    | false => rw [z1, z2] at o; exact o.elim
    | true =>
      rw [z1, z2] at o
      obtain ⟨d, e1, s1⟩ := okD_ok z1
      obtain ⟨e, e2, s2⟩ := okD_ok z2
      refine ⟨_, op_neD hr.units, d, e, hK ▸ dat_dp r1 e1, hK ▸ dat_dp r2 e2, s1, s2, ?_⟩
      rw [ueq_eqv e1 e2]
      exact o m H _ (Grow.refl _ _) hS rfl
/-! is None -/
def isN : U → Option Bool
  | .non => some true
  | .g _ => none
  | _ => some false
theorem isN_ok {m : Mp} {H : Hp} {u : U} {v : V} {k : Bool} (r : Rel T m H u v) (e : isN u = some k) : decide (v = .non) = k := by
  cases u <;> cases e
  · have r : _ = _ := r; subst r; rfl
  · have r : _ = _ := r; subst r; rfl
  · have r : _ = _ := r; subst r; rfl
  · have r : _ = _ := r; subst r; rfl
  · obtain ⟨a, vs, rfl, _⟩ := r; rfl
  · obtain ⟨a, _, rfl⟩ := r; rfl
def gIs (u1 u2 : U) (h : Hv) : R U := match u2, isN u1 with
  | .non, some k => .ok (.bl k) h
  | _, _ => .bad
def gIsNot (u1 u2 : U) (h : Hv) : R U := match u2, isN u1 with
  | .non, some k => .ok (.bl (!k)) h
  | _, _ => .bad
theorem o_is : OpS T X (compareOp .Is) gIs := by
  intro m h H u1 u2 v1 v2 E Q hS r1 r2 o
  unfold gIs at o
  cases u2 <;> try exact o.elim
  cases z : isN u1 with
  | none => rw [z] at o; exact o.elim
  | some k =>
    rw [z] at o
    refine ⟨_, op_isN, r2, ?_⟩
    rw [isN_ok r1 z]
    exact o m H _ (Grow.refl _ _) hS rfl
theorem o_isnot : OpS T X (compareOp .IsNot) gIsNot := by
  intro m h H u1 u2 v1 v2 E Q hS r1 r2 o
  unfold gIsNot at o
  cases u2 <;> try exact o.elim
  cases z : isN u1 with
  | none => rw [z] at o; exact o.elim
  | some k =>
    rw [z] at o
    refine ⟨_, op_notN, r2, ?_⟩
    rw [isN_ok r1 z]
    exact o m H _ (Grow.refl _ _) hS rfl
/-! in: flat things in a tuple or an own list -/
def flat : U → Bool
  | .non => true
  | .bl _ => true
  | .int _ => true
  | .str _ => true
  | _ => false
theorem flat_V {m : Mp} {H : Hp} {u : U} {v : V} (r : Rel T m H u v) (f : flat u = true) : flatV v = true := by
  cases u <;> cases f <;> (have r : _ = _ := r; subst r; rfl)
theorem flats_V {m : Mp} {H : Hp} : ∀ {us : List U} {vs : List V}, RelL T m H us vs → us.all flat = true → vs.all flatV = true
  | [], _, r, _ => by have r : _ = _ := r; subst r; rfl
  | u :: us, _, ⟨v, w, e, q, l⟩, f => by
    subst e
    simp only [List.all_cons, Bool.and_eq_true] at f ⊢
    exact ⟨flat_V q f.1, flats_V l f.2⟩
theorem flat_eq {m : Mp} {H : Hp} {u w : U} {v x : V} (r : Rel T m H u v) (s : Rel T m H w x) (f : flat u = true) (g : flat w = true) : eqV v x = ueq u w := by
  cases u <;> cases f <;> (have r : _ = _ := r; subst r) <;> cases w <;> cases g <;> (have s : _ = _ := s; subst s) <;> simp only [eqV, ueq]
  exact str_beq _ _
def inU (x : U) (us : List U) : Bool := us.any fun y => ueq y x
theorem inU_V {m : Mp} {H : Hp} {x : U} {v : V} (r : Rel T m H x v) (f : flat x = true) : ∀ {us : List U} {vs : List V}, RelL T m H us vs → us.all flat = true → inV v vs = inU x us
  | [], _, r, _ => by have r : _ = _ := r; subst r; rfl
  | u :: us, _, ⟨y, w, e, q, l⟩, g => by
    subst e
    simp only [List.all_cons, Bool.and_eq_true] at g
    have ih := inU_V r f l g.2
    unfold inV inU at ih ⊢
    simp only [List.any_cons]
    rw [flat_eq q r g.1 f, ih]
def seqU (u : U) (h : Hv) : Option (List U) := match u with
  | .tup us => some us
  | .ref p => h.lst p
  | _ => none
theorem seqU_ok {m : Mp} {h : Hv} {H : Hp} (hS : SimH T m h H) {u : U} {v : V} {us : List U} (r : Rel T m H u v) (e : seqU u h = some us) : ∃ a vs, v = .ref a ∧ (SqL T.K H a vs ∨ SqT T.K H a vs) ∧ RelL T m H us vs := by
  cases u <;> try cases e
  · obtain ⟨a, vs, ev, q, l⟩ := r
    exact ⟨a, vs, ev, .inr q, l⟩
  · obtain ⟨a, e1, ev⟩ := r
    obtain ⟨vs, q, l⟩ := hS.lst e1 e
    exact ⟨a, vs, ev, .inl (SqL.of q), l⟩
def gInB (neg : Bool) (u1 u2 : U) (h : Hv) : R U := match seqU u2 h with
  | some us => match flat u1 && us.all flat with
    | true => .ok (.bl (if neg then !inU u1 us else inU u1 us)) h
    | false => .bad
  | none => .bad
theorem in_any (neg : Bool) {op : CmpOp} (hop : OpR X (compareOp op) (rIn X.K neg)) (hK : T.K = X.K) : OpS T X (compareOp op) (gInB neg) := by
  intro m h H u1 u2 v1 v2 E Q hS r1 r2 o
  unfold gInB at o
  cases z : seqU u2 h with
  | none => rw [z] at o; exact o.elim
  | some us =>
    rw [z] at o
    simp only at o
    cases f : flat u1 && us.all flat with
    | false => rw [f] at o; exact o.elim
    | true =>
      rw [f] at o
      rw [Bool.and_eq_true] at f
      obtain ⟨a, vs, ev, q, l⟩ := seqU_ok hS r2 z
      refine ⟨_, hop, a, vs, ev, hK ▸ q, flat_V r1 f.1, flats_V l f.2, ?_⟩
      rw [inU_V r1 f.1 l f.2]
      exact o m H _ (Grow.refl _ _) hS rfl
theorem o_in (hK : T.K = X.K := by rfl) : OpS T X (compareOp .In) (gInB false) := in_any false op_in_seq hK
theorem o_notin (hK : T.K = X.K := by rfl) : OpS T X (compareOp .NotIn) (gInB true) := in_any true op_notIn_seq hK
end
end VI

/-! VI, part E: subscripts, slices, attributes. -/
namespace VI
open PySem L2
section
variable {T : Tb} {X : Cx} {W : WX'} {e a b c o : Expr} {pos p2 : Pos}
/-! written dicts with text keys -/
abbrev Kd := Nat → Option (List (List Nat × U))
def lkN (x : List Nat) : List (List Nat × U) → Option U
  | [] => none
  | (k, u) :: r => match eqN k x with
    | true => some u
    | false => lkN x r
inductive Ent (T : Tb) : List (List Nat × U) → List DictEntry → Prop
  | nil : Ent T [] []
  | cons {k : List Nat} {u : U} {v : V} {en : DictEntry} {t : Tok} {kvs : List (List Nat × U)} {es : List DictEntry} (hk : en.key = .str (strV k) t) (hv : RelV v en.val) (hr : ∀ m H, Rel T m H u v) (r : Ent T kvs es) : Ent T ((k, u) :: kvs) (en :: es)
structure KdOk (T : Tb) (K : PySem.W.Frag) (w : World) (i : Nat) (kvs : List (List Nat × U)) : Prop where
  ex : ∃ d es n, T.gt i = .ref d ∧ KDict K w d es n ∧ Ent T kvs es.toList
def KdsOk (T : Tb) (K : PySem.W.Frag) (w : World) (kd : Kd) : Prop := ∀ i kvs, kd i = some kvs → KdOk T K w i kvs
theorem isStr_eq (k x : List Nat) (t : Tok) : (Value.str (strV k) t).isStr (strV x) = eqN k x := by
  rw [PySem.W.isStr_of]
  show (strV k == strV x) = _
  exact str_beq k x
theorem ent_find {x : List Nat} : ∀ {kvs : List (List Nat × U)} {es : List DictEntry}, Ent T kvs es →
    (∀ u, lkN x kvs = some u → ∃ en v, es.find? (·.key.isStr (strV x)) = some en ∧ RelV v en.val ∧ ∀ m H, Rel T m H u v) ∧ (lkN x kvs = none → es.find? (·.key.isStr (strV x)) = none) ∧ es.any (·.refKey) = false := by
  intro kvs es h
  induction h with
  | nil => exact ⟨(fun u z => by unfold lkN at z; cases z), ⟨(fun _ => rfl), rfl⟩⟩
  | @cons k u v en t kvs es hk hv hr r ih =>
    obtain ⟨i1, i2, i3⟩ := ih
    have q : en.key.isStr (strV x) = eqN k x := by rw [hk]; exact isStr_eq k x t
    refine ⟨fun w z => ?_, fun z => ?_, ?_⟩
    · simp only [lkN] at z
      cases y : eqN k x with
      | true =>
        rw [y] at z; cases z
        exact ⟨en, v, by rw [List.find?_cons, q, y], hv, hr⟩
      | false =>
        rw [y] at z
        obtain ⟨en', v', h1, h2⟩ := i1 w z
        exact ⟨en', v', by rw [List.find?_cons, q, y]; exact h1, h2⟩
    · simp only [lkN] at z
      cases y : eqN k x with
      | true => rw [y] at z; cases z
      | false => rw [y] at z; rw [List.find?_cons, q, y]; exact i2 z
    · rw [List.any_cons, i3, Bool.or_false]
      unfold DictEntry.refKey
      rw [hk]
theorem kd_in {K : PySem.W.Frag} {w : World} {d : Addr} {es : Array DictEntry} {n : Nat} (D : KDict K w d es n) {kvs : List (List Nat × U)} (h : Ent T kvs es.toList) (x : List Nat) :
    (∀ u, lkN x kvs = some u → ∃ u0 v, PySem.W.nsIn K d (strV x) = some (some u0) ∧ RelV v u0 ∧ ∀ m H, Rel T m H u v) ∧ (lkN x kvs = none → PySem.W.nsIn K d (strV x) = some none) := by
  obtain ⟨i1, i2, i3⟩ := ent_find (x := x) h
  refine ⟨fun u z => ?_, fun z => ?_⟩
  · obtain ⟨en, v, h1, h2, h3⟩ := i1 u z
    exact ⟨en.val, v, by unfold PySem.W.nsIn; rw [D.at_]; simp only; rw [h1], h2, h3⟩
  · unfold PySem.W.nsIn
    rw [D.at_]
    simp only
    rw [i2 z, i3]
    rfl
def gInK (kd : Kd) (neg : Bool) (u1 u2 : U) (h : Hv) : R U := match u2 with
  | .g i => match kd i, u1 with
    | some kvs, .str x => .ok (.bl (if neg then !(lkN x kvs).isSome else (lkN x kvs).isSome)) h
    | _, _ => .bad
  | u2 => gInB neg u1 u2 h
theorem o_inK {kd : Kd} (hd : KdsOk T X.K X.w kd) (hK : T.K = X.K := by rfl) : OpS T X (compareOp .In) (gInK kd false) := by
  intro m h H u1 u2 v1 v2 E Q hS r1 r2 o
  cases u2 <;> try exact o_in hK m h H _ _ v1 v2 E Q hS r1 r2 o
  rename_i i
  simp only [gInK] at o
  cases z : kd i with
  | none => rw [z] at o; exact o.elim
  | some kvs =>
    rw [z] at o
    cases u1 <;> try exact o.elim
    rename_i x
    obtain ⟨d, es, n, eg, D, en⟩ := (hd i kvs z).ex
    have r2 : v2 = T.gt i := r2
    obtain ⟨i1, i2⟩ := kd_in D en x
    refine ⟨_, op_in_kd D, strV x, ?_⟩
    cases y : lkN x kvs with
    | some u =>
      obtain ⟨u0, v, q, _⟩ := i1 u y
      refine ⟨_, r1, r2.trans eg, q, ?_⟩
      have o := o m H (.bl true) (Grow.refl _ _) hS (by rw [y]; rfl)
      exact o
    | none =>
      refine ⟨_, r1, r2.trans eg, i2 y, ?_⟩
      have o := o m H (.bl false) (Grow.refl _ _) hS (by rw [y]; rfl)
      exact o
theorem o_notinK {kd : Kd} (hd : KdsOk T X.K X.w kd) (hK : T.K = X.K := by rfl) : OpS T X (compareOp .NotIn) (gInK kd true) := by
  intro m h H u1 u2 v1 v2 E Q hS r1 r2 o
  cases u2 <;> try exact o_notin hK m h H _ _ v1 v2 E Q hS r1 r2 o
  rename_i i
  simp only [gInK] at o
  cases z : kd i with
  | none => rw [z] at o; exact o.elim
  | some kvs =>
    rw [z] at o
    cases u1 <;> try exact o.elim
    rename_i x
    obtain ⟨d, es, n, eg, D, en⟩ := (hd i kvs z).ex
    have r2 : v2 = T.gt i := r2
    obtain ⟨i1, i2⟩ := kd_in D en x
    refine ⟨_, op_notIn_kd D, strV x, ?_⟩
    cases y : lkN x kvs with
    | some u =>
      obtain ⟨u0, v, q, _⟩ := i1 u y
      refine ⟨_, r1, r2.trans eg, q, ?_⟩
      exact o m H (.bl false) (Grow.refl _ _) hS (by rw [y]; rfl)
    | none =>
      refine ⟨_, r1, r2.trans eg, i2 y, ?_⟩
      exact o m H (.bl true) (Grow.refl _ _) hS (by rw [y]; rfl)

/-! subscripts -/
def IxS (T : Tb) (X : Cx) (g : U → U → Hv → R U) : Prop :=
  ∀ m h H u1 u2 v1 v2 E Q, SimH T m h H → Rel T m H u1 v1 → Rel T m H u2 v2 → Out T m H E (RV T) (g u1 u2 h) Q → ∃ r, IxR X r ∧ r v1 v2 H Q
def ixx (X : Cx) : R2 := fun x y H Q => ∃ r, IxR X r ∧ r x y H Q
theorem ixx_ok : IxR X (ixx X) := by
  intro value slice pins s σ H x y v u Q I rx ry ⟨r, hr, q⟩
  exact hr value slice pins s σ H x y v u Q I rx ry q
theorem s_ix {fa fb : FE} {g : U → U → Hv → R U} (hg : IxS T X g) (ha : SE T X W a fa) (hb : SE T X W b fb) (hs : PlainIx b) : SE T X W (.Subscript a b pos) (f2 g fa fb) := fun env h m σ H Q hE hS ho =>
  ⟨_, pe_ix ixx_ok EX.pe EX.pe hs, two ha hb hg hE hS ho⟩
def atU (us : List U) (i : Int) : Option U := atI us i
def gIx (kd : Kd) (u1 u2 : U) (h : Hv) : R U := match u1 with
  | .g i => match kd i, u2 with
    | some kvs, .str x => match lkN x kvs with
      | some u => .ok u h
      | none => .bad
    | _, _ => .bad
  | .str x => match u2 with
    | .int i => match atI x i with
      | some c => if x.length ≤ many then .ok (.str [c]) h else .bad
      | none => .bad
    | _ => .bad
  | u1 => match u2, seqU u1 h with
    | .int i, some us => match atU us i with
      | some w => .ok w h
      | none => .bad
    | _, _ => .bad
theorem RelL.at {m : Mp} {H : Hp} {us : List U} {vs : List V} {i : Int} {u : U} (r : RelL T m H us vs) (e : atI us i = some u) : ∃ v, atI vs i = some v ∧ Rel T m H u v := by
  unfold atI at e ⊢
  rw [← r.len]
  cases z : ixN us.length i with
  | none => rw [z] at e; cases e
  | some j =>
    rw [z] at e
    exact r.get e
theorem ix_seqS {m : Mp} {h : Hv} {H : Hp} {u1 : U} {v1 v2 : V} {us : List U} {i : Int} {w : U} {E : XK} {Q : VK} (hK : T.K = X.K) (hS : SimH T m h H) (r1 : Rel T m H u1 v1) (r2 : v2 = .int i) (z : seqU u1 h = some us) (y : atI us i = some w)
    (o : Out T m H E (RV T) (.ok w h) Q) : ∃ r, IxR X r ∧ r v1 v2 H Q := by
  obtain ⟨a, vs, ev, q, l⟩ := seqU_ok hS r1 z
  obtain ⟨v, ey, rv⟩ := l.at y
  have k := o m H v (Grow.refl _ _) hS rv
  rw [hK] at q
  rcases q with q | q
  · exact ⟨_, ix_list, a, vs, i, v, ev, r2, q, ey, k⟩
  · exact ⟨_, ix_tup, a, vs, i, v, ev, r2, q, ey, k⟩
theorem i_ix {kd : Kd} (hd : KdsOk T X.K X.w kd) (hK : T.K = X.K := by rfl) : IxS T X (gIx kd) := by
  intro m h H u1 u2 v1 v2 E Q hS r1 r2 o
  cases u1 with
  | g i =>
    simp only [gIx] at o
    cases z : kd i with
    | none => rw [z] at o; exact o.elim
    | some kvs =>
      rw [z] at o
      cases u2 <;> try exact o.elim
      rename_i x
      simp only at o
      cases y : lkN x kvs with
      | none => rw [y] at o; exact o.elim
      | some u =>
        rw [y] at o
        obtain ⟨d, es, n, eg, D, en⟩ := (hd i kvs z).ex
        have r1 : v1 = T.gt i := r1
        obtain ⟨u0, v, q, rv, rr⟩ := (kd_in D en x).1 u y
        exact ⟨_, ix_kdict, d, strV x, v, r1.trans eg, r2, ⟨es, n, u0, D.at_, D.lit, q, rv⟩, o m H v (Grow.refl _ _) hS (rr m H)⟩
  | str x =>
    simp only [gIx] at o
    cases u2 <;> try exact o.elim
    rename_i i
    simp only at o
    cases z : atI x i with
    | none => rw [z] at o; exact o.elim
    | some c =>
      rw [z] at o
      simp only at o
      by_cases hz : x.length ≤ many
      · rw [if_pos hz] at o
        refine ⟨_, ix_str, strV x, i, c, r1, r2, by rw [strV_len, ← many_eq]; exact hz, by rw [strV_list]; exact z, ?_⟩
        exact o m H (.str (strV [c])) (Grow.refl _ _) hS rfl
      · rw [if_neg hz] at o; exact o.elim
  | tup us =>
    cases u2 <;> try exact o.elim
    rename_i i
    have o : Out T m H E (RV T) (match atU us i with | some w => .ok w h | none => .bad) Q := o
    cases y : atU us i with
    | none => rw [y] at o; exact o.elim
    | some w => rw [y] at o; exact ix_seqS hK hS r1 r2 rfl y o
  | ref p =>
    cases u2 <;> try (simp only [gIx] at o; exact o.elim)
    rename_i i
    cases z : h.lst p with
    | none => simp only [gIx, seqU, z] at o; exact o.elim
    | some us =>
      simp only [gIx, seqU, z] at o
      cases y : atU us i with
      | none => rw [y] at o; exact o.elim
      | some w => rw [y] at o; exact ix_seqS hK hS r1 r2 z y o
  | non => cases u2 <;> exact o.elim
  | bl k => cases u2 <;> exact o.elim
  | int k => cases u2 <;> exact o.elim
/-! slices -/
def cutL {α : Type} (xs : List α) (lo hi : Option Int) : List α := (xs.drop (HT.sIx xs.length 0 lo)).take (HT.sIx xs.length xs.length hi - HT.sIx xs.length 0 lo)
def SlS (T : Tb) (X : Cx) (g : U → Option Int → Option Int → Hv → R U) : Prop :=
  ∀ m h H u v lo hi E Q, SimH T m h H → Rel T m H u v → Out T m H E (RV T) (g u lo hi h) Q → ∃ r, SlR X r ∧ r v lo hi H Q
def slx (X : Cx) : V → Option Int → Option Int → Hp → VK → Prop := fun x lo hi H Q => ∃ r, SlR X r ∧ r x lo hi H Q
theorem slx_ok : SlR X (slx X) := by
  intro pins s σ H x v vl vu lo hi sl Q I rx hs pl pu ⟨r, hr, q⟩
  exact hr pins s σ H x v vl vu lo hi sl Q I rx hs pl pu q
abbrev FO := Ev → Hv → R (Option Int)
def SOp (T : Tb) (X : Cx) (W : WX') (e : Option Expr) (f : FO) : Prop :=
  ∀ env h m σ H Q, EnvR T m H env σ → SimH T m h H → Out T m H (wat W σ) (fun _ _ a b => a = b) (f env h) Q → ∃ t, PO X e t ∧ t σ H Q
theorem OX.po {e : Option Expr} : PO X e (fun σ H Q => ∃ t, PO X e t ∧ t σ H Q) := ⟨fun pins s σ H Q I ⟨t, ht, q⟩ => ht.run pins s σ H Q I q⟩
def fNoO : FO := fun _ h => .ok none h
def asI : U → Hv → R (Option Int) := fun u h => match u with
  | .int i => .ok (some i) h
  | _ => .bad
def fSomeO (f : FE) : FO := fun env h => (f env h).bind asI
theorem s_noO : SOp T X W none fNoO := fun env h m σ H Q hE hS ho => ⟨_, po_none, ho m H none (Grow.refl _ _) hS rfl⟩
theorem s_someO {f : FE} (hf : SE T X W e f) : SOp T X W (some e) (fSomeO f) := fun env h m σ H Q hE hS ho => by
  refine ⟨_, po_some EX.pe, ?_⟩
  refine hf env h m σ H _ hE hS (ho.bind fun u h1 m1 H1 v _ g1 s1 r1 o1 => ?_)
  cases u with
  | int i => exact ⟨i, r1, o1 m1 H1 (some i) (Grow.refl _ _) s1 rfl⟩
  | _ => exact o1.elim
def fSl (g : U → Option Int → Option Int → Hv → R U) (fa : FE) (fl fh : FO) : FE := fun env h => (fa env h).bind fun u h1 => (fl env h1).bind fun l h2 => (fh env h2).bind fun k h3 => g u l k h3
theorem s_sl {lo hi : Option Expr} {fa : FE} {fl fh : FO} {g : U → Option Int → Option Int → Hv → R U} (hg : SlS T X g) (ha : SE T X W a fa) (hl : SOp T X W lo fl) (hh : SOp T X W hi fh) : SE T X W (.Subscript a (.Slice lo hi none p2) pos) (fSl g fa fl fh) := fun env h m σ H Q hE hS ho => by
  refine ⟨_, pe_slice slx_ok EX.pe OX.po OX.po, ?_⟩
  refine ha env h m σ H _ hE hS (ho.bind fun u h1 m1 H1 v _ g1 s1 r1 o1 => ?_)
  refine hl env h1 m1 σ H1 _ (hE.up g1) s1 (o1.bind fun l h2 m2 H2 l' _ g2 s2 r2 o2 => ?_)
  subst r2
  refine hh env h2 m2 σ H2 _ ((hE.up g1).up g2) s2 (o2.bind fun k h3 m3 H3 k' _ g3 s3 r3 o3 => ?_)
  subst r3
  exact hg m3 h3 H3 u v l k _ _ s3 ((r1.up g2).up g3) o3
def gSl (u : U) (lo hi : Option Int) (h : Hv) : R U := match u with
  | .str x => if x.length ≤ many then .ok (.str (cutL x lo hi)) h else .bad
  | .tup us => match decide (HT.sIx us.length 0 lo = 0 ∧ HT.sIx us.length us.length hi = us.length) with
    | true => .bad
    | false => few (cutL us lo hi) (.ok (.tup (cutL us lo hi)) h)
  | .ref p => match h.lst p with
    | some us => newL (cutL us lo hi) h
    | none => .bad
  | _ => .bad
theorem RelL.cut {m : Mp} {H : Hp} {us : List U} {vs : List V} (r : RelL T m H us vs) (lo hi : Option Int) : RelL T m H (cutL us lo hi) (cutV vs lo hi) := by
  unfold cutL cutV
  rw [← r.len]
  exact (r.drop _).take _
theorem sl_any (hK : T.K = X.K := by rfl) : SlS T X gSl := by
  intro m h H u v lo hi E Q hS r o
  cases u with
  | str x =>
    simp only [gSl] at o
    by_cases hz : x.length ≤ many
    · rw [if_pos hz] at o
      refine ⟨_, sl_str, strV x, r, by rw [strV_len, ← many_eq]; exact hz, o m H _ (Grow.refl _ _) hS ?_⟩
      show V.str (cutS (strV x) lo hi) = V.str (strV (cutL x lo hi))
      unfold cutS cutL
      rw [strV_list, strV_len]
      rfl
    · rw [if_neg hz] at o; exact o.elim
  | tup us =>
    simp only [gSl] at o
    obtain ⟨a, vs, ev, q, l⟩ := r
    rw [hK] at q
    cases z : decide (HT.sIx us.length 0 lo = 0 ∧ HT.sIx us.length us.length hi = us.length) with
    | true => rw [z] at o; exact o.elim
    | false =>
      rw [z] at o
      refine ⟨_, sl_tup, a, vs, ev, q, ?_, (out_tup hS (l.cut lo hi) o).2⟩
      rw [← l.len]
      exact of_decide_eq_false z
  | ref p =>
    obtain ⟨a, e1, ev⟩ := r
    simp only [gSl] at o
    cases z : h.lst p with
    | none => rw [z] at o; exact o.elim
    | some us =>
      rw [z] at o
      obtain ⟨vs, q, l⟩ := hS.lst e1 z
      exact ⟨_, sl_list, a, vs, ev, SqL.of q, (out_lst hS (l.cut lo hi) o).2⟩
  | _ => exact o.elim
end
end VI

/-! VI, part F: attributes, targets, statements, loops. -/
namespace VI
open PySem L2
section
variable {T : Tb} {X : Cx} {W : WX'} {e a b c o : Expr} {pos p2 : Pos}
/-! attributes -/
def FldOk (T : Tb) (K : PySem.W.Frag) (f : Str) (c : Nat) : Prop := ∀ C, T.gt c = .ref C → Cls K C ∧ NoAttr K C f
def gFld (cs : List Nat) (f : List Nat) (u : U) (h : Hv) : R U := match u with
  | .ref p => match h.get p with
    | some (.ins c fs) => match cs.any (Nat.beq c), lkN f fs with
      | true, some w => .ok w h
      | _, _ => .bad
    | _ => .bad
  | _ => .bad
theorem RelF.look {m : Mp} {H : Hp} {f : List Nat} : ∀ {fs : List (List Nat × U)} {vs : List (Str × V)} {w : U}, RelF T m H fs vs → lkN f fs = some w → ∃ v, vs.lookup (strV f) = some v ∧ Rel T m H w v
  | [], _, _, _, e => by unfold lkN at e; cases e
  | (k, u) :: r, _, w, ⟨v, vs, ev, q, l⟩, e => by
    subst ev
    simp only [lkN] at e
    rw [List.lookup_cons]
    have z : (strV f == strV k) = eqN k f := by
      rw [str_beq]
      cases y : eqN k f with
      | true => rw [eqN_iff.mp y]; exact eqN_iff.mpr rfl
      | false =>
        cases x : eqN f k with
        | false => rfl
        | true => rw [eqN_iff.mp x, eqN_iff.mpr rfl] at y; cases y
    rw [z]
    cases y : eqN k f with
    | true => rw [y] at e; cases e; exact ⟨v, rfl, q⟩
    | false => rw [y] at e; exact RelF.look l e
theorem RelF.len {m : Mp} {H : Hp} : ∀ {fs : List (List Nat × U)} {vs : List (Str × V)}, RelF T m H fs vs → fs.length = vs.length
  | [], _, r => by have r : _ = _ := r; subst r; rfl
  | (k, u) :: r, _, ⟨v, vs, ev, q, l⟩ => by subst ev; simp [RelF.len l]
theorem any_mem {c : Nat} {cs : List Nat} (h : cs.any (Nat.beq c) = true) : c ∈ cs := by
  obtain ⟨x, hx, e⟩ := List.any_eq_true.mp h
  rw [Nat.eq_of_beq_eq_true e]; exact hx
theorem gFld_ok {cs : List Nat} {f : List Nat} {m : Mp} {h h' : Hv} {H : Hp} {u w : U} {v : V} {K : PySem.W.Frag} (hS : SimH T m h H) (hc : ∀ c ∈ cs, FldOk T K (strV f) c) (r : Rel T m H u v) (o : gFld cs f u h = .ok w h') :
    ∃ a C dx fs z, v = .ref a ∧ H a = some (.ins C dx fs) ∧ Cls K C ∧ NoAttr K C (strV f) ∧ fs.lookup (strV f) = some z ∧ Rel T m H w z ∧ h' = h ∧ ∃ c ∈ cs, T.gt c = .ref C := by
  cases u with
  | ref p =>
    obtain ⟨a, e1, ev⟩ := r
    simp only [gFld] at o
    cases z : h.get p with
    | none => rw [z] at o; cases o
    | some ob =>
      rw [z] at o
      cases ob with
      | ins c fs =>
        simp only at o
        obtain ⟨C, dx, vs, ec, q, l⟩ := hS.at e1 z
        split at o
        · rename_i w' y1 y2
          cases o
          obtain ⟨x, ex, rx⟩ := l.look y2
          obtain ⟨k1, k2⟩ := hc c (any_mem y1) C ec
          exact ⟨a, C, dx, vs, x, ev, q, k1, k2, ex, rx, rfl, c, any_mem y1, ec⟩
        · cases o
      | _ => cases o
  | _ => cases o
theorem gFld_ex {cs : List Nat} {f : List Nat} {u : U} {h : Hv} {c : Nat} {fs : Option (List (List Nat × U))} {h' : Hv} : gFld cs f u h ≠ .ex c fs h' := fun e => by
  unfold gFld at e
  split at e
  · split at e
    · split at e <;> cases e
    · cases e
  · cases e
def f1 (g : U → Hv → R U) (fa : FE) : FE := fun env h => (fa env h).bind g
theorem s_fld {cs : List Nat} {f : List Nat} {F : Str} {fa : FE} (hc : ∀ c ∈ cs, FldOk T X.K (strV f) c) (ha : SE T X W a fa) (hb : attributeBase a F X.env (eval a X.env) = eval a X.env) (eF : F = strV f := by rfl) : SE T X W (.Attribute a F pos) (f1 (gFld cs f) fa) := by
  subst eF
  intro env h m σ H Q hE hS ho
  refine ⟨_, pe_fld EX.pe hb, ?_⟩
  refine ha env h m σ H _ hE hS (ho.bind fun u h1 m1 H1 v _ g1 s1 r1 o1 => ?_)
  cases z : gFld cs f u h1 with
  | bad => rw [z] at o1; exact o1.elim
  | ex c fs hh => exact absurd z gFld_ex
  | ok w h2 =>
    obtain ⟨a, C, dx, fs, y, e1, e2, e3, e4, e5, ry, eh, _⟩ := gFld_ok s1 hc r1 z
    subst eh
    rw [z] at o1
    exact ⟨a, C, dx, fs, y, e1, e2, e3, e4, e5, o1 m1 H1 y (Grow.refl _ _) s1 ry⟩
/-! results of statements -/
inductive RS where
  | nx (env : Ev) (h : Hv) | rt (u : U) (h : Hv) | bk (env : Ev) (h : Hv) | ct (env : Ev) (h : Hv)
  | ex (c : Nat) (fs : Option (List (List Nat × U))) (env : Ev) (h : Hv)
  | bad
abbrev FS := Ev → Hv → RS
def RS.of {α : Type} (r : R α) (env : Ev) (k : α → Hv → RS) : RS := match r with
  | .ok a h => k a h
  | .ex c fs h => .ex c fs env h
  | .bad => .bad
def RS.seq (r : RS) (k : Ev → Hv → RS) : RS := match r with
  | .nx env h => k env h
  | r => r
def OutS (T : Tb) (m : Mp) (H : Hp) (W : WX') (D : Ends) (r : RS) : Prop := match r with
  | .nx env h => ∀ m' H' σ, Grow m H m' H' → SimH T m' h H' → EnvR T m' H' env σ → D.nx σ H'
  | .rt u h => ∀ m' H' v, Grow m H m' H' → SimH T m' h H' → Rel T m' H' u v → D.rt v H'
  | .bk env h => ∀ m' H' σ, Grow m H m' H' → SimH T m' h H' → EnvR T m' H' env σ → D.bk σ H'
  | .ct env h => ∀ m' H' σ, Grow m H m' H' → SimH T m' h H' → EnvR T m' H' env σ → D.ct σ H'
  | .ex c fs env h => ∀ m' H' σ cls d, Grow m H m' H' → SimH T m' h H' → EnvR T m' H' env σ → RelX T m' H' c fs cls d → W cls d σ H'
  | .bad => False
theorem OutS.up {m m' : Mp} {H H' : Hp} {D : Ends} {r : RS} (g : Grow m H m' H') (o : OutS T m H W D r) : OutS T m' H' W D r := by
  cases r with
  | nx env h => exact fun m2 H2 σ g2 => o m2 H2 σ (g.trans g2)
  | rt u h => exact fun m2 H2 v g2 => o m2 H2 v (g.trans g2)
  | bk env h => exact fun m2 H2 σ g2 => o m2 H2 σ (g.trans g2)
  | ct env h => exact fun m2 H2 σ g2 => o m2 H2 σ (g.trans g2)
  | ex c fs env h => exact fun m2 H2 σ cls d g2 => o m2 H2 σ cls d (g.trans g2)
  | bad => exact o
/-- an expression first -/
theorem OutS.of {m : Mp} {H : Hp} {D : Ends} {α β : Type} {R1 : Mp → Hp → α → β → Prop} {r : R α} {env : Ev} {σ : St} {k : α → Hv → RS} {Q' : β → Hp → Prop} (hE : EnvR T m H env σ) (o : OutS T m H W D (RS.of r env k))
    (go : ∀ a h1 m1 H1 b, r = .ok a h1 → Grow m H m1 H1 → SimH T m1 h1 H1 → R1 m1 H1 a b → EnvR T m1 H1 env σ → OutS T m1 H1 W D (k a h1) → Q' b H1) : Out T m H (wat W σ) R1 r Q' := by
  cases r with
  | ok a h1 => exact fun m1 H1 b g s r1 => go a h1 m1 H1 b rfl g s r1 (hE.up g) (o.up g)
  | ex c fs h1 => exact fun m1 H1 cls d g s x => o m1 H1 σ cls d g s (hE.up g) x
  | bad => exact o
def SSt (T : Tb) (X : Cx) (W : WX') (st : Stmt) (f : FS) : Prop := ∀ env h m σ H D, EnvR T m H env σ → SimH T m h H → OutS T m H W D (f env h) → SX X st D σ H
def SSs (T : Tb) (X : Cx) (W : WX') (st : List Stmt) (f : FS) : Prop := ∀ env h m σ H D, EnvR T m H env σ → SimH T m h H → OutS T m H W D (f env h) → SsX X st D σ H
variable {st : Stmt} {sts : List Stmt}
def fNext : FS := fun env h => .nx env h
def fSeq (f g : FS) : FS := fun env h => (f env h).seq g
theorem ss_nil : SSs T X W [] fNext := fun env h m σ H D hE hS ho => ⟨_, pss_nil, ho m H σ (Grow.refl _ _) hS hE⟩
theorem ss_cons {f g : FS} (hf : SSt T X W st f) (hg : SSs T X W sts g) : SSs T X W (st :: sts) (fSeq f g) := fun env h m σ H D hE hS ho => by
  refine ⟨_, pss_cons SX.ps SsX.pss, ?_⟩
  refine hf env h m σ H _ hE hS ?_
  unfold fSeq at ho
  generalize f env h = r at ho
  cases r with
  | nx e1 h1 => exact fun m1 H1 σ1 g1 s1 E1 => hg e1 h1 m1 σ1 H1 D E1 s1 (OutS.up g1 ho)
  | _ => exact ho
theorem ss_one {f : FS} (hf : SSt T X W st f) : SSs T X W [st] f := fun env h m σ H D hE hS ho => ⟨_, pss_one SX.ps, hf env h m σ H D hE hS ho⟩
def fExpr (f : FE) : FS := fun env h => RS.of (f env h) env fun _ h1 => .nx env h1
theorem st_expr {f : FE} (hf : SE T X W e f) (hs : swapsWith e none pos.line X.env = pure false := by rfl) : SSt T X W (.Expr e pos) (fExpr f) := fun env h m σ H D hE hS ho => by
  refine ⟨_, ps_expr EX.pe hs, ?_⟩
  exact hf env h m σ H _ hE hS (OutS.of hE ho fun u h1 m1 H1 v _ g1 s1 r1 E1 o1 => o1 m1 H1 σ (Grow.refl _ _) s1 E1)
def fRet (f : FE) : FS := fun env h => RS.of (f env h) env fun u h1 => .rt u h1
theorem st_ret {f : FE} (hf : SE T X W e f) : SSt T X W (.Return (some e) pos) (fRet f) := fun env h m σ H D hE hS ho => by
  refine ⟨_, ps_ret EX.pe, ?_⟩
  exact hf env h m σ H _ hE hS (OutS.of hE ho fun u h1 m1 H1 v _ g1 s1 r1 E1 o1 => o1 m1 H1 v (Grow.refl _ _) s1 r1)
def fRetN : FS := fun _ h => .rt .non h
theorem st_retN : SSt T X W (.Return none pos) fRetN := fun env h m σ H D hE hS ho => ⟨_, ps_retN, ho m H .non (Grow.refl _ _) hS rfl⟩
def fIfS (t : FT) (f g : FS) : FS := fun env h => RS.of (t env h) env fun k h1 => match k with
  | true => f env h1
  | false => g env h1
theorem st_if {as bs : List Stmt} {t : FT} {f g : FS} (ht : STt T X W c t) (hf : SSs T X W as f) (hg : SSs T X W bs g) : SSt T X W (.If c as bs pos) (fIfS t f g) := fun env h m σ H D hE hS ho => by
  refine ⟨_, ps_if TX.pt SsX.pss SsX.pss, ?_⟩
  refine ht env h m σ H _ hE hS (OutS.of hE ho fun k h1 m1 H1 k' _ g1 s1 r1 E1 o1 => ?_)
  subst r1
  cases k with
  | true => exact iteT (hf env h1 m1 σ H1 D E1 s1 o1)
  | false => exact iteF (hg env h1 m1 σ H1 D E1 s1 o1)
theorem st_pass : SSt T X W (.Pass pos) fNext := fun env h m σ H D hE hS ho => ⟨_, ps_pass, ho m H σ (Grow.refl _ _) hS hE⟩
def fBreak : FS := fun env h => .bk env h
def fCont : FS := fun env h => .ct env h
theorem st_break : SSt T X W (.Break pos) fBreak := fun env h m σ H D hE hS ho => ⟨_, ps_break, ho m H σ (Grow.refl _ _) hS hE⟩
theorem st_cont : SSt T X W (.Continue pos) fCont := fun env h m σ H D hE hS ho => ⟨_, ps_continue, ho m H σ (Grow.refl _ _) hS hE⟩
def fNever : FS := fun _ _ => .bad
theorem st_never : SSt T X W st fNever := fun env h m σ H D hE hS ho => ho.elim
theorem ss_never : SSs T X W sts fNever := fun env h m σ H D hE hS ho => ho.elim
/-! targets -/
def Only (L : List Nat) (σ σ' : St) : Prop := σ'.length = σ.length ∧ ∀ i, i ∉ L → σ'[i]? = σ[i]?
theorem Only.refl (L : List Nat) (σ : St) : Only L σ σ := ⟨rfl, fun _ _ => rfl⟩
theorem Only.trans {L : List Nat} {a b c : St} (x : Only L a b) (y : Only L b c) : Only L a c := ⟨y.1.trans x.1, fun i n => (y.2 i n).trans (x.2 i n)⟩
theorem Only.mono {L L' : List Nat} {a b : St} (x : Only L a b) (h : ∀ i ∈ L, i ∈ L') : Only L' a b := ⟨x.1, fun i n => x.2 i fun z => n (h i z)⟩
theorem Only.set {σ : St} {i : Nat} {v : Option V} : Only [i] σ (σ.set i v) := ⟨by simp, fun j n => by
  rw [List.getElem?_set]
  rw [if_neg (fun z => n (by simp [z]))]⟩
abbrev FG := U → Ev → Hv → R Ev
def GX (X : Cx) (tg : Expr) : TG := fun v σ H Q => ∃ t, PG X tg t ∧ t v σ H Q
theorem GX.pg {tg : Expr} : PG X tg (GX X tg) := ⟨fun pins s σ H v u Q I r ⟨t, ht, q⟩ => ht.run pins s σ H v u Q I r q⟩
def SG (T : Tb) (X : Cx) (L : List Nat) (tg : Expr) (g : FG) : Prop := ∀ u v env h m σ H (Q : St → Hp → Prop), Rel T m H u v → EnvR T m H env σ → SimH T m h H →
  Out T m H (fun _ _ _ => False) (fun m' H' e' s' => EnvR T m' H' e' s' ∧ Only L σ s') (g u env h) Q → GX X tg v σ H Q
def gNm (i : Nat) : FG := fun u env h => .ok (env.set i (some u)) h
theorem sg_name {i : Nat} {x : Str} (hN : X.N.Nodup) (hi : X.N[i]? = some x) (hx : Loc X.env.scope x) (hf : X.fn x = true ∨ X.env.scope.names.lookup x = some .local := by first | exact .inl rfl | exact .inr rfl | assumption) : SG T X [i] (.Name x pos) (gNm i) := fun u v env h m σ H Q r hE hS ho =>
  ⟨_, pg_name hN hi hx hf, ho m H _ (Grow.refl _ _) hS ⟨hE.set r, Only.set⟩⟩
abbrev FGs := List U → Ev → Hv → R Ev
def GsX (X : Cx) (tgs : List Expr) : TGs := fun v σ H Q => ∃ t, PGs X tgs t ∧ t v σ H Q
theorem GsX.pgs {tgs : List Expr} : PGs X tgs (GsX X tgs) := ⟨fun pins s σ H v u Q I r ⟨t, ht, q⟩ => ht.run pins s σ H v u Q I r q⟩
end
end VI

/-! VI, part G: targets of several names, stores, loops. -/
namespace VI
open PySem L2
section
variable {T : Tb} {X : Cx} {W : WX'} {e a b c o : Expr} {pos p2 : Pos} {st : Stmt} {sts : List Stmt}
def SGs (T : Tb) (X : Cx) (L : List Nat) (tgs : List Expr) (n : Nat) (g : FGs) : Prop := ∀ us vs env h m σ H (Q : St → Hp → Prop), us.length = n → RelL T m H us vs → EnvR T m H env σ → SimH T m h H →
  Out T m H (fun _ _ _ => False) (fun m' H' e' s' => EnvR T m' H' e' s' ∧ Only L σ s') (g us env h) Q → GsX X tgs vs σ H Q
def gsNil : FGs := fun _ env h => .ok env h
def gsCons (g : FG) (gs : FGs) : FGs := fun us env h => match us with
  | u :: us => (g u env h).bind fun env1 h1 => gs us env1 h1
  | [] => .bad
theorem sgs_nil : SGs T X [] [] 0 gsNil := fun us vs env h m σ H Q hl r hE hS ho => by
  cases us with
  | nil =>
    have r : vs = [] := r
    exact ⟨_, pgs_nil, r, ho m H σ (Grow.refl _ _) hS ⟨hE, Only.refl _ _⟩⟩
  | cons u us => simp at hl
theorem sgs_cons {tg : Expr} {tgs : List Expr} {L L' : List Nat} {n : Nat} {g : FG} {gs : FGs} (hg : SG T X L tg g) (hgs : SGs T X L' tgs n gs)
    (hs : (assignEach (tg :: tgs) X.env).map (·.2) = assign tg X.env :: (assignEach tgs X.env).map (·.2) := by rfl) : SGs T X (L ++ L') (tg :: tgs) (n + 1) (gsCons g gs) := fun us vs env h m σ H Q hl r hE hS ho => by
  cases us with
  | nil => simp at hl
  | cons u us =>
    obtain ⟨v, w, ev, q, l⟩ := r
    refine ⟨_, pgs_cons GX.pg GsX.pgs hs, v, w, ev, ?_⟩
    refine hg u v env h m σ H _ q hE hS (ho.bind fun env1 h1 m1 H1 σ1 _ g1 s1 r1 o1 => ?_)
    refine hgs us w env1 h1 m1 σ1 H1 Q (by simpa using hl) (l.up g1) r1.1 s1 ?_
    refine Out.imp o1 fun m2 H2 e2 s2 x => ⟨x.1, ?_⟩
    exact (r1.2.mono fun i z => List.mem_append_left _ z).trans (x.2.mono fun i z => List.mem_append_right _ z)
def gTp (n : Nat) (gs : FGs) : FG := fun u env h => match u with
  | .tup us => match Nat.beq us.length n with
    | true => gs us env h
    | false => .bad
  | _ => .bad
theorem sg_tup {es : List Expr} {k n : Nat} {L : List Nat} {gs : FGs} (hc : X.calm = true) (hg : SGs T X L es n gs) (hn : (assignEach es X.env).length = n := by rfl) (hst : (assignEach es X.env).findIdx? (·.1) = none := by rfl) (hK : T.K = X.K := by rfl) :
    SG T X L (.Tuple es k pos) (gTp n gs) := fun u v env h m σ H Q r hE hS ho => by
  cases u with
  | tup us =>
    obtain ⟨a, vs, ev, q, l⟩ := r
    simp only [gTp] at ho
    cases z : Nat.beq us.length n with
    | false => rw [z] at ho; exact ho.elim
    | true =>
      rw [z] at ho
      have z := Nat.eq_of_beq_eq_true z
      exact ⟨_, pg_tup hc GsX.pgs hn hst, a, vs, ev, hK ▸ q, by rw [← l.len]; exact z, hg us vs env h m σ H Q z l hE hS ho⟩
  | _ => exact ho.elim
/-! x = e -/
def fAsg (f : FE) (g : FG) : FS := fun env h => RS.of (f env h) env fun u h1 => match g u env h1 with
  | .ok env1 h2 => .nx env1 h2
  | _ => .bad
theorem asg_go {m : Mp} {H : Hp} {D : Ends} {r : R Ev} {σ : St} {L : List Nat} (o : OutS T m H W D (match r with | .ok env1 h2 => RS.nx env1 h2 | _ => .bad)) : Out T m H (fun _ _ _ => False) (fun m' H' e' s' => EnvR T m' H' e' s' ∧ Only L σ s') r D.nx := by
  cases r with
  | ok env1 h2 => exact fun m' H' σ' g s x => o m' H' σ' g s x.1
  | ex c fs h => exact o.elim
  | bad => exact o
theorem st_asg {tg : Expr} {L : List Nat} {f : FE} {g : FG} (hf : SE T X W e f) (hg : SG T X L tg g) (hs : swapsWithSole [tg] e pos.line X.env = pure false := by rfl) (hw : swappedStores [tg] e X.env = pure none := by rfl) (h1 : (assignEach [tg] X.env).map (·.2) = [assign tg X.env] := by rfl) : SSt T X W (.Assign [tg] e pos) (fAsg f g) := fun env h m σ H D hE hS ho => by
  refine ⟨_, ps_asg EX.pe GX.pg hs hw h1, ?_⟩
  refine hf env h m σ H _ hE hS (OutS.of hE ho fun u h1 m1 H1 v _ g1 s1 r1 E1 o1 => ?_)
  exact hg u v env h1 m1 σ H1 _ r1 E1 s1 (asg_go o1)
/-- into a name -/
theorem st_set {i : Nat} {x : Str} {pos' : Pos} {f : FE} (hN : X.N.Nodup) (hi : X.N[i]? = some x) (hx : Loc X.env.scope x) (hf : SE T X W e f) (hs : swapsWith e (some (.Name x pos')) pos.line X.env = pure false := by rfl)
    (hl : X.fn x = true ∨ X.env.scope.names.lookup x = some .local := by first | exact .inl rfl | exact .inr rfl | assumption) : SSt T X W (.Assign [.Name x pos'] e pos) (fAsg f (gNm i)) := fun env h m σ H D hE hS ho => by
  refine ⟨_, ps_set hN hi hx EX.pe hs hl, ?_⟩
  refine hf env h m σ H _ hE hS (OutS.of hE ho fun u h1 m1 H1 v _ g1 s1 r1 E1 o1 => ?_)
  exact o1 m1 H1 _ (Grow.refl _ _) s1 (E1.set r1)
/-- two names by two expressions -/
def fPar (i j : Nat) (f : FL) : FS := fun env h => RS.of (f env h) env fun us h1 => match us with
  | [u, w] => .nx ((env.set i (some u)).set j (some w)) h1
  | _ => .bad
/-! o.f = e -/
def putN (f : List Nat) (u : U) : List (List Nat × U) → List (List Nat × U)
  | [] => [(f, u)]
  | (k, x) :: r => match eqN k f with
    | true => (k, u) :: r
    | false => (k, x) :: putN f u r
theorem RelF.put {m : Mp} {H : Hp} {f : List Nat} {u : U} {v : V} (r : Rel T m H u v) : ∀ {fs : List (List Nat × U)} {vs : List (Str × V)}, RelF T m H fs vs → RelF T m H (putN f u fs) (putF (strV f) v vs)
  | [], _, e => by have e : _ = _ := e; subst e; exact ⟨v, [], rfl, r, rfl⟩
  | (k, x) :: fs, _, ⟨y, w, ev, q, l⟩ => by
    subst ev
    have e : putF (strV f) v ((strV k, y) :: w) = if strV k = strV f then (strV k, v) :: w else (strV k, y) :: putF (strV f) v w := rfl
    rw [e]
    unfold putN
    cases z : eqN k f with
    | true =>
      rw [if_pos (by rw [eqN_iff.mp z])]
      exact ⟨v, w, rfl, r, l⟩
    | false =>
      rw [if_neg (fun y => by rw [strV_inj y, eqN_iff.mpr rfl] at z; cases z)]
      exact ⟨y, _, rfl, q, RelF.put r l⟩
def stF (cs : List Nat) (f : List Nat) (u : U) (env : Ev) (w : U) (h2 : Hv) : RS := match w with
  | .ref p => match h2.get p with
    | some (.ins c fs) => match cs.any (Nat.beq c) && Nat.ble fs.length 900 with
      | true => .nx env (h2.put p (.ins c (putN f u fs)))
      | false => .bad
    | _ => .bad
  | _ => .bad
def fStF (cs : List Nat) (f : List Nat) (fo fv : FE) : FS := fun env h => RS.of (fv env h) env fun u h1 => RS.of (fo env h1) env fun w h2 => stF cs f u env w h2
theorem stF_go {cs : List Nat} {f : List Nat} {m : Mp} {h2 : Hv} {H : Hp} {D : Ends} {u w : U} {v z : V} {env : Ev} {σ : St} (hc : ∀ c ∈ cs, FldOk T X.K (strV f) c) (hS : SimH T m h2 H) (hE : EnvR T m H env σ) (ru : Rel T m H u v) (rw' : Rel T m H w z)
    (o : OutS T m H W D (stF cs f u env w h2)) : ∃ a C dx fs, z = .ref a ∧ H a = some (.ins C dx fs) ∧ Cls X.K C ∧ NoAttr X.K C (strV f) ∧ fs.length < 1000 ∧ D.nx σ (upd H a (.ins C dx (putF (strV f) v fs))) ∧ ∃ c ∈ cs, T.gt c = .ref C := by
  cases w with
  | ref p =>
    obtain ⟨a, e1, ev⟩ := rw'
    simp only [stF] at o
    cases y : h2.get p with
    | none => rw [y] at o; exact o.elim
    | some ob =>
      rw [y] at o
      cases ob with
      | ins c fs =>
        simp only at o
        cases k : cs.any (Nat.beq c) && Nat.ble fs.length 900 with
        | false => rw [k] at o; exact o.elim
        | true =>
          rw [k] at o
          rw [Bool.and_eq_true] at k
          obtain ⟨C, dx, vs, ec, q, l⟩ := hS.at e1 y
          obtain ⟨k1, k2⟩ := hc c (any_mem k.1) C ec
          have k3 := Nat.le_of_ble_eq_true k.2
          have hl := l.len
          refine ⟨a, C, dx, vs, ev, q, k1, k2, by omega, ?_, c, any_mem k.1, ec⟩
          have nf : ∀ f u, H a ≠ some (.frz f u) := fun _ _ z => by rw [q] at z; cases z
          have g := Grow.put (o := .ins C dx (putF (strV f) v vs)) hS e1 nf
          exact o m _ σ g (hS.put e1 nf ⟨C, dx, _, ec, upd_same, (l.put ru).up g⟩) (hE.up g)
      | _ => exact o.elim
  | _ => exact o.elim
theorem st_fld {cs : List Nat} {f : List Nat} {F : Str} {pos' : Pos} {fo fv : FE} (hc : ∀ c ∈ cs, FldOk T X.K (strV f) c) (ho : SE T X W o fo) (hv : SE T X W e fv) (hs : swapsWith e (some (.Attribute o F pos')) pos.line X.env = pure false) (eF : F = strV f := by rfl) :
    SSt T X W (.Assign [.Attribute o F pos'] e pos) (fStF cs f fo fv) := by
  subst eF
  intro env h m σ H D hE hS hO
  refine ⟨_, ps_fld EX.pe EX.pe hs, ?_⟩
  refine hv env h m σ H _ hE hS (OutS.of hE hO fun u h1 m1 H1 v _ g1 s1 r1 E1 o1 => ?_)
  refine ho env h1 m1 σ H1 _ E1 s1 (OutS.of E1 o1 fun w h2 m2 H2 z _ g2 s2 r2 E2 o2 => ?_)
  obtain ⟨a, C, dx, fs, x1, x2, x3, x4, x5, x6, _⟩ := stF_go hc s2 E2 (r1.up g2) r2 o2
  exact ⟨a, C, dx, fs, x1, x2, x3, x4, x5, x6⟩
/-! o.f op= e, for ints -/
def fAgF (cs : List Nat) (f : List Nat) (op : Int → Int → Int) (fo fv : FE) : FS := fun env h => RS.of (fo env h) env fun w h1 => RS.of (gFld cs f w h1) env fun x h1' => RS.of (fv env h1') env fun y h2 => match x, y, w with
  | .int i, .int j, .ref p => match h2.get p with
    | some (.ins c fs) => match cs.any (Nat.beq c) && Nat.ble fs.length 900 with
      | true => .nx env (h2.put p (.ins c (putN f (.int (op i j)) fs)))
      | false => .bad
    | _ => .bad
  | _, _, _ => .bad
/-! a for over anything -/
structure Itr where
  n : Nat
  get : Nat → Hv → Option (Option U)
abbrev FI := Ev → Hv → R Itr
def ItR (T : Tb) (m0 : Mp) (H0 : Hp) (g : Itr) (J : It) : Prop := ∀ m H h i, Grow m0 H0 m H → SimH T m h H → match g.get i h with
  | some none => J.stop i H
  | some (some u) => J.go i H ∧ ∀ x H', J.yld i H x H' → ∃ m', Grow m H m' H' ∧ SimH T m' h H' ∧ Rel T m' H' u x
  | none => True
def IX (X : Cx) (tg it : Expr) : TI := fun σ H R' => ∃ wi, PI X tg it wi ∧ wi σ H R'
theorem IX.pi {tg it : Expr} : PI X tg it (IX X tg it) := ⟨fun pins s σ H R' I ⟨t, ht, q⟩ => ht.run pins s σ H R' I q⟩
def SI (T : Tb) (X : Cx) (W : WX') (tg it : Expr) (f : FI) : Prop := ∀ env h m σ H (R' : It → Hp → Prop), EnvR T m H env σ → SimH T m h H → Out T m H (wat W σ) (fun m' H' g J => ItR T m' H' g J) (f env h) R' → IX X tg it σ H R'
def forL (get : Nat → Hv → Option (Option U)) (g : FG) (b : FS) : Nat → Nat → Ev → Hv → RS
  | 0, _, _, _ => .bad
  | n + 1, i, env, h => match get i h with
    | none => .bad
    | some none => .nx env h
    | some (some u) => match g u env h with
      | .ok e h1 => match b e h1 with
        | .nx e h2 => forL get g b n (i + 1) e h2
        | .ct e h2 => forL get g b n (i + 1) e h2
        | .bk e h2 => .nx e h2
        | r => r
      | _ => .bad
def fFor (fi : FI) (g : FG) (b : FS) : FS := fun env h => RS.of (fi env h) env fun it h1 => forL it.get g b (it.n + 1) 0 env h1
theorem st_for {tg it : Expr} {L : List Nat} {body : List Stmt} {fi : FI} {g : FG} {b : FS} (hp : PassesOwn (model X.prog X.w) X.A X.env X.xe) (hc : X.calm = true) (hi : SI T X W tg it fi) (hg : SG T X L tg g) (hb : SSs T X W body b)
    (hs : ∀ x, foldedSetIterable it X.env x = pure x) : SSt T X W (.For tg it body [] pos) (fFor fi g b) := fun env h m σ H D hE hS ho => by
  refine ⟨_, ps_for hp hc IX.pi GX.pg SsX.pss hs, ?_⟩
  refine hi env h m σ H _ hE hS (OutS.of hE ho fun it h1 m1 H1 J _ g1 s1 rJ E1 o1 => ?_)
  refine ⟨fun i n σ' H' => ∃ env' h' m', Grow m1 H1 m' H' ∧ EnvR T m' H' env' σ' ∧ SimH T m' h' H' ∧ OutS T m' H' W D (forL it.get g b n i env' h'), ⟨it.n + 1, env, h1, m1, Grow.refl _ _, E1, s1, o1⟩, ?_⟩
  intro i n σ' H' ⟨env', h', m', gw, E', S', o'⟩
  cases n with
  | zero => exact o'.elim
  | succ n =>
    have rj := rJ m' H' h' i gw S'
    simp only [forL] at o'
    cases z : it.get i h' with
    | none => rw [z] at o'; exact o'.elim
    | some ou =>
      rw [z] at o' rj
      cases ou with
      | none => exact .inl ⟨rj, o' m' H' σ' (Grow.refl _ _) S' E'⟩
      | some u =>
        obtain ⟨go, yl⟩ := rj
        refine .inr ⟨go, fun σ2 H2 => ∃ env2 h2 m2, Grow m1 H1 m2 H2 ∧ EnvR T m2 H2 env2 σ2 ∧ SimH T m2 h2 H2 ∧ OutS T m2 H2 W D (forL it.get g b n (i + 1) env2 h2), fun σ2 H2 ⟨env2, h2, m2, x⟩ => ⟨n, Nat.lt_succ_self n, env2, h2, m2, x⟩, fun x H2 y => ?_⟩
        obtain ⟨m2, g2, s2, r2⟩ := yl x H2 y
        have gw2 := gw.trans g2
        refine hg u x env' h' m2 σ' H2 _ r2 (E'.up g2) s2 ?_
        have o2 := OutS.up g2 o'
        simp only at o2
        cases z2 : g u env' h' with
        | bad => rw [z2] at o2; exact o2
        | ex c fs hh => rw [z2] at o2; exact o2.elim
        | ok e3 h3 =>
          rw [z2] at o2
          intro m3 H3 σ3 g3 s3 x3
          have gw3 := gw2.trans g3
          refine hb e3 h3 m3 σ3 H3 _ x3.1 s3 ?_
          have o3 := OutS.up g3 o2
          simp only at o3
          cases z3 : b e3 h3 with
          | nx e4 h4 =>
            rw [z3] at o3
            exact fun m4 H4 σ4 g4 s4 E4 => ⟨e4, h4, m4, gw3.trans g4, E4, s4, OutS.up g4 o3⟩
          | ct e4 h4 =>
            rw [z3] at o3
            exact fun m4 H4 σ4 g4 s4 E4 => ⟨e4, h4, m4, gw3.trans g4, E4, s4, OutS.up g4 o3⟩
          | bk e4 h4 => rw [z3] at o3; exact o3
          | rt w h4 => rw [z3] at o3; exact o3
          | ex c fs e4 h4 => rw [z3] at o3; exact o3
          | bad => rw [z3] at o3; exact o3
/-! while -/
def whL (c : FT) (b : FS) : Nat → Ev → Hv → RS
  | 0, _, _ => .bad
  | n + 1, env, h => RS.of (c env h) env fun k h1 => match k with
    | false => .nx env h1
    | true => match b env h1 with
      | .nx e h2 => whL c b n e h2
      | .ct e h2 => whL c b n e h2
      | .bk e h2 => .nx e h2
      | r => r
theorem st_while {body : List Stmt} {t : FT} {b : FS} (n : Nat) (hp : PassesOwn (model X.prog X.w) X.A X.env X.xe) (ht : STt T X W c t) (hb : SSs T X W body b) : SSt T X W (.While c body [] pos) (whL t b n) := fun env h m σ H D hE hS ho => by
  refine ⟨_, ps_while hp TX.pt SsX.pss, ?_⟩
  refine ⟨fun n σ' H' => ∃ env' h' m', EnvR T m' H' env' σ' ∧ SimH T m' h' H' ∧ OutS T m' H' W D (whL t b n env' h'), ⟨n, env, h, m, hE, hS, ho⟩, ?_⟩
  intro n σ' H' ⟨env', h', m', E', S', o'⟩
  cases n with
  | zero => exact o'.elim
  | succ n =>
    simp only [whL] at o'
    refine ht env' h' m' σ' H' _ E' S' (OutS.of E' o' fun k h1 m1 H1 k' _ g1 s1 r1 E1 o1 => ?_)
    subst r1
    cases k with
    | false => exact iteF (o1 m1 H1 σ' (Grow.refl _ _) s1 E1)
    | true =>
      refine iteT ⟨fun σ2 H2 => ∃ env2 h2 m2, EnvR T m2 H2 env2 σ2 ∧ SimH T m2 h2 H2 ∧ OutS T m2 H2 W D (whL t b n env2 h2), fun σ2 H2 x => ⟨n, Nat.lt_succ_self n, x⟩, ?_⟩
      refine hb env' h1 m1 σ' H1 _ E1 s1 ?_
      simp only at o1
      cases z3 : b env' h1 with
      | nx e4 h4 =>
        rw [z3] at o1
        exact fun m4 H4 σ4 g4 s4 E4 => ⟨e4, h4, m4, E4, s4, OutS.up g4 o1⟩
      | ct e4 h4 =>
        rw [z3] at o1
        exact fun m4 H4 σ4 g4 s4 E4 => ⟨e4, h4, m4, E4, s4, OutS.up g4 o1⟩
      | bk e4 h4 => rw [z3] at o1; exact o1
      | rt w h4 => rw [z3] at o1; exact o1
      | ex c fs e4 h4 => rw [z3] at o1; exact o1
      | bad => rw [z3] at o1; exact o1
end
end VI

/-! VI, part H: what is walked; comprehensions; further stores. -/
namespace VI
open PySem L2
section
variable {T : Tb} {X : Cx} {W : WX'} {e a b c o : Expr} {pos p2 : Pos} {st : Stmt} {sts : List Stmt}
/-! lists, tuples, texts by themselves: the kind is told by the value -/
def itSeq (u : U) (h : Hv) : R Itr := match u with
  | .tup us => .ok ⟨us.length, fun i _ => some us[i]?⟩ h
  | .ref p => match h.lst p with
    | some us => .ok ⟨us.length, fun i h' => match h'.lst p with
      | some ws => some ws[i]?
      | none => none⟩ h
    | none => .bad
  | _ => .bad
def fItS (f : FE) : FI := fun env h => (f env h).bind itSeq
def itStr (u : U) (h : Hv) : R Itr := match u with
  | .str x => .ok ⟨x.length, fun i _ => some (x[i]?.map fun c => .str [c])⟩ h
  | _ => .bad
def fItT (f : FE) : FI := fun env h => (f env h).bind itStr
theorem ItR_lst {m0 : Mp} {H0 : Hp} {p : Ix} {a : Addr} {K : PySem.W.Frag} {n : Nat} (e : m0 p = some a) : ItR T m0 H0 ⟨n, fun i h' => match h'.lst p with | some ws => some ws[i]? | none => none⟩ (Itl K a) := by
  intro m H h i g s
  have e' := g.sub p a e
  simp only
  cases z : h.lst p with
  | none => exact trivial
  | some us =>
    obtain ⟨vs, q, l⟩ := s.lst e' z
    simp only
    cases y : us[i]? with
    | none =>
      refine ⟨vs, SqL.of q, ?_⟩
      rw [← l.len]
      exact List.getElem?_eq_none_iff.mp y
    | some u =>
      obtain ⟨v, ev, r⟩ := l.get y
      refine ⟨⟨vs, v, SqL.of q, ev⟩, fun x H' yl => ?_⟩
      obtain ⟨eH, ex⟩ := yl
      subst eH
      have := ex vs (SqL.of q)
      rw [ev] at this; cases this
      exact ⟨m, Grow.refl _ _, s, r⟩
theorem sqT_inj {K : PySem.W.Frag} {H : Hp} {a : Addr} {xs : List V} (h : SqT K H a xs) : True := trivial
theorem ItR_tup {m0 : Mp} {H0 : Hp} {a : Addr} {n : Nat} {us : List U} {vs : List V} (q : SqT T.K H0 a vs) (l : RelL T m0 H0 us vs) : ItR T m0 H0 ⟨n, fun i _ => some us[i]?⟩ (Itt T.K a) := by
  intro m H h i g s
  simp only
  have q' := g.sqT q
  have l' := l.up g
  cases y : us[i]? with
  | none =>
    refine ⟨vs, q', ?_⟩
    rw [← l'.len]
    exact List.getElem?_eq_none_iff.mp y
  | some u =>
    obtain ⟨v, ev, r⟩ := l'.get y
    refine ⟨⟨vs, v, q', ev⟩, fun x H' yl => ?_⟩
    obtain ⟨eH, ex⟩ := yl
    subst eH
    have := ex vs q'
    rw [ev] at this; cases this
    exact ⟨m, Grow.refl _ _, s, r⟩
theorem ItR_str {m0 : Mp} {H0 : Hp} {n : Nat} {x : List Nat} : ItR T m0 H0 ⟨n, fun i _ => some (x[i]?.map fun c => .str [c])⟩ (Its (strV x)) := by
  intro m H h i g s
  simp only
  have hl : (strV x).cps.size = x.length := by simp [strV]
  have hg : ∀ i : Nat, (strV x).cps[i]? = x[i]? := fun i => by simp [strV]
  cases y : x[i]? with
  | none =>
    show (strV x).cps.size ≤ i
    rw [hl]
    exact List.getElem?_eq_none_iff.mp y
  | some c =>
    refine ⟨?_, fun z H' yl => ?_⟩
    · show i < (strV x).cps.size
      rw [hl]
      exact (List.getElem?_eq_some_iff.mp y).1
    · obtain ⟨eH, c', ec, ez⟩ := yl
      subst eH
      rw [hg, y] at ec; cases ec
      subst ez
      exact ⟨m, Grow.refl _ _, s, rfl⟩
/-- for x in a list -/
theorem si_list {tg : Expr} {f : FE} (hf : SE T X W e f) : SI T X W tg e (fun env h => (f env h).bind fun u h1 => match u with | .ref p => itSeq (.ref p) h1 | _ => .bad) := fun env h m σ H R' hE hS ho => by
  refine ⟨_, pi_list EX.pe, ?_⟩
  refine hf env h m σ H _ hE hS (ho.bind fun u h1 m1 H1 v _ g1 s1 r1 o1 => ?_)
  cases u with
  | ref p =>
    obtain ⟨a, e1, ev⟩ := r1
    simp only [itSeq] at o1
    cases z : h1.lst p with
    | none => rw [z] at o1; exact o1.elim
    | some us =>
      rw [z] at o1
      obtain ⟨vs, q, l⟩ := s1.lst e1 z
      exact ⟨a, ev, ⟨vs, SqL.of q⟩, o1 m1 H1 _ (Grow.refl _ _) s1 (ItR_lst e1)⟩
  | _ => exact o1.elim
theorem si_tup {tg : Expr} {f : FE} (hf : SE T X W e f) (hK : T.K = X.K := by rfl) : SI T X W tg e (fun env h => (f env h).bind fun u h1 => match u with | .tup us => itSeq (.tup us) h1 | _ => .bad) := fun env h m σ H R' hE hS ho => by
  refine ⟨_, pi_tup EX.pe, ?_⟩
  refine hf env h m σ H _ hE hS (ho.bind fun u h1 m1 H1 v _ g1 s1 r1 o1 => ?_)
  cases u with
  | tup us =>
    obtain ⟨a, vs, ev, q, l⟩ := r1
    refine ⟨a, ev, ⟨vs, hK ▸ q⟩, ?_⟩
    have := o1 m1 H1 (Itt T.K a) (Grow.refl _ _) s1 (ItR_tup q l)
    rw [hK] at this
    exact this
  | _ => exact o1.elim
theorem si_str {tg : Expr} {f : FE} (hf : SE T X W e f) : SI T X W tg e (fItT f) := fun env h m σ H R' hE hS ho => by
  refine ⟨_, pi_str EX.pe, ?_⟩
  refine hf env h m σ H _ hE hS (ho.bind fun u h1 m1 H1 v _ g1 s1 r1 o1 => ?_)
  cases u with
  | str x => exact ⟨strV x, r1, o1 m1 H1 _ (Grow.refl _ _) s1 ItR_str⟩
  | _ => exact o1.elim
/-! comprehensions over one thing -/
theorem wipe_at (σ : St) (i : Nat) : ∀ vs : List Nat, (wipe σ vs)[i]? = if i ∈ vs ∧ i < σ.length then some none else σ[i]?
  | [] => by simp [wipe]
  | v :: vs => by
    unfold wipe
    rw [List.getElem?_set, wipe_length, wipe_at σ i vs]
    by_cases h : v = i
    · subst h
      rw [if_pos rfl]
      by_cases h2 : v < List.length σ
      · rw [if_pos h2, if_pos ⟨List.mem_cons_self, h2⟩]
      · rw [if_neg h2, if_neg (fun z => h2 z.2)]
        exact (List.getElem?_eq_none_iff.mpr (by omega)).symm
    · rw [if_neg h]
      have q : (i ∈ v :: vs) ↔ i ∈ vs := ⟨fun z => by
        rcases List.mem_cons.mp z with z | z
        · exact absurd z.symm h
        · exact z, fun z => List.mem_cons_of_mem _ z⟩
      by_cases z : i ∈ vs ∧ i < List.length σ
      · rw [if_pos z, if_pos ⟨q.mpr z.1, z.2⟩]
      · rw [if_neg z, if_neg (fun y => z ⟨q.mp y.1, y.2⟩)]
theorem wipe_only {σ σ2 : St} {L vs : List Nat} (o : Only L (wipe σ vs) σ2) (h : ∀ i ∈ L, i ∈ vs) : wipe σ2 vs = wipe σ vs := by
  apply List.ext_getElem?
  intro i
  have l2 : σ2.length = σ.length := o.1.trans (wipe_length σ vs)
  rw [wipe_at, wipe_at, l2]
  by_cases z : i ∈ vs ∧ i < σ.length
  · rw [if_pos z, if_pos z]
  · rw [if_neg z, if_neg z]
    by_cases y : i ∈ vs
    · have n : ¬ i < σ.length := fun q => z ⟨y, q⟩
      rw [List.getElem?_eq_none_iff.mpr (by omega), List.getElem?_eq_none_iff.mpr (by omega)]
    · rw [o.2 i (fun q => y (h i q)), wipe_at, if_neg z]
def wipeU (env : Ev) : List Nat → Ev
  | [] => env
  | v :: vs => (wipeU env vs).set v none
theorem EnvR.wipe {m : Mp} {H : Hp} {env : Ev} {σ : St} (r : EnvR T m H env σ) : ∀ vs : List Nat, EnvR T m H (wipeU env vs) (L2.wipe σ vs)
  | [] => r
  | v :: vs => (EnvR.wipe r vs).forget
def noEx {α : Type} (r : R α) : R α := match r with
  | .ok a h => .ok a h
  | _ => .bad
abbrev W0 : WX' := fun _ _ _ _ => False
theorem noEx_out {α β : Type} {R1 : Mp → Hp → α → β → Prop} {m : Mp} {H : Hp} {E E' : XK} {r : R α} {Q : β → Hp → Prop} (o : Out T m H E R1 (noEx r) Q) : Out T m H E' R1 r Q := by
  cases r with
  | ok a h => exact o
  | ex c fs h => exact o.elim
  | bad => exact o
def compL (get : Nat → Hv → Option (Option U)) (g : FG) (t : FT) (fe : FE) : Nat → Nat → Ev → Hv → R (List U)
  | 0, _, _, _ => .bad
  | n + 1, i, env, h => match get i h with
    | none => .bad
    | some none => .ok [] h
    | some (some u) => match Nat.ble i 1000000 with
      | true => (noEx (g u env h)).bind fun e1 h1 => (noEx (t e1 h1)).bind fun k h2 => match k with
        | true => (noEx (fe e1 h2)).bind fun w h3 => (compL get g t fe n (i + 1) env h3).bind fun ws h4 => .ok (w :: ws) h4
        | false => compL get g t fe n (i + 1) env h2
      | false => .bad
def fComp (fi : FI) (vs : List Nat) (g : FG) (t : FT) (fe : FE) : FE := fun env h => (fi env h).bind fun it h1 => (compL it.get g t fe (it.n + 1) 0 (wipeU env vs) h1).bind newL
def STs (T : Tb) (X : Cx) (W : WX') (ifs : List Expr) (f : FT) : Prop :=
  ∀ env h m σ H Q, EnvR T m H env σ → SimH T m h H → Out T m H (wat W σ) (fun _ _ a b => a = b) (f env h) Q → ∃ t, PTs X ifs t ∧ t σ H Q
theorem TsX.pts {ifs : List Expr} : PTs X ifs (fun σ H Q => ∃ t, PTs X ifs t ∧ t σ H Q) := ⟨fun pins s σ H Q I ⟨t, ht, q⟩ => ht.run pins s σ H Q I q⟩
def fYes : FT := fun _ h => .ok true h
theorem sts_nil : STs T X W [] fYes := fun env h m σ H Q hE hS ho => ⟨_, pts_nil, ho m H true (Grow.refl _ _) hS rfl⟩
theorem sts_one {f : FT} (hf : STt T X W c f) : STs T X W [c] f := fun env h m σ H Q hE hS ho => ⟨_, pts_one TX.pt, hf env h m σ H Q hE hS ho⟩
/-- the list grows beside the own ones, and is taken in at the end -/
theorem SimH.adopt {m : Mp} {h : Hv} {H : Hp} (s : SimH T m h H) {a : Addr} {us : List U} {vs : List V} (hH : H a = some (.lst vs)) (n : ∀ p, m p ≠ some a) (l : RelL T m H us vs) : SimH T (m.add h.nx a) (h.new (.lst us)) H where
  fresh := fun p e => by
    have e : h.nx.up.nat ≤ p.nat := e
    rw [Ix.nat_up] at e
    unfold Mp.add
    rw [if_neg (fun z => by subst z; omega)]
    exact s.fresh p (by omega)
  dom := fun p b e => by
    have g : Le m H (m.add h.nx a) H := ⟨fun q b e => by
      unfold Mp.add
      by_cases z : q = h.nx
      · subst z; rw [s.fresh h.nx (Nat.le_refl _)] at e; cases e
      · rw [if_neg z]; exact e, fun _ _ e => e⟩
    unfold Mp.add at e
    show ∃ o', (Tr.set h.nx (.lst us) h.t).get p = some o' ∧ _
    rw [Tr.get_set]
    by_cases z : p = h.nx
    · rw [if_pos z] at e ⊢; cases e; exact ⟨_, rfl, vs, hH, l.le g⟩
    · rw [if_neg z] at e ⊢
      obtain ⟨w, q, r'⟩ := s.dom p b e
      exact ⟨w, q, r'.le g rfl⟩
  cod := fun p w e => by
    unfold Mp.add
    by_cases z : p = h.nx
    · exact ⟨a, by rw [if_pos z]⟩
    · rw [if_neg z]
      refine s.cod p w ?_
      have e : (Tr.set h.nx (.lst us) h.t).get p = some w := e
      rw [Tr.get_set, if_neg z] at e
      exact e
  inj := fun p q b e1 e2 => by
    unfold Mp.add at e1 e2
    by_cases z : p = h.nx <;> by_cases y : q = h.nx
    · rw [z, y]
    · rw [if_pos z] at e1; rw [if_neg y] at e2; cases e1
      exact absurd e2 (n q)
    · rw [if_neg z] at e1; rw [if_pos y] at e2; cases e2
      exact absurd e1 (n p)
    · rw [if_neg z] at e1; rw [if_neg y] at e2
      exact s.inj p q b e1 e2
abbrev Cx.bk' (X : Cx) (s : Shared) (H : Hp) (scope : Scope) (C : Addr) (cl : List (Str × Addr)) (fp : List Addr) : Cx := X.blk s H scope (compEnvC scope cl C X.env) fp
def BG (X : Cx) (scope : Scope) (tg : Expr) : TG := fun v σ H Q => ∀ s H0 C cl fp, GX (Cx.bk' X s H0 scope C cl fp) tg v σ H Q
def BT (X : Cx) (scope : Scope) (ifs : List Expr) : TT := fun σ H Q => ∀ s H0 C cl fp, ∃ t, PTs (Cx.bk' X s H0 scope C cl fp) ifs t ∧ t σ H Q
def BE (X : Cx) (scope : Scope) (elt : Expr) : TE := fun σ H Q => ∀ s H0 C cl fp, EX (Cx.bk' X s H0 scope C cl fp) elt σ H Q
theorem BG.pg {scope : Scope} {tg : Expr} (s : Shared) (H0 : Hp) (C : Addr) (cl : List (Str × Addr)) (fp : List Addr) : PG (Cx.bk' X s H0 scope C cl fp) tg (BG X scope tg) := ⟨fun pins s' σ H v u Q I r h => GX.pg.run pins s' σ H v u Q I r (h s H0 C cl fp)⟩
theorem BT.pts {scope : Scope} {ifs : List Expr} (s : Shared) (H0 : Hp) (C : Addr) (cl : List (Str × Addr)) (fp : List Addr) : PTs (Cx.bk' X s H0 scope C cl fp) ifs (BT X scope ifs) := ⟨fun pins s' σ H Q I h => TsX.pts.run pins s' σ H Q I (h s H0 C cl fp)⟩
theorem BE.pe {scope : Scope} {elt : Expr} (s : Shared) (H0 : Hp) (C : Addr) (cl : List (Str × Addr)) (fp : List Addr) : PE (Cx.bk' X s H0 scope C cl fp) elt (BE X scope elt) := ⟨fun pins s' σ H Q I h => EX.pe.run pins s' σ H Q I (h s H0 C cl fp)⟩
/-- the growing list stands at D, beside the own ones -/
structure Bes (m1 : Mp) (H1 : Hp) (D : Addr) (vs : List V) (m : Mp) (H : Hp) : Prop where
  gw : Grow m1 H1 m H
  at_ : H D = some (.lst vs)
  no : ∀ p, m p ≠ some D
theorem Bes.go {m1 m m2 : Mp} {H1 H H2 : Hp} {D : Addr} {vs : List V} (b : Bes m1 H1 D vs m H) (g : Grow m H m2 H2) : Bes m1 H1 D vs m2 H2 where
  gw := b.gw.trans g
  at_ := g.out D _ b.at_ b.no
  no := fun p e => by
    rcases g.old p D e with q | q
    · exact b.no p q
    · rw [b.at_] at q; cases q
theorem Le.aside {m : Mp} {H : Hp} {D : Addr} {vs : List V} {o : HO} (e : H D = some (.lst vs)) : Le m H m (upd H D o) := ⟨fun _ _ z => z, fun a xs r => by
  have n : ∀ u, H a = some u → (∀ zs, u ≠ .lst zs) → a ≠ D := fun u q k y => by subst y; rw [e] at q; cases q; exact k _ rfl
  rcases r with r | ⟨f, r⟩
  · exact .inl (by rw [upd_ne (n _ r fun _ y => by cases y)]; exact r)
  · exact .inr ⟨f, by rw [upd_ne (n _ r fun _ y => by cases y)]; exact r⟩⟩
theorem SimH.aside {m : Mp} {h : Hv} {H : Hp} (s : SimH T m h H) {D : Addr} {vs : List V} {o : HO} (e : H D = some (.lst vs)) (n : ∀ p, m p ≠ some D) : SimH T m h (upd H D o) where
  fresh := s.fresh
  dom := fun p a q => by
    obtain ⟨w, q', r⟩ := s.dom p a q
    exact ⟨w, q', r.le (Le.aside e) (upd_ne fun y => by subst y; exact n p q)⟩
  cod := s.cod
  inj := s.inj
theorem Bes.put {m1 m : Mp} {H1 H : Hp} {D : Addr} {vs ws : List V} (b : Bes m1 H1 D vs m H) (hD : H1 D = none) : Bes m1 H1 D ws m (upd H D (.lst ws)) where
  gw := ⟨fun a f u q => by rw [upd_ne (ne_of_none q hD)]; exact b.gw.frz a f u q, b.gw.sub, fun a xs r => (Le.aside (m := m) b.at_).tup a xs (b.gw.tup a xs r), fun a o e k => by rw [upd_ne (ne_of_none e hD)]; exact b.gw.out a o e k, fun a o e => by
    obtain ⟨o', q⟩ := b.gw.kept a o e
    exact ⟨o', by rw [upd_ne (ne_of_none e hD)]; exact q⟩, b.gw.old⟩
  at_ := upd_same
  no := b.no
theorem lc_go {tg it elt : Expr} {ifs : List Expr} {scope : Scope} {vs L : List Nat} {fi : FI} {g : FG} {t : FT} {fe : FE} (hi : SI T X W tg it fi)
    (hg : ∀ s H0 C cl fp, SG T (Cx.bk' X s H0 scope C cl fp) L tg g) (ht : ∀ s H0 C cl fp, STs T (Cx.bk' X s H0 scope C cl fp) W0 ifs t) (he : ∀ s H0 C cl fp, SE T (Cx.bk' X s H0 scope C cl fp) W0 elt fe) (hL : ∀ i ∈ L, i ∈ vs)
    {env : Ev} {h : Hv} {m : Mp} {σ : St} {H : Hp} {Q : VK} (hE : EnvR T m H env σ) (hS : SimH T m h H) (ho : Out T m H (wat W σ) (RV T) (fComp fi vs g t fe env h) Q) :
    tLc (IX X tg it) (BG X scope tg) (BT X scope ifs) (BE X scope elt) vs σ H Q := by
  refine hi env h m σ H _ hE hS (ho.bind fun it h1 m1 H1 J _ g1 s1 rJ o1 => fun D hD => ?_)
  have E1 : EnvR T m1 H1 (wipeU env vs) (L2.wipe σ vs) := (hE.up g1).wipe vs
  refine ⟨fun i n H' => ∃ h' m' us ws, Bes m1 H1 D ws m' H' ∧ SimH T m' h' H' ∧ RelL T m' H' us ws ∧ us.length ≤ i ∧ Out T m1 H1 (wat W σ) (RV T) ((compL it.get g t fe n i (wipeU env vs) h').bind fun xs h2 => newL (us ++ xs) h2) Q,
    ⟨it.n + 1, h1, m1, [], [], ⟨Grow.beside hD, upd_same, fun p e => absurd rfl (s1.ne e hD)⟩, s1.beside hD, rfl, Nat.le_refl _, o1⟩, ?_⟩
  intro i n H' ⟨h', m', us, ws, B, S', l, hl, o⟩
  cases n with
  | zero => exact o.elim
  | succ n =>
    have rj := rJ m' H' h' i B.gw S'
    simp only [compL] at o
    cases z : it.get i h' with
    | none => rw [z] at o; exact o.elim
    | some ou =>
      rw [z] at o rj
      cases ou with
      | none =>
        refine .inl ⟨rj, ?_⟩
        have o : Out T m1 H1 (wat W σ) (RV T) (newL (us ++ []) h') Q := o
        rw [List.append_nil] at o
        obtain ⟨hz, o⟩ := few_ok o
        refine o (m'.add h'.nx D) H' (.ref D) ⟨B.gw.frz, fun p a e => ?_, B.gw.tup, B.gw.out, B.gw.kept, fun p a e => ?_⟩ (S'.adopt B.at_ B.no l) ⟨D, by unfold Mp.add; rw [if_pos rfl], rfl⟩
        · have e := B.gw.sub p a e
          unfold Mp.add
          rw [if_neg (fun y => by subst y; rw [S'.fresh h'.nx (Nat.le_refl _)] at e; cases e)]
          exact e
        · unfold Mp.add at e
          by_cases y : p = h'.nx
          · rw [if_pos y] at e; cases e; exact .inr hD
          · rw [if_neg y] at e; exact B.gw.old p a e
      | some u =>
        obtain ⟨go, yl⟩ := rj
        refine .inr ⟨go, fun H2 => ∃ h2 m2 us2 ws2, Bes m1 H1 D ws2 m2 H2 ∧ SimH T m2 h2 H2 ∧ RelL T m2 H2 us2 ws2 ∧ us2.length ≤ i + 1 ∧ Out T m1 H1 (wat W σ) (RV T) ((compL it.get g t fe n (i + 1) (wipeU env vs) h2).bind fun xs h3 => newL (us2 ++ xs) h3) Q,
          fun H2 x => ⟨n, Nat.lt_succ_self n, x⟩, fun x H2 y => ?_⟩
        obtain ⟨m2, g2, s2, r2⟩ := yl x H2 y
        have B2 := B.go g2
        intro sA HA CA clA fpA
        refine hg sA HA CA clA fpA u x (wipeU env vs) h' m2 (L2.wipe σ vs) H2 _ r2 (E1.up B2.gw) s2 ?_
        simp only at o
        cases zi : Nat.ble i 1000000 with
        | false => rw [zi] at o; exact o.elim
        | true =>
        have hi6 := Nat.le_of_ble_eq_true zi
        rw [zi] at o
        simp only at o
        cases z2 : g u (wipeU env vs) h' with
        | bad => rw [z2] at o; exact o.elim
        | ex c fs hh => rw [z2] at o; exact o.elim
        | ok e3 h3 =>
          rw [z2] at o
          intro m3 H3 σ3 g3 s3 x3
          have B3 := B2.go g3
          refine ⟨wipe_only x3.2 hL, fun sB HB CB clB fpB => ?_⟩
          refine ht sB HB CB clB fpB e3 h3 m3 σ3 H3 _ x3.1 s3 ?_
          simp only [noEx, R.bind] at o
          cases z3 : t e3 h3 with
          | bad => rw [z3] at o; exact o.elim
          | ex c fs hh => rw [z3] at o; exact o.elim
          | ok k h4 =>
            rw [z3] at o
            intro m4 H4 k' g4 s4 ek
            subst ek
            have B4 := B3.go g4
            cases k with
            | false => exact iteF ⟨h4, m4, us, ws, B4, s4, ((((l.up g2).up g3).up g4)), by omega, o⟩
            | true =>
              refine iteT fun sC HC CC clC fpC => ?_
              refine he sC HC CC clC fpC e3 h4 m4 σ3 H4 _ (x3.1.up g4) s4 ?_
              simp only at o
              cases z4 : fe e3 h4 with
              | bad => rw [z4] at o; exact o.elim
              | ex c fs hh => rw [z4] at o; exact o.elim
              | ok w h5 =>
                rw [z4] at o
                intro m5 H5 v5 g5 s5 r5
                have B5 := B4.go g5
                have l5 := (((l.up g2).up g3).up g4).up g5
                have le := Le.aside (m := m5) (o := .lst (ws ++ [v5])) B5.at_
                refine ⟨ws, B5.at_, ?_, h5, m5, us ++ [w], ws ++ [v5], B5.put hD, s5.aside B5.at_ B5.no, RelL.app (l5.le le) ⟨v5, [], rfl, r5.le le, rfl⟩, by simp; omega, ?_⟩
                · rw [← l5.len, sizeLine_eq]; omega
                · cases z5 : compL it.get g t fe n (i + 1) (wipeU env vs) h5 with
                  | bad => simp only [z5, R.bind] at o; exact o.elim
                  | ex c fs hh => simp only [z5, R.bind] at o ⊢; exact o
                  | ok xs h6 =>
                    simp only [z5, R.bind] at o ⊢
                    rw [List.append_assoc]
                    exact o
theorem s_comp {tg it elt : Expr} {ifs : List Expr} {scope : Scope} {own : List (Str × Nat)} {L : List Nat} {fi : FI} {g : FG} {t : FT} {fe : FE} (hc : X.calm = true) (hN : X.N.Nodup) (ok : BlkOk X.N X.env.scope scope own) (hi : SI T X W tg it fi)
    (hg : ∀ s H0 C cl fp, SG T (Cx.bk' X s H0 scope C cl fp) L tg g) (ht : ∀ s H0 C cl fp, STs T (Cx.bk' X s H0 scope C cl fp) W0 ifs t) (he : ∀ s H0 C cl fp, SE T (Cx.bk' X s H0 scope C cl fp) W0 elt fe) (hL : ∀ i ∈ L, i ∈ own.map (·.2))
    (hs : ∀ x, foldedSetIterable it X.env x = pure x) : SE T X W (.ListComp elt [⟨tg, it, ifs, 0⟩] scope pos) (fComp fi (own.map (·.2)) g t fe) := fun env h m σ H Q hE hS ho =>
  ⟨_, pe_lc hc hN IX.pi ok (fun s H0 C cl fp => BG.pg s H0 C cl fp) (fun s H0 C cl fp => BT.pts s H0 C cl fp) (fun s H0 C cl fp => BE.pe s H0 C cl fp) hs, lc_go hi hg ht he hL hE hS ho⟩
/-- x = [.. for ..] on one line -/
theorem st_setC {i : Nat} {y : Str} {py spos : Pos} {tg it elt : Expr} {ifs : List Expr} {scope : Scope} {own : List (Str × Nat)} {L : List Nat} {fi : FI} {g : FG} {t : FT} {fe : FE} (hc : X.calm = true) (hN : X.N.Nodup) (hy : X.N[i]? = some y) (hyl : X.env.scope.names.lookup y = some .local)
    (hsw : swapsWith (.ListComp elt [⟨tg, it, ifs, 0⟩] scope pos) (some (.Name y py)) spos.line X.env = pure true) (ok : BlkOk X.N X.env.scope scope own) (hi : SI T X W tg it fi)
    (hg : ∀ s H0 C cl fp, SG T (Cx.bk' X s H0 scope C cl fp) L tg g) (ht : ∀ s H0 C cl fp, STs T (Cx.bk' X s H0 scope C cl fp) W0 ifs t) (he : ∀ s H0 C cl fp, SE T (Cx.bk' X s H0 scope C cl fp) W0 elt fe) (hL : ∀ i ∈ L, i ∈ own.map (·.2))
    (hs : ∀ x, foldedSetIterable it X.env x = pure x) : SSt T X W (.Assign [.Name y py] (.ListComp elt [⟨tg, it, ifs, 0⟩] scope pos) spos) (fAsg (fComp fi (own.map (·.2)) g t fe) (gNm i)) := fun env h m σ H D hE hS ho => by
  refine ⟨_, ps_setLc hc hN hy hyl hsw IX.pi ok (fun s H0 C cl fp => BG.pg s H0 C cl fp) (fun s H0 C cl fp => BT.pts s H0 C cl fp) (fun s H0 C cl fp => BE.pe s H0 C cl fp) hs, ?_⟩
  refine lc_go hi hg ht he hL hE hS (OutS.of hE ho fun u h1 m1 H1 v _ g1 s1 r1 E1 o1 => ?_)
  exact o1 m1 H1 _ (Grow.refl _ _) s1 (E1.set r1)
end
end VI

/-! VI, part J: built-in functions and methods. -/
namespace VI
open PySem L2 PySem.NumText
section
variable {T : Tb} {X : Cx} {W : WX'} {e a b c o : Expr} {es : List Expr} {pos p p2 apos cpos : Pos}
/-! functions and classes by their names -/
def CaS (T : Tb) (X : Cx) (f : Value) (g : List U → Hv → R U) : Prop :=
  ∀ m h H us vs E Q, SimH T m h H → RelL T m H us vs → Out T m H E (RV T) (g us h) Q → ∃ r, CallR X f r ∧ r vs H Q
def cax (X : Cx) (f : Value) : List V → Hp → VK → Prop := fun vs H Q => ∃ r, CallR X f r ∧ r vs H Q
theorem cax_ok (f : Value) : CallR X f (cax X f) := by
  intro pins s σ H xs us Q I r ⟨r', hr, q⟩
  exact hr pins s σ H xs us Q I r q
def fCa (g : List U → Hv → R U) (fa : FL) : FE := fun env h => (fa env h).bind g
theorem s_callB {x : Str} {id : String} {g : List U → Hv → R U} {fa : FL} (hc : CaS T X (.builtin id) g) (hg : Gl X x) (hm : X.mg x = none) (hv : bootBuiltins x = some (.builtin id)) (ha : SL T X W (e :: es) fa) (hn : x ≠ "__name__" := by decide) (hdb : (x == ("__debug__" : Str)) = false := by decide)
    (he : starEach (e :: es) X.env = (false, eval e X.env) :: starEach es X.env := by rfl) (hpl : (backTo pos (starEach es X.env)).any (·.1) = false := by rfl) : SE T X W (.Call (.Name x p) (e :: es) [] pos) (fCa g fa) := fun env h m σ H Q hE hS ho => by
  refine ⟨_, pe_callB (cax_ok _) hg hm hv AX.pa hn hdb he hpl, ?_⟩
  exact ha env h m σ H _ hE hS (ho.bind fun us h1 m1 H1 vs _ g1 s1 r1 o1 => hc m1 h1 H1 us vs _ _ s1 r1 o1)
theorem s_callTy {x : Str} {id : String} {g : List U → Hv → R U} {fa : FL} (hc : CaS T X (.type id) g) (hg : Gl X x) (hm : X.mg x = none) (hv : bootBuiltins x = some (.type id)) (ha : SL T X W (e :: es) fa) (hn : x ≠ "__name__" := by decide) (hdb : (x == ("__debug__" : Str)) = false := by decide)
    (he : starEach (e :: es) X.env = (false, eval e X.env) :: starEach es X.env := by rfl) (hpl : (backTo pos (starEach es X.env)).any (·.1) = false := by rfl) : SE T X W (.Call (.Name x p) (e :: es) [] pos) (fCa g fa) := fun env h m σ H Q hE hS ho => by
  refine ⟨_, pe_callTy (cax_ok _) hg hm hv AX.pa hn hdb he hpl, ?_⟩
  exact ha env h m σ H _ hE hS (ho.bind fun us h1 m1 H1 vs _ g1 s1 r1 o1 => hc m1 h1 H1 us vs _ _ s1 r1 o1)
theorem rl1 {m : Mp} {H : Hp} {u : U} {vs : List V} (r : RelL T m H [u] vs) : ∃ v, vs = [v] ∧ Rel T m H u v := by
  obtain ⟨v, w, e, q, l⟩ := r
  have l : w = [] := l
  subst l
  exact ⟨v, e, q⟩
theorem rl2 {m : Mp} {H : Hp} {u u' : U} {vs : List V} (r : RelL T m H [u, u'] vs) : ∃ v v', vs = [v, v'] ∧ Rel T m H u v ∧ Rel T m H u' v' := by
  obtain ⟨v, w, e, q, l⟩ := r
  obtain ⟨v', e', q'⟩ := rl1 l
  subst e'
  exact ⟨v, v', e, q, q'⟩
def gLen (us : List U) (h : Hv) : R U := match us with
  | [.str x] => if x.length ≤ many then .ok (.int (x.length : Nat)) h else .bad
  | [u] => match seqU u h with
    | some ws => .ok (.int (ws.length : Nat)) h
    | none => .bad
  | _ => .bad
theorem c_len (hK : T.K = X.K := by rfl) : CaS T X (.builtin "len") gLen := by
  intro m h H us vs E Q hS r o
  have seq : ∀ u, us = [u] → (∀ x, u ≠ .str x) → ∃ r, CallR X (.builtin "len") r ∧ r vs H Q := fun u e n => by
    subst e
    obtain ⟨v, ev, r1⟩ := rl1 r
    have o : Out T m H E (RV T) (match seqU u h with | some ws => .ok (.int (ws.length : Nat)) h | none => .bad) Q := by
      cases u <;> first | exact o | exact absurd rfl (n _)
    cases z : seqU u h with
    | none => rw [z] at o; exact o.elim
    | some ws =>
      rw [z] at o
      obtain ⟨a, xs, ea, q, l⟩ := seqU_ok hS r1 z
      rw [hK] at q
      subst ev ea
      have q' := o m H _ (Grow.refl _ _) hS rfl
      rw [l.len] at q'
      exact ⟨_, call_len_seq, a, xs, rfl, q, q'⟩
  match us, o with
  | [.str x], o =>
    obtain ⟨v, ev, r1⟩ := rl1 r
    have o : Out T m H E (RV T) (if x.length ≤ many then .ok (.int (x.length : Nat)) h else .bad) Q := o
    by_cases hz : x.length ≤ many
    · rw [if_pos hz] at o
      have r1 : _ = _ := r1
      subst ev r1
      refine ⟨_, call_len, _, x.length, rfl, ⟨?_, ?_⟩, o m H _ (Grow.refl _ _) hS rfl⟩
      · rw [strV_len, ← many_eq]; exact hz
      · exact strV_len x
    · rw [if_neg hz] at o; exact o.elim
  | [.tup us], o => exact seq _ rfl fun x z => by cases z
  | [.ref p], o => exact seq _ rfl fun x z => by cases z
  | [.non], o => exact o.elim
  | [.bl _], o => exact o.elim
  | [.int _], o => exact o.elim
  | [.g _], o => exact o.elim
  | [], o => exact o.elim
  | u0 :: _ :: _, o => cases u0 <;> exact o.elim
/-! all, any of True and False -/
def bools : List U → Option (List Bool)
  | [] => some []
  | .bl k :: us => (bools us).map (k :: ·)
  | _ => none
theorem bools_ok {m : Mp} {H : Hp} : ∀ {us : List U} {vs : List V} {bs : List Bool}, RelL T m H us vs → bools us = some bs → vs = bs.map V.bl
  | [], _, bs, r, e => by cases e; exact r
  | .bl k :: us, _, bs, ⟨v, w, e, q, l⟩, z => by
    simp only [bools] at z
    cases y : bools us with
    | none => rw [y] at z; cases z
    | some cs =>
      rw [y] at z; cases z
      have q : _ = _ := q
      subst e q
      rw [bools_ok l y]; rfl
  | .non :: us, _, bs, r, z => by cases z
  | .int _ :: us, _, bs, r, z => by cases z
  | .str _ :: us, _, bs, r, z => by cases z
  | .tup _ :: us, _, bs, r, z => by cases z
  | .ref _ :: us, _, bs, r, z => by cases z
  | .g _ :: us, _, bs, r, z => by cases z
def gBools (f : List Bool → Bool) (us : List U) (h : Hv) : R U := match us with
  | [.ref p] => match h.lst p with
    | some ws => match bools ws with
      | some bs => .ok (.bl (f bs)) h
      | none => .bad
    | none => .bad
  | _ => .bad
theorem gBools_ok {f : List Bool → Bool} {m : Mp} {h : Hv} {H : Hp} {us : List U} {vs : List V} {E : XK} {Q : VK} (hS : SimH T m h H) (r : RelL T m H us vs) (o : Out T m H E (RV T) (gBools f us h) Q) : ∃ a bs, vs = [V.ref a] ∧ SqL X.K H a (bs.map V.bl) ∧ Q (.bl (f bs)) H := by
  match us, o with
  | [.ref p], o =>
    obtain ⟨v, ev, a, e1, ea⟩ := rl1 r
    simp only [gBools] at o
    cases z : h.lst p with
    | none => rw [z] at o; exact o.elim
    | some ws =>
      rw [z] at o
      obtain ⟨xs, q, l⟩ := hS.lst e1 z
      simp only at o
      cases y : bools ws with
      | none => rw [y] at o; exact o.elim
      | some bs =>
        rw [y] at o
        subst ev ea
        rw [bools_ok l y] at q
        exact ⟨a, bs, rfl, SqL.of q, o m H _ (Grow.refl _ _) hS rfl⟩
  | [.non], o => exact o.elim
  | [.bl _], o => exact o.elim
  | [.int _], o => exact o.elim
  | [.str _], o => exact o.elim
  | [.tup _], o => exact o.elim
  | [.g _], o => exact o.elim
  | [], o => exact o.elim
  | u0 :: _ :: _, o => cases u0 <;> exact o.elim
theorem c_all (hc : X.calm = true := by rfl) : CaS T X (.builtin "all") (gBools (·.all id)) := by
  intro m h H us vs E Q hS r o
  exact ⟨_, cr_all hc, gBools_ok hS r o⟩
theorem c_any (hc : X.calm = true := by rfl) : CaS T X (.builtin "any") (gBools (·.any id)) := by
  intro m h H us vs E Q hS r o
  exact ⟨_, cr_any hc, gBools_ok hS r o⟩
/-! int(..) -/
def allDig (x : List Nat) : Bool := x.all fun c => Nat.ble 48 c && Nat.ble c 57
theorem allDig_ok {x : List Nat} (h : allDig x = true) : AllDigits x := fun c hc => by
  have := List.all_eq_true.mp h c hc
  rw [Bool.and_eq_true] at this
  exact ⟨Nat.le_of_ble_eq_true this.1, Nat.le_of_ble_eq_true this.2⟩
def gInt (us : List U) (h : Hv) : R U := match us with
  | [.str x] => match allDig x && (Nat.ble 1 x.length && Nat.ble x.length 640) with
    | true => .ok (.int (digitsVal x : Nat)) h
    | false => .bad
  | [.int i] => .ok (.int i) h
  | _ => .bad
theorem c_int : CaS T X (.type "int") gInt := by
  intro m h H us vs E Q hS r o
  match us, o with
  | [.str x], o =>
    obtain ⟨v, ev, r1⟩ := rl1 r
    simp only [gInt] at o
    cases z : allDig x && (Nat.ble 1 x.length && Nat.ble x.length 640) with
    | false => rw [z] at o; exact o.elim
    | true =>
      rw [z] at o
      rw [Bool.and_eq_true, Bool.and_eq_true] at z
      have z1 := Nat.le_of_ble_eq_true z.2.1
      have z2 := Nat.le_of_ble_eq_true z.2.2
      have r1 : _ = _ := r1
      subst ev r1
      refine ⟨_, call_int_str, strV x, _, rfl, intText_digits (by rw [strV_list]; exact allDig_ok z.1) (by rw [strV_list]; intro y; subst y; simp at z1) (by rw [strV_len]; omega), by rw [strV_len]; omega, ?_⟩
      rw [strV_list]
      exact o m H _ (Grow.refl _ _) hS rfl
  | [.int i], o =>
    obtain ⟨v, ev, r1⟩ := rl1 r
    have r1 : _ = _ := r1
    subst ev r1
    exact ⟨_, call_int1, .inl ⟨i, rfl, o m H _ (Grow.refl _ _) hS rfl⟩⟩
  | [.non], o => exact o.elim
  | [.bl _], o => exact o.elim
  | [.tup _], o => exact o.elim
  | [.ref _], o => exact o.elim
  | [.g _], o => exact o.elim
  | [], o => exact o.elim
  | u0 :: _ :: _, o => cases u0 <;> exact o.elim
/-! tuple(..), list(..) -/
def gTuple (us : List U) (h : Hv) : R U := match us with
  | [.tup ws] => .ok (.tup ws) h
  | [.ref p] => match h.lst p with
    | some ws => few ws (.ok (.tup ws) h)
    | none => .bad
  | _ => .bad
theorem c_tuple (hK : T.K = X.K := by rfl) : CaS T X (.type "tuple") gTuple := by
  intro m h H us vs E Q hS r o
  match us, o with
  | [.tup ws], o =>
    obtain ⟨v, ev, r1⟩ := rl1 r
    obtain ⟨a, xs, ea, q, l⟩ := id r1
    rw [hK] at q
    subst ev ea
    exact ⟨_, call_tuple_of, a, xs, rfl, .inr ⟨q, o m H _ (Grow.refl _ _) hS r1⟩⟩
  | [.ref p], o =>
    obtain ⟨v, ev, a, e1, ea⟩ := rl1 r
    simp only [gTuple] at o
    cases z : h.lst p with
    | none => rw [z] at o; exact o.elim
    | some ws =>
      rw [z] at o
      obtain ⟨xs, q, l⟩ := hS.lst e1 z
      subst ev ea
      exact ⟨_, call_tuple_of, a, xs, rfl, .inl ⟨SqL.of q, (out_tup hS l o).2⟩⟩
  | [.non], o => exact o.elim
  | [.bl _], o => exact o.elim
  | [.int _], o => exact o.elim
  | [.str _], o => exact o.elim
  | [.g _], o => exact o.elim
  | [], o => exact o.elim
  | u0 :: _ :: _, o => cases u0 <;> exact o.elim
def gList (us : List U) (h : Hv) : R U := match us with
  | [u] => match seqU u h with
    | some ws => newL ws h
    | none => .bad
  | _ => .bad
theorem c_list (hK : T.K = X.K := by rfl) : CaS T X (.type "list") gList := by
  intro m h H us vs E Q hS r o
  match us, o with
  | [u], o =>
    obtain ⟨v, ev, r1⟩ := rl1 r
    simp only [gList] at o
    cases z : seqU u h with
    | none => rw [z] at o; exact o.elim
    | some ws =>
      rw [z] at o
      obtain ⟨a, xs, ea, q, l⟩ := seqU_ok hS r1 z
      rw [hK] at q
      subst ev ea
      exact ⟨_, call_list_of, a, xs, rfl, q, (out_lst hS l o).2⟩
  | [], o => exact o.elim
  | u0 :: _ :: _, o => cases u0 <;> exact o.elim
/-! methods of texts and lists -/
def MtS (T : Tb) (X : Cx) (ty : String) (id : String) (g : U → List U → Hv → R U) : Prop :=
  ∀ m h H u v us vs E Q, SimH T m h H → Rel T m H u v → RelL T m H us vs → Out T m H E (RV T) (g u us h) Q → ∃ r, MtR X id r ∧ r v vs H Q
def mtx (X : Cx) (id : String) : V → List V → Hp → VK → Prop := fun v vs H Q => ∃ r, MtR X id r ∧ r v vs H Q
theorem mtx_ok (id : String) : MtR X id (mtx X id) := by
  intro pins s σ H x xs v us Q I rx rs ⟨r, hr, q⟩
  exact hr pins s σ H x xs v us Q I rx rs q
/-- is it of that type -/
def isTy (ty : Nat) (u : U) (h : Hv) : Bool := match u with
  | .str _ => Nat.beq ty 0
  | .ref p => Nat.beq ty 1 && (h.lst p).isSome
  | _ => false
def tyS : Nat → String
  | 0 => "str"
  | _ => "list"
theorem isTy_ok {ty : Nat} {m : Mp} {h : Hv} {H : Hp} {u : U} {v : V} {K : PySem.W.Frag} (hS : SimH T m h H) (r : Rel T m H u v) (e : isTy ty u h = true) : tyV K (tyS ty) v H := by
  cases u with
  | str x =>
    have r : _ = _ := r
    have e := Nat.eq_of_beq_eq_true e
    subst r e
    exact rfl
  | ref p =>
    obtain ⟨a, e1, ea⟩ := r
    simp only [isTy, Bool.and_eq_true] at e
    have e2 := Nat.eq_of_beq_eq_true e.1
    cases z : h.lst p with
    | none => rw [z] at e; simp at e
    | some ws =>
      obtain ⟨xs, q, l⟩ := hS.lst e1 z
      subst ea e2
      exact .inl ⟨rfl, xs, SqL.of q⟩
  | _ => cases e
def fMt (ty : Nat) (g : U → List U → Hv → R U) (fo : FE) (fa : FL) : FE := fun env h => (fo env h).bind fun u h1 => match isTy ty u h1 with
  | true => (fa env h1).bind fun us h2 => g u us h2
  | false => .bad
theorem s_mt {name : Str} {id : String} {ty : Nat} {g : U → List U → Hv → R U} {fo : FE} {fa : FL} (pa : PlainAttrs (tyS ty)) (slot : Slot (tyS ty) name id) (hty : typeOf (.builtin id) = pure (.type "method_descriptor")) (hm : MtS T X (tyS ty) id g) (ho : SE T X W o fo) (ha : SL T X W (e :: es) fa)
    (hbase : attributeBase o name X.env (eval o X.env) = eval o X.env)
    (hfew : ((backTo cpos (starEach (e :: es) X.env)).all (fun x => !x.1) && (backToKw cpos (keywordEach [] X.env)).all (fun x => x.1.isSome)
      && decide ((e :: es).length + ([] : List Keyword).length + (if ([] : List Keyword).isEmpty then 0 else 1) < 30)) = true := by rfl) (hline : (apos.endLine == cpos.line) = true := by rfl)
    (he : starEach (e :: es) X.env = (false, eval e X.env) :: starEach es X.env := by rfl) (hpl : (backTo cpos (starEach es X.env)).any (·.1) = false := by rfl) :
    SE T X W (.Call (.Attribute o name apos) (e :: es) [] cpos) (fMt ty g fo fa) := fun env h m σ H Q hE hS hO => by
  refine ⟨_, pe_bm pa slot hty (mtx_ok id) EX.pe AX.pa hbase hfew hline he hpl, ?_⟩
  refine ho env h m σ H _ hE hS (hO.bind fun u h1 m1 H1 v _ g1 s1 r1 o1 => ?_)
  cases z : isTy ty u h1 with
  | false => rw [z] at o1; exact o1.elim
  | true =>
    rw [z] at o1
    refine ⟨isTy_ok s1 r1 z, ?_⟩
    exact ha env h1 m1 σ H1 _ (hE.up g1) s1 (o1.bind fun us h2 m2 H2 vs _ g2 s2 r2 o2 => hm m2 h2 H2 u v us vs _ _ s2 (r1.up g2) r2 o2)
def gAppend (u : U) (us : List U) (h : Hv) : R U := match u, us with
  | .ref p, [w] => match h.lst p with
    | some ws => match Nat.ble ws.length 1000000 with
      | true => .ok .non (h.put p (.lst (ws ++ [w])))
      | false => .bad
    | none => .bad
  | _, _ => .bad
theorem m_append : MtS T X "list" "list.append" gAppend := by
  intro m h H u v us vs E Q hS r rs o
  cases u <;> try exact o.elim
  rename_i p
  match us, o with
  | [w], o =>
    obtain ⟨a, e1, ea⟩ := r
    obtain ⟨y, ey, ry⟩ := rl1 rs
    simp only [gAppend] at o
    cases z : h.lst p with
    | none => rw [z] at o; exact o.elim
    | some ws =>
      rw [z] at o
      simp only at o
      cases k : Nat.ble ws.length 1000000 with
      | false => rw [k] at o; exact o.elim
      | true =>
        rw [k] at o
        obtain ⟨xs, q, l⟩ := hS.lst e1 z
        have hz := Nat.le_of_ble_eq_true k
        have nf : ∀ f u, H a ≠ some (.frz f u) := fun _ _ z => by rw [q] at z; cases z
        have g := Grow.put (o := .lst (xs ++ [y])) hS e1 nf
        refine ⟨_, mt_append, a, xs, y, ea, ey, q, ?_, o m _ .non g (hS.put e1 nf ⟨_, upd_same, ?_⟩) rfl⟩
        · rw [← l.len, sizeLine_eq]; omega
        · exact RelL.app (l.up g) ⟨y, [], rfl, ry.up g, rfl⟩
  | [], o => exact o.elim
  | u0 :: _ :: _, o => cases u0 <;> exact o.elim
/-! split by one sign, strip of signs -/
def splitL (c : Nat) : List Nat → List (List Nat)
  | [] => [[]]
  | x :: r => match Nat.beq x c with
    | true => [] :: splitL c r
    | false => match splitL c r with
      | [] => [[x]]
      | q :: qs => (x :: q) :: qs
def joinL (c : Nat) : List (List Nat) → List Nat
  | [] => []
  | [q] => q
  | q :: r => q ++ c :: joinL c r
theorem splitL_free {c : Nat} : ∀ {q : List Nat}, c ∉ q → splitL c q = [q]
  | [], _ => rfl
  | x :: q, h => by
    have h1 : x ≠ c := fun z => h (by simp [z])
    have h2 : Nat.beq x c = false := by
      cases z : Nat.beq x c with
      | false => rfl
      | true => exact absurd (Nat.eq_of_beq_eq_true z) h1
    have ih := splitL_free (c := c) (q := q) fun z => h (List.mem_cons_of_mem _ z)
    simp only [splitL, h2, ih]
theorem splitL_app {c : Nat} {r : List Nat} : ∀ {q : List Nat}, c ∉ q → splitL c (q ++ c :: r) = q :: splitL c r
  | [], _ => by
    have h2 : Nat.beq c c = true := by simp
    simp only [List.nil_append, splitL, h2]
  | x :: q, h => by
    have h1 : x ≠ c := fun z => h (by simp [z])
    have h2 : Nat.beq x c = false := by
      cases z : Nat.beq x c with
      | false => rfl
      | true => exact absurd (Nat.eq_of_beq_eq_true z) h1
    have ih := splitL_app (c := c) (r := r) (q := q) fun z => h (List.mem_cons_of_mem _ z)
    simp only [List.cons_append, splitL, h2, ih]
theorem splitL_join {c : Nat} : ∀ {qs : List (List Nat)}, qs ≠ [] → (∀ q ∈ qs, c ∉ q) → splitL c (joinL c qs) = qs
  | [], h, _ => absurd rfl h
  | [q], _, h => splitL_free (h q (by simp))
  | q :: q' :: r, _, h => by
    have e : joinL c (q :: q' :: r) = q ++ c :: joinL c (q' :: r) := rfl
    rw [e, splitL_app (h q (by simp)), splitL_join (by simp) fun z hz => h z (List.mem_cons_of_mem _ hz)]
theorem join_list {c : Nat} : ∀ xs : List Str, (Str.join ⟨#[c]⟩ xs).cps.toList = joinL c (xs.map fun x => x.cps.toList)
  | [] => rfl
  | [x] => rfl
  | x :: y :: r => by
    have e : Str.join ⟨#[c]⟩ (x :: y :: r) = x ++ ⟨#[c]⟩ ++ Str.join ⟨#[c]⟩ (y :: r) := rfl
    have ih := join_list (c := c) (y :: r)
    rw [e]
    show (x.cps ++ #[c] ++ (Str.join ⟨#[c]⟩ (y :: r)).cps).toList = _
    rw [Array.toList_append, Array.toList_append, ih]
    simp [joinL]
theorem split_eq (x : List Nat) (c : Nat) : Txt.split (strV x) ⟨#[c]⟩ = (splitL c x).map strV := by
  have h1 := StrLaws.join_split (strV x) ⟨#[c]⟩
  have h2 := StrLaws.split_free (strV x) c
  have h3 := PyProof.Rows.split_pos (strV x) ⟨#[c]⟩
  generalize Txt.split (strV x) ⟨#[c]⟩ = ps at h1 h2 h3
  have e : joinL c (ps.map fun x => x.cps.toList) = x := by rw [← join_list, h1, strV_list]
  have k := splitL_join (c := c) (qs := ps.map fun x => x.cps.toList) (by
    intro z
    have : ps.length = 0 := by simpa using congrArg List.length z
    omega) (by
    intro q hq
    obtain ⟨z, hz, ez⟩ := List.mem_map.mp hq
    rw [← ez]; exact h2 z hz)
  rw [e] at k
  rw [k, List.map_map]
  have : (strV ∘ fun x : Str => x.cps.toList) = id := by
    funext z
    cases z; simp [strV]
  rw [this, List.map_id]
/-- a method's argument list of one text -/
def gSplit (u : U) (us : List U) (h : Hv) : R U := match u, us with
  | .str x, [.str [c]] => if x.length ≤ 1000000 then newL ((splitL c x).map U.str) h else .bad
  | _, _ => .bad
theorem RelL_strs {m : Mp} {H : Hp} : ∀ xs : List (List Nat), RelL T m H (xs.map U.str) ((xs.map strV).map V.str)
  | [] => rfl
  | x :: xs => ⟨.str (strV x), _, rfl, rfl, RelL_strs xs⟩
theorem m_split : MtS T X "str" "str.split" gSplit := by
  intro m h H u v us vs E Q hS r rs o
  cases u <;> try exact o.elim
  rename_i x
  match us, o with
  | [.str [c]], o =>
    obtain ⟨y, ey, ry⟩ := rl1 rs
    have o : Out T m H E (RV T) (if x.length ≤ 1000000 then newL ((splitL c x).map U.str) h else .bad) Q := o
    by_cases hz : x.length ≤ 1000000
    · rw [if_pos hz] at o
      have ry : _ = _ := ry
      subst ry
      refine ⟨_, mt_split, strV x, ⟨#[c]⟩, r, ey, rfl, by rw [strV_len, sizeLine_eq]; omega, ?_⟩
      rw [split_eq]
      exact (out_lst hS (RelL_strs _) o).2
    · rw [if_neg hz] at o; exact o.elim
  | [.str []], o => exact o.elim
  | [.str (_ :: _ :: _)], o => exact o.elim
  | [.non], o => exact o.elim
  | [.bl _], o => exact o.elim
  | [.int _], o => exact o.elim
  | [.tup _], o => exact o.elim
  | [.ref _], o => exact o.elim
  | [.g _], o => exact o.elim
  | [], o => exact o.elim
  | u0 :: _ :: _, o => cases u0 <;> first | exact o.elim | (rename_i z; cases z <;> first | exact o.elim | (rename_i z; cases z <;> exact o.elim))
def gStrip (u : U) (us : List U) (h : Hv) : R U := match u, us with
  | .str x, [.str y] => if x.length ≤ many then .ok (.str (Txt.stripChars (strV x) (strV y)).cps.toList) h else .bad
  | _, _ => .bad
theorem strV_of (x : Str) : strV x.cps.toList = x := by cases x; simp [strV]
theorem m_strip : MtS T X "str" "str.strip" gStrip := by
  intro m h H u v us vs E Q hS r rs o
  cases u <;> try exact o.elim
  rename_i x
  match us, o with
  | [.str z], o =>
    obtain ⟨y, ey, ry⟩ := rl1 rs
    have o : Out T m H E (RV T) (if x.length ≤ many then .ok (.str (Txt.stripChars (strV x) (strV z)).cps.toList) h else .bad) Q := o
    by_cases hz : x.length ≤ many
    · rw [if_pos hz] at o
      have ry : _ = _ := ry
      subst ry
      refine ⟨_, mt_stripChars, strV x, strV z, r, ey, by rw [strV_len, ← many_eq]; exact hz, o m H _ (Grow.refl _ _) hS ?_⟩
      show V.str _ = V.str (strV _)
      rw [strV_of]
    · rw [if_neg hz] at o; exact o.elim
  | [.non], o => exact o.elim
  | [.bl _], o => exact o.elim
  | [.int _], o => exact o.elim
  | [.tup _], o => exact o.elim
  | [.ref _], o => exact o.elim
  | [.g _], o => exact o.elim
  | [], o => exact o.elim
  | u0 :: _ :: _, o => cases u0 <;> exact o.elim
end
end VI

/-! VI, part K: isinstance; the program's own defs, methods, classes. -/
namespace VI
open PySem L2
section
variable {T : Tb} {X : Cx} {W : WX'} {e a b c o : Expr} {es : List Expr} {pos p p2 apos cpos : Pos}
/-! isinstance -/
inductive TyU where
  | non | bl | int | str | tup | lst | dic | own (c : Nat)
def tyU (u : U) (h : Hv) : Option TyU := match u with
  | .non => some .non
  | .bl _ => some .bl
  | .int _ => some .int
  | .str _ => some .str
  | .tup _ => some .tup
  | .ref p => match h.get p with
    | some (.lst _) => some .lst
    | some (.ins c _) => some (.own c)
    | some (.dct _ _) => some .dic
    | none => none
  | .g _ => none
/-- what an own class must be, for isinstance of its instances -/
structure InsTy (K : PySem.W.Frag) (C : Addr) : Prop where
  cl : Cls K C
  ha : PySem.W.findIn K (.ref C) "__class__" = some (some (.builtin "object.__class__"))
  hn : PySem.W.specialIn K (.builtin "object.__class__") "__get__" = some (some (.builtin "getset_descriptor.__get__"))
  htk : PySem.W.takesIn K (.builtin "object.__class__") = some true
  hm : PySem.W.mroIn K C (.type "object") = some true
def tyN : TyU → Option String
  | .non => some "NoneType"
  | .bl => some "bool"
  | .int => some "int"
  | .str => some "str"
  | .tup => some "tuple"
  | .lst => some "list"
  | .dic => some "dict"
  | .own _ => none
def TyVal (T : Tb) (K : PySem.W.Frag) (t : TyU) (w : Value) : Prop := match t with
  | .own c => ∃ C, T.gt c = .ref C ∧ InsTy K C ∧ w = .ref C
  | t => ∃ n, tyN t = some n ∧ w = .type n
/-- the type of a value: also of a dict by its very object -/
inductive TyE (K : PySem.W.Frag) (H : Hp) : V → Value → Prop where
  | base {x : V} {t : Value} (h : TyX K H x t) : TyE K H x t
  | dct {a : Addr} {o : Obj} {lk : Bool} (e : H a = some (lkO lk a o)) (c : o.cls = .type "dict") : TyE K H (.ref a) (.type "dict")
theorem lkO_at {P : Program} {w : World} {H : Hp} {hp : Heap} {lk : Bool} {a : Addr} {o : Obj} (ok : HOk P w H hp) (e : H a = some (lkO lk a o)) : hp.get? a = some o := by
  have k := ok a _ e
  cases lk with
  | true => exact k.1
  | false => exact k.1
theorem kit_ofE {pins : List (Addr × Obj)} {σ : St} {H : Hp} {s : Shared} {x : V} {u t : Value} (I : Inv X pins σ H s) (rx : RelV x u) (ty : TyE X.K H x t) : ∃ G : Heap → Prop, PySem.W.KitX X.K u t G ∧ G s.heap ∧ u ≠ .builtin "__main__.__loader__#opaque" := by
  cases ty with
  | base b => exact kit_of I rx b
  | @dct a o lk e c =>
    cases (show u = Value.ref a from rx)
    exact ⟨_, PySem.W.kitx_dict, ⟨o, lkO_at I.hok e, c⟩, fun z => nomatch z⟩
def rIsE (K : PySem.W.Frag) : List V → Hp → VK → Prop := fun xs H Q => ∃ (x c : V) (t u : Value) (b : Bool), xs = [x, c] ∧ ClsV c u ∧ TyE K H x t ∧ PySem.W.kitOne K t u = some b ∧ Q (.bl b) H
def rIsTE (K : PySem.W.Frag) : List V → Hp → VK → Prop := fun xs H Q => ∃ (x : V) (tp : Addr) (cs : List V) (t : Value) (us : List Value) (b : Bool), xs = [x, .ref tp] ∧ H tp = some (.tup cs) ∧ Paired ClsV cs us ∧ TyE K H x t ∧ PySem.W.kitAny K t us = some b ∧ Q (.bl b) H
theorem ca_isE : CallR X (.builtin "isinstance") (rIsE X.K) := by
  intro pins s σ H xs us Q I r ⟨x, c, t, u, b, ex, k, ty, e, q⟩
  subst ex
  obtain ⟨u1, u2, eu, r1, r2⟩ := vals2 r
  subst eu
  have e2 := k.eq r2
  subst e2
  obtain ⟨G, Z, p, hx⟩ := kit_ofE I r1 ty
  exact PySem.W.kia_one Z I.kIn p e hx fun tk => ⟨.bl b, H, I.tok tk, rfl, q⟩
theorem ca_isTE : CallR X (.builtin "isinstance") (rIsTE X.K) := by
  intro pins s σ H xs us Q I r ⟨x, tp, cs, t, ws, b, ex, hT, k, ty, e, q⟩
  subst ex
  obtain ⟨u1, u2, eu, r1, r2⟩ := vals2 r
  subst eu
  cases (show u2 = Value.ref tp from r2)
  obtain ⟨G, Z, p, hx⟩ := kit_ofE I r1 ty
  obtain ⟨_, its, rv, ob, q1, q2, n, q3⟩ := (show ObjOk X.prog X.w H s.heap tp (.tup cs) from I.hok tp _ hT)
  have e3 := ClsV.all k rv
  subst e3
  obtain ⟨oc, od, dt, sl⟩ := ob
  simp only at q2 q3
  subst q2 q3
  exact PySem.W.kia_tup Z I.kIn p q1 e hx fun tk => ⟨.bl b, H, I.tok tk, rfl, q⟩
theorem sqT_ty {K : PySem.W.Frag} {H : Hp} {a : Addr} {xs : List V} (q : SqT K H a xs) : TyX K H (.ref a) (.type "tuple") := by
  rcases q with (q | ⟨f, q⟩) | ⟨ob, its, n, q, qc, _⟩
  · exact .base (.tup q)
  · exact .fTuple q
  · exact .kTuple q qc
theorem tyU_ok {m : Mp} {h : Hv} {H : Hp} {K : PySem.W.Frag} (hK : T.K = K) (hS : SimH T m h H) {u : U} {v : V} {t : TyU} {w : Value} (r : Rel T m H u v) (e : tyU u h = some t) (y : TyVal T K t w) : TyE K H v w := by
  cases u with
  | non => cases e; obtain ⟨n, e1, e2⟩ := y; cases e1; have r : _ = _ := r; subst r e2; exact .base (.base .non)
  | bl k => cases e; obtain ⟨n, e1, e2⟩ := y; cases e1; have r : _ = _ := r; subst r e2; exact .base (.base (.bl k))
  | int k => cases e; obtain ⟨n, e1, e2⟩ := y; cases e1; have r : _ = _ := r; subst r e2; exact .base (.base (.int k))
  | str k => cases e; obtain ⟨n, e1, e2⟩ := y; cases e1; have r : _ = _ := r; subst r e2; exact .base (.base (.str _))
  | tup us =>
    cases e; obtain ⟨n, e1, e2⟩ := y; cases e1
    obtain ⟨a, vs, ev, q, l⟩ := r
    rw [hK] at q
    subst ev e2
    exact .base (sqT_ty q)
  | ref p =>
    obtain ⟨a, e1, ev⟩ := r
    subst ev
    simp only [tyU] at e
    cases z : h.get p with
    | none => rw [z] at e; cases e
    | some ob =>
      rw [z] at e
      have k := hS.at e1 z
      cases ob with
      | lst us =>
        cases e; obtain ⟨n, y1, y2⟩ := y; cases y1; subst y2
        obtain ⟨vs, q, l⟩ := k
        exact .base (.base (.lst q))
      | ins c fs =>
        cases e
        obtain ⟨C, ec, I, ew⟩ := y
        obtain ⟨C', dx, vs, ec', q, l⟩ := k
        rw [ec] at ec'; cases ec'
        subst ew
        exact .base (.base (.ins q I.cl I.ha I.hn I.htk I.hm))
      | dct lk kvs =>
        cases e; obtain ⟨n, y1, y2⟩ := y; cases y1; subst y2
        obtain ⟨o, q, _, _, l⟩ := k
        rcases l with ⟨vs, ⟨es, ep, z1, _⟩, _⟩ | ⟨xs, z1, _⟩
        · exact .dct q z1.1
        · exact .dct q z1.1
  | g i => cases e
/-- the answers for one class, by the value's type -/
def TabOk (T : Tb) (K : PySem.W.Frag) (tab : TyU → Option Bool) (cu : Value) : Prop := ∀ t b, tab t = some b → ∃ w, TyVal T K t w ∧ PySem.W.kitOne K w cu = some b
def fIsi (tab : TyU → Option Bool) (fa : FE) : FE := fun env h => (fa env h).bind fun u h1 => match tyU u h1 with
  | some t => match tab t with
    | some k => .ok (.bl k) h1
    | none => .bad
  | none => .bad
theorem s_isi {cv : V} {cu : Value} {tab : TyU → Option Bool} {fa : FE} (hg : Gl X "isinstance") (hm : X.mg "isinstance" = none) (pc : PE X c (tC cv)) (cl : ClsV cv cu) (ht : TabOk T X.K tab cu) (ha : SE T X W a fa) (hv : bootBuiltins "isinstance" = some (.builtin "isinstance"))
    (h1 : starEach [a, c] X.env = (false, eval a X.env) :: starEach [c] X.env := by rfl) (h2 : starEach [c] X.env = (false, eval c X.env) :: starEach [] X.env := by rfl) (hpl : (backTo pos (starEach [c] X.env)).any (·.1) = false := by rfl) (hK : T.K = X.K := by rfl) :
    SE T X W (.Call (.Name "isinstance" p) [a, c] [] pos) (fIsi tab fa) := fun env h m σ H Q hE hS ho => by
  refine ⟨_, pe_callB ca_isE hg hm hv (pa_cons EX.pe (pa_cons pc pa_nil h2) h1) (by decide) (by decide) h1 hpl, ?_⟩
  refine ha env h m σ H _ hE hS (ho.bind fun u h1 m1 H1 v _ g1 s1 r1 o1 => ?_)
  cases z : tyU u h1 with
  | none => rw [z] at o1; exact o1.elim
  | some t =>
    rw [z] at o1
    simp only at o1
    cases y : tab t with
    | none => rw [y] at o1; exact o1.elim
    | some k =>
      rw [y] at o1
      obtain ⟨w, tv, kt⟩ := ht t k y
      exact ⟨v, cv, w, cu, k, rfl, cl, tyU_ok hK s1 r1 z tv, kt, o1 m1 H1 _ (Grow.refl _ _) s1 rfl⟩
/-- two classes in a written tuple -/
def fIsi2 (t1 t2 : TyU → Option Bool) (fa : FE) : FE := fun env h => (fa env h).bind fun u h1 => match tyU u h1 with
  | some t => match t1 t, t2 t with
    | some k, some k' => .ok (.bl (k || k')) h1
    | _, _ => .bad
  | none => .bad
theorem TyVal.uni {K : PySem.W.Frag} {t : TyU} {w w' : Value} (a : TyVal T K t w) (b : TyVal T K t w') : w = w' := by
  cases t <;> first
    | (obtain ⟨n, e1, e2⟩ := a; obtain ⟨n', e1', e2'⟩ := b; cases e1; cases e1'; rw [e2, e2'])
    | (obtain ⟨C, e1, _, e2⟩ := a; obtain ⟨C', e1', _, e2'⟩ := b; rw [e1] at e1'; cases e1'; rw [e2, e2'])
theorem s_isi2 {c1 c2 : Expr} {k0 : Nat} {tpos : Pos} {cv1 cv2 : V} {cu1 cu2 : Value} {t1 t2 : TyU → Option Bool} {fa : FE} (hg : Gl X "isinstance") (hm : X.mg "isinstance" = none) (p1 : PE X c1 (tC cv1)) (p2 : PE X c2 (tC cv2)) (l1 : ClsV cv1 cu1) (l2 : ClsV cv2 cu2)
    (ht1 : TabOk T X.K t1 cu1) (ht2 : TabOk T X.K t2 cu2) (ha : SE T X W a fa) (hv : bootBuiltins "isinstance" = some (.builtin "isinstance"))
    (h1 : starEach [a, .Tuple [c1, c2] k0 tpos] X.env = (false, eval a X.env) :: starEach [.Tuple [c1, c2] k0 tpos] X.env := by rfl) (h2 : starEach [.Tuple [c1, c2] k0 tpos] X.env = (false, eval (.Tuple [c1, c2] k0 tpos) X.env) :: starEach [] X.env := by rfl)
    (h3 : starEach [c1, c2] X.env = (false, eval c1 X.env) :: starEach [c2] X.env := by rfl) (h4 : starEach [c2] X.env = (false, eval c2 X.env) :: starEach [] X.env := by rfl)
    (hpl : (backTo pos (starEach [.Tuple [c1, c2] k0 tpos] X.env)).any (·.1) = false := by rfl) (hK : T.K = X.K := by rfl) :
    SE T X W (.Call (.Name "isinstance" p) [a, .Tuple [c1, c2] k0 tpos] [] pos) (fIsi2 t1 t2 fa) := fun env h m σ H Q hE hS ho => by
  refine ⟨_, pe_callB ca_isTE hg hm hv (pa_cons EX.pe (pa_cons (pe_tup (pa_cons p1 (pa_cons p2 pa_nil h4) h3)) pa_nil h2) h1) (by decide) (by decide) h1 hpl, ?_⟩
  refine ha env h m σ H _ hE hS (ho.bind fun u h1 m1 H1 v _ g1 s1 r1 o1 => ?_)
  refine ⟨by show 2 ≤ sizeLine; decide, fun tp htp => ?_⟩
  cases z : tyU u h1 with
  | none => rw [z] at o1; exact o1.elim
  | some t =>
    rw [z] at o1
    simp only at o1
    cases y1 : t1 t with
    | none => rw [y1] at o1; exact o1.elim
    | some k =>
      cases y2 : t2 t with
      | none => rw [y1, y2] at o1; exact o1.elim
      | some k' =>
        rw [y1, y2] at o1
        obtain ⟨w, tv, kt⟩ := ht1 t k y1
        obtain ⟨w', tv', kt'⟩ := ht2 t k' y2
        have ew := TyVal.uni tv tv'
        subst ew
        have g := Grow.beside (m := m1) (o := .tup [cv1, cv2]) htp
        refine ⟨v, tp, [cv1, cv2], w, [cu1, cu2], k || k', rfl, upd_same, .cons l1 (.cons l2 .nil), tyU_ok hK (s1.beside htp) (r1.up g) z tv, ?_, o1 m1 _ _ g (s1.beside htp) rfl⟩
        refine kitAny_cons kt (fun ek => ?_) fun ek => ?_
        · refine kitAny_cons kt' (fun ek' => ?_) fun ek' => ?_
          · rw [ek, ek']; exact kitAny_nil
          · rw [ek, ek']; rfl
        · rw [ek]; rfl
/-- tables for the built-in classes -/
def tabB (n : Nat) : TyU → Option Bool
  | .non => some false
  | .bl => some (Nat.beq n 0 || Nat.beq n 1)
  | .int => some (Nat.beq n 1)
  | .str => some (Nat.beq n 2)
  | .tup => some (Nat.beq n 3)
  | .lst => some (Nat.beq n 4)
  | .dic => some (Nat.beq n 5)
  | .own _ => none
def tabN : Nat → String
  | 0 => "bool"
  | 1 => "int"
  | 2 => "str"
  | 3 => "tuple"
  | 4 => "list"
  | _ => "dict"
theorem kits : ∀ n : Fin 6, kitB "NoneType" (tabN n.val) = tabB n.val .non ∧ kitB "bool" (tabN n.val) = tabB n.val .bl ∧ kitB "int" (tabN n.val) = tabB n.val .int ∧ kitB "str" (tabN n.val) = tabB n.val .str ∧
    kitB "tuple" (tabN n.val) = tabB n.val .tup ∧ kitB "list" (tabN n.val) = tabB n.val .lst ∧ kitB "dict" (tabN n.val) = tabB n.val .dic := by decide +kernel
theorem tabB_ok {K : PySem.W.Frag} (n : Fin 6) : TabOk T K (tabB n.val) (.type (tabN n.val)) := by
  have k : ∀ t s b, tyN t = some s → tabB n.val t = some b → kitB s (tabN n.val) = some b := by
    intro t s b e1 e2
    obtain ⟨k1, k2, k3, k4, k5, k6, k7⟩ := kits n
    cases t <;> cases e1 <;> first | exact k1.trans e2 | exact k2.trans e2 | exact k3.trans e2 | exact k4.trans e2 | exact k5.trans e2 | exact k6.trans e2 | exact k7.trans e2
  intro t b e
  cases t with
  | own c => cases e
  | _ => exact ⟨_, ⟨_, rfl, rfl⟩, kit_ty (k _ _ _ rfl e)⟩
end
end VI

/-! VI, part L: the program's own defs, methods, classes. -/
namespace VI
open PySem L2
section
variable {T : Tb} {X : Cx} {W : WX'} {E : XK} {e a b c o : Expr} {es : List Expr} {pos p p2 apos cpos : Pos}
/-- a def as a function of its arguments and the own heap -/
abbrev FM := List U → Hv → R U
def spV (T : Tb) (n : Nat) (mf : FM) : Sp := fun vs H Q E => vs.length = n ∧ ∃ m h us, SimH T m h H ∧ RelL T m H us vs ∧ Out T m H E (RV T) (mf us h) Q
abbrev FnV (P : Program) (w : World) (K : PySem.W.Frag) (mg : Str → Option Value) (base : Heap) (T : Tb) (k : Nat) (f : Addr) (fd : FuncData) (ps : List Str) (mf : FM) : Prop :=
  FnOk P w K mg base (L2.CX P w) k f fd ps (spV T ps.length mf)
def wc (E : XK) : WX' := fun c d _ H => E c d H
def nArgs (n : Nat) (mf : FM) : FM := fun us h => match Nat.beq us.length n with
  | true => mf us h
  | false => .bad
theorem nArgs_ok {n : Nat} {mf : FM} {m : Mp} {h : Hv} {H : Hp} {us : List U} {vs : List V} {Q : VK} {E : XK} (hS : SimH T m h H) (r : RelL T m H us vs) (o : Out T m H E (RV T) (nArgs n mf us h) Q) : spV T n mf vs H Q E := by
  unfold nArgs at o
  cases z : Nat.beq us.length n with
  | false => rw [z] at o; exact o.elim
  | true =>
    rw [z] at o
    exact ⟨by rw [← r.len]; exact Nat.eq_of_beq_eq_true z, m, h, us, hS, r, o⟩
theorem RelL.cons {m : Mp} {H : Hp} {u : U} {v : V} {us : List U} {vs : List V} (r : Rel T m H u v) (l : RelL T m H us vs) : RelL T m H (u :: us) (v :: vs) := ⟨v, vs, rfl, r, l⟩
theorem s_call {x : Str} {k : Nat} {f : Addr} {fd : FuncData} {ps : List Str} {mf : FM} {fa : FL} (F : FnV X.prog X.w X.K X.mg X.base T k f fd ps mf) (hr : Room k X.A) (hg : Gl X x) (hm : X.mg x = some (.ref f)) (hk : PySem.W.keepIn X.K (.ref f) = true)
    (hb : Binds X.K fd ps []) (tk : Takes X W) (ha : SL T X W (e :: es) fa) (hdb : (x == ("__debug__" : Str)) = false := by decide) (he : starEach (e :: es) X.env = (false, eval e X.env) :: starEach es X.env := by rfl) (hpl : (backTo pos (starEach es X.env)).any (·.1) = false := by rfl) :
    SE T X W (.Call (.Name x p) (e :: es) [] pos) (fCa (nArgs ps.length mf) fa) := fun env h m σ H Q hE hS ho => by
  refine ⟨_, pe_callS F hr hg hm hk hb (passAt tk) AX.pa hdb he hpl, ?_⟩
  exact ha env h m σ H _ hE hS (ho.bind fun us h1 m1 H1 vs _ g1 s1 r1 o1 => nArgs_ok s1 r1 o1)
/-! methods -/
theorem RelF.noLook {m : Mp} {H : Hp} {f : List Nat} : ∀ {fs : List (List Nat × U)} {vs : List (Str × V)}, RelF T m H fs vs → lkN f fs = none → vs.lookup (strV f) = none
  | [], _, r, _ => by have r : _ = _ := r; subst r; rfl
  | (k, u) :: r, _, ⟨v, vs, ev, q, l⟩, e => by
    subst ev
    simp only [lkN] at e
    rw [List.lookup_cons]
    have z : (strV f == strV k) = eqN k f := by
      rw [str_beq]
      cases y : eqN k f with
      | true => rw [eqN_iff.mp y]; exact eqN_iff.mpr rfl
      | false =>
        cases x : eqN f k with
        | false => rfl
        | true => rw [eqN_iff.mp x, eqN_iff.mpr rfl] at y; cases y
    rw [z]
    cases y : eqN k f with
    | true => rw [y] at e; cases e
    | false => rw [y] at e; exact RelF.noLook l e
/-- an instance of the class c without an attribute of the method's name -/
def isIns (c : Nat) (mt : List Nat) (u : U) (h : Hv) : Bool := match u with
  | .ref p => match h.get p with
    | some (.ins c' fs) => Nat.beq c' c && (lkN mt fs).isNone
    | _ => false
  | _ => false
theorem isIns_ok {c : Nat} {C : Addr} {mt : List Nat} {u : U} {h : Hv} {m : Mp} {H : Hp} {v : V} (hS : SimH T m h H) (r : Rel T m H u v) (gc : T.gt c = .ref C) (e : isIns c mt u h = true) : ∃ a dx fs, v = .ref a ∧ H a = some (.ins C dx fs) ∧ fs.lookup (strV mt) = none := by
  cases u with
  | ref q =>
    obtain ⟨a, e1, ev⟩ := r
    simp only [isIns] at e
    cases z : h.get q with
    | none => rw [z] at e; cases e
    | some ob =>
      rw [z] at e
      cases ob with
      | ins c' fs =>
        simp only [Bool.and_eq_true] at e
        obtain ⟨C', dx, vs, ec, q, l⟩ := hS.at e1 z
        rw [Nat.eq_of_beq_eq_true e.1, gc] at ec
        cases ec
        exact ⟨a, dx, vs, ev, q, l.noLook (by simpa using e.2)⟩
      | _ => cases e
  | _ => cases e
def fMeth (c : Nat) (mt : List Nat) (n : Nat) (mf : FM) (fo : FE) (fa : FL) : FE := fun env h => (fo env h).bind fun u h1 => match isIns c mt u h1 with
  | true => (fa env h1).bind fun us h2 => nArgs n mf (u :: us) h2
  | false => .bad
theorem s_meth {c k : Nat} {C f : Addr} {fd : FuncData} {ps : List Str} {mf : FM} {mt : List Nat} {M : Str} {fo : FE} {fa : FL} {pl : Sem Bool} (gc : T.gt c = .ref C) (cl : Cls X.K C) (hm : Meth X.K C M f) (F : FnV X.prog X.w X.K X.mg X.base T k f fd ps mf) (hr : Room k X.A)
    (hb : Binds X.K fd ps []) (tk : Takes X (wc E)) (ho : SE T X (wc E) o fo) (ha : SL T X (wc E) (e :: es) fa) (eM : M = strV mt := by rfl) (hst : starEach (e :: es) X.env = (false, eval e X.env) :: starEach es X.env := by rfl) (hpl : (backTo pos (starEach es X.env)).any (·.1) = false := by rfl)
    (ht : eval (.Call (.Attribute o M apos) (e :: es) [] pos) X.env = (do
      let ov ← eval o X.env
      standAt apos.atName
      let (f, first) ← holding [ov] (getMethod ov M pl)
      callWith pos f first (backTo pos (starEach (e :: es) X.env)) (backToKw pos (keywordEach [] X.env))) := by rfl) :
    SE T X (wc E) (.Call (.Attribute o M apos) (e :: es) [] pos) (fMeth c mt ps.length mf fo fa) := fun env h m σ H Q hE hS hO => by
  subst eM
  refine ⟨_, pe_meth (E := E) (dvs := []) (ds := []) EX.pe cl hm F hr hb .nil (passes_call tk fun _ _ _ _ z => z) AX.pa hst hpl ht, ?_⟩
  refine ho env h m σ H _ hE hS (hO.bind fun u h1 m1 H1 v _ g1 s1 r1 o1 => ?_)
  cases z : isIns c mt u h1 with
  | false => rw [z] at o1; exact o1.elim
  | true =>
    rw [z] at o1
    obtain ⟨a, dx, fs, ev, ha', hl⟩ := isIns_ok s1 r1 gc z
    refine ⟨a, dx, fs, ev, ha', hl, ?_⟩
    refine ha env h1 m1 σ H1 _ (hE.up g1) s1 (o1.bind fun us h2 m2 H2 vs _ g2 s2 r2 o2 => ?_)
    rw [List.append_nil]
    exact nArgs_ok s2 (RelL.cons (r1.up g2) r2) o2
theorem s_meth0 {c k : Nat} {C f : Addr} {fd : FuncData} {ps : List Str} {mf : FM} {mt : List Nat} {M : Str} {fo : FE} {pl : Sem Bool} (gc : T.gt c = .ref C) (cl : Cls X.K C) (hm : Meth X.K C M f) (F : FnV X.prog X.w X.K X.mg X.base T k f fd ps mf) (hr : Room k X.A)
    (hb : Binds X.K fd ps []) (tk : Takes X (wc E)) (ho : SE T X (wc E) o fo) (eM : M = strV mt := by rfl)
    (ht : eval (.Call (.Attribute o M apos) [] [] pos) X.env = (do
      let ov ← eval o X.env
      standAt apos.atName
      let (f, first) ← holding [ov] (getMethod ov M pl)
      callWith pos f first (backTo pos (starEach [] X.env)) (backToKw pos (keywordEach [] X.env))) := by rfl) :
    SE T X (wc E) (.Call (.Attribute o M apos) [] [] pos) (fMeth c mt ps.length mf fo fNilA) := fun env h m σ H Q hE hS hO => by
  subst eM
  refine ⟨_, pe_meth0 (E := E) (dvs := []) (ds := []) EX.pe cl hm F hr hb .nil (passes_call tk fun _ _ _ _ z => z) ht, ?_⟩
  refine ho env h m σ H _ hE hS (hO.bind fun u h1 m1 H1 v _ g1 s1 r1 o1 => ?_)
  cases z : isIns c mt u h1 with
  | false => rw [z] at o1; exact o1.elim
  | true =>
    rw [z] at o1
    obtain ⟨a, dx, fs, ev, ha', hl⟩ := isIns_ok s1 r1 gc z
    exact ⟨a, dx, fs, ev, ha', hl, nArgs_ok s1 (RelL.cons r1 (us := []) (vs := []) rfl) o1⟩
/-! new instances -/
def mkI (c n : Nat) (mf : FM) : FM := fun us h => (nArgs n mf (.ref h.nx :: us) (h.new (.ins c []))).bind fun u h2 => match u with
  | .non => .ok (.ref h.nx) h2
  | _ => .bad
theorem mkI_ok {c n : Nat} {C : Addr} {mf : FM} {m : Mp} {h : Hv} {H : Hp} {us : List U} {vs : List V} {Q : VK} {E : XK} (gc : T.gt c = .ref C) (hS : SimH T m h H) (r : RelL T m H us vs) (o : Out T m H E (RV T) (mkI c n mf us h) Q) :
    ∀ x dx, H x = none → H dx = none → dx ≠ x → spV T n mf (.ref x :: (vs ++ [])) (upd (upd H dx (.own x)) x (.ins C dx [])) (fun v H2 => v = .non ∧ Q (.ref x) H2) E := fun x dx hx hd ne => by
  rw [List.append_nil]
  have hx' : (upd H dx (.own x)) x = none := by rw [upd_ne ne.symm]; exact hx
  have g1 := Grow.beside (m := m) (o := .own x) hd
  have s1 := hS.beside (o := .own x) hd
  have g2 := Grow.new (o := .ins C dx []) s1 hx'
  have s2 := s1.new (o := .ins C dx []) (u := .ins c []) hx' ⟨C, dx, [], gc, upd_same, rfl⟩
  have g := g1.trans g2
  have rx : Rel T (m.add h.nx x) (upd (upd H dx (.own x)) x (.ins C dx [])) (.ref h.nx) (.ref x) := ⟨x, by unfold Mp.add; rw [if_pos rfl], rfl⟩
  refine nArgs_ok (us := .ref h.nx :: us) s2 (RelL.cons rx (r.up g)) ?_
  refine (o.up g).bind fun u h3 m3 H3 v _ g3 s3 r3 o3 => ?_
  cases u with
  | non => exact ⟨r3, o3 m3 H3 _ (Grow.refl _ _) s3 (rx.up g3)⟩
  | _ => exact o3.elim
theorem s_make {x : Str} {c k : Nat} {C f : Addr} {fd : FuncData} {ps : List Str} {mf : FM} {fa : FL} (gc : T.gt c = .ref C) (M : Mk X.K C f) (F : FnV X.prog X.w X.K X.mg X.base T k f fd ps mf) (hr : Room (k + 1) X.A) (hg : Gl X x) (hm : X.mg x = some (.ref C))
    (hb : Binds X.K fd ps []) (tk : Takes X (wc E)) (ha : SL T X (wc E) (e :: es) fa) (hdb : (x == ("__debug__" : Str)) = false := by decide) (he : starEach (e :: es) X.env = (false, eval e X.env) :: starEach es X.env := by rfl) (hpl : (backTo pos (starEach es X.env)).any (·.1) = false := by rfl) :
    SE T X (wc E) (.Call (.Name x p) (e :: es) [] pos) (fCa (mkI c ps.length mf) fa) := fun env h m σ H Q hE hS ho => by
  refine ⟨_, pe_make (E := E) (dvs := []) (ds := []) M F hr hg hm hb .nil (passes_call tk fun _ _ _ _ z => z) AX.pa hdb he hpl, ?_⟩
  exact ha env h m σ H _ hE hS (ho.bind fun us h1 m1 H1 vs _ g1 s1 r1 o1 => mkI_ok gc s1 r1 o1)
/-! a def's body -/
def startU (n : Nat) (us : List U) : Ev := us.map some ++ List.replicate (n - us.length) none
theorem EnvR.nones {m : Mp} {H : Hp} : ∀ n : Nat, EnvR T m H (List.replicate n none) (List.replicate n none)
  | 0 => rfl
  | n + 1 => ⟨none, _, rfl, (fun u z => nomatch z), EnvR.nones n⟩
theorem EnvR.app {m : Mp} {H : Hp} {es : Ev} {σ : St} (r : EnvR T m H es σ) : ∀ {us : List U} {vs : List V}, RelL T m H us vs → EnvR T m H (us.map some ++ es) (vs.map some ++ σ)
  | [], _, l => by have l : _ = _ := l; subst l; exact r
  | u :: us, _, ⟨v, w, e, q, l⟩ => by
    subst e
    exact ⟨some v, _, rfl, fun z ez => by cases ez; exact ⟨v, rfl, q⟩, EnvR.app r l⟩
theorem EnvR.start {m : Mp} {H : Hp} {us : List U} {vs : List V} (r : RelL T m H us vs) (N : List Str) : EnvR T m H (startU N.length us) (L2.start N vs) := by
  unfold startU L2.start
  rw [← r.len]
  exact EnvR.app (EnvR.nones _) r
def endF (r : RS) : R U := match r with
  | .nx _ h => .ok .non h
  | .rt u h => .ok u h
  | .ex c fs _ h => .ex c fs h
  | _ => .bad
theorem endF_ok {m : Mp} {H : Hp} {E : XK} {Q : VK} {r : RS} (o : Out T m H E (RV T) (endF r) Q) : OutS T m H (wc E) { nx := fun _ H' => Q .non H', rt := Q } r := by
  cases r with
  | nx env h => exact fun m' H' σ g s x => o m' H' .non g s rfl
  | rt u h => exact fun m' H' v g s x => o m' H' v g s x
  | ex c fs env h => exact fun m' H' σ cls d g s x y => o m' H' cls d g s y
  | bk env h => exact o.elim
  | ct env h => exact o.elim
  | bad => exact o.elim
def mfOf (n : Nat) (fb : FS) : FM := fun us h => endF (fb (startU n us) h)
theorem fnV {P : Program} {w : World} {K : PySem.W.Frag} {mg : Str → Option Value} {base : Heap} {T : Tb} {x qual : Str} {st : Stmt} {f : Addr} {fd : FuncData} {N ps : List Str} {k : Nat} {fb : FS} (F : Fun K x qual st f fd) (S : FnScope N ps (defScope st))
    (body : ∀ (cdv : Value) (A : Around) (outer : List Env) (s : Shared) (H : Hp) (E : XK), Room k (A.deeper (PyProof.Rows.envOfC qual (defScope st) s.heap.objs.size f cdv)) →
      SSs T (cxOf (L2.CX P w) P w K mg base N qual (defScope st) f cdv A outer s H E) (wc E) (defBody st) fb) : FnV P w K mg base T (k + 1) f fd ps (mfOf N.length fb) := by
  refine F.okX S (fun vs H Q E h => h.1) (fun cdv A outer s H vs Q E hr h => ?_)
  obtain ⟨hl, m, hv, us, s0, r, o⟩ := h
  exact ⟨_, SsX.pss, body cdv A outer s H E hr _ hv m _ H _ (EnvR.start r N) s0 (endF_ok o)⟩
theorem tkOf {P : Program} {w : World} {K : PySem.W.Frag} {mg : Str → Option Value} {base : Heap} {N : List Str} {qual : Str} {sc : Scope} {f : Addr} {cdv : Value} {A : Around} {outer : List Env} {s : Shared} {H : Hp} {E : XK} :
    Takes (cxOf (L2.CX P w) P w K mg base N qual sc f cdv A outer s H E) (wc E) := takes_of rfl rfl rfl rfl
theorem psOf {P : Program} {w : World} {K : PySem.W.Frag} {mg : Str → Option Value} {base : Heap} {N : List Str} {qual : Str} {sc : Scope} {f : Addr} {cdv : Value} {A : Around} {outer : List Env} {s : Shared} {H : Hp} {E : XK} :
    PassesOwn (model P w) (cxOf (L2.CX P w) P w K mg base N qual sc f cdv A outer s H E).A (cxOf (L2.CX P w) P w K mg base N qual sc f cdv A outer s H E).env (cxOf (L2.CX P w) P w K mg base N qual sc f cdv A outer s H E).xe := passes_of (X := cxOf (L2.CX P w) P w K mg base N qual sc f cdv A outer s H E) rfl
end
end VI

/-! VI, part M: exceptions of the program's own. -/
namespace VI
open PySem L2
section
variable {T : Tb} {X : Cx} {W : WX'} {E : XK} {e o : Expr} {es : List Expr} {x : Str} {ta : TA} {p p1 q1 pos pos' : Pos}
/-- Base.__init__(self, ..) of a class between ValueError and the exception's own -/
theorem pe_binit {C : Addr} {mc : Value} {pl : Sem Bool} (hg : Gl X x) (hm : X.mg x = some (.ref C)) (r : ClX.CRead X.K C mc) (at_ : PySem.W.findCls X.K (.ref C) mc "__init__" = some (.val (.builtin "ValueError.__init__"))) (ha : PA X (e :: es) ta)
    (hdb : (x == ("__debug__" : Str)) = false := by decide)
    (hc : eval (.Call (.Attribute (.Name x p1) "__init__" q1) (e :: es) [] pos) X.env = (do
      let v ← eval (.Name x p1) X.env
      standAt q1.atName
      let (g, front) ← holding [v] (getMethod v "__init__" pl)
      callWith pos g front (backTo pos (starEach (e :: es) X.env)) (backToKw pos (keywordEach [] X.env))) := by rfl)
    (he : starEach (e :: es) X.env = (false, eval e X.env) :: starEach es X.env := by rfl) (hpl : (backTo pos (starEach es X.env)).any (·.1) = false := by rfl) :
    PE X (.Call (.Attribute (.Name x p1) "__init__" q1) (e :: es) [] pos) (tVeI X.K ta) := by
  constructor
  intro ps st sg Hp0 Q0 Iv rd
  apply PySem.W.methodCall_KW (ld_glob Iv hg hm _ hdb) hc
  apply PySem.W.method_cls Iv.kIn r.ga
  apply PySem.W.cls_value Iv.kIn r.rd at_ (by decide +kernel)
  refine PyProof.Rows.callWith_method1 (thn (ha.run pos ps _ sg Hp0 _ (Iv.tok _) rd) ?_) he hpl
  intro us s1 hx
  obtain ⟨vs, H1, J, rv, a, Cx', ws, ev, hl, TT, ea, q⟩ := hx
  subst ev
  cases rv with
  | @cons _ w0 _ wr ra rr =>
    have z : w0 = Value.ref a := ra
    subst z
    refine oinit_ok TT J ea ?_ fun s2 J2 => ⟨.non, H1, J2, rfl, q⟩
    rw [← Paired.length rr, sizeLine_eq]
    exact Nat.le_trans hl (by decide)
/-- what __init__ with two attributes promises, its text by fm -/
def spX2 (T : Tb) (K : PySem.W.Frag) (C : Addr) (f1 f2 : Str) (fm : FE) : Sp := fun vs H Q _ => ∃ a v w m h u1 u2 t h2, vs = [.ref a, v, w] ∧ ∃ H0 : Hp, H0 a = none ∧ H = upd H0 a (exo a C none) ∧ SimH T m h H0 ∧ Rel T m H0 u1 v ∧ Rel T m H0 u2 w ∧ fm [none, some u1, some u2] h = .ok t h2 ∧
  ∀ m' H' d, Grow m H0 m' H' → SimH T m' h2 H' → H' a = some (exo a C (some d)) → H' d = some (exd d [(f2, w), (f1, v)]) → H0 d = none → (∀ p, m' p ≠ some a) → (∀ p, m' p ≠ some d) → Q .non H'
/-- behind the making the exception is let go: its own heap -/
theorem gone_go {m1 m' : Mp} {H1 H2 : Hp} {h h2 : Hv} {a C d : Addr} {fs vs : List (Str × V)} (s1 : SimH T m1 h H1) (ha : H1 a = none) (hd : H1 d = none) (g : Grow m1 H1 m' H2) (s2 : SimH T m' h2 H2)
    (ea : H2 a = some (exo a C (some d))) (ed : H2 d = some (exd d fs)) (na : ∀ p, m' p ≠ some a) (nd : ∀ p, m' p ≠ some d) : Grow m1 H1 m' (upd (del H2 a) d (.xd vs)) ∧ SimH T m' h2 (upd (del H2 a) d (.xd vs)) ∧ Le m' H2 m' (upd (del H2 a) d (.xd vs)) := by
  have look : ∀ b, b ≠ a → b ≠ d → (upd (del H2 a) d (.xd vs)) b = H2 b := fun b z1 z2 => by rw [upd_ne z2, del_ne z1]
  have le : Le m' H2 m' (upd (del H2 a) d (.xd vs)) := ⟨fun _ _ z => z, fun b xs r => by
    have k : ∀ u, H2 b = some u → (∀ φ : Heap → Prop, u ≠ HO.ext φ) → (upd (del H2 a) d (.xd vs)) b = H2 b := fun u q n => look b (fun y => by subst y; rw [ea] at q; cases q; exact n _ rfl) (fun y => by subst y; rw [ed] at q; cases q; exact n _ rfl)
    rcases r with r | ⟨f, r⟩
    · exact .inl ((k _ r fun φ y => by cases y).trans r)
    · exact .inr ⟨f, (k _ r fun φ y => by cases y).trans r⟩⟩
  have old : ∀ b u, H1 b = some u → b ≠ a ∧ b ≠ d := fun b u q => ⟨ne_of_none q ha, ne_of_none q hd⟩
  have g0 := g
  refine ⟨⟨fun b f u q => ?_, g0.sub, fun b xs r => le.tup b xs (g0.tup b xs r), fun b u q n => ?_, fun b u q => ?_, g0.old⟩, ⟨s2.fresh, fun p b q => ?_, s2.cod, s2.inj⟩, le⟩
  · rw [look b (old b _ q).1 (old b _ q).2]; exact g0.frz b f u q
  · rw [look b (old b u q).1 (old b u q).2]; exact g0.out b u q n
  · obtain ⟨u', q'⟩ := g0.kept b u q
    exact ⟨u', by rw [look b (old b u q).1 (old b u q).2]; exact q'⟩
  · obtain ⟨o, q', r⟩ := s2.dom p b q
    exact ⟨o, q', r.le le (look b (fun y => by subst y; exact na p q) fun y => by subst y; exact nd p q)⟩
def fRaise2 (c : Nat) (f1 f2 : List Nat) (fm : FE) (fa : FL) : FS := fun env h => RS.of (fa env h) env fun us h1 => match us with
  | [u, w] => match fm [none, some u, some w] h1 with
    | .ok _ h2 => .ex c (some [(f2, w), (f1, u)]) env h2
    | _ => .bad
  | _ => .bad
theorem st_raise2 {c k : Nat} {C fI : Addr} {fd : FuncData} {ps : List Str} {f1 f2 : List Nat} {fm : FE} {fa : FL} (gc : T.gt c = .ref C) (TC : OexC X.K C) (iC : PySem.W.findIn X.K (.ref C) "__init__" = some (some (.ref fI))) (tI : PySem.W.typeIn X.K (.ref fI) = some (.type "function"))
    (F1 : FnOk X.prog X.w X.K X.mg X.base (L2.CX X.prog X.w) k fI fd ps (spX2 T X.K C (strV f1) (strV f2) fm)) (hr : Room (k + 1) X.A) (hb : Binds X.K fd ps []) (hg : Gl X x) (hm : X.mg x = some (.ref C)) (hc : X.calm = true) (tk : Takes X W) (ha : SL T X W (e :: es) fa)
    (hdb : (x == ("__debug__" : Str)) = false := by decide) (he : starEach (e :: es) X.env = (false, eval e X.env) :: starEach es X.env := by rfl) (hpl : (backTo pos (starEach es X.env)).any (·.1) = false := by rfl) :
    SSt T X W (.Raise (some (.Call (.Name x p) (e :: es) [] pos)) none pos') (fRaise2 c f1 f2 fm fa) := fun env h m σ H D hE hS ho => by
  refine ⟨_, ps_raise hc tk (pmk_oex (dvs := []) (ds := []) TC iC tI F1 hr hb .nil passL hg hm AX.pa hdb he hpl), ?_⟩
  refine ha env h m σ H _ hE hS (OutS.of hE ho fun us h1 m1 H1 vs _ g1 s1 r1 E1 o1 => ?_)
  match us, o1 with
  | [u, w], o1 =>
    obtain ⟨v1, v2, ev, q1, q2⟩ := rl2 r1
    subst ev
    simp only at o1
    cases z : fm [none, some u, some w] h1 with
    | ok t h2 =>
      rw [z] at o1
      refine ⟨by show 2 ≤ 1000; decide, fun a hn => ?_⟩
      refine ⟨a, v1, v2, m1, h1, u, w, t, h2, rfl, H1, hn, rfl, s1, q1, q2, z, fun m' H' d g' s' ea ed hd1 na nd => ?_⟩
      obtain ⟨k1, k2, k3⟩ := gone_go (vs := [(strV f2, v2), (strV f1, v1)]) s1 hn hd1 g' s' ea ed na nd
      refine ⟨rfl, d, _, ea, ed, hd1, ?_⟩
      exact o1 m' _ σ _ _ k1 k2 (E1.up k1) ⟨⟨C, gc, rfl⟩, d, _, rfl, upd_same, ⟨v2, _, rfl, q2.up k1, v1, [], rfl, q1.up k1, rfl⟩⟩
    | ex c' fs' hh => rw [z] at o1; exact o1.elim
    | bad => rw [z] at o1; exact o1.elim
  | [], o1 => exact o1.elim
  | [_], o1 => exact o1.elim
  | _ :: _ :: _ :: _, o1 => exact o1.elim
/-- the exception with its dict, behind the stores -/
theorem made_go {m m1 : Mp} {H0 H1 : Hp} {h1 : Hv} {a C d : Addr} {fs gs : List (Str × V)} (g : Grow m H0 m1 H1) (s1 : SimH T m1 h1 H1) (ha : H0 a = none) (ea : H1 a = some (exo a C none)) (hd : H1 d = none) (na : ∀ p, m1 p ≠ some a) (nd : ∀ p, m1 p ≠ some d) :
    Grow m H0 m1 (upd (upd (upd H1 d (exd d fs)) a (exo a C (some d))) d (exd d gs)) ∧ SimH T m1 h1 (upd (upd (upd H1 d (exd d fs)) a (exo a C (some d))) d (exd d gs)) ∧ Grow m H0 m1 (upd (upd H1 d (exd d fs)) a (exo a C (some d))) ∧ SimH T m1 h1 (upd (upd H1 d (exd d fs)) a (exo a C (some d))) := by
  have go : ∀ H2 : Hp, (∀ b, b ≠ a → b ≠ d → H2 b = H1 b) → (∃ o, H2 a = some o) → (∃ o, H2 d = some o) → Grow m H0 m1 H2 ∧ SimH T m1 h1 H2 := fun H2 look la ld => by
    have le : Le m1 H1 m1 H2 := ⟨fun _ _ z => z, fun b xs r => by
      have k : ∀ u, H1 b = some u → (∀ φ : Heap → Prop, u ≠ HO.ext φ) → H2 b = H1 b := fun u q n => look b (fun y => by subst y; rw [ea] at q; cases q; exact n _ rfl) (fun y => by subst y; rw [hd] at q; cases q)
      rcases r with r | ⟨f, r⟩
      · exact .inl ((k _ r fun φ y => by cases y).trans r)
      · exact .inr ⟨f, (k _ r fun φ y => by cases y).trans r⟩⟩
    have ne : ∀ b u, H0 b = some u → b ≠ a ∧ b ≠ d := fun b u q => ⟨ne_of_none q ha, fun y => by
      subst y
      obtain ⟨u', q'⟩ := g.kept _ u q
      rw [hd] at q'; cases q'⟩
    refine ⟨⟨fun b f u q => ?_, g.sub, fun b xs r => le.tup b xs (g.tup b xs r), fun b u q n => ?_, fun b u q => ?_, g.old⟩, ⟨s1.fresh, fun p b q => ?_, s1.cod, s1.inj⟩⟩
    · rw [look b (ne b _ q).1 (ne b _ q).2]; exact g.frz b f u q
    · rw [look b (ne b u q).1 (ne b u q).2]; exact g.out b u q n
    · obtain ⟨u', q'⟩ := g.kept b u q
      exact ⟨u', by rw [look b (ne b u q).1 (ne b u q).2]; exact q'⟩
    · obtain ⟨o, q', r⟩ := s1.dom p b q
      exact ⟨o, q', r.le le (look b (fun y => by subst y; exact na p q) fun y => by subst y; exact nd p q)⟩
  have nad : d ≠ a := fun y => by subst y; rw [ea] at hd; cases hd
  obtain ⟨g1, s1'⟩ := go (upd (upd (upd H1 d (exd d fs)) a (exo a C (some d))) d (exd d gs)) (fun b z1 z2 => by rw [upd_ne z2, upd_ne z1, upd_ne z2]) ⟨_, by rw [upd_ne nad.symm, upd_same]⟩ ⟨_, upd_same⟩
  obtain ⟨g2, s2'⟩ := go (upd (upd H1 d (exd d fs)) a (exo a C (some d))) (fun b z1 z2 => by rw [upd_ne z1, upd_ne z2]) ⟨_, upd_same⟩ ⟨_, by rw [upd_ne nad, upd_same]⟩
  exact ⟨g1, s1', g2, s2'⟩
abbrev tMsg (X : Cx) (msg : Expr) : TS := tDrop (tVeI X.K (tCons (tVar 0) (tCons (EX X msg) tNil)))
theorem ok_x2 {P : Program} {w : World} {K : PySem.W.Frag} {mg : Str → Option Value} {base : Heap} {qual : Str} {st : Stmt} {f C : Addr} {fd : FuncData} {s0 a1 a2 F1 F2 : Str} {msg : Expr} {fm : FE} (F : Fun K "__init__" qual st f fd) (S : FnScope [s0, a1, a2] [s0, a1, a2] (defScope st))
    (TC : OexC K C) (n1 : PySem.W.findIn K (.ref C) F1 = some none) (n2 : PySem.W.findIn K (.ref C) F2 = some none) (hK : T.K = K)
    (der : ∀ (cdv : Value) (A : Around) (outer : List Env) (s : Shared) (H : Hp) (E : XK), Room 0 (A.deeper (PyProof.Rows.envOfC qual (defScope st) s.heap.objs.size f cdv)) →
      PSs (cxOf (L2.CX P w) P w K mg base [s0, a1, a2] qual (defScope st) f cdv A outer s H E) (defBody st) (tSeq (tMsg (cxOf (L2.CX P w) P w K mg base [s0, a1, a2] qual (defScope st) f cdv A outer s H E) msg) (tSeq (tOst K F1 (tVar 0) (tVar 1)) (tOst K F2 (tVar 0) (tVar 2)))) ∧
      SE T (cxOf (L2.CX P w) P w K mg base [s0, a1, a2] qual (defScope st) f cdv A outer s H E) (wc E) msg fm) :
    FnOk P w K mg base (L2.CX P w) 1 f fd [s0, a1, a2] (spX2 T K C F1 F2 fm) := by
  refine F.okX S (fun vs H Q E h => ?_) (fun cdv A outer s H vs Q E hr h => ?_)
  · obtain ⟨a, v, w', m, h', u1, u2, t, h2, ev, _⟩ := h
    subst ev; rfl
  · obtain ⟨a, v, w', m, h', u1, u2, t, h2, ev, H0, ha, eH, s0', q1, q2, hf, k⟩ := h
    subst ev eH
    obtain ⟨d1, d2⟩ := der cdv A outer s (upd H0 a (exo a C none)) E hr
    refine ⟨_, d1, ?_⟩
    have gb := Grow.beside (m := m) (o := exo a C none) ha
    refine ⟨.ref a, rfl, ?_⟩
    refine d2 [none, some u1, some u2] h' m _ _ _ ⟨some (.ref a), [some v, some w'], rfl, (fun _ z => nomatch z), some v, [some w'], rfl, (fun u z => by cases z; exact ⟨v, rfl, q1.up gb⟩), some w', [], rfl, (fun u z => by cases z; exact ⟨w', rfl, q2.up gb⟩), rfl⟩ (s0'.beside ha) ?_
    rw [hf]
    intro m1 H1 b g1 s1 r1
    have ea : H1 a = some (exo a C none) := g1.out a _ upd_same fun p z => by
      obtain ⟨o, _, r⟩ := s0'.dom p a z
      obtain ⟨u, hu, _⟩ := r.some
      rw [ha] at hu; cases hu
    refine ⟨a, C, [b], rfl, by show 1 ≤ 1000; decide, TC, ea, v, rfl, .ref a, rfl, a, C, rfl, TC, n1, .inl ⟨ea, fun d hd ne => ?_⟩⟩
    have nad : d ≠ a := ne
    have na : ∀ p, m1 p ≠ some a := fun p z => by
      rcases g1.old p a z with y | y
      · obtain ⟨o, _, r⟩ := s0'.dom p a y
        obtain ⟨u, hu, _⟩ := r.some
        rw [ha] at hu; cases hu
      · rw [upd_same] at y; cases y
    have nd : ∀ p, m1 p ≠ some d := fun p z => by
      obtain ⟨o, _, r⟩ := s1.dom p d z
      obtain ⟨u, hu, _⟩ := r.some
      rw [hd] at hu; cases hu
    obtain ⟨k1, k2, _, _⟩ := made_go (fs := [(F1, v)]) (gs := [(F2, w'), (F1, v)]) (gb.trans g1) s1 ha ea hd na nd
    refine ⟨w', rfl, .ref a, rfl, a, C, rfl, TC, n2, .inr ⟨d, [(F1, v)], upd_same, by rw [upd_ne nad, upd_same], by show 1 ≤ 900; decide, ?_⟩⟩
    refine k m1 _ d k1 k2 (by rw [upd_ne nad.symm, upd_same]) upd_same ?_ na nd
    cases z : H0 d with
    | none => rfl
    | some o =>
      obtain ⟨o', q'⟩ := (gb.trans g1).kept d o z
      rw [hd] at q'; cases q'
end
end VI

/-! VI, part N: try .. except X as n .. else. -/
namespace VI
open PySem L2 PyProof.Rows
section
variable {X : Cx} {x n : Str} {c : Value} {i : Nat} {body suite orelse : List Stmt} {b0 : Stmt} {np pos pos' : Pos} {tb : WX → TS} {ts : Addr → Value → Option Addr → TS} {Wo : WX} {u : TS}
/-- an exception of the body meets the one clause «except x as n» -/
theorem meets_as {pins : List (Addr × Obj)} {D : Ends} {ex : Value} {s1 : Shared} (ok : X.Ok) (hs : X.stack = X.env :: X.outer) (hf : X.env.frame = some X.env.locals) (hN : X.N.Nodup) (hi : X.N[i]? = some n) (hln : X.env.kindOf n = some .local) (hc : Names X x c) (tk : Takes X Wo)
    (hsu : ∀ (a : Addr) (oe : Obj) (cls : Value) (d : Option Addr) (pn : List (Addr × Obj)), Zc cls d oe → (∃ vs, oe.data = .fields vs) → PSs (X.suite a ((a, oe) :: pn)) (b0 :: suite) (ts a cls d))
    (hx : ∀ {xe : Value → Shared → Prop}, XE (X.tr (X.pn ++ pins) xe) (wAs X.K c i ts Wo D) ex s1) :
    wpAny (model X.prog X.w) X.A (noteFrame ex X.env) (fun _ s2 => wpAny (model X.prog X.w) X.A (setFlight ex none) (fun _ s3 =>
      wpAny (model X.prog X.w) X.A (handleBy ex X.env [.ExceptHandler (some (.Name x np)) (some n) (b0 :: suite) pos']) (SP X pins D) X.xe s3) X.xe s2) X.xe s1 := by
  have frames : X.A.frames = some (X.env :: X.outer) := ok.frames.trans (by rw [hs])
  obtain ⟨a, B, sI, pinsI, sg, Hx, cls, d, e1, inv0, keep, ups, sky, hna, hos, hag, k, hk, yes, no⟩ := hx (xe := X.xe)
  subst e1
  have inv : L2.Inv X pins sg Hx sI := Inv.ofTry inv0 ok
  refine Sky.land Zc.steady frames hf (by rw [← hs]; exact sky) fun hA flA upA => ?_
  have invA : L2.Inv X pins sg Hx { s1 with heap := hA } := inv.landed keep flA.1 (ups.trans upA) hos hag
  obtain ⟨ob, fields, obAt, obZ, obD⟩ := flA.there
  have apart : a ∉ frs (X.env :: X.outer) := fun hm => by
    obtain ⟨_, o2, at2, nf⟩ := flA.2.2.1.mem hm
    rw [obAt] at at2
    cases at2
    exact nf _ obD
  have neL : a ≠ X.env.locals := fun z => by
    apply apart
    refine List.mem_filterMap.mpr ⟨X.env, List.mem_cons_self, ?_⟩
    rw [hf, z]
  have neF : a ∉ X.fs := fun hm => by
    obtain ⟨en, hen, q⟩ := List.mem_filterMap.mp hm
    exact apart (List.mem_filterMap.mpr ⟨en, List.mem_cons_of_mem _ hen, q⟩)
  have invS := Inv.suite invA obAt obD hna neL neF
  apply wpAny_handleBy_cons (codeAny_handlers_test _) (by intro z; cases z)
  have typ : PySem.W.Looks (model X.prog X.w) hA (typeOf (.ref a)) cls := by
    intro A1 Q1 E1 st1 kk qq
    exact wpAny_typeOf_ref (kk _ _ obAt) (by rw [obZ.1]; exact qq)
  have asked := PySem.W.exm_one (M := model X.prog X.w) invA.kIn typ hk
  have name : ∀ {Q1 : Value → Shared → Prop} {E1 : Value → Shared → Prop}, Q1 c { s1 with heap := hA } → wpAny (model X.prog X.w) (X.A.mark (some (.ref a))) (eval (.Name x np) X.env) Q1 E1 { s1 with heap := hA } := by
    intro Q1 E1 qq
    obtain ⟨glob, nodbg, way⟩ := hc
    rcases way with way | ⟨way, boot, nn⟩
    · exact ld_glob (X := X.suite a ((a, ob) :: (X.pn ++ pins))) invS glob way qq nodbg
    · exact ld_blt (X := X.suite a ((a, ob) :: (X.pn ++ pins))) invS glob way boot qq nn nodbg
  refine name (asked.here ?_)
  cases k with
  | false =>
    show wpAny _ X.A (handleBy (.ref a) X.env []) _ _ _
    apply wpAny_handleBy_nil
    obtain ⟨j1, j2, j3, ob', vs', tr, otr, rest', at', hz', hd', h1', hr'⟩ := id flA
    unfold PySem.passOn
    apply wpAny_bind
    apply wpAny_field at' hd' h1'
    have nz : ¬ ((Value.ref tr == Value.none) = true) := by simp
    rw [if_neg nz]
    have out : wpAny (model X.prog X.w) X.A (setFlight (.ref a) X.env.frame) (fun _ s4 => wpAny (model X.prog X.w) X.A (throw (.ref a) : Sem Flow) (SP X pins D) X.xe s4) X.xe { s1 with heap := hA } := by
      rw [hf]
      apply HandSPX.setFlight_upZ flA
      intro hB held upB
      refine wpAny_throw (tk _ _ ⟨a, B, sI, pins, sg, Hx, cls, d, rfl, inv, keep, (ups.trans upA).trans upB, ?_, hna, hos, hag, no rfl⟩)
      rw [hs]
      exact .inr (.inr held)
    first
      | exact wpAny_bind out
      | exact wpAny_bind (wpAny_pure (wpAny_bind out))
  | true =>
    apply codeAny_handlers_suite_as
    apply HandSPX.lands_againZ flA
    intro hB flB upB
    have invB : L2.Inv X pins sg Hx { s1 with heap := hB } := inv.landed keep flB.1 ((ups.trans upA).trans upB) hos hag
    obtain ⟨ob', fields', at', z', d'⟩ := flB.there
    have invT := Inv.suite invB at' d' hna neL neF
    refine store_ok (X := X.suite a ((a, ob') :: (X.pn ++ pins))) (v := .ref a) invT hN hi (.inl hln) rfl (fun s5 inv5 => ?_) (.inr hln)
    have ran := (hsu a ob' cls d (X.pn ++ pins) z' ⟨_, d'⟩).run [] s5 _ Hx _ inv5 (yes rfl a hna)
    refine wpAny_mono ran (fun fl s6 hsp => ?_) (fun _ _ z => False.elim z)
    have last : ∀ {σ6 : L2.St} {H6 : Hp} {Q6 : Shared → Prop}, L2.Inv (X.suite a ((a, ob') :: (X.pn ++ pins))) [] σ6 H6 s6 → (∀ s7, L2.Inv X pins (σ6.set i none) H6 s7 → Q6 s7) →
        wpAny (model X.prog X.w) X.A (do bindName X.env n .none; unbindBehindTheSuite X.env n pos') (fun _ s7 => Q6 s7) X.xe s6 := by
      intro σ6 H6 Q6 inv6 hq
      exact gone_ok (Inv.unsuite inv6 ok) hN hi hln hq
    cases fl with
    | ret w =>
      obtain ⟨v6, σ6, H6, inv6, r6, q6⟩ := hsp
      exact last inv6 fun s7 inv7 => ⟨_, _, _, inv7, r6, q6⟩
    | next =>
      obtain ⟨σ6, H6, inv6, q6⟩ := hsp
      exact last inv6 fun s7 inv7 => ⟨_, _, inv7, q6⟩
    | brk =>
      obtain ⟨σ6, H6, inv6, q6⟩ := hsp
      exact last inv6 fun s7 inv7 => ⟨_, _, inv7, q6⟩
    | cont =>
      obtain ⟨σ6, H6, inv6, q6⟩ := hsp
      exact last inv6 fun s7 inv7 => ⟨_, _, inv7, q6⟩
/-- try: body / except x as n: suite / else: orelse -/
theorem ps_try_asE (ho : PSs X orelse u) (hs : X.stack = X.env :: X.outer) (hf : X.env.frame = some X.env.locals) (hN : X.N.Nodup) (hi : X.N[i]? = some n) (hln : X.env.kindOf n = some .local) (hc : Names X x c) (tk : Takes X Wo)
    (hb : ∀ (W : WX) (pn : List (Addr × Obj)) (xe : Value → Shared → Prop), Takes (X.tr pn xe) W → PassesOwn (model X.prog X.w) X.A X.env xe → PSs (X.tr pn xe) body (tb W))
    (hsu : ∀ (a : Addr) (oe : Obj) (cls : Value) (d : Option Addr) (pn : List (Addr × Obj)), Zc cls d oe → (∃ vs, oe.data = .fields vs) → PSs (X.suite a ((a, oe) :: pn)) (b0 :: suite) (ts a cls d)) :
    PS X (.Try body [.ExceptHandler (some (.Name x np)) (some n) (b0 :: suite) pos'] orelse [] pos) (fun D σ H => tb (wAs X.K c i ts Wo D) { D with nx := u D } σ H) := by
  constructor
  intro pins s σ H D inv rd
  have ok := inv.ok
  apply wpAny_Try_except
  let xe : Value → Shared → Prop := fun e s1 => wpAny (model X.prog X.w) X.A (noteFrame e X.env) (fun _ s2 => wpAny (model X.prog X.w) X.A (setFlight e none) (fun _ s3 =>
      wpAny (model X.prog X.w) X.A (handleBy e X.env [.ExceptHandler (some (.Name x np)) (some n) (b0 :: suite) pos']) (SP X pins D) X.xe s3) X.xe s2) X.xe s1
  have tk2 : Takes (X.tr (X.pn ++ pins) xe) (wAs X.K c i ts Wo D) := fun ev s1 hx => by
    refine meets_as ok hs hf hN hi hln hc tk hsu fun {xe'} => ?_
    obtain ⟨a, B, sI, pinsI, sg, Hx, cls, d, e1, inv0, rest⟩ := hx
    exact ⟨a, B, sI, pinsI, sg, Hx, cls, d, e1, ⟨Cx.Ok.toTry (Cx.Ok.ofTry inv0.ok) _ _, inv0.os, inv0.bare, inv0.base, inv0.loc, inv0.cell, inv0.free, inv0.freeC, inv0.pin, inv0.hok, inv0.len⟩, rest⟩
  refine wpAny_mono ((hb (wAs X.K c i ts Wo D) (X.pn ++ pins) xe tk2 PassesOwn.looking).run [] s σ H { D with nx := u D } (Inv.toTry inv _) rd) (fun fl s1 hsp => ?_) (fun ev s1 he => he)
  cases fl with
  | next =>
    obtain ⟨σ1, H1, inv1, q⟩ := hsp
    exact ho.run pins s1 σ1 H1 D (Inv.ofTry inv1 ok) q
  | ret w =>
    obtain ⟨v1, σ1, H1, inv1, r1, q⟩ := hsp
    exact ⟨v1, σ1, H1, Inv.ofTry inv1 ok, r1, q⟩
  | brk =>
    obtain ⟨σ1, H1, inv1, q⟩ := hsp
    exact ⟨σ1, H1, Inv.ofTry inv1 ok, q⟩
  | cont =>
    obtain ⟨σ1, H1, inv1, q⟩ := hsp
    exact ⟨σ1, H1, Inv.ofTry inv1 ok, q⟩
end
end VI
namespace VI
open PySem L2
section
variable {T : Tb} {X : Cx} {W : WX'} {E : XK} {x n : Str} {cv : Value} {i : Nat} {body suite orelse : List Stmt} {b0 : Stmt} {np pos pos' : Pos}
/-- a handler's suite: what it does with an exception of the class by number, with its attributes -/
abbrev FX := Nat → Option (List (List Nat × U)) → Ev → Hv → RS
/-- at a, of the class cls, its dict at d -/
def SuX (X : Cx) (sts : List Stmt) (a : Addr) (cls : Value) (d : Option Addr) : TS := fun D σ H => ∀ (oe : Obj) (pn : List (Addr × Obj)), Zc cls d oe → (∃ vs, oe.data = .fields vs) → SsX (X.suite a ((a, oe) :: pn)) sts D σ H
theorem SuX.pss {sts : List Stmt} (a : Addr) (oe : Obj) (cls : Value) (d : Option Addr) (pn : List (Addr × Obj)) (hz : Zc cls d oe) (hf : ∃ vs, oe.data = .fields vs) : PSs (X.suite a ((a, oe) :: pn)) sts (SuX X sts a cls d) :=
  ⟨fun ps s σ H D I h => SsX.pss.run ps s σ H D I (h oe pn hz hf)⟩
def SX' (T : Tb) (X : Cx) (W : WX') (i : Nat) (sts : List Stmt) (hd : FX) : Prop := ∀ env h m σ H D a cls d c fs, EnvR T m H env σ → SimH T m h H → RelX T m H c fs cls d → H a = none → OutS T m H W D (hd c fs env h) → i < σ.length →
  SuX X sts a cls d { nx := fun σ' H' => D.nx (σ'.set i none) H', rt := D.rt, bk := fun σ' H' => D.bk (σ'.set i none) H', ct := fun σ' H' => D.ct (σ'.set i none) H' } (σ.set i (some (.ref a))) H
/-- which classes the clause takes -/
abbrev Exm := Nat → Option Bool
def fTry (i : Nat) (tab : Exm) (fb : FS) (hd : FX) (fe : FS) : FS := fun env h => match fb env h with
  | .nx e1 h1 => fe e1 h1
  | .ex c fs e1 h1 => match tab c with
    | some true => match Nat.blt i e1.length with
      | true => hd c fs e1 h1
      | false => .bad
    | some false => .ex c fs e1 h1
    | none => .bad
  | r => r
def BodyX (X : Cx) (W : WX') (sts : List Stmt) : TS := fun D σ H => ∀ (pn : List (Addr × Obj)) (xe : Value → Shared → Prop), Takes (X.tr pn xe) W → PassesOwn (model X.prog X.w) X.A X.env xe → SsX (X.tr pn xe) sts D σ H
theorem st_tryE {tab : Exm} {fb fe : FS} {hd : FX} (hs : X.stack = X.env :: X.outer) (hf : X.env.frame = some X.env.locals) (hN : X.N.Nodup) (hi : X.N[i]? = some n) (hln : X.env.kindOf n = some .local) (hc : Names X x cv) (tk : Takes X W)
    (ht : ∀ c b, tab c = some b → ∀ C, T.gt c = .ref C → PySem.W.exmOne X.K (.ref C) cv = some b)
    (hb : ∀ (W' : WX') (pn : List (Addr × Obj)) (xe : Value → Shared → Prop), Takes (X.tr pn xe) W' → PassesOwn (model X.prog X.w) X.A X.env xe → SSs T (X.tr pn xe) W' body fb)
    (hh : SX' T X W i (b0 :: suite) hd) (ho : SSs T X W orelse fe) :
    SSt T X W (.Try body [.ExceptHandler (some (.Name x np)) (some n) (b0 :: suite) pos'] orelse [] pos) (fTry i tab fb hd fe) := fun env h m σ H D hE hS hO => by
  refine ⟨_, ps_try_asE (tb := fun W' => BodyX X W' body) (ts := SuX X (b0 :: suite)) SsX.pss hs hf hN hi hln hc tk (fun W' pn xe tk' po => ⟨fun ps s σ' H' D' I h' => SsX.pss.run ps s σ' H' D' I (h' pn xe tk' po)⟩) (fun a oe cls d pn hz hf' => SuX.pss a oe cls d pn hz hf'), ?_⟩
  intro pn xe tk' po
  refine hb _ pn xe tk' po env h m σ H _ hE hS ?_
  unfold fTry at hO
  cases z : fb env h with
  | nx e1 h1 =>
    rw [z] at hO
    intro m1 H1 σ1 g1 s1 E1
    exact ho e1 h1 m1 σ1 H1 D E1 s1 (OutS.up g1 hO)
  | rt u h1 => rw [z] at hO; exact hO
  | bk e1 h1 => rw [z] at hO; exact hO
  | ct e1 h1 => rw [z] at hO; exact hO
  | bad => rw [z] at hO; exact hO
  | ex c fs e1 h1 =>
    rw [z] at hO
    intro m1 H1 σ1 cls d g1 s1 E1 rx
    have hC : ∃ C, T.gt c = .ref C ∧ cls = .ref C := by
      cases fs with
      | none => exact rx.1
      | some fs => exact rx.1
    obtain ⟨C, gc, ec⟩ := hC
    simp only at hO
    cases y : tab c with
    | none => rw [y] at hO; exact hO.elim
    | some k =>
      rw [y] at hO
      refine ⟨k, by rw [ec]; exact ht c k y C gc, fun ek a ha => ?_, fun ek => ?_⟩
      · subst ek
        simp only at hO
        cases zl : Nat.blt i e1.length with
        | false => rw [zl] at hO; exact hO.elim
        | true =>
          rw [zl] at hO
          have hl : i < σ1.length := by rw [← EnvR.len E1]; exact Nat.le_of_ble_eq_true zl
          exact hh e1 h1 m1 σ1 H1 D a cls d c fs E1 s1 rx ha (OutS.up g1 hO) hl
      · subst ek
        exact hO m1 H1 σ1 cls d g1 s1 E1 rx
end
end VI

/-! VI, part O: handlers; further stores. -/
namespace VI
open PySem L2
section
variable {T : Tb} {X : Cx} {W : WX'} {E : XK} {x n : Str} {i : Nat} {pos p1 p2 p3 p4 pos' : Pos} {e o a b : Expr}
/-- return (n.f1, n.f2) of the caught one -/
def hRet2 (c0 : Nat) (f1 f2 : List Nat) : FX := fun c fs _ h => match Nat.beq c c0, fs with
  | true, some fs => match lkN f1 fs, lkN f2 fs with
    | some u, some w => .rt (.tup [u, w]) h
    | _, _ => .bad
  | _, _ => .bad
theorem h_ret2 {c0 C : Nat} {f1 f2 : List Nat} {F1 F2 : Str} {k0 : Nat} (gc : T.gt c0 = .ref C) (TX : XfC X.K C) (n1 : PySem.W.findIn X.K (.ref C) F1 = some none) (n2 : PySem.W.findIn X.K (.ref C) F2 = some none)
    (hN : X.N[i]? = some n) (hv : Vis X.env.scope n) (b1 : attributeBase (.Name n p1) F1 X.env (eval (.Name n p1) X.env) = eval (.Name n p1) X.env) (b2 : attributeBase (.Name n p3) F2 X.env (eval (.Name n p3) X.env) = eval (.Name n p3) X.env)
    (e1 : F1 = strV f1 := by rfl) (e2 : F2 = strV f2 := by rfl) (hd : (n == ("__debug__" : Str)) = false := by decide) (hcd : (n == ("__classdict__" : Str)) = false := by decide)
    (h1 : starEach [.Attribute (.Name n p1) F1 p2, .Attribute (.Name n p3) F2 p4] X.env = (false, eval (.Attribute (.Name n p1) F1 p2) X.env) :: starEach [.Attribute (.Name n p3) F2 p4] X.env := by rfl)
    (h2 : starEach [.Attribute (.Name n p3) F2 p4] X.env = (false, eval (.Attribute (.Name n p3) F2 p4) X.env) :: starEach [] X.env := by rfl) :
    SX' T X W i [.Return (some (.Tuple [.Attribute (.Name n p1) F1 p2, .Attribute (.Name n p3) F2 p4] k0 pos)) pos'] (hRet2 c0 f1 f2) := by
  subst e1 e2
  intro env h m σ H D a cls d c fs hE hS rx ha hO hl
  simp only [hRet2] at hO
  cases z : Nat.beq c c0 with
  | false => rw [z] at hO; exact hO.elim
  | true =>
    have ec := Nat.eq_of_beq_eq_true z
    subst ec
    rw [z] at hO
    cases fs with
    | none => exact hO.elim
    | some fs =>
      simp only at hO
      cases y1 : lkN f1 fs with
      | none => rw [y1] at hO; exact hO.elim
      | some u =>
        cases y2 : lkN f2 fs with
        | none => rw [y1, y2] at hO; exact hO.elim
        | some w =>
          rw [y1, y2] at hO
          obtain ⟨⟨C', gc', ecl⟩, dx, vs, ed, hx, rf⟩ := rx
          rw [gc] at gc'; cases gc'
          obtain ⟨v1, l1, r1⟩ := rf.look y1
          obtain ⟨v2, l2, r2⟩ := rf.look y2
          intro oe pn hz hf
          have at_ : (σ.set i (some (V.ref a)))[i]? = some (some (V.ref a)) := by rw [List.getElem?_set]; rw [if_pos rfl, if_pos hl]
          refine ⟨_, pss_one (ps_ret (pe_tup (pa_cons (pe_xf TX n1 hz hf (pe_var (X := X.suite a ((a, oe) :: pn)) hN hv hd hcd) b1) (pa_cons (pe_xf TX n2 hz hf (pe_var (X := X.suite a ((a, oe) :: pn)) hN hv hd hcd) b2) pa_nil h2) h1))), ?_⟩
          refine ⟨.ref a, at_, rfl, ecl, dx, vs, v1, ed, hx, l1, .ref a, at_, rfl, ecl, dx, vs, v2, ed, hx, l2, by show 2 ≤ sizeLine; decide, fun p hp => ?_⟩
          have g := Grow.beside (m := m) (o := .tup [v1, v2]) hp
          exact hO m _ (.ref p) g (hS.beside hp) ⟨p, _, rfl, SqT.of upd_same, v1, [v2], rfl, r1.up g, v2, [], rfl, r2.up g, rfl⟩
/-! xs[i] = e -/
def gStSub (fo fi : FE) : FG := fun u env h => match fo env h with
  | .ok (.ref p) h1 => match fi env h1 with
    | .ok (.int k) h2 => match h2.lst p with
      | some us => match ixN us.length k with
        | some j => .ok env (h2.put p (.lst (us.set j u)))
        | none => .bad
      | none => .bad
    | _ => .bad
  | _ => .bad
theorem sg_sub {fo fi : FE} (ho : SE T X W0 o fo) (hi : SE T X W0 e fi)
    (hs : ∀ v, assign (.Subscript o e pos) X.env v = (do
      let ov ← holding [v] (eval o X.env)
      let iv ← holding [v, ov] (eval e X.env)
      standAt pos
      holding [v, ov, iv] (setItem ov iv v)
      release [v, ov, iv] [])) : SG T X [] (.Subscript o e pos) (gStSub fo fi) := fun u v env h m σ H Q r hE hS hO => by
  refine ⟨_, pg_sub EX.pe EX.pe set_list hs, ?_⟩
  unfold gStSub at hO
  refine ho env h m σ H _ hE hS ?_
  cases z : fo env h with
  | bad => rw [z] at hO; exact hO.elim
  | ex c fs hh => rw [z] at hO; exact hO.elim
  | ok w h1 =>
    rw [z] at hO
    cases w <;> try exact hO.elim
    rename_i p
    intro m1 H1 ov g1 s1 ro
    refine hi env h1 m1 σ H1 _ (hE.up g1) s1 ?_
    simp only at hO
    cases y : fi env h1 with
    | bad => rw [y] at hO; exact hO.elim
    | ex c fs hh => rw [y] at hO; exact hO.elim
    | ok w h2 =>
      rw [y] at hO
      cases w <;> try exact hO.elim
      rename_i k
      intro m2 H2 iv g2 s2 ri
      simp only at hO
      cases q : h2.lst p with
      | none => rw [q] at hO; exact hO.elim
      | some us =>
        rw [q] at hO
        simp only at hO
        cases j : ixN us.length k with
        | none => rw [j] at hO; exact hO.elim
        | some jj =>
          rw [j] at hO
          obtain ⟨aa, ea, ev⟩ := ro
          have ea2 := g2.sub _ _ ea
          obtain ⟨xs, qx, l⟩ := s2.lst ea2 q
          have gg := g1.trans g2
          have nf : ∀ f u, H2 aa ≠ some (.frz f u) := fun _ _ z => by rw [qx] at z; cases z
          have g3 := Grow.put (o := .lst (xs.set jj v)) s2 ea2 nf
          refine ⟨aa, xs, k, jj, ev, ri, qx, by rw [← l.len]; exact j, ?_⟩
          exact hO m2 _ σ (gg.trans g3) (s2.put ea2 nf ⟨_, upd_same, (l.up g3).set ((r.up gg).up g3)⟩) ⟨(hE.up gg).up g3, Only.refl _ _⟩
/-! x += e, of lists and numbers and texts -/
def PiS (T : Tb) (X : Cx) (op : Operator) (g : U → U → Hv → R U) : Prop :=
  ∀ m h H u1 u2 v1 v2 E Q, SimH T m h H → Rel T m H u1 v1 → Rel T m H u2 v2 → Out T m H E (RV T) (g u1 u2 h) Q → ∃ t, PIp X op t ∧ t v1 v2 H Q
def pix (X : Cx) (op : Operator) : V → V → Hp → VK → Prop := fun x y H Q => ∃ t, PIp X op t ∧ t x y H Q
theorem pix_ok (op : Operator) : PIp X op (pix X op) := by
  intro pins s σ H x y v u Q I rx ry ⟨t, ht, q⟩
  exact ht pins s σ H x y v u Q I rx ry q
def fAug (i : Nat) (g : U → U → Hv → R U) (f : FE) : FS := fun env h => match env[i]? with
  | some (some u1) => RS.of (f env h) env fun u2 h1 => RS.of (g u1 u2 h1) env fun w h2 => .nx (env.set i (some w)) h2
  | _ => .bad
theorem st_aug {op : Operator} {g : U → U → Hv → R U} {f : FE} (hN : X.N.Nodup) (hi : X.N[i]? = some x) (hx : L2.Loc X.env.scope x) (hf : SE T X W e f) (hg : PiS T X op g)
    (hl : X.fn x = true ∨ X.env.scope.names.lookup x = some .local := by first | exact .inl rfl | exact .inr rfl | assumption) : SSt T X W (.AugAssign (.Name x pos') op e pos) (fAug i g f) := fun env h m σ H D hE hS hO => by
  refine ⟨_, ps_aug hN hi hx EX.pe (pix_ok op) hl, ?_⟩
  unfold fAug at hO
  cases z : env[i]? with
  | none => rw [z] at hO; exact hO.elim
  | some ou =>
    rw [z] at hO
    cases ou with
    | none => exact hO.elim
    | some u1 =>
      obtain ⟨v1, ev, r1⟩ := hE.get z
      refine ⟨v1, ev, ?_⟩
      refine hf env h m σ H _ hE hS (OutS.of hE hO fun u2 h1 m1 H1 v2 _ g1 s1 r2 E1 o1 => ?_)
      refine hg m1 h1 H1 u1 u2 v1 v2 _ _ s1 (r1.up g1) r2 (OutS.of E1 o1 fun w h2 m2 H2 v3 _ g2 s2 r3 E2 o2 => ?_)
      exact o2 m2 H2 _ (Grow.refl _ _) s2 (E2.set r3)
/-! o.f += e (numbers) -/
def fAgF' (cs : List Nat) (f : List Nat) (fo fv : FE) : FS := fun env h => RS.of (fo env h) env fun w h1 => match gFld cs f w h1 with
  | .ok x _ => RS.of (fv env h1) env fun y h2 => match x, y with
    | .int i, .int j => stF cs f (.int (i + j)) env w h2
    | _, _ => .bad
  | _ => .bad
theorem st_agF {c : Nat} {f : List Nat} {F : Str} {fo fv : FE} (hc : ∀ d ∈ [c], FldOk T X.K (strV f) d) (ho : SE T X W o fo) (hv : SE T X W e fv) (eF : F = strV f := by rfl) :
    SSt T X W (.AugAssign (.Attribute o F pos') .Add e pos) (fAgF' [c] f fo fv) := by
  subst eF
  intro env h m σ H D hE hS hO
  refine ⟨_, ps_fldaug EX.pe EX.pe in_add, ?_⟩
  refine ho env h m σ H _ hE hS (OutS.of hE hO fun w h1 m1 H1 z _ g1 s1 r1 E1 o1 => ?_)
  cases zz : gFld [c] f w h1 with
  | bad => rw [zz] at o1; exact o1.elim
  | ex c' fs' hh => rw [zz] at o1; exact o1.elim
  | ok x h1' =>
    rw [zz] at o1
    obtain ⟨a, C, dx, fs, y, ez, ea, k1, k2, k3, rx, eh, c1, m1', gc1⟩ := gFld_ok s1 hc r1 zz
    subst eh
    refine ⟨a, C, dx, fs, y, ez, ea, k1, k2, k3, ?_⟩
    refine hv env h1' m1 σ H1 _ E1 s1 (OutS.of E1 o1 fun y' h2 m2 H2 yv _ g2 s2 ry E2 o2 => ?_)
    cases x with
    | int i =>
      cases y' with
      | int j =>
        refine ⟨i, j, rx, ry, ?_⟩
        obtain ⟨a2, C2, dx2, fs2, e1, e2, e3, e4, e5, e6, c2, m2', gc2⟩ := stF_go (u := .int (i + j)) (v := .int (i + j)) hc s2 E2 rfl (r1.up g2) o2
        rw [ez] at e1; cases e1
        have z1 : c1 = c := by simpa using m1'
        have z2 : c2 = c := by simpa using m2'
        rw [z1] at gc1; rw [z2] at gc2
        rw [gc1] at gc2; cases gc2
        exact ⟨dx2, fs2, e2, e5, e6⟩
      | _ => exact o2.elim
    | _ => exact o2.elim
end
end VI

/-! VI, part P: enumerate over a text or a tuple. -/
namespace VI
open PySem L2
set_option maxHeartbeats 1000000 in
theorem enumNew {v : Value} {o : Obj} {G : Heap → Prop} (B : Begins v o G) :
    Meets (Builtin.«enumerate.__new__» ⟨[.type "enumerate", v], []⟩) (fun _ K s => G s.heap ∧
      K (.ok (.ret (.ref (s.heap.push o).objs.size))) { s with heap := (s.heap.push o).push { cls := .type "enumerate", data := .fields #[.none, .bool false, .ref s.heap.objs.size, rawInt 0, .none, .none] } }) :=
  .of_wp fun prog w A K s hyp => by
    obtain ⟨hp, gs, dr, tk, os⟩ := s
    obtain ⟨g1, rest⟩ := hyp
    have hsub := sub_enumerate
    have begin_ : ∀ {A1 : Around} {E1 : Value → Shared → Prop} {Q1 : Value → Shared → Prop}, Q1 (.ref hp.objs.size) ⟨hp.push o, gs, dr, tk, os⟩ → wpAny (model prog w) A1 (pyIter v) Q1 E1 ⟨hp, gs, dr, tk, os⟩ :=
      fun q => B.iter prog w _ _ ⟨hp, gs, dr, tk, os⟩ _ g1 q
    wp_walk using begin_
    refine wpAny_stack_any fun st => wpAny_pure ?_
    split
    · rename_i cc _ _ _ _ _
      cases (cc == Value.type "enumerate")
      · wp_walk using begin_
        exact ⟨_, rfl, rest⟩
      · wp_walk using begin_
        exact ⟨_, rfl, rest⟩
    · wp_walk using begin_
      exact ⟨_, rfl, rest⟩
section
variable {prog : Program} {w : World} {A : Around} {E : Value → Shared → Prop} {s : Shared}
/-- enumerate(v): two new objects -/
theorem enumCall {v : Value} {o : Obj} {G : Heap → Prop} {Q : Value → Shared → Prop} (B : Begins v o G) (g1 : G s.heap)
    (k : ∀ h', IsEnum h' (s.heap.objs.size + 1) s.heap.objs.size 0 .none → h'.get? s.heap.objs.size = some o → (∀ b ob, s.heap.get? b = some ob → h'.get? b = some ob) → Q (.ref (s.heap.objs.size + 1)) { s with heap := h' }) :
    wpAny (model prog w) A (call (.type "enumerate") [v]) Q E s := by
  apply callType_new F.called_enumerate (by decide) (F.typeCall_enumerate_1 _) (F.newCall_enumerate_1 _) (fun obj => F.args_object_init_2 obj _) F.entry_enumerate_new (enumNew B)
  have size1 : (s.heap.push o).objs.size = s.heap.objs.size + 1 := Heap.size_push ..
  refine ⟨g1, ?_⟩
  show _ ∧ _
  rw [size1]
  have at1 : IsEnum ((s.heap.push o).push { cls := .type "enumerate", data := .fields #[.none, .bool false, .ref s.heap.objs.size, rawInt 0, .none, .none] }) (s.heap.objs.size + 1) s.heap.objs.size 0 .none := by
    have q := Heap.get?_push_size (s.heap.push o) (o := { cls := .type "enumerate", data := .fields #[.none, .bool false, .ref s.heap.objs.size, rawInt 0, .none, .none] }) rfl
    rw [size1] at q
    exact q
  exact ⟨⟨_, at1, rfl⟩, k _ at1 (Heap.get?_push_of_some _ (Heap.get?_push_size _ B.free)) fun b ob z => Heap.get?_push_of_some _ (Heap.get?_push_of_some _ z)⟩
end
/-- what is enumerated, item by item, where G stands -/
def Itg (xs : Nat → Option V) (G : Hp → Prop) : It :=
  ⟨fun i H => G H ∧ ∃ x, xs i = some x, fun i H v H' => ∃ p x, v = .ref p ∧ H p = none ∧ H' = upd H p (.tup [.int (i : Nat), x]) ∧ xs i = some x, fun i H => G H ∧ xs i = none⟩
/-- how the source is drawn from, at a state -/
def Draw (X : Cx) (it : Addr) (xs : Nat → Option V) (tnI : Nat → Heap → Prop) (i : Nat) (h : Heap) : Prop :=
  ∃ (n : Nat) (P : Nat → Value → Prop) (S : Nat → Heap → Prop) (fp : List Addr), Draws X.prog X.w X.A.in1 it fp n P S ∧ S i h ∧ (∀ e old, IsEnum h e it i old → e ∉ fp) ∧ (∀ j h', j ≤ n → S j h' → tnI j h') ∧ ((∃ x, xs i = some x) → i < n) ∧ (xs i = none → i = n) ∧
    ∀ j u, P j u → ∃ x, RelV x u ∧ xs j = some x
theorem turn_enumG {P : Program} {w : World} {K : PySem.W.Frag} {elts : List Expr} {kk : Nat} {tpos : Pos} (e it : Addr) (xs : Nat → Option V) (G : Hp → Prop) (tnI : Nat → Heap → Prop)
    (objI : ∀ i h, tnI i h → ∃ o, h.get? it = some o ∧ ∀ v, o.data ≠ .cell v) (keepI : ∀ i h h', tnI i h → (∀ o, h.get? it = some o → h'.get? it = some o) → tnI i h')
    (dr : ∀ (X : Cx) (pins : List (Addr × Obj)) (s : Shared) (σ : L2.St) (H : Hp) (i : Nat), X.K = K → X.calm = true → L2.Inv X pins σ H s → G H → tnI i s.heap → Draw X it xs tnI i s.heap) :
    Turn P w K (.Tuple elts kk tpos) (Itg xs G) [e, it] e (fun i h => (∃ old, IsEnum h e it ((i : Nat) : Int) old) ∧ tnI i h ∧ e ≠ it) where
  mem := List.mem_cons_self
  obj := fun i h st b hb => by
    obtain ⟨⟨old, he⟩, hi, _⟩ := st
    rcases List.mem_cons.mp hb with z | hb
    · rw [z]; exact ⟨_, he, fun v q => nomatch q⟩
    · rw [List.mem_singleton.mp hb]; exact objI i h hi
  keep := fun i h h' st k => by
    obtain ⟨⟨old, he⟩, hi, hne⟩ := st
    exact ⟨⟨old, k e (by simp) _ he⟩, keepI i h h' hi fun o q => k it (by simp) o q, hne⟩
  item := fun X hP hw hK hc i pins s σ H E I hf st hg => by
    subst hP hw
    obtain ⟨⟨old, he⟩, hit, hne⟩ := st
    obtain ⟨n, P, S, fp, D, hS, hef, hdown, hlt, _, hrel⟩ := dr X pins s σ H i hK hc I hg.1 hit
    have le : e < s.heap.objs.size := Heap.lt_size he
    have li : it < s.heap.objs.size := by
      obtain ⟨o, q, _⟩ := objI i _ hit
      exact Heap.lt_size q
    refine wpAny_pyNext_enum_itemD D he hS (hlt hg.2) hne (hef e old he) fun u h' tk hPu ho hS' hT hsz hk => ?_
    obtain ⟨x, ru, ex⟩ := hrel i u hPu
    refine ⟨_, rfl, wpAny_letOwnedTupleGo_enum (s := { s with heap := h', toks := tk + 1 }) ho fun h2 he2 sb => ?_⟩
    have at2 : h2.get? s.heap.objs.size = some { cls := .type "tuple", data := .seq #[.int i tk, u] } := (sb.2 _ (Nat.ne_of_gt le)).trans hT
    have made : ObjOk X.prog X.w (upd H s.heap.objs.size (.tup [.int (i : Nat), x])) h2 s.heap.objs.size (.tup [.int (i : Nat), x]) :=
      ⟨by show 2 ≤ sizeLine; decide, [.int i tk, u], .cons ⟨_, rfl⟩ (.cons ru .nil), ⟨_, at2, rfl, _, rfl⟩⟩
    have I1 : L2.Inv X pins σ (upd H s.heap.objs.size (.tup [.int (i : Nat), x])) { s with heap := h2, toks := tk + 1 } :=
      Inv.turnedNew (ch := [e, it]) I (fun b ob hb q => (sb.2 b fun z => hb (by simp [z])).trans (hk b ob (fun z => hb (by simp [z])) (fun z => hb (by simp [z])) q)) hf (Nat.le_refl _) made
    refine ⟨.ref s.heap.objs.size, _, I1, rfl, ⟨_, x, rfl, I.hok.fresh (Nat.le_refl _), rfl, ex⟩, ⟨⟨u, ?_⟩, keepI (i + 1) h' h2 (hdown _ _ (hlt hg.2) hS') fun o q => (sb.2 it (Ne.symm hne)).trans q, hne⟩, fun b hb => ?_⟩
    · have z : ((i + 1 : Nat) : Int) = (i : Int) + 1 := by omega
      rw [z]; exact he2
    · have lb : b < s.heap.objs.size := by
        rcases List.mem_cons.mp hb with z | hb
        · rw [z]; exact le
        · rw [List.mem_singleton.mp hb]; exact li
      rw [upd_ne (Nat.ne_of_lt lb)]
      exact (hf b hb).1
  done := fun X hP hw hK hc i pins s σ H E I hf st hg => by
    subst hP hw
    obtain ⟨⟨old, he⟩, hit, hne⟩ := st
    obtain ⟨n, P, S, fp, D, hS, _, _, _, hn, _⟩ := dr X pins s σ H i hK hc I hg.1 hit
    have ei := hn hg.2
    subst ei
    obtain ⟨f0, f1, f2, f3, f4, f5⟩ := hf it (by simp)
    exact wpAny_pyNext_enum_endD D he hS fun h' eb => ⟨rfl, Inv.turned (t' := s.toks) I (fun b o hb q => eb b o hb q) f0 f1 f3 f4 f5⟩
  self := fun A i s Q E st k => by
    obtain ⟨⟨_, he⟩, _⟩ := st
    exact wpAny_pyIter_enum he k
section
variable {T : Tb} {X : Cx} {W : WX'} {e : Expr} {p pos tpos : Pos} {elts : List Expr} {kk : Nat}
theorem not_enum {h : Heap} {e it b : Addr} {i : Int} {old : Value} {o : Obj} (he : IsEnum h e it i old) (hb : h.get? b = some o) (hc : o.cls ≠ .type "enumerate") : e ≠ b := fun z => by
  subst z
  have he : h.get? e = some _ := he
  rw [hb] at he
  cases he
  exact hc rfl
theorem strIt_ne (z : Str) : (Value.type (strIterType z)) ≠ .type "enumerate" := fun q => by
  unfold strIterType at q
  split at q <;> (injection q with q; exact absurd q (by decide))
theorem enum_go {pins : List (Addr × Obj)} {s : Shared} {σ : L2.St} {H : Hp} {u : Value} {o : Obj} {G : Heap → Prop} {xs : Nat → Option V} {G2 : Hp → Prop} {tnI : Nat → Heap → Prop} {R' : It → Hp → Prop} (I : L2.Inv X pins σ H s) (B : Begins u o G) (g1 : G s.heap) (q : R' (Itg xs G2) H)
    (T : ∀ e it, e = s.heap.objs.size + 1 → it = s.heap.objs.size → Turn X.prog X.w X.K (.Tuple elts kk tpos) (Itg xs G2) [e, it] e (fun i h => (∃ old, IsEnum h e it ((i : Nat) : Int) old) ∧ tnI i h ∧ e ≠ it))
    (t0 : ∀ h' : Heap, h'.get? s.heap.objs.size = some o → tnI 0 h') :
    wpAny (model X.prog X.w) X.A (call (.type "enumerate") [u]) (fun z s1 => wpAny (model X.prog X.w) X.A (pyIter z) (PIE X pins σ (.Tuple elts kk tpos) R') X.xe s1) X.xe s := by
  refine enumCall B g1 fun h' he ho hk => wpAny_pyIter_enum he ?_
  refine ⟨s.heap.objs.size + 1, [s.heap.objs.size + 1, s.heap.objs.size], _, _, H, rfl, Inv.kept (t' := s.toks) I hk, T _ _ rfl rfl, ⟨⟨.none, he⟩, t0 h' ho, Nat.succ_ne_self _⟩, fun b hb => ?_, q⟩
  have lb : s.heap.objs.size ≤ b := by
    rcases List.mem_cons.mp hb with z | hb
    · rw [z]; exact Nat.le_succ _
    · rw [List.mem_singleton.mp hb]; exact Nat.le_refl _
  exact Inv.fpOk I lb (I.hok.fresh lb)
def strXs (z : Str) : Nat → Option V := fun i => z.cps[i]?.map fun c => V.str ⟨#[c]⟩
theorem turn_enumS {P : Program} {w : World} {K : PySem.W.Frag} (e it : Addr) (z : Str) (t : Tok) : Turn P w K (.Tuple elts kk tpos) (Itg (strXs z) fun _ => True) [e, it] e (fun i h => (∃ old, IsEnum h e it ((i : Nat) : Int) old) ∧ (h.IsStrIter it (strIterType z) z t i ∧ i ≤ z.cps.size) ∧ e ≠ it) :=
  turn_enumG e it _ _ (fun i h => h.IsStrIter it (strIterType z) z t i ∧ i ≤ z.cps.size) (fun i h st => by
    obtain ⟨⟨o, ho, hc, hd⟩, _⟩ := st
    exact ⟨o, ho, fun v q => by rw [hd] at q; cases q⟩) (fun i h h' st k => by
    obtain ⟨⟨o, ho, r⟩, l⟩ := st
    exact ⟨⟨o, k o ho, r⟩, l⟩) fun X pins s σ H i hK hc I _ ⟨st, le⟩ => by
    refine ⟨z.cps.size, _, _, [it], Draws.text (A := X.A.in1) (I.ok.hd hc) it z t, st, fun e old he hm => ?_, fun j h' lj q => ⟨q, lj⟩, fun ⟨x, q⟩ => ?_, fun q => ?_, fun j u q => ?_⟩
    · obtain ⟨o, ho, hcl, _⟩ := st
      exact not_enum he ho (by rw [hcl]; exact strIt_ne z) (List.mem_singleton.mp hm)
    · unfold strXs at q
      cases y : z.cps[i]? with
      | none => rw [y] at q; cases q
      | some c => exact (Array.getElem?_eq_some_iff.mp y).1
    · unfold strXs at q
      cases y : z.cps[i]? with
      | none => exact Nat.le_antisymm le (Array.getElem?_eq_none_iff.mp y)
      | some c => rw [y] at q; cases q
    · obtain ⟨c, t', ec, eu⟩ := q
      subst eu
      exact ⟨.str ⟨#[c]⟩, ⟨t', rfl⟩, by unfold strXs; rw [ec]; rfl⟩
theorem turn_enumT {P : Program} {w : World} {K : PySem.W.Frag} (e it a : Addr) (vs : List V) : Turn P w K (.Tuple elts kk tpos) (Itg (fun i => vs[i]?) fun H => SqT K H a vs) [e, it] e (fun i h => (∃ old, IsEnum h e it ((i : Nat) : Int) old) ∧ (h.IsTupleIter it a i ∧ i ≤ vs.length) ∧ e ≠ it) :=
  turn_enumG e it _ _ (fun i h => h.IsTupleIter it a i ∧ i ≤ vs.length) (fun i h st => by
    obtain ⟨⟨o, ho, hc, hd⟩, _⟩ := st
    exact ⟨o, ho, fun v q => by rw [hd] at q; cases q⟩) (fun i h h' st k => by
    obtain ⟨⟨o, ho, r⟩, l⟩ := st
    exact ⟨⟨o, k o ho, r⟩, l⟩) fun X pins s σ H i hK hc I g ⟨st, le⟩ => by
    subst hK
    obtain ⟨its, rv, tp, hz⟩ := Inv.tuple I g
    have hl := rv.length
    have tp' : s.heap.IsTuple a its.toArray := tp
    have hne : a ≠ it := fun z => by
      subst z
      obtain ⟨o, ho, hc1, _⟩ := st
      obtain ⟨o2, ho2, hc2, _⟩ := tp
      rw [ho] at ho2; cases ho2
      rw [hc1] at hc2
      exact absurd hc2 (by decide)
    refine ⟨its.toArray.size, _, _, [it, a], Draws.tuple (A := X.A.in1) (I.ok.hd hc) it a hne its.toArray, ⟨st, tp'⟩, fun e old he hm => ?_, fun j h' lj q => ⟨q.1, by rw [hl]; simpa using lj⟩, fun ⟨x, q⟩ => ?_, fun q => ?_, fun j u q => ?_⟩
    · rcases List.mem_cons.mp hm with z | hm
      · obtain ⟨o, ho, hcl, _⟩ := st
        exact not_enum he ho (by rw [hcl]; decide) z
      · obtain ⟨o, ho, hcl, _⟩ := tp
        exact not_enum he ho (by rw [hcl]; decide) (List.mem_singleton.mp hm)
    · have q : vs[i]? = some x := q
      have := (List.getElem?_eq_some_iff.mp q).1
      simpa [← hl] using this
    · have q : vs[i]? = none := q
      have := List.getElem?_eq_none_iff.mp q
      have h2 : its.toArray.size = vs.length := by simp [hl]
      omega
    · have q : its.toArray[j]? = some u := q
      have q' : its[j]? = some u := by simpa using q
      cases y : vs[j]? with
      | none => rw [rv.none_of y] at q'; cases q'
      | some x =>
        obtain ⟨u', h1, h2⟩ := rv.get y
        rw [q'] at h1; cases h1
        exact ⟨x, h2, y⟩
/-- enumerate, the value a text, a tuple (or an own list, by the layer's rule) -/
def rEn (K : PySem.W.Frag) (x : V) (H : Hp) (R' : It → Hp → Prop) : Prop := (∃ z, x = .str z ∧ R' (Itg (strXs z) fun _ => True) H) ∨ ∃ a vs, x = .ref a ∧ SqT K H a vs ∧ R' (Itg (fun i => vs[i]?) fun H' => SqT K H' a vs) H
theorem pi_en {te : TE} (hg : Gl X "enumerate") (hm : X.mg "enumerate" = none) (hv : bootBuiltins "enumerate" = some (.type "enumerate")) (ha : PE X e te) (hs : starEach [e] X.env = [(false, eval e X.env)] := by rfl) :
    PI X (.Tuple elts kk tpos) (.Call (.Name "enumerate" p) [e] [] pos) (fun σ H R' => te σ H fun x H1 => ∃ y, [x] = [y] ∧ rEn X.K y H1 R') := by
  constructor
  intro pins s σ H R' I h
  refine PyProof.Rows.Call_ (ld_blt I hg hm hv (PyProof.Rows.callWith_type1 (thn ((pa_cons ha pa_nil (by rw [hs]; rfl)).run pos pins s σ H (fun vs H1 => ∃ x, vs = [x] ∧ rEn X.K x H1 R') I h) fun us s1 hx => ?_) hs rfl))
  · obtain ⟨vs, H1, I1, rv, x, ev, hr⟩ := hx
    subst ev
    cases rv with
    | cons r rr =>
      cases rr
      rcases hr with ⟨z, ez, q⟩ | ⟨a, vs, ea, g, q⟩
      · subst ez
        obtain ⟨t, rfl⟩ := r
        exact enum_go (tnI := fun i h => h.IsStrIter s1.heap.objs.size (strIterType z) z t i ∧ i ≤ z.cps.size) I1 (begins_text z t) trivial q (fun e it h1 h2 => by subst h2; exact turn_enumS e _ z t) fun h' ho => ⟨⟨_, ho, rfl, rfl⟩, Nat.zero_le _⟩
      · subst ea
        have r : _ = _ := r
        subst r
        obtain ⟨its, rv, tp, hz⟩ := Inv.tuple I1 g
        exact enum_go (tnI := fun i h => h.IsTupleIter s1.heap.objs.size a i ∧ i ≤ vs.length) I1 (begins_tuple a its.toArray) tp q (fun e it h1 h2 => by subst h2; exact turn_enumT e _ a vs) fun h' ho => ⟨⟨_, ho, rfl, rfl⟩, Nat.zero_le _⟩
/-- (i, x) for each sign of a text, each item of a tuple -/
def itEn (u : U) (h : Hv) : R Itr := match u with
  | .str x => .ok ⟨x.length, fun i _ => some (x[i]?.map fun c => .tup [.int (i : Nat), .str [c]])⟩ h
  | .tup us => .ok ⟨us.length, fun i _ => some (us[i]?.map fun w => .tup [.int (i : Nat), w])⟩ h
  | _ => .bad
def fItEn (f : FE) : FI := fun env h => (f env h).bind itEn
theorem ItR_en {m0 : Mp} {H0 : Hp} {n : Nat} {G : Hp → Prop} {xs : Nat → Option V} {us : Nat → Option U} (hG : ∀ m H, Grow m0 H0 m H → G H) (h1 : ∀ i, us i = none → xs i = none) (h2 : ∀ i u, us i = some u → ∃ x, xs i = some x ∧ Rel T m0 H0 u x) :
    ItR T m0 H0 ⟨n, fun i _ => some ((us i).map fun w => .tup [.int (i : Nat), w])⟩ (Itg xs G) := by
  intro m H h i g s
  simp only
  cases y : us i with
  | none => exact ⟨hG m H g, h1 i y⟩
  | some u =>
    obtain ⟨x, ex, r⟩ := h2 i u y
    refine ⟨⟨hG m H g, x, ex⟩, fun z H' yl => ?_⟩
    obtain ⟨p, x', ez, hp, eH, ex'⟩ := yl
    rw [ex] at ex'; cases ex'
    subst ez eH
    have gb := Grow.beside (m := m) (o := .tup [.int (i : Nat), x]) hp
    exact ⟨m, gb, s.beside hp, p, _, rfl, SqT.of upd_same, _, _, rfl, rfl, _, _, rfl, (r.up g).up gb, rfl⟩
theorem si_en {f : FE} (hg : Gl X "enumerate") (hm : X.mg "enumerate" = none) (hv : bootBuiltins "enumerate" = some (.type "enumerate")) (hf : SE T X W e f) (hs : starEach [e] X.env = [(false, eval e X.env)] := by rfl) (hK : T.K = X.K := by rfl) :
    SI T X W (.Tuple elts kk tpos) (.Call (.Name "enumerate" p) [e] [] pos) (fItEn f) := fun env h m σ H R' hE hS ho => by
  refine ⟨_, pi_en hg hm hv EX.pe hs, ?_⟩
  refine hf env h m σ H _ hE hS (ho.bind fun u h1 m1 H1 v _ g1 s1 r1 o1 => ?_)
  refine ⟨v, rfl, ?_⟩
  cases u with
  | str x =>
    have hg : ∀ i : Nat, (strV x).cps[i]? = x[i]? := fun i => by simp [strV]
    refine .inl ⟨strV x, r1, o1 m1 H1 _ (Grow.refl _ _) s1 ?_⟩
    have k := ItR_en (T := T) (m0 := m1) (H0 := H1) (n := x.length) (G := fun _ => True) (xs := strXs (strV x)) (us := fun i => x[i]?.map fun c => .str [c]) (fun _ _ _ => trivial) (fun i z => by
      unfold strXs; rw [hg]
      cases y : x[i]? with
      | none => rfl
      | some c => simp only [y, Option.map_some] at z; cases z) (fun i w z => by
      unfold strXs; rw [hg]
      cases y : x[i]? with
      | none => simp only [y, Option.map_none] at z; cases z
      | some c => simp only [y, Option.map_some, Option.some.injEq] at z; subst z; exact ⟨_, rfl, rfl⟩)
    simp only [Option.map_map] at k
    exact k
  | tup us =>
    obtain ⟨a, vs, ev, q, l⟩ := r1
    refine .inr ⟨a, vs, ev, hK ▸ q, ?_⟩
    have k := ItR_en (T := T) (m0 := m1) (H0 := H1) (n := us.length) (G := fun H' => SqT T.K H' a vs) (xs := fun i => vs[i]?) (us := fun i => us[i]?) (fun _ _ g => g.sqT q) (fun i z => by
      rw [List.getElem?_eq_none_iff] at z ⊢
      rw [← l.len]; exact z) (fun i w z => l.get z)
    have := o1 m1 H1 _ (Grow.refl _ _) s1 k
    rw [hK] at this
    exact this
  | _ => exact o1.elim
theorem si_enL {f : FE} (hg : Gl X "enumerate") (hm : X.mg "enumerate" = none) (hf : SE T X W e f) (hs : starEach [e] X.env = [(false, eval e X.env)] := by rfl) (hs1 : starEach [e] X.env = (false, eval e X.env) :: starEach [] X.env := by rfl) :
    SI T X W (.Tuple elts kk tpos) (.Call (.Name "enumerate" p) [e] [] pos) (fun env h => (f env h).bind fun u h1 => match u with
      | .ref q => match h1.lst q with
        | some us => .ok ⟨us.length, fun i h' => match h'.lst q with
          | some ws => some (ws[i]?.map fun w => .tup [.int (i : Nat), w])
          | none => none⟩ h1
        | none => .bad
      | _ => .bad) := fun env h m σ H R' hE hS ho => by
  refine ⟨_, pi_enum hg hm (pa_cons EX.pe pa_nil hs1) hs, ?_⟩
  refine hf env h m σ H _ hE hS (ho.bind fun u h1 m1 H1 v _ g1 s1 r1 o1 => ?_)
  cases u with
  | ref q =>
    obtain ⟨a, e1, ev⟩ := r1
    simp only at o1
    cases z : h1.lst q with
    | none => rw [z] at o1; exact o1.elim
    | some us =>
      rw [z] at o1
      obtain ⟨vs, qq, l⟩ := s1.lst e1 z
      subst ev
      refine ⟨a, vs, rfl, SqL.of qq, o1 m1 H1 _ (Grow.refl _ _) s1 ?_⟩
      intro m2 H2 h2 i g s
      have e2 := g.sub q a e1
      simp only
      cases y : h2.lst q with
      | none => exact trivial
      | some ws =>
        obtain ⟨xs, qx, lx⟩ := s.lst e2 y
        simp only
        cases y2 : ws[i]? with
        | none =>
          refine ⟨xs, SqL.of qx, ?_⟩
          rw [← lx.len]
          exact List.getElem?_eq_none_iff.mp y2
        | some w =>
          obtain ⟨x, ex, r⟩ := lx.get y2
          refine ⟨⟨xs, x, SqL.of qx, ex⟩, fun z H' yl => ?_⟩
          obtain ⟨p, x', ez, hp, eH, ex'⟩ := yl
          have := ex' xs (SqL.of qx)
          rw [ex] at this; cases this
          subst ez eH
          have gb := Grow.beside (m := m2) (o := .tup [.int (i : Nat), x]) hp
          exact ⟨m2, gb, s.beside hp, p, _, rfl, SqT.of upd_same, _, _, rfl, rfl, _, _, rfl, r.up gb, rfl⟩
  | _ => exact o1.elim
end
end VI

/-! VI, part Q: chains, f-strings, products of texts, two names at once. -/
namespace VI
open PySem L2
section
variable {T : Tb} {X : Cx} {W : WX'} {e a b c o : Expr} {pos p2 : Pos} {x y : Str}
/-! a op b op' c -/
def fChain (g g' : U → U → Hv → R U) (fa fb fc : FE) : FE := fun env h => (fa env h).bind fun u1 h1 => (fb env h1).bind fun u2 h2 => (g u1 u2 h2).bind fun k h3 => match k with
  | .bl true => (fc env h3).bind fun u3 h4 => g' u2 u3 h4
  | .bl false => .ok (.bl false) h3
  | _ => .bad
theorem s_chain {op op' : CmpOp} {g g' : U → U → Hv → R U} {fa fb fc : FE} (hg : OpS T X (compareOp op) g) (hg' : OpS T X (compareOp op') g') (ha : SE T X W a fa) (hb : SE T X W b fb) (hc : SE T X W c fc) (hm : lastMarks [op, op'] [b, c] = false := by with_unfolding_all rfl) :
    SE T X W (.Compare a [op, op'] [b, c] pos) (fChain g g' fa fb fc) := fun env h m σ H Q hE hS ho => by
  refine ⟨_, pe_chain (opx_ok _) (opx_ok _) EX.pe EX.pe EX.pe hm, ?_⟩
  refine ha env h m σ H _ hE hS (ho.bind fun u1 h1 m1 H1 v1 _ g1 s1 r1 o1 => ?_)
  refine hb env h1 m1 σ H1 _ (hE.up g1) s1 (o1.bind fun u2 h2 m2 H2 v2 _ g2 s2 r2 o2 => ?_)
  refine hg m2 h2 H2 u1 u2 v1 v2 _ _ s2 (r1.up g2) r2 (o2.bind fun k h3 m3 H3 z _ g3 s3 r3 o3 => ?_)
  cases k with
  | bl k =>
    refine ⟨k, r3, ?_⟩
    cases k with
    | false => exact iteF (o3 m3 H3 _ (Grow.refl _ _) s3 rfl)
    | true =>
      refine iteT ?_
      refine hc env h3 m3 σ H3 _ (((hE.up g1).up g2).up g3) s3 (o3.bind fun u3 h4 m4 H4 v3 _ g4 s4 r4 o4 => ?_)
      exact hg' m4 h4 H4 u2 u3 v2 v3 _ _ s4 ((r2.up g3).up g4) r4 o4
  | _ => exact o3.elim
/-! f-strings of texts and ints -/
def codes (z : Str) : List Nat := z.cps.toList
def gFmt (u : U) (h : Hv) : R U := match u with
  | .str z => if z.length ≤ many then .ok (.str z) h else .bad
  | .int i => match Nat.blt (Nat.log2 i.natAbs) 1920 with
    | true => .ok (.str (codes (toString i))) h
    | false => .bad
  | _ => .bad
theorem s_fmt {f : FE} (hf : SE T X W e f) : SE T X W (.FormattedValue e (-1) none pos) (f1 gFmt f) := fun env h m σ H Q hE hS ho => by
  refine ⟨_, pe_fmt EX.pe, ?_⟩
  refine hf env h m σ H _ hE hS (ho.bind fun u h1 m1 H1 v _ g1 s1 r1 o1 => ?_)
  cases u with
  | str z =>
    simp only [gFmt] at o1
    by_cases hz : z.length ≤ many
    · rw [if_pos hz] at o1
      exact .inl ⟨strV z, r1, by rw [strV_len, ← many_eq]; exact hz, o1 m1 H1 _ (Grow.refl _ _) s1 rfl⟩
    · rw [if_neg hz] at o1; exact o1.elim
  | int i =>
    simp only [gFmt] at o1
    cases z : Nat.blt (Nat.log2 i.natAbs) 1920 with
    | false => rw [z] at o1; exact o1.elim
    | true =>
      rw [z] at o1
      refine .inr ⟨i, r1, Nat.le_of_ble_eq_true z, o1 m1 H1 _ (Grow.refl _ _) s1 ?_⟩
      show V.str _ = V.str (strV _)
      unfold codes
      rw [strV_of]
  | _ => exact o1.elim
inductive SJ (T : Tb) (X : Cx) (W : WX') : List Expr → List FE → Prop
  | nil : SJ T X W [] []
  | cons {e : Expr} {f : FE} {es : List Expr} {fs : List FE} (h : SE T X W e f) (r : SJ T X W es fs) : SJ T X W (e :: es) (f :: fs)
def joinF : List FE → List Nat → FE
  | [], acc => fun _ h => .ok (.str acc) h
  | f :: fs, acc => fun env h => (f env h).bind fun u h1 => match u with
    | .str y => match Nat.ble (acc.length + y.length) 1000000 with
      | true => joinF fs (acc ++ y) env h1
      | false => .bad
    | _ => .bad
def exs (X : Cx) : List Expr → List TE
  | [] => []
  | e :: es => EX X e :: exs X es
theorem exs_pj : ∀ es : List Expr, PJ X es (exs X es)
  | [] => .nil
  | e :: es => .cons EX.pe (exs_pj es)
theorem sj_go {es : List Expr} {fs : List FE} (hj : SJ T X W es fs) : ∀ (acc : List Nat) (env : Ev) (h : Hv) (m : Mp) (σ : St) (H : Hp) (Q : VK), EnvR T m H env σ → SimH T m h H → Out T m H (wat W σ) (RV T) (joinF fs acc env h) Q →
    tJs (exs X es) (strV acc) σ H fun out H1 => Q (.str out) H1 := by
  induction hj with
  | nil => exact fun acc env h m σ H Q hE hS ho => ho m H _ (Grow.refl _ _) hS rfl
  | @cons e f es fs hf _ ih =>
    intro acc env h m σ H Q hE hS ho
    refine hf env h m σ H _ hE hS (ho.bind fun u h1 m1 H1 v _ g1 s1 r1 o1 => ?_)
    cases u with
    | str y =>
      simp only at o1
      cases z : Nat.ble (acc.length + y.length) 1000000 with
      | false => rw [z] at o1; exact o1.elim
      | true =>
        rw [z] at o1
        have hz := Nat.le_of_ble_eq_true z
        refine ⟨strV y, r1, ?_, ?_⟩
        · rw [strV_app, strV_len, List.length_append, sizeLine_eq]; omega
        · rw [strV_app]; exact ih (acc ++ y) env h1 m1 σ H1 Q (hE.up g1) s1 o1
    | _ => exact o1.elim
theorem s_join {e1 e2 : Expr} {es : List Expr} {fs : List FE} (hj : SJ T X W (e1 :: e2 :: es) fs) : SE T X W (.JoinedStr (e1 :: e2 :: es) pos) (joinF fs []) := fun env h m σ H Q hE hS ho => by
  refine ⟨_, pe_joined (exs_pj _), ?_⟩
  exact sj_go hj [] env h m σ H Q hE hS ho
/-! text * int, list * int, int * int -/
def repL {α : Type} (xs : List α) : Nat → List α
  | 0 => []
  | n + 1 => xs ++ repL xs n
theorem repL_flat {α : Type} (xs : List α) : ∀ n, repL xs n = (List.replicate n xs).flatten
  | 0 => rfl
  | n + 1 => by simp [repL, repL_flat xs n, List.replicate_succ]
theorem rep_one {α : Type} (xs : List α) : repL xs 1 = xs := by simp [repL]
theorem repL_nil {α : Type} : ∀ n, repL ([] : List α) n = []
  | 0 => rfl
  | n + 1 => by simp [repL, repL_nil n]
theorem foldl_app (x : Array Nat) : ∀ (n : Nat) (acc : Array Nat), ((List.replicate n x).foldl (· ++ ·) acc).toList = acc.toList ++ repL x.toList n
  | 0, acc => by simp [repL]
  | n + 1, acc => by simp [List.replicate_succ, foldl_app x n, repL]
theorem txt_mul (x : List Nat) (n : Int) : Txt.mul (strV x) n = strV (repL x n.toNat) := by
  unfold Txt.mul
  by_cases h : n < 1
  · rw [if_pos h]
    have : n.toNat = 0 := by omega
    rw [this]; rfl
  · rw [if_neg h]
    by_cases h2 : (n == 1 || (strV x).length == 0) = true
    · rw [if_pos h2]
      rw [Bool.or_eq_true] at h2
      rcases h2 with h2 | h2
      · have : n.toNat = 1 := by rw [beq_iff_eq] at h2; omega
        rw [this, rep_one]
      · rw [strV_len, beq_iff_eq, List.length_eq_zero_iff] at h2
        subst h2
        rw [repL_nil]
    · rw [if_neg h2]
      unfold strV
      congr 1
      apply Array.toList_inj.mp
      rw [foldl_app]
      simp
def gMul (u1 u2 : U) (h : Hv) : R U := match u1, u2 with
  | .int i, .int j => match Nat.blt (Nat.log2 i.natAbs + Nat.log2 j.natAbs) 1000000 with
    | true => .ok (.int (i * j)) h
    | false => .bad
  | .str z, .int k => match decide (0 ≤ k) && (decide (k ≤ 1000000) && Nat.ble (z.length * k.toNat) 1000000) with
    | true => .ok (.str (repL z k.toNat)) h
    | false => .bad
  | .ref p, .int k => match h.lst p with
    | some us => match decide (0 ≤ k) && (decide (k ≤ 1000000) && Nat.ble (us.length * k.toNat) 1000000) with
      | true => newL (repL us k.toNat) h
      | false => .bad
    | none => .bad
  | _, _ => .bad
theorem RelL.rep {m : Mp} {H : Hp} {us : List U} {vs : List V} (r : RelL T m H us vs) : ∀ n, RelL T m H (repL us n) ((List.replicate n vs).flatten)
  | 0 => rfl
  | n + 1 => by
    rw [List.replicate_succ, List.flatten_cons]
    exact r.app (RelL.rep r n)
theorem mul_fits {z : List Nat} {k : Int} (h0 : 0 ≤ k) (h1 : k ≤ 1000000) (h2 : z.length * k.toNat ≤ 1000000) : MulOk (strV z) k := by
  have p63 : (2 : Int) ^ 63 = 9223372036854775808 := by decide
  unfold MulOk
  rw [strV_len, p63]
  refine ⟨?_, fun hk _ => ?_, fun hk _ => ?_⟩
  · rw [decide_eq_false (by omega), decide_eq_false (by omega)]; rfl
  · intro hbad
    have hl : z.length ≤ 1000000 := by
      have : z.length * 1 ≤ z.length * k.toNat := Nat.mul_le_mul_left _ (by omega)
      omega
    have h3 : (9223372036854775808 - 1 : Int) / k ≥ 9223372036854 := by
      apply (Int.le_ediv_iff_mul_le (by omega)).mpr
      have : (9223372036854 : Int) * k ≤ 9223372036854 * 1000000 := Int.mul_le_mul_of_nonneg_left h1 (by decide)
      omega
    omega
  · unfold Builtin.Str.tooLong
    rw [decide_eq_false (by rw [sizeLine_eq]; omega)]
theorem o_mul : OpS T X (binaryOp .Mult) gMul := by
  intro m h H u1 u2 v1 v2 E Q hS r1 r2 o
  cases u1 with
  | int i =>
    cases u2 <;> try exact o.elim
    rename_i j
    simp only [gMul] at o
    cases z : Nat.blt (Nat.log2 i.natAbs + Nat.log2 j.natAbs) 1000000 with
    | false => rw [z] at o; exact o.elim
    | true =>
      rw [z] at o
      exact ⟨_, op_mulW, i, j, r1, r2, Nat.le_of_ble_eq_true z, o m H _ (Grow.refl _ _) hS rfl⟩
  | str zz =>
    cases u2 <;> try exact o.elim
    rename_i k
    simp only [gMul] at o
    cases z : decide (0 ≤ k) && (decide (k ≤ 1000000) && Nat.ble (zz.length * k.toNat) 1000000) with
    | false => rw [z] at o; exact o.elim
    | true =>
      rw [z] at o
      rw [Bool.and_eq_true, Bool.and_eq_true] at z
      have z1 := of_decide_eq_true z.1
      have z2 := of_decide_eq_true z.2.1
      have z3 := Nat.le_of_ble_eq_true z.2.2
      refine ⟨fun x y H Q => x = .str (strV zz) ∧ y = .int k ∧ Q (.str (strV (repL zz k.toNat))) H, ?_, r1, r2, o m H _ (Grow.refl _ _) hS rfl⟩
      intro pins s σ H x y v u Q I rx ry hq
      obtain ⟨ex, ey, q⟩ := hq
      subst ex ey
      obtain ⟨t, rfl⟩ := rx
      obtain ⟨t', rfl⟩ := ry
      refine SB.mul (n := k) ?_ fun t2 k2 => ?_
      · exact mul_fits z1 z2 z3
      · rw [txt_mul]
        exact ⟨.str _, H, I.tok _, ⟨_, rfl⟩, q⟩
  | ref p =>
    cases u2 <;> try exact o.elim
    rename_i k
    obtain ⟨a, e1, ev⟩ := r1
    simp only [gMul] at o
    cases y : h.lst p with
    | none => rw [y] at o; exact o.elim
    | some us =>
      rw [y] at o
      simp only at o
      cases z : decide (0 ≤ k) && (decide (k ≤ 1000000) && Nat.ble (us.length * k.toNat) 1000000) with
      | false => rw [z] at o; exact o.elim
      | true =>
        rw [z] at o
        rw [Bool.and_eq_true, Bool.and_eq_true] at z
        have z1 := of_decide_eq_true z.1
        have z2 := of_decide_eq_true z.2.1
        have z3 := Nat.le_of_ble_eq_true z.2.2
        obtain ⟨vs, q, l⟩ := hS.lst e1 y
        refine ⟨_, op_rep, a, k, vs, ev, r2, q, by omega, by omega, ?_, (out_lst hS (l.rep _) o).2⟩
        rw [← l.len, sizeLine_eq]; omega
  | _ => cases u2 <;> exact o.elim
end
end VI

/-! VI, part R: more stores. -/
namespace VI
open PySem L2
section
variable {T : Tb} {X : Cx} {W : WX'} {e a b c o : Expr} {pos p2 px py pt pt2 : Pos} {x y : Str} {i j kt k2 : Nat}
theorem st_par {f : FL} (hc : X.calm = true) (hN : X.N.Nodup) (hi : X.N[i]? = some x) (hj : X.N[j]? = some y) (hij : i ≠ j) (lx : X.env.scope.names.lookup x = some .local) (ly : X.env.scope.names.lookup y = some .local) (hf : SL T X W [a, b] f)
    (hs : swappedStores [.Tuple [.Name x px, .Name y py] kt pt] (.Tuple [a, b] k2 pt2) X.env = pure (some [x, y])) (hw : swapsWithSole [.Tuple [.Name x px, .Name y py] kt pt] (.Tuple [a, b] k2 pt2) pos.line X.env = pure false := by rfl) :
    SSt T X W (.Assign [.Tuple [.Name x px, .Name y py] kt pt] (.Tuple [a, b] k2 pt2) pos) (fPar i j f) := fun env h m σ H D hE hS ho => by
  refine ⟨_, ps_par hc hN hi hj hij lx ly AX.pa hs hw, ?_⟩
  refine hf env h m σ H _ hE hS (OutS.of hE ho fun us h1 m1 H1 vs _ g1 s1 r1 E1 o1 => ?_)
  match us, o1 with
  | [u, w], o1 =>
    obtain ⟨v1, v2, ev, q1, q2⟩ := rl2 r1
    exact ⟨v1, v2, ev, o1 m1 H1 _ (Grow.refl _ _) s1 ((E1.set q1).set q2)⟩
  | [], o1 => exact o1.elim
  | [_], o1 => exact o1.elim
  | _ :: _ :: _ :: _, o1 => exact o1.elim
def gIAdd (u1 u2 : U) (h : Hv) : R U := match u1, u2 with
  | .int i, .int j => .ok (.int (i + j)) h
  | .str x, .str y => short (x ++ y) (.ok (.str (x ++ y)) h)
  | .ref p, .ref q => match Nat.beq p.nat q.nat, h.lst p, h.lst q with
    | false, some us, some ws => match Nat.ble (us.length + ws.length) 1000000 with
      | true => .ok (.ref p) (h.put p (.lst (us ++ ws)))
      | false => .bad
    | _, _, _ => .bad
  | _, _ => .bad
theorem pi_add : PiS T X .Add gIAdd := by
  intro m h H u1 u2 v1 v2 E Q hS r1 r2 o
  cases u1 <;> cases u2 <;> try exact o.elim
  · rename_i i j
    exact ⟨_, iop_add, i, j, r1, r2, o m H _ (Grow.refl _ _) hS rfl⟩
  · rename_i x y
    obtain ⟨z, o⟩ := short_ok o
    refine ⟨_, iop_add_str, _, _, r1, r2, ?_, ?_⟩
    · rw [strV_len, strV_len, ← List.length_append]; exact z
    · rw [strV_app]; exact o m H _ (Grow.refl _ _) hS rfl
  · rename_i p q
    obtain ⟨a, e1, ea⟩ := r1
    obtain ⟨b, e2, eb⟩ := r2
    simp only [gIAdd] at o
    cases zb : Nat.beq p.nat q.nat with
    | true => rw [zb] at o; exact o.elim
    | false =>
      cases z1 : h.lst p with
      | none => rw [zb, z1] at o; exact o.elim
      | some us =>
        cases z2 : h.lst q with
        | none => rw [zb, z1, z2] at o; exact o.elim
        | some ws =>
          rw [zb, z1, z2] at o
          simp only at o
          cases z : Nat.ble (us.length + ws.length) 1000000 with
          | false => rw [z] at o; exact o.elim
          | true =>
            rw [z] at o
            have hz := Nat.le_of_ble_eq_true z
            obtain ⟨xs, q1, l1⟩ := hS.lst e1 z1
            obtain ⟨ys, q2, l2⟩ := hS.lst e2 z2
            have hl1 := l1.len
            have hl2 := l2.len
            have nf : ∀ f u, H a ≠ some (.frz f u) := fun _ _ z => by rw [q1] at z; cases z
            have g := Grow.put (o := .lst (xs ++ ys)) hS e1 nf
            have fin := o m _ (.ref a) g (hS.put e1 nf ⟨_, upd_same, (l1.up g).app (l2.up g)⟩) ⟨a, e1, rfl⟩
            exact ⟨_, iop_ext, a, b, xs, ys, ea, eb, q1, q2, by rw [← hl1, ← hl2, sizeLine_eq]; omega, fin⟩
end
end VI

/-! VI, part S: more arithmetic, what is walked by its kind, ranges, chains as tests. -/
namespace VI
open PySem L2
section
variable {T : Tb} {X : Cx} {W : WX'} {e a b c o : Expr} {es : List Expr} {pos p p2 : Pos} {x y : Str}
/-! texts as constants -/
theorem s_str {z : Str} {l : List Nat} {j : Nat} (h : z = strV l) : SE T X W (.Constant (.str z) j pos) (fCon (.str l)) := by
  subst h
  exact s_con pe_str fun _ _ => rfl
theorem s_int {i : Int} {j : Nat} : SE T X W (.Constant (.int i) j pos) (fCon (.int i)) := s_con pe_int fun _ _ => rfl
theorem s_bl {k : Bool} {j : Nat} : SE T X W (.Constant (.bool k) j pos) (fCon (.bl k)) := s_con pe_bl fun _ _ => rfl
theorem s_non {j : Nat} : SE T X W (.Constant .none j pos) (fCon .non) := s_con pe_non fun _ _ => rfl
/-! // and % by a positive number, powers, minus -/
def gDiv (u1 u2 : U) (h : Hv) : R U := match u1, u2 with
  | .int i, .int j => match decide (0 < j) && Nat.blt (Nat.log2 j.natAbs) 9000 with
    | true => .ok (.int (i / j)) h
    | false => .bad
  | _, _ => .bad
theorem o_div : OpS T X (binaryOp .FloorDiv) gDiv := by
  intro m h H u1 u2 v1 v2 E Q hS r1 r2 o
  cases u1 <;> cases u2 <;> try exact o.elim
  rename_i i j
  simp only [gDiv] at o
  cases z : decide (0 < j) && Nat.blt (Nat.log2 j.natAbs) 9000 with
  | false => rw [z] at o; exact o.elim
  | true =>
    rw [z] at o
    rw [Bool.and_eq_true] at z
    exact ⟨_, op_fdivW, i, j, r1, r2, ⟨of_decide_eq_true z.1, Nat.le_of_ble_eq_true z.2⟩, o m H _ (Grow.refl _ _) hS rfl⟩
def gMod (u1 u2 : U) (h : Hv) : R U := match u1, u2 with
  | .int i, .int j => match decide (0 < j) with
    | true => .ok (.int (i % j)) h
    | false => .bad
  | _, _ => .bad
theorem o_mod : OpS T X (binaryOp .Mod) gMod := by
  intro m h H u1 u2 v1 v2 E Q hS r1 r2 o
  cases u1 <;> cases u2 <;> try exact o.elim
  rename_i i j
  simp only [gMod] at o
  cases z : decide (0 < j) with
  | false => rw [z] at o; exact o.elim
  | true =>
    rw [z] at o
    exact ⟨_, op_mod, i, j, r1, r2, of_decide_eq_true z, o m H _ (Grow.refl _ _) hS rfl⟩
def gPow (u1 u2 : U) (h : Hv) : R U := match u1, u2 with
  | .int i, .int j => match decide (0 ≤ j) && (decide (j ≤ 1000) && Nat.blt i.natAbs 65536) with
    | true => .ok (.int (i ^ j.toNat)) h
    | false => .bad
  | _, _ => .bad
theorem o_pow : OpS T X (binaryOp .Pow) gPow := by
  intro m h H u1 u2 v1 v2 E Q hS r1 r2 o
  cases u1 <;> cases u2 <;> try exact o.elim
  rename_i i j
  simp only [gPow] at o
  cases z : decide (0 ≤ j) && (decide (j ≤ 1000) && Nat.blt i.natAbs 65536) with
  | false => rw [z] at o; exact o.elim
  | true =>
    rw [z] at o
    rw [Bool.and_eq_true, Bool.and_eq_true] at z
    have z1 := of_decide_eq_true z.1
    have z2 := of_decide_eq_true z.2.1
    have z3 : i.natAbs < 65536 := Nat.le_of_ble_eq_true z.2.2
    exact ⟨_, op_pow, i, j, r1, r2, ⟨z1, by omega, Nat.lt_trans z3 (by decide)⟩, o m H _ (Grow.refl _ _) hS rfl⟩
def gNeg (u : U) (h : Hv) : R U := match u with
  | .int i => .ok (.int (-i)) h
  | _ => .bad
theorem s_neg {f : FE} (hf : SE T X W a f) : SE T X W (.UnaryOp .USub a pos) (f1 gNeg f) := fun env h m σ H Q hE hS ho => by
  refine ⟨_, pe_un un_neg EX.pe, ?_⟩
  refine hf env h m σ H _ hE hS (ho.bind fun u h1 m1 H1 v _ g1 s1 r1 o1 => ?_)
  cases u with
  | int i => exact ⟨i, r1, o1 m1 H1 _ (Grow.refl _ _) s1 rfl⟩
  | _ => exact o1.elim
/-! chains as tests -/
theorem chain_go {op op' : CmpOp} {g g' : U → U → Hv → R U} {fa fb fc : FE} (hg : OpS T X (compareOp op) g) (hg' : OpS T X (compareOp op') g') (ha : SE T X W a fa) (hb : SE T X W b fb) (hc : SE T X W c fc)
    {env : Ev} {h : Hv} {m : Mp} {σ : St} {H : Hp} {Q : VK} (hE : EnvR T m H env σ) (hS : SimH T m h H) (ho : Out T m H (wat W σ) (RV T) (fChain g g' fa fb fc env h) Q) :
    tChain (opx X (compareOp op)) (opx X (compareOp op')) (EX X a) (EX X b) (EX X c) σ H Q := by
  refine ha env h m σ H _ hE hS (ho.bind fun u1 h1 m1 H1 v1 _ g1 s1 r1 o1 => ?_)
  refine hb env h1 m1 σ H1 _ (hE.up g1) s1 (o1.bind fun u2 h2 m2 H2 v2 _ g2 s2 r2 o2 => ?_)
  refine hg m2 h2 H2 u1 u2 v1 v2 _ _ s2 (r1.up g2) r2 (o2.bind fun k h3 m3 H3 z _ g3 s3 r3 o3 => ?_)
  cases k with
  | bl k =>
    refine ⟨k, r3, ?_⟩
    cases k with
    | false => exact iteF (o3 m3 H3 _ (Grow.refl _ _) s3 rfl)
    | true =>
      refine iteT ?_
      refine hc env h3 m3 σ H3 _ (((hE.up g1).up g2).up g3) s3 (o3.bind fun u3 h4 m4 H4 v3 _ g4 s4 r4 o4 => ?_)
      exact hg' m4 h4 H4 u2 u3 v2 v3 _ _ s4 ((r2.up g3).up g4) r4 o4
  | _ => exact o3.elim
theorem s_tchain {op op' : CmpOp} {g g' : U → U → Hv → R U} {fa fb fc : FE} (hg : OpS T X (compareOp op) g) (hg' : OpS T X (compareOp op') g') (ha : SE T X W a fa) (hb : SE T X W b fb) (hc : SE T X W c fc) (hm : lastMarks [op, op'] [b, c] = false := by with_unfolding_all rfl) :
    STt T X W (.Compare a [op, op'] [b, c] pos) (fB (fChain g g' fa fb fc)) := fun env h m σ H Q hE hS ho => by
  refine ⟨_, pt_chain (opx_ok _) (opx_ok _) EX.pe EX.pe EX.pe hm, ?_⟩
  refine chain_go hg hg' ha hb hc hE hS (ho.bind fun u h1 m1 H1 v _ g1 s1 r1 o1 => ?_)
  obtain ⟨k, _, ev, q⟩ := out_asB s1 r1 o1
  exact ⟨k, ev, q⟩
/-! what is walked, by its kind -/
def itAny (u : U) (h : Hv) : R Itr := match u with
  | .str x => itStr (.str x) h
  | u => itSeq u h
def fItA (f : FE) : FI := fun env h => (f env h).bind itAny
theorem si_any {tg : Expr} {f : FE} (hf : SE T X W e f) (hK : T.K = X.K := by rfl) : SI T X W tg e (fItA f) := fun env h m σ H R' hE hS ho => by
  cases z : f env h with
  | bad => simp only [fItA, z, R.bind] at ho; exact ho.elim
  | ex c fs hh =>
    refine si_str (tg := tg) hf env h m σ H R' hE hS ?_
    simp only [fItA, fItT, z, R.bind] at ho ⊢
    exact ho
  | ok u h1 =>
    cases u with
    | str x =>
      refine si_str (tg := tg) hf env h m σ H R' hE hS ?_
      simp only [fItA, fItT, z, R.bind] at ho ⊢
      exact ho
    | tup us =>
      refine si_tup (tg := tg) hf hK env h m σ H R' hE hS ?_
      simp only [fItA, z, R.bind] at ho ⊢
      exact ho
    | ref p =>
      refine si_list (tg := tg) hf env h m σ H R' hE hS ?_
      simp only [fItA, z, R.bind] at ho ⊢
      exact ho
    | _ => simp only [fItA, z, R.bind] at ho; exact ho.elim
def enL (u : U) (h1 : Hv) : R Itr := match u with
  | .ref q => match h1.lst q with
    | some us => .ok ⟨us.length, fun i h' => match h'.lst q with
      | some ws => some (ws[i]?.map fun w => .tup [.int (i : Nat), w])
      | none => none⟩ h1
    | none => .bad
  | u => itEn u h1
def fItEA (f : FE) : FI := fun env h => (f env h).bind enL
theorem si_enA {tpos : Pos} {elts : List Expr} {kk : Nat} {f : FE} (hg : Gl X "enumerate") (hm : X.mg "enumerate" = none) (hv : bootBuiltins "enumerate" = some (.type "enumerate")) (hf : SE T X W e f) (hs : starEach [e] X.env = [(false, eval e X.env)] := by rfl) (hs1 : starEach [e] X.env = (false, eval e X.env) :: starEach [] X.env := by rfl) (hK : T.K = X.K := by rfl) :
    SI T X W (.Tuple elts kk tpos) (.Call (.Name "enumerate" p) [e] [] pos) (fItEA f) := fun env h m σ H R' hE hS ho => by
  cases z : f env h with
  | bad => simp only [fItEA, z, R.bind] at ho; exact ho.elim
  | ex c fs hh =>
    refine si_en hg hm hv hf hs hK env h m σ H R' hE hS ?_
    simp only [fItEA, fItEn, z, R.bind] at ho ⊢
    exact ho
  | ok u h1 =>
    cases u with
    | ref p =>
      refine si_enL hg hm hf hs hs1 env h m σ H R' hE hS ?_
      simp only [fItEA, z, R.bind] at ho ⊢
      exact ho
    | _ =>
      refine si_en hg hm hv hf hs hK env h m σ H R' hE hS ?_
      simp only [fItEA, fItEn, z, R.bind] at ho ⊢
      exact ho
/-! range(n), range(a, b) -/
def itR1 (us : List U) (h : Hv) : R Itr := match us with
  | [.int j] => match decide (-1000000000 ≤ j) && decide (j ≤ 1000000000) with
    | true => .ok ⟨j.toNat, fun i _ => some (match Nat.blt i j.toNat with | true => some (.int (i : Nat)) | false => none)⟩ h
    | false => .bad
  | _ => .bad
def itR2' (u1 u2 : U) (h : Hv) : R Itr := match u1, u2 with
  | .int k, .int j => match decide (-1000000000 ≤ k) && (decide (k ≤ 1000000000) && (decide (-1000000000 ≤ j) && decide (j ≤ 1000000000))) with
    | true => .ok ⟨(j - k).toNat, fun i _ => some (match Nat.blt i (j - k).toNat with | true => some (.int (k + (i : Nat))) | false => none)⟩ h
    | false => .bad
  | _, _ => .bad
def itR2 (us : List U) (h : Hv) : R Itr := match us with
  | [u1, u2] => itR2' u1 u2 h
  | _ => .bad
def fItR1 (f : FL) : FI := fun env h => (f env h).bind itR1
def fItR2 (f : FL) : FI := fun env h => (f env h).bind itR2
theorem ItR_rng {m0 : Mp} {H0 : Hp} {lo : Int} {n : Nat} : ItR T m0 H0 ⟨n, fun i _ => some (match Nat.blt i n with | true => some (.int (lo + (i : Nat))) | false => none)⟩ (L2.Itr lo n) := by
  intro m H h i g s
  simp only
  cases z : Nat.blt i n with
  | false =>
    show n ≤ i
    have : ¬ i < n := fun q => by
      have : Nat.blt i n = true := Nat.ble_eq_true_of_le q
      rw [z] at this; cases this
    omega
  | true =>
    refine ⟨Nat.le_of_ble_eq_true z, fun y H' yl => ?_⟩
    obtain ⟨eH, ey⟩ := yl
    subst eH ey
    exact ⟨m, Grow.refl _ _, s, rfl⟩
theorem si_rng1 {tg : Expr} {f : FL} (hg : Gl X "range") (hm : X.mg "range" = none) (hf : SL T X W [a] f) (hs : starEach [a] X.env = [(false, eval a X.env)] := by rfl) : SI T X W tg (.Call (.Name "range" p) [a] [] pos) (fItR1 f) := fun env h m σ H R' hE hS ho => by
  refine ⟨_, pi_range1 hg hm AX.pa hs, ?_⟩
  refine hf env h m σ H _ hE hS (ho.bind fun us h1 m1 H1 vs ez g1 s1 r1 o1 => ?_)
  match us, o1, r1 with
  | [.int j], o1, r1 =>
    obtain ⟨v, ev, q⟩ := rl1 r1
    have q : v = .int j := q
    subst ev q
    simp only [itR1] at o1
    cases z : decide (-1000000000 ≤ j) && decide (j ≤ 1000000000) with
    | false => rw [z] at o1; exact o1.elim
    | true =>
      rw [z] at o1
      rw [Bool.and_eq_true] at z
      have z1 := of_decide_eq_true z.1
      have z2 := of_decide_eq_true z.2
      have k := ItR_rng (T := T) (m0 := m1) (H0 := H1) (lo := 0) (n := j.toNat)
      simp only [Int.zero_add] at k
      exact ⟨j, rfl, by omega, by omega, o1 m1 H1 _ (Grow.refl _ _) s1 k⟩
  | [], o1, r1 => exact o1.elim
  | [.non], o1, r1 => exact o1.elim
  | [.bl _], o1, r1 => exact o1.elim
  | [.str _], o1, r1 => exact o1.elim
  | [.tup _], o1, r1 => exact o1.elim
  | [.ref _], o1, r1 => exact o1.elim
  | [.g _], o1, r1 => exact o1.elim
  | u :: _ :: _, o1, r1 => cases u <;> exact o1.elim
theorem si_rng2 {tg : Expr} {f : FL} (hg : Gl X "range") (hm : X.mg "range" = none) (hf : SL T X W [a, b] f) (hs : starEach [a, b] X.env = [(false, eval a X.env), (false, eval b X.env)] := by rfl) (hs1 : starEach [b] X.env = [(false, eval b X.env)] := by rfl) : SI T X W tg (.Call (.Name "range" p) [a, b] [] pos) (fItR2 f) := fun env h m σ H R' hE hS ho => by
  refine ⟨_, pi_range2 hg hm AX.pa hs hs1, ?_⟩
  refine hf env h m σ H _ hE hS (ho.bind fun us h1 m1 H1 vs ez g1 s1 r1 o1 => ?_)
  match us, o1, r1 with
  | [u1, u2], o1, r1 =>
    obtain ⟨v, v', ev, q, q'⟩ := rl2 r1
    replace o1 : Out T m1 H1 (wat W σ) (ItR T) (itR2' u1 u2 h1) R' := o1
    cases u1 <;> cases u2 <;> try exact o1.elim
    rename_i i j
    have q : v = .int i := q
    have q' : v' = .int j := q'
    subst ev q q'
    simp only [itR2'] at o1
    cases z : decide (-1000000000 ≤ i) && (decide (i ≤ 1000000000) && (decide (-1000000000 ≤ j) && decide (j ≤ 1000000000))) with
    | false => rw [z] at o1; exact o1.elim
    | true =>
      rw [z] at o1
      simp only [Bool.and_eq_true] at z
      obtain ⟨z1, z2, z3, z4⟩ := z
      have z1 := of_decide_eq_true z1
      have z2 := of_decide_eq_true z2
      have z3 := of_decide_eq_true z3
      have z4 := of_decide_eq_true z4
      refine ⟨i, j, rfl, ⟨by omega, by omega, by omega, by omega⟩, o1 m1 H1 _ (Grow.refl _ _) s1 (ItR_rng (T := T) (m0 := m1) (H0 := H1) (lo := i) (n := (j - i).toNat))⟩
  | [], o1, r1 => exact o1.elim
  | [u], o1, r1 => exact o1.elim
  | u :: u' :: _ :: _, o1, r1 => exact o1.elim
end
end VI

/-! VI, part T: facts that every program's reading asks for. -/
namespace VI
open PySem L2 PyProof.Rows PySem.Calls
def blkB (N : List Str) (sc scope : Scope) (own : List (Str × Nat)) : Bool :=
  decide (scope.kind = .function) && (scope.names.all fun y => decide (scope.names.lookup y.1 = some y.2)) && (own.all fun p => decide (N[p.2]? = some p.1)) &&
  (scope.names.all fun y => !decide (y.2 = .free) || (decide (sc.names.lookup y.1 = some .cell) || decide (sc.names.lookup y.1 = some .free))) &&
  (scope.names.all fun y => !(decide (y.2 = .local) || decide (y.2 = .cell)) || (decide (y.1 ∈ own.map (·.1)) || !decide (y.1 ∈ N)))
theorem blk_of {N : List Str} {sc scope : Scope} {own : List (Str × Nat)} (h : blkB N sc scope own = true) : BlkOk N sc scope own := by
  simp only [blkB, Bool.and_eq_true, List.all_eq_true, decide_eq_true_eq, Bool.or_eq_true, Bool.not_eq_true', decide_eq_false_iff_not, Bool.or_eq_false_iff] at h
  obtain ⟨⟨⟨⟨h1, h2⟩, h3⟩, h4⟩, h5⟩ := h
  refine ⟨h1, h2, h3, fun y hy e => ?_, fun y hy e => ?_⟩
  · rcases h4 y hy with z | z
    · exact absurd e z
    · exact z
  · rcases h5 y hy with z | z
    · rcases e with e | e
      · exact absurd e z.1
      · exact absurd e z.2
    · exact z
theorem bb_len : bootBuiltins "len" = some (.builtin "len") := by decide +kernel
theorem bb_all : bootBuiltins "all" = some (.builtin "all") := by decide +kernel
theorem bb_any : bootBuiltins "any" = some (.builtin "any") := by decide +kernel
theorem bb_isinstance : bootBuiltins "isinstance" = some (.builtin "isinstance") := by decide +kernel
theorem bb_int : bootBuiltins "int" = some (.type "int") := by decide +kernel
theorem bb_bool : bootBuiltins "bool" = some (.type "bool") := by decide +kernel
theorem bb_str : bootBuiltins "str" = some (.type "str") := by decide +kernel
theorem bb_tuple : bootBuiltins "tuple" = some (.type "tuple") := by decide +kernel
theorem bb_list : bootBuiltins "list" = some (.type "list") := by decide +kernel
theorem bb_dict : bootBuiltins "dict" = some (.type "dict") := by decide +kernel
theorem bb_enumerate : bootBuiltins "enumerate" = some (.type "enumerate") := by decide +kernel
def tabO (j : Nat) : TyU → Option Bool
  | .own c => if c = j then some true else none
  | _ => some false
theorem tabO_ok {T : Tb} {K : PySem.W.Frag} {j : Nat} {C : Addr} (g : T.gt j = .ref C) (I : InsTy K C) (k1 : PySem.W.kitOne K (.type "NoneType") (.ref C) = some false) (k2 : PySem.W.kitOne K (.type "bool") (.ref C) = some false) (k3 : PySem.W.kitOne K (.type "int") (.ref C) = some false)
    (k4 : PySem.W.kitOne K (.type "str") (.ref C) = some false) (k5 : PySem.W.kitOne K (.type "tuple") (.ref C) = some false) (k6 : PySem.W.kitOne K (.type "list") (.ref C) = some false) (k7 : PySem.W.kitOne K (.type "dict") (.ref C) = some false)
    (k8 : PySem.W.kitOne K (.ref C) (.ref C) = some true) : TabOk T K (tabO j) (.ref C) := by
  intro t b h
  cases t with
  | own c =>
    simp only [tabO] at h
    split at h
    · rename_i z
      subst z
      cases h
      exact ⟨_, ⟨C, g, I, rfl⟩, k8⟩
    · cases h
  | non => cases h; exact ⟨_, ⟨_, rfl, rfl⟩, k1⟩
  | bl => cases h; exact ⟨_, ⟨_, rfl, rfl⟩, k2⟩
  | int => cases h; exact ⟨_, ⟨_, rfl, rfl⟩, k3⟩
  | str => cases h; exact ⟨_, ⟨_, rfl, rfl⟩, k4⟩
  | tup => cases h; exact ⟨_, ⟨_, rfl, rfl⟩, k5⟩
  | lst => cases h; exact ⟨_, ⟨_, rfl, rfl⟩, k6⟩
  | dic => cases h; exact ⟨_, ⟨_, rfl, rfl⟩, k7⟩
theorem kc_own {K : PySem.W.Frag} {C : Addr} {t : Value} {r : Option Bool} (i : PySem.W.isClsIn K C = true) (y : PySem.W.typeIn K (.ref C) = some (.type "type")) (s : PySem.W.subIn K t (.ref C) = r) : PySem.W.kitCls K t (.ref C) = r := by
  have i' : (PySem.W.clsIn K C).isSome = true := i
  simp only [PySem.W.kitCls]
  rw [i', y]
  exact s
theorem kit_no {K : PySem.W.Frag} {C : Addr} {n : String} (i : PySem.W.isClsIn K C = true) (y : PySem.W.typeIn K (.ref C) = some (.type "type")) (s : PySem.W.subIn K (.type n) (.ref C) = some false) : PySem.W.kitOne K (.type n) (.ref C) = some false := by
  unfold PySem.W.kitOne
  exact (if_neg (fun z => by cases z)).trans (kc_own i y s)
theorem kit_me {K : PySem.W.Frag} {C : Addr} : PySem.W.kitOne K (.ref C) (.ref C) = some true := by
  unfold PySem.W.kitOne
  exact if_pos (by simp)
theorem exm_me {K : PySem.W.Frag} {C : Addr} (b : PySem.W.subIn K (.ref C) (.type "BaseException") = some true) (i : PySem.W.isClsIn K C = true) (y : PySem.W.typeIn K (.ref C) = some (.type "type")) (s : PySem.W.subIn K (.ref C) (.ref C) = some true) : PySem.W.exmOne K (.ref C) (.ref C) = some true := by
  unfold PySem.W.exmOne
  exact (if_pos (by rw [b]; rfl)).trans (kc_own i y s)
theorem kl_nil {P : Params} : PySem.W.KeysLit P [] := trivial
theorem kl_cons {P : Params} {x y : Str} {t : Tok} {v : Value} {es : List DictEntry} (e : y = x) (r : PySem.W.KeysLit P es) : PySem.W.KeysLit P (⟨PyData.keyHash P y, .str x t, v⟩ :: es) := ⟨⟨x, t, rfl, by rw [e]⟩, r⟩
/-- the text that an exception's own __init__ hands to its base's -/
def msgOf (st : Stmt) : Expr := match defBody st with
  | .Expr (.Call _ [_, m] _ _) _ :: _ => m
  | _ => .Constant .none 0 ⟨0, 0, 0, 0⟩
end VI

/-! VI, part U: a call on flat values needs none of the own objects. -/
namespace VI
open PySem L2
mutual
def fl0 : U → Bool
  | .tup us => fls us
  | .ref _ => false
  | _ => true
def fls : List U → Bool
  | [] => true
  | u :: us => fl0 u && fls us
end
def flatF : List (List Nat × U) → Bool
  | [] => true
  | (_, u) :: r => fl0 u && flatF r
def flatO : Option (List (List Nat × U)) → Bool
  | none => true
  | some fs => flatF fs
section
variable {T : Tb} {X : Cx} {W : WX'} {E : XK} {e a b c o : Expr} {es : List Expr} {pos p p2 : Pos}
mutual
theorem Rel.any {m m' : Mp} {H : Hp} : ∀ {u : U} {v : V}, fl0 u = true → Rel T m H u v → Rel T m' H u v
  | .non, _, _, r => r
  | .bl _, _, _, r => r
  | .int _, _, _, r => r
  | .str _, _, _, r => r
  | .tup us, _, h, r => by
    obtain ⟨a, vs, e, q, l⟩ := r
    simp only [fl0] at h
    exact ⟨a, vs, e, q, RelL.any h l⟩
  | .ref n, _, h, _ => by simp [fl0] at h
  | .g _, _, _, r => r
theorem RelL.any {m m' : Mp} {H : Hp} : ∀ {us : List U} {vs : List V}, fls us = true → RelL T m H us vs → RelL T m' H us vs
  | [], _, _, r => r
  | u :: us, _, h, r => by
    obtain ⟨v, w, e, q, l⟩ := r
    simp only [fls, Bool.and_eq_true] at h
    exact ⟨v, w, e, Rel.any h.1 q, RelL.any h.2 l⟩
end
theorem RelF.any {m m' : Mp} {H : Hp} : ∀ {us : List (List Nat × U)} {vs : List (Str × V)}, flatF us = true → RelF T m H us vs → RelF T m' H us vs
  | [], _, _, r => r
  | (f, u) :: us, _, h, r => by
    obtain ⟨v, w, e, q, l⟩ := r
    simp only [flatF, Bool.and_eq_true] at h
    exact ⟨v, w, e, q.any h.1, RelF.any h.2 l⟩
def m0 : Mp := fun _ => none
theorem sim0 {H : Hp} : SimH T m0 Hv.nil H := ⟨fun _ _ => rfl, (fun p a z => by cases z), (fun p o z => by rw [show Hv.nil.get p = none from Tr.get_lf p] at z; cases z), fun p q a z => by cases z⟩
theorem back {m1 m' : Mp} {h1 : Hv} {H1 H' : Hp} (g : Grow m0 H1 m' H') (s : SimH T m1 h1 H1) : Grow m1 H1 m1 H' ∧ SimH T m1 h1 H' := by
  have out : ∀ b o, H1 b = some o → H' b = some o := fun b o q => g.out b o q fun p z => by cases z
  have gg : Grow m1 H1 m1 H' := ⟨g.frz, fun _ _ z => z, g.tup, fun b o q _ => out b o q, g.kept, fun _ _ z => .inl z⟩
  refine ⟨gg, s.fresh, fun p b q => ?_, s.cod, s.inj⟩
  obtain ⟨o, q', r⟩ := s.dom p b q
  obtain ⟨u, hu, _⟩ := r.some
  exact ⟨o, q', r.up gg (by rw [hu]; exact out b u hu)⟩
def pureC (n : Nat) (mf : FM) : FM := fun us h1 => match fls us with
  | true => match nArgs n mf us Hv.nil with
    | .ok u _ => match fl0 u with
      | true => .ok u h1
      | false => .bad
    | .ex c fs _ => match flatO fs with
      | true => .ex c fs h1
      | false => .bad
    | .bad => .bad
  | false => nArgs n mf us h1
theorem pureC_ok {n : Nat} {mf : FM} {m : Mp} {h : Hv} {H : Hp} {us : List U} {vs : List V} {Q : VK} {E : XK} (hS : SimH T m h H) (r : RelL T m H us vs) (o : Out T m H E (RV T) (pureC n mf us h) Q) : spV T n mf vs H Q E := by
  unfold pureC at o
  cases z : fls us with
  | false => rw [z] at o; exact nArgs_ok hS r o
  | true =>
    rw [z] at o
    refine nArgs_ok (sim0 (T := T)) (r.any z) ?_
    cases y : nArgs n mf us Hv.nil with
    | bad => simp only [y] at o; exact o.elim
    | ok u h' =>
      simp only [y] at o
      cases x : fl0 u with
      | false => rw [x] at o; exact o.elim
      | true =>
        rw [x] at o
        intro m' H' b g s q
        obtain ⟨g1, s1⟩ := back g hS
        exact o m H' b g1 s1 (q.any x)
    | ex c fs h' =>
      simp only [y] at o
      cases x : flatO fs with
      | false => rw [x] at o; exact o.elim
      | true =>
        rw [x] at o
        intro m' H' cls d g s q
        obtain ⟨g1, s1⟩ := back g hS
        refine o m H' cls d g1 s1 ?_
        cases fs with
        | none => exact q
        | some fs => obtain ⟨q1, dd, vs, e1, e2, l⟩ := q; exact ⟨q1, dd, vs, e1, e2, l.any x⟩
theorem s_callP {x : Str} {k : Nat} {f : Addr} {fd : FuncData} {ps : List Str} {mf : FM} {fa : FL} (F : FnV X.prog X.w X.K X.mg X.base T k f fd ps mf) (hr : Room k X.A) (hg : Gl X x) (hm : X.mg x = some (.ref f)) (hk : PySem.W.keepIn X.K (.ref f) = true)
    (hb : Binds X.K fd ps []) (tk : Takes X W) (ha : SL T X W (e :: es) fa) (hdb : (x == ("__debug__" : Str)) = false := by decide) (he : starEach (e :: es) X.env = (false, eval e X.env) :: starEach es X.env := by rfl) (hpl : (backTo pos (starEach es X.env)).any (·.1) = false := by rfl) :
    SE T X W (.Call (.Name x p) (e :: es) [] pos) (fCa (pureC ps.length mf) fa) := fun env h m σ H Q hE hS ho => by
  refine ⟨_, pe_callS F hr hg hm hk hb (passAt tk) AX.pa hdb he hpl, ?_⟩
  exact ha env h m σ H _ hE hS (ho.bind fun us h1 m1 H1 vs _ g1 s1 r1 o1 => pureC_ok s1 r1 o1)
/-! == of instances whose class has its own -/
def rOwn (C : Addr) (sp : Sp) (E : XK) : V → V → Hp → VK → Prop := fun x y H Q => ∃ p q dp dq fp fq, x = .ref p ∧ y = .ref q ∧ H p = some (.ins C dp fp) ∧ H q = some (.ins C dq fq) ∧ sp [x, y] H (fun v H2 => (∃ k, v = .bl k) ∧ Q v H2) E
theorem op_own {n : Nat} {CT : CXT} {C f : Addr} {fd : FuncData} {ps : List Str} {sp : Sp} (F : FnOk X.prog X.w X.K X.mg X.base CT n f fd ps sp) (at_ : PySem.W.findIn X.K (.ref C) "__eq__" = some (some (.ref f)))
    (fn : PySem.W.isFn X.K (.ref f) = true) (bs : Binds X.K fd ps []) (pas : Passes CT X E) (hr : Room n X.A) : OpR X (compareOp .Eq) (rOwn C sp E) := by
  intro pins st sg Hq x y v u Qq Iv rx ry hq
  obtain ⟨p, q, dp, dq, fp, fq, ex, ey, hp, hq', spq⟩ := hq
  subst ex ey
  cases rx
  cases ry
  obtain ⟨_, Jp, _⟩ := ins_get Iv.hok hp
  obtain ⟨_, Jq, _⟩ := ins_get Iv.hok hq'
  obtain ⟨_, Jp, _⟩ := Jp.look
  obtain ⟨_, Jq, _⟩ := Jq.look
  obtain ⟨mm, fr⟩ := Iv.fr
  refine PySem.W.cmp_K (op := .Eq) (tb := .ref C) hr.units0 fr Iv.ok.mod.kin Jp Jq.type (by simp [PySem.W.notFirst]) at_ fn ?_
  have len := F.len _ _ _ _ spq
  have two : Vals [V.ref p, V.ref q] [Value.ref p, Value.ref q] := .cons rfl (.cons rfl .nil)
  have bnd := bs st [.ref p, .ref q] Iv.kIn (by simpa using len)
  refine wpAny_call (codeAny_mono (F.run X.A X.stack st Hq ⟨[.ref p, .ref q], []⟩ [.ref p, .ref q] [.ref p, .ref q] _ E hr Iv.env0 (by simpa using bnd) two spq) fun w st2 wq => ?_)
  cases w with
  | error er => exact pas pins sg Hq st er st2 Iv wq
  | ok ending =>
    cases ending with
    | ret w =>
      obtain ⟨z, H2, I2, rz, ⟨k, ez⟩, qz⟩ := Iv.after wq
      subst ez
      cases rz
      exact ⟨.bl k, H2, I2, rfl, qz⟩
    | next => exact False.elim wq
    | brk => exact False.elim wq
    | cont => exact False.elim wq
/-- == where instances of the class number c have their own -/
def gOwn (c : Nat) (mf : FM) (u1 u2 : U) (h : Hv) : R U := match isIns c [] u1 h, isIns c [] u2 h with
  | true, true => match nArgs 2 mf [u1, u2] h with
    | .ok (.bl k) h2 => .ok (.bl k) h2
    | _ => .bad
  | _, _ => .bad
theorem o_own {c n : Nat} {C f : Addr} {fd : FuncData} {ps : List Str} {mf : FM} (gc : T.gt c = .ref C) (F : FnV X.prog X.w X.K X.mg X.base T n f fd ps mf) (at_ : PySem.W.findIn X.K (.ref C) "__eq__" = some (some (.ref f)))
    (fn : PySem.W.isFn X.K (.ref f) = true) (bs : Binds X.K fd ps []) (hr : Room n X.A) (h2 : ps.length = 2 := by rfl) : OpS T X (compareOp .Eq) (gOwn c mf) := by
  intro m h H u1 u2 v1 v2 E Q hS r1 r2 o
  unfold gOwn at o
  cases z1 : isIns c [] u1 h with
  | false => rw [z1] at o; exact o.elim
  | true =>
    cases z2 : isIns c [] u2 h with
    | false => rw [z1, z2] at o; exact o.elim
    | true =>
      rw [z1, z2] at o
      obtain ⟨a1, d1, f1, e1, q1, _⟩ := isIns_ok hS r1 gc z1
      obtain ⟨a2, d2, f2, e2, q2, _⟩ := isIns_ok hS r2 gc z2
      refine ⟨_, op_own (E := fun _ _ _ => False) F at_ fn bs (fun pins sg Hq st er st2 _ z => by obtain ⟨_, _, _, _, _, _, _, _, _, _, _, _, z⟩ := z; exact z.elim) hr, a1, a2, d1, d2, f1, f2, e1, e2, q1, q2, ?_⟩
      rw [h2]
      refine nArgs_ok hS (RelL.cons r1 (RelL.cons r2 (us := []) (vs := []) rfl)) ?_
      cases y : nArgs 2 mf [u1, u2] h with
      | bad => rw [y] at o; exact o.elim
      | ex c' fs' h' => rw [y] at o; exact o.elim
      | ok u h' =>
        cases u with
        | bl k =>
          rw [y] at o
          intro m3 H3 v g3 s3 r3
          have r3 : v = .bl k := r3
          subst r3
          exact ⟨⟨k, rfl⟩, o m3 H3 _ g3 s3 rfl⟩
        | _ => rw [y] at o; exact o.elim
/-! several names from a tuple or a list -/
def gTpA (n : Nat) (gs : FGs) : FG := fun u env h => match u with
  | .ref p => match h.lst p with
    | some us => match Nat.beq us.length n with
      | true => gs us env h
      | false => .bad
    | none => .bad
  | u => gTp n gs u env h
theorem sg_tupA {k n : Nat} {L : List Nat} {gs : FGs} (hc : X.calm = true) (hg : SGs T X L es n gs) (hn : (assignEach es X.env).length = n := by rfl) (hst : (assignEach es X.env).findIdx? (·.1) = none := by rfl) (hK : T.K = X.K := by rfl) :
    SG T X L (.Tuple es k pos) (gTpA n gs) := fun u v env h m σ H Q r hE hS ho => by
  cases u with
  | ref p =>
    obtain ⟨a, e1, ev⟩ := r
    simp only [gTpA] at ho
    cases z : h.lst p with
    | none => rw [z] at ho; exact ho.elim
    | some us =>
      rw [z] at ho
      simp only at ho
      obtain ⟨vs, q, l⟩ := hS.lst e1 z
      cases y : Nat.beq us.length n with
      | false => rw [y] at ho; exact ho.elim
      | true =>
        rw [y] at ho
        have y := Nat.eq_of_beq_eq_true y
        exact ⟨_, pg_lst hc GsX.pgs hn hst, a, vs, ev, SqL.of q, by rw [← l.len]; exact y, hg us vs env h m σ H Q y l hE hS ho⟩
  | _ => exact sg_tup hc hg hn hst hK _ v env h m σ H Q r hE hS ho
end
end VI

/-! VI, part W: how a law begins and ends. -/
namespace VI
open PySem L2
section
variable {T : Tb} {X : Cx} {W : WX'} {E : XK} {e0 : Expr} {d : Str} {rest : List Stmt} {pos p1 p2 p3 p4 : Pos} {j0 j1 j2 : Nat}
theorem cut63 (ns : List Int) : cutL (ns.map U.int) none (some 63) = (ns.take 63).map U.int := by
  unfold cutL HT.sIx
  simp
/-- the own heap behind «draw = [script[:63], 0, 0]» -/
def lawH (ns : List Int) : Hv := (Hv.nil.new (.lst (ns.map .int))).new (.lst [.ref .o, .int 0, .int 0])
theorem rel_ints {m : Mp} {H : Hp} : ∀ ns : List Int, RelL T m H (ns.map U.int) (ns.map V.int)
  | [] => rfl
  | n :: ns => ⟨.int n, _, rfl, rfl, rel_ints ns⟩
theorem ss_lawhead {fb : FS} {a : Addr} {ns : List Int} {H : Hp} {D : Ends} {σ : St} {env : Ev} (hN : X.N.Nodup) (hi : X.N[1]? = some d) (hx : Loc X.env.scope d) (hl : X.fn d = true ∨ X.env.scope.names.lookup d = some .local) (he : PE X e0 (tVar 0))
    (hs : swapsWith (.List [.Subscript e0 (.Slice none (some (.Constant (.int 63) j0 p1)) none p2) p3, .Constant (.int 0) j1 p4, .Constant (.int 0) j2 p4'] pos') (some (.Name d pd)) pos.line X.env = pure false)
    (h1 : starEach [.Subscript e0 (.Slice none (some (.Constant (.int 63) j0 p1)) none p2) p3, .Constant (.int 0) j1 p4, .Constant (.int 0) j2 p4'] X.env = (false, eval (.Subscript e0 (.Slice none (some (.Constant (.int 63) j0 p1)) none p2) p3) X.env) :: starEach [.Constant (.int 0) j1 p4, .Constant (.int 0) j2 p4'] X.env)
    (h2 : starEach [.Constant (.int 0) j1 p4, .Constant (.int 0) j2 p4'] X.env = (false, eval (.Constant (.int 0) j1 p4) X.env) :: starEach [.Constant (.int 0) j2 p4'] X.env) (h3 : starEach [.Constant (.int 0) j2 p4'] X.env = (false, eval (.Constant (.int 0) j2 p4') X.env) :: starEach [] X.env)
    (hr : SSs T X W rest fb) (hS : SqL X.K H a (ns.map V.int)) (hlen : ns.length ≤ 63) (h0 : σ[0]? = some (some (.ref a))) (hE : EnvR T m0 H env σ)
    (o : OutS T m0 H W D (fb (env.set 1 (some (.ref (.z .o)))) (lawH ns))) :
    SsX X (.Assign [.Name d pd] (.List [.Subscript e0 (.Slice none (some (.Constant (.int 63) j0 p1)) none p2) p3, .Constant (.int 0) j1 p4, .Constant (.int 0) j2 p4'] pos') pos :: rest) D σ H := by
  refine ⟨_, pss_cons (ps_set (i := 1) hN hi hx (pe_lst (pa_cons (pe_slice sl_list he po_none (po_some pe_int)) (pa_cons pe_int (pa_cons pe_int pa_nil h3) h2) h1)) hs hl) SsX.pss, ?_⟩
  refine ⟨.ref a, h0, 63, rfl, a, ns.map V.int, rfl, hS, fun p hp => ?_⟩
  · show 3 ≤ sizeLine ∧ _
    refine ⟨by show 3 ≤ sizeLine; decide, fun q hq => ?_⟩
    have e63 : L2.cutV (ns.map V.int) none (some 63) = ns.map V.int := by
      have z : L2.cutV (ns.map V.int) none (some 63) = (ns.map V.int).take (min (63 : Nat) (ns.map V.int).length) := rfl
      rw [z, Nat.min_eq_right (by rw [List.length_map]; exact hlen), List.take_length]
    have g1 : Grow m0 H (m0.add Hv.nil.nx p) (upd H p (.lst (L2.cutV (ns.map V.int) none (some 63)))) := Grow.new (T := T) (o := .lst (L2.cutV (ns.map V.int) none (some 63))) sim0 hp
    have s1 : SimH T (m0.add Hv.nil.nx p) (Hv.nil.new (.lst (ns.map .int))) (upd H p (.lst (L2.cutV (ns.map V.int) none (some 63)))) := SimH.new sim0 hp ⟨_, upd_same, by rw [e63]; exact rel_ints ns⟩
    have rp : Rel T (m0.add Hv.nil.nx p) (upd H p (.lst (L2.cutV (ns.map V.int) none (some 63)))) (.ref .o) (.ref p) := ⟨p, if_pos rfl, rfl⟩
    have g2 := Grow.new (o := .lst [.ref p, .int 0, .int 0]) s1 hq
    have s2 := SimH.new (u := .lst [.ref .o, .int 0, .int 0]) s1 hq ⟨_, upd_same, ⟨.ref p, _, rfl, rp.up g2, .int 0, _, rfl, rfl, .int 0, _, rfl, rfl, rfl⟩⟩
    have gg := g1.trans g2
    refine hr _ _ _ _ _ _ ((hE.up gg).set (u := .ref (.z .o)) ⟨q, if_pos rfl, rfl⟩) s2 (o.up gg)
/-- what law promises: at every script, True -/
def spLaw (K : PySem.W.Frag) : Sp := fun vs H Q _ => ∃ (a : Addr) (ns : List Int), vs = [.ref a] ∧ SqL K H a (ns.map V.int) ∧ ns.length ≤ 63 ∧ ∀ H', Q (.bl true) H'
def lawOk : RS → Bool
  | .rt (.bl true) _ => true
  | _ => false
theorem outS_true {m : Mp} {H : Hp} {D : Ends} {rs : RS} (h : lawOk rs = true) (q : ∀ H', D.rt (.bl true) H') : OutS T m H W D rs := by
  cases rs with
  | rt u hh =>
    cases u with
    | bl k =>
      cases k with
      | true =>
        intro m' H' v g s r
        have r : v = .bl true := r
        subst r
        exact q H'
      | false => cases h
    | _ => cases h
  | _ => cases h
def gEqO (c : Nat) (mf : FM) (g : U → U → Hv → R U) (u1 u2 : U) (h : Hv) : R U := match isIns c [] u1 h with
  | true => gOwn c mf u1 u2 h
  | false => g u1 u2 h
theorem o_eqO {c : Nat} {mf : FM} {g : U → U → Hv → R U} (h1 : OpS T X (compareOp .Eq) (gOwn c mf)) (h2 : OpS T X (compareOp .Eq) g) : OpS T X (compareOp .Eq) (gEqO c mf g) := by
  intro m h H u1 u2 v1 v2 E Q hS r1 r2 o
  unfold gEqO at o
  cases z : isIns c [] u1 h with
  | true => rw [z] at o; exact h1 m h H u1 u2 v1 v2 E Q hS r1 r2 o
  | false => rw [z] at o; exact h2 m h H u1 u2 v1 v2 E Q hS r1 r2 o
end
end VI

namespace P03
open PySem L2 VI PyProof.Rows PySem.Calls
def top (i : Nat) : Stmt := PySem.Challenge.pw_twinleaves_k03_known_texts.main.body.getD i (.Pass ⟨0, 0, 0, 0⟩)
abbrev s_is_integer : Stmt := top 6
abbrev s_is_between : Stmt := top 7
abbrev s_is_word : Stmt := top 8
abbrev s_is_step : Stmt := top 17
abbrev s_fits : Stmt := top 18
abbrev s_is_way : Stmt := top 19
abbrev s_is_total : Stmt := top 20
abbrev s_is_term : Stmt := top 21
abbrev s_steps_like : Stmt := top 23
abbrev s_repeated : Stmt := top 24
abbrev s_judge_layout : Stmt := top 25
abbrev s_kind_of : Stmt := top 31
abbrev s_pieces_of : Stmt := top 32
abbrev s_is_figures : Stmt := top 33
abbrev s_read_script : Stmt := top 35
abbrev s_lines_of : Stmt := top 36
abbrev s_is_left_out : Stmt := top 37
abbrev s_read_layout : Stmt := top 38
abbrev s_read_step : Stmt := top 39
abbrev s_read_part : Stmt := top 40
abbrev s_read_way : Stmt := top 41
abbrev s_read_total : Stmt := top 42
abbrev s_read_sign : Stmt := top 43
abbrev s_read_term : Stmt := top 44
abbrev s_law_cell_at : Stmt := top 46
abbrev s_law_draw : Stmt := top 47
abbrev s_law_number : Stmt := top 48
abbrev s_law_next : Stmt := top 49
abbrev s_law_pick : Stmt := top 50
abbrev s_law_told : Stmt := top 51
abbrev s_law : Stmt := top 52
abbrev s_BadScript_init : Stmt := inClass (top 2) 0
abbrev s_BadText_init : Stmt := inClass (top 3) 0
abbrev s_Script_init : Stmt := inClass (top 22) 0
abbrev s_Script_eq : Stmt := inClass (top 22) 1
abbrev s_Script_len : Stmt := inClass (top 22) 2
abbrev s_Script_iter : Stmt := inClass (top 22) 3
abbrev s_Script_contains : Stmt := inClass (top 22) 4
abbrev s_Script_add : Stmt := inClass (top 22) 5
abbrev s_Script_radd : Stmt := inClass (top 22) 6
abbrev s_Script_mul : Stmt := inClass (top 22) 7
abbrev s_Script_rmul : Stmt := inClass (top 22) 8
abbrev s_Script_part : Stmt := inClass (top 22) 9
abbrev s_Line_init : Stmt := inClass (top 34) 0
abbrev s_Line_next_piece : Stmt := inClass (top 34) 1
abbrev s_Line_take : Stmt := inClass (top 34) 2
abbrev s_Line_spot : Stmt := inClass (top 34) 3
abbrev s_Line_take_word : Stmt := inClass (top 34) 4
abbrev s_Line_take_mark : Stmt := inClass (top 34) 5
abbrev s_Line_take_one_of : Stmt := inClass (top 34) 6
abbrev s_Line_take_number : Stmt := inClass (top 34) 7
abbrev s_Line_take_figures : Stmt := inClass (top 34) 8
abbrev s_Line_finish : Stmt := inClass (top 34) 9
structure Ad where
  c_BadText : Addr
  c_LeafError : Addr
  c_Line : Addr
  c_Script : Addr
  d_BadText_init : FuncData
  d_Line_finish : FuncData
  d_Line_init : FuncData
  d_Line_next_piece : FuncData
  d_Line_spot : FuncData
  d_Line_take : FuncData
  d_Line_take_figures : FuncData
  d_Line_take_mark : FuncData
  d_Line_take_number : FuncData
  d_Line_take_one_of : FuncData
  d_Line_take_word : FuncData
  d_Script_eq : FuncData
  d_Script_init : FuncData
  d_fits : FuncData
  d_is_between : FuncData
  d_is_figures : FuncData
  d_is_integer : FuncData
  d_is_left_out : FuncData
  d_is_step : FuncData
  d_is_term : FuncData
  d_is_total : FuncData
  d_is_way : FuncData
  d_is_word : FuncData
  d_kind_of : FuncData
  d_law : FuncData
  d_law_cell_at : FuncData
  d_law_draw : FuncData
  d_law_next : FuncData
  d_law_number : FuncData
  d_law_pick : FuncData
  d_law_told : FuncData
  d_lines_of : FuncData
  d_pieces_of : FuncData
  d_read_layout : FuncData
  d_read_part : FuncData
  d_read_script : FuncData
  d_read_sign : FuncData
  d_read_step : FuncData
  d_read_term : FuncData
  d_read_total : FuncData
  d_read_way : FuncData
  f_BadText_init : Addr
  f_Line_finish : Addr
  f_Line_init : Addr
  f_Line_next_piece : Addr
  f_Line_spot : Addr
  f_Line_take : Addr
  f_Line_take_figures : Addr
  f_Line_take_mark : Addr
  f_Line_take_number : Addr
  f_Line_take_one_of : Addr
  f_Line_take_word : Addr
  f_Script_eq : Addr
  f_Script_init : Addr
  f_fits : Addr
  f_is_between : Addr
  f_is_figures : Addr
  f_is_integer : Addr
  f_is_left_out : Addr
  f_is_step : Addr
  f_is_term : Addr
  f_is_total : Addr
  f_is_way : Addr
  f_is_word : Addr
  f_kind_of : Addr
  f_law : Addr
  f_law_cell_at : Addr
  f_law_draw : Addr
  f_law_next : Addr
  f_law_number : Addr
  f_law_pick : Addr
  f_law_told : Addr
  f_lines_of : Addr
  f_pieces_of : Addr
  f_read_layout : Addr
  f_read_part : Addr
  f_read_script : Addr
  f_read_sign : Addr
  f_read_step : Addr
  f_read_term : Addr
  f_read_total : Addr
  f_read_way : Addr
  v_RIGHTS : V
def kd0 : Kd := fun i => match i with
  | 50 => some [([116, 97, 115, 107], .tup [.str [119, 111, 114, 100]]), ([101, 110, 100], .tup [.str [119, 111, 114, 100]]), ([102, 111, 114, 107], .tup [.str [119, 111, 114, 100], .str [119, 111, 114, 100]]), ([102, 105, 108, 101], .tup [.str [119, 111, 114, 100], .str [115, 105, 122, 101]]), ([99, 117, 116], .tup [.str [119, 111, 114, 100], .str [115, 105, 122, 101]]), ([109, 97, 112], .tup [.str [119, 111, 114, 100], .str [110, 117, 109, 98, 101, 114], .str [109, 97, 110, 121], .str [119, 97, 121], .str [114, 105, 103, 104, 116, 115]]), ([117, 110, 109, 97, 112], .tup [.str [119, 111, 114, 100], .str [110, 117, 109, 98, 101, 114], .str [109, 97, 110, 121]]), ([103, 117, 97, 114, 100], .tup [.str [119, 111, 114, 100], .str [110, 117, 109, 98, 101, 114], .str [109, 97, 110, 121], .str [114, 105, 103, 104, 116, 115]]), ([109, 111, 118, 101], .tup [.str [119, 111, 114, 100], .str [110, 117, 109, 98, 101, 114], .str [109, 97, 110, 121], .str [103, 111, 97, 108]]), ([112, 117, 116], .tup [.str [119, 111, 114, 100], .str [110, 117, 109, 98, 101, 114], .str [99, 101, 108, 108], .str [116, 111, 116, 97, 108]]), ([115, 104, 111, 119], .tup [.str [119, 111, 114, 100], .str [110, 117, 109, 98, 101, 114], .str [99, 101, 108, 108]])]
  | 51 => some [([110, 117, 109, 98, 101, 114], .tup [.int 0, .int 999]), ([99, 101, 108, 108], .tup [.int 0, .int 999]), ([103, 111, 97, 108], .tup [.int 0, .int 999]), ([115, 105, 122, 101], .tup [.int 0, .int 64]), ([109, 97, 110, 121], .tup [.int 1, .int 64])]
  | _ => none
structure Fx (T : Tb) (w : World) (mg : Str → Option Value) (A : Ad) : Prop where
  kd : KdsOk T T.K w kd0
  F_law : Fun T.K "law" "law" s_law A.f_law A.d_law
  B_law : Binds T.K A.d_law ["script"] []
  G_law : mg "law" = some (.ref A.f_law)
  K_law : PySem.W.keepIn T.K (.ref A.f_law) = true
  F_law_next : Fun T.K "_law_next" "_law_next" s_law_next A.f_law_next A.d_law_next
  B_law_next : Binds T.K A.d_law_next ["draw", "bound"] []
  G_law_next : mg "_law_next" = some (.ref A.f_law_next)
  K_law_next : PySem.W.keepIn T.K (.ref A.f_law_next) = true
  F_law_cell_at : Fun T.K "_law_cell_at" "_law_cell_at" s_law_cell_at A.f_law_cell_at A.d_law_cell_at
  B_law_cell_at : Binds T.K A.d_law_cell_at ["script", "k"] []
  G_law_cell_at : mg "_law_cell_at" = some (.ref A.f_law_cell_at)
  K_law_cell_at : PySem.W.keepIn T.K (.ref A.f_law_cell_at) = true
  m_len : mg "len" = none
  F_law_number : Fun T.K "_law_number" "_law_number" s_law_number A.f_law_number A.d_law_number
  B_law_number : Binds T.K A.d_law_number ["cell", "k", "bound"] []
  G_law_number : mg "_law_number" = some (.ref A.f_law_number)
  K_law_number : PySem.W.keepIn T.K (.ref A.f_law_number) = true
  m_int : mg "int" = none
  m_range : mg "range" = none
  F_law_draw : Fun T.K "_law_draw" "_law_draw" s_law_draw A.f_law_draw A.d_law_draw
  B_law_draw : Binds T.K A.d_law_draw ["cell", "k", "bound"] []
  G_law_draw : mg "_law_draw" = some (.ref A.f_law_draw)
  K_law_draw : PySem.W.keepIn T.K (.ref A.f_law_draw) = true
  F_law_told : Fun T.K "_law_told" "_law_told" s_law_told A.f_law_told A.d_law_told
  B_law_told : Binds T.K A.d_law_told ["text"] []
  G_law_told : mg "_law_told" = some (.ref A.f_law_told)
  K_law_told : PySem.W.keepIn T.K (.ref A.f_law_told) = true
  F_read_script : Fun T.K "read_script" "read_script" s_read_script A.f_read_script A.d_read_script
  B_read_script : Binds T.K A.d_read_script ["told"] []
  G_read_script : mg "read_script" = some (.ref A.f_read_script)
  K_read_script : PySem.W.keepIn T.K (.ref A.f_read_script) = true
  m_isinstance : mg "isinstance" = none
  m_str : mg "str" = none
  F_BadText_init : Fun T.K "__init__" "BadText.__init__" s_BadText_init A.f_BadText_init A.d_BadText_init
  B_BadText_init : Binds T.K A.d_BadText_init ["self", "line", "column"] []
  g_BadText : T.gt 2 = .ref A.c_BadText
  G_BadText : mg "BadText" = some (.ref A.c_BadText)
  G_LeafError : mg "LeafError" = some (.ref A.c_LeafError)
  O_BadText : OexC T.K A.c_BadText
  I_BadText : PySem.W.findIn T.K (.ref A.c_BadText) "__init__" = some (some (.ref A.f_BadText_init))
  J_BadText : PySem.W.typeIn T.K (.ref A.f_BadText_init) = some (.type "function")
  N_BadText_line : PySem.W.findIn T.K (.ref A.c_BadText) "line" = some none
  N_BadText_column : PySem.W.findIn T.K (.ref A.c_BadText) "column" = some none
  R_LeafError : ∃ mc, ClX.CRead T.K A.c_LeafError mc ∧ PySem.W.findCls T.K (.ref A.c_LeafError) mc "__init__" = some (.val (.builtin "ValueError.__init__"))
  F_lines_of : Fun T.K "lines_of" "lines_of" s_lines_of A.f_lines_of A.d_lines_of
  B_lines_of : Binds T.K A.d_lines_of ["told"] []
  G_lines_of : mg "lines_of" = some (.ref A.f_lines_of)
  K_lines_of : PySem.W.keepIn T.K (.ref A.f_lines_of) = true
  m_enumerate : mg "enumerate" = none
  F_is_left_out : Fun T.K "is_left_out" "is_left_out" s_is_left_out A.f_is_left_out A.d_is_left_out
  B_is_left_out : Binds T.K A.d_is_left_out ["row"] []
  G_is_left_out : mg "is_left_out" = some (.ref A.f_is_left_out)
  K_is_left_out : PySem.W.keepIn T.K (.ref A.f_is_left_out) = true
  F_Line_init : Fun T.K "__init__" "Line.__init__" s_Line_init A.f_Line_init A.d_Line_init
  B_Line_init : Binds T.K A.d_Line_init ["self", "place", "row"] []
  g_Line : T.gt 4 = .ref A.c_Line
  G_Line : mg "Line" = some (.ref A.c_Line)
  fl_place : ∀ c ∈ [4], FldOk T T.K "place" c
  F_pieces_of : Fun T.K "pieces_of" "pieces_of" s_pieces_of A.f_pieces_of A.d_pieces_of
  B_pieces_of : Binds T.K A.d_pieces_of ["row"] []
  G_pieces_of : mg "pieces_of" = some (.ref A.f_pieces_of)
  K_pieces_of : PySem.W.keepIn T.K (.ref A.f_pieces_of) = true
  d_BLANK : ∃ u, mg "BLANK" = some u ∧ RelV (.str (strV [98, 108, 97, 110, 107])) u
  F_kind_of : Fun T.K "kind_of" "kind_of" s_kind_of A.f_kind_of A.d_kind_of
  B_kind_of : Binds T.K A.d_kind_of ["sign"] []
  G_kind_of : mg "kind_of" = some (.ref A.f_kind_of)
  K_kind_of : PySem.W.keepIn T.K (.ref A.f_kind_of) = true
  d_LETTER : ∃ u, mg "LETTER" = some u ∧ RelV (.str (strV [108, 101, 116, 116, 101, 114])) u
  d_FIGURE : ∃ u, mg "FIGURE" = some u ∧ RelV (.str (strV [102, 105, 103, 117, 114, 101])) u
  d_SIGN : ∃ u, mg "SIGN" = some u ∧ RelV (.str (strV [115, 105, 103, 110])) u
  fl_pieces : ∀ c ∈ [4], FldOk T T.K "pieces" c
  fl_behind : ∀ c ∈ [4], FldOk T T.K "behind" c
  fl_at : ∀ c ∈ [4], FldOk T T.K "at" c
  M_Line : Mk T.K A.c_Line A.f_Line_init
  F_read_layout : Fun T.K "read_layout" "read_layout" s_read_layout A.f_read_layout A.d_read_layout
  B_read_layout : Binds T.K A.d_read_layout ["line"] []
  G_read_layout : mg "read_layout" = some (.ref A.f_read_layout)
  K_read_layout : PySem.W.keepIn T.K (.ref A.f_read_layout) = true
  F_Line_take_mark : Fun T.K "take_mark" "Line.take_mark" s_Line_take_mark A.f_Line_take_mark A.d_Line_take_mark
  B_Line_take_mark : Binds T.K A.d_Line_take_mark ["self", "told"] []
  F_Line_take : Fun T.K "take" "Line.take" s_Line_take A.f_Line_take A.d_Line_take
  B_Line_take : Binds T.K A.d_Line_take ["self", "fit"] []
  F_Line_next_piece : Fun T.K "next_piece" "Line.next_piece" s_Line_next_piece A.f_Line_next_piece A.d_Line_next_piece
  B_Line_next_piece : Binds T.K A.d_Line_next_piece ["self"] []
  C_Line : Cls T.K A.c_Line
  H_Line_next_piece : Meth T.K A.c_Line "next_piece" A.f_Line_next_piece
  F_Line_spot : Fun T.K "spot" "Line.spot" s_Line_spot A.f_Line_spot A.d_Line_spot
  B_Line_spot : Binds T.K A.d_Line_spot ["self"] []
  H_Line_spot : Meth T.K A.c_Line "spot" A.f_Line_spot
  H_Line_take : Meth T.K A.c_Line "take" A.f_Line_take
  H_Line_take_mark : Meth T.K A.c_Line "take_mark" A.f_Line_take_mark
  F_Line_take_number : Fun T.K "take_number" "Line.take_number" s_Line_take_number A.f_Line_take_number A.d_Line_take_number
  B_Line_take_number : Binds T.K A.d_Line_take_number ["self", "low", "high"] []
  F_is_figures : Fun T.K "is_figures" "is_figures" s_is_figures A.f_is_figures A.d_is_figures
  B_is_figures : Binds T.K A.d_is_figures ["piece"] []
  G_is_figures : mg "is_figures" = some (.ref A.f_is_figures)
  K_is_figures : PySem.W.keepIn T.K (.ref A.f_is_figures) = true
  F_is_between : Fun T.K "is_between" "is_between" s_is_between A.f_is_between A.d_is_between
  B_is_between : Binds T.K A.d_is_between ["thing", "low", "high"] []
  G_is_between : mg "is_between" = some (.ref A.f_is_between)
  K_is_between : PySem.W.keepIn T.K (.ref A.f_is_between) = true
  F_is_integer : Fun T.K "is_integer" "is_integer" s_is_integer A.f_is_integer A.d_is_integer
  B_is_integer : Binds T.K A.d_is_integer ["thing"] []
  G_is_integer : mg "is_integer" = some (.ref A.f_is_integer)
  K_is_integer : PySem.W.keepIn T.K (.ref A.f_is_integer) = true
  m_bool : mg "bool" = none
  H_Line_take_number : Meth T.K A.c_Line "take_number" A.f_Line_take_number
  d_MOST_LEAVES : ∃ u, mg "MOST_LEAVES" = some u ∧ RelV (.int 64) u
  d_MOST_CELLS : ∃ u, mg "MOST_CELLS" = some u ∧ RelV (.int 4) u
  F_Line_finish : Fun T.K "finish" "Line.finish" s_Line_finish A.f_Line_finish A.d_Line_finish
  B_Line_finish : Binds T.K A.d_Line_finish ["self"] []
  H_Line_finish : Meth T.K A.c_Line "finish" A.f_Line_finish
  d_MOST_STEPS : ∃ u, mg "MOST_STEPS" = some u ∧ RelV (.int 300) u
  F_read_step : Fun T.K "read_step" "read_step" s_read_step A.f_read_step A.d_read_step
  B_read_step : Binds T.K A.d_read_step ["line"] []
  G_read_step : mg "read_step" = some (.ref A.f_read_step)
  K_read_step : PySem.W.keepIn T.K (.ref A.f_read_step) = true
  d_SHAPES : ∃ u, mg "SHAPES" = some u ∧ RelV (T.gt 50) u
  F_read_part : Fun T.K "read_part" "read_part" s_read_part A.f_read_part A.d_read_part
  B_read_part : Binds T.K A.d_read_part ["line", "part", "step"] []
  G_read_part : mg "read_part" = some (.ref A.f_read_part)
  K_read_part : PySem.W.keepIn T.K (.ref A.f_read_part) = true
  F_Line_take_word : Fun T.K "take_word" "Line.take_word" s_Line_take_word A.f_Line_take_word A.d_Line_take_word
  B_Line_take_word : Binds T.K A.d_Line_take_word ["self"] []
  F_is_word : Fun T.K "is_word" "is_word" s_is_word A.f_is_word A.d_is_word
  B_is_word : Binds T.K A.d_is_word ["thing"] []
  G_is_word : mg "is_word" = some (.ref A.f_is_word)
  K_is_word : PySem.W.keepIn T.K (.ref A.f_is_word) = true
  d_MOST_LETTERS : ∃ u, mg "MOST_LETTERS" = some u ∧ RelV (.int 8) u
  m_all : mg "all" = none
  H_Line_take_word : Meth T.K A.c_Line "take_word" A.f_Line_take_word
  F_Line_take_one_of : Fun T.K "take_one_of" "Line.take_one_of" s_Line_take_one_of A.f_Line_take_one_of A.d_Line_take_one_of
  B_Line_take_one_of : Binds T.K A.d_Line_take_one_of ["self", "told"] []
  H_Line_take_one_of : Meth T.K A.c_Line "take_one_of" A.f_Line_take_one_of
  d_RIGHTS : ∃ u, mg "RIGHTS" = some u ∧ RelV A.v_RIGHTS u
  r_RIGHTS : ∀ m H, Rel T m H (.tup [.str [114], .str [114, 119]]) A.v_RIGHTS
  F_read_way : Fun T.K "read_way" "read_way" s_read_way A.f_read_way A.d_read_way
  B_read_way : Binds T.K A.d_read_way ["line", "many"] []
  G_read_way : mg "read_way" = some (.ref A.f_read_way)
  K_read_way : PySem.W.keepIn T.K (.ref A.f_read_way) = true
  F_read_total : Fun T.K "read_total" "read_total" s_read_total A.f_read_total A.d_read_total
  B_read_total : Binds T.K A.d_read_total ["line"] []
  G_read_total : mg "read_total" = some (.ref A.f_read_total)
  K_read_total : PySem.W.keepIn T.K (.ref A.f_read_total) = true
  F_read_term : Fun T.K "read_term" "read_term" s_read_term A.f_read_term A.d_read_term
  B_read_term : Binds T.K A.d_read_term ["line", "factor"] []
  G_read_term : mg "read_term" = some (.ref A.f_read_term)
  K_read_term : PySem.W.keepIn T.K (.ref A.f_read_term) = true
  F_Line_take_figures : Fun T.K "take_figures" "Line.take_figures" s_Line_take_figures A.f_Line_take_figures A.d_Line_take_figures
  B_Line_take_figures : Binds T.K A.d_Line_take_figures ["self"] []
  H_Line_take_figures : Meth T.K A.c_Line "take_figures" A.f_Line_take_figures
  d_LIMITS : ∃ u, mg "LIMITS" = some u ∧ RelV (T.gt 51) u
  F_read_sign : Fun T.K "read_sign" "read_sign" s_read_sign A.f_read_sign A.d_read_sign
  B_read_sign : Binds T.K A.d_read_sign ["line"] []
  G_read_sign : mg "read_sign" = some (.ref A.f_read_sign)
  K_read_sign : PySem.W.keepIn T.K (.ref A.f_read_sign) = true
  d_MOST_TERMS : ∃ u, mg "MOST_TERMS" = some u ∧ RelV (.int 8) u
  m_tuple : mg "tuple" = none
  F_Script_init : Fun T.K "__init__" "Script.__init__" s_Script_init A.f_Script_init A.d_Script_init
  B_Script_init : Binds T.K A.d_Script_init ["self", "leaves", "cells", "steps"] []
  m_list : mg "list" = none
  F_is_step : Fun T.K "is_step" "is_step" s_is_step A.f_is_step A.d_is_step
  B_is_step : Binds T.K A.d_is_step ["thing"] []
  G_is_step : mg "is_step" = some (.ref A.f_is_step)
  K_is_step : PySem.W.keepIn T.K (.ref A.f_is_step) = true
  F_fits : Fun T.K "fits" "fits" s_fits A.f_fits A.d_fits
  B_fits : Binds T.K A.d_fits ["part", "thing"] []
  G_fits : mg "fits" = some (.ref A.f_fits)
  K_fits : PySem.W.keepIn T.K (.ref A.f_fits) = true
  F_is_way : Fun T.K "is_way" "is_way" s_is_way A.f_is_way A.d_is_way
  B_is_way : Binds T.K A.d_is_way ["thing"] []
  G_is_way : mg "is_way" = some (.ref A.f_is_way)
  K_is_way : PySem.W.keepIn T.K (.ref A.f_is_way) = true
  F_is_total : Fun T.K "is_total" "is_total" s_is_total A.f_is_total A.d_is_total
  B_is_total : Binds T.K A.d_is_total ["thing"] []
  G_is_total : mg "is_total" = some (.ref A.f_is_total)
  K_is_total : PySem.W.keepIn T.K (.ref A.f_is_total) = true
  F_is_term : Fun T.K "is_term" "is_term" s_is_term A.f_is_term A.d_is_term
  B_is_term : Binds T.K A.d_is_term ["thing"] []
  G_is_term : mg "is_term" = some (.ref A.f_is_term)
  K_is_term : PySem.W.keepIn T.K (.ref A.f_is_term) = true
  g_Script : T.gt 3 = .ref A.c_Script
  G_Script : mg "Script" = some (.ref A.c_Script)
  fl_leaves : ∀ c ∈ [3], FldOk T T.K "leaves" c
  fl_cells : ∀ c ∈ [3], FldOk T T.K "cells" c
  fl_steps : ∀ c ∈ [3], FldOk T T.K "steps" c
  M_Script : Mk T.K A.c_Script A.f_Script_init
  T_BadText : ∀ c b, (fun c => if c = 2 then some true else none) c = some b → ∀ C, T.gt c = .ref C → PySem.W.exmOne T.K (.ref C) (.ref A.c_BadText) = some b
  X_BadText : XfC T.K A.c_BadText
  F_Script_eq : Fun T.K "__eq__" "Script.__eq__" s_Script_eq A.f_Script_eq A.d_Script_eq
  B_Script_eq : Binds T.K A.d_Script_eq ["self", "other"] []
  tab_Script : TabOk T T.K (tabO 3) (.ref A.c_Script)
  E_Script : PySem.W.findIn T.K (.ref A.c_Script) "__eq__" = some (some (.ref A.f_Script_eq))
  Y_Script : PySem.W.isFn T.K (.ref A.f_Script_eq) = true
  F_law_pick : Fun T.K "_law_pick" "_law_pick" s_law_pick A.f_law_pick A.d_law_pick
  B_law_pick : Binds T.K A.d_law_pick ["draw", "things"] []
  G_law_pick : mg "_law_pick" = some (.ref A.f_law_pick)
  K_law_pick : PySem.W.keepIn T.K (.ref A.f_law_pick) = true
section
variable {P : Program} {w : World} {T : Tb} {mg : Str → Option Value} {base : Heap} {A : Ad}
theorem sc_law_cell_at : FnScope ["script", "k"] ["script", "k"] (defScope s_law_cell_at) := ⟨rfl, rfl, rfl, by decide +kernel, rfl, by decide +kernel, by decide +kernel⟩
def fs_law_cell_at_1 : FS := fIfS (fB (f2 gLt (fVar 1) (fCa gLen (fConsA (fVar 0) fNilA)))) (fRet (f2 (gIx kd0) (fVar 0) (fVar 1))) fNext
def fs_law_cell_at_2 : FS := fRet (fCon (.int 0))
def fb_law_cell_at : FS :=
  fSeq fs_law_cell_at_1 fs_law_cell_at_2
abbrev mf_law_cell_at : FM := mfOf 2 fb_law_cell_at
theorem ok_law_cell_at (Z : Fx T w mg A) : FnV P w T.K mg base T 1 A.f_law_cell_at A.d_law_cell_at ["script", "k"] mf_law_cell_at := by
  refine fnV Z.F_law_cell_at sc_law_cell_at (fun cdv Ar outer s H E hr => ?_)
  exact ss_cons (st_if (s_tcmp o_lt (s_var 1 (pv 1)) (s_callB c_len rfl Z.m_len bb_len (s_cons (s_var 0 (pv 0)) s_nil)) rfl) (ss_one (st_ret (s_ix (i_ix Z.kd) (s_var 0 (pv 0)) (s_var 1 (pv 1)) (fun _ _ => rfl)))) ss_nil) (ss_one (st_ret s_int))
theorem sc_law_draw : FnScope ["cell", "k", "bound", "primes"] ["cell", "k", "bound"] (defScope s_law_draw) := ⟨rfl, rfl, rfl, by decide +kernel, rfl, by decide +kernel, by decide +kernel⟩
def fs_law_draw_1 : FS := fAsg (fTup (fConsA (fCon (.int 1000003)) (fConsA (fCon (.int 1000033)) (fConsA (fCon (.int 1000037)) (fConsA (fCon (.int 1000039)) (fConsA (fCon (.int 1000081)) (fConsA (fCon (.int 1000099)) (fConsA (fCon (.int 1000117)) (fConsA (fCon (.int 1000121)) (fConsA (fCon (.int 1000133)) (fConsA (fCon (.int 1000151)) (fConsA (fCon (.int 1000159)) (fConsA (fCon (.int 1000171)) (fConsA (fCon (.int 1000183)) (fConsA (fCon (.int 1000187)) (fConsA (fCon (.int 1000193)) (fConsA (fCon (.int 1000199)) fNilA))))))))))))))))) (gNm 3)
def fs_law_draw_2 : FS := fRet (f2 gMod (f2 gMod (fCa gInt (fConsA (f2 gAdd (f2 gMul (fVar 0) (fCon (.int 48271))) (f2 gMul (fVar 1) (fCon (.int 69621)))) fNilA)) (f2 (gIx kd0) (fVar 3) (f2 gMod (fCa gInt (fConsA (fVar 1) fNilA)) (fCon (.int 16))))) (fVar 2))
def fb_law_draw : FS :=
  fSeq fs_law_draw_1 fs_law_draw_2
abbrev mf_law_draw : FM := mfOf 4 fb_law_draw
theorem ok_law_draw (Z : Fx T w mg A) : FnV P w T.K mg base T 1 A.f_law_draw A.d_law_draw ["cell", "k", "bound"] mf_law_draw := by
  refine fnV Z.F_law_draw sc_law_draw (fun cdv Ar outer s H E hr => ?_)
  exact ss_cons (st_set (i := 3) sc_law_draw.nd rfl (by first | exact .inl rfl | exact .inr rfl) (s_tup (s_cons s_int (s_cons s_int (s_cons s_int (s_cons s_int (s_cons s_int (s_cons s_int (s_cons s_int (s_cons s_int (s_cons s_int (s_cons s_int (s_cons s_int (s_cons s_int (s_cons s_int (s_cons s_int (s_cons s_int (s_cons s_int s_nil)))))))))))))))))) (ss_one (st_ret (s_bin o_mod (s_bin o_mod (s_callTy c_int rfl Z.m_int bb_int (s_cons (s_bin o_add (s_bin o_mul (s_var 0 (pv 0)) s_int) (s_bin o_mul (s_var 1 (pv 1)) s_int)) s_nil)) (s_ix (i_ix Z.kd) (s_var 3 (pv 3)) (s_bin o_mod (s_callTy c_int rfl Z.m_int bb_int (s_cons (s_var 1 (pv 1)) s_nil)) s_int) (fun _ _ => rfl))) (s_var 2 (pv 2)))))
theorem sc_law_number : FnScope ["cell", "k", "bound", "power", "lap", "remains", "small"] ["cell", "k", "bound"] (defScope s_law_number) := ⟨rfl, rfl, rfl, by decide +kernel, rfl, by decide +kernel, by decide +kernel⟩
def fs_law_number_1 : FS := fAsg (fCon (.int 1)) (gNm 3)
def fs_law_number_2 : FS := fFor (fItR1 (fConsA (f2 gMod (fCa gInt (fConsA (fVar 1) fNilA)) (fCon (.int 24))) fNilA)) (gNm 4) (fAsg (f2 gMul (fVar 3) (fCon (.int 1009))) (gNm 3))
def fs_law_number_3 : FS := fAsg (f2 gDiv (f2 gSub (fVar 0) (f2 gPow (fCon (.int 10)) (fCon (.int 18)))) (fVar 3)) (gNm 5)
def fs_law_number_4 : FS := fIfS (fB (f2 gGt (fVar 5) (fCon (.int 0)))) (fRet (f2 gMod (f2 gMod (fCa gInt (fConsA (fVar 5) fNilA)) (fCon (.int 1009))) (fVar 2))) fNext
def fs_law_number_5 : FS := fAsg (f2 gMod (fCa gInt (fConsA (fVar 0) fNilA)) (fCon (.int 1000003))) (gNm 6)
def fs_law_number_6 : FS := fRet (f2 gMod (fCa (nArgs 3 mf_law_draw) (fConsA (f2 gMul (f2 gAdd (fVar 6) (f2 gMul (fCon (.int 977)) (fVar 1))) (f2 gAdd (f2 gAdd (fVar 6) (f2 gMul (fCon (.int 31)) (fVar 1))) (fCon (.int 5)))) (fConsA (f2 gAdd (f2 gMod (fCa gInt (fConsA (fVar 1) fNilA)) (fCon (.int 9))) (fCon (.int 1))) (fConsA (fCon (.int 999983)) fNilA)))) (fVar 2))
def fb_law_number : FS :=
  fSeq fs_law_number_1 (fSeq fs_law_number_2 (fSeq fs_law_number_3 (fSeq fs_law_number_4 (fSeq fs_law_number_5 fs_law_number_6))))
abbrev mf_law_number : FM := mfOf 7 fb_law_number
theorem ok_law_number (Z : Fx T w mg A) : FnV P w T.K mg base T 2 A.f_law_number A.d_law_number ["cell", "k", "bound"] mf_law_number := by
  refine fnV Z.F_law_number sc_law_number (fun cdv Ar outer s H E hr => ?_)
  exact ss_cons (st_set (i := 3) sc_law_number.nd rfl (by first | exact .inl rfl | exact .inr rfl) s_int) (ss_cons (st_for psOf rfl (si_rng1 rfl Z.m_range (s_cons (s_bin o_mod (s_callTy c_int rfl Z.m_int bb_int (s_cons (s_var 1 (pv 1)) s_nil)) s_int) s_nil)) (sg_name (i := 4) sc_law_number.nd rfl (by first | exact .inl rfl | exact .inr rfl)) (ss_one (st_set (i := 3) sc_law_number.nd rfl (by first | exact .inl rfl | exact .inr rfl) (s_bin o_mul (s_var 3 (pv 3)) s_int))) (fun _ => rfl)) (ss_cons (st_set (i := 5) sc_law_number.nd rfl (by first | exact .inl rfl | exact .inr rfl) (s_bin o_div (s_bin o_sub (s_var 0 (pv 0)) (s_bin o_pow s_int s_int)) (s_var 3 (pv 3)))) (ss_cons (st_if (s_tcmp o_gt (s_var 5 (pv 5)) s_int rfl) (ss_one (st_ret (s_bin o_mod (s_bin o_mod (s_callTy c_int rfl Z.m_int bb_int (s_cons (s_var 5 (pv 5)) s_nil)) s_int) (s_var 2 (pv 2))))) ss_nil) (ss_cons (st_set (i := 6) sc_law_number.nd rfl (by first | exact .inl rfl | exact .inr rfl) (s_bin o_mod (s_callTy c_int rfl Z.m_int bb_int (s_cons (s_var 0 (pv 0)) s_nil)) s_int)) (ss_one (st_ret (s_bin o_mod (s_call (ps := ["cell", "k", "bound"]) (ok_law_draw Z) (hr.mono (by decide)) rfl Z.G_law_draw Z.K_law_draw Z.B_law_draw tkOf (s_cons (s_bin o_mul (s_bin o_add (s_var 6 (pv 6)) (s_bin o_mul s_int (s_var 1 (pv 1)))) (s_bin o_add (s_bin o_add (s_var 6 (pv 6)) (s_bin o_mul s_int (s_var 1 (pv 1)))) s_int)) (s_cons (s_bin o_add (s_bin o_mod (s_callTy c_int rfl Z.m_int bb_int (s_cons (s_var 1 (pv 1)) s_nil)) s_int) s_int) (s_cons s_int s_nil)))) (s_var 2 (pv 2)))))))))
theorem sc_law_next : FnScope ["draw", "bound", "at", "cell"] ["draw", "bound"] (defScope s_law_next) := ⟨rfl, rfl, rfl, by decide +kernel, rfl, by decide +kernel, by decide +kernel⟩
def fs_law_next_1 : FS := fAsg (f2 gAdd (f2 (gIx kd0) (fVar 0) (fCon (.int 2))) (fCon (.int 1))) (gStSub (fVar 0) (fCon (.int 2)))
def fs_law_next_2 : FS := fAsg (f2 gDiv (f2 (gIx kd0) (fVar 0) (fCon (.int 2))) (fCon (.int 12))) (gNm 2)
def fs_law_next_3 : FS := fAsg (f2 gAdd (fCa (nArgs 2 mf_law_cell_at) (fConsA (f2 (gIx kd0) (fVar 0) (fCon (.int 0))) (fConsA (f2 gAdd (f2 (gIx kd0) (fVar 0) (fCon (.int 1))) (fVar 2)) fNilA))) (f2 gMul (fCon (.int 31)) (fVar 2))) (gNm 3)
def fs_law_next_4 : FS := fRet (fCa (nArgs 3 mf_law_number) (fConsA (fVar 3) (fConsA (f2 gAdd (f2 gMod (fCa gInt (fConsA (f2 (gIx kd0) (fVar 0) (fCon (.int 2))) fNilA)) (fCon (.int 12))) (fCon (.int 1))) (fConsA (fVar 1) fNilA))))
def fb_law_next : FS :=
  fSeq fs_law_next_1 (fSeq fs_law_next_2 (fSeq fs_law_next_3 fs_law_next_4))
abbrev mf_law_next : FM := mfOf 4 fb_law_next
theorem ok_law_next (Z : Fx T w mg A) : FnV P w T.K mg base T 3 A.f_law_next A.d_law_next ["draw", "bound"] mf_law_next := by
  refine fnV Z.F_law_next sc_law_next (fun cdv Ar outer s H E hr => ?_)
  exact ss_cons (st_asg (s_bin o_add (s_ix (i_ix Z.kd) (s_var 0 (pv 0)) s_int (fun _ _ => rfl)) s_int) (sg_sub (s_var 0 (pv 0)) s_int (fun _ => rfl))) (ss_cons (st_set (i := 2) sc_law_next.nd rfl (by first | exact .inl rfl | exact .inr rfl) (s_bin o_div (s_ix (i_ix Z.kd) (s_var 0 (pv 0)) s_int (fun _ _ => rfl)) s_int)) (ss_cons (st_set (i := 3) sc_law_next.nd rfl (by first | exact .inl rfl | exact .inr rfl) (s_bin o_add (s_call (ps := ["script", "k"]) (ok_law_cell_at Z) (hr.mono (by decide)) rfl Z.G_law_cell_at Z.K_law_cell_at Z.B_law_cell_at tkOf (s_cons (s_ix (i_ix Z.kd) (s_var 0 (pv 0)) s_int (fun _ _ => rfl)) (s_cons (s_bin o_add (s_ix (i_ix Z.kd) (s_var 0 (pv 0)) s_int (fun _ _ => rfl)) (s_var 2 (pv 2))) s_nil))) (s_bin o_mul s_int (s_var 2 (pv 2))))) (ss_one (st_ret (s_call (ps := ["cell", "k", "bound"]) (ok_law_number Z) (hr.mono (by decide)) rfl Z.G_law_number Z.K_law_number Z.B_law_number tkOf (s_cons (s_var 3 (pv 3)) (s_cons (s_bin o_add (s_bin o_mod (s_callTy c_int rfl Z.m_int bb_int (s_cons (s_ix (i_ix Z.kd) (s_var 0 (pv 0)) s_int (fun _ _ => rfl)) s_nil)) s_int) s_int) (s_cons (s_var 1 (pv 1)) s_nil))))))))
theorem sc_BadText_init : FnScope ["self", "line", "column"] ["self", "line", "column"] (defScope s_BadText_init) := ⟨rfl, rfl, rfl, by decide +kernel, rfl, by decide +kernel, by decide +kernel⟩
def fm_BadText : FE := joinF [fCon (.str [108, 105, 110, 101, 32]), f1 gFmt (fVar 1), fCon (.str [44, 32, 99, 111, 108, 117, 109, 110, 32]), f1 gFmt (fVar 2), fCon (.str [32, 100, 111, 101, 115, 32, 110, 111, 116, 32, 102, 105, 116])] []
theorem ok_BadText (Z : Fx T w mg A) : FnOk P w T.K mg base (L2.CX P w) 1 A.f_BadText_init A.d_BadText_init ["self", "line", "column"] (spX2 T T.K A.c_BadText (strV [108, 105, 110, 101]) (strV [99, 111, 108, 117, 109, 110]) fm_BadText) := by
  refine ok_x2 (msg := msgOf s_BadText_init) Z.F_BadText_init sc_BadText_init Z.O_BadText Z.N_BadText_line Z.N_BadText_column rfl (fun cdv Ar outer s H E hr => ?_)
  obtain ⟨mc, r, at_⟩ := Z.R_LeafError
  refine ⟨pss_cons (ps_expr (pe_binit rfl Z.G_LeafError r at_ (pa_cons (pv 0) (pa_cons EX.pe pa_nil)))) (pss_cons (ps_ost (pv 0) (pv 1)) (pss_one (ps_ost (pv 0) (pv 2)))), ?_⟩
  exact s_join (.cons (s_str (l := [108, 105, 110, 101, 32]) (by decide +kernel)) (.cons (s_fmt (s_var 1 (pv 1))) (.cons (s_str (l := [44, 32, 99, 111, 108, 117, 109, 110, 32]) (by decide +kernel)) (.cons (s_fmt (s_var 2 (pv 2))) (.cons (s_str (l := [32, 100, 111, 101, 115, 32, 110, 111, 116, 32, 102, 105, 116]) (by decide +kernel)) .nil)))))
theorem sc_is_left_out : FnScope ["row", "bare"] ["row"] (defScope s_is_left_out) := ⟨rfl, rfl, rfl, by decide +kernel, rfl, by decide +kernel, by decide +kernel⟩
def fb_is_left_out : FS :=
  fSeq (fAsg (fMt 0 gStrip (fVar 0) (fConsA (fCon (.str [32])) fNilA)) (gNm 1)) (fRet (fOr (f2 gEq (fVar 1) (fCon (.str []))) (f2 gEq (f2 (gIx kd0) (fVar 1) (fCon (.int 0))) (fCon (.str [35])))))
abbrev mf_is_left_out : FM := mfOf 2 fb_is_left_out
theorem ok_is_left_out (Z : Fx T w mg A) : FnV P w T.K mg base T 1 A.f_is_left_out A.d_is_left_out ["row"] mf_is_left_out := by
  refine fnV Z.F_is_left_out sc_is_left_out (fun cdv Ar outer s H E hr => ?_)
  exact ss_cons (st_set (i := 1) sc_is_left_out.nd rfl (by first | exact .inl rfl | exact .inr rfl) (s_mt (ty := 0) PySem.F.plainAttrs_str F.slot_str_strip F.type_str_strip m_strip (s_var 0 (pv 0)) (s_cons (s_str (l := [32]) (by decide +kernel)) s_nil) rfl)) (ss_one (st_ret (s_or (s_cmp (o_eq hr) (s_var 1 (pv 1)) (s_str (l := []) (by decide +kernel)) rfl) (s_one (s_cmp (o_eq hr) (s_ix (i_ix Z.kd) (s_var 1 (pv 1)) s_int (fun _ _ => rfl)) (s_str (l := [35]) (by decide +kernel)) rfl)))))
theorem sc_kind_of : FnScope ["sign"] ["sign"] (defScope s_kind_of) := ⟨rfl, rfl, rfl, by decide +kernel, rfl, by decide +kernel, by decide +kernel⟩
def fb_kind_of : FS :=
  fSeq (fIfS (fB (fChain gLe gLe (fCon (.str [97])) (fVar 0) (fCon (.str [122])))) (fRet (fCon (.str [108, 101, 116, 116, 101, 114]))) fNext) (fSeq (fIfS (fB (fChain gLe gLe (fCon (.str [48])) (fVar 0) (fCon (.str [57])))) (fRet (fCon (.str [102, 105, 103, 117, 114, 101]))) fNext) (fRet (fIf (fB (f2 gEq (fVar 0) (fCon (.str [32])))) (fCon (.str [98, 108, 97, 110, 107])) (fCon (.str [115, 105, 103, 110])))))
abbrev mf_kind_of : FM := mfOf 1 fb_kind_of
theorem ok_kind_of (Z : Fx T w mg A) : FnV P w T.K mg base T 1 A.f_kind_of A.d_kind_of ["sign"] mf_kind_of := by
  refine fnV Z.F_kind_of sc_kind_of (fun cdv Ar outer s H E hr => ?_)
  exact ss_cons (st_if (s_tchain o_le o_le (s_str (l := [97]) (by decide +kernel)) (s_var 0 (pv 0)) (s_str (l := [122]) (by decide +kernel))) (ss_one (st_ret (s_con (C8.pe_gc rfl Z.d_LETTER) (fun _ _ => rfl)))) ss_nil) (ss_cons (st_if (s_tchain o_le o_le (s_str (l := [48]) (by decide +kernel)) (s_var 0 (pv 0)) (s_str (l := [57]) (by decide +kernel))) (ss_one (st_ret (s_con (C8.pe_gc rfl Z.d_FIGURE) (fun _ _ => rfl)))) ss_nil) (ss_one (st_ret (s_ifx (s_tcmp (o_eq hr) (s_var 0 (pv 0)) (s_str (l := [32]) (by decide +kernel)) rfl) (s_con (C8.pe_gc rfl Z.d_BLANK) (fun _ _ => rfl)) (s_con (C8.pe_gc rfl Z.d_SIGN) (fun _ _ => rfl))))))
theorem sc_pieces_of : FnScope ["row", "pieces", "last", "start", "at", "sign", "kind"] ["row"] (defScope s_pieces_of) := ⟨rfl, rfl, rfl, by decide +kernel, rfl, by decide +kernel, by decide +kernel⟩
def fb_pieces_of : FS :=
  fSeq (fAsg (fLst fNilA) (gNm 1)) (fSeq (fAsg (fCon (.str [98, 108, 97, 110, 107])) (gNm 2)) (fSeq (fAsg (fCon (.int 0)) (gNm 3)) (fSeq (fFor (fItEA (f2 gAdd (fVar 0) (fCon (.str [32])))) (gTpA 2 (gsCons (gNm 4) (gsCons (gNm 5) gsNil))) (fSeq (fAsg (fCa (nArgs 1 mf_kind_of) (fConsA (fVar 5) fNilA)) (gNm 6)) (fSeq (fIfS (fAndT (fB (f2 gEq (fVar 6) (fVar 2))) (fB (f2 gNe (fVar 6) (fCon (.str [115, 105, 103, 110]))))) fCont fNext) (fSeq (fIfS (fB (f2 gNe (fVar 2) (fCon (.str [98, 108, 97, 110, 107])))) (fExpr (fMt 1 gAppend (fVar 1) (fConsA (fTup (fConsA (fSl gSl (fVar 0) (fSomeO (fVar 3)) (fSomeO (fVar 4))) (fConsA (f2 gAdd (fVar 3) (fCon (.int 1))) fNilA))) fNilA))) fNext) (fSeq (fAsg (fVar 6) (gNm 2)) (fAsg (fVar 4) (gNm 3))))))) (fRet (fVar 1)))))
abbrev mf_pieces_of : FM := mfOf 7 fb_pieces_of
theorem ok_pieces_of (Z : Fx T w mg A) : FnV P w T.K mg base T 2 A.f_pieces_of A.d_pieces_of ["row"] mf_pieces_of := by
  refine fnV Z.F_pieces_of sc_pieces_of (fun cdv Ar outer s H E hr => ?_)
  exact ss_cons (st_set (i := 1) sc_pieces_of.nd rfl (by first | exact .inl rfl | exact .inr rfl) (s_lst s_nil)) (ss_cons (st_set (i := 2) sc_pieces_of.nd rfl (by first | exact .inl rfl | exact .inr rfl) (s_con (C8.pe_gc rfl Z.d_BLANK) (fun _ _ => rfl))) (ss_cons (st_set (i := 3) sc_pieces_of.nd rfl (by first | exact .inl rfl | exact .inr rfl) s_int) (ss_cons (st_for psOf rfl (si_enA rfl Z.m_enumerate bb_enumerate (s_bin o_add (s_var 0 (pv 0)) (s_str (l := [32]) (by decide +kernel)))) (sg_tupA rfl (sgs_cons (sg_name (i := 4) sc_pieces_of.nd rfl (by first | exact .inl rfl | exact .inr rfl)) (sgs_cons (sg_name (i := 5) sc_pieces_of.nd rfl (by first | exact .inl rfl | exact .inr rfl)) sgs_nil))) (ss_cons (st_set (i := 6) sc_pieces_of.nd rfl (by first | exact .inl rfl | exact .inr rfl) (s_call (ps := ["sign"]) (ok_kind_of Z) (hr.mono (by decide)) rfl Z.G_kind_of Z.K_kind_of Z.B_kind_of tkOf (s_cons (s_var 5 (pv 5)) s_nil))) (ss_cons (st_if (s_w (s_wand (s_tcmp (o_eq hr) (s_var 6 (pv 6)) (s_var 2 (pv 2)) rfl) (s_wand1 (s_tcmp (o_ne hr) (s_var 6 (pv 6)) (s_con (C8.pe_gc rfl Z.d_SIGN) (fun _ _ => rfl)) rfl)))) (ss_one st_cont) ss_nil) (ss_cons (st_if (s_tcmp (o_ne hr) (s_var 2 (pv 2)) (s_con (C8.pe_gc rfl Z.d_BLANK) (fun _ _ => rfl)) rfl) (ss_one (st_expr (s_mt (ty := 1) PySem.F.plainAttrs_list F.slot_list_append F.type_list_append m_append (s_var 1 (pv 1)) (s_cons (s_tup (s_cons (s_sl sl_any (s_var 0 (pv 0)) (s_someO (s_var 3 (pv 3))) (s_someO (s_var 4 (pv 4)))) (s_cons (s_bin o_add (s_var 3 (pv 3)) s_int) s_nil))) s_nil) rfl))) ss_nil) (ss_cons (st_set (i := 2) sc_pieces_of.nd rfl (by first | exact .inl rfl | exact .inr rfl) (s_var 6 (pv 6))) (ss_one (st_set (i := 3) sc_pieces_of.nd rfl (by first | exact .inl rfl | exact .inr rfl) (s_var 4 (pv 4)))))))) (fun _ => rfl)) (ss_one (st_ret (s_var 1 (pv 1)))))))
theorem sc_Line_init : FnScope ["self", "place", "row"] ["self", "place", "row"] (defScope s_Line_init) := ⟨rfl, rfl, rfl, by decide +kernel, rfl, by decide +kernel, by decide +kernel⟩
def fb_Line_init : FS :=
  fSeq (fStF [4] [112, 108, 97, 99, 101] (fVar 0) (fVar 1)) (fSeq (fStF [4] [112, 105, 101, 99, 101, 115] (fVar 0) (fCa (nArgs 1 mf_pieces_of) (fConsA (fVar 2) fNilA))) (fSeq (fStF [4] [98, 101, 104, 105, 110, 100] (fVar 0) (f2 gAdd (fCa gLen (fConsA (fVar 2) fNilA)) (fCon (.int 1)))) (fStF [4] [97, 116] (fVar 0) (fCon (.int 0)))))
abbrev mf_Line_init : FM := mfOf 3 fb_Line_init
theorem ok_Line_init (Z : Fx T w mg A) : FnV P w T.K mg base T 3 A.f_Line_init A.d_Line_init ["self", "place", "row"] mf_Line_init := by
  refine fnV Z.F_Line_init sc_Line_init (fun cdv Ar outer s H E hr => ?_)
  exact ss_cons (st_fld (f := [112, 108, 97, 99, 101]) Z.fl_place (s_var 0 (pv 0)) (s_var 1 (pv 1)) rfl) (ss_cons (st_fld (f := [112, 105, 101, 99, 101, 115]) Z.fl_pieces (s_var 0 (pv 0)) (s_call (ps := ["row"]) (ok_pieces_of Z) (hr.mono (by decide)) rfl Z.G_pieces_of Z.K_pieces_of Z.B_pieces_of tkOf (s_cons (s_var 2 (pv 2)) s_nil)) rfl) (ss_cons (st_fld (f := [98, 101, 104, 105, 110, 100]) Z.fl_behind (s_var 0 (pv 0)) (s_bin o_add (s_callB c_len rfl Z.m_len bb_len (s_cons (s_var 2 (pv 2)) s_nil)) s_int) rfl) (ss_one (st_fld (f := [97, 116]) Z.fl_at (s_var 0 (pv 0)) s_int rfl))))
theorem sc_lines_of : FnScope ["told", "at", "row"] ["told"] (defScope s_lines_of) := ⟨rfl, rfl, rfl, by decide +kernel, rfl, by decide +kernel, by decide +kernel⟩
def fb_lines_of : FS :=
  fRet (fComp (fItEA (fMt 0 gSplit (fVar 0) (fConsA (fCon (.str [10])) fNilA))) [1, 2] (gTpA 2 (gsCons (gNm 1) (gsCons (gNm 2) gsNil))) (fNotT (fB (fCa (nArgs 1 mf_is_left_out) (fConsA (fVar 2) fNilA)))) (fCa (mkI 4 3 mf_Line_init) (fConsA (f2 gAdd (fCon (.int 1)) (fVar 1)) (fConsA (fVar 2) fNilA))))
abbrev mf_lines_of : FM := mfOf 3 fb_lines_of
theorem ok_lines_of (Z : Fx T w mg A) : FnV P w T.K mg base T 5 A.f_lines_of A.d_lines_of ["told"] mf_lines_of := by
  refine fnV Z.F_lines_of sc_lines_of (fun cdv Ar outer s H E hr => ?_)
  exact ss_one (st_ret (s_comp rfl sc_lines_of.nd (own := [("at", 1), ("row", 2)]) (blk_of (N := ["told", "at", "row"]) (sc := defScope s_lines_of) (by decide +kernel)) (si_enA rfl Z.m_enumerate bb_enumerate (s_mt (ty := 0) PySem.F.plainAttrs_str F.slot_str_split F.type_str_split m_split (s_var 0 (pv 0)) (s_cons (s_str (l := [10]) (by decide +kernel)) s_nil) rfl)) (fun _ _ _ _ _ => sg_tupA rfl (sgs_cons (sg_name (i := 1) sc_lines_of.nd rfl (by first | exact .inl rfl | exact .inr rfl)) (sgs_cons (sg_name (i := 2) sc_lines_of.nd rfl (by first | exact .inl rfl | exact .inr rfl)) sgs_nil))) (fun _ _ _ _ _ => sts_one (s_tnot (s_tval (s_call (ps := ["row"]) (ok_is_left_out Z) (hr.mono (by decide)) rfl Z.G_is_left_out Z.K_is_left_out Z.B_is_left_out takes0 (s_cons (s_var 2 (pv 2)) s_nil)) (fun _ => rfl)))) (fun _ _ _ _ _ => s_make (ps := ["self", "place", "row"]) (c := 4) Z.g_Line Z.M_Line (ok_Line_init Z) (hr.mono (by decide)) rfl Z.G_Line Z.B_Line_init takes0 (s_cons (s_bin o_add s_int (s_var 1 (pv 1))) (s_cons (s_var 2 (pv 2)) s_nil))) (by decide) (fun _ => rfl)))
theorem sc_Line_next_piece : FnScope ["self"] ["self"] (defScope s_Line_next_piece) := ⟨rfl, rfl, rfl, by decide +kernel, rfl, by decide +kernel, by decide +kernel⟩
def fb_Line_next_piece : FS :=
  fSeq (fIfS (fB (f2 gEq (f1 (gFld [4] [97, 116]) (fVar 0)) (fCa gLen (fConsA (f1 (gFld [4] [112, 105, 101, 99, 101, 115]) (fVar 0)) fNilA)))) (fRet (fCon (.str []))) fNext) (fRet (f2 (gIx kd0) (f2 (gIx kd0) (f1 (gFld [4] [112, 105, 101, 99, 101, 115]) (fVar 0)) (f1 (gFld [4] [97, 116]) (fVar 0))) (fCon (.int 0))))
abbrev mf_Line_next_piece : FM := mfOf 1 fb_Line_next_piece
theorem ok_Line_next_piece (Z : Fx T w mg A) : FnV P w T.K mg base T 1 A.f_Line_next_piece A.d_Line_next_piece ["self"] mf_Line_next_piece := by
  refine fnV Z.F_Line_next_piece sc_Line_next_piece (fun cdv Ar outer s H E hr => ?_)
  exact ss_cons (st_if (s_tcmp (o_eq hr) (s_fld (f := [97, 116]) Z.fl_at (s_var 0 (pv 0)) rfl) (s_callB c_len rfl Z.m_len bb_len (s_cons (s_fld (f := [112, 105, 101, 99, 101, 115]) Z.fl_pieces (s_var 0 (pv 0)) rfl) s_nil)) rfl) (ss_one (st_ret (s_str (l := []) (by decide +kernel)))) ss_nil) (ss_one (st_ret (s_ix (i_ix Z.kd) (s_ix (i_ix Z.kd) (s_fld (f := [112, 105, 101, 99, 101, 115]) Z.fl_pieces (s_var 0 (pv 0)) rfl) (s_fld (f := [97, 116]) Z.fl_at (s_var 0 (pv 0)) rfl) (fun _ _ => rfl)) s_int (fun _ _ => rfl))))
theorem sc_Line_spot : FnScope ["self"] ["self"] (defScope s_Line_spot) := ⟨rfl, rfl, rfl, by decide +kernel, rfl, by decide +kernel, by decide +kernel⟩
def fb_Line_spot : FS :=
  fSeq (fIfS (fB (f2 gEq (f1 (gFld [4] [97, 116]) (fVar 0)) (fCa gLen (fConsA (f1 (gFld [4] [112, 105, 101, 99, 101, 115]) (fVar 0)) fNilA)))) (fRet (f1 (gFld [4] [98, 101, 104, 105, 110, 100]) (fVar 0))) fNext) (fRet (f2 (gIx kd0) (f2 (gIx kd0) (f1 (gFld [4] [112, 105, 101, 99, 101, 115]) (fVar 0)) (f1 (gFld [4] [97, 116]) (fVar 0))) (fCon (.int 1))))
abbrev mf_Line_spot : FM := mfOf 1 fb_Line_spot
theorem ok_Line_spot (Z : Fx T w mg A) : FnV P w T.K mg base T 1 A.f_Line_spot A.d_Line_spot ["self"] mf_Line_spot := by
  refine fnV Z.F_Line_spot sc_Line_spot (fun cdv Ar outer s H E hr => ?_)
  exact ss_cons (st_if (s_tcmp (o_eq hr) (s_fld (f := [97, 116]) Z.fl_at (s_var 0 (pv 0)) rfl) (s_callB c_len rfl Z.m_len bb_len (s_cons (s_fld (f := [112, 105, 101, 99, 101, 115]) Z.fl_pieces (s_var 0 (pv 0)) rfl) s_nil)) rfl) (ss_one (st_ret (s_fld (f := [98, 101, 104, 105, 110, 100]) Z.fl_behind (s_var 0 (pv 0)) rfl))) ss_nil) (ss_one (st_ret (s_ix (i_ix Z.kd) (s_ix (i_ix Z.kd) (s_fld (f := [112, 105, 101, 99, 101, 115]) Z.fl_pieces (s_var 0 (pv 0)) rfl) (s_fld (f := [97, 116]) Z.fl_at (s_var 0 (pv 0)) rfl) (fun _ _ => rfl)) s_int (fun _ _ => rfl))))
theorem sc_Line_take : FnScope ["self", "fit", "piece"] ["self", "fit"] (defScope s_Line_take) := ⟨rfl, rfl, rfl, by decide +kernel, rfl, by decide +kernel, by decide +kernel⟩
def fb_Line_take : FS :=
  fSeq (fAsg (fMeth 4 [110, 101, 120, 116, 95, 112, 105, 101, 99, 101] 1 mf_Line_next_piece (fVar 0) fNilA) (gNm 2)) (fSeq (fIfS (fNotT (fB (fVar 1))) (fRaise2 2 [108, 105, 110, 101] [99, 111, 108, 117, 109, 110] fm_BadText (fConsA (f1 (gFld [4] [112, 108, 97, 99, 101]) (fVar 0)) (fConsA (fMeth 4 [115, 112, 111, 116] 1 mf_Line_spot (fVar 0) fNilA) fNilA))) fNext) (fSeq (fAgF' [4] [97, 116] (fVar 0) (fCon (.int 1))) (fRet (fVar 2))))
abbrev mf_Line_take : FM := mfOf 3 fb_Line_take
theorem ok_Line_take (Z : Fx T w mg A) : FnV P w T.K mg base T 3 A.f_Line_take A.d_Line_take ["self", "fit"] mf_Line_take := by
  refine fnV Z.F_Line_take sc_Line_take (fun cdv Ar outer s H E hr => ?_)
  exact ss_cons (st_set (i := 2) sc_Line_take.nd rfl (by first | exact .inl rfl | exact .inr rfl) (s_meth0 (ps := ["self"]) (c := 4) (mt := [110, 101, 120, 116, 95, 112, 105, 101, 99, 101]) Z.g_Line Z.C_Line Z.H_Line_next_piece (ok_Line_next_piece Z) (hr.mono (by decide)) Z.B_Line_next_piece tkOf (s_var 0 (pv 0)))) (ss_cons (st_if (s_tnot (s_tval (s_var 1 (pv 1)) (fun _ => rfl))) (ss_one (st_raise2 (c := 2) (f1 := [108, 105, 110, 101]) (f2 := [99, 111, 108, 117, 109, 110]) Z.g_BadText Z.O_BadText Z.I_BadText Z.J_BadText (ok_BadText Z) (hr.mono (by decide)) Z.B_BadText_init rfl Z.G_BadText rfl tkOf (s_cons (s_fld (f := [112, 108, 97, 99, 101]) Z.fl_place (s_var 0 (pv 0)) rfl) (s_cons (s_meth0 (ps := ["self"]) (c := 4) (mt := [115, 112, 111, 116]) Z.g_Line Z.C_Line Z.H_Line_spot (ok_Line_spot Z) (hr.mono (by decide)) Z.B_Line_spot tkOf (s_var 0 (pv 0))) s_nil)))) ss_nil) (ss_cons (st_agF (f := [97, 116]) Z.fl_at (s_var 0 (pv 0)) s_int) (ss_one (st_ret (s_var 2 (pv 2))))))
theorem sc_Line_take_mark : FnScope ["self", "told"] ["self", "told"] (defScope s_Line_take_mark) := ⟨rfl, rfl, rfl, by decide +kernel, rfl, by decide +kernel, by decide +kernel⟩
def fb_Line_take_mark : FS :=
  fExpr (fMeth 4 [116, 97, 107, 101] 2 mf_Line_take (fVar 0) (fConsA (f2 gEq (fMeth 4 [110, 101, 120, 116, 95, 112, 105, 101, 99, 101] 1 mf_Line_next_piece (fVar 0) fNilA) (fVar 1)) fNilA))
abbrev mf_Line_take_mark : FM := mfOf 2 fb_Line_take_mark
theorem ok_Line_take_mark (Z : Fx T w mg A) : FnV P w T.K mg base T 4 A.f_Line_take_mark A.d_Line_take_mark ["self", "told"] mf_Line_take_mark := by
  refine fnV Z.F_Line_take_mark sc_Line_take_mark (fun cdv Ar outer s H E hr => ?_)
  exact ss_one (st_expr (s_meth (ps := ["self", "fit"]) (c := 4) (mt := [116, 97, 107, 101]) Z.g_Line Z.C_Line Z.H_Line_take (ok_Line_take Z) (hr.mono (by decide)) Z.B_Line_take tkOf (s_var 0 (pv 0)) (s_cons (s_cmp (o_eq hr) (s_meth0 (ps := ["self"]) (c := 4) (mt := [110, 101, 120, 116, 95, 112, 105, 101, 99, 101]) Z.g_Line Z.C_Line Z.H_Line_next_piece (ok_Line_next_piece Z) (hr.mono (by decide)) Z.B_Line_next_piece tkOf (s_var 0 (pv 0))) (s_var 1 (pv 1)) rfl) s_nil)))
theorem sc_is_figures : FnScope ["piece"] ["piece"] (defScope s_is_figures) := ⟨rfl, rfl, rfl, by decide +kernel, rfl, by decide +kernel, by decide +kernel⟩
def fb_is_figures : FS :=
  fRet (fOr (f2 gEq (fVar 0) (fCon (.str [48]))) (fChain gLe gLe (fCon (.str [49])) (fSl gSl (fVar 0) fNoO (fSomeO (fCon (.int 1)))) (fCon (.str [57]))))
abbrev mf_is_figures : FM := mfOf 1 fb_is_figures
theorem ok_is_figures (Z : Fx T w mg A) : FnV P w T.K mg base T 1 A.f_is_figures A.d_is_figures ["piece"] mf_is_figures := by
  refine fnV Z.F_is_figures sc_is_figures (fun cdv Ar outer s H E hr => ?_)
  exact ss_one (st_ret (s_or (s_cmp (o_eq hr) (s_var 0 (pv 0)) (s_str (l := [48]) (by decide +kernel)) rfl) (s_one (s_chain o_le o_le (s_str (l := [49]) (by decide +kernel)) (s_sl sl_any (s_var 0 (pv 0)) s_noO (s_someO s_int)) (s_str (l := [57]) (by decide +kernel))))))
theorem sc_is_integer : FnScope ["thing"] ["thing"] (defScope s_is_integer) := ⟨rfl, rfl, rfl, by decide +kernel, rfl, by decide +kernel, by decide +kernel⟩
def fb_is_integer : FS :=
  fRet (fAnd (fIsi (tabB 1) (fVar 0)) (fNot (fIsi (tabB 0) (fVar 0))))
abbrev mf_is_integer : FM := mfOf 1 fb_is_integer
theorem ok_is_integer (Z : Fx T w mg A) : FnV P w T.K mg base T 1 A.f_is_integer A.d_is_integer ["thing"] mf_is_integer := by
  refine fnV Z.F_is_integer sc_is_integer (fun cdv Ar outer s H E hr => ?_)
  exact ss_one (st_ret (s_and (s_isi (cv := .ty "int") (cu := .type "int") rfl Z.m_isinstance (pe_bltn rfl Z.m_int bb_int rfl) (.ty _) (tabB_ok 1) (s_var 0 (pv 0)) bb_isinstance) (s_one (s_not (s_isi (cv := .ty "bool") (cu := .type "bool") rfl Z.m_isinstance (pe_bltn rfl Z.m_bool bb_bool rfl) (.ty _) (tabB_ok 0) (s_var 0 (pv 0)) bb_isinstance)))))
theorem sc_is_between : FnScope ["thing", "low", "high"] ["thing", "low", "high"] (defScope s_is_between) := ⟨rfl, rfl, rfl, by decide +kernel, rfl, by decide +kernel, by decide +kernel⟩
def fb_is_between : FS :=
  fRet (fAnd (fCa (nArgs 1 mf_is_integer) (fConsA (fVar 0) fNilA)) (fChain gLe gLe (fVar 1) (fVar 0) (fVar 2)))
abbrev mf_is_between : FM := mfOf 3 fb_is_between
theorem ok_is_between (Z : Fx T w mg A) : FnV P w T.K mg base T 2 A.f_is_between A.d_is_between ["thing", "low", "high"] mf_is_between := by
  refine fnV Z.F_is_between sc_is_between (fun cdv Ar outer s H E hr => ?_)
  exact ss_one (st_ret (s_and (s_call (ps := ["thing"]) (ok_is_integer Z) (hr.mono (by decide)) rfl Z.G_is_integer Z.K_is_integer Z.B_is_integer tkOf (s_cons (s_var 0 (pv 0)) s_nil)) (s_one (s_chain o_le o_le (s_var 1 (pv 1)) (s_var 0 (pv 0)) (s_var 2 (pv 2))))))
theorem sc_Line_take_number : FnScope ["self", "low", "high", "piece"] ["self", "low", "high"] (defScope s_Line_take_number) := ⟨rfl, rfl, rfl, by decide +kernel, rfl, by decide +kernel, by decide +kernel⟩
def fb_Line_take_number : FS :=
  fSeq (fAsg (fMeth 4 [110, 101, 120, 116, 95, 112, 105, 101, 99, 101] 1 mf_Line_next_piece (fVar 0) fNilA) (gNm 3)) (fRet (fCa gInt (fConsA (fMeth 4 [116, 97, 107, 101] 2 mf_Line_take (fVar 0) (fConsA (fAnd (fCa (nArgs 1 mf_is_figures) (fConsA (fVar 3) fNilA)) (fAnd (f2 gLt (fCa gLen (fConsA (fVar 3) fNilA)) (fCon (.int 4))) (fCa (nArgs 3 mf_is_between) (fConsA (fCa gInt (fConsA (fVar 3) fNilA)) (fConsA (fVar 1) (fConsA (fVar 2) fNilA)))))) fNilA)) fNilA)))
abbrev mf_Line_take_number : FM := mfOf 4 fb_Line_take_number
theorem ok_Line_take_number (Z : Fx T w mg A) : FnV P w T.K mg base T 4 A.f_Line_take_number A.d_Line_take_number ["self", "low", "high"] mf_Line_take_number := by
  refine fnV Z.F_Line_take_number sc_Line_take_number (fun cdv Ar outer s H E hr => ?_)
  exact ss_cons (st_set (i := 3) sc_Line_take_number.nd rfl (by first | exact .inl rfl | exact .inr rfl) (s_meth0 (ps := ["self"]) (c := 4) (mt := [110, 101, 120, 116, 95, 112, 105, 101, 99, 101]) Z.g_Line Z.C_Line Z.H_Line_next_piece (ok_Line_next_piece Z) (hr.mono (by decide)) Z.B_Line_next_piece tkOf (s_var 0 (pv 0)))) (ss_one (st_ret (s_callTy c_int rfl Z.m_int bb_int (s_cons (s_meth (ps := ["self", "fit"]) (c := 4) (mt := [116, 97, 107, 101]) Z.g_Line Z.C_Line Z.H_Line_take (ok_Line_take Z) (hr.mono (by decide)) Z.B_Line_take tkOf (s_var 0 (pv 0)) (s_cons (s_and (s_call (ps := ["piece"]) (ok_is_figures Z) (hr.mono (by decide)) rfl Z.G_is_figures Z.K_is_figures Z.B_is_figures tkOf (s_cons (s_var 3 (pv 3)) s_nil)) (s_and (s_cmp o_lt (s_callB c_len rfl Z.m_len bb_len (s_cons (s_var 3 (pv 3)) s_nil)) s_int rfl) (s_one (s_call (ps := ["thing", "low", "high"]) (ok_is_between Z) (hr.mono (by decide)) rfl Z.G_is_between Z.K_is_between Z.B_is_between tkOf (s_cons (s_callTy c_int rfl Z.m_int bb_int (s_cons (s_var 3 (pv 3)) s_nil)) (s_cons (s_var 1 (pv 1)) (s_cons (s_var 2 (pv 2)) s_nil))))))) s_nil)) s_nil))))
theorem sc_Line_finish : FnScope ["self"] ["self"] (defScope s_Line_finish) := ⟨rfl, rfl, rfl, by decide +kernel, rfl, by decide +kernel, by decide +kernel⟩
def fb_Line_finish : FS :=
  fIfS (fB (f2 gLt (f1 (gFld [4] [97, 116]) (fVar 0)) (fCa gLen (fConsA (f1 (gFld [4] [112, 105, 101, 99, 101, 115]) (fVar 0)) fNilA)))) (fRaise2 2 [108, 105, 110, 101] [99, 111, 108, 117, 109, 110] fm_BadText (fConsA (f1 (gFld [4] [112, 108, 97, 99, 101]) (fVar 0)) (fConsA (fMeth 4 [115, 112, 111, 116] 1 mf_Line_spot (fVar 0) fNilA) fNilA))) fNext
abbrev mf_Line_finish : FM := mfOf 1 fb_Line_finish
theorem ok_Line_finish (Z : Fx T w mg A) : FnV P w T.K mg base T 3 A.f_Line_finish A.d_Line_finish ["self"] mf_Line_finish := by
  refine fnV Z.F_Line_finish sc_Line_finish (fun cdv Ar outer s H E hr => ?_)
  exact ss_one (st_if (s_tcmp o_lt (s_fld (f := [97, 116]) Z.fl_at (s_var 0 (pv 0)) rfl) (s_callB c_len rfl Z.m_len bb_len (s_cons (s_fld (f := [112, 105, 101, 99, 101, 115]) Z.fl_pieces (s_var 0 (pv 0)) rfl) s_nil)) rfl) (ss_one (st_raise2 (c := 2) (f1 := [108, 105, 110, 101]) (f2 := [99, 111, 108, 117, 109, 110]) Z.g_BadText Z.O_BadText Z.I_BadText Z.J_BadText (ok_BadText Z) (hr.mono (by decide)) Z.B_BadText_init rfl Z.G_BadText rfl tkOf (s_cons (s_fld (f := [112, 108, 97, 99, 101]) Z.fl_place (s_var 0 (pv 0)) rfl) (s_cons (s_meth0 (ps := ["self"]) (c := 4) (mt := [115, 112, 111, 116]) Z.g_Line Z.C_Line Z.H_Line_spot (ok_Line_spot Z) (hr.mono (by decide)) Z.B_Line_spot tkOf (s_var 0 (pv 0))) s_nil)))) ss_nil)
theorem sc_read_layout : FnScope ["line", "leaves", "cells"] ["line"] (defScope s_read_layout) := ⟨rfl, rfl, rfl, by decide +kernel, rfl, by decide +kernel, by decide +kernel⟩
def fb_read_layout : FS :=
  fSeq (fExpr (fMeth 4 [116, 97, 107, 101, 95, 109, 97, 114, 107] 2 mf_Line_take_mark (fVar 0) (fConsA (fCon (.str [115, 112, 97, 99, 101])) fNilA))) (fSeq (fAsg (fMeth 4 [116, 97, 107, 101, 95, 110, 117, 109, 98, 101, 114] 3 mf_Line_take_number (fVar 0) (fConsA (fCon (.int 1)) (fConsA (fCon (.int 64)) fNilA))) (gNm 1)) (fSeq (fExpr (fMeth 4 [116, 97, 107, 101, 95, 109, 97, 114, 107] 2 mf_Line_take_mark (fVar 0) (fConsA (fCon (.str [108, 101, 97, 118, 101, 115])) fNilA))) (fSeq (fAsg (fMeth 4 [116, 97, 107, 101, 95, 110, 117, 109, 98, 101, 114] 3 mf_Line_take_number (fVar 0) (fConsA (fCon (.int 1)) (fConsA (fCon (.int 4)) fNilA))) (gNm 2)) (fSeq (fExpr (fMeth 4 [116, 97, 107, 101, 95, 109, 97, 114, 107] 2 mf_Line_take_mark (fVar 0) (fConsA (fCon (.str [99, 101, 108, 108, 115])) fNilA))) (fSeq (fExpr (fMeth 4 [102, 105, 110, 105, 115, 104] 1 mf_Line_finish (fVar 0) fNilA)) (fRet (fTup (fConsA (fVar 1) (fConsA (fVar 2) fNilA)))))))))
abbrev mf_read_layout : FM := mfOf 3 fb_read_layout
theorem ok_read_layout (Z : Fx T w mg A) : FnV P w T.K mg base T 5 A.f_read_layout A.d_read_layout ["line"] mf_read_layout := by
  refine fnV Z.F_read_layout sc_read_layout (fun cdv Ar outer s H E hr => ?_)
  exact ss_cons (st_expr (s_meth (ps := ["self", "told"]) (c := 4) (mt := [116, 97, 107, 101, 95, 109, 97, 114, 107]) Z.g_Line Z.C_Line Z.H_Line_take_mark (ok_Line_take_mark Z) (hr.mono (by decide)) Z.B_Line_take_mark tkOf (s_var 0 (pv 0)) (s_cons (s_str (l := [115, 112, 97, 99, 101]) (by decide +kernel)) s_nil))) (ss_cons (st_set (i := 1) sc_read_layout.nd rfl (by first | exact .inl rfl | exact .inr rfl) (s_meth (ps := ["self", "low", "high"]) (c := 4) (mt := [116, 97, 107, 101, 95, 110, 117, 109, 98, 101, 114]) Z.g_Line Z.C_Line Z.H_Line_take_number (ok_Line_take_number Z) (hr.mono (by decide)) Z.B_Line_take_number tkOf (s_var 0 (pv 0)) (s_cons s_int (s_cons (s_con (C8.pe_gc rfl Z.d_MOST_LEAVES) (fun _ _ => rfl)) s_nil)))) (ss_cons (st_expr (s_meth (ps := ["self", "told"]) (c := 4) (mt := [116, 97, 107, 101, 95, 109, 97, 114, 107]) Z.g_Line Z.C_Line Z.H_Line_take_mark (ok_Line_take_mark Z) (hr.mono (by decide)) Z.B_Line_take_mark tkOf (s_var 0 (pv 0)) (s_cons (s_str (l := [108, 101, 97, 118, 101, 115]) (by decide +kernel)) s_nil))) (ss_cons (st_set (i := 2) sc_read_layout.nd rfl (by first | exact .inl rfl | exact .inr rfl) (s_meth (ps := ["self", "low", "high"]) (c := 4) (mt := [116, 97, 107, 101, 95, 110, 117, 109, 98, 101, 114]) Z.g_Line Z.C_Line Z.H_Line_take_number (ok_Line_take_number Z) (hr.mono (by decide)) Z.B_Line_take_number tkOf (s_var 0 (pv 0)) (s_cons s_int (s_cons (s_con (C8.pe_gc rfl Z.d_MOST_CELLS) (fun _ _ => rfl)) s_nil)))) (ss_cons (st_expr (s_meth (ps := ["self", "told"]) (c := 4) (mt := [116, 97, 107, 101, 95, 109, 97, 114, 107]) Z.g_Line Z.C_Line Z.H_Line_take_mark (ok_Line_take_mark Z) (hr.mono (by decide)) Z.B_Line_take_mark tkOf (s_var 0 (pv 0)) (s_cons (s_str (l := [99, 101, 108, 108, 115]) (by decide +kernel)) s_nil))) (ss_cons (st_expr (s_meth0 (ps := ["self"]) (c := 4) (mt := [102, 105, 110, 105, 115, 104]) Z.g_Line Z.C_Line Z.H_Line_finish (ok_Line_finish Z) (hr.mono (by decide)) Z.B_Line_finish tkOf (s_var 0 (pv 0)))) (ss_one (st_ret (s_tup (s_cons (s_var 1 (pv 1)) (s_cons (s_var 2 (pv 2)) s_nil))))))))))
theorem sc_is_word : FnScope ["thing", "sign"] ["thing"] (defScope s_is_word) := ⟨rfl, rfl, rfl, by decide +kernel, rfl, by decide +kernel, by decide +kernel⟩
def fb_is_word : FS :=
  fSeq (fIfS (fOrT (fNotT (fB (fIsi (tabB 2) (fVar 0)))) (fNotT (fB (fChain gLe gLe (fCon (.int 1)) (fCa gLen (fConsA (fVar 0) fNilA)) (fCon (.int 8)))))) (fRet (fCon (.bl false))) fNext) (fRet (fCa (gBools (·.all id)) (fConsA (fComp (fItA (fVar 0)) [1] (gNm 1) fYes (fChain gLe gLe (fCon (.str [97])) (fVar 1) (fCon (.str [122])))) fNilA)))
abbrev mf_is_word : FM := mfOf 2 fb_is_word
theorem ok_is_word (Z : Fx T w mg A) : FnV P w T.K mg base T 1 A.f_is_word A.d_is_word ["thing"] mf_is_word := by
  refine fnV Z.F_is_word sc_is_word (fun cdv Ar outer s H E hr => ?_)
  exact ss_cons (st_if (s_w (s_wor (s_tnot (s_tval (s_isi (cv := .ty "str") (cu := .type "str") rfl Z.m_isinstance (pe_bltn rfl Z.m_str bb_str rfl) (.ty _) (tabB_ok 2) (s_var 0 (pv 0)) bb_isinstance) (fun _ => rfl))) (s_wor1 (s_tnot (s_tchain o_le o_le s_int (s_callB c_len rfl Z.m_len bb_len (s_cons (s_var 0 (pv 0)) s_nil)) (s_con (C8.pe_gc rfl Z.d_MOST_LETTERS) (fun _ _ => rfl))))))) (ss_one (st_ret s_bl)) ss_nil) (ss_one (st_ret (s_callB c_all rfl Z.m_all bb_all (s_cons (s_comp rfl sc_is_word.nd (own := [("sign", 1)]) (blk_of (N := ["thing", "sign"]) (sc := defScope s_is_word) (by decide +kernel)) (si_any (s_var 0 (pv 0))) (fun _ _ _ _ _ => sg_name (i := 1) sc_is_word.nd rfl (by first | exact .inl rfl | exact .inr rfl)) (fun _ _ _ _ _ => sts_nil) (fun _ _ _ _ _ => s_chain o_le o_le (s_str (l := [97]) (by decide +kernel)) (s_var 1 (pv 1)) (s_str (l := [122]) (by decide +kernel))) (by decide) (fun _ => rfl)) s_nil))))
theorem sc_Line_take_word : FnScope ["self"] ["self"] (defScope s_Line_take_word) := ⟨rfl, rfl, rfl, by decide +kernel, rfl, by decide +kernel, by decide +kernel⟩
def fb_Line_take_word : FS :=
  fRet (fMeth 4 [116, 97, 107, 101] 2 mf_Line_take (fVar 0) (fConsA (fCa (nArgs 1 mf_is_word) (fConsA (fMeth 4 [110, 101, 120, 116, 95, 112, 105, 101, 99, 101] 1 mf_Line_next_piece (fVar 0) fNilA) fNilA)) fNilA))
abbrev mf_Line_take_word : FM := mfOf 1 fb_Line_take_word
theorem ok_Line_take_word (Z : Fx T w mg A) : FnV P w T.K mg base T 4 A.f_Line_take_word A.d_Line_take_word ["self"] mf_Line_take_word := by
  refine fnV Z.F_Line_take_word sc_Line_take_word (fun cdv Ar outer s H E hr => ?_)
  exact ss_one (st_ret (s_meth (ps := ["self", "fit"]) (c := 4) (mt := [116, 97, 107, 101]) Z.g_Line Z.C_Line Z.H_Line_take (ok_Line_take Z) (hr.mono (by decide)) Z.B_Line_take tkOf (s_var 0 (pv 0)) (s_cons (s_call (ps := ["thing"]) (ok_is_word Z) (hr.mono (by decide)) rfl Z.G_is_word Z.K_is_word Z.B_is_word tkOf (s_cons (s_meth0 (ps := ["self"]) (c := 4) (mt := [110, 101, 120, 116, 95, 112, 105, 101, 99, 101]) Z.g_Line Z.C_Line Z.H_Line_next_piece (ok_Line_next_piece Z) (hr.mono (by decide)) Z.B_Line_next_piece tkOf (s_var 0 (pv 0))) s_nil)) s_nil)))
theorem sc_Line_take_one_of : FnScope ["self", "told"] ["self", "told"] (defScope s_Line_take_one_of) := ⟨rfl, rfl, rfl, by decide +kernel, rfl, by decide +kernel, by decide +kernel⟩
def fb_Line_take_one_of : FS :=
  fRet (fMeth 4 [116, 97, 107, 101] 2 mf_Line_take (fVar 0) (fConsA (f2 (gInK kd0 false) (fMeth 4 [110, 101, 120, 116, 95, 112, 105, 101, 99, 101] 1 mf_Line_next_piece (fVar 0) fNilA) (fVar 1)) fNilA))
abbrev mf_Line_take_one_of : FM := mfOf 2 fb_Line_take_one_of
theorem ok_Line_take_one_of (Z : Fx T w mg A) : FnV P w T.K mg base T 4 A.f_Line_take_one_of A.d_Line_take_one_of ["self", "told"] mf_Line_take_one_of := by
  refine fnV Z.F_Line_take_one_of sc_Line_take_one_of (fun cdv Ar outer s H E hr => ?_)
  exact ss_one (st_ret (s_meth (ps := ["self", "fit"]) (c := 4) (mt := [116, 97, 107, 101]) Z.g_Line Z.C_Line Z.H_Line_take (ok_Line_take Z) (hr.mono (by decide)) Z.B_Line_take tkOf (s_var 0 (pv 0)) (s_cons (s_cmp (o_inK Z.kd) (s_meth0 (ps := ["self"]) (c := 4) (mt := [110, 101, 120, 116, 95, 112, 105, 101, 99, 101]) Z.g_Line Z.C_Line Z.H_Line_next_piece (ok_Line_next_piece Z) (hr.mono (by decide)) Z.B_Line_next_piece tkOf (s_var 0 (pv 0))) (s_var 1 (pv 1)) rfl) s_nil)))
theorem sc_read_way : FnScope ["line", "many", "way", "word"] ["line", "many"] (defScope s_read_way) := ⟨rfl, rfl, rfl, by decide +kernel, rfl, by decide +kernel, by decide +kernel⟩
def fb_read_way : FS :=
  fSeq (fAsg (fMeth 4 [116, 97, 107, 101, 95, 111, 110, 101, 95, 111, 102] 2 mf_Line_take_one_of (fVar 0) (fConsA (fTup (fConsA (fCon (.str [122, 101, 114, 111])) (fConsA (fCon (.str [97, 112, 97, 114, 116])) (fConsA (fCon (.str [99, 111, 109, 109, 111, 110])) fNilA)))) fNilA)) (gNm 2)) (fSeq (fIfS (fB (f2 gEq (fVar 2) (fCon (.str [122, 101, 114, 111])))) (fRet (fTup (fConsA (fVar 2) fNilA))) fNext) (fSeq (fAsg (fMeth 4 [116, 97, 107, 101, 95, 119, 111, 114, 100] 1 mf_Line_take_word (fVar 0) fNilA) (gNm 3)) (fRet (fTup (fConsA (fVar 2) (fConsA (fVar 3) (fConsA (fMeth 4 [116, 97, 107, 101, 95, 110, 117, 109, 98, 101, 114] 3 mf_Line_take_number (fVar 0) (fConsA (fCon (.int 0)) (fConsA (f2 gSub (fCon (.int 64)) (fVar 1)) fNilA))) fNilA)))))))
abbrev mf_read_way : FM := mfOf 4 fb_read_way
theorem ok_read_way (Z : Fx T w mg A) : FnV P w T.K mg base T 5 A.f_read_way A.d_read_way ["line", "many"] mf_read_way := by
  refine fnV Z.F_read_way sc_read_way (fun cdv Ar outer s H E hr => ?_)
  exact ss_cons (st_set (i := 2) sc_read_way.nd rfl (by first | exact .inl rfl | exact .inr rfl) (s_meth (ps := ["self", "told"]) (c := 4) (mt := [116, 97, 107, 101, 95, 111, 110, 101, 95, 111, 102]) Z.g_Line Z.C_Line Z.H_Line_take_one_of (ok_Line_take_one_of Z) (hr.mono (by decide)) Z.B_Line_take_one_of tkOf (s_var 0 (pv 0)) (s_cons (s_tup (s_cons (s_str (l := [122, 101, 114, 111]) (by decide +kernel)) (s_cons (s_str (l := [97, 112, 97, 114, 116]) (by decide +kernel)) (s_cons (s_str (l := [99, 111, 109, 109, 111, 110]) (by decide +kernel)) s_nil)))) s_nil))) (ss_cons (st_if (s_tcmp (o_eq hr) (s_var 2 (pv 2)) (s_str (l := [122, 101, 114, 111]) (by decide +kernel)) rfl) (ss_one (st_ret (s_tup (s_cons (s_var 2 (pv 2)) s_nil)))) ss_nil) (ss_cons (st_set (i := 3) sc_read_way.nd rfl (by first | exact .inl rfl | exact .inr rfl) (s_meth0 (ps := ["self"]) (c := 4) (mt := [116, 97, 107, 101, 95, 119, 111, 114, 100]) Z.g_Line Z.C_Line Z.H_Line_take_word (ok_Line_take_word Z) (hr.mono (by decide)) Z.B_Line_take_word tkOf (s_var 0 (pv 0)))) (ss_one (st_ret (s_tup (s_cons (s_var 2 (pv 2)) (s_cons (s_var 3 (pv 3)) (s_cons (s_meth (ps := ["self", "low", "high"]) (c := 4) (mt := [116, 97, 107, 101, 95, 110, 117, 109, 98, 101, 114]) Z.g_Line Z.C_Line Z.H_Line_take_number (ok_Line_take_number Z) (hr.mono (by decide)) Z.B_Line_take_number tkOf (s_var 0 (pv 0)) (s_cons s_int (s_cons (s_bin o_sub (s_con (C8.pe_gc rfl Z.d_MOST_LEAVES) (fun _ _ => rfl)) (s_var 1 (pv 1))) s_nil))) s_nil))))))))
theorem sc_Line_take_figures : FnScope ["self"] ["self"] (defScope s_Line_take_figures) := ⟨rfl, rfl, rfl, by decide +kernel, rfl, by decide +kernel, by decide +kernel⟩
def fb_Line_take_figures : FS :=
  fRet (fCa gInt (fConsA (fMeth 4 [116, 97, 107, 101] 2 mf_Line_take (fVar 0) (fConsA (fCa (nArgs 1 mf_is_figures) (fConsA (fMeth 4 [110, 101, 120, 116, 95, 112, 105, 101, 99, 101] 1 mf_Line_next_piece (fVar 0) fNilA) fNilA)) fNilA)) fNilA))
abbrev mf_Line_take_figures : FM := mfOf 1 fb_Line_take_figures
theorem ok_Line_take_figures (Z : Fx T w mg A) : FnV P w T.K mg base T 4 A.f_Line_take_figures A.d_Line_take_figures ["self"] mf_Line_take_figures := by
  refine fnV Z.F_Line_take_figures sc_Line_take_figures (fun cdv Ar outer s H E hr => ?_)
  exact ss_one (st_ret (s_callTy c_int rfl Z.m_int bb_int (s_cons (s_meth (ps := ["self", "fit"]) (c := 4) (mt := [116, 97, 107, 101]) Z.g_Line Z.C_Line Z.H_Line_take (ok_Line_take Z) (hr.mono (by decide)) Z.B_Line_take tkOf (s_var 0 (pv 0)) (s_cons (s_call (ps := ["piece"]) (ok_is_figures Z) (hr.mono (by decide)) rfl Z.G_is_figures Z.K_is_figures Z.B_is_figures tkOf (s_cons (s_meth0 (ps := ["self"]) (c := 4) (mt := [110, 101, 120, 116, 95, 112, 105, 101, 99, 101]) Z.g_Line Z.C_Line Z.H_Line_next_piece (ok_Line_next_piece Z) (hr.mono (by decide)) Z.B_Line_next_piece tkOf (s_var 0 (pv 0))) s_nil)) s_nil)) s_nil)))
theorem sc_read_part : FnScope ["line", "part", "step", "low", "high"] ["line", "part", "step"] (defScope s_read_part) := ⟨rfl, rfl, rfl, by decide +kernel, rfl, by decide +kernel, by decide +kernel⟩
def fb_read_part_v0 : FS :=
  fSeq (fIfS (fB (f2 gEq (fVar 1) (fCon (.str [119, 111, 114, 100])))) (fRet (fMeth 4 [116, 97, 107, 101, 95, 119, 111, 114, 100] 1 mf_Line_take_word (fVar 0) fNilA)) fNext) (fSeq (fIfS (fB (f2 gEq (fVar 1) (fCon (.str [114, 105, 103, 104, 116, 115])))) (fRet (fMeth 4 [116, 97, 107, 101, 95, 111, 110, 101, 95, 111, 102] 2 mf_Line_take_one_of (fVar 0) (fConsA (fCon (.tup [.str [114], .str [114, 119]])) fNilA))) fNext) (fSeq (fIfS (fB (f2 gEq (fVar 1) (fCon (.str [119, 97, 121])))) (fRet (fCa (nArgs 2 mf_read_way) (fConsA (fVar 0) (fConsA (f2 (gIx kd0) (fVar 2) (f1 gNeg (fCon (.int 1)))) fNilA)))) fNext) (fSeq (fIfS (fB (f2 gEq (fVar 1) (fCon (.str [116, 111, 116, 97, 108])))) fNever fNext) (fSeq (fIfS (fB (f2 gEq (fVar 1) (fCon (.str [99, 101, 108, 108])))) (fExpr (fMeth 4 [116, 97, 107, 101, 95, 109, 97, 114, 107] 2 mf_Line_take_mark (fVar 0) (fConsA (fCon (.str [46])) fNilA))) fNext) (fSeq (fIfS (fB (f2 gEq (fVar 1) (fCon (.str [103, 111, 97, 108])))) (fExpr (fMeth 4 [116, 97, 107, 101, 95, 109, 97, 114, 107] 2 mf_Line_take_mark (fVar 0) (fConsA (fCon (.str [116, 111])) fNilA))) fNext) (fSeq (fAsg (f2 (gIx kd0) (fCon (.g 51)) (fVar 1)) (gTpA 2 (gsCons (gNm 3) (gsCons (gNm 4) gsNil)))) (fRet (fMeth 4 [116, 97, 107, 101, 95, 110, 117, 109, 98, 101, 114] 3 mf_Line_take_number (fVar 0) (fConsA (fVar 3) (fConsA (fVar 4) fNilA))))))))))
abbrev mf_read_part_v0 : FM := mfOf 5 fb_read_part_v0
theorem ok_read_part_v0 (Z : Fx T w mg A) : FnV P w T.K mg base T 6 A.f_read_part A.d_read_part ["line", "part", "step"] mf_read_part_v0 := by
  refine fnV Z.F_read_part sc_read_part (fun cdv Ar outer s H E hr => ?_)
  exact ss_cons (st_if (s_tcmp (o_eq hr) (s_var 1 (pv 1)) (s_str (l := [119, 111, 114, 100]) (by decide +kernel)) rfl) (ss_one (st_ret (s_meth0 (ps := ["self"]) (c := 4) (mt := [116, 97, 107, 101, 95, 119, 111, 114, 100]) Z.g_Line Z.C_Line Z.H_Line_take_word (ok_Line_take_word Z) (hr.mono (by decide)) Z.B_Line_take_word tkOf (s_var 0 (pv 0))))) ss_nil) (ss_cons (st_if (s_tcmp (o_eq hr) (s_var 1 (pv 1)) (s_str (l := [114, 105, 103, 104, 116, 115]) (by decide +kernel)) rfl) (ss_one (st_ret (s_meth (ps := ["self", "told"]) (c := 4) (mt := [116, 97, 107, 101, 95, 111, 110, 101, 95, 111, 102]) Z.g_Line Z.C_Line Z.H_Line_take_one_of (ok_Line_take_one_of Z) (hr.mono (by decide)) Z.B_Line_take_one_of tkOf (s_var 0 (pv 0)) (s_cons (s_con (C8.pe_gc rfl Z.d_RIGHTS) Z.r_RIGHTS) s_nil)))) ss_nil) (ss_cons (st_if (s_tcmp (o_eq hr) (s_var 1 (pv 1)) (s_str (l := [119, 97, 121]) (by decide +kernel)) rfl) (ss_one (st_ret (s_call (ps := ["line", "many"]) (ok_read_way Z) (hr.mono (by decide)) rfl Z.G_read_way Z.K_read_way Z.B_read_way tkOf (s_cons (s_var 0 (pv 0)) (s_cons (s_ix (i_ix Z.kd) (s_var 2 (pv 2)) (s_neg s_int) (fun _ _ => rfl)) s_nil))))) ss_nil) (ss_cons (st_if (s_tcmp (o_eq hr) (s_var 1 (pv 1)) (s_str (l := [116, 111, 116, 97, 108]) (by decide +kernel)) rfl) (ss_one st_never) ss_nil) (ss_cons (st_if (s_tcmp (o_eq hr) (s_var 1 (pv 1)) (s_str (l := [99, 101, 108, 108]) (by decide +kernel)) rfl) (ss_one (st_expr (s_meth (ps := ["self", "told"]) (c := 4) (mt := [116, 97, 107, 101, 95, 109, 97, 114, 107]) Z.g_Line Z.C_Line Z.H_Line_take_mark (ok_Line_take_mark Z) (hr.mono (by decide)) Z.B_Line_take_mark tkOf (s_var 0 (pv 0)) (s_cons (s_str (l := [46]) (by decide +kernel)) s_nil)))) ss_nil) (ss_cons (st_if (s_tcmp (o_eq hr) (s_var 1 (pv 1)) (s_str (l := [103, 111, 97, 108]) (by decide +kernel)) rfl) (ss_one (st_expr (s_meth (ps := ["self", "told"]) (c := 4) (mt := [116, 97, 107, 101, 95, 109, 97, 114, 107]) Z.g_Line Z.C_Line Z.H_Line_take_mark (ok_Line_take_mark Z) (hr.mono (by decide)) Z.B_Line_take_mark tkOf (s_var 0 (pv 0)) (s_cons (s_str (l := [116, 111]) (by decide +kernel)) s_nil)))) ss_nil) (ss_cons (st_asg (s_ix (i_ix Z.kd) (s_con (C8.pe_gc rfl Z.d_LIMITS) (fun _ _ => rfl)) (s_var 1 (pv 1)) (fun _ _ => rfl)) (sg_tupA rfl (sgs_cons (sg_name (i := 3) sc_read_part.nd rfl (by first | exact .inl rfl | exact .inr rfl)) (sgs_cons (sg_name (i := 4) sc_read_part.nd rfl (by first | exact .inl rfl | exact .inr rfl)) sgs_nil)))) (ss_one (st_ret (s_meth (ps := ["self", "low", "high"]) (c := 4) (mt := [116, 97, 107, 101, 95, 110, 117, 109, 98, 101, 114]) Z.g_Line Z.C_Line Z.H_Line_take_number (ok_Line_take_number Z) (hr.mono (by decide)) Z.B_Line_take_number tkOf (s_var 0 (pv 0)) (s_cons (s_var 3 (pv 3)) (s_cons (s_var 4 (pv 4)) s_nil)))))))))))
theorem sc_read_term : FnScope ["line", "factor", "word", "leaf", "cell"] ["line", "factor"] (defScope s_read_term) := ⟨rfl, rfl, rfl, by decide +kernel, rfl, by decide +kernel, by decide +kernel⟩
def fb_read_term_v1 : FS :=
  fSeq (fIfS (fB (fCa (nArgs 1 mf_is_figures) (fConsA (fMeth 4 [110, 101, 120, 116, 95, 112, 105, 101, 99, 101] 1 mf_Line_next_piece (fVar 0) fNilA) fNilA))) (fSeq (fAsg (f2 gMul (fVar 1) (fMeth 4 [116, 97, 107, 101, 95, 102, 105, 103, 117, 114, 101, 115] 1 mf_Line_take_figures (fVar 0) fNilA)) (gNm 1)) (fIfS (fNotT (fB (fCa (nArgs 1 mf_is_word) (fConsA (fMeth 4 [110, 101, 120, 116, 95, 112, 105, 101, 99, 101] 1 mf_Line_next_piece (fVar 0) fNilA) fNilA)))) (fRet (fTup (fConsA (fCon (.str [110, 117, 109, 98, 101, 114])) (fConsA (fVar 1) fNilA)))) fNext)) fNext) (fSeq (fAsg (fMeth 4 [116, 97, 107, 101, 95, 119, 111, 114, 100] 1 mf_Line_take_word (fVar 0) fNilA) (gNm 2)) (fSeq (fIfS (fNotT (fB (fCa (nArgs 1 mf_is_figures) (fConsA (fMeth 4 [110, 101, 120, 116, 95, 112, 105, 101, 99, 101] 1 mf_Line_next_piece (fVar 0) fNilA) fNilA)))) (fRet (fTup (fConsA (fCon (.str [105, 110, 112, 117, 116])) (fConsA (fVar 2) (fConsA (fVar 1) fNilA))))) fNext) (fSeq (fAsg (fCa (nArgs 3 mf_read_part_v0) (fConsA (fVar 0) (fConsA (fCon (.str [110, 117, 109, 98, 101, 114])) (fConsA (fLst fNilA) fNilA)))) (gNm 3)) (fSeq (fAsg (fCa (nArgs 3 mf_read_part_v0) (fConsA (fVar 0) (fConsA (fCon (.str [99, 101, 108, 108])) (fConsA (fLst fNilA) fNilA)))) (gNm 4)) (fRet (fTup (fConsA (fCon (.str [99, 101, 108, 108])) (fConsA (fVar 2) (fConsA (fVar 3) (fConsA (fVar 4) (fConsA (fVar 1) fNilA)))))))))))
abbrev mf_read_term_v1 : FM := mfOf 5 fb_read_term_v1
theorem ok_read_term_v1 (Z : Fx T w mg A) : FnV P w T.K mg base T 7 A.f_read_term A.d_read_term ["line", "factor"] mf_read_term_v1 := by
  refine fnV Z.F_read_term sc_read_term (fun cdv Ar outer s H E hr => ?_)
  exact ss_cons (st_if (s_tval (s_call (ps := ["piece"]) (ok_is_figures Z) (hr.mono (by decide)) rfl Z.G_is_figures Z.K_is_figures Z.B_is_figures tkOf (s_cons (s_meth0 (ps := ["self"]) (c := 4) (mt := [110, 101, 120, 116, 95, 112, 105, 101, 99, 101]) Z.g_Line Z.C_Line Z.H_Line_next_piece (ok_Line_next_piece Z) (hr.mono (by decide)) Z.B_Line_next_piece tkOf (s_var 0 (pv 0))) s_nil)) (fun _ => rfl)) (ss_cons (st_set (i := 1) sc_read_term.nd rfl (by first | exact .inl rfl | exact .inr rfl) (s_bin o_mul (s_var 1 (pv 1)) (s_meth0 (ps := ["self"]) (c := 4) (mt := [116, 97, 107, 101, 95, 102, 105, 103, 117, 114, 101, 115]) Z.g_Line Z.C_Line Z.H_Line_take_figures (ok_Line_take_figures Z) (hr.mono (by decide)) Z.B_Line_take_figures tkOf (s_var 0 (pv 0))))) (ss_one (st_if (s_tnot (s_tval (s_call (ps := ["thing"]) (ok_is_word Z) (hr.mono (by decide)) rfl Z.G_is_word Z.K_is_word Z.B_is_word tkOf (s_cons (s_meth0 (ps := ["self"]) (c := 4) (mt := [110, 101, 120, 116, 95, 112, 105, 101, 99, 101]) Z.g_Line Z.C_Line Z.H_Line_next_piece (ok_Line_next_piece Z) (hr.mono (by decide)) Z.B_Line_next_piece tkOf (s_var 0 (pv 0))) s_nil)) (fun _ => rfl))) (ss_one (st_ret (s_tup (s_cons (s_str (l := [110, 117, 109, 98, 101, 114]) (by decide +kernel)) (s_cons (s_var 1 (pv 1)) s_nil))))) ss_nil))) ss_nil) (ss_cons (st_set (i := 2) sc_read_term.nd rfl (by first | exact .inl rfl | exact .inr rfl) (s_meth0 (ps := ["self"]) (c := 4) (mt := [116, 97, 107, 101, 95, 119, 111, 114, 100]) Z.g_Line Z.C_Line Z.H_Line_take_word (ok_Line_take_word Z) (hr.mono (by decide)) Z.B_Line_take_word tkOf (s_var 0 (pv 0)))) (ss_cons (st_if (s_tnot (s_tval (s_call (ps := ["piece"]) (ok_is_figures Z) (hr.mono (by decide)) rfl Z.G_is_figures Z.K_is_figures Z.B_is_figures tkOf (s_cons (s_meth0 (ps := ["self"]) (c := 4) (mt := [110, 101, 120, 116, 95, 112, 105, 101, 99, 101]) Z.g_Line Z.C_Line Z.H_Line_next_piece (ok_Line_next_piece Z) (hr.mono (by decide)) Z.B_Line_next_piece tkOf (s_var 0 (pv 0))) s_nil)) (fun _ => rfl))) (ss_one (st_ret (s_tup (s_cons (s_str (l := [105, 110, 112, 117, 116]) (by decide +kernel)) (s_cons (s_var 2 (pv 2)) (s_cons (s_var 1 (pv 1)) s_nil)))))) ss_nil) (ss_cons (st_set (i := 3) sc_read_term.nd rfl (by first | exact .inl rfl | exact .inr rfl) (s_call (ps := ["line", "part", "step"]) (ok_read_part_v0 Z) (hr.mono (by decide)) rfl Z.G_read_part Z.K_read_part Z.B_read_part tkOf (s_cons (s_var 0 (pv 0)) (s_cons (s_str (l := [110, 117, 109, 98, 101, 114]) (by decide +kernel)) (s_cons (s_lst s_nil) s_nil))))) (ss_cons (st_set (i := 4) sc_read_term.nd rfl (by first | exact .inl rfl | exact .inr rfl) (s_call (ps := ["line", "part", "step"]) (ok_read_part_v0 Z) (hr.mono (by decide)) rfl Z.G_read_part Z.K_read_part Z.B_read_part tkOf (s_cons (s_var 0 (pv 0)) (s_cons (s_str (l := [99, 101, 108, 108]) (by decide +kernel)) (s_cons (s_lst s_nil) s_nil))))) (ss_one (st_ret (s_tup (s_cons (s_str (l := [99, 101, 108, 108]) (by decide +kernel)) (s_cons (s_var 2 (pv 2)) (s_cons (s_var 3 (pv 3)) (s_cons (s_var 4 (pv 4)) (s_cons (s_var 1 (pv 1)) s_nil))))))))))))
theorem sc_read_sign : FnScope ["line"] ["line"] (defScope s_read_sign) := ⟨rfl, rfl, rfl, by decide +kernel, rfl, by decide +kernel, by decide +kernel⟩
def fb_read_sign : FS :=
  fSeq (fIfS (fB (f2 gNe (fMeth 4 [110, 101, 120, 116, 95, 112, 105, 101, 99, 101] 1 mf_Line_next_piece (fVar 0) fNilA) (fCon (.str [45])))) (fRet (fCon (.int 1))) fNext) (fSeq (fExpr (fMeth 4 [116, 97, 107, 101, 95, 109, 97, 114, 107] 2 mf_Line_take_mark (fVar 0) (fConsA (fCon (.str [45])) fNilA))) (fRet (f1 gNeg (fCon (.int 1)))))
abbrev mf_read_sign : FM := mfOf 1 fb_read_sign
theorem ok_read_sign (Z : Fx T w mg A) : FnV P w T.K mg base T 5 A.f_read_sign A.d_read_sign ["line"] mf_read_sign := by
  refine fnV Z.F_read_sign sc_read_sign (fun cdv Ar outer s H E hr => ?_)
  exact ss_cons (st_if (s_tcmp (o_ne hr) (s_meth0 (ps := ["self"]) (c := 4) (mt := [110, 101, 120, 116, 95, 112, 105, 101, 99, 101]) Z.g_Line Z.C_Line Z.H_Line_next_piece (ok_Line_next_piece Z) (hr.mono (by decide)) Z.B_Line_next_piece tkOf (s_var 0 (pv 0))) (s_str (l := [45]) (by decide +kernel)) rfl) (ss_one (st_ret s_int)) ss_nil) (ss_cons (st_expr (s_meth (ps := ["self", "told"]) (c := 4) (mt := [116, 97, 107, 101, 95, 109, 97, 114, 107]) Z.g_Line Z.C_Line Z.H_Line_take_mark (ok_Line_take_mark Z) (hr.mono (by decide)) Z.B_Line_take_mark tkOf (s_var 0 (pv 0)) (s_cons (s_str (l := [45]) (by decide +kernel)) s_nil))) (ss_one (st_ret (s_neg s_int))))
theorem sc_read_total : FnScope ["line", "terms", "factor"] ["line"] (defScope s_read_total) := ⟨rfl, rfl, rfl, by decide +kernel, rfl, by decide +kernel, by decide +kernel⟩
def fb_read_total_v2 : FS :=
  fSeq (fExpr (fMeth 4 [116, 97, 107, 101, 95, 109, 97, 114, 107] 2 mf_Line_take_mark (fVar 0) (fConsA (fCon (.str [61])) fNilA))) (fSeq (fAsg (fLst (fConsA (fCa (nArgs 2 mf_read_term_v1) (fConsA (fVar 0) (fConsA (fCa (nArgs 1 mf_read_sign) (fConsA (fVar 0) fNilA)) fNilA))) fNilA)) (gNm 1)) (fSeq (whL (fAndT (fB (f2 (gInK kd0 false) (fMeth 4 [110, 101, 120, 116, 95, 112, 105, 101, 99, 101] 1 mf_Line_next_piece (fVar 0) fNilA) (fTup (fConsA (fCon (.str [43])) (fConsA (fCon (.str [45])) fNilA))))) (fB (f2 gLt (fCa gLen (fConsA (fVar 1) fNilA)) (fCon (.int 8))))) (fSeq (fAsg (fIf (fB (f2 gEq (fMeth 4 [116, 97, 107, 101, 95, 111, 110, 101, 95, 111, 102] 2 mf_Line_take_one_of (fVar 0) (fConsA (fTup (fConsA (fCon (.str [43])) (fConsA (fCon (.str [45])) fNilA))) fNilA)) (fCon (.str [45])))) (f1 gNeg (fCon (.int 1))) (fCon (.int 1))) (gNm 2)) (fExpr (fMt 1 gAppend (fVar 1) (fConsA (fCa (nArgs 2 mf_read_term_v1) (fConsA (fVar 0) (fConsA (fVar 2) fNilA))) fNilA)))) 100000) (fRet (fCa gTuple (fConsA (fVar 1) fNilA)))))
abbrev mf_read_total_v2 : FM := mfOf 3 fb_read_total_v2
theorem ok_read_total_v2 (Z : Fx T w mg A) : FnV P w T.K mg base T 8 A.f_read_total A.d_read_total ["line"] mf_read_total_v2 := by
  refine fnV Z.F_read_total sc_read_total (fun cdv Ar outer s H E hr => ?_)
  exact ss_cons (st_expr (s_meth (ps := ["self", "told"]) (c := 4) (mt := [116, 97, 107, 101, 95, 109, 97, 114, 107]) Z.g_Line Z.C_Line Z.H_Line_take_mark (ok_Line_take_mark Z) (hr.mono (by decide)) Z.B_Line_take_mark tkOf (s_var 0 (pv 0)) (s_cons (s_str (l := [61]) (by decide +kernel)) s_nil))) (ss_cons (st_set (i := 1) sc_read_total.nd rfl (by first | exact .inl rfl | exact .inr rfl) (s_lst (s_cons (s_call (ps := ["line", "factor"]) (ok_read_term_v1 Z) (hr.mono (by decide)) rfl Z.G_read_term Z.K_read_term Z.B_read_term tkOf (s_cons (s_var 0 (pv 0)) (s_cons (s_call (ps := ["line"]) (ok_read_sign Z) (hr.mono (by decide)) rfl Z.G_read_sign Z.K_read_sign Z.B_read_sign tkOf (s_cons (s_var 0 (pv 0)) s_nil)) s_nil))) s_nil))) (ss_cons (st_while 100000 psOf (s_w (s_wand (s_tcmp (o_inK Z.kd) (s_meth0 (ps := ["self"]) (c := 4) (mt := [110, 101, 120, 116, 95, 112, 105, 101, 99, 101]) Z.g_Line Z.C_Line Z.H_Line_next_piece (ok_Line_next_piece Z) (hr.mono (by decide)) Z.B_Line_next_piece tkOf (s_var 0 (pv 0))) (s_tup (s_cons (s_str (l := [43]) (by decide +kernel)) (s_cons (s_str (l := [45]) (by decide +kernel)) s_nil))) rfl) (s_wand1 (s_tcmp o_lt (s_callB c_len rfl Z.m_len bb_len (s_cons (s_var 1 (pv 1)) s_nil)) (s_con (C8.pe_gc rfl Z.d_MOST_TERMS) (fun _ _ => rfl)) rfl)))) (ss_cons (st_set (i := 2) sc_read_total.nd rfl (by first | exact .inl rfl | exact .inr rfl) (s_ifx (s_tcmp (o_eq hr) (s_meth (ps := ["self", "told"]) (c := 4) (mt := [116, 97, 107, 101, 95, 111, 110, 101, 95, 111, 102]) Z.g_Line Z.C_Line Z.H_Line_take_one_of (ok_Line_take_one_of Z) (hr.mono (by decide)) Z.B_Line_take_one_of tkOf (s_var 0 (pv 0)) (s_cons (s_tup (s_cons (s_str (l := [43]) (by decide +kernel)) (s_cons (s_str (l := [45]) (by decide +kernel)) s_nil))) s_nil)) (s_str (l := [45]) (by decide +kernel)) rfl) (s_neg s_int) s_int)) (ss_one (st_expr (s_mt (ty := 1) PySem.F.plainAttrs_list F.slot_list_append F.type_list_append m_append (s_var 1 (pv 1)) (s_cons (s_call (ps := ["line", "factor"]) (ok_read_term_v1 Z) (hr.mono (by decide)) rfl Z.G_read_term Z.K_read_term Z.B_read_term tkOf (s_cons (s_var 0 (pv 0)) (s_cons (s_var 2 (pv 2)) s_nil))) s_nil) rfl))))) (ss_one (st_ret (s_callTy c_tuple rfl Z.m_tuple bb_tuple (s_cons (s_var 1 (pv 1)) s_nil))))))
def fb_read_part_v3 : FS :=
  fSeq (fIfS (fB (f2 gEq (fVar 1) (fCon (.str [119, 111, 114, 100])))) (fRet (fMeth 4 [116, 97, 107, 101, 95, 119, 111, 114, 100] 1 mf_Line_take_word (fVar 0) fNilA)) fNext) (fSeq (fIfS (fB (f2 gEq (fVar 1) (fCon (.str [114, 105, 103, 104, 116, 115])))) (fRet (fMeth 4 [116, 97, 107, 101, 95, 111, 110, 101, 95, 111, 102] 2 mf_Line_take_one_of (fVar 0) (fConsA (fCon (.tup [.str [114], .str [114, 119]])) fNilA))) fNext) (fSeq (fIfS (fB (f2 gEq (fVar 1) (fCon (.str [119, 97, 121])))) (fRet (fCa (nArgs 2 mf_read_way) (fConsA (fVar 0) (fConsA (f2 (gIx kd0) (fVar 2) (f1 gNeg (fCon (.int 1)))) fNilA)))) fNext) (fSeq (fIfS (fB (f2 gEq (fVar 1) (fCon (.str [116, 111, 116, 97, 108])))) (fRet (fCa (nArgs 1 mf_read_total_v2) (fConsA (fVar 0) fNilA))) fNext) (fSeq (fIfS (fB (f2 gEq (fVar 1) (fCon (.str [99, 101, 108, 108])))) (fExpr (fMeth 4 [116, 97, 107, 101, 95, 109, 97, 114, 107] 2 mf_Line_take_mark (fVar 0) (fConsA (fCon (.str [46])) fNilA))) fNext) (fSeq (fIfS (fB (f2 gEq (fVar 1) (fCon (.str [103, 111, 97, 108])))) (fExpr (fMeth 4 [116, 97, 107, 101, 95, 109, 97, 114, 107] 2 mf_Line_take_mark (fVar 0) (fConsA (fCon (.str [116, 111])) fNilA))) fNext) (fSeq (fAsg (f2 (gIx kd0) (fCon (.g 51)) (fVar 1)) (gTpA 2 (gsCons (gNm 3) (gsCons (gNm 4) gsNil)))) (fRet (fMeth 4 [116, 97, 107, 101, 95, 110, 117, 109, 98, 101, 114] 3 mf_Line_take_number (fVar 0) (fConsA (fVar 3) (fConsA (fVar 4) fNilA))))))))))
abbrev mf_read_part_v3 : FM := mfOf 5 fb_read_part_v3
theorem ok_read_part_v3 (Z : Fx T w mg A) : FnV P w T.K mg base T 9 A.f_read_part A.d_read_part ["line", "part", "step"] mf_read_part_v3 := by
  refine fnV Z.F_read_part sc_read_part (fun cdv Ar outer s H E hr => ?_)
  exact ss_cons (st_if (s_tcmp (o_eq hr) (s_var 1 (pv 1)) (s_str (l := [119, 111, 114, 100]) (by decide +kernel)) rfl) (ss_one (st_ret (s_meth0 (ps := ["self"]) (c := 4) (mt := [116, 97, 107, 101, 95, 119, 111, 114, 100]) Z.g_Line Z.C_Line Z.H_Line_take_word (ok_Line_take_word Z) (hr.mono (by decide)) Z.B_Line_take_word tkOf (s_var 0 (pv 0))))) ss_nil) (ss_cons (st_if (s_tcmp (o_eq hr) (s_var 1 (pv 1)) (s_str (l := [114, 105, 103, 104, 116, 115]) (by decide +kernel)) rfl) (ss_one (st_ret (s_meth (ps := ["self", "told"]) (c := 4) (mt := [116, 97, 107, 101, 95, 111, 110, 101, 95, 111, 102]) Z.g_Line Z.C_Line Z.H_Line_take_one_of (ok_Line_take_one_of Z) (hr.mono (by decide)) Z.B_Line_take_one_of tkOf (s_var 0 (pv 0)) (s_cons (s_con (C8.pe_gc rfl Z.d_RIGHTS) Z.r_RIGHTS) s_nil)))) ss_nil) (ss_cons (st_if (s_tcmp (o_eq hr) (s_var 1 (pv 1)) (s_str (l := [119, 97, 121]) (by decide +kernel)) rfl) (ss_one (st_ret (s_call (ps := ["line", "many"]) (ok_read_way Z) (hr.mono (by decide)) rfl Z.G_read_way Z.K_read_way Z.B_read_way tkOf (s_cons (s_var 0 (pv 0)) (s_cons (s_ix (i_ix Z.kd) (s_var 2 (pv 2)) (s_neg s_int) (fun _ _ => rfl)) s_nil))))) ss_nil) (ss_cons (st_if (s_tcmp (o_eq hr) (s_var 1 (pv 1)) (s_str (l := [116, 111, 116, 97, 108]) (by decide +kernel)) rfl) (ss_one (st_ret (s_call (ps := ["line"]) (ok_read_total_v2 Z) (hr.mono (by decide)) rfl Z.G_read_total Z.K_read_total Z.B_read_total tkOf (s_cons (s_var 0 (pv 0)) s_nil)))) ss_nil) (ss_cons (st_if (s_tcmp (o_eq hr) (s_var 1 (pv 1)) (s_str (l := [99, 101, 108, 108]) (by decide +kernel)) rfl) (ss_one (st_expr (s_meth (ps := ["self", "told"]) (c := 4) (mt := [116, 97, 107, 101, 95, 109, 97, 114, 107]) Z.g_Line Z.C_Line Z.H_Line_take_mark (ok_Line_take_mark Z) (hr.mono (by decide)) Z.B_Line_take_mark tkOf (s_var 0 (pv 0)) (s_cons (s_str (l := [46]) (by decide +kernel)) s_nil)))) ss_nil) (ss_cons (st_if (s_tcmp (o_eq hr) (s_var 1 (pv 1)) (s_str (l := [103, 111, 97, 108]) (by decide +kernel)) rfl) (ss_one (st_expr (s_meth (ps := ["self", "told"]) (c := 4) (mt := [116, 97, 107, 101, 95, 109, 97, 114, 107]) Z.g_Line Z.C_Line Z.H_Line_take_mark (ok_Line_take_mark Z) (hr.mono (by decide)) Z.B_Line_take_mark tkOf (s_var 0 (pv 0)) (s_cons (s_str (l := [116, 111]) (by decide +kernel)) s_nil)))) ss_nil) (ss_cons (st_asg (s_ix (i_ix Z.kd) (s_con (C8.pe_gc rfl Z.d_LIMITS) (fun _ _ => rfl)) (s_var 1 (pv 1)) (fun _ _ => rfl)) (sg_tupA rfl (sgs_cons (sg_name (i := 3) sc_read_part.nd rfl (by first | exact .inl rfl | exact .inr rfl)) (sgs_cons (sg_name (i := 4) sc_read_part.nd rfl (by first | exact .inl rfl | exact .inr rfl)) sgs_nil)))) (ss_one (st_ret (s_meth (ps := ["self", "low", "high"]) (c := 4) (mt := [116, 97, 107, 101, 95, 110, 117, 109, 98, 101, 114]) Z.g_Line Z.C_Line Z.H_Line_take_number (ok_Line_take_number Z) (hr.mono (by decide)) Z.B_Line_take_number tkOf (s_var 0 (pv 0)) (s_cons (s_var 3 (pv 3)) (s_cons (s_var 4 (pv 4)) s_nil)))))))))))
theorem sc_read_step : FnScope ["line", "kind", "step", "part"] ["line"] (defScope s_read_step) := ⟨rfl, rfl, rfl, by decide +kernel, rfl, by decide +kernel, by decide +kernel⟩
def fb_read_step : FS :=
  fSeq (fAsg (fMeth 4 [116, 97, 107, 101] 2 mf_Line_take (fVar 0) (fConsA (f2 (gInK kd0 false) (fMeth 4 [110, 101, 120, 116, 95, 112, 105, 101, 99, 101] 1 mf_Line_next_piece (fVar 0) fNilA) (fCon (.g 50))) fNilA)) (gNm 1)) (fSeq (fAsg (fLst (fConsA (fVar 1) fNilA)) (gNm 2)) (fSeq (fFor (fItA (f2 (gIx kd0) (fCon (.g 50)) (fVar 1))) (gNm 3) (fExpr (fMt 1 gAppend (fVar 2) (fConsA (fCa (nArgs 3 mf_read_part_v3) (fConsA (fVar 0) (fConsA (fVar 3) (fConsA (fVar 2) fNilA)))) fNilA)))) (fSeq (fExpr (fMeth 4 [102, 105, 110, 105, 115, 104] 1 mf_Line_finish (fVar 0) fNilA)) (fRet (fCa gTuple (fConsA (fVar 2) fNilA))))))
abbrev mf_read_step : FM := mfOf 4 fb_read_step
theorem ok_read_step (Z : Fx T w mg A) : FnV P w T.K mg base T 10 A.f_read_step A.d_read_step ["line"] mf_read_step := by
  refine fnV Z.F_read_step sc_read_step (fun cdv Ar outer s H E hr => ?_)
  exact ss_cons (st_set (i := 1) sc_read_step.nd rfl (by first | exact .inl rfl | exact .inr rfl) (s_meth (ps := ["self", "fit"]) (c := 4) (mt := [116, 97, 107, 101]) Z.g_Line Z.C_Line Z.H_Line_take (ok_Line_take Z) (hr.mono (by decide)) Z.B_Line_take tkOf (s_var 0 (pv 0)) (s_cons (s_cmp (o_inK Z.kd) (s_meth0 (ps := ["self"]) (c := 4) (mt := [110, 101, 120, 116, 95, 112, 105, 101, 99, 101]) Z.g_Line Z.C_Line Z.H_Line_next_piece (ok_Line_next_piece Z) (hr.mono (by decide)) Z.B_Line_next_piece tkOf (s_var 0 (pv 0))) (s_con (C8.pe_gc rfl Z.d_SHAPES) (fun _ _ => rfl)) rfl) s_nil))) (ss_cons (st_set (i := 2) sc_read_step.nd rfl (by first | exact .inl rfl | exact .inr rfl) (s_lst (s_cons (s_var 1 (pv 1)) s_nil))) (ss_cons (st_for psOf rfl (si_any (s_ix (i_ix Z.kd) (s_con (C8.pe_gc rfl Z.d_SHAPES) (fun _ _ => rfl)) (s_var 1 (pv 1)) (fun _ _ => rfl))) (sg_name (i := 3) sc_read_step.nd rfl (by first | exact .inl rfl | exact .inr rfl)) (ss_one (st_expr (s_mt (ty := 1) PySem.F.plainAttrs_list F.slot_list_append F.type_list_append m_append (s_var 2 (pv 2)) (s_cons (s_call (ps := ["line", "part", "step"]) (ok_read_part_v3 Z) (hr.mono (by decide)) rfl Z.G_read_part Z.K_read_part Z.B_read_part tkOf (s_cons (s_var 0 (pv 0)) (s_cons (s_var 3 (pv 3)) (s_cons (s_var 2 (pv 2)) s_nil)))) s_nil) rfl))) (fun _ => rfl)) (ss_cons (st_expr (s_meth0 (ps := ["self"]) (c := 4) (mt := [102, 105, 110, 105, 115, 104]) Z.g_Line Z.C_Line Z.H_Line_finish (ok_Line_finish Z) (hr.mono (by decide)) Z.B_Line_finish tkOf (s_var 0 (pv 0)))) (ss_one (st_ret (s_callTy c_tuple rfl Z.m_tuple bb_tuple (s_cons (s_var 2 (pv 2)) s_nil)))))))
theorem sc_is_way : FnScope ["thing"] ["thing"] (defScope s_is_way) := ⟨rfl, rfl, rfl, by decide +kernel, rfl, by decide +kernel, by decide +kernel⟩
def fb_is_way_v0 : FS :=
  fSeq (fIfS (fOrT (fNotT (fB (fIsi (tabB 3) (fVar 0)))) (fB (f2 (gInK kd0 true) (fCa gLen (fConsA (fVar 0) fNilA)) (fTup (fConsA (fCon (.int 1)) (fConsA (fCon (.int 3)) fNilA)))))) (fRet (fCon (.bl false))) fNext) (fSeq (fIfS (fB (f2 gEq (fCa gLen (fConsA (fVar 0) fNilA)) (fCon (.int 1)))) (fRet (f2 gEq (f2 (gIx kd0) (fVar 0) (fCon (.int 0))) (fCon (.str [122, 101, 114, 111])))) fNext) fNever)
abbrev mf_is_way_v0 : FM := mfOf 1 fb_is_way_v0
theorem ok_is_way_v0 (Z : Fx T w mg A) : FnV P w T.K mg base T 2 A.f_is_way A.d_is_way ["thing"] mf_is_way_v0 := by
  refine fnV Z.F_is_way sc_is_way (fun cdv Ar outer s H E hr => ?_)
  exact ss_cons (st_if (s_w (s_wor (s_tnot (s_tval (s_isi (cv := .ty "tuple") (cu := .type "tuple") rfl Z.m_isinstance (pe_bltn rfl Z.m_tuple bb_tuple rfl) (.ty _) (tabB_ok 3) (s_var 0 (pv 0)) bb_isinstance) (fun _ => rfl))) (s_wor1 (s_tcmp (o_notinK Z.kd) (s_callB c_len rfl Z.m_len bb_len (s_cons (s_var 0 (pv 0)) s_nil)) (s_tup (s_cons s_int (s_cons s_int s_nil))) rfl)))) (ss_one (st_ret s_bl)) ss_nil) (ss_cons (st_if (s_tcmp (o_eq hr) (s_callB c_len rfl Z.m_len bb_len (s_cons (s_var 0 (pv 0)) s_nil)) s_int rfl) (ss_one (st_ret (s_cmp (o_eq hr) (s_ix (i_ix Z.kd) (s_var 0 (pv 0)) s_int (fun _ _ => rfl)) (s_str (l := [122, 101, 114, 111]) (by decide +kernel)) rfl))) ss_nil) (ss_one st_never))
theorem sc_is_total : FnScope ["thing", "term"] ["thing"] (defScope s_is_total) := ⟨rfl, rfl, rfl, by decide +kernel, rfl, by decide +kernel, by decide +kernel⟩
def fb_is_total_v0 : FS :=
  fSeq (fIfS (fOrT (fNotT (fB (fIsi (tabB 3) (fVar 0)))) (fNotT (fB (fChain gLe gLe (fCon (.int 1)) (fCa gLen (fConsA (fVar 0) fNilA)) (fCon (.int 8)))))) (fRet (fCon (.bl false))) fNext) fNever
abbrev mf_is_total_v0 : FM := mfOf 2 fb_is_total_v0
theorem ok_is_total_v0 (Z : Fx T w mg A) : FnV P w T.K mg base T 1 A.f_is_total A.d_is_total ["thing"] mf_is_total_v0 := by
  refine fnV Z.F_is_total sc_is_total (fun cdv Ar outer s H E hr => ?_)
  exact ss_cons (st_if (s_w (s_wor (s_tnot (s_tval (s_isi (cv := .ty "tuple") (cu := .type "tuple") rfl Z.m_isinstance (pe_bltn rfl Z.m_tuple bb_tuple rfl) (.ty _) (tabB_ok 3) (s_var 0 (pv 0)) bb_isinstance) (fun _ => rfl))) (s_wor1 (s_tnot (s_tchain o_le o_le s_int (s_callB c_len rfl Z.m_len bb_len (s_cons (s_var 0 (pv 0)) s_nil)) (s_con (C8.pe_gc rfl Z.d_MOST_TERMS) (fun _ _ => rfl))))))) (ss_one (st_ret s_bl)) ss_nil) (ss_one st_never)
theorem sc_fits : FnScope ["part", "thing", "low", "high"] ["part", "thing"] (defScope s_fits) := ⟨rfl, rfl, rfl, by decide +kernel, rfl, by decide +kernel, by decide +kernel⟩
def fb_fits_v1 : FS :=
  fSeq (fIfS (fB (f2 (gInK kd0 false) (fVar 0) (fCon (.g 51)))) (fSeq (fAsg (f2 (gIx kd0) (fCon (.g 51)) (fVar 0)) (gTpA 2 (gsCons (gNm 2) (gsCons (gNm 3) gsNil)))) (fRet (fCa (nArgs 3 mf_is_between) (fConsA (fVar 1) (fConsA (fVar 2) (fConsA (fVar 3) fNilA)))))) fNext) (fSeq (fIfS (fB (f2 gEq (fVar 0) (fCon (.str [119, 111, 114, 100])))) (fRet (fCa (nArgs 1 mf_is_word) (fConsA (fVar 1) fNilA))) fNext) (fSeq (fIfS (fB (f2 gEq (fVar 0) (fCon (.str [114, 105, 103, 104, 116, 115])))) (fRet (f2 (gInK kd0 false) (fVar 1) (fCon (.tup [.str [114], .str [114, 119]])))) fNext) (fSeq (fIfS (fB (f2 gEq (fVar 0) (fCon (.str [119, 97, 121])))) (fRet (fCa (nArgs 1 mf_is_way_v0) (fConsA (fVar 1) fNilA))) fNext) (fRet (fCa (nArgs 1 mf_is_total_v0) (fConsA (fVar 1) fNilA))))))
abbrev mf_fits_v1 : FM := mfOf 4 fb_fits_v1
theorem ok_fits_v1 (Z : Fx T w mg A) : FnV P w T.K mg base T 3 A.f_fits A.d_fits ["part", "thing"] mf_fits_v1 := by
  refine fnV Z.F_fits sc_fits (fun cdv Ar outer s H E hr => ?_)
  exact ss_cons (st_if (s_tcmp (o_inK Z.kd) (s_var 0 (pv 0)) (s_con (C8.pe_gc rfl Z.d_LIMITS) (fun _ _ => rfl)) rfl) (ss_cons (st_asg (s_ix (i_ix Z.kd) (s_con (C8.pe_gc rfl Z.d_LIMITS) (fun _ _ => rfl)) (s_var 0 (pv 0)) (fun _ _ => rfl)) (sg_tupA rfl (sgs_cons (sg_name (i := 2) sc_fits.nd rfl (by first | exact .inl rfl | exact .inr rfl)) (sgs_cons (sg_name (i := 3) sc_fits.nd rfl (by first | exact .inl rfl | exact .inr rfl)) sgs_nil)))) (ss_one (st_ret (s_call (ps := ["thing", "low", "high"]) (ok_is_between Z) (hr.mono (by decide)) rfl Z.G_is_between Z.K_is_between Z.B_is_between tkOf (s_cons (s_var 1 (pv 1)) (s_cons (s_var 2 (pv 2)) (s_cons (s_var 3 (pv 3)) s_nil))))))) ss_nil) (ss_cons (st_if (s_tcmp (o_eq hr) (s_var 0 (pv 0)) (s_str (l := [119, 111, 114, 100]) (by decide +kernel)) rfl) (ss_one (st_ret (s_call (ps := ["thing"]) (ok_is_word Z) (hr.mono (by decide)) rfl Z.G_is_word Z.K_is_word Z.B_is_word tkOf (s_cons (s_var 1 (pv 1)) s_nil)))) ss_nil) (ss_cons (st_if (s_tcmp (o_eq hr) (s_var 0 (pv 0)) (s_str (l := [114, 105, 103, 104, 116, 115]) (by decide +kernel)) rfl) (ss_one (st_ret (s_cmp (o_inK Z.kd) (s_var 1 (pv 1)) (s_con (C8.pe_gc rfl Z.d_RIGHTS) Z.r_RIGHTS) rfl))) ss_nil) (ss_cons (st_if (s_tcmp (o_eq hr) (s_var 0 (pv 0)) (s_str (l := [119, 97, 121]) (by decide +kernel)) rfl) (ss_one (st_ret (s_call (ps := ["thing"]) (ok_is_way_v0 Z) (hr.mono (by decide)) rfl Z.G_is_way Z.K_is_way Z.B_is_way tkOf (s_cons (s_var 1 (pv 1)) s_nil)))) ss_nil) (ss_one (st_ret (s_call (ps := ["thing"]) (ok_is_total_v0 Z) (hr.mono (by decide)) rfl Z.G_is_total Z.K_is_total Z.B_is_total tkOf (s_cons (s_var 1 (pv 1)) s_nil)))))))
def fb_is_way_v2 : FS :=
  fSeq (fIfS (fOrT (fNotT (fB (fIsi (tabB 3) (fVar 0)))) (fB (f2 (gInK kd0 true) (fCa gLen (fConsA (fVar 0) fNilA)) (fTup (fConsA (fCon (.int 1)) (fConsA (fCon (.int 3)) fNilA)))))) (fRet (fCon (.bl false))) fNext) (fSeq (fIfS (fB (f2 gEq (fCa gLen (fConsA (fVar 0) fNilA)) (fCon (.int 1)))) (fRet (f2 gEq (f2 (gIx kd0) (fVar 0) (fCon (.int 0))) (fCon (.str [122, 101, 114, 111])))) fNext) (fRet (fAnd (f2 (gInK kd0 false) (f2 (gIx kd0) (fVar 0) (fCon (.int 0))) (fTup (fConsA (fCon (.str [97, 112, 97, 114, 116])) (fConsA (fCon (.str [99, 111, 109, 109, 111, 110])) fNilA)))) (fAnd (fCa (nArgs 1 mf_is_word) (fConsA (f2 (gIx kd0) (fVar 0) (fCon (.int 1))) fNilA)) (fCa (nArgs 2 mf_fits_v1) (fConsA (fCon (.str [110, 117, 109, 98, 101, 114])) (fConsA (f2 (gIx kd0) (fVar 0) (fCon (.int 2))) fNilA)))))))
abbrev mf_is_way_v2 : FM := mfOf 1 fb_is_way_v2
theorem ok_is_way_v2 (Z : Fx T w mg A) : FnV P w T.K mg base T 4 A.f_is_way A.d_is_way ["thing"] mf_is_way_v2 := by
  refine fnV Z.F_is_way sc_is_way (fun cdv Ar outer s H E hr => ?_)
  exact ss_cons (st_if (s_w (s_wor (s_tnot (s_tval (s_isi (cv := .ty "tuple") (cu := .type "tuple") rfl Z.m_isinstance (pe_bltn rfl Z.m_tuple bb_tuple rfl) (.ty _) (tabB_ok 3) (s_var 0 (pv 0)) bb_isinstance) (fun _ => rfl))) (s_wor1 (s_tcmp (o_notinK Z.kd) (s_callB c_len rfl Z.m_len bb_len (s_cons (s_var 0 (pv 0)) s_nil)) (s_tup (s_cons s_int (s_cons s_int s_nil))) rfl)))) (ss_one (st_ret s_bl)) ss_nil) (ss_cons (st_if (s_tcmp (o_eq hr) (s_callB c_len rfl Z.m_len bb_len (s_cons (s_var 0 (pv 0)) s_nil)) s_int rfl) (ss_one (st_ret (s_cmp (o_eq hr) (s_ix (i_ix Z.kd) (s_var 0 (pv 0)) s_int (fun _ _ => rfl)) (s_str (l := [122, 101, 114, 111]) (by decide +kernel)) rfl))) ss_nil) (ss_one (st_ret (s_and (s_cmp (o_inK Z.kd) (s_ix (i_ix Z.kd) (s_var 0 (pv 0)) s_int (fun _ _ => rfl)) (s_tup (s_cons (s_str (l := [97, 112, 97, 114, 116]) (by decide +kernel)) (s_cons (s_str (l := [99, 111, 109, 109, 111, 110]) (by decide +kernel)) s_nil))) rfl) (s_and (s_call (ps := ["thing"]) (ok_is_word Z) (hr.mono (by decide)) rfl Z.G_is_word Z.K_is_word Z.B_is_word tkOf (s_cons (s_ix (i_ix Z.kd) (s_var 0 (pv 0)) s_int (fun _ _ => rfl)) s_nil)) (s_one (s_call (ps := ["part", "thing"]) (ok_fits_v1 Z) (hr.mono (by decide)) rfl Z.G_fits Z.K_fits Z.B_fits tkOf (s_cons (s_str (l := [110, 117, 109, 98, 101, 114]) (by decide +kernel)) (s_cons (s_ix (i_ix Z.kd) (s_var 0 (pv 0)) s_int (fun _ _ => rfl)) s_nil)))))))))
def fb_fits_v0 : FS :=
  fSeq (fIfS (fB (f2 (gInK kd0 false) (fVar 0) (fCon (.g 51)))) (fSeq (fAsg (f2 (gIx kd0) (fCon (.g 51)) (fVar 0)) (gTpA 2 (gsCons (gNm 2) (gsCons (gNm 3) gsNil)))) (fRet (fCa (nArgs 3 mf_is_between) (fConsA (fVar 1) (fConsA (fVar 2) (fConsA (fVar 3) fNilA)))))) fNext) (fSeq (fIfS (fB (f2 gEq (fVar 0) (fCon (.str [119, 111, 114, 100])))) (fRet (fCa (nArgs 1 mf_is_word) (fConsA (fVar 1) fNilA))) fNext) (fSeq (fIfS (fB (f2 gEq (fVar 0) (fCon (.str [114, 105, 103, 104, 116, 115])))) (fRet (f2 (gInK kd0 false) (fVar 1) (fCon (.tup [.str [114], .str [114, 119]])))) fNext) (fSeq (fIfS (fB (f2 gEq (fVar 0) (fCon (.str [119, 97, 121])))) fNever fNext) fNever)))
abbrev mf_fits_v0 : FM := mfOf 4 fb_fits_v0
theorem ok_fits_v0 (Z : Fx T w mg A) : FnV P w T.K mg base T 3 A.f_fits A.d_fits ["part", "thing"] mf_fits_v0 := by
  refine fnV Z.F_fits sc_fits (fun cdv Ar outer s H E hr => ?_)
  exact ss_cons (st_if (s_tcmp (o_inK Z.kd) (s_var 0 (pv 0)) (s_con (C8.pe_gc rfl Z.d_LIMITS) (fun _ _ => rfl)) rfl) (ss_cons (st_asg (s_ix (i_ix Z.kd) (s_con (C8.pe_gc rfl Z.d_LIMITS) (fun _ _ => rfl)) (s_var 0 (pv 0)) (fun _ _ => rfl)) (sg_tupA rfl (sgs_cons (sg_name (i := 2) sc_fits.nd rfl (by first | exact .inl rfl | exact .inr rfl)) (sgs_cons (sg_name (i := 3) sc_fits.nd rfl (by first | exact .inl rfl | exact .inr rfl)) sgs_nil)))) (ss_one (st_ret (s_call (ps := ["thing", "low", "high"]) (ok_is_between Z) (hr.mono (by decide)) rfl Z.G_is_between Z.K_is_between Z.B_is_between tkOf (s_cons (s_var 1 (pv 1)) (s_cons (s_var 2 (pv 2)) (s_cons (s_var 3 (pv 3)) s_nil))))))) ss_nil) (ss_cons (st_if (s_tcmp (o_eq hr) (s_var 0 (pv 0)) (s_str (l := [119, 111, 114, 100]) (by decide +kernel)) rfl) (ss_one (st_ret (s_call (ps := ["thing"]) (ok_is_word Z) (hr.mono (by decide)) rfl Z.G_is_word Z.K_is_word Z.B_is_word tkOf (s_cons (s_var 1 (pv 1)) s_nil)))) ss_nil) (ss_cons (st_if (s_tcmp (o_eq hr) (s_var 0 (pv 0)) (s_str (l := [114, 105, 103, 104, 116, 115]) (by decide +kernel)) rfl) (ss_one (st_ret (s_cmp (o_inK Z.kd) (s_var 1 (pv 1)) (s_con (C8.pe_gc rfl Z.d_RIGHTS) Z.r_RIGHTS) rfl))) ss_nil) (ss_cons (st_if (s_tcmp (o_eq hr) (s_var 0 (pv 0)) (s_str (l := [119, 97, 121]) (by decide +kernel)) rfl) (ss_one st_never) ss_nil) (ss_one st_never))))
theorem sc_is_term : FnScope ["thing"] ["thing"] (defScope s_is_term) := ⟨rfl, rfl, rfl, by decide +kernel, rfl, by decide +kernel, by decide +kernel⟩
def fb_is_term_v1 : FS :=
  fSeq (fIfS (fOrT (fNotT (fB (fIsi (tabB 3) (fVar 0)))) (fOrT (fB (f2 gLt (fCa gLen (fConsA (fVar 0) fNilA)) (fCon (.int 2)))) (fNotT (fB (fCa (nArgs 1 mf_is_integer) (fConsA (f2 (gIx kd0) (fVar 0) (f1 gNeg (fCon (.int 1)))) fNilA)))))) (fRet (fCon (.bl false))) fNext) (fSeq (fIfS (fB (f2 gEq (fCa gLen (fConsA (fVar 0) fNilA)) (fCon (.int 2)))) (fRet (f2 gEq (f2 (gIx kd0) (fVar 0) (fCon (.int 0))) (fCon (.str [110, 117, 109, 98, 101, 114])))) fNext) (fSeq (fIfS (fB (f2 gEq (fCa gLen (fConsA (fVar 0) fNilA)) (fCon (.int 3)))) (fRet (fAnd (f2 gEq (f2 (gIx kd0) (fVar 0) (fCon (.int 0))) (fCon (.str [105, 110, 112, 117, 116]))) (fCa (nArgs 1 mf_is_word) (fConsA (f2 (gIx kd0) (fVar 0) (fCon (.int 1))) fNilA)))) fNext) (fSeq (fIfS (fOrT (fB (f2 gNe (fCa gLen (fConsA (fVar 0) fNilA)) (fCon (.int 5)))) (fOrT (fB (f2 gNe (f2 (gIx kd0) (fVar 0) (fCon (.int 0))) (fCon (.str [99, 101, 108, 108])))) (fNotT (fB (fCa (nArgs 1 mf_is_word) (fConsA (f2 (gIx kd0) (fVar 0) (fCon (.int 1))) fNilA)))))) (fRet (fCon (.bl false))) fNext) (fRet (fAnd (fCa (nArgs 2 mf_fits_v0) (fConsA (fCon (.str [110, 117, 109, 98, 101, 114])) (fConsA (f2 (gIx kd0) (fVar 0) (fCon (.int 2))) fNilA))) (fCa (nArgs 2 mf_fits_v0) (fConsA (fCon (.str [99, 101, 108, 108])) (fConsA (f2 (gIx kd0) (fVar 0) (fCon (.int 3))) fNilA))))))))
abbrev mf_is_term_v1 : FM := mfOf 1 fb_is_term_v1
theorem ok_is_term_v1 (Z : Fx T w mg A) : FnV P w T.K mg base T 4 A.f_is_term A.d_is_term ["thing"] mf_is_term_v1 := by
  refine fnV Z.F_is_term sc_is_term (fun cdv Ar outer s H E hr => ?_)
  exact ss_cons (st_if (s_w (s_wor (s_tnot (s_tval (s_isi (cv := .ty "tuple") (cu := .type "tuple") rfl Z.m_isinstance (pe_bltn rfl Z.m_tuple bb_tuple rfl) (.ty _) (tabB_ok 3) (s_var 0 (pv 0)) bb_isinstance) (fun _ => rfl))) (s_wor (s_tcmp o_lt (s_callB c_len rfl Z.m_len bb_len (s_cons (s_var 0 (pv 0)) s_nil)) s_int rfl) (s_wor1 (s_tnot (s_tval (s_call (ps := ["thing"]) (ok_is_integer Z) (hr.mono (by decide)) rfl Z.G_is_integer Z.K_is_integer Z.B_is_integer tkOf (s_cons (s_ix (i_ix Z.kd) (s_var 0 (pv 0)) (s_neg s_int) (fun _ _ => rfl)) s_nil)) (fun _ => rfl))))))) (ss_one (st_ret s_bl)) ss_nil) (ss_cons (st_if (s_tcmp (o_eq hr) (s_callB c_len rfl Z.m_len bb_len (s_cons (s_var 0 (pv 0)) s_nil)) s_int rfl) (ss_one (st_ret (s_cmp (o_eq hr) (s_ix (i_ix Z.kd) (s_var 0 (pv 0)) s_int (fun _ _ => rfl)) (s_str (l := [110, 117, 109, 98, 101, 114]) (by decide +kernel)) rfl))) ss_nil) (ss_cons (st_if (s_tcmp (o_eq hr) (s_callB c_len rfl Z.m_len bb_len (s_cons (s_var 0 (pv 0)) s_nil)) s_int rfl) (ss_one (st_ret (s_and (s_cmp (o_eq hr) (s_ix (i_ix Z.kd) (s_var 0 (pv 0)) s_int (fun _ _ => rfl)) (s_str (l := [105, 110, 112, 117, 116]) (by decide +kernel)) rfl) (s_one (s_call (ps := ["thing"]) (ok_is_word Z) (hr.mono (by decide)) rfl Z.G_is_word Z.K_is_word Z.B_is_word tkOf (s_cons (s_ix (i_ix Z.kd) (s_var 0 (pv 0)) s_int (fun _ _ => rfl)) s_nil)))))) ss_nil) (ss_cons (st_if (s_w (s_wor (s_tcmp (o_ne hr) (s_callB c_len rfl Z.m_len bb_len (s_cons (s_var 0 (pv 0)) s_nil)) s_int rfl) (s_wor (s_tcmp (o_ne hr) (s_ix (i_ix Z.kd) (s_var 0 (pv 0)) s_int (fun _ _ => rfl)) (s_str (l := [99, 101, 108, 108]) (by decide +kernel)) rfl) (s_wor1 (s_tnot (s_tval (s_call (ps := ["thing"]) (ok_is_word Z) (hr.mono (by decide)) rfl Z.G_is_word Z.K_is_word Z.B_is_word tkOf (s_cons (s_ix (i_ix Z.kd) (s_var 0 (pv 0)) s_int (fun _ _ => rfl)) s_nil)) (fun _ => rfl))))))) (ss_one (st_ret s_bl)) ss_nil) (ss_one (st_ret (s_and (s_call (ps := ["part", "thing"]) (ok_fits_v0 Z) (hr.mono (by decide)) rfl Z.G_fits Z.K_fits Z.B_fits tkOf (s_cons (s_str (l := [110, 117, 109, 98, 101, 114]) (by decide +kernel)) (s_cons (s_ix (i_ix Z.kd) (s_var 0 (pv 0)) s_int (fun _ _ => rfl)) s_nil))) (s_one (s_call (ps := ["part", "thing"]) (ok_fits_v0 Z) (hr.mono (by decide)) rfl Z.G_fits Z.K_fits Z.B_fits tkOf (s_cons (s_str (l := [99, 101, 108, 108]) (by decide +kernel)) (s_cons (s_ix (i_ix Z.kd) (s_var 0 (pv 0)) s_int (fun _ _ => rfl)) s_nil))))))))))
def fb_is_total_v2 : FS :=
  fSeq (fIfS (fOrT (fNotT (fB (fIsi (tabB 3) (fVar 0)))) (fNotT (fB (fChain gLe gLe (fCon (.int 1)) (fCa gLen (fConsA (fVar 0) fNilA)) (fCon (.int 8)))))) (fRet (fCon (.bl false))) fNext) (fRet (fCa (gBools (·.all id)) (fConsA (fComp (fItA (fVar 0)) [1] (gNm 1) fYes (fCa (nArgs 1 mf_is_term_v1) (fConsA (fVar 1) fNilA))) fNilA)))
abbrev mf_is_total_v2 : FM := mfOf 2 fb_is_total_v2
theorem ok_is_total_v2 (Z : Fx T w mg A) : FnV P w T.K mg base T 5 A.f_is_total A.d_is_total ["thing"] mf_is_total_v2 := by
  refine fnV Z.F_is_total sc_is_total (fun cdv Ar outer s H E hr => ?_)
  exact ss_cons (st_if (s_w (s_wor (s_tnot (s_tval (s_isi (cv := .ty "tuple") (cu := .type "tuple") rfl Z.m_isinstance (pe_bltn rfl Z.m_tuple bb_tuple rfl) (.ty _) (tabB_ok 3) (s_var 0 (pv 0)) bb_isinstance) (fun _ => rfl))) (s_wor1 (s_tnot (s_tchain o_le o_le s_int (s_callB c_len rfl Z.m_len bb_len (s_cons (s_var 0 (pv 0)) s_nil)) (s_con (C8.pe_gc rfl Z.d_MOST_TERMS) (fun _ _ => rfl))))))) (ss_one (st_ret s_bl)) ss_nil) (ss_one (st_ret (s_callB c_all rfl Z.m_all bb_all (s_cons (s_comp rfl sc_is_total.nd (own := [("term", 1)]) (blk_of (N := ["thing", "term"]) (sc := defScope s_is_total) (by decide +kernel)) (si_any (s_var 0 (pv 0))) (fun _ _ _ _ _ => sg_name (i := 1) sc_is_total.nd rfl (by first | exact .inl rfl | exact .inr rfl)) (fun _ _ _ _ _ => sts_nil) (fun _ _ _ _ _ => s_call (ps := ["thing"]) (ok_is_term_v1 Z) (hr.mono (by decide)) rfl Z.G_is_term Z.K_is_term Z.B_is_term takes0 (s_cons (s_var 1 (pv 1)) s_nil)) (by decide) (fun _ => rfl)) s_nil))))
def fb_fits_v3 : FS :=
  fSeq (fIfS (fB (f2 (gInK kd0 false) (fVar 0) (fCon (.g 51)))) (fSeq (fAsg (f2 (gIx kd0) (fCon (.g 51)) (fVar 0)) (gTpA 2 (gsCons (gNm 2) (gsCons (gNm 3) gsNil)))) (fRet (fCa (nArgs 3 mf_is_between) (fConsA (fVar 1) (fConsA (fVar 2) (fConsA (fVar 3) fNilA)))))) fNext) (fSeq (fIfS (fB (f2 gEq (fVar 0) (fCon (.str [119, 111, 114, 100])))) (fRet (fCa (nArgs 1 mf_is_word) (fConsA (fVar 1) fNilA))) fNext) (fSeq (fIfS (fB (f2 gEq (fVar 0) (fCon (.str [114, 105, 103, 104, 116, 115])))) (fRet (f2 (gInK kd0 false) (fVar 1) (fCon (.tup [.str [114], .str [114, 119]])))) fNext) (fSeq (fIfS (fB (f2 gEq (fVar 0) (fCon (.str [119, 97, 121])))) (fRet (fCa (nArgs 1 mf_is_way_v2) (fConsA (fVar 1) fNilA))) fNext) (fRet (fCa (nArgs 1 mf_is_total_v2) (fConsA (fVar 1) fNilA))))))
abbrev mf_fits_v3 : FM := mfOf 4 fb_fits_v3
theorem ok_fits_v3 (Z : Fx T w mg A) : FnV P w T.K mg base T 6 A.f_fits A.d_fits ["part", "thing"] mf_fits_v3 := by
  refine fnV Z.F_fits sc_fits (fun cdv Ar outer s H E hr => ?_)
  exact ss_cons (st_if (s_tcmp (o_inK Z.kd) (s_var 0 (pv 0)) (s_con (C8.pe_gc rfl Z.d_LIMITS) (fun _ _ => rfl)) rfl) (ss_cons (st_asg (s_ix (i_ix Z.kd) (s_con (C8.pe_gc rfl Z.d_LIMITS) (fun _ _ => rfl)) (s_var 0 (pv 0)) (fun _ _ => rfl)) (sg_tupA rfl (sgs_cons (sg_name (i := 2) sc_fits.nd rfl (by first | exact .inl rfl | exact .inr rfl)) (sgs_cons (sg_name (i := 3) sc_fits.nd rfl (by first | exact .inl rfl | exact .inr rfl)) sgs_nil)))) (ss_one (st_ret (s_call (ps := ["thing", "low", "high"]) (ok_is_between Z) (hr.mono (by decide)) rfl Z.G_is_between Z.K_is_between Z.B_is_between tkOf (s_cons (s_var 1 (pv 1)) (s_cons (s_var 2 (pv 2)) (s_cons (s_var 3 (pv 3)) s_nil))))))) ss_nil) (ss_cons (st_if (s_tcmp (o_eq hr) (s_var 0 (pv 0)) (s_str (l := [119, 111, 114, 100]) (by decide +kernel)) rfl) (ss_one (st_ret (s_call (ps := ["thing"]) (ok_is_word Z) (hr.mono (by decide)) rfl Z.G_is_word Z.K_is_word Z.B_is_word tkOf (s_cons (s_var 1 (pv 1)) s_nil)))) ss_nil) (ss_cons (st_if (s_tcmp (o_eq hr) (s_var 0 (pv 0)) (s_str (l := [114, 105, 103, 104, 116, 115]) (by decide +kernel)) rfl) (ss_one (st_ret (s_cmp (o_inK Z.kd) (s_var 1 (pv 1)) (s_con (C8.pe_gc rfl Z.d_RIGHTS) Z.r_RIGHTS) rfl))) ss_nil) (ss_cons (st_if (s_tcmp (o_eq hr) (s_var 0 (pv 0)) (s_str (l := [119, 97, 121]) (by decide +kernel)) rfl) (ss_one (st_ret (s_call (ps := ["thing"]) (ok_is_way_v2 Z) (hr.mono (by decide)) rfl Z.G_is_way Z.K_is_way Z.B_is_way tkOf (s_cons (s_var 1 (pv 1)) s_nil)))) ss_nil) (ss_one (st_ret (s_call (ps := ["thing"]) (ok_is_total_v2 Z) (hr.mono (by decide)) rfl Z.G_is_total Z.K_is_total Z.B_is_total tkOf (s_cons (s_var 1 (pv 1)) s_nil)))))))
theorem sc_is_step : FnScope ["thing", "shape", "at", "part"] ["thing"] (defScope s_is_step) := ⟨rfl, rfl, rfl, by decide +kernel, rfl, by decide +kernel, by decide +kernel⟩
def fb_is_step : FS :=
  fSeq (fIfS (fOrT (fNotT (fB (fIsi (tabB 3) (fVar 0)))) (fOrT (fB (f2 gEq (fCa gLen (fConsA (fVar 0) fNilA)) (fCon (.int 0)))) (fNotT (fB (fIsi (tabB 2) (f2 (gIx kd0) (fVar 0) (fCon (.int 0)))))))) (fRet (fCon (.bl false))) fNext) (fSeq (fIfS (fB (f2 (gInK kd0 true) (f2 (gIx kd0) (fVar 0) (fCon (.int 0))) (fCon (.g 50)))) (fRet (fCon (.bl false))) fNext) (fSeq (fAsg (f2 (gIx kd0) (fCon (.g 50)) (f2 (gIx kd0) (fVar 0) (fCon (.int 0)))) (gNm 1)) (fSeq (fIfS (fB (f2 gNe (fCa gLen (fConsA (fVar 0) fNilA)) (f2 gAdd (fCon (.int 1)) (fCa gLen (fConsA (fVar 1) fNilA))))) (fRet (fCon (.bl false))) fNext) (fSeq (fIfS (fNotT (fB (fCa (gBools (·.all id)) (fConsA (fComp (fItEA (fVar 1)) [2, 3] (gTpA 2 (gsCons (gNm 2) (gsCons (gNm 3) gsNil))) fYes (fCa (nArgs 2 mf_fits_v3) (fConsA (fVar 3) (fConsA (f2 (gIx kd0) (fVar 0) (f2 gAdd (fCon (.int 1)) (fVar 2))) fNilA)))) fNilA)))) (fRet (fCon (.bl false))) fNext) (fRet (fOr (f2 gNe (f2 (gIx kd0) (fVar 0) (fCon (.int 0))) (fCon (.str [109, 97, 112]))) (fOr (f2 gEq (f2 (gIx kd0) (f2 (gIx kd0) (fVar 0) (fCon (.int 4))) (fCon (.int 0))) (fCon (.str [122, 101, 114, 111]))) (f2 gLe (f2 gAdd (f2 (gIx kd0) (f2 (gIx kd0) (fVar 0) (fCon (.int 4))) (fCon (.int 2))) (f2 (gIx kd0) (fVar 0) (fCon (.int 3)))) (fCon (.int 64))))))))))
abbrev mf_is_step : FM := mfOf 4 fb_is_step
theorem ok_is_step (Z : Fx T w mg A) : FnV P w T.K mg base T 7 A.f_is_step A.d_is_step ["thing"] mf_is_step := by
  refine fnV Z.F_is_step sc_is_step (fun cdv Ar outer s H E hr => ?_)
  exact ss_cons (st_if (s_w (s_wor (s_tnot (s_tval (s_isi (cv := .ty "tuple") (cu := .type "tuple") rfl Z.m_isinstance (pe_bltn rfl Z.m_tuple bb_tuple rfl) (.ty _) (tabB_ok 3) (s_var 0 (pv 0)) bb_isinstance) (fun _ => rfl))) (s_wor (s_tcmp (o_eq hr) (s_callB c_len rfl Z.m_len bb_len (s_cons (s_var 0 (pv 0)) s_nil)) s_int rfl) (s_wor1 (s_tnot (s_tval (s_isi (cv := .ty "str") (cu := .type "str") rfl Z.m_isinstance (pe_bltn rfl Z.m_str bb_str rfl) (.ty _) (tabB_ok 2) (s_ix (i_ix Z.kd) (s_var 0 (pv 0)) s_int (fun _ _ => rfl)) bb_isinstance) (fun _ => rfl))))))) (ss_one (st_ret s_bl)) ss_nil) (ss_cons (st_if (s_tcmp (o_notinK Z.kd) (s_ix (i_ix Z.kd) (s_var 0 (pv 0)) s_int (fun _ _ => rfl)) (s_con (C8.pe_gc rfl Z.d_SHAPES) (fun _ _ => rfl)) rfl) (ss_one (st_ret s_bl)) ss_nil) (ss_cons (st_set (i := 1) sc_is_step.nd rfl (by first | exact .inl rfl | exact .inr rfl) (s_ix (i_ix Z.kd) (s_con (C8.pe_gc rfl Z.d_SHAPES) (fun _ _ => rfl)) (s_ix (i_ix Z.kd) (s_var 0 (pv 0)) s_int (fun _ _ => rfl)) (fun _ _ => rfl))) (ss_cons (st_if (s_tcmp (o_ne hr) (s_callB c_len rfl Z.m_len bb_len (s_cons (s_var 0 (pv 0)) s_nil)) (s_bin o_add s_int (s_callB c_len rfl Z.m_len bb_len (s_cons (s_var 1 (pv 1)) s_nil))) rfl) (ss_one (st_ret s_bl)) ss_nil) (ss_cons (st_if (s_tnot (s_tval (s_callB c_all rfl Z.m_all bb_all (s_cons (s_comp rfl sc_is_step.nd (own := [("at", 2), ("part", 3)]) (blk_of (N := ["thing", "shape", "at", "part"]) (sc := defScope s_is_step) (by decide +kernel)) (si_enA rfl Z.m_enumerate bb_enumerate (s_var 1 (pv 1))) (fun _ _ _ _ _ => sg_tupA rfl (sgs_cons (sg_name (i := 2) sc_is_step.nd rfl (by first | exact .inl rfl | exact .inr rfl)) (sgs_cons (sg_name (i := 3) sc_is_step.nd rfl (by first | exact .inl rfl | exact .inr rfl)) sgs_nil))) (fun _ _ _ _ _ => sts_nil) (fun _ _ _ _ _ => s_call (ps := ["part", "thing"]) (ok_fits_v3 Z) (hr.mono (by decide)) rfl Z.G_fits Z.K_fits Z.B_fits takes0 (s_cons (s_var 3 (pv 3)) (s_cons (s_ix (i_ix Z.kd) (s_var 0 (pv 0)) (s_bin o_add s_int (s_var 2 (pv 2))) (fun _ _ => rfl)) s_nil))) (by decide) (fun _ => rfl)) s_nil)) (fun _ => rfl))) (ss_one (st_ret s_bl)) ss_nil) (ss_one (st_ret (s_or (s_cmp (o_ne hr) (s_ix (i_ix Z.kd) (s_var 0 (pv 0)) s_int (fun _ _ => rfl)) (s_str (l := [109, 97, 112]) (by decide +kernel)) rfl) (s_or (s_cmp (o_eq hr) (s_ix (i_ix Z.kd) (s_ix (i_ix Z.kd) (s_var 0 (pv 0)) s_int (fun _ _ => rfl)) s_int (fun _ _ => rfl)) (s_str (l := [122, 101, 114, 111]) (by decide +kernel)) rfl) (s_one (s_cmp o_le (s_bin o_add (s_ix (i_ix Z.kd) (s_ix (i_ix Z.kd) (s_var 0 (pv 0)) s_int (fun _ _ => rfl)) s_int (fun _ _ => rfl)) (s_ix (i_ix Z.kd) (s_var 0 (pv 0)) s_int (fun _ _ => rfl))) (s_con (C8.pe_gc rfl Z.d_MOST_LEAVES) (fun _ _ => rfl)) rfl))))))))))
theorem sc_Script_init : FnScope ["self", "leaves", "cells", "steps", "place", "step"] ["self", "leaves", "cells", "steps"] (defScope s_Script_init) := ⟨rfl, rfl, rfl, by decide +kernel, rfl, by decide +kernel, by decide +kernel⟩
def fb_Script_init : FS :=
  fSeq (fIfS (fOrT (fNotT (fB (fCa (nArgs 3 mf_is_between) (fConsA (fVar 1) (fConsA (fCon (.int 1)) (fConsA (fCon (.int 64)) fNilA)))))) (fNotT (fB (fCa (nArgs 3 mf_is_between) (fConsA (fVar 2) (fConsA (fCon (.int 1)) (fConsA (fCon (.int 4)) fNilA))))))) fNever fNext) (fSeq (fIfS (fOrT (fNotT (fB (fIsi2 (tabB 4) (tabB 3) (fVar 3)))) (fB (f2 gGt (fCa gLen (fConsA (fVar 3) fNilA)) (fCon (.int 300))))) fNever fNext) (fSeq (fFor (fItEA (fVar 3)) (gTpA 2 (gsCons (gNm 4) (gsCons (gNm 5) gsNil))) (fIfS (fNotT (fB (fCa (nArgs 1 mf_is_step) (fConsA (fVar 5) fNilA)))) fNever fNext)) (fSeq (fStF [3] [108, 101, 97, 118, 101, 115] (fVar 0) (fVar 1)) (fSeq (fStF [3] [99, 101, 108, 108, 115] (fVar 0) (fVar 2)) (fStF [3] [115, 116, 101, 112, 115] (fVar 0) (fCa gTuple (fConsA (fVar 3) fNilA)))))))
abbrev mf_Script_init : FM := mfOf 6 fb_Script_init
theorem ok_Script_init (Z : Fx T w mg A) : FnV P w T.K mg base T 8 A.f_Script_init A.d_Script_init ["self", "leaves", "cells", "steps"] mf_Script_init := by
  refine fnV Z.F_Script_init sc_Script_init (fun cdv Ar outer s H E hr => ?_)
  exact ss_cons (st_if (s_w (s_wor (s_tnot (s_tval (s_call (ps := ["thing", "low", "high"]) (ok_is_between Z) (hr.mono (by decide)) rfl Z.G_is_between Z.K_is_between Z.B_is_between tkOf (s_cons (s_var 1 (pv 1)) (s_cons s_int (s_cons (s_con (C8.pe_gc rfl Z.d_MOST_LEAVES) (fun _ _ => rfl)) s_nil)))) (fun _ => rfl))) (s_wor1 (s_tnot (s_tval (s_call (ps := ["thing", "low", "high"]) (ok_is_between Z) (hr.mono (by decide)) rfl Z.G_is_between Z.K_is_between Z.B_is_between tkOf (s_cons (s_var 2 (pv 2)) (s_cons s_int (s_cons (s_con (C8.pe_gc rfl Z.d_MOST_CELLS) (fun _ _ => rfl)) s_nil)))) (fun _ => rfl)))))) (ss_one st_never) ss_nil) (ss_cons (st_if (s_w (s_wor (s_tnot (s_tval (s_isi2 (cv1 := .ty "list") (cv2 := .ty "tuple") (cu1 := .type "list") (cu2 := .type "tuple") rfl Z.m_isinstance (pe_bltn rfl Z.m_list bb_list rfl) (pe_bltn rfl Z.m_tuple bb_tuple rfl) (.ty _) (.ty _) (tabB_ok 4) (tabB_ok 3) (s_var 3 (pv 3)) bb_isinstance) (fun _ => rfl))) (s_wor1 (s_tcmp o_gt (s_callB c_len rfl Z.m_len bb_len (s_cons (s_var 3 (pv 3)) s_nil)) (s_con (C8.pe_gc rfl Z.d_MOST_STEPS) (fun _ _ => rfl)) rfl)))) (ss_one st_never) ss_nil) (ss_cons (st_for psOf rfl (si_enA rfl Z.m_enumerate bb_enumerate (s_var 3 (pv 3))) (sg_tupA rfl (sgs_cons (sg_name (i := 4) sc_Script_init.nd rfl (by first | exact .inl rfl | exact .inr rfl)) (sgs_cons (sg_name (i := 5) sc_Script_init.nd rfl (by first | exact .inl rfl | exact .inr rfl)) sgs_nil))) (ss_one (st_if (s_tnot (s_tval (s_call (ps := ["thing"]) (ok_is_step Z) (hr.mono (by decide)) rfl Z.G_is_step Z.K_is_step Z.B_is_step tkOf (s_cons (s_var 5 (pv 5)) s_nil)) (fun _ => rfl))) (ss_one st_never) ss_nil)) (fun _ => rfl)) (ss_cons (st_fld (f := [108, 101, 97, 118, 101, 115]) Z.fl_leaves (s_var 0 (pv 0)) (s_var 1 (pv 1)) rfl) (ss_cons (st_fld (f := [99, 101, 108, 108, 115]) Z.fl_cells (s_var 0 (pv 0)) (s_var 2 (pv 2)) rfl) (ss_one (st_fld (f := [115, 116, 101, 112, 115]) Z.fl_steps (s_var 0 (pv 0)) (s_callTy c_tuple rfl Z.m_tuple bb_tuple (s_cons (s_var 3 (pv 3)) s_nil)) rfl))))))
theorem sc_read_script : FnScope ["told", "lines", "steps", "line", "leaves", "cells"] ["told"] (defScope s_read_script) := ⟨rfl, rfl, rfl, by decide +kernel, rfl, by decide +kernel, by decide +kernel⟩
def fb_read_script : FS :=
  fSeq (fIfS (fNotT (fB (fIsi (tabB 2) (fVar 0)))) (fRaise2 2 [108, 105, 110, 101] [99, 111, 108, 117, 109, 110] fm_BadText (fConsA (fCon (.int 0)) (fConsA (fCon (.int 0)) fNilA))) fNext) (fSeq (fAsg (fCa (nArgs 1 mf_lines_of) (fConsA (fVar 0) fNilA)) (gNm 1)) (fSeq (fIfS (fB (f2 gEq (fCa gLen (fConsA (fVar 1) fNilA)) (fCon (.int 0)))) (fRaise2 2 [108, 105, 110, 101] [99, 111, 108, 117, 109, 110] fm_BadText (fConsA (fCon (.int 1)) (fConsA (fCon (.int 1)) fNilA))) fNext) (fSeq (fAsg (fCa (nArgs 1 mf_read_layout) (fConsA (f2 (gIx kd0) (fVar 1) (fCon (.int 0))) fNilA)) (gTpA 2 (gsCons (gNm 4) (gsCons (gNm 5) gsNil)))) (fSeq (fAsg (fLst fNilA) (gNm 2)) (fSeq (fFor (fItA (fSl gSl (fVar 1) (fSomeO (fCon (.int 1))) fNoO)) (gNm 3) (fSeq (fIfS (fB (f2 gEq (fCa gLen (fConsA (fVar 2) fNilA)) (fCon (.int 300)))) (fRaise2 2 [108, 105, 110, 101] [99, 111, 108, 117, 109, 110] fm_BadText (fConsA (f1 (gFld [4] [112, 108, 97, 99, 101]) (fVar 3)) (fConsA (fMeth 4 [115, 112, 111, 116] 1 mf_Line_spot (fVar 3) fNilA) fNilA))) fNext) (fExpr (fMt 1 gAppend (fVar 2) (fConsA (fCa (nArgs 1 mf_read_step) (fConsA (fVar 3) fNilA)) fNilA))))) (fRet (fCa (mkI 3 4 mf_Script_init) (fConsA (fVar 4) (fConsA (fVar 5) (fConsA (fVar 2) fNilA))))))))))
abbrev mf_read_script : FM := mfOf 6 fb_read_script
theorem ok_read_script (Z : Fx T w mg A) : FnV P w T.K mg base T 11 A.f_read_script A.d_read_script ["told"] mf_read_script := by
  refine fnV Z.F_read_script sc_read_script (fun cdv Ar outer s H E hr => ?_)
  exact ss_cons (st_if (s_tnot (s_tval (s_isi (cv := .ty "str") (cu := .type "str") rfl Z.m_isinstance (pe_bltn rfl Z.m_str bb_str rfl) (.ty _) (tabB_ok 2) (s_var 0 (pv 0)) bb_isinstance) (fun _ => rfl))) (ss_one (st_raise2 (c := 2) (f1 := [108, 105, 110, 101]) (f2 := [99, 111, 108, 117, 109, 110]) Z.g_BadText Z.O_BadText Z.I_BadText Z.J_BadText (ok_BadText Z) (hr.mono (by decide)) Z.B_BadText_init rfl Z.G_BadText rfl tkOf (s_cons s_int (s_cons s_int s_nil)))) ss_nil) (ss_cons (st_set (i := 1) sc_read_script.nd rfl (by first | exact .inl rfl | exact .inr rfl) (s_call (ps := ["told"]) (ok_lines_of Z) (hr.mono (by decide)) rfl Z.G_lines_of Z.K_lines_of Z.B_lines_of tkOf (s_cons (s_var 0 (pv 0)) s_nil))) (ss_cons (st_if (s_tcmp (o_eq hr) (s_callB c_len rfl Z.m_len bb_len (s_cons (s_var 1 (pv 1)) s_nil)) s_int rfl) (ss_one (st_raise2 (c := 2) (f1 := [108, 105, 110, 101]) (f2 := [99, 111, 108, 117, 109, 110]) Z.g_BadText Z.O_BadText Z.I_BadText Z.J_BadText (ok_BadText Z) (hr.mono (by decide)) Z.B_BadText_init rfl Z.G_BadText rfl tkOf (s_cons s_int (s_cons s_int s_nil)))) ss_nil) (ss_cons (st_asg (s_call (ps := ["line"]) (ok_read_layout Z) (hr.mono (by decide)) rfl Z.G_read_layout Z.K_read_layout Z.B_read_layout tkOf (s_cons (s_ix (i_ix Z.kd) (s_var 1 (pv 1)) s_int (fun _ _ => rfl)) s_nil)) (sg_tupA rfl (sgs_cons (sg_name (i := 4) sc_read_script.nd rfl (by first | exact .inl rfl | exact .inr rfl)) (sgs_cons (sg_name (i := 5) sc_read_script.nd rfl (by first | exact .inl rfl | exact .inr rfl)) sgs_nil)))) (ss_cons (st_set (i := 2) sc_read_script.nd rfl (by first | exact .inl rfl | exact .inr rfl) (s_lst s_nil)) (ss_cons (st_for psOf rfl (si_any (s_sl sl_any (s_var 1 (pv 1)) (s_someO s_int) s_noO)) (sg_name (i := 3) sc_read_script.nd rfl (by first | exact .inl rfl | exact .inr rfl)) (ss_cons (st_if (s_tcmp (o_eq hr) (s_callB c_len rfl Z.m_len bb_len (s_cons (s_var 2 (pv 2)) s_nil)) (s_con (C8.pe_gc rfl Z.d_MOST_STEPS) (fun _ _ => rfl)) rfl) (ss_one (st_raise2 (c := 2) (f1 := [108, 105, 110, 101]) (f2 := [99, 111, 108, 117, 109, 110]) Z.g_BadText Z.O_BadText Z.I_BadText Z.J_BadText (ok_BadText Z) (hr.mono (by decide)) Z.B_BadText_init rfl Z.G_BadText rfl tkOf (s_cons (s_fld (f := [112, 108, 97, 99, 101]) Z.fl_place (s_var 3 (pv 3)) rfl) (s_cons (s_meth0 (ps := ["self"]) (c := 4) (mt := [115, 112, 111, 116]) Z.g_Line Z.C_Line Z.H_Line_spot (ok_Line_spot Z) (hr.mono (by decide)) Z.B_Line_spot tkOf (s_var 3 (pv 3))) s_nil)))) ss_nil) (ss_one (st_expr (s_mt (ty := 1) PySem.F.plainAttrs_list F.slot_list_append F.type_list_append m_append (s_var 2 (pv 2)) (s_cons (s_call (ps := ["line"]) (ok_read_step Z) (hr.mono (by decide)) rfl Z.G_read_step Z.K_read_step Z.B_read_step tkOf (s_cons (s_var 3 (pv 3)) s_nil)) s_nil) rfl)))) (fun _ => rfl)) (ss_one (st_ret (s_make (ps := ["self", "leaves", "cells", "steps"]) (c := 3) Z.g_Script Z.M_Script (ok_Script_init Z) (hr.mono (by decide)) rfl Z.G_Script Z.B_Script_init tkOf (s_cons (s_var 4 (pv 4)) (s_cons (s_var 5 (pv 5)) (s_cons (s_var 2 (pv 2)) s_nil)))))))))))
theorem sc_law_told : FnScope ["text", "error"] ["text"] (defScope s_law_told) := ⟨rfl, rfl, rfl, by decide +kernel, rfl, by decide +kernel, by decide +kernel⟩
def fs_law_told_1 : FS := fTry 1 (fun c => if c = 2 then some true else none) (fExpr (fCa (nArgs 1 mf_read_script) (fConsA (fVar 0) fNilA))) (hRet2 2 [108, 105, 110, 101] [99, 111, 108, 117, 109, 110]) (fRet (fCon .non))
def fb_law_told : FS :=
  fs_law_told_1
abbrev mf_law_told : FM := mfOf 2 fb_law_told
theorem ok_law_told (Z : Fx T w mg A) : FnV P w T.K mg base T 12 A.f_law_told A.d_law_told ["text"] mf_law_told := by
  refine fnV Z.F_law_told sc_law_told (fun cdv Ar outer s H E hr => ?_)
  exact ss_one (st_tryE (i := 1) rfl rfl sc_law_told.nd rfl rfl ⟨rfl, by decide, Or.inl Z.G_BadText⟩ tkOf Z.T_BadText (fun W' pn xe tk pso => ss_one (st_expr (s_call (ps := ["told"]) (ok_read_script Z) (hr.mono (by decide)) rfl Z.G_read_script Z.K_read_script Z.B_read_script tk (s_cons (s_var 0 (pv 0)) s_nil)))) (h_ret2 (c0 := 2) (f1 := [108, 105, 110, 101]) (f2 := [99, 111, 108, 117, 109, 110]) Z.g_BadText Z.X_BadText Z.N_BadText_line Z.N_BadText_column rfl (by first | exact .inl rfl | exact .inr rfl) rfl rfl) (ss_one (st_ret s_non)))
theorem sc_Script_eq : FnScope ["self", "other"] ["self", "other"] (defScope s_Script_eq) := ⟨rfl, rfl, rfl, by decide +kernel, rfl, by decide +kernel, by decide +kernel⟩
def fb_Script_eq : FS :=
  fRet (fAnd (fIsi (tabO 3) (fVar 1)) (fAnd (f2 gEq (f1 (gFld [3] [108, 101, 97, 118, 101, 115]) (fVar 0)) (f1 (gFld [3] [108, 101, 97, 118, 101, 115]) (fVar 1))) (fAnd (f2 gEq (f1 (gFld [3] [99, 101, 108, 108, 115]) (fVar 0)) (f1 (gFld [3] [99, 101, 108, 108, 115]) (fVar 1))) (f2 gEq (f1 (gFld [3] [115, 116, 101, 112, 115]) (fVar 0)) (f1 (gFld [3] [115, 116, 101, 112, 115]) (fVar 1))))))
abbrev mf_Script_eq : FM := mfOf 2 fb_Script_eq
theorem ok_Script_eq (Z : Fx T w mg A) : FnV P w T.K mg base T 1 A.f_Script_eq A.d_Script_eq ["self", "other"] mf_Script_eq := by
  refine fnV Z.F_Script_eq sc_Script_eq (fun cdv Ar outer s H E hr => ?_)
  exact ss_one (st_ret (s_and (s_isi (cv := .ref A.c_Script) (cu := .ref A.c_Script) rfl Z.m_isinstance (pe_glob rfl Z.G_Script rfl) (.own _) Z.tab_Script (s_var 1 (pv 1)) bb_isinstance) (s_and (s_cmp (o_eq hr) (s_fld (f := [108, 101, 97, 118, 101, 115]) Z.fl_leaves (s_var 0 (pv 0)) rfl) (s_fld (f := [108, 101, 97, 118, 101, 115]) Z.fl_leaves (s_var 1 (pv 1)) rfl) rfl) (s_and (s_cmp (o_eq hr) (s_fld (f := [99, 101, 108, 108, 115]) Z.fl_cells (s_var 0 (pv 0)) rfl) (s_fld (f := [99, 101, 108, 108, 115]) Z.fl_cells (s_var 1 (pv 1)) rfl) rfl) (s_one (s_cmp (o_eq hr) (s_fld (f := [115, 116, 101, 112, 115]) Z.fl_steps (s_var 0 (pv 0)) rfl) (s_fld (f := [115, 116, 101, 112, 115]) Z.fl_steps (s_var 1 (pv 1)) rfl) rfl))))))
theorem sc_law_pick : FnScope ["draw", "things"] ["draw", "things"] (defScope s_law_pick) := ⟨rfl, rfl, rfl, by decide +kernel, rfl, by decide +kernel, by decide +kernel⟩
def fs_law_pick_1 : FS := fRet (f2 (gIx kd0) (fVar 1) (fCa (nArgs 2 mf_law_next) (fConsA (fVar 0) (fConsA (fCa gLen (fConsA (fVar 1) fNilA)) fNilA))))
def fb_law_pick : FS :=
  fs_law_pick_1
abbrev mf_law_pick : FM := mfOf 2 fb_law_pick
theorem ok_law_pick (Z : Fx T w mg A) : FnV P w T.K mg base T 4 A.f_law_pick A.d_law_pick ["draw", "things"] mf_law_pick := by
  refine fnV Z.F_law_pick sc_law_pick (fun cdv Ar outer s H E hr => ?_)
  exact ss_one (st_ret (s_ix (i_ix Z.kd) (s_var 1 (pv 1)) (s_call (ps := ["draw", "bound"]) (ok_law_next Z) (hr.mono (by decide)) rfl Z.G_law_next Z.K_law_next Z.B_law_next tkOf (s_cons (s_var 0 (pv 0)) (s_cons (s_callB c_len rfl Z.m_len bb_len (s_cons (s_var 1 (pv 1)) s_nil)) s_nil))) (fun _ _ => rfl)))
theorem sc_law : FnScope ["script", "draw", "rows", "heads", "long", "found", "shift", "many", "head", "blank", "line", "column", "text", "due"] ["script"] (defScope s_law) := ⟨rfl, rfl, rfl, by decide +kernel, rfl, by decide +kernel, by decide +kernel⟩
def fs_law_1 : FS := fPar 6 7 (fConsA (fCa (nArgs 2 mf_law_next) (fConsA (fVar 1) (fConsA (fCon (.int 4)) fNilA))) (fConsA (fCa (nArgs 2 mf_law_next) (fConsA (fVar 1) (fConsA (fCon (.int 3)) fNilA))) fNilA))
def fs_law_2 : FS := fPar 8 9 (fConsA (f2 gAdd (fCon (.str [115, 112, 97, 99, 101, 32, 56, 32, 108, 101, 97, 118, 101, 115, 32, 50, 32, 99, 101, 108, 108, 115])) (fCon (.str [10]))) (fConsA (f2 gMul (fCon (.str [32])) (fVar 6)) fNilA))
def fs_law_3 : FS := fAsg (fLst (fConsA (fLst (fConsA (fCon (.str [116, 97, 115, 107, 32, 97, 32, 98])) (fConsA (fCon (.int 8)) fNilA))) (fConsA (fLst (fConsA (fCon (.str [116, 97, 115, 107])) (fConsA (fCon (.int 5)) fNilA))) (fConsA (fLst (fConsA (fCon (.str [116, 117, 115, 107, 32, 97])) (fConsA (fCon (.int 1)) fNilA))) (fConsA (fLst (fConsA (fCon (.str [116, 97, 115, 107, 32, 51])) (fConsA (fCon (.int 6)) fNilA))) (fConsA (fLst (fConsA (fCon (.str [116, 97, 115, 107, 32, 97, 98, 99, 100, 101, 102, 103, 104, 105])) (fConsA (fCon (.int 6)) fNilA))) (fConsA (fLst (fConsA (fCon (.str [102, 111, 114, 107, 32, 97])) (fConsA (fCon (.int 7)) fNilA))) (fConsA (fLst (fConsA (fCon (.str [102, 105, 108, 101, 32, 102, 32, 54, 53])) (fConsA (fCon (.int 8)) fNilA))) (fConsA (fLst (fConsA (fCon (.str [102, 105, 108, 101, 32, 102, 32, 48, 54, 52])) (fConsA (fCon (.int 8)) fNilA))) fNilA))))))))) (gNm 2)
def fs_law_4 : FS := fAug 2 gIAdd (fLst (fConsA (fLst (fConsA (fCon (.str [109, 97, 112, 32, 97, 32, 48, 32, 50, 32, 97, 112, 97, 114, 116, 32, 102, 32, 54, 51, 32, 114, 119])) (fConsA (fCon (.int 19)) fNilA))) (fConsA (fLst (fConsA (fCon (.str [109, 97, 112, 32, 97, 32, 48, 32, 50, 32, 97, 112, 97, 114, 116, 32, 102, 32, 54, 50, 32, 114, 119])) (fConsA (fCon .non) fNilA))) (fConsA (fLst (fConsA (fCon (.str [109, 97, 112, 32, 97, 32, 48, 32, 48, 32, 122, 101, 114, 111, 32, 114])) (fConsA (fCon (.int 9)) fNilA))) (fConsA (fLst (fConsA (fCon (.str [109, 97, 112, 32, 97, 32, 48, 32, 50, 32, 122, 101, 114, 111])) (fConsA (fCon (.int 15)) fNilA))) (fConsA (fLst (fConsA (fCon (.str [109, 97, 112, 32, 97, 32, 48, 32, 50, 32, 122, 101, 114, 111, 32, 119, 114])) (fConsA (fCon (.int 16)) fNilA))) fNilA))))))
def fs_law_5 : FS := fAug 2 gIAdd (fLst (fConsA (fLst (fConsA (fCon (.str [109, 97, 112, 32, 97, 32, 48, 32, 50, 32, 111, 119, 110, 32, 114])) (fConsA (fCon (.int 11)) fNilA))) (fConsA (fLst (fConsA (fCon (.str [117, 110, 109, 97, 112, 32, 97, 32, 49, 48, 48, 48, 32, 49])) (fConsA (fCon (.int 9)) fNilA))) (fConsA (fLst (fConsA (fCon (.str [117, 110, 109, 97, 112, 32, 97, 32, 48, 32, 54, 53])) (fConsA (fCon (.int 11)) fNilA))) (fConsA (fLst (fConsA (fCon (.str [103, 117, 97, 114, 100, 32, 97, 32, 48, 32, 49, 32, 120])) (fConsA (fCon (.int 13)) fNilA))) (fConsA (fLst (fConsA (fCon (.str [109, 111, 118, 101, 32, 97, 32, 48, 32, 49, 32, 50])) (fConsA (fCon (.int 12)) fNilA))) (fConsA (fLst (fConsA (fCon (.str [109, 111, 118, 101, 32, 97, 32, 48, 32, 49, 32, 116, 111])) (fConsA (fCon (.int 14)) fNilA))) fNilA)))))))
def fs_law_6 : FS := fAug 2 gIAdd (fLst (fConsA (fLst (fConsA (fCon (.str [112, 117, 116, 32, 97, 32, 48, 46, 49, 32, 61, 32, 120])) (fConsA (fCon .non) fNilA))) (fConsA (fLst (fConsA (fCon (.str [112, 117, 116, 32, 97, 32, 48, 46, 49, 32, 120])) (fConsA (fCon (.int 11)) fNilA))) (fConsA (fLst (fConsA (fCon (.str [112, 117, 116, 32, 97, 32, 48, 44, 49, 32, 61, 32, 120])) (fConsA (fCon (.int 8)) fNilA))) (fConsA (fLst (fConsA (fCon (.str [112, 117, 116, 32, 97, 32, 48, 46, 49, 32, 61])) (fConsA (fCon (.int 12)) fNilA))) (fConsA (fLst (fConsA (fCon (.str [112, 117, 116, 32, 97, 32, 48, 46, 49, 32, 61, 32, 120, 32, 121])) (fConsA (fCon (.int 15)) fNilA))) (fConsA (fLst (fConsA (fCon (.str [112, 117, 116, 32, 97, 32, 48, 46, 49, 32, 61, 32, 50, 32, 120, 32, 51])) (fConsA (fCon (.int 18)) fNilA))) fNilA)))))))
def fs_law_7 : FS := fAug 2 gIAdd (fLst (fConsA (fLst (fConsA (fCon (.str [112, 117, 116, 32, 97, 32, 48, 46, 49, 32, 61, 32, 120, 32, 43, 32, 43, 32, 121])) (fConsA (fCon (.int 17)) fNilA))) (fConsA (fLst (fConsA (fCon (.str [112, 117, 116, 32, 97, 32, 48, 46, 49, 32, 61, 32, 45, 32, 45, 32, 121])) (fConsA (fCon (.int 15)) fNilA))) (fConsA (fLst (fConsA (fCon (.str [112, 117, 116, 32, 97, 32, 48, 46, 49, 32, 61, 32, 50, 32, 51])) (fConsA (fCon (.int 15)) fNilA))) (fConsA (fLst (fConsA (fCon (.str [112, 117, 116, 32, 97, 32, 48, 46, 49, 32, 61, 32, 45, 32, 50, 32, 98, 32, 49, 46, 48, 32, 45, 32, 51, 32, 43, 32, 52, 32, 120])) (fConsA (fCon .non) fNilA))) (fConsA (fLst (fConsA (fCon (.str [112, 117, 116, 32, 97, 32, 48, 46, 49, 32, 61, 32, 48, 48, 55])) (fConsA (fCon (.int 13)) fNilA))) fNilA))))))
def fs_law_8 : FS := fAug 2 gIAdd (fLst (fConsA (fLst (fConsA (fCon (.str [112, 117, 116, 32, 97, 32, 48, 46, 49, 32, 61, 32, 120, 32, 43, 32, 120, 32, 43, 32, 120, 32, 43, 32, 120, 32, 43, 32, 120, 32, 43, 32, 120, 32, 43, 32, 120, 32, 43, 32, 120, 32, 43, 32, 120])) (fConsA (fCon (.int 43)) fNilA))) (fConsA (fLst (fConsA (fCon (.str [115, 104, 111, 119, 32, 97, 32, 48, 46, 49, 32, 50])) (fConsA (fCon (.int 12)) fNilA))) (fConsA (fLst (fConsA (fCon (.str [115, 104, 111, 119, 32, 97, 32, 48, 32, 46, 32, 49])) (fConsA (fCon .non) fNilA))) (fConsA (fLst (fConsA (fCon (.str [115, 104, 111, 119, 32, 97, 46, 48])) (fConsA (fCon (.int 7)) fNilA))) (fConsA (fLst (fConsA (fCon (.str [84, 97, 115, 107, 32, 97])) (fConsA (fCon (.int 1)) fNilA))) fNilA))))))
def fs_law_9 : FS := fFor (fItA (fVar 2)) (gTpA 2 (gsCons (gNm 10) (gsCons (gNm 11) gsNil))) (fSeq (fAsg (f2 gAdd (f2 gAdd (f2 gAdd (f2 gAdd (f2 gAdd (f2 gAdd (fVar 8) (f2 gMul (fCon (.str [10])) (fVar 7))) (fCon (.str [35, 32]))) (fVar 10)) (fCon (.str [10]))) (fVar 9)) (fVar 10)) (gNm 12)) (fSeq (fAsg (fIf (fB (f2 gIs (fVar 11) (fCon .non))) (fCon .non) (fTup (fConsA (f2 gAdd (fCon (.int 3)) (fVar 7)) (fConsA (f2 gAdd (fVar 6) (fVar 11)) fNilA)))) (gNm 13)) (fIfS (fB (f2 gNe (fCa (pureC 1 mf_law_told) (fConsA (fVar 12) fNilA)) (fVar 13))) (fRet (fCon (.bl false))) fNext)))
def fs_law_10 : FS := fAsg (fLst (fConsA (fLst (fConsA (fCon (.str [])) (fConsA (fTup (fConsA (fCon (.int 1)) (fConsA (fCon (.int 1)) fNilA))) fNilA))) (fConsA (fLst (fConsA (f2 gAdd (f2 gAdd (fCon (.str [35, 32, 120])) (fCon (.str [10]))) (fCon (.str [32]))) (fConsA (fTup (fConsA (fCon (.int 1)) (fConsA (fCon (.int 1)) fNilA))) fNilA))) (fConsA (fLst (fConsA (fCon (.str [115, 112, 97, 99, 101, 32, 48, 32, 108, 101, 97, 118, 101, 115, 32, 50, 32, 99, 101, 108, 108, 115])) (fConsA (fTup (fConsA (fCon (.int 1)) (fConsA (fCon (.int 7)) fNilA))) fNilA))) (fConsA (fLst (fConsA (fCon (.str [115, 112, 97, 99, 101, 32, 54, 53, 32, 108, 101, 97, 118, 101, 115, 32, 50, 32, 99, 101, 108, 108, 115])) (fConsA (fTup (fConsA (fCon (.int 1)) (fConsA (fCon (.int 7)) fNilA))) fNilA))) fNilA))))) (gNm 3)
def fs_law_11 : FS := fAug 3 gIAdd (fLst (fConsA (fLst (fConsA (fCon (.str [115, 112, 97, 99, 101, 32, 56, 32, 108, 101, 97, 118, 101, 115, 32, 53, 32, 99, 101, 108, 108, 115])) (fConsA (fTup (fConsA (fCon (.int 1)) (fConsA (fCon (.int 16)) fNilA))) fNilA))) (fConsA (fLst (fConsA (fCon (.str [115, 112, 97, 99, 101, 32, 56, 32, 108, 101, 97, 118, 101, 115, 32, 50])) (fConsA (fTup (fConsA (fCon (.int 1)) (fConsA (fCon (.int 17)) fNilA))) fNilA))) (fConsA (fLst (fConsA (fCon (.str [115, 112, 97, 99, 101, 32, 56, 32, 108, 101, 97, 118, 101, 115, 32, 50, 32, 99, 101, 108, 108, 115, 32, 51])) (fConsA (fTup (fConsA (fCon (.int 1)) (fConsA (fCon (.int 24)) fNilA))) fNilA))) (fConsA (fLst (fConsA (fCon (.str [116, 97, 115, 107, 32, 97])) (fConsA (fTup (fConsA (fCon (.int 1)) (fConsA (fCon (.int 1)) fNilA))) fNilA))) (fConsA (fLst (fConsA (fCon (.str [115, 112, 97, 99, 101, 32, 49, 32, 108, 101, 97, 118, 101, 115, 32, 49, 32, 99, 101, 108, 108, 115])) (fConsA (fCon .non) fNilA))) fNilA))))))
def fs_law_12 : FS := fIfS (fNotT (fB (fCa (gBools (·.all id)) (fConsA (fComp (fItA (fVar 3)) [12, 13] (gTpA 2 (gsCons (gNm 12) (gsCons (gNm 13) gsNil))) fYes (f2 (gEqO 3 mf_Script_eq gEq) (fCa (pureC 1 mf_law_told) (fConsA (fVar 12) fNilA)) (fVar 13))) fNilA)))) (fRet (fCon (.bl false))) fNext
def fs_law_13 : FS := fAsg (f2 gAdd (fVar 8) (f2 gMul (f2 gAdd (fCon (.str [116, 97, 115, 107, 32, 97])) (fCon (.str [10]))) (fCon (.int 300)))) (gNm 4)
def fs_law_14 : FS := fIfS (fOrT (fB (f2 gIsNot (fCa (pureC 1 mf_law_told) (fConsA (fVar 4) fNilA)) (fCon .non))) (fOrT (fB (f2 gNe (fCa (pureC 1 mf_law_told) (fConsA (f2 gAdd (fVar 4) (fCon (.str [32, 116, 97, 115, 107, 32, 97]))) fNilA)) (fTup (fConsA (fCon (.int 302)) (fConsA (fCon (.int 2)) fNilA))))) (fB (f2 gNe (fCa (pureC 1 mf_law_told) (fConsA (fCa (nArgs 2 mf_law_pick) (fConsA (fVar 1) (fConsA (fLst (fConsA (fCon .non) (fConsA (fCon (.int 7)) (fConsA (fLst (fConsA (fCon (.str [116, 97, 115, 107, 32, 97])) fNilA)) fNilA)))) fNilA))) fNilA)) (fTup (fConsA (fCon (.int 0)) (fConsA (fCon (.int 0)) fNilA))))))) (fRet (fCon (.bl false))) fNext
def fs_law_15 : FS := fAsg (fCa (nArgs 1 mf_read_script) (fConsA (f2 gAdd (fVar 8) (fCon (.str [112, 117, 116, 32, 97, 32, 55, 46, 49, 61, 45, 50, 98, 32, 49, 32, 46, 48, 45, 32, 51, 43, 120]))) fNilA)) (gNm 5)
def fs_law_16 : FS := fRet (f2 (gEqO 3 mf_Script_eq gEq) (fVar 5) (fCa (mkI 3 4 mf_Script_init) (fConsA (fCon (.int 8)) (fConsA (fCon (.int 2)) (fConsA (fLst (fConsA (fTup (fConsA (fCon (.str [112, 117, 116])) (fConsA (fCon (.str [97])) (fConsA (fCon (.int 7)) (fConsA (fCon (.int 1)) (fConsA (fTup (fConsA (fTup (fConsA (fCon (.str [99, 101, 108, 108])) (fConsA (fCon (.str [98])) (fConsA (fCon (.int 1)) (fConsA (fCon (.int 0)) (fConsA (f1 gNeg (fCon (.int 2))) fNilA)))))) (fConsA (fTup (fConsA (fCon (.str [110, 117, 109, 98, 101, 114])) (fConsA (f1 gNeg (fCon (.int 3))) fNilA))) (fConsA (fTup (fConsA (fCon (.str [105, 110, 112, 117, 116])) (fConsA (fCon (.str [120])) (fConsA (fCon (.int 1)) fNilA)))) fNilA)))) fNilA)))))) fNilA)) fNilA)))))
def fb_law : FS :=
  fSeq fs_law_1 (fSeq fs_law_2 (fSeq fs_law_3 (fSeq fs_law_4 (fSeq fs_law_5 (fSeq fs_law_6 (fSeq fs_law_7 (fSeq fs_law_8 (fSeq fs_law_9 (fSeq fs_law_10 (fSeq fs_law_11 (fSeq fs_law_12 (fSeq fs_law_13 (fSeq fs_law_14 (fSeq fs_law_15 fs_law_16))))))))))))))
abbrev ev_law : Ev := (List.replicate 14 none).set 1 (some (.ref (.z .o)))
theorem ok_law (Z : Fx T w mg A) (good : ∀ ns : List Int, ns.length ≤ 63 → lawOk (fb_law ev_law (lawH ns)) = true) : FnOk P w T.K mg base (L2.CX P w) 13 A.f_law A.d_law ["script"] (spLaw T.K) := by
  refine Z.F_law.okX sc_law (fun vs H Q E h => ?_) (fun cdv Ar outer s H vs Q E hr h => ?_)
  · obtain ⟨a, ns, rfl, _⟩ := h
    rfl
  · obtain ⟨a, ns, rfl, hS, hl, hQ⟩ := h
    refine ⟨_, SsX.pss, ?_⟩
    exact ss_lawhead (T := T) (env := List.replicate 14 none) sc_law.nd rfl (by first | exact .inl rfl | exact .inr rfl) (by first | exact .inl rfl | exact .inr rfl) (pv 0) rfl rfl rfl rfl (ss_cons (st_par (i := 6) (j := 7) rfl sc_law.nd rfl rfl (by decide) rfl rfl (s_cons (s_call (ps := ["draw", "bound"]) (ok_law_next Z) (hr.mono (by decide)) rfl Z.G_law_next Z.K_law_next Z.B_law_next tkOf (s_cons (s_var 1 (pv 1)) (s_cons s_int s_nil))) (s_cons (s_call (ps := ["draw", "bound"]) (ok_law_next Z) (hr.mono (by decide)) rfl Z.G_law_next Z.K_law_next Z.B_law_next tkOf (s_cons (s_var 1 (pv 1)) (s_cons s_int s_nil))) s_nil)) rfl) (ss_cons (st_par (i := 8) (j := 9) rfl sc_law.nd rfl rfl (by decide) rfl rfl (s_cons (s_bin o_add (s_str (l := [115, 112, 97, 99, 101, 32, 56, 32, 108, 101, 97, 118, 101, 115, 32, 50, 32, 99, 101, 108, 108, 115]) (by decide +kernel)) (s_str (l := [10]) (by decide +kernel))) (s_cons (s_bin o_mul (s_str (l := [32]) (by decide +kernel)) (s_var 6 (pv 6))) s_nil)) rfl) (ss_cons (st_set (i := 2) sc_law.nd rfl (by first | exact .inl rfl | exact .inr rfl) (s_lst (s_cons (s_lst (s_cons (s_str (l := [116, 97, 115, 107, 32, 97, 32, 98]) (by decide +kernel)) (s_cons s_int s_nil))) (s_cons (s_lst (s_cons (s_str (l := [116, 97, 115, 107]) (by decide +kernel)) (s_cons s_int s_nil))) (s_cons (s_lst (s_cons (s_str (l := [116, 117, 115, 107, 32, 97]) (by decide +kernel)) (s_cons s_int s_nil))) (s_cons (s_lst (s_cons (s_str (l := [116, 97, 115, 107, 32, 51]) (by decide +kernel)) (s_cons s_int s_nil))) (s_cons (s_lst (s_cons (s_str (l := [116, 97, 115, 107, 32, 97, 98, 99, 100, 101, 102, 103, 104, 105]) (by decide +kernel)) (s_cons s_int s_nil))) (s_cons (s_lst (s_cons (s_str (l := [102, 111, 114, 107, 32, 97]) (by decide +kernel)) (s_cons s_int s_nil))) (s_cons (s_lst (s_cons (s_str (l := [102, 105, 108, 101, 32, 102, 32, 54, 53]) (by decide +kernel)) (s_cons s_int s_nil))) (s_cons (s_lst (s_cons (s_str (l := [102, 105, 108, 101, 32, 102, 32, 48, 54, 52]) (by decide +kernel)) (s_cons s_int s_nil))) s_nil)))))))))) (ss_cons (st_aug (i := 2) sc_law.nd rfl (by first | exact .inl rfl | exact .inr rfl) (s_lst (s_cons (s_lst (s_cons (s_str (l := [109, 97, 112, 32, 97, 32, 48, 32, 50, 32, 97, 112, 97, 114, 116, 32, 102, 32, 54, 51, 32, 114, 119]) (by decide +kernel)) (s_cons s_int s_nil))) (s_cons (s_lst (s_cons (s_str (l := [109, 97, 112, 32, 97, 32, 48, 32, 50, 32, 97, 112, 97, 114, 116, 32, 102, 32, 54, 50, 32, 114, 119]) (by decide +kernel)) (s_cons s_non s_nil))) (s_cons (s_lst (s_cons (s_str (l := [109, 97, 112, 32, 97, 32, 48, 32, 48, 32, 122, 101, 114, 111, 32, 114]) (by decide +kernel)) (s_cons s_int s_nil))) (s_cons (s_lst (s_cons (s_str (l := [109, 97, 112, 32, 97, 32, 48, 32, 50, 32, 122, 101, 114, 111]) (by decide +kernel)) (s_cons s_int s_nil))) (s_cons (s_lst (s_cons (s_str (l := [109, 97, 112, 32, 97, 32, 48, 32, 50, 32, 122, 101, 114, 111, 32, 119, 114]) (by decide +kernel)) (s_cons s_int s_nil))) s_nil)))))) pi_add) (ss_cons (st_aug (i := 2) sc_law.nd rfl (by first | exact .inl rfl | exact .inr rfl) (s_lst (s_cons (s_lst (s_cons (s_str (l := [109, 97, 112, 32, 97, 32, 48, 32, 50, 32, 111, 119, 110, 32, 114]) (by decide +kernel)) (s_cons s_int s_nil))) (s_cons (s_lst (s_cons (s_str (l := [117, 110, 109, 97, 112, 32, 97, 32, 49, 48, 48, 48, 32, 49]) (by decide +kernel)) (s_cons s_int s_nil))) (s_cons (s_lst (s_cons (s_str (l := [117, 110, 109, 97, 112, 32, 97, 32, 48, 32, 54, 53]) (by decide +kernel)) (s_cons s_int s_nil))) (s_cons (s_lst (s_cons (s_str (l := [103, 117, 97, 114, 100, 32, 97, 32, 48, 32, 49, 32, 120]) (by decide +kernel)) (s_cons s_int s_nil))) (s_cons (s_lst (s_cons (s_str (l := [109, 111, 118, 101, 32, 97, 32, 48, 32, 49, 32, 50]) (by decide +kernel)) (s_cons s_int s_nil))) (s_cons (s_lst (s_cons (s_str (l := [109, 111, 118, 101, 32, 97, 32, 48, 32, 49, 32, 116, 111]) (by decide +kernel)) (s_cons s_int s_nil))) s_nil))))))) pi_add) (ss_cons (st_aug (i := 2) sc_law.nd rfl (by first | exact .inl rfl | exact .inr rfl) (s_lst (s_cons (s_lst (s_cons (s_str (l := [112, 117, 116, 32, 97, 32, 48, 46, 49, 32, 61, 32, 120]) (by decide +kernel)) (s_cons s_non s_nil))) (s_cons (s_lst (s_cons (s_str (l := [112, 117, 116, 32, 97, 32, 48, 46, 49, 32, 120]) (by decide +kernel)) (s_cons s_int s_nil))) (s_cons (s_lst (s_cons (s_str (l := [112, 117, 116, 32, 97, 32, 48, 44, 49, 32, 61, 32, 120]) (by decide +kernel)) (s_cons s_int s_nil))) (s_cons (s_lst (s_cons (s_str (l := [112, 117, 116, 32, 97, 32, 48, 46, 49, 32, 61]) (by decide +kernel)) (s_cons s_int s_nil))) (s_cons (s_lst (s_cons (s_str (l := [112, 117, 116, 32, 97, 32, 48, 46, 49, 32, 61, 32, 120, 32, 121]) (by decide +kernel)) (s_cons s_int s_nil))) (s_cons (s_lst (s_cons (s_str (l := [112, 117, 116, 32, 97, 32, 48, 46, 49, 32, 61, 32, 50, 32, 120, 32, 51]) (by decide +kernel)) (s_cons s_int s_nil))) s_nil))))))) pi_add) (ss_cons (st_aug (i := 2) sc_law.nd rfl (by first | exact .inl rfl | exact .inr rfl) (s_lst (s_cons (s_lst (s_cons (s_str (l := [112, 117, 116, 32, 97, 32, 48, 46, 49, 32, 61, 32, 120, 32, 43, 32, 43, 32, 121]) (by decide +kernel)) (s_cons s_int s_nil))) (s_cons (s_lst (s_cons (s_str (l := [112, 117, 116, 32, 97, 32, 48, 46, 49, 32, 61, 32, 45, 32, 45, 32, 121]) (by decide +kernel)) (s_cons s_int s_nil))) (s_cons (s_lst (s_cons (s_str (l := [112, 117, 116, 32, 97, 32, 48, 46, 49, 32, 61, 32, 50, 32, 51]) (by decide +kernel)) (s_cons s_int s_nil))) (s_cons (s_lst (s_cons (s_str (l := [112, 117, 116, 32, 97, 32, 48, 46, 49, 32, 61, 32, 45, 32, 50, 32, 98, 32, 49, 46, 48, 32, 45, 32, 51, 32, 43, 32, 52, 32, 120]) (by decide +kernel)) (s_cons s_non s_nil))) (s_cons (s_lst (s_cons (s_str (l := [112, 117, 116, 32, 97, 32, 48, 46, 49, 32, 61, 32, 48, 48, 55]) (by decide +kernel)) (s_cons s_int s_nil))) s_nil)))))) pi_add) (ss_cons (st_aug (i := 2) sc_law.nd rfl (by first | exact .inl rfl | exact .inr rfl) (s_lst (s_cons (s_lst (s_cons (s_str (l := [112, 117, 116, 32, 97, 32, 48, 46, 49, 32, 61, 32, 120, 32, 43, 32, 120, 32, 43, 32, 120, 32, 43, 32, 120, 32, 43, 32, 120, 32, 43, 32, 120, 32, 43, 32, 120, 32, 43, 32, 120, 32, 43, 32, 120]) (by decide +kernel)) (s_cons s_int s_nil))) (s_cons (s_lst (s_cons (s_str (l := [115, 104, 111, 119, 32, 97, 32, 48, 46, 49, 32, 50]) (by decide +kernel)) (s_cons s_int s_nil))) (s_cons (s_lst (s_cons (s_str (l := [115, 104, 111, 119, 32, 97, 32, 48, 32, 46, 32, 49]) (by decide +kernel)) (s_cons s_non s_nil))) (s_cons (s_lst (s_cons (s_str (l := [115, 104, 111, 119, 32, 97, 46, 48]) (by decide +kernel)) (s_cons s_int s_nil))) (s_cons (s_lst (s_cons (s_str (l := [84, 97, 115, 107, 32, 97]) (by decide +kernel)) (s_cons s_int s_nil))) s_nil)))))) pi_add) (ss_cons (st_for psOf rfl (si_any (s_var 2 (pv 2))) (sg_tupA rfl (sgs_cons (sg_name (i := 10) sc_law.nd rfl (by first | exact .inl rfl | exact .inr rfl)) (sgs_cons (sg_name (i := 11) sc_law.nd rfl (by first | exact .inl rfl | exact .inr rfl)) sgs_nil))) (ss_cons (st_set (i := 12) sc_law.nd rfl (by first | exact .inl rfl | exact .inr rfl) (s_bin o_add (s_bin o_add (s_bin o_add (s_bin o_add (s_bin o_add (s_bin o_add (s_var 8 (pv 8)) (s_bin o_mul (s_str (l := [10]) (by decide +kernel)) (s_var 7 (pv 7)))) (s_str (l := [35, 32]) (by decide +kernel))) (s_var 10 (pv 10))) (s_str (l := [10]) (by decide +kernel))) (s_var 9 (pv 9))) (s_var 10 (pv 10)))) (ss_cons (st_set (i := 13) sc_law.nd rfl (by first | exact .inl rfl | exact .inr rfl) (s_ifx (s_tcmp o_is (s_var 11 (pv 11)) s_non rfl) s_non (s_tup (s_cons (s_bin o_add s_int (s_var 7 (pv 7))) (s_cons (s_bin o_add (s_var 6 (pv 6)) (s_var 11 (pv 11))) s_nil))))) (ss_one (st_if (s_tcmp (o_ne hr) (s_callP (ps := ["text"]) (ok_law_told Z) (hr.mono (by decide)) rfl Z.G_law_told Z.K_law_told Z.B_law_told tkOf (s_cons (s_var 12 (pv 12)) s_nil)) (s_var 13 (pv 13)) rfl) (ss_one (st_ret s_bl)) ss_nil)))) (fun _ => rfl)) (ss_cons (st_set (i := 3) sc_law.nd rfl (by first | exact .inl rfl | exact .inr rfl) (s_lst (s_cons (s_lst (s_cons (s_str (l := []) (by decide +kernel)) (s_cons (s_tup (s_cons s_int (s_cons s_int s_nil))) s_nil))) (s_cons (s_lst (s_cons (s_bin o_add (s_bin o_add (s_str (l := [35, 32, 120]) (by decide +kernel)) (s_str (l := [10]) (by decide +kernel))) (s_str (l := [32]) (by decide +kernel))) (s_cons (s_tup (s_cons s_int (s_cons s_int s_nil))) s_nil))) (s_cons (s_lst (s_cons (s_str (l := [115, 112, 97, 99, 101, 32, 48, 32, 108, 101, 97, 118, 101, 115, 32, 50, 32, 99, 101, 108, 108, 115]) (by decide +kernel)) (s_cons (s_tup (s_cons s_int (s_cons s_int s_nil))) s_nil))) (s_cons (s_lst (s_cons (s_str (l := [115, 112, 97, 99, 101, 32, 54, 53, 32, 108, 101, 97, 118, 101, 115, 32, 50, 32, 99, 101, 108, 108, 115]) (by decide +kernel)) (s_cons (s_tup (s_cons s_int (s_cons s_int s_nil))) s_nil))) s_nil)))))) (ss_cons (st_aug (i := 3) sc_law.nd rfl (by first | exact .inl rfl | exact .inr rfl) (s_lst (s_cons (s_lst (s_cons (s_str (l := [115, 112, 97, 99, 101, 32, 56, 32, 108, 101, 97, 118, 101, 115, 32, 53, 32, 99, 101, 108, 108, 115]) (by decide +kernel)) (s_cons (s_tup (s_cons s_int (s_cons s_int s_nil))) s_nil))) (s_cons (s_lst (s_cons (s_str (l := [115, 112, 97, 99, 101, 32, 56, 32, 108, 101, 97, 118, 101, 115, 32, 50]) (by decide +kernel)) (s_cons (s_tup (s_cons s_int (s_cons s_int s_nil))) s_nil))) (s_cons (s_lst (s_cons (s_str (l := [115, 112, 97, 99, 101, 32, 56, 32, 108, 101, 97, 118, 101, 115, 32, 50, 32, 99, 101, 108, 108, 115, 32, 51]) (by decide +kernel)) (s_cons (s_tup (s_cons s_int (s_cons s_int s_nil))) s_nil))) (s_cons (s_lst (s_cons (s_str (l := [116, 97, 115, 107, 32, 97]) (by decide +kernel)) (s_cons (s_tup (s_cons s_int (s_cons s_int s_nil))) s_nil))) (s_cons (s_lst (s_cons (s_str (l := [115, 112, 97, 99, 101, 32, 49, 32, 108, 101, 97, 118, 101, 115, 32, 49, 32, 99, 101, 108, 108, 115]) (by decide +kernel)) (s_cons s_non s_nil))) s_nil)))))) pi_add) (ss_cons (st_if (s_tnot (s_tval (s_callB c_all rfl Z.m_all bb_all (s_cons (s_comp rfl sc_law.nd (own := [("text", 12), ("due", 13)]) (blk_of (N := ["script", "draw", "rows", "heads", "long", "found", "shift", "many", "head", "blank", "line", "column", "text", "due"]) (sc := defScope s_law) (by decide +kernel)) (si_any (s_var 3 (pv 3))) (fun _ _ _ _ _ => sg_tupA rfl (sgs_cons (sg_name (i := 12) sc_law.nd rfl (by first | exact .inl rfl | exact .inr rfl)) (sgs_cons (sg_name (i := 13) sc_law.nd rfl (by first | exact .inl rfl | exact .inr rfl)) sgs_nil))) (fun _ _ _ _ _ => sts_nil) (fun _ _ _ _ _ => s_cmp (o_eqO (o_own (c := 3) (ps := ["self", "other"]) Z.g_Script (ok_Script_eq Z) Z.E_Script Z.Y_Script Z.B_Script_eq (hr.mono (by decide))) (o_eq hr)) (s_callP (ps := ["text"]) (ok_law_told Z) (hr.mono (by decide)) rfl Z.G_law_told Z.K_law_told Z.B_law_told takes0 (s_cons (s_var 12 (pv 12)) s_nil)) (s_var 13 (pv 13)) rfl) (by decide) (fun _ => rfl)) s_nil)) (fun _ => rfl))) (ss_one (st_ret s_bl)) ss_nil) (ss_cons (st_set (i := 4) sc_law.nd rfl (by first | exact .inl rfl | exact .inr rfl) (s_bin o_add (s_var 8 (pv 8)) (s_bin o_mul (s_bin o_add (s_str (l := [116, 97, 115, 107, 32, 97]) (by decide +kernel)) (s_str (l := [10]) (by decide +kernel))) s_int))) (ss_cons (st_if (s_w (s_wor (s_tcmp o_isnot (s_callP (ps := ["text"]) (ok_law_told Z) (hr.mono (by decide)) rfl Z.G_law_told Z.K_law_told Z.B_law_told tkOf (s_cons (s_var 4 (pv 4)) s_nil)) s_non rfl) (s_wor (s_tcmp (o_ne hr) (s_callP (ps := ["text"]) (ok_law_told Z) (hr.mono (by decide)) rfl Z.G_law_told Z.K_law_told Z.B_law_told tkOf (s_cons (s_bin o_add (s_var 4 (pv 4)) (s_str (l := [32, 116, 97, 115, 107, 32, 97]) (by decide +kernel))) s_nil)) (s_tup (s_cons s_int (s_cons s_int s_nil))) rfl) (s_wor1 (s_tcmp (o_ne hr) (s_callP (ps := ["text"]) (ok_law_told Z) (hr.mono (by decide)) rfl Z.G_law_told Z.K_law_told Z.B_law_told tkOf (s_cons (s_call (ps := ["draw", "things"]) (ok_law_pick Z) (hr.mono (by decide)) rfl Z.G_law_pick Z.K_law_pick Z.B_law_pick tkOf (s_cons (s_var 1 (pv 1)) (s_cons (s_lst (s_cons s_non (s_cons s_int (s_cons (s_lst (s_cons (s_str (l := [116, 97, 115, 107, 32, 97]) (by decide +kernel)) s_nil)) s_nil)))) s_nil))) s_nil)) (s_tup (s_cons s_int (s_cons s_int s_nil))) rfl))))) (ss_one (st_ret s_bl)) ss_nil) (ss_cons (st_set (i := 5) sc_law.nd rfl (by first | exact .inl rfl | exact .inr rfl) (s_call (ps := ["told"]) (ok_read_script Z) (hr.mono (by decide)) rfl Z.G_read_script Z.K_read_script Z.B_read_script tkOf (s_cons (s_bin o_add (s_var 8 (pv 8)) (s_str (l := [112, 117, 116, 32, 97, 32, 55, 46, 49, 61, 45, 50, 98, 32, 49, 32, 46, 48, 45, 32, 51, 43, 120]) (by decide +kernel))) s_nil))) (ss_one (st_ret (s_cmp (o_eqO (o_own (c := 3) (ps := ["self", "other"]) Z.g_Script (ok_Script_eq Z) Z.E_Script Z.Y_Script Z.B_Script_eq (hr.mono (by decide))) (o_eq hr)) (s_var 5 (pv 5)) (s_make (ps := ["self", "leaves", "cells", "steps"]) (c := 3) Z.g_Script Z.M_Script (ok_Script_init Z) (hr.mono (by decide)) rfl Z.G_Script Z.B_Script_init tkOf (s_cons s_int (s_cons s_int (s_cons (s_lst (s_cons (s_tup (s_cons (s_str (l := [112, 117, 116]) (by decide +kernel)) (s_cons (s_str (l := [97]) (by decide +kernel)) (s_cons s_int (s_cons s_int (s_cons (s_tup (s_cons (s_tup (s_cons (s_str (l := [99, 101, 108, 108]) (by decide +kernel)) (s_cons (s_str (l := [98]) (by decide +kernel)) (s_cons s_int (s_cons s_int (s_cons (s_neg s_int) s_nil)))))) (s_cons (s_tup (s_cons (s_str (l := [110, 117, 109, 98, 101, 114]) (by decide +kernel)) (s_cons (s_neg s_int) s_nil))) (s_cons (s_tup (s_cons (s_str (l := [105, 110, 112, 117, 116]) (by decide +kernel)) (s_cons (s_str (l := [120]) (by decide +kernel)) (s_cons s_int s_nil)))) s_nil)))) s_nil)))))) s_nil)) s_nil)))) rfl)))))))))))))))))) hS hl rfl ⟨_, _, rfl, (fun u z => nomatch z), EnvR.nones 13⟩ (outS_true (good ns hl) hQ)
end
end P03

namespace P03
open PySem L2 VI
theorem seqE {f g : FS} {env : Ev} {h : Hv} {r : RS} (e : f env h = r) : fSeq f g env h = r.seq g := by
  unfold fSeq
  rw [e]
theorem ifT {t : FT} {f g : FS} {env : Ev} {h h1 : Hv} (e : t env h = .ok true h1) : fIfS t f g env h = f env h1 := by
  unfold fIfS
  rw [e]
  rfl
theorem ifF {t : FT} {f g : FS} {env : Ev} {h h1 : Hv} (e : t env h = .ok false h1) : fIfS t f g env h = g env h1 := by
  unfold fIfS
  rw [e]
  rfl
theorem at0 (n : Int) (rest : List Int) : atU (List.map U.int (n :: rest)) 0 = some (.int n) := by
  simp [atU, atI, L2.ixN]
theorem cell0 (h : Hv) (q : Ix) (ns : List Int) (hq : h.lst q = some (ns.map .int)) : mf_law_cell_at [.ref q, .int 0] h = .ok (.int (ns.headD 0)) h := by
  have t : fB (f2 gLt (fVar 1) (fCa gLen (fConsA (fVar 0) fNilA))) [some (.ref q), some (.int 0)] h = .ok (decide ((0 : Int) < ((ns.map U.int).length : Nat))) h := by
    have l : gLen [.ref q] h = .ok (.int ((ns.map U.int).length : Nat)) h := by simp only [gLen, seqU, hq]
    show R.bind (R.bind (gLen [.ref q] h) fun u2 h2 => gLt (.int 0) u2 h2) asB = _
    rw [l]
    rfl
  show endF (fSeq fs_law_cell_at_1 fs_law_cell_at_2 [some (.ref q), some (.int 0)] h) = _
  cases ns with
  | nil =>
    rw [seqE (show fs_law_cell_at_1 _ _ = _ from ifF t)]
    rfl
  | cons n rest =>
    have t' := t.trans (congrArg (fun b => R.ok b h) (decide_eq_true (by simp only [List.map_cons, List.length_cons]; omega)))
    have v : fRet (f2 (gIx kd0) (fVar 0) (fVar 1)) [some (.ref q), some (.int 0)] h = .rt (.int n) h := by
      have l : gIx kd0 (.ref q) (.int 0) h = .ok (.int n) h := by
        have a : atU (List.map U.int (n :: rest)) 0 = some (.int n) := at0 n rest
        simp only [gIx, seqU, hq, a]
      show RS.of (gIx kd0 (.ref q) (.int 0) h) _ _ = _
      rw [l]
      rfl
    rw [seqE (show fs_law_cell_at_1 _ _ = _ from (ifT t').trans v)]
    rfl
theorem number (c j b P : Int) (h : Hv) (n3 : ∀ G : FS, fSeq fs_law_number_1 (fSeq fs_law_number_2 (fSeq fs_law_number_3 G)) [some (.int c), some (.int j), some (.int b), none, none, none, none] h = G [some (.int c), some (.int j), some (.int b), some (.int P), some (.int (j - 1)), some (.int ((c - 1000000000000000000) / P)), none] h)
    (hb : 0 < b) (r1 : (fRet (f2 gMod (f2 gMod (fCa gInt (fConsA (fVar 5) fNilA)) (fCon (.int 1009))) (fVar 2))) [some (.int c), some (.int j), some (.int b), some (.int P), some (.int (j - 1)), some (.int ((c - 1000000000000000000) / P)), none] h = .rt (.int ((c - 1000000000000000000) / P % 1009 % b)) h)
    (r2 : ∃ Y : Int, (fSeq fs_law_number_5 fs_law_number_6) [some (.int c), some (.int j), some (.int b), some (.int P), some (.int (j - 1)), some (.int ((c - 1000000000000000000) / P)), none] h = .rt (.int (Y % b)) h) :
    ∃ r, 0 ≤ r ∧ r < b ∧ mf_law_number [.int c, .int j, .int b] h = .ok (.int r) h := by
  have t : fB (f2 gGt (fVar 5) (fCon (.int 0))) [some (.int c), some (.int j), some (.int b), some (.int P), some (.int (j - 1)), some (.int ((c - 1000000000000000000) / P)), none] h = .ok (decide ((0 : Int) < (c - 1000000000000000000) / P)) h := rfl
  by_cases q : (0 : Int) < (c - 1000000000000000000) / P
  · refine ⟨(c - 1000000000000000000) / P % 1009 % b, Int.emod_nonneg _ (by omega), Int.emod_lt_of_pos _ hb, ?_⟩
    show endF (fSeq fs_law_number_1 (fSeq fs_law_number_2 (fSeq fs_law_number_3 _)) [some (.int c), some (.int j), some (.int b), none, none, none, none] h) = _
    rw [n3, seqE (show fs_law_number_4 _ _ = _ from (ifT (t.trans (congrArg (fun b => R.ok b h) (decide_eq_true q)))).trans r1)]
    rfl
  · obtain ⟨Y, r2⟩ := r2
    refine ⟨Y % b, Int.emod_nonneg Y (by omega), Int.emod_lt_of_pos _ hb, ?_⟩
    show endF (fSeq fs_law_number_1 (fSeq fs_law_number_2 (fSeq fs_law_number_3 _)) [some (.int c), some (.int j), some (.int b), none, none, none, none] h) = _
    rw [n3, seqE (show fs_law_number_4 _ _ = RS.nx _ h from ifF (t.trans (congrArg (fun b => R.ok b h) (decide_eq_false q))))]
    show endF ((fSeq fs_law_number_5 fs_law_number_6) [some (.int c), some (.int j), some (.int b), some (.int P), some (.int (j - 1)), some (.int ((c - 1000000000000000000) / P)), none] h) = _
    rw [r2]
    rfl
theorem f2E {g : U → U → Hv → R U} {fa fb : FE} {env : Ev} {h h1 h2 : Hv} {u1 u2 : U} (e1 : fa env h = .ok u1 h1) (e2 : fb env h1 = .ok u2 h2) : f2 g fa fb env h = g u1 u2 h2 := by
  unfold f2
  rw [e1]
  show R.bind (fb env h1) _ = _
  rw [e2]
  rfl
theorem retE {f : FE} {env : Ev} {h h1 : Hv} {u : U} (e : f env h = .ok u h1) : fRet f env h = .rt u h1 := by
  unfold fRet
  rw [e]
  rfl
theorem asgE {f : FE} {i : Nat} {env : Ev} {h h1 : Hv} {u : U} (e : f env h = .ok u h1) : fAsg f (gNm i) env h = .nx (env.set i (some u)) h1 := by
  unfold fAsg
  rw [e]
  rfl
theorem caE {g : List U → Hv → R U} {fa : FL} {env : Ev} {h h1 : Hv} {us : List U} (e : fa env h = .ok us h1) : fCa g fa env h = g us h1 := by
  unfold fCa
  rw [e]
  rfl
theorem consE {fa : FE} {g : FL} {env : Ev} {h h1 h2 : Hv} {u : U} {us : List U} (e1 : fa env h = .ok u h1) (e2 : g env h1 = .ok us h2) : fConsA fa g env h = .ok (u :: us) h2 := by
  unfold fConsA
  rw [e1]
  show R.bind (g env h1) _ = _
  rw [e2]
  rfl
theorem mulS {a b : Int} {h : Hv} (ha : a.natAbs < 2 ^ 100) (hb : b.natAbs < 2 ^ 100) : gMul (.int a) (.int b) h = .ok (.int (a * b)) h := by
  have l : ∀ n : Nat, n < 2 ^ 100 → Nat.log2 n < 100 := fun n hn => by
    by_cases z : n = 0
    · subst z; decide
    · exact (Nat.log2_lt z).mpr hn
  have e : Nat.blt (Nat.log2 a.natAbs + Nat.log2 b.natAbs) 1000000 = true := Nat.ble_eq_true_of_le (by have := l _ ha; have := l _ hb; omega)
  simp only [gMul, e]
abbrev primes : U := .tup ([1000003, 1000033, 1000037, 1000039, 1000081, 1000099, 1000117, 1000121, 1000133, 1000151, 1000159, 1000171, 1000183, 1000187, 1000193, 1000199].map U.int)
abbrev dE (p k : Int) : Ev := [some (.int p), some (.int k), some (.int 999983), some primes]
theorem drawS (p : Int) (k P : Int) (h : Hv) (hp : p.natAbs < 2 ^ 100) (hk : k.natAbs < 2 ^ 100) (hP : 0 < P)
    (d1 : ∀ G : FS, fSeq fs_law_draw_1 G [some (.int p), some (.int k), some (.int 999983), none] h = G (dE p k) h)
    (d2 : (f2 (gIx kd0) (fVar 3) (f2 gMod (fCa gInt (fConsA (fVar 1) fNilA)) (fCon (.int 16)))) (dE p k) h = .ok (.int P) h) :
    mf_law_draw [.int p, .int k, .int 999983] h = .ok (.int ((p * 48271 + k * 69621) % P % 999983)) h := by
  have a1 : f2 gMul (fVar 0) (fCon (.int 48271)) (dE p k) h = .ok (.int (p * 48271)) h := (f2E (u1 := .int p) (u2 := .int 48271) rfl rfl).trans (mulS hp (by decide))
  have a2 : f2 gMul (fVar 1) (fCon (.int 69621)) (dE p k) h = .ok (.int (k * 69621)) h := (f2E rfl rfl).trans (mulS hk (by decide))
  have a3 : f2 gAdd (f2 gMul (fVar 0) (fCon (.int 48271))) (f2 gMul (fVar 1) (fCon (.int 69621))) (dE p k) h = .ok (.int (p * 48271 + k * 69621)) h := (f2E (g := gAdd) a1 a2).trans rfl
  have a4 : fCa gInt (fConsA (f2 gAdd (f2 gMul (fVar 0) (fCon (.int 48271))) (f2 gMul (fVar 1) (fCon (.int 69621)))) fNilA) (dE p k) h = .ok (.int (p * 48271 + k * 69621)) h := (caE (g := gInt) (consE (g := fNilA) (us := []) a3 rfl)).trans rfl
  have a5 : f2 gMod (fCa gInt (fConsA (f2 gAdd (f2 gMul (fVar 0) (fCon (.int 48271))) (f2 gMul (fVar 1) (fCon (.int 69621)))) fNilA)) (f2 (gIx kd0) (fVar 3) (f2 gMod (fCa gInt (fConsA (fVar 1) fNilA)) (fCon (.int 16)))) (dE p k) h = .ok (.int ((p * 48271 + k * 69621) % P)) h := (f2E a4 d2).trans (by simp only [gMod, decide_eq_true hP])
  have a6 := retE ((f2E a5 (fb := fVar 2) (g := gMod) rfl).trans (show _ = R.ok (.int ((p * 48271 + k * 69621) % P % 999983)) h from rfl))
  show endF (fSeq fs_law_draw_1 fs_law_draw_2 [some (.int p), some (.int k), some (.int 999983), none] h) = _
  rw [d1, show fs_law_draw_2 (dE p k) h = _ from a6]
  rfl
theorem modB (s : Int) : 0 ≤ s % 1000003 ∧ s % 1000003 < 1000003 := ⟨Int.emod_nonneg _ (by decide), Int.emod_lt_of_pos _ (by decide)⟩
abbrev nE (c j b P : Int) : Ev := [some (.int c), some (.int j), some (.int b), some (.int P), some (.int (j - 1)), some (.int ((c - 1000000000000000000) / P)), none]
theorem numS (c j b P Q : Int) (h : Hv) (hb : 0 < b) (hj : 0 < j) (hj2 : j < 9) (hQ : 0 < Q)
    (n5 : fs_law_number_5 (nE c j b P) h = .nx ((nE c j b P).set 6 (some (.int (c % 1000003)))) h)
    (d1 : ∀ (p : Int) (G : FS), fSeq fs_law_draw_1 G [some (.int p), some (.int (j + 1)), some (.int 999983), none] h = G (dE p (j + 1)) h)
    (d2 : ∀ p : Int, (f2 (gIx kd0) (fVar 3) (f2 gMod (fCa gInt (fConsA (fVar 1) fNilA)) (fCon (.int 16)))) (dE p (j + 1)) h = .ok (.int Q) h) :
    ∃ Y : Int, (fSeq fs_law_number_5 fs_law_number_6) (nE c j b P) h = .rt (.int (Y % b)) h := by
  obtain ⟨m1, m2⟩ := modB c
  have a1 : f2 gMul (fCon (.int 977)) (fVar 1) ((nE c j b P).set 6 (some (.int (c % 1000003)))) h = .ok (.int (977 * j)) h := (f2E rfl rfl).trans (mulS (by decide) (by omega))
  have a2 : f2 gMul (fCon (.int 31)) (fVar 1) ((nE c j b P).set 6 (some (.int (c % 1000003)))) h = .ok (.int (31 * j)) h := (f2E rfl rfl).trans (mulS (by decide) (by omega))
  have a3 : f2 gAdd (fVar 6) (f2 gMul (fCon (.int 977)) (fVar 1)) ((nE c j b P).set 6 (some (.int (c % 1000003)))) h = .ok (.int (c % 1000003 + 977 * j)) h := (f2E (g := gAdd) (fa := fVar 6) (u1 := .int (c % 1000003)) rfl a1).trans rfl
  have a4 : f2 gAdd (f2 gAdd (fVar 6) (f2 gMul (fCon (.int 31)) (fVar 1))) (fCon (.int 5)) ((nE c j b P).set 6 (some (.int (c % 1000003)))) h = .ok (.int (c % 1000003 + 31 * j + 5)) h := (f2E (g := gAdd) ((f2E (g := gAdd) (fa := fVar 6) (u1 := .int (c % 1000003)) rfl a2).trans (show _ = R.ok (U.int (c % 1000003 + 31 * j)) h from rfl)) (fb := fCon (.int 5)) (u2 := .int 5) rfl).trans rfl
  have a5 := (f2E (g := gMul) a3 a4).trans (mulS (by omega) (by omega))
  have a6 : f2 gAdd (f2 gMod (fCa gInt (fConsA (fVar 1) fNilA)) (fCon (.int 9))) (fCon (.int 1)) ((nE c j b P).set 6 (some (.int (c % 1000003)))) h = .ok (.int (j + 1)) h := by
    have : j % 9 = j := Int.emod_eq_of_lt (by omega) hj2
    show R.ok (U.int (j % 9 + 1)) h = _
    rw [this]
  have bp : ((c % 1000003 + 977 * j) * (c % 1000003 + 31 * j + 5)).natAbs < 2 ^ 100 := by
    rw [Int.natAbs_mul]
    have e1 : (c % 1000003 + 977 * j).natAbs < 2 ^ 30 := by omega
    have e2 : (c % 1000003 + 31 * j + 5).natAbs < 2 ^ 30 := by omega
    calc _ < 2 ^ 30 * 2 ^ 30 := Nat.mul_lt_mul'' e1 e2
      _ ≤ 2 ^ 100 := by decide
  have a7 := (caE (g := nArgs 3 mf_law_draw) (consE a5 (consE a6 (consE (fa := fCon (.int 999983)) rfl (g := fNilA) rfl)))).trans (show _ = R.ok _ h from drawS _ (j + 1) Q h bp (by omega) hQ (d1 _) (d2 _))
  have a8 := retE ((f2E a7 (fb := fVar 2) (g := gMod) rfl).trans (show _ = R.ok (.int ((((c % 1000003 + 977 * j) * (c % 1000003 + 31 * j + 5) * 48271 + (j + 1) * 69621) % Q % 999983) % b)) h from by simp only [gMod, decide_eq_true hb]))
  refine ⟨((c % 1000003 + 977 * j) * (c % 1000003 + 31 * j + 5) * 48271 + (j + 1) * 69621) % Q % 999983, ?_⟩
  rw [seqE n5]
  exact a8
theorem num24 (c : Int) (h : Hv) : ∃ r, 0 ≤ r ∧ r < 4 ∧ mf_law_number [.int c, .int 2, .int 4] h = .ok (.int r) h :=
  number c 2 4 1018081 h (fun G => by kernel_rfl) (by decide) (by kernel_rfl) (numS c 2 4 1018081 1000039 h (by decide) (by decide) (by decide) (by decide) (by kernel_rfl) (fun p G => by kernel_rfl) (fun p => by kernel_rfl))
theorem num33 (c : Int) (h : Hv) : ∃ r, 0 ≤ r ∧ r < 3 ∧ mf_law_number [.int c, .int 3, .int 3] h = .ok (.int r) h :=
  number c 3 3 1027243729 h (fun G => by kernel_rfl) (by decide) (by kernel_rfl) (numS c 3 3 1027243729 1000081 h (by decide) (by decide) (by decide) (by decide) (by kernel_rfl) (fun p G => by kernel_rfl) (fun p => by kernel_rfl))
theorem num43 (c : Int) (h : Hv) : ∃ r, 0 ≤ r ∧ r < 3 ∧ mf_law_number [.int c, .int 4, .int 3] h = .ok (.int r) h :=
  number c 4 3 1036488922561 h (fun G => by kernel_rfl) (by decide) (by kernel_rfl) (numS c 4 3 1036488922561 1000099 h (by decide) (by decide) (by decide) (by decide) (by kernel_rfl) (fun p G => by kernel_rfl) (fun p => by kernel_rfl))
def drawn (k : Int) : Ob := .lst [.ref .o, .int 0, .int k]
theorem lst_put (h : Hv) (us : List U) : (h.put (.z .o) (.lst us)).lst (.z .o) = some us ∧ (h.put (.z .o) (.lst us)).lst .o = h.lst .o := by
  constructor
  · simp [Hv.put, Hv.lst, Hv.get, Tr.get_set]
  · simp [Hv.put, Hv.lst, Hv.get, Tr.get_set]
theorem next_ok (h : Hv) (ns : List Int) (k b : Int) (hk : 0 ≤ k) (hk2 : k < 11) (hd : h.lst (.z .o) = some [.ref .o, .int 0, .int k]) (hs : h.lst .o = some (ns.map .int))
    (num : ∀ (c : Int) (h : Hv), ∃ r, 0 ≤ r ∧ r < b ∧ mf_law_number [.int c, .int (k + 2), .int b] h = .ok (.int r) h) :
    ∃ r, 0 ≤ r ∧ r < b ∧ mf_law_next [.ref (.z .o), .int b] h = .ok (.int r) (h.put (.z .o) (drawn (k + 1))) := by
  obtain ⟨l1, l2⟩ := lst_put h [.ref .o, .int 0, .int (k + 1)]
  have ix : ∀ (h : Hv) (x : U) (us : List U) (i : Int), h.lst (.z .o) = some us → atU us i = some x → ∀ env : Ev, env[0]? = some (some (.ref (.z .o))) → f2 (gIx kd0) (fVar 0) (fCon (.int i)) env h = .ok x h := fun h x us i e a env e0 => by
    refine (f2E (h1 := h) (u1 := .ref (.z .o)) (by simp only [fVar, e0]) (fb := fCon (.int i)) rfl).trans ?_
    simp only [gIx, seqU, e, a]
  have p1 : fs_law_next_1 [some (.ref (.z .o)), some (.int b), none, none] h = .nx [some (.ref (.z .o)), some (.int b), none, none] (h.put (.z .o) (drawn (k + 1))) := by
    have a := (f2E (g := gAdd) (ix h (.int k) _ 2 hd rfl [some (.ref (.z .o)), some (.int b), none, none] rfl) (fb := fCon (.int 1)) (u2 := .int 1) rfl).trans (show _ = R.ok (U.int (k + 1)) h from rfl)
    show RS.of _ _ _ = _
    rw [a]
    show (match gStSub (fVar 0) (fCon (.int 2)) (.int (k + 1)) [some (.ref (.z .o)), some (.int b), none, none] h with | .ok env1 h2 => RS.nx env1 h2 | _ => .bad) = _
    have g : gStSub (fVar 0) (fCon (.int 2)) (.int (k + 1)) [some (.ref (.z .o)), some (.int b), none, none] h = .ok [some (.ref (.z .o)), some (.int b), none, none] (h.put (.z .o) (drawn (k + 1))) := by
      show (match h.lst (.z .o) with | some us => _ | none => _) = _
      rw [hd]
      rfl
    rw [g]
  have d12 : (k + 1) / 12 = 0 := Int.ediv_eq_zero_of_lt (by omega) (by omega)
  have p2 : fs_law_next_2 [some (.ref (.z .o)), some (.int b), none, none] (h.put (.z .o) (drawn (k + 1))) = .nx [some (.ref (.z .o)), some (.int b), some (.int 0), none] (h.put (.z .o) (drawn (k + 1))) := by
    have a := (f2E (g := gDiv) (ix _ (.int (k + 1)) _ 2 l1 rfl [some (.ref (.z .o)), some (.int b), none, none] rfl) (fb := fCon (.int 12)) (u2 := .int 12) rfl).trans (show _ = R.ok (U.int ((k + 1) / 12)) _ from rfl)
    rw [d12] at a
    exact asgE (i := 2) a
  have p3 : fs_law_next_3 [some (.ref (.z .o)), some (.int b), some (.int 0), none] (h.put (.z .o) (drawn (k + 1))) = .nx [some (.ref (.z .o)), some (.int b), some (.int 0), some (.int (ns.headD 0 + 31 * 0))] (h.put (.z .o) (drawn (k + 1))) := by
    have c1 := ix _ (.ref .o) _ 0 l1 rfl [some (.ref (.z .o)), some (.int b), some (.int 0), none] rfl
    have c2 := (f2E (g := gAdd) (ix _ (.int 0) _ 1 l1 rfl [some (.ref (.z .o)), some (.int b), some (.int 0), none] rfl) (fb := fVar 2) (u2 := .int 0) rfl).trans (show _ = R.ok (U.int 0) _ from rfl)
    have c3 := (caE (g := nArgs 2 mf_law_cell_at) (consE c1 (consE (g := fNilA) (us := []) c2 rfl))).trans (show _ = R.ok (U.int (ns.headD 0)) _ from cell0 _ .o ns (l2.trans hs))
    have c4 := (f2E (g := gAdd) c3 (fb := f2 gMul (fCon (.int 31)) (fVar 2)) (u2 := .int (31 * 0)) rfl).trans (show _ = R.ok (U.int (ns.headD 0 + 31 * 0)) _ from rfl)
    exact asgE (i := 3) c4
  obtain ⟨r, r0, r1, e⟩ := num (ns.headD 0 + 31 * 0) (h.put (.z .o) (drawn (k + 1)))
  refine ⟨r, r0, r1, ?_⟩
  have p4 : fs_law_next_4 [some (.ref (.z .o)), some (.int b), some (.int 0), some (.int (ns.headD 0 + 31 * 0))] (h.put (.z .o) (drawn (k + 1))) = .rt (.int r) (h.put (.z .o) (drawn (k + 1))) := by
    have m : (k + 1) % 12 + 1 = k + 2 := by omega
    have c1 := (caE (g := gInt) (consE (g := fNilA) (us := []) (ix _ (.int (k + 1)) _ 2 l1 rfl [some (.ref (.z .o)), some (.int b), some (.int 0), some (.int (ns.headD 0 + 31 * 0))] rfl) rfl)).trans (show _ = R.ok (U.int (k + 1)) _ from rfl)
    have c2 := (f2E (g := gAdd) ((f2E (g := gMod) c1 (fb := fCon (.int 12)) (u2 := .int 12) rfl).trans (show _ = R.ok (U.int ((k + 1) % 12)) _ from rfl)) (fb := fCon (.int 1)) (u2 := .int 1) rfl).trans (show _ = R.ok (U.int ((k + 1) % 12 + 1)) _ from rfl)
    rw [m] at c2
    exact retE ((caE (g := nArgs 3 mf_law_number) (consE (fa := fVar 3) (u := .int (ns.headD 0 + 31 * 0)) rfl (consE c2 (consE (fa := fVar 1) (u := .int b) rfl (g := fNilA) (us := []) rfl)))).trans e)
  show endF (fSeq fs_law_next_1 (fSeq fs_law_next_2 (fSeq fs_law_next_3 fs_law_next_4)) [some (.ref (.z .o)), some (.int b), none, none] h) = _
  rw [seqE p1]
  show endF (fSeq fs_law_next_2 (fSeq fs_law_next_3 fs_law_next_4) [some (.ref (.z .o)), some (.int b), none, none] (h.put (.z .o) (drawn (k + 1)))) = _
  rw [seqE p2]
  show endF (fSeq fs_law_next_3 fs_law_next_4 [some (.ref (.z .o)), some (.int b), some (.int 0), none] (h.put (.z .o) (drawn (k + 1)))) = _
  rw [seqE p3]
  show endF (fs_law_next_4 [some (.ref (.z .o)), some (.int b), some (.int 0), some (.int (ns.headD 0 + 31 * 0))] (h.put (.z .o) (drawn (k + 1)))) = _
  rw [p4]
  rfl
end P03

namespace P03
open PySem L2 VI
def h2 (ns : List Int) : Hv := ⟨.nd (.nd (.nd (.nd (.nd (.nd (.lf) (some (.lst [.str [112, 117, 116, 32, 97, 32, 48, 46, 49, 32, 61, 32, 120, 32, 43, 32, 43, 32, 121], .int (17)])) (.lf)) (some (.lst [.str [109, 97, 112, 32, 97, 32, 48, 32, 50, 32, 122, 101, 114, 111, 32, 119, 114], .int (16)])) (.nd (.lf) (some (.lst [.ref (.z (.z (.s (.s (.z (.o)))))), .ref (.s (.z (.s (.s (.z (.o)))))), .ref (.z (.s (.s (.s (.z (.o)))))), .ref (.s (.s (.s (.s (.z (.o)))))), .ref (.s (.z (.z (.z (.s (.o)))))), .ref (.z (.s (.z (.z (.s (.o)))))), .ref (.s (.s (.z (.z (.s (.o)))))), .ref (.z (.z (.s (.z (.s (.o)))))), .ref (.s (.z (.s (.z (.s (.o))))))])) (.lf))) (some (.lst [.str [102, 111, 114, 107, 32, 97], .int (7)])) (.nd (.nd (.lf) (some (.lst [.str [115, 104, 111, 119, 32, 97, 32, 48, 32, 46, 32, 49], .non])) (.lf)) (some (.lst [.ref (.z (.s (.z (.z (.o))))), .ref (.s (.s (.z (.z (.o))))), .ref (.z (.z (.s (.z (.o))))), .ref (.s (.z (.s (.z (.o))))), .ref (.z (.s (.s (.z (.o))))), .ref (.s (.s (.s (.z (.o)))))])) (.lf))) (some (.lst [.str [116, 97, 115, 107], .int (5)])) (.nd (.nd (.nd (.lf) (some (.lst [.str [112, 117, 116, 32, 97, 32, 48, 46, 49, 32, 61, 32, 48, 48, 55], .int (13)])) (.lf)) (some (.lst [.str [117, 110, 109, 97, 112, 32, 97, 32, 48, 32, 54, 53], .int (11)])) (.nd (.lf) (some (.lst [.str [116, 97, 115, 107, 32, 97], .tup [.int (1), .int (1)]])) (.lf))) (some (.lst [.str [109, 97, 112, 32, 97, 32, 48, 32, 50, 32, 97, 112, 97, 114, 116, 32, 102, 32, 54, 51, 32, 114, 119], .int (19)])) (.nd (.nd (.lf) (some (.lst [.str [], .tup [.int (1), .int (1)]])) (.lf)) (some (.lst [.str [112, 117, 116, 32, 97, 32, 48, 46, 49, 32, 61], .int (12)])) (.lf)))) (some (.lst [.ref (.o), .int (0), .int (2)])) (.nd (.nd (.nd (.nd (.lf) (some (.lst [.str [112, 117, 116, 32, 97, 32, 48, 46, 49, 32, 61, 32, 50, 32, 51], .int (15)])) (.lf)) (some (.lst [.str [109, 97, 112, 32, 97, 32, 48, 32, 50, 32, 111, 119, 110, 32, 114], .int (11)])) (.nd (.lf) (some (.lst [.str [115, 112, 97, 99, 101, 32, 56, 32, 108, 101, 97, 118, 101, 115, 32, 50], .tup [.int (1), .int (17)]])) (.lf))) (some (.lst [.str [102, 105, 108, 101, 32, 102, 32, 48, 54, 52], .int (8)])) (.nd (.nd (.lf) (some (.lst [.str [84, 97, 115, 107, 32, 97], .int (1)])) (.lf)) (some (.lst [.str [112, 117, 116, 32, 97, 32, 48, 46, 49, 32, 120], .int (11)])) (.lf))) (some (.lst [.str [116, 97, 115, 107, 32, 51], .int (6)])) (.nd (.nd (.nd (.lf) (some (.lst [.str [112, 117, 116, 32, 97, 32, 48, 46, 49, 32, 61, 32, 120, 32, 43, 32, 120, 32, 43, 32, 120, 32, 43, 32, 120, 32, 43, 32, 120, 32, 43, 32, 120, 32, 43, 32, 120, 32, 43, 32, 120, 32, 43, 32, 120], .int (43)])) (.lf)) (some (.lst [.str [109, 111, 118, 101, 32, 97, 32, 48, 32, 49, 32, 50], .int (12)])) (.nd (.lf) (some (.lst [.ref (.s (.z (.z (.z (.s (.o)))))), .ref (.z (.s (.z (.z (.s (.o)))))), .ref (.s (.s (.z (.z (.s (.o)))))), .ref (.z (.z (.s (.z (.s (.o)))))), .ref (.s (.z (.s (.z (.s (.o))))))])) (.lf))) (some (.lst [.str [109, 97, 112, 32, 97, 32, 48, 32, 48, 32, 122, 101, 114, 111, 32, 114], .int (9)])) (.nd (.nd (.lf) (some (.lst [.str [115, 112, 97, 99, 101, 32, 48, 32, 108, 101, 97, 118, 101, 115, 32, 50, 32, 99, 101, 108, 108, 115], .tup [.int (1), .int (7)]])) (.lf)) (some (.lst [.str [112, 117, 116, 32, 97, 32, 48, 46, 49, 32, 61, 32, 50, 32, 120, 32, 51], .int (18)])) (.lf))))) (some (.lst (ns.map .int))) (.nd (.nd (.nd (.nd (.nd (.lf) (some (.lst [.str [112, 117, 116, 32, 97, 32, 48, 46, 49, 32, 61, 32, 45, 32, 45, 32, 121], .int (15)])) (.lf)) (some (.lst [.ref (.z (.z (.s (.o)))), .ref (.s (.z (.s (.o)))), .ref (.z (.s (.s (.o)))), .ref (.s (.s (.s (.o)))), .ref (.z (.z (.z (.z (.o)))))])) (.nd (.lf) (some (.lst [.str [115, 112, 97, 99, 101, 32, 56, 32, 108, 101, 97, 118, 101, 115, 32, 53, 32, 99, 101, 108, 108, 115], .tup [.int (1), .int (16)]])) (.lf))) (some (.lst [.str [102, 105, 108, 101, 32, 102, 32, 54, 53], .int (8)])) (.nd (.nd (.lf) (some (.lst [.str [115, 104, 111, 119, 32, 97, 46, 48], .int (7)])) (.lf)) (some (.lst [.str [112, 117, 116, 32, 97, 32, 48, 46, 49, 32, 61, 32, 120], .non])) (.lf))) (some (.lst [.str [116, 117, 115, 107, 32, 97], .int (1)])) (.nd (.nd (.nd (.lf) (some (.lst [.ref (.z (.z (.z (.z (.z (.o)))))), .ref (.s (.z (.z (.z (.z (.o)))))), .ref (.z (.s (.z (.z (.z (.o)))))), .ref (.s (.s (.z (.z (.z (.o)))))), .ref (.z (.z (.s (.z (.z (.o))))))])) (.lf)) (some (.lst [.str [103, 117, 97, 114, 100, 32, 97, 32, 48, 32, 49, 32, 120], .int (13)])) (.nd (.lf) (some (.lst [.str [115, 112, 97, 99, 101, 32, 49, 32, 108, 101, 97, 118, 101, 115, 32, 49, 32, 99, 101, 108, 108, 115], .non])) (.lf))) (some (.lst [.str [109, 97, 112, 32, 97, 32, 48, 32, 50, 32, 97, 112, 97, 114, 116, 32, 102, 32, 54, 50, 32, 114, 119], .non])) (.nd (.nd (.lf) (some (.lst [.str [35, 32, 120, 10, 32], .tup [.int (1), .int (1)]])) (.lf)) (some (.lst [.str [112, 117, 116, 32, 97, 32, 48, 46, 49, 32, 61, 32, 120, 32, 121], .int (15)])) (.lf)))) (some (.lst [.str [116, 97, 115, 107, 32, 97, 32, 98], .int (8)])) (.nd (.nd (.nd (.nd (.lf) (some (.lst [.str [112, 117, 116, 32, 97, 32, 48, 46, 49, 32, 61, 32, 45, 32, 50, 32, 98, 32, 49, 46, 48, 32, 45, 32, 51, 32, 43, 32, 52, 32, 120], .non])) (.lf)) (some (.lst [.str [117, 110, 109, 97, 112, 32, 97, 32, 49, 48, 48, 48, 32, 49], .int (9)])) (.nd (.lf) (some (.lst [.str [115, 112, 97, 99, 101, 32, 56, 32, 108, 101, 97, 118, 101, 115, 32, 50, 32, 99, 101, 108, 108, 115, 32, 51], .tup [.int (1), .int (24)]])) (.lf))) (some (.lst [.ref (.s (.o)), .ref (.z (.z (.o))), .ref (.s (.z (.o))), .ref (.z (.s (.o))), .ref (.s (.s (.o))), .ref (.z (.z (.z (.o)))), .ref (.s (.z (.z (.o)))), .ref (.z (.s (.z (.o)))), .ref (.z (.z (.s (.o)))), .ref (.s (.z (.s (.o)))), .ref (.z (.s (.s (.o)))), .ref (.s (.s (.s (.o)))), .ref (.z (.z (.z (.z (.o))))), .ref (.z (.s (.z (.z (.o))))), .ref (.s (.s (.z (.z (.o))))), .ref (.z (.z (.s (.z (.o))))), .ref (.s (.z (.s (.z (.o))))), .ref (.z (.s (.s (.z (.o))))), .ref (.s (.s (.s (.z (.o))))), .ref (.s (.z (.z (.s (.o))))), .ref (.z (.s (.z (.s (.o))))), .ref (.s (.s (.z (.s (.o))))), .ref (.z (.z (.s (.s (.o))))), .ref (.s (.z (.s (.s (.o))))), .ref (.z (.s (.s (.s (.o))))), .ref (.z (.z (.z (.z (.z (.o)))))), .ref (.s (.z (.z (.z (.z (.o)))))), .ref (.z (.s (.z (.z (.z (.o)))))), .ref (.s (.s (.z (.z (.z (.o)))))), .ref (.z (.z (.s (.z (.z (.o)))))), .ref (.z (.s (.s (.z (.z (.o)))))), .ref (.s (.s (.s (.z (.z (.o)))))), .ref (.z (.z (.z (.s (.z (.o)))))), .ref (.s (.z (.z (.s (.z (.o)))))), .ref (.z (.s (.z (.s (.z (.o))))))])) (.nd (.nd (.lf) (some (.lst [.ref (.z (.s (.s (.z (.z (.o)))))), .ref (.s (.s (.s (.z (.z (.o)))))), .ref (.z (.z (.z (.s (.z (.o)))))), .ref (.s (.z (.z (.s (.z (.o)))))), .ref (.z (.s (.z (.s (.z (.o))))))])) (.lf)) (some (.lst [.str [112, 117, 116, 32, 97, 32, 48, 44, 49, 32, 61, 32, 120], .int (8)])) (.lf))) (some (.lst [.str [116, 97, 115, 107, 32, 97, 98, 99, 100, 101, 102, 103, 104, 105], .int (6)])) (.nd (.nd (.nd (.lf) (some (.lst [.str [115, 104, 111, 119, 32, 97, 32, 48, 46, 49, 32, 50], .int (12)])) (.lf)) (some (.lst [.str [109, 111, 118, 101, 32, 97, 32, 48, 32, 49, 32, 116, 111], .int (14)])) (.nd (.lf) (some (.lst [.bl true, .bl true, .bl true, .bl true, .bl true, .bl true, .bl true, .bl true, .bl true])) (.lf))) (some (.lst [.str [109, 97, 112, 32, 97, 32, 48, 32, 50, 32, 122, 101, 114, 111], .int (15)])) (.nd (.nd (.lf) (some (.lst [.str [115, 112, 97, 99, 101, 32, 54, 53, 32, 108, 101, 97, 118, 101, 115, 32, 50, 32, 99, 101, 108, 108, 115], .tup [.int (1), .int (7)]])) (.lf)) (some (.lst [.ref (.s (.z (.z (.s (.o))))), .ref (.z (.s (.z (.s (.o))))), .ref (.s (.s (.z (.s (.o))))), .ref (.z (.z (.s (.s (.o))))), .ref (.s (.z (.s (.s (.o))))), .ref (.z (.s (.s (.s (.o)))))])) (.lf))))), .z (.z (.z (.s (.s (.o)))))⟩
def n1 : Ix := .z (.z (.z (.s (.s (.o)))))
abbrev head : List Nat := [115, 112, 97, 99, 101, 32, 56, 32, 108, 101, 97, 118, 101, 115, 32, 50, 32, 99, 101, 108, 108, 115, 10]
def lawHk (ns : List Int) (k : Int) : Hv := (Hv.nil.new (.lst (ns.map .int))).new (.lst [.ref .o, .int 0, .int k])
def env1 (r1 r2 : Int) : Ev := [none, some (.ref (.z .o)), none, none, none, none, some (.int r1), some (.int r2), none, none, none, none, none, none]
theorem s2_0_0 (ns : List Int) (G : FS) : fSeq fs_law_2 (fSeq fs_law_3 (fSeq fs_law_4 (fSeq fs_law_5 (fSeq fs_law_6 (fSeq fs_law_7 (fSeq fs_law_8 (fSeq fs_law_9 (fSeq fs_law_10 (fSeq fs_law_11 (fSeq fs_law_12 G)))))))))) (env1 0 0) (lawHk ns 2) = G [none, some (.ref (.z (.o))), some (.ref (.s (.s (.z (.o))))), some (.ref (.z (.z (.z (.z (.s (.o))))))), none, none, some (.int (0)), some (.int (0)), some (.str [115, 112, 97, 99, 101, 32, 56, 32, 108, 101, 97, 118, 101, 115, 32, 50, 32, 99, 101, 108, 108, 115, 10]), some (.str []), some (.str [84, 97, 115, 107, 32, 97]), some (.int (1)), some (.str [115, 112, 97, 99, 101, 32, 56, 32, 108, 101, 97, 118, 101, 115, 32, 50, 32, 99, 101, 108, 108, 115, 10, 35, 32, 84, 97, 115, 107, 32, 97, 10, 84, 97, 115, 107, 32, 97]), some (.tup [.int (3), .int (1)])] (h2 ns) := by kernel_rfl
theorem s2_0_1 (ns : List Int) (G : FS) : fSeq fs_law_2 (fSeq fs_law_3 (fSeq fs_law_4 (fSeq fs_law_5 (fSeq fs_law_6 (fSeq fs_law_7 (fSeq fs_law_8 (fSeq fs_law_9 (fSeq fs_law_10 (fSeq fs_law_11 (fSeq fs_law_12 G)))))))))) (env1 0 1) (lawHk ns 2) = G [none, some (.ref (.z (.o))), some (.ref (.s (.s (.z (.o))))), some (.ref (.z (.z (.z (.z (.s (.o))))))), none, none, some (.int (0)), some (.int (1)), some (.str [115, 112, 97, 99, 101, 32, 56, 32, 108, 101, 97, 118, 101, 115, 32, 50, 32, 99, 101, 108, 108, 115, 10]), some (.str []), some (.str [84, 97, 115, 107, 32, 97]), some (.int (1)), some (.str [115, 112, 97, 99, 101, 32, 56, 32, 108, 101, 97, 118, 101, 115, 32, 50, 32, 99, 101, 108, 108, 115, 10, 10, 35, 32, 84, 97, 115, 107, 32, 97, 10, 84, 97, 115, 107, 32, 97]), some (.tup [.int (4), .int (1)])] (h2 ns) := by kernel_rfl
theorem s2_0_2 (ns : List Int) (G : FS) : fSeq fs_law_2 (fSeq fs_law_3 (fSeq fs_law_4 (fSeq fs_law_5 (fSeq fs_law_6 (fSeq fs_law_7 (fSeq fs_law_8 (fSeq fs_law_9 (fSeq fs_law_10 (fSeq fs_law_11 (fSeq fs_law_12 G)))))))))) (env1 0 2) (lawHk ns 2) = G [none, some (.ref (.z (.o))), some (.ref (.s (.s (.z (.o))))), some (.ref (.z (.z (.z (.z (.s (.o))))))), none, none, some (.int (0)), some (.int (2)), some (.str [115, 112, 97, 99, 101, 32, 56, 32, 108, 101, 97, 118, 101, 115, 32, 50, 32, 99, 101, 108, 108, 115, 10]), some (.str []), some (.str [84, 97, 115, 107, 32, 97]), some (.int (1)), some (.str [115, 112, 97, 99, 101, 32, 56, 32, 108, 101, 97, 118, 101, 115, 32, 50, 32, 99, 101, 108, 108, 115, 10, 10, 10, 35, 32, 84, 97, 115, 107, 32, 97, 10, 84, 97, 115, 107, 32, 97]), some (.tup [.int (5), .int (1)])] (h2 ns) := by kernel_rfl
theorem s2_1_0 (ns : List Int) (G : FS) : fSeq fs_law_2 (fSeq fs_law_3 (fSeq fs_law_4 (fSeq fs_law_5 (fSeq fs_law_6 (fSeq fs_law_7 (fSeq fs_law_8 (fSeq fs_law_9 (fSeq fs_law_10 (fSeq fs_law_11 (fSeq fs_law_12 G)))))))))) (env1 1 0) (lawHk ns 2) = G [none, some (.ref (.z (.o))), some (.ref (.s (.s (.z (.o))))), some (.ref (.z (.z (.z (.z (.s (.o))))))), none, none, some (.int (1)), some (.int (0)), some (.str [115, 112, 97, 99, 101, 32, 56, 32, 108, 101, 97, 118, 101, 115, 32, 50, 32, 99, 101, 108, 108, 115, 10]), some (.str [32]), some (.str [84, 97, 115, 107, 32, 97]), some (.int (1)), some (.str [115, 112, 97, 99, 101, 32, 56, 32, 108, 101, 97, 118, 101, 115, 32, 50, 32, 99, 101, 108, 108, 115, 10, 35, 32, 84, 97, 115, 107, 32, 97, 10, 32, 84, 97, 115, 107, 32, 97]), some (.tup [.int (3), .int (2)])] (h2 ns) := by kernel_rfl
theorem s2_1_1 (ns : List Int) (G : FS) : fSeq fs_law_2 (fSeq fs_law_3 (fSeq fs_law_4 (fSeq fs_law_5 (fSeq fs_law_6 (fSeq fs_law_7 (fSeq fs_law_8 (fSeq fs_law_9 (fSeq fs_law_10 (fSeq fs_law_11 (fSeq fs_law_12 G)))))))))) (env1 1 1) (lawHk ns 2) = G [none, some (.ref (.z (.o))), some (.ref (.s (.s (.z (.o))))), some (.ref (.z (.z (.z (.z (.s (.o))))))), none, none, some (.int (1)), some (.int (1)), some (.str [115, 112, 97, 99, 101, 32, 56, 32, 108, 101, 97, 118, 101, 115, 32, 50, 32, 99, 101, 108, 108, 115, 10]), some (.str [32]), some (.str [84, 97, 115, 107, 32, 97]), some (.int (1)), some (.str [115, 112, 97, 99, 101, 32, 56, 32, 108, 101, 97, 118, 101, 115, 32, 50, 32, 99, 101, 108, 108, 115, 10, 10, 35, 32, 84, 97, 115, 107, 32, 97, 10, 32, 84, 97, 115, 107, 32, 97]), some (.tup [.int (4), .int (2)])] (h2 ns) := by kernel_rfl
theorem s2_1_2 (ns : List Int) (G : FS) : fSeq fs_law_2 (fSeq fs_law_3 (fSeq fs_law_4 (fSeq fs_law_5 (fSeq fs_law_6 (fSeq fs_law_7 (fSeq fs_law_8 (fSeq fs_law_9 (fSeq fs_law_10 (fSeq fs_law_11 (fSeq fs_law_12 G)))))))))) (env1 1 2) (lawHk ns 2) = G [none, some (.ref (.z (.o))), some (.ref (.s (.s (.z (.o))))), some (.ref (.z (.z (.z (.z (.s (.o))))))), none, none, some (.int (1)), some (.int (2)), some (.str [115, 112, 97, 99, 101, 32, 56, 32, 108, 101, 97, 118, 101, 115, 32, 50, 32, 99, 101, 108, 108, 115, 10]), some (.str [32]), some (.str [84, 97, 115, 107, 32, 97]), some (.int (1)), some (.str [115, 112, 97, 99, 101, 32, 56, 32, 108, 101, 97, 118, 101, 115, 32, 50, 32, 99, 101, 108, 108, 115, 10, 10, 10, 35, 32, 84, 97, 115, 107, 32, 97, 10, 32, 84, 97, 115, 107, 32, 97]), some (.tup [.int (5), .int (2)])] (h2 ns) := by kernel_rfl
theorem s2_2_0 (ns : List Int) (G : FS) : fSeq fs_law_2 (fSeq fs_law_3 (fSeq fs_law_4 (fSeq fs_law_5 (fSeq fs_law_6 (fSeq fs_law_7 (fSeq fs_law_8 (fSeq fs_law_9 (fSeq fs_law_10 (fSeq fs_law_11 (fSeq fs_law_12 G)))))))))) (env1 2 0) (lawHk ns 2) = G [none, some (.ref (.z (.o))), some (.ref (.s (.s (.z (.o))))), some (.ref (.z (.z (.z (.z (.s (.o))))))), none, none, some (.int (2)), some (.int (0)), some (.str [115, 112, 97, 99, 101, 32, 56, 32, 108, 101, 97, 118, 101, 115, 32, 50, 32, 99, 101, 108, 108, 115, 10]), some (.str [32, 32]), some (.str [84, 97, 115, 107, 32, 97]), some (.int (1)), some (.str [115, 112, 97, 99, 101, 32, 56, 32, 108, 101, 97, 118, 101, 115, 32, 50, 32, 99, 101, 108, 108, 115, 10, 35, 32, 84, 97, 115, 107, 32, 97, 10, 32, 32, 84, 97, 115, 107, 32, 97]), some (.tup [.int (3), .int (3)])] (h2 ns) := by kernel_rfl
theorem s2_2_1 (ns : List Int) (G : FS) : fSeq fs_law_2 (fSeq fs_law_3 (fSeq fs_law_4 (fSeq fs_law_5 (fSeq fs_law_6 (fSeq fs_law_7 (fSeq fs_law_8 (fSeq fs_law_9 (fSeq fs_law_10 (fSeq fs_law_11 (fSeq fs_law_12 G)))))))))) (env1 2 1) (lawHk ns 2) = G [none, some (.ref (.z (.o))), some (.ref (.s (.s (.z (.o))))), some (.ref (.z (.z (.z (.z (.s (.o))))))), none, none, some (.int (2)), some (.int (1)), some (.str [115, 112, 97, 99, 101, 32, 56, 32, 108, 101, 97, 118, 101, 115, 32, 50, 32, 99, 101, 108, 108, 115, 10]), some (.str [32, 32]), some (.str [84, 97, 115, 107, 32, 97]), some (.int (1)), some (.str [115, 112, 97, 99, 101, 32, 56, 32, 108, 101, 97, 118, 101, 115, 32, 50, 32, 99, 101, 108, 108, 115, 10, 10, 35, 32, 84, 97, 115, 107, 32, 97, 10, 32, 32, 84, 97, 115, 107, 32, 97]), some (.tup [.int (4), .int (3)])] (h2 ns) := by kernel_rfl
theorem s2_2_2 (ns : List Int) (G : FS) : fSeq fs_law_2 (fSeq fs_law_3 (fSeq fs_law_4 (fSeq fs_law_5 (fSeq fs_law_6 (fSeq fs_law_7 (fSeq fs_law_8 (fSeq fs_law_9 (fSeq fs_law_10 (fSeq fs_law_11 (fSeq fs_law_12 G)))))))))) (env1 2 2) (lawHk ns 2) = G [none, some (.ref (.z (.o))), some (.ref (.s (.s (.z (.o))))), some (.ref (.z (.z (.z (.z (.s (.o))))))), none, none, some (.int (2)), some (.int (2)), some (.str [115, 112, 97, 99, 101, 32, 56, 32, 108, 101, 97, 118, 101, 115, 32, 50, 32, 99, 101, 108, 108, 115, 10]), some (.str [32, 32]), some (.str [84, 97, 115, 107, 32, 97]), some (.int (1)), some (.str [115, 112, 97, 99, 101, 32, 56, 32, 108, 101, 97, 118, 101, 115, 32, 50, 32, 99, 101, 108, 108, 115, 10, 10, 10, 35, 32, 84, 97, 115, 107, 32, 97, 10, 32, 32, 84, 97, 115, 107, 32, 97]), some (.tup [.int (5), .int (3)])] (h2 ns) := by kernel_rfl
theorem s2_3_0 (ns : List Int) (G : FS) : fSeq fs_law_2 (fSeq fs_law_3 (fSeq fs_law_4 (fSeq fs_law_5 (fSeq fs_law_6 (fSeq fs_law_7 (fSeq fs_law_8 (fSeq fs_law_9 (fSeq fs_law_10 (fSeq fs_law_11 (fSeq fs_law_12 G)))))))))) (env1 3 0) (lawHk ns 2) = G [none, some (.ref (.z (.o))), some (.ref (.s (.s (.z (.o))))), some (.ref (.z (.z (.z (.z (.s (.o))))))), none, none, some (.int (3)), some (.int (0)), some (.str [115, 112, 97, 99, 101, 32, 56, 32, 108, 101, 97, 118, 101, 115, 32, 50, 32, 99, 101, 108, 108, 115, 10]), some (.str [32, 32, 32]), some (.str [84, 97, 115, 107, 32, 97]), some (.int (1)), some (.str [115, 112, 97, 99, 101, 32, 56, 32, 108, 101, 97, 118, 101, 115, 32, 50, 32, 99, 101, 108, 108, 115, 10, 35, 32, 84, 97, 115, 107, 32, 97, 10, 32, 32, 32, 84, 97, 115, 107, 32, 97]), some (.tup [.int (3), .int (4)])] (h2 ns) := by kernel_rfl
theorem s2_3_1 (ns : List Int) (G : FS) : fSeq fs_law_2 (fSeq fs_law_3 (fSeq fs_law_4 (fSeq fs_law_5 (fSeq fs_law_6 (fSeq fs_law_7 (fSeq fs_law_8 (fSeq fs_law_9 (fSeq fs_law_10 (fSeq fs_law_11 (fSeq fs_law_12 G)))))))))) (env1 3 1) (lawHk ns 2) = G [none, some (.ref (.z (.o))), some (.ref (.s (.s (.z (.o))))), some (.ref (.z (.z (.z (.z (.s (.o))))))), none, none, some (.int (3)), some (.int (1)), some (.str [115, 112, 97, 99, 101, 32, 56, 32, 108, 101, 97, 118, 101, 115, 32, 50, 32, 99, 101, 108, 108, 115, 10]), some (.str [32, 32, 32]), some (.str [84, 97, 115, 107, 32, 97]), some (.int (1)), some (.str [115, 112, 97, 99, 101, 32, 56, 32, 108, 101, 97, 118, 101, 115, 32, 50, 32, 99, 101, 108, 108, 115, 10, 10, 35, 32, 84, 97, 115, 107, 32, 97, 10, 32, 32, 32, 84, 97, 115, 107, 32, 97]), some (.tup [.int (4), .int (4)])] (h2 ns) := by kernel_rfl
theorem s2_3_2 (ns : List Int) (G : FS) : fSeq fs_law_2 (fSeq fs_law_3 (fSeq fs_law_4 (fSeq fs_law_5 (fSeq fs_law_6 (fSeq fs_law_7 (fSeq fs_law_8 (fSeq fs_law_9 (fSeq fs_law_10 (fSeq fs_law_11 (fSeq fs_law_12 G)))))))))) (env1 3 2) (lawHk ns 2) = G [none, some (.ref (.z (.o))), some (.ref (.s (.s (.z (.o))))), some (.ref (.z (.z (.z (.z (.s (.o))))))), none, none, some (.int (3)), some (.int (2)), some (.str [115, 112, 97, 99, 101, 32, 56, 32, 108, 101, 97, 118, 101, 115, 32, 50, 32, 99, 101, 108, 108, 115, 10]), some (.str [32, 32, 32]), some (.str [84, 97, 115, 107, 32, 97]), some (.int (1)), some (.str [115, 112, 97, 99, 101, 32, 56, 32, 108, 101, 97, 118, 101, 115, 32, 50, 32, 99, 101, 108, 108, 115, 10, 10, 10, 35, 32, 84, 97, 115, 107, 32, 97, 10, 32, 32, 32, 84, 97, 115, 107, 32, 97]), some (.tup [.int (5), .int (4)])] (h2 ns) := by kernel_rfl
def isNon : R U → Bool
  | .ok .non _ => true
  | _ => false
def isTup (a b : Int) : R U → Bool
  | .ok (.tup [.int x, .int y]) _ => decide (x = a) && decide (y = b)
  | _ => false
theorem pureN {n : Nat} {mf : FM} {us : List U} {h : Hv} (f : fls us = true) (e : isNon (nArgs n mf us Hv.nil) = true) : pureC n mf us h = .ok .non h := by
  unfold pureC
  rw [f]
  cases z : nArgs n mf us Hv.nil with
  | ok u h' =>
    rw [z] at e
    cases u <;> first | rfl | cases e
  | ex c fs h' => rw [z] at e; cases e
  | bad => rw [z] at e; cases e
theorem pureT {n : Nat} {mf : FM} {us : List U} {h : Hv} {a b : Int} (f : fls us = true) (e : isTup a b (nArgs n mf us Hv.nil) = true) : pureC n mf us h = .ok (.tup [.int a, .int b]) h := by
  unfold pureC
  rw [f]
  cases z : nArgs n mf us Hv.nil with
  | ok u h' =>
    rw [z] at e
    unfold isTup at e
    split at e
    · rename_i x y q
      cases q
      rw [Bool.and_eq_true] at e
      have e1 := of_decide_eq_true e.1
      have e2 := of_decide_eq_true e.2
      subst e1 e2
      rfl
    · cases e
  | ex c fs h' => rw [z] at e; cases e
  | bad => rw [z] at e; cases e
theorem orF {f g : FT} {env : Ev} {h h1 : Hv} (e : f env h = .ok false h1) : fOrT f g env h = g env h1 := by
  unfold fOrT
  rw [e]
  rfl
theorem parE {i j : Nat} {f : FL} {env : Ev} {h h1 : Hv} {u w : U} (e : f env h = .ok [u, w] h1) : fPar i j f env h = .nx ((env.set i (some u)).set j (some w)) h1 := by
  unfold fPar
  rw [e]
  rfl
theorem bE {f : FE} {env : Ev} {h h1 : Hv} {k : Bool} (e : f env h = .ok (.bl k) h1) : fB f env h = .ok k h1 := by
  unfold fB
  rw [e]
  rfl
theorem three {r : Int} (a : 0 ≤ r) (b : r < 3) : r = 0 ∨ r = 1 ∨ r = 2 := by omega
theorem four {r : Int} (a : 0 ≤ r) (b : r < 4) : r = 0 ∨ r = 1 ∨ r = 2 ∨ r = 3 := by omega
def line : List Nat := [116, 97, 115, 107, 32, 97, 10]
def long : List Nat := head ++ repL line 300
theorem long_a : isNon (nArgs 1 mf_law_told [.str long] Hv.nil) = true := by decide +kernel
theorem long_b : isTup 302 2 (nArgs 1 mf_law_told [.str (long ++ [32, 116, 97, 115, 107, 32, 97])] Hv.nil) = true := by decide +kernel
theorem none_c : isTup 0 0 (nArgs 1 mf_law_told [.non] Hv.nil) = true := by decide +kernel
theorem seven_c : isTup 0 0 (nArgs 1 mf_law_told [.int 7] Hv.nil) = true := by decide +kernel
def h3 (ns : List Int) : Hv := ((h2 ns).new (.lst [.str [116, 97, 115, 107, 32, 97]])).new (.lst [.non, .int 7, .ref n1])
def h4 (ns : List Int) : Hv := (h3 ns).put (.z .o) (drawn 3)
theorem list_c (ns : List Int) : pureC 1 mf_law_told [.ref n1] (h4 ns) = .ok (.tup [.int 0, .int 0]) (h4 ns) := by kernel_rfl
theorem pick_ok (ns : List Int) : ∃ u, (u = .non ∨ u = .int 7 ∨ u = .ref n1) ∧ mf_law_pick [.ref (.z .o), .ref n1.up] (h3 ns) = .ok u (h4 ns) := by
  obtain ⟨r, r0, r1, e⟩ := next_ok (h3 ns) ns 2 3 (by decide) (by decide) (by kernel_rfl) (by kernel_rfl) num43
  have l : fCa gLen (fConsA (fVar 1) fNilA) [some (.ref (.z .o)), some (.ref n1.up)] (h3 ns) = .ok (.int 3) (h3 ns) := by kernel_rfl
  have c := (caE (g := nArgs 2 mf_law_next) (consE (fa := fVar 0) (u := .ref (.z .o)) (env := [some (.ref (.z .o)), some (.ref n1.up)]) (h := h3 ns) rfl (consE l (g := fNilA) (us := []) rfl))).trans (show _ = R.ok (U.int r) (h4 ns) from e)
  have go : ∀ u, gIx kd0 (.ref n1.up) (.int r) (h4 ns) = .ok u (h4 ns) → mf_law_pick [.ref (.z .o), .ref n1.up] (h3 ns) = .ok u (h4 ns) := fun u g => by
    have a := retE ((f2E (g := gIx kd0) (fa := fVar 1) (u1 := .ref n1.up) rfl c).trans g)
    show endF (fs_law_pick_1 [some (.ref (.z .o)), some (.ref n1.up)] (h3 ns)) = _
    rw [show fs_law_pick_1 [some (.ref (.z .o)), some (.ref n1.up)] (h3 ns) = _ from a]
    rfl
  rcases three r0 r1 with z | z | z
  · exact ⟨.non, .inl rfl, go _ (by subst z; kernel_rfl)⟩
  · exact ⟨.int 7, .inr (.inl rfl), go _ (by subst z; kernel_rfl)⟩
  · exact ⟨.ref n1, .inr (.inr rfl), go _ (by subst z; kernel_rfl)⟩
abbrev e3 (a2 a3 a4 a5 a6 a7 a9 a10 a11 a12 a13 : Option U) : Ev := [none, some (.ref (.z .o)), a2, a3, a4, a5, a6, a7, some (.str head), a9, a10, a11, a12, a13]
theorem tail (ns : List Int) (a2 a3 a4 a5 a6 a7 a9 a10 a11 a12 a13 : Option U) : lawOk ((fSeq fs_law_13 (fSeq fs_law_14 (fSeq fs_law_15 fs_law_16))) (e3 a2 a3 a4 a5 a6 a7 a9 a10 a11 a12 a13) (h2 ns)) = true := by
  have s13 : ∀ G : FS, fSeq fs_law_13 G (e3 a2 a3 a4 a5 a6 a7 a9 a10 a11 a12 a13) (h2 ns) = G (e3 a2 a3 (some (.str long)) a5 a6 a7 a9 a10 a11 a12 a13) (h2 ns) := fun G => by kernel_rfl
  have A : fB (f2 gIsNot (fCa (pureC 1 mf_law_told) (fConsA (fVar 4) fNilA)) (fCon .non)) (e3 a2 a3 (some (.str long)) a5 a6 a7 a9 a10 a11 a12 a13) (h2 ns) = .ok false (h2 ns) :=
    bE ((f2E (g := gIsNot) ((caE (g := pureC 1 mf_law_told) (consE (fa := fVar 4) (u := .str long) rfl (g := fNilA) (us := []) rfl)).trans (pureN rfl long_a)) (fb := fCon .non) (u2 := .non) rfl).trans rfl)
  have lb : f2 gAdd (fVar 4) (fCon (.str [32, 116, 97, 115, 107, 32, 97])) (e3 a2 a3 (some (.str long)) a5 a6 a7 a9 a10 a11 a12 a13) (h2 ns) = .ok (.str (long ++ [32, 116, 97, 115, 107, 32, 97])) (h2 ns) := by kernel_rfl
  have B : fB (f2 gNe (fCa (pureC 1 mf_law_told) (fConsA (f2 gAdd (fVar 4) (fCon (.str [32, 116, 97, 115, 107, 32, 97]))) fNilA)) (fTup (fConsA (fCon (.int 302)) (fConsA (fCon (.int 2)) fNilA)))) (e3 a2 a3 (some (.str long)) a5 a6 a7 a9 a10 a11 a12 a13) (h2 ns) = .ok false (h2 ns) :=
    bE ((f2E (g := gNe) ((caE (g := pureC 1 mf_law_told) (consE lb (g := fNilA) (us := []) rfl)).trans (pureT rfl long_b)) (fb := fTup (fConsA (fCon (.int 302)) (fConsA (fCon (.int 2)) fNilA))) (u2 := .tup [.int 302, .int 2]) rfl).trans rfl)
  have C : fB (f2 gNe (fCa (pureC 1 mf_law_told) (fConsA (fCa (nArgs 2 mf_law_pick) (fConsA (fVar 1) (fConsA (fLst (fConsA (fCon .non) (fConsA (fCon (.int 7)) (fConsA (fLst (fConsA (fCon (.str [116, 97, 115, 107, 32, 97])) fNilA)) fNilA)))) fNilA))) fNilA)) (fTup (fConsA (fCon (.int 0)) (fConsA (fCon (.int 0)) fNilA)))) (e3 a2 a3 (some (.str long)) a5 a6 a7 a9 a10 a11 a12 a13) (h2 ns) = .ok false (h4 ns) := by
    have c1 : fConsA (fVar 1) (fConsA (fLst (fConsA (fCon .non) (fConsA (fCon (.int 7)) (fConsA (fLst (fConsA (fCon (.str [116, 97, 115, 107, 32, 97])) fNilA)) fNilA)))) fNilA) (e3 a2 a3 (some (.str long)) a5 a6 a7 a9 a10 a11 a12 a13) (h2 ns) = .ok [.ref (.z .o), .ref n1.up] (h3 ns) := by kernel_rfl
    obtain ⟨u, hu, pk⟩ := pick_ok ns
    have c2 := (caE (g := nArgs 2 mf_law_pick) c1).trans (show _ = R.ok u (h4 ns) from pk)
    have t : pureC 1 mf_law_told [u] (h4 ns) = .ok (.tup [.int 0, .int 0]) (h4 ns) := by
      rcases hu with z | z | z
      · subst z; exact pureT rfl none_c
      · subst z; exact pureT rfl seven_c
      · subst z; exact list_c ns
    exact bE ((f2E (g := gNe) ((caE (g := pureC 1 mf_law_told) (consE c2 (g := fNilA) (us := []) rfl)).trans t) (fb := fTup (fConsA (fCon (.int 0)) (fConsA (fCon (.int 0)) fNilA))) (u2 := .tup [.int 0, .int 0]) rfl).trans rfl)
  rw [s13, seqE (show fs_law_14 _ _ = RS.nx _ (h4 ns) from (ifF (((orF A).trans ((orF B).trans C)))))]
  kernel_rfl
theorem good : ∀ ns : List Int, ns.length ≤ 63 → lawOk (fb_law ev_law (lawH ns)) = true := by
  intro ns _
  obtain ⟨r1, p0, p1, e1⟩ := next_ok (lawH ns) ns 0 4 (by decide) (by decide) rfl rfl num24
  obtain ⟨r2, q0, q1, e2⟩ := next_ok (lawHk ns 1) ns 1 3 (by decide) (by decide) rfl rfl num33
  have s1 : fs_law_1 ev_law (lawH ns) = .nx (env1 r1 r2) (lawHk ns 2) := by
    have c1 := (caE (g := nArgs 2 mf_law_next) (env := ev_law) (h := lawH ns) (consE (fa := fVar 1) (u := .ref (.z .o)) rfl (consE (fa := fCon (.int 4)) (u := .int 4) rfl (g := fNilA) (us := []) rfl))).trans (show _ = R.ok (U.int r1) (lawHk ns 1) from e1)
    have c2 := (caE (g := nArgs 2 mf_law_next) (env := ev_law) (h := lawHk ns 1) (consE (fa := fVar 1) (u := .ref (.z .o)) rfl (consE (fa := fCon (.int 3)) (u := .int 3) rfl (g := fNilA) (us := []) rfl))).trans (show _ = R.ok (U.int r2) (lawHk ns 2) from e2)
    exact parE (consE c1 (consE c2 (g := fNilA) (us := []) rfl))
  unfold fb_law
  rw [seqE s1]
  show lawOk (fSeq fs_law_2 _ (env1 r1 r2) (lawHk ns 2)) = true
  rcases four p0 p1 with z | z | z | z <;> rcases three q0 q1 with y | y | y <;> subst z y
  · exact (congrArg lawOk (s2_0_0 ns _)).trans (tail ns _ _ _ _ _ _ _ _ _ _ _)
  · exact (congrArg lawOk (s2_0_1 ns _)).trans (tail ns _ _ _ _ _ _ _ _ _ _ _)
  · exact (congrArg lawOk (s2_0_2 ns _)).trans (tail ns _ _ _ _ _ _ _ _ _ _ _)
  · exact (congrArg lawOk (s2_1_0 ns _)).trans (tail ns _ _ _ _ _ _ _ _ _ _ _)
  · exact (congrArg lawOk (s2_1_1 ns _)).trans (tail ns _ _ _ _ _ _ _ _ _ _ _)
  · exact (congrArg lawOk (s2_1_2 ns _)).trans (tail ns _ _ _ _ _ _ _ _ _ _ _)
  · exact (congrArg lawOk (s2_2_0 ns _)).trans (tail ns _ _ _ _ _ _ _ _ _ _ _)
  · exact (congrArg lawOk (s2_2_1 ns _)).trans (tail ns _ _ _ _ _ _ _ _ _ _ _)
  · exact (congrArg lawOk (s2_2_2 ns _)).trans (tail ns _ _ _ _ _ _ _ _ _ _ _)
  · exact (congrArg lawOk (s2_3_0 ns _)).trans (tail ns _ _ _ _ _ _ _ _ _ _ _)
  · exact (congrArg lawOk (s2_3_1 ns _)).trans (tail ns _ _ _ _ _ _ _ _ _ _ _)
  · exact (congrArg lawOk (s2_3_2 ns _)).trans (tail ns _ _ _ _ _ _ _ _ _ _ _)
end P03

namespace P03
open PySem L2 VI PyProof.Rows PySem.Calls
section
theorem all_mk {P : Program} {w : World} {K : PySem.W.Frag} {h : Heap} {mg : Str → Option Value} {fa : Addr} (X : K.In h) (G : h.Ns mainGlobals mg) (hfa : mg "law" = some (.ref fa))
    (good : ∀ ns : List Int, ns.length ≤ 63 → lawOk (fb_law ev_law (lawH ns)) = true)
    {f_law : Addr}
    {od_law : Option Addr}
    {an_law : Option Addr}
    {sl_law : Array (Option Value)}
    {oc_law : Value}
    {kV_law : Value}
    {dc_law : Value}
    {pm_law : Value}
    {cd_law : Value}
    {ct_law : Value}
    {f_law_next : Addr}
    {od_law_next : Option Addr}
    {an_law_next : Option Addr}
    {sl_law_next : Array (Option Value)}
    {oc_law_next : Value}
    {kV_law_next : Value}
    {dc_law_next : Value}
    {pm_law_next : Value}
    {cd_law_next : Value}
    {ct_law_next : Value}
    {f_law_cell_at : Addr}
    {od_law_cell_at : Option Addr}
    {an_law_cell_at : Option Addr}
    {sl_law_cell_at : Array (Option Value)}
    {oc_law_cell_at : Value}
    {kV_law_cell_at : Value}
    {dc_law_cell_at : Value}
    {pm_law_cell_at : Value}
    {cd_law_cell_at : Value}
    {ct_law_cell_at : Value}
    {f_law_number : Addr}
    {od_law_number : Option Addr}
    {an_law_number : Option Addr}
    {sl_law_number : Array (Option Value)}
    {oc_law_number : Value}
    {kV_law_number : Value}
    {dc_law_number : Value}
    {pm_law_number : Value}
    {cd_law_number : Value}
    {ct_law_number : Value}
    {f_law_draw : Addr}
    {od_law_draw : Option Addr}
    {an_law_draw : Option Addr}
    {sl_law_draw : Array (Option Value)}
    {oc_law_draw : Value}
    {kV_law_draw : Value}
    {dc_law_draw : Value}
    {pm_law_draw : Value}
    {cd_law_draw : Value}
    {ct_law_draw : Value}
    {f_law_told : Addr}
    {od_law_told : Option Addr}
    {an_law_told : Option Addr}
    {sl_law_told : Array (Option Value)}
    {oc_law_told : Value}
    {kV_law_told : Value}
    {dc_law_told : Value}
    {pm_law_told : Value}
    {cd_law_told : Value}
    {ct_law_told : Value}
    {f_read_script : Addr}
    {od_read_script : Option Addr}
    {an_read_script : Option Addr}
    {sl_read_script : Array (Option Value)}
    {oc_read_script : Value}
    {kV_read_script : Value}
    {dc_read_script : Value}
    {pm_read_script : Value}
    {cd_read_script : Value}
    {ct_read_script : Value}
    {f_BadText_init : Addr}
    {c_BadText : Addr}
    {od_BadText_init : Option Addr}
    {an_BadText_init : Option Addr}
    {sl_BadText_init : Array (Option Value)}
    {oc_BadText_init : Value}
    {kV_BadText_init : Value}
    {dc_BadText_init : Value}
    {pm_BadText_init : Value}
    {cd_BadText_init : Value}
    {ct_BadText_init : Value}
    {c_LeafError : Addr}
    {nm_BadText : Str}
    {q_BadText : Str}
    {N_BadText : Addr}
    {bs_BadText : List Value}
    {bm_BadText : List Value}
    {sn_BadText : List Str}
    {sub_BadText : List Value}
    {ab_BadText : Bool}
    {col_BadText : Option Bool}
    {dd_BadText : Option Addr}
    {m0_BadText : Option Value}
    {m1_BadText : Option Value}
    {m2_BadText : Option Value}
    {m3_BadText : Option Value}
    {m5_BadText : Option Value}
    {f_lines_of : Addr}
    {od_lines_of : Option Addr}
    {an_lines_of : Option Addr}
    {sl_lines_of : Array (Option Value)}
    {oc_lines_of : Value}
    {kV_lines_of : Value}
    {dc_lines_of : Value}
    {pm_lines_of : Value}
    {cd_lines_of : Value}
    {ct_lines_of : Value}
    {f_is_left_out : Addr}
    {od_is_left_out : Option Addr}
    {an_is_left_out : Option Addr}
    {sl_is_left_out : Array (Option Value)}
    {oc_is_left_out : Value}
    {kV_is_left_out : Value}
    {dc_is_left_out : Value}
    {pm_is_left_out : Value}
    {cd_is_left_out : Value}
    {ct_is_left_out : Value}
    {f_Line_init : Addr}
    {c_Line : Addr}
    {od_Line_init : Option Addr}
    {an_Line_init : Option Addr}
    {sl_Line_init : Array (Option Value)}
    {oc_Line_init : Value}
    {kV_Line_init : Value}
    {dc_Line_init : Value}
    {pm_Line_init : Value}
    {cd_Line_init : Value}
    {ct_Line_init : Value}
    {f_pieces_of : Addr}
    {od_pieces_of : Option Addr}
    {an_pieces_of : Option Addr}
    {sl_pieces_of : Array (Option Value)}
    {oc_pieces_of : Value}
    {kV_pieces_of : Value}
    {dc_pieces_of : Value}
    {pm_pieces_of : Value}
    {cd_pieces_of : Value}
    {ct_pieces_of : Value}
    {k_CBLANK : Tok}
    {f_kind_of : Addr}
    {od_kind_of : Option Addr}
    {an_kind_of : Option Addr}
    {sl_kind_of : Array (Option Value)}
    {oc_kind_of : Value}
    {kV_kind_of : Value}
    {dc_kind_of : Value}
    {pm_kind_of : Value}
    {cd_kind_of : Value}
    {ct_kind_of : Value}
    {k_CLETTER : Tok}
    {k_CFIGURE : Tok}
    {k_CSIGN : Tok}
    {f_read_layout : Addr}
    {od_read_layout : Option Addr}
    {an_read_layout : Option Addr}
    {sl_read_layout : Array (Option Value)}
    {oc_read_layout : Value}
    {kV_read_layout : Value}
    {dc_read_layout : Value}
    {pm_read_layout : Value}
    {cd_read_layout : Value}
    {ct_read_layout : Value}
    {f_Line_take_mark : Addr}
    {od_Line_take_mark : Option Addr}
    {an_Line_take_mark : Option Addr}
    {sl_Line_take_mark : Array (Option Value)}
    {oc_Line_take_mark : Value}
    {kV_Line_take_mark : Value}
    {dc_Line_take_mark : Value}
    {pm_Line_take_mark : Value}
    {cd_Line_take_mark : Value}
    {ct_Line_take_mark : Value}
    {f_Line_take : Addr}
    {od_Line_take : Option Addr}
    {an_Line_take : Option Addr}
    {sl_Line_take : Array (Option Value)}
    {oc_Line_take : Value}
    {kV_Line_take : Value}
    {dc_Line_take : Value}
    {pm_Line_take : Value}
    {cd_Line_take : Value}
    {ct_Line_take : Value}
    {f_Line_next_piece : Addr}
    {od_Line_next_piece : Option Addr}
    {an_Line_next_piece : Option Addr}
    {sl_Line_next_piece : Array (Option Value)}
    {oc_Line_next_piece : Value}
    {kV_Line_next_piece : Value}
    {dc_Line_next_piece : Value}
    {pm_Line_next_piece : Value}
    {cd_Line_next_piece : Value}
    {ct_Line_next_piece : Value}
    {f_Line_spot : Addr}
    {od_Line_spot : Option Addr}
    {an_Line_spot : Option Addr}
    {sl_Line_spot : Array (Option Value)}
    {oc_Line_spot : Value}
    {kV_Line_spot : Value}
    {dc_Line_spot : Value}
    {pm_Line_spot : Value}
    {cd_Line_spot : Value}
    {ct_Line_spot : Value}
    {f_Line_take_number : Addr}
    {od_Line_take_number : Option Addr}
    {an_Line_take_number : Option Addr}
    {sl_Line_take_number : Array (Option Value)}
    {oc_Line_take_number : Value}
    {kV_Line_take_number : Value}
    {dc_Line_take_number : Value}
    {pm_Line_take_number : Value}
    {cd_Line_take_number : Value}
    {ct_Line_take_number : Value}
    {f_is_figures : Addr}
    {od_is_figures : Option Addr}
    {an_is_figures : Option Addr}
    {sl_is_figures : Array (Option Value)}
    {oc_is_figures : Value}
    {kV_is_figures : Value}
    {dc_is_figures : Value}
    {pm_is_figures : Value}
    {cd_is_figures : Value}
    {ct_is_figures : Value}
    {f_is_between : Addr}
    {od_is_between : Option Addr}
    {an_is_between : Option Addr}
    {sl_is_between : Array (Option Value)}
    {oc_is_between : Value}
    {kV_is_between : Value}
    {dc_is_between : Value}
    {pm_is_between : Value}
    {cd_is_between : Value}
    {ct_is_between : Value}
    {f_is_integer : Addr}
    {od_is_integer : Option Addr}
    {an_is_integer : Option Addr}
    {sl_is_integer : Array (Option Value)}
    {oc_is_integer : Value}
    {kV_is_integer : Value}
    {dc_is_integer : Value}
    {pm_is_integer : Value}
    {cd_is_integer : Value}
    {ct_is_integer : Value}
    {k_CMOST_LEAVES : Tok}
    {k_CMOST_CELLS : Tok}
    {f_Line_finish : Addr}
    {od_Line_finish : Option Addr}
    {an_Line_finish : Option Addr}
    {sl_Line_finish : Array (Option Value)}
    {oc_Line_finish : Value}
    {kV_Line_finish : Value}
    {dc_Line_finish : Value}
    {pm_Line_finish : Value}
    {cd_Line_finish : Value}
    {ct_Line_finish : Value}
    {k_CMOST_STEPS : Tok}
    {f_read_step : Addr}
    {od_read_step : Option Addr}
    {an_read_step : Option Addr}
    {sl_read_step : Array (Option Value)}
    {oc_read_step : Value}
    {kV_read_step : Value}
    {dc_read_step : Value}
    {pm_read_step : Value}
    {cd_read_step : Value}
    {ct_read_step : Value}
    {x_SHAPES : Addr}
    {xn_SHAPES : Nat}
    {h_SHAPES_0 : Int}
    {kk_SHAPES_0 : Tok}
    {t_SHAPES_0 : Addr}
    {td_SHAPES_0 : Option Addr}
    {tn_SHAPES_0 : Nat}
    {ts_SHAPES_0 : Array (Option Value)}
    {k_SHAPES_0_0 : Tok}
    {h_SHAPES_1 : Int}
    {kk_SHAPES_1 : Tok}
    {t_SHAPES_1 : Addr}
    {td_SHAPES_1 : Option Addr}
    {tn_SHAPES_1 : Nat}
    {ts_SHAPES_1 : Array (Option Value)}
    {k_SHAPES_1_0 : Tok}
    {h_SHAPES_2 : Int}
    {kk_SHAPES_2 : Tok}
    {t_SHAPES_2 : Addr}
    {td_SHAPES_2 : Option Addr}
    {tn_SHAPES_2 : Nat}
    {ts_SHAPES_2 : Array (Option Value)}
    {k_SHAPES_2_0 : Tok}
    {k_SHAPES_2_1 : Tok}
    {h_SHAPES_3 : Int}
    {kk_SHAPES_3 : Tok}
    {t_SHAPES_3 : Addr}
    {td_SHAPES_3 : Option Addr}
    {tn_SHAPES_3 : Nat}
    {ts_SHAPES_3 : Array (Option Value)}
    {k_SHAPES_3_0 : Tok}
    {k_SHAPES_3_1 : Tok}
    {h_SHAPES_4 : Int}
    {kk_SHAPES_4 : Tok}
    {t_SHAPES_4 : Addr}
    {td_SHAPES_4 : Option Addr}
    {tn_SHAPES_4 : Nat}
    {ts_SHAPES_4 : Array (Option Value)}
    {k_SHAPES_4_0 : Tok}
    {k_SHAPES_4_1 : Tok}
    {h_SHAPES_5 : Int}
    {kk_SHAPES_5 : Tok}
    {t_SHAPES_5 : Addr}
    {td_SHAPES_5 : Option Addr}
    {tn_SHAPES_5 : Nat}
    {ts_SHAPES_5 : Array (Option Value)}
    {k_SHAPES_5_0 : Tok}
    {k_SHAPES_5_1 : Tok}
    {k_SHAPES_5_2 : Tok}
    {k_SHAPES_5_3 : Tok}
    {k_SHAPES_5_4 : Tok}
    {h_SHAPES_6 : Int}
    {kk_SHAPES_6 : Tok}
    {t_SHAPES_6 : Addr}
    {td_SHAPES_6 : Option Addr}
    {tn_SHAPES_6 : Nat}
    {ts_SHAPES_6 : Array (Option Value)}
    {k_SHAPES_6_0 : Tok}
    {k_SHAPES_6_1 : Tok}
    {k_SHAPES_6_2 : Tok}
    {h_SHAPES_7 : Int}
    {kk_SHAPES_7 : Tok}
    {t_SHAPES_7 : Addr}
    {td_SHAPES_7 : Option Addr}
    {tn_SHAPES_7 : Nat}
    {ts_SHAPES_7 : Array (Option Value)}
    {k_SHAPES_7_0 : Tok}
    {k_SHAPES_7_1 : Tok}
    {k_SHAPES_7_2 : Tok}
    {k_SHAPES_7_3 : Tok}
    {h_SHAPES_8 : Int}
    {kk_SHAPES_8 : Tok}
    {t_SHAPES_8 : Addr}
    {td_SHAPES_8 : Option Addr}
    {tn_SHAPES_8 : Nat}
    {ts_SHAPES_8 : Array (Option Value)}
    {k_SHAPES_8_0 : Tok}
    {k_SHAPES_8_1 : Tok}
    {k_SHAPES_8_2 : Tok}
    {k_SHAPES_8_3 : Tok}
    {h_SHAPES_9 : Int}
    {kk_SHAPES_9 : Tok}
    {t_SHAPES_9 : Addr}
    {td_SHAPES_9 : Option Addr}
    {tn_SHAPES_9 : Nat}
    {ts_SHAPES_9 : Array (Option Value)}
    {k_SHAPES_9_0 : Tok}
    {k_SHAPES_9_1 : Tok}
    {k_SHAPES_9_2 : Tok}
    {k_SHAPES_9_3 : Tok}
    {h_SHAPES_10 : Int}
    {kk_SHAPES_10 : Tok}
    {t_SHAPES_10 : Addr}
    {td_SHAPES_10 : Option Addr}
    {tn_SHAPES_10 : Nat}
    {ts_SHAPES_10 : Array (Option Value)}
    {k_SHAPES_10_0 : Tok}
    {k_SHAPES_10_1 : Tok}
    {k_SHAPES_10_2 : Tok}
    {f_read_part : Addr}
    {od_read_part : Option Addr}
    {an_read_part : Option Addr}
    {sl_read_part : Array (Option Value)}
    {oc_read_part : Value}
    {kV_read_part : Value}
    {dc_read_part : Value}
    {pm_read_part : Value}
    {cd_read_part : Value}
    {ct_read_part : Value}
    {f_Line_take_word : Addr}
    {od_Line_take_word : Option Addr}
    {an_Line_take_word : Option Addr}
    {sl_Line_take_word : Array (Option Value)}
    {oc_Line_take_word : Value}
    {kV_Line_take_word : Value}
    {dc_Line_take_word : Value}
    {pm_Line_take_word : Value}
    {cd_Line_take_word : Value}
    {ct_Line_take_word : Value}
    {f_is_word : Addr}
    {od_is_word : Option Addr}
    {an_is_word : Option Addr}
    {sl_is_word : Array (Option Value)}
    {oc_is_word : Value}
    {kV_is_word : Value}
    {dc_is_word : Value}
    {pm_is_word : Value}
    {cd_is_word : Value}
    {ct_is_word : Value}
    {k_CMOST_LETTERS : Tok}
    {f_Line_take_one_of : Addr}
    {od_Line_take_one_of : Option Addr}
    {an_Line_take_one_of : Option Addr}
    {sl_Line_take_one_of : Array (Option Value)}
    {oc_Line_take_one_of : Value}
    {kV_Line_take_one_of : Value}
    {dc_Line_take_one_of : Value}
    {pm_Line_take_one_of : Value}
    {cd_Line_take_one_of : Value}
    {ct_Line_take_one_of : Value}
    {t_CRIGHTS : Addr}
    {td_CRIGHTS : Option Addr}
    {tn_CRIGHTS : Nat}
    {ts_CRIGHTS : Array (Option Value)}
    {k_CRIGHTS_0 : Tok}
    {k_CRIGHTS_1 : Tok}
    {f_read_way : Addr}
    {od_read_way : Option Addr}
    {an_read_way : Option Addr}
    {sl_read_way : Array (Option Value)}
    {oc_read_way : Value}
    {kV_read_way : Value}
    {dc_read_way : Value}
    {pm_read_way : Value}
    {cd_read_way : Value}
    {ct_read_way : Value}
    {f_read_total : Addr}
    {od_read_total : Option Addr}
    {an_read_total : Option Addr}
    {sl_read_total : Array (Option Value)}
    {oc_read_total : Value}
    {kV_read_total : Value}
    {dc_read_total : Value}
    {pm_read_total : Value}
    {cd_read_total : Value}
    {ct_read_total : Value}
    {f_read_term : Addr}
    {od_read_term : Option Addr}
    {an_read_term : Option Addr}
    {sl_read_term : Array (Option Value)}
    {oc_read_term : Value}
    {kV_read_term : Value}
    {dc_read_term : Value}
    {pm_read_term : Value}
    {cd_read_term : Value}
    {ct_read_term : Value}
    {f_Line_take_figures : Addr}
    {od_Line_take_figures : Option Addr}
    {an_Line_take_figures : Option Addr}
    {sl_Line_take_figures : Array (Option Value)}
    {oc_Line_take_figures : Value}
    {kV_Line_take_figures : Value}
    {dc_Line_take_figures : Value}
    {pm_Line_take_figures : Value}
    {cd_Line_take_figures : Value}
    {ct_Line_take_figures : Value}
    {x_LIMITS : Addr}
    {xn_LIMITS : Nat}
    {h_LIMITS_0 : Int}
    {kk_LIMITS_0 : Tok}
    {t_LIMITS_0 : Addr}
    {td_LIMITS_0 : Option Addr}
    {tn_LIMITS_0 : Nat}
    {ts_LIMITS_0 : Array (Option Value)}
    {k_LIMITS_0_0 : Tok}
    {k_LIMITS_0_1 : Tok}
    {h_LIMITS_1 : Int}
    {kk_LIMITS_1 : Tok}
    {t_LIMITS_1 : Addr}
    {td_LIMITS_1 : Option Addr}
    {tn_LIMITS_1 : Nat}
    {ts_LIMITS_1 : Array (Option Value)}
    {k_LIMITS_1_0 : Tok}
    {k_LIMITS_1_1 : Tok}
    {h_LIMITS_2 : Int}
    {kk_LIMITS_2 : Tok}
    {t_LIMITS_2 : Addr}
    {td_LIMITS_2 : Option Addr}
    {tn_LIMITS_2 : Nat}
    {ts_LIMITS_2 : Array (Option Value)}
    {k_LIMITS_2_0 : Tok}
    {k_LIMITS_2_1 : Tok}
    {h_LIMITS_3 : Int}
    {kk_LIMITS_3 : Tok}
    {t_LIMITS_3 : Addr}
    {td_LIMITS_3 : Option Addr}
    {tn_LIMITS_3 : Nat}
    {ts_LIMITS_3 : Array (Option Value)}
    {k_LIMITS_3_0 : Tok}
    {k_LIMITS_3_1 : Tok}
    {h_LIMITS_4 : Int}
    {kk_LIMITS_4 : Tok}
    {t_LIMITS_4 : Addr}
    {td_LIMITS_4 : Option Addr}
    {tn_LIMITS_4 : Nat}
    {ts_LIMITS_4 : Array (Option Value)}
    {k_LIMITS_4_0 : Tok}
    {k_LIMITS_4_1 : Tok}
    {f_read_sign : Addr}
    {od_read_sign : Option Addr}
    {an_read_sign : Option Addr}
    {sl_read_sign : Array (Option Value)}
    {oc_read_sign : Value}
    {kV_read_sign : Value}
    {dc_read_sign : Value}
    {pm_read_sign : Value}
    {cd_read_sign : Value}
    {ct_read_sign : Value}
    {k_CMOST_TERMS : Tok}
    {f_Script_init : Addr}
    {c_Script : Addr}
    {od_Script_init : Option Addr}
    {an_Script_init : Option Addr}
    {sl_Script_init : Array (Option Value)}
    {oc_Script_init : Value}
    {kV_Script_init : Value}
    {dc_Script_init : Value}
    {pm_Script_init : Value}
    {cd_Script_init : Value}
    {ct_Script_init : Value}
    {f_is_step : Addr}
    {od_is_step : Option Addr}
    {an_is_step : Option Addr}
    {sl_is_step : Array (Option Value)}
    {oc_is_step : Value}
    {kV_is_step : Value}
    {dc_is_step : Value}
    {pm_is_step : Value}
    {cd_is_step : Value}
    {ct_is_step : Value}
    {f_fits : Addr}
    {od_fits : Option Addr}
    {an_fits : Option Addr}
    {sl_fits : Array (Option Value)}
    {oc_fits : Value}
    {kV_fits : Value}
    {dc_fits : Value}
    {pm_fits : Value}
    {cd_fits : Value}
    {ct_fits : Value}
    {f_is_way : Addr}
    {od_is_way : Option Addr}
    {an_is_way : Option Addr}
    {sl_is_way : Array (Option Value)}
    {oc_is_way : Value}
    {kV_is_way : Value}
    {dc_is_way : Value}
    {pm_is_way : Value}
    {cd_is_way : Value}
    {ct_is_way : Value}
    {f_is_total : Addr}
    {od_is_total : Option Addr}
    {an_is_total : Option Addr}
    {sl_is_total : Array (Option Value)}
    {oc_is_total : Value}
    {kV_is_total : Value}
    {dc_is_total : Value}
    {pm_is_total : Value}
    {cd_is_total : Value}
    {ct_is_total : Value}
    {f_is_term : Addr}
    {od_is_term : Option Addr}
    {an_is_term : Option Addr}
    {sl_is_term : Array (Option Value)}
    {oc_is_term : Value}
    {kV_is_term : Value}
    {dc_is_term : Value}
    {pm_is_term : Value}
    {cd_is_term : Value}
    {ct_is_term : Value}
    {f_Script_eq : Addr}
    {od_Script_eq : Option Addr}
    {an_Script_eq : Option Addr}
    {sl_Script_eq : Array (Option Value)}
    {oc_Script_eq : Value}
    {kV_Script_eq : Value}
    {dc_Script_eq : Value}
    {pm_Script_eq : Value}
    {cd_Script_eq : Value}
    {ct_Script_eq : Value}
    {f_law_pick : Addr}
    {od_law_pick : Option Addr}
    {an_law_pick : Option Addr}
    {sl_law_pick : Array (Option Value)}
    {oc_law_pick : Value}
    {kV_law_pick : Value}
    {dc_law_pick : Value}
    {pm_law_pick : Value}
    {cd_law_pick : Value}
    {ct_law_pick : Value}
    (a_law : PySem.W.nsIn K mainGlobals "law" = some (some (.ref f_law)))
    (l_law : K.lookup f_law = some ⟨oc_law, od_law, .func (PySem.W.fnOf "law" "law" (defArgs s_law) (defBody s_law) (defScope s_law) .none kV_law dc_law pm_law an_law cd_law ct_law), sl_law⟩)
    (co_law : PySem.W.codeIn K cd_law "law" = true)
    (ke_law : PySem.W.keepIn K (.ref f_law) = true)
    (a_law_next : PySem.W.nsIn K mainGlobals "_law_next" = some (some (.ref f_law_next)))
    (l_law_next : K.lookup f_law_next = some ⟨oc_law_next, od_law_next, .func (PySem.W.fnOf "_law_next" "_law_next" (defArgs s_law_next) (defBody s_law_next) (defScope s_law_next) .none kV_law_next dc_law_next pm_law_next an_law_next cd_law_next ct_law_next), sl_law_next⟩)
    (co_law_next : PySem.W.codeIn K cd_law_next "_law_next" = true)
    (ke_law_next : PySem.W.keepIn K (.ref f_law_next) = true)
    (a_law_cell_at : PySem.W.nsIn K mainGlobals "_law_cell_at" = some (some (.ref f_law_cell_at)))
    (l_law_cell_at : K.lookup f_law_cell_at = some ⟨oc_law_cell_at, od_law_cell_at, .func (PySem.W.fnOf "_law_cell_at" "_law_cell_at" (defArgs s_law_cell_at) (defBody s_law_cell_at) (defScope s_law_cell_at) .none kV_law_cell_at dc_law_cell_at pm_law_cell_at an_law_cell_at cd_law_cell_at ct_law_cell_at), sl_law_cell_at⟩)
    (co_law_cell_at : PySem.W.codeIn K cd_law_cell_at "_law_cell_at" = true)
    (ke_law_cell_at : PySem.W.keepIn K (.ref f_law_cell_at) = true)
    (z_len : PySem.W.nsIn K mainGlobals "len" = some none)
    (a_law_number : PySem.W.nsIn K mainGlobals "_law_number" = some (some (.ref f_law_number)))
    (l_law_number : K.lookup f_law_number = some ⟨oc_law_number, od_law_number, .func (PySem.W.fnOf "_law_number" "_law_number" (defArgs s_law_number) (defBody s_law_number) (defScope s_law_number) .none kV_law_number dc_law_number pm_law_number an_law_number cd_law_number ct_law_number), sl_law_number⟩)
    (co_law_number : PySem.W.codeIn K cd_law_number "_law_number" = true)
    (ke_law_number : PySem.W.keepIn K (.ref f_law_number) = true)
    (z_int : PySem.W.nsIn K mainGlobals "int" = some none)
    (z_range : PySem.W.nsIn K mainGlobals "range" = some none)
    (a_law_draw : PySem.W.nsIn K mainGlobals "_law_draw" = some (some (.ref f_law_draw)))
    (l_law_draw : K.lookup f_law_draw = some ⟨oc_law_draw, od_law_draw, .func (PySem.W.fnOf "_law_draw" "_law_draw" (defArgs s_law_draw) (defBody s_law_draw) (defScope s_law_draw) .none kV_law_draw dc_law_draw pm_law_draw an_law_draw cd_law_draw ct_law_draw), sl_law_draw⟩)
    (co_law_draw : PySem.W.codeIn K cd_law_draw "_law_draw" = true)
    (ke_law_draw : PySem.W.keepIn K (.ref f_law_draw) = true)
    (a_law_told : PySem.W.nsIn K mainGlobals "_law_told" = some (some (.ref f_law_told)))
    (l_law_told : K.lookup f_law_told = some ⟨oc_law_told, od_law_told, .func (PySem.W.fnOf "_law_told" "_law_told" (defArgs s_law_told) (defBody s_law_told) (defScope s_law_told) .none kV_law_told dc_law_told pm_law_told an_law_told cd_law_told ct_law_told), sl_law_told⟩)
    (co_law_told : PySem.W.codeIn K cd_law_told "_law_told" = true)
    (ke_law_told : PySem.W.keepIn K (.ref f_law_told) = true)
    (a_read_script : PySem.W.nsIn K mainGlobals "read_script" = some (some (.ref f_read_script)))
    (l_read_script : K.lookup f_read_script = some ⟨oc_read_script, od_read_script, .func (PySem.W.fnOf "read_script" "read_script" (defArgs s_read_script) (defBody s_read_script) (defScope s_read_script) .none kV_read_script dc_read_script pm_read_script an_read_script cd_read_script ct_read_script), sl_read_script⟩)
    (co_read_script : PySem.W.codeIn K cd_read_script "read_script" = true)
    (ke_read_script : PySem.W.keepIn K (.ref f_read_script) = true)
    (z_isinstance : PySem.W.nsIn K mainGlobals "isinstance" = some none)
    (z_str : PySem.W.nsIn K mainGlobals "str" = some none)
    (a_BadText : PySem.W.nsIn K mainGlobals "BadText" = some (some (.ref c_BadText)))
    (a_BadText_init : PySem.W.findIn K (.ref c_BadText) "__init__" = some (some (.ref f_BadText_init)))
    (l_BadText_init : K.lookup f_BadText_init = some ⟨oc_BadText_init, od_BadText_init, .func (PySem.W.fnOf "__init__" "BadText.__init__" (defArgs s_BadText_init) (defBody s_BadText_init) (defScope s_BadText_init) .none kV_BadText_init dc_BadText_init pm_BadText_init an_BadText_init cd_BadText_init ct_BadText_init), sl_BadText_init⟩)
    (co_BadText_init : PySem.W.codeIn K cd_BadText_init "BadText.__init__" = true)
    (ke_BadText_init : PySem.W.keepIn K (.ref f_BadText_init) = true)
    (a_LeafError : PySem.W.nsIn K mainGlobals "LeafError" = some (some (.ref c_LeafError)))
    (xl_BadText : K.lookup c_BadText = some (excClassObj nm_BadText q_BadText c_BadText N_BadText bs_BadText bm_BadText true sn_BadText sub_BadText ab_BadText col_BadText dd_BadText m0_BadText m1_BadText m2_BadText m3_BadText m5_BadText "ValueError.__new__"))
    (rv_BadText : HandSPX.refsVE bm_BadText = true)
    (sa_BadText : PySem.W.findIn K (.ref c_BadText) "__setattr__" = some (some (.builtin "object.__setattr__")))
    (ec_BadText : PySem.W.subIn K (.ref c_BadText) (.type "BaseException") = some true)
    (tc_BadText : PySem.W.typeIn K (.ref c_BadText) = some (.type "type"))
    (kp_BadText : PySem.W.keepIn K (.ref c_BadText) = true)
    (ty_BadText_init : PySem.W.typeIn K (.ref f_BadText_init) = some (.type "function"))
    (no_BadText_line : PySem.W.findIn K (.ref c_BadText) "line" = some none)
    (no_BadText_column : PySem.W.findIn K (.ref c_BadText) "column" = some none)
    (rd_LeafError : PySem.W.readsIn K c_LeafError (.type "type") = true)
    (rg_LeafError : PySem.W.specialIn K (.ref c_LeafError) "__getattribute__" = some (some (.builtin "type.__getattribute__")))
    (ri_LeafError : PySem.W.findCls K (.ref c_LeafError) (.type "type") "__init__" = some (.val (.builtin "ValueError.__init__")))
    (a_lines_of : PySem.W.nsIn K mainGlobals "lines_of" = some (some (.ref f_lines_of)))
    (l_lines_of : K.lookup f_lines_of = some ⟨oc_lines_of, od_lines_of, .func (PySem.W.fnOf "lines_of" "lines_of" (defArgs s_lines_of) (defBody s_lines_of) (defScope s_lines_of) .none kV_lines_of dc_lines_of pm_lines_of an_lines_of cd_lines_of ct_lines_of), sl_lines_of⟩)
    (co_lines_of : PySem.W.codeIn K cd_lines_of "lines_of" = true)
    (ke_lines_of : PySem.W.keepIn K (.ref f_lines_of) = true)
    (z_enumerate : PySem.W.nsIn K mainGlobals "enumerate" = some none)
    (a_is_left_out : PySem.W.nsIn K mainGlobals "is_left_out" = some (some (.ref f_is_left_out)))
    (l_is_left_out : K.lookup f_is_left_out = some ⟨oc_is_left_out, od_is_left_out, .func (PySem.W.fnOf "is_left_out" "is_left_out" (defArgs s_is_left_out) (defBody s_is_left_out) (defScope s_is_left_out) .none kV_is_left_out dc_is_left_out pm_is_left_out an_is_left_out cd_is_left_out ct_is_left_out), sl_is_left_out⟩)
    (co_is_left_out : PySem.W.codeIn K cd_is_left_out "is_left_out" = true)
    (ke_is_left_out : PySem.W.keepIn K (.ref f_is_left_out) = true)
    (a_Line : PySem.W.nsIn K mainGlobals "Line" = some (some (.ref c_Line)))
    (a_Line_init : PySem.W.findIn K (.ref c_Line) "__init__" = some (some (.ref f_Line_init)))
    (l_Line_init : K.lookup f_Line_init = some ⟨oc_Line_init, od_Line_init, .func (PySem.W.fnOf "__init__" "Line.__init__" (defArgs s_Line_init) (defBody s_Line_init) (defScope s_Line_init) .none kV_Line_init dc_Line_init pm_Line_init an_Line_init cd_Line_init ct_Line_init), sl_Line_init⟩)
    (co_Line_init : PySem.W.codeIn K cd_Line_init "Line.__init__" = true)
    (ke_Line_init : PySem.W.keepIn K (.ref f_Line_init) = true)
    (pg_Line : PySem.W.plainGet K c_Line Str.empty = true)
    (hd_Line : PySem.W.hasDictIn K c_Line = true)
    (po_Line : PySem.W.plainOver K c_Line = true)
    (sa_Line : PySem.W.findIn K (.ref c_Line) "__setattr__" = some (some (.builtin "object.__setattr__")))
    (no_Line_place : PySem.W.findIn K (.ref c_Line) "place" = some none)
    (a_pieces_of : PySem.W.nsIn K mainGlobals "pieces_of" = some (some (.ref f_pieces_of)))
    (l_pieces_of : K.lookup f_pieces_of = some ⟨oc_pieces_of, od_pieces_of, .func (PySem.W.fnOf "pieces_of" "pieces_of" (defArgs s_pieces_of) (defBody s_pieces_of) (defScope s_pieces_of) .none kV_pieces_of dc_pieces_of pm_pieces_of an_pieces_of cd_pieces_of ct_pieces_of), sl_pieces_of⟩)
    (co_pieces_of : PySem.W.codeIn K cd_pieces_of "pieces_of" = true)
    (ke_pieces_of : PySem.W.keepIn K (.ref f_pieces_of) = true)
    (a_BLANK : PySem.W.nsIn K mainGlobals "BLANK" = some (some (.str (strV [98, 108, 97, 110, 107]) k_CBLANK)))
    (a_kind_of : PySem.W.nsIn K mainGlobals "kind_of" = some (some (.ref f_kind_of)))
    (l_kind_of : K.lookup f_kind_of = some ⟨oc_kind_of, od_kind_of, .func (PySem.W.fnOf "kind_of" "kind_of" (defArgs s_kind_of) (defBody s_kind_of) (defScope s_kind_of) .none kV_kind_of dc_kind_of pm_kind_of an_kind_of cd_kind_of ct_kind_of), sl_kind_of⟩)
    (co_kind_of : PySem.W.codeIn K cd_kind_of "kind_of" = true)
    (ke_kind_of : PySem.W.keepIn K (.ref f_kind_of) = true)
    (a_LETTER : PySem.W.nsIn K mainGlobals "LETTER" = some (some (.str (strV [108, 101, 116, 116, 101, 114]) k_CLETTER)))
    (a_FIGURE : PySem.W.nsIn K mainGlobals "FIGURE" = some (some (.str (strV [102, 105, 103, 117, 114, 101]) k_CFIGURE)))
    (a_SIGN : PySem.W.nsIn K mainGlobals "SIGN" = some (some (.str (strV [115, 105, 103, 110]) k_CSIGN)))
    (no_Line_pieces : PySem.W.findIn K (.ref c_Line) "pieces" = some none)
    (no_Line_behind : PySem.W.findIn K (.ref c_Line) "behind" = some none)
    (no_Line_at : PySem.W.findIn K (.ref c_Line) "at" = some none)
    (if_Line_init : PySem.W.isFn K (.ref f_Line_init) = true)
    (mk_Line : PySem.W.makesIn K c_Line = true)
    (kp_Line : PySem.W.keepIn K (.ref c_Line) = true)
    (a_read_layout : PySem.W.nsIn K mainGlobals "read_layout" = some (some (.ref f_read_layout)))
    (l_read_layout : K.lookup f_read_layout = some ⟨oc_read_layout, od_read_layout, .func (PySem.W.fnOf "read_layout" "read_layout" (defArgs s_read_layout) (defBody s_read_layout) (defScope s_read_layout) .none kV_read_layout dc_read_layout pm_read_layout an_read_layout cd_read_layout ct_read_layout), sl_read_layout⟩)
    (co_read_layout : PySem.W.codeIn K cd_read_layout "read_layout" = true)
    (ke_read_layout : PySem.W.keepIn K (.ref f_read_layout) = true)
    (a_Line_take_mark : PySem.W.findIn K (.ref c_Line) "take_mark" = some (some (.ref f_Line_take_mark)))
    (l_Line_take_mark : K.lookup f_Line_take_mark = some ⟨oc_Line_take_mark, od_Line_take_mark, .func (PySem.W.fnOf "take_mark" "Line.take_mark" (defArgs s_Line_take_mark) (defBody s_Line_take_mark) (defScope s_Line_take_mark) .none kV_Line_take_mark dc_Line_take_mark pm_Line_take_mark an_Line_take_mark cd_Line_take_mark ct_Line_take_mark), sl_Line_take_mark⟩)
    (co_Line_take_mark : PySem.W.codeIn K cd_Line_take_mark "Line.take_mark" = true)
    (ke_Line_take_mark : PySem.W.keepIn K (.ref f_Line_take_mark) = true)
    (a_Line_take : PySem.W.findIn K (.ref c_Line) "take" = some (some (.ref f_Line_take)))
    (l_Line_take : K.lookup f_Line_take = some ⟨oc_Line_take, od_Line_take, .func (PySem.W.fnOf "take" "Line.take" (defArgs s_Line_take) (defBody s_Line_take) (defScope s_Line_take) .none kV_Line_take dc_Line_take pm_Line_take an_Line_take cd_Line_take ct_Line_take), sl_Line_take⟩)
    (co_Line_take : PySem.W.codeIn K cd_Line_take "Line.take" = true)
    (ke_Line_take : PySem.W.keepIn K (.ref f_Line_take) = true)
    (a_Line_next_piece : PySem.W.findIn K (.ref c_Line) "next_piece" = some (some (.ref f_Line_next_piece)))
    (l_Line_next_piece : K.lookup f_Line_next_piece = some ⟨oc_Line_next_piece, od_Line_next_piece, .func (PySem.W.fnOf "next_piece" "Line.next_piece" (defArgs s_Line_next_piece) (defBody s_Line_next_piece) (defScope s_Line_next_piece) .none kV_Line_next_piece dc_Line_next_piece pm_Line_next_piece an_Line_next_piece cd_Line_next_piece ct_Line_next_piece), sl_Line_next_piece⟩)
    (co_Line_next_piece : PySem.W.codeIn K cd_Line_next_piece "Line.next_piece" = true)
    (ke_Line_next_piece : PySem.W.keepIn K (.ref f_Line_next_piece) = true)
    (if_Line_next_piece : PySem.W.isFn K (.ref f_Line_next_piece) = true)
    (a_Line_spot : PySem.W.findIn K (.ref c_Line) "spot" = some (some (.ref f_Line_spot)))
    (l_Line_spot : K.lookup f_Line_spot = some ⟨oc_Line_spot, od_Line_spot, .func (PySem.W.fnOf "spot" "Line.spot" (defArgs s_Line_spot) (defBody s_Line_spot) (defScope s_Line_spot) .none kV_Line_spot dc_Line_spot pm_Line_spot an_Line_spot cd_Line_spot ct_Line_spot), sl_Line_spot⟩)
    (co_Line_spot : PySem.W.codeIn K cd_Line_spot "Line.spot" = true)
    (ke_Line_spot : PySem.W.keepIn K (.ref f_Line_spot) = true)
    (if_Line_spot : PySem.W.isFn K (.ref f_Line_spot) = true)
    (if_Line_take : PySem.W.isFn K (.ref f_Line_take) = true)
    (if_Line_take_mark : PySem.W.isFn K (.ref f_Line_take_mark) = true)
    (a_Line_take_number : PySem.W.findIn K (.ref c_Line) "take_number" = some (some (.ref f_Line_take_number)))
    (l_Line_take_number : K.lookup f_Line_take_number = some ⟨oc_Line_take_number, od_Line_take_number, .func (PySem.W.fnOf "take_number" "Line.take_number" (defArgs s_Line_take_number) (defBody s_Line_take_number) (defScope s_Line_take_number) .none kV_Line_take_number dc_Line_take_number pm_Line_take_number an_Line_take_number cd_Line_take_number ct_Line_take_number), sl_Line_take_number⟩)
    (co_Line_take_number : PySem.W.codeIn K cd_Line_take_number "Line.take_number" = true)
    (ke_Line_take_number : PySem.W.keepIn K (.ref f_Line_take_number) = true)
    (a_is_figures : PySem.W.nsIn K mainGlobals "is_figures" = some (some (.ref f_is_figures)))
    (l_is_figures : K.lookup f_is_figures = some ⟨oc_is_figures, od_is_figures, .func (PySem.W.fnOf "is_figures" "is_figures" (defArgs s_is_figures) (defBody s_is_figures) (defScope s_is_figures) .none kV_is_figures dc_is_figures pm_is_figures an_is_figures cd_is_figures ct_is_figures), sl_is_figures⟩)
    (co_is_figures : PySem.W.codeIn K cd_is_figures "is_figures" = true)
    (ke_is_figures : PySem.W.keepIn K (.ref f_is_figures) = true)
    (a_is_between : PySem.W.nsIn K mainGlobals "is_between" = some (some (.ref f_is_between)))
    (l_is_between : K.lookup f_is_between = some ⟨oc_is_between, od_is_between, .func (PySem.W.fnOf "is_between" "is_between" (defArgs s_is_between) (defBody s_is_between) (defScope s_is_between) .none kV_is_between dc_is_between pm_is_between an_is_between cd_is_between ct_is_between), sl_is_between⟩)
    (co_is_between : PySem.W.codeIn K cd_is_between "is_between" = true)
    (ke_is_between : PySem.W.keepIn K (.ref f_is_between) = true)
    (a_is_integer : PySem.W.nsIn K mainGlobals "is_integer" = some (some (.ref f_is_integer)))
    (l_is_integer : K.lookup f_is_integer = some ⟨oc_is_integer, od_is_integer, .func (PySem.W.fnOf "is_integer" "is_integer" (defArgs s_is_integer) (defBody s_is_integer) (defScope s_is_integer) .none kV_is_integer dc_is_integer pm_is_integer an_is_integer cd_is_integer ct_is_integer), sl_is_integer⟩)
    (co_is_integer : PySem.W.codeIn K cd_is_integer "is_integer" = true)
    (ke_is_integer : PySem.W.keepIn K (.ref f_is_integer) = true)
    (z_bool : PySem.W.nsIn K mainGlobals "bool" = some none)
    (if_Line_take_number : PySem.W.isFn K (.ref f_Line_take_number) = true)
    (a_MOST_LEAVES : PySem.W.nsIn K mainGlobals "MOST_LEAVES" = some (some (.int 64 k_CMOST_LEAVES)))
    (a_MOST_CELLS : PySem.W.nsIn K mainGlobals "MOST_CELLS" = some (some (.int 4 k_CMOST_CELLS)))
    (a_Line_finish : PySem.W.findIn K (.ref c_Line) "finish" = some (some (.ref f_Line_finish)))
    (l_Line_finish : K.lookup f_Line_finish = some ⟨oc_Line_finish, od_Line_finish, .func (PySem.W.fnOf "finish" "Line.finish" (defArgs s_Line_finish) (defBody s_Line_finish) (defScope s_Line_finish) .none kV_Line_finish dc_Line_finish pm_Line_finish an_Line_finish cd_Line_finish ct_Line_finish), sl_Line_finish⟩)
    (co_Line_finish : PySem.W.codeIn K cd_Line_finish "Line.finish" = true)
    (ke_Line_finish : PySem.W.keepIn K (.ref f_Line_finish) = true)
    (if_Line_finish : PySem.W.isFn K (.ref f_Line_finish) = true)
    (a_MOST_STEPS : PySem.W.nsIn K mainGlobals "MOST_STEPS" = some (some (.int 300 k_CMOST_STEPS)))
    (a_read_step : PySem.W.nsIn K mainGlobals "read_step" = some (some (.ref f_read_step)))
    (l_read_step : K.lookup f_read_step = some ⟨oc_read_step, od_read_step, .func (PySem.W.fnOf "read_step" "read_step" (defArgs s_read_step) (defBody s_read_step) (defScope s_read_step) .none kV_read_step dc_read_step pm_read_step an_read_step cd_read_step ct_read_step), sl_read_step⟩)
    (co_read_step : PySem.W.codeIn K cd_read_step "read_step" = true)
    (ke_read_step : PySem.W.keepIn K (.ref f_read_step) = true)
    (a_SHAPES : PySem.W.nsIn K mainGlobals "SHAPES" = some (some (.ref x_SHAPES)))
    (xl_SHAPES : K.lookup x_SHAPES = some { cls := .type "dict", data := .dict #[⟨h_SHAPES_0, .str (strV [116, 97, 115, 107]) kk_SHAPES_0, .ref t_SHAPES_0⟩, ⟨h_SHAPES_1, .str (strV [101, 110, 100]) kk_SHAPES_1, .ref t_SHAPES_1⟩, ⟨h_SHAPES_2, .str (strV [102, 111, 114, 107]) kk_SHAPES_2, .ref t_SHAPES_2⟩, ⟨h_SHAPES_3, .str (strV [102, 105, 108, 101]) kk_SHAPES_3, .ref t_SHAPES_3⟩, ⟨h_SHAPES_4, .str (strV [99, 117, 116]) kk_SHAPES_4, .ref t_SHAPES_4⟩, ⟨h_SHAPES_5, .str (strV [109, 97, 112]) kk_SHAPES_5, .ref t_SHAPES_5⟩, ⟨h_SHAPES_6, .str (strV [117, 110, 109, 97, 112]) kk_SHAPES_6, .ref t_SHAPES_6⟩, ⟨h_SHAPES_7, .str (strV [103, 117, 97, 114, 100]) kk_SHAPES_7, .ref t_SHAPES_7⟩, ⟨h_SHAPES_8, .str (strV [109, 111, 118, 101]) kk_SHAPES_8, .ref t_SHAPES_8⟩, ⟨h_SHAPES_9, .str (strV [112, 117, 116]) kk_SHAPES_9, .ref t_SHAPES_9⟩, ⟨h_SHAPES_10, .str (strV [115, 104, 111, 119]) kk_SHAPES_10, .ref t_SHAPES_10⟩] xn_SHAPES })
    (tl_SHAPES_0 : K.lookup t_SHAPES_0 = some ⟨.type "tuple", td_SHAPES_0, .seq #[.str (strV [119, 111, 114, 100]) k_SHAPES_0_0] tn_SHAPES_0, ts_SHAPES_0⟩)
    (tl_SHAPES_1 : K.lookup t_SHAPES_1 = some ⟨.type "tuple", td_SHAPES_1, .seq #[.str (strV [119, 111, 114, 100]) k_SHAPES_1_0] tn_SHAPES_1, ts_SHAPES_1⟩)
    (tl_SHAPES_2 : K.lookup t_SHAPES_2 = some ⟨.type "tuple", td_SHAPES_2, .seq #[.str (strV [119, 111, 114, 100]) k_SHAPES_2_0, .str (strV [119, 111, 114, 100]) k_SHAPES_2_1] tn_SHAPES_2, ts_SHAPES_2⟩)
    (tl_SHAPES_3 : K.lookup t_SHAPES_3 = some ⟨.type "tuple", td_SHAPES_3, .seq #[.str (strV [119, 111, 114, 100]) k_SHAPES_3_0, .str (strV [115, 105, 122, 101]) k_SHAPES_3_1] tn_SHAPES_3, ts_SHAPES_3⟩)
    (tl_SHAPES_4 : K.lookup t_SHAPES_4 = some ⟨.type "tuple", td_SHAPES_4, .seq #[.str (strV [119, 111, 114, 100]) k_SHAPES_4_0, .str (strV [115, 105, 122, 101]) k_SHAPES_4_1] tn_SHAPES_4, ts_SHAPES_4⟩)
    (tl_SHAPES_5 : K.lookup t_SHAPES_5 = some ⟨.type "tuple", td_SHAPES_5, .seq #[.str (strV [119, 111, 114, 100]) k_SHAPES_5_0, .str (strV [110, 117, 109, 98, 101, 114]) k_SHAPES_5_1, .str (strV [109, 97, 110, 121]) k_SHAPES_5_2, .str (strV [119, 97, 121]) k_SHAPES_5_3, .str (strV [114, 105, 103, 104, 116, 115]) k_SHAPES_5_4] tn_SHAPES_5, ts_SHAPES_5⟩)
    (tl_SHAPES_6 : K.lookup t_SHAPES_6 = some ⟨.type "tuple", td_SHAPES_6, .seq #[.str (strV [119, 111, 114, 100]) k_SHAPES_6_0, .str (strV [110, 117, 109, 98, 101, 114]) k_SHAPES_6_1, .str (strV [109, 97, 110, 121]) k_SHAPES_6_2] tn_SHAPES_6, ts_SHAPES_6⟩)
    (tl_SHAPES_7 : K.lookup t_SHAPES_7 = some ⟨.type "tuple", td_SHAPES_7, .seq #[.str (strV [119, 111, 114, 100]) k_SHAPES_7_0, .str (strV [110, 117, 109, 98, 101, 114]) k_SHAPES_7_1, .str (strV [109, 97, 110, 121]) k_SHAPES_7_2, .str (strV [114, 105, 103, 104, 116, 115]) k_SHAPES_7_3] tn_SHAPES_7, ts_SHAPES_7⟩)
    (tl_SHAPES_8 : K.lookup t_SHAPES_8 = some ⟨.type "tuple", td_SHAPES_8, .seq #[.str (strV [119, 111, 114, 100]) k_SHAPES_8_0, .str (strV [110, 117, 109, 98, 101, 114]) k_SHAPES_8_1, .str (strV [109, 97, 110, 121]) k_SHAPES_8_2, .str (strV [103, 111, 97, 108]) k_SHAPES_8_3] tn_SHAPES_8, ts_SHAPES_8⟩)
    (tl_SHAPES_9 : K.lookup t_SHAPES_9 = some ⟨.type "tuple", td_SHAPES_9, .seq #[.str (strV [119, 111, 114, 100]) k_SHAPES_9_0, .str (strV [110, 117, 109, 98, 101, 114]) k_SHAPES_9_1, .str (strV [99, 101, 108, 108]) k_SHAPES_9_2, .str (strV [116, 111, 116, 97, 108]) k_SHAPES_9_3] tn_SHAPES_9, ts_SHAPES_9⟩)
    (tl_SHAPES_10 : K.lookup t_SHAPES_10 = some ⟨.type "tuple", td_SHAPES_10, .seq #[.str (strV [119, 111, 114, 100]) k_SHAPES_10_0, .str (strV [110, 117, 109, 98, 101, 114]) k_SHAPES_10_1, .str (strV [99, 101, 108, 108]) k_SHAPES_10_2] tn_SHAPES_10, ts_SHAPES_10⟩)
    (xk_SHAPES : PySem.W.KeysLit w.params [⟨h_SHAPES_0, .str (strV [116, 97, 115, 107]) kk_SHAPES_0, .ref t_SHAPES_0⟩, ⟨h_SHAPES_1, .str (strV [101, 110, 100]) kk_SHAPES_1, .ref t_SHAPES_1⟩, ⟨h_SHAPES_2, .str (strV [102, 111, 114, 107]) kk_SHAPES_2, .ref t_SHAPES_2⟩, ⟨h_SHAPES_3, .str (strV [102, 105, 108, 101]) kk_SHAPES_3, .ref t_SHAPES_3⟩, ⟨h_SHAPES_4, .str (strV [99, 117, 116]) kk_SHAPES_4, .ref t_SHAPES_4⟩, ⟨h_SHAPES_5, .str (strV [109, 97, 112]) kk_SHAPES_5, .ref t_SHAPES_5⟩, ⟨h_SHAPES_6, .str (strV [117, 110, 109, 97, 112]) kk_SHAPES_6, .ref t_SHAPES_6⟩, ⟨h_SHAPES_7, .str (strV [103, 117, 97, 114, 100]) kk_SHAPES_7, .ref t_SHAPES_7⟩, ⟨h_SHAPES_8, .str (strV [109, 111, 118, 101]) kk_SHAPES_8, .ref t_SHAPES_8⟩, ⟨h_SHAPES_9, .str (strV [112, 117, 116]) kk_SHAPES_9, .ref t_SHAPES_9⟩, ⟨h_SHAPES_10, .str (strV [115, 104, 111, 119]) kk_SHAPES_10, .ref t_SHAPES_10⟩])
    (xs_SHAPES : (x_SHAPES == sysModules) = false)
    (a_read_part : PySem.W.nsIn K mainGlobals "read_part" = some (some (.ref f_read_part)))
    (l_read_part : K.lookup f_read_part = some ⟨oc_read_part, od_read_part, .func (PySem.W.fnOf "read_part" "read_part" (defArgs s_read_part) (defBody s_read_part) (defScope s_read_part) .none kV_read_part dc_read_part pm_read_part an_read_part cd_read_part ct_read_part), sl_read_part⟩)
    (co_read_part : PySem.W.codeIn K cd_read_part "read_part" = true)
    (ke_read_part : PySem.W.keepIn K (.ref f_read_part) = true)
    (a_Line_take_word : PySem.W.findIn K (.ref c_Line) "take_word" = some (some (.ref f_Line_take_word)))
    (l_Line_take_word : K.lookup f_Line_take_word = some ⟨oc_Line_take_word, od_Line_take_word, .func (PySem.W.fnOf "take_word" "Line.take_word" (defArgs s_Line_take_word) (defBody s_Line_take_word) (defScope s_Line_take_word) .none kV_Line_take_word dc_Line_take_word pm_Line_take_word an_Line_take_word cd_Line_take_word ct_Line_take_word), sl_Line_take_word⟩)
    (co_Line_take_word : PySem.W.codeIn K cd_Line_take_word "Line.take_word" = true)
    (ke_Line_take_word : PySem.W.keepIn K (.ref f_Line_take_word) = true)
    (a_is_word : PySem.W.nsIn K mainGlobals "is_word" = some (some (.ref f_is_word)))
    (l_is_word : K.lookup f_is_word = some ⟨oc_is_word, od_is_word, .func (PySem.W.fnOf "is_word" "is_word" (defArgs s_is_word) (defBody s_is_word) (defScope s_is_word) .none kV_is_word dc_is_word pm_is_word an_is_word cd_is_word ct_is_word), sl_is_word⟩)
    (co_is_word : PySem.W.codeIn K cd_is_word "is_word" = true)
    (ke_is_word : PySem.W.keepIn K (.ref f_is_word) = true)
    (a_MOST_LETTERS : PySem.W.nsIn K mainGlobals "MOST_LETTERS" = some (some (.int 8 k_CMOST_LETTERS)))
    (z_all : PySem.W.nsIn K mainGlobals "all" = some none)
    (if_Line_take_word : PySem.W.isFn K (.ref f_Line_take_word) = true)
    (a_Line_take_one_of : PySem.W.findIn K (.ref c_Line) "take_one_of" = some (some (.ref f_Line_take_one_of)))
    (l_Line_take_one_of : K.lookup f_Line_take_one_of = some ⟨oc_Line_take_one_of, od_Line_take_one_of, .func (PySem.W.fnOf "take_one_of" "Line.take_one_of" (defArgs s_Line_take_one_of) (defBody s_Line_take_one_of) (defScope s_Line_take_one_of) .none kV_Line_take_one_of dc_Line_take_one_of pm_Line_take_one_of an_Line_take_one_of cd_Line_take_one_of ct_Line_take_one_of), sl_Line_take_one_of⟩)
    (co_Line_take_one_of : PySem.W.codeIn K cd_Line_take_one_of "Line.take_one_of" = true)
    (ke_Line_take_one_of : PySem.W.keepIn K (.ref f_Line_take_one_of) = true)
    (if_Line_take_one_of : PySem.W.isFn K (.ref f_Line_take_one_of) = true)
    (a_RIGHTS : PySem.W.nsIn K mainGlobals "RIGHTS" = some (some (.ref t_CRIGHTS)))
    (tl_CRIGHTS : K.lookup t_CRIGHTS = some ⟨.type "tuple", td_CRIGHTS, .seq #[.str (strV [114]) k_CRIGHTS_0, .str (strV [114, 119]) k_CRIGHTS_1] tn_CRIGHTS, ts_CRIGHTS⟩)
    (a_read_way : PySem.W.nsIn K mainGlobals "read_way" = some (some (.ref f_read_way)))
    (l_read_way : K.lookup f_read_way = some ⟨oc_read_way, od_read_way, .func (PySem.W.fnOf "read_way" "read_way" (defArgs s_read_way) (defBody s_read_way) (defScope s_read_way) .none kV_read_way dc_read_way pm_read_way an_read_way cd_read_way ct_read_way), sl_read_way⟩)
    (co_read_way : PySem.W.codeIn K cd_read_way "read_way" = true)
    (ke_read_way : PySem.W.keepIn K (.ref f_read_way) = true)
    (a_read_total : PySem.W.nsIn K mainGlobals "read_total" = some (some (.ref f_read_total)))
    (l_read_total : K.lookup f_read_total = some ⟨oc_read_total, od_read_total, .func (PySem.W.fnOf "read_total" "read_total" (defArgs s_read_total) (defBody s_read_total) (defScope s_read_total) .none kV_read_total dc_read_total pm_read_total an_read_total cd_read_total ct_read_total), sl_read_total⟩)
    (co_read_total : PySem.W.codeIn K cd_read_total "read_total" = true)
    (ke_read_total : PySem.W.keepIn K (.ref f_read_total) = true)
    (a_read_term : PySem.W.nsIn K mainGlobals "read_term" = some (some (.ref f_read_term)))
    (l_read_term : K.lookup f_read_term = some ⟨oc_read_term, od_read_term, .func (PySem.W.fnOf "read_term" "read_term" (defArgs s_read_term) (defBody s_read_term) (defScope s_read_term) .none kV_read_term dc_read_term pm_read_term an_read_term cd_read_term ct_read_term), sl_read_term⟩)
    (co_read_term : PySem.W.codeIn K cd_read_term "read_term" = true)
    (ke_read_term : PySem.W.keepIn K (.ref f_read_term) = true)
    (a_Line_take_figures : PySem.W.findIn K (.ref c_Line) "take_figures" = some (some (.ref f_Line_take_figures)))
    (l_Line_take_figures : K.lookup f_Line_take_figures = some ⟨oc_Line_take_figures, od_Line_take_figures, .func (PySem.W.fnOf "take_figures" "Line.take_figures" (defArgs s_Line_take_figures) (defBody s_Line_take_figures) (defScope s_Line_take_figures) .none kV_Line_take_figures dc_Line_take_figures pm_Line_take_figures an_Line_take_figures cd_Line_take_figures ct_Line_take_figures), sl_Line_take_figures⟩)
    (co_Line_take_figures : PySem.W.codeIn K cd_Line_take_figures "Line.take_figures" = true)
    (ke_Line_take_figures : PySem.W.keepIn K (.ref f_Line_take_figures) = true)
    (if_Line_take_figures : PySem.W.isFn K (.ref f_Line_take_figures) = true)
    (a_LIMITS : PySem.W.nsIn K mainGlobals "LIMITS" = some (some (.ref x_LIMITS)))
    (xl_LIMITS : K.lookup x_LIMITS = some { cls := .type "dict", data := .dict #[⟨h_LIMITS_0, .str (strV [110, 117, 109, 98, 101, 114]) kk_LIMITS_0, .ref t_LIMITS_0⟩, ⟨h_LIMITS_1, .str (strV [99, 101, 108, 108]) kk_LIMITS_1, .ref t_LIMITS_1⟩, ⟨h_LIMITS_2, .str (strV [103, 111, 97, 108]) kk_LIMITS_2, .ref t_LIMITS_2⟩, ⟨h_LIMITS_3, .str (strV [115, 105, 122, 101]) kk_LIMITS_3, .ref t_LIMITS_3⟩, ⟨h_LIMITS_4, .str (strV [109, 97, 110, 121]) kk_LIMITS_4, .ref t_LIMITS_4⟩] xn_LIMITS })
    (tl_LIMITS_0 : K.lookup t_LIMITS_0 = some ⟨.type "tuple", td_LIMITS_0, .seq #[.int 0 k_LIMITS_0_0, .int 999 k_LIMITS_0_1] tn_LIMITS_0, ts_LIMITS_0⟩)
    (tl_LIMITS_1 : K.lookup t_LIMITS_1 = some ⟨.type "tuple", td_LIMITS_1, .seq #[.int 0 k_LIMITS_1_0, .int 999 k_LIMITS_1_1] tn_LIMITS_1, ts_LIMITS_1⟩)
    (tl_LIMITS_2 : K.lookup t_LIMITS_2 = some ⟨.type "tuple", td_LIMITS_2, .seq #[.int 0 k_LIMITS_2_0, .int 999 k_LIMITS_2_1] tn_LIMITS_2, ts_LIMITS_2⟩)
    (tl_LIMITS_3 : K.lookup t_LIMITS_3 = some ⟨.type "tuple", td_LIMITS_3, .seq #[.int 0 k_LIMITS_3_0, .int 64 k_LIMITS_3_1] tn_LIMITS_3, ts_LIMITS_3⟩)
    (tl_LIMITS_4 : K.lookup t_LIMITS_4 = some ⟨.type "tuple", td_LIMITS_4, .seq #[.int 1 k_LIMITS_4_0, .int 64 k_LIMITS_4_1] tn_LIMITS_4, ts_LIMITS_4⟩)
    (xk_LIMITS : PySem.W.KeysLit w.params [⟨h_LIMITS_0, .str (strV [110, 117, 109, 98, 101, 114]) kk_LIMITS_0, .ref t_LIMITS_0⟩, ⟨h_LIMITS_1, .str (strV [99, 101, 108, 108]) kk_LIMITS_1, .ref t_LIMITS_1⟩, ⟨h_LIMITS_2, .str (strV [103, 111, 97, 108]) kk_LIMITS_2, .ref t_LIMITS_2⟩, ⟨h_LIMITS_3, .str (strV [115, 105, 122, 101]) kk_LIMITS_3, .ref t_LIMITS_3⟩, ⟨h_LIMITS_4, .str (strV [109, 97, 110, 121]) kk_LIMITS_4, .ref t_LIMITS_4⟩])
    (xs_LIMITS : (x_LIMITS == sysModules) = false)
    (a_read_sign : PySem.W.nsIn K mainGlobals "read_sign" = some (some (.ref f_read_sign)))
    (l_read_sign : K.lookup f_read_sign = some ⟨oc_read_sign, od_read_sign, .func (PySem.W.fnOf "read_sign" "read_sign" (defArgs s_read_sign) (defBody s_read_sign) (defScope s_read_sign) .none kV_read_sign dc_read_sign pm_read_sign an_read_sign cd_read_sign ct_read_sign), sl_read_sign⟩)
    (co_read_sign : PySem.W.codeIn K cd_read_sign "read_sign" = true)
    (ke_read_sign : PySem.W.keepIn K (.ref f_read_sign) = true)
    (a_MOST_TERMS : PySem.W.nsIn K mainGlobals "MOST_TERMS" = some (some (.int 8 k_CMOST_TERMS)))
    (z_tuple : PySem.W.nsIn K mainGlobals "tuple" = some none)
    (a_Script : PySem.W.nsIn K mainGlobals "Script" = some (some (.ref c_Script)))
    (a_Script_init : PySem.W.findIn K (.ref c_Script) "__init__" = some (some (.ref f_Script_init)))
    (l_Script_init : K.lookup f_Script_init = some ⟨oc_Script_init, od_Script_init, .func (PySem.W.fnOf "__init__" "Script.__init__" (defArgs s_Script_init) (defBody s_Script_init) (defScope s_Script_init) .none kV_Script_init dc_Script_init pm_Script_init an_Script_init cd_Script_init ct_Script_init), sl_Script_init⟩)
    (co_Script_init : PySem.W.codeIn K cd_Script_init "Script.__init__" = true)
    (ke_Script_init : PySem.W.keepIn K (.ref f_Script_init) = true)
    (z_list : PySem.W.nsIn K mainGlobals "list" = some none)
    (a_is_step : PySem.W.nsIn K mainGlobals "is_step" = some (some (.ref f_is_step)))
    (l_is_step : K.lookup f_is_step = some ⟨oc_is_step, od_is_step, .func (PySem.W.fnOf "is_step" "is_step" (defArgs s_is_step) (defBody s_is_step) (defScope s_is_step) .none kV_is_step dc_is_step pm_is_step an_is_step cd_is_step ct_is_step), sl_is_step⟩)
    (co_is_step : PySem.W.codeIn K cd_is_step "is_step" = true)
    (ke_is_step : PySem.W.keepIn K (.ref f_is_step) = true)
    (a_fits : PySem.W.nsIn K mainGlobals "fits" = some (some (.ref f_fits)))
    (l_fits : K.lookup f_fits = some ⟨oc_fits, od_fits, .func (PySem.W.fnOf "fits" "fits" (defArgs s_fits) (defBody s_fits) (defScope s_fits) .none kV_fits dc_fits pm_fits an_fits cd_fits ct_fits), sl_fits⟩)
    (co_fits : PySem.W.codeIn K cd_fits "fits" = true)
    (ke_fits : PySem.W.keepIn K (.ref f_fits) = true)
    (a_is_way : PySem.W.nsIn K mainGlobals "is_way" = some (some (.ref f_is_way)))
    (l_is_way : K.lookup f_is_way = some ⟨oc_is_way, od_is_way, .func (PySem.W.fnOf "is_way" "is_way" (defArgs s_is_way) (defBody s_is_way) (defScope s_is_way) .none kV_is_way dc_is_way pm_is_way an_is_way cd_is_way ct_is_way), sl_is_way⟩)
    (co_is_way : PySem.W.codeIn K cd_is_way "is_way" = true)
    (ke_is_way : PySem.W.keepIn K (.ref f_is_way) = true)
    (a_is_total : PySem.W.nsIn K mainGlobals "is_total" = some (some (.ref f_is_total)))
    (l_is_total : K.lookup f_is_total = some ⟨oc_is_total, od_is_total, .func (PySem.W.fnOf "is_total" "is_total" (defArgs s_is_total) (defBody s_is_total) (defScope s_is_total) .none kV_is_total dc_is_total pm_is_total an_is_total cd_is_total ct_is_total), sl_is_total⟩)
    (co_is_total : PySem.W.codeIn K cd_is_total "is_total" = true)
    (ke_is_total : PySem.W.keepIn K (.ref f_is_total) = true)
    (a_is_term : PySem.W.nsIn K mainGlobals "is_term" = some (some (.ref f_is_term)))
    (l_is_term : K.lookup f_is_term = some ⟨oc_is_term, od_is_term, .func (PySem.W.fnOf "is_term" "is_term" (defArgs s_is_term) (defBody s_is_term) (defScope s_is_term) .none kV_is_term dc_is_term pm_is_term an_is_term cd_is_term ct_is_term), sl_is_term⟩)
    (co_is_term : PySem.W.codeIn K cd_is_term "is_term" = true)
    (ke_is_term : PySem.W.keepIn K (.ref f_is_term) = true)
    (pg_Script : PySem.W.plainGet K c_Script Str.empty = true)
    (hd_Script : PySem.W.hasDictIn K c_Script = true)
    (po_Script : PySem.W.plainOver K c_Script = true)
    (sa_Script : PySem.W.findIn K (.ref c_Script) "__setattr__" = some (some (.builtin "object.__setattr__")))
    (no_Script_leaves : PySem.W.findIn K (.ref c_Script) "leaves" = some none)
    (no_Script_cells : PySem.W.findIn K (.ref c_Script) "cells" = some none)
    (no_Script_steps : PySem.W.findIn K (.ref c_Script) "steps" = some none)
    (if_Script_init : PySem.W.isFn K (.ref f_Script_init) = true)
    (mk_Script : PySem.W.makesIn K c_Script = true)
    (kp_Script : PySem.W.keepIn K (.ref c_Script) = true)
    (ci_BadText : PySem.W.isClsIn K c_BadText = true)
    (se_BadText : PySem.W.subIn K (.ref c_BadText) (.ref c_BadText) = some true)
    (xg_BadText : PySem.W.findIn K (.ref c_BadText) "__getattribute__" = some (some (.builtin "BaseException.__getattribute__")))
    (no_BadText___getattr__ : PySem.W.findIn K (.ref c_BadText) "__getattr__" = some none)
    (hd_BadText : PySem.W.hasDictIn K c_BadText = true)
    (a_Script_eq : PySem.W.findIn K (.ref c_Script) "__eq__" = some (some (.ref f_Script_eq)))
    (l_Script_eq : K.lookup f_Script_eq = some ⟨oc_Script_eq, od_Script_eq, .func (PySem.W.fnOf "__eq__" "Script.__eq__" (defArgs s_Script_eq) (defBody s_Script_eq) (defScope s_Script_eq) .none kV_Script_eq dc_Script_eq pm_Script_eq an_Script_eq cd_Script_eq ct_Script_eq), sl_Script_eq⟩)
    (co_Script_eq : PySem.W.codeIn K cd_Script_eq "Script.__eq__" = true)
    (ke_Script_eq : PySem.W.keepIn K (.ref f_Script_eq) = true)
    (ci_Script : PySem.W.isClsIn K c_Script = true)
    (tc_Script : PySem.W.typeIn K (.ref c_Script) = some (.type "type"))
    (kt_Script_NoneType : PySem.W.subIn K (.type "NoneType") (.ref c_Script) = some false)
    (kt_Script_bool : PySem.W.subIn K (.type "bool") (.ref c_Script) = some false)
    (kt_Script_int : PySem.W.subIn K (.type "int") (.ref c_Script) = some false)
    (kt_Script_str : PySem.W.subIn K (.type "str") (.ref c_Script) = some false)
    (kt_Script_tuple : PySem.W.subIn K (.type "tuple") (.ref c_Script) = some false)
    (kt_Script_list : PySem.W.subIn K (.type "list") (.ref c_Script) = some false)
    (kt_Script_dict : PySem.W.subIn K (.type "dict") (.ref c_Script) = some false)
    (ia_Script : PySem.W.findIn K (.ref c_Script) "__class__" = some (some (.builtin "object.__class__")))
    (ih_ : PySem.W.specialIn K (.builtin "object.__class__") "__get__" = some (some (.builtin "getset_descriptor.__get__")))
    (it_ : PySem.W.takesIn K (.builtin "object.__class__") = some true)
    (im_Script : PySem.W.mroIn K c_Script (.type "object") = some true)
    (if_Script_eq : PySem.W.isFn K (.ref f_Script_eq) = true)
    (a_law_pick : PySem.W.nsIn K mainGlobals "_law_pick" = some (some (.ref f_law_pick)))
    (l_law_pick : K.lookup f_law_pick = some ⟨oc_law_pick, od_law_pick, .func (PySem.W.fnOf "_law_pick" "_law_pick" (defArgs s_law_pick) (defBody s_law_pick) (defScope s_law_pick) .none kV_law_pick dc_law_pick pm_law_pick an_law_pick cd_law_pick ct_law_pick), sl_law_pick⟩)
    (co_law_pick : PySem.W.codeIn K cd_law_pick "_law_pick" = true)
    (ke_law_pick : PySem.W.keepIn K (.ref f_law_pick) = true)
    : ∃ fd : FuncData, (∀ (s : Shared) (v : Value), BindsTo s fd ⟨[v], []⟩ [("script", v)]) ∧ ∀ base : Heap, K.In base → base.Ns mainGlobals mg → FnOk P w K mg base (L2.CX P w) 13 fa fd ["script"] (spLaw K) := by
  have e : f_law = fa := by
    have e := hfa.symm.trans (PySem.W.mg_of X G a_law)
    cases e
    rfl
  subst e
  let A : Ad := { c_BadText := c_BadText, c_LeafError := c_LeafError, c_Line := c_Line, c_Script := c_Script, d_BadText_init := PySem.W.fnOf "__init__" "BadText.__init__" (defArgs s_BadText_init) (defBody s_BadText_init) (defScope s_BadText_init) .none kV_BadText_init dc_BadText_init pm_BadText_init an_BadText_init cd_BadText_init ct_BadText_init, d_Line_finish := PySem.W.fnOf "finish" "Line.finish" (defArgs s_Line_finish) (defBody s_Line_finish) (defScope s_Line_finish) .none kV_Line_finish dc_Line_finish pm_Line_finish an_Line_finish cd_Line_finish ct_Line_finish, d_Line_init := PySem.W.fnOf "__init__" "Line.__init__" (defArgs s_Line_init) (defBody s_Line_init) (defScope s_Line_init) .none kV_Line_init dc_Line_init pm_Line_init an_Line_init cd_Line_init ct_Line_init, d_Line_next_piece := PySem.W.fnOf "next_piece" "Line.next_piece" (defArgs s_Line_next_piece) (defBody s_Line_next_piece) (defScope s_Line_next_piece) .none kV_Line_next_piece dc_Line_next_piece pm_Line_next_piece an_Line_next_piece cd_Line_next_piece ct_Line_next_piece, d_Line_spot := PySem.W.fnOf "spot" "Line.spot" (defArgs s_Line_spot) (defBody s_Line_spot) (defScope s_Line_spot) .none kV_Line_spot dc_Line_spot pm_Line_spot an_Line_spot cd_Line_spot ct_Line_spot, d_Line_take := PySem.W.fnOf "take" "Line.take" (defArgs s_Line_take) (defBody s_Line_take) (defScope s_Line_take) .none kV_Line_take dc_Line_take pm_Line_take an_Line_take cd_Line_take ct_Line_take, d_Line_take_figures := PySem.W.fnOf "take_figures" "Line.take_figures" (defArgs s_Line_take_figures) (defBody s_Line_take_figures) (defScope s_Line_take_figures) .none kV_Line_take_figures dc_Line_take_figures pm_Line_take_figures an_Line_take_figures cd_Line_take_figures ct_Line_take_figures, d_Line_take_mark := PySem.W.fnOf "take_mark" "Line.take_mark" (defArgs s_Line_take_mark) (defBody s_Line_take_mark) (defScope s_Line_take_mark) .none kV_Line_take_mark dc_Line_take_mark pm_Line_take_mark an_Line_take_mark cd_Line_take_mark ct_Line_take_mark, d_Line_take_number := PySem.W.fnOf "take_number" "Line.take_number" (defArgs s_Line_take_number) (defBody s_Line_take_number) (defScope s_Line_take_number) .none kV_Line_take_number dc_Line_take_number pm_Line_take_number an_Line_take_number cd_Line_take_number ct_Line_take_number, d_Line_take_one_of := PySem.W.fnOf "take_one_of" "Line.take_one_of" (defArgs s_Line_take_one_of) (defBody s_Line_take_one_of) (defScope s_Line_take_one_of) .none kV_Line_take_one_of dc_Line_take_one_of pm_Line_take_one_of an_Line_take_one_of cd_Line_take_one_of ct_Line_take_one_of, d_Line_take_word := PySem.W.fnOf "take_word" "Line.take_word" (defArgs s_Line_take_word) (defBody s_Line_take_word) (defScope s_Line_take_word) .none kV_Line_take_word dc_Line_take_word pm_Line_take_word an_Line_take_word cd_Line_take_word ct_Line_take_word, d_Script_eq := PySem.W.fnOf "__eq__" "Script.__eq__" (defArgs s_Script_eq) (defBody s_Script_eq) (defScope s_Script_eq) .none kV_Script_eq dc_Script_eq pm_Script_eq an_Script_eq cd_Script_eq ct_Script_eq, d_Script_init := PySem.W.fnOf "__init__" "Script.__init__" (defArgs s_Script_init) (defBody s_Script_init) (defScope s_Script_init) .none kV_Script_init dc_Script_init pm_Script_init an_Script_init cd_Script_init ct_Script_init, d_fits := PySem.W.fnOf "fits" "fits" (defArgs s_fits) (defBody s_fits) (defScope s_fits) .none kV_fits dc_fits pm_fits an_fits cd_fits ct_fits, d_is_between := PySem.W.fnOf "is_between" "is_between" (defArgs s_is_between) (defBody s_is_between) (defScope s_is_between) .none kV_is_between dc_is_between pm_is_between an_is_between cd_is_between ct_is_between, d_is_figures := PySem.W.fnOf "is_figures" "is_figures" (defArgs s_is_figures) (defBody s_is_figures) (defScope s_is_figures) .none kV_is_figures dc_is_figures pm_is_figures an_is_figures cd_is_figures ct_is_figures, d_is_integer := PySem.W.fnOf "is_integer" "is_integer" (defArgs s_is_integer) (defBody s_is_integer) (defScope s_is_integer) .none kV_is_integer dc_is_integer pm_is_integer an_is_integer cd_is_integer ct_is_integer, d_is_left_out := PySem.W.fnOf "is_left_out" "is_left_out" (defArgs s_is_left_out) (defBody s_is_left_out) (defScope s_is_left_out) .none kV_is_left_out dc_is_left_out pm_is_left_out an_is_left_out cd_is_left_out ct_is_left_out, d_is_step := PySem.W.fnOf "is_step" "is_step" (defArgs s_is_step) (defBody s_is_step) (defScope s_is_step) .none kV_is_step dc_is_step pm_is_step an_is_step cd_is_step ct_is_step, d_is_term := PySem.W.fnOf "is_term" "is_term" (defArgs s_is_term) (defBody s_is_term) (defScope s_is_term) .none kV_is_term dc_is_term pm_is_term an_is_term cd_is_term ct_is_term, d_is_total := PySem.W.fnOf "is_total" "is_total" (defArgs s_is_total) (defBody s_is_total) (defScope s_is_total) .none kV_is_total dc_is_total pm_is_total an_is_total cd_is_total ct_is_total, d_is_way := PySem.W.fnOf "is_way" "is_way" (defArgs s_is_way) (defBody s_is_way) (defScope s_is_way) .none kV_is_way dc_is_way pm_is_way an_is_way cd_is_way ct_is_way, d_is_word := PySem.W.fnOf "is_word" "is_word" (defArgs s_is_word) (defBody s_is_word) (defScope s_is_word) .none kV_is_word dc_is_word pm_is_word an_is_word cd_is_word ct_is_word, d_kind_of := PySem.W.fnOf "kind_of" "kind_of" (defArgs s_kind_of) (defBody s_kind_of) (defScope s_kind_of) .none kV_kind_of dc_kind_of pm_kind_of an_kind_of cd_kind_of ct_kind_of, d_law := PySem.W.fnOf "law" "law" (defArgs s_law) (defBody s_law) (defScope s_law) .none kV_law dc_law pm_law an_law cd_law ct_law, d_law_cell_at := PySem.W.fnOf "_law_cell_at" "_law_cell_at" (defArgs s_law_cell_at) (defBody s_law_cell_at) (defScope s_law_cell_at) .none kV_law_cell_at dc_law_cell_at pm_law_cell_at an_law_cell_at cd_law_cell_at ct_law_cell_at, d_law_draw := PySem.W.fnOf "_law_draw" "_law_draw" (defArgs s_law_draw) (defBody s_law_draw) (defScope s_law_draw) .none kV_law_draw dc_law_draw pm_law_draw an_law_draw cd_law_draw ct_law_draw, d_law_next := PySem.W.fnOf "_law_next" "_law_next" (defArgs s_law_next) (defBody s_law_next) (defScope s_law_next) .none kV_law_next dc_law_next pm_law_next an_law_next cd_law_next ct_law_next, d_law_number := PySem.W.fnOf "_law_number" "_law_number" (defArgs s_law_number) (defBody s_law_number) (defScope s_law_number) .none kV_law_number dc_law_number pm_law_number an_law_number cd_law_number ct_law_number, d_law_pick := PySem.W.fnOf "_law_pick" "_law_pick" (defArgs s_law_pick) (defBody s_law_pick) (defScope s_law_pick) .none kV_law_pick dc_law_pick pm_law_pick an_law_pick cd_law_pick ct_law_pick, d_law_told := PySem.W.fnOf "_law_told" "_law_told" (defArgs s_law_told) (defBody s_law_told) (defScope s_law_told) .none kV_law_told dc_law_told pm_law_told an_law_told cd_law_told ct_law_told, d_lines_of := PySem.W.fnOf "lines_of" "lines_of" (defArgs s_lines_of) (defBody s_lines_of) (defScope s_lines_of) .none kV_lines_of dc_lines_of pm_lines_of an_lines_of cd_lines_of ct_lines_of, d_pieces_of := PySem.W.fnOf "pieces_of" "pieces_of" (defArgs s_pieces_of) (defBody s_pieces_of) (defScope s_pieces_of) .none kV_pieces_of dc_pieces_of pm_pieces_of an_pieces_of cd_pieces_of ct_pieces_of, d_read_layout := PySem.W.fnOf "read_layout" "read_layout" (defArgs s_read_layout) (defBody s_read_layout) (defScope s_read_layout) .none kV_read_layout dc_read_layout pm_read_layout an_read_layout cd_read_layout ct_read_layout, d_read_part := PySem.W.fnOf "read_part" "read_part" (defArgs s_read_part) (defBody s_read_part) (defScope s_read_part) .none kV_read_part dc_read_part pm_read_part an_read_part cd_read_part ct_read_part, d_read_script := PySem.W.fnOf "read_script" "read_script" (defArgs s_read_script) (defBody s_read_script) (defScope s_read_script) .none kV_read_script dc_read_script pm_read_script an_read_script cd_read_script ct_read_script, d_read_sign := PySem.W.fnOf "read_sign" "read_sign" (defArgs s_read_sign) (defBody s_read_sign) (defScope s_read_sign) .none kV_read_sign dc_read_sign pm_read_sign an_read_sign cd_read_sign ct_read_sign, d_read_step := PySem.W.fnOf "read_step" "read_step" (defArgs s_read_step) (defBody s_read_step) (defScope s_read_step) .none kV_read_step dc_read_step pm_read_step an_read_step cd_read_step ct_read_step, d_read_term := PySem.W.fnOf "read_term" "read_term" (defArgs s_read_term) (defBody s_read_term) (defScope s_read_term) .none kV_read_term dc_read_term pm_read_term an_read_term cd_read_term ct_read_term, d_read_total := PySem.W.fnOf "read_total" "read_total" (defArgs s_read_total) (defBody s_read_total) (defScope s_read_total) .none kV_read_total dc_read_total pm_read_total an_read_total cd_read_total ct_read_total, d_read_way := PySem.W.fnOf "read_way" "read_way" (defArgs s_read_way) (defBody s_read_way) (defScope s_read_way) .none kV_read_way dc_read_way pm_read_way an_read_way cd_read_way ct_read_way, f_BadText_init := f_BadText_init, f_Line_finish := f_Line_finish, f_Line_init := f_Line_init, f_Line_next_piece := f_Line_next_piece, f_Line_spot := f_Line_spot, f_Line_take := f_Line_take, f_Line_take_figures := f_Line_take_figures, f_Line_take_mark := f_Line_take_mark, f_Line_take_number := f_Line_take_number, f_Line_take_one_of := f_Line_take_one_of, f_Line_take_word := f_Line_take_word, f_Script_eq := f_Script_eq, f_Script_init := f_Script_init, f_fits := f_fits, f_is_between := f_is_between, f_is_figures := f_is_figures, f_is_integer := f_is_integer, f_is_left_out := f_is_left_out, f_is_step := f_is_step, f_is_term := f_is_term, f_is_total := f_is_total, f_is_way := f_is_way, f_is_word := f_is_word, f_kind_of := f_kind_of, f_law := f_law, f_law_cell_at := f_law_cell_at, f_law_draw := f_law_draw, f_law_next := f_law_next, f_law_number := f_law_number, f_law_pick := f_law_pick, f_law_told := f_law_told, f_lines_of := f_lines_of, f_pieces_of := f_pieces_of, f_read_layout := f_read_layout, f_read_part := f_read_part, f_read_script := f_read_script, f_read_sign := f_read_sign, f_read_step := f_read_step, f_read_term := f_read_term, f_read_total := f_read_total, f_read_way := f_read_way, v_RIGHTS := .ref t_CRIGHTS }
  let T : Tb := ⟨K, (fun i => match i with | 0 => .ref c_LeafError | 2 => .ref c_BadText | 3 => .ref c_Script | 4 => .ref c_Line | 50 => .ref x_SHAPES | 51 => .ref x_LIMITS | _ => .non), P, w⟩
  have kd : KdsOk T T.K w kd0 := (by
  intro i kvs h
  unfold kd0 at h
  split at h
  · cases h; exact ⟨⟨x_SHAPES, _, _, rfl, ⟨xl_SHAPES, xk_SHAPES, xs_SHAPES⟩, (.cons (v := .ref t_SHAPES_0) rfl rfl (fun _ _ => (⟨t_SHAPES_0, [.str (strV [119, 111, 114, 100])], rfl, .inr ⟨_, _, _, tl_SHAPES_0, rfl, rfl, (show 1 ≤ sizeLine from by decide), (.cons ⟨_, rfl⟩ .nil)⟩, ⟨.str (strV [119, 111, 114, 100]), _, rfl, rfl, rfl⟩⟩)) (.cons (v := .ref t_SHAPES_1) rfl rfl (fun _ _ => (⟨t_SHAPES_1, [.str (strV [119, 111, 114, 100])], rfl, .inr ⟨_, _, _, tl_SHAPES_1, rfl, rfl, (show 1 ≤ sizeLine from by decide), (.cons ⟨_, rfl⟩ .nil)⟩, ⟨.str (strV [119, 111, 114, 100]), _, rfl, rfl, rfl⟩⟩)) (.cons (v := .ref t_SHAPES_2) rfl rfl (fun _ _ => (⟨t_SHAPES_2, [.str (strV [119, 111, 114, 100]), .str (strV [119, 111, 114, 100])], rfl, .inr ⟨_, _, _, tl_SHAPES_2, rfl, rfl, (show 2 ≤ sizeLine from by decide), (.cons ⟨_, rfl⟩ (.cons ⟨_, rfl⟩ .nil))⟩, ⟨.str (strV [119, 111, 114, 100]), _, rfl, rfl, ⟨.str (strV [119, 111, 114, 100]), _, rfl, rfl, rfl⟩⟩⟩)) (.cons (v := .ref t_SHAPES_3) rfl rfl (fun _ _ => (⟨t_SHAPES_3, [.str (strV [119, 111, 114, 100]), .str (strV [115, 105, 122, 101])], rfl, .inr ⟨_, _, _, tl_SHAPES_3, rfl, rfl, (show 2 ≤ sizeLine from by decide), (.cons ⟨_, rfl⟩ (.cons ⟨_, rfl⟩ .nil))⟩, ⟨.str (strV [119, 111, 114, 100]), _, rfl, rfl, ⟨.str (strV [115, 105, 122, 101]), _, rfl, rfl, rfl⟩⟩⟩)) (.cons (v := .ref t_SHAPES_4) rfl rfl (fun _ _ => (⟨t_SHAPES_4, [.str (strV [119, 111, 114, 100]), .str (strV [115, 105, 122, 101])], rfl, .inr ⟨_, _, _, tl_SHAPES_4, rfl, rfl, (show 2 ≤ sizeLine from by decide), (.cons ⟨_, rfl⟩ (.cons ⟨_, rfl⟩ .nil))⟩, ⟨.str (strV [119, 111, 114, 100]), _, rfl, rfl, ⟨.str (strV [115, 105, 122, 101]), _, rfl, rfl, rfl⟩⟩⟩)) (.cons (v := .ref t_SHAPES_5) rfl rfl (fun _ _ => (⟨t_SHAPES_5, [.str (strV [119, 111, 114, 100]), .str (strV [110, 117, 109, 98, 101, 114]), .str (strV [109, 97, 110, 121]), .str (strV [119, 97, 121]), .str (strV [114, 105, 103, 104, 116, 115])], rfl, .inr ⟨_, _, _, tl_SHAPES_5, rfl, rfl, (show 5 ≤ sizeLine from by decide), (.cons ⟨_, rfl⟩ (.cons ⟨_, rfl⟩ (.cons ⟨_, rfl⟩ (.cons ⟨_, rfl⟩ (.cons ⟨_, rfl⟩ .nil)))))⟩, ⟨.str (strV [119, 111, 114, 100]), _, rfl, rfl, ⟨.str (strV [110, 117, 109, 98, 101, 114]), _, rfl, rfl, ⟨.str (strV [109, 97, 110, 121]), _, rfl, rfl, ⟨.str (strV [119, 97, 121]), _, rfl, rfl, ⟨.str (strV [114, 105, 103, 104, 116, 115]), _, rfl, rfl, rfl⟩⟩⟩⟩⟩⟩)) (.cons (v := .ref t_SHAPES_6) rfl rfl (fun _ _ => (⟨t_SHAPES_6, [.str (strV [119, 111, 114, 100]), .str (strV [110, 117, 109, 98, 101, 114]), .str (strV [109, 97, 110, 121])], rfl, .inr ⟨_, _, _, tl_SHAPES_6, rfl, rfl, (show 3 ≤ sizeLine from by decide), (.cons ⟨_, rfl⟩ (.cons ⟨_, rfl⟩ (.cons ⟨_, rfl⟩ .nil)))⟩, ⟨.str (strV [119, 111, 114, 100]), _, rfl, rfl, ⟨.str (strV [110, 117, 109, 98, 101, 114]), _, rfl, rfl, ⟨.str (strV [109, 97, 110, 121]), _, rfl, rfl, rfl⟩⟩⟩⟩)) (.cons (v := .ref t_SHAPES_7) rfl rfl (fun _ _ => (⟨t_SHAPES_7, [.str (strV [119, 111, 114, 100]), .str (strV [110, 117, 109, 98, 101, 114]), .str (strV [109, 97, 110, 121]), .str (strV [114, 105, 103, 104, 116, 115])], rfl, .inr ⟨_, _, _, tl_SHAPES_7, rfl, rfl, (show 4 ≤ sizeLine from by decide), (.cons ⟨_, rfl⟩ (.cons ⟨_, rfl⟩ (.cons ⟨_, rfl⟩ (.cons ⟨_, rfl⟩ .nil))))⟩, ⟨.str (strV [119, 111, 114, 100]), _, rfl, rfl, ⟨.str (strV [110, 117, 109, 98, 101, 114]), _, rfl, rfl, ⟨.str (strV [109, 97, 110, 121]), _, rfl, rfl, ⟨.str (strV [114, 105, 103, 104, 116, 115]), _, rfl, rfl, rfl⟩⟩⟩⟩⟩)) (.cons (v := .ref t_SHAPES_8) rfl rfl (fun _ _ => (⟨t_SHAPES_8, [.str (strV [119, 111, 114, 100]), .str (strV [110, 117, 109, 98, 101, 114]), .str (strV [109, 97, 110, 121]), .str (strV [103, 111, 97, 108])], rfl, .inr ⟨_, _, _, tl_SHAPES_8, rfl, rfl, (show 4 ≤ sizeLine from by decide), (.cons ⟨_, rfl⟩ (.cons ⟨_, rfl⟩ (.cons ⟨_, rfl⟩ (.cons ⟨_, rfl⟩ .nil))))⟩, ⟨.str (strV [119, 111, 114, 100]), _, rfl, rfl, ⟨.str (strV [110, 117, 109, 98, 101, 114]), _, rfl, rfl, ⟨.str (strV [109, 97, 110, 121]), _, rfl, rfl, ⟨.str (strV [103, 111, 97, 108]), _, rfl, rfl, rfl⟩⟩⟩⟩⟩)) (.cons (v := .ref t_SHAPES_9) rfl rfl (fun _ _ => (⟨t_SHAPES_9, [.str (strV [119, 111, 114, 100]), .str (strV [110, 117, 109, 98, 101, 114]), .str (strV [99, 101, 108, 108]), .str (strV [116, 111, 116, 97, 108])], rfl, .inr ⟨_, _, _, tl_SHAPES_9, rfl, rfl, (show 4 ≤ sizeLine from by decide), (.cons ⟨_, rfl⟩ (.cons ⟨_, rfl⟩ (.cons ⟨_, rfl⟩ (.cons ⟨_, rfl⟩ .nil))))⟩, ⟨.str (strV [119, 111, 114, 100]), _, rfl, rfl, ⟨.str (strV [110, 117, 109, 98, 101, 114]), _, rfl, rfl, ⟨.str (strV [99, 101, 108, 108]), _, rfl, rfl, ⟨.str (strV [116, 111, 116, 97, 108]), _, rfl, rfl, rfl⟩⟩⟩⟩⟩)) (.cons (v := .ref t_SHAPES_10) rfl rfl (fun _ _ => (⟨t_SHAPES_10, [.str (strV [119, 111, 114, 100]), .str (strV [110, 117, 109, 98, 101, 114]), .str (strV [99, 101, 108, 108])], rfl, .inr ⟨_, _, _, tl_SHAPES_10, rfl, rfl, (show 3 ≤ sizeLine from by decide), (.cons ⟨_, rfl⟩ (.cons ⟨_, rfl⟩ (.cons ⟨_, rfl⟩ .nil)))⟩, ⟨.str (strV [119, 111, 114, 100]), _, rfl, rfl, ⟨.str (strV [110, 117, 109, 98, 101, 114]), _, rfl, rfl, ⟨.str (strV [99, 101, 108, 108]), _, rfl, rfl, rfl⟩⟩⟩⟩)) .nil)))))))))))⟩⟩
  · cases h; exact ⟨⟨x_LIMITS, _, _, rfl, ⟨xl_LIMITS, xk_LIMITS, xs_LIMITS⟩, (.cons (v := .ref t_LIMITS_0) rfl rfl (fun _ _ => (⟨t_LIMITS_0, [.int 0, .int 999], rfl, .inr ⟨_, _, _, tl_LIMITS_0, rfl, rfl, (show 2 ≤ sizeLine from by decide), (.cons ⟨_, rfl⟩ (.cons ⟨_, rfl⟩ .nil))⟩, ⟨.int 0, _, rfl, rfl, ⟨.int 999, _, rfl, rfl, rfl⟩⟩⟩)) (.cons (v := .ref t_LIMITS_1) rfl rfl (fun _ _ => (⟨t_LIMITS_1, [.int 0, .int 999], rfl, .inr ⟨_, _, _, tl_LIMITS_1, rfl, rfl, (show 2 ≤ sizeLine from by decide), (.cons ⟨_, rfl⟩ (.cons ⟨_, rfl⟩ .nil))⟩, ⟨.int 0, _, rfl, rfl, ⟨.int 999, _, rfl, rfl, rfl⟩⟩⟩)) (.cons (v := .ref t_LIMITS_2) rfl rfl (fun _ _ => (⟨t_LIMITS_2, [.int 0, .int 999], rfl, .inr ⟨_, _, _, tl_LIMITS_2, rfl, rfl, (show 2 ≤ sizeLine from by decide), (.cons ⟨_, rfl⟩ (.cons ⟨_, rfl⟩ .nil))⟩, ⟨.int 0, _, rfl, rfl, ⟨.int 999, _, rfl, rfl, rfl⟩⟩⟩)) (.cons (v := .ref t_LIMITS_3) rfl rfl (fun _ _ => (⟨t_LIMITS_3, [.int 0, .int 64], rfl, .inr ⟨_, _, _, tl_LIMITS_3, rfl, rfl, (show 2 ≤ sizeLine from by decide), (.cons ⟨_, rfl⟩ (.cons ⟨_, rfl⟩ .nil))⟩, ⟨.int 0, _, rfl, rfl, ⟨.int 64, _, rfl, rfl, rfl⟩⟩⟩)) (.cons (v := .ref t_LIMITS_4) rfl rfl (fun _ _ => (⟨t_LIMITS_4, [.int 1, .int 64], rfl, .inr ⟨_, _, _, tl_LIMITS_4, rfl, rfl, (show 2 ≤ sizeLine from by decide), (.cons ⟨_, rfl⟩ (.cons ⟨_, rfl⟩ .nil))⟩, ⟨.int 1, _, rfl, rfl, ⟨.int 64, _, rfl, rfl, rfl⟩⟩⟩)) .nil)))))⟩⟩
  · cases h)
  have Z : Fx T w mg A := {
    kd := kd
    F_law := (fun_mk (st := s_law) l_law co_law ke_law)
    B_law := ((fun_mk (st := s_law) l_law co_law ke_law).binds (ps := ["script"]) fun _ _ _ _ _ _ us hl => match us, hl with | [_], _ => rfl)
    G_law := (PySem.W.mg_of X G a_law)
    K_law := (ke_law)
    F_law_next := (fun_mk (st := s_law_next) l_law_next co_law_next ke_law_next)
    B_law_next := ((fun_mk (st := s_law_next) l_law_next co_law_next ke_law_next).binds (ps := ["draw", "bound"]) fun _ _ _ _ _ _ us hl => match us, hl with | [_, _], _ => rfl)
    G_law_next := (PySem.W.mg_of X G a_law_next)
    K_law_next := (ke_law_next)
    F_law_cell_at := (fun_mk (st := s_law_cell_at) l_law_cell_at co_law_cell_at ke_law_cell_at)
    B_law_cell_at := ((fun_mk (st := s_law_cell_at) l_law_cell_at co_law_cell_at ke_law_cell_at).binds (ps := ["script", "k"]) fun _ _ _ _ _ _ us hl => match us, hl with | [_, _], _ => rfl)
    G_law_cell_at := (PySem.W.mg_of X G a_law_cell_at)
    K_law_cell_at := (ke_law_cell_at)
    m_len := (PySem.W.mg_none_of X G z_len)
    F_law_number := (fun_mk (st := s_law_number) l_law_number co_law_number ke_law_number)
    B_law_number := ((fun_mk (st := s_law_number) l_law_number co_law_number ke_law_number).binds (ps := ["cell", "k", "bound"]) fun _ _ _ _ _ _ us hl => match us, hl with | [_, _, _], _ => rfl)
    G_law_number := (PySem.W.mg_of X G a_law_number)
    K_law_number := (ke_law_number)
    m_int := (PySem.W.mg_none_of X G z_int)
    m_range := (PySem.W.mg_none_of X G z_range)
    F_law_draw := (fun_mk (st := s_law_draw) l_law_draw co_law_draw ke_law_draw)
    B_law_draw := ((fun_mk (st := s_law_draw) l_law_draw co_law_draw ke_law_draw).binds (ps := ["cell", "k", "bound"]) fun _ _ _ _ _ _ us hl => match us, hl with | [_, _, _], _ => rfl)
    G_law_draw := (PySem.W.mg_of X G a_law_draw)
    K_law_draw := (ke_law_draw)
    F_law_told := (fun_mk (st := s_law_told) l_law_told co_law_told ke_law_told)
    B_law_told := ((fun_mk (st := s_law_told) l_law_told co_law_told ke_law_told).binds (ps := ["text"]) fun _ _ _ _ _ _ us hl => match us, hl with | [_], _ => rfl)
    G_law_told := (PySem.W.mg_of X G a_law_told)
    K_law_told := (ke_law_told)
    F_read_script := (fun_mk (st := s_read_script) l_read_script co_read_script ke_read_script)
    B_read_script := ((fun_mk (st := s_read_script) l_read_script co_read_script ke_read_script).binds (ps := ["told"]) fun _ _ _ _ _ _ us hl => match us, hl with | [_], _ => rfl)
    G_read_script := (PySem.W.mg_of X G a_read_script)
    K_read_script := (ke_read_script)
    m_isinstance := (PySem.W.mg_none_of X G z_isinstance)
    m_str := (PySem.W.mg_none_of X G z_str)
    F_BadText_init := (fun_mk (st := s_BadText_init) l_BadText_init co_BadText_init ke_BadText_init)
    B_BadText_init := ((fun_mk (st := s_BadText_init) l_BadText_init co_BadText_init ke_BadText_init).binds (ps := ["self", "line", "column"]) fun _ _ _ _ _ _ us hl => match us, hl with | [_, _, _], _ => rfl)
    g_BadText := (rfl)
    G_BadText := (PySem.W.mg_of X G a_BadText)
    G_LeafError := (PySem.W.mg_of X G a_LeafError)
    O_BadText := (⟨⟨_, _, _, _, _, _, _, _, _, _, _, _, _, _, _, xl_BadText, rv_BadText⟩, sa_BadText, ec_BadText, tc_BadText, kp_BadText⟩)
    I_BadText := (a_BadText_init)
    J_BadText := (ty_BadText_init)
    N_BadText_line := (no_BadText_line)
    N_BadText_column := (no_BadText_column)
    R_LeafError := (⟨_, ⟨rd_LeafError, rg_LeafError⟩, ri_LeafError⟩)
    F_lines_of := (fun_mk (st := s_lines_of) l_lines_of co_lines_of ke_lines_of)
    B_lines_of := ((fun_mk (st := s_lines_of) l_lines_of co_lines_of ke_lines_of).binds (ps := ["told"]) fun _ _ _ _ _ _ us hl => match us, hl with | [_], _ => rfl)
    G_lines_of := (PySem.W.mg_of X G a_lines_of)
    K_lines_of := (ke_lines_of)
    m_enumerate := (PySem.W.mg_none_of X G z_enumerate)
    F_is_left_out := (fun_mk (st := s_is_left_out) l_is_left_out co_is_left_out ke_is_left_out)
    B_is_left_out := ((fun_mk (st := s_is_left_out) l_is_left_out co_is_left_out ke_is_left_out).binds (ps := ["row"]) fun _ _ _ _ _ _ us hl => match us, hl with | [_], _ => rfl)
    G_is_left_out := (PySem.W.mg_of X G a_is_left_out)
    K_is_left_out := (ke_is_left_out)
    F_Line_init := (fun_mk (st := s_Line_init) l_Line_init co_Line_init ke_Line_init)
    B_Line_init := ((fun_mk (st := s_Line_init) l_Line_init co_Line_init ke_Line_init).binds (ps := ["self", "place", "row"]) fun _ _ _ _ _ _ us hl => match us, hl with | [_, _, _], _ => rfl)
    g_Line := (rfl)
    G_Line := (PySem.W.mg_of X G a_Line)
    fl_place := ((List.forall_mem_cons.mpr ⟨fun C e => (by cases e; exact ⟨⟨pg_Line, hd_Line, po_Line, sa_Line⟩, no_Line_place⟩), (fun _ hc => nomatch hc)⟩))
    F_pieces_of := (fun_mk (st := s_pieces_of) l_pieces_of co_pieces_of ke_pieces_of)
    B_pieces_of := ((fun_mk (st := s_pieces_of) l_pieces_of co_pieces_of ke_pieces_of).binds (ps := ["row"]) fun _ _ _ _ _ _ us hl => match us, hl with | [_], _ => rfl)
    G_pieces_of := (PySem.W.mg_of X G a_pieces_of)
    K_pieces_of := (ke_pieces_of)
    d_BLANK := (⟨_, PySem.W.mg_of X G a_BLANK, ⟨_, rfl⟩⟩)
    F_kind_of := (fun_mk (st := s_kind_of) l_kind_of co_kind_of ke_kind_of)
    B_kind_of := ((fun_mk (st := s_kind_of) l_kind_of co_kind_of ke_kind_of).binds (ps := ["sign"]) fun _ _ _ _ _ _ us hl => match us, hl with | [_], _ => rfl)
    G_kind_of := (PySem.W.mg_of X G a_kind_of)
    K_kind_of := (ke_kind_of)
    d_LETTER := (⟨_, PySem.W.mg_of X G a_LETTER, ⟨_, rfl⟩⟩)
    d_FIGURE := (⟨_, PySem.W.mg_of X G a_FIGURE, ⟨_, rfl⟩⟩)
    d_SIGN := (⟨_, PySem.W.mg_of X G a_SIGN, ⟨_, rfl⟩⟩)
    fl_pieces := ((List.forall_mem_cons.mpr ⟨fun C e => (by cases e; exact ⟨⟨pg_Line, hd_Line, po_Line, sa_Line⟩, no_Line_pieces⟩), (fun _ hc => nomatch hc)⟩))
    fl_behind := ((List.forall_mem_cons.mpr ⟨fun C e => (by cases e; exact ⟨⟨pg_Line, hd_Line, po_Line, sa_Line⟩, no_Line_behind⟩), (fun _ hc => nomatch hc)⟩))
    fl_at := ((List.forall_mem_cons.mpr ⟨fun C e => (by cases e; exact ⟨⟨pg_Line, hd_Line, po_Line, sa_Line⟩, no_Line_at⟩), (fun _ hc => nomatch hc)⟩))
    M_Line := (⟨mk_Line, a_Line_init, if_Line_init, kp_Line⟩)
    F_read_layout := (fun_mk (st := s_read_layout) l_read_layout co_read_layout ke_read_layout)
    B_read_layout := ((fun_mk (st := s_read_layout) l_read_layout co_read_layout ke_read_layout).binds (ps := ["line"]) fun _ _ _ _ _ _ us hl => match us, hl with | [_], _ => rfl)
    G_read_layout := (PySem.W.mg_of X G a_read_layout)
    K_read_layout := (ke_read_layout)
    F_Line_take_mark := (fun_mk (st := s_Line_take_mark) l_Line_take_mark co_Line_take_mark ke_Line_take_mark)
    B_Line_take_mark := ((fun_mk (st := s_Line_take_mark) l_Line_take_mark co_Line_take_mark ke_Line_take_mark).binds (ps := ["self", "told"]) fun _ _ _ _ _ _ us hl => match us, hl with | [_, _], _ => rfl)
    F_Line_take := (fun_mk (st := s_Line_take) l_Line_take co_Line_take ke_Line_take)
    B_Line_take := ((fun_mk (st := s_Line_take) l_Line_take co_Line_take ke_Line_take).binds (ps := ["self", "fit"]) fun _ _ _ _ _ _ us hl => match us, hl with | [_, _], _ => rfl)
    F_Line_next_piece := (fun_mk (st := s_Line_next_piece) l_Line_next_piece co_Line_next_piece ke_Line_next_piece)
    B_Line_next_piece := ((fun_mk (st := s_Line_next_piece) l_Line_next_piece co_Line_next_piece ke_Line_next_piece).binds (ps := ["self"]) fun _ _ _ _ _ _ us hl => match us, hl with | [_], _ => rfl)
    C_Line := (⟨pg_Line, hd_Line, po_Line, sa_Line⟩)
    H_Line_next_piece := (⟨a_Line_next_piece, if_Line_next_piece, ke_Line_next_piece⟩)
    F_Line_spot := (fun_mk (st := s_Line_spot) l_Line_spot co_Line_spot ke_Line_spot)
    B_Line_spot := ((fun_mk (st := s_Line_spot) l_Line_spot co_Line_spot ke_Line_spot).binds (ps := ["self"]) fun _ _ _ _ _ _ us hl => match us, hl with | [_], _ => rfl)
    H_Line_spot := (⟨a_Line_spot, if_Line_spot, ke_Line_spot⟩)
    H_Line_take := (⟨a_Line_take, if_Line_take, ke_Line_take⟩)
    H_Line_take_mark := (⟨a_Line_take_mark, if_Line_take_mark, ke_Line_take_mark⟩)
    F_Line_take_number := (fun_mk (st := s_Line_take_number) l_Line_take_number co_Line_take_number ke_Line_take_number)
    B_Line_take_number := ((fun_mk (st := s_Line_take_number) l_Line_take_number co_Line_take_number ke_Line_take_number).binds (ps := ["self", "low", "high"]) fun _ _ _ _ _ _ us hl => match us, hl with | [_, _, _], _ => rfl)
    F_is_figures := (fun_mk (st := s_is_figures) l_is_figures co_is_figures ke_is_figures)
    B_is_figures := ((fun_mk (st := s_is_figures) l_is_figures co_is_figures ke_is_figures).binds (ps := ["piece"]) fun _ _ _ _ _ _ us hl => match us, hl with | [_], _ => rfl)
    G_is_figures := (PySem.W.mg_of X G a_is_figures)
    K_is_figures := (ke_is_figures)
    F_is_between := (fun_mk (st := s_is_between) l_is_between co_is_between ke_is_between)
    B_is_between := ((fun_mk (st := s_is_between) l_is_between co_is_between ke_is_between).binds (ps := ["thing", "low", "high"]) fun _ _ _ _ _ _ us hl => match us, hl with | [_, _, _], _ => rfl)
    G_is_between := (PySem.W.mg_of X G a_is_between)
    K_is_between := (ke_is_between)
    F_is_integer := (fun_mk (st := s_is_integer) l_is_integer co_is_integer ke_is_integer)
    B_is_integer := ((fun_mk (st := s_is_integer) l_is_integer co_is_integer ke_is_integer).binds (ps := ["thing"]) fun _ _ _ _ _ _ us hl => match us, hl with | [_], _ => rfl)
    G_is_integer := (PySem.W.mg_of X G a_is_integer)
    K_is_integer := (ke_is_integer)
    m_bool := (PySem.W.mg_none_of X G z_bool)
    H_Line_take_number := (⟨a_Line_take_number, if_Line_take_number, ke_Line_take_number⟩)
    d_MOST_LEAVES := (⟨_, PySem.W.mg_of X G a_MOST_LEAVES, ⟨_, rfl⟩⟩)
    d_MOST_CELLS := (⟨_, PySem.W.mg_of X G a_MOST_CELLS, ⟨_, rfl⟩⟩)
    F_Line_finish := (fun_mk (st := s_Line_finish) l_Line_finish co_Line_finish ke_Line_finish)
    B_Line_finish := ((fun_mk (st := s_Line_finish) l_Line_finish co_Line_finish ke_Line_finish).binds (ps := ["self"]) fun _ _ _ _ _ _ us hl => match us, hl with | [_], _ => rfl)
    H_Line_finish := (⟨a_Line_finish, if_Line_finish, ke_Line_finish⟩)
    d_MOST_STEPS := (⟨_, PySem.W.mg_of X G a_MOST_STEPS, ⟨_, rfl⟩⟩)
    F_read_step := (fun_mk (st := s_read_step) l_read_step co_read_step ke_read_step)
    B_read_step := ((fun_mk (st := s_read_step) l_read_step co_read_step ke_read_step).binds (ps := ["line"]) fun _ _ _ _ _ _ us hl => match us, hl with | [_], _ => rfl)
    G_read_step := (PySem.W.mg_of X G a_read_step)
    K_read_step := (ke_read_step)
    d_SHAPES := (⟨_, PySem.W.mg_of X G a_SHAPES, rfl⟩)
    F_read_part := (fun_mk (st := s_read_part) l_read_part co_read_part ke_read_part)
    B_read_part := ((fun_mk (st := s_read_part) l_read_part co_read_part ke_read_part).binds (ps := ["line", "part", "step"]) fun _ _ _ _ _ _ us hl => match us, hl with | [_, _, _], _ => rfl)
    G_read_part := (PySem.W.mg_of X G a_read_part)
    K_read_part := (ke_read_part)
    F_Line_take_word := (fun_mk (st := s_Line_take_word) l_Line_take_word co_Line_take_word ke_Line_take_word)
    B_Line_take_word := ((fun_mk (st := s_Line_take_word) l_Line_take_word co_Line_take_word ke_Line_take_word).binds (ps := ["self"]) fun _ _ _ _ _ _ us hl => match us, hl with | [_], _ => rfl)
    F_is_word := (fun_mk (st := s_is_word) l_is_word co_is_word ke_is_word)
    B_is_word := ((fun_mk (st := s_is_word) l_is_word co_is_word ke_is_word).binds (ps := ["thing"]) fun _ _ _ _ _ _ us hl => match us, hl with | [_], _ => rfl)
    G_is_word := (PySem.W.mg_of X G a_is_word)
    K_is_word := (ke_is_word)
    d_MOST_LETTERS := (⟨_, PySem.W.mg_of X G a_MOST_LETTERS, ⟨_, rfl⟩⟩)
    m_all := (PySem.W.mg_none_of X G z_all)
    H_Line_take_word := (⟨a_Line_take_word, if_Line_take_word, ke_Line_take_word⟩)
    F_Line_take_one_of := (fun_mk (st := s_Line_take_one_of) l_Line_take_one_of co_Line_take_one_of ke_Line_take_one_of)
    B_Line_take_one_of := ((fun_mk (st := s_Line_take_one_of) l_Line_take_one_of co_Line_take_one_of ke_Line_take_one_of).binds (ps := ["self", "told"]) fun _ _ _ _ _ _ us hl => match us, hl with | [_, _], _ => rfl)
    H_Line_take_one_of := (⟨a_Line_take_one_of, if_Line_take_one_of, ke_Line_take_one_of⟩)
    d_RIGHTS := (⟨_, PySem.W.mg_of X G a_RIGHTS, rfl⟩)
    r_RIGHTS := (fun _ _ => (⟨t_CRIGHTS, [.str (strV [114]), .str (strV [114, 119])], rfl, .inr ⟨_, _, _, tl_CRIGHTS, rfl, rfl, (show 2 ≤ sizeLine from by decide), (.cons ⟨_, rfl⟩ (.cons ⟨_, rfl⟩ .nil))⟩, ⟨.str (strV [114]), _, rfl, rfl, ⟨.str (strV [114, 119]), _, rfl, rfl, rfl⟩⟩⟩))
    F_read_way := (fun_mk (st := s_read_way) l_read_way co_read_way ke_read_way)
    B_read_way := ((fun_mk (st := s_read_way) l_read_way co_read_way ke_read_way).binds (ps := ["line", "many"]) fun _ _ _ _ _ _ us hl => match us, hl with | [_, _], _ => rfl)
    G_read_way := (PySem.W.mg_of X G a_read_way)
    K_read_way := (ke_read_way)
    F_read_total := (fun_mk (st := s_read_total) l_read_total co_read_total ke_read_total)
    B_read_total := ((fun_mk (st := s_read_total) l_read_total co_read_total ke_read_total).binds (ps := ["line"]) fun _ _ _ _ _ _ us hl => match us, hl with | [_], _ => rfl)
    G_read_total := (PySem.W.mg_of X G a_read_total)
    K_read_total := (ke_read_total)
    F_read_term := (fun_mk (st := s_read_term) l_read_term co_read_term ke_read_term)
    B_read_term := ((fun_mk (st := s_read_term) l_read_term co_read_term ke_read_term).binds (ps := ["line", "factor"]) fun _ _ _ _ _ _ us hl => match us, hl with | [_, _], _ => rfl)
    G_read_term := (PySem.W.mg_of X G a_read_term)
    K_read_term := (ke_read_term)
    F_Line_take_figures := (fun_mk (st := s_Line_take_figures) l_Line_take_figures co_Line_take_figures ke_Line_take_figures)
    B_Line_take_figures := ((fun_mk (st := s_Line_take_figures) l_Line_take_figures co_Line_take_figures ke_Line_take_figures).binds (ps := ["self"]) fun _ _ _ _ _ _ us hl => match us, hl with | [_], _ => rfl)
    H_Line_take_figures := (⟨a_Line_take_figures, if_Line_take_figures, ke_Line_take_figures⟩)
    d_LIMITS := (⟨_, PySem.W.mg_of X G a_LIMITS, rfl⟩)
    F_read_sign := (fun_mk (st := s_read_sign) l_read_sign co_read_sign ke_read_sign)
    B_read_sign := ((fun_mk (st := s_read_sign) l_read_sign co_read_sign ke_read_sign).binds (ps := ["line"]) fun _ _ _ _ _ _ us hl => match us, hl with | [_], _ => rfl)
    G_read_sign := (PySem.W.mg_of X G a_read_sign)
    K_read_sign := (ke_read_sign)
    d_MOST_TERMS := (⟨_, PySem.W.mg_of X G a_MOST_TERMS, ⟨_, rfl⟩⟩)
    m_tuple := (PySem.W.mg_none_of X G z_tuple)
    F_Script_init := (fun_mk (st := s_Script_init) l_Script_init co_Script_init ke_Script_init)
    B_Script_init := ((fun_mk (st := s_Script_init) l_Script_init co_Script_init ke_Script_init).binds (ps := ["self", "leaves", "cells", "steps"]) fun _ _ _ _ _ _ us hl => match us, hl with | [_, _, _, _], _ => rfl)
    m_list := (PySem.W.mg_none_of X G z_list)
    F_is_step := (fun_mk (st := s_is_step) l_is_step co_is_step ke_is_step)
    B_is_step := ((fun_mk (st := s_is_step) l_is_step co_is_step ke_is_step).binds (ps := ["thing"]) fun _ _ _ _ _ _ us hl => match us, hl with | [_], _ => rfl)
    G_is_step := (PySem.W.mg_of X G a_is_step)
    K_is_step := (ke_is_step)
    F_fits := (fun_mk (st := s_fits) l_fits co_fits ke_fits)
    B_fits := ((fun_mk (st := s_fits) l_fits co_fits ke_fits).binds (ps := ["part", "thing"]) fun _ _ _ _ _ _ us hl => match us, hl with | [_, _], _ => rfl)
    G_fits := (PySem.W.mg_of X G a_fits)
    K_fits := (ke_fits)
    F_is_way := (fun_mk (st := s_is_way) l_is_way co_is_way ke_is_way)
    B_is_way := ((fun_mk (st := s_is_way) l_is_way co_is_way ke_is_way).binds (ps := ["thing"]) fun _ _ _ _ _ _ us hl => match us, hl with | [_], _ => rfl)
    G_is_way := (PySem.W.mg_of X G a_is_way)
    K_is_way := (ke_is_way)
    F_is_total := (fun_mk (st := s_is_total) l_is_total co_is_total ke_is_total)
    B_is_total := ((fun_mk (st := s_is_total) l_is_total co_is_total ke_is_total).binds (ps := ["thing"]) fun _ _ _ _ _ _ us hl => match us, hl with | [_], _ => rfl)
    G_is_total := (PySem.W.mg_of X G a_is_total)
    K_is_total := (ke_is_total)
    F_is_term := (fun_mk (st := s_is_term) l_is_term co_is_term ke_is_term)
    B_is_term := ((fun_mk (st := s_is_term) l_is_term co_is_term ke_is_term).binds (ps := ["thing"]) fun _ _ _ _ _ _ us hl => match us, hl with | [_], _ => rfl)
    G_is_term := (PySem.W.mg_of X G a_is_term)
    K_is_term := (ke_is_term)
    g_Script := (rfl)
    G_Script := (PySem.W.mg_of X G a_Script)
    fl_leaves := ((List.forall_mem_cons.mpr ⟨fun C e => (by cases e; exact ⟨⟨pg_Script, hd_Script, po_Script, sa_Script⟩, no_Script_leaves⟩), (fun _ hc => nomatch hc)⟩))
    fl_cells := ((List.forall_mem_cons.mpr ⟨fun C e => (by cases e; exact ⟨⟨pg_Script, hd_Script, po_Script, sa_Script⟩, no_Script_cells⟩), (fun _ hc => nomatch hc)⟩))
    fl_steps := ((List.forall_mem_cons.mpr ⟨fun C e => (by cases e; exact ⟨⟨pg_Script, hd_Script, po_Script, sa_Script⟩, no_Script_steps⟩), (fun _ hc => nomatch hc)⟩))
    M_Script := (⟨mk_Script, a_Script_init, if_Script_init, kp_Script⟩)
    T_BadText := ((by intro c b h C e; dsimp only at h; split at h; (rename_i z; subst z; cases h; cases e; exact (exm_me ec_BadText ci_BadText tc_BadText se_BadText)); cases h))
    X_BadText := (⟨xg_BadText, no_BadText___getattr__, ec_BadText, hd_BadText⟩)
    F_Script_eq := (fun_mk (st := s_Script_eq) l_Script_eq co_Script_eq ke_Script_eq)
    B_Script_eq := ((fun_mk (st := s_Script_eq) l_Script_eq co_Script_eq ke_Script_eq).binds (ps := ["self", "other"]) fun _ _ _ _ _ _ us hl => match us, hl with | [_, _], _ => rfl)
    tab_Script := ((tabO_ok (by rfl) ⟨⟨pg_Script, hd_Script, po_Script, sa_Script⟩, ia_Script, ih_, it_, im_Script⟩ (kit_no ci_Script tc_Script kt_Script_NoneType) (kit_no ci_Script tc_Script kt_Script_bool) (kit_no ci_Script tc_Script kt_Script_int) (kit_no ci_Script tc_Script kt_Script_str) (kit_no ci_Script tc_Script kt_Script_tuple) (kit_no ci_Script tc_Script kt_Script_list) (kit_no ci_Script tc_Script kt_Script_dict) kit_me))
    E_Script := (a_Script_eq)
    Y_Script := (if_Script_eq)
    F_law_pick := (fun_mk (st := s_law_pick) l_law_pick co_law_pick ke_law_pick)
    B_law_pick := ((fun_mk (st := s_law_pick) l_law_pick co_law_pick ke_law_pick).binds (ps := ["draw", "things"]) fun _ _ _ _ _ _ us hl => match us, hl with | [_, _], _ => rfl)
    G_law_pick := (PySem.W.mg_of X G a_law_pick)
    K_law_pick := (ke_law_pick) }
  exact ⟨PySem.W.fnOf "law" "law" (defArgs s_law) (defBody s_law) (defScope s_law) .none kV_law dc_law pm_law an_law cd_law ct_law, fun s v => .of_eq rfl, fun base _ _ => ok_law (T := T) (A := A) Z good⟩
end
theorem walk {l : PySem.W.OpenLaw} {q : Program} {loose : List Str} {XP : (Str → Option Value) → Heap → Prop} {YP : World → Heap → Prop} {d : DefRec} {K : Params → PySem.W.Frag} (hn : l.most = some 63) (hdf : d.params.defaults = [])
    (hY : ∀ (w : World) (h : Heap), YP w h → (K w.params).In h)
    (F : ∀ (w : World) (mg : Str → Option Value) (fa : Addr) (h : Heap), (K w.params).In h → h.Ns mainGlobals mg → mg d.name = some (.ref fa) →
      ∃ fd : FuncData, (∀ (s : Shared) (u : Value), BindsTo s fd ⟨[u], []⟩ [("script", u)]) ∧ ∀ base : Heap, (K w.params).In base → base.Ns mainGlobals mg → FnOk l.prog w (K w.params) mg base (L2.CX l.prog w) 13 fa fd ["script"] (spLaw (K w.params))) :
    PySem.W.WalkO q loose XP YP l.row.toRowW d [] (fun f vs => PySem.call f vs) :=
  L2.walk_of (n := 63) (k := 13) (x := "script") (CX := fun w => L2.CX l.prog w) (sp := fun w => spLaw (K w.params)) hn (by decide) hdf ⟨rfl, by decide, by decide⟩ hY F (fun _ _ a ns hl _ hS => ⟨a, ns, rfl, hS, hl, fun _ => rfl⟩)
    fun _ _ _ _ _ z => by obtain ⟨_, _, _, _, _, _, _, _, _, _, _, _, z⟩ := z; exact z
end P03

open PySem PySem.W PyProof.Rows
set_option maxRecDepth 100000 in
set_option maxHeartbeats 0 in
theorem PySem.Challenge.cw_twinleaves_k03_known_texts_holds : PySem.Challenge.rw_twinleaves_k03_known_texts.Holds := by
  w_on; o_law; k_head; (case hw => w_witness2)
  k_fill
  refine P03.walk (l := PySem.Challenge.rw_twinleaves_k03_known_texts) rfl rfl (fun w h Y => PySem.W.kIn_of Y) ?F
  case F =>
    intro w mg fa h KX G hmg
    refine' P03.all_mk KX G hmg P03.good ?a_law ?l_law ?co_law ?ke_law ?a_law_next ?l_law_next ?co_law_next ?ke_law_next ?a_law_cell_at ?l_law_cell_at ?co_law_cell_at ?ke_law_cell_at ?z_len ?a_law_number ?l_law_number ?co_law_number ?ke_law_number ?z_int ?z_range ?a_law_draw ?l_law_draw ?co_law_draw ?ke_law_draw ?a_law_told ?l_law_told ?co_law_told ?ke_law_told ?a_read_script ?l_read_script ?co_read_script ?ke_read_script ?z_isinstance ?z_str ?a_BadText ?a_BadText_init ?l_BadText_init ?co_BadText_init ?ke_BadText_init ?a_LeafError ?xl_BadText ?rv_BadText ?sa_BadText ?ec_BadText ?tc_BadText ?kp_BadText ?ty_BadText_init ?no_BadText_line ?no_BadText_column ?rd_LeafError ?rg_LeafError ?ri_LeafError ?a_lines_of ?l_lines_of ?co_lines_of ?ke_lines_of ?z_enumerate ?a_is_left_out ?l_is_left_out ?co_is_left_out ?ke_is_left_out ?a_Line ?a_Line_init ?l_Line_init ?co_Line_init ?ke_Line_init ?pg_Line ?hd_Line ?po_Line ?sa_Line ?no_Line_place ?a_pieces_of ?l_pieces_of ?co_pieces_of ?ke_pieces_of ?a_BLANK ?a_kind_of ?l_kind_of ?co_kind_of ?ke_kind_of ?a_LETTER ?a_FIGURE ?a_SIGN ?no_Line_pieces ?no_Line_behind ?no_Line_at ?if_Line_init ?mk_Line ?kp_Line ?a_read_layout ?l_read_layout ?co_read_layout ?ke_read_layout ?a_Line_take_mark ?l_Line_take_mark ?co_Line_take_mark ?ke_Line_take_mark ?a_Line_take ?l_Line_take ?co_Line_take ?ke_Line_take ?a_Line_next_piece ?l_Line_next_piece ?co_Line_next_piece ?ke_Line_next_piece ?if_Line_next_piece ?a_Line_spot ?l_Line_spot ?co_Line_spot ?ke_Line_spot ?if_Line_spot ?if_Line_take ?if_Line_take_mark ?a_Line_take_number ?l_Line_take_number ?co_Line_take_number ?ke_Line_take_number ?a_is_figures ?l_is_figures ?co_is_figures ?ke_is_figures ?a_is_between ?l_is_between ?co_is_between ?ke_is_between ?a_is_integer ?l_is_integer ?co_is_integer ?ke_is_integer ?z_bool ?if_Line_take_number ?a_MOST_LEAVES ?a_MOST_CELLS ?a_Line_finish ?l_Line_finish ?co_Line_finish ?ke_Line_finish ?if_Line_finish ?a_MOST_STEPS ?a_read_step ?l_read_step ?co_read_step ?ke_read_step ?a_SHAPES ?xl_SHAPES ?tl_SHAPES_0 ?tl_SHAPES_1 ?tl_SHAPES_2 ?tl_SHAPES_3 ?tl_SHAPES_4 ?tl_SHAPES_5 ?tl_SHAPES_6 ?tl_SHAPES_7 ?tl_SHAPES_8 ?tl_SHAPES_9 ?tl_SHAPES_10 ?xk_SHAPES ?xs_SHAPES ?a_read_part ?l_read_part ?co_read_part ?ke_read_part ?a_Line_take_word ?l_Line_take_word ?co_Line_take_word ?ke_Line_take_word ?a_is_word ?l_is_word ?co_is_word ?ke_is_word ?a_MOST_LETTERS ?z_all ?if_Line_take_word ?a_Line_take_one_of ?l_Line_take_one_of ?co_Line_take_one_of ?ke_Line_take_one_of ?if_Line_take_one_of ?a_RIGHTS ?tl_CRIGHTS ?a_read_way ?l_read_way ?co_read_way ?ke_read_way ?a_read_total ?l_read_total ?co_read_total ?ke_read_total ?a_read_term ?l_read_term ?co_read_term ?ke_read_term ?a_Line_take_figures ?l_Line_take_figures ?co_Line_take_figures ?ke_Line_take_figures ?if_Line_take_figures ?a_LIMITS ?xl_LIMITS ?tl_LIMITS_0 ?tl_LIMITS_1 ?tl_LIMITS_2 ?tl_LIMITS_3 ?tl_LIMITS_4 ?xk_LIMITS ?xs_LIMITS ?a_read_sign ?l_read_sign ?co_read_sign ?ke_read_sign ?a_MOST_TERMS ?z_tuple ?a_Script ?a_Script_init ?l_Script_init ?co_Script_init ?ke_Script_init ?z_list ?a_is_step ?l_is_step ?co_is_step ?ke_is_step ?a_fits ?l_fits ?co_fits ?ke_fits ?a_is_way ?l_is_way ?co_is_way ?ke_is_way ?a_is_total ?l_is_total ?co_is_total ?ke_is_total ?a_is_term ?l_is_term ?co_is_term ?ke_is_term ?pg_Script ?hd_Script ?po_Script ?sa_Script ?no_Script_leaves ?no_Script_cells ?no_Script_steps ?if_Script_init ?mk_Script ?kp_Script ?ci_BadText ?se_BadText ?xg_BadText ?no_BadText___getattr__ ?hd_BadText ?a_Script_eq ?l_Script_eq ?co_Script_eq ?ke_Script_eq ?ci_Script ?tc_Script ?kt_Script_NoneType ?kt_Script_bool ?kt_Script_int ?kt_Script_str ?kt_Script_tuple ?kt_Script_list ?kt_Script_dict ?ia_Script ?ih_ ?it_ ?im_Script ?if_Script_eq ?a_law_pick ?l_law_pick ?co_law_pick ?ke_law_pick
    (case a_law => k_is)
    (case l_law => k_is)
    (case co_law => k_is)
    (case ke_law => k_is)
    (case a_law_next => k_is)
    (case l_law_next => k_is)
    (case co_law_next => k_is)
    (case ke_law_next => k_is)
    (case a_law_cell_at => k_is)
    (case l_law_cell_at => k_is)
    (case co_law_cell_at => k_is)
    (case ke_law_cell_at => k_is)
    (case z_len => k_is)
    (case a_law_number => k_is)
    (case l_law_number => k_is)
    (case co_law_number => k_is)
    (case ke_law_number => k_is)
    (case z_int => k_is)
    (case z_range => k_is)
    (case a_law_draw => k_is)
    (case l_law_draw => k_is)
    (case co_law_draw => k_is)
    (case ke_law_draw => k_is)
    (case a_law_told => k_is)
    (case l_law_told => k_is)
    (case co_law_told => k_is)
    (case ke_law_told => k_is)
    (case a_read_script => k_is)
    (case l_read_script => k_is)
    (case co_read_script => k_is)
    (case ke_read_script => k_is)
    (case z_isinstance => k_is)
    (case z_str => k_is)
    (case a_BadText => k_is)
    (case a_BadText_init => k_is)
    (case l_BadText_init => k_is)
    (case co_BadText_init => k_is)
    (case ke_BadText_init => k_is)
    (case a_LeafError => k_is)
    (case xl_BadText => k_is)
    (case rv_BadText => first | k_is | rfl | decide)
    (case sa_BadText => k_is)
    (case ec_BadText => k_is)
    (case tc_BadText => k_is)
    (case kp_BadText => k_is)
    (case ty_BadText_init => k_is)
    (case no_BadText_line => k_is)
    (case no_BadText_column => k_is)
    (case rd_LeafError => k_is)
    (case rg_LeafError => k_is)
    (case ri_LeafError => k_is)
    (case a_lines_of => k_is)
    (case l_lines_of => k_is)
    (case co_lines_of => k_is)
    (case ke_lines_of => k_is)
    (case z_enumerate => k_is)
    (case a_is_left_out => k_is)
    (case l_is_left_out => k_is)
    (case co_is_left_out => k_is)
    (case ke_is_left_out => k_is)
    (case a_Line => k_is)
    (case a_Line_init => k_is)
    (case l_Line_init => k_is)
    (case co_Line_init => k_is)
    (case ke_Line_init => k_is)
    (case pg_Line => k_is)
    (case hd_Line => k_is)
    (case po_Line => k_is)
    (case sa_Line => k_is)
    (case no_Line_place => k_is)
    (case a_pieces_of => k_is)
    (case l_pieces_of => k_is)
    (case co_pieces_of => k_is)
    (case ke_pieces_of => k_is)
    (case a_BLANK => k_is)
    (case a_kind_of => k_is)
    (case l_kind_of => k_is)
    (case co_kind_of => k_is)
    (case ke_kind_of => k_is)
    (case a_LETTER => k_is)
    (case a_FIGURE => k_is)
    (case a_SIGN => k_is)
    (case no_Line_pieces => k_is)
    (case no_Line_behind => k_is)
    (case no_Line_at => k_is)
    (case if_Line_init => k_is)
    (case mk_Line => k_is)
    (case kp_Line => k_is)
    (case a_read_layout => k_is)
    (case l_read_layout => k_is)
    (case co_read_layout => k_is)
    (case ke_read_layout => k_is)
    (case a_Line_take_mark => k_is)
    (case l_Line_take_mark => k_is)
    (case co_Line_take_mark => k_is)
    (case ke_Line_take_mark => k_is)
    (case a_Line_take => k_is)
    (case l_Line_take => k_is)
    (case co_Line_take => k_is)
    (case ke_Line_take => k_is)
    (case a_Line_next_piece => k_is)
    (case l_Line_next_piece => k_is)
    (case co_Line_next_piece => k_is)
    (case ke_Line_next_piece => k_is)
    (case if_Line_next_piece => k_is)
    (case a_Line_spot => k_is)
    (case l_Line_spot => k_is)
    (case co_Line_spot => k_is)
    (case ke_Line_spot => k_is)
    (case if_Line_spot => k_is)
    (case if_Line_take => k_is)
    (case if_Line_take_mark => k_is)
    (case a_Line_take_number => k_is)
    (case l_Line_take_number => k_is)
    (case co_Line_take_number => k_is)
    (case ke_Line_take_number => k_is)
    (case a_is_figures => k_is)
    (case l_is_figures => k_is)
    (case co_is_figures => k_is)
    (case ke_is_figures => k_is)
    (case a_is_between => k_is)
    (case l_is_between => k_is)
    (case co_is_between => k_is)
    (case ke_is_between => k_is)
    (case a_is_integer => k_is)
    (case l_is_integer => k_is)
    (case co_is_integer => k_is)
    (case ke_is_integer => k_is)
    (case z_bool => k_is)
    (case if_Line_take_number => k_is)
    (case a_MOST_LEAVES => k_is)
    (case a_MOST_CELLS => k_is)
    (case a_Line_finish => k_is)
    (case l_Line_finish => k_is)
    (case co_Line_finish => k_is)
    (case ke_Line_finish => k_is)
    (case if_Line_finish => k_is)
    (case a_MOST_STEPS => k_is)
    (case a_read_step => k_is)
    (case l_read_step => k_is)
    (case co_read_step => k_is)
    (case ke_read_step => k_is)
    (case a_SHAPES => k_is)
    (case xl_SHAPES => k_is)
    (case tl_SHAPES_0 => k_is)
    (case tl_SHAPES_1 => k_is)
    (case tl_SHAPES_2 => k_is)
    (case tl_SHAPES_3 => k_is)
    (case tl_SHAPES_4 => k_is)
    (case tl_SHAPES_5 => k_is)
    (case tl_SHAPES_6 => k_is)
    (case tl_SHAPES_7 => k_is)
    (case tl_SHAPES_8 => k_is)
    (case tl_SHAPES_9 => k_is)
    (case tl_SHAPES_10 => k_is)
    (case xk_SHAPES => repeat' (first | exact VI.kl_nil | refine VI.kl_cons (by decide +kernel) ?_))
    (case xs_SHAPES => first | k_is | rfl | decide)
    (case a_read_part => k_is)
    (case l_read_part => k_is)
    (case co_read_part => k_is)
    (case ke_read_part => k_is)
    (case a_Line_take_word => k_is)
    (case l_Line_take_word => k_is)
    (case co_Line_take_word => k_is)
    (case ke_Line_take_word => k_is)
    (case a_is_word => k_is)
    (case l_is_word => k_is)
    (case co_is_word => k_is)
    (case ke_is_word => k_is)
    (case a_MOST_LETTERS => k_is)
    (case z_all => k_is)
    (case if_Line_take_word => k_is)
    (case a_Line_take_one_of => k_is)
    (case l_Line_take_one_of => k_is)
    (case co_Line_take_one_of => k_is)
    (case ke_Line_take_one_of => k_is)
    (case if_Line_take_one_of => k_is)
    (case a_RIGHTS => k_is)
    (case tl_CRIGHTS => k_is)
    (case a_read_way => k_is)
    (case l_read_way => k_is)
    (case co_read_way => k_is)
    (case ke_read_way => k_is)
    (case a_read_total => k_is)
    (case l_read_total => k_is)
    (case co_read_total => k_is)
    (case ke_read_total => k_is)
    (case a_read_term => k_is)
    (case l_read_term => k_is)
    (case co_read_term => k_is)
    (case ke_read_term => k_is)
    (case a_Line_take_figures => k_is)
    (case l_Line_take_figures => k_is)
    (case co_Line_take_figures => k_is)
    (case ke_Line_take_figures => k_is)
    (case if_Line_take_figures => k_is)
    (case a_LIMITS => k_is)
    (case xl_LIMITS => k_is)
    (case tl_LIMITS_0 => k_is)
    (case tl_LIMITS_1 => k_is)
    (case tl_LIMITS_2 => k_is)
    (case tl_LIMITS_3 => k_is)
    (case tl_LIMITS_4 => k_is)
    (case xk_LIMITS => repeat' (first | exact VI.kl_nil | refine VI.kl_cons (by decide +kernel) ?_))
    (case xs_LIMITS => first | k_is | rfl | decide)
    (case a_read_sign => k_is)
    (case l_read_sign => k_is)
    (case co_read_sign => k_is)
    (case ke_read_sign => k_is)
    (case a_MOST_TERMS => k_is)
    (case z_tuple => k_is)
    (case a_Script => k_is)
    (case a_Script_init => k_is)
    (case l_Script_init => k_is)
    (case co_Script_init => k_is)
    (case ke_Script_init => k_is)
    (case z_list => k_is)
    (case a_is_step => k_is)
    (case l_is_step => k_is)
    (case co_is_step => k_is)
    (case ke_is_step => k_is)
    (case a_fits => k_is)
    (case l_fits => k_is)
    (case co_fits => k_is)
    (case ke_fits => k_is)
    (case a_is_way => k_is)
    (case l_is_way => k_is)
    (case co_is_way => k_is)
    (case ke_is_way => k_is)
    (case a_is_total => k_is)
    (case l_is_total => k_is)
    (case co_is_total => k_is)
    (case ke_is_total => k_is)
    (case a_is_term => k_is)
    (case l_is_term => k_is)
    (case co_is_term => k_is)
    (case ke_is_term => k_is)
    (case pg_Script => k_is)
    (case hd_Script => k_is)
    (case po_Script => k_is)
    (case sa_Script => k_is)
    (case no_Script_leaves => k_is)
    (case no_Script_cells => k_is)
    (case no_Script_steps => k_is)
    (case if_Script_init => k_is)
    (case mk_Script => k_is)
    (case kp_Script => k_is)
    (case ci_BadText => k_is)
    (case se_BadText => first | k_is | rfl | decide)
    (case xg_BadText => k_is)
    (case no_BadText___getattr__ => k_is)
    (case hd_BadText => k_is)
    (case a_Script_eq => k_is)
    (case l_Script_eq => k_is)
    (case co_Script_eq => k_is)
    (case ke_Script_eq => k_is)
    (case ci_Script => k_is)
    (case tc_Script => k_is)
    (case kt_Script_NoneType => first | k_is | rfl | decide)
    (case kt_Script_bool => first | k_is | rfl | decide)
    (case kt_Script_int => first | k_is | rfl | decide)
    (case kt_Script_str => first | k_is | rfl | decide)
    (case kt_Script_tuple => first | k_is | rfl | decide)
    (case kt_Script_list => first | k_is | rfl | decide)
    (case kt_Script_dict => first | k_is | rfl | decide)
    (case ia_Script => k_is)
    (case ih_ => k_is)
    (case it_ => k_is)
    (case im_Script => k_is)
    (case if_Script_eq => k_is)
    (case a_law_pick => k_is)
    (case l_law_pick => k_is)
    (case co_law_pick => k_is)
    (case ke_law_pick => k_is)
