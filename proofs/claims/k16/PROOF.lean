import PyProof.Rows.All
import Wide.All
import OpenK.AllK
import Wide.FinOn
import HandS.ForMost
import HandS.ForExc
import HandS.Gcd
import HandS.Wide
import HandS.IsInst
import HandS.TupAny
import HandS.EndTab
import HandS.Style
import HandS.AnyAll
import HandS.RaiseMore
import HandS.Deep
import HandS.EndBits
import HandS.DictSub
import HandS.TupMul
import PySem.Challenge.RW_rulertrees_k16_forms_and_changes_of_any
set_option Elab.async false
set_option linter.all false
set_option maxRecDepth 100000
set_option maxHeartbeats 4000000
namespace DL
open PySem PySem.Spec PyProof.Rows L2
abbrev Fg := PySem.W.Frag
abbrev D := PyData
def keyD : Key → D
  | .inl i => .int i
  | .inr s => .str s
mutual
inductive Is (K : Fg) (H : Hp) : V → D → Prop
  | non : Is K H .non .none
  | bl (b : Bool) : Is K H (.bl b) (.bool b)
  | int (i : Int) : Is K H (.int i) (.int i)
  | str (x : Str) : Is K H (.str x) (.str x)
  | lst {a xs ds} : H a = some (.lst xs) → IsL K H xs ds → Is K H (.ref a) (.list ds)
  | tup {a xs ds} : SqT K H a xs → IsL K H xs ds → Is K H (.ref a) (.tuple ds)
  | dct {a kvs ds} : H a = some (.dK kvs) → kvs.map (fun p => keyD p.1) = ds.map (fun p => p.1) → IsL K H (kvs.map (fun p => p.2)) (ds.map (fun p => p.2)) → Is K H (.ref a) (.dict ds)
inductive IsL (K : Fg) (H : Hp) : List V → List D → Prop
  | nil : IsL K H [] []
  | cons {v vs d ds} : Is K H v d → IsL K H vs ds → IsL K H (v :: vs) (d :: ds)
end
def isT : HO → Bool
  | .tbl _ => true
  | _ => false
/-- what is seen without the addresses of A -/
def hide (A : List Addr) (H : Hp) : Hp := fun b => if b ∈ A then none else H b
theorem hide_in {A : List Addr} {H : Hp} {b : Addr} (h : b ∈ A) : hide A H b = none := if_pos h
theorem hide_out {A : List Addr} {H : Hp} {b : Addr} (h : b ∉ A) : hide A H b = H b := if_neg h
theorem hide_some {A : List Addr} {H : Hp} {b : Addr} {o : HO} (h : hide A H b = some o) : b ∉ A ∧ H b = some o := by
  by_cases hb : b ∈ A
  · rw [hide_in hb] at h; cases h
  · rw [hide_out hb] at h; exact ⟨hb, h⟩
/-- all but tables stands -/
def Kp (H H' : Hp) : Prop := ∀ b o, H b = some o → isT o = false → H' b = some o
theorem Kp.refl (H : Hp) : Kp H H := fun _ _ h _ => h
theorem Kp.trans {H H1 H2 : Hp} (a : Kp H H1) (b : Kp H1 H2) : Kp H H2 := fun c o h z => b c o (a c o h z) z
theorem Kp.sqt {K : Fg} {H H' : Hp} {a : Addr} {xs : List V} (k : Kp H H') (h : SqT K H a xs) : SqT K H' a xs := by
  rcases h with (h | ⟨o, h⟩) | h
  · exact .inl (.inl (k _ _ h rfl))
  · exact .inl (.inr ⟨o, k _ _ h rfl⟩)
  · exact .inr h
mutual
theorem Is.kp {K : Fg} {H H' : Hp} (k : Kp H H') : ∀ {v : V} {d : D}, Is K H v d → Is K H' v d
  | _, _, .non => .non
  | _, _, .bl b => .bl b
  | _, _, .int b => .int b
  | _, _, .str b => .str b
  | _, _, .lst h l => .lst (k _ _ h rfl) (IsL.kp k l)
  | _, _, .tup h l => .tup (k.sqt h) (IsL.kp k l)
  | _, _, .dct h e l => .dct (k _ _ h rfl) e (IsL.kp k l)
theorem IsL.kp {K : Fg} {H H' : Hp} (k : Kp H H') : ∀ {v : List V} {d : List D}, IsL K H v d → IsL K H' v d
  | _, _, .nil => .nil
  | _, _, .cons h l => .cons (Is.kp k h) (IsL.kp k l)
end
theorem IsL.len {K : Fg} {H : Hp} : ∀ {vs : List V} {ds : List D}, IsL K H vs ds → vs.length = ds.length
  | _, _, .nil => rfl
  | _, _, .cons _ l => by rw [List.length_cons, List.length_cons, IsL.len l]
theorem IsL.get {K : Fg} {H : Hp} : ∀ {vs : List V} {ds : List D} {i : Nat} {d : D}, IsL K H vs ds → ds[i]? = some d → ∃ v, vs[i]? = some v ∧ Is K H v d
  | _, _, _, _, .nil, e => by simp at e
  | _, _, 0, _, .cons h _, e => by simp at e; subst e; exact ⟨_, rfl, h⟩
  | _, _, i + 1, d, .cons _ l, e => by
    obtain ⟨v, h1, h2⟩ := IsL.get (i := i) l (by simpa using e)
    exact ⟨v, by simpa using h1, h2⟩
theorem IsL.getV {K : Fg} {H : Hp} : ∀ {vs : List V} {ds : List D} {i : Nat} {v : V}, IsL K H vs ds → vs[i]? = some v → ∃ d, ds[i]? = some d ∧ Is K H v d
  | _, _, _, _, .nil, e => by simp at e
  | _, _, 0, _, .cons h _, e => by simp at e; subst e; exact ⟨_, rfl, h⟩
  | _, _, i + 1, d, .cons _ l, e => by
    obtain ⟨v, h1, h2⟩ := IsL.getV (i := i) l (by simpa using e)
    exact ⟨v, by simpa using h1, h2⟩
theorem IsL.app {K : Fg} {H : Hp} : ∀ {vs ws : List V} {ds es : List D}, IsL K H vs ds → IsL K H ws es → IsL K H (vs ++ ws) (ds ++ es)
  | _, _, _, _, .nil, h => h
  | _, _, _, _, .cons a b, h => .cons a (IsL.app b h)
theorem IsL.tk {K : Fg} {H : Hp} : ∀ (n : Nat) {vs : List V} {ds : List D}, IsL K H vs ds → IsL K H (vs.take n) (ds.take n)
  | 0, _, _, _ => .nil
  | _ + 1, _, _, .nil => .nil
  | n + 1, _, _, .cons a b => .cons a (IsL.tk n b)
theorem IsL.dr {K : Fg} {H : Hp} : ∀ (n : Nat) {vs : List V} {ds : List D}, IsL K H vs ds → IsL K H (vs.drop n) (ds.drop n)
  | 0, _, _, h => h
  | _ + 1, _, _, .nil => .nil
  | n + 1, _, _, .cons a b => IsL.dr n b
theorem IsL.rev {K : Fg} {H : Hp} : ∀ {vs : List V} {ds : List D}, IsL K H vs ds → IsL K H vs.reverse ds.reverse
  | _, _, .nil => .nil
  | _, _, .cons a b => by
    rw [List.reverse_cons, List.reverse_cons]
    exact (IsL.rev b).app (.cons a .nil)
theorem IsL.ints {K : Fg} {H : Hp} : ∀ (ns : List Int), IsL K H (ns.map V.int) (ns.map PyData.int)
  | [] => .nil
  | _ :: r => .cons (.int _) (IsL.ints r)

/-! ### the deck, the world -/
structure Dk where
  cells : List Int
  mixed : Int
  turn : Int
def DkAt (H : Hp) (a c : Addr) (k : Dk) : Prop :=
  H a = some (.dK [(Sum.inr "cells", .ref c), (Sum.inr "mixed", .int k.mixed), (Sum.inr "turn", .int k.turn)]) ∧ H c = some (.lst (k.cells.map V.int))
abbrev Dm := Option (Addr × Addr)
structure Wd (T : List Addr) (dm : Dm) (A : List Addr) (H : Hp) (k : Dk) : Prop where
  dom : ∀ b ∈ A, H b ≠ none
  tab : ∀ P ∈ T, GxR.TabG H P
  dk : ∀ a c, dm = some (a, c) → a ∈ A ∧ c ∈ A ∧ a ≠ c ∧ DkAt H a c k
def Ndm (dm : Dm) (b : Addr) : Prop := ∀ a c, dm = some (a, c) → b ≠ a ∧ b ≠ c
/-- behind a piece of the run: all stands but the deck and the tables -/
structure Lt (dm : Dm) (H H' : Hp) : Prop where
  keep : ∀ b o, H b = some o → isT o = false → Ndm dm b → H' b = some o
  dom : ∀ b, H b ≠ none → H' b ≠ none
theorem Lt.refl (dm : Dm) (H : Hp) : Lt dm H H := ⟨fun _ _ h _ _ => h, fun _ h => h⟩
theorem Lt.trans {dm : Dm} {H H1 H2 : Hp} (a : Lt dm H H1) (b : Lt dm H1 H2) : Lt dm H H2 :=
  ⟨fun c o h z n => b.keep c o (a.keep c o h z n) z n, fun c h => b.dom c (a.dom c h)⟩
theorem Lt.weak {dm : Dm} {H H1 : Hp} (a : Lt none H H1) : Lt dm H H1 := ⟨fun b o h z _ => a.keep b o h z fun _ _ e => (nomatch e), a.dom⟩
theorem Lt.new {dm : Dm} {H : Hp} {p : Addr} {o : HO} (hp : H p = none) : Lt dm H (upd H p o) := by
  refine ⟨fun b u h _ _ => ?_, fun b h => ?_⟩
  · rw [upd_ne (ne_of_none h hp)]; exact h
  · by_cases e : b = p
    · subst e; exact absurd hp h
    · rw [upd_ne e]; exact h
theorem Lt.kp {T : List Addr} {dm : Dm} {A : List Addr} {H H' : Hp} {k : Dk} (w : Wd T dm A H k) (l : Lt dm H H') : Kp (hide A H) (hide A H') := fun b o h z => by
  obtain ⟨hb, h⟩ := hide_some h
  rw [hide_out hb]
  refine l.keep b o h z fun a c e => ?_
  obtain ⟨h1, h2, _⟩ := w.dk a c e
  exact ⟨fun q => hb (q ▸ h1), fun q => hb (q ▸ h2)⟩
theorem tabG_new {H : Hp} {p P : Addr} {o : HO} (hp : H p = none) (h : GxR.TabG H P) : GxR.TabG (upd H p o) P := by
  obtain ⟨ps, e, t⟩ := h
  exact ⟨ps, by rw [upd_ne (ne_of_none e hp)]; exact e, t⟩
theorem Wd.new {T : List Addr} {dm : Dm} {A : List Addr} {H : Hp} {k : Dk} {p : Addr} {o : HO} (w : Wd T dm A H k) (hp : H p = none) : Wd T dm A (upd H p o) k := by
  refine ⟨fun b h => (Lt.new (dm := dm) hp).dom b (w.dom b h), fun P h => tabG_new hp (w.tab P h), fun a c e => ?_⟩
  obtain ⟨h1, h2, h3, h4, h5⟩ := w.dk a c e
  exact ⟨h1, h2, h3, by rw [upd_ne (ne_of_none h4 hp)]; exact h4, by rw [upd_ne (ne_of_none h5 hp)]; exact h5⟩
/-- the script: a known list, or one of the written part -/
def Scr (K : Fg) (H : Hp) (a : Addr) (ns : List Int) : Prop := (∃ ob, H a = some (.frz ob (.lst (ns.map V.int)))) ∨
  ∃ (o : Obj) (its : Array Value) (n : Nat), K.lookup a = some o ∧ o.cls = .type "list" ∧ o.dict = none ∧ o.data = .seq its n ∧ its.size ≤ sizeLine ∧ Vals (ns.map V.int) its.toList
theorem Scr.keep {K : Fg} {H H' : Hp} {a : Addr} {ns : List Int} (h : Scr K H a ns) (k : ∀ ob u, H a = some (.frz ob u) → H' a = some (.frz ob u)) : Scr K H' a ns := by
  rcases h with ⟨ob, e⟩ | h
  · exact .inl ⟨ob, k _ _ e⟩
  · exact .inr h
theorem Scr.sql {K : Fg} {H : Hp} {a : Addr} {ns : List Int} (h : Scr K H a ns) : SqL K H a (ns.map V.int) := by
  rcases h with ⟨ob, e⟩ | h
  · exact .inl (.inr ⟨ob, e⟩)
  · exact .inr h
theorem Scr.lt {K : Fg} {T : List Addr} {dm : Dm} {A : List Addr} {H H' : Hp} {k : Dk} {a : Addr} {ns : List Int} (h : Scr K H a ns) (w : Wd T dm A H k) (l : Lt dm H H') : Scr K H' a ns := h.keep fun ob u e =>
  l.keep a _ e rfl fun x y z => by
    obtain ⟨_, _, _, q⟩ := w.dk x y z
    obtain ⟨q1, q2⟩ := q
    exact ⟨fun q => by (rw [q, q1] at e; cases e), fun q => by (rw [q, q2] at e; cases e)⟩
theorem Scr.new {K : Fg} {H : Hp} {a p : Addr} {o : HO} {ns : List Int} (h : Scr K H a ns) (hp : ∀ ob u, H p ≠ some (.frz ob u)) : Scr K (upd H p o) a ns := h.keep fun ob u e => by
  rw [upd_ne fun q => hp ob u (by rw [← q]; exact e)]; exact e
/-- slots -/
inductive Sl where
  | un
  | dat (d : D)
  | deck
  | own (ds : List D)
  | scr (ns : List Int)
def IsS (K : Fg) (A0 : List Addr) (dm : Dm) (A : List Addr) (H : Hp) (v : V) : Sl → Prop
  | .un => False
  | .dat d => Is K (hide A H) v d
  | .deck => ∃ a c, dm = some (a, c) ∧ v = .ref a
  | .own ds => ∃ p vs, v = .ref p ∧ p ∉ A0 ∧ Ndm dm p ∧ H p = some (.lst vs) ∧ IsL K (hide A H) vs ds
  | .scr ns => ∃ a, v = .ref a ∧ Scr K H a ns
theorem IsS.lt {K : Fg} {T : List Addr} {A0 : List Addr} {dm : Dm} {A : List Addr} {H H' : Hp} {k : Dk} {v : V} {s : Sl} (h : IsS K A0 dm A H v s) (w : Wd T dm A H k) (l : Lt dm H H') : IsS K A0 dm A H' v s := by
  cases s with
  | un => exact h
  | dat d => exact Is.kp (l.kp w) h
  | deck => exact h
  | own ds =>
    obtain ⟨p, vs, e, n0, n, h1, h2⟩ := h
    exact ⟨p, vs, e, n0, n, l.keep _ _ h1 rfl n, IsL.kp (l.kp w) h2⟩
  | scr ns => obtain ⟨a, e, h⟩ := h; exact ⟨a, e, h.lt w l⟩
/-- what a slot holds -/
def SlotOk (K : Fg) (dm : Dm) (A0 : List Addr) (H0 : Hp) (A : List Addr) (H : Hp) (o : Option (Option V)) : Option Sl → Prop
  | some (.dat d) => ∃ v, o = some (some v) ∧ Is K (hide A H) v d
  | some .deck => ∃ a c, dm = some (a, c) ∧ o = some (some (.ref a))
  | some (.own ds) => ∃ p vs, o = some (some (.ref p)) ∧ p ∈ A ∧ p ∉ A0 ∧ H0 p = none ∧ H p = some (.lst vs) ∧ IsL K (hide A H) vs ds
  | some (.scr ns) => ∃ a, o = some (some (.ref a)) ∧ Scr K H a ns
  | _ => True
structure Sta (K : Fg) (T : List Addr) (dm : Dm) (A0 : List Addr) (H0 : Hp) (A : List Addr) (σ : List (Option V)) (H : Hp) (env : List Sl) (k : Dk) : Prop where
  wd : Wd T dm A H k
  lt : Lt dm H0 H
  sub : ∀ b ∈ A0, b ∈ A
  dom0 : ∀ b ∈ A0, H0 b ≠ none
  dm0 : ∀ a c, dm = some (a, c) → a ∈ A0 ∧ c ∈ A0
  len : σ.length = env.length
  slot : ∀ i : Nat, SlotOk K dm A0 H0 A H σ[i]? env[i]?
  uniq : ∀ (i j : Nat) (p : Addr) (ds es : List D), env[i]? = some (.own ds) → env[j]? = some (.own es) → σ[i]? = some (some (.ref p)) → σ[j]? = some (some (.ref p)) → i = j
/-- the state behind an expression: the heap has grown, the deck has turned -/
theorem Sta.at {K : Fg} {T : List Addr} {dm : Dm} {A0 : List Addr} {H0 : Hp} {A : List Addr} {σ : List (Option V)} {H H' : Hp} {env : List Sl} {k k' : Dk} (s : Sta K T dm A0 H0 A σ H env k) (w : Wd T dm A H' k') (l : Lt dm H H') : Sta K T dm A0 H0 A σ H' env k' := by
  refine ⟨w, s.lt.trans l, s.sub, s.dom0, s.dm0, s.len, fun i => ?_, s.uniq⟩
  have h := s.slot i
  cases e : env[i]? with
  | none => exact trivial
  | some q =>
    rw [e] at h
    cases q with
    | un => exact trivial
    | dat d => obtain ⟨v, h1, h2⟩ := h; exact ⟨v, h1, Is.kp (l.kp s.wd) h2⟩
    | deck => exact h
    | own ds =>
      obtain ⟨p, vs, h1, h2, h3, h4, h5, h6⟩ := h
      refine ⟨p, vs, h1, h2, h3, h4, l.keep _ _ h5 rfl fun a c e => ?_, IsL.kp (l.kp s.wd) h6⟩
      obtain ⟨q1, q2⟩ := s.dm0 a c e
      exact ⟨fun z => h3 (z ▸ q1), fun z => h3 (z ▸ q2)⟩
    | scr ns => obtain ⟨a, h1, h2⟩ := h; exact ⟨a, h1, h2.lt s.wd l⟩
theorem Sta.new {K : Fg} {T : List Addr} {dm : Dm} {A0 : List Addr} {H0 : Hp} {A : List Addr} {σ : List (Option V)} {H : Hp} {env : List Sl} {k : Dk} {p : Addr} {o : HO} (s : Sta K T dm A0 H0 A σ H env k) (hp : H p = none) : Sta K T dm A0 H0 A σ (upd H p o) env k :=
  s.at (s.wd.new hp) (Lt.new hp)

/-! ### expressions over data -/
abbrev Fe := List Sl → Dk → Option (Sl × Dk)
abbrev Fl := List Sl → Dk → Option (List Sl × Dk)
abbrev Ft := List Sl → Dk → Option (Bool × Dk)
def DE (K : Fg) (T : List Addr) (t : TE) (f : Fe) : Prop := ∀ dm A0 H0 A σ H env k (Q : VK), Sta K T dm A0 H0 A σ H env k → ∀ s k', f env k = some (s, k') →
  (∀ v H', Sta K T dm A0 H0 A σ H' env k' → Lt dm H H' → IsS K A0 dm A H' v s → Q v H') → t σ H Q
def DT (K : Fg) (T : List Addr) (t : TT) (f : Ft) : Prop := ∀ dm A0 H0 A σ H env k (Q : Bool → Hp → Prop), Sta K T dm A0 H0 A σ H env k → ∀ b k', f env k = some (b, k') →
  (∀ H', Sta K T dm A0 H0 A σ H' env k' → Lt dm H H' → Q b H') → t σ H Q
/-- paired slots -/
inductive IsSL (K : Fg) (A0 : List Addr) (dm : Dm) (A : List Addr) (H : Hp) : List V → List Sl → Prop
  | nil : IsSL K A0 dm A H [] []
  | cons {v vs s ss} : IsS K A0 dm A H v s → IsSL K A0 dm A H vs ss → IsSL K A0 dm A H (v :: vs) (s :: ss)
def DA (K : Fg) (T : List Addr) (t : TA) (f : Fl) : Prop := ∀ dm A0 H0 A σ H env k (Q : List V → Hp → Prop), Sta K T dm A0 H0 A σ H env k → ∀ s k', f env k = some (s, k') →
  (∀ vs H', Sta K T dm A0 H0 A σ H' env k' → Lt dm H H' → IsSL K A0 dm A H' vs s → Q vs H') → t σ H Q
section
variable {K : Fg} {T : List Addr}
def fVar (i : Nat) : Fe := fun env k => match env[i]? with
  | some .un => none
  | some s => some (s, k)
  | none => none
theorem de_var (i : Nat) : DE K T (tVar i) (fVar i) := by
  intro dm A0 H0 A σ H env k Q S s k' hf hQ
  have h := S.slot i
  unfold fVar at hf
  cases e : env[i]? with
  | none => rw [e] at hf; cases hf
  | some q =>
    rw [e] at hf h
    cases q with
    | un => cases hf
    | dat d => cases hf; obtain ⟨v, h1, h2⟩ := h; exact ⟨v, h1, hQ v H S (Lt.refl _ _) h2⟩
    | deck => cases hf; obtain ⟨a, c, h1, h2⟩ := h; exact ⟨_, h2, hQ _ H S (Lt.refl _ _) ⟨a, c, h1, rfl⟩⟩
    | own ds =>
      cases hf
      obtain ⟨p, vs, h1, h2, h3, h4, h5, h6⟩ := h
      refine ⟨_, h1, hQ _ H S (Lt.refl _ _) ⟨p, vs, rfl, h3, fun a c e => ?_, h5, h6⟩⟩
      obtain ⟨q1, q2⟩ := S.dm0 a c e
      exact ⟨fun z => h3 (z ▸ q1), fun z => h3 (z ▸ q2)⟩
    | scr ns => cases hf; obtain ⟨a, h1, h2⟩ := h; exact ⟨_, h1, hQ _ H S (Lt.refl _ _) ⟨a, rfl, h2⟩⟩
def fC (d : D) : Fe := fun _ k => some (.dat d, k)
theorem de_c {v : V} {d : D} (h : ∀ H, Is K H v d) : DE K T (tC v) (fC d) := by
  intro dm A0 H0 A σ H env k Q S s k' hf hQ
  cases hf
  exact hQ v H S (Lt.refl _ _) (h _)
def f2 (g : Sl → Sl → Option Sl) (f1 f2 : Fe) : Fe := fun env k => (f1 env k).bind fun p => (f2 env p.2).bind fun q => (g p.1 q.1).map fun s => (s, q.2)
/-- two operands, the outcome pure -/
theorem de_bin {ta tb : TE} {f1 f2' : Fe} {g : Sl → Sl → Option Sl} {r : R2} (h1 : DE K T ta f1) (h2 : DE K T tb f2')
    (hr : ∀ dm A0 H0 A σ H env k x y a b s (Q : VK), Sta K T dm A0 H0 A σ H env k → IsS K A0 dm A H x a → IsS K A0 dm A H y b → g a b = some s →
      (∀ v H', Sta K T dm A0 H0 A σ H' env k → Lt dm H H' → IsS K A0 dm A H' v s → Q v H') → r x y H Q) : DE K T (tOp r ta tb) (f2 g f1 f2') := by
  intro dm A0 H0 A σ H env k Q S s k' hf hQ
  unfold f2 at hf
  cases e1 : f1 env k with
  | none => rw [e1] at hf; cases hf
  | some p =>
    rw [e1] at hf
    cases e2 : f2' env p.2 with
    | none => simp only [Option.bind_some, e2, Option.bind_none] at hf; cases hf
    | some q =>
      simp only [Option.bind_some, e2] at hf
      cases e3 : g p.1 q.1 with
      | none => rw [e3] at hf; cases hf
      | some z =>
        rw [e3] at hf
        cases hf
        refine h1 dm A0 H0 A σ H env k _ S p.1 p.2 e1 fun x H1 S1 l1 i1 => ?_
        refine h2 dm A0 H0 A σ H1 env p.2 _ S1 q.1 q.2 e2 fun y H2 S2 l2 i2 => ?_
        exact hr dm A0 H0 A σ H2 env q.2 x y p.1 q.1 _ Q S2 (i1.lt S1.wd l2) i2 e3 fun v H3 S3 l3 i3 => hQ v H3 S3 ((l1.trans l2).trans l3) i3
/-- two ints -/
def gII (c : Int → Int → Bool) (g : Int → Int → D) : Sl → Sl → Option Sl
  | .dat (.int i), .dat (.int j) => if c i j = true then some (.dat (g i j)) else none
  | _, _ => none
theorem is_int {K : Fg} {A0 : List Addr} {dm : Dm} {A : List Addr} {H : Hp} {x : V} {i : Int} (h : IsS K A0 dm A H x (.dat (.int i))) : x = .int i := by
  cases (show Is K (hide A H) x (.int i) from h) with
  | int => rfl
theorem gII_some {c : Int → Int → Bool} {g : Int → Int → D} {a b s : Sl} (h : gII c g a b = some s) : ∃ i j, a = .dat (.int i) ∧ b = .dat (.int j) ∧ c i j = true ∧ s = .dat (g i j) := by
  unfold gII at h
  split at h
  · rename_i i j
    by_cases hc : c i j = true
    · rw [if_pos hc] at h; cases h; exact ⟨i, j, rfl, rfl, hc, rfl⟩
    · rw [if_neg hc] at h; cases h
  · cases h
theorem de_ii {ta tb : TE} {f1 f2' : Fe} {c : Int → Int → Bool} {g : Int → Int → D} {g' : Int → Int → V} {r : R2} (h1 : DE K T ta f1) (h2 : DE K T tb f2')
    (hr : ∀ i j H (Q : VK), c i j = true → Q (g' i j) H → r (.int i) (.int j) H Q) (hg : ∀ i j H, Is K H (g' i j) (g i j)) : DE K T (tOp r ta tb) (f2 (gII c g) f1 f2') := by
  refine de_bin h1 h2 ?_
  intro dm A0 H0 A σ H env k x y a b s Q S i1 i2 e hQ
  obtain ⟨i, j, rfl, rfl, hc, rfl⟩ := gII_some e
  rw [is_int i1, is_int i2]
  exact hr i j H Q hc (hQ _ H S (Lt.refl _ _) (hg i j _))
def c0 : Int → Int → Bool := fun _ _ => true
def cMul (i j : Int) : Bool := decide (i.natAbs.log2 + j.natAbs.log2 < 1000000)
def cDiv (_ j : Int) : Bool := decide (0 < j) && decide (j.natAbs.log2 < 9000)
def cMod (_ j : Int) : Bool := decide (j ≠ 0)
def fAdd : Fe → Fe → Fe := f2 (gII c0 fun i j => .int (i + j))
def fSub : Fe → Fe → Fe := f2 (gII c0 fun i j => .int (i - j))
def fMul : Fe → Fe → Fe := f2 (gII cMul fun i j => .int (i * j))
def fDiv : Fe → Fe → Fe := f2 (gII cDiv fun i j => .int (i / j))
def fMod : Fe → Fe → Fe := f2 (gII cMod fun i j => .int (i.fmod j))
variable {ta tb : TE} {f g : Fe}
theorem de_add (h1 : DE K T ta f) (h2 : DE K T tb g) : DE K T (tOp (rI0 fun i j => .int (i + j)) ta tb) (fAdd f g) := de_ii h1 h2 (fun i j H Q _ q => ⟨i, j, rfl, rfl, q⟩) fun _ _ _ => .int _
theorem de_sub (h1 : DE K T ta f) (h2 : DE K T tb g) : DE K T (tOp (rI0 fun i j => .int (i - j)) ta tb) (fSub f g) := de_ii h1 h2 (fun i j H Q _ q => ⟨i, j, rfl, rfl, q⟩) fun _ _ _ => .int _
theorem de_mul (h1 : DE K T ta f) (h2 : DE K T tb g) : DE K T (tOp (rI CMulW fun i j => .int (i * j)) ta tb) (fMul f g) := de_ii h1 h2 (fun i j H Q c q => ⟨i, j, rfl, rfl, (show CMulW i j from (of_decide_eq_true (show decide (i.natAbs.log2 + j.natAbs.log2 < 1000000) = true from c) : i.natAbs.log2 + j.natAbs.log2 < 1000000)), q⟩) fun _ _ _ => .int _
theorem de_div (h1 : DE K T ta f) (h2 : DE K T tb g) : DE K T (tOp (rI CDivW fun i j => .int (i / j)) ta tb) (fDiv f g) := de_ii h1 h2 (fun i j H Q c q => ⟨i, j, rfl, rfl, by
  unfold cDiv at c; simp only [Bool.and_eq_true, decide_eq_true_eq] at c; exact c, q⟩) fun _ _ _ => .int _
theorem de_mod (h1 : DE K T ta f) (h2 : DE K T tb g) : DE K T (tOp (rI (fun _ j => j ≠ 0) fun i j => .int (i.fmod j)) ta tb) (fMod f g) := de_ii h1 h2 (fun i j H Q c q => ⟨i, j, rfl, rfl, by unfold cMod at c; exact of_decide_eq_true c, q⟩) fun _ _ _ => .int _
def fCmp (p : Int → Int → Bool) : Fe → Fe → Fe := f2 (gII c0 fun i j => .bool (p i j))
theorem de_cmp {p : Int → Int → Bool} (h1 : DE K T ta f) (h2 : DE K T tb g) : DE K T (tOp (rI0 fun i j => .bl (p i j)) ta tb) (fCmp p f g) := de_ii h1 h2 (fun i j H Q _ q => ⟨i, j, rfl, rfl, q⟩) fun _ _ _ => .bl _
end
end DL
set_option Elab.async false
set_option linter.all false
set_option maxRecDepth 100000
set_option maxHeartbeats 4000000
namespace DL
open PySem PySem.Spec PyProof.Rows L2
section
variable {K : Fg} {T : List Addr} {ta tb : TE} {f g : Fe}
/-! ### new objects -/
theorem notA {dm : Dm} {A : List Addr} {H : Hp} {k : Dk} {p : Addr} (w : Wd T dm A H k) (hp : H p = none) : p ∉ A := fun h => w.dom p h hp
theorem kp_new {dm : Dm} {A : List Addr} {H : Hp} {k : Dk} {p : Addr} {o : HO} (w : Wd T dm A H k) (hp : H p = none) : Kp (hide A H) (hide A (upd H p o)) := (Lt.new (dm := dm) hp).kp w
theorem mk_tup {dm : Dm} {A : List Addr} {H : Hp} {k : Dk} {p : Addr} {vs : List V} {ds : List D} (w : Wd T dm A H k) (hp : H p = none) (h : IsL K (hide A H) vs ds) : Is K (hide A (upd H p (.tup vs))) (.ref p) (.tuple ds) :=
  .tup (.inl (.inl (by rw [hide_out (notA w hp)]; exact upd_same))) (IsL.kp (kp_new w hp) h)
theorem mk_lst {dm : Dm} {A : List Addr} {H : Hp} {k : Dk} {p : Addr} {vs : List V} {ds : List D} (w : Wd T dm A H k) (hp : H p = none) (h : IsL K (hide A H) vs ds) : Is K (hide A (upd H p (.lst vs))) (.ref p) (.list ds) :=
  .lst (by rw [hide_out (notA w hp)]; exact upd_same) (IsL.kp (kp_new w hp) h)
/-! ### what a slot's value is in the heap -/
def asL : Sl → Option (List D)
  | .dat (.list ds) => some ds
  | .own ds => some ds
  | _ => none
def asT : Sl → Option (List D)
  | .dat (.tuple ds) => some ds
  | _ => none
theorem is_lst {A0 : List Addr} {dm : Dm} {A : List Addr} {H : Hp} {v : V} {s : Sl} {ds : List D} (h : IsS K A0 dm A H v s) (e : asL s = some ds) : ∃ p vs, v = .ref p ∧ H p = some (.lst vs) ∧ IsL K (hide A H) vs ds := by
  cases s with
  | un => exact h.elim
  | deck => cases e
  | scr ns => cases e
  | own es => cases e; obtain ⟨p, vs, h1, _, _, h2, h3⟩ := h; exact ⟨p, vs, h1, h2, h3⟩
  | dat d =>
    cases d with
    | list es =>
      cases e
      cases (show Is K (hide A H) v (.list ds) from h) with
      | lst h1 h2 => exact ⟨_, _, rfl, (hide_some h1).2, h2⟩
    | _ => cases e
theorem sqt_out {A : List Addr} {H : Hp} {a : Addr} {xs : List V} (h : SqT K (hide A H) a xs) : SqT K H a xs := by
  rcases h with (h | ⟨o, h⟩) | h
  · exact .inl (.inl (hide_some h).2)
  · exact .inl (.inr ⟨o, (hide_some h).2⟩)
  · exact .inr h
theorem is_tup {A0 : List Addr} {dm : Dm} {A : List Addr} {H : Hp} {v : V} {s : Sl} {ds : List D} (h : IsS K A0 dm A H v s) (e : asT s = some ds) : ∃ p vs, v = .ref p ∧ SqT K H p vs ∧ SqT K (hide A H) p vs ∧ IsL K (hide A H) vs ds := by
  cases s with
  | un => exact h.elim
  | deck => cases e
  | scr ns => cases e
  | own es => cases e
  | dat d =>
    cases d with
    | tuple es =>
      cases e
      cases (show Is K (hide A H) v (.tuple ds) from h) with
      | tup h1 h2 => exact ⟨_, _, rfl, sqt_out h1, h1, h2⟩
    | _ => cases e
/-! ### one operand -/
def f1 (g : Sl → Option Sl) (f : Fe) : Fe := fun env k => (f env k).bind fun p => (g p.1).map fun s => (s, p.2)
theorem f1_some {g : Sl → Option Sl} {env : List Sl} {k k' : Dk} {s : Sl} (h : f1 g f env k = some (s, k')) : ∃ a, f env k = some (a, k') ∧ g a = some s := by
  unfold f1 at h
  cases e1 : f env k with
  | none => rw [e1] at h; cases h
  | some p =>
    rw [e1] at h
    simp only [Option.bind_some] at h
    cases e2 : g p.1 with
    | none => rw [e2] at h; cases h
    | some z => rw [e2] at h; cases h; exact ⟨p.1, rfl, e2⟩
def gI (c : Int → Bool) (g : Int → D) : Sl → Option Sl
  | .dat (.int i) => if c i = true then some (.dat (g i)) else none
  | _ => none
theorem gI_some {c : Int → Bool} {g : Int → D} {a s : Sl} (h : gI c g a = some s) : ∃ i, a = .dat (.int i) ∧ c i = true ∧ s = .dat (g i) := by
  unfold gI at h
  split at h
  · rename_i i
    by_cases hc : c i = true
    · rw [if_pos hc] at h; cases h; exact ⟨i, rfl, hc, rfl⟩
    · rw [if_neg hc] at h; cases h
  · cases h
def fNeg : Fe → Fe := f1 (gI (fun _ => true) fun i => .int (-i))
theorem de_neg (h1 : DE K T ta f) : DE K T (tUn (rU fun i => .int (-i)) ta) (fNeg f) := by
  intro dm A0 H0 A σ H env k Q S s k' hf hQ
  obtain ⟨a, e1, e2⟩ := f1_some hf
  obtain ⟨i, rfl, _, rfl⟩ := gI_some e2
  refine h1 dm A0 H0 A σ H env k _ S _ _ e1 fun x H1 S1 l1 i1 => ?_
  rw [is_int i1]
  exact ⟨i, rfl, hQ _ H1 S1 l1 (Is.int _)⟩
/-! ### tests -/
def fTest (f : Fe) : Ft := fun env k => (f env k).bind fun p => match p.1 with
  | .dat (.bool b) => some (b, p.2)
  | _ => none
theorem fTest_some {env : List Sl} {k k' : Dk} {b : Bool} (h : fTest f env k = some (b, k')) : f env k = some (.dat (.bool b), k') := by
  unfold fTest at h
  cases e1 : f env k with
  | none => rw [e1] at h; cases h
  | some p =>
    rw [e1] at h
    obtain ⟨s, k1⟩ := p
    simp only [Option.bind_some] at h
    cases s with
    | dat d =>
      cases d with
      | bool b' => cases h; rfl
      | _ => cases h
    | _ => cases h
theorem is_bl {A0 : List Addr} {dm : Dm} {A : List Addr} {H : Hp} {x : V} {b : Bool} (h : IsS K A0 dm A H x (.dat (.bool b))) : x = .bl b := by
  cases (show Is K (hide A H) x (.bool b) from h) with
  | bl => rfl
theorem dt_test (h1 : DE K T ta f) : DT K T (tTest ta) (fTest f) := by
  intro dm A0 H0 A σ H env k Q S b k' hf hQ
  refine h1 dm A0 H0 A σ H env k _ S _ _ (fTest_some hf) fun x H1 S1 l1 i1 => ?_
  exact ⟨b, is_bl i1, hQ H1 S1 l1⟩
theorem dt_b (h1 : DE K T ta f) : DT K T (tB ta) (fTest f) := dt_test h1
def tAndF (f g : Ft) : Ft := fun env k => (f env k).bind fun p => if p.1 = true then g env p.2 else some (false, p.2)
def tOrF (f g : Ft) : Ft := fun env k => (f env k).bind fun p => if p.1 = true then some (true, p.2) else g env p.2
def tNotF (f : Ft) : Ft := fun env k => (f env k).map fun p => (!p.1, p.2)
variable {ca cb : TT} {u w : Ft}
theorem dt_and (h1 : DT K T ca u) (h2 : DT K T cb w) : DT K T (tAnd ca cb) (tAndF u w) := by
  intro dm A0 H0 A σ H env k Q S b k' hf hQ
  unfold tAndF at hf
  cases e1 : u env k with
  | none => rw [e1] at hf; cases hf
  | some p =>
    obtain ⟨c, k1⟩ := p
    rw [e1] at hf
    simp only [Option.bind_some] at hf
    refine h1 dm A0 H0 A σ H env k _ S c k1 e1 fun H1 S1 l1 => ?_
    cases c with
    | true => exact iteT (h2 dm A0 H0 A σ H1 env k1 _ S1 b k' (by simpa using hf) fun H2 S2 l2 => hQ H2 S2 (l1.trans l2))
    | false =>
      simp at hf
      obtain ⟨rfl, rfl⟩ := hf
      exact iteF (hQ H1 S1 l1)
theorem dt_or (h1 : DT K T ca u) (h2 : DT K T cb w) : DT K T (tOr ca cb) (tOrF u w) := by
  intro dm A0 H0 A σ H env k Q S b k' hf hQ
  unfold tOrF at hf
  cases e1 : u env k with
  | none => rw [e1] at hf; cases hf
  | some p =>
    obtain ⟨c, k1⟩ := p
    rw [e1] at hf
    simp only [Option.bind_some] at hf
    refine h1 dm A0 H0 A σ H env k _ S c k1 e1 fun H1 S1 l1 => ?_
    cases c with
    | false => exact iteF (h2 dm A0 H0 A σ H1 env k1 _ S1 b k' (by simpa using hf) fun H2 S2 l2 => hQ H2 S2 (l1.trans l2))
    | true =>
      simp at hf
      obtain ⟨rfl, rfl⟩ := hf
      exact iteT (hQ H1 S1 l1)
theorem dt_not (h1 : DT K T ca u) : DT K T (tNot ca) (tNotF u) := by
  intro dm A0 H0 A σ H env k Q S b k' hf hQ
  unfold tNotF at hf
  cases e1 : u env k with
  | none => rw [e1] at hf; cases hf
  | some p =>
    rw [e1] at hf
    cases hf
    exact h1 dm A0 H0 A σ H env k _ S p.1 p.2 e1 fun H1 S1 l1 => hQ H1 S1 l1
/-- and, or, not as values, of bools -/
def fAnd (f g : Fe) : Fe := fun env k => (fTest f env k).bind fun p => if p.1 = true then g env p.2 else some (.dat (.bool false), p.2)
def fOr (f g : Fe) : Fe := fun env k => (fTest f env k).bind fun p => if p.1 = true then some (.dat (.bool true), p.2) else g env p.2
def fNot (f : Fe) : Fe := fun env k => (fTest f env k).map fun p => (.dat (.bool (!p.1)), p.2)
theorem de_and (h1 : DE K T ta f) (h2 : DE K T tb g) : DE K T (tAndV ta tb) (fAnd f g) := by
  intro dm A0 H0 A σ H env k Q S s k' hf hQ
  unfold fAnd at hf
  cases e1 : fTest f env k with
  | none => rw [e1] at hf; cases hf
  | some p =>
    obtain ⟨c, k1⟩ := p
    rw [e1] at hf
    simp only [Option.bind_some] at hf
    refine h1 dm A0 H0 A σ H env k _ S _ _ (fTest_some e1) fun x H1 S1 l1 i1 => ⟨c, is_bl i1, ?_⟩
    cases c with
    | true => exact iteT (h2 dm A0 H0 A σ H1 env k1 _ S1 s k' (by simpa using hf) fun v H2 S2 l2 i2 => hQ v H2 S2 (l1.trans l2) i2)
    | false =>
      simp at hf
      obtain ⟨rfl, rfl⟩ := hf
      exact iteF (hQ _ H1 S1 l1 (Is.bl _))
theorem de_or (h1 : DE K T ta f) (h2 : DE K T tb g) : DE K T (tOrV ta tb) (fOr f g) := by
  intro dm A0 H0 A σ H env k Q S s k' hf hQ
  unfold fOr at hf
  cases e1 : fTest f env k with
  | none => rw [e1] at hf; cases hf
  | some p =>
    obtain ⟨c, k1⟩ := p
    rw [e1] at hf
    simp only [Option.bind_some] at hf
    refine h1 dm A0 H0 A σ H env k _ S _ _ (fTest_some e1) fun x H1 S1 l1 i1 => ⟨c, is_bl i1, ?_⟩
    cases c with
    | false => exact iteF (h2 dm A0 H0 A σ H1 env k1 _ S1 s k' (by simpa using hf) fun v H2 S2 l2 i2 => hQ v H2 S2 (l1.trans l2) i2)
    | true =>
      simp at hf
      obtain ⟨rfl, rfl⟩ := hf
      exact iteT (hQ _ H1 S1 l1 (Is.bl _))
theorem de_not (h1 : DE K T ta f) : DE K T (tNotV ta) (fNot f) := by
  intro dm A0 H0 A σ H env k Q S s k' hf hQ
  unfold fNot at hf
  cases e1 : fTest f env k with
  | none => rw [e1] at hf; cases hf
  | some p =>
    rw [e1] at hf
    cases hf
    exact h1 dm A0 H0 A σ H env k _ S _ _ (fTest_some e1) fun x H1 S1 l1 i1 => ⟨p.1, is_bl i1, hQ _ H1 S1 l1 (Is.bl _)⟩
def fIf (u : Ft) (f g : Fe) : Fe := fun env k => (u env k).bind fun p => if p.1 = true then f env p.2 else g env p.2
theorem de_if (h0 : DT K T ca u) (h1 : DE K T ta f) (h2 : DE K T tb g) : DE K T (tIf ca ta tb) (fIf u f g) := by
  intro dm A0 H0 A σ H env k Q S s k' hf hQ
  unfold fIf at hf
  cases e1 : u env k with
  | none => rw [e1] at hf; cases hf
  | some p =>
    obtain ⟨c, k1⟩ := p
    rw [e1] at hf
    simp only [Option.bind_some] at hf
    refine h0 dm A0 H0 A σ H env k _ S c k1 e1 fun H1 S1 l1 => ?_
    cases c with
    | true => exact iteT (h1 dm A0 H0 A σ H1 env k1 _ S1 s k' (by simpa using hf) fun v H2 S2 l2 i2 => hQ v H2 S2 (l1.trans l2) i2)
    | false => exact iteF (h2 dm A0 H0 A σ H1 env k1 _ S1 s k' (by simpa using hf) fun v H2 S2 l2 i2 => hQ v H2 S2 (l1.trans l2) i2)
/-! ### a op b op' c, of ints -/
def fChain (p q : Int → Int → Bool) (f g h : Fe) : Fe := fun env k => (f env k).bind fun x => (g env x.2).bind fun y => match x.1, y.1 with
  | .dat (.int i), .dat (.int j) => if p i j = true then (h env y.2).bind fun z => match z.1 with
      | .dat (.int l) => some (.dat (.bool (q j l)), z.2)
      | _ => none
    else some (.dat (.bool false), y.2)
  | _, _ => none
theorem de_chain {tc : TE} {h : Fe} {p q : Int → Int → Bool} (h1 : DE K T ta f) (h2 : DE K T tb g) (h3 : DE K T tc h) :
    DE K T (tChain (rI0 fun i j => .bl (p i j)) (rI0 fun i j => .bl (q i j)) ta tb tc) (fChain p q f g h) := by
  intro dm A0 H0 A σ H env k Q S s k' hf hQ
  unfold fChain at hf
  cases e1 : f env k with
  | none => rw [e1] at hf; cases hf
  | some x =>
    obtain ⟨x, k1⟩ := x
    rw [e1] at hf
    simp only [Option.bind_some] at hf
    cases e2 : g env k1 with
    | none => rw [e2] at hf; cases hf
    | some y =>
      obtain ⟨y, k2⟩ := y
      rw [e2] at hf
      simp only [Option.bind_some] at hf
      split at hf
      · rename_i i j
        refine h1 dm A0 H0 A σ H env k _ S _ _ e1 fun v H1 S1 l1 i1 => ?_
        refine h2 dm A0 H0 A σ H1 env k1 _ S1 _ _ e2 fun v' H2 S2 l2 i2 => ?_
        rw [is_int i1, is_int i2]
        refine ⟨i, j, rfl, rfl, p i j, rfl, ?_⟩
        by_cases hp : p i j = true
        · rw [hp] at hf ⊢
          refine iteT ?_
          simp only [if_true] at hf
          cases e3 : h env k2 with
          | none => rw [e3] at hf; cases hf
          | some z =>
            obtain ⟨z, k3⟩ := z
            rw [e3] at hf
            simp only [Option.bind_some] at hf
            split at hf
            · rename_i l
              cases hf
              refine h3 dm A0 H0 A σ H2 env k2 _ S2 _ _ e3 fun v'' H3 S3 l3 i3 => ?_
              rw [is_int i3]
              exact ⟨j, l, rfl, rfl, hQ _ H3 S3 ((l1.trans l2).trans l3) (Is.bl _)⟩
            · cases hf
        · have hp' : p i j = false := by simpa using hp
          rw [hp'] at hf ⊢
          simp only [Bool.false_eq_true, if_false] at hf
          cases hf
          exact iteF (hQ _ H2 S2 (l1.trans l2) (Is.bl _))
      · cases hf
/-! ### argument lists, displays -/
def fNil : Fl := fun _ k => some ([], k)
def fCons (f : Fe) (h : Fl) : Fl := fun env k => (f env k).bind fun p => (h env p.2).map fun q => (p.1 :: q.1, q.2)
theorem da_nil : DA K T tNil fNil := by
  intro dm A0 H0 A σ H env k Q S s k' hf hQ
  cases hf
  exact hQ [] H S (Lt.refl _ _) .nil
theorem da_cons {tr : TA} {h : Fl} (h1 : DE K T ta f) (h2 : DA K T tr h) : DA K T (tCons ta tr) (fCons f h) := by
  intro dm A0 H0 A σ H env k Q S s k' hf hQ
  unfold fCons at hf
  cases e1 : f env k with
  | none => rw [e1] at hf; cases hf
  | some p =>
    obtain ⟨x, k1⟩ := p
    rw [e1] at hf
    simp only [Option.bind_some] at hf
    cases e2 : h env k1 with
    | none => rw [e2] at hf; cases hf
    | some q =>
      rw [e2] at hf
      cases hf
      refine h1 dm A0 H0 A σ H env k _ S _ _ e1 fun v H1 S1 l1 i1 => ?_
      exact h2 dm A0 H0 A σ H1 env k1 _ S1 _ _ e2 fun vs H2 S2 l2 i2 => hQ _ H2 S2 (l1.trans l2) (.cons (i1.lt S1.wd l2) i2)
/-- all are data -/
def dats : List Sl → Option (List D)
  | [] => some []
  | .dat d :: r => (dats r).map fun l => d :: l
  | _ => none
theorem isl_dats {A0 : List Addr} {dm : Dm} {A : List Addr} {H : Hp} : ∀ {vs : List V} {ss : List Sl} {ds : List D}, IsSL K A0 dm A H vs ss → dats ss = some ds → IsL K (hide A H) vs ds
  | _, _, _, .nil, e => by cases e; exact .nil
  | _, _, _, .cons (s := s) (ss := ss) h l, e => by
    cases s with
    | dat d =>
      unfold dats at e
      cases e2 : dats ss with
      | none => rw [e2] at e; cases e
      | some z => rw [e2] at e; cases e; exact .cons h (isl_dats l e2)
    | _ => cases e
def fSeq (c : List D → D) (h : Fl) : Fe := fun env k => (h env k).bind fun p => (dats p.1).bind fun ds => if ds.length ≤ 1000000 then some (.dat (c ds), p.2) else none
theorem fSeq_some {c : List D → D} {h : Fl} {env : List Sl} {k k' : Dk} {s : Sl} (e : fSeq c h env k = some (s, k')) : ∃ ss ds, h env k = some (ss, k') ∧ dats ss = some ds ∧ ds.length ≤ 1000000 ∧ s = .dat (c ds) := by
  unfold fSeq at e
  cases e1 : h env k with
  | none => rw [e1] at e; cases e
  | some p =>
    obtain ⟨ss, k1⟩ := p
    rw [e1] at e
    simp only [Option.bind_some] at e
    cases e2 : dats ss with
    | none => rw [e2] at e; cases e
    | some ds =>
      rw [e2] at e
      simp only [Option.bind_some] at e
      by_cases hc : ds.length ≤ 1000000
      · rw [if_pos hc] at e; cases e; exact ⟨ss, ds, rfl, e2, hc, rfl⟩
      · rw [if_neg hc] at e; cases e
theorem line_le {n : Nat} (h : n ≤ 1000000) : n ≤ sizeLine := Nat.le_trans h (by decide)
theorem de_tup {t : TA} {h : Fl} (h1 : DA K T t h) : DE K T (tTup t) (fSeq .tuple h) := by
  intro dm A0 H0 A σ H env k Q S s k' hf hQ
  obtain ⟨ss, ds, e1, e2, e3, rfl⟩ := fSeq_some hf
  refine h1 dm A0 H0 A σ H env k _ S _ _ e1 fun vs H1 S1 l1 i1 => ?_
  have il := isl_dats i1 e2
  refine ⟨line_le (by rw [il.len]; exact e3), fun p hp => hQ _ _ (S1.new hp) (l1.trans (Lt.new hp)) (mk_tup S1.wd hp il)⟩
theorem de_lst {t : TA} {h : Fl} (h1 : DA K T t h) : DE K T (tLst t) (fSeq .list h) := by
  intro dm A0 H0 A σ H env k Q S s k' hf hQ
  obtain ⟨ss, ds, e1, e2, e3, rfl⟩ := fSeq_some hf
  refine h1 dm A0 H0 A σ H env k _ S _ _ e1 fun vs H1 S1 l1 i1 => ?_
  have il := isl_dats i1 e2
  refine ⟨line_le (by rw [il.len]; exact e3), fun p hp => hQ _ _ (S1.new hp) (l1.trans (Lt.new hp)) (mk_lst S1.wd hp il)⟩
/-! ### items -/
def gIx (as : Sl → Option (List D)) : Sl → Sl → Option Sl := fun a b => match b with
  | .dat (.int i) => (as a).bind fun ds => (atI ds i).map .dat
  | _ => none
theorem gIx_some {as : Sl → Option (List D)} {a b s : Sl} (h : gIx as a b = some s) : ∃ i ds d, b = .dat (.int i) ∧ as a = some ds ∧ atI ds i = some d ∧ s = .dat d := by
  unfold gIx at h
  split at h
  · rename_i i
    cases e1 : as a with
    | none => rw [e1] at h; cases h
    | some ds =>
      rw [e1] at h
      simp only [Option.bind_some] at h
      cases e2 : atI ds i with
      | none => rw [e2] at h; cases h
      | some d => rw [e2] at h; cases h; exact ⟨i, ds, d, rfl, rfl, e2, rfl⟩
  · cases h
theorem isl_at {H : Hp} {vs : List V} {ds : List D} {i : Int} {d : D} (h : IsL K H vs ds) (e : atI ds i = some d) : ∃ v, atI vs i = some v ∧ Is K H v d := by
  unfold atI at e ⊢
  rw [h.len]
  cases e1 : ixN ds.length i with
  | none => rw [e1] at e; cases e
  | some j =>
    rw [e1] at e
    simp only [Option.bind_some] at e ⊢
    obtain ⟨v, h1, h2⟩ := h.get e
    exact ⟨v, h1, h2⟩
def fIxT : Fe → Fe → Fe := f2 (gIx asT)
def fIxL : Fe → Fe → Fe := f2 (gIx asL)
theorem de_ixT (h1 : DE K T ta f) (h2 : DE K T tb g) : DE K T (tOp (rIxT K) ta tb) (fIxT f g) := de_bin h1 h2 (by
  intro dm A0 H0 A σ H env k x y a b s Q S i1 i2 e hQ
  obtain ⟨i, ds, d, rfl, e1, e2, rfl⟩ := gIx_some e
  rw [is_int i2]
  obtain ⟨p, vs, rfl, h1, _, h2⟩ := is_tup i1 e1
  obtain ⟨v, h3, h4⟩ := isl_at h2 e2
  exact ⟨p, vs, i, v, rfl, rfl, h1, h3, hQ _ H S (Lt.refl _ _) h4⟩)
theorem de_ixL (h1 : DE K T ta f) (h2 : DE K T tb g) : DE K T (tOp (rIxL K) ta tb) (fIxL f g) := de_bin h1 h2 (by
  intro dm A0 H0 A σ H env k x y a b s Q S i1 i2 e hQ
  obtain ⟨i, ds, d, rfl, e1, e2, rfl⟩ := gIx_some e
  rw [is_int i2]
  obtain ⟨p, vs, rfl, h1, h2⟩ := is_lst i1 e1
  obtain ⟨v, h3, h4⟩ := isl_at h2 e2
  exact ⟨p, vs, i, v, rfl, rfl, .inl (.inl h1), h3, hQ _ H S (Lt.refl _ _) h4⟩)
/-- of a list or a tuple -/
def asQ (s : Sl) : Option (List D) := match asL s with
  | some ds => some ds
  | none => asT s
def fIx : Fe → Fe → Fe := f2 (gIx asQ)
theorem de_ix (h1 : DE K T ta f) (h2 : DE K T tb g) : DE K T (tOp (rIx K) ta tb) (fIx f g) := de_bin h1 h2 (by
  intro dm A0 H0 A σ H env k x y a b s Q S i1 i2 e hQ
  obtain ⟨i, ds, d, rfl, e1, e2, rfl⟩ := gIx_some e
  rw [is_int i2]
  unfold asQ at e1
  cases e3 : asL a with
  | some es =>
    rw [e3] at e1
    cases e1
    obtain ⟨p, vs, rfl, h1, h2⟩ := is_lst i1 e3
    obtain ⟨v, h3, h4⟩ := isl_at h2 e2
    exact .inl ⟨p, vs, i, v, rfl, rfl, .inl (.inl h1), h3, hQ _ H S (Lt.refl _ _) h4⟩
  | none =>
    rw [e3] at e1
    obtain ⟨p, vs, rfl, h1, _, h2⟩ := is_tup i1 e1
    obtain ⟨v, h3, h4⟩ := isl_at h2 e2
    exact .inr (.inl ⟨p, vs, i, v, rfl, rfl, h1, h3, hQ _ H S (Lt.refl _ _) h4⟩))
/-! ### slices -/
abbrev Fo := List Sl → Dk → Option (Option Int × Dk)
def DO (K : Fg) (T : List Addr) (t : TO) (f : Fo) : Prop := ∀ dm A0 H0 A σ H env k (Q : Option Int → Hp → Prop), Sta K T dm A0 H0 A σ H env k → ∀ b k', f env k = some (b, k') →
  (∀ H', Sta K T dm A0 H0 A σ H' env k' → Lt dm H H' → Q b H') → t σ H Q
def fNoPart : Fo := fun _ k => some (none, k)
def fPart (f : Fe) : Fo := fun env k => (f env k).bind fun p => match p.1 with
  | .dat (.int i) => some (some i, p.2)
  | _ => none
theorem do_none : DO K T tNoPart fNoPart := by
  intro dm A0 H0 A σ H env k Q S s k' hf hQ
  cases hf
  exact hQ H S (Lt.refl _ _)
theorem do_some (h1 : DE K T ta f) : DO K T (tPart ta) (fPart f) := by
  intro dm A0 H0 A σ H env k Q S s k' hf hQ
  unfold fPart at hf
  cases e1 : f env k with
  | none => rw [e1] at hf; cases hf
  | some p =>
    obtain ⟨x, k1⟩ := p
    rw [e1] at hf
    simp only [Option.bind_some] at hf
    split at hf
    · rename_i i
      cases hf
      refine h1 dm A0 H0 A σ H env k _ S _ _ e1 fun v H1 S1 l1 i1 => ?_
      rw [is_int i1]
      exact ⟨i, rfl, hQ H1 S1 l1⟩
    · cases hf
def cutD (xs : List D) (lo hi : Option Int) : List D := (xs.drop (HT.sIx xs.length 0 lo)).take (HT.sIx xs.length xs.length hi - HT.sIx xs.length 0 lo)
theorem isl_cut {H : Hp} {vs : List V} {ds : List D} {lo hi : Option Int} (h : IsL K H vs ds) : IsL K H (cutV vs lo hi) (cutD ds lo hi) := by
  unfold cutV cutD
  rw [h.len]
  exact (h.dr _).tk _
def fSl (as : Sl → Option (List D)) (c : List D → D) (f : Fe) (l h : Fo) : Fe := fun env k => (f env k).bind fun x => (l env x.2).bind fun y => (h env y.2).bind fun z => (as x.1).map fun ds => (.dat (c (cutD ds y.1 z.1)), z.2)
theorem fSl_some {as : Sl → Option (List D)} {c : List D → D} {l h : Fo} {env : List Sl} {k k' : Dk} {s : Sl} (e : fSl as c f l h env k = some (s, k')) :
    ∃ x k1 lo k2 hi ds, f env k = some (x, k1) ∧ l env k1 = some (lo, k2) ∧ h env k2 = some (hi, k') ∧ as x = some ds ∧ s = .dat (c (cutD ds lo hi)) := by
  unfold fSl at e
  cases e1 : f env k with
  | none => rw [e1] at e; cases e
  | some x =>
    obtain ⟨x, k1⟩ := x
    rw [e1] at e
    simp only [Option.bind_some] at e
    cases e2 : l env k1 with
    | none => rw [e2] at e; cases e
    | some y =>
      obtain ⟨lo, k2⟩ := y
      rw [e2] at e
      simp only [Option.bind_some] at e
      cases e3 : h env k2 with
      | none => rw [e3] at e; cases e
      | some z =>
        obtain ⟨hi, k3⟩ := z
        rw [e3] at e
        simp only [Option.bind_some] at e
        cases e4 : as x with
        | none => rw [e4] at e; cases e
        | some ds => rw [e4] at e; cases e; exact ⟨x, k1, lo, k2, hi, ds, rfl, e2, e3, e4, rfl⟩
theorem de_slT {l h : TO} {fl fh : Fo} (h1 : DE K T ta f) (h2 : DO K T l fl) (h3 : DO K T h fh) : DE K T (tSl (rSlA K) ta l h) (fSl asT .tuple f fl fh) := by
  intro dm A0 H0 A σ H env k Q S s k' hf hQ
  obtain ⟨x, k1, lo, k2, hi, ds, e1, e2, e3, e4, rfl⟩ := fSl_some hf
  refine h1 dm A0 H0 A σ H env k _ S _ _ e1 fun v H1 S1 l1 i1 => ?_
  refine h2 dm A0 H0 A σ H1 env k1 _ S1 _ _ e2 fun H2 S2 l2 => ?_
  refine h3 dm A0 H0 A σ H2 env k2 _ S2 _ _ e3 fun H3 S3 l3 => ?_
  obtain ⟨p, vs, rfl, g1, g2, g3⟩ := is_tup (i1.lt S1.wd (l2.trans l3)) e4
  refine ⟨p, vs, rfl, g1, fun e => hQ _ H3 S3 ((l1.trans l2).trans l3) ?_, fun e q hq => hQ _ _ (S3.new hq) (((l1.trans l2).trans l3).trans (Lt.new hq)) (mk_tup S3.wd hq (isl_cut g3))⟩
  have e' : cutD ds lo hi = ds := by
    rw [g3.len] at e
    unfold cutD
    rw [e.1, e.2]
    simp
  rw [e']
  exact Is.tup g2 g3
theorem de_slL {l h : TO} {fl fh : Fo} (h1 : DE K T ta f) (h2 : DO K T l fl) (h3 : DO K T h fh) : DE K T (tSl (rSlL K) ta l h) (fSl asL .list f fl fh) := by
  intro dm A0 H0 A σ H env k Q S s k' hf hQ
  obtain ⟨x, k1, lo, k2, hi, ds, e1, e2, e3, e4, rfl⟩ := fSl_some hf
  refine h1 dm A0 H0 A σ H env k _ S _ _ e1 fun v H1 S1 l1 i1 => ?_
  refine h2 dm A0 H0 A σ H1 env k1 _ S1 _ _ e2 fun H2 S2 l2 => ?_
  refine h3 dm A0 H0 A σ H2 env k2 _ S2 _ _ e3 fun H3 S3 l3 => ?_
  obtain ⟨p, vs, rfl, g1, g3⟩ := is_lst (i1.lt S1.wd (l2.trans l3)) e4
  exact ⟨p, vs, rfl, .inl (.inl g1), fun q hq => hQ _ _ (S3.new hq) (((l1.trans l2).trans l3).trans (Lt.new hq)) (mk_lst S3.wd hq (isl_cut g3))⟩
def fRevL (f : Fe) : Fe := f1 (fun s => (asL s).map fun ds => .dat (.list ds.reverse)) f
theorem de_revL (h1 : DE K T ta f) : DE K T (tRevL K ta) (fRevL f) := by
  intro dm A0 H0 A σ H env k Q S s k' hf hQ
  obtain ⟨a, e1, e2⟩ := f1_some hf
  cases e3 : asL a with
  | none => rw [e3] at e2; cases e2
  | some ds =>
    rw [e3] at e2
    cases e2
    refine h1 dm A0 H0 A σ H env k _ S _ _ e1 fun x H1 S1 l1 i1 => ?_
    obtain ⟨p, vs, rfl, g1, g3⟩ := is_lst i1 e3
    exact ⟨p, vs, rfl, .inl (.inl g1), fun q hq => hQ _ _ (S1.new hq) (l1.trans (Lt.new hq)) (mk_lst S1.wd hq g3.rev)⟩
/-! ### t + u, xs + ys, xs * n -/
def gCatT : Sl → Sl → Option Sl := fun a b => match asT a, asT b with
  | some x, some y => if x.length + y.length ≤ 1000000 then some (.dat (.tuple (x ++ y))) else none
  | _, _ => none
def gCatL : Sl → Sl → Option Sl := fun a b => match asL a, asL b with
  | some x, some y => if x.length + y.length ≤ 1000000 then some (.dat (.list (x ++ y))) else none
  | _, _ => none
theorem gCat_some {as : Sl → Option (List D)} {c : List D → D} {a b s : Sl} (h : (match as a, as b with
  | some x, some y => if x.length + y.length ≤ 1000000 then some (Sl.dat (c (x ++ y))) else none
  | _, _ => none) = some s) : ∃ x y, as a = some x ∧ as b = some y ∧ x.length + y.length ≤ 1000000 ∧ s = .dat (c (x ++ y)) := by
  split at h
  · rename_i x y e1 e2
    by_cases hc : x.length + y.length ≤ 1000000
    · rw [if_pos hc] at h; cases h; exact ⟨x, y, e1, e2, hc, rfl⟩
    · rw [if_neg hc] at h; cases h
  · cases h
theorem de_catT (h1 : DE K T ta f) (h2 : DE K T tb g) : DE K T (tOp (rCatA K) ta tb) (f2 gCatT f g) := de_bin h1 h2 (by
  intro dm A0 H0 A σ H env k x y a b s Q S i1 i2 e hQ
  obtain ⟨xs, ys, e1, e2, e3, rfl⟩ := gCat_some (as := asT) (c := PyData.tuple) e
  obtain ⟨p, vs, rfl, g1, g2, g3⟩ := is_tup i1 e1
  obtain ⟨q, ws, rfl, j1, j2, j3⟩ := is_tup i2 e2
  refine ⟨p, q, vs, ws, rfl, rfl, g1, j1, line_le (by rw [g3.len, j3.len]; exact e3), fun e => hQ _ H S (Lt.refl _ _) ?_, fun _ e => hQ _ H S (Lt.refl _ _) ?_, fun _ _ o ho => hQ _ _ (S.new ho) (Lt.new ho) (mk_tup S.wd ho (g3.app j3))⟩
  · subst e
    cases g3
    exact Is.tup j2 j3
  · subst e
    cases j3
    rw [List.append_nil]
    exact Is.tup g2 g3)
theorem de_catL (h1 : DE K T ta f) (h2 : DE K T tb g) : DE K T (tOp rCat ta tb) (f2 gCatL f g) := de_bin h1 h2 (by
  intro dm A0 H0 A σ H env k x y a b s Q S i1 i2 e hQ
  obtain ⟨xs, ys, e1, e2, e3, rfl⟩ := gCat_some (as := asL) (c := PyData.list) e
  obtain ⟨p, vs, rfl, g1, g3⟩ := is_lst i1 e1
  obtain ⟨q, ws, rfl, j1, j3⟩ := is_lst i2 e2
  exact ⟨p, q, vs, ws, rfl, rfl, g1, j1, line_le (by rw [g3.len, j3.len]; exact e3), fun o ho => hQ _ _ (S.new ho) (Lt.new ho) (mk_lst S.wd ho (g3.app j3))⟩)
/-! ### == of data -/
mutual
theorem dp_of {A : List Addr} {H : Hp} : ∀ {v : V} {d : D}, Is K (hide A H) v d → d.canLay0 = true → Dp K H v d
  | _, _, .non, _ => .non
  | _, _, .bl b, _ => .bl b
  | _, _, .int b, _ => .int b
  | _, _, .str b, _ => .str b
  | _, _, .lst h l, e => .lst (.inl (.inl (hide_some h).2)) (dpl_of l (by simpa only [PyData.canLay0] using e))
  | _, _, .tup h l, e => .tup (sqt_out h) (dpl_of l (by simpa only [PyData.canLay0] using e))
  | _, _, .dct _ _ _, e => by simp [PyData.canLay0] at e
theorem dpl_of {A : List Addr} {H : Hp} : ∀ {vs : List V} {ds : List D}, IsL K (hide A H) vs ds → PyData.canLayAll0 ds = true → DpAll K H vs ds
  | _, _, .nil, _ => .nil
  | _, _, .cons h l, e => by
    simp only [PyData.canLayAll0, Bool.and_eq_true] at e
    exact .cons (dp_of h e.1) (dpl_of l e.2)
end
def asD : Sl → Option D
  | .dat d => some d
  | .own ds => some (.list ds)
  | _ => none
theorem dp_asD {A0 : List Addr} {dm : Dm} {A : List Addr} {H : Hp} {v : V} {s : Sl} {d : D} (h : IsS K A0 dm A H v s) (e : asD s = some d) (c : SeqAt.shaped d = true) : Dp K H v d := by
  have c' := SeqAt.canLay_of_shaped c
  cases s with
  | dat d' => cases e; exact dp_of h c'
  | own es =>
    cases e
    obtain ⟨p, vs, rfl, _, _, h1, h2⟩ := h
    exact .lst (.inl (.inl h1)) (dpl_of h2 (by simpa only [PyData.canLay0] using c'))
  | un => cases e
  | deck => cases e
  | scr ns => cases e
def gEq (neg : Bool) : Sl → Sl → Option Sl := fun a b => match asD a, asD b with
  | some x, some y => if SeqAt.shaped x && SeqAt.shaped y then some (.dat (.bool (if neg then !PyData.eqv x y else PyData.eqv x y))) else none
  | _, _ => none
theorem gEq_some {neg : Bool} {a b s : Sl} (h : gEq neg a b = some s) : ∃ x y, asD a = some x ∧ asD b = some y ∧ SeqAt.shaped x = true ∧ SeqAt.shaped y = true ∧ s = .dat (.bool (if neg then !PyData.eqv x y else PyData.eqv x y)) := by
  unfold gEq at h
  split at h
  · rename_i x y e1 e2
    by_cases hc : (SeqAt.shaped x && SeqAt.shaped y) = true
    · rw [if_pos hc] at h; cases h
      obtain ⟨c1, c2⟩ := Bool.and_eq_true_iff.mp hc
      exact ⟨x, y, e1, e2, c1, c2, rfl⟩
    · rw [if_neg hc] at h; cases h
  · cases h
def fEq : Fe → Fe → Fe := f2 (gEq false)
def fNe : Fe → Fe → Fe := f2 (gEq true)
theorem de_eq (h1 : DE K T ta f) (h2 : DE K T tb g) : DE K T (tOp (rEqD K) ta tb) (fEq f g) := de_bin h1 h2 (by
  intro dm A0 H0 A σ H env k x y a b s Q S i1 i2 e hQ
  obtain ⟨d, d', e1, e2, c1, c2, rfl⟩ := gEq_some e
  exact ⟨d, d', dp_asD i1 e1 c1, dp_asD i2 e2 c2, c1, c2, hQ _ H S (Lt.refl _ _) (Is.bl _)⟩)
theorem de_ne (h1 : DE K T ta f) (h2 : DE K T tb g) : DE K T (tOp (rNeD K) ta tb) (fNe f g) := de_bin h1 h2 (by
  intro dm A0 H0 A σ H env k x y a b s Q S i1 i2 e hQ
  obtain ⟨d, d', e1, e2, c1, c2, rfl⟩ := gEq_some e
  exact ⟨d, d', dp_asD i1 e1 c1, dp_asD i2 e2 c2, c1, c2, hQ _ H S (Lt.refl _ _) (Is.bl _)⟩)
end
end DL
set_option Elab.async false
set_option linter.all false
set_option maxRecDepth 100000
set_option maxHeartbeats 4000000
namespace DL
open PySem PySem.Spec PyProof.Rows L2
/-- from one state to a later one: what is not in A stands; A grows by new addresses alone -/
structure Tr (A : List Addr) (H : Hp) (A' : List Addr) (H' : Hp) : Prop where
  keep : ∀ b o, H b = some o → isT o = false → b ∉ A → H' b = some o
  dom : ∀ b, H b ≠ none → H' b ≠ none
  new : ∀ b ∈ A', b ∈ A ∨ H b = none
theorem Tr.refl (A : List Addr) (H : Hp) : Tr A H A H := ⟨fun _ _ h _ _ => h, fun _ h => h, fun _ h => .inl h⟩
theorem Tr.trans {A A1 A2 : List Addr} {H H1 H2 : Hp} (a : Tr A H A1 H1) (b : Tr A1 H1 A2 H2) : Tr A H A2 H2 := by
  refine ⟨fun c o h z n => b.keep c o (a.keep c o h z n) z fun m => ?_, fun c h => b.dom c (a.dom c h), fun c h => ?_⟩
  · rcases a.new c m with q | q
    · exact n q
    · rw [h] at q; cases q
  · rcases b.new c h with q | q
    · exact a.new c q
    · refine .inr ?_
      cases e : H c with
      | none => rfl
      | some o => exact absurd q (a.dom c (by rw [e]; simp))
theorem Tr.kp {A A' : List Addr} {H H' : Hp} (t : Tr A H A' H') : Kp (hide A H) (hide A' H') := fun b o h z => by
  obtain ⟨hb, h⟩ := hide_some h
  have h2 : b ∉ A' := fun m => by
    rcases t.new b m with q | q
    · exact hb q
    · rw [h] at q; cases q
  rw [hide_out h2]
  exact t.keep b o h z hb
section
variable {K : Fg} {T : List Addr}
theorem tr_of_lt {dm : Dm} {A : List Addr} {H H' : Hp} {k : Dk} (w : Wd T dm A H k) (l : Lt dm H H') : Tr A H A H' :=
  ⟨fun b o h z n => l.keep b o h z fun a c e => ⟨fun q => n (q ▸ (w.dk a c e).1), fun q => n (q ▸ (w.dk a c e).2.1)⟩, l.dom, fun _ h => .inl h⟩
inductive Out where
  | nx (env : List Sl) (k : Dk)
  | rt (d : D) (k : Dk)
  | bk (env : List Sl) (k : Dk)
  | ct (env : List Sl) (k : Dk)
  | bad
abbrev Fs := List Sl → Dk → Out
/-- what is wanted at an outcome -/
def OkOut (K : Fg) (T : List Addr) (dm : Dm) (A0 : List Addr) (H0 : Hp) (A : List Addr) (H : Hp) (E : Ends) : Out → Prop
  | .nx env k => ∀ A' σ H', Sta K T dm A0 H0 A' σ H' env k → Tr A H A' H' → E.nx σ H'
  | .rt d k => ∀ v H', Wd T dm A0 H' k → Lt dm H0 H' → Is K (hide A0 H') v d → E.rt v H'
  | .bk env k => ∀ A' σ H', Sta K T dm A0 H0 A' σ H' env k → Tr A H A' H' → E.bk σ H'
  | .ct env k => ∀ A' σ H', Sta K T dm A0 H0 A' σ H' env k → Tr A H A' H' → E.ct σ H'
  | .bad => False
def DS (K : Fg) (T : List Addr) (t : TS) (g : Fs) : Prop := ∀ dm A0 H0 A σ H env k (E : Ends), Sta K T dm A0 H0 A σ H env k → OkOut K T dm A0 H0 A H E (g env k) → t E σ H
def sNext : Fs := fun env k => .nx env k
def sSeq (g h : Fs) : Fs := fun env k => match g env k with
  | .nx env' k' => h env' k'
  | o => o
theorem OkOut.later {dm : Dm} {A0 : List Addr} {H0 : Hp} {A A1 : List Addr} {H H1 : Hp} {E : Ends} (t : Tr A H A1 H1) : ∀ {o : Out}, OkOut K T dm A0 H0 A H E o → OkOut K T dm A0 H0 A1 H1 E o
  | .nx _ _, h => fun A' σ H' S r => h A' σ H' S (t.trans r)
  | .rt _ _, h => h
  | .bk _ _, h => fun A' σ H' S r => h A' σ H' S (t.trans r)
  | .ct _ _, h => fun A' σ H' S r => h A' σ H' S (t.trans r)
  | .bad, h => h
variable {t u : TS} {g h : Fs} {ta tb : TE} {f f' : Fe}
theorem ds_next : DS K T tNext sNext := fun dm A0 H0 A σ H env k E S o => o A σ H S (Tr.refl _ _)
theorem ds_seq (h1 : DS K T t g) (h2 : DS K T u h) : DS K T (tSeq t u) (sSeq g h) := by
  intro dm A0 H0 A σ H env k E S o
  refine h1 dm A0 H0 A σ H env k _ S ?_
  unfold sSeq at o
  cases e : g env k with
  | nx env' k' =>
    rw [e] at o
    exact fun A' σ' H' S' r => h2 dm A0 H0 A' σ' H' env' k' E S' (OkOut.later r o)
  | rt d k' => rw [e] at o; exact o
  | bk env' k' => rw [e] at o; exact o
  | ct env' k' => rw [e] at o; exact o
  | bad => rw [e] at o; exact o
def sBrk : Fs := fun env k => .bk env k
def sCnt : Fs := fun env k => .ct env k
theorem ds_brk : DS K T tBreak sBrk := fun dm A0 H0 A σ H env k E S o => o A σ H S (Tr.refl _ _)
theorem ds_cnt : DS K T tCont sCnt := fun dm A0 H0 A σ H env k E S o => o A σ H S (Tr.refl _ _)
def sIf (c : Ft) (g h : Fs) : Fs := fun env k => match c env k with
  | some (true, k') => g env k'
  | some (false, k') => h env k'
  | none => .bad
theorem ds_if {c : TT} {w : Ft} (h0 : DT K T c w) (h1 : DS K T t g) (h2 : DS K T u h) : DS K T (tIfS c t u) (sIf w g h) := by
  intro dm A0 H0 A σ H env k E S o
  unfold sIf at o
  cases e : w env k with
  | none => rw [e] at o; exact o.elim
  | some p =>
    obtain ⟨b, k'⟩ := p
    rw [e] at o
    refine h0 dm A0 H0 A σ H env k _ S b k' e fun H' S' l => ?_
    have r := tr_of_lt S.wd l
    cases b with
    | true => exact iteT (h1 dm A0 H0 A σ H' env k' E S' (OkOut.later r o))
    | false => exact iteF (h2 dm A0 H0 A σ H' env k' E S' (OkOut.later r o))
def sRet (f : Fe) : Fs := fun env k => match f env k with
  | some (.dat d, k') => .rt d k'
  | some (.own ds, k') => .rt (.list ds) k'
  | _ => .bad
theorem hide_mono {A0 A : List Addr} {H : Hp} (h : ∀ b ∈ A0, b ∈ A) : Kp (hide A H) (hide A0 H) := fun b o e _ => by
  obtain ⟨h1, h2⟩ := hide_some e
  rw [hide_out fun m => h1 (h b m)]
  exact h2
theorem Sta.w0 {dm : Dm} {A0 : List Addr} {H0 : Hp} {A : List Addr} {σ : List (Option V)} {H : Hp} {env : List Sl} {k : Dk} (S : Sta K T dm A0 H0 A σ H env k) : Wd T dm A0 H k :=
  ⟨fun b h => S.lt.dom b (S.dom0 b h), S.wd.tab, fun a c e => ⟨(S.dm0 a c e).1, (S.dm0 a c e).2, (S.wd.dk a c e).2.2⟩⟩

theorem ds_ret (h1 : DE K T ta f) : DS K T (tRet ta) (sRet f) := by
  intro dm A0 H0 A σ H env k E S o
  unfold sRet at o
  cases e : f env k with
  | none => rw [e] at o; exact o.elim
  | some p =>
    obtain ⟨s, k'⟩ := p
    rw [e] at o
    refine h1 dm A0 H0 A σ H env k _ S s k' e fun v H' S' l i => ?_
    cases s with
    | un => exact i.elim
    | deck => exact o.elim
    | scr ns => exact o.elim
    | dat d => exact o v H' S'.w0 S'.lt (Is.kp (hide_mono S'.sub) i)
    | own ds =>
      obtain ⟨p, vs, rfl, n0, _, g1, g2⟩ := i
      exact o _ H' S'.w0 S'.lt (.lst (by rw [hide_out n0]; exact g1) (IsL.kp (hide_mono S'.sub) g2))
def sRetN : Fs := fun _ k => .rt .none k
theorem ds_retN : DS K T tRetN sRetN := fun dm A0 H0 A σ H env k E S o => o _ H S.w0 S.lt .non
/-! ### stores -/
/-- a value that may be stored as it is -/
def stor : Sl → Option Sl
  | .dat d => some (.dat d)
  | .deck => some .deck
  | _ => none
theorem Sta.set {dm : Dm} {A0 : List Addr} {H0 : Hp} {A : List Addr} {σ : List (Option V)} {H : Hp} {env : List Sl} {k : Dk} {v : V} {s s' : Sl} (S : Sta K T dm A0 H0 A σ H env k) (i : Nat) (h : IsS K A0 dm A H v s) (e : stor s = some s') :
    Sta K T dm A0 H0 A (σ.set i (some v)) H (env.set i s') k := by
  refine ⟨S.wd, S.lt, S.sub, S.dom0, S.dm0, by rw [List.length_set, List.length_set]; exact S.len, fun j => ?_, fun a b p ds es h1 h2 h3 h4 => ?_⟩
  · by_cases hj : j = i
    · subst hj
      by_cases hl : j < env.length
      · rw [List.getElem?_set_self (by rw [S.len]; exact hl), List.getElem?_set_self hl]
        cases s with
        | dat d => cases e; exact ⟨v, rfl, h⟩
        | deck => cases e; obtain ⟨a, c, h1, rfl⟩ := h; exact ⟨a, c, h1, rfl⟩
        | _ => cases e
      · rw [List.getElem?_eq_none (l := env.set j s') (by rw [List.length_set]; omega)]
        exact trivial
    · rw [List.getElem?_set_ne (Ne.symm hj), List.getElem?_set_ne (Ne.symm hj)]
      exact S.slot j
  · have no : ∀ c ds, (env.set i s')[c]? = some (.own ds) → c ≠ i := fun c ds hc z => by
      subst z
      by_cases hl : c < env.length
      · rw [List.getElem?_set_self hl] at hc
        cases hc
        cases s <;> cases e
      · rw [List.getElem?_eq_none (by rw [List.length_set]; omega)] at hc
        cases hc
    have ha := no a ds h1
    have hb := no b es h2
    rw [List.getElem?_set_ne (Ne.symm ha)] at h1 h3
    rw [List.getElem?_set_ne (Ne.symm hb)] at h2 h4
    exact S.uniq a b p ds es h1 h2 h3 h4
/-- the slots at l alone may have changed -/
def Chg (l : List Nat) (σ σ' : List (Option V)) : Prop := σ'.length = σ.length ∧ ∀ j : Nat, j ∉ l → σ'[j]? = σ[j]?
theorem Chg.trans {l m : List Nat} {σ σ' σ'' : List (Option V)} (a : Chg l σ σ') (b : Chg m σ' σ'') : Chg (l ++ m) σ σ'' :=
  ⟨b.1.trans a.1, fun j h => (b.2 j fun z => h (List.mem_append_right _ z)).trans (a.2 j fun z => h (List.mem_append_left _ z))⟩
/-- a target: what is handed on -/
abbrev Fg' := Sl → List Sl → Option (List Sl)
def DG (K : Fg) (T : List Addr) (g : TG) (q : Fg') (l : List Nat) : Prop := ∀ dm A0 H0 A σ H env k v s (Q : List (Option V) → Hp → Prop), Sta K T dm A0 H0 A σ H env k → IsS K A0 dm A H v s → ∀ env', q s env = some env' →
  (∀ σ', Sta K T dm A0 H0 A σ' H env' k → Chg l σ σ' → Q σ' H) → g v σ H Q
def DGs (K : Fg) (T : List Addr) (g : TGs) (q : List D → List Sl → Option (List Sl)) (l : List Nat) : Prop := ∀ dm A0 H0 A σ H env k vs ds (Q : List (Option V) → Hp → Prop), Sta K T dm A0 H0 A σ H env k → IsL K (hide A H) vs ds → ∀ env', q ds env = some env' →
  (∀ σ', Sta K T dm A0 H0 A σ' H env' k → Chg l σ σ' → Q σ' H) → g vs σ H Q
def qName (i : Nat) : Fg' := fun s env => (stor s).map fun s' => env.set i s'
theorem dg_name (i : Nat) : DG K T (gName i) (qName i) [i] := by
  intro dm A0 H0 A σ H env k v s Q S h env' e hQ
  unfold qName at e
  cases e1 : stor s with
  | none => rw [e1] at e; cases e
  | some s' => rw [e1] at e; cases e; exact hQ _ (S.set i h e1) ⟨by rw [List.length_set], fun j hj => List.getElem?_set_ne fun z => hj (by rw [z]; exact List.mem_cons_self)⟩
def qNil : List D → List Sl → Option (List Sl) := fun ds env => match ds with
  | [] => some env
  | _ => none
def qCons (q : Fg') (r : List D → List Sl → Option (List Sl)) : List D → List Sl → Option (List Sl) := fun ds env => match ds with
  | d :: ds => (q (.dat d) env).bind fun env' => r ds env'
  | [] => none
theorem dgs_nil : DGs K T gNil qNil [] := by
  intro dm A0 H0 A σ H env k vs ds Q S h env' e hQ
  cases h with
  | nil => cases e; exact ⟨rfl, hQ _ S ⟨rfl, fun _ _ => rfl⟩⟩
  | cons _ _ => cases e
theorem dgs_cons {g : TG} {gs : TGs} {q : Fg'} {r : List D → List Sl → Option (List Sl)} {l m : List Nat} (h1 : DG K T g q l) (h2 : DGs K T gs r m) : DGs K T (gCons g gs) (qCons q r) (l ++ m) := by
  intro dm A0 H0 A σ H env k vs ds Q S h env' e hQ
  cases h with
  | nil => cases e
  | cons hd tl =>
    rename_i v vs d ds
    have e : (q (.dat d) env).bind (fun env' => r ds env') = some env' := e
    cases e1 : q (.dat d) env with
    | none => rw [e1] at e; cases e
    | some env1 =>
      rw [e1] at e
      exact ⟨v, vs, rfl, h1 dm A0 H0 A σ H env k v (.dat d) _ S hd env1 e1 fun σ1 S1 c1 => h2 dm A0 H0 A σ1 H env1 k vs ds Q S1 tl env' e fun σ2 S2 c2 => hQ σ2 S2 (c1.trans c2)⟩
def qTup (n : Nat) (r : List D → List Sl → Option (List Sl)) : Fg' := fun s env => (asT s).bind fun ds => if ds.length = n then r ds env else none
theorem dg_tup {n : Nat} {gs : TGs} {r : List D → List Sl → Option (List Sl)} {l : List Nat} (h1 : DGs K T gs r l) : DG K T (gTup K n gs) (qTup n r) l := by
  intro dm A0 H0 A σ H env k v s Q S h env' e hQ
  unfold qTup at e
  cases e1 : asT s with
  | none => rw [e1] at e; cases e
  | some ds =>
    rw [e1] at e
    simp only [Option.bind_some] at e
    by_cases hn : ds.length = n
    · rw [if_pos hn] at e
      obtain ⟨p, vs, rfl, g1, _, g2⟩ := is_tup h e1
      exact ⟨p, vs, rfl, g1, by rw [g2.len]; exact hn, h1 dm A0 H0 A σ H env k vs ds Q S g2 env' e hQ⟩
    · rw [if_neg hn] at e; cases e
def sAsg (f : Fe) (q : Fg') : Fs := fun env k => match f env k with
  | some (s, k') => (match q s env with
    | some env' => .nx env' k'
    | none => .bad)
  | none => .bad
theorem ds_asg {g : TG} {q : Fg'} {l : List Nat} (h1 : DE K T ta f) (h2 : DG K T g q l) : DS K T (tAsg ta g) (sAsg f q) := by
  intro dm A0 H0 A σ H env k E S o
  unfold sAsg at o
  cases e : f env k with
  | none => rw [e] at o; exact o.elim
  | some p =>
    obtain ⟨s, k'⟩ := p
    rw [e] at o
    simp only at o
    cases e2 : q s env with
    | none => rw [e2] at o; exact o.elim
    | some env' =>
      rw [e2] at o
      refine h1 dm A0 H0 A σ H env k _ S s k' e fun v H' S' l' i => ?_
      exact h2 dm A0 H0 A σ H' env k' v s _ S' i env' e2 fun σ' S2 _ => o A σ' H' S2 (tr_of_lt S.wd l')
/-- a, b = e, e' -/
def sPar (i j : Nat) (h : Fl) : Fs := fun env k => match h env k with
  | some ([a, b], k') => (match stor a, stor b with
    | some a', some b' => .nx ((env.set i a').set j b') k'
    | _, _ => .bad)
  | _ => .bad
theorem ds_par {i j : Nat} {ta : TA} {h : Fl} (h1 : DA K T ta h) : DS K T (tPar i j ta) (sPar i j h) := by
  intro dm A0 H0 A σ H env k E S o
  unfold sPar at o
  split at o
  · rename_i a b k' e
    split at o
    · rename_i a' b' ea eb
      refine h1 dm A0 H0 A σ H env k _ S _ k' e fun vs H' S' l is => ?_
      cases is with
      | cons i1 is =>
        cases is with
        | cons i2 is =>
          cases is
          exact ⟨_, _, rfl, o A _ H' ((S'.set i i1 ea).set j i2 eb) (tr_of_lt S.wd l)⟩
    · exact o.elim
  · exact o.elim
/-- x op= e of ints -/
def sAug (c : Int → Int → Bool) (op : Int → Int → Int) (i : Nat) (f : Fe) : Fs := fun env k => match env[i]?, f env k with
  | some (.dat (.int a)), some (.dat (.int b), k') => if c a b = true then .nx (env.set i (.dat (.int (op a b)))) k' else .bad
  | _, _ => .bad
theorem ds_aug {i : Nat} {c : Int → Int → Bool} {op : Int → Int → Int} {r : TIp} (h1 : DE K T ta f) (hr : ∀ a b H (Q : VK), c a b = true → Q (.int (op a b)) H → r (.int a) (.int b) H Q) : DS K T (tAug i ta r) (sAug c op i f) := by
  intro dm A0 H0 A σ H env k E S o
  unfold sAug at o
  split at o
  · rename_i a b k' e1 e2
    by_cases hc : c a b = true
    · rw [if_pos hc] at o
      have q := S.slot i
      rw [e1] at q
      obtain ⟨v, ev, iv⟩ := q
      cases iv
      refine ⟨_, ev, ?_⟩
      refine h1 dm A0 H0 A σ H env k _ S _ k' e2 fun y H' S' l iy => ?_
      rw [is_int iy]
      exact hr a b H' _ hc (o A _ H' (S'.set (s := .dat (.int (op a b))) i (Is.int _) rfl) (tr_of_lt S.wd l))
    · rw [if_neg hc] at o
      exact o.elim
  · exact o.elim
/-! ### lists of the def's own -/
theorem hide_cons {A : List Addr} {H : Hp} {p : Addr} (hp : H p = none) (o : HO) : hide (p :: A) (upd H p o) = hide A H := by
  funext b
  by_cases hb : b = p
  · subst hb
    rw [hide_in List.mem_cons_self]
    by_cases ha : b ∈ A
    · rw [hide_in ha]
    · rw [hide_out ha, hp]
  · by_cases ha : b ∈ A
    · rw [hide_in (List.mem_cons_of_mem _ ha), hide_in ha]
    · rw [hide_out ha, hide_out (fun m => (List.mem_cons.mp m).elim hb ha), upd_ne hb]
theorem hide_upd {A : List Addr} {H : Hp} {p : Addr} (hp : p ∈ A) (o : HO) : hide A (upd H p o) = hide A H := by
  funext b
  by_cases ha : b ∈ A
  · rw [hide_in ha, hide_in ha]
  · rw [hide_out ha, hide_out ha, upd_ne (fun e : b = p => ha (by rw [e]; exact hp))]
/-- a new list in a slot -/
theorem Sta.own {dm : Dm} {A0 : List Addr} {H0 : Hp} {A : List Addr} {σ : List (Option V)} {H : Hp} {env : List Sl} {k : Dk} {vs : List V} {ds : List D} {p : Addr} (S : Sta K T dm A0 H0 A σ H env k) (i : Nat) (hp : H p = none) (h : IsL K (hide A H) vs ds) :
    Sta K T dm A0 H0 (p :: A) (σ.set i (some (.ref p))) (upd H p (.lst vs)) (env.set i (.own ds)) k ∧ Tr A H (p :: A) (upd H p (.lst vs)) := by
  have S1 := S.new (o := .lst vs) hp
  have pA : p ∉ A := notA S.wd hp
  have p0 : p ∉ A0 := fun m => pA (S.sub p m)
  have H0p : H0 p = none := by
    cases e : H0 p with
    | none => rfl
    | some o => exact absurd hp (S.lt.dom p (by rw [e]; simp))
  have hh := hide_cons (A := A) hp (.lst vs)
  have noP : ∀ j : Nat, ∀ ds, env[j]? = some (.own ds) → σ[j]? ≠ some (some (.ref p)) := fun j ds e z => by
    have q := S.slot j
    rw [e] at q
    obtain ⟨p', vs', h1, h2, _⟩ := q
    rw [z] at h1
    cases h1
    exact pA h2
  refine ⟨⟨⟨fun b hb => ?_, S1.wd.tab, fun a c e => ?_⟩, S1.lt, fun b hb => List.mem_cons_of_mem _ (S.sub b hb), S.dom0, S.dm0, by rw [List.length_set, List.length_set]; exact S.len, fun j => ?_, fun a b q es fs h1 h2 h3 h4 => ?_⟩, ⟨fun b o e z n => ?_, fun b e => ?_, fun b hb => ?_⟩⟩
  · rcases List.mem_cons.mp hb with e | hb
    · rw [e, upd_same]; simp
    · exact S1.wd.dom b hb
  · obtain ⟨q1, q2, q3⟩ := S1.wd.dk a c e
    exact ⟨List.mem_cons_of_mem _ q1, List.mem_cons_of_mem _ q2, q3⟩
  · by_cases hj : j = i
    · subst hj
      by_cases hl : j < env.length
      · rw [List.getElem?_set_self (by rw [S.len]; exact hl), List.getElem?_set_self hl]
        exact ⟨p, vs, rfl, List.mem_cons_self, p0, H0p, upd_same, by rw [hh]; exact h⟩
      · rw [List.getElem?_eq_none (l := env.set j _) (by rw [List.length_set]; omega)]
        exact trivial
    · rw [List.getElem?_set_ne (Ne.symm hj), List.getElem?_set_ne (Ne.symm hj)]
      have q := S.slot j
      cases e : env[j]? with
      | none => exact trivial
      | some z =>
        rw [e] at q
        cases z with
        | un => exact trivial
        | dat d => obtain ⟨v, h1, h2⟩ := q; exact ⟨v, h1, by rw [hh]; exact h2⟩
        | deck => exact q
        | own es =>
          obtain ⟨p', ws, h1, h2, h3, h4, h5, h6⟩ := q
          exact ⟨p', ws, h1, List.mem_cons_of_mem _ h2, h3, h4, by rw [upd_ne (ne_of_none h5 hp)]; exact h5, by rw [hh]; exact h6⟩
        | scr ns => obtain ⟨a, h1, h2⟩ := q; exact ⟨a, h1, h2.new fun ob u z => by rw [hp] at z; cases z⟩
  · by_cases ha : a = i
    · by_cases hb : b = i
      · rw [ha, hb]
      · rw [List.getElem?_set_ne (Ne.symm hb)] at h2 h4
        have e : q = p := by
          rw [ha] at h1 h3
          by_cases hl : i < σ.length
          · rw [List.getElem?_set_self hl] at h3; cases h3; rfl
          · rw [List.getElem?_eq_none (by rw [List.length_set]; omega)] at h3; cases h3
        exact absurd (e ▸ h4) (noP b fs h2)
    · rw [List.getElem?_set_ne (Ne.symm ha)] at h1 h3
      by_cases hb : b = i
      · have e : q = p := by
          rw [hb] at h2 h4
          by_cases hl : i < σ.length
          · rw [List.getElem?_set_self hl] at h4; cases h4; rfl
          · rw [List.getElem?_eq_none (by rw [List.length_set]; omega)] at h4; cases h4
        exact absurd (e ▸ h3) (noP a es h1)
      · rw [List.getElem?_set_ne (Ne.symm hb)] at h2 h4
        exact S.uniq a b q es fs h1 h2 h3 h4
  · rw [upd_ne (ne_of_none e hp)]; exact e
  · exact (Lt.new (dm := dm) hp).dom b e
  · rcases List.mem_cons.mp hb with e | hb
    · exact .inr (e ▸ hp)
    · exact .inl hb
def sOwn (i : Nat) (h : Fl) : Fs := fun env k => match h env k with
  | some (ss, k') => (match dats ss with
    | some ds => if ds.length ≤ 1000000 then .nx (env.set i (.own ds)) k' else .bad
    | none => .bad)
  | none => .bad
theorem ds_own {i : Nat} {ta : TA} {h : Fl} (h1 : DA K T ta h) : DS K T (tAsg (tLst ta) (gName i)) (sOwn i h) := by
  intro dm A0 H0 A σ H env k E S o
  unfold sOwn at o
  cases e : h env k with
  | none => rw [e] at o; exact o.elim
  | some p =>
    obtain ⟨ss, k'⟩ := p
    rw [e] at o
    simp only at o
    cases e2 : dats ss with
    | none => rw [e2] at o; exact o.elim
    | some ds =>
      rw [e2] at o
      simp only at o
      by_cases hc : ds.length ≤ 1000000
      · rw [if_pos hc] at o
        refine h1 dm A0 H0 A σ H env k _ S ss k' e fun vs H' S' l is => ?_
        have il := isl_dats is e2
        refine ⟨line_le (by rw [il.len]; exact hc), fun p hp => ?_⟩
        obtain ⟨S2, r2⟩ := S'.own i hp il
        exact o _ _ _ S2 ((tr_of_lt S.wd l).trans r2)
      · rw [if_neg hc] at o; exact o.elim
/-- x.append(e) -/
def sApp (i : Nat) (f : Fe) : Fs := fun env k => match env[i]?, f env k with
  | some (.own ds), some (.dat d, k') => if ds.length < 1000000 then .nx (env.set i (.own (ds ++ [d]))) k' else .bad
  | _, _ => .bad
theorem ds_app {i : Nat} (h1 : DE K T ta f) : DS K T (tDrop (tBM K "list" rAppend (tVar i) (tCons ta tNil))) (sApp i f) := by
  intro dm A0 H0 A σ H env k E S o
  unfold sApp at o
  split at o
  · rename_i ds d k' e1 e2
    by_cases hc : ds.length < 1000000
    · rw [if_pos hc] at o
      have q := S.slot i
      rw [e1] at q
      obtain ⟨p, vs, hs, hA, h0, H0p, hp, il⟩ := q
      refine ⟨.ref p, hs, .inl ⟨rfl, _, .inl (.inl hp)⟩, ?_⟩
      refine h1 dm A0 H0 A σ H env k _ S _ k' e2 fun y H' S' l iy => ?_
      have q' := S'.slot i
      rw [e1] at q'
      obtain ⟨p', ws, hs', hA', h0', H0p', hp', il'⟩ := q'
      rw [hs] at hs'
      cases hs'
      refine ⟨p, ws, y, rfl, rfl, hp', Nat.lt_of_lt_of_le (by rw [il'.len]; exact hc) (by decide), ?_⟩
      have hh : hide A (upd H' p (.lst (ws ++ [y]))) = hide A H' := hide_upd hA' _
      have iy' : Is K (hide A H') y d := iy
      have nd : ∀ a c, dm = some (a, c) → a ≠ p ∧ c ≠ p := fun a c e => ⟨fun z => h0 (z ▸ (S.dm0 a c e).1), fun z => h0 (z ▸ (S.dm0 a c e).2)⟩
      refine o A _ _ ?_ ((tr_of_lt S.wd l).trans ⟨fun b u e z n => by rw [upd_ne (fun q : b = p => n (by rw [q]; exact hA'))]; exact e, fun b e => ?_, fun _ h => .inl h⟩)
      · have hl : i < env.length := by
          cases hcmp : Nat.decLt i env.length with
          | isTrue h => exact h
          | isFalse h => rw [List.getElem?_eq_none (by omega)] at e1; cases e1
        refine ⟨⟨fun b hb => ?_, fun P hP => ?_, fun a c e => ?_⟩, ⟨fun b u e z n => ?_, fun b e => ?_⟩, S'.sub, S'.dom0, S'.dm0, by rw [List.length_set]; exact S'.len, fun j => ?_, fun a b q es fs g1 g2 g3 g4 => ?_⟩
        · by_cases e : b = p
          · rw [e, upd_same]; simp
          · rw [upd_ne e]; exact S'.wd.dom b hb
        · obtain ⟨ps, e, t⟩ := S'.wd.tab P hP
          exact ⟨ps, by rw [upd_ne fun z => by rw [z, hp'] at e; cases e]; exact e, t⟩
        · obtain ⟨q1, q2, q3, q4, q5⟩ := S'.wd.dk a c e
          obtain ⟨n1, n2⟩ := nd a c e
          exact ⟨q1, q2, q3, by rw [upd_ne n1]; exact q4, by rw [upd_ne n2]; exact q5⟩
        · rw [upd_ne fun q => by rw [q, H0p] at e; cases e]
          exact S'.lt.keep b u e z n
        · by_cases q : b = p
          · rw [q, upd_same]; simp
          · rw [upd_ne q]; exact S'.lt.dom b e
        · by_cases hj : j = i
          · subst hj
            rw [List.getElem?_set_self hl]
            exact ⟨p, ws ++ [y], hs, hA', h0, H0p, upd_same, by rw [hh]; exact il'.app (.cons iy' .nil)⟩
          · rw [List.getElem?_set_ne (Ne.symm hj)]
            have q := S'.slot j
            cases e : env[j]? with
            | none => exact trivial
            | some z =>
              rw [e] at q
              cases z with
              | un => exact trivial
              | dat d' => obtain ⟨v, h1, h2⟩ := q; exact ⟨v, h1, by rw [hh]; exact h2⟩
              | deck => exact q
              | own es =>
                obtain ⟨p2, us, h1, h2, h3, h4, h5, h6⟩ := q
                have ne : p2 ≠ p := fun z => hj (S'.uniq j i p es ds e e1 (z ▸ h1) hs)
                exact ⟨p2, us, h1, h2, h3, h4, by rw [upd_ne ne]; exact h5, by rw [hh]; exact h6⟩
              | scr ns => obtain ⟨a, h1, h2⟩ := q; exact ⟨a, h1, h2.new fun ob u z => by rw [hp'] at z; cases z⟩
        · have back : ∀ (c : Nat) (gs : List D), (env.set i (Sl.own (ds ++ [d])))[c]? = some (Sl.own gs) → ∃ gs', env[c]? = some (Sl.own gs') := fun c gs hcs => by
            by_cases hci : c = i
            · rw [hci]; exact ⟨_, e1⟩
            · rw [List.getElem?_set_ne (Ne.symm hci)] at hcs; exact ⟨_, hcs⟩
          obtain ⟨_, b1⟩ := back a es g1
          obtain ⟨_, b2⟩ := back b fs g2
          exact S'.uniq a b q _ _ b1 b2 g3 g4
      · by_cases q : b = p
        · rw [q, upd_same]; simp
        · rw [upd_ne q]; exact e
    · rw [if_neg hc] at o; exact o.elim
  · exact o.elim
end
end DL
set_option Elab.async false
set_option linter.all false
set_option maxRecDepth 100000
set_option maxHeartbeats 4000000
namespace DL
open PySem PySem.Spec PyProof.Rows L2
/-- a walk J gives the items ds, whatever the body does -/
structure WkOk (K : Fg) (A : List Addr) (H : Hp) (J : It) (ds : List D) : Prop where
  go : ∀ A2 H2, Tr A H A2 H2 → ∀ (i : Nat) d, ds[i]? = some d → J.go i H2
  yl : ∀ A2 H2, Tr A H A2 H2 → (∀ b ∈ A2, H2 b ≠ none) → ∀ (i : Nat) d, ds[i]? = some d → ∀ x H3, J.yld i H2 x H3 → (H3 = H2 ∨ ∃ p o, H2 p = none ∧ H3 = upd H2 p o) ∧ Is K (hide A2 H3) x d
  st : ∀ A2 H2, Tr A H A2 H2 → ∀ i : Nat, ds.length ≤ i → J.stop i H2
abbrev Fw := List Sl → Dk → Option (List D × Dk)
def DI (K : Fg) (T : List Addr) (wi : TI) (fi : Fw) : Prop := ∀ dm A0 H0 A σ H env k (R : It → Hp → Prop), Sta K T dm A0 H0 A σ H env k → ∀ ds k', fi env k = some (ds, k') →
  (∀ J H', Sta K T dm A0 H0 A σ H' env k' → Lt dm H H' → WkOk K A H' J ds → R J H') → wi σ H R
section
variable {K : Fg} {T : List Addr} {ta : TE} {f : Fe}
theorem isl_ix {H : Hp} {vs : List V} {ds : List D} {i : Nat} {d : D} {x : V} (h : IsL K H vs ds) (e : ds[i]? = some d) (ex : vs[i]? = some x) : Is K H x d := by
  obtain ⟨v, h1, h2⟩ := h.get e
  rw [ex] at h1
  cases h1
  exact h2
def wOf (as : Sl → Option (List D)) (f : Fe) : Fw := fun env k => (f env k).bind fun p => (as p.1).map fun ds => (ds, p.2)
theorem wOf_some {as : Sl → Option (List D)} {env : List Sl} {k k' : Dk} {ds : List D} (h : wOf as f env k = some (ds, k')) : ∃ s, f env k = some (s, k') ∧ as s = some ds := by
  unfold wOf at h
  cases e1 : f env k with
  | none => rw [e1] at h; cases h
  | some p =>
    rw [e1] at h
    simp only [Option.bind_some] at h
    cases e2 : as p.1 with
    | none => rw [e2] at h; cases h
    | some z => rw [e2] at h; cases h; exact ⟨p.1, rfl, e2⟩
/-- a list that is data (not the def's own) -/
def asLd : Sl → Option (List D)
  | .dat (.list ds) => some ds
  | _ => none
theorem is_lstd {A0 : List Addr} {dm : Dm} {A : List Addr} {H : Hp} {v : V} {s : Sl} {ds : List D} (h : IsS K A0 dm A H v s) (e : asLd s = some ds) : ∃ p vs, v = .ref p ∧ p ∉ A ∧ H p = some (.lst vs) ∧ IsL K (hide A H) vs ds := by
  cases s with
  | un => exact h.elim
  | deck => cases e
  | scr ns => cases e
  | own es => cases e
  | dat d =>
    cases d with
    | list es =>
      cases e
      cases (show Is K (hide A H) v (.list ds) from h) with
      | lst h1 h2 => exact ⟨_, _, rfl, (hide_some h1).1, (hide_some h1).2, h2⟩
    | _ => cases e
theorem lst_fun {H : Hp} {p : Addr} {xs ys : List V} {o : Obj} (h : H p = some (.lst xs)) (e : Rd H p (.lst ys)) : ys = xs := by
  rcases e with e | ⟨_, e⟩
  · rw [h] at e; cases e; rfl
  · rw [h] at e; cases e
theorem wk_lst {A : List Addr} {H : Hp} {p : Addr} {vs : List V} {ds : List D} (pA : p ∉ A) (hp : H p = some (.lst vs)) (il : IsL K (hide A H) vs ds) : WkOk K A H (Itl K p) ds := by
  have at2 : ∀ A2 H2, Tr A H A2 H2 → H2 p = some (.lst vs) := fun A2 H2 r => r.keep p _ hp rfl pA
  refine ⟨fun A2 H2 r i d e => ?_, fun A2 H2 r _ i d e x H3 y => ?_, fun A2 H2 r i hi => ⟨vs, .inl (.inl (at2 A2 H2 r)), by rw [il.len]; exact hi⟩⟩
  · obtain ⟨v, h1, _⟩ := il.get e
    exact ⟨vs, v, .inl (.inl (at2 A2 H2 r)), h1⟩
  · obtain ⟨rfl, y⟩ := y
    exact ⟨.inl rfl, isl_ix (IsL.kp r.kp il) e (y vs (.inl (.inl (at2 A2 _ r))))⟩
theorem wk_tup {A : List Addr} {H : Hp} {p : Addr} {vs : List V} {ds : List D} (hp : SqT K (hide A H) p vs) (il : IsL K (hide A H) vs ds) : WkOk K A H (Itt K p) ds := by
  have at2 : ∀ A2 H2, Tr A H A2 H2 → SqT K H2 p vs := fun A2 H2 r => sqt_out (r.kp.sqt hp)
  refine ⟨fun A2 H2 r i d e => ?_, fun A2 H2 r _ i d e x H3 y => ?_, fun A2 H2 r i hi => ⟨vs, at2 A2 H2 r, by rw [il.len]; exact hi⟩⟩
  · obtain ⟨v, h1, _⟩ := il.get e
    exact ⟨vs, v, at2 A2 H2 r, h1⟩
  · obtain ⟨rfl, y⟩ := y
    exact ⟨.inl rfl, isl_ix (IsL.kp r.kp il) e (y vs (at2 A2 _ r))⟩
theorem di_lst (h1 : DE K T ta f) : DI K T (iList K ta) (wOf asLd f) := by
  intro dm A0 H0 A σ H env k R S ds k' hf hR
  obtain ⟨s, e1, e2⟩ := wOf_some hf
  refine h1 dm A0 H0 A σ H env k _ S s k' e1 fun v H' S' l i => ?_
  obtain ⟨p, vs, rfl, pA, hp, il⟩ := is_lstd i e2
  exact ⟨p, rfl, ⟨vs, .inl (.inl hp)⟩, hR _ H' S' l (wk_lst pA hp il)⟩
theorem di_tup (h1 : DE K T ta f) : DI K T (iTup K ta) (wOf asT f) := by
  intro dm A0 H0 A σ H env k R S ds k' hf hR
  obtain ⟨s, e1, e2⟩ := wOf_some hf
  refine h1 dm A0 H0 A σ H env k _ S s k' e1 fun v H' S' l i => ?_
  obtain ⟨p, vs, rfl, hp, hp', il⟩ := is_tup i e2
  exact ⟨p, rfl, ⟨vs, hp⟩, hR _ H' S' l (wk_tup hp' il)⟩
/-- the ints of a range -/
def rng (lo : Int) (n : Nat) : List D := (List.range n).map fun i => .int (lo + (i : Nat))
theorem rng_at {lo : Int} {n i : Nat} {d : D} (h : (rng lo n)[i]? = some d) : i < n ∧ d = .int (lo + (i : Nat)) := by
  unfold rng at h
  rw [List.getElem?_map] at h
  by_cases hi : i < n
  · rw [List.getElem?_range hi] at h
    cases h
    exact ⟨hi, rfl⟩
  · rw [List.getElem?_eq_none (by rw [List.length_range]; omega)] at h
    cases h
theorem rng_len (lo : Int) (n : Nat) : (rng lo n).length = n := by unfold rng; rw [List.length_map, List.length_range]
theorem wk_rng {A : List Addr} {H : Hp} {lo : Int} {n : Nat} : WkOk K A H (Itr lo n) (rng lo n) := by
  refine ⟨fun A2 H2 r i d e => (rng_at e).1, fun A2 H2 r _ i d e x H3 y => ?_, fun A2 H2 r i hi => by rw [rng_len] at hi; exact hi⟩
  obtain ⟨rfl, rfl⟩ := y
  rw [(rng_at e).2]
  exact ⟨.inl rfl, .int _⟩
def wRng1 (h : Fl) : Fw := fun env k => match h env k with
  | some ([.dat (.int j)], k') => if -(2 ^ 62) ≤ j ∧ j < 2 ^ 62 then some (rng 0 j.toNat, k') else none
  | _ => none
def wRng2 (h : Fl) : Fw := fun env k => match h env k with
  | some ([.dat (.int i), .dat (.int j)], k') => if -(2 ^ 62) ≤ i ∧ i < 2 ^ 62 ∧ -(2 ^ 62) ≤ j ∧ j < 2 ^ 62 then some (rng i (j - i).toNat, k') else none
  | _ => none
theorem di_rng1 {t : TA} {h : Fl} (h1 : DA K T t h) : DI K T (iRng1 t) (wRng1 h) := by
  intro dm A0 H0 A σ H env k R S ds k' hf hR
  unfold wRng1 at hf
  split at hf
  · rename_i j k1 e
    by_cases hc : -(2 ^ 62) ≤ j ∧ j < 2 ^ 62
    · rw [if_pos hc] at hf
      cases hf
      refine h1 dm A0 H0 A σ H env k _ S _ k' e fun vs H' S' l is => ?_
      cases is with
      | cons i1 is =>
        cases is
        rw [is_int i1]
        exact ⟨j, rfl, hc.1, hc.2, hR _ H' S' l wk_rng⟩
    · rw [if_neg hc] at hf; cases hf
  · cases hf
theorem di_rng2 {t : TA} {h : Fl} (h1 : DA K T t h) : DI K T (iRng2 t) (wRng2 h) := by
  intro dm A0 H0 A σ H env k R S ds k' hf hR
  unfold wRng2 at hf
  split at hf
  · rename_i i j k1 e
    by_cases hc : -(2 ^ 62) ≤ i ∧ i < 2 ^ 62 ∧ -(2 ^ 62) ≤ j ∧ j < 2 ^ 62
    · rw [if_pos hc] at hf
      cases hf
      refine h1 dm A0 H0 A σ H env k _ S _ k' e fun vs H' S' l is => ?_
      cases is with
      | cons i1 is =>
        cases is with
        | cons i2 is =>
          cases is
          rw [is_int i1, is_int i2]
          exact ⟨i, j, rfl, hc, hR _ H' S' l wk_rng⟩
    · rw [if_neg hc] at hf; cases hf
  · cases hf
/-! ### for -/
def loopF (q : Fg') (g : Fs) : List D → Fs
  | [], env, k => .nx env k
  | d :: ds, env, k => match q (.dat d) env with
    | none => .bad
    | some e1 => match g e1 k with
      | .nx e k' => loopF q g ds e k'
      | .ct e k' => loopF q g ds e k'
      | .bk e k' => .nx e k'
      | .rt d k' => .rt d k'
      | .bad => .bad
def sFor (fi : Fw) (q : Fg') (g : Fs) : Fs := fun env k => match fi env k with
  | some (ds, k') => loopF q g ds env k'
  | none => .bad
theorem Sta.yield {dm : Dm} {A0 : List Addr} {H0 : Hp} {A : List Addr} {σ : List (Option V)} {H H3 : Hp} {env : List Sl} {k : Dk} (S : Sta K T dm A0 H0 A σ H env k) (h : H3 = H ∨ ∃ p o, H p = none ∧ H3 = upd H p o) : Sta K T dm A0 H0 A σ H3 env k ∧ Lt dm H H3 := by
  rcases h with rfl | ⟨p, o, hp, rfl⟩
  · exact ⟨S, Lt.refl _ _⟩
  · exact ⟨S.new hp, Lt.new hp⟩
theorem ds_for {wi : TI} {fi : Fw} {g : TG} {q : Fg'} {tb : TS} {b : Fs} {l : List Nat} (h1 : DI K T wi fi) (h2 : DG K T g q l) (h3 : DS K T tb b) : DS K T (tFor wi g tb) (sFor fi q b) := by
  intro dm A0 H0 A σ H env k E S o
  unfold sFor at o
  cases e : fi env k with
  | none => rw [e] at o; exact o.elim
  | some p =>
    obtain ⟨ds, k'⟩ := p
    rw [e] at o
    simp only at o
    refine h1 dm A0 H0 A σ H env k _ S ds k' e fun J H1 S1 l1 w => ?_
    have o1 := OkOut.later (tr_of_lt S.wd l1) o
    refine ⟨fun i m σ2 H2 => ∃ A2 env2 k2, Sta K T dm A0 H0 A2 σ2 H2 env2 k2 ∧ Tr A H1 A2 H2 ∧ m = ds.length - i ∧ i ≤ ds.length ∧ OkOut K T dm A0 H0 A2 H2 E (loopF q b (ds.drop i) env2 k2),
      ⟨ds.length, A, env, k', S1, Tr.refl _ _, rfl, Nat.zero_le _, o1⟩, fun i m σ2 H2 ⟨A2, env2, k2, S2, r2, em, hi, o2⟩ => ?_⟩
    by_cases hlt : i < ds.length
    · refine .inr ⟨w.go A2 H2 r2 i ds[i] (List.getElem?_eq_getElem hlt), fun σ3 H3 => ∃ A3 env3 k3, Sta K T dm A0 H0 A3 σ3 H3 env3 k3 ∧ Tr A H1 A3 H3 ∧ OkOut K T dm A0 H0 A3 H3 E (loopF q b (ds.drop (i + 1)) env3 k3), fun σ3 H3 ⟨A3, env3, k3, S3, r3, o3⟩ => ⟨ds.length - (i + 1), by omega, A3, env3, k3, S3, r3, rfl, hlt, o3⟩, fun x H3 y => ?_⟩
      obtain ⟨hH3, ix⟩ := w.yl A2 H2 r2 S2.wd.dom i ds[i] (List.getElem?_eq_getElem hlt) x H3 y
      obtain ⟨S3, l3⟩ := S2.yield hH3
      rw [List.drop_eq_getElem_cons hlt] at o2
      unfold loopF at o2
      cases eq : q (.dat ds[i]) env2 with
      | none => rw [eq] at o2; exact o2.elim
      | some e1 =>
        rw [eq] at o2
        simp only at o2
        refine h2 dm A0 H0 A2 σ2 H3 env2 k2 x (.dat ds[i]) _ S3 ix e1 eq fun σ4 S4 _ => ?_
        refine h3 dm A0 H0 A2 σ4 H3 e1 k2 _ S4 ?_
        have r3 := r2.trans (tr_of_lt S2.wd l3)
        have o3 := OkOut.later (tr_of_lt S2.wd l3) o2
        cases eb : b e1 k2 with
        | nx e5 k5 => rw [eb] at o3; exact fun A5 σ5 H5 S5 r5 => ⟨A5, e5, k5, S5, r3.trans r5, OkOut.later r5 o3⟩
        | ct e5 k5 => rw [eb] at o3; exact fun A5 σ5 H5 S5 r5 => ⟨A5, e5, k5, S5, r3.trans r5, OkOut.later r5 o3⟩
        | bk e5 k5 => rw [eb] at o3; exact o3
        | rt d5 k5 => rw [eb] at o3; exact o3
        | bad => rw [eb] at o3; exact o3
    · have ei : i = ds.length := by omega
      subst ei
      refine .inl ⟨w.st A2 H2 r2 _ (Nat.le_refl _), ?_⟩
      rw [List.drop_length] at o2
      exact o2 A2 σ2 H2 S2 (Tr.refl _ _)
/-! ### while -/
def loopW (c : Ft) (g : Fs) : Nat → Fs
  | 0, _, _ => .bad
  | n + 1, env, k => match c env k with
    | none => .bad
    | some (false, k') => .nx env k'
    | some (true, k') => match g env k' with
      | .nx e k'' => loopW c g n e k''
      | .ct e k'' => loopW c g n e k''
      | .bk e k'' => .nx e k''
      | .rt d k'' => .rt d k''
      | .bad => .bad
def sWhile (fuel : List Sl → Dk → Nat) (c : Ft) (g : Fs) : Fs := fun env k => loopW c g (fuel env k) env k
theorem ds_while {fuel : List Sl → Dk → Nat} {tc : TT} {c : Ft} {tb : TS} {b : Fs} (h1 : DT K T tc c) (h3 : DS K T tb b) : DS K T (tWhile tc tb) (sWhile fuel c b) := by
  intro dm A0 H0 A σ H env k E S o
  unfold sWhile at o
  refine ⟨fun m σ2 H2 => ∃ A2 env2 k2, Sta K T dm A0 H0 A2 σ2 H2 env2 k2 ∧ OkOut K T dm A0 H0 A2 H2 E (loopW c b m env2 k2), ⟨_, A, env, k, S, o⟩, fun m σ2 H2 ⟨A2, env2, k2, S2, o2⟩ => ?_⟩
  cases m with
  | zero => exact o2.elim
  | succ m =>
    unfold loopW at o2
    cases ec : c env2 k2 with
    | none => rw [ec] at o2; exact o2.elim
    | some p =>
      obtain ⟨x, k3⟩ := p
      rw [ec] at o2
      refine h1 dm A0 H0 A2 σ2 H2 env2 k2 _ S2 x k3 ec fun H3 S3 l3 => ?_
      cases x with
      | false => exact iteF (o2 A2 σ2 H3 S3 (tr_of_lt S2.wd l3))
      | true =>
        have o3 := OkOut.later (tr_of_lt S2.wd l3) o2
        refine iteT ⟨fun σ' H' => ∃ A4 env4 k4, Sta K T dm A0 H0 A4 σ' H' env4 k4 ∧ OkOut K T dm A0 H0 A4 H' E (loopW c b m env4 k4), fun σ' H' n => ⟨m, Nat.lt_succ_self m, n⟩, ?_⟩
        refine h3 dm A0 H0 A2 σ2 H3 env2 k3 _ S3 ?_
        simp only at o3
        cases eb : b env2 k3 with
        | nx e5 k5 => rw [eb] at o3; exact fun A5 σ5 H5 S5 r5 => ⟨A5, e5, k5, S5, OkOut.later r5 o3⟩
        | ct e5 k5 => rw [eb] at o3; exact fun A5 σ5 H5 S5 r5 => ⟨A5, e5, k5, S5, OkOut.later r5 o3⟩
        | bk e5 k5 => rw [eb] at o3; exact o3
        | rt d5 k5 => rw [eb] at o3; exact o3
        | bad => rw [eb] at o3; exact o3
/-! ### [e for x in it if t] -/
def wipeE (env : List Sl) : List Nat → List Sl
  | [] => env
  | v :: vs => (wipeE env vs).set v .un
theorem wipe_chg (σ : List (Option V)) : ∀ vs : List Nat, Chg vs σ (wipe σ vs)
  | [] => ⟨rfl, fun _ _ => rfl⟩
  | v :: vs => by
    obtain ⟨h1, h2⟩ := wipe_chg σ vs
    refine ⟨by show ((wipe σ vs).set v none).length = _; rw [List.length_set]; exact h1, fun j hj => ?_⟩
    show ((wipe σ vs).set v none)[j]? = _
    rw [List.getElem?_set_ne fun z => hj (by rw [z]; exact List.mem_cons_self)]
    exact h2 j fun z => hj (List.mem_cons_of_mem _ z)
theorem wipe_in (σ : List (Option V)) : ∀ (vs : List Nat) (j : Nat), j ∈ vs → j < σ.length → (wipe σ vs)[j]? = some none
  | [], j, h, _ => (nomatch h)
  | v :: vs, j, h, hl => by
    show ((wipe σ vs).set v none)[j]? = _
    have e : (wipe σ vs).length = σ.length := wipe_length σ vs
    by_cases hj : v = j
    · subst hj
      rw [List.getElem?_set_self (by omega)]
    · rw [List.getElem?_set_ne hj]
      refine wipe_in σ vs j ?_ hl
      rcases List.mem_cons.mp h with q | q
      · exact absurd q.symm hj
      · exact q
theorem wipe_eq {σ σ' : List (Option V)} {l vs : List Nat} (h : Chg l σ σ') (hl : ∀ j ∈ l, j ∈ vs) : wipe σ' vs = wipe σ vs := by
  apply List.ext_getElem?
  intro j
  by_cases hj : j ∈ vs
  · by_cases hlen : j < σ.length
    · rw [wipe_in σ vs j hj hlen, wipe_in σ' vs j hj (by rw [h.1]; exact hlen)]
    · rw [List.getElem?_eq_none (by rw [wipe_length, h.1]; omega), List.getElem?_eq_none (by rw [wipe_length]; omega)]
  · rw [(wipe_chg σ' vs).2 j hj, (wipe_chg σ vs).2 j hj]
    exact h.2 j fun z => hj (hl j z)
theorem wipeE_len (env : List Sl) : ∀ vs : List Nat, (wipeE env vs).length = env.length
  | [] => rfl
  | v :: vs => by show ((wipeE env vs).set v .un).length = _; rw [List.length_set]; exact wipeE_len env vs
theorem Sta.unset {dm : Dm} {A0 : List Addr} {H0 : Hp} {A : List Addr} {σ : List (Option V)} {H : Hp} {env : List Sl} {k : Dk} (S : Sta K T dm A0 H0 A σ H env k) (i : Nat) : Sta K T dm A0 H0 A (σ.set i none) H (env.set i .un) k := by
  have no : ∀ (c : Nat) (ds : List D), (env.set i Sl.un)[c]? = some (Sl.own ds) → c ≠ i := fun c ds hc z => by
    subst z
    by_cases hl : c < env.length
    · rw [List.getElem?_set_self hl] at hc; cases hc
    · rw [List.getElem?_eq_none (by rw [List.length_set]; omega)] at hc; cases hc
  refine ⟨S.wd, S.lt, S.sub, S.dom0, S.dm0, by rw [List.length_set, List.length_set]; exact S.len, fun j => ?_, fun a b p ds es h1 h2 h3 h4 => ?_⟩
  · by_cases hj : j = i
    · subst hj
      by_cases hl : j < env.length
      · rw [List.getElem?_set_self hl]; exact trivial
      · rw [List.getElem?_eq_none (l := env.set j .un) (by rw [List.length_set]; omega)]; exact trivial
    · rw [List.getElem?_set_ne (Ne.symm hj), List.getElem?_set_ne (Ne.symm hj)]
      exact S.slot j
  · have ha := no a ds h1
    have hb := no b es h2
    rw [List.getElem?_set_ne (Ne.symm ha)] at h1 h3
    rw [List.getElem?_set_ne (Ne.symm hb)] at h2 h4
    exact S.uniq a b p ds es h1 h2 h3 h4
theorem Sta.wipe {dm : Dm} {A0 : List Addr} {H0 : Hp} {A : List Addr} {σ : List (Option V)} {H : Hp} {env : List Sl} {k : Dk} (S : Sta K T dm A0 H0 A σ H env k) : ∀ vs : List Nat, Sta K T dm A0 H0 A (L2.wipe σ vs) H (wipeE env vs) k
  | [] => S
  | v :: vs => (Sta.wipe S vs).unset v
/-- a new list beside the slots -/
theorem Sta.hid {dm : Dm} {A0 : List Addr} {H0 : Hp} {A : List Addr} {σ : List (Option V)} {H : Hp} {env : List Sl} {k : Dk} {p : Addr} {o : HO} (S : Sta K T dm A0 H0 A σ H env k) (hp : H p = none) : Sta K T dm A0 H0 (p :: A) σ (upd H p o) env k := by
  have S1 := S.new (o := o) hp
  have hh := hide_cons (A := A) hp o
  refine ⟨⟨fun b hb => ?_, S1.wd.tab, fun a c e => ?_⟩, S1.lt, fun b hb => List.mem_cons_of_mem _ (S.sub b hb), S.dom0, S.dm0, S.len, fun j => ?_, S.uniq⟩
  · rcases List.mem_cons.mp hb with e | hb
    · rw [e, upd_same]; simp
    · exact S1.wd.dom b hb
  · obtain ⟨q1, q2, q3⟩ := S1.wd.dk a c e
    exact ⟨List.mem_cons_of_mem _ q1, List.mem_cons_of_mem _ q2, q3⟩
  · have q := S.slot j
    cases e : env[j]? with
    | none => exact trivial
    | some z =>
      rw [e] at q
      cases z with
      | un => exact trivial
      | dat d => obtain ⟨v, h1, h2⟩ := q; exact ⟨v, h1, by rw [hh]; exact h2⟩
      | deck => exact q
      | own es =>
        obtain ⟨p', ws, h1, h2, h3, h4, h5, h6⟩ := q
        exact ⟨p', ws, h1, List.mem_cons_of_mem _ h2, h3, h4, by rw [upd_ne (ne_of_none h5 hp)]; exact h5, by rw [hh]; exact h6⟩
      | scr ns => obtain ⟨a, h1, h2⟩ := q; exact ⟨a, h1, h2.new fun ob u z => by rw [hp] at z; cases z⟩
def loopC (q : Fg') (c : Ft) (f : Fe) (env0 : List Sl) : List D → List D → Dk → Option (List D × Dk)
  | [], acc, k => some (acc, k)
  | d :: ds, acc, k => (q (.dat d) env0).bind fun e1 => (c e1 k).bind fun b => if b.1 = true then (f e1 b.2).bind fun y => match y.1 with
      | .dat z => if acc.length < 1000000 then loopC q c f env0 ds (acc ++ [z]) y.2 else none
      | _ => none
    else loopC q c f env0 ds acc b.2
def fLc (fi : Fw) (q : Fg') (c : Ft) (f : Fe) (vs : List Nat) : Fe := fun env k => (fi env k).bind fun p => (loopC q c f (wipeE env vs) p.1 [] p.2).map fun r => (.dat (.list r.1), r.2)
/-- the state while the list at p grows -/
structure Grow (K : Fg) (T : List Addr) (dm : Dm) (A0 : List Addr) (H0 : Hp) (A : List Addr) (σ : List (Option V)) (H1 : Hp) (env : List Sl) (p : Addr) (vs : List V) (acc : List D) (H : Hp) (k : Dk) : Prop where
  sta : Sta K T dm A0 H0 (p :: A) σ H env k
  lt : Lt dm H1 H
  at_ : H p = some (.lst vs)
  il : IsL K (hide (p :: A) H) vs acc
theorem Grow.more {dm : Dm} {A0 : List Addr} {H0 : Hp} {A : List Addr} {σ : List (Option V)} {H1 : Hp} {env : List Sl} {p : Addr} {vs : List V} {acc : List D} {H : Hp} {k : Dk} {v : V} {d : D} (G : Grow K T dm A0 H0 A σ H1 env p vs acc H k)
    (hp1 : H1 p = none) (hp0 : H0 p = none) (h0 : p ∉ A0) (hs : ∀ (j : Nat) ds, env[j]? = some (Sl.own ds) → σ[j]? ≠ some (some (.ref p))) (h : Is K (hide (p :: A) H) v d) : Grow K T dm A0 H0 A σ H1 env p (vs ++ [v]) (acc ++ [d]) (upd H p (.lst (vs ++ [v]))) k := by
  obtain ⟨S, l, e, il⟩ := G
  have pA : p ∈ p :: A := List.mem_cons_self
  have hh : hide (p :: A) (upd H p (.lst (vs ++ [v]))) = hide (p :: A) H := hide_upd pA _
  have dmn : ∀ a c, dm = some (a, c) → a ≠ p ∧ c ≠ p := fun a c q => ⟨fun z => h0 (z ▸ (S.dm0 a c q).1), fun z => h0 (z ▸ (S.dm0 a c q).2)⟩
  have dom : ∀ b, H b ≠ none → (upd H p (.lst (vs ++ [v]))) b ≠ none := fun b q => by
    by_cases z : b = p
    · rw [z, upd_same]; simp
    · rw [upd_ne z]; exact q
  refine ⟨⟨⟨fun b hb => dom b (S.wd.dom b hb), fun P hP => ?_, fun a c q => ?_⟩, ⟨fun b u q z n => ?_, fun b q => dom b (S.lt.dom b q)⟩, S.sub, S.dom0, S.dm0, S.len, fun j => ?_, S.uniq⟩, ⟨fun b u q z n => ?_, fun b q => dom b (l.dom b q)⟩, upd_same, by rw [hh]; exact il.app (.cons h .nil)⟩
  · obtain ⟨ps, q, t⟩ := S.wd.tab P hP
    exact ⟨ps, by rw [upd_ne fun z => by rw [z, e] at q; cases q]; exact q, t⟩
  · obtain ⟨q1, q2, q3, q4, q5⟩ := S.wd.dk a c q
    obtain ⟨n1, n2⟩ := dmn a c q
    exact ⟨q1, q2, q3, by rw [upd_ne n1]; exact q4, by rw [upd_ne n2]; exact q5⟩
  · rw [upd_ne fun w => by rw [w, hp0] at q; cases q]
    exact S.lt.keep b u q z n
  · have q := S.slot j
    cases e2 : env[j]? with
    | none => exact trivial
    | some z =>
      rw [e2] at q
      cases z with
      | un => exact trivial
      | dat d' => obtain ⟨v', h1, h2⟩ := q; exact ⟨v', h1, by rw [hh]; exact h2⟩
      | deck => exact q
      | own es =>
        obtain ⟨p2, us, h1, h2, h3, h4, h5, h6⟩ := q
        have ne : p2 ≠ p := fun z => hs j es e2 (by rw [← z]; exact h1)
        exact ⟨p2, us, h1, h2, h3, h4, by rw [upd_ne ne]; exact h5, by rw [hh]; exact h6⟩
      | scr ns => obtain ⟨a, h1, h2⟩ := q; exact ⟨a, h1, h2.new fun ob u z => by rw [e] at z; cases z⟩
  · rw [upd_ne fun w => by rw [w, hp1] at q; cases q]
    exact l.keep b u q z n
theorem Sta.h0new {dm : Dm} {A0 : List Addr} {H0 : Hp} {A : List Addr} {σ : List (Option V)} {H : Hp} {env : List Sl} {k : Dk} {p : Addr} (S : Sta K T dm A0 H0 A σ H env k) (hp : H p = none) : H0 p = none := by
  cases e : H0 p with
  | none => rfl
  | some o => exact absurd hp (S.lt.dom p (by rw [e]; simp))
theorem Sta.noown {dm : Dm} {A0 : List Addr} {H0 : Hp} {A : List Addr} {σ : List (Option V)} {H : Hp} {env : List Sl} {k : Dk} {p : Addr} (S : Sta K T dm A0 H0 A σ H env k) (hp : H p = none) : ∀ (j : Nat) ds, env[j]? = some (Sl.own ds) → σ[j]? ≠ some (some (.ref p)) := fun j ds e z => by
  have q := S.slot j
  rw [e] at q
  obtain ⟨p', vs', h1, h2, _⟩ := q
  rw [z] at h1
  cases h1
  exact notA S.wd hp h2
theorem de_lc {wi : TI} {fi : Fw} {g : TG} {q : Fg'} {l : List Nat} {tt : TT} {c : Ft} {te : TE} {fe : Fe} {vs : List Nat} (h1 : DI K T wi fi) (h2 : DG K T g q l) (h3 : DT K T tt c) (h4 : DE K T te fe) (hl : ∀ j ∈ l, j ∈ vs) :
    DE K T (tLc wi g tt te vs) (fLc fi q c fe vs) := by
  intro dm A0 H0 A σ H env k Q S s k' hf hQ
  unfold fLc at hf
  cases e : fi env k with
  | none => rw [e] at hf; cases hf
  | some p =>
    obtain ⟨ds, k1⟩ := p
    rw [e] at hf
    simp only [Option.bind_some] at hf
    cases er : loopC q c fe (wipeE env vs) ds [] k1 with
    | none => rw [er] at hf; cases hf
    | some r =>
      rw [er] at hf
      cases hf
      refine h1 dm A0 H0 A σ H env k _ S ds k1 e fun J H1 S1 l1 w => ?_
      intro p hp
      have S1w := S1.wipe vs
      have p0 : p ∉ A0 := fun m => notA S1.wd hp (S1.sub p m)
      have hp0 := S1.h0new hp
      have no := S1w.noown hp
      have rp : Tr A H1 (p :: A) (upd H1 p (.lst [])) := ⟨fun b o q _ _ => by rw [upd_ne (ne_of_none q hp)]; exact q, fun b q => (Lt.new (dm := dm) hp).dom b q, fun b hb => by
        rcases List.mem_cons.mp hb with z | z
        · exact .inr (z ▸ hp)
        · exact .inl z⟩
      have trG : ∀ {H2 : Hp} {k2 : Dk} {ws : List V} {acc : List D}, Grow K T dm A0 H0 A (L2.wipe σ vs) H1 (wipeE env vs) p ws acc H2 k2 → Tr A H1 (p :: A) H2 := fun {H2 k2 ws acc} G =>
        ⟨fun b o q z n => (tr_of_lt S1.wd G.lt).keep b o q z n, G.lt.dom, fun b hb => by
          rcases List.mem_cons.mp hb with z | z
          · exact .inr (z ▸ hp)
          · exact .inl z⟩
      refine ⟨fun i m H2 => ∃ ws acc k2, Grow K T dm A0 H0 A (L2.wipe σ vs) H1 (wipeE env vs) p ws acc H2 k2 ∧ m = ds.length - i ∧ i ≤ ds.length ∧ loopC q c fe (wipeE env vs) (ds.drop i) acc k2 = some r,
        ⟨ds.length, [], [], k1, ⟨S1w.hid hp, Lt.new hp, upd_same, .nil⟩, rfl, Nat.zero_le _, er⟩, fun i m H2 ⟨ws, acc, k2, G, em, hi, el⟩ => ?_⟩
      by_cases hlt : i < ds.length
      · refine .inr ⟨w.go _ H2 (trG G) i ds[i] (List.getElem?_eq_getElem hlt), fun H3 => ∃ ws acc k2, Grow K T dm A0 H0 A (L2.wipe σ vs) H1 (wipeE env vs) p ws acc H3 k2 ∧ loopC q c fe (wipeE env vs) (ds.drop (i + 1)) acc k2 = some r,
          fun H3 ⟨ws, acc, k2, G, el⟩ => ⟨ds.length - (i + 1), by omega, ws, acc, k2, G, rfl, hlt, el⟩, fun x H3 y => ?_⟩
        obtain ⟨hH3, ix⟩ := w.yl _ H2 (trG G) G.sta.wd.dom i ds[i] (List.getElem?_eq_getElem hlt) x H3 y
        obtain ⟨S3, l3⟩ := G.sta.yield hH3
        rw [List.drop_eq_getElem_cons hlt] at el
        unfold loopC at el
        cases eq : q (.dat ds[i]) (wipeE env vs) with
        | none => rw [eq] at el; cases el
        | some e1 =>
          rw [eq] at el
          simp only [Option.bind_some] at el
          cases ec : c e1 k2 with
          | none => rw [ec] at el; cases el
          | some b =>
            obtain ⟨b, k3⟩ := b
            rw [ec] at el
            simp only [Option.bind_some] at el
            refine h2 dm A0 H0 _ _ H3 _ k2 x (.dat ds[i]) _ S3 ix e1 eq fun σ4 S4 cg => ⟨(wipe_eq cg hl).trans (wipe_eq (wipe_chg σ vs) fun _ h => h), ?_⟩
            refine h3 dm A0 H0 _ σ4 H3 e1 k2 _ S4 b k3 ec fun H4 S5 l4 => ?_
            have keepG : ∀ {H5 : Hp} {k5 : Dk} {σ5 : List (Option V)} {e5 : List Sl}, Sta K T dm A0 H0 (p :: A) σ5 H5 e5 k5 → Lt dm H2 H5 → Grow K T dm A0 H0 A (L2.wipe σ vs) H1 (wipeE env vs) p ws acc H5 k5 := fun {H5 k5 σ5 e5} S5 l5 =>
              ⟨G.sta.at S5.wd l5, G.lt.trans l5, l5.keep p _ G.at_ rfl fun a c z => ⟨fun q => p0 (q ▸ (S1.dm0 a c z).1), fun q => p0 (q ▸ (S1.dm0 a c z).2)⟩, IsL.kp (l5.kp G.sta.wd) G.il⟩
            cases b with
            | false =>
              simp only [Bool.false_eq_true, if_false] at el
              exact iteF ⟨ws, acc, k3, keepG S5 (l3.trans l4), el⟩
            | true =>
              simp only [if_true] at el
              refine iteT ?_
              cases ef : fe e1 k3 with
              | none => rw [ef] at el; cases el
              | some z =>
                obtain ⟨z, k4⟩ := z
                rw [ef] at el
                simp only [Option.bind_some] at el
                cases z with
                | dat d =>
                  simp only at el
                  by_cases hc : acc.length < 1000000
                  · rw [if_pos hc] at el
                    refine h4 dm A0 H0 _ σ4 H4 e1 k3 _ S5 (.dat d) k4 ef fun v H5 S6 l5 iv => ?_
                    have G5 := keepG S6 ((l3.trans l4).trans l5)
                    exact ⟨ws, G5.at_, Nat.lt_of_lt_of_le (by rw [G5.il.len]; exact hc) (by decide), _, _, k4, G5.more hp hp0 p0 no iv, el⟩
                  · rw [if_neg hc] at el; cases el
                | _ => cases el
      · have ei : i = ds.length := by omega
        subst ei
        rw [List.drop_length] at el
        cases el
        refine .inl ⟨w.st _ H2 (trG G) _ (Nat.le_refl _), ?_⟩
        have wd2 : Wd T dm A H2 k2 := ⟨fun b hb => G.sta.wd.dom b (List.mem_cons_of_mem _ hb), G.sta.wd.tab, fun a c z => ⟨S1.sub a (S1.dm0 a c z).1, S1.sub c (S1.dm0 a c z).2, (G.sta.wd.dk a c z).2.2⟩⟩
        refine hQ _ H2 (S1.at wd2 G.lt) (l1.trans G.lt) ?_
        exact Is.lst (by rw [hide_out (notA S1.wd hp)]; exact G.at_) (IsL.kp (hide_mono fun b hb => List.mem_cons_of_mem _ hb) G.il)
def fYes : Ft := fun _ k => some (true, k)
theorem dt_yes : DT K T tYes fYes := by
  intro dm A0 H0 A σ H env k Q S b k' hf hQ
  cases hf
  exact hQ H S (Lt.refl _ _)
end
end DL
set_option Elab.async false
set_option linter.all false
set_option maxRecDepth 100000
set_option maxHeartbeats 4000000
namespace DL
open PySem PySem.Spec PyProof.Rows L2
/-- a def's promise, where no repr is under way -/
structure FnG (P : Program) (w : World) (K : Fg) (mg : Str → Option Value) (base : Heap) (CX : CXT) (k : Nat) (f : Addr) (fd : FuncData) (ps : List Str) (sp : Sp) : Prop where
  len : ∀ vs H Q E, sp vs H Q E → vs.length = ps.length
  run : ∀ (A : Around) (outer : List Env) (s : Shared) (H : Hp) (args : Args) (us : List Value) (vs : List V) (Q : VK) (E : XK), A.guards = some [] → Room k A → Env0 P w K mg base A outer s H →
    BindsTo s fd args (ps.zip us) → Vals vs us → sp vs H Q E → codeAny (model P w) A (.call (.ref f) args) (CR CX outer P w H s Q E) s
section
variable {P : Program} {w : World} {K : Fg} {mg : Str → Option Value} {base : Heap} {CX : CXT} {k j : Nat} {f : Addr} {fd : FuncData} {ps : List Str} {sp sp' : Sp}
theorem FnG.mono (F : FnG P w K mg base CX j f fd ps sp) (h : j ≤ k) : FnG P w K mg base CX k f fd ps sp :=
  { len := F.len
    run := fun A outer s H args us vs Q E hg hr => F.run A outer s H args us vs Q E hg (hr.mono h) }
theorem FnG.imp (F : FnG P w K mg base CX k f fd ps sp) (h : ∀ vs H Q E, sp' vs H Q E → sp vs H Q E) : FnG P w K mg base CX k f fd ps sp' :=
  { len := fun vs H Q E q => F.len vs H Q E (h _ _ _ _ q)
    run := fun A outer s H args us vs Q E hg hr he hb hv hs => F.run A outer s H args us vs Q E hg hr he hb hv (h _ _ _ _ hs) }
theorem FnG.of (F : FnOk P w K mg base CX k f fd ps sp) : FnG P w K mg base CX k f fd ps sp :=
  { len := F.len, run := fun A outer s H args us vs Q E _ => F.run A outer s H args us vs Q E }
/-- by its body -/
theorem fnG_of {x qual : Str} {st : Stmt} {N : List Str} (F : Fun K x qual st f fd) (S : FnScope N ps (defScope st)) (len : ∀ vs H Q E, sp vs H Q E → vs.length = ps.length)
    (body : ∀ (cdv : Value) (A : Around) (outer : List Env) (s : Shared) (H : Hp) (vs : List V) (Q : VK) (E : XK), A.guards = some [] → Room k (A.deeper (envOfC qual (defScope st) s.heap.objs.size f cdv)) → sp vs H Q E →
      ∃ t, PSs (cxOf CX P w K mg base N qual (defScope st) f cdv A outer s H E) (defBody st) t ∧ t { nx := fun _ H' => Q .non H', rt := Q } (L2.start N vs) H) : FnG P w K mg base CX (k + 1) f fd ps sp := by
  obtain ⟨oc, od, kV, doc, pm, an, cdv, ct, osl, rfl, look, codeOk⟩ := F.ex
  constructor
  · exact len
  intro A outer s H args us vs Q E hg room env0 bnd vals want
  have size := len vs H Q E want
  have inK : K.In s.heap := env0.mod.kin.keeps (fun b o e => (env0.bs b o e).1)
  have noLim : s.heap.NoLimit := env0.mod.nolimit.keeps (fun b o e => (env0.bs b o e).1)
  refine codeAny_call_function room.depth (inK f _ look) rfl S.co S.gen rfl (PySem.W.codeRec_of inK codeOk) (bnd _ _ _ _ ?_)
  refine wpAny_newFunctionEnv_cells S.kind ?kinds ?rest
  case kinds =>
    rintro ⟨name, val⟩ hmem
    cases S.par name (List.of_mem_zip hmem).1 with
    | inl isLocal => exact Or.inl isLocal
    | inr isCell => exact Or.inr ⟨isCell, PySem.W.cellsFrom_some _ _ _ (Or.inl isCell)⟩
  case rest =>
    intro env henv s1 called
    cases henv
    refine ⟨noLim.keeps called.toInCall.keep, codeAny_func ?_⟩
    obtain ⟨t, derivation, reading⟩ := body cdv A outer s H vs Q E hg (room.deeper _) want
    have begun := inv_start (CX := CX) (P := P) (w := w) (K := K) (mg := mg) (base := base) (E := E) S room.hd env0 size vals called
    refine wpAny_mono (derivation.run [] s1 _ H _ begun reading) ?_ (fun _ _ left => left)
    intro flow s' ended
    match flow, ended with
    | .ret u, ⟨v, _, H', J, rel, q⟩ => exact ⟨v, H', J.os, J.bare, J.base, J.hok, rel, q⟩
    | .next, ⟨_, H', J, q⟩ => exact ⟨V.non, H', J.os, J.bare, J.base, J.hok, rfl, q⟩
    | .brk, ⟨_, _, _, q⟩ => exact q.elim
    | .cont, ⟨_, _, _, q⟩ => exact q.elim
end
section
variable {X : Cx} {CX : CXT} {k : Nat} {f : Addr} {fd : FuncData} {ps ks : List Str} {sp : Sp} {E : XK} {x : Str} {p pos : Pos} {e : Expr} {es : List Expr} {kws : List Keyword} {t tk : TA}
theorem runG {args : Args} {pins : List (Addr × Obj)} {σ : List (Option V)} {H : Hp} {s : Shared} {Q : VK} {us : List Value} {vs : List V} (F : FnG X.prog X.w X.K X.mg X.base CX k f fd ps sp) (hgd : X.A.guards = some []) (hr : Room k X.A) (hx : Passes CX X E)
    (hb : BindsTo s fd args (ps.zip us)) (I : Inv X pins σ H s) (r : Vals vs us) (h : sp vs H Q E) : codeAny (model X.prog X.w) X.A (.call (.ref f) args) (fun r s' => match r with
      | .ok (.ret u) => EP X pins σ Q u s'
      | .ok _ => False
      | .error e => X.xe e s') s := by
  refine codeAny_mono (F.run X.A X.stack s H args us vs Q E hgd hr I.env0 hb r h) fun r s' hq => ?_
  cases r with
  | error e => exact hx pins σ H s e s' I hq
  | ok fl =>
    cases fl with
    | ret u => exact I.after hq
    | next => exact hq.elim
    | brk => exact hq.elim
    | cont => exact hq.elim
theorem pe_callG (F : FnG X.prog X.w X.K X.mg X.base CX k f fd ps sp) (hgd : X.A.guards = some []) (hr : Room k X.A) (hg : Gl X x) (hm : X.mg x = some (.ref f)) (hk : PySem.W.keepIn X.K (.ref f) = true) (hb : Binds X.K fd ps []) (hx : Passes CX X E)
    (ha : PA X (e :: es) t) (hdb : (x == ("__debug__" : Str)) = false := by decide) (he : starEach (e :: es) X.env = (false, eval e X.env) :: starEach es X.env := by rfl) (hpl : (backTo pos (starEach es X.env)).any (·.1) = false := by rfl) :
    PE X (.Call (.Name x p) (e :: es) [] pos) (tCall sp [] E t) := by
  constructor
  intro pins s σ H Q I h
  refine wpAny_Call_Name_kw (ld_glob I hg hm ?_ hdb)
  refine PySem.W.callWith_K (h₀ := X.base) I.ok.mod.kin hk ?_ he hpl
  refine thn (ha.run pos pins s σ H _ I h) ?_
  rintro us s1 ⟨vs, H1, I1, r, q⟩
  have hl : (us ++ []).length = ps.length := by rw [List.append_nil, ← r.length]; have z := F.len _ _ _ _ q; rwa [List.append_nil] at z
  have hbb := hb s1 us I1.kIn hl
  rw [List.append_nil] at hbb
  have q' : sp vs H1 Q E := by
    have z : sp (vs ++ []) H1 Q E := q
    rwa [List.append_nil] at z
  exact ⟨I1.kIn, wpAny_call (codeAny_mono (runG F hgd hr hx hbb I1 r q') fun r s' hq => by
    cases r with
    | error e => exact hq
    | ok fl => cases fl <;> first | exact hq | exact hq.elim)⟩
/-- how keywords alone bind -/
structure KB (K : Fg) (fd : FuncData) (ps ks : List Str) (g : List Value → List Value) (gV : List V → List V) : Prop where
  to : ∀ (s : Shared) (ws : List Value), K.In s.heap → (g ws).length = ps.length → BindsTo s fd ⟨[], ks.zip ws⟩ (ps.zip (g ws))
  rel : ∀ {zs : List V} {ws : List Value}, Vals zs ws → Vals (gV zs) (g ws)
def tCallKw (sp : Sp) (gV : List V → List V) (E : XK) (tk : TA) : TE := fun σ H Q => tk σ H fun zs H2 => sp (gV zs) H2 Q E
theorem pe_callGK {g : List Value → List Value} {gV : List V → List V} (F : FnG X.prog X.w X.K X.mg X.base CX k f fd ps sp) (hgd : X.A.guards = some []) (hr : Room k X.A) (hg : Gl X x) (hm : X.mg x = some (.ref f)) (hk : PySem.W.keepIn X.K (.ref f) = true) (hb : KB X.K fd ps ks g gV) (hx : Passes CX X E)
    (hkw : PK X kws tk) (hall : (backToKw pos (keywordEach kws X.env)).all (·.1.isSome) = true := by rfl) (hks : (backToKw pos (keywordEach kws X.env)).filterMap (·.1) = ks := by rfl)
    (hdb : (x == ("__debug__" : Str)) = false := by decide) (hpl : ((backTo pos (starEach [] X.env)).any (·.1) || (backToKw pos (keywordEach kws X.env)).any (·.1.isNone)) = false := by rfl) :
    PE X (.Call (.Name x p) [] kws pos) (tCallKw sp gV E tk) := by
  constructor
  intro pins s σ H Q I h
  refine wpAny_Call_Name_kw (ld_glob I hg hm ?_ hdb)
  refine PySem.W.callWith_KW0 (h₀ := X.base) I.ok.mod.kin hk hall ?_ hpl
  refine thn (hkw.run pos pins s σ H _ I h) ?_
  rintro ws s2 ⟨zs, H2, I2, rz, q2⟩
  refine ⟨I2.kIn, ?_⟩
  rw [hks]
  have r2 := hb.rel rz
  have hl : (g ws).length = ps.length := by rw [← r2.length]; exact F.len _ _ _ _ q2
  exact wpAny_call (codeAny_mono (runG F hgd hr hx (hb.to s2 ws I2.kIn hl) I2 r2 q2) fun r s' hq => by
    cases r with
    | error e => exact hq
    | ok fl => cases fl <;> first | exact hq | exact hq.elim)
end
/-! ### a def over data -/
abbrev Fd := List Sl → Dk → Option (D × Dk)
/-- what a body does, as a function: m slots -/
def fnOf (m : Nat) (g : Fs) : Fd := fun ss k => match g (ss ++ List.replicate (m - ss.length) .un) k with
  | .rt d k' => some (d, k')
  | .nx _ k' => some (.none, k')
  | _ => none
/-- the arguments may be handed on -/
def okArg : Sl → Bool
  | .dat _ => true
  | .deck => true
  | .scr _ => true
  | _ => false
def spF (K : Fg) (T : List Addr) (n : Nat) (f : Fd) : Sp := fun vs H Q _ => ∃ (dm : Dm) (A : List Addr) (ss : List Sl) (k : Dk) (d : D) (k' : Dk), (∀ a c, dm = some (a, c) → a ∈ A ∧ c ∈ A) ∧ Wd T dm A H k ∧ IsSL K A dm A H vs ss ∧ vs.length = n ∧ ss.all okArg = true ∧ f ss k = some (d, k') ∧
  (∀ v H', Wd T dm A H' k' → Lt dm H H' → Is K (hide A H') v d → Q v H')
section
variable {K : Fg} {T : List Addr}
theorem IsSL.len {A0 : List Addr} {dm : Dm} {A : List Addr} {H : Hp} : ∀ {vs : List V} {ss : List Sl}, IsSL K A0 dm A H vs ss → vs.length = ss.length
  | _, _, .nil => rfl
  | _, _, .cons _ l => by rw [List.length_cons, List.length_cons, IsSL.len l]
theorem IsSL.at {A0 : List Addr} {dm : Dm} {A : List Addr} {H : Hp} : ∀ {vs : List V} {ss : List Sl} {i : Nat} {s : Sl}, IsSL K A0 dm A H vs ss → ss[i]? = some s → ∃ v, vs[i]? = some v ∧ IsS K A0 dm A H v s
  | _, _, _, _, .nil, e => by simp at e
  | _, _, 0, _, .cons h _, e => by simp at e; subst e; exact ⟨_, rfl, h⟩
  | _, _, i + 1, s, .cons _ l, e => by
    obtain ⟨v, h1, h2⟩ := IsSL.at (i := i) l (by simpa using e)
    exact ⟨v, by simpa using h1, h2⟩
/-- at a def's entry -/
theorem sta_start {dm : Dm} {A : List Addr} {H : Hp} {k : Dk} {vs : List V} {ss : List Sl} {N : List Str} (w : Wd T dm A H k) (hd : ∀ a c, dm = some (a, c) → a ∈ A ∧ c ∈ A) (h : IsSL K A dm A H vs ss) (ok : ss.all okArg = true) (hl : vs.length ≤ N.length) :
    Sta K T dm A H A (L2.start N vs) H (ss ++ List.replicate (N.length - ss.length) .un) k := by
  have e := h.len
  refine ⟨w, Lt.refl _ _, fun _ h => h, w.dom, hd, ?_, fun i => ?_, fun i j p ds es h1 _ _ _ => ?_⟩
  · unfold L2.start
    rw [List.length_append, List.length_append, List.length_map, List.length_replicate, List.length_replicate, e]
  · by_cases hi : i < ss.length
    · rw [List.getElem?_append_left hi]
      have e1 : ss[i]? = some ss[i] := List.getElem?_eq_getElem hi
      rw [e1]
      obtain ⟨v, h1, h2⟩ := h.at e1
      have e2 : (L2.start N vs)[i]? = some (some v) := by
        unfold L2.start
        rw [List.getElem?_append_left (by rw [List.length_map, e]; exact hi), List.getElem?_map, h1]
        rfl
      rw [e2]
      have ok1 : okArg ss[i] = true := List.all_eq_true.mp ok _ (List.getElem_mem hi)
      cases e3 : ss[i] with
      | un => exact trivial
      | dat d => rw [e3] at h2; exact ⟨v, rfl, h2⟩
      | deck => rw [e3] at h2; obtain ⟨a, c, q1, q2⟩ := h2; exact ⟨a, c, q1, by rw [q2]⟩
      | own ds => rw [e3] at ok1; cases ok1
      | scr ns => rw [e3] at h2; obtain ⟨a, q1, q2⟩ := h2; exact ⟨a, by rw [q1], q2⟩
    · rw [List.getElem?_append_right (by omega), List.getElem?_replicate]
      split <;> exact trivial
  · by_cases hi : i < ss.length
    · rw [List.getElem?_append_left hi, List.getElem?_eq_getElem hi] at h1
      have ok1 : okArg ss[i] = true := List.all_eq_true.mp ok _ (List.getElem_mem hi)
      have h1' : ss[i] = Sl.own ds := Option.some.inj h1
      rw [h1'] at ok1
      cases ok1
    · rw [List.getElem?_append_right (by omega), List.getElem?_replicate] at h1
      split at h1 <;> cases h1
/-- a body's reading keeps the promise -/
theorem spF_body {t : TS} {g : Fs} {N : List Str} {n : Nat} {vs : List V} {H : Hp} {Q : VK} {E : XK} (hn : n ≤ N.length) (h : DS K T t g) (sp : spF K T n (fnOf N.length g) vs H Q E) : t { nx := fun _ H' => Q .non H', rt := Q } (L2.start N vs) H := by
  obtain ⟨dm, A, ss, k, d, k', hd, w, il, hl, ok, hf, hQ⟩ := sp
  have S := sta_start (N := N) w hd il ok (by omega)
  refine h dm A H A (L2.start N vs) H _ k _ S ?_
  unfold fnOf at hf
  cases e : g (ss ++ List.replicate (N.length - ss.length) .un) k with
  | rt d1 k1 => rw [e] at hf; cases hf; exact hQ
  | nx e1 k1 => rw [e] at hf; cases hf; exact fun A' σ' H' S' _ => hQ _ H' S'.w0 S'.lt .non
  | bk e1 k1 => rw [e] at hf; cases hf
  | ct e1 k1 => rw [e] at hf; cases hf
  | bad => rw [e] at hf; cases hf
theorem spF_len {n : Nat} {f : Fd} {vs : List V} {H : Hp} {Q : VK} {E : XK} (sp : spF K T n f vs H Q E) : vs.length = n := by
  obtain ⟨dm, A, ss, k, d, k', hd, w, il, hl, ok, hf, hQ⟩ := sp
  exact hl
/-- a call -/
def fCall (n : Nat) (f : Fd) (h : Fl) : Fe := fun env k => (h env k).bind fun p => if p.1.length = n ∧ p.1.all okArg = true then (f p.1 p.2).map fun q => (.dat q.1, q.2) else none
theorem all_ok {A0 : List Addr} {dm : Dm} {A : List Addr} {H : Hp} : ∀ {vs : List V} {ss : List Sl}, IsSL K A0 dm A H vs ss → ss.all okArg = true → IsSL K A dm A H vs ss
  | _, _, .nil, _ => .nil
  | _, _, .cons (s := s) h l, e => by
    rw [List.all_cons, Bool.and_eq_true] at e
    refine .cons ?_ (all_ok l e.2)
    cases s with
    | un => exact h
    | dat d => exact h
    | deck => exact h
    | own ds => cases e.1
    | scr ns => exact h
theorem de_call {n : Nat} {f : Fd} {ta : TA} {h : Fl} {E : XK} (h1 : DA K T ta h) : DE K T (tCall (spF K T n f) [] E ta) (fCall n f h) := by
  intro dm A0 H0 A σ H env k Q S s k' hf hQ
  unfold fCall at hf
  cases e1 : h env k with
  | none => rw [e1] at hf; cases hf
  | some p =>
    obtain ⟨ss, k1⟩ := p
    rw [e1] at hf
    simp only [Option.bind_some] at hf
    by_cases hc : ss.length = n ∧ ss.all okArg = true
    · rw [if_pos hc] at hf
      cases e2 : f ss k1 with
      | none => rw [e2] at hf; cases hf
      | some q =>
        rw [e2] at hf
        cases hf
        refine h1 dm A0 H0 A σ H env k _ S ss k1 e1 fun vs H1 S1 l1 is => ?_
        rw [List.append_nil]
        refine ⟨dm, A, ss, k1, q.1, q.2, fun a c e => ⟨S1.sub a (S1.dm0 a c e).1, S1.sub c (S1.dm0 a c e).2⟩, S1.wd, all_ok is hc.2, by rw [is.len]; exact hc.1, hc.2, e2, fun v H2 w2 l2 iv => hQ v H2 (S1.at w2 l2) (l1.trans l2) iv⟩
    · rw [if_neg hc] at hf; cases hf
def fCallK (n : Nat) (f : Fd) (g : List Sl → List Sl) (h : Fl) : Fe := fun env k => (h env k).bind fun p => if (g p.1).length = n ∧ (g p.1).all okArg = true then (f (g p.1) p.2).map fun q => (.dat q.1, q.2) else none
theorem de_callK {n : Nat} {f : Fd} {ta : TA} {h : Fl} {E : XK} {g : List Sl → List Sl} {gV : List V → List V} (h1 : DA K T ta h) (hg : ∀ A0 dm A H vs ss, IsSL K A0 dm A H vs ss → IsSL K A0 dm A H (gV vs) (g ss)) : DE K T (tCallKw (spF K T n f) gV E ta) (fCallK n f g h) := by
  intro dm A0 H0 A σ H env k Q S s k' hf hQ
  unfold fCallK at hf
  cases e1 : h env k with
  | none => rw [e1] at hf; cases hf
  | some p =>
    obtain ⟨ss, k1⟩ := p
    rw [e1] at hf
    simp only [Option.bind_some] at hf
    by_cases hc : (g ss).length = n ∧ (g ss).all okArg = true
    · rw [if_pos hc] at hf
      cases e2 : f (g ss) k1 with
      | none => rw [e2] at hf; cases hf
      | some q =>
        rw [e2] at hf
        cases hf
        refine h1 dm A0 H0 A σ H env k _ S ss k1 e1 fun vs H1 S1 l1 is => ?_
        have is2 := hg _ _ _ _ _ _ is
        exact ⟨dm, A, g ss, k1, q.1, q.2, fun a c e => ⟨S1.sub a (S1.dm0 a c e).1, S1.sub c (S1.dm0 a c e).2⟩, S1.wd, all_ok is2 hc.2, by rw [is2.len]; exact hc.1, hc.2, e2, fun v H2 w2 l2 iv => hQ v H2 (S1.at w2 l2) (l1.trans l2) iv⟩
    · rw [if_neg hc] at hf; cases hf
end
end DL
set_option Elab.async false
set_option linter.all false
set_option maxRecDepth 100000
set_option maxHeartbeats 4000000
namespace DL
open PySem PySem.Spec PyProof.Rows L2
section
variable {K : Fg} {T : List Addr} {ta tb : TE} {f g : Fe}
/-- a call of a built-in with one data argument, the outcome pure -/
theorem de_b1 {r : List V → Hp → VK → Prop} {q : Sl → Option Sl} (h1 : DE K T ta f)
    (hr : ∀ dm A0 H0 A σ H env k x a s (Q : VK), Sta K T dm A0 H0 A σ H env k → IsS K A0 dm A H x a → q a = some s → (∀ v H', Sta K T dm A0 H0 A σ H' env k → Lt dm H H' → IsS K A0 dm A H' v s → Q v H') → r [x] H Q) :
    DE K T (tCB r (tCons ta tNil)) (f1 q f) := by
  intro dm A0 H0 A σ H env k Q S s k' hf hQ
  obtain ⟨a, e1, e2⟩ := f1_some hf
  exact h1 dm A0 H0 A σ H env k _ S _ _ e1 fun x H1 S1 l1 i1 => hr dm A0 H0 A σ H1 env k' x a s Q S1 i1 e2 fun v H2 S2 l2 i2 => hQ v H2 S2 (l1.trans l2) i2
def gLen : Sl → Option Sl := fun a => (asQ a).map fun ds => .dat (.int (ds.length : Nat))
theorem is_seq {A0 : List Addr} {dm : Dm} {A : List Addr} {H : Hp} {v : V} {s : Sl} {ds : List D} (h : IsS K A0 dm A H v s) (e : asQ s = some ds) : ∃ p vs, v = .ref p ∧ (SqL K H p vs ∨ SqT K H p vs) ∧ IsL K (hide A H) vs ds := by
  unfold asQ at e
  cases e1 : asL s with
  | some es =>
    rw [e1] at e; cases e
    obtain ⟨p, vs, h1, h2, h3⟩ := is_lst h e1
    exact ⟨p, vs, h1, .inl (.inl (.inl h2)), h3⟩
  | none =>
    rw [e1] at e
    obtain ⟨p, vs, h1, h2, _, h3⟩ := is_tup h e
    exact ⟨p, vs, h1, .inr h2, h3⟩
theorem de_len (h1 : DE K T ta f) : DE K T (tCB (fun xs H Q => ∃ p ys, xs = [.ref p] ∧ (SqL K H p ys ∨ SqT K H p ys) ∧ Q (.int ys.length) H) (tCons ta tNil)) (f1 gLen f) := de_b1 h1 (by
  intro dm A0 H0 A σ H env k x a s Q S i e hQ
  unfold gLen at e
  cases e1 : asQ a with
  | none => rw [e1] at e; cases e
  | some ds =>
    rw [e1] at e; cases e
    obtain ⟨p, vs, rfl, h2, h3⟩ := is_seq i e1
    exact ⟨p, vs, rfl, h2, hQ _ H S (Lt.refl _ _) (by rw [h3.len]; exact Is.int _)⟩)
def gAbs : Sl → Option Sl := gI (fun _ => true) fun i => .int (if i < 0 then -i else i)
theorem de_abs (h1 : DE K T ta f) : DE K T (tCB (fun xs H Q => ∃ i, xs = [.int i] ∧ Q (.int (if i < 0 then -i else i)) H) (tCons ta tNil)) (f1 gAbs f) := de_b1 h1 (by
  intro dm A0 H0 A σ H env k x a s Q S i e hQ
  obtain ⟨z, rfl, _, rfl⟩ := gI_some e
  rw [is_int i]
  exact ⟨z, rfl, hQ _ H S (Lt.refl _ _) (Is.int _)⟩)
def gInt : Sl → Option Sl := gI (fun _ => true) fun i => .int i
theorem de_int1 (h1 : DE K T ta f) : DE K T (tCB (fun xs H Q => (∃ i, xs = [.int i] ∧ Q (.int i) H) ∨ ∃ k, xs = [.bl k] ∧ Q (.int (if k then 1 else 0)) H) (tCons ta tNil)) (f1 gInt f) := de_b1 h1 (by
  intro dm A0 H0 A σ H env k x a s Q S i e hQ
  obtain ⟨z, rfl, _, rfl⟩ := gI_some e
  rw [is_int i]
  exact .inl ⟨z, rfl, hQ _ H S (Lt.refl _ _) (Is.int _)⟩)
def gStr : Sl → Option Sl := gI (fun i => decide (i.natAbs.log2 < 1920)) fun i => .str (toString i)
theorem de_str1 (h1 : DE K T ta f) : DE K T (tCB (fun xs H Q => ∃ i, xs = [.int i] ∧ i.natAbs.log2 < 1920 ∧ Q (.str (toString i)) H) (tCons ta tNil)) (f1 gStr f) := de_b1 h1 (by
  intro dm A0 H0 A σ H env k x a s Q S i e hQ
  obtain ⟨z, rfl, c, rfl⟩ := gI_some e
  rw [is_int i]
  exact ⟨z, rfl, of_decide_eq_true c, hQ _ H S (Lt.refl _ _) (Is.str _)⟩)
def gListOf : Sl → Option Sl := fun a => (asQ a).map fun ds => .dat (.list ds)
theorem de_listOf (h1 : DE K T ta f) : DE K T (tCB (fun xs H Q => ∃ p ys, xs = [.ref p] ∧ (SqL K H p ys ∨ SqT K H p ys) ∧ ∀ l, H l = none → Q (.ref l) (upd H l (.lst ys))) (tCons ta tNil)) (f1 gListOf f) := de_b1 h1 (by
  intro dm A0 H0 A σ H env k x a s Q S i e hQ
  unfold gListOf at e
  cases e1 : asQ a with
  | none => rw [e1] at e; cases e
  | some ds =>
    rw [e1] at e; cases e
    obtain ⟨p, vs, rfl, h2, h3⟩ := is_seq i e1
    exact ⟨p, vs, rfl, h2, fun l hl => hQ _ _ (S.new hl) (Lt.new hl) (mk_lst S.wd hl h3)⟩)
def gTupOf : Sl → Option Sl := fun a => (asQ a).map fun ds => .dat (.tuple ds)
theorem de_tupOf (h1 : DE K T ta f) : DE K T (tCB (fun xs H Q => ∃ p ys, xs = [.ref p] ∧ ((SqL K H p ys ∧ ∀ l, H l = none → Q (.ref l) (upd H l (.tup ys))) ∨ (SqT K H p ys ∧ Q (.ref p) H))) (tCons ta tNil)) (f1 gTupOf f) := de_b1 h1 (by
  intro dm A0 H0 A σ H env k x a s Q S i e hQ
  unfold gTupOf at e
  cases e1 : asQ a with
  | none => rw [e1] at e; cases e
  | some ds =>
    rw [e1] at e; cases e
    unfold asQ at e1
    cases e2 : asL a with
    | some es =>
      rw [e2] at e1; cases e1
      obtain ⟨p, vs, rfl, h2, h3⟩ := is_lst i e2
      exact ⟨p, vs, rfl, .inl ⟨.inl (.inl h2), fun l hl => hQ _ _ (S.new hl) (Lt.new hl) (mk_tup S.wd hl h3)⟩⟩
    | none =>
      rw [e2] at e1
      obtain ⟨p, vs, rfl, h2, h2', h3⟩ := is_tup i e1
      exact ⟨p, vs, rfl, .inr ⟨h2, hQ _ H S (Lt.refl _ _) (Is.tup h2' h3)⟩⟩)
/-! ### two ints -/
theorem de_b2 {r : List V → Hp → VK → Prop} {c : Int → Int → Bool} {q : Int → Int → Int} (h1 : DE K T ta f) (h2 : DE K T tb g)
    (hr : ∀ i j H (Q : VK), c i j = true → Q (.int (q i j)) H → r [.int i, .int j] H Q) : DE K T (tCB r (tCons ta (tCons tb tNil))) (f2 (gII c fun i j => .int (q i j)) f g) := by
  intro dm A0 H0 A σ H env k Q S s k' hf hQ
  exact de_ii (r := fun x y H Q => r [x, y] H Q) (g' := fun i j => .int (q i j)) h1 h2 hr (fun _ _ _ => .int _) dm A0 H0 A σ H env k Q S s k' hf hQ
def fGcd : Fe → Fe → Fe := f2 (gII c0 fun i j => .int ((Nat.gcd i.natAbs j.natAbs : Nat) : Int))
theorem de_gcd (h1 : DE K T ta f) (h2 : DE K T tb g) : DE K T (tCB rGcd (tCons ta (tCons tb tNil))) (fGcd f g) := de_b2 h1 h2 fun i j H Q _ q => ⟨i, j, rfl, q⟩
def fMax : Fe → Fe → Fe := f2 (gII c0 fun i j => .int (if j > i then j else i))
theorem de_max (h1 : DE K T ta f) (h2 : DE K T tb g) : DE K T (tCB (fun xs H Q => ∃ i j, xs = [.int i, .int j] ∧ Q (.int (if j > i then j else i)) H) (tCons ta (tCons tb tNil))) (fMax f g) := de_b2 h1 h2 fun i j H Q _ q => ⟨i, j, rfl, q⟩
def cPow (i j : Int) : Bool := decide (0 ≤ j) && decide (j ≤ 1000000) && decide (i.natAbs < 2 ^ 64)
def fPow : Fe → Fe → Fe := f2 (gII cPow fun i j => .int (i ^ j.toNat))
theorem de_pow (h1 : DE K T ta f) (h2 : DE K T tb g) : DE K T (tOp (rI CPow fun i j => .int (i ^ j.toNat)) ta tb) (fPow f g) := de_ii h1 h2 (fun i j H Q c q => ⟨i, j, rfl, rfl, by
  unfold cPow at c
  simp only [Bool.and_eq_true, decide_eq_true_eq] at c
  exact ⟨c.1.1, c.1.2, c.2⟩, q⟩) fun _ _ _ => .int _
/-! ### xs * n -/
def gRep : Sl → Sl → Option Sl := fun a b => match asL a, b with
  | some ds, .dat (.int n) => if -1000 ≤ n ∧ n ≤ 1000 ∧ ds.length ≤ 1000 then some (.dat (.list (List.replicate n.toNat ds).flatten)) else none
  | _, _ => none
theorem isl_rep {H : Hp} {vs : List V} {ds : List D} (h : IsL K H vs ds) : ∀ n : Nat, IsL K H (List.replicate n vs).flatten (List.replicate n ds).flatten
  | 0 => .nil
  | n + 1 => by
    rw [List.replicate_succ, List.replicate_succ, List.flatten_cons, List.flatten_cons]
    exact h.app (isl_rep h n)
theorem de_rep (h1 : DE K T ta f) (h2 : DE K T tb g) : DE K T (tOp rRep ta tb) (f2 gRep f g) := de_bin h1 h2 (by
  intro dm A0 H0 A σ H env k x y a b s Q S i1 i2 e hQ
  unfold gRep at e
  cases e1 : asL a with
  | none => rw [e1] at e; cases e
  | some ds =>
    rw [e1] at e
    cases b with
    | dat d =>
      cases d with
      | int n =>
        simp only at e
        by_cases hc : -1000 ≤ n ∧ n ≤ 1000 ∧ ds.length ≤ 1000
        · rw [if_pos hc] at e
          cases e
          obtain ⟨p, vs, rfl, h3, h4⟩ := is_lst i1 e1
          rw [is_int i2]
          refine ⟨p, n, vs, rfl, rfl, h3, by omega, by omega, ?_, fun q hq => hQ _ _ (S.new hq) (Lt.new hq) (mk_lst S.wd hq (isl_rep h4 _))⟩
          rw [h4.len]
          have h5 : ds.length * n.toNat ≤ 1000 * 1000 := Nat.mul_le_mul hc.2.2 (by omega)
          exact Nat.le_trans h5 (by decide)
        · rw [if_neg hc] at e; cases e
      | _ => cases e
    | _ => cases e)
/-! ### isinstance -/
def tyN : D → String
  | .none => "NoneType"
  | .bool _ => "bool"
  | .int _ => "int"
  | .str _ => "str"
  | .list _ => "list"
  | .tuple _ => "tuple"
  | .dict _ => "dict"
theorem ty_of {A : List Addr} {H : Hp} {v : V} {d : D} (h : Is K (hide A H) v d) : TyX K H v (.type (tyN d)) := by
  cases h with
  | non => exact .base .non
  | bl b => exact .base (.bl b)
  | int b => exact .base (.int b)
  | str b => exact .base (.str b)
  | lst h _ => exact .base (.lst (hide_some h).2)
  | tup h _ =>
    rcases sqt_out h with (h | ⟨o, h⟩) | ⟨o, its, n, h1, h2, _⟩
    · exact .base (.tup h)
    · exact .fTuple h
    · exact .kTuple h1 h2
  | dct h _ _ => exact .base (.dK (hide_some h).2)
/-- the answers that are asked for -/
def tyB (t n : String) : Bool := (t == n) || (t == "bool" && n == "int")
def isiB (n : String) (d : D) : Bool := tyB (tyN d) n
theorem tyB_kit : ∀ t ∈ ["NoneType", "bool", "int", "str", "list", "tuple", "dict"], ∀ n ∈ ["int", "bool", "tuple", "str", "list", "dict"], kitB t n = some (tyB t n) := by decide +kernel
theorem isi_kit (d : D) (n : String) (hn : n ∈ ["int", "bool", "tuple", "str", "list", "dict"]) : kitB (tyN d) n = some (isiB n d) := tyB_kit (tyN d) (by cases d <;> simp [tyN]) n hn
def gIsi (n : String) : Sl → Option Sl
  | .dat d => some (.dat (.bool (isiB n d)))
  | _ => none
theorem de_isi (n : String) (hn : n ∈ ["int", "bool", "tuple", "str", "list", "dict"]) (h1 : DE K T ta f) : DE K T (tCB (rIsi K) (tCons ta (tCons (tC (.ty n)) tNil))) (f1 (gIsi n) f) := by
  intro dm A0 H0 A σ H env k Q S s k' hf hQ
  obtain ⟨a, e1, e2⟩ := f1_some hf
  cases a with
  | dat d =>
    cases e2
    refine h1 dm A0 H0 A σ H env k _ S _ _ e1 fun x H1 S1 l1 i1 => ?_
    exact ⟨x, .ty n, _, _, isiB n d, rfl, .ty n, ty_of i1, kit_ty (isi_kit d n hn), hQ _ H1 S1 l1 (Is.bl _)⟩
  | _ => cases e2
/-! ### the deck -/
theorem deck_at {dm : Dm} {A0 : List Addr} {H0 : Hp} {A : List Addr} {σ : List (Option V)} {H : Hp} {env : List Sl} {k : Dk} {i : Nat} (S : Sta K T dm A0 H0 A σ H env k) (e : env[i]? = some .deck) : ∃ a c, dm = some (a, c) ∧ σ[i]? = some (some (.ref a)) ∧ a ∈ A ∧ c ∈ A ∧ a ≠ c ∧ DkAt H a c k := by
  have q := S.slot i
  rw [e] at q
  obtain ⟨a, c, h1, h2⟩ := q
  obtain ⟨h3, h4, h5, h6⟩ := S.wd.dk a c h1
  exact ⟨a, c, h1, h2, h3, h4, h5, h6⟩
def isDeck (env : List Sl) (i : Nat) : Bool := match env[i]? with
  | some .deck => true
  | _ => false
theorem isDeck_eq {env : List Sl} {i : Nat} (h : isDeck env i = true) : env[i]? = some .deck := by
  unfold isDeck at h
  split at h
  · assumption
  · cases h
/-- deck['mixed'], deck['turn'] -/
def fDkI (i : Nat) (p : Dk → Int) : Fe := fun env k => if isDeck env i = true then some (.dat (.int (p k)), k) else none
theorem de_dkMixed (i : Nat) : DE K T (tDGet (tVar i) (tC (.str "mixed"))) (fDkI i Dk.mixed) := by
  intro dm A0 H0 A σ H env k Q S s k' hf hQ
  unfold fDkI at hf
  by_cases hc : isDeck env i = true
  · rw [if_pos hc] at hf
    cases hf
    obtain ⟨a, c, h1, h2, h3, h4, h5, h6, h7⟩ := deck_at S (isDeck_eq hc)
    exact ⟨_, h2, a, .int k.mixed, rfl, DGet.k (k := Sum.inr "mixed") h6, hQ _ H S (Lt.refl _ _) (Is.int _)⟩
  · rw [if_neg hc] at hf; cases hf
theorem de_dkTurn (i : Nat) : DE K T (tDGet (tVar i) (tC (.str "turn"))) (fDkI i Dk.turn) := by
  intro dm A0 H0 A σ H env k Q S s k' hf hQ
  unfold fDkI at hf
  by_cases hc : isDeck env i = true
  · rw [if_pos hc] at hf
    cases hf
    obtain ⟨a, c, h1, h2, h3, h4, h5, h6, h7⟩ := deck_at S (isDeck_eq hc)
    exact ⟨_, h2, a, .int k.turn, rfl, DGet.k (k := Sum.inr "turn") h6, hQ _ H S (Lt.refl _ _) (Is.int _)⟩
  · rw [if_neg hc] at hf; cases hf
/-- deck['cells'] != [] -/
def fDkNe (i : Nat) : Fe := fun env k => if isDeck env i = true then some (.dat (.bool (!k.cells.isEmpty)), k) else none
theorem shaped_ints : ∀ ns : List Int, SeqAt.shaped (.list (ns.map PyData.int)) = true := by
  intro ns
  have h1 : ∀ ns : List Int, PyData.canLayAll0 (ns.map PyData.int) = true := fun ns => by
    induction ns with
    | nil => rfl
    | cons a r ih => simp only [List.map_cons, PyData.canLayAll0, PyData.canLay0, ih, Bool.and_self]
  have h2 : ∀ ns : List Int, PyData.depthAll (ns.map PyData.int) ≤ 1 := fun ns => by
    induction ns with
    | nil => simp [PyData.depthAll]
    | cons a r ih => simp only [List.map_cons, PyData.depthAll, PyData.depth]; omega
  unfold SeqAt.shaped
  have := h2 ns
  simp only [PyData.canLay0, h1, Bool.true_and, decide_eq_true_eq, PyData.depth]
  exact decide_eq_true (by omega)
theorem de_dkNe (i : Nat) : DE K T (tOp (rNeD K) (tDGet (tVar i) (tC (.str "cells"))) (tLst tNil)) (fDkNe i) := by
  intro dm A0 H0 A σ H env k Q S s k' hf hQ
  unfold fDkNe at hf
  by_cases hc : isDeck env i = true
  · rw [if_pos hc] at hf
    cases hf
    obtain ⟨a, c, h1, h2, h3, h4, h5, h6, h7⟩ := deck_at S (isDeck_eq hc)
    refine ⟨_, h2, a, .ref c, rfl, DGet.k (k := Sum.inr "cells") h6, by decide, fun p hp => ?_⟩
    have e7 : (upd H p (.lst [])) c = some (.lst (k.cells.map V.int)) := by rw [upd_ne (ne_of_none h7 hp)]; exact h7
    refine ⟨.list (k.cells.map PyData.int), .list [], .lst (.inl (.inl e7)) ?_, .lst (.inl (.inl upd_same)) .nil, shaped_ints _, by decide +kernel, ?_⟩
    · have : ∀ ns : List Int, DpAll K (upd H p (.lst [])) (ns.map V.int) (ns.map PyData.int) := fun ns => by
        induction ns with
        | nil => exact .nil
        | cons a r ih => exact .cons (.int a) ih
      exact this _
    · have e : (!PyData.eqv (.list (k.cells.map PyData.int)) (.list [])) = !k.cells.isEmpty := by
        cases k.cells with
        | nil => rfl
        | cons a r => simp [PyData.eqv, PyData.eqvAll]
      rw [e]
      exact hQ _ _ (S.new hp) (Lt.new hp) (Is.bl _)
  · rw [if_neg hc] at hf; cases hf
/-- a change of the deck -/
theorem Sta.turn {dm : Dm} {A0 : List Addr} {H0 : Hp} {A : List Addr} {σ : List (Option V)} {H H' : Hp} {env : List Sl} {k k' : Dk} {a c : Addr} (S : Sta K T dm A0 H0 A σ H env k) (hd : dm = some (a, c)) (hk : DkAt H' a c k')
    (he : ∀ b, b ≠ a → b ≠ c → H' b = H b) : Sta K T dm A0 H0 A σ H' env k' ∧ Lt dm H H' := by
  have dom : ∀ b, H b ≠ none → H' b ≠ none := fun b q => by
    by_cases h1 : b = a
    · rw [h1, hk.1]; simp
    · by_cases h2 : b = c
      · rw [h2, hk.2]; simp
      · rw [he b h1 h2]; exact q
  have l : Lt dm H H' := ⟨fun b o q _ n => by rw [he b (n a c hd).1 (n a c hd).2]; exact q, dom⟩
  obtain ⟨h3, h4, h5, h6⟩ := S.wd.dk a c hd
  have w : Wd T dm A H' k' := ⟨fun b hb => dom b (S.wd.dom b hb), fun P hP => by
    obtain ⟨ps, q, t⟩ := S.wd.tab P hP
    refine ⟨ps, ?_, t⟩
    rw [he P (fun z => by rw [z, h6.1] at q; cases q) (fun z => by rw [z, h6.2] at q; cases q)]
    exact q, fun a' c' e => by
    rw [hd] at e
    cases e
    exact ⟨h3, h4, h5, hk⟩⟩
  exact ⟨S.at w l, l⟩
/-- deck['cells'].pop() -/
def fDkPop (i : Nat) : Fe := fun env k => if isDeck env i = true then (k.cells.getLast?).map fun z => (.dat (.int z), { k with cells := k.cells.dropLast }) else none
theorem de_dkPop (i : Nat) : DE K T (tBM0 K "list" rPop (tDGet (tVar i) (tC (.str "cells")))) (fDkPop i) := by
  intro dm A0 H0 A σ H env k Q S s k' hf hQ
  unfold fDkPop at hf
  by_cases hc : isDeck env i = true
  · rw [if_pos hc] at hf
    cases e : k.cells.getLast? with
    | none => rw [e] at hf; cases hf
    | some z =>
      rw [e] at hf
      cases hf
      obtain ⟨a, c, h1, h2, h3, h4, h5, h6, h7⟩ := deck_at S (isDeck_eq hc)
      have ne : k.cells ≠ [] := fun q => by rw [q] at e; cases e
      have e2 : (k.cells.map V.int)[(k.cells.map V.int).length - 1]? = some (.int z) := by
        rw [List.length_map, List.getElem?_map, ← List.getLast?_eq_getElem?, e]
        rfl
      refine ⟨_, h2, a, .ref c, rfl, DGet.k (k := Sum.inr "cells") h6, .inl ⟨rfl, _, .inl (.inl h7)⟩, c, _, .int z, rfl, rfl, h7, e2, ?_⟩
      obtain ⟨S2, l2⟩ := S.turn (H' := upd H c (.lst (k.cells.map V.int).dropLast)) (k' := { k with cells := k.cells.dropLast }) h1 ⟨by rw [upd_ne h5]; exact h6, by rw [upd_same, List.map_dropLast]⟩ fun b _ n => upd_ne n
      exact hQ _ _ S2 l2 (Is.int _)
  · rw [if_neg hc] at hf; cases hf
/-- deck['cells'].append(e) -/
def sDkApp (i : Nat) (f : Fe) : Fs := fun env k => if isDeck env i = true then match f env k with
    | some (.dat (.int z), k') => if k'.cells.length < 1000000 then .nx env { k' with cells := k'.cells ++ [z] } else .bad
    | _ => .bad
  else .bad
theorem ds_dkApp (i : Nat) (h1 : DE K T ta f) : DS K T (tDrop (tBM K "list" rAppend (tDGet (tVar i) (tC (.str "cells"))) (tCons ta tNil))) (sDkApp i f) := by
  intro dm A0 H0 A σ H env k E S o
  unfold sDkApp at o
  by_cases hc : isDeck env i = true
  · rw [if_pos hc] at o
    split at o
    · rename_i z k' e1
      by_cases hl : k'.cells.length < 1000000
      · rw [if_pos hl] at o
        obtain ⟨a, c, h1', h2, h3, h4, h5, h6, h7⟩ := deck_at S (isDeck_eq hc)
        refine ⟨_, h2, a, .ref c, rfl, DGet.k (k := Sum.inr "cells") h6, .inl ⟨rfl, _, .inl (.inl h7)⟩, ?_⟩
        refine h1 dm A0 H0 A σ H env k _ S _ k' e1 fun v H1 S1 l1 i1 => ?_
        obtain ⟨_, _, _, g6, g7⟩ := S1.wd.dk a c h1'
        rw [is_int i1]
        refine ⟨c, _, .int z, rfl, rfl, g7, Nat.lt_of_lt_of_le (by rw [List.length_map]; exact hl) (by decide), ?_⟩
        obtain ⟨S2, l2⟩ := S1.turn (H' := upd H1 c (.lst (k'.cells.map V.int ++ [V.int z]))) (k' := { k' with cells := k'.cells ++ [z] }) h1' ⟨by rw [upd_ne h5]; exact g6, by rw [upd_same, List.map_append]; rfl⟩ fun b _ n => upd_ne n
        exact o A σ _ S2 (tr_of_lt S.wd (l1.trans l2))
      · rw [if_neg hl] at o; exact o.elim
    · exact o.elim
  · rw [if_neg hc] at o; exact o.elim
/-- deck['mixed'] = e, deck['turn'] = e -/
def sDkPut (i : Nat) (p : Dk → Int → Dk) (f : Fe) : Fs := fun env k => if isDeck env i = true then match f env k with
    | some (.dat (.int z), k') => .nx env (p k' z)
    | _ => .bad
  else .bad
def putMixed (k : Dk) (z : Int) : Dk := { k with mixed := z }
def putTurn (k : Dk) (z : Int) : Dk := { k with turn := z }
theorem ds_dkMixed (i : Nat) (h1 : DE K T ta f) : DS K T (sDPut (tVar i) (tC (.str "mixed")) ta) (sDkPut i putMixed f) := by
  intro dm A0 H0 A σ H env k E S o
  unfold sDkPut at o
  by_cases hc : isDeck env i = true
  · rw [if_pos hc] at o
    split at o
    · rename_i z k' e1
      obtain ⟨a, c, h1', h2, h3, h4, h5, h6, h7⟩ := deck_at S (isDeck_eq hc)
      refine h1 dm A0 H0 A σ H env k _ S _ k' e1 fun v H1 S1 l1 i1 => ?_
      obtain ⟨_, _, _, g6, g7⟩ := S1.wd.dk a c h1'
      rw [is_int i1]
      refine ⟨_, h2, a, _, rfl, DPut.k (k := Sum.inr "mixed") g6 (by show 3 < sizeLine; decide), ?_⟩
      obtain ⟨S2, l2⟩ := S1.turn (H' := upd H1 a _) (k' := putMixed k' z) h1' ⟨by rw [upd_same] <;> rfl, by rw [upd_ne (Ne.symm h5)]; exact g7⟩ fun b n _ => upd_ne n
      exact o A σ _ S2 (tr_of_lt S.wd (l1.trans l2))
    · exact o.elim
  · rw [if_neg hc] at o; exact o.elim
theorem ds_dkTurn (i : Nat) (h1 : DE K T ta f) : DS K T (sDPut (tVar i) (tC (.str "turn")) ta) (sDkPut i putTurn f) := by
  intro dm A0 H0 A σ H env k E S o
  unfold sDkPut at o
  by_cases hc : isDeck env i = true
  · rw [if_pos hc] at o
    split at o
    · rename_i z k' e1
      obtain ⟨a, c, h1', h2, h3, h4, h5, h6, h7⟩ := deck_at S (isDeck_eq hc)
      refine h1 dm A0 H0 A σ H env k _ S _ k' e1 fun v H1 S1 l1 i1 => ?_
      obtain ⟨_, _, _, g6, g7⟩ := S1.wd.dk a c h1'
      rw [is_int i1]
      refine ⟨_, h2, a, _, rfl, DPut.k (k := Sum.inr "turn") g6 (by show 3 < sizeLine; decide), ?_⟩
      obtain ⟨S2, l2⟩ := S1.turn (H' := upd H1 a _) (k' := putTurn k' z) h1' ⟨by rw [upd_same] <;> rfl, by rw [upd_ne (Ne.symm h5)]; exact g7⟩ fun b n _ => upd_ne n
      exact o A σ _ S2 (tr_of_lt S.wd (l1.trans l2))
    · exact o.elim
  · rw [if_neg hc] at o; exact o.elim
/-! ### dict displays -/
theorem de_dnew : DE K T tDNewK (fC (.dict [])) := by
  intro dm A0 H0 A σ H env k Q S s k' hf hQ
  cases hf
  exact fun p hp => hQ _ _ (S.new hp) (Lt.new hp) (.dct (by rw [hide_out (notA S.wd hp)]; exact upd_same) rfl .nil)
end
end DL
set_option Elab.async false
set_option linter.all false
set_option maxRecDepth 100000
set_option maxHeartbeats 4000000
namespace DL
open PySem PySem.Spec PyProof.Rows L2
/-! ### what isinstance asks of a value, at any later heap -/
def Kd (K : Fg) (h : Heap) (u : Value) (t : String) : Prop := ∃ P : Heap → Prop, PySem.W.KitX K u (.type t) P ∧ P h ∧ u ≠ .builtin "__main__.__loader__#opaque"
theorem Kd.keeps {X : Cx} {pins : List (Addr × Obj)} {σ : List (Option V)} {H : Hp} {s : Shared} {A : List Addr} {v : V} {d : D} {u : Value} (I : Inv X pins σ H s) (h : Is X.K (hide A H) v d) (r : RelV v u) {h2 : Heap}
    (k : ∀ a o, H a = some o → isT o = false → ∀ ob, s.heap.get? a = some ob → h2.get? a = some ob) (kk : ∀ b o, X.K.lookup b = some o → h2.get? b = some o) : Kd X.K h2 u (tyN d) := by
  cases h with
  | non => cases r; exact ⟨_, PySem.W.kitx_none, True.intro, fun z => nomatch z⟩
  | bl b => cases r; exact ⟨_, PySem.W.kitx_bool, True.intro, fun z => nomatch z⟩
  | int b => obtain ⟨t, rfl⟩ := r; exact ⟨_, PySem.W.kitx_int, True.intro, fun z => nomatch z⟩
  | str b => obtain ⟨t, rfl⟩ := r; exact ⟨_, PySem.W.kitx_str, True.intro, fun z => nomatch z⟩
  | @lst a xs ds ea _ =>
    cases r
    have ea' := (hide_some ea).2
    obtain ⟨_, _, n, _, h1⟩ := (show ObjOk X.prog X.w H s.heap a (.lst xs) from I.hok a _ ea')
    exact ⟨_, PySem.W.kitx_list, ⟨_, k a _ ea' rfl _ h1, rfl⟩, fun z => nomatch z⟩
  | @tup a xs ds ea _ =>
    cases r
    rcases sqt_out ea with (ea' | ⟨o, ea'⟩) | ⟨o, its, n, h1, h2, _⟩
    · obtain ⟨_, _, _, o, h1, h2, _⟩ := (show ObjOk X.prog X.w H s.heap a (.tup xs) from I.hok a _ ea')
      exact ⟨_, PySem.W.kitx_tuple, ⟨o, k a _ ea' rfl _ h1, h2⟩, fun z => nomatch z⟩
    · obtain ⟨_, _, _, _, o', h1, h2, _⟩ := (show ObjOk X.prog X.w H s.heap a (.frz o (.tup xs)) from I.hok a _ ea')
      exact ⟨_, PySem.W.kitx_tuple, ⟨o', k a _ ea' rfl _ h1, h2⟩, fun z => nomatch z⟩
    · exact ⟨_, PySem.W.kitx_tuple, ⟨o, kk a o h1, h2⟩, fun z => nomatch z⟩
  | @dct a kvs ds ea _ _ =>
    cases r
    have ea' := (hide_some ea).2
    obtain ⟨_, _, vs, _, o, es, ep, h1, h2, _⟩ := (show ObjOk X.prog X.w H s.heap a (.dK kvs) from I.hok a _ ea')
    exact ⟨_, PySem.W.kitx_dict, ⟨o, k a _ ea' rfl _ h1, h2.1⟩, fun z => nomatch z⟩
/-! ### a small def called at any place: is_integer -/
structure Raw (K : Fg) (mg : Str → Option Value) (h : Heap) : Prop where
  kin : K.In h
  gl : h.Ns mainGlobals mg
  bl : ∃ mb, h.Ns builtinsNs mb ∧ ∀ x : Str, x ≠ "__name__" → mb x = bootBuiltins x
  lim : h.NoLimit
theorem Raw.keeps {K : Fg} {mg : Str → Option Value} {h h' : Heap} (r : Raw K mg h) (k : ∀ b o, h.get? b = some o → h'.get? b = some o) : Raw K mg h' :=
  ⟨r.kin.keeps k, r.gl.keeps k, let ⟨mb, a, b⟩ := r.bl; ⟨mb, a.keeps k, b⟩, r.lim.keeps k⟩
theorem Keeps.trans' {s s1 s2 : Shared} (a : Keeps s s1) (b : Keeps s1 s2) : Keeps s s2 := by
  obtain ⟨h1, t1, rfl, k1⟩ := a
  obtain ⟨h2, t2, rfl, k2⟩ := b
  exact ⟨h2, t2, rfl, fun c o e => k2 c o (k1 c o e)⟩
/-- the text of is_integer -/
def intBody (q : Nat → Pos) : List Stmt := [.Return (some (.BoolOp .And [.Call (.Name "isinstance" (q 0)) [.Name "thing" (q 1), .Name "int" (q 2)] [] (q 3), .UnaryOp .Not (.Call (.Name "isinstance" (q 4)) [.Name "thing" (q 5), .Name "bool" (q 6)] [] (q 7)) (q 8)] (q 9))) (q 10)]
structure IntDef (st : Stmt) : Prop where
  body : ∃ q, defBody st = intBody q
  kind : (defScope st).kind = .function
  co : (defScope st).isCoroutine = false
  gen : (defScope st).isGenerator = false
  l1 : (defScope st).names.lookup ("thing" : Str) = some .local
  l2 : (defScope st).names.lookup ("isinstance" : Str) = some .globalImplicit
  l3 : (defScope st).names.lookup ("int" : Str) = some .globalImplicit
  l4 : (defScope st).names.lookup ("bool" : Str) = some .globalImplicit
section
variable {prog : Program} {w : World} {K : Fg} {mg : Str → Option Value} {A : Around} {E : Value → Shared → Prop} {s : Shared}
/-- isinstance(thing, T) in such a body -/
theorem raw_isi {env : Env} {m : Str → Option Value} {tn n : String} {nm : Str} {u : Value} {p0 p1 p2 p3 : Pos} {b : Bool} {Q : Value → Shared → Prop} (R : Raw K mg s.heap) (hk : env.scope.kind = .function) (hgl : env.globals = mainGlobals) (hbl : env.builtins = builtinsNs)
    (k1 : env.kindOf ("thing" : Str) = some .local) (k2 : env.kindOf ("isinstance" : Str) = some .globalImplicit) (k3 : env.kindOf nm = some .globalImplicit) (hns : s.heap.Ns env.locals m) (hm : m ("thing" : Str) = some u)
    (hi : mg ("isinstance" : Str) = none) (ht : mg nm = none) (hb : bootBuiltins nm = some (.type n)) (hn : nm ≠ "__name__") (hd : (nm == ("__debug__" : Str)) = false) (kd : Kd K s.heap u tn) (hkit : kitB tn n = some b)
    (hQ : ∀ tk, Q (.bool b) { s with toks := tk }) : wpAny (model prog w) A (eval (.Call (.Name "isinstance" p0) [.Name "thing" p1, .Name nm p2] [] p3) env) Q E s := by
  obtain ⟨mb, B1, B2⟩ := R.bl
  have gl : ∀ {y : Str} {v : Value} {pos : Pos} {Q' : Value → Shared → Prop}, env.kindOf y = some .globalImplicit → mg y = none → bootBuiltins y = some v → y ≠ "__name__" → (y == ("__debug__" : Str)) = false → Q' v s →
      wpAny (model prog w) A (eval (.Name y pos) env) Q' E s := fun {y v pos Q'} h1 h2 h3 h4 h5 h6 =>
    Calls.Name_function_global hk h1 (Calls.loadGlobal_builtin (by rw [hgl]; exact R.gl) h2 (by rw [hbl]; exact B1) ((B2 y h4).trans h3) h6) h5
  refine wpAny_Call_Name_kw (gl k2 hi (by decide +kernel : bootBuiltins "isinstance" = some (.builtin "isinstance")) (by decide) (by decide) ?_)
  refine PyProof.Rows.callWith_builtin1 ?_ (by rfl) (by rfl)
  have he1 : starEach [.Name "thing" p1, .Name nm p2] env = (false, eval (.Name "thing" p1) env) :: starEach [.Name nm p2] env := rfl
  have he2 : starEach [.Name nm p2] env = (false, eval (.Name nm p2) env) :: starEach [] env := rfl
  rw [he1]
  show wpAny _ _ (spliced ((false, eval (.Name "thing" p1) env) :: backTo p3 (starEach [.Name nm p2] env))) _ _ s
  refine Calls.spliced_cons (wpAny_Name (wpAny_loadName_local hk k1 hns hm ?_) (by decide))
  rw [he2]
  show wpAny _ _ (spliced ((false, eval (.Name nm p2) env) :: backTo p3 (starEach [] env))) _ _ s
  refine Calls.spliced_cons (gl k3 ht hb hn hd ?_)
  refine Calls.spliced_nil ?_
  obtain ⟨P, Z, hP, hx⟩ := kd
  exact PySem.W.kia_one Z R.kin hP (kit_ty hkit) hx hQ
theorem Kd.keeps' {h h' : Heap} {u : Value} {t : String} (k : Kd K h u t) (hu : ∀ P : Heap → Prop, PySem.W.KitX K u (.type t) P → P h → P h') : Kd K h' u t := by
  obtain ⟨P, Z, hP, hx⟩ := k
  exact ⟨P, Z, hu P Z hP, hx⟩
theorem raw_isint {st : Stmt} {f : Addr} {fd : FuncData} {u : Value} {tn : String} {b1 b2 : Bool} (F : Fun K "is_integer" "is_integer" st f fd) (D : IntDef st) (hargs : Binds K fd ["thing"] []) (R : Raw K mg s.heap)
    (hi : mg ("isinstance" : Str) = none) (h2 : mg ("int" : Str) = none) (h3 : mg ("bool" : Str) = none) (hroom : A.depth < recursionLimit) (kd : ∀ h' : Heap, (∀ b o, s.heap.get? b = some o → h'.get? b = some o) → Kd K h' u tn) (e1 : kitB tn "int" = some b1) (e2 : kitB tn "bool" = some b2) :
    wpAny (model prog w) A (call (.ref f) [u]) (fun y s' => y = .bool (b1 && !b2) ∧ Keeps s s') E s := by
  obtain ⟨oc, od, kV, doc, pm, an, cdv, ct, osl, rfl, look, cd⟩ := F.ex
  obtain ⟨q, hb⟩ := D.body
  refine wpAny_call (Att.call_fn (binds := [("thing", u)]) R.kin R.lim look cd hroom (hargs s [u] R.kin rfl) (by simp [D.l1]) (fun s₁ IC => ?_) D.co D.gen D.kind)
  have kept := IC.toInCall.keep
  have R1 := R.keeps kept
  have ns := IC.toInCall.ns
  have hm : bindL (envOfC "is_integer" (defScope st) s.heap.objs.size f cdv).kindOf [(("thing" : Str), u)] (fun _ => none) ("thing" : Str) = some u := by
    unfold bindL bindL
    rw [if_pos (show (envOfC "is_integer" (defScope st) s.heap.objs.size f cdv).kindOf ("thing" : Str) = some .local from D.l1)]
    simp
  obtain ⟨h1, tk1, e⟩ := IC.toInCall.same
  have K1 : Keeps s s₁ := ⟨h1, tk1, e, by rw [e] at kept; exact kept⟩
  rw [hb]
  show wpAny _ _ (execs (intBody q) _) _ _ s₁
  unfold intBody
  refine wpAny_execs_cons (wpAny_Return_some ?_)
  refine BoolOp_and ?_
  refine raw_isi R1 D.kind rfl rfl D.l1 D.l2 D.l3 ns hm hi h2 (by decide +kernel) (by decide) (by decide) (kd _ kept) e1 fun tk => ?_
  refine wpAny_truthy_bool ?_
  cases b1 with
  | false => exact ⟨rfl, Keeps.trans' K1 (GxR.keeps_tok _ _)⟩
  | true =>
    refine BoolOp_one (UnaryOp_ ?_)
    refine raw_isi (s := { s₁ with toks := tk }) R1 D.kind rfl rfl D.l1 D.l2 D.l4 ns hm hi h3 (by decide +kernel) (by decide) (by decide) (kd _ kept) e2 fun tk2 => ?_
    exact not_of (wpAny_truthy_bool ⟨rfl, Keeps.trans' K1 (GxR.keeps_tok _ _)⟩)
end
end DL
set_option Elab.async false
set_option linter.all false
set_option maxRecDepth 100000
set_option maxHeartbeats 4000000
namespace DL
open PySem PySem.Spec PyProof.Rows L2
/-- the iterator over the tuple at t -/
def tupIt (t : Addr) : Obj := { cls := .type "tuple_iterator", data := .fields #[.ref t, .int 0 0] }
/-- the generator g, over n items, ready in s5: H1 was held before -/
def GReady (X : Cx) (pins : List (Addr × Obj)) (σ : List (Option V)) (H1 : Hp) (P : Addr) (n : Nat) (F : Nat → Value → Prop) (g : Addr) (s5 : Shared) : Prop :=
  ∃ (fp wr : List Addr) (G : Array GenState → Array GenState → Prop) (St : Nat → Shared → Prop), WalksS X.prog X.w X.A.in4 g fp wr G n F St ∧ St 0 s5 ∧ (∀ i s, St i s → s.TypeIs (.ref g) "generator") ∧
    ∀ s', Moved wr G s5 s' → ∃ H2, GxR.Tabbed P H1 H2 ∧ Inv X pins σ H2 s'
theorem gen_tup {X : Cx} {pins : List (Addr × Obj)} {σ : List (Option V)} {H : Hp} {s : Shared} {c P : Addr} {elt iter : Expr} {x : Str} {px gpos : Pos} {scope : Scope} {te : TE} {k : Nat} {Q' : Value → Shared → Prop} {α : Type} {R : α → Addr → List V → Hp → Prop}
    {F : α → List Value → Nat → Value → Prop} (room : Room k X.A) (TB : GxR.TabB X.base X.mg c P) (code : X.env.code = .ref c) (S : GxR.GenS X.env scope x) (src : PE X iter te) (fold : ∀ v, genFold iter X.env v = pure v) (I : Inv X pins σ H s)
    (h : te σ H fun v H1 => ∃ z t vs, v = .ref t ∧ SqT X.K H1 t vs ∧ GxR.TabG H1 P ∧ R z t vs H1)
    (hel : ∀ z t vs H1 s1 its, Inv X pins σ H1 s1 → R z t vs H1 → Vals vs its → ∀ (C : Addr) (cd : Value) (A' : Around) (E' : Value → Shared → Prop) (i : Nat) (u : Value) (s₂ : Shared) (m₂ : Str → Option Value), A'.handled = none → A'.depth ≤ X.A.depth + 1 → A'.units ≤ X.A.units + 8 →
      its[i]? = some u → s₂.heap.Ns C m₂ → m₂ x = some u → (∀ b o, b ≠ P → s1.heap.get? b = some o → s₂.heap.get? b = some o) →
      wpAny (model X.prog X.w) A' (eval elt (genEnv scope (cloFrom X.env.cells scope.names []) C cd builtinsNs X.env)) (fun y s₃ => F z its i y ∧ Keeps s₂ s₃) E' s₂)
    (hQ : ∀ z t vs its H1 g s5, R z t vs H1 → Vals vs its → GReady X pins σ H1 P its.length (F z its) g s5 → Q' (.ref g) s5) :
    wpAny (model X.prog X.w) X.A (eval (.GeneratorExp elt [⟨.Name x px, iter, [], 0⟩] scope gpos) X.env) Q' X.xe s := by
  have deep : X.A.depth < recursionLimit := room.depth
  refine wpAny_GeneratorExp_walksQD room.hd S.co (closure_ok S.free) S.cell S.dot S.loc S.kind deep ?_ fold
  refine thn (src.run pins s σ H _ I h) ?_
  rintro xv s1 ⟨v, H1, I1, rel, z0, t, vs, rfl, sq, ⟨ps, tblAt, trip⟩, hR⟩
  cases rel
  obtain ⟨its, vals, tupAt, _⟩ := I1.tuple sq
  have tupAt' : s1.heap.IsTuple t its.toArray := tupAt
  refine wpAny_pyIter_tuple tupAt' ?_
  have getP : s1.heap.get? P = some { cls := .none, data := .fields ps } := I1.hok P _ tblAt
  have ltP : P < s1.heap.objs.size := Heap.lt_size getP
  have getP2 : (s1.heap.push (tupIt t)).get? P = some { cls := .none, data := .fields ps } := Heap.get?_push_of_some _ getP
  have codeHd : PySem.W.CodeHd (s1.heap.push (tupIt t)) c P := TB.code.keeps fun b u e => Heap.get?_push_of_some _ (I1.bk b u e)
  have lim2 : (s1.heap.push (tupIt t)).NoLimit := I1.nolimit.push (tupIt t)
  have size2 : (s1.heap.push (tupIt t)).objs.size = s1.heap.objs.size + 1 := Heap.size_push ..
  have ltT : t < s1.heap.objs.size := by obtain ⟨ob, e, _⟩ := tupAt'; exact Heap.lt_size e
  have neTP : t ≠ P := fun z => by
    obtain ⟨ob, e, ec, _⟩ := tupAt'
    rw [z, getP] at e
    cases e
    cases ec
  have neSt : cStatics ≠ P := fun z => by
    obtain ⟨_, ⟨ob, es, ep, e, ed, _⟩, _⟩ := I1.nolimit
    rw [z, getP] at e
    cases e
    cases ed
  have ltSt : cStatics < s1.heap.objs.size := by obtain ⟨_, ns, _⟩ := I1.nolimit; exact ns.lt
  -- the code object is made, or stands
  have coded : ∀ Qc : Value → Shared → Prop, (∀ (cd : Value) (h3 : Heap) (tk : Nat) (ps' : Array Value), Heap.ExtBut P (s1.heap.push (tupIt t)) h3 → s1.heap.objs.size < h3.objs.size → h3.get? P = some { cls := .none, data := .fields ps' } →
      (∃ more, ps' = ps ++ more) → TriplesOk ps'.toList → Qc cd { s1 with heap := h3, toks := tk }) → wpAny (model X.prog X.w) X.A (genexprCode X.env gpos (X.env.qual ++ "<genexpr>") scope) Qc X.xe { s1 with heap := s1.heap.push (tupIt t) } := by
    intro Qc go
    cases hf : codeAmong gpos ps.toList with
    | none =>
      refine wpAny_genexprCodeX code (codeHd.code getP2 trip) (codeHd.tab getP2) hf fun c' h' tk ext ge lt isCode _ isTab _ => ?_
      obtain ⟨o1, w1, q1, q2, q3, q4, q5, q6, q7, q8, _, _, _, _, _, _, _, _, _, trip', _⟩ := isCode
      exact go _ h' tk _ ext (Nat.lt_of_lt_of_le (by rw [size2]; exact Nat.lt_succ_self _) (Nat.le_trans ge (Nat.le_of_lt lt))) isTab.2 ⟨_, rfl⟩ trip'
    | some cv =>
      refine wpAny_genexprCode_hit code (codeHd.code getP2 trip) hf ?_
      exact go cv (s1.heap.push (tupIt t)) s1.toks ps (Heap.ExtBut.refl _ _) (by rw [size2]; exact Nat.lt_succ_self _) getP2 ⟨#[], by simp⟩ trip
  refine ⟨lim2, coded _ fun cd h3 tk ps' ext size3 getP3 more trip3 => ?_⟩
  · skip
    obtain ⟨bm, ob, a1, a2, a3, a4, a5, a6, a7, a8⟩ := TB.bm
    have keep3 : ∀ b u, b ≠ P → s1.heap.get? b = some u → h3.get? b = some u := fun b u hb e => ext b u hb (Heap.get?_push_of_some _ e)
    refine wpAny_builtinsFor (m := X.mg) (by rw [I1.ok.glob]; exact ((I1.mod.glob.keeps I1.bk).push (tupIt t)).extBut ext TB.gP) a1 a2 (keep3 _ _ a4 (I1.bk _ _ a5)) a6 a7 a8 ?_
    have neIt : t ≠ s1.heap.objs.size := Nat.ne_of_lt ltT
    refine ⟨s1.heap.objs.size, [s1.heap.objs.size, t], [s1.heap.objs.size], its.toArray.size, (fun i v => its.toArray[i]? = some v), (fun i h => h.IsTupleIter s1.heap.objs.size t i ∧ h.IsTuple t its.toArray), (fun _ => true), F z0 its, rfl, fun A' hA => Walks.tuple hA _ _ neIt its.toArray, ?start, ?below, lim2.extBut ext neSt, ?notSt, ?quiet, ?ready⟩
    case start =>
      refine ⟨⟨tupIt t, ext _ _ (Nat.ne_of_gt ltP) (Heap.get?_push_size _ rfl), rfl, rfl⟩, ?_⟩
      obtain ⟨ob', e, r⟩ := tupAt'
      exact ⟨ob', keep3 t _ neTP e, r⟩
    case below =>
      intro b hb
      show b < h3.objs.size
      rcases List.mem_cons.mp hb with z | z
      · rw [z]; exact size3
      · rw [List.mem_singleton.mp z]; exact Nat.lt_trans ltT size3
    case notSt =>
      intro z
      exact Nat.ne_of_lt ltSt (List.mem_singleton.mp z)
    case quiet =>
      intro href hhref
      constructor
      · intro A' E' i v s₂ m₂ _ _ _ _ _ _ _
        simp only [List.forIn_nil]
        exact wpAny_pure ⟨rfl, GxR.keeps_refl _⟩
      · intro A' E' i v s₂ m₂ hA hD hU hPv _ hns hm hk
        refine hel z0 t vs H1 s1 its I1 hR vals _ cd A' E' i v s₂ m₂ hA hD hU (by rw [← List.getElem?_toArray]; exact hPv) hns hm fun b o hb e => ?_
        have e3 := keep3 b o hb e
        refine hk b (List.mem_range.mpr (Heap.lt_size e3)) (fun z => ?_) o (hhref b o e3)
        exact Nat.ne_of_lt (Heap.lt_size e) (List.mem_singleton.mp z)
    case ready =>
      intro g h5 tk5 gs bare above size5 keep5 W5 at5
      simp only [GxR.passing_true] at W5 at5
      have hl : (List.range its.toArray.size).length = its.length := by simp
      rw [hl] at W5
      have W6 : WalksS X.prog X.w X.A.in4 g _ _ _ its.length (F z0 its) _ := WalksS.mk W5.sub W5.grefl W5.gtrans W5.frame (fun i s Q E hi st q => by
        refine W5.item i s Q E hi st fun y s' hy st' mv => q y s' ?_ st' mv
        obtain ⟨j, hj, hF⟩ := hy
        obtain ⟨hlt, ej⟩ := List.getElem?_eq_some_iff.mp hj
        rw [List.getElem_range] at ej
        rw [ej]
        exact hF) W5.done W5.self
      refine hQ z0 t vs its H1 g _ hR vals ⟨_, _, _, _, W6, at5, ?ty, ?inv⟩
      case ty =>
        intro i s z
        obtain ⟨⟨o, nm, qn, ho, hc, _⟩, _⟩ := z
        exact ⟨o, ho, hc⟩
      case inv =>
        intro s' moved
        obtain ⟨more, em⟩ := more
        have stays : ∀ b u, s1.heap.get? b = some u → b ∉ h3.objs.size :: [s1.heap.objs.size] := fun b u e hb => by
          have hl := Heap.lt_size e
          rcases List.mem_cons.mp hb with z | z
          · rw [z] at hl
            exact absurd (Nat.lt_trans size3 hl) (Nat.lt_irrefl _)
          · rw [List.mem_singleton.mp z] at hl
            exact Nat.lt_irrefl _ hl
        have J := GxR.inv_tab (more := more) (h' := s'.heap) (g' := s'.gens) (d' := s'.drawn) (t' := s'.toks) I1 tblAt (fun b u hb e => moved.heap b u (stays b u e) (keep5 b u (keep3 b u hb e)))
          (by rw [← em]; exact moved.heap P _ (stays P _ getP) (keep5 P _ getP3)) (AllBare.movedS (I1.bare.push bare) moved)
        rw [GxR.sh_eta s1 s' moved.os] at J
        exact ⟨_, ⟨⟨ps ++ more, upd_same, by rw [← em]; exact trip3⟩, fun b hb => upd_ne hb⟩, J⟩

/-! ### all(is_integer(item) for item in t) -/
def isIntD (d : D) : Bool := isiB "int" d && !isiB "bool" d
def trD (p : D → Bool) (ds : List D) (j : Nat) : Bool := match ds[j]? with
  | some d => p d
  | none => false
theorem all_trD (p : D → Bool) (ds : List D) : (List.range ds.length).all (trD p ds) = ds.all p := by
  apply Bool.eq_iff_iff.mpr
  rw [List.all_eq_true, List.all_eq_true]
  refine ⟨fun h d hd => ?_, fun h j hj => ?_⟩
  · obtain ⟨j, hj, e⟩ := List.getElem_of_mem hd
    have q := h j (List.mem_range.mpr hj)
    unfold trD at q
    rw [List.getElem?_eq_getElem hj, e] at q
    exact q
  · have hj' := List.mem_range.mp hj
    unfold trD
    rw [List.getElem?_eq_getElem hj']
    exact h _ (List.getElem_mem hj')
def tAllI (K : Fg) (P : Addr) (te : TE) : TE := fun σ H Q => te σ H fun v H1 => ∃ t vs ds A, v = .ref t ∧ SqT K H1 t vs ∧ IsL K (hide A H1) vs ds ∧ GxR.TabG H1 P ∧ ∀ H2, GxR.Tabbed P H1 H2 → Q (.bl (ds.all isIntD)) H2
theorem pe_allInt {X : Cx} {c P : Addr} {iter : Expr} {x : Str} {px p pos gpos q1 q2 q3 : Pos} {scope : Scope} {te : TE} {k : Nat} {st : Stmt} {f : Addr} {fd : FuncData}
    (room : Room (k + 1) X.A) (hg : Gl X "all") (hm : X.mg "all" = none) (TB : GxR.TabB X.base X.mg c P) (code : X.env.code = .ref c) (S : GxR.GenS X.env scope x) (src : PE X iter te) (fold : ∀ v, genFold iter X.env v = pure v)
    (Fi : Fun X.K "is_integer" "is_integer" st f fd) (Di : IntDef st) (Bi : Binds X.K fd ["thing"] []) (gi : X.mg "is_integer" = some (.ref f)) (n1 : X.mg "isinstance" = none) (n2 : X.mg "int" = none) (n3 : X.mg "bool" = none)
    (k1 : scope.names.lookup ("is_integer" : Str) = some .globalImplicit)
    (hx : (x == ("__debug__" : Str)) = false := by decide) :
    PE X (.Call (.Name "all" p) [.GeneratorExp (.Call (.Name "is_integer" q1) [.Name x q2] [] q3) [⟨.Name x px, iter, [], 0⟩] scope gpos] [] pos) (tAllI X.K P te) := by
  constructor
  intro pins s σ H Q I h
  have star : starEach [Expr.GeneratorExp (.Call (.Name "is_integer" q1) [.Name x q2] [] q3) [⟨.Name x px, iter, [], 0⟩] scope gpos] X.env = (false, eval (.GeneratorExp (.Call (.Name "is_integer" q1) [.Name x q2] [] q3) [⟨.Name x px, iter, [], 0⟩] scope gpos) X.env) :: starEach [] X.env := rfl
  refine wpAny_Call_Name_kw (ld_blt I hg hm (by decide +kernel : bootBuiltins "all" = some (.builtin "all")) ?_)
  refine PyProof.Rows.callWith_builtin1 ?_ star (by rfl)
  rw [star]
  show wpAny _ _ (spliced ((false, eval _ X.env) :: backTo pos (starEach [] X.env))) _ _ s
  refine Calls.spliced_cons (gen_tup (α := List D) (R := fun ds t vs H1 => GxR.TabG H1 P ∧ ∃ A, IsL X.K (hide A H1) vs ds ∧ ∀ H2, GxR.Tabbed P H1 H2 → Q (.bl (ds.all isIntD)) H2) (F := fun ds _ i y => ∃ d, ds[i]? = some d ∧ y = .bool (isIntD d)) room TB code S src fold I ?_ ?_ ?_)
  · refine cast (congrArg (te σ H) ?_) h
    funext v H1
    apply propext
    constructor
    · rintro ⟨t, vs, ds, A, e1, e2, e3, e4, e5⟩
      exact ⟨ds, t, vs, e1, e2, e4, e4, A, e3, e5⟩
    · rintro ⟨ds, t, vs, e1, e2, e4, _, A, e3, e5⟩
      exact ⟨t, vs, ds, A, e1, e2, e3, e4, e5⟩
  · rintro ds t vs H1 s1 its I1 ⟨⟨ps, tblAt, _⟩, A, il, _⟩ vals C cd A' E' i u s₂ m₂ hA hD hU hi hns hm' keep
    obtain ⟨v, hv, rv⟩ : ∃ v, vs[i]? = some v ∧ RelV v u := by
      have hlen := vals.length
      obtain ⟨hlt, eu⟩ := List.getElem?_eq_some_iff.mp hi
      have hlt' : i < vs.length := by omega
      refine ⟨vs[i], List.getElem?_eq_getElem hlt', ?_⟩
      obtain ⟨u', hu', r'⟩ := vals.get (List.getElem?_eq_getElem hlt')
      rw [hi] at hu'
      cases hu'
      exact r'
    obtain ⟨d, hd, isd⟩ := il.getV hv
    have keepB : ∀ b o, X.base.get? b = some o → s₂.heap.get? b = some o := fun b o e => by
      obtain ⟨e1, e2⟩ := I1.bs b o e
      exact keep b o (fun z => by rw [z, tblAt] at e2; cases e2) e1
    have raw0 : Raw X.K X.mg X.base := ⟨I1.mod.kin, I1.mod.glob, I1.mod.blt, I1.mod.nolimit⟩
    have raw2 := raw0.keeps keepB
    have star2 : starEach [Expr.Name x q2] (genEnv scope (cloFrom X.env.cells scope.names []) C cd builtinsNs X.env) = (false, eval (.Name x q2) (genEnv scope (cloFrom X.env.cells scope.names []) C cd builtinsNs X.env)) :: starEach [] (genEnv scope (cloFrom X.env.cells scope.names []) C cd builtinsNs X.env) := rfl
    refine wpAny_Call_Name_kw (Calls.Name_function_global S.kind (show scope.names.lookup ("is_integer" : Str) = some .globalImplicit from k1) (Calls.loadGlobal_global (mg := X.mg) (by show s₂.heap.Ns X.env.globals X.mg; rw [I1.ok.glob]; exact raw2.gl) gi ?_) (by decide))
    refine PySem.W.callWith_K (h₀ := X.base) I1.mod.kin Fi.kp ?_ star2 (by rfl)
    rw [star2]
    show wpAny _ _ (spliced ((false, eval (.Name x q2) _) :: backTo q3 (starEach [] _))) _ _ s₂
    refine Calls.spliced_cons (wpAny_Name (wpAny_loadName_local S.kind (show scope.names.lookup x = some .local from S.loc) hns hm' ?_) hx)
    refine Calls.spliced_nil ⟨raw2.kin, ?_⟩
    have deep := room.dp
    refine wpAny_mono (raw_isint Fi Di Bi raw2 n1 n2 n3 (by omega) (fun h' hk => Kd.keeps I1 isd rv (fun a o ea et ob eo => hk _ _ (keep a ob (fun z => by rw [z, tblAt] at ea; cases ea; cases et) eo)) fun b o e => hk _ _ (raw2.kin b o e)) (isi_kit d "int" (by simp)) (isi_kit d "bool" (by simp))) (fun y s3 r => ⟨⟨d, hd, r.1⟩, r.2⟩) fun _ _ z => z
  · rintro ds t vs its H1 g s5 ⟨_, A, il, hq⟩ vals ⟨fp, wr, G, St, W, st0, _, hI⟩
    refine Calls.spliced_nil ?_
    have W1 := WalksS.in4_1 W
    have lens : its.length = ds.length := by rw [← vals.length, il.len]
    refine call_all_walkS (W1.self 0 _ _ _ st0 ⟨g, fp, wr, G, its.length, _, St, trD isIntD ds, rfl, W1, st0, ?_, fun s' mv => ?_⟩)
    · rintro j y sj Qj Ej ⟨d, hd, rfl⟩ hQj
      unfold trD at hQj
      rw [hd] at hQj
      exact wpAny_truthy_bool hQj
    · obtain ⟨H2, tab, J⟩ := hI s' mv
      rw [lens, all_trD]
      exact ⟨.bl _, H2, J, rfl, hq H2 tab⟩
/-- the reading over data -/
def gAllI : Sl → Option Sl := fun a => (asT a).map fun ds => .dat (.bool (ds.all isIntD))
theorem de_allI {K : Fg} {T : List Addr} {P : Addr} {ta : TE} {f : Fe} (hP : P ∈ T) (h1 : DE K T ta f) : DE K T (tAllI K P ta) (f1 gAllI f) := by
  intro dm A0 H0 A σ H env k Q S s k' hf hQ
  obtain ⟨a, e1, e2⟩ := f1_some hf
  unfold gAllI at e2
  cases e3 : asT a with
  | none => rw [e3] at e2; cases e2
  | some ds =>
    rw [e3] at e2
    cases e2
    refine h1 dm A0 H0 A σ H env k _ S _ _ e1 fun x H1 S1 l1 i1 => ?_
    obtain ⟨p, vs, rfl, g1, g2, g3⟩ := is_tup i1 e3
    refine ⟨p, vs, ds, A, rfl, g1, g3, S1.wd.tab P hP, fun H2 tb => ?_⟩
    obtain ⟨tG, eq⟩ := tb
    have l2 : Lt dm H1 H2 := ⟨fun b o hb z _ => by
      rw [eq b fun q => by
        obtain ⟨ps, e, _⟩ := S1.wd.tab P hP
        rw [q, e] at hb
        cases hb
        cases z]
      exact hb, fun b hb => by
      by_cases q : b = P
      · obtain ⟨ps, e, _⟩ := tG
        rw [q, e]; simp
      · rw [eq b q]; exact hb⟩
    have w2 : Wd T dm A H2 k' := ⟨fun b hb => l2.dom b (S1.wd.dom b hb), fun P' hP' => by
      by_cases q : P' = P
      · rw [q]; exact tG
      · obtain ⟨ps, e, t⟩ := S1.wd.tab P' hP'
        exact ⟨ps, by rw [eq P' q]; exact e, t⟩, fun a c e => by
      obtain ⟨q1, q2, q3, q4, q5⟩ := S1.wd.dk a c e
      obtain ⟨ps, ep, _⟩ := S1.wd.tab P hP
      exact ⟨q1, q2, q3, by rw [eq a fun z => by rw [z, ep] at q4; cases q4]; exact q4, by rw [eq c fun z => by rw [z, ep] at q5; cases q5]; exact q5⟩⟩
    exact hQ _ H2 (S1.at w2 l2) (l1.trans l2) (Is.bl _)
end DL
set_option Elab.async false
set_option linter.all false
set_option maxRecDepth 100000
set_option maxHeartbeats 4000000
namespace DL
open PySem PySem.Spec PyProof.Rows L2
/-! ### data is read off the heap -/
theorem reads_key {k : Key} {v : Value} (h : Heap) (e : keyIs k v = true) : Reads h v (keyD k) [] := by
  rcases keyIs_shape e with ⟨i, t, rfl, rfl⟩ | ⟨x, t, rfl, rfl⟩
  · exact .int i t
  · exact .str x t
theorem reads_keys {P : Program} {w : World} (h : Heap) : ∀ {es : List DictEntry} {vs : List (Key × Value)} {kvs : List (Key × V)}, Pairs (mixKind P w) es vs → KV kvs vs → ReadsAll h (es.map (·.key)) (kvs.map fun p => keyD p.1) [] ∧ Vals (kvs.map fun p => p.2) (es.map (·.val))
  | _, _, _, .nil, .nil => ⟨.nil, .nil⟩
  | _, _, _, .cons h1 h2 t, .cons r q => by
    obtain ⟨i1, i2⟩ := reads_keys h t q
    obtain ⟨r1, r2⟩ := r
    rw [← h2] at r2
    refine ⟨?_, .cons r2 i2⟩
    have a : Reads h _ (keyD _) [] := reads_key h h1
    have b := ReadsAll.cons a i1
    rw [← r1] at b
    exact b
section
variable {X : Cx} {pins : List (Addr × Obj)} {σ : List (Option V)} {H : Hp} {s : Shared} {A : List Addr}
theorem kvs_reads {kvs : List (Key × V)} {a : Addr} (I : Inv X pins σ H s) (e : H a = some (.dK kvs)) : ∃ o es n, s.heap.get? a = some o ∧ o.cls = .type "dict" ∧ o.data = .dict es n ∧ ReadsAll s.heap (es.toList.map (·.key)) (kvs.map fun p => keyD p.1) [] ∧ Vals (kvs.map fun p => p.2) (es.toList.map (·.val)) := by
  obtain ⟨_, _, vs, kv, o, es, ep, h1, h2, h3, _, h4, _⟩ := (show ObjOk X.prog X.w H s.heap a (.dK kvs) from I.hok a _ e)
  obtain ⟨i1, i2⟩ := reads_keys s.heap h4 kv
  exact ⟨o, es, ep, h1, h2.1, h3, i1, i2⟩
mutual
theorem Is.reads (I : Inv X pins σ H s) : ∀ (d : D) (v : V) (u : Value), Is X.K (hide A H) v d → RelV v u → ∃ as, Reads s.heap u d as ∧ ∀ b ∈ as, H b ≠ none
  | .none, _, _, h, r => by cases h; cases r; exact ⟨_, .none, fun _ z => (nomatch z)⟩
  | .bool b, _, _, h, r => by cases h; cases r; exact ⟨_, .bool b, fun _ z => (nomatch z)⟩
  | .int i, _, _, h, r => by cases h; obtain ⟨t, rfl⟩ := r; exact ⟨_, .int i t, fun _ z => (nomatch z)⟩
  | .str x, _, _, h, r => by cases h; obtain ⟨t, rfl⟩ := r; exact ⟨_, .str x t, fun _ z => (nomatch z)⟩
  | .list ds, _, _, h, r => by
    cases h with
    | lst ha il =>
      cases r
      have ha' := (hide_some ha).2
      obtain ⟨its, rv, ⟨o, n, ho, hc, _, hd⟩, _⟩ := I.list (.inl (.inl ha'))
      obtain ⟨as, q1, q2⟩ := IsL.reads I ds _ its il rv
      exact ⟨_, .list ho hc hd q1, fun b hb => by
        rcases List.mem_cons.mp hb with z | z
        · rw [z, ha']; simp
        · exact q2 b z⟩
  | .tuple ds, _, _, h, r => by
    cases h with
    | tup ha il =>
      cases r
      obtain ⟨its, rv, ⟨o, ho, hc, n, hd⟩, _⟩ := I.tuple (sqt_out ha)
      obtain ⟨as, q1, q2⟩ := IsL.reads I ds _ its il rv
      exact ⟨_, .tuple ho hc hd q1, q2⟩
  | .dict ds, _, _, h, r => by
    cases h with
    | @dct a kvs _ ha ek il =>
      cases r
      have ha' := (hide_some ha).2
      obtain ⟨o, es, n, e1, e2, e3, rk, rv⟩ := kvs_reads I ha'
      obtain ⟨as, q1, q2⟩ := KvL.reads I ds _ _ il rv
      rw [ek] at rk
      exact ⟨_, .dict e1 e2 e3 rk q1, fun b hb => by
        have hb : b ∈ a :: [] ++ as := hb
        rcases List.mem_cons.mp hb with z | z
        · rw [z, ha']; simp
        · exact q2 b z⟩
theorem IsL.reads (I : Inv X pins σ H s) : ∀ (ds : List D) (vs : List V) (us : List Value), IsL X.K (hide A H) vs ds → Vals vs us → ∃ as, ReadsAll s.heap us ds as ∧ ∀ b ∈ as, H b ≠ none
  | [], _, _, h, r => by cases h; cases r; exact ⟨_, .nil, fun _ z => (nomatch z)⟩
  | d :: ds, _, _, h, r => by
    cases h with
    | cons h1 h2 =>
      cases r with
      | cons r1 r2 =>
        obtain ⟨as, q1, q2⟩ := Is.reads I d _ _ h1 r1
        obtain ⟨bs, q3, q4⟩ := IsL.reads I ds _ _ h2 r2
        exact ⟨_, .cons q1 q3, fun b hb => (List.mem_append.mp hb).elim (q2 b) (q4 b)⟩
theorem KvL.reads (I : Inv X pins σ H s) : ∀ (ds : List (D × D)) (vs : List V) (us : List Value), IsL X.K (hide A H) vs (ds.map fun p => p.2) → Vals vs us → ∃ as, ReadsAll s.heap us (ds.map fun p => p.2) as ∧ ∀ b ∈ as, H b ≠ none
  | [], _, _, h, r => by cases h; cases r; exact ⟨_, .nil, fun _ z => (nomatch z)⟩
  | (k, d) :: ds, _, _, h, r => by
    have h : IsL X.K (hide A H) _ (d :: ds.map fun p => p.2) := h
    cases h with
    | cons h1 h2 =>
      cases r with
      | cons r1 r2 =>
        obtain ⟨as, q1, q2⟩ := Is.reads I d _ _ h1 r1
        obtain ⟨bs, q3, q4⟩ := KvL.reads I ds _ _ h2 r2
        exact ⟨_, .cons q1 q3, fun b hb => (List.mem_append.mp hb).elim (q2 b) (q4 b)⟩
end
end

/-! ### repr -/
section
variable {X : Cx}
def okShow (d : D) : Bool := d.showable && decide (d.depth ≤ 60) && decide (d.shown.length ≤ 1000000)
def rRepr (K : Fg) : List V → Hp → VK → Prop := fun vs H Q => ∃ v d A, vs = [v] ∧ Is K (hide A H) v d ∧ okShow d = true ∧ Q (.str d.shown) H
theorem call_reprG (hgd : X.A.guards = some []) (hu : X.A.units + 64 < cLine) (hsy : ∃ o, X.base.get? sysModules = some o) : CallR X (.builtin "repr") (rRepr X.K) := by
  intro pins s σ H vs us Q I r h
  obtain ⟨v, d, A, rfl, isd, ok, q⟩ := h
  unfold okShow at ok
  simp only [Bool.and_eq_true, decide_eq_true_eq] at ok
  obtain ⟨⟨o1, o2⟩, o3⟩ := ok
  obtain ⟨u, rfl, ru⟩ := vals1 r
  have sz : d.shown.length ≤ sizeLine := Nat.le_trans o3 (by decide)
  obtain ⟨as, rd, has⟩ := Is.reads I d v u isd ru
  have fin : ∀ tk : Nat, EP X pins σ Q (.str d.shown s.toks) { s with toks := tk } := fun tk => ⟨.str d.shown, H, I.tok _, ⟨_, rfl⟩, q⟩
  have rd0 := rd
  cases rd with
  | none => exact call_repr_gives (PySem.typeIs_none s) F.slot_NoneType_repr F.entry_NoneType_repr (F.args_NoneType_repr_1 _) gives_none_repr (fin _) (hx := sz)
  | bool b => exact call_repr_gives (PySem.typeIs_bool s b) F.slot_bool_repr F.entry_bool_repr (F.args_bool_repr_1 _) (gives_bool_repr b) (fin _) (hx := sz)
  | int i t => exact PySem.P.repr_of_int (by simpa [PyData.showable] using o1) (fin _)
  | str x t => exact call_repr_gives (PySem.typeIs_str s x t) F.slot_str_repr F.entry_str_repr (F.args_str_repr_1 _) (gives_str_repr x t) (fin _) (hx := sz)
  | _ =>
    refine repr_of_reads' rd0 o1 (fun _ z => ?_) hgd (by omega) (fun _ _ e => e) (fun h' u' tk kept => ?_) sz
    · obtain ⟨o, eo⟩ := hsy
      exact has _ z (I.bs _ _ eo).2
    · exact ⟨.str _, H, I.kept (t' := tk) kept, ⟨_, rfl⟩, q⟩
end
section
variable {K : Fg} {T : List Addr} {ta tb : TE} {f g : Fe}
def gRepr : Sl → Option Sl
  | .dat d => if okShow d = true then some (.dat (.str d.shown)) else none
  | _ => none
theorem de_repr (h1 : DE K T ta f) : DE K T (tCB (rRepr K) (tCons ta tNil)) (f1 gRepr f) := de_b1 h1 (by
  intro dm A0 H0 A σ H env k x a s Q S i e hQ
  cases a with
  | dat d =>
    have e : (if okShow d = true then some (Sl.dat (.str d.shown)) else none) = some s := e
    by_cases hc : okShow d = true
    · rw [if_pos hc] at e
      cases e
      exact ⟨x, d, A, rfl, i, hc, hQ _ H S (Lt.refl _ _) (Is.str _)⟩
    · rw [if_neg hc] at e; cases e
  | _ => cases e)
end
end DL
set_option Elab.async false
set_option linter.all false
set_option maxRecDepth 100000
set_option maxHeartbeats 4000000
namespace DL
open PySem PySem.Spec PyProof.Rows L2
/-! ### t[::-1] of a tuple -/
section
variable {prog : Program} {w : World} {A : Around} {E : Value → Shared → Prop} {s : Shared}
theorem sl_back {sl : Addr} {vl vu vs : Value} {n : Nat} {Q : Int × Int × Nat → Shared → Prop} (hs : s.heap.IsSliceOf sl vl vu vs) (p1 : IsPart vl none) (p2 : IsPart vu none) (p3 : IsPart vs (some (-1)))
    (h : Q ((n : Int) - 1, -1, n) s) : wpAny (model prog w) A (Builtin.Slice.sliceApplied (.ref sl) (pure (n : Int))) Q E s := by
  obtain ⟨os, atSl, clsSl, dataSl⟩ := id hs
  unfold Builtin.Slice.sliceApplied Builtin.Slice.sliceFields
  have fields := wpAny_bind (M := model prog w) (A := A) (E := E) (s := s) (m := field (.ref sl) 0) (f := fun a => field (.ref sl) 1 >>= fun b => field (.ref sl) 2 >>= fun c => pure (a, b, c)) (Q := fun r s' => r = (vl, vu, vs) ∧ s' = s)
    (wpAny_field atSl dataSl (x := vl) rfl (wpAny_bind (wpAny_field atSl dataSl (x := vu) rfl (wpAny_bind (wpAny_field atSl dataSl (x := vs) rfl (wpAny_pure ⟨rfl, rfl⟩))))))
  refine wpAny_bind (wpAny_mono fields (fun r s' e => ?_) fun _ _ z => z)
  obtain ⟨rfl, rfl⟩ := e
  refine wpAny_bind (HT.slicePart_ p3 ?_)
  show wpAny _ _ (if ((-1 : Int) == 0) = true then _ else _) _ _ _
  rw [if_neg (by decide)]
  refine wpAny_bind (HT.slicePart_ p1 (wpAny_bind (HT.slicePart_ p2 (wpAny_bind (wpAny_pure ?_)))))
  have places : Builtin.Slice.slicePlaces ((n : Int) - 1) (-1) (-1) = n := by
    unfold Builtin.Slice.slicePlaces
    rw [if_neg (by decide)]
    by_cases hn : (n : Int) - 1 > -1
    · rw [if_pos hn]
      have e : ((n : Int) - 1 - -1 - 1) / -(-1) + 1 = n := by
        have : (-(-1) : Int) = 1 := by decide
        rw [this, Int.ediv_one]
        omega
      rw [e]
      exact Int.toNat_natCast n
    · rw [if_neg hn]
      have : n = 0 := by omega
      subst this
      rfl
  show wpAny _ _ (pure ((n : Int) - 1, (-1 : Int), Builtin.Slice.slicePlaces ((n : Int) - 1) (-1) (-1))) _ _ _
  rw [places]
  exact wpAny_pure h
theorem fm_some {α β : Type} {f : α → Option β} {g : α → β} : ∀ (l : List α), (∀ k ∈ l, f k = some (g k)) → l.filterMap f = l.map g
  | [], _ => rfl
  | a :: r, h => by
    rw [List.filterMap_cons, h a List.mem_cons_self, List.map_cons, fm_some r fun k hk => h k (List.mem_cons_of_mem _ hk)]
theorem pick_back (xs : Array Value) : ((List.range xs.size).filterMap fun (k : Nat) => xs[(((xs.size : Nat) : Int) - 1 + (k : Int) * -1).toNat]?).toArray = xs.toList.reverse.toArray := by
  congr 1
  have key : ∀ k ∈ List.range xs.size, xs[(((xs.size : Nat) : Int) - 1 + (k : Int) * -1).toNat]? = some (xs.toList.reverse[k]?.getD Value.none) := fun k hk => by
    have hk := List.mem_range.mp hk
    have e : (((xs.size : Nat) : Int) - 1 + (k : Int) * -1).toNat = xs.size - 1 - k := by omega
    have lt : xs.size - 1 - k < xs.size := by omega
    have hk' : k < xs.toList.reverse.length := by rw [List.length_reverse, Array.length_toList]; exact hk
    rw [e, Array.getElem?_eq_getElem lt, List.getElem?_eq_getElem hk', Option.getD_some, List.getElem_reverse]
    simp
  rw [fm_some _ key]
  apply List.ext_getElem
  · rw [List.length_map, List.length_range, List.length_reverse, Array.length_toList]
  · intro i h1 h3
    rw [List.getElem_map, List.getElem_range, List.getElem?_eq_getElem h3, Option.getD_some]
theorem getItem_tup_back {t sl : Addr} {items : Array Value} {vl vu vs : Value} {Q : Value → Shared → Prop} (ht : IsTup s.heap t items) (hs : s.heap.IsSliceOf sl vl vu vs) (p1 : IsPart vl none) (p2 : IsPart vu none) (p3 : IsPart vs (some (-1)))
    (h : Q (.ref s.heap.objs.size) { s with heap := s.heap.push { cls := .type "tuple", data := .seq items.toList.reverse.toArray } }) (hsz : items.size ≤ sizeLine) : wpAny (model prog w) A (getItem (.ref t) (.ref sl)) Q E s := by
  have fits : sizeOk (.seq items.toList.reverse.toArray) := by
    show items.toList.reverse.toArray.size ≤ sizeLine
    rw [List.size_toArray, List.length_reverse, Array.length_toList]
    exact hsz
  obtain ⟨os, atSl, clsSl, _⟩ := id hs
  have tySl : s.TypeIs (.ref sl) "slice" := ⟨os, atSl, clsSl⟩
  unfold getItem
  try (with_reducible refine wpAny_holding ?_)
  first | (refine wpAny_bind (wpAny_pure ?_)) | skip
  refine wpAny_bind (wpAny_sequenceKey (IsTup.typeIs ht) (by decide) ?_)
  refine wpAny_bind (wpAny_callSpecial?_slot (name := Str.ofString "__getitem__") (IsTup.typeIs ht) slot_tuple_getitem (wpAny_call_entry slot_tuple_getitem (IsTup.typeIs ht) entry_tuple_getitem ?inner (args_tuple_getitem _ _)))
  case inner =>
    show wpAny _ _ (bind (Builtin.Tuple.tupleItemsOf (.ref t)) _) _ _ s
    refine wpAny_bind (tupleItemsOf_ ht (wpAny_bind (wpAny_typeOf tySl ?_)))
    rw [if_pos (by decide)]
    refine wpAny_bind (sl_back hs p1 p2 p3 ?_)
    have noWhole : ¬ ((((items.size : Nat) : Int) - 1 == 0 && (-1 : Int) == 1 && items.size == items.size) = true) := by simp
    show wpAny _ _ (if ((((items.size : Nat) : Int) - 1 == 0 && (-1 : Int) == 1 && items.size == items.size) = true) then _ else _) _ _ s
    rw [if_neg noWhole, pick_back]
    first
      | exact wpAny_bind (m := Builtin.Tuple.tupleExact _) (wpAny_newObj_type (wpAny_pure ⟨_, rfl, wpAny_pure h⟩) fits)
      | exact wpAny_bind (m := Builtin.Tuple.tupleExact _) (wpAny_newObj_type (wpAny_bind (wpAny_pure (wpAny_pure ⟨_, rfl, wpAny_pure h⟩))) fits)
      | exact wpAny_bind (wpAny_bind (m := Builtin.Tuple.tupleExact _) (wpAny_newObj_type (wpAny_pure (wpAny_pure ⟨_, rfl, wpAny_pure h⟩)) fits))
      | exact wpAny_bind (wpAny_bind (m := Builtin.Tuple.tupleExact _) (wpAny_newObj_type (wpAny_pure ⟨_, rfl, wpAny_pure h⟩) fits))
end
/-- t[::-1] -/
def tRevT (K : Fg) (te : TE) : TE := fun σ H Q => te σ H fun x H1 => ∃ a xs, x = .ref a ∧ SqT K H1 a xs ∧ ∀ p, H1 p = none → Q (.ref p) (upd H1 p (.tup xs.reverse))
theorem pe_revT {X : Cx} {e : Expr} {te : TE} {k : Nat} {p1 p2 p3 pos : Pos} (he : PE X e te) : PE X (.Subscript e (.Slice none none (some (.UnaryOp .USub (.Constant (.int 1) k p1) p2)) p3) pos) (tRevT X.K te) := by
  constructor
  intro pins s σ H Q I h
  refine Subscript_ (thn (he.run pins s σ H _ I h) ?_)
  rintro v s1 ⟨x, H1, I1, r1, a, xs, rfl, hx, q⟩
  cases r1
  have step : PO X (some (.UnaryOp .USub (.Constant (.int 1) k p1) p2)) (tPart (tUn (rU fun i => .int (-i)) (tC (.int 1)))) := po_some (pe_un un_neg pe_int)
  refine wpAny_Slice (thn (po_none.run pins s1 σ H1 (fun o H2 => o = none ∧ H2 = H1) I1 ⟨rfl, rfl⟩) ?_)
  rintro vl s2 ⟨_, H2, I2, pl, rfl, rfl⟩
  refine thn (po_none.run pins s2 σ H2 (fun o H3 => o = none ∧ H3 = H2) I2 ⟨rfl, rfl⟩) ?_
  rintro vu s3 ⟨_, H3, I3, pu, rfl, rfl⟩
  refine thn (step.run pins s3 σ H3 (fun o H4 => o = some (-1) ∧ H4 = H3) I3 ⟨1, rfl, -1, rfl, rfl, rfl⟩) ?_
  rintro vs s4 ⟨_, H4, I4, ps, rfl, rfl⟩
  have I5 : Inv X pins σ H4 { s4 with heap := s4.heap.push { cls := .type "slice", data := .fields #[vl, vu, vs] } } := I4.kept (t' := s4.toks) fun b ob z => Heap.get?_push_of_some _ z
  obtain ⟨its, r, ht, hz⟩ := I5.tuple hx
  have hlen := r.length
  show wpAny (model X.prog X.w) X.A (subscriptTail e _ (.ref a) (.ref s4.heap.objs.size)) (EP X pins σ Q) X.xe { s4 with heap := s4.heap.push { cls := .type "slice", data := .fields #[vl, vu, vs] } }
  refine tail_any (ops := [.ref a, .ref s4.heap.objs.size]) (IsTup.typeIs ht) slot_tuple_getitem.lookup ?_ (by with_unfolding_all rfl)
  refine getItem_tup_back ht (Heap.IsSliceOf.new _ vl vu vs) pl pu ps ?_ (by rw [List.size_toArray]; omega)
  refine ⟨.ref _, _, I5.laid (t' := s4.toks) (o := .tup xs.reverse) (fun b ob z => Heap.get?_push_of_some _ z) (Nat.le_refl _) ⟨by rw [List.length_reverse]; exact hz, _, r.reverse, IsTup.new _ _⟩, rfl, q _ (I5.hok.fresh (Nat.le_refl _))⟩
section
variable {K : Fg} {T : List Addr} {ta tb : TE} {f g : Fe}
def fRevT (f : Fe) : Fe := f1 (fun s => (asT s).map fun ds => .dat (.tuple ds.reverse)) f
theorem de_revT (h1 : DE K T ta f) : DE K T (tRevT K ta) (fRevT f) := by
  intro dm A0 H0 A σ H env k Q S s k' hf hQ
  obtain ⟨a, e1, e2⟩ := f1_some hf
  cases e3 : asT a with
  | none => rw [e3] at e2; cases e2
  | some ds =>
    rw [e3] at e2
    cases e2
    refine h1 dm A0 H0 A σ H env k _ S _ _ e1 fun x H1 S1 l1 i1 => ?_
    obtain ⟨p, vs, rfl, g1, _, g3⟩ := is_tup i1 e3
    exact ⟨p, vs, rfl, g1, fun q hq => hQ _ _ (S1.new hq) (l1.trans (Lt.new hq)) (mk_tup S1.wd hq g3.rev)⟩
/-! ### {k: e, ..} -/
inductive DPs (K : Fg) (T : List Addr) : List (TE × TE) → List (Key × Fe) → Prop
  | nil : DPs K T [] []
  | cons {k : Key} {te : TE} {f : Fe} {trs : List (TE × TE)} {kfs : List (Key × Fe)} : DE K T te f → DPs K T trs kfs → DPs K T ((tC (kV k), te) :: trs) ((k, f) :: kfs)
def fPairs : List (Key × Fe) → List Sl → Dk → Option (List (Key × D) × Dk)
  | [], _, k => some ([], k)
  | (key, f) :: r, env, k => (f env k).bind fun p => match p.1 with
    | .dat d => (fPairs r env p.2).map fun q => ((key, d) :: q.1, q.2)
    | _ => none
theorem pairs_run {dm : Dm} {A0 : List Addr} {H0 : Hp} {A : List Addr} {env : List Sl} {σ : List (Option V)} : ∀ {trs : List (TE × TE)} {kfs : List (Key × Fe)}, DPs K T trs kfs → ∀ {H : Hp} {k k' : Dk} {kds : List (Key × D)} {Q : List (V × V) → Hp → Prop}, Sta K T dm A0 H0 A σ H env k → fPairs kfs env k = some (kds, k') →
    (∀ (kvs : List (Key × V)) H', Sta K T dm A0 H0 A σ H' env k' → Lt dm H H' → kvs.map (fun p => p.1) = kds.map (fun p => p.1) → IsL K (hide A H') (kvs.map fun p => p.2) (kds.map fun p => p.2) → Q (kvs.map fun kv => (kV kv.1, kv.2)) H') → tPairs trs σ H Q
  | _, _, .nil, H, k, k', kds, Q, S, e, hQ => by
    cases e
    exact hQ [] H S (Lt.refl _ _) rfl .nil
  | _, _, .cons (k := key) (f := f) (kfs := kfs) h hr, H, k, k', kds, Q, S, e, hQ => by
    unfold fPairs at e
    cases e1 : f env k with
    | none => rw [e1] at e; cases e
    | some p =>
      obtain ⟨s, k1⟩ := p
      rw [e1] at e
      simp only [Option.bind_some] at e
      cases s with
      | dat d =>
        simp only at e
        cases e2 : fPairs kfs env k1 with
        | none => rw [e2] at e; cases e
        | some q =>
          rw [e2] at e
          cases e
          refine h dm A0 H0 A σ H env k _ S _ _ e1 fun v H1 S1 l1 i1 => ?_
          exact pairs_run hr S1 e2 fun kvs H2 S2 l2 ek il => hQ ((key, v) :: kvs) H2 S2 (l1.trans l2) (by rw [List.map_cons, List.map_cons, ek]) (.cons (i1.lt S1.wd l2) il)
      | _ => cases e
theorem merge_nodup : ∀ (kvs acc : List (Key × V)), ((acc ++ kvs).map fun p => p.1).Nodup → mergeK acc kvs = acc ++ kvs
  | [], acc, _ => by show acc = acc ++ []; rw [List.append_nil]
  | (k, v) :: r, acc, h => by
    show mergeK (putK acc k v) r = _
    have hk : valV acc k = none := by
      cases e : valV acc k with
      | none => rfl
      | some z =>
        have m := valV_in e
        rw [List.map_append, List.map_cons, List.nodup_append] at h
        exact absurd rfl (h.2.2 k m k List.mem_cons_self)
    have e : acc ++ [(k, v)] ++ r = acc ++ (k, v) :: r := by simp
    rw [putK_new v hk, merge_nodup r (acc ++ [(k, v)]) (by rw [e]; exact h), e]
def fDisp (kfs : List (Key × Fe)) : Fe := fun env k => if (kfs.map fun p => p.1).Nodup ∧ kfs.length ≤ 15 then (fPairs kfs env k).map fun q => (.dat (.dict (q.1.map fun p => (keyD p.1, p.2))), q.2) else none
theorem pairs_keys : ∀ {kfs : List (Key × Fe)} {env : List Sl} {k k' : Dk} {kds : List (Key × D)}, fPairs kfs env k = some (kds, k') → kds.map (fun p => p.1) = kfs.map (fun p => p.1)
  | [], _, _, _, _, e => by cases e; rfl
  | (key, f) :: r, env, k, k', kds, e => by
    unfold fPairs at e
    cases e1 : f env k with
    | none => rw [e1] at e; cases e
    | some p =>
      obtain ⟨s, k1⟩ := p
      rw [e1] at e
      simp only [Option.bind_some] at e
      cases s with
      | dat d =>
        simp only at e
        cases e2 : fPairs r env k1 with
        | none => rw [e2] at e; cases e
        | some q => rw [e2] at e; cases e; rw [List.map_cons, List.map_cons, pairs_keys e2]
      | _ => cases e
theorem de_disp {trs : List (TE × TE)} {kfs : List (Key × Fe)} (h : DPs K T trs kfs) : DE K T (tDisp trs) (fDisp kfs) := by
  intro dm A0 H0 A σ H env k Q S s k' hf hQ
  unfold fDisp at hf
  by_cases hc : (kfs.map fun p => p.1).Nodup ∧ kfs.length ≤ 15
  · rw [if_pos hc] at hf
    cases e : fPairs kfs env k with
    | none => rw [e] at hf; cases hf
    | some q =>
      obtain ⟨kds, k1⟩ := q
      rw [e] at hf
      cases hf
      intro p hp
      have p0 : p ∉ A0 := fun m => notA S.wd hp (S.sub p m)
      refine pairs_run h (S.hid (o := .dK []) hp) e fun kvs H2 S2 l2 ek il => ?_
      have at2 : H2 p = some (.dK []) := l2.keep p _ upd_same rfl fun a c z => ⟨fun q => p0 (q ▸ (S.dm0 a c z).1), fun q => p0 (q ▸ (S.dm0 a c z).2)⟩
      have len : kvs.length = kfs.length := by
        have := congrArg List.length (ek.trans (pairs_keys e))
        rwa [List.length_map, List.length_map] at this
      have mg : mergeK [] kvs = kvs := merge_nodup kvs [] (by rw [List.nil_append, ek, pairs_keys e]; exact hc.1)
      refine ⟨at2, kvs, rfl, by rw [len]; exact hc.2, ?_⟩
      rw [mg]
      have ne : ∀ b u, H b = some u → b ≠ p := fun b u q z => by rw [z, hp] at q; cases q
      have l3 : Lt dm H (upd H2 p (.dK kvs)) := ⟨fun b u q z n => by rw [upd_ne (ne b u q)]; exact l2.keep b u (by rw [upd_ne (ne b u q)]; exact q) z n, fun b q => by
        by_cases z : b = p
        · rw [z, upd_same]; simp
        · rw [upd_ne z]; exact l2.dom b (by rw [upd_ne z]; exact q)⟩
      have pA : p ∉ A := notA S.wd hp
      have w3 : Wd T dm A (upd H2 p (.dK kvs)) k1 := by
        refine ⟨fun b hb => l3.dom b (S.wd.dom b hb), fun P hP => ?_, fun a c z => ?_⟩
        · obtain ⟨ps, q, t⟩ := S2.wd.tab P hP
          exact ⟨ps, by rw [upd_ne fun z => by rw [z, at2] at q; cases q]; exact q, t⟩
        · obtain ⟨q1, q2, q3, q4, q5⟩ := S2.wd.dk a c z
          exact ⟨S.sub a (S.dm0 a c z).1, S.sub c (S.dm0 a c z).2, q3, by rw [upd_ne (fun y : a = p => p0 (y ▸ (S.dm0 a c z).1))]; exact q4, by rw [upd_ne (fun y : c = p => p0 (y ▸ (S.dm0 a c z).2))]; exact q5⟩
      refine hQ _ _ (S.at w3 l3) l3 ?_
      have hh : hide (p :: A) (upd H2 p (.dK kvs)) = hide (p :: A) H2 := hide_upd List.mem_cons_self _
      refine Is.dct (by rw [hide_out pA]; exact upd_same) ?_ (IsL.kp (hide_mono fun b hb => List.mem_cons_of_mem _ hb) (by rw [hh, List.map_map]; exact il))
      have e2 := congrArg (List.map keyD) ek
      rw [List.map_map, List.map_map] at e2
      rw [List.map_map]
      exact e2
  · rw [if_neg hc] at hf; cases hf
end
end DL
set_option Elab.async false
set_option linter.all false
set_option maxRecDepth 100000
set_option maxHeartbeats 4000000
namespace DL
open PySem PySem.Spec PyProof.Rows L2
/-! ### the door: how a law's call begins and ends -/
/-- the object of a table that nobody has written to -/
def clean : Obj := { cls := .none, data := .fields #[] }
def lstObj (vs : List Value) : Obj := { cls := .type "list", data := .seq vs.toArray }
/-- all that is known where the law is called -/
structure Door (K : Fg) (mg mb : Str → Option Value) (s : Shared) (a : Addr) (tb : List Addr) (cs : List (Addr × Addr)) (vs : List Value) (ns : List Int) : Prop where
  kin : K.In s.heap
  glo : s.heap.Ns mainGlobals mg
  blt : s.heap.Ns builtinsNs mb
  blb : ∀ x : Str, x ≠ "__name__" → mb x = bootBuiltins x
  lim : s.heap.NoLimit
  gen : s.gens = #[]
  emp : ∀ b ∈ tb, s.heap.get? b = some clean
  off : ∀ b ∈ tb, K.lookup b = none
  cod : ∀ p ∈ cs, p.2 ∈ tb ∧ PySem.W.CodeHd s.heap p.1 p.2
  cds : ∀ b ∈ tb, ∃ p ∈ cs, p.2 = b
  bmn : ∃ (bm : Addr) (ob : Obj), mg "__builtins__" = some (.ref bm) ∧ bm ≠ builtinsNs ∧ s.heap.get? bm = some ob ∧ ob.cls = .type "module" ∧ ob.dict = some builtinsNs ∧ ob.data = .plain
  scr : s.heap.get? a = some (lstObj vs)
  nums : IntsAre vs ns
  short : ns.length ≤ sizeLine
open Classical in
/-- what is followed from the start: the tables, and the script where it is no part of the written -/
noncomputable def seen (K : Fg) (a : Addr) (tb : List Addr) (vs : List Value) (ns : List Int) : Hp := fun b =>
  if b ∈ tb then some (.tbl #[]) else if b = a ∧ K.lookup a = none then some (.frz (lstObj vs) (.lst (ns.map V.int))) else none
section
variable {K : Fg} {mg mb : Str → Option Value} {s : Shared} {a : Addr} {tb : List Addr} {cs : List (Addr × Addr)} {vs : List Value} {ns : List Int}
theorem seen_tb {b : Addr} (h : b ∈ tb) : seen K a tb vs ns b = some (.tbl #[]) := by unfold seen; exact if_pos h
theorem seen_no {b : Addr} (h : b ∉ tb) (n : ¬ (b = a ∧ K.lookup a = none)) : seen K a tb vs ns b = none := by unfold seen; rw [if_neg h, if_neg n]
theorem seen_sc (h : a ∉ tb) (n : K.lookup a = none) : seen K a tb vs ns a = some (.frz (lstObj vs) (.lst (ns.map V.int))) := by unfold seen; rw [if_neg h, if_pos ⟨rfl, n⟩]
theorem seen_cases (b : Addr) : b ∈ tb ∨ (b ∉ tb ∧ b = a ∧ K.lookup a = none) ∨ (b ∉ tb ∧ seen K a tb vs ns b = none) := by
  by_cases h : b ∈ tb
  · exact .inl h
  · by_cases n : b = a ∧ K.lookup a = none
    · exact .inr (.inl ⟨h, n⟩)
    · exact .inr (.inr ⟨h, seen_no h n⟩)
variable (d : Door K mg mb s a tb cs vs ns)
theorem Door.apart (d : Door K mg mb s a tb cs vs ns) : a ∉ tb := fun h => by
  have e := d.emp a h
  rw [d.scr] at e
  exact nomatch (congrArg (fun o : Option Obj => o.map Obj.data) e)
/-- an object of another kind is not followed -/
theorem Door.clear (d : Door K mg mb s a tb cs vs ns) {b : Addr} {o : Obj} (e : s.heap.get? b = some o) (n1 : ∀ us k, o.data ≠ .seq us k) (n2 : o.data ≠ .fields #[]) : seen K a tb vs ns b = none := by
  rcases seen_cases (K := K) (a := a) (tb := tb) (vs := vs) (ns := ns) b with h | ⟨_, rfl, _⟩ | ⟨_, h⟩
  · rw [d.emp b h] at e; cases e; exact absurd rfl n2
  · rw [d.scr] at e; cases e; exact absurd rfl (n1 _ _)
  · exact h
theorem Door.below (d : Door K mg mb s a tb cs vs ns) {b : Addr} {o : Obj} (e : s.heap.get? b = some o) (n1 : ∀ us k, o.data ≠ .seq us k) (n2 : o.data ≠ .fields #[]) : (hidT s.heap (seen K a tb vs ns)).get? b = some o := hidT_get e (d.clear e n1 n2)
theorem Door.names (d : Door K mg mb s a tb cs vs ns) {b : Addr} {m : Str → Option Value} (h : s.heap.Ns b m) : (hidT s.heap (seen K a tb vs ns)).Ns b m := by
  obtain ⟨o, es, ep, e, q, r⟩ := h
  refine ⟨o, es, ep, d.below e ?_ ?_, q, r⟩
  · intro us k z; rw [q] at z; cases z
  · intro z; rw [q] at z; cases z
theorem Door.kin' (d : Door K mg mb s a tb cs vs ns) : K.In (hidT s.heap (seen K a tb vs ns)) := fun b o e => by
  refine hidT_get (d.kin b o e) ?_
  rcases seen_cases (K := K) (a := a) (tb := tb) (vs := vs) (ns := ns) b with h | ⟨_, rfl, h⟩ | ⟨_, h⟩
  · rw [d.off b h] at e; cases e
  · rw [h] at e; cases e
  · exact h
theorem Door.hok {P : Program} {w : World} (d : Door K mg mb s a tb cs vs ns) : HOk P w (seen K a tb vs ns) s.heap := by
  intro b u z
  rcases seen_cases (K := K) (a := a) (tb := tb) (vs := vs) (ns := ns) b with h | ⟨h, rfl, n⟩ | ⟨_, h⟩
  · rw [seen_tb h] at z; cases z; exact d.emp b h
  · rw [seen_sc h n] at z; cases z
    exact ⟨d.scr, by rw [List.length_map]; exact d.short, vs, _, vals_ints d.nums, d.scr⟩
  · rw [h] at z; cases z
theorem Door.mod (d : Door K mg mb s a tb cs vs ns) : L2.Mod K mg (hidT s.heap (seen K a tb vs ns)) :=
  ⟨d.kin', d.names d.glo, ⟨mb, d.names d.blt, d.blb⟩, by obtain ⟨mc, h1, h2⟩ := d.lim; exact ⟨mc, d.names h1, h2⟩⟩
theorem Door.env {P : Program} {w : World} (d : Door K mg mb s a tb cs vs ns) : Env0 P w K mg (hidT s.heap (seen K a tb vs ns)) callerA [] s (seen K a tb vs ns) where
  frames := rfl
  mod := d.mod
  bs := fun b o e => of_hidT e
  bsz := Nat.le_of_eq (hidT_size _ _)
  funs := trivial
  frf := fun b h => by cases h
  hok := d.hok
  bare := .of_eq d.gen
theorem Door.scrip (d : Door K mg mb s a tb cs vs ns) : Scr K (seen K a tb vs ns) a ns := by
  cases q : K.lookup a with
  | none => exact .inl ⟨_, seen_sc d.apart q⟩
  | some o =>
    have e := d.kin a o q
    rw [d.scr] at e
    cases e
    refine .inr ⟨_, vs.toArray, _, q, rfl, rfl, rfl, ?_, ?_⟩
    · rw [List.size_toArray, d.nums.length]; exact d.short
    · have r := vals_ints d.nums
      simpa using r
theorem Door.tables (d : Door K mg mb s a tb cs vs ns) : ∀ p ∈ cs, GxR.TabB (hidT s.heap (seen K a tb vs ns)) mg p.1 p.2 := by
  intro p hp
  obtain ⟨pt, hc⟩ := d.cod p hp
  have pe := d.emp _ pt
  constructor
  · obtain ⟨o, us, x1, x2, x3, x4, x5, x6, x7, e, rest⟩ := hc
    refine ⟨o, us, x1, x2, x3, x4, x5, x6, x7, d.below e ?_ ?_, rest⟩
    · intro us' k z; rw [rest.2.1] at z; cases z
    · intro z
      have r3 := rest.2.2.1
      rw [rest.2.1] at z
      cases z
      simp at r3
  · obtain ⟨bm, ob, b1, b2, b3, b4, b5, b6⟩ := d.bmn
    refine ⟨bm, ob, b1, b2, ?_, ?_, d.below b3 ?_ ?_, b4, b5, b6⟩
    · intro q
      obtain ⟨o, es, ep, e, hd, _⟩ := d.glo
      rw [← q, b3] at e
      cases e
      rw [hd] at b6
      cases b6
    · intro q
      rw [q, pe] at b3
      cases b3
      cases b6
    · intro us k z; rw [b6] at z; cases z
    · intro z; rw [b6] at z; cases z
  · intro z
    obtain ⟨o, es, ep, e, hd, _⟩ := d.glo
    rw [z, pe] at e
    cases e
    cases hd
/-- what stands behind the call -/
theorem Door.leave {P : Program} {w : World} {s' : Shared} {H' : Hp} (d : Door K mg mb s a tb cs vs ns) (un : Un (frs []) [] (seen K a tb vs ns) H' s.heap s'.heap) (ok : HOk P w H' s'.heap) : OldK s.heap s'.heap := by
  have stay : ∀ b o, b ∉ tb → s.heap.get? b = some o → s'.heap.get? b = some o := by
    intro b o nb e
    rcases seen_cases (K := K) (a := a) (tb := tb) (vs := vs) (ns := ns) b with h | ⟨h, rfl, n⟩ | ⟨_, h⟩
    · exact absurd h nb
    · have z := ok _ _ (un.frzs _ _ _ (seen_sc h n))
      rw [d.scr] at e
      cases e
      exact z.1
    · exact un.keep b o e h (fun z => nomatch z) (fun z => nomatch z)
  have grew : ∀ b ∈ tb, ∃ more : Array Value, s'.heap.get? b = some { cls := .none, data := .fields more } := by
    intro b hb
    obtain ⟨more, z⟩ := un.tbls b #[] (seen_tb hb)
    exact ⟨_, ok _ _ z⟩
  refine ⟨fun b o e => ?_, fun b o e => ?_⟩
  · by_cases hb : b ∈ tb
    · obtain ⟨p, hp, rfl⟩ := d.cds b hb
      obtain ⟨more, hm⟩ := grew _ hb
      have e0 := d.emp _ hb
      rw [e0] at e
      cases e
      exact .inr (.inl ⟨((d.cod p hp).2.tab e0).isCodeTable, rfl, #[], more, rfl, by rw [Array.empty_append]; exact hm⟩)
    · exact .inl (stay b o hb e)
  · by_cases hb : b ∈ tb
    · obtain ⟨more, hm⟩ := grew _ hb
      exact ⟨_, hm⟩
    · exact ⟨o, stay b o hb e⟩
/-- the law's call by its promise -/
theorem Door.run {P : Program} {w : World} {k : Nat} {fa : Addr} {fd : FuncData} {x : Str} {sp : Sp} (d : Door K mg mb s a tb cs vs ns) (hr : Room k callerA)
    (F : FnG P w K mg (hidT s.heap (seen K a tb vs ns)) CX0 k fa fd [x] sp) (hb : ∀ (s : Shared) (u : Value), BindsTo s fd ⟨[u], []⟩ [(x, u)])
    (hs : sp [.ref a] (seen K a tb vs ns) (fun v _ => v = .bl true) fun _ _ _ => False) :
    codeAny (model P w) callerA (.call (.ref fa) ⟨[.ref a], []⟩) (fun r s' => r = .ok (.ret (.bool true)) ∧ OldK s.heap s'.heap ∧ s'.os = s.os ∧ AllBare s'.gens) s := by
  refine codeAny_mono (F.run callerA [] s _ ⟨[.ref a], []⟩ [.ref a] [.ref a] _ _ rfl hr d.env (hb s (.ref a)) (.cons rfl .nil) hs) fun r s' h => ?_
  match r, h with
  | .ok (.ret u), h =>
    obtain ⟨v, H', os, bare, un, ok, rv, rfl⟩ := h
    cases (show u = Value.bool true from rv)
    exact ⟨rfl, d.leave un ok, os, bare⟩
  | .ok .next, h => exact False.elim h
  | .ok .brk, h => exact False.elim h
  | .ok .cont, h => exact False.elim h
  | .error e, h => exact False.elim (show False from h)
end
end DL
namespace DL
open PySem PySem.Spec PyProof.Rows L2
/-- what the law's def promises at the head's heap -/
def LawHd (l : PySem.W.OpenLaw) (w : World) (K : Fg) (k n : Nat) (x : Str) (mg : Str → Option Value) (fa : Addr) (h : Heap) : Prop :=
  ∃ (fd : FuncData) (tb : List Addr) (cs : List (Addr × Addr)) (sp : Sp), (∀ b ∈ tb, h.get? b = some clean) ∧ (∀ b ∈ tb, K.lookup b = none) ∧ (∀ p ∈ cs, p.2 ∈ tb ∧ PySem.W.CodeHd h p.1 p.2) ∧ (∀ b ∈ tb, ∃ p ∈ cs, p.2 = b) ∧
    (∀ (s : Shared) (u : Value), BindsTo s fd ⟨[u], []⟩ [(x, u)]) ∧
    (∀ (H : Hp) (a : Addr) (ns : List Int), ns.length ≤ n → (∀ z ∈ ns, Builtin.Int.intBits z ≤ 1048576) → (∀ b ∈ tb, H b = some (.tbl #[])) → Scr K H a ns → sp [.ref a] H (fun v _ => v = .bl true) fun _ _ _ => False) ∧
    ∀ base : Heap, K.In base → base.Ns mainGlobals mg → (∃ o, base.get? sysModules = some o) → (∀ p ∈ cs, GxR.TabB base mg p.1 p.2) → FnG l.prog w K mg base CX0 k fa fd [x] sp
/-- the tables that the head names -/
def TabFacts (q : Program) (K : Fg) (h : Heap) : Prop := ∀ (x : Str) (d : DefRec) (c P : Addr), (recsOf q).find? (fun e => e.name == x) = some d → PySem.W.tabIn K x = some (c, P) → PySem.W.CodeHd h c P ∧ h.get? P = some clean
theorem law_walk {l : PySem.W.OpenLaw} {n k : Nat} {q : Program} {loose : List Str} {XP : (Str → Option Value) → Heap → Prop} {YP : World → Heap → Prop} {d : DefRec} {K : PySem.Params → Fg} {x : Str}
    (seer : importsNone q = true) (most : l.most = some n) (le : n ≤ sizeLine) (nodef : d.params.defaults = []) (room : Room k callerA) (inK : ∀ (w : World) (h : Heap), YP w h → (K w.params).In h)
    (F : ∀ (w : World) (mg : Str → Option Value) (fa : Addr) (h : Heap), (K w.params).In h → h.Ns mainGlobals mg → mg d.name = some (.ref fa) → TabFacts q (K w.params) h → LawHd l w (K w.params) k n x mg fa h) :
    PySem.W.WalkO q loose XP YP l.row.toRowW d [] (fun f vs => PySem.call f vs) := by
  refine Att.attach_callB most nodef ?_
  intro w s0 s1 mg mb fa o pm cd doc a vs ns G Y ho hd hcd hmg hobj hints hlen hbits hg
  have X := inK w _ Y
  have tf : TabFacts q (K w.params) s1.heap := fun y d' c P e1 e2 => PySem.W.tab_of G.T X e1 e2
  obtain ⟨fd, tb, cs, sp, t1, t2, t3, t4, b, prom, fn⟩ := F w mg fa _ X G.T.g hmg tf
  have D : Door (K w.params) mg mb s1 a tb cs vs ns := ⟨X, G.T.g, G.T.b, G.T.builtins, G.T.nolimit, hg, t1, t2, t3, t4, G.T.bmain, hobj, hints, Nat.le_trans hlen le⟩
  obtain ⟨mm, sy, _⟩ := (G.T.seer seer).mods
  obtain ⟨o9, _, _, e9, _⟩ := D.names sy
  exact D.run room (fn _ D.kin' (D.names G.T.g) ⟨o9, e9⟩ D.tables) b (prom _ a ns hlen hbits (fun b hb => seen_tb hb) D.scrip)
end DL
set_option Elab.async false
set_option linter.all false
set_option maxRecDepth 100000
set_option maxHeartbeats 4000000
namespace DL
open PySem PySem.Spec PyProof.Rows L2
section
variable {K : Fg} {T : List Addr} {ta tb : TE} {f g : Fe}
/-! ### one operator for every kind -/
def rAddU (K : Fg) : R2 := fun x y H Q => (rI0 fun i j => .int (i + j)) x y H Q ∨ (rCatA K x y H Q ∨ rCat x y H Q)
theorem op_addU {X : Cx} : OpR X (binaryOp .Add) (rAddU X.K) := op_add.or (op_catA.or op_cat)
def gAddU : Sl → Sl → Option Sl := fun a b => match gII c0 (fun i j => .int (i + j)) a b with
  | some s => some s
  | none => match gCatT a b with
    | some s => some s
    | none => gCatL a b
theorem de_addU (h1 : DE K T ta f) (h2 : DE K T tb g) : DE K T (tOp (rAddU K) ta tb) (f2 gAddU f g) := de_bin h1 h2 (by
  intro dm A0 H0 A σ H env k x y a b s Q S i1 i2 e hQ
  unfold gAddU at e
  split at e
  · rename_i s' e1
    cases e
    obtain ⟨i, j, rfl, rfl, hc, rfl⟩ := gII_some e1
    rw [is_int i1, is_int i2]
    exact .inl ⟨i, j, rfl, rfl, hQ _ H S (Lt.refl _ _) (.int _)⟩
  · split at e
    · rename_i s' e1
      cases e
      obtain ⟨xs, ys, u1, u2, e3, rfl⟩ := gCat_some (as := asT) (c := PyData.tuple) e1
      obtain ⟨p, vs, rfl, g1, g2, g3⟩ := is_tup i1 u1
      obtain ⟨q, ws, rfl, j1, j2, j3⟩ := is_tup i2 u2
      refine .inr (.inl ⟨p, q, vs, ws, rfl, rfl, g1, j1, line_le (by rw [g3.len, j3.len]; exact e3), fun e => hQ _ H S (Lt.refl _ _) ?_, fun _ e => hQ _ H S (Lt.refl _ _) ?_, fun _ _ o ho => hQ _ _ (S.new ho) (Lt.new ho) (mk_tup S.wd ho (g3.app j3))⟩)
      · subst e
        cases g3
        exact Is.tup j2 j3
      · subst e
        cases j3
        rw [List.append_nil]
        exact Is.tup g2 g3
    · obtain ⟨xs, ys, e1, e2, e3, rfl⟩ := gCat_some (as := asL) (c := PyData.list) e
      obtain ⟨p, vs, rfl, g1, g3⟩ := is_lst i1 e1
      obtain ⟨q, ws, rfl, j1, j3⟩ := is_lst i2 e2
      exact .inr (.inr ⟨p, q, vs, ws, rfl, rfl, g1, j1, line_le (by rw [g3.len, j3.len]; exact e3), fun o ho => hQ _ _ (S.new ho) (Lt.new ho) (mk_lst S.wd ho (g3.app j3))⟩))
def rMulU : R2 := fun x y H Q => (rI CMulW fun i j => .int (i * j)) x y H Q ∨ rRep x y H Q
theorem op_mulU {X : Cx} : OpR X (binaryOp .Mult) rMulU := op_mulW.or op_rep
def gMulU : Sl → Sl → Option Sl := fun a b => match gII cMul (fun i j => .int (i * j)) a b with
  | some s => some s
  | none => gRep a b
theorem de_mulU (h1 : DE K T ta f) (h2 : DE K T tb g) : DE K T (tOp rMulU ta tb) (f2 gMulU f g) := de_bin h1 h2 (by
  intro dm A0 H0 A σ H env k x y a b s Q S i1 i2 e hQ
  unfold gMulU at e
  split at e
  · rename_i s' e1
    cases e
    obtain ⟨i, j, rfl, rfl, hc, rfl⟩ := gII_some e1
    rw [is_int i1, is_int i2]
    exact .inl ⟨i, j, rfl, rfl, (show CMulW i j from (of_decide_eq_true (show decide (i.natAbs.log2 + j.natAbs.log2 < 1000000) = true from hc) : i.natAbs.log2 + j.natAbs.log2 < 1000000)), hQ _ H S (Lt.refl _ _) (.int _)⟩
  · unfold gRep at e
    cases e1 : asL a with
    | none => rw [e1] at e; cases e
    | some ds =>
      rw [e1] at e
      cases b with
      | dat d =>
        cases d with
        | int n =>
          simp only at e
          by_cases hc : -1000 ≤ n ∧ n ≤ 1000 ∧ ds.length ≤ 1000
          · rw [if_pos hc] at e
            cases e
            obtain ⟨p, vs, rfl, h3, h4⟩ := is_lst i1 e1
            rw [is_int i2]
            refine .inr ⟨p, n, vs, rfl, rfl, h3, by omega, by omega, ?_, fun q hq => hQ _ _ (S.new hq) (Lt.new hq) (mk_lst S.wd hq (isl_rep h4 _))⟩
            rw [h4.len]
            have h5 : ds.length * n.toNat ≤ 1000 * 1000 := Nat.mul_le_mul hc.2.2 (by omega)
            exact Nat.le_trans h5 (by decide)
          · rw [if_neg hc] at e; cases e
        | _ => cases e
      | _ => cases e)
/-! ### slices of every kind -/
def cutU (a : Sl) (lo hi : Option Int) : Option Sl := match a with
  | .scr ns => some (.dat (.list (cutD (ns.map PyData.int) lo hi)))
  | a => match asL a with
    | some ds => some (.dat (.list (cutD ds lo hi)))
    | none => (asT a).map fun ds => .dat (.tuple (cutD ds lo hi))
def fSlU (f : Fe) (l h : Fo) : Fe := fun env k => (f env k).bind fun x => (l env x.2).bind fun y => (h env y.2).bind fun z => (cutU x.1 y.1 z.1).map fun s => (s, z.2)
def rSlU (K : Fg) (x : V) (lo hi : Option Int) (H : Hp) (Q : VK) : Prop := rSlL K x lo hi H Q ∨ rSlA K x lo hi H Q
theorem sl_u {X : Cx} : SlR X (rSlU X.K) := sl_list.or sl_tupA
theorem de_slU {l h : TO} {fl fh : Fo} (h1 : DE K T ta f) (h2 : DO K T l fl) (h3 : DO K T h fh) : DE K T (tSl (rSlU K) ta l h) (fSlU f fl fh) := by
  intro dm A0 H0 A σ H env k Q S s k' hf hQ
  unfold fSlU at hf
  cases e1 : f env k with
  | none => rw [e1] at hf; cases hf
  | some x =>
    obtain ⟨x, k1⟩ := x
    rw [e1] at hf
    simp only [Option.bind_some] at hf
    cases e2 : fl env k1 with
    | none => rw [e2] at hf; cases hf
    | some y =>
      obtain ⟨lo, k2⟩ := y
      rw [e2] at hf
      simp only [Option.bind_some] at hf
      cases e3 : fh env k2 with
      | none => rw [e3] at hf; cases hf
      | some z =>
        obtain ⟨hi, k3⟩ := z
        rw [e3] at hf
        simp only [Option.bind_some] at hf
        cases e4 : cutU x lo hi with
        | none => rw [e4] at hf; cases hf
        | some d =>
          rw [e4] at hf
          cases hf
          refine h1 dm A0 H0 A σ H env k _ S _ _ e1 fun v H1 S1 l1 i1 => ?_
          refine h2 dm A0 H0 A σ H1 env k1 _ S1 _ _ e2 fun H2 S2 l2 => ?_
          refine h3 dm A0 H0 A σ H2 env k2 _ S2 _ _ e3 fun H3 S3 l3 => ?_
          have i3 := i1.lt S1.wd (l2.trans l3)
          unfold cutU at e4
          split at e4
          · rename_i ns
            cases e4
            obtain ⟨p, rfl, sc⟩ := i3
            exact .inl ⟨p, _, rfl, sc.sql, fun q hq => hQ _ _ (S3.new hq) (((l1.trans l2).trans l3).trans (Lt.new hq)) (mk_lst S3.wd hq (isl_cut (IsL.ints ns)))⟩
          · split at e4
            · rename_i ds e5
              cases e4
              obtain ⟨p, vs, rfl, g1, g3⟩ := is_lst i3 e5
              exact .inl ⟨p, vs, rfl, .inl (.inl g1), fun q hq => hQ _ _ (S3.new hq) (((l1.trans l2).trans l3).trans (Lt.new hq)) (mk_lst S3.wd hq (isl_cut g3))⟩
            · rename_i x' _ _
              cases e5 : asT x with
              | none => rw [e5] at e4; cases e4
              | some ds =>
                rw [e5] at e4
                cases e4
                obtain ⟨p, vs, rfl, g1, g2, g3⟩ := is_tup i3 e5
                refine .inr ⟨p, vs, rfl, g1, fun e => hQ _ H3 S3 ((l1.trans l2).trans l3) ?_, fun e q hq => hQ _ _ (S3.new hq) (((l1.trans l2).trans l3).trans (Lt.new hq)) (mk_tup S3.wd hq (isl_cut g3))⟩
                have e' : cutD ds lo hi = ds := by
                  rw [g3.len] at e
                  unfold cutD
                  rw [e.1, e.2]
                  simp
                show IsS K A0 dm A H3 (V.ref p) (.dat (.tuple (cutD ds lo hi)))
                rw [e']
                exact Is.tup g2 g3
/-! ### a walk over a list or a tuple, a reversed list or tuple -/
def iSeq (K : Fg) (t : TE) : TI := fun σ H R => iList K t σ H R ∨ iTup K t σ H R
theorem pi_seq {X : Cx} {tg l : Expr} {tl : TE} (h : PE X l tl) : PI X tg l (iSeq X.K tl) := ⟨fun pins s σ H R I h' => h'.elim ((pi_list h).run pins s σ H R I) ((pi_tup h).run pins s σ H R I)⟩
def wSeq (f : Fe) : Fw := fun env k => match wOf asLd f env k with
  | some r => some r
  | none => wOf asT f env k
theorem di_seq (h1 : DE K T ta f) : DI K T (iSeq K ta) (wSeq f) := by
  intro dm A0 H0 A σ H env k R S ds k' hf hR
  unfold wSeq at hf
  split at hf
  · rename_i r e
    cases hf
    exact .inl (di_lst h1 dm A0 H0 A σ H env k R S ds k' e hR)
  · exact .inr (di_tup h1 dm A0 H0 A σ H env k R S ds k' hf hR)
def tRevU (K : Fg) (t : TE) : TE := fun σ H Q => tRevL K t σ H Q ∨ tRevT K t σ H Q
theorem pe_revU {X : Cx} {e : Expr} {te : TE} {k : Nat} {p1 p2 p3 pos : Pos} (he : PE X e te) : PE X (.Subscript e (.Slice none none (some (.UnaryOp .USub (.Constant (.int 1) k p1) p2)) p3) pos) (tRevU X.K te) :=
  ⟨fun pins s σ H Q I h => h.elim ((pe_revL he).run pins s σ H Q I) ((pe_revT he).run pins s σ H Q I)⟩
def fRevU (f : Fe) : Fe := fun env k => match fRevL f env k with
  | some r => some r
  | none => fRevT f env k
theorem de_revU (h1 : DE K T ta f) : DE K T (tRevU K ta) (fRevU f) := by
  intro dm A0 H0 A σ H env k Q S s k' hf hQ
  unfold fRevU at hf
  split at hf
  · rename_i r e
    cases hf
    exact .inl (de_revL h1 dm A0 H0 A σ H env k Q S s k' e hQ)
  · exact .inr (de_revT h1 dm A0 H0 A σ H env k Q S s k' hf hQ)
end
/-! ### the defs of the program, by name -/
structure Cg (P : Program) (w : World) (K : Fg) (mg : Str → Option Value) (base : Heap) (k : Nat) (x : Str) (ps : List Str) (sp : Sp) : Prop where
  ex : ∃ (f : Addr) (fd : FuncData), FnG P w K mg base CX0 k f fd ps sp ∧ mg x = some (.ref f) ∧ PySem.W.keepIn K (.ref f) = true ∧ Binds K fd ps []
section
variable {X : Cx} {k j : Nat} {x : Str} {ps : List Str} {sp : Sp} {p pos : Pos} {e : Expr} {es : List Expr} {t : TA}
def noX : XK := fun _ _ _ => False
theorem pe_callC (C : Cg X.prog X.w X.K X.mg X.base k x ps sp) (hgd : X.A.guards = some []) (hr : Room j X.A) (hk : k ≤ j) (ha : PA X (e :: es) t) (hg : Gl X x := by rfl)
    (hdb : (x == ("__debug__" : Str)) = false := by decide) (he : starEach (e :: es) X.env = (false, eval e X.env) :: starEach es X.env := by rfl) (hpl : (backTo pos (starEach es X.env)).any (·.1) = false := by rfl) :
    PE X (.Call (.Name x p) (e :: es) [] pos) (tCall sp [] noX t) := by
  obtain ⟨f, fd, F, hm, hkp, hb⟩ := C.ex
  exact pe_callG F hgd (hr.mono hk) hg hm hkp hb pass0 ha hdb he hpl
end
end DL
set_option Elab.async false
set_option linter.all false
set_option maxRecDepth 100000
set_option maxHeartbeats 4000000
namespace DL
open PySem PySem.Spec PyProof.Rows L2
def recMost : Nat := 5
def fuelV (i : Nat) : List Sl → Dk → Nat := fun env _ => match env[i]? with
  | some (.dat (.int z)) => z.toNat + 1
  | _ => 1
section
variable {P : Program} {w : World} {K : Fg} {mg : Str → Option Value} {base : Heap} {CX : CXT} {T : List Addr}
theorem spF_none {n : Nat} {vs : List V} {H : Hp} {Q : VK} {E : XK} (sp : spF K T n (fun _ _ => none) vs H Q E) : False := by
  obtain ⟨dm, A, ss, k, d, k', hd, w, il, hl, ok, hf, hQ⟩ := sp
  cases hf
/-- a def with its code object's place -/
structure FunC (K : Fg) (x qual : Str) (st : Stmt) (f : Addr) (fd : FuncData) (c : Addr) : Prop where
  ex : ∃ (oc : Value) (od : Option Addr) (kV doc pm : Value) (an : Option Addr) (ct : Value) (osl : Array (Option Value)),
    fd = PySem.W.fnOf x qual (defArgs st) (defBody st) (defScope st) .none kV doc pm an (.ref c) ct ∧ K.lookup f = some ⟨oc, od, .func fd, osl⟩ ∧ PySem.W.codeIn K (.ref c) qual = true
  kp : PySem.W.keepIn K (.ref f) = true
theorem FunC.fun {x qual : Str} {st : Stmt} {f c : Addr} {fd : FuncData} (F : FunC K x qual st f fd c) : Fun K x qual st f fd := by
  obtain ⟨oc, od, kV, doc, pm, an, ct, osl, e1, e2, e3⟩ := F.ex
  exact ⟨⟨oc, od, kV, doc, pm, an, .ref c, ct, osl, e1, e2, e3⟩, F.kp⟩
theorem fnG_ofC {x qual : Str} {st : Stmt} {N ps : List Str} {k : Nat} {f c : Addr} {fd : FuncData} {sp : Sp} (F : FunC K x qual st f fd c) (S : FnScope N ps (defScope st)) (len : ∀ vs H Q E, sp vs H Q E → vs.length = ps.length)
    (body : ∀ (A : Around) (outer : List Env) (s : Shared) (H : Hp) (vs : List V) (Q : VK) (E : XK), A.guards = some [] → Room k (A.deeper (envOfC qual (defScope st) s.heap.objs.size f (.ref c))) → sp vs H Q E →
      ∃ t, PSs (cxOf CX P w K mg base N qual (defScope st) f (.ref c) A outer s H E) (defBody st) t ∧ t { nx := fun _ H' => Q .non H', rt := Q } (L2.start N vs) H) : FnG P w K mg base CX (k + 1) f fd ps sp := by
  obtain ⟨oc, od, kV, doc, pm, an, ct, osl, rfl, look, codeOk⟩ := F.ex
  constructor
  · exact len
  intro A outer s H args us vs Q E hg room env0 bnd vals want
  have size := len vs H Q E want
  have inK : K.In s.heap := env0.mod.kin.keeps (fun b o e => (env0.bs b o e).1)
  have noLim : s.heap.NoLimit := env0.mod.nolimit.keeps (fun b o e => (env0.bs b o e).1)
  refine codeAny_call_function room.depth (inK f _ look) rfl S.co S.gen rfl (PySem.W.codeRec_of inK codeOk) (bnd _ _ _ _ ?_)
  refine wpAny_newFunctionEnv_cells S.kind ?kinds ?rest
  case kinds =>
    rintro ⟨name, val⟩ hmem
    cases S.par name (List.of_mem_zip hmem).1 with
    | inl isLocal => exact Or.inl isLocal
    | inr isCell => exact Or.inr ⟨isCell, PySem.W.cellsFrom_some _ _ _ (Or.inl isCell)⟩
  case rest =>
    intro env henv s1 called
    cases henv
    refine ⟨noLim.keeps called.toInCall.keep, codeAny_func ?_⟩
    obtain ⟨t, derivation, reading⟩ := body A outer s H vs Q E hg (room.deeper _) want
    have begun := inv_start (CX := CX) (P := P) (w := w) (K := K) (mg := mg) (base := base) (E := E) S room.hd env0 size vals called
    refine wpAny_mono (derivation.run [] s1 _ H _ begun reading) ?_ (fun _ _ left => left)
    intro flow s' ended
    match flow, ended with
    | .ret u, ⟨v, _, H', J, rel, q⟩ => exact ⟨v, H', J.os, J.bare, J.base, J.hok, rel, q⟩
    | .next, ⟨_, H', J, q⟩ => exact ⟨V.non, H', J.os, J.bare, J.base, J.hok, rfl, q⟩
    | .brk, ⟨_, _, _, q⟩ => exact q.elim
    | .cont, ⟨_, _, _, q⟩ => exact q.elim
end
section
variable {X : Cx} {K : Fg}
theorem oprK {op : Value → Value → Sem Value} {r : Fg → R2} (h : OpR X op (r X.K)) (e : X.K = K) : OpR X op (r K) := e ▸ h
theorem calK {u : Value} {r : Fg → List V → Hp → VK → Prop} (h : CallR X u (r X.K)) (e : X.K = K) : CallR X u (r K) := e ▸ h
theorem ixrK {r : Fg → R2} (h : IxR X (r X.K)) (e : X.K = K) : IxR X (r K) := e ▸ h
theorem slrK {r : Fg → V → Option Int → Option Int → Hp → VK → Prop} (h : SlR X (r X.K)) (e : X.K = K) : SlR X (r K) := e ▸ h
def rLenU (K : Fg) : List V → Hp → VK → Prop := fun xs H Q => ∃ p ys, xs = [.ref p] ∧ (SqL K H p ys ∨ SqT K H p ys) ∧ Q (.int ys.length) H
def rListU (K : Fg) : List V → Hp → VK → Prop := fun xs H Q => ∃ p ys, xs = [.ref p] ∧ (SqL K H p ys ∨ SqT K H p ys) ∧ ∀ l, H l = none → Q (.ref l) (upd H l (.lst ys))
def rTupU (K : Fg) : List V → Hp → VK → Prop := fun xs H Q => ∃ p ys, xs = [.ref p] ∧ ((SqL K H p ys ∧ ∀ l, H l = none → Q (.ref l) (upd H l (.tup ys))) ∨ (SqT K H p ys ∧ Q (.ref p) H))
end
section
variable {P : Program} {w : World} {K : Fg} {mg : Str → Option Value} {base : Heap} {CX : CXT} {T : List Addr}
/-- a def called by keywords alone, in the order of its parameters -/
structure Ck (P : Program) (w : World) (K : Fg) (mg : Str → Option Value) (base : Heap) (k : Nat) (x : Str) (ps : List Str) (sp : Sp) : Prop where
  ex : ∃ (f : Addr) (fd : FuncData), FnG P w K mg base CX0 k f fd ps sp ∧ mg x = some (.ref f) ∧ PySem.W.keepIn K (.ref f) = true ∧ KB K fd ps ps id id
end
theorem pe_callKC {X : Cx} {k j : Nat} {x : Str} {ps : List Str} {sp : Sp} {p pos : Pos} {kws : List Keyword} {tk : TA} (C : Ck X.prog X.w X.K X.mg X.base k x ps sp) (hgd : X.A.guards = some []) (hr : Room j X.A) (hk : k ≤ j) (hkw : PK X kws tk) (hg : Gl X x := by rfl)
    (hall : (backToKw pos (keywordEach kws X.env)).all (·.1.isSome) = true := by rfl) (hks : (backToKw pos (keywordEach kws X.env)).filterMap (·.1) = ps := by rfl)
    (hdb : (x == ("__debug__" : Str)) = false := by decide) (hpl : ((backTo pos (starEach [] X.env)).any (·.1) || (backToKw pos (keywordEach kws X.env)).any (·.1.isNone)) = false := by rfl) :
    PE X (.Call (.Name x p) [] kws pos) (tCallKw sp id noX tk) := by
  obtain ⟨f, fd, F, hm, hkp, hb⟩ := C.ex
  exact pe_callGK F hgd (hr.mono hk) hg hm hkp hb pass0 hkw hall hks hdb hpl
section
variable {K : Fg} {T : List Addr} {ta : TE} {f : Fe}
theorem ds_augAdd {i : Nat} (h1 : DE K T ta f) : DS K T (tAug i ta (rI0 fun i j => .int (i + j))) (sAug c0 (fun a b => a + b) i f) := ds_aug h1 fun a b H Q _ q => ⟨a, b, rfl, rfl, q⟩
/-! ### == of texts -/
section
variable {K : Fg} {T : List Addr} {ta tb : TE} {f g : Fe}
def gEqS (neg : Bool) : Sl → Sl → Option Sl := fun a b => match a, b with
  | .dat (.str x), .dat (.str y) => some (.dat (.bool (if neg then !decide (x = y) else decide (x = y))))
  | _, _ => none
theorem gEqS_some {neg : Bool} {a b s : Sl} (h : gEqS neg a b = some s) : ∃ x y, a = .dat (.str x) ∧ b = .dat (.str y) ∧ s = .dat (.bool (if neg then !decide (x = y) else decide (x = y))) := by
  unfold gEqS at h
  split at h
  · cases h; exact ⟨_, _, rfl, rfl, rfl⟩
  · cases h
theorem is_strv {A0 : List Addr} {dm : Dm} {A : List Addr} {H : Hp} {x : V} {a : Str} (h : IsS K A0 dm A H x (.dat (.str a))) : x = .str a := by
  cases (show Is K (hide A H) x (.str a) from h) with
  | str => rfl
theorem str_dec (x y : Str) : decide (V.str x = V.str y) = decide (x = y) := decide_eq_decide.mpr ⟨fun h => V.str.inj h, fun h => by rw [h]⟩
theorem de_eqS (h1 : DE K T ta f) (h2 : DE K T tb g) : DE K T (tOp rEq ta tb) (f2 (gEqS false) f g) := de_bin h1 h2 (by
  intro dm A0 H0 A σ H env k x y a b s Q S i1 i2 e hQ
  obtain ⟨u, v, rfl, rfl, rfl⟩ := gEqS_some e
  rw [is_strv i1, is_strv i2]
  refine ⟨rfl, ?_⟩
  rw [str_dec]
  exact hQ _ H S (Lt.refl _ _) (Is.bl _))
theorem de_neS (h1 : DE K T ta f) (h2 : DE K T tb g) : DE K T (tOp rNe ta tb) (f2 (gEqS true) f g) := de_bin h1 h2 (by
  intro dm A0 H0 A σ H env k x y a b s Q S i1 i2 e hQ
  obtain ⟨u, v, rfl, rfl, rfl⟩ := gEqS_some e
  rw [is_strv i1, is_strv i2]
  refine ⟨rfl, ?_⟩
  rw [str_dec]
  exact hQ _ H S (Lt.refl _ _) (Is.bl _))
end
/-! ### small things of the head -/
theorem tab_by {K : Fg} {x : Str} {f c P : Addr} {oc oe : Value} {od oo : Option Addr} {fd : FuncData} {sl os : Array (Option Value)} {vs : Array Value} (a : PySem.W.nsIn K mainGlobals x = some (some (.ref f))) (l : K.lookup f = some ⟨oc, od, .func fd, sl⟩) (e : fd.code = .ref c) (t : K.lookup c = some ⟨oe, oo, .fields vs, os⟩) (v : (vs[11]? : Option Value) = some (.ref P)) : PySem.W.tabIn K x = some (c, P) := by
  unfold PySem.W.tabIn
  rw [a]
  simp only [l, e, t, v]
theorem tri_nil : TriplesOk (#[] : Array Value).toList := trivial
def posOf : List Stmt → List Pos
  | [.Return (some (.BoolOp .And [.Call (.Name _ a0) [.Name _ a1, .Name _ a2] [] a3, .UnaryOp .Not (.Call (.Name _ a4) [.Name _ a5, .Name _ a6] [] a7) a8] a9)) a10] => [a0, a1, a2, a3, a4, a5, a6, a7, a8, a9, a10]
  | _ => []
/-! ### the law -/
def deckD (k : Dk) : D := .dict [(.str "cells", .list (k.cells.map PyData.int)), (.str "mixed", .int k.mixed), (.str "turn", .int k.turn)]
/-- the law's function gives True for the script -/
def GoodLaw (deck : Fd) (g : Fs) (m : Nat) (ns : List Int) : Prop := ∃ (k0 k1 k2 : Dk) (k : Dk), deck [.scr ns] k0 = some (deckD k, k1) ∧ g (.scr ns :: .deck :: List.replicate (m - 2) .un) k = .rt (.bool true) k2
def spLaw (K : Fg) (T : List Addr) (n : Nat) : Sp := fun vs H Q _ => ∃ (a : Addr) (ns : List Int), vs = [.ref a] ∧ Scr K H a ns ∧ ns.length ≤ n ∧ (∀ b ∈ T, GxR.TabG H b) ∧ ∀ H', Q (.bl true) H'
theorem spLaw_len {n : Nat} {vs : List V} {H : Hp} {Q : VK} {E : XK} (h : spLaw K T n vs H Q E) : vs.length = 1 := by
  obtain ⟨a, ns, rfl, _⟩ := h; rfl
theorem hide_nil (H : Hp) : hide [] H = H := by
  funext b
  exact hide_out (by simp)
theorem isl_toInts {H : Hp} : ∀ {vs : List V} {ns : List Int}, IsL K H vs (ns.map PyData.int) → vs = ns.map V.int
  | vs, [], h => by cases h; rfl
  | vs, n :: r, h => by
    cases h with
    | cons h1 h2 =>
      cases h1
      rw [isl_toInts h2]
      rfl
theorem deck_of {H : Hp} {v : V} {k : Dk} (h : Is K H v (deckD k)) : ∃ a c, v = .ref a ∧ a ≠ c ∧ DkAt H a c k := by
  unfold deckD at h
  cases h with
  | dct h e l =>
    rename_i a kvs
    match kvs, h, e, l with
    | [(k1, v1), (k2, v2), (k3, v3)], h, e, l =>
      simp only [List.map_cons, List.map_nil, List.cons.injEq, and_true] at e l
      obtain ⟨e1, e2, e3⟩ := e
      cases l with
      | cons l1 l =>
        cases l with
        | cons l2 l =>
          cases l with
          | cons l3 l =>
            cases l2
            cases l3
            cases l1 with
            | lst hc il =>
              rename_i c xs
              cases k1 with
              | inl _ => cases e1
              | inr x1 =>
                cases k2 with
                | inl _ => cases e2
                | inr x2 =>
                  cases k3 with
                  | inl _ => cases e3
                  | inr x3 =>
                    cases e1
                    cases e2
                    cases e3
                    refine ⟨a, c, rfl, ?_, h, ?_⟩
                    · intro z
                      rw [z, hc] at h
                      cases h
                    · rw [hc, isl_toInts il]
    | [], h, e, l => cases e
    | [_], h, e, l => simp at e
    | [_, _], h, e, l => simp at e
    | _ :: _ :: _ :: _ :: _, h, e, l => simp at e
theorem law_body {deck : Fd} {u : TS} {g : Fs} {N : List Str} {n m : Nat} {vs : List V} {H : Hp} {Q : VK} {E : XK} (hm : N.length = m) (h2 : 2 ≤ N.length) (hu : DS K T u g) (h : spLaw K T n vs H Q E) (good : ∀ ns : List Int, ns.length ≤ n → GoodLaw deck g m ns) :
    tSeq (tAsg (tCall (spF K T 1 deck) [] noX (tCons (tVar 0) tNil)) (gName 1)) u { nx := fun _ H' => Q .non H', rt := Q } (L2.start N vs) H := by
  obtain ⟨a, ns, rfl, sc, hl, tb, q⟩ := h
  obtain ⟨k0, k1, k2, k, e1, e2⟩ := good ns hl
  have w : Wd T none [] H k0 := ⟨fun b h => (nomatch h), tb, fun _ _ e => nomatch e⟩
  have S := sta_start (K := K) (N := N) (vs := [.ref a]) (ss := [.scr ns]) w (fun _ _ e => nomatch e) (.cons ⟨a, rfl, sc⟩ .nil) rfl (show 1 ≤ N.length by omega)
  show tCall (spF K T 1 deck) [] noX (tCons (tVar 0) tNil) (L2.start N [.ref a]) H fun x H1 => u { nx := fun _ H' => Q .non H', rt := Q } ((L2.start N [.ref a]).set 1 (some x)) H1
  refine de_call (n := 1) (da_cons (de_var 0) da_nil) none [] H [] _ H _ k0 _ S (.dat (deckD k)) k1 ?_ fun v H1 S1 l1 i1 => ?_
  · show ((fCons (fVar 0) fNil) ([.scr ns] ++ List.replicate (N.length - 1) Sl.un) k0).bind _ = _
    have e0 : (fCons (fVar 0) fNil) ([.scr ns] ++ List.replicate (N.length - 1) Sl.un) k0 = some ([.scr ns], k0) := rfl
    rw [e0]
    simp only [Option.bind_some]
    rw [if_pos ⟨rfl, rfl⟩, e1]
    rfl
  · have i2 : Is K H1 v (deckD k) := by
      have z : Is K (hide [] H1) v (deckD k) := i1
      rwa [hide_nil] at z
    obtain ⟨a', c, rfl, ne, dk⟩ := deck_of i2
    have sc1 : Scr K H1 a ns := sc.lt w l1
    have ln : (L2.start N [V.ref a]).length = N.length := by
      unfold L2.start
      rw [List.length_append, List.length_map, List.length_replicate]
      simp
      omega
    have S2 : Sta K T (some (a', c)) [a', c] H1 [a', c] ((L2.start N [V.ref a]).set 1 (some (.ref a'))) H1 (.scr ns :: .deck :: List.replicate (m - 2) .un) k := by
      refine ⟨⟨fun b hb => ?_, S1.wd.tab, fun x y e => ?_⟩, Lt.refl _ _, fun _ h => h, fun b hb => ?_, fun x y e => ?_, ?_, fun i => ?_, fun i j p ds es h1 _ _ _ => ?_⟩
      · simp only [List.mem_cons, List.not_mem_nil, or_false] at hb
        rcases hb with rfl | rfl
        · rw [dk.1]; simp
        · rw [dk.2]; simp
      · cases e
        exact ⟨by simp, by simp, ne, dk⟩
      · simp only [List.mem_cons, List.not_mem_nil, or_false] at hb
        rcases hb with rfl | rfl
        · rw [dk.1]; simp
        · rw [dk.2]; simp
      · cases e
        exact ⟨by simp, by simp⟩
      · rw [List.length_set, ln, List.length_cons, List.length_cons, List.length_replicate]
        omega
      · match i with
        | 0 => 
          refine ⟨a, ?_, sc1⟩
          rw [List.getElem?_set_ne (by omega)]
          rfl
        | 1 =>
          refine ⟨a', c, rfl, ?_⟩
          rw [List.getElem?_set_self (by rw [ln]; omega)]
        | i + 2 =>
          rw [List.getElem?_cons_succ, List.getElem?_cons_succ, List.getElem?_replicate]
          split <;> exact trivial
      · match i, h1 with
        | 0, h1 => cases h1
        | 1, h1 => cases h1
        | i + 2, h1 =>
          rw [List.getElem?_cons_succ, List.getElem?_cons_succ, List.getElem?_replicate] at h1
          split at h1 <;> cases h1
    refine hu (some (a', c)) [a', c] H1 [a', c] _ H1 _ k _ S2 ?_
    rw [e2]
    intro v H' _ _ iv
    cases iv
    exact q H'
end
end DL
set_option Elab.async false
set_option linter.all false
set_option maxRecDepth 100000
set_option maxHeartbeats 8000000
namespace G
open PySem PySem.Spec PyProof.Rows L2 DL
def topS (i : Nat) : Stmt := PySem.Challenge.pw_rulertrees_k16_forms_and_changes_of_any.main.body.getD i (.Pass ⟨0, 0, 0, 0⟩)
structure Tx (base : Heap) (mg : Str → Option Value) : Prop where
  z_gcd : mg "gcd" = some (.builtin "math.gcd")
  z_isinstance : mg "isinstance" = none
  z_int : mg "int" = none
  z_bool : mg "bool" = none
  z_tuple : mg "tuple" = none
  z_len : mg "len" = none
  z_all : mg "all" = none
  z_max : mg "max" = none
  z_abs : mg "abs" = none
  z_range : mg "range" = none
  z_list : mg "list" = none
  z_str : mg "str" = none
  z_repr : mg "repr" = none
  sys : ∃ o, base.get? sysModules = some o
/-! ### common_divisor -/
abbrev s_common_divisor : Stmt := topS 2
abbrev N_common_divisor : List Str := ["numbers", "common", "number"]
theorem sc_common_divisor : FnScope N_common_divisor ["numbers"] (defScope s_common_divisor) := ⟨rfl, rfl, rfl, by decide +kernel, rfl, by decide +kernel, by decide +kernel⟩
def g_common_divisor : Fs := (sSeq (sAsg (fC (.int 0)) (qName 1))
    (sSeq (sFor (wSeq (fVar 0)) (qName 2) (sAsg (fGcd (fVar 1) (fVar 2)) (qName 1)))
    (sRet (fVar 1))))
def f_common_divisor : Fd := fnOf 3 g_common_divisor
theorem ok_common_divisor {P : Program} {w : World} {K : Fg} {mg : Str → Option Value} {base : Heap} {T : List Addr} (tx : Tx base mg) {f : Addr} {fd : FuncData} (F : Fun K "common_divisor" "common_divisor" s_common_divisor f fd) :
    FnG P w K mg base CX0 1 f fd ["numbers"] (spF K T 1 f_common_divisor) := by
  refine fnG_of F sc_common_divisor (fun vs H Q E h => spF_len h) (fun cdv A outer s H vs Q E hg0 hr h => ?_)
  have hu := hu_of hr
  refine ⟨_, PSs.nox (pss_cons (ps_set (i := 1) sc_common_divisor.nd rfl (Or.inl rfl) pe_int)
      (pss_cons (ps_for PassesOwn.never rfl (pi_seq (pv 0)) (pg_name (i := 2) sc_common_divisor.nd rfl (Or.inl rfl)) (pss_one (ps_set (i := 1) sc_common_divisor.nd rfl (Or.inl rfl) (pe_callMB (id := "math.gcd") cr_gcd (by rfl) tx.z_gcd (pa_cons (pv 1) (pa_cons (pv 2) pa_nil))))))
      (pss_one (ps_ret (pv 1))))), spF_body (N := N_common_divisor) (g := g_common_divisor) (by decide) ?_ h⟩
  unfold g_common_divisor
  exact (ds_seq (ds_asg (de_c fun _ => .int _) (dg_name 1))
      (ds_seq (ds_for (di_seq (de_var 0)) (dg_name 2) (ds_asg (de_gcd (de_var 1) (de_var 2)) (dg_name 1)))
      (ds_ret (de_var 1))))
/-! ### is_integer -/
abbrev s_is_integer : Stmt := topS 4
abbrev N_is_integer : List Str := ["thing"]
theorem sc_is_integer : FnScope N_is_integer ["thing"] (defScope s_is_integer) := ⟨rfl, rfl, rfl, by decide +kernel, rfl, by decide +kernel, by decide +kernel⟩
def g_is_integer : Fs := (sRet (fAnd (f1 (gIsi "int") (fVar 0)) (fNot (f1 (gIsi "bool") (fVar 0)))))
def f_is_integer : Fd := fnOf 1 g_is_integer
theorem ok_is_integer {P : Program} {w : World} {K : Fg} {mg : Str → Option Value} {base : Heap} {T : List Addr} (tx : Tx base mg) {f : Addr} {fd : FuncData} (F : Fun K "is_integer" "is_integer" s_is_integer f fd) :
    FnG P w K mg base CX0 1 f fd ["thing"] (spF K T 1 f_is_integer) := by
  refine fnG_of F sc_is_integer (fun vs H Q E h => spF_len h) (fun cdv A outer s H vs Q E hg0 hr h => ?_)
  have hu := hu_of hr
  refine ⟨_, PSs.nox (pss_one (ps_ret (pe_and (pe_callB (id := "isinstance") call_isi (by rfl) tx.z_isinstance (by decide +kernel) (pa_cons (pv 0) (pa_cons (pe_bltn (v := .ty "int") (by rfl) tx.z_int (u := .type "int") (by decide +kernel) rfl) pa_nil))) (pe_one (pe_not (pe_callB (id := "isinstance") call_isi (by rfl) tx.z_isinstance (by decide +kernel) (pa_cons (pv 0) (pa_cons (pe_bltn (v := .ty "bool") (by rfl) tx.z_bool (u := .type "bool") (by decide +kernel) rfl) pa_nil)))))))), spF_body (N := N_is_integer) (g := g_is_integer) (by decide) ?_ h⟩
  unfold g_is_integer
  exact (ds_ret (de_and (de_isi "int" (by decide) (de_var 0)) (de_not (de_isi "bool" (by decide) (de_var 0)))))
/-! ### is_tuple_of -/
abbrev s_is_tuple_of : Stmt := topS 5
abbrev N_is_tuple_of : List Str := ["thing", "many"]
theorem sc_is_tuple_of : FnScope N_is_tuple_of ["thing", "many"] (defScope s_is_tuple_of) := ⟨rfl, rfl, rfl, by decide +kernel, rfl, by decide +kernel, by decide +kernel⟩
def g_is_tuple_of : Fs := (sRet (fAnd (f1 (gIsi "tuple") (fVar 0)) (fEq (f1 gLen (fVar 0)) (fVar 1))))
def f_is_tuple_of : Fd := fnOf 2 g_is_tuple_of
theorem ok_is_tuple_of {P : Program} {w : World} {K : Fg} {mg : Str → Option Value} {base : Heap} {T : List Addr} (tx : Tx base mg) {f : Addr} {fd : FuncData} (F : Fun K "is_tuple_of" "is_tuple_of" s_is_tuple_of f fd) :
    FnG P w K mg base CX0 1 f fd ["thing", "many"] (spF K T 2 f_is_tuple_of) := by
  refine fnG_of F sc_is_tuple_of (fun vs H Q E h => spF_len h) (fun cdv A outer s H vs Q E hg0 hr h => ?_)
  have hu := hu_of hr
  refine ⟨_, PSs.nox (pss_one (ps_ret (pe_and (pe_callB (id := "isinstance") call_isi (by rfl) tx.z_isinstance (by decide +kernel) (pa_cons (pv 0) (pa_cons (pe_bltn (v := .ty "tuple") (by rfl) tx.z_tuple (u := .type "tuple") (by decide +kernel) rfl) pa_nil))) (pe_one (pe_cmpR (op_eqD hr.units) (pe_callB (id := "len") call_len_seq (by rfl) tx.z_len (by decide +kernel) (pa_cons (pv 0) pa_nil)) (pv 1) (nomark _)))))), spF_body (N := N_is_tuple_of) (g := g_is_tuple_of) (by decide) ?_ h⟩
  unfold g_is_tuple_of
  exact (ds_ret (de_and (de_isi "tuple" (by decide) (de_var 0)) (de_eq (de_len (de_var 0)) (de_var 1))))
/-! ### is_integers -/
abbrev s_is_integers : Stmt := topS 6
abbrev N_is_integers : List Str := ["thing", "many"]
theorem sc_is_integers : FnScope N_is_integers ["thing", "many"] (defScope s_is_integers) := ⟨rfl, rfl, rfl, by decide +kernel, rfl, by decide +kernel, by decide +kernel⟩
def g_is_integers : Fs := (sRet (fAnd (fCall 2 f_is_tuple_of (fCons (fVar 0) (fCons (fVar 1) fNil))) (f1 gAllI (fVar 0))))
def f_is_integers : Fd := fnOf 2 g_is_integers
theorem ok_is_integers {P : Program} {w : World} {K : Fg} {mg : Str → Option Value} {base : Heap} {T : List Addr} (tx : Tx base mg) (C_is_tuple_of : Cg P w K mg base 1 "is_tuple_of" ["thing", "many"] (spF K T 2 f_is_tuple_of)) {f fi c Pt : Addr} {fd fdi : FuncData} (F : FunC K "is_integers" "is_integers" s_is_integers f fd c) (Fi : Fun K "is_integer" "is_integer" s_is_integer fi fdi) (Di : IntDef s_is_integer) (Bi : Binds K fdi ["thing"] []) (gi : mg "is_integer" = some (.ref fi)) (TB : GxR.TabB base mg c Pt) (hP : Pt ∈ T) :
    FnG P w K mg base CX0 3 f fd ["thing", "many"] (spF K T 2 f_is_integers) := by
  refine fnG_ofC F sc_is_integers (fun vs H Q E h => spF_len h) (fun A outer s H vs Q E hg0 hr h => ?_)
  have hu := hu_of hr
  refine ⟨_, PSs.nox (pss_one (ps_ret (pe_and (pe_callC C_is_tuple_of hg0 hr (by decide) (pa_cons (pv 0) (pa_cons (pv 1) pa_nil))) (pe_one (pe_allInt hr (by rfl) tx.z_all TB rfl ⟨rfl, rfl, by decide +kernel, rfl, rfl, fun y hy e => absurd e ((by decide +kernel : ∀ y ∈ _, (Prod.snd y : NameKind) ≠ .free) y hy)⟩ (pv 0) (fun _ => rfl) Fi Di Bi gi tx.z_isinstance tx.z_int tx.z_bool rfl))))), spF_body (N := N_is_integers) (g := g_is_integers) (by decide) ?_ h⟩
  unfold g_is_integers
  exact (ds_ret (de_and (de_call (n := 2) (da_cons (de_var 0) (da_cons (de_var 1) da_nil))) (de_allI hP (de_var 0))))
/-! ### two_determinant -/
abbrev s_two_determinant : Stmt := topS 8
abbrev N_two_determinant : List Str := ["matrix", "p", "q", "r", "s"]
theorem sc_two_determinant : FnScope N_two_determinant ["matrix"] (defScope s_two_determinant) := ⟨rfl, rfl, rfl, by decide +kernel, rfl, by decide +kernel, by decide +kernel⟩
def g_two_determinant : Fs := (sSeq (sAsg (fVar 0) (qTup 4 (qCons (qName 1) (qCons (qName 2) (qCons (qName 3) (qCons (qName 4) qNil))))))
    (sRet (fSub (f2 gMulU (fVar 1) (fVar 4)) (f2 gMulU (fVar 2) (fVar 3)))))
def f_two_determinant : Fd := fnOf 5 g_two_determinant
theorem ok_two_determinant {P : Program} {w : World} {K : Fg} {mg : Str → Option Value} {base : Heap} {T : List Addr} (tx : Tx base mg) {f : Addr} {fd : FuncData} (F : Fun K "two_determinant" "two_determinant" s_two_determinant f fd) :
    FnG P w K mg base CX0 1 f fd ["matrix"] (spF K T 1 f_two_determinant) := by
  refine fnG_of F sc_two_determinant (fun vs H Q E h => spF_len h) (fun cdv A outer s H vs Q E hg0 hr h => ?_)
  have hu := hu_of hr
  refine ⟨_, PSs.nox (pss_cons (ps_asg (pv 0) (pg_tup rfl (pgs_cons (pg_name (i := 1) sc_two_determinant.nd rfl (Or.inl rfl)) (pgs_cons (pg_name (i := 2) sc_two_determinant.nd rfl (Or.inl rfl)) (pgs_cons (pg_name (i := 3) sc_two_determinant.nd rfl (Or.inl rfl)) (pgs_cons (pg_name (i := 4) sc_two_determinant.nd rfl (Or.inl rfl)) pgs_nil))))))
      (pss_one (ps_ret (pe_op op_sub (pe_op op_mulU (pv 1) (pv 4)) (pe_op op_mulU (pv 2) (pv 3)))))), spF_body (N := N_two_determinant) (g := g_two_determinant) (by decide) ?_ h⟩
  unfold g_two_determinant
  exact (ds_seq (ds_asg (de_var 0) (dg_tup (dgs_cons (dg_name 1) (dgs_cons (dg_name 2) (dgs_cons (dg_name 3) (dgs_cons (dg_name 4) dgs_nil))))))
      (ds_ret (de_sub (de_mulU (de_var 1) (de_var 4)) (de_mulU (de_var 2) (de_var 3)))))
/-! ### discriminant_of -/
abbrev s_discriminant_of : Stmt := topS 10
abbrev N_discriminant_of : List Str := ["form", "a", "b", "c"]
theorem sc_discriminant_of : FnScope N_discriminant_of ["form"] (defScope s_discriminant_of) := ⟨rfl, rfl, rfl, by decide +kernel, rfl, by decide +kernel, by decide +kernel⟩
def g_discriminant_of : Fs := (sSeq (sAsg (fVar 0) (qTup 3 (qCons (qName 1) (qCons (qName 2) (qCons (qName 3) qNil)))))
    (sRet (fSub (f2 gMulU (fVar 2) (fVar 2)) (f2 gMulU (f2 gMulU (fC (.int 4)) (fVar 1)) (fVar 3)))))
def f_discriminant_of : Fd := fnOf 4 g_discriminant_of
theorem ok_discriminant_of {P : Program} {w : World} {K : Fg} {mg : Str → Option Value} {base : Heap} {T : List Addr} (tx : Tx base mg) {f : Addr} {fd : FuncData} (F : Fun K "discriminant_of" "discriminant_of" s_discriminant_of f fd) :
    FnG P w K mg base CX0 1 f fd ["form"] (spF K T 1 f_discriminant_of) := by
  refine fnG_of F sc_discriminant_of (fun vs H Q E h => spF_len h) (fun cdv A outer s H vs Q E hg0 hr h => ?_)
  have hu := hu_of hr
  refine ⟨_, PSs.nox (pss_cons (ps_asg (pv 0) (pg_tup rfl (pgs_cons (pg_name (i := 1) sc_discriminant_of.nd rfl (Or.inl rfl)) (pgs_cons (pg_name (i := 2) sc_discriminant_of.nd rfl (Or.inl rfl)) (pgs_cons (pg_name (i := 3) sc_discriminant_of.nd rfl (Or.inl rfl)) pgs_nil)))))
      (pss_one (ps_ret (pe_op op_sub (pe_op op_mulU (pv 2) (pv 2)) (pe_op op_mulU (pe_op op_mulU pe_int (pv 1)) (pv 3)))))), spF_body (N := N_discriminant_of) (g := g_discriminant_of) (by decide) ?_ h⟩
  unfold g_discriminant_of
  exact (ds_seq (ds_asg (de_var 0) (dg_tup (dgs_cons (dg_name 1) (dgs_cons (dg_name 2) (dgs_cons (dg_name 3) dgs_nil)))))
      (ds_ret (de_sub (de_mulU (de_var 2) (de_var 2)) (de_mulU (de_mulU (de_c fun _ => .int _) (de_var 1)) (de_var 3)))))
/-! ### is_positive -/
abbrev s_is_positive : Stmt := topS 11
abbrev N_is_positive : List Str := ["thing"]
theorem sc_is_positive : FnScope N_is_positive ["thing"] (defScope s_is_positive) := ⟨rfl, rfl, rfl, by decide +kernel, rfl, by decide +kernel, by decide +kernel⟩
def g_is_positive : Fs := (sRet (fAnd (fCall 2 f_is_integers (fCons (fVar 0) (fCons (fC (.int 3)) fNil))) (fAnd (fCmp (fun i j => decide (j < i)) (fIx (fVar 0) (fC (.int 0))) (fC (.int 0))) (fAnd (fCmp (fun i j => decide (i < j)) (fCall 1 f_discriminant_of (fCons (fVar 0) fNil)) (fC (.int 0))) (fEq (fCall 1 f_common_divisor (fCons (fVar 0) fNil)) (fC (.int 1)))))))
def f_is_positive : Fd := fnOf 1 g_is_positive
theorem ok_is_positive {P : Program} {w : World} {K : Fg} {mg : Str → Option Value} {base : Heap} {T : List Addr} (tx : Tx base mg) (C_is_integers : Cg P w K mg base 3 "is_integers" ["thing", "many"] (spF K T 2 f_is_integers)) (C_discriminant_of : Cg P w K mg base 1 "discriminant_of" ["form"] (spF K T 1 f_discriminant_of)) (C_common_divisor : Cg P w K mg base 1 "common_divisor" ["numbers"] (spF K T 1 f_common_divisor)) {f : Addr} {fd : FuncData} (F : Fun K "is_positive" "is_positive" s_is_positive f fd) :
    FnG P w K mg base CX0 4 f fd ["thing"] (spF K T 1 f_is_positive) := by
  refine fnG_of F sc_is_positive (fun vs H Q E h => spF_len h) (fun cdv A outer s H vs Q E hg0 hr h => ?_)
  have hu := hu_of hr
  refine ⟨_, PSs.nox (pss_one (ps_ret (pe_and (pe_callC C_is_integers hg0 hr (by decide) (pa_cons (pv 0) (pa_cons pe_int pa_nil))) (pe_and (pe_cmpR op_gt (pe_ix ix_seq (pv 0) pe_int (fun _ _ => rfl)) pe_int (nomark _)) (pe_and (pe_cmpR op_lt (pe_callC C_discriminant_of hg0 hr (by decide) (pa_cons (pv 0) pa_nil)) pe_int (nomark _)) (pe_one (pe_cmpR (op_eqD hr.units) (pe_callC C_common_divisor hg0 hr (by decide) (pa_cons (pv 0) pa_nil)) pe_int (nomark _)))))))), spF_body (N := N_is_positive) (g := g_is_positive) (by decide) ?_ h⟩
  unfold g_is_positive
  exact (ds_ret (de_and (de_call (n := 2) (da_cons (de_var 0) (da_cons (de_c fun _ => .int _) da_nil))) (de_and (de_cmp (p := fun i j => decide (j < i)) (de_ix (de_var 0) (de_c fun _ => .int _)) (de_c fun _ => .int _)) (de_and (de_cmp (p := fun i j => decide (i < j)) (de_call (n := 1) (da_cons (de_var 0) da_nil)) (de_c fun _ => .int _)) (de_eq (de_call (n := 1) (da_cons (de_var 0) da_nil)) (de_c fun _ => .int _))))))
/-! ### is_whole_change -/
abbrev s_is_whole_change : Stmt := topS 12
abbrev N_is_whole_change : List Str := ["thing"]
theorem sc_is_whole_change : FnScope N_is_whole_change ["thing"] (defScope s_is_whole_change) := ⟨rfl, rfl, rfl, by decide +kernel, rfl, by decide +kernel, by decide +kernel⟩
def g_is_whole_change : Fs := (sRet (fAnd (fCall 2 f_is_integers (fCons (fVar 0) (fCons (fC (.int 4)) fNil))) (fEq (fCall 1 f_two_determinant (fCons (fVar 0) fNil)) (fC (.int 1)))))
def f_is_whole_change : Fd := fnOf 1 g_is_whole_change
theorem ok_is_whole_change {P : Program} {w : World} {K : Fg} {mg : Str → Option Value} {base : Heap} {T : List Addr} (tx : Tx base mg) (C_is_integers : Cg P w K mg base 3 "is_integers" ["thing", "many"] (spF K T 2 f_is_integers)) (C_two_determinant : Cg P w K mg base 1 "two_determinant" ["matrix"] (spF K T 1 f_two_determinant)) {f : Addr} {fd : FuncData} (F : Fun K "is_whole_change" "is_whole_change" s_is_whole_change f fd) :
    FnG P w K mg base CX0 4 f fd ["thing"] (spF K T 1 f_is_whole_change) := by
  refine fnG_of F sc_is_whole_change (fun vs H Q E h => spF_len h) (fun cdv A outer s H vs Q E hg0 hr h => ?_)
  have hu := hu_of hr
  refine ⟨_, PSs.nox (pss_one (ps_ret (pe_and (pe_callC C_is_integers hg0 hr (by decide) (pa_cons (pv 0) (pa_cons pe_int pa_nil))) (pe_one (pe_cmpR (op_eqD hr.units) (pe_callC C_two_determinant hg0 hr (by decide) (pa_cons (pv 0) pa_nil)) pe_int (nomark _)))))), spF_body (N := N_is_whole_change) (g := g_is_whole_change) (by decide) ?_ h⟩
  unfold g_is_whole_change
  exact (ds_ret (de_and (de_call (n := 2) (da_cons (de_var 0) (da_cons (de_c fun _ => .int _) da_nil))) (de_eq (de_call (n := 1) (da_cons (de_var 0) da_nil)) (de_c fun _ => .int _))))
/-! ### _law_deck -/
abbrev s__law_deck : Stmt := topS 14
abbrev N__law_deck : List Str := ["_law_script", "_law_cell", "_law_cells", "_law_mixed"]
theorem sc__law_deck : FnScope N__law_deck ["_law_script"] (defScope s__law_deck) := ⟨rfl, rfl, rfl, by decide +kernel, rfl, by decide +kernel, by decide +kernel⟩
def g__law_deck : Fs := (sSeq (sPar 2 3 (fCons (fLc (wSeq (fSlU (fVar 0) fNoPart (fPart (fC (.int 63))))) (qName 1) fYes (f1 gInt (fVar 1)) [1]) (fCons (fC (.int 10877016)) fNil)))
    (sSeq (sFor (wSeq (fVar 2)) (qName 1) (sAsg (fMod (f1 gInt (f2 gAddU (f2 gAddU (f2 gMulU (fVar 3) (fC (.int 48271))) (fMod (f1 gInt (fVar 1)) (fC (.int 2147483563)))) (fC (.int 16)))) (fC (.int 2147483647))) (qName 3)))
    (sRet (fDisp (((Sum.inr "cells"), (fRevU (fVar 2))) :: (((Sum.inr "mixed"), (fVar 3)) :: (((Sum.inr "turn"), (fC (.int 0))) :: [])))))))
def f__law_deck : Fd := fnOf 4 g__law_deck
theorem ok__law_deck {P : Program} {w : World} {K : Fg} {mg : Str → Option Value} {base : Heap} {T : List Addr} (tx : Tx base mg) {f : Addr} {fd : FuncData} (F : Fun K "_law_deck" "_law_deck" s__law_deck f fd) :
    FnG P w K mg base CX0 1 f fd ["_law_script"] (spF K T 1 f__law_deck) := by
  refine fnG_of F sc__law_deck (fun vs H Q E h => spF_len h) (fun cdv A outer s H vs Q E hg0 hr h => ?_)
  have hu := hu_of hr
  refine ⟨_, PSs.nox (pss_cons (ps_par (i := 2) (j := 3) rfl sc__law_deck.nd rfl rfl (by decide) rfl rfl (pa_cons (pe_lc (own := [("_law_cell", 1)]) (g := gName 1) (tt := tYes) rfl sc__law_deck.nd (pi_seq (pe_slice sl_u (pv 0) po_none (po_some pe_int))) (blkOk_by (N := N__law_deck) (sc := defScope s__law_deck) (by decide +kernel)) (fun _ _ _ _ _ => pg_name (i := 1) sc__law_deck.nd rfl (Or.inl rfl)) (fun _ _ _ _ _ => pts_nil) (fun _ _ _ _ _ => (pe_callTy (T := "int") call_int1 (by rfl) tx.z_int (by decide +kernel) (pa_cons (pv 1) pa_nil)))) (pa_cons pe_int pa_nil)) rfl)
      (pss_cons (ps_for PassesOwn.never rfl (pi_seq (pv 2)) (pg_name (i := 1) sc__law_deck.nd rfl (Or.inl rfl)) (pss_one (ps_set (i := 3) sc__law_deck.nd rfl (Or.inl rfl) (pe_op op_modN (pe_callTy (T := "int") call_int1 (by rfl) tx.z_int (by decide +kernel) (pa_cons (pe_op op_addU (pe_op op_addU (pe_op op_mulU (pv 3) pe_int) (pe_op op_modN (pe_callTy (T := "int") call_int1 (by rfl) tx.z_int (by decide +kernel) (pa_cons (pv 1) pa_nil)) pe_int)) pe_int) pa_nil)) pe_int))))
      (pss_one (ps_ret (pe_disp (pps_cons pe_str (pe_revU (pv 2)) (pps_cons pe_str (pv 3) (pps_cons pe_str pe_int pps_nil))) rfl rfl (by simp) (by decide)))))), spF_body (N := N__law_deck) (g := g__law_deck) (by decide) ?_ h⟩
  unfold g__law_deck
  exact (ds_seq (ds_par (da_cons (de_lc (vs := [1]) (di_seq (de_slU (de_var 0) do_none (do_some (de_c fun _ => .int _)))) (dg_name 1) dt_yes (de_int1 (de_var 1)) (fun j h => h)) (da_cons (de_c fun _ => .int _) da_nil)))
      (ds_seq (ds_for (di_seq (de_var 2)) (dg_name 1) (ds_asg (de_mod (de_int1 (de_addU (de_addU (de_mulU (de_var 3) (de_c fun _ => .int _)) (de_mod (de_int1 (de_var 1)) (de_c fun _ => .int _))) (de_c fun _ => .int _))) (de_c fun _ => .int _)) (dg_name 3)))
      (ds_ret (de_disp (DPs.cons (k := (Sum.inr "cells")) (de_revU (de_var 2)) (DPs.cons (k := (Sum.inr "mixed")) (de_var 3) (DPs.cons (k := (Sum.inr "turn")) (de_c fun _ => .int _) DPs.nil)))))))
/-! ### _law_draw -/
abbrev s__law_draw : Stmt := topS 15
abbrev N__law_draw : List Str := ["_law_deck_here", "_law_below", "_law_cell"]
theorem sc__law_draw : FnScope N__law_draw ["_law_deck_here", "_law_below"] (defScope s__law_draw) := ⟨rfl, rfl, rfl, by decide +kernel, rfl, by decide +kernel, by decide +kernel⟩
def g__law_draw : Fs := (sSeq (sDkPut 0 putTurn (f2 gAddU (fDkI 0 Dk.turn) (fC (.int 1))))
    (sSeq (sIf (fTest (fDkNe 0)) (sSeq (sAsg (fDkPop 0) (qName 2))
    (sSeq (sIf (fTest (fCmp (fun i j => decide (j ≤ i)) (fVar 2) (fPow (fC (.int 10)) (fC (.int 18))))) (sSeq (sDkApp 0 (fDiv (fVar 2) (fMax (fC (.int 2)) (fVar 1))))
    (sRet (fMod (f1 gInt (fVar 2)) (fVar 1)))) sNext)
    (sDkPut 0 putMixed (fMod (f1 gInt (f2 gAddU (fDkI 0 Dk.mixed) (fVar 2))) (fC (.int 2147483647)))))) sNext)
    (sSeq (sDkPut 0 putMixed (fMod (f1 gInt (f2 gAddU (f2 gAddU (f2 gMulU (fDkI 0 Dk.mixed) (fC (.int 48271))) (f2 gMulU (fDkI 0 Dk.turn) (fC (.int 69621)))) (fC (.int 1)))) (fC (.int 2147483647))))
    (sRet (fMod (fDiv (fMod (f1 gInt (f2 gMulU (fDkI 0 Dk.mixed) (fDkI 0 Dk.mixed))) (fC (.int 2147483629))) (fC (.int 64))) (fVar 1))))))
def f__law_draw : Fd := fnOf 3 g__law_draw
theorem ok__law_draw {P : Program} {w : World} {K : Fg} {mg : Str → Option Value} {base : Heap} {T : List Addr} (tx : Tx base mg) {f : Addr} {fd : FuncData} (F : Fun K "_law_draw" "_law_draw" s__law_draw f fd) :
    FnG P w K mg base CX0 1 f fd ["_law_deck_here", "_law_below"] (spF K T 2 f__law_draw) := by
  refine fnG_of F sc__law_draw (fun vs H Q E h => spF_len h) (fun cdv A outer s H vs Q E hg0 hr h => ?_)
  have hu := hu_of hr
  refine ⟨_, PSs.nox (pss_cons (ps_dput hu (pv 0) pe_str (pe_op op_addU (pe_dget hu (pv 0) pe_str (fun _ _ => rfl)) pe_int) rfl)
      (pss_cons (ps_if (pt_cmpR (op_neD hr.units) (pe_dget hu (pv 0) pe_str (fun _ _ => rfl)) (pe_lst pa_nil) (nomark _)) (pss_cons (ps_set (i := 2) sc__law_draw.nd rfl (Or.inl rfl) (pe_bm0 PySem.F.plainAttrs_list PySem.F.slot_list_pop PySem.F.type_list_pop mt_pop (pe_dget hu (pv 0) pe_str (fun _ _ => rfl))))
      (pss_cons (ps_if (pt_cmpR op_ge (pv 2) (pe_op op_pow pe_int pe_int) (nomark _)) (pss_cons (ps_expr (pe_bm PySem.F.plainAttrs_list PySem.F.slot_list_append PySem.F.type_list_append mt_append (pe_dget hu (pv 0) pe_str (fun _ _ => rfl)) (pa_cons (pe_op op_fdivW (pv 2) (pe_callB (id := "max") (call_max2 rfl) (by rfl) tx.z_max (by decide +kernel) (pa_cons pe_int (pa_cons (pv 1) pa_nil)))) pa_nil)))
      (pss_one (ps_ret (pe_op op_modN (pe_callTy (T := "int") call_int1 (by rfl) tx.z_int (by decide +kernel) (pa_cons (pv 2) pa_nil)) (pv 1))))) pss_nil)
      (pss_one (ps_dput hu (pv 0) pe_str (pe_op op_modN (pe_callTy (T := "int") call_int1 (by rfl) tx.z_int (by decide +kernel) (pa_cons (pe_op op_addU (pe_dget hu (pv 0) pe_str (fun _ _ => rfl)) (pv 2)) pa_nil)) pe_int) rfl)))) pss_nil)
      (pss_cons (ps_dput hu (pv 0) pe_str (pe_op op_modN (pe_callTy (T := "int") call_int1 (by rfl) tx.z_int (by decide +kernel) (pa_cons (pe_op op_addU (pe_op op_addU (pe_op op_mulU (pe_dget hu (pv 0) pe_str (fun _ _ => rfl)) pe_int) (pe_op op_mulU (pe_dget hu (pv 0) pe_str (fun _ _ => rfl)) pe_int)) pe_int) pa_nil)) pe_int) rfl)
      (pss_one (ps_ret (pe_op op_modN (pe_op op_fdivW (pe_op op_modN (pe_callTy (T := "int") call_int1 (by rfl) tx.z_int (by decide +kernel) (pa_cons (pe_op op_mulU (pe_dget hu (pv 0) pe_str (fun _ _ => rfl)) (pe_dget hu (pv 0) pe_str (fun _ _ => rfl))) pa_nil)) pe_int) pe_int) (pv 1))))))), spF_body (N := N__law_draw) (g := g__law_draw) (by decide) ?_ h⟩
  unfold g__law_draw
  exact (ds_seq (ds_dkTurn 0 (de_addU (de_dkTurn 0) (de_c fun _ => .int _)))
      (ds_seq (ds_if (dt_test (de_dkNe 0)) (ds_seq (ds_asg (de_dkPop 0) (dg_name 2))
      (ds_seq (ds_if (dt_test (de_cmp (p := fun i j => decide (j ≤ i)) (de_var 2) (de_pow (de_c fun _ => .int _) (de_c fun _ => .int _)))) (ds_seq (ds_dkApp 0 (de_div (de_var 2) (de_max (de_c fun _ => .int _) (de_var 1))))
      (ds_ret (de_mod (de_int1 (de_var 2)) (de_var 1)))) ds_next)
      (ds_dkMixed 0 (de_mod (de_int1 (de_addU (de_dkMixed 0) (de_var 2))) (de_c fun _ => .int _))))) ds_next)
      (ds_seq (ds_dkMixed 0 (de_mod (de_int1 (de_addU (de_addU (de_mulU (de_dkMixed 0) (de_c fun _ => .int _)) (de_mulU (de_dkTurn 0) (de_c fun _ => .int _))) (de_c fun _ => .int _))) (de_c fun _ => .int _)))
      (ds_ret (de_mod (de_div (de_mod (de_int1 (de_mulU (de_dkMixed 0) (de_dkMixed 0))) (de_c fun _ => .int _)) (de_c fun _ => .int _)) (de_var 1))))))
/-! ### _law_pick -/
abbrev s__law_pick : Stmt := topS 16
abbrev N__law_pick : List Str := ["_law_deck_here", "_law_some"]
theorem sc__law_pick : FnScope N__law_pick ["_law_deck_here", "_law_some"] (defScope s__law_pick) := ⟨rfl, rfl, rfl, by decide +kernel, rfl, by decide +kernel, by decide +kernel⟩
def g__law_pick : Fs := (sRet (fIx (fVar 1) (fCall 2 f__law_draw (fCons (fVar 0) (fCons (f1 gLen (fVar 1)) fNil)))))
def f__law_pick : Fd := fnOf 2 g__law_pick
theorem ok__law_pick {P : Program} {w : World} {K : Fg} {mg : Str → Option Value} {base : Heap} {T : List Addr} (tx : Tx base mg) (C__law_draw : Cg P w K mg base 1 "_law_draw" ["_law_deck_here", "_law_below"] (spF K T 2 f__law_draw)) {f : Addr} {fd : FuncData} (F : Fun K "_law_pick" "_law_pick" s__law_pick f fd) :
    FnG P w K mg base CX0 2 f fd ["_law_deck_here", "_law_some"] (spF K T 2 f__law_pick) := by
  refine fnG_of F sc__law_pick (fun vs H Q E h => spF_len h) (fun cdv A outer s H vs Q E hg0 hr h => ?_)
  have hu := hu_of hr
  refine ⟨_, PSs.nox (pss_one (ps_ret (pe_ix ix_seq (pv 1) (pe_callC C__law_draw hg0 hr (by decide) (pa_cons (pv 0) (pa_cons (pe_callB (id := "len") call_len_seq (by rfl) tx.z_len (by decide +kernel) (pa_cons (pv 1) pa_nil)) pa_nil))) (fun _ _ => rfl)))), spF_body (N := N__law_pick) (g := g__law_pick) (by decide) ?_ h⟩
  unfold g__law_pick
  exact (ds_ret (de_ix (de_var 1) (de_call (n := 2) (da_cons (de_var 0) (da_cons (de_len (de_var 1)) da_nil)))))
/-! ### _law_common -/
abbrev s__law_common : Stmt := topS 17
abbrev N__law_common : List Str := ["_law_some", "_law_whole", "_law_one", "_law_other"]
theorem sc__law_common : FnScope N__law_common ["_law_some"] (defScope s__law_common) := ⟨rfl, rfl, rfl, by decide +kernel, rfl, by decide +kernel, by decide +kernel⟩
def g__law_common : Fs := (sSeq (sAsg (fC (.int 0)) (qName 1))
    (sSeq (sFor (wSeq (fVar 0)) (qName 2) (sSeq (sAsg (f1 gAbs (fVar 2)) (qName 3))
    (sWhile (fuelV 3) (fTest (fCmp (fun i j => decide (j < i)) (fVar 3) (fC (.int 0)))) (sPar 1 3 (fCons (fVar 3) (fCons (fMod (f1 gInt (fVar 1)) (fVar 3)) fNil))))))
    (sRet (fVar 1))))
def f__law_common : Fd := fnOf 4 g__law_common
theorem ok__law_common {P : Program} {w : World} {K : Fg} {mg : Str → Option Value} {base : Heap} {T : List Addr} (tx : Tx base mg) {f : Addr} {fd : FuncData} (F : Fun K "_law_common" "_law_common" s__law_common f fd) :
    FnG P w K mg base CX0 1 f fd ["_law_some"] (spF K T 1 f__law_common) := by
  refine fnG_of F sc__law_common (fun vs H Q E h => spF_len h) (fun cdv A outer s H vs Q E hg0 hr h => ?_)
  have hu := hu_of hr
  refine ⟨_, PSs.nox (pss_cons (ps_set (i := 1) sc__law_common.nd rfl (Or.inl rfl) pe_int)
      (pss_cons (ps_for PassesOwn.never rfl (pi_seq (pv 0)) (pg_name (i := 2) sc__law_common.nd rfl (Or.inl rfl)) (pss_cons (ps_set (i := 3) sc__law_common.nd rfl (Or.inl rfl) (pe_callB (id := "abs") call_abs (by rfl) tx.z_abs (by decide +kernel) (pa_cons (pv 2) pa_nil)))
      (pss_one (ps_while PassesOwn.never (pt_cmpR op_gt (pv 3) pe_int (nomark _)) (pss_one (ps_par (i := 1) (j := 3) rfl sc__law_common.nd rfl rfl (by decide) rfl rfl (pa_cons (pv 3) (pa_cons (pe_op op_modN (pe_callTy (T := "int") call_int1 (by rfl) tx.z_int (by decide +kernel) (pa_cons (pv 1) pa_nil)) (pv 3)) pa_nil)) rfl))))))
      (pss_one (ps_ret (pv 1))))), spF_body (N := N__law_common) (g := g__law_common) (by decide) ?_ h⟩
  unfold g__law_common
  exact (ds_seq (ds_asg (de_c fun _ => .int _) (dg_name 1))
      (ds_seq (ds_for (di_seq (de_var 0)) (dg_name 2) (ds_seq (ds_asg (de_abs (de_var 2)) (dg_name 3))
      (ds_while (dt_test (de_cmp (p := fun i j => decide (j < i)) (de_var 3) (de_c fun _ => .int _))) (ds_par (da_cons (de_var 3) (da_cons (de_mod (de_int1 (de_var 1)) (de_var 3)) da_nil))))))
      (ds_ret (de_var 1))))
/-! ### _law_are_integers -/
abbrev s__law_are_integers : Stmt := topS 18
abbrev N__law_are_integers : List Str := ["_law_many", "_law_thing", "_law_one"]
theorem sc__law_are_integers : FnScope N__law_are_integers ["_law_many", "_law_thing"] (defScope s__law_are_integers) := ⟨rfl, rfl, rfl, by decide +kernel, rfl, by decide +kernel, by decide +kernel⟩
def g__law_are_integers : Fs := (sSeq (sIf (tOrF (tNotF (fTest (f1 (gIsi "tuple") (fVar 1)))) (fTest (fNe (f1 gLen (fVar 1)) (fVar 0)))) (sRet (fC (.bool false))) sNext)
    (sRet (fEq (fLc (wSeq (fVar 1)) (qName 2) (tOrF (fTest (f1 (gIsi "bool") (fVar 2))) (tNotF (fTest (f1 (gIsi "int") (fVar 2))))) (fC (.int 1)) [2]) (fSeq .list fNil))))
def f__law_are_integers : Fd := fnOf 3 g__law_are_integers
theorem ok__law_are_integers {P : Program} {w : World} {K : Fg} {mg : Str → Option Value} {base : Heap} {T : List Addr} (tx : Tx base mg) {f : Addr} {fd : FuncData} (F : Fun K "_law_are_integers" "_law_are_integers" s__law_are_integers f fd) :
    FnG P w K mg base CX0 1 f fd ["_law_many", "_law_thing"] (spF K T 2 f__law_are_integers) := by
  refine fnG_of F sc__law_are_integers (fun vs H Q E h => spF_len h) (fun cdv A outer s H vs Q E hg0 hr h => ?_)
  have hu := hu_of hr
  refine ⟨_, PSs.nox (pss_cons (ps_if (PW.pt (pw_or (pt_not (pt_val (pe_callB (id := "isinstance") call_isi (by rfl) tx.z_isinstance (by decide +kernel) (pa_cons (pv 1) (pa_cons (pe_bltn (v := .ty "tuple") (by rfl) tx.z_tuple (u := .type "tuple") (by decide +kernel) rfl) pa_nil))))) (pw_or1 (pt_cmpR (op_neD hr.units) (pe_callB (id := "len") call_len_seq (by rfl) tx.z_len (by decide +kernel) (pa_cons (pv 1) pa_nil)) (pv 0) (nomark _))))) (pss_one (ps_ret pe_bl)) pss_nil)
      (pss_one (ps_ret (pe_cmpR (op_eqD hr.units) (pe_lc (own := [("_law_one", 2)]) (g := gName 2)  rfl sc__law_are_integers.nd (pi_seq (pv 1)) (blkOk_by (N := N__law_are_integers) (sc := defScope s__law_are_integers) (by decide +kernel)) (fun _ _ _ _ _ => pg_name (i := 2) sc__law_are_integers.nd rfl (Or.inl rfl)) (fun _ _ _ _ _ => pts_one (PW.pt (pw_or (pt_val (pe_callB (id := "isinstance") (calK (r := rIsi) (K := K) call_isi rfl) (by rfl) tx.z_isinstance (by decide +kernel) (pa_cons (pv 2) (pa_cons (pe_bltn (v := .ty "bool") (by rfl) tx.z_bool (u := .type "bool") (by decide +kernel) rfl) pa_nil)))) (pw_or1 (pt_not (pt_val (pe_callB (id := "isinstance") (calK (r := rIsi) (K := K) call_isi rfl) (by rfl) tx.z_isinstance (by decide +kernel) (pa_cons (pv 2) (pa_cons (pe_bltn (v := .ty "int") (by rfl) tx.z_int (u := .type "int") (by decide +kernel) rfl) pa_nil))))))))) (fun _ _ _ _ _ => pe_int)) (pe_lst pa_nil) (nomark _))))), spF_body (N := N__law_are_integers) (g := g__law_are_integers) (by decide) ?_ h⟩
  unfold g__law_are_integers
  exact (ds_seq (ds_if (dt_or (dt_not (dt_b (de_isi "tuple" (by decide) (de_var 1)))) (dt_test (de_ne (de_len (de_var 1)) (de_var 0)))) (ds_ret (de_c fun _ => .bl _)) ds_next)
      (ds_ret (de_eq (de_lc (vs := [2]) (di_seq (de_var 1)) (dg_name 2) (dt_or (dt_b (de_isi "bool" (by decide) (de_var 2))) (dt_not (dt_b (de_isi "int" (by decide) (de_var 2))))) (de_c fun _ => .int _) (fun j h => h)) (de_lst da_nil))))
/-! ### _law_is_positive -/
abbrev s__law_is_positive : Stmt := topS 19
abbrev N__law_is_positive : List Str := ["_law_thing"]
theorem sc__law_is_positive : FnScope N__law_is_positive ["_law_thing"] (defScope s__law_is_positive) := ⟨rfl, rfl, rfl, by decide +kernel, rfl, by decide +kernel, by decide +kernel⟩
def g__law_is_positive : Fs := (sSeq (sIf (tOrF (tNotF (fTest (fCall 2 f__law_are_integers (fCons (fC (.int 3)) (fCons (fVar 0) fNil))))) (fTest (fCmp (fun i j => decide (i < j)) (fIx (fVar 0) (fC (.int 0))) (fC (.int 1))))) (sRet (fC (.bool false))) sNext)
    (sRet (fAnd (fCmp (fun i j => decide (i < j)) (fSub (f2 gMulU (fIx (fVar 0) (fC (.int 1))) (fIx (fVar 0) (fC (.int 1)))) (f2 gMulU (f2 gMulU (fC (.int 4)) (fIx (fVar 0) (fC (.int 0)))) (fIx (fVar 0) (fC (.int 2))))) (fC (.int 0))) (fEq (fCall 1 f__law_common (fCons (fVar 0) fNil)) (fC (.int 1))))))
def f__law_is_positive : Fd := fnOf 1 g__law_is_positive
theorem ok__law_is_positive {P : Program} {w : World} {K : Fg} {mg : Str → Option Value} {base : Heap} {T : List Addr} (tx : Tx base mg) (C__law_are_integers : Cg P w K mg base 1 "_law_are_integers" ["_law_many", "_law_thing"] (spF K T 2 f__law_are_integers)) (C__law_common : Cg P w K mg base 1 "_law_common" ["_law_some"] (spF K T 1 f__law_common)) {f : Addr} {fd : FuncData} (F : Fun K "_law_is_positive" "_law_is_positive" s__law_is_positive f fd) :
    FnG P w K mg base CX0 2 f fd ["_law_thing"] (spF K T 1 f__law_is_positive) := by
  refine fnG_of F sc__law_is_positive (fun vs H Q E h => spF_len h) (fun cdv A outer s H vs Q E hg0 hr h => ?_)
  have hu := hu_of hr
  refine ⟨_, PSs.nox (pss_cons (ps_if (PW.pt (pw_or (pt_not (pt_val (pe_callC C__law_are_integers hg0 hr (by decide) (pa_cons pe_int (pa_cons (pv 0) pa_nil))))) (pw_or1 (pt_cmpR op_lt (pe_ix ix_seq (pv 0) pe_int (fun _ _ => rfl)) pe_int (nomark _))))) (pss_one (ps_ret pe_bl)) pss_nil)
      (pss_one (ps_ret (pe_and (pe_cmpR op_lt (pe_op op_sub (pe_op op_mulU (pe_ix ix_seq (pv 0) pe_int (fun _ _ => rfl)) (pe_ix ix_seq (pv 0) pe_int (fun _ _ => rfl))) (pe_op op_mulU (pe_op op_mulU pe_int (pe_ix ix_seq (pv 0) pe_int (fun _ _ => rfl))) (pe_ix ix_seq (pv 0) pe_int (fun _ _ => rfl)))) pe_int (nomark _)) (pe_one (pe_cmpR (op_eqD hr.units) (pe_callC C__law_common hg0 hr (by decide) (pa_cons (pv 0) pa_nil)) pe_int (nomark _))))))), spF_body (N := N__law_is_positive) (g := g__law_is_positive) (by decide) ?_ h⟩
  unfold g__law_is_positive
  exact (ds_seq (ds_if (dt_or (dt_not (dt_b (de_call (n := 2) (da_cons (de_c fun _ => .int _) (da_cons (de_var 0) da_nil))))) (dt_test (de_cmp (p := fun i j => decide (i < j)) (de_ix (de_var 0) (de_c fun _ => .int _)) (de_c fun _ => .int _)))) (ds_ret (de_c fun _ => .bl _)) ds_next)
      (ds_ret (de_and (de_cmp (p := fun i j => decide (i < j)) (de_sub (de_mulU (de_ix (de_var 0) (de_c fun _ => .int _)) (de_ix (de_var 0) (de_c fun _ => .int _))) (de_mulU (de_mulU (de_c fun _ => .int _) (de_ix (de_var 0) (de_c fun _ => .int _))) (de_ix (de_var 0) (de_c fun _ => .int _)))) (de_c fun _ => .int _)) (de_eq (de_call (n := 1) (da_cons (de_var 0) da_nil)) (de_c fun _ => .int _)))))
/-! ### _law_is_whole -/
abbrev s__law_is_whole : Stmt := topS 20
abbrev N__law_is_whole : List Str := ["_law_thing"]
theorem sc__law_is_whole : FnScope N__law_is_whole ["_law_thing"] (defScope s__law_is_whole) := ⟨rfl, rfl, rfl, by decide +kernel, rfl, by decide +kernel, by decide +kernel⟩
def g__law_is_whole : Fs := (sRet (fAnd (fCall 2 f__law_are_integers (fCons (fC (.int 4)) (fCons (fVar 0) fNil))) (fEq (fSub (f2 gMulU (fIx (fVar 0) (fC (.int 0))) (fIx (fVar 0) (fC (.int 3)))) (f2 gMulU (fIx (fVar 0) (fC (.int 1))) (fIx (fVar 0) (fC (.int 2))))) (fC (.int 1)))))
def f__law_is_whole : Fd := fnOf 1 g__law_is_whole
theorem ok__law_is_whole {P : Program} {w : World} {K : Fg} {mg : Str → Option Value} {base : Heap} {T : List Addr} (tx : Tx base mg) (C__law_are_integers : Cg P w K mg base 1 "_law_are_integers" ["_law_many", "_law_thing"] (spF K T 2 f__law_are_integers)) {f : Addr} {fd : FuncData} (F : Fun K "_law_is_whole" "_law_is_whole" s__law_is_whole f fd) :
    FnG P w K mg base CX0 2 f fd ["_law_thing"] (spF K T 1 f__law_is_whole) := by
  refine fnG_of F sc__law_is_whole (fun vs H Q E h => spF_len h) (fun cdv A outer s H vs Q E hg0 hr h => ?_)
  have hu := hu_of hr
  refine ⟨_, PSs.nox (pss_one (ps_ret (pe_and (pe_callC C__law_are_integers hg0 hr (by decide) (pa_cons pe_int (pa_cons (pv 0) pa_nil))) (pe_one (pe_cmpR (op_eqD hr.units) (pe_op op_sub (pe_op op_mulU (pe_ix ix_seq (pv 0) pe_int (fun _ _ => rfl)) (pe_ix ix_seq (pv 0) pe_int (fun _ _ => rfl))) (pe_op op_mulU (pe_ix ix_seq (pv 0) pe_int (fun _ _ => rfl)) (pe_ix ix_seq (pv 0) pe_int (fun _ _ => rfl)))) pe_int (nomark _)))))), spF_body (N := N__law_is_whole) (g := g__law_is_whole) (by decide) ?_ h⟩
  unfold g__law_is_whole
  exact (ds_ret (de_and (de_call (n := 2) (da_cons (de_c fun _ => .int _) (da_cons (de_var 0) da_nil))) (de_eq (de_sub (de_mulU (de_ix (de_var 0) (de_c fun _ => .int _)) (de_ix (de_var 0) (de_c fun _ => .int _))) (de_mulU (de_ix (de_var 0) (de_c fun _ => .int _)) (de_ix (de_var 0) (de_c fun _ => .int _)))) (de_c fun _ => .int _))))
/-! ### _law_led -/
abbrev s__law_led : Stmt := topS 21
abbrev N__law_led : List Str := ["_law_form_here", "_law_change_here", "_law_a", "_law_b", "_law_c", "_law_p", "_law_q", "_law_r", "_law_s", "_law_first", "_law_last"]
theorem sc__law_led : FnScope N__law_led ["_law_form_here", "_law_change_here"] (defScope s__law_led) := ⟨rfl, rfl, rfl, by decide +kernel, rfl, by decide +kernel, by decide +kernel⟩
def g__law_led : Fs := (sSeq (sAsg (fSeq .tuple (fCons (fVar 0) (fCons (fVar 1) fNil))) (qTup 2 (qCons (qTup 3 (qCons (qName 2) (qCons (qName 3) (qCons (qName 4) qNil)))) (qCons (qTup 4 (qCons (qName 5) (qCons (qName 6) (qCons (qName 7) (qCons (qName 8) qNil))))) qNil))))
    (sSeq (sPar 9 10 (fCons (f2 gAddU (f2 gAddU (f2 gMulU (f2 gMulU (fVar 2) (fVar 5)) (fVar 5)) (f2 gMulU (f2 gMulU (fVar 3) (fVar 5)) (fVar 7))) (f2 gMulU (f2 gMulU (fVar 4) (fVar 7)) (fVar 7))) (fCons (f2 gAddU (f2 gAddU (f2 gMulU (f2 gMulU (fVar 2) (fVar 6)) (fVar 6)) (f2 gMulU (f2 gMulU (fVar 3) (fVar 6)) (fVar 8))) (f2 gMulU (f2 gMulU (fVar 4) (fVar 8)) (fVar 8))) fNil)))
    (sRet (fSeq .tuple (fCons (fVar 9) (fCons (f2 gAddU (f2 gAddU (f2 gMulU (f2 gMulU (f2 gMulU (fC (.int 2)) (fVar 2)) (fVar 5)) (fVar 6)) (f2 gMulU (fVar 3) (f2 gAddU (f2 gMulU (fVar 5) (fVar 8)) (f2 gMulU (fVar 6) (fVar 7))))) (f2 gMulU (f2 gMulU (f2 gMulU (fC (.int 2)) (fVar 4)) (fVar 7)) (fVar 8))) (fCons (fVar 10) fNil)))))))
def f__law_led : Fd := fnOf 11 g__law_led
theorem ok__law_led {P : Program} {w : World} {K : Fg} {mg : Str → Option Value} {base : Heap} {T : List Addr} (tx : Tx base mg) {f : Addr} {fd : FuncData} (F : Fun K "_law_led" "_law_led" s__law_led f fd) :
    FnG P w K mg base CX0 1 f fd ["_law_form_here", "_law_change_here"] (spF K T 2 f__law_led) := by
  refine fnG_of F sc__law_led (fun vs H Q E h => spF_len h) (fun cdv A outer s H vs Q E hg0 hr h => ?_)
  have hu := hu_of hr
  refine ⟨_, PSs.nox (pss_cons (ps_asg (pe_tup (pa_cons (pv 0) (pa_cons (pv 1) pa_nil))) (pg_tup rfl (pgs_cons (pg_tup rfl (pgs_cons (pg_name (i := 2) sc__law_led.nd rfl (Or.inl rfl)) (pgs_cons (pg_name (i := 3) sc__law_led.nd rfl (Or.inl rfl)) (pgs_cons (pg_name (i := 4) sc__law_led.nd rfl (Or.inl rfl)) pgs_nil)))) (pgs_cons (pg_tup rfl (pgs_cons (pg_name (i := 5) sc__law_led.nd rfl (Or.inl rfl)) (pgs_cons (pg_name (i := 6) sc__law_led.nd rfl (Or.inl rfl)) (pgs_cons (pg_name (i := 7) sc__law_led.nd rfl (Or.inl rfl)) (pgs_cons (pg_name (i := 8) sc__law_led.nd rfl (Or.inl rfl)) pgs_nil))))) pgs_nil))))
      (pss_cons (ps_par (i := 9) (j := 10) rfl sc__law_led.nd rfl rfl (by decide) rfl rfl (pa_cons (pe_op op_addU (pe_op op_addU (pe_op op_mulU (pe_op op_mulU (pv 2) (pv 5)) (pv 5)) (pe_op op_mulU (pe_op op_mulU (pv 3) (pv 5)) (pv 7))) (pe_op op_mulU (pe_op op_mulU (pv 4) (pv 7)) (pv 7))) (pa_cons (pe_op op_addU (pe_op op_addU (pe_op op_mulU (pe_op op_mulU (pv 2) (pv 6)) (pv 6)) (pe_op op_mulU (pe_op op_mulU (pv 3) (pv 6)) (pv 8))) (pe_op op_mulU (pe_op op_mulU (pv 4) (pv 8)) (pv 8))) pa_nil)) rfl)
      (pss_one (ps_ret (pe_tup (pa_cons (pv 9) (pa_cons (pe_op op_addU (pe_op op_addU (pe_op op_mulU (pe_op op_mulU (pe_op op_mulU pe_int (pv 2)) (pv 5)) (pv 6)) (pe_op op_mulU (pv 3) (pe_op op_addU (pe_op op_mulU (pv 5) (pv 8)) (pe_op op_mulU (pv 6) (pv 7))))) (pe_op op_mulU (pe_op op_mulU (pe_op op_mulU pe_int (pv 4)) (pv 7)) (pv 8))) (pa_cons (pv 10) pa_nil)))))))), spF_body (N := N__law_led) (g := g__law_led) (by decide) ?_ h⟩
  unfold g__law_led
  exact (ds_seq (ds_asg (de_tup (da_cons (de_var 0) (da_cons (de_var 1) da_nil))) (dg_tup (dgs_cons (dg_tup (dgs_cons (dg_name 2) (dgs_cons (dg_name 3) (dgs_cons (dg_name 4) dgs_nil)))) (dgs_cons (dg_tup (dgs_cons (dg_name 5) (dgs_cons (dg_name 6) (dgs_cons (dg_name 7) (dgs_cons (dg_name 8) dgs_nil))))) dgs_nil))))
      (ds_seq (ds_par (da_cons (de_addU (de_addU (de_mulU (de_mulU (de_var 2) (de_var 5)) (de_var 5)) (de_mulU (de_mulU (de_var 3) (de_var 5)) (de_var 7))) (de_mulU (de_mulU (de_var 4) (de_var 7)) (de_var 7))) (da_cons (de_addU (de_addU (de_mulU (de_mulU (de_var 2) (de_var 6)) (de_var 6)) (de_mulU (de_mulU (de_var 3) (de_var 6)) (de_var 8))) (de_mulU (de_mulU (de_var 4) (de_var 8)) (de_var 8))) da_nil)))
      (ds_ret (de_tup (da_cons (de_var 9) (da_cons (de_addU (de_addU (de_mulU (de_mulU (de_mulU (de_c fun _ => .int _) (de_var 2)) (de_var 5)) (de_var 6)) (de_mulU (de_var 3) (de_addU (de_mulU (de_var 5) (de_var 8)) (de_mulU (de_var 6) (de_var 7))))) (de_mulU (de_mulU (de_mulU (de_c fun _ => .int _) (de_var 4)) (de_var 7)) (de_var 8))) (da_cons (de_var 10) da_nil)))))))
/-! ### _law_product -/
abbrev s__law_product : Stmt := topS 22
abbrev N__law_product : List Str := ["_law_one", "_law_other", "_law_p", "_law_q", "_law_r", "_law_s", "_law_t", "_law_u", "_law_v", "_law_w"]
theorem sc__law_product : FnScope N__law_product ["_law_one", "_law_other"] (defScope s__law_product) := ⟨rfl, rfl, rfl, by decide +kernel, rfl, by decide +kernel, by decide +kernel⟩
def g__law_product : Fs := (sSeq (sAsg (fSeq .tuple (fCons (fVar 0) (fCons (fVar 1) fNil))) (qTup 2 (qCons (qTup 4 (qCons (qName 2) (qCons (qName 3) (qCons (qName 4) (qCons (qName 5) qNil))))) (qCons (qTup 4 (qCons (qName 6) (qCons (qName 7) (qCons (qName 8) (qCons (qName 9) qNil))))) qNil))))
    (sRet (fSeq .tuple (fCons (f2 gAddU (f2 gMulU (fVar 2) (fVar 6)) (f2 gMulU (fVar 3) (fVar 8))) (fCons (f2 gAddU (f2 gMulU (fVar 2) (fVar 7)) (f2 gMulU (fVar 3) (fVar 9))) (fCons (f2 gAddU (f2 gMulU (fVar 4) (fVar 6)) (f2 gMulU (fVar 5) (fVar 8))) (fCons (f2 gAddU (f2 gMulU (fVar 4) (fVar 7)) (f2 gMulU (fVar 5) (fVar 9))) fNil)))))))
def f__law_product : Fd := fnOf 10 g__law_product
theorem ok__law_product {P : Program} {w : World} {K : Fg} {mg : Str → Option Value} {base : Heap} {T : List Addr} (tx : Tx base mg) {f : Addr} {fd : FuncData} (F : Fun K "_law_product" "_law_product" s__law_product f fd) :
    FnG P w K mg base CX0 1 f fd ["_law_one", "_law_other"] (spF K T 2 f__law_product) := by
  refine fnG_of F sc__law_product (fun vs H Q E h => spF_len h) (fun cdv A outer s H vs Q E hg0 hr h => ?_)
  have hu := hu_of hr
  refine ⟨_, PSs.nox (pss_cons (ps_asg (pe_tup (pa_cons (pv 0) (pa_cons (pv 1) pa_nil))) (pg_tup rfl (pgs_cons (pg_tup rfl (pgs_cons (pg_name (i := 2) sc__law_product.nd rfl (Or.inl rfl)) (pgs_cons (pg_name (i := 3) sc__law_product.nd rfl (Or.inl rfl)) (pgs_cons (pg_name (i := 4) sc__law_product.nd rfl (Or.inl rfl)) (pgs_cons (pg_name (i := 5) sc__law_product.nd rfl (Or.inl rfl)) pgs_nil))))) (pgs_cons (pg_tup rfl (pgs_cons (pg_name (i := 6) sc__law_product.nd rfl (Or.inl rfl)) (pgs_cons (pg_name (i := 7) sc__law_product.nd rfl (Or.inl rfl)) (pgs_cons (pg_name (i := 8) sc__law_product.nd rfl (Or.inl rfl)) (pgs_cons (pg_name (i := 9) sc__law_product.nd rfl (Or.inl rfl)) pgs_nil))))) pgs_nil))))
      (pss_one (ps_ret (pe_tup (pa_cons (pe_op op_addU (pe_op op_mulU (pv 2) (pv 6)) (pe_op op_mulU (pv 3) (pv 8))) (pa_cons (pe_op op_addU (pe_op op_mulU (pv 2) (pv 7)) (pe_op op_mulU (pv 3) (pv 9))) (pa_cons (pe_op op_addU (pe_op op_mulU (pv 4) (pv 6)) (pe_op op_mulU (pv 5) (pv 8))) (pa_cons (pe_op op_addU (pe_op op_mulU (pv 4) (pv 7)) (pe_op op_mulU (pv 5) (pv 9))) pa_nil)))))))), spF_body (N := N__law_product) (g := g__law_product) (by decide) ?_ h⟩
  unfold g__law_product
  exact (ds_seq (ds_asg (de_tup (da_cons (de_var 0) (da_cons (de_var 1) da_nil))) (dg_tup (dgs_cons (dg_tup (dgs_cons (dg_name 2) (dgs_cons (dg_name 3) (dgs_cons (dg_name 4) (dgs_cons (dg_name 5) dgs_nil))))) (dgs_cons (dg_tup (dgs_cons (dg_name 6) (dgs_cons (dg_name 7) (dgs_cons (dg_name 8) (dgs_cons (dg_name 9) dgs_nil))))) dgs_nil))))
      (ds_ret (de_tup (da_cons (de_addU (de_mulU (de_var 2) (de_var 6)) (de_mulU (de_var 3) (de_var 8))) (da_cons (de_addU (de_mulU (de_var 2) (de_var 7)) (de_mulU (de_var 3) (de_var 9))) (da_cons (de_addU (de_mulU (de_var 4) (de_var 6)) (de_mulU (de_var 5) (de_var 8))) (da_cons (de_addU (de_mulU (de_var 4) (de_var 7)) (de_mulU (de_var 5) (de_var 9))) da_nil)))))))
/-! ### _law_classes -/
abbrev s__law_classes : Stmt := topS 23
abbrev N__law_classes : List Str := ["_law_discriminant_here", "_law_found", "_law_a", "_law_b", "_law_c"]
theorem sc__law_classes : FnScope N__law_classes ["_law_discriminant_here"] (defScope s__law_classes) := ⟨rfl, rfl, rfl, by decide +kernel, rfl, by decide +kernel, by decide +kernel⟩
def g__law_classes : Fs := (sSeq (sOwn 1 fNil)
    (sSeq (sFor (wRng2 (fCons (fC (.int 1)) (fCons (fC (.int 30)) fNil))) (qName 2) (sFor (wRng2 (fCons (fSub (fC (.int 1)) (fVar 2)) (fCons (f2 gAddU (fVar 2) (fC (.int 1))) fNil))) (qName 3) (sSeq (sAsg (fDiv (fSub (f2 gMulU (fVar 3) (fVar 3)) (fVar 0)) (f2 gMulU (fC (.int 4)) (fVar 2))) (qName 4))
    (sIf (tAndF (fTest (fEq (f2 gMulU (f2 gMulU (fC (.int 4)) (fVar 2)) (fVar 4)) (fSub (f2 gMulU (fVar 3) (fVar 3)) (fVar 0)))) (tAndF (fTest (fCmp (fun i j => decide (i ≤ j)) (fVar 2) (fVar 4))) (tAndF (tOrF (fTest (fCmp (fun i j => decide (j ≤ i)) (fVar 3) (fC (.int 0)))) (fTest (fCmp (fun i j => decide (i < j)) (fVar 2) (fVar 4)))) (fTest (fEq (fCall 1 f__law_common (fCons (fSeq .tuple (fCons (fVar 2) (fCons (fVar 3) (fCons (fVar 4) fNil)))) fNil)) (fC (.int 1))))))) (sApp 1 (fSeq .tuple (fCons (fVar 2) (fCons (fVar 3) (fCons (fVar 4) fNil))))) sNext))))
    (sRet (fVar 1))))
def f__law_classes : Fd := fnOf 5 g__law_classes
theorem ok__law_classes {P : Program} {w : World} {K : Fg} {mg : Str → Option Value} {base : Heap} {T : List Addr} (tx : Tx base mg) (C__law_common : Cg P w K mg base 1 "_law_common" ["_law_some"] (spF K T 1 f__law_common)) {f : Addr} {fd : FuncData} (F : Fun K "_law_classes" "_law_classes" s__law_classes f fd) :
    FnG P w K mg base CX0 2 f fd ["_law_discriminant_here"] (spF K T 1 f__law_classes) := by
  refine fnG_of F sc__law_classes (fun vs H Q E h => spF_len h) (fun cdv A outer s H vs Q E hg0 hr h => ?_)
  have hu := hu_of hr
  refine ⟨_, PSs.nox (pss_cons (ps_set (i := 1) sc__law_classes.nd rfl (Or.inl rfl) (pe_lst pa_nil))
      (pss_cons (ps_for PassesOwn.never rfl (pi_range2 (by rfl) tx.z_range (pa_cons pe_int (pa_cons pe_int pa_nil))) (pg_name (i := 2) sc__law_classes.nd rfl (Or.inl rfl)) (pss_one (ps_for PassesOwn.never rfl (pi_range2 (by rfl) tx.z_range (pa_cons (pe_op op_sub pe_int (pv 2)) (pa_cons (pe_op op_addU (pv 2) pe_int) pa_nil))) (pg_name (i := 3) sc__law_classes.nd rfl (Or.inl rfl)) (pss_cons (ps_set (i := 4) sc__law_classes.nd rfl (Or.inl rfl) (pe_op op_fdivW (pe_op op_sub (pe_op op_mulU (pv 3) (pv 3)) (pv 0)) (pe_op op_mulU pe_int (pv 2))))
      (pss_one (ps_if (PW.pt (pw_and (pt_cmpR (op_eqD hr.units) (pe_op op_mulU (pe_op op_mulU pe_int (pv 2)) (pv 4)) (pe_op op_sub (pe_op op_mulU (pv 3) (pv 3)) (pv 0)) (nomark _)) (pw_and (pt_cmpR op_le (pv 2) (pv 4) (nomark _)) (pw_and (PW.pt (pw_or (pt_cmpR op_ge (pv 3) pe_int (nomark _)) (pw_or1 (pt_cmpR op_lt (pv 2) (pv 4) (nomark _))))) (pw_and1 (pt_cmpR (op_eqD hr.units) (pe_callC C__law_common hg0 hr (by decide) (pa_cons (pe_tup (pa_cons (pv 2) (pa_cons (pv 3) (pa_cons (pv 4) pa_nil)))) pa_nil)) pe_int (nomark _))))))) (pss_one (ps_expr (pe_bm PySem.F.plainAttrs_list PySem.F.slot_list_append PySem.F.type_list_append mt_append (pv 1) (pa_cons (pe_tup (pa_cons (pv 2) (pa_cons (pv 3) (pa_cons (pv 4) pa_nil)))) pa_nil)))) pss_nil))))))
      (pss_one (ps_ret (pv 1))))), spF_body (N := N__law_classes) (g := g__law_classes) (by decide) ?_ h⟩
  unfold g__law_classes
  exact (ds_seq (ds_own da_nil)
      (ds_seq (ds_for (di_rng2 (da_cons (de_c fun _ => .int _) (da_cons (de_c fun _ => .int _) da_nil))) (dg_name 2) (ds_for (di_rng2 (da_cons (de_sub (de_c fun _ => .int _) (de_var 2)) (da_cons (de_addU (de_var 2) (de_c fun _ => .int _)) da_nil))) (dg_name 3) (ds_seq (ds_asg (de_div (de_sub (de_mulU (de_var 3) (de_var 3)) (de_var 0)) (de_mulU (de_c fun _ => .int _) (de_var 2))) (dg_name 4))
      (ds_if (dt_and (dt_test (de_eq (de_mulU (de_mulU (de_c fun _ => .int _) (de_var 2)) (de_var 4)) (de_sub (de_mulU (de_var 3) (de_var 3)) (de_var 0)))) (dt_and (dt_test (de_cmp (p := fun i j => decide (i ≤ j)) (de_var 2) (de_var 4))) (dt_and (dt_or (dt_test (de_cmp (p := fun i j => decide (j ≤ i)) (de_var 3) (de_c fun _ => .int _))) (dt_test (de_cmp (p := fun i j => decide (i < j)) (de_var 2) (de_var 4)))) (dt_test (de_eq (de_call (n := 1) (da_cons (de_tup (da_cons (de_var 2) (da_cons (de_var 3) (da_cons (de_var 4) da_nil)))) da_nil)) (de_c fun _ => .int _)))))) (ds_app (de_tup (da_cons (de_var 2) (da_cons (de_var 3) (da_cons (de_var 4) da_nil))))) ds_next))))
      (ds_ret (de_var 1))))
/-! ### _law_discriminant -/
abbrev s__law_discriminant : Stmt := topS 24
abbrev N__law_discriminant : List Str := ["_law_deck_here", "_law_most"]
theorem sc__law_discriminant : FnScope N__law_discriminant ["_law_deck_here", "_law_most"] (defScope s__law_discriminant) := ⟨rfl, rfl, rfl, by decide +kernel, rfl, by decide +kernel, by decide +kernel⟩
def g__law_discriminant : Fs := (sSeq (sIf (fTest (fEq (fCall 2 f__law_draw (fCons (fVar 0) (fCons (fC (.int 6)) fNil))) (fC (.int 0)))) (sRet (fCall 2 f__law_pick (fCons (fVar 0) (fCons (fSeq .tuple (fCons (fNeg (fC (.int 3))) (fCons (fNeg (fC (.int 4))) (fCons (fNeg (fC (.int 2000))) fNil)))) fNil)))) sNext)
    (sRet (fSub (fSub (fC (.int 0)) (f2 gMulU (fC (.int 4)) (f2 gAddU (fC (.int 1)) (fCall 2 f__law_draw (fCons (fVar 0) (fCons (fVar 1) fNil)))))) (fCall 2 f__law_pick (fCons (fVar 0) (fCons (fSeq .tuple (fCons (fC (.int 0)) (fCons (fC (.int 3)) fNil))) fNil))))))
def f__law_discriminant : Fd := fnOf 2 g__law_discriminant
theorem ok__law_discriminant {P : Program} {w : World} {K : Fg} {mg : Str → Option Value} {base : Heap} {T : List Addr} (tx : Tx base mg) (C__law_draw : Cg P w K mg base 1 "_law_draw" ["_law_deck_here", "_law_below"] (spF K T 2 f__law_draw)) (C__law_pick : Cg P w K mg base 2 "_law_pick" ["_law_deck_here", "_law_some"] (spF K T 2 f__law_pick)) {f : Addr} {fd : FuncData} (F : Fun K "_law_discriminant" "_law_discriminant" s__law_discriminant f fd) :
    FnG P w K mg base CX0 3 f fd ["_law_deck_here", "_law_most"] (spF K T 2 f__law_discriminant) := by
  refine fnG_of F sc__law_discriminant (fun vs H Q E h => spF_len h) (fun cdv A outer s H vs Q E hg0 hr h => ?_)
  have hu := hu_of hr
  refine ⟨_, PSs.nox (pss_cons (ps_if (pt_cmpR (op_eqD hr.units) (pe_callC C__law_draw hg0 hr (by decide) (pa_cons (pv 0) (pa_cons pe_int pa_nil))) pe_int (nomark _)) (pss_one (ps_ret (pe_callC C__law_pick hg0 hr (by decide) (pa_cons (pv 0) (pa_cons (pe_tup (pa_cons (pe_un un_neg pe_int) (pa_cons (pe_un un_neg pe_int) (pa_cons (pe_un un_neg pe_int) pa_nil)))) pa_nil))))) pss_nil)
      (pss_one (ps_ret (pe_op op_sub (pe_op op_sub pe_int (pe_op op_mulU pe_int (pe_op op_addU pe_int (pe_callC C__law_draw hg0 hr (by decide) (pa_cons (pv 0) (pa_cons (pv 1) pa_nil)))))) (pe_callC C__law_pick hg0 hr (by decide) (pa_cons (pv 0) (pa_cons (pe_tup (pa_cons pe_int (pa_cons pe_int pa_nil))) pa_nil))))))), spF_body (N := N__law_discriminant) (g := g__law_discriminant) (by decide) ?_ h⟩
  unfold g__law_discriminant
  exact (ds_seq (ds_if (dt_test (de_eq (de_call (n := 2) (da_cons (de_var 0) (da_cons (de_c fun _ => .int _) da_nil))) (de_c fun _ => .int _))) (ds_ret (de_call (n := 2) (da_cons (de_var 0) (da_cons (de_tup (da_cons (de_neg (de_c fun _ => .int _)) (da_cons (de_neg (de_c fun _ => .int _)) (da_cons (de_neg (de_c fun _ => .int _)) da_nil)))) da_nil)))) ds_next)
      (ds_ret (de_sub (de_sub (de_c fun _ => .int _) (de_mulU (de_c fun _ => .int _) (de_addU (de_c fun _ => .int _) (de_call (n := 2) (da_cons (de_var 0) (da_cons (de_var 1) da_nil)))))) (de_call (n := 2) (da_cons (de_var 0) (da_cons (de_tup (da_cons (de_c fun _ => .int _) (da_cons (de_c fun _ => .int _) da_nil))) da_nil))))))
/-! ### _law_change -/
abbrev s__law_change : Stmt := topS 25
abbrev N__law_change : List Str := ["_law_deck_here", "_law_many", "_law_found", "_law_turn", "_law_x"]
theorem sc__law_change : FnScope N__law_change ["_law_deck_here", "_law_many"] (defScope s__law_change) := ⟨rfl, rfl, rfl, by decide +kernel, rfl, by decide +kernel, by decide +kernel⟩
def g__law_change : Fs := (sSeq (sAsg (fSeq .tuple (fCons (fC (.int 1)) (fCons (fC (.int 0)) (fCons (fC (.int 0)) (fCons (fC (.int 1)) fNil))))) (qName 2))
    (sSeq (sFor (wRng1 (fCons (fCall 2 f__law_draw (fCons (fVar 0) (fCons (f2 gAddU (fVar 1) (fC (.int 1))) fNil))) fNil)) (qName 3) (sSeq (sAsg (fSub (fCall 2 f__law_draw (fCons (fVar 0) (fCons (fC (.int 7)) fNil))) (fC (.int 3))) (qName 4))
    (sAsg (fCall 2 f__law_product (fCons (fVar 2) (fCons (fCall 2 f__law_pick (fCons (fVar 0) (fCons (fSeq .tuple (fCons (fSeq .tuple (fCons (fC (.int 1)) (fCons (fVar 4) (fCons (fC (.int 0)) (fCons (fC (.int 1)) fNil))))) (fCons (fSeq .tuple (fCons (fC (.int 1)) (fCons (fC (.int 0)) (fCons (fVar 4) (fCons (fC (.int 1)) fNil))))) (fCons (fSeq .tuple (fCons (fC (.int 0)) (fCons (fNeg (fC (.int 1))) (fCons (fC (.int 1)) (fCons (fC (.int 0)) fNil))))) (fCons (fSeq .tuple (fCons (fNeg (fC (.int 1))) (fCons (fC (.int 0)) (fCons (fC (.int 0)) (fCons (fNeg (fC (.int 1))) fNil))))) fNil))))) fNil))) fNil))) (qName 2))))
    (sRet (fVar 2))))
def f__law_change : Fd := fnOf 5 g__law_change
theorem ok__law_change {P : Program} {w : World} {K : Fg} {mg : Str → Option Value} {base : Heap} {T : List Addr} (tx : Tx base mg) (C__law_draw : Cg P w K mg base 1 "_law_draw" ["_law_deck_here", "_law_below"] (spF K T 2 f__law_draw)) (C__law_pick : Cg P w K mg base 2 "_law_pick" ["_law_deck_here", "_law_some"] (spF K T 2 f__law_pick)) (C__law_product : Cg P w K mg base 1 "_law_product" ["_law_one", "_law_other"] (spF K T 2 f__law_product)) {f : Addr} {fd : FuncData} (F : Fun K "_law_change" "_law_change" s__law_change f fd) :
    FnG P w K mg base CX0 3 f fd ["_law_deck_here", "_law_many"] (spF K T 2 f__law_change) := by
  refine fnG_of F sc__law_change (fun vs H Q E h => spF_len h) (fun cdv A outer s H vs Q E hg0 hr h => ?_)
  have hu := hu_of hr
  refine ⟨_, PSs.nox (pss_cons (ps_set (i := 2) sc__law_change.nd rfl (Or.inl rfl) (pe_tup (pa_cons pe_int (pa_cons pe_int (pa_cons pe_int (pa_cons pe_int pa_nil))))))
      (pss_cons (ps_for PassesOwn.never rfl (pi_range1 (by rfl) tx.z_range (pa_cons (pe_callC C__law_draw hg0 hr (by decide) (pa_cons (pv 0) (pa_cons (pe_op op_addU (pv 1) pe_int) pa_nil))) pa_nil)) (pg_name (i := 3) sc__law_change.nd rfl (Or.inl rfl)) (pss_cons (ps_set (i := 4) sc__law_change.nd rfl (Or.inl rfl) (pe_op op_sub (pe_callC C__law_draw hg0 hr (by decide) (pa_cons (pv 0) (pa_cons pe_int pa_nil))) pe_int))
      (pss_one (ps_set (i := 2) sc__law_change.nd rfl (Or.inl rfl) (pe_callC C__law_product hg0 hr (by decide) (pa_cons (pv 2) (pa_cons (pe_callC C__law_pick hg0 hr (by decide) (pa_cons (pv 0) (pa_cons (pe_tup (pa_cons (pe_tup (pa_cons pe_int (pa_cons (pv 4) (pa_cons pe_int (pa_cons pe_int pa_nil))))) (pa_cons (pe_tup (pa_cons pe_int (pa_cons pe_int (pa_cons (pv 4) (pa_cons pe_int pa_nil))))) (pa_cons (pe_tup (pa_cons pe_int (pa_cons (pe_un un_neg pe_int) (pa_cons pe_int (pa_cons pe_int pa_nil))))) (pa_cons (pe_tup (pa_cons (pe_un un_neg pe_int) (pa_cons pe_int (pa_cons pe_int (pa_cons (pe_un un_neg pe_int) pa_nil))))) pa_nil))))) pa_nil))) pa_nil)))))))
      (pss_one (ps_ret (pv 2))))), spF_body (N := N__law_change) (g := g__law_change) (by decide) ?_ h⟩
  unfold g__law_change
  exact (ds_seq (ds_asg (de_tup (da_cons (de_c fun _ => .int _) (da_cons (de_c fun _ => .int _) (da_cons (de_c fun _ => .int _) (da_cons (de_c fun _ => .int _) da_nil))))) (dg_name 2))
      (ds_seq (ds_for (di_rng1 (da_cons (de_call (n := 2) (da_cons (de_var 0) (da_cons (de_addU (de_var 1) (de_c fun _ => .int _)) da_nil))) da_nil)) (dg_name 3) (ds_seq (ds_asg (de_sub (de_call (n := 2) (da_cons (de_var 0) (da_cons (de_c fun _ => .int _) da_nil))) (de_c fun _ => .int _)) (dg_name 4))
      (ds_asg (de_call (n := 2) (da_cons (de_var 2) (da_cons (de_call (n := 2) (da_cons (de_var 0) (da_cons (de_tup (da_cons (de_tup (da_cons (de_c fun _ => .int _) (da_cons (de_var 4) (da_cons (de_c fun _ => .int _) (da_cons (de_c fun _ => .int _) da_nil))))) (da_cons (de_tup (da_cons (de_c fun _ => .int _) (da_cons (de_c fun _ => .int _) (da_cons (de_var 4) (da_cons (de_c fun _ => .int _) da_nil))))) (da_cons (de_tup (da_cons (de_c fun _ => .int _) (da_cons (de_neg (de_c fun _ => .int _)) (da_cons (de_c fun _ => .int _) (da_cons (de_c fun _ => .int _) da_nil))))) (da_cons (de_tup (da_cons (de_neg (de_c fun _ => .int _)) (da_cons (de_c fun _ => .int _) (da_cons (de_c fun _ => .int _) (da_cons (de_neg (de_c fun _ => .int _)) da_nil))))) da_nil))))) da_nil))) da_nil))) (dg_name 2))))
      (ds_ret (de_var 2))))
/-! ### _law_form -/
abbrev s__law_form : Stmt := topS 26
abbrev N__law_form : List Str := ["_law_deck_here", "_law_discriminant_here", "_law_many"]
theorem sc__law_form : FnScope N__law_form ["_law_deck_here", "_law_discriminant_here", "_law_many"] (defScope s__law_form) := ⟨rfl, rfl, rfl, by decide +kernel, rfl, by decide +kernel, by decide +kernel⟩
def g__law_form : Fs := (sRet (fCall 2 f__law_led (fCons (fCall 2 f__law_pick (fCons (fVar 0) (fCons (fCall 1 f__law_classes (fCons (fVar 1) fNil)) fNil))) (fCons (fCall 2 f__law_change (fCons (fVar 0) (fCons (fVar 2) fNil))) fNil))))
def f__law_form : Fd := fnOf 3 g__law_form
theorem ok__law_form {P : Program} {w : World} {K : Fg} {mg : Str → Option Value} {base : Heap} {T : List Addr} (tx : Tx base mg) (C__law_classes : Cg P w K mg base 2 "_law_classes" ["_law_discriminant_here"] (spF K T 1 f__law_classes)) (C__law_pick : Cg P w K mg base 2 "_law_pick" ["_law_deck_here", "_law_some"] (spF K T 2 f__law_pick)) (C__law_change : Cg P w K mg base 3 "_law_change" ["_law_deck_here", "_law_many"] (spF K T 2 f__law_change)) (C__law_led : Cg P w K mg base 1 "_law_led" ["_law_form_here", "_law_change_here"] (spF K T 2 f__law_led)) {f : Addr} {fd : FuncData} (F : Fun K "_law_form" "_law_form" s__law_form f fd) :
    FnG P w K mg base CX0 4 f fd ["_law_deck_here", "_law_discriminant_here", "_law_many"] (spF K T 3 f__law_form) := by
  refine fnG_of F sc__law_form (fun vs H Q E h => spF_len h) (fun cdv A outer s H vs Q E hg0 hr h => ?_)
  have hu := hu_of hr
  refine ⟨_, PSs.nox (pss_one (ps_ret (pe_callC C__law_led hg0 hr (by decide) (pa_cons (pe_callC C__law_pick hg0 hr (by decide) (pa_cons (pv 0) (pa_cons (pe_callC C__law_classes hg0 hr (by decide) (pa_cons (pv 1) pa_nil)) pa_nil))) (pa_cons (pe_callC C__law_change hg0 hr (by decide) (pa_cons (pv 0) (pa_cons (pv 2) pa_nil))) pa_nil))))), spF_body (N := N__law_form) (g := g__law_form) (by decide) ?_ h⟩
  unfold g__law_form
  exact (ds_ret (de_call (n := 2) (da_cons (de_call (n := 2) (da_cons (de_var 0) (da_cons (de_call (n := 1) (da_cons (de_var 1) da_nil)) da_nil))) (da_cons (de_call (n := 2) (da_cons (de_var 0) (da_cons (de_var 2) da_nil))) da_nil))))
/-! ### _law_bent -/
abbrev s__law_bent : Stmt := topS 27
abbrev N__law_bent : List Str := ["_law_deck_here", "_law_thing", "_law_at"]
theorem sc__law_bent : FnScope N__law_bent ["_law_deck_here", "_law_thing"] (defScope s__law_bent) := ⟨rfl, rfl, rfl, by decide +kernel, rfl, by decide +kernel, by decide +kernel⟩
def g__law_bent (self_ : Fd) : Fs := (sSeq (sIf (tAndF (fTest (f1 (gIsi "tuple") (fVar 1))) (tAndF (fTest (fNe (fVar 1) (fSeq .tuple fNil))) (fTest (fCmp (fun i j => decide (j < i)) (fCall 2 f__law_draw (fCons (fVar 0) (fCons (fC (.int 3)) fNil))) (fC (.int 0)))))) (sSeq (sAsg (fCall 2 f__law_draw (fCons (fVar 0) (fCons (f1 gLen (fVar 1)) fNil))) (qName 2))
    (sRet (f2 gAddU (f2 gAddU (fSlU (fVar 1) fNoPart (fPart (fVar 2))) (fSeq .tuple (fCons (fCall 2 self_ (fCons (fVar 0) (fCons (fIx (fVar 1) (fVar 2)) fNil))) fNil))) (fSlU (fVar 1) (fPart (f2 gAddU (fVar 2) (fC (.int 1)))) fNoPart)))) sNext)
    (sSeq (sIf (fTest (f1 (gIsi "tuple") (fVar 1))) (sRet (fCall 2 f__law_pick (fCons (fVar 0) (fCons (fSeq .list (fCons (f1 gListOf (fVar 1)) (fCons (fSlU (fVar 1) fNoPart (fPart (fNeg (fC (.int 1))))) (fCons (f2 gAddU (fVar 1) (fSeq .tuple (fCons (fC (.int 0)) fNil))) (fCons (f2 gAddU (fVar 1) (fSlU (fVar 1) (fPart (fNeg (fC (.int 1)))) fNoPart)) (fCons (fRevU (fVar 1)) (fCons (fSeq .tuple (fCons (fVar 1) fNil)) (fCons (fC .none) (fCons (fSeq .tuple fNil) (fCons (fC (.str "()")) (fCons (fC (.dict [])) (fCons (fC (.int 0)) (fCons (fSeq .list (fCons (fVar 1) fNil)) (fCons (f2 gAddU (fSlU (fVar 1) (fPart (fC (.int 1))) fNoPart) (fSlU (fVar 1) fNoPart (fPart (fC (.int 1))))) (fCons (fDisp (((Sum.inr "a"), (fVar 1)) :: [])) fNil))))))))))))))) fNil)))) sNext)
    (sSeq (sIf (fTest (f1 (gIsi "int") (fVar 1))) (sRet (fCall 2 f__law_pick (fCons (fVar 0) (fCons (fSeq .list (fCons (f2 gAddU (fVar 1) (fC (.int 1))) (fCons (fSub (fC (.int 0)) (fVar 1)) (fCons (fSub (fVar 1) (fC (.int 1))) (fCons (fC (.int 0)) (fCons (fC (.bool true)) (fCons (fC (.bool false)) (fCons (f1 gStr (fVar 1)) (fCons (fC .none) (fCons (fSeq .tuple (fCons (fVar 1) fNil)) (fCons (fSeq .list (fCons (fVar 1) fNil)) (fCons (fC (.int 1)) fNil)))))))))))) fNil)))) sNext)
    (sRet (fCall 2 f__law_pick (fCons (fVar 0) (fCons (fSeq .list (fCons (fVar 1) (fCons (fC .none) (fCons (fSeq .tuple (fCons (fVar 1) fNil)) (fCons (fC (.int 0)) (fCons (fC (.str "x")) (fCons (fC (.str "")) (fCons (fSeq .list (fCons (fVar 1) fNil)) fNil)))))))) fNil)))))))
def f__law_bent_at : Nat → Fd
  | 0 => fun _ _ => none
  | n + 1 => fnOf 3 (g__law_bent (f__law_bent_at n))
def f__law_bent : Fd := f__law_bent_at recMost
theorem ok__law_bent {P : Program} {w : World} {K : Fg} {mg : Str → Option Value} {base : Heap} {T : List Addr} (tx : Tx base mg) (C__law_draw : Cg P w K mg base 1 "_law_draw" ["_law_deck_here", "_law_below"] (spF K T 2 f__law_draw)) (C__law_pick : Cg P w K mg base 2 "_law_pick" ["_law_deck_here", "_law_some"] (spF K T 2 f__law_pick)) {f : Addr} {fd : FuncData} (F : Fun K "_law_bent" "_law_bent" s__law_bent f fd) (hm : mg "_law_bent" = some (.ref f)) (hb : Binds K fd ["_law_deck_here", "_law_thing"] []) : ∀ n : Nat,
    FnG P w K mg base CX0 (3 + n) f fd ["_law_deck_here", "_law_thing"] (spF K T 2 (f__law_bent_at n))
  | 0 => by
    refine fnG_of F sc__law_bent (fun vs H Q E h => spF_len h) (fun cdv A outer s H vs Q E hg0 hr h => ?_)
    exact (spF_none h).elim
  | n + 1 => by
    have C__law_bent : Cg P w K mg base (3 + n) "_law_bent" ["_law_deck_here", "_law_thing"] (spF K T 2 (f__law_bent_at n)) := ⟨f, fd, ok__law_bent tx C__law_draw C__law_pick F hm hb n, hm, F.kp, hb⟩
    refine fnG_of F sc__law_bent (fun vs H Q E h => spF_len h) (fun cdv A outer s H vs Q E hg0 hr h => ?_)
    have hu := hu_of hr
    refine ⟨_, PSs.nox (pss_cons (ps_if (PW.pt (pw_and (pt_val (pe_callB (id := "isinstance") call_isi (by rfl) tx.z_isinstance (by decide +kernel) (pa_cons (pv 1) (pa_cons (pe_bltn (v := .ty "tuple") (by rfl) tx.z_tuple (u := .type "tuple") (by decide +kernel) rfl) pa_nil)))) (pw_and (pt_cmpR (op_neD hr.units) (pv 1) (pe_tup pa_nil) (nomark _)) (pw_and1 (pt_cmpR op_gt (pe_callC C__law_draw hg0 hr (Nat.le_add_right_of_le (by decide)) (pa_cons (pv 0) (pa_cons pe_int pa_nil))) pe_int (nomark _)))))) (pss_cons (ps_set (i := 2) sc__law_bent.nd rfl (Or.inl rfl) (pe_callC C__law_draw hg0 hr (Nat.le_add_right_of_le (by decide)) (pa_cons (pv 0) (pa_cons (pe_callB (id := "len") call_len_seq (by rfl) tx.z_len (by decide +kernel) (pa_cons (pv 1) pa_nil)) pa_nil))))
      (pss_one (ps_ret (pe_op op_addU (pe_op op_addU (pe_slice sl_u (pv 1) po_none (po_some (pv 2))) (pe_tup (pa_cons (pe_callC C__law_bent hg0 hr (Nat.le_refl _) (pa_cons (pv 0) (pa_cons (pe_ix ix_seq (pv 1) (pv 2) (fun _ _ => rfl)) pa_nil))) pa_nil))) (pe_slice sl_u (pv 1) (po_some (pe_op op_addU (pv 2) pe_int)) po_none))))) pss_nil)
      (pss_cons (ps_if (pt_val (pe_callB (id := "isinstance") call_isi (by rfl) tx.z_isinstance (by decide +kernel) (pa_cons (pv 1) (pa_cons (pe_bltn (v := .ty "tuple") (by rfl) tx.z_tuple (u := .type "tuple") (by decide +kernel) rfl) pa_nil)))) (pss_one (ps_ret (pe_callC C__law_pick hg0 hr (Nat.le_add_right_of_le (by decide)) (pa_cons (pv 0) (pa_cons (pe_lst (pa_cons (pe_callTy (T := "list") call_list_of (by rfl) tx.z_list (by decide +kernel) (pa_cons (pv 1) pa_nil)) (pa_cons (pe_slice sl_u (pv 1) po_none (po_some (pe_un un_neg pe_int))) (pa_cons (pe_op op_addU (pv 1) (pe_tup (pa_cons pe_int pa_nil))) (pa_cons (pe_op op_addU (pv 1) (pe_slice sl_u (pv 1) (po_some (pe_un un_neg pe_int)) po_none)) (pa_cons (pe_revU (pv 1)) (pa_cons (pe_tup (pa_cons (pv 1) pa_nil)) (pa_cons pe_non (pa_cons (pe_tup pa_nil) (pa_cons pe_str (pa_cons pe_dnewK (pa_cons pe_int (pa_cons (pe_lst (pa_cons (pv 1) pa_nil)) (pa_cons (pe_op op_addU (pe_slice sl_u (pv 1) (po_some pe_int) po_none) (pe_slice sl_u (pv 1) po_none (po_some pe_int))) (pa_cons (pe_disp (pps_cons pe_str (pv 1) pps_nil) rfl rfl (by simp) (by decide)) pa_nil))))))))))))))) pa_nil))))) pss_nil)
      (pss_cons (ps_if (pt_val (pe_callB (id := "isinstance") call_isi (by rfl) tx.z_isinstance (by decide +kernel) (pa_cons (pv 1) (pa_cons (pe_bltn (v := .ty "int") (by rfl) tx.z_int (u := .type "int") (by decide +kernel) rfl) pa_nil)))) (pss_one (ps_ret (pe_callC C__law_pick hg0 hr (Nat.le_add_right_of_le (by decide)) (pa_cons (pv 0) (pa_cons (pe_lst (pa_cons (pe_op op_addU (pv 1) pe_int) (pa_cons (pe_op op_sub pe_int (pv 1)) (pa_cons (pe_op op_sub (pv 1) pe_int) (pa_cons pe_int (pa_cons pe_bl (pa_cons pe_bl (pa_cons (pe_callTy (T := "str") call_str_int (by rfl) tx.z_str (by decide +kernel) (pa_cons (pv 1) pa_nil)) (pa_cons pe_non (pa_cons (pe_tup (pa_cons (pv 1) pa_nil)) (pa_cons (pe_lst (pa_cons (pv 1) pa_nil)) (pa_cons pe_int pa_nil)))))))))))) pa_nil))))) pss_nil)
      (pss_one (ps_ret (pe_callC C__law_pick hg0 hr (Nat.le_add_right_of_le (by decide)) (pa_cons (pv 0) (pa_cons (pe_lst (pa_cons (pv 1) (pa_cons pe_non (pa_cons (pe_tup (pa_cons (pv 1) pa_nil)) (pa_cons pe_int (pa_cons pe_str (pa_cons pe_str (pa_cons (pe_lst (pa_cons (pv 1) pa_nil)) pa_nil)))))))) pa_nil)))))))), spF_body (N := N__law_bent) (g := g__law_bent (f__law_bent_at n)) (by decide) ?_ h⟩
    unfold g__law_bent
    exact (ds_seq (ds_if (dt_and (dt_b (de_isi "tuple" (by decide) (de_var 1))) (dt_and (dt_test (de_ne (de_var 1) (de_tup da_nil))) (dt_test (de_cmp (p := fun i j => decide (j < i)) (de_call (n := 2) (da_cons (de_var 0) (da_cons (de_c fun _ => .int _) da_nil))) (de_c fun _ => .int _))))) (ds_seq (ds_asg (de_call (n := 2) (da_cons (de_var 0) (da_cons (de_len (de_var 1)) da_nil))) (dg_name 2))
      (ds_ret (de_addU (de_addU (de_slU (de_var 1) do_none (do_some (de_var 2))) (de_tup (da_cons (de_call (n := 2) (da_cons (de_var 0) (da_cons (de_ix (de_var 1) (de_var 2)) da_nil))) da_nil))) (de_slU (de_var 1) (do_some (de_addU (de_var 2) (de_c fun _ => .int _))) do_none)))) ds_next)
      (ds_seq (ds_if (dt_b (de_isi "tuple" (by decide) (de_var 1))) (ds_ret (de_call (n := 2) (da_cons (de_var 0) (da_cons (de_lst (da_cons (de_listOf (de_var 1)) (da_cons (de_slU (de_var 1) do_none (do_some (de_neg (de_c fun _ => .int _)))) (da_cons (de_addU (de_var 1) (de_tup (da_cons (de_c fun _ => .int _) da_nil))) (da_cons (de_addU (de_var 1) (de_slU (de_var 1) (do_some (de_neg (de_c fun _ => .int _))) do_none)) (da_cons (de_revU (de_var 1)) (da_cons (de_tup (da_cons (de_var 1) da_nil)) (da_cons (de_c fun _ => .non) (da_cons (de_tup da_nil) (da_cons (de_c fun _ => .str _) (da_cons de_dnew (da_cons (de_c fun _ => .int _) (da_cons (de_lst (da_cons (de_var 1) da_nil)) (da_cons (de_addU (de_slU (de_var 1) (do_some (de_c fun _ => .int _)) do_none) (de_slU (de_var 1) do_none (do_some (de_c fun _ => .int _)))) (da_cons (de_disp (DPs.cons (k := (Sum.inr "a")) (de_var 1) DPs.nil)) da_nil))))))))))))))) da_nil)))) ds_next)
      (ds_seq (ds_if (dt_b (de_isi "int" (by decide) (de_var 1))) (ds_ret (de_call (n := 2) (da_cons (de_var 0) (da_cons (de_lst (da_cons (de_addU (de_var 1) (de_c fun _ => .int _)) (da_cons (de_sub (de_c fun _ => .int _) (de_var 1)) (da_cons (de_sub (de_var 1) (de_c fun _ => .int _)) (da_cons (de_c fun _ => .int _) (da_cons (de_c fun _ => .bl _) (da_cons (de_c fun _ => .bl _) (da_cons (de_str1 (de_var 1)) (da_cons (de_c fun _ => .non) (da_cons (de_tup (da_cons (de_var 1) da_nil)) (da_cons (de_lst (da_cons (de_var 1) da_nil)) (da_cons (de_c fun _ => .int _) da_nil)))))))))))) da_nil)))) ds_next)
      (ds_ret (de_call (n := 2) (da_cons (de_var 0) (da_cons (de_lst (da_cons (de_var 1) (da_cons (de_c fun _ => .non) (da_cons (de_tup (da_cons (de_var 1) da_nil)) (da_cons (de_c fun _ => .int _) (da_cons (de_c fun _ => .str _) (da_cons (de_c fun _ => .str _) (da_cons (de_lst (da_cons (de_var 1) da_nil)) da_nil)))))))) da_nil)))))))
/-! ### law -/
abbrev s_law : Stmt := topS 28
abbrev N_law : List Str := ["_law_script", "_law_deck_here", "_law_form_here", "_law_change_here", "_law_things", "_law_thing", "_law_was", "_law_due", "_law_told", "_law_turn"]
theorem sc_law : FnScope N_law ["_law_script"] (defScope s_law) := ⟨rfl, rfl, rfl, by decide +kernel, rfl, by decide +kernel, by decide +kernel⟩
def g_law : Fs := (sSeq (sAsg (fCall 3 f__law_form (fCons (fVar 1) (fCons (fCall 2 f__law_discriminant (fCons (fVar 1) (fCons (fIf (fTest (fEq (fCall 2 f__law_draw (fCons (fVar 1) (fCons (fC (.int 4)) fNil))) (fC (.int 0)))) (fC (.int 499)) (fC (.int 60))) fNil))) (fCons (fC (.int 4)) fNil)))) (qName 2))
    (sSeq (sAsg (fCall 2 f__law_change (fCons (fVar 1) (fCons (fC (.int 5)) fNil))) (qName 3))
    (sSeq (sAsg (fSeq .list (fCons (fVar 2) (fCons (fVar 3) (fCons (fSeq .tuple (fCons (fIx (fVar 2) (fC (.int 0))) (fCons (fIx (fVar 2) (fC (.int 1))) (fCons (fSub (fC (.int 0)) (fIx (fVar 2) (fC (.int 2)))) fNil)))) (fCons (fSeq .tuple (fCons (fSub (fC (.int 0)) (fIx (fVar 2) (fC (.int 0)))) (fCons (fIx (fVar 2) (fC (.int 1))) (fCons (fSub (fC (.int 0)) (fIx (fVar 2) (fC (.int 2)))) fNil)))) (fCons (fSeq .tuple (fCons (fC (.int 1)) (fCons (fC (.int 0)) (fCons (fC (.int 0)) (fCons (fNeg (fC (.int 1))) fNil))))) (fCons (fSeq .tuple (fCons (fC (.int 2)) (fCons (fC (.int 0)) (fCons (fC (.int 0)) (fCons (fC (.int 2)) fNil))))) (fCons (fSeq .tuple (fCons (fC (.int 2)) (fCons (fC (.int 2)) (fCons (fC (.int 2)) fNil)))) (fCons (fSeq .tuple (fCons (fC (.int 2)) (fCons (fC (.int 1)) (fCons (fC (.int 3)) fNil)))) (fCons (fSeq .tuple (fCons (fC (.int 0)) (fCons (fC (.int 1)) (fCons (fC (.int 1)) fNil)))) (fCons (fSeq .tuple (fCons (fC (.int 1)) (fCons (fC (.int 2)) (fCons (fC (.int 1)) fNil)))) (fCons (fSeq .tuple (fCons (fC (.int 1)) (fCons (fC (.int 1)) (fCons (fC (.int 0)) (fCons (fC (.int 1)) fNil))))) (fCons (fSeq .tuple (fCons (fC (.int 1)) (fCons (fC (.int 0)) (fCons (fPow (fC (.int 10)) (fC (.int 39))) fNil)))) (fCons (fSeq .tuple (fCons (fC (.int 1)) (fCons (fPow (fC (.int 10)) (fC (.int 39))) (fCons (fC (.int 0)) (fCons (fC (.int 1)) fNil))))) (fCons (fC .none) (fCons (fC (.str "(1, 0, 1)")) (fCons (fC (.int 0)) (fCons (fC (.dict [])) (fCons (fSeq .list (fCons (fC (.int 1)) (fCons (fC (.int 0)) (fCons (fC (.int 1)) fNil)))) (fCons (fSeq .tuple fNil) (fCons (fC (.bool true)) fNil))))))))))))))))))))) (qName 4))
    (sSeq (sAsg (f2 gAddU (f2 gAddU (fVar 4) (fLc (wRng1 (fCons (fC (.int 10)) fNil)) (qName 9) fYes (fCall 2 f__law_bent (fCons (fVar 1) (fCons (fVar 2) fNil))) [9])) (fLc (wRng1 (fCons (fC (.int 10)) fNil)) (qName 9) fYes (fCall 2 f__law_bent (fCons (fVar 1) (fCons (fVar 3) fNil))) [9])) (qName 4))
    (sSeq (sFor (wSeq (fVar 4)) (qName 5) (sSeq (sPar 6 7 (fCons (f1 gRepr (fVar 5)) (fCons (f2 gAddU (f2 gMulU (fSeq .list (fCons (fCall 1 f__law_is_positive (fCons (fVar 5) fNil)) fNil)) (fC (.int 2))) (f2 gMulU (fSeq .list (fCons (fCall 1 f__law_is_whole (fCons (fVar 5) fNil)) fNil)) (fC (.int 2)))) fNil)))
    (sSeq (sAsg (fSeq .list (fCons (fCall 1 f_is_positive (fCons (fVar 5) fNil)) (fCons (fCallK 1 f_is_positive id (fCons (fVar 5) fNil)) (fCons (fCall 1 f_is_whole_change (fCons (fVar 5) fNil)) (fCons (fCallK 1 f_is_whole_change id (fCons (fVar 5) fNil)) fNil))))) (qName 8))
    (sIf (tOrF (fTest (f2 (gEqS true) (f1 gRepr (fVar 8)) (f1 gRepr (fVar 7)))) (fTest (f2 (gEqS true) (f1 gRepr (fVar 5)) (fVar 6)))) (sRet (fC (.bool false))) sNext))))
    (sRet (fC (.bool true))))))))
theorem okl_law {P : Program} {w : World} {K : Fg} {mg : Str → Option Value} {base : Heap} {T : List Addr} (tx : Tx base mg) (C__law_deck : Cg P w K mg base 1 "_law_deck" ["_law_script"] (spF K T 1 f__law_deck)) (C__law_draw : Cg P w K mg base 1 "_law_draw" ["_law_deck_here", "_law_below"] (spF K T 2 f__law_draw)) (C__law_discriminant : Cg P w K mg base 3 "_law_discriminant" ["_law_deck_here", "_law_most"] (spF K T 2 f__law_discriminant)) (C__law_form : Cg P w K mg base 4 "_law_form" ["_law_deck_here", "_law_discriminant_here", "_law_many"] (spF K T 3 f__law_form)) (C__law_change : Cg P w K mg base 3 "_law_change" ["_law_deck_here", "_law_many"] (spF K T 2 f__law_change)) (C__law_bent : Cg P w K mg base 8 "_law_bent" ["_law_deck_here", "_law_thing"] (spF K T 2 f__law_bent)) (C__law_is_positive : Cg P w K mg base 2 "_law_is_positive" ["_law_thing"] (spF K T 1 f__law_is_positive)) (C__law_is_whole : Cg P w K mg base 2 "_law_is_whole" ["_law_thing"] (spF K T 1 f__law_is_whole)) (C_is_positive : Cg P w K mg base 4 "is_positive" ["thing"] (spF K T 1 f_is_positive)) (C_is_whole_change : Cg P w K mg base 4 "is_whole_change" ["thing"] (spF K T 1 f_is_whole_change)) (W_is_positive : Ck P w K mg base 4 "is_positive" ["thing"] (spF K T 1 f_is_positive)) (W_is_whole_change : Ck P w K mg base 4 "is_whole_change" ["thing"] (spF K T 1 f_is_whole_change)) {f : Addr} {fd : FuncData} (F : Fun K "law" "law" s_law f fd) (good : ∀ ns : List Int, ns.length ≤ 63 → GoodLaw f__law_deck g_law 10 ns) :
    FnG P w K mg base CX0 9 f fd ["_law_script"] (spLaw K T 63) := by
  refine fnG_of F sc_law (fun vs H Q E h => spLaw_len h) (fun cdv A outer s H vs Q E hg0 hr h => ?_)
  have hu := hu_of hr
  refine ⟨_, PSs.nox (pss_cons (ps_set (i := 1) sc_law.nd rfl (Or.inr rfl) (pe_callC C__law_deck hg0 hr (by decide) (pa_cons (pv 0) pa_nil)))
      (pss_cons (ps_set (i := 2) sc_law.nd rfl (Or.inr rfl) (pe_callC C__law_form hg0 hr (by decide) (pa_cons (pv 1) (pa_cons (pe_callC C__law_discriminant hg0 hr (by decide) (pa_cons (pv 1) (pa_cons (pe_ifExp (pt_cmpR (op_eqD hr.units) (pe_callC C__law_draw hg0 hr (by decide) (pa_cons (pv 1) (pa_cons pe_int pa_nil))) pe_int (nomark _)) pe_int pe_int) pa_nil))) (pa_cons pe_int pa_nil)))))
      (pss_cons (ps_set (i := 3) sc_law.nd rfl (Or.inr rfl) (pe_callC C__law_change hg0 hr (by decide) (pa_cons (pv 1) (pa_cons pe_int pa_nil))))
      (pss_cons (ps_set (i := 4) sc_law.nd rfl (Or.inl rfl) (pe_lst (pa_cons (pv 2) (pa_cons (pv 3) (pa_cons (pe_tup (pa_cons (pe_ix ix_seq (pv 2) pe_int (fun _ _ => rfl)) (pa_cons (pe_ix ix_seq (pv 2) pe_int (fun _ _ => rfl)) (pa_cons (pe_op op_sub pe_int (pe_ix ix_seq (pv 2) pe_int (fun _ _ => rfl))) pa_nil)))) (pa_cons (pe_tup (pa_cons (pe_op op_sub pe_int (pe_ix ix_seq (pv 2) pe_int (fun _ _ => rfl))) (pa_cons (pe_ix ix_seq (pv 2) pe_int (fun _ _ => rfl)) (pa_cons (pe_op op_sub pe_int (pe_ix ix_seq (pv 2) pe_int (fun _ _ => rfl))) pa_nil)))) (pa_cons (pe_tup (pa_cons pe_int (pa_cons pe_int (pa_cons pe_int (pa_cons (pe_un un_neg pe_int) pa_nil))))) (pa_cons (pe_tup (pa_cons pe_int (pa_cons pe_int (pa_cons pe_int (pa_cons pe_int pa_nil))))) (pa_cons (pe_tup (pa_cons pe_int (pa_cons pe_int (pa_cons pe_int pa_nil)))) (pa_cons (pe_tup (pa_cons pe_int (pa_cons pe_int (pa_cons pe_int pa_nil)))) (pa_cons (pe_tup (pa_cons pe_int (pa_cons pe_int (pa_cons pe_int pa_nil)))) (pa_cons (pe_tup (pa_cons pe_int (pa_cons pe_int (pa_cons pe_int pa_nil)))) (pa_cons (pe_tup (pa_cons pe_int (pa_cons pe_int (pa_cons pe_int (pa_cons pe_int pa_nil))))) (pa_cons (pe_tup (pa_cons pe_int (pa_cons pe_int (pa_cons (pe_op op_pow pe_int pe_int) pa_nil)))) (pa_cons (pe_tup (pa_cons pe_int (pa_cons (pe_op op_pow pe_int pe_int) (pa_cons pe_int (pa_cons pe_int pa_nil))))) (pa_cons pe_non (pa_cons pe_str (pa_cons pe_int (pa_cons pe_dnewK (pa_cons (pe_lst (pa_cons pe_int (pa_cons pe_int (pa_cons pe_int pa_nil)))) (pa_cons (pe_tup pa_nil) (pa_cons pe_bl pa_nil))))))))))))))))))))))
      (pss_cons (ps_set (i := 4) sc_law.nd rfl (Or.inl rfl) (pe_op op_addU (pe_op op_addU (pv 4) (pe_lc (own := [("_law_turn", 9)]) (g := gName 9) (tt := tYes) rfl sc_law.nd (pi_range1 (by rfl) tx.z_range (pa_cons pe_int pa_nil)) (blkOk_by (N := N_law) (sc := defScope s_law) (by decide +kernel)) (fun _ _ _ _ _ => pg_name (i := 9) sc_law.nd rfl (Or.inl rfl)) (fun _ _ _ _ _ => pts_nil) (fun _ _ _ _ _ => (pe_callC C__law_bent hg0 hr (by decide) (pa_cons (pv 1) (pa_cons (pv 2) pa_nil)))))) (pe_lc (own := [("_law_turn", 9)]) (g := gName 9) (tt := tYes) rfl sc_law.nd (pi_range1 (by rfl) tx.z_range (pa_cons pe_int pa_nil)) (blkOk_by (N := N_law) (sc := defScope s_law) (by decide +kernel)) (fun _ _ _ _ _ => pg_name (i := 9) sc_law.nd rfl (Or.inl rfl)) (fun _ _ _ _ _ => pts_nil) (fun _ _ _ _ _ => (pe_callC C__law_bent hg0 hr (by decide) (pa_cons (pv 1) (pa_cons (pv 3) pa_nil)))))))
      (pss_cons (ps_for PassesOwn.never rfl (pi_seq (pv 4)) (pg_name (i := 5) sc_law.nd rfl (Or.inl rfl)) (pss_cons (ps_par (i := 6) (j := 7) rfl sc_law.nd rfl rfl (by decide) rfl rfl (pa_cons (pe_callB (id := "repr") (call_reprG hg0 hr.units tx.sys) (by rfl) tx.z_repr (by decide +kernel) (pa_cons (pv 5) pa_nil)) (pa_cons (pe_op op_addU (pe_op op_mulU (pe_lst (pa_cons (pe_callC C__law_is_positive hg0 hr (by decide) (pa_cons (pv 5) pa_nil)) pa_nil)) pe_int) (pe_op op_mulU (pe_lst (pa_cons (pe_callC C__law_is_whole hg0 hr (by decide) (pa_cons (pv 5) pa_nil)) pa_nil)) pe_int)) pa_nil)) rfl)
      (pss_cons (ps_set (i := 8) sc_law.nd rfl (Or.inl rfl) (pe_lst (pa_cons (pe_callC C_is_positive hg0 hr (by decide) (pa_cons (pv 5) pa_nil)) (pa_cons (pe_callKC W_is_positive hg0 hr (by decide) (pk_cons (pv 5) pk_nil)) (pa_cons (pe_callC C_is_whole_change hg0 hr (by decide) (pa_cons (pv 5) pa_nil)) (pa_cons (pe_callKC W_is_whole_change hg0 hr (by decide) (pk_cons (pv 5) pk_nil)) pa_nil))))))
      (pss_one (ps_if (PW.pt (pw_or (pt_cmpR op_ne (pe_callB (id := "repr") (call_reprG hg0 hr.units tx.sys) (by rfl) tx.z_repr (by decide +kernel) (pa_cons (pv 8) pa_nil)) (pe_callB (id := "repr") (call_reprG hg0 hr.units tx.sys) (by rfl) tx.z_repr (by decide +kernel) (pa_cons (pv 7) pa_nil)) (nomark _)) (pw_or1 (pt_cmpR op_ne (pe_callB (id := "repr") (call_reprG hg0 hr.units tx.sys) (by rfl) tx.z_repr (by decide +kernel) (pa_cons (pv 5) pa_nil)) (pv 6) (nomark _))))) (pss_one (ps_ret pe_bl)) pss_nil)))))
      (pss_one (ps_ret pe_bl)))))))), law_body (N := N_law) (g := g_law) rfl (by decide) ?_ h good⟩
  unfold g_law
  exact (ds_seq (ds_asg (de_call (n := 3) (da_cons (de_var 1) (da_cons (de_call (n := 2) (da_cons (de_var 1) (da_cons (de_if (dt_test (de_eq (de_call (n := 2) (da_cons (de_var 1) (da_cons (de_c fun _ => .int _) da_nil))) (de_c fun _ => .int _))) (de_c fun _ => .int _) (de_c fun _ => .int _)) da_nil))) (da_cons (de_c fun _ => .int _) da_nil)))) (dg_name 2))
      (ds_seq (ds_asg (de_call (n := 2) (da_cons (de_var 1) (da_cons (de_c fun _ => .int _) da_nil))) (dg_name 3))
      (ds_seq (ds_asg (de_lst (da_cons (de_var 2) (da_cons (de_var 3) (da_cons (de_tup (da_cons (de_ix (de_var 2) (de_c fun _ => .int _)) (da_cons (de_ix (de_var 2) (de_c fun _ => .int _)) (da_cons (de_sub (de_c fun _ => .int _) (de_ix (de_var 2) (de_c fun _ => .int _))) da_nil)))) (da_cons (de_tup (da_cons (de_sub (de_c fun _ => .int _) (de_ix (de_var 2) (de_c fun _ => .int _))) (da_cons (de_ix (de_var 2) (de_c fun _ => .int _)) (da_cons (de_sub (de_c fun _ => .int _) (de_ix (de_var 2) (de_c fun _ => .int _))) da_nil)))) (da_cons (de_tup (da_cons (de_c fun _ => .int _) (da_cons (de_c fun _ => .int _) (da_cons (de_c fun _ => .int _) (da_cons (de_neg (de_c fun _ => .int _)) da_nil))))) (da_cons (de_tup (da_cons (de_c fun _ => .int _) (da_cons (de_c fun _ => .int _) (da_cons (de_c fun _ => .int _) (da_cons (de_c fun _ => .int _) da_nil))))) (da_cons (de_tup (da_cons (de_c fun _ => .int _) (da_cons (de_c fun _ => .int _) (da_cons (de_c fun _ => .int _) da_nil)))) (da_cons (de_tup (da_cons (de_c fun _ => .int _) (da_cons (de_c fun _ => .int _) (da_cons (de_c fun _ => .int _) da_nil)))) (da_cons (de_tup (da_cons (de_c fun _ => .int _) (da_cons (de_c fun _ => .int _) (da_cons (de_c fun _ => .int _) da_nil)))) (da_cons (de_tup (da_cons (de_c fun _ => .int _) (da_cons (de_c fun _ => .int _) (da_cons (de_c fun _ => .int _) da_nil)))) (da_cons (de_tup (da_cons (de_c fun _ => .int _) (da_cons (de_c fun _ => .int _) (da_cons (de_c fun _ => .int _) (da_cons (de_c fun _ => .int _) da_nil))))) (da_cons (de_tup (da_cons (de_c fun _ => .int _) (da_cons (de_c fun _ => .int _) (da_cons (de_pow (de_c fun _ => .int _) (de_c fun _ => .int _)) da_nil)))) (da_cons (de_tup (da_cons (de_c fun _ => .int _) (da_cons (de_pow (de_c fun _ => .int _) (de_c fun _ => .int _)) (da_cons (de_c fun _ => .int _) (da_cons (de_c fun _ => .int _) da_nil))))) (da_cons (de_c fun _ => .non) (da_cons (de_c fun _ => .str _) (da_cons (de_c fun _ => .int _) (da_cons de_dnew (da_cons (de_lst (da_cons (de_c fun _ => .int _) (da_cons (de_c fun _ => .int _) (da_cons (de_c fun _ => .int _) da_nil)))) (da_cons (de_tup da_nil) (da_cons (de_c fun _ => .bl _) da_nil))))))))))))))))))))) (dg_name 4))
      (ds_seq (ds_asg (de_addU (de_addU (de_var 4) (de_lc (vs := [9]) (di_rng1 (da_cons (de_c fun _ => .int _) da_nil)) (dg_name 9) dt_yes (de_call (n := 2) (da_cons (de_var 1) (da_cons (de_var 2) da_nil))) (fun j h => h))) (de_lc (vs := [9]) (di_rng1 (da_cons (de_c fun _ => .int _) da_nil)) (dg_name 9) dt_yes (de_call (n := 2) (da_cons (de_var 1) (da_cons (de_var 3) da_nil))) (fun j h => h))) (dg_name 4))
      (ds_seq (ds_for (di_seq (de_var 4)) (dg_name 5) (ds_seq (ds_par (da_cons (de_repr (de_var 5)) (da_cons (de_addU (de_mulU (de_lst (da_cons (de_call (n := 1) (da_cons (de_var 5) da_nil)) da_nil)) (de_c fun _ => .int _)) (de_mulU (de_lst (da_cons (de_call (n := 1) (da_cons (de_var 5) da_nil)) da_nil)) (de_c fun _ => .int _))) da_nil)))
      (ds_seq (ds_asg (de_lst (da_cons (de_call (n := 1) (da_cons (de_var 5) da_nil)) (da_cons (de_callK (g := id) (gV := id) (da_cons (de_var 5) da_nil) (fun _ _ _ _ _ _ h => h)) (da_cons (de_call (n := 1) (da_cons (de_var 5) da_nil)) (da_cons (de_callK (g := id) (gV := id) (da_cons (de_var 5) da_nil) (fun _ _ _ _ _ _ h => h)) da_nil))))) (dg_name 8))
      (ds_if (dt_or (dt_test (de_neS (de_repr (de_var 8)) (de_repr (de_var 7)))) (dt_test (de_neS (de_repr (de_var 5)) (de_var 6)))) (ds_ret (de_c fun _ => .bl _)) ds_next))))
      (ds_ret (de_c fun _ => .bl _)))))))
/-! ### the facts of the head -/
theorem int_def : IntDef s_is_integer := ⟨⟨fun i => (posOf (defBody s_is_integer)).getD i ⟨0, 0, 0, 0⟩, rfl⟩, rfl, rfl, rfl, rfl, rfl, rfl, rfl⟩
theorem all_mk {q : Program} {l : PySem.W.OpenLaw} {w : World} {K : Fg} {h : Heap} {mg : Str → Option Value} {fa : Addr} (good : ∀ ns : List Int, ns.length ≤ 63 → GoodLaw f__law_deck g_law 10 ns) (X : K.In h) (hns0 : h.Ns mainGlobals mg) (hfa : mg "law" = some (.ref fa)) (tf : TabFacts q K h)
    {f_common_divisor : Addr} {oc_common_divisor kV_common_divisor dc_common_divisor pm_common_divisor ct_common_divisor cd_common_divisor : Value} {od_common_divisor an_common_divisor : Option Addr} {sl_common_divisor : Array (Option Value)}
    {f_is_integer : Addr} {oc_is_integer kV_is_integer dc_is_integer pm_is_integer ct_is_integer cd_is_integer : Value} {od_is_integer an_is_integer : Option Addr} {sl_is_integer : Array (Option Value)}
    {f_is_tuple_of : Addr} {oc_is_tuple_of kV_is_tuple_of dc_is_tuple_of pm_is_tuple_of ct_is_tuple_of cd_is_tuple_of : Value} {od_is_tuple_of an_is_tuple_of : Option Addr} {sl_is_tuple_of : Array (Option Value)}
    {f_is_integers : Addr} {oc_is_integers kV_is_integers dc_is_integers pm_is_integers ct_is_integers : Value} {od_is_integers an_is_integers : Option Addr} {sl_is_integers : Array (Option Value)}
    {co_is_integers ta_is_integers : Addr} {dr_is_integers : DefRec} {oe_is_integers : Value} {oo_is_integers : Option Addr} {ov_is_integers : Array Value} {os_is_integers : Array (Option Value)}
    {f_two_determinant : Addr} {oc_two_determinant kV_two_determinant dc_two_determinant pm_two_determinant ct_two_determinant cd_two_determinant : Value} {od_two_determinant an_two_determinant : Option Addr} {sl_two_determinant : Array (Option Value)}
    {f_discriminant_of : Addr} {oc_discriminant_of kV_discriminant_of dc_discriminant_of pm_discriminant_of ct_discriminant_of cd_discriminant_of : Value} {od_discriminant_of an_discriminant_of : Option Addr} {sl_discriminant_of : Array (Option Value)}
    {f_is_positive : Addr} {oc_is_positive kV_is_positive dc_is_positive pm_is_positive ct_is_positive cd_is_positive : Value} {od_is_positive an_is_positive : Option Addr} {sl_is_positive : Array (Option Value)}
    {f_is_whole_change : Addr} {oc_is_whole_change kV_is_whole_change dc_is_whole_change pm_is_whole_change ct_is_whole_change cd_is_whole_change : Value} {od_is_whole_change an_is_whole_change : Option Addr} {sl_is_whole_change : Array (Option Value)}
    {f__law_deck : Addr} {oc__law_deck kV__law_deck dc__law_deck pm__law_deck ct__law_deck cd__law_deck : Value} {od__law_deck an__law_deck : Option Addr} {sl__law_deck : Array (Option Value)}
    {f__law_draw : Addr} {oc__law_draw kV__law_draw dc__law_draw pm__law_draw ct__law_draw cd__law_draw : Value} {od__law_draw an__law_draw : Option Addr} {sl__law_draw : Array (Option Value)}
    {f__law_pick : Addr} {oc__law_pick kV__law_pick dc__law_pick pm__law_pick ct__law_pick cd__law_pick : Value} {od__law_pick an__law_pick : Option Addr} {sl__law_pick : Array (Option Value)}
    {f__law_common : Addr} {oc__law_common kV__law_common dc__law_common pm__law_common ct__law_common cd__law_common : Value} {od__law_common an__law_common : Option Addr} {sl__law_common : Array (Option Value)}
    {f__law_are_integers : Addr} {oc__law_are_integers kV__law_are_integers dc__law_are_integers pm__law_are_integers ct__law_are_integers cd__law_are_integers : Value} {od__law_are_integers an__law_are_integers : Option Addr} {sl__law_are_integers : Array (Option Value)}
    {f__law_is_positive : Addr} {oc__law_is_positive kV__law_is_positive dc__law_is_positive pm__law_is_positive ct__law_is_positive cd__law_is_positive : Value} {od__law_is_positive an__law_is_positive : Option Addr} {sl__law_is_positive : Array (Option Value)}
    {f__law_is_whole : Addr} {oc__law_is_whole kV__law_is_whole dc__law_is_whole pm__law_is_whole ct__law_is_whole cd__law_is_whole : Value} {od__law_is_whole an__law_is_whole : Option Addr} {sl__law_is_whole : Array (Option Value)}
    {f__law_led : Addr} {oc__law_led kV__law_led dc__law_led pm__law_led ct__law_led cd__law_led : Value} {od__law_led an__law_led : Option Addr} {sl__law_led : Array (Option Value)}
    {f__law_product : Addr} {oc__law_product kV__law_product dc__law_product pm__law_product ct__law_product cd__law_product : Value} {od__law_product an__law_product : Option Addr} {sl__law_product : Array (Option Value)}
    {f__law_classes : Addr} {oc__law_classes kV__law_classes dc__law_classes pm__law_classes ct__law_classes cd__law_classes : Value} {od__law_classes an__law_classes : Option Addr} {sl__law_classes : Array (Option Value)}
    {f__law_discriminant : Addr} {oc__law_discriminant kV__law_discriminant dc__law_discriminant pm__law_discriminant ct__law_discriminant cd__law_discriminant : Value} {od__law_discriminant an__law_discriminant : Option Addr} {sl__law_discriminant : Array (Option Value)}
    {f__law_change : Addr} {oc__law_change kV__law_change dc__law_change pm__law_change ct__law_change cd__law_change : Value} {od__law_change an__law_change : Option Addr} {sl__law_change : Array (Option Value)}
    {f__law_form : Addr} {oc__law_form kV__law_form dc__law_form pm__law_form ct__law_form cd__law_form : Value} {od__law_form an__law_form : Option Addr} {sl__law_form : Array (Option Value)}
    {f__law_bent : Addr} {oc__law_bent kV__law_bent dc__law_bent pm__law_bent ct__law_bent cd__law_bent : Value} {od__law_bent an__law_bent : Option Addr} {sl__law_bent : Array (Option Value)}
    {f_law : Addr} {oc_law kV_law dc_law pm_law ct_law cd_law : Value} {od_law an_law : Option Addr} {sl_law : Array (Option Value)}
    (a_common_divisor : PySem.W.nsIn K mainGlobals "common_divisor" = some (some (.ref f_common_divisor)))
    (l_common_divisor : K.lookup f_common_divisor = some ⟨oc_common_divisor, od_common_divisor, .func (PySem.W.fnOf "common_divisor" "common_divisor" (defArgs s_common_divisor) (defBody s_common_divisor) (defScope s_common_divisor) .none kV_common_divisor dc_common_divisor pm_common_divisor an_common_divisor cd_common_divisor ct_common_divisor), sl_common_divisor⟩)
    (c_common_divisor : PySem.W.codeIn K cd_common_divisor "common_divisor" = true)
    (k_common_divisor : PySem.W.keepIn K (.ref f_common_divisor) = true)
    (a_is_integer : PySem.W.nsIn K mainGlobals "is_integer" = some (some (.ref f_is_integer)))
    (l_is_integer : K.lookup f_is_integer = some ⟨oc_is_integer, od_is_integer, .func (PySem.W.fnOf "is_integer" "is_integer" (defArgs s_is_integer) (defBody s_is_integer) (defScope s_is_integer) .none kV_is_integer dc_is_integer pm_is_integer an_is_integer cd_is_integer ct_is_integer), sl_is_integer⟩)
    (c_is_integer : PySem.W.codeIn K cd_is_integer "is_integer" = true)
    (k_is_integer : PySem.W.keepIn K (.ref f_is_integer) = true)
    (a_is_tuple_of : PySem.W.nsIn K mainGlobals "is_tuple_of" = some (some (.ref f_is_tuple_of)))
    (l_is_tuple_of : K.lookup f_is_tuple_of = some ⟨oc_is_tuple_of, od_is_tuple_of, .func (PySem.W.fnOf "is_tuple_of" "is_tuple_of" (defArgs s_is_tuple_of) (defBody s_is_tuple_of) (defScope s_is_tuple_of) .none kV_is_tuple_of dc_is_tuple_of pm_is_tuple_of an_is_tuple_of cd_is_tuple_of ct_is_tuple_of), sl_is_tuple_of⟩)
    (c_is_tuple_of : PySem.W.codeIn K cd_is_tuple_of "is_tuple_of" = true)
    (k_is_tuple_of : PySem.W.keepIn K (.ref f_is_tuple_of) = true)
    (a_is_integers : PySem.W.nsIn K mainGlobals "is_integers" = some (some (.ref f_is_integers)))
    (l_is_integers : K.lookup f_is_integers = some ⟨oc_is_integers, od_is_integers, .func (PySem.W.fnOf "is_integers" "is_integers" (defArgs s_is_integers) (defBody s_is_integers) (defScope s_is_integers) .none kV_is_integers dc_is_integers pm_is_integers an_is_integers (.ref co_is_integers) ct_is_integers), sl_is_integers⟩)
    (c_is_integers : PySem.W.codeIn K (.ref co_is_integers) "is_integers" = true)
    (k_is_integers : PySem.W.keepIn K (.ref f_is_integers) = true)
    (t_is_integers : K.lookup co_is_integers = some ⟨oe_is_integers, oo_is_integers, .fields ov_is_integers, os_is_integers⟩)
    (v_is_integers : (ov_is_integers[11]? : Option Value) = some (.ref ta_is_integers))
    (o_is_integers : K.lookup ta_is_integers = none)
    (r_is_integers : (recsOf q).find? (fun e => e.name == ("is_integers" : Str)) = some dr_is_integers)
    (a_two_determinant : PySem.W.nsIn K mainGlobals "two_determinant" = some (some (.ref f_two_determinant)))
    (l_two_determinant : K.lookup f_two_determinant = some ⟨oc_two_determinant, od_two_determinant, .func (PySem.W.fnOf "two_determinant" "two_determinant" (defArgs s_two_determinant) (defBody s_two_determinant) (defScope s_two_determinant) .none kV_two_determinant dc_two_determinant pm_two_determinant an_two_determinant cd_two_determinant ct_two_determinant), sl_two_determinant⟩)
    (c_two_determinant : PySem.W.codeIn K cd_two_determinant "two_determinant" = true)
    (k_two_determinant : PySem.W.keepIn K (.ref f_two_determinant) = true)
    (a_discriminant_of : PySem.W.nsIn K mainGlobals "discriminant_of" = some (some (.ref f_discriminant_of)))
    (l_discriminant_of : K.lookup f_discriminant_of = some ⟨oc_discriminant_of, od_discriminant_of, .func (PySem.W.fnOf "discriminant_of" "discriminant_of" (defArgs s_discriminant_of) (defBody s_discriminant_of) (defScope s_discriminant_of) .none kV_discriminant_of dc_discriminant_of pm_discriminant_of an_discriminant_of cd_discriminant_of ct_discriminant_of), sl_discriminant_of⟩)
    (c_discriminant_of : PySem.W.codeIn K cd_discriminant_of "discriminant_of" = true)
    (k_discriminant_of : PySem.W.keepIn K (.ref f_discriminant_of) = true)
    (a_is_positive : PySem.W.nsIn K mainGlobals "is_positive" = some (some (.ref f_is_positive)))
    (l_is_positive : K.lookup f_is_positive = some ⟨oc_is_positive, od_is_positive, .func (PySem.W.fnOf "is_positive" "is_positive" (defArgs s_is_positive) (defBody s_is_positive) (defScope s_is_positive) .none kV_is_positive dc_is_positive pm_is_positive an_is_positive cd_is_positive ct_is_positive), sl_is_positive⟩)
    (c_is_positive : PySem.W.codeIn K cd_is_positive "is_positive" = true)
    (k_is_positive : PySem.W.keepIn K (.ref f_is_positive) = true)
    (a_is_whole_change : PySem.W.nsIn K mainGlobals "is_whole_change" = some (some (.ref f_is_whole_change)))
    (l_is_whole_change : K.lookup f_is_whole_change = some ⟨oc_is_whole_change, od_is_whole_change, .func (PySem.W.fnOf "is_whole_change" "is_whole_change" (defArgs s_is_whole_change) (defBody s_is_whole_change) (defScope s_is_whole_change) .none kV_is_whole_change dc_is_whole_change pm_is_whole_change an_is_whole_change cd_is_whole_change ct_is_whole_change), sl_is_whole_change⟩)
    (c_is_whole_change : PySem.W.codeIn K cd_is_whole_change "is_whole_change" = true)
    (k_is_whole_change : PySem.W.keepIn K (.ref f_is_whole_change) = true)
    (a__law_deck : PySem.W.nsIn K mainGlobals "_law_deck" = some (some (.ref f__law_deck)))
    (l__law_deck : K.lookup f__law_deck = some ⟨oc__law_deck, od__law_deck, .func (PySem.W.fnOf "_law_deck" "_law_deck" (defArgs s__law_deck) (defBody s__law_deck) (defScope s__law_deck) .none kV__law_deck dc__law_deck pm__law_deck an__law_deck cd__law_deck ct__law_deck), sl__law_deck⟩)
    (c__law_deck : PySem.W.codeIn K cd__law_deck "_law_deck" = true)
    (k__law_deck : PySem.W.keepIn K (.ref f__law_deck) = true)
    (a__law_draw : PySem.W.nsIn K mainGlobals "_law_draw" = some (some (.ref f__law_draw)))
    (l__law_draw : K.lookup f__law_draw = some ⟨oc__law_draw, od__law_draw, .func (PySem.W.fnOf "_law_draw" "_law_draw" (defArgs s__law_draw) (defBody s__law_draw) (defScope s__law_draw) .none kV__law_draw dc__law_draw pm__law_draw an__law_draw cd__law_draw ct__law_draw), sl__law_draw⟩)
    (c__law_draw : PySem.W.codeIn K cd__law_draw "_law_draw" = true)
    (k__law_draw : PySem.W.keepIn K (.ref f__law_draw) = true)
    (a__law_pick : PySem.W.nsIn K mainGlobals "_law_pick" = some (some (.ref f__law_pick)))
    (l__law_pick : K.lookup f__law_pick = some ⟨oc__law_pick, od__law_pick, .func (PySem.W.fnOf "_law_pick" "_law_pick" (defArgs s__law_pick) (defBody s__law_pick) (defScope s__law_pick) .none kV__law_pick dc__law_pick pm__law_pick an__law_pick cd__law_pick ct__law_pick), sl__law_pick⟩)
    (c__law_pick : PySem.W.codeIn K cd__law_pick "_law_pick" = true)
    (k__law_pick : PySem.W.keepIn K (.ref f__law_pick) = true)
    (a__law_common : PySem.W.nsIn K mainGlobals "_law_common" = some (some (.ref f__law_common)))
    (l__law_common : K.lookup f__law_common = some ⟨oc__law_common, od__law_common, .func (PySem.W.fnOf "_law_common" "_law_common" (defArgs s__law_common) (defBody s__law_common) (defScope s__law_common) .none kV__law_common dc__law_common pm__law_common an__law_common cd__law_common ct__law_common), sl__law_common⟩)
    (c__law_common : PySem.W.codeIn K cd__law_common "_law_common" = true)
    (k__law_common : PySem.W.keepIn K (.ref f__law_common) = true)
    (a__law_are_integers : PySem.W.nsIn K mainGlobals "_law_are_integers" = some (some (.ref f__law_are_integers)))
    (l__law_are_integers : K.lookup f__law_are_integers = some ⟨oc__law_are_integers, od__law_are_integers, .func (PySem.W.fnOf "_law_are_integers" "_law_are_integers" (defArgs s__law_are_integers) (defBody s__law_are_integers) (defScope s__law_are_integers) .none kV__law_are_integers dc__law_are_integers pm__law_are_integers an__law_are_integers cd__law_are_integers ct__law_are_integers), sl__law_are_integers⟩)
    (c__law_are_integers : PySem.W.codeIn K cd__law_are_integers "_law_are_integers" = true)
    (k__law_are_integers : PySem.W.keepIn K (.ref f__law_are_integers) = true)
    (a__law_is_positive : PySem.W.nsIn K mainGlobals "_law_is_positive" = some (some (.ref f__law_is_positive)))
    (l__law_is_positive : K.lookup f__law_is_positive = some ⟨oc__law_is_positive, od__law_is_positive, .func (PySem.W.fnOf "_law_is_positive" "_law_is_positive" (defArgs s__law_is_positive) (defBody s__law_is_positive) (defScope s__law_is_positive) .none kV__law_is_positive dc__law_is_positive pm__law_is_positive an__law_is_positive cd__law_is_positive ct__law_is_positive), sl__law_is_positive⟩)
    (c__law_is_positive : PySem.W.codeIn K cd__law_is_positive "_law_is_positive" = true)
    (k__law_is_positive : PySem.W.keepIn K (.ref f__law_is_positive) = true)
    (a__law_is_whole : PySem.W.nsIn K mainGlobals "_law_is_whole" = some (some (.ref f__law_is_whole)))
    (l__law_is_whole : K.lookup f__law_is_whole = some ⟨oc__law_is_whole, od__law_is_whole, .func (PySem.W.fnOf "_law_is_whole" "_law_is_whole" (defArgs s__law_is_whole) (defBody s__law_is_whole) (defScope s__law_is_whole) .none kV__law_is_whole dc__law_is_whole pm__law_is_whole an__law_is_whole cd__law_is_whole ct__law_is_whole), sl__law_is_whole⟩)
    (c__law_is_whole : PySem.W.codeIn K cd__law_is_whole "_law_is_whole" = true)
    (k__law_is_whole : PySem.W.keepIn K (.ref f__law_is_whole) = true)
    (a__law_led : PySem.W.nsIn K mainGlobals "_law_led" = some (some (.ref f__law_led)))
    (l__law_led : K.lookup f__law_led = some ⟨oc__law_led, od__law_led, .func (PySem.W.fnOf "_law_led" "_law_led" (defArgs s__law_led) (defBody s__law_led) (defScope s__law_led) .none kV__law_led dc__law_led pm__law_led an__law_led cd__law_led ct__law_led), sl__law_led⟩)
    (c__law_led : PySem.W.codeIn K cd__law_led "_law_led" = true)
    (k__law_led : PySem.W.keepIn K (.ref f__law_led) = true)
    (a__law_product : PySem.W.nsIn K mainGlobals "_law_product" = some (some (.ref f__law_product)))
    (l__law_product : K.lookup f__law_product = some ⟨oc__law_product, od__law_product, .func (PySem.W.fnOf "_law_product" "_law_product" (defArgs s__law_product) (defBody s__law_product) (defScope s__law_product) .none kV__law_product dc__law_product pm__law_product an__law_product cd__law_product ct__law_product), sl__law_product⟩)
    (c__law_product : PySem.W.codeIn K cd__law_product "_law_product" = true)
    (k__law_product : PySem.W.keepIn K (.ref f__law_product) = true)
    (a__law_classes : PySem.W.nsIn K mainGlobals "_law_classes" = some (some (.ref f__law_classes)))
    (l__law_classes : K.lookup f__law_classes = some ⟨oc__law_classes, od__law_classes, .func (PySem.W.fnOf "_law_classes" "_law_classes" (defArgs s__law_classes) (defBody s__law_classes) (defScope s__law_classes) .none kV__law_classes dc__law_classes pm__law_classes an__law_classes cd__law_classes ct__law_classes), sl__law_classes⟩)
    (c__law_classes : PySem.W.codeIn K cd__law_classes "_law_classes" = true)
    (k__law_classes : PySem.W.keepIn K (.ref f__law_classes) = true)
    (a__law_discriminant : PySem.W.nsIn K mainGlobals "_law_discriminant" = some (some (.ref f__law_discriminant)))
    (l__law_discriminant : K.lookup f__law_discriminant = some ⟨oc__law_discriminant, od__law_discriminant, .func (PySem.W.fnOf "_law_discriminant" "_law_discriminant" (defArgs s__law_discriminant) (defBody s__law_discriminant) (defScope s__law_discriminant) .none kV__law_discriminant dc__law_discriminant pm__law_discriminant an__law_discriminant cd__law_discriminant ct__law_discriminant), sl__law_discriminant⟩)
    (c__law_discriminant : PySem.W.codeIn K cd__law_discriminant "_law_discriminant" = true)
    (k__law_discriminant : PySem.W.keepIn K (.ref f__law_discriminant) = true)
    (a__law_change : PySem.W.nsIn K mainGlobals "_law_change" = some (some (.ref f__law_change)))
    (l__law_change : K.lookup f__law_change = some ⟨oc__law_change, od__law_change, .func (PySem.W.fnOf "_law_change" "_law_change" (defArgs s__law_change) (defBody s__law_change) (defScope s__law_change) .none kV__law_change dc__law_change pm__law_change an__law_change cd__law_change ct__law_change), sl__law_change⟩)
    (c__law_change : PySem.W.codeIn K cd__law_change "_law_change" = true)
    (k__law_change : PySem.W.keepIn K (.ref f__law_change) = true)
    (a__law_form : PySem.W.nsIn K mainGlobals "_law_form" = some (some (.ref f__law_form)))
    (l__law_form : K.lookup f__law_form = some ⟨oc__law_form, od__law_form, .func (PySem.W.fnOf "_law_form" "_law_form" (defArgs s__law_form) (defBody s__law_form) (defScope s__law_form) .none kV__law_form dc__law_form pm__law_form an__law_form cd__law_form ct__law_form), sl__law_form⟩)
    (c__law_form : PySem.W.codeIn K cd__law_form "_law_form" = true)
    (k__law_form : PySem.W.keepIn K (.ref f__law_form) = true)
    (a__law_bent : PySem.W.nsIn K mainGlobals "_law_bent" = some (some (.ref f__law_bent)))
    (l__law_bent : K.lookup f__law_bent = some ⟨oc__law_bent, od__law_bent, .func (PySem.W.fnOf "_law_bent" "_law_bent" (defArgs s__law_bent) (defBody s__law_bent) (defScope s__law_bent) .none kV__law_bent dc__law_bent pm__law_bent an__law_bent cd__law_bent ct__law_bent), sl__law_bent⟩)
    (c__law_bent : PySem.W.codeIn K cd__law_bent "_law_bent" = true)
    (k__law_bent : PySem.W.keepIn K (.ref f__law_bent) = true)
    (a_law : PySem.W.nsIn K mainGlobals "law" = some (some (.ref f_law)))
    (l_law : K.lookup f_law = some ⟨oc_law, od_law, .func (PySem.W.fnOf "law" "law" (defArgs s_law) (defBody s_law) (defScope s_law) .none kV_law dc_law pm_law an_law cd_law ct_law), sl_law⟩)
    (c_law : PySem.W.codeIn K cd_law "law" = true)
    (k_law : PySem.W.keepIn K (.ref f_law) = true)
    (z_gcd : PySem.W.nsIn K mainGlobals "gcd" = some (some (.builtin "math.gcd")))
    (z_isinstance : PySem.W.nsIn K mainGlobals "isinstance" = some none)
    (z_int : PySem.W.nsIn K mainGlobals "int" = some none)
    (z_bool : PySem.W.nsIn K mainGlobals "bool" = some none)
    (z_tuple : PySem.W.nsIn K mainGlobals "tuple" = some none)
    (z_len : PySem.W.nsIn K mainGlobals "len" = some none)
    (z_all : PySem.W.nsIn K mainGlobals "all" = some none)
    (z_max : PySem.W.nsIn K mainGlobals "max" = some none)
    (z_abs : PySem.W.nsIn K mainGlobals "abs" = some none)
    (z_range : PySem.W.nsIn K mainGlobals "range" = some none)
    (z_list : PySem.W.nsIn K mainGlobals "list" = some none)
    (z_str : PySem.W.nsIn K mainGlobals "str" = some none)
    (z_repr : PySem.W.nsIn K mainGlobals "repr" = some none) :
    LawHd l w K 9 63 "_law_script" mg fa h := by
  have e := hfa.symm.trans (PySem.W.mg_of X hns0 a_law)
  cases e
  have F_common_divisor := fun_mk (st := s_common_divisor) l_common_divisor c_common_divisor k_common_divisor
  have b_common_divisor := F_common_divisor.binds (ps := ["numbers"]) fun _ _ _ _ _ _ us hl => match us, hl with | [_], _ => rfl
  have F_is_integer := fun_mk (st := s_is_integer) l_is_integer c_is_integer k_is_integer
  have b_is_integer := F_is_integer.binds (ps := ["thing"]) fun _ _ _ _ _ _ us hl => match us, hl with | [_], _ => rfl
  have F_is_tuple_of := fun_mk (st := s_is_tuple_of) l_is_tuple_of c_is_tuple_of k_is_tuple_of
  have b_is_tuple_of := F_is_tuple_of.binds (ps := ["thing", "many"]) fun _ _ _ _ _ _ us hl => match us, hl with | [_, _], _ => rfl
  have F_is_integers : FunC K "is_integers" "is_integers" s_is_integers f_is_integers _ co_is_integers := ⟨⟨oc_is_integers, od_is_integers, kV_is_integers, dc_is_integers, pm_is_integers, an_is_integers, ct_is_integers, sl_is_integers, rfl, l_is_integers, c_is_integers⟩, k_is_integers⟩
  have b_is_integers := F_is_integers.fun.binds (ps := ["thing", "many"]) fun _ _ _ _ _ _ us hl => match us, hl with | [_, _], _ => rfl
  have g_is_integers := tf "is_integers" dr_is_integers co_is_integers ta_is_integers r_is_integers (tab_by a_is_integers l_is_integers rfl t_is_integers v_is_integers)
  have F_two_determinant := fun_mk (st := s_two_determinant) l_two_determinant c_two_determinant k_two_determinant
  have b_two_determinant := F_two_determinant.binds (ps := ["matrix"]) fun _ _ _ _ _ _ us hl => match us, hl with | [_], _ => rfl
  have F_discriminant_of := fun_mk (st := s_discriminant_of) l_discriminant_of c_discriminant_of k_discriminant_of
  have b_discriminant_of := F_discriminant_of.binds (ps := ["form"]) fun _ _ _ _ _ _ us hl => match us, hl with | [_], _ => rfl
  have F_is_positive := fun_mk (st := s_is_positive) l_is_positive c_is_positive k_is_positive
  have b_is_positive := F_is_positive.binds (ps := ["thing"]) fun _ _ _ _ _ _ us hl => match us, hl with | [_], _ => rfl
  have F_is_whole_change := fun_mk (st := s_is_whole_change) l_is_whole_change c_is_whole_change k_is_whole_change
  have b_is_whole_change := F_is_whole_change.binds (ps := ["thing"]) fun _ _ _ _ _ _ us hl => match us, hl with | [_], _ => rfl
  have F__law_deck := fun_mk (st := s__law_deck) l__law_deck c__law_deck k__law_deck
  have b__law_deck := F__law_deck.binds (ps := ["_law_script"]) fun _ _ _ _ _ _ us hl => match us, hl with | [_], _ => rfl
  have F__law_draw := fun_mk (st := s__law_draw) l__law_draw c__law_draw k__law_draw
  have b__law_draw := F__law_draw.binds (ps := ["_law_deck_here", "_law_below"]) fun _ _ _ _ _ _ us hl => match us, hl with | [_, _], _ => rfl
  have F__law_pick := fun_mk (st := s__law_pick) l__law_pick c__law_pick k__law_pick
  have b__law_pick := F__law_pick.binds (ps := ["_law_deck_here", "_law_some"]) fun _ _ _ _ _ _ us hl => match us, hl with | [_, _], _ => rfl
  have F__law_common := fun_mk (st := s__law_common) l__law_common c__law_common k__law_common
  have b__law_common := F__law_common.binds (ps := ["_law_some"]) fun _ _ _ _ _ _ us hl => match us, hl with | [_], _ => rfl
  have F__law_are_integers := fun_mk (st := s__law_are_integers) l__law_are_integers c__law_are_integers k__law_are_integers
  have b__law_are_integers := F__law_are_integers.binds (ps := ["_law_many", "_law_thing"]) fun _ _ _ _ _ _ us hl => match us, hl with | [_, _], _ => rfl
  have F__law_is_positive := fun_mk (st := s__law_is_positive) l__law_is_positive c__law_is_positive k__law_is_positive
  have b__law_is_positive := F__law_is_positive.binds (ps := ["_law_thing"]) fun _ _ _ _ _ _ us hl => match us, hl with | [_], _ => rfl
  have F__law_is_whole := fun_mk (st := s__law_is_whole) l__law_is_whole c__law_is_whole k__law_is_whole
  have b__law_is_whole := F__law_is_whole.binds (ps := ["_law_thing"]) fun _ _ _ _ _ _ us hl => match us, hl with | [_], _ => rfl
  have F__law_led := fun_mk (st := s__law_led) l__law_led c__law_led k__law_led
  have b__law_led := F__law_led.binds (ps := ["_law_form_here", "_law_change_here"]) fun _ _ _ _ _ _ us hl => match us, hl with | [_, _], _ => rfl
  have F__law_product := fun_mk (st := s__law_product) l__law_product c__law_product k__law_product
  have b__law_product := F__law_product.binds (ps := ["_law_one", "_law_other"]) fun _ _ _ _ _ _ us hl => match us, hl with | [_, _], _ => rfl
  have F__law_classes := fun_mk (st := s__law_classes) l__law_classes c__law_classes k__law_classes
  have b__law_classes := F__law_classes.binds (ps := ["_law_discriminant_here"]) fun _ _ _ _ _ _ us hl => match us, hl with | [_], _ => rfl
  have F__law_discriminant := fun_mk (st := s__law_discriminant) l__law_discriminant c__law_discriminant k__law_discriminant
  have b__law_discriminant := F__law_discriminant.binds (ps := ["_law_deck_here", "_law_most"]) fun _ _ _ _ _ _ us hl => match us, hl with | [_, _], _ => rfl
  have F__law_change := fun_mk (st := s__law_change) l__law_change c__law_change k__law_change
  have b__law_change := F__law_change.binds (ps := ["_law_deck_here", "_law_many"]) fun _ _ _ _ _ _ us hl => match us, hl with | [_, _], _ => rfl
  have F__law_form := fun_mk (st := s__law_form) l__law_form c__law_form k__law_form
  have b__law_form := F__law_form.binds (ps := ["_law_deck_here", "_law_discriminant_here", "_law_many"]) fun _ _ _ _ _ _ us hl => match us, hl with | [_, _, _], _ => rfl
  have F__law_bent := fun_mk (st := s__law_bent) l__law_bent c__law_bent k__law_bent
  have b__law_bent := F__law_bent.binds (ps := ["_law_deck_here", "_law_thing"]) fun _ _ _ _ _ _ us hl => match us, hl with | [_, _], _ => rfl
  have F_law := fun_mk (st := s_law) l_law c_law k_law
  have b_law := F_law.binds (ps := ["_law_script"]) fun _ _ _ _ _ _ us hl => match us, hl with | [_], _ => rfl
  refine ⟨PySem.W.fnOf "law" "law" (defArgs s_law) (defBody s_law) (defScope s_law) .none kV_law dc_law pm_law an_law cd_law ct_law, [ta_is_integers], [(co_is_integers, ta_is_integers)], spLaw K [ta_is_integers] 63, (fun b hb => by cases hb with | head => exact g_is_integers.2 | tail _ z => cases z), (fun b hb => by cases hb with | head => exact o_is_integers | tail _ z => cases z), (fun b hb => by cases hb with | head => exact ⟨.head _, g_is_integers.1⟩ | tail _ z => cases z), (fun b hb => by cases hb with | head => exact ⟨_, .head _, rfl⟩ | tail _ z => cases z), fun s u => .of_eq rfl, fun H a ns hl _ ht hs => ⟨a, ns, rfl, hs, hl, fun b hb => ⟨#[], ht b hb, tri_nil⟩, fun _ => rfl⟩, fun base kin nsb sy TB => ?_⟩
  have tx : Tx base mg := { z_gcd := PySem.W.mg_of X hns0 z_gcd, z_isinstance := PySem.W.mg_none_of X hns0 z_isinstance, z_int := PySem.W.mg_none_of X hns0 z_int, z_bool := PySem.W.mg_none_of X hns0 z_bool, z_tuple := PySem.W.mg_none_of X hns0 z_tuple, z_len := PySem.W.mg_none_of X hns0 z_len, z_all := PySem.W.mg_none_of X hns0 z_all, z_max := PySem.W.mg_none_of X hns0 z_max, z_abs := PySem.W.mg_none_of X hns0 z_abs, z_range := PySem.W.mg_none_of X hns0 z_range, z_list := PySem.W.mg_none_of X hns0 z_list, z_str := PySem.W.mg_none_of X hns0 z_str, z_repr := PySem.W.mg_none_of X hns0 z_repr, sys := sy }
  have G_common_divisor : FnG l.prog w K mg base CX0 1 f_common_divisor _ ["numbers"] (spF K [ta_is_integers] 1 G.f_common_divisor) := ok_common_divisor (P := l.prog) (w := w) (base := base) (T := [ta_is_integers]) tx F_common_divisor
  have C_common_divisor : Cg l.prog w K mg base 1 "common_divisor" ["numbers"] (spF K [ta_is_integers] 1 G.f_common_divisor) := ⟨f_common_divisor, _, G_common_divisor, PySem.W.mg_of X hns0 a_common_divisor, k_common_divisor, b_common_divisor⟩
  have G_is_integer : FnG l.prog w K mg base CX0 1 f_is_integer _ ["thing"] (spF K [ta_is_integers] 1 G.f_is_integer) := ok_is_integer (P := l.prog) (w := w) (base := base) (T := [ta_is_integers]) tx F_is_integer
  have C_is_integer : Cg l.prog w K mg base 1 "is_integer" ["thing"] (spF K [ta_is_integers] 1 G.f_is_integer) := ⟨f_is_integer, _, G_is_integer, PySem.W.mg_of X hns0 a_is_integer, k_is_integer, b_is_integer⟩
  have G_is_tuple_of : FnG l.prog w K mg base CX0 1 f_is_tuple_of _ ["thing", "many"] (spF K [ta_is_integers] 2 G.f_is_tuple_of) := ok_is_tuple_of (P := l.prog) (w := w) (base := base) (T := [ta_is_integers]) tx F_is_tuple_of
  have C_is_tuple_of : Cg l.prog w K mg base 1 "is_tuple_of" ["thing", "many"] (spF K [ta_is_integers] 2 G.f_is_tuple_of) := ⟨f_is_tuple_of, _, G_is_tuple_of, PySem.W.mg_of X hns0 a_is_tuple_of, k_is_tuple_of, b_is_tuple_of⟩
  have G_is_integers : FnG l.prog w K mg base CX0 3 f_is_integers _ ["thing", "many"] (spF K [ta_is_integers] 2 G.f_is_integers) := ok_is_integers (T := [ta_is_integers]) tx C_is_tuple_of F_is_integers F_is_integer int_def b_is_integer (PySem.W.mg_of X hns0 a_is_integer) (TB _ (List.mem_cons_self ..)) (List.mem_cons_self ..)
  have C_is_integers : Cg l.prog w K mg base 3 "is_integers" ["thing", "many"] (spF K [ta_is_integers] 2 G.f_is_integers) := ⟨f_is_integers, _, G_is_integers, PySem.W.mg_of X hns0 a_is_integers, k_is_integers, b_is_integers⟩
  have G_two_determinant : FnG l.prog w K mg base CX0 1 f_two_determinant _ ["matrix"] (spF K [ta_is_integers] 1 G.f_two_determinant) := ok_two_determinant (P := l.prog) (w := w) (base := base) (T := [ta_is_integers]) tx F_two_determinant
  have C_two_determinant : Cg l.prog w K mg base 1 "two_determinant" ["matrix"] (spF K [ta_is_integers] 1 G.f_two_determinant) := ⟨f_two_determinant, _, G_two_determinant, PySem.W.mg_of X hns0 a_two_determinant, k_two_determinant, b_two_determinant⟩
  have G_discriminant_of : FnG l.prog w K mg base CX0 1 f_discriminant_of _ ["form"] (spF K [ta_is_integers] 1 G.f_discriminant_of) := ok_discriminant_of (P := l.prog) (w := w) (base := base) (T := [ta_is_integers]) tx F_discriminant_of
  have C_discriminant_of : Cg l.prog w K mg base 1 "discriminant_of" ["form"] (spF K [ta_is_integers] 1 G.f_discriminant_of) := ⟨f_discriminant_of, _, G_discriminant_of, PySem.W.mg_of X hns0 a_discriminant_of, k_discriminant_of, b_discriminant_of⟩
  have G_is_positive : FnG l.prog w K mg base CX0 4 f_is_positive _ ["thing"] (spF K [ta_is_integers] 1 G.f_is_positive) := ok_is_positive (P := l.prog) (w := w) (base := base) (T := [ta_is_integers]) tx C_is_integers C_discriminant_of C_common_divisor F_is_positive
  have C_is_positive : Cg l.prog w K mg base 4 "is_positive" ["thing"] (spF K [ta_is_integers] 1 G.f_is_positive) := ⟨f_is_positive, _, G_is_positive, PySem.W.mg_of X hns0 a_is_positive, k_is_positive, b_is_positive⟩
  have W_is_positive : Ck l.prog w K mg base 4 "is_positive" ["thing"] (spF K [ta_is_integers] 1 G.f_is_positive) := ⟨f_is_positive, _, G_is_positive, PySem.W.mg_of X hns0 a_is_positive, k_is_positive, ⟨fun s ws _ hl => match ws, hl with | [_], _ => .of_eq rfl, fun r => r⟩⟩
  have G_is_whole_change : FnG l.prog w K mg base CX0 4 f_is_whole_change _ ["thing"] (spF K [ta_is_integers] 1 G.f_is_whole_change) := ok_is_whole_change (P := l.prog) (w := w) (base := base) (T := [ta_is_integers]) tx C_is_integers C_two_determinant F_is_whole_change
  have C_is_whole_change : Cg l.prog w K mg base 4 "is_whole_change" ["thing"] (spF K [ta_is_integers] 1 G.f_is_whole_change) := ⟨f_is_whole_change, _, G_is_whole_change, PySem.W.mg_of X hns0 a_is_whole_change, k_is_whole_change, b_is_whole_change⟩
  have W_is_whole_change : Ck l.prog w K mg base 4 "is_whole_change" ["thing"] (spF K [ta_is_integers] 1 G.f_is_whole_change) := ⟨f_is_whole_change, _, G_is_whole_change, PySem.W.mg_of X hns0 a_is_whole_change, k_is_whole_change, ⟨fun s ws _ hl => match ws, hl with | [_], _ => .of_eq rfl, fun r => r⟩⟩
  have G__law_deck : FnG l.prog w K mg base CX0 1 f__law_deck _ ["_law_script"] (spF K [ta_is_integers] 1 G.f__law_deck) := ok__law_deck (P := l.prog) (w := w) (base := base) (T := [ta_is_integers]) tx F__law_deck
  have C__law_deck : Cg l.prog w K mg base 1 "_law_deck" ["_law_script"] (spF K [ta_is_integers] 1 G.f__law_deck) := ⟨f__law_deck, _, G__law_deck, PySem.W.mg_of X hns0 a__law_deck, k__law_deck, b__law_deck⟩
  have G__law_draw : FnG l.prog w K mg base CX0 1 f__law_draw _ ["_law_deck_here", "_law_below"] (spF K [ta_is_integers] 2 G.f__law_draw) := ok__law_draw (P := l.prog) (w := w) (base := base) (T := [ta_is_integers]) tx F__law_draw
  have C__law_draw : Cg l.prog w K mg base 1 "_law_draw" ["_law_deck_here", "_law_below"] (spF K [ta_is_integers] 2 G.f__law_draw) := ⟨f__law_draw, _, G__law_draw, PySem.W.mg_of X hns0 a__law_draw, k__law_draw, b__law_draw⟩
  have G__law_pick : FnG l.prog w K mg base CX0 2 f__law_pick _ ["_law_deck_here", "_law_some"] (spF K [ta_is_integers] 2 G.f__law_pick) := ok__law_pick (P := l.prog) (w := w) (base := base) (T := [ta_is_integers]) tx C__law_draw F__law_pick
  have C__law_pick : Cg l.prog w K mg base 2 "_law_pick" ["_law_deck_here", "_law_some"] (spF K [ta_is_integers] 2 G.f__law_pick) := ⟨f__law_pick, _, G__law_pick, PySem.W.mg_of X hns0 a__law_pick, k__law_pick, b__law_pick⟩
  have G__law_common : FnG l.prog w K mg base CX0 1 f__law_common _ ["_law_some"] (spF K [ta_is_integers] 1 G.f__law_common) := ok__law_common (P := l.prog) (w := w) (base := base) (T := [ta_is_integers]) tx F__law_common
  have C__law_common : Cg l.prog w K mg base 1 "_law_common" ["_law_some"] (spF K [ta_is_integers] 1 G.f__law_common) := ⟨f__law_common, _, G__law_common, PySem.W.mg_of X hns0 a__law_common, k__law_common, b__law_common⟩
  have G__law_are_integers : FnG l.prog w K mg base CX0 1 f__law_are_integers _ ["_law_many", "_law_thing"] (spF K [ta_is_integers] 2 G.f__law_are_integers) := ok__law_are_integers (P := l.prog) (w := w) (base := base) (T := [ta_is_integers]) tx F__law_are_integers
  have C__law_are_integers : Cg l.prog w K mg base 1 "_law_are_integers" ["_law_many", "_law_thing"] (spF K [ta_is_integers] 2 G.f__law_are_integers) := ⟨f__law_are_integers, _, G__law_are_integers, PySem.W.mg_of X hns0 a__law_are_integers, k__law_are_integers, b__law_are_integers⟩
  have G__law_is_positive : FnG l.prog w K mg base CX0 2 f__law_is_positive _ ["_law_thing"] (spF K [ta_is_integers] 1 G.f__law_is_positive) := ok__law_is_positive (P := l.prog) (w := w) (base := base) (T := [ta_is_integers]) tx C__law_are_integers C__law_common F__law_is_positive
  have C__law_is_positive : Cg l.prog w K mg base 2 "_law_is_positive" ["_law_thing"] (spF K [ta_is_integers] 1 G.f__law_is_positive) := ⟨f__law_is_positive, _, G__law_is_positive, PySem.W.mg_of X hns0 a__law_is_positive, k__law_is_positive, b__law_is_positive⟩
  have G__law_is_whole : FnG l.prog w K mg base CX0 2 f__law_is_whole _ ["_law_thing"] (spF K [ta_is_integers] 1 G.f__law_is_whole) := ok__law_is_whole (P := l.prog) (w := w) (base := base) (T := [ta_is_integers]) tx C__law_are_integers F__law_is_whole
  have C__law_is_whole : Cg l.prog w K mg base 2 "_law_is_whole" ["_law_thing"] (spF K [ta_is_integers] 1 G.f__law_is_whole) := ⟨f__law_is_whole, _, G__law_is_whole, PySem.W.mg_of X hns0 a__law_is_whole, k__law_is_whole, b__law_is_whole⟩
  have G__law_led : FnG l.prog w K mg base CX0 1 f__law_led _ ["_law_form_here", "_law_change_here"] (spF K [ta_is_integers] 2 G.f__law_led) := ok__law_led (P := l.prog) (w := w) (base := base) (T := [ta_is_integers]) tx F__law_led
  have C__law_led : Cg l.prog w K mg base 1 "_law_led" ["_law_form_here", "_law_change_here"] (spF K [ta_is_integers] 2 G.f__law_led) := ⟨f__law_led, _, G__law_led, PySem.W.mg_of X hns0 a__law_led, k__law_led, b__law_led⟩
  have G__law_product : FnG l.prog w K mg base CX0 1 f__law_product _ ["_law_one", "_law_other"] (spF K [ta_is_integers] 2 G.f__law_product) := ok__law_product (P := l.prog) (w := w) (base := base) (T := [ta_is_integers]) tx F__law_product
  have C__law_product : Cg l.prog w K mg base 1 "_law_product" ["_law_one", "_law_other"] (spF K [ta_is_integers] 2 G.f__law_product) := ⟨f__law_product, _, G__law_product, PySem.W.mg_of X hns0 a__law_product, k__law_product, b__law_product⟩
  have G__law_classes : FnG l.prog w K mg base CX0 2 f__law_classes _ ["_law_discriminant_here"] (spF K [ta_is_integers] 1 G.f__law_classes) := ok__law_classes (P := l.prog) (w := w) (base := base) (T := [ta_is_integers]) tx C__law_common F__law_classes
  have C__law_classes : Cg l.prog w K mg base 2 "_law_classes" ["_law_discriminant_here"] (spF K [ta_is_integers] 1 G.f__law_classes) := ⟨f__law_classes, _, G__law_classes, PySem.W.mg_of X hns0 a__law_classes, k__law_classes, b__law_classes⟩
  have G__law_discriminant : FnG l.prog w K mg base CX0 3 f__law_discriminant _ ["_law_deck_here", "_law_most"] (spF K [ta_is_integers] 2 G.f__law_discriminant) := ok__law_discriminant (P := l.prog) (w := w) (base := base) (T := [ta_is_integers]) tx C__law_draw C__law_pick F__law_discriminant
  have C__law_discriminant : Cg l.prog w K mg base 3 "_law_discriminant" ["_law_deck_here", "_law_most"] (spF K [ta_is_integers] 2 G.f__law_discriminant) := ⟨f__law_discriminant, _, G__law_discriminant, PySem.W.mg_of X hns0 a__law_discriminant, k__law_discriminant, b__law_discriminant⟩
  have G__law_change : FnG l.prog w K mg base CX0 3 f__law_change _ ["_law_deck_here", "_law_many"] (spF K [ta_is_integers] 2 G.f__law_change) := ok__law_change (P := l.prog) (w := w) (base := base) (T := [ta_is_integers]) tx C__law_draw C__law_pick C__law_product F__law_change
  have C__law_change : Cg l.prog w K mg base 3 "_law_change" ["_law_deck_here", "_law_many"] (spF K [ta_is_integers] 2 G.f__law_change) := ⟨f__law_change, _, G__law_change, PySem.W.mg_of X hns0 a__law_change, k__law_change, b__law_change⟩
  have G__law_form : FnG l.prog w K mg base CX0 4 f__law_form _ ["_law_deck_here", "_law_discriminant_here", "_law_many"] (spF K [ta_is_integers] 3 G.f__law_form) := ok__law_form (P := l.prog) (w := w) (base := base) (T := [ta_is_integers]) tx C__law_classes C__law_pick C__law_change C__law_led F__law_form
  have C__law_form : Cg l.prog w K mg base 4 "_law_form" ["_law_deck_here", "_law_discriminant_here", "_law_many"] (spF K [ta_is_integers] 3 G.f__law_form) := ⟨f__law_form, _, G__law_form, PySem.W.mg_of X hns0 a__law_form, k__law_form, b__law_form⟩
  have G__law_bent : FnG l.prog w K mg base CX0 8 f__law_bent _ ["_law_deck_here", "_law_thing"] (spF K [ta_is_integers] 2 G.f__law_bent) := ok__law_bent (T := [ta_is_integers]) tx C__law_draw C__law_pick F__law_bent (PySem.W.mg_of X hns0 a__law_bent) b__law_bent recMost
  have C__law_bent : Cg l.prog w K mg base 8 "_law_bent" ["_law_deck_here", "_law_thing"] (spF K [ta_is_integers] 2 G.f__law_bent) := ⟨f__law_bent, _, G__law_bent, PySem.W.mg_of X hns0 a__law_bent, k__law_bent, b__law_bent⟩
  exact okl_law (T := [ta_is_integers]) tx C__law_deck C__law_draw C__law_discriminant C__law_form C__law_change C__law_bent C__law_is_positive C__law_is_whole C_is_positive C_is_whole_change W_is_positive W_is_whole_change F_law good
end G
set_option Elab.async false
set_option linter.all false
set_option maxRecDepth 100000
set_option maxHeartbeats 4000000
set_option exponentiation.threshold 3000
namespace G
open PySem PySem.Spec PyProof.Rows L2 DL
/-! ### the pure side -/
theorem lg {n : Nat} {m : Nat} (h : n < 2 ^ m) : n.log2 < m ∨ n = 0 := by
  by_cases e : n = 0
  · exact .inr e
  · exact .inl ((Nat.log2_lt e).mpr h)
theorem lgle {n m : Nat} (h : n < 2 ^ m) : n.log2 ≤ m := by
  rcases lg h with h | h
  · omega
  · subst h; rw [Nat.log2_zero]; exact Nat.zero_le _
theorem cM {i j : Int} (hi : i.natAbs < 2 ^ 1000) (hj : j.natAbs < 2 ^ 1000) : cMul i j = true := by
  unfold cMul
  have h1 := lgle hi
  have h2 := lgle hj
  exact decide_eq_true (by omega)
theorem big1000 {n : Nat} (h : n < 10 ^ 200) : n < 2 ^ 1000 := Nat.lt_trans h (by decide)
theorem cM' {i j : Int} (hi : i.natAbs < 10 ^ 200) (hj : j.natAbs < 10 ^ 200) : cMul i j = true := cM (big1000 hi) (big1000 hj)
theorem cD {i j : Int} (h0 : 0 < j) (hj : j.natAbs < 10 ^ 200) : cDiv i j = true := by
  unfold cDiv
  have h2 := lgle (big1000 hj)
  rw [Bool.and_eq_true]
  exact ⟨decide_eq_true h0, decide_eq_true (by omega)⟩
theorem cMo {i j : Int} (h0 : j ≠ 0) : cMod i j = true := by
  unfold cMod
  exact decide_eq_true h0
def Ok (n : Nat) (k : Dk) : Prop := 0 ≤ k.mixed ∧ k.mixed < 2147483647 ∧ 0 ≤ k.turn ∧ k.turn + n ≤ 1000000 ∧ k.cells.length ≤ 1000
theorem Ok.less {n m : Nat} {k : Dk} (h : Ok n k) (l : m ≤ n) : Ok m k := ⟨h.1, h.2.1, h.2.2.1, by have := h.2.2.2.1; omega, h.2.2.2.2⟩
theorem fm0 (a : Int) {b : Int} (h : 0 < b) : 0 ≤ a.fmod b := Int.fmod_nonneg_of_pos a h
theorem fm1 (a : Int) {b : Int} (h : 0 < b) : a.fmod b < b := Int.fmod_lt_of_pos a h
theorem seq_of {g h : Fs} {env e' : List Sl} {k k' : Dk} {o : Out} (h1 : g env k = .nx e' k') (h2 : h e' k' = o) : sSeq g h env k = o := by
  unfold sSeq; rw [h1]; exact h2
theorem seq_rt {g h : Fs} {env : List Sl} {k k' : Dk} {d : D} (h1 : g env k = .rt d k') : sSeq g h env k = .rt d k' := by
  unfold sSeq; rw [h1]
theorem fn_of {m : Nat} {g : Fs} {ss : List Sl} {k k' : Dk} {d : D} (h : g (ss ++ List.replicate (m - ss.length) .un) k = .rt d k') : fnOf m g ss k = some (d, k') := by
  unfold fnOf; rw [h]
theorem if_t {c : Ft} {g h : Fs} {env : List Sl} {k k' : Dk} {o : Out} (h1 : c env k = some (true, k')) (h2 : g env k' = o) : sIf c g h env k = o := by
  unfold sIf; rw [h1]; exact h2
theorem if_f {c : Ft} {g h : Fs} {env : List Sl} {k k' : Dk} {o : Out} (h1 : c env k = some (false, k')) (h2 : h env k' = o) : sIf c g h env k = o := by
  unfold sIf; rw [h1]; exact h2
theorem ret_of {f : Fe} {env : List Sl} {k k' : Dk} {d : D} (h1 : f env k = some (.dat d, k')) : sRet f env k = .rt d k' := by
  unfold sRet; rw [h1]
def dEnd : Fs := (sSeq (sDkPut 0 putMixed (fMod (f1 gInt (f2 gAddU (f2 gAddU (f2 gMulU (fDkI 0 Dk.mixed) (fC (.int 48271))) (f2 gMulU (fDkI 0 Dk.turn) (fC (.int 69621)))) (fC (.int 1)))) (fC (.int 2147483647))))
    (sRet (fMod (fDiv (fMod (f1 gInt (f2 gMulU (fDkI 0 Dk.mixed) (fDkI 0 Dk.mixed))) (fC (.int 2147483629))) (fC (.int 64))) (fVar 1))))
/-- the last part of a draw -/
theorem draw_end (b : Int) (hb : 0 < b) (c2 : Sl) (n : Nat) (k : Dk) (h : Ok n k) : ∃ r k', dEnd [.deck, .dat (.int b), c2] k = .rt (.int r) k' ∧ 0 ≤ r ∧ r < b ∧ Ok n k' := by
  obtain ⟨h1, h2, h3, h4, h5⟩ := h
  have a1 : cMul k.mixed 48271 = true := cM' (by omega) (by decide)
  have a2 : cMul k.turn 69621 = true := cM' (by omega) (by decide)
  have a3 : ∀ i, cMod i 2147483647 = true := fun i => rfl
  have a4 : ∀ i, cMod i 2147483629 = true := fun i => rfl
  have a5 : ∀ i, cDiv i 64 = true := fun i => by unfold cDiv; exact cD (i := i) (by decide) (by decide)
  have a6 : ∀ i, cMod i b = true := fun i => cMo (by omega)
  have z0 := fm0 (k.mixed * 48271 + k.turn * 69621 + 1) (b := 2147483647) (by decide)
  have z1 := fm1 (k.mixed * 48271 + k.turn * 69621 + 1) (b := 2147483647) (by decide)
  generalize e : (k.mixed * 48271 + k.turn * 69621 + 1).fmod 2147483647 = z at z0 z1
  have a7 : cMul z z = true := cM' (by omega) (by omega)
  refine ⟨((z * z).fmod 2147483629 / 64).fmod b, { k with mixed := z }, ?_, fm0 _ hb, fm1 _ hb, z0, z1, h3, h4, h5⟩
  simp [dEnd, sSeq, sDkPut, putMixed, isDeck, sRet, fMod, fDiv, f1, f2, gInt, gI, gAddU, gMulU, gII, fDkI, fC, fVar, c0, a1, a2, a3, a4, a5, a6, a7, e]
theorem last_some {l : List Int} (h : l ≠ []) : ∃ z, l.getLast? = some z := ⟨l.getLast h, List.getLast?_eq_some_getLast h⟩
theorem draw (b : Int) (hb : 0 < b) (hb2 : b < 1000000) (n : Nat) (k : Dk) (h : Ok (n + 1) k) : ∃ r k', f__law_draw [.deck, .dat (.int b)] k = some (.int r, k') ∧ 0 ≤ r ∧ r < b ∧ Ok n k' := by
  obtain ⟨h1, h2, h3, h4, h5⟩ := h
  have a1 : cPow 10 18 = true := by decide
  have a6 : ∀ i, cMod i b = true := fun i => cMo (by omega)
  have a3 : ∀ i, cMod i 2147483647 = true := fun i => rfl
  have s1 : sDkPut 0 putTurn (f2 gAddU (fDkI 0 Dk.turn) (fC (.int 1))) [.deck, .dat (.int b), .un] k = .nx [.deck, .dat (.int b), .un] { k with turn := k.turn + 1 } := by
    simp [sDkPut, putTurn, isDeck, f2, gAddU, gII, fDkI, fC, c0]
  by_cases hc : k.cells = []
  · obtain ⟨r, k', e, q1, q2, q3⟩ := draw_end b hb .un n { k with turn := k.turn + 1 } ⟨h1, h2, by show 0 ≤ k.turn + 1; omega, by show k.turn + 1 + n ≤ _; omega, h5⟩
    refine ⟨r, k', ?_, q1, q2, q3⟩
    refine fn_of (seq_of s1 (seq_of (e' := [.deck, .dat (.int b), .un]) (k' := { k with turn := k.turn + 1 }) (if_f (k' := { k with turn := k.turn + 1 }) ?_ rfl) e))
    simp [fTest, fDkNe, isDeck, hc]
  · obtain ⟨z, ez⟩ := last_some hc
    have hi : k.cells.isEmpty = false := by cases hk : k.cells with | nil => exact absurd hk hc | cons _ _ => rfl
    have t1 : fTest (fDkNe 0) [.deck, .dat (.int b), .un] { k with turn := k.turn + 1 } = some (true, { k with turn := k.turn + 1 }) := by
      simp [fTest, fDkNe, isDeck, hi]
    have s2 : sAsg (fDkPop 0) (qName 2) [.deck, .dat (.int b), .un] { k with turn := k.turn + 1 } = .nx [.deck, .dat (.int b), .dat (.int z)] { k with turn := k.turn + 1, cells := k.cells.dropLast } := by
      simp [sAsg, fDkPop, isDeck, ez, qName, stor]
    have hl : k.cells.dropLast.length ≤ 1000 := by rw [List.length_dropLast]; omega
    have hl2 : ∀ y : Int, (k.cells.dropLast ++ [y]).length ≤ 1000 := fun y => by
      have hne : k.cells.length ≠ 0 := fun w => hc (List.length_eq_zero_iff.mp w)
      rw [List.length_append, List.length_dropLast, List.length_singleton]
      omega
    by_cases hz : (1000000000000000000 : Int) ≤ z
    · have a2 : cDiv z (if b > 2 then b else 2) = true := cD (by split <;> omega) (by split <;> omega)
      refine ⟨z.fmod b, { k with cells := k.cells.dropLast ++ [z / (if b > 2 then b else 2)], turn := k.turn + 1 }, ?_, fm0 _ hb, fm1 _ hb, h1, h2, by show 0 ≤ k.turn + 1; omega, by show k.turn + 1 + n ≤ _; omega, hl2 _⟩
      refine fn_of (seq_of s1 (seq_rt (if_t t1 (seq_of s2 (seq_rt (if_t (k' := { k with turn := k.turn + 1, cells := k.cells.dropLast }) ?_ (seq_of (e' := [.deck, .dat (.int b), .dat (.int z)]) (k' := { k with cells := k.cells.dropLast ++ [z / (if b > 2 then b else 2)], turn := k.turn + 1 }) ?_ (ret_of ?_))))))))
      · simp [fTest, fCmp, f2, gII, fVar, fPow, fC, c0, a1, hz]
      · have hl' : k.cells.length - 1 < 1000000 := by omega
        simp [sDkApp, isDeck, fDiv, fMax, f2, gII, fVar, fC, c0, a2, hl']
      · simp [fMod, f1, f2, gInt, gI, gII, fVar, a6]
    · have z0 := fm0 (k.mixed + z) (b := 2147483647) (by decide)
      have z1 := fm1 (k.mixed + z) (b := 2147483647) (by decide)
      obtain ⟨r, k', e, q1, q2, q3⟩ := draw_end b hb (.dat (.int z)) n { cells := k.cells.dropLast, mixed := (k.mixed + z).fmod 2147483647, turn := k.turn + 1 } ⟨z0, z1, by show 0 ≤ k.turn + 1; omega, by show k.turn + 1 + n ≤ _; omega, hl⟩
      refine ⟨r, k', ?_, q1, q2, q3⟩
      refine fn_of (seq_of s1 (seq_of (if_t t1 (seq_of s2 (seq_of (e' := [.deck, .dat (.int b), .dat (.int z)]) (k' := { k with turn := k.turn + 1, cells := k.cells.dropLast }) (if_f (k' := { k with turn := k.turn + 1, cells := k.cells.dropLast }) ?_ rfl) ?_))) e))
      · simp [fTest, fCmp, f2, gII, fVar, fPow, fC, c0, a1, hz]
      · simp [sDkPut, putMixed, isDeck, fMod, f1, f2, gInt, gI, gAddU, gII, fDkI, fVar, fC, c0, a3]
end G
set_option Elab.async false
set_option linter.all false
set_option maxRecDepth 100000
set_option maxHeartbeats 4000000
set_option exponentiation.threshold 3000
namespace G
open PySem PySem.Spec PyProof.Rows L2 DL
theorem pick (some_ : D) (ds : List D) (hs : asQ (.dat some_) = some ds) (h0 : 0 < ds.length) (h1 : ds.length < 1000000) (n : Nat) (k : Dk) (h : Ok (n + 1) k) :
    ∃ x k', f__law_pick [.deck, .dat some_] k = some (x, k') ∧ x ∈ ds ∧ Ok n k' := by
  obtain ⟨r, k', e, q1, q2, q3⟩ := draw ds.length (by omega) (by omega) n k h
  have hr : r.toNat < ds.length := by omega
  refine ⟨ds[r.toNat], k', ?_, List.getElem_mem hr, q3⟩
  refine fn_of (ret_of ?_)
  have e2 : atI ds r = some ds[r.toNat] := by
    have z := atI_nat (xs := ds) (j := r.toNat) (List.getElem?_eq_getElem hr)
    rwa [Int.toNat_of_nonneg q1] at z
  simp [fIx, f2, fVar, fCall, fCons, fNil, f1, gLen, hs, okArg, e, gIx, e2]
/-! ### gcd in two ways -/
theorem two_det (p q r s : Int) (h : ∀ z ∈ [p, q, r, s], z.natAbs < 10 ^ 90) (k : Dk) : f_two_determinant [.dat (.tuple [.int p, .int q, .int r, .int s])] k = some (.int (p * s - q * r), k) := by
  have a1 : cMul p s = true := cM' (Nat.lt_trans (h p (by simp)) (by decide)) (Nat.lt_trans (h s (by simp)) (by decide))
  have a2 : cMul q r = true := cM' (Nat.lt_trans (h q (by simp)) (by decide)) (Nat.lt_trans (h r (by simp)) (by decide))
  refine fn_of ?_
  simp [g_two_determinant, sSeq, sAsg, fVar, qTup, asT, qCons, qName, qNil, stor, sRet, fSub, f2, gMulU, gII, c0, a1, a2]
theorem disc (a b c : Int) (h : ∀ z ∈ [a, b, c], z.natAbs < 10 ^ 90) (k : Dk) : f_discriminant_of [.dat (.tuple [.int a, .int b, .int c])] k = some (.int (b * b - 4 * a * c), k) := by
  have ha := h a (by simp)
  have hb := Nat.lt_trans (h b (by simp)) (by decide : 10 ^ 90 < 10 ^ 200)
  have hc := Nat.lt_trans (h c (by simp)) (by decide : 10 ^ 90 < 10 ^ 200)
  have a1 : cMul b b = true := cM' hb hb
  have a2 : cMul 4 a = true := cM' (by decide) (Nat.lt_trans ha (by decide))
  have a3 : cMul (4 * a) c = true := cM' (by rw [Int.natAbs_mul]; exact Nat.lt_of_lt_of_le (Nat.mul_lt_mul_of_pos_left ha (by decide)) (by decide)) hc
  refine fn_of ?_
  simp [g_discriminant_of, sSeq, sAsg, fVar, qTup, asT, qCons, qName, qNil, stor, sRet, fSub, fC, f2, gMulU, gII, c0, a1, a2, a3]
def gcdL (l : List Int) : Nat := l.foldl (fun g z => Nat.gcd g z.natAbs) 0
theorem com_loop (l : List Int) : ∀ (x y : Sl) (g : Nat) (k : Dk), ∃ y', loopF (qName 2) (sAsg (fGcd (fVar 1) (fVar 2)) (qName 1)) (l.map PyData.int) [x, .dat (.int (g : Int)), y] k = .nx [x, .dat (.int ((l.foldl (fun g z => Nat.gcd g z.natAbs) g : Nat) : Int)), y'] k := by
  induction l with
  | nil => intro x y g k; exact ⟨y, rfl⟩
  | cons z r ih =>
    intro x y g k
    obtain ⟨y', e⟩ := ih x (.dat (.int z)) (Nat.gcd g z.natAbs) k
    refine ⟨y', ?_⟩
    simp only [List.map_cons, loopF, List.foldl_cons]
    simp [qName, stor, sAsg, fGcd, f2, fVar, gII, c0]
    exact e
theorem common (l : List Int) (k : Dk) : f_common_divisor [.dat (.tuple (l.map PyData.int))] k = some (.int (gcdL l : Nat), k) := by
  obtain ⟨y', e⟩ := com_loop l (.dat (.tuple (l.map PyData.int))) .un 0 k
  refine fn_of (seq_of (e' := [.dat (.tuple (l.map PyData.int)), .dat (.int 0), .un]) (k' := k) ?_ (seq_of (e' := [.dat (.tuple (l.map PyData.int)), .dat (.int (gcdL l : Nat)), y']) (k' := k) ?_ (ret_of ?_)))
  · simp [sAsg, fC, qName, stor]
  · simp only [sFor, wSeq, wOf, fVar]
    simp [asLd, asT]
    exact e
  · simp [fVar]
end G
set_option Elab.async false
set_option linter.all false
set_option maxRecDepth 100000
set_option maxHeartbeats 4000000
set_option exponentiation.threshold 3000
namespace G
open PySem PySem.Spec PyProof.Rows L2 DL
theorem while_gcd (x y : Sl) (k : Dk) : ∀ (fuel : Nat) (a b : Nat), b < fuel → loopW (fTest (fCmp (fun i j => decide (j < i)) (fVar 3) (fC (.int 0)))) (sPar 1 3 (fCons (fVar 3) (fCons (fMod (f1 gInt (fVar 1)) (fVar 3)) fNil))) fuel [x, .dat (.int (a : Int)), y, .dat (.int (b : Int))] k =
    .nx [x, .dat (.int ((Nat.gcd a b : Nat) : Int)), y, .dat (.int 0)] k := by
  intro fuel
  induction fuel with
  | zero => intro a b h; omega
  | succ fuel ih =>
    intro a b h
    unfold loopW
    by_cases hb : b = 0
    · subst hb
      have t : fTest (fCmp (fun i j => decide (j < i)) (fVar 3) (fC (.int 0))) [x, .dat (.int (a : Int)), y, .dat (.int ((0 : Nat) : Int))] k = some (false, k) := by
        simp [fTest, fCmp, f2, gII, fVar, fC, c0]
      rw [t, Nat.gcd_zero_right]
      rfl
    · have hb0 : (0 : Int) < (b : Int) := by omega
      have hb1 : 0 < b := by omega
      have t : fTest (fCmp (fun i j => decide (j < i)) (fVar 3) (fC (.int 0))) [x, .dat (.int (a : Int)), y, .dat (.int (b : Int))] k = some (true, k) := by
        simp [fTest, fCmp, f2, gII, fVar, fC, c0, hb1]
      have a6 : cMod (a : Int) (b : Int) = true := cMo (by omega)
      have em : Int.fmod (a : Int) (b : Int) = ((a % b : Nat) : Int) := by
        rw [Int.fmod_eq_emod_of_nonneg _ (by omega)]
        rfl
      have s : sPar 1 3 (fCons (fVar 3) (fCons (fMod (f1 gInt (fVar 1)) (fVar 3)) fNil)) [x, .dat (.int (a : Int)), y, .dat (.int (b : Int))] k = .nx [x, .dat (.int (b : Int)), y, .dat (.int ((a % b : Nat) : Int))] k := by
        simp [sPar, fCons, fNil, fVar, fMod, f1, f2, gInt, gI, gII, a6, stor, em]
      rw [t]
      simp only [s]
      rw [ih b (a % b) (by have := Nat.mod_lt a (Nat.pos_of_ne_zero hb); omega)]
      rw [Nat.gcd_comm a b, Nat.gcd_rec b a, Nat.gcd_comm]
theorem lcom_loop (l : List Int) : ∀ (x y w : Sl) (g : Nat) (k : Dk), ∃ y' w', loopF (qName 2) (sSeq (sAsg (f1 gAbs (fVar 2)) (qName 3)) (sWhile (fuelV 3) (fTest (fCmp (fun i j => decide (j < i)) (fVar 3) (fC (.int 0)))) (sPar 1 3 (fCons (fVar 3) (fCons (fMod (f1 gInt (fVar 1)) (fVar 3)) fNil))))) (l.map PyData.int) [x, .dat (.int (g : Int)), y, w] k =
    .nx [x, .dat (.int ((l.foldl (fun g z => Nat.gcd g z.natAbs) g : Nat) : Int)), y', w'] k := by
  induction l with
  | nil => intro x y w g k; exact ⟨y, w, rfl⟩
  | cons z r ih =>
    intro x y w g k
    obtain ⟨y', w', e⟩ := ih x (.dat (.int z)) (.dat (.int 0)) (Nat.gcd g z.natAbs) k
    refine ⟨y', w', ?_⟩
    have ab : (if z < 0 then -z else z) = ((z.natAbs : Nat) : Int) := by split <;> omega
    have s : (sSeq (sAsg (f1 gAbs (fVar 2)) (qName 3)) (sWhile (fuelV 3) (fTest (fCmp (fun i j => decide (j < i)) (fVar 3) (fC (.int 0)))) (sPar 1 3 (fCons (fVar 3) (fCons (fMod (f1 gInt (fVar 1)) (fVar 3)) fNil))))) [x, .dat (.int (g : Int)), .dat (.int z), w] k = .nx [x, .dat (.int ((Nat.gcd g z.natAbs : Nat) : Int)), .dat (.int z), .dat (.int 0)] k := by
      refine seq_of (e' := [x, .dat (.int (g : Int)), .dat (.int z), .dat (.int ((z.natAbs : Nat) : Int))]) (k' := k) ?_ ?_
      · simp only [← ab]
        simp [sAsg, f1, gAbs, gI, fVar, qName, stor]
      · unfold sWhile
        exact while_gcd _ _ _ _ _ _ (by simp [fuelV])
    simp only [List.map_cons, loopF, List.foldl_cons]
    have q : qName 2 (.dat (.int z)) [x, .dat (.int (g : Int)), y, w] = some [x, .dat (.int (g : Int)), .dat (.int z), w] := by simp [qName, stor]
    rw [q]
    simp only [s]
    exact e
theorem lcommon (l : List Int) (k : Dk) : f__law_common [.dat (.tuple (l.map PyData.int))] k = some (.int (gcdL l : Nat), k) := by
  obtain ⟨y', w', e⟩ := lcom_loop l (.dat (.tuple (l.map PyData.int))) .un .un 0 k
  refine fn_of (seq_of (e' := [.dat (.tuple (l.map PyData.int)), .dat (.int 0), .un, .un]) (k' := k) ?_ (seq_of (e' := [.dat (.tuple (l.map PyData.int)), .dat (.int (gcdL l : Nat)), y', w']) (k' := k) ?_ (ret_of ?_)))
  · simp [sAsg, fC, qName, stor]
  · simp only [sFor, wSeq, wOf, fVar]
    simp [asLd, asT]
    exact e
  · simp [fVar]
end G
set_option Elab.async false
set_option linter.all false
set_option maxRecDepth 100000
set_option maxHeartbeats 4000000
set_option exponentiation.threshold 3000
namespace G
open PySem PySem.Spec PyProof.Rows L2 DL
theorem eqII (a b : Int) : gEq false (.dat (.int a)) (.dat (.int b)) = some (.dat (.bool (a == b))) := rfl
theorem neII (a b : Int) : gEq true (.dat (.int a)) (.dat (.int b)) = some (.dat (.bool (!(a == b)))) := rfl
theorem isi_tup (d : D) : gIsi "tuple" (.dat d) = some (.dat (.bool (isiB "tuple" d))) := rfl
theorem isi_any (n : String) (d : D) : gIsi n (.dat d) = some (.dat (.bool (isiB n d))) := rfl
theorem isB_tup (ds : List D) : isiB "tuple" (.tuple ds) = true := rfl
def isTup (m : Nat) (d : D) : Bool := match d with
  | .tuple ds => decide (ds.length = m) && ds.all isIntD
  | _ => false
theorem not_tup {d : D} (h : ∀ ds, d ≠ .tuple ds) : isiB "tuple" d = false := by
  cases d with
  | tuple ds => exact absurd rfl (h ds)
  | _ => rfl
theorem isTup_not {d : D} (h : ∀ ds, d ≠ .tuple ds) (m : Nat) : isTup m d = false := by
  cases d with
  | tuple ds => exact absurd rfl (h ds)
  | _ => rfl
theorem tup_or (d : D) : (∃ ds, d = .tuple ds) ∨ ∀ ds, d ≠ .tuple ds := by
  cases d with
  | tuple ds => exact .inl ⟨ds, rfl⟩
  | _ => exact .inr fun _ h => nomatch h
theorem tuple_of (d : D) (m : Nat) (k : Dk) : f_is_tuple_of [.dat d, .dat (.int m)] k = some (.bool (match d with
    | .tuple ds => decide (ds.length = m)
    | _ => false), k) := by
  refine fn_of (ret_of ?_)
  rcases tup_or d with ⟨ds, rfl⟩ | h
  · simp [fAnd, fTest, f1, fVar, isi_tup, isB_tup, fEq, f2, gLen, asQ, asL, asT, eqII]
    by_cases e : ds.length = m <;> simp [e] <;> omega
  · have e := not_tup h
    simp [fAnd, fTest, f1, fVar, isi_tup, e]
theorem integers (d : D) (m : Nat) (k : Dk) : f_is_integers [.dat d, .dat (.int m)] k = some (.bool (isTup m d), k) := by
  refine fn_of (ret_of ?_)
  rcases tup_or d with ⟨ds, rfl⟩ | h
  · by_cases e : ds.length = m
    · simp [fAnd, fTest, fCall, fCons, fNil, fVar, okArg, tuple_of, f1, gAllI, asT, e, isTup]
    · simp [fAnd, fTest, fCall, fCons, fNil, fVar, okArg, tuple_of, f1, gAllI, asT, e, isTup]
  · have e : (match d with
      | PyData.tuple ds => decide (ds.length = m)
      | _ => false) = false := by
      cases d with
      | tuple ds => exact absurd rfl (h ds)
      | _ => rfl
    simp [fAnd, fTest, fCall, fCons, fNil, fVar, okArg, tuple_of, e, isTup_not h]
/-! ### the law's own way -/
def ones (ds : List D) : List D := (ds.filter fun d => !isIntD d).map fun _ => .int 1
theorem ones_len (ds : List D) : (ones ds).length ≤ ds.length := by
  unfold ones
  rw [List.length_map]
  exact List.length_filter_le _ _
theorem lc_ones (m : Sl) (t : Sl) (k : Dk) : ∀ (ds acc : List D), acc.length + ds.length < 1000000 → loopC (qName 2) (tOrF (fTest (f1 (gIsi "bool") (fVar 2))) (tNotF (fTest (f1 (gIsi "int") (fVar 2))))) (fC (.int 1)) [m, t, .un] ds acc k = some (acc ++ ones ds, k)
  | [], acc, _ => by simp [loopC, ones]
  | d :: ds, acc, h => by
    simp only [List.length_cons] at h
    by_cases e : isIntD d = true
    · have ih := lc_ones m t k ds acc (by omega)
      have e1 : isiB "int" d = true ∧ isiB "bool" d = false := by simpa [isIntD] using e
      simp [loopC, qName, stor, tOrF, tNotF, fTest, f1, fVar, isi_any, e1.1, e1.2, ih]
      simp [ones, e]
    · have e0 : isIntD d = false := by simpa using e
      have ih := lc_ones m t k ds (acc ++ [.int 1]) (by rw [List.length_append, List.length_singleton]; omega)
      have hl : acc.length < 1000000 := by omega
      have c : (tOrF (fTest (f1 (gIsi "bool") (fVar 2))) (tNotF (fTest (f1 (gIsi "int") (fVar 2))))) [m, t, .dat d] k = some (true, k) := by
        unfold isIntD at e0
        cases e1 : isiB "bool" d with
        | true => simp [tOrF, fTest, f1, fVar, isi_any, e1]
        | false =>
          rw [e1] at e0
          have e2 : isiB "int" d = false := by simpa using e0
          simp [tOrF, tNotF, fTest, f1, fVar, isi_any, e1, e2]
      simp [loopC, qName, stor, c, fC, hl, ih]
      simp [ones, e0]
theorem ones_shaped (ds : List D) : SeqAt.shaped (.list (ones ds)) = true := by
  have h1 : ∀ n : Nat, PyData.canLayAll0 (List.replicate n (.int 1)) = true := fun n => by
    induction n with
    | zero => rfl
    | succ n ih => rw [List.replicate_succ]; simp only [PyData.canLayAll0, PyData.canLay0, ih]; rfl
  have h2 : ∀ n : Nat, PyData.depthAll (List.replicate n (.int 1)) = 0 := fun n => by
    induction n with
    | zero => rfl
    | succ n ih => rw [List.replicate_succ]; simp only [PyData.depthAll, PyData.depth, ih]; rfl
  have e : ones ds = List.replicate (ones ds).length (.int 1) := by
    unfold ones
    rw [List.map_const', List.length_replicate]
  rw [e]
  unfold SeqAt.shaped
  simp only [PyData.canLay0, PyData.depth, h1, h2]
  rfl
theorem ones_nil (ds : List D) : PyData.eqv (.list (ones ds)) (.list []) = ds.all isIntD := by
  cases h : ds.all isIntD with
  | true =>
    have e : ones ds = [] := by
      unfold ones
      rw [List.map_eq_nil_iff, List.filter_eq_nil_iff]
      intro d hd
      simp [List.all_eq_true.mp h d hd]
    rw [e]; rfl
  | false =>
    have e : ones ds ≠ [] := by
      unfold ones
      intro z
      rw [List.map_eq_nil_iff, List.filter_eq_nil_iff] at z
      rw [List.all_eq_false] at h
      obtain ⟨d, hd, hn⟩ := h
      exact z d hd (by simpa using hn)
    cases e2 : ones ds with
    | nil => exact absurd e2 e
    | cons a b => rfl
theorem are_integers (d : D) (m : Nat) (hm : m < 1000) (k : Dk) : f__law_are_integers [.dat (.int m), .dat d] k = some (.bool (isTup m d), k) := by
  refine fn_of ?_
  rcases tup_or d with ⟨ds, rfl⟩ | h
  · by_cases e : ds.length = m
    · have c : (tOrF (tNotF (fTest (f1 (gIsi "tuple") (fVar 1)))) (fTest (fNe (f1 gLen (fVar 1)) (fVar 0)))) [.dat (.int m), .dat (.tuple ds), .un] k = some (false, k) := by
        simp [tOrF, tNotF, fTest, f1, fVar, isi_any, isB_tup, fNe, f2, gLen, asQ, asL, asT, neII, e]
      refine seq_of (e' := [.dat (.int m), .dat (.tuple ds), .un]) (k' := k) (if_f c rfl) (ret_of ?_)
      have l := lc_ones (.dat (.int m)) (.dat (.tuple ds)) k ds [] (by simp; omega)
      simp only [List.nil_append] at l
      have s : fLc (wSeq (fVar 1)) (qName 2) (tOrF (fTest (f1 (gIsi "bool") (fVar 2))) (tNotF (fTest (f1 (gIsi "int") (fVar 2))))) (fC (.int 1)) [2] [.dat (.int m), .dat (.tuple ds), .un] k = some (.dat (.list (ones ds)), k) := by
        simp [fLc, wSeq, wOf, fVar, asLd, asT, wipeE, l]
      have n : fSeq .list fNil [.dat (.int m), .dat (.tuple ds), .un] k = some (.dat (.list []), k) := by simp [fSeq, fNil, dats]
      have g : gEq false (.dat (.list (ones ds))) (.dat (.list [])) = some (.dat (.bool (ds.all isIntD))) := by
        unfold gEq
        simp only [asD, ones_shaped, ones_nil]
        rfl
      show f2 (gEq false) _ _ _ _ = _
      unfold f2
      simp only [s, n, Option.bind_some, g, Option.map_some]
      simp [isTup, e]
    · have c : (tOrF (tNotF (fTest (f1 (gIsi "tuple") (fVar 1)))) (fTest (fNe (f1 gLen (fVar 1)) (fVar 0)))) [.dat (.int m), .dat (.tuple ds), .un] k = some (true, k) := by
        have e' : ¬ ((ds.length : Int) = (m : Int)) := by omega
        simp [tOrF, tNotF, fTest, f1, fVar, isi_any, isB_tup, fNe, f2, gLen, asQ, asL, asT, neII, e']
      refine seq_rt (if_t c (ret_of ?_))
      simp [fC, isTup, e]
  · have e := not_tup h
    have c : (tOrF (tNotF (fTest (f1 (gIsi "tuple") (fVar 1)))) (fTest (fNe (f1 gLen (fVar 1)) (fVar 0)))) [.dat (.int m), .dat d, .un] k = some (true, k) := by
      simp [tOrF, tNotF, fTest, f1, fVar, isi_any, e]
    refine seq_rt (if_t c (ret_of ?_))
    simp [fC, isTup_not h]
end G
set_option Elab.async false
set_option linter.all false
set_option maxRecDepth 100000
set_option maxHeartbeats 4000000
set_option exponentiation.threshold 3000
namespace G
open PySem PySem.Spec PyProof.Rows L2 DL
theorem isInt_of {d : D} (h : isIntD d = true) : ∃ z, d = .int z := by
  cases d with
  | int z => exact ⟨z, rfl⟩
  | bool b => cases h
  | none => cases h
  | str x => cases h
  | list x => cases h
  | tuple x => cases h
  | dict x => cases h
theorem isTup_len {m : Nat} {d : D} (h : isTup m d = true) : ∃ ds, d = .tuple ds ∧ ds.length = m ∧ ds.all isIntD = true := by
  rcases tup_or d with ⟨ds, rfl⟩ | q
  · simp only [isTup, Bool.and_eq_true, decide_eq_true_eq] at h
    exact ⟨ds, rfl, h.1, h.2⟩
  · rw [isTup_not q] at h; cases h
theorem isTup3 {d : D} (h : isTup 3 d = true) : ∃ a b c, d = .tuple [.int a, .int b, .int c] := by
  obtain ⟨ds, rfl, hl, ha⟩ := isTup_len h
  match ds, hl, ha with
  | [x, y, z], _, ha =>
    simp only [List.all_cons, List.all_nil, Bool.and_eq_true] at ha
    obtain ⟨a, rfl⟩ := isInt_of ha.1
    obtain ⟨b, rfl⟩ := isInt_of ha.2.1
    obtain ⟨c, rfl⟩ := isInt_of ha.2.2.1
    exact ⟨a, b, c, rfl⟩
theorem isTup4 {d : D} (h : isTup 4 d = true) : ∃ a b c e, d = .tuple [.int a, .int b, .int c, .int e] := by
  obtain ⟨ds, rfl, hl, ha⟩ := isTup_len h
  match ds, hl, ha with
  | [x, y, z, w], _, ha =>
    simp only [List.all_cons, List.all_nil, Bool.and_eq_true] at ha
    obtain ⟨a, rfl⟩ := isInt_of ha.1
    obtain ⟨b, rfl⟩ := isInt_of ha.2.1
    obtain ⟨c, rfl⟩ := isInt_of ha.2.2.1
    obtain ⟨e, rfl⟩ := isInt_of ha.2.2.2.1
    exact ⟨a, b, c, e, rfl⟩
def Bnd (d : D) : Prop := ∀ ds, d = .tuple ds → ∀ z, PyData.int z ∈ ds → z.natAbs < 10 ^ 90
theorem t3 (a b c : Int) : isTup 3 (.tuple [.int a, .int b, .int c]) = true := rfl
theorem t4 (a b c e : Int) : isTup 4 (.tuple [.int a, .int b, .int c, .int e]) = true := rfl
theorem at0 {x y z : D} : atI [x, y, z] 0 = some x := rfl
theorem at1 {x y z : D} : atI [x, y, z] 1 = some y := rfl
theorem at2 {x y z : D} : atI [x, y, z] 2 = some z := rfl
theorem bt0 {x y z w : D} : atI [x, y, z, w] 0 = some x := rfl
theorem bt1 {x y z w : D} : atI [x, y, z, w] 1 = some y := rfl
theorem bt2 {x y z w : D} : atI [x, y, z, w] 2 = some z := rfl
theorem bt3 {x y z w : D} : atI [x, y, z, w] 3 = some w := rfl
def posI (a b c : Int) : Bool := decide (0 < a) && (decide (b * b - 4 * a * c < 0) && (((gcdL [a, b, c] : Nat) : Int) == 1))
def wholI (a b c e : Int) : Bool := (a * e - b * c) == 1
theorem is_pos3 (a b c : Int) (h : ∀ z ∈ [a, b, c], z.natAbs < 10 ^ 90) (k : Dk) : f_is_positive [.dat (.tuple [.int a, .int b, .int c])] k = some (.bool (posI a b c), k) := by
  have hd := disc a b c h k
  have hc := common [a, b, c] k
  simp only [List.map_cons, List.map_nil] at hc
  refine fn_of (ret_of ?_)
  have i1 : f_is_integers [.dat (.tuple [.int a, .int b, .int c]), .dat (.int 3)] k = some (.bool true, k) := integers (.tuple [.int a, .int b, .int c]) 3 k
  have ix : ∀ e k, fIx (fVar 0) (fC (.int 0)) ((.dat (.tuple [.int a, .int b, .int c])) :: e) k = some (.dat (.int a), k) := fun e k => rfl
  by_cases c1 : 0 < a
  · by_cases c2 : b * b - 4 * a * c < 0
    · simp [fAnd, fTest, fCall, fCons, fNil, fVar, fC, okArg, i1, fCmp, f2, ix, gII, c0, hd, hc, fEq, eqII, posI, c1, c2]
    · simp [fAnd, fTest, fCall, fCons, fNil, fVar, fC, okArg, i1, fCmp, f2, ix, gII, c0, hd, hc, fEq, eqII, posI, c1, c2]
  · simp [fAnd, fTest, fCall, fCons, fNil, fVar, fC, okArg, i1, fCmp, f2, ix, gII, c0, hd, hc, fEq, eqII, posI, c1]
theorem law_pos3 (a b c : Int) (h : ∀ z ∈ [a, b, c], z.natAbs < 10 ^ 90) (k : Dk) : f__law_is_positive [.dat (.tuple [.int a, .int b, .int c])] k = some (.bool (posI a b c), k) := by
  have ha := h a (by simp)
  have hb := Nat.lt_trans (h b (by simp)) (by decide : 10 ^ 90 < 10 ^ 200)
  have hz := Nat.lt_trans (h c (by simp)) (by decide : 10 ^ 90 < 10 ^ 200)
  have a1 : cMul b b = true := cM' hb hb
  have a2 : cMul 4 a = true := cM' (by decide) (Nat.lt_trans ha (by decide))
  have a3 : cMul (4 * a) c = true := cM' (by rw [Int.natAbs_mul]; exact Nat.lt_of_lt_of_le (Nat.mul_lt_mul_of_pos_left ha (by decide)) (by decide)) hz
  have hc := lcommon [a, b, c] k
  simp only [List.map_cons, List.map_nil] at hc
  have i1 : f__law_are_integers [.dat (.int 3), .dat (.tuple [.int a, .int b, .int c])] k = some (.bool true, k) := are_integers (.tuple [.int a, .int b, .int c]) 3 (by decide) k
  have x0 : ∀ e k, fIx (fVar 0) (fC (.int 0)) ((.dat (.tuple [.int a, .int b, .int c])) :: e) k = some (.dat (.int a), k) := fun e k => rfl
  have x1 : ∀ e k, fIx (fVar 0) (fC (.int 1)) ((.dat (.tuple [.int a, .int b, .int c])) :: e) k = some (.dat (.int b), k) := fun e k => rfl
  have x2 : ∀ e k, fIx (fVar 0) (fC (.int 2)) ((.dat (.tuple [.int a, .int b, .int c])) :: e) k = some (.dat (.int c), k) := fun e k => rfl
  refine fn_of ?_
  by_cases c1 : 0 < a
  · have c1' : ¬ a < 1 := by omega
    by_cases c2 : b * b - 4 * a * c < 0
    · simp [g__law_is_positive, sSeq, sIf, sRet, sNext, tOrF, tNotF, fAnd, fTest, fCall, fCons, fNil, fVar, fC, okArg, i1, fCmp, fSub, f2, x0, x1, x2, gII, gMulU, a1, a2, a3, c0, hc, fEq, eqII, posI, c1, c1', c2]
    · simp [g__law_is_positive, sSeq, sIf, sRet, sNext, tOrF, tNotF, fAnd, fTest, fCall, fCons, fNil, fVar, fC, okArg, i1, fCmp, fSub, f2, x0, x1, x2, gII, gMulU, a1, a2, a3, c0, hc, fEq, eqII, posI, c1, c1', c2]
  · have c1' : a < 1 := by omega
    simp [g__law_is_positive, sSeq, sIf, sRet, sNext, tOrF, tNotF, fAnd, fTest, fCall, fCons, fNil, fVar, fC, okArg, i1, fCmp, fSub, f2, x0, x1, x2, gII, gMulU, a1, a2, a3, c0, hc, fEq, eqII, posI, c1, c1']
theorem is_pos_no (d : D) (h : isTup 3 d = false) (k : Dk) : f_is_positive [.dat d] k = some (.bool false, k) := by
  have i1 : f_is_integers [.dat d, .dat (.int 3)] k = some (.bool false, k) := by rw [← h]; exact integers d 3 k
  refine fn_of (ret_of ?_)
  simp [fAnd, fTest, fCall, fCons, fNil, fVar, fC, okArg, i1]
theorem law_pos_no (d : D) (h : isTup 3 d = false) (k : Dk) : f__law_is_positive [.dat d] k = some (.bool false, k) := by
  have i1 : f__law_are_integers [.dat (.int 3), .dat d] k = some (.bool false, k) := by rw [← h]; exact are_integers d 3 (by decide) k
  refine fn_of ?_
  simp [g__law_is_positive, sSeq, sIf, sRet, tOrF, tNotF, fTest, fCall, fCons, fNil, fVar, fC, okArg, i1]
theorem is_who4 (a b c e : Int) (h : ∀ z ∈ [a, b, c, e], z.natAbs < 10 ^ 90) (k : Dk) : f_is_whole_change [.dat (.tuple [.int a, .int b, .int c, .int e])] k = some (.bool (wholI a b c e), k) := by
  have hd := two_det a b c e h k
  have i1 : f_is_integers [.dat (.tuple [.int a, .int b, .int c, .int e]), .dat (.int 4)] k = some (.bool true, k) := integers (.tuple [.int a, .int b, .int c, .int e]) 4 k
  refine fn_of (ret_of ?_)
  simp [fAnd, fTest, fCall, fCons, fNil, fVar, fC, okArg, i1, hd, fEq, f2, eqII, wholI]
theorem law_who4 (a b c e : Int) (h : ∀ z ∈ [a, b, c, e], z.natAbs < 10 ^ 90) (k : Dk) : f__law_is_whole [.dat (.tuple [.int a, .int b, .int c, .int e])] k = some (.bool (wholI a b c e), k) := by
  have a1 : cMul a e = true := cM' (Nat.lt_trans (h a (by simp)) (by decide)) (Nat.lt_trans (h e (by simp)) (by decide))
  have a2 : cMul b c = true := cM' (Nat.lt_trans (h b (by simp)) (by decide)) (Nat.lt_trans (h c (by simp)) (by decide))
  have i1 : f__law_are_integers [.dat (.int 4), .dat (.tuple [.int a, .int b, .int c, .int e])] k = some (.bool true, k) := are_integers (.tuple [.int a, .int b, .int c, .int e]) 4 (by decide) k
  have x0 : ∀ r k, fIx (fVar 0) (fC (.int 0)) ((.dat (.tuple [.int a, .int b, .int c, .int e])) :: r) k = some (.dat (.int a), k) := fun e k => rfl
  have x1 : ∀ r k, fIx (fVar 0) (fC (.int 1)) ((.dat (.tuple [.int a, .int b, .int c, .int e])) :: r) k = some (.dat (.int b), k) := fun e k => rfl
  have x2 : ∀ r k, fIx (fVar 0) (fC (.int 2)) ((.dat (.tuple [.int a, .int b, .int c, .int e])) :: r) k = some (.dat (.int c), k) := fun e k => rfl
  have x3 : ∀ r k, fIx (fVar 0) (fC (.int 3)) ((.dat (.tuple [.int a, .int b, .int c, .int e])) :: r) k = some (.dat (.int e), k) := fun e k => rfl
  refine fn_of (ret_of ?_)
  simp [fAnd, fTest, fCall, fCons, fNil, fVar, fC, okArg, i1, fSub, f2, x0, x1, x2, x3, gII, gMulU, c0, a1, a2, fEq, eqII, wholI]
theorem is_who_no (d : D) (h : isTup 4 d = false) (k : Dk) : f_is_whole_change [.dat d] k = some (.bool false, k) := by
  have i1 : f_is_integers [.dat d, .dat (.int 4)] k = some (.bool false, k) := by rw [← h]; exact integers d 4 k
  refine fn_of (ret_of ?_)
  simp [fAnd, fTest, fCall, fCons, fNil, fVar, fC, okArg, i1]
theorem law_who_no (d : D) (h : isTup 4 d = false) (k : Dk) : f__law_is_whole [.dat d] k = some (.bool false, k) := by
  have i1 : f__law_are_integers [.dat (.int 4), .dat d] k = some (.bool false, k) := by rw [← h]; exact are_integers d 4 (by decide) k
  refine fn_of (ret_of ?_)
  simp [fAnd, fTest, fCall, fCons, fNil, fVar, fC, okArg, i1]
/-- the program and the law say the same of every thing -/
theorem both (d : D) (hd : Bnd d) (k : Dk) : ∃ p w : Bool, f_is_positive [.dat d] k = some (.bool p, k) ∧ f__law_is_positive [.dat d] k = some (.bool p, k) ∧ f_is_whole_change [.dat d] k = some (.bool w, k) ∧ f__law_is_whole [.dat d] k = some (.bool w, k) := by
  have A : ∃ p : Bool, f_is_positive [.dat d] k = some (.bool p, k) ∧ f__law_is_positive [.dat d] k = some (.bool p, k) := by
    cases h : isTup 3 d with
    | false => exact ⟨false, is_pos_no d h k, law_pos_no d h k⟩
    | true =>
      obtain ⟨a, b, c, rfl⟩ := isTup3 h
      have q : ∀ z ∈ [a, b, c], z.natAbs < 10 ^ 90 := fun z hz => hd _ rfl z (by simpa using hz)
      exact ⟨_, is_pos3 a b c q k, law_pos3 a b c q k⟩
  have B : ∃ w : Bool, f_is_whole_change [.dat d] k = some (.bool w, k) ∧ f__law_is_whole [.dat d] k = some (.bool w, k) := by
    cases h : isTup 4 d with
    | false => exact ⟨false, is_who_no d h k, law_who_no d h k⟩
    | true =>
      obtain ⟨a, b, c, e, rfl⟩ := isTup4 h
      have q : ∀ z ∈ [a, b, c, e], z.natAbs < 10 ^ 90 := fun z hz => hd _ rfl z (by simpa using hz)
      exact ⟨_, is_who4 a b c e q k, law_who4 a b c e q k⟩
  obtain ⟨p, p1, p2⟩ := A
  obtain ⟨w, w1, w2⟩ := B
  exact ⟨p, w, p1, p2, w1, w2⟩
end G
set_option Elab.async false
set_option linter.all false
set_option maxRecDepth 100000
set_option maxHeartbeats 4000000
set_option exponentiation.threshold 3000
namespace G
open PySem PySem.Spec PyProof.Rows L2 DL
/-- a thing that may be shown, of bounded size, its ints small -/
structure Good (m w : Nat) (d : D) : Prop where
  lv : d.leavesShort 60 = true
  sh : d.showable = true
  dp : d.depth ≤ m
  wt : d.weight ≤ w
  bn : Bnd d
  it : ∀ z, d = .int z → z.natAbs < 10 ^ 90
theorem Good.le {m w m' w' : Nat} {d : D} (h : Good m w d) (h1 : m ≤ m') (h2 : w ≤ w') : Good m' w' d := ⟨h.lv, h.sh, Nat.le_trans h.dp h1, Nat.le_trans h.wt h2, h.bn, h.it⟩
theorem Good.show {m w : Nat} {d : D} (h : Good m w d) (h1 : m ≤ 60) (h2 : w ≤ 16000) : okShow d = true := by
  have l := PyData.shown_le 60 (by decide) d h.lv
  have l2 : (60 + 2) * d.weight ≤ 62 * 16000 := Nat.mul_le_mul (by decide) (Nat.le_trans h.wt h2)
  unfold okShow
  rw [Bool.and_eq_true, Bool.and_eq_true]
  exact ⟨⟨h.sh, decide_eq_true (Nat.le_trans h.dp h1)⟩, decide_eq_true (by omega)⟩
theorem log45 {n : Nat} (h : n < 10 ^ 46) : n.log2 ≤ 155 := lgle (Nat.lt_trans h (by decide))
theorem good_int {z : Int} (h : z.natAbs < 10 ^ 46) : Good 0 160 (.int z) := by
  have l := log45 h
  refine ⟨?_, ?_, Nat.le_refl _, ?_, fun ds e => (nomatch e), fun y e => by cases e; exact Nat.lt_trans h (by decide)⟩
  · have e := int_text_length_le10 (k := 46) (by decide) h
    have e2 : (PyData.shown (.int z)).length ≤ 60 := by
      show (Str.ofString (toString z)).length ≤ 60
      rw [PySem.ofString_length]; omega
    simp only [PyData.leavesShort]
    exact decide_eq_true e2
  · simp only [PyData.showable]
    exact decide_eq_true (by omega)
  · simp only [PyData.weight]
    split <;> omega
theorem good_none : Good 0 0 .none := ⟨rfl, rfl, Nat.le_refl _, Nat.le_refl _, fun _ e => (nomatch e), fun _ e => (nomatch e)⟩
theorem good_bool (b : Bool) : Good 0 0 (.bool b) := ⟨rfl, rfl, Nat.le_refl _, Nat.le_refl _, fun _ e => (nomatch e), fun _ e => (nomatch e)⟩
theorem good_str {x : Str} {n : Nat} (h : x.length ≤ n) (hc : ∀ c ∈ x.cps.toList, c < 16 ^ 8) : Good 0 n (.str x) := by
  refine ⟨?_, rfl, Nat.le_refl _, h, fun _ e => (nomatch e), fun _ e => (nomatch e)⟩
  simp only [PyData.leavesShort]
  exact List.all_eq_true.mpr fun c hm => decide_eq_true (hc c hm)
theorem ofs_small (s : String) : ∀ c ∈ (Str.ofString s).cps.toList, c < 16 ^ 8 := by
  intro c hc
  rw [PyProof.Rows.signs_ofString] at hc
  obtain ⟨x, _, rfl⟩ := List.mem_map.mp hc
  exact Nat.lt_of_lt_of_le x.val.toNat_lt (by decide)
theorem good_istr {z : Int} (h : z.natAbs < 10 ^ 46) : Good 0 160 (.str (toString z)) := by
  have e := int_text_length_le10 (k := 46) (by decide) h
  exact good_str (x := Str.ofString (toString z)) (by rw [PySem.ofString_length]; omega) (ofs_small _)
theorem all_parts {m w : Nat} : ∀ {xs : List D}, (∀ x ∈ xs, Good m w x) → PyData.leavesShortAll 60 xs = true ∧ PyData.showableAll xs = true ∧ PyData.depthAll xs ≤ m ∧ PyData.weightAll xs ≤ xs.length * (w + 1)
  | [], _ => ⟨rfl, rfl, Nat.zero_le _, Nat.zero_le _⟩
  | x :: xs, h => by
    have hx := h x (List.mem_cons_self ..)
    obtain ⟨h1, h2, h3, h4⟩ := all_parts fun y hy => h y (List.mem_cons_of_mem _ hy)
    refine ⟨?_, ?_, ?_, ?_⟩
    · simp only [PyData.leavesShortAll, hx.lv, h1]; rfl
    · simp only [PyData.showableAll, hx.sh, h2]; rfl
    · simp only [PyData.depthAll]; exact Nat.max_le.mpr ⟨hx.dp, h3⟩
    · have a := hx.wt
      simp only [PyData.weightAll, List.length_cons, Nat.succ_mul]
      omega
theorem good_tup {m w n : Nat} {xs : List D} (h : ∀ x ∈ xs, Good m w x) (hl : xs.length ≤ n) : Good (m + 1) (n * (w + 1)) (.tuple xs) := by
  obtain ⟨h1, h2, h3, h4⟩ := all_parts h
  refine ⟨?_, ?_, ?_, ?_, fun ds e z hz => ?_, fun _ e => (nomatch e)⟩
  · simpa only [PyData.leavesShort] using h1
  · simpa only [PyData.showable] using h2
  · simp only [PyData.depth]; omega
  · simp only [PyData.weight]; exact Nat.le_trans h4 (Nat.mul_le_mul_right _ hl)
  · cases e
    exact (h _ hz).it z rfl
theorem good_lst {m w n : Nat} {xs : List D} (h : ∀ x ∈ xs, Good m w x) (hl : xs.length ≤ n) : Good (m + 1) (n * (w + 1)) (.list xs) := by
  obtain ⟨h1, h2, h3, h4⟩ := all_parts h
  refine ⟨?_, ?_, ?_, ?_, fun ds e => (nomatch e), fun _ e => (nomatch e)⟩
  · simpa only [PyData.leavesShort] using h1
  · simpa only [PyData.showable] using h2
  · simp only [PyData.depth]; omega
  · simp only [PyData.weight]; exact Nat.le_trans h4 (Nat.mul_le_mul_right _ hl)
theorem good_nodict : Good 1 0 (.dict []) := ⟨rfl, rfl, Nat.le_refl _, Nat.le_refl _, fun _ e => (nomatch e), fun _ e => (nomatch e)⟩
theorem good_dict {m w : Nat} {d : D} (h : Good m w d) : Good (m + 1) (w + 3) (.dict [(.str "a", d)]) := by
  have a1 : (PyData.str "a").leavesShort 60 = true := by decide
  have hd := h.dp
  have hw := h.wt
  refine ⟨?_, ?_, ?_, ?_, fun _ e => (nomatch e), fun _ e => (nomatch e)⟩
  · simp only [PyData.leavesShort, PyData.leavesShortKv, h.lv, Bool.and_true]; exact a1
  · simp only [PyData.showable, PyData.showableKv, h.sh]; rfl
  · simp only [PyData.depth, PyData.depthKv]
    have : max (max 0 d.depth) 0 = d.depth := by omega
    omega
  · simp only [PyData.weight, PyData.weightKv]
    have e : ("a" : Str).cps.size = 1 := rfl
    omega
end G
set_option Elab.async false
set_option linter.all false
set_option maxRecDepth 100000
set_option maxHeartbeats 4000000
set_option exponentiation.threshold 3000
namespace G
open PySem PySem.Spec PyProof.Rows L2 DL
theorem gi {z : Int} (h : z.natAbs < 10 ^ 45) : Good 0 160 (.int z) := good_int (Nat.lt_trans h (by decide))
theorem gi1 {z : Int} (h : z.natAbs < 10 ^ 44) (e : Int) (he : e.natAbs ≤ 1) : Good 0 160 (.int (z + e)) := good_int (by
  have a : (z + e).natAbs ≤ z.natAbs + e.natAbs := Int.natAbs_add_le z e
  have b : (10 : Nat) ^ 44 + 1 < 10 ^ 46 := by decide
  omega)
theorem bent_int (z : Int) (hz : z.natAbs < 10 ^ 44) (j n : Nat) (k : Dk) (h : Ok (n + 1) k) : ∃ d k', f__law_bent_at (j + 1) [.deck, .dat (.int z)] k = some (d, k') ∧ Good 1 400 d ∧ Ok n k' := by
  have g0 := gi (z := z) (Nat.lt_trans hz (by decide))
  have ls : z.natAbs.log2 < 1920 := by
    have := log45 (n := z.natAbs) (Nat.lt_trans hz (by decide))
    omega
  obtain ⟨d, k', e, hd, ok⟩ := pick (.list [.int (z + 1), .int (0 - z), .int (z - 1), .int 0, .bool true, .bool false, .str (toString z), .none, .tuple [.int z], .list [.int z], .int 1]) _ rfl (by simp) (by simp) n k h
  refine ⟨d, k', ?_, ?_, ok⟩
  · have i1 : isiB "tuple" (.int z) = false := rfl
    have i2 : isiB "int" (.int z) = true := rfl
    refine fn_of ?_
    simp [g__law_bent, sSeq, sIf, sRet, sNext, tAndF, fTest, f1, fVar, isi_any, i1, i2, fCall, fCons, fNil, fC, fSeq, dats, f2, gAddU, gII, fSub, gStr, gI, c0, ls, okArg]
    simp at e
    rw [e]
    rfl
  · have sm : ∀ e : Int, e.natAbs ≤ 1 → Good 1 400 (.int (z + e)) := fun e he => (gi1 hz e he).le (by decide) (by decide)
    have one : ∀ x ∈ [PyData.int z], Good 0 160 x := fun x hx => by simp at hx; subst hx; exact g0
    simp only [List.mem_cons, List.not_mem_nil, or_false] at hd
    rcases hd with rfl | rfl | rfl | rfl | rfl | rfl | rfl | rfl | rfl | rfl | rfl
    · exact sm 1 (by decide)
    · refine (gi (z := 0 - z) ?_).le (by decide) (by decide)
      have : (0 - z).natAbs = z.natAbs := by omega
      rw [this]; exact Nat.lt_trans hz (by decide)
    · exact sm (-1) (by decide)
    · exact (gi (by decide)).le (by decide) (by decide)
    · exact (good_bool _).le (by decide) (by decide)
    · exact (good_bool _).le (by decide) (by decide)
    · exact (good_istr (Nat.lt_trans hz (by decide))).le (by decide) (by decide)
    · exact good_none.le (by decide) (by decide)
    · exact (good_tup (n := 1) one (by simp)).le (by decide) (by decide)
    · exact (good_lst (n := 1) one (by simp)).le (by decide) (by decide)
    · exact (gi (by decide)).le (by decide) (by decide)
theorem cut_mem {xs : List D} {lo hi : Option Int} {x : D} (h : x ∈ DL.cutD xs lo hi) : x ∈ xs := by
  unfold DL.cutD at h
  exact List.mem_of_mem_drop (List.mem_of_mem_take h)
theorem cut_len (xs : List D) (lo hi : Option Int) : (DL.cutD xs lo hi).length ≤ xs.length := by
  unfold DL.cutD
  rw [List.length_take, List.length_drop]
  omega
theorem cat_tt (xs ys : List D) (h : xs.length + ys.length ≤ 1000000) : gAddU (.dat (.tuple xs)) (.dat (.tuple ys)) = some (.dat (.tuple (xs ++ ys))) := by
  simp [gAddU, gII, gCatT, asT, h]
theorem sl_t (xs : List D) (lo hi : Option Int) : cutU (.dat (.tuple xs)) lo hi = some (.dat (.tuple (DL.cutD xs lo hi))) := rfl
theorem ints_shaped (l : List Int) : SeqAt.shaped (.tuple (l.map PyData.int)) = true := by
  have h1 : PyData.canLayAll0 (l.map PyData.int) = true := by
    induction l with
    | nil => rfl
    | cons z r ih => simp only [List.map_cons, PyData.canLayAll0, PyData.canLay0, ih]; rfl
  have h2 : PyData.depthAll (l.map PyData.int) = 0 := by
    induction l with
    | nil => rfl
    | cons z r ih =>
      simp only [List.map_cons, PyData.depthAll, PyData.depth, ih (by simpa only [List.map_cons, PyData.canLayAll0, PyData.canLay0, Bool.true_and] using h1)]
      rfl
  unfold SeqAt.shaped
  simp only [PyData.canLay0, PyData.depth, h1, h2]
  rfl
theorem ne_unit (l : List Int) (h : l ≠ []) : gEq true (.dat (.tuple (l.map PyData.int))) (.dat (.tuple [])) = some (.dat (.bool true)) := by
  have s0 : SeqAt.shaped (.tuple []) = true := by decide
  unfold gEq
  simp only [asD, ints_shaped, s0]
  cases l with
  | nil => exact absurd rfl h
  | cons z r => rfl
theorem f2_of {g : Sl → Sl → Option Sl} {f f' : Fe} {env : List Sl} {k k1 k2 : Dk} {a b s : Sl} (h1 : f env k = some (a, k1)) (h2 : f' env k1 = some (b, k2)) (h3 : g a b = some s) : f2 g f f' env k = some (s, k2) := by
  unfold f2
  simp only [h1, h2, h3, Option.bind_some, Option.map_some]
theorem cons_of {f : Fe} {h : Fl} {env : List Sl} {k k1 k2 : Dk} {a : Sl} {r : List Sl} (h1 : f env k = some (a, k1)) (h2 : h env k1 = some (r, k2)) : fCons f h env k = some (a :: r, k2) := by
  unfold fCons
  simp only [h1, h2, Option.bind_some, Option.map_some]
theorem nil_of {env : List Sl} {k : Dk} : fNil env k = some ([], k) := rfl
theorem c_of (d : D) {env : List Sl} {k : Dk} : fC d env k = some (.dat d, k) := rfl
theorem tup_of {c : List D → D} {h : Fl} {env : List Sl} {k k1 : Dk} {ss : List Sl} {ds : List D} (h1 : h env k = some (ss, k1)) (h2 : dats ss = some ds) (h3 : ds.length ≤ 1000000) : fSeq c h env k = some (.dat (c ds), k1) := by
  unfold fSeq
  simp only [h1, h2, Option.bind_some]
  rw [if_pos h3]
theorem call_of {n : Nat} {f : Fd} {h : Fl} {env : List Sl} {k k1 k2 : Dk} {ss : List Sl} {d : D} (h1 : h env k = some (ss, k1)) (h2 : ss.length = n ∧ ss.all okArg = true) (h3 : f ss k1 = some (d, k2)) : fCall n f h env k = some (.dat d, k2) := by
  unfold fCall
  simp only [h1, Option.bind_some]
  rw [if_pos h2, h3]
  rfl
theorem rev_t (xs : List D) (e : List Sl) (s : Sl) (k : Dk) : fRevU (fVar 1) (s :: .dat (.tuple xs) :: e) k = some (.dat (.tuple xs.reverse), k) := by
  simp [fRevU, fRevL, fRevT, f1, fVar, asL, asT]
theorem bent_tup (l : List Int) (h0 : l ≠ []) (hl : l.length ≤ 4) (hz : ∀ z ∈ l, z.natAbs < 10 ^ 44) (j n : Nat) (k : Dk) (h : Ok (n + 3) k) :
    ∃ d k', f__law_bent_at (j + 2) [.deck, .dat (.tuple (l.map PyData.int))] k = some (d, k') ∧ Good 3 8000 d ∧ Ok n k' := by
  have gl : ∀ x ∈ l.map PyData.int, Good 0 160 x := fun x hx => by
    obtain ⟨z, hm, rfl⟩ := List.mem_map.mp hx
    exact gi (Nat.lt_trans (hz z hm) (by decide))
  have len : (l.map PyData.int).length = l.length := List.length_map ..
  have pos : 0 < l.length := by
    cases l with
    | nil => exact absurd rfl h0
    | cons z r => simp
  obtain ⟨r, k1, e1, r0, r1, ok1⟩ := draw 3 (by decide) (by decide) (n + 2) k h
  have cond : (tAndF (fTest (f1 (gIsi "tuple") (fVar 1))) (tAndF (fTest (fNe (fVar 1) (fSeq .tuple fNil))) (fTest (fCmp (fun i j => decide (j < i)) (fCall 2 f__law_draw (fCons (fVar 0) (fCons (fC (.int 3)) fNil))) (fC (.int 0)))))) [.deck, .dat (.tuple (l.map PyData.int)), .un] k = some (decide (0 < r), k1) := by
    simp [tAndF, fTest, f1, fVar, isi_any, isB_tup, fNe, f2, fSeq, fNil, dats, ne_unit l h0, fCall, fCons, fC, okArg, e1, fCmp, gII, c0]
  by_cases hr : 0 < r
  · obtain ⟨a, k2, e2, a0, a1, ok2⟩ := draw (l.map PyData.int).length (by omega) (by omega) (n + 1) k1 ok1
    have ha : a.toNat < l.length := by omega
    obtain ⟨d, k3, e3, gd, ok3⟩ := bent_int l[a.toNat] (hz _ (List.getElem_mem ha)) j n k2 ok2
    have ea : atI (l.map PyData.int) a = some (.int l[a.toNat]) := by
      have z := atI_nat (xs := l.map PyData.int) (j := a.toNat) (v := .int l[a.toNat]) (by rw [List.getElem?_map, List.getElem?_eq_getElem ha]; rfl)
      rwa [Int.toNat_of_nonneg a0] at z
    refine ⟨.tuple (DL.cutD (l.map PyData.int) none (some a) ++ [d] ++ DL.cutD (l.map PyData.int) (some (a + 1)) none), k3, ?_, ?_, ok3⟩
    · have s : sAsg (fCall 2 f__law_draw (fCons (fVar 0) (fCons (f1 gLen (fVar 1)) fNil))) (qName 2) [.deck, .dat (.tuple (l.map PyData.int)), .un] k1 = .nx [.deck, .dat (.tuple (l.map PyData.int)), .dat (.int a)] k2 := by
        rw [len] at e2
        simp [sAsg, fCall, fCons, fNil, fVar, f1, gLen, asQ, asL, asT, okArg, e2, qName, stor]
      have c1 := cut_len (l.map PyData.int) none (some a)
      have c2 := cut_len (l.map PyData.int) (some (a + 1)) none
      rw [hr |> fun z => decide_eq_true z] at cond
      refine fn_of (seq_rt (if_t cond (seq_of s (ret_of ?_))))
      have x1 : fSlU (fVar 1) fNoPart (fPart (fVar 2)) [.deck, .dat (.tuple (l.map PyData.int)), .dat (.int a)] k2 = some (.dat (.tuple (DL.cutD (l.map PyData.int) none (some a))), k2) := by
        simp [fSlU, fVar, fNoPart, fPart, sl_t]
      have x2 : fSeq .tuple (fCons (fCall 2 (f__law_bent_at (j + 1)) (fCons (fVar 0) (fCons (fIx (fVar 1) (fVar 2)) fNil))) fNil) [.deck, .dat (.tuple (l.map PyData.int)), .dat (.int a)] k2 = some (.dat (.tuple [d]), k3) := by
        simp [fSeq, fCons, fNil, fCall, fVar, fIx, f2, gIx, asQ, asL, asT, ea, okArg, e3, dats]
      have x3 : fSlU (fVar 1) (fPart (f2 gAddU (fVar 2) (fC (.int 1)))) fNoPart [.deck, .dat (.tuple (l.map PyData.int)), .dat (.int a)] k3 = some (.dat (.tuple (DL.cutD (l.map PyData.int) (some (a + 1)) none)), k3) := by
        simp [fSlU, fVar, fNoPart, fPart, f2, fC, gAddU, gII, c0, sl_t]
      have y1 := cat_tt (DL.cutD (l.map PyData.int) none (some a)) [d] (by simp only [List.length_singleton]; omega)
      have y2 := cat_tt (DL.cutD (l.map PyData.int) none (some a) ++ [d]) (DL.cutD (l.map PyData.int) (some (a + 1)) none) (by rw [List.length_append, List.length_singleton]; omega)
      exact f2_of (f2_of x1 x2 y1) x3 y2
    · have c1 := cut_len (l.map PyData.int) none (some a)
      have c2 := cut_len (l.map PyData.int) (some (a + 1)) none
      refine (good_tup (m := 1) (w := 400) (n := 9) (fun x hx => ?_) (by rw [List.length_append, List.length_append, List.length_singleton]; omega)).le (by decide) (by decide)
      simp only [List.mem_append, List.mem_singleton] at hx
      rcases hx with (hx | rfl) | hx
      · exact (gl _ (cut_mem hx)).le (by decide) (by decide)
      · exact gd
      · exact (gl _ (cut_mem hx)).le (by decide) (by decide)
  · have c1 : ∀ lo hi, (DL.cutD (l.map PyData.int) lo hi).length ≤ 4 := fun lo hi => by have := cut_len (l.map PyData.int) lo hi; omega
    obtain ⟨d, k2, e2, hd, ok2⟩ := pick (.list [.list (l.map PyData.int), .tuple (DL.cutD (l.map PyData.int) none (some (-1))), .tuple (l.map PyData.int ++ [.int 0]), .tuple (l.map PyData.int ++ DL.cutD (l.map PyData.int) (some (-1)) none), .tuple (l.map PyData.int).reverse, .tuple [.tuple (l.map PyData.int)], .none, .tuple [], .str "()", .dict [], .int 0, .list [.tuple (l.map PyData.int)], .tuple (DL.cutD (l.map PyData.int) (some 1) none ++ DL.cutD (l.map PyData.int) none (some 1)), .dict [(.str "a", .tuple (l.map PyData.int))]]) _ rfl (by simp) (by simp) (n + 1) k1 ok1
    refine ⟨d, k2, ?_, ?_, ok2.less (by omega)⟩
    · rw [show decide (0 < r) = false from decide_eq_false hr] at cond
      refine fn_of (seq_of (e' := [.deck, .dat (.tuple (l.map PyData.int)), .un]) (k' := k1) (if_f cond rfl) (seq_rt (if_t (k' := k1) ?_ (ret_of ?_))))
      · simp [fTest, f1, fVar, isi_any, isB_tup]
      · have y1 := cat_tt (l.map PyData.int) [.int 0] (by simp only [List.length_singleton]; omega)
        have y2 := cat_tt (l.map PyData.int) (DL.cutD (l.map PyData.int) (some (-1)) none) (by have := c1 (some (-1)) none; omega)
        have y3 := cat_tt (DL.cutD (l.map PyData.int) (some 1) none) (DL.cutD (l.map PyData.int) none (some 1)) (by have := c1 (some 1) none; have := c1 none (some 1); omega)
        have x1 : fSlU (fVar 1) fNoPart (fPart (fNeg (fC (.int 1)))) [.deck, .dat (.tuple (l.map PyData.int)), .un] k1 = some (.dat (.tuple (DL.cutD (l.map PyData.int) none (some (-1)))), k1) := by
          simp [fSlU, fVar, fNoPart, fPart, fNeg, f1, gI, fC, sl_t]
        have x2 : fSlU (fVar 1) (fPart (fNeg (fC (.int 1)))) fNoPart [.deck, .dat (.tuple (l.map PyData.int)), .un] k1 = some (.dat (.tuple (DL.cutD (l.map PyData.int) (some (-1)) none)), k1) := by
          simp [fSlU, fVar, fNoPart, fPart, fNeg, f1, gI, fC, sl_t]
        have x3 : fSlU (fVar 1) (fPart (fC (.int 1))) fNoPart [.deck, .dat (.tuple (l.map PyData.int)), .un] k1 = some (.dat (.tuple (DL.cutD (l.map PyData.int) (some 1) none)), k1) := by
          simp [fSlU, fVar, fNoPart, fPart, fC, sl_t]
        have x4 : fSlU (fVar 1) fNoPart (fPart (fC (.int 1))) [.deck, .dat (.tuple (l.map PyData.int)), .un] k1 = some (.dat (.tuple (DL.cutD (l.map PyData.int) none (some 1))), k1) := by
          simp [fSlU, fVar, fNoPart, fPart, fC, sl_t]
        have x5 : fDisp ((Sum.inr "a", fVar 1) :: []) [.deck, .dat (.tuple (l.map PyData.int)), .un] k1 = some (.dat (.dict [(.str "a", .tuple (l.map PyData.int))]), k1) := by
          simp [fDisp, fPairs, fVar, keyD]
        have x6 : f1 gListOf (fVar 1) [.deck, .dat (.tuple (l.map PyData.int)), .un] k1 = some (.dat (.list (l.map PyData.int)), k1) := by
          simp [f1, fVar, gListOf, asQ, asL, asT]
        have v : fVar 1 [.deck, .dat (.tuple (l.map PyData.int)), .un] k1 = some (.dat (.tuple (l.map PyData.int)), k1) := rfl
        have v0 : fVar 0 [.deck, .dat (.tuple (l.map PyData.int)), .un] k1 = some (.deck, k1) := rfl
        have rv := rev_t (l.map PyData.int) [.un] .deck k1
        refine call_of (cons_of v0 (cons_of (tup_of (cons_of x6 (cons_of x1 (cons_of (f2_of v (tup_of (cons_of (c_of _) nil_of) rfl (by simp)) y1) (cons_of (f2_of v x2 y2) (cons_of rv (cons_of (tup_of (cons_of v nil_of) rfl (by simp)) (cons_of (c_of _) (cons_of (tup_of nil_of rfl (by simp)) (cons_of (c_of _) (cons_of (c_of _) (cons_of (c_of _) (cons_of (tup_of (cons_of v nil_of) rfl (by simp)) (cons_of (f2_of x3 x4 y3) (cons_of x5 nil_of)))))))))))))) rfl (by simp)) nil_of)) ⟨rfl, rfl⟩ e2
    · have two : ∀ x ∈ [PyData.tuple (l.map PyData.int)], Good 1 700 x := fun x hx => by
        simp only [List.mem_singleton] at hx
        subst hx
        exact (good_tup (n := 4) gl (by omega)).le (by decide) (by decide)
      have cat : ∀ xs ys : List D, (∀ x ∈ xs, Good 0 160 x) → (∀ x ∈ ys, Good 0 160 x) → xs.length ≤ 4 → ys.length ≤ 4 → Good 3 8000 (.tuple (xs ++ ys)) := fun xs ys hx hy l1 l2 =>
        (good_tup (m := 0) (w := 160) (n := 8) (fun x hm => by rcases List.mem_append.mp hm with q | q; exact hx x q; exact hy x q) (by rw [List.length_append]; omega)).le (by decide) (by decide)
      have gc : ∀ lo hi, ∀ x ∈ DL.cutD (l.map PyData.int) lo hi, Good 0 160 x := fun lo hi x hx => gl x (cut_mem hx)
      simp only [List.mem_cons, List.not_mem_nil, or_false] at hd
      rcases hd with rfl | rfl | rfl | rfl | rfl | rfl | rfl | rfl | rfl | rfl | rfl | rfl | rfl | rfl
      · exact (good_lst (n := 4) gl (by omega)).le (by decide) (by decide)
      · exact (good_tup (n := 4) (gc _ _) (c1 _ _)).le (by decide) (by decide)
      · exact cat _ _ gl (fun x hx => by simp only [List.mem_singleton] at hx; subst hx; exact gi (by decide)) (by omega) (by simp)
      · exact cat _ _ gl (gc _ _) (by omega) (c1 _ _)
      · exact (good_tup (n := 4) (fun x hx => gl x (List.mem_reverse.mp hx)) (by rw [List.length_reverse]; omega)).le (by decide) (by decide)
      · exact (good_tup (n := 1) two (by simp)).le (by decide) (by decide)
      · exact good_none.le (by decide) (by decide)
      · exact (good_tup (m := 0) (w := 0) (n := 0) (xs := []) (fun x hx => (nomatch hx)) (by simp)).le (by decide) (by decide)
      · exact (good_str (x := Str.ofString "()") (n := 2) (by decide) (ofs_small _)).le (by decide) (by decide)
      · exact good_nodict.le (by decide) (by decide)
      · exact (gi (by decide)).le (by decide) (by decide)
      · exact (good_lst (n := 1) two (by simp)).le (by decide) (by decide)
      · exact cat _ _ (gc _ _) (gc _ _) (c1 _ _) (c1 _ _)
      · exact (good_dict (two _ (by simp))).le (by decide) (by decide)
end G
set_option Elab.async false
set_option linter.all false
set_option maxRecDepth 100000
set_option maxHeartbeats 4000000
set_option exponentiation.threshold 3000
namespace G
open PySem PySem.Spec PyProof.Rows L2 DL
def cc (D a b : Int) : Int := (b * b - D) / (4 * a)
def pc (D a b : Int) : Bool := (4 * a * cc D a b == b * b - D) && (decide (a ≤ cc D a b) && ((decide (0 ≤ b) || decide (a < cc D a b)) && (((gcdL [a, b, cc D a b] : Nat) : Int) == 1)))
def clBody : Fs := (sSeq (sAsg (fDiv (fSub (f2 gMulU (fVar 3) (fVar 3)) (fVar 0)) (f2 gMulU (fC (.int 4)) (fVar 2))) (qName 4))
    (sIf (tAndF (fTest (fEq (f2 gMulU (f2 gMulU (fC (.int 4)) (fVar 2)) (fVar 4)) (fSub (f2 gMulU (fVar 3) (fVar 3)) (fVar 0)))) (tAndF (fTest (fCmp (fun i j => decide (i ≤ j)) (fVar 2) (fVar 4))) (tAndF (tOrF (fTest (fCmp (fun i j => decide (j ≤ i)) (fVar 3) (fC (.int 0)))) (fTest (fCmp (fun i j => decide (i < j)) (fVar 2) (fVar 4)))) (fTest (fEq (fCall 1 f__law_common (fCons (fSeq .tuple (fCons (fVar 2) (fCons (fVar 3) (fCons (fVar 4) fNil)))) fNil)) (fC (.int 1))))))) (sApp 1 (fSeq .tuple (fCons (fVar 2) (fCons (fVar 3) (fCons (fVar 4) fNil))))) sNext))
theorem cc_small (D a b : Int) (hD : -2000 ≤ D ∧ D ≤ -3) (ha : 1 ≤ a ∧ a ≤ 29) (hb : -30 ≤ b ∧ b ≤ 30) : 0 ≤ cc D a b ∧ cc D a b ≤ 2900 := by
  have h1 : b * b ≤ 30 * 30 := by
    have : b.natAbs * b.natAbs ≤ 30 * 30 := Nat.mul_le_mul (by omega) (by omega)
    have e : ((b.natAbs * b.natAbs : Nat) : Int) = b * b := Int.natAbs_mul_self
    omega
  have h0 : 0 ≤ b * b := by
    have e : ((b.natAbs * b.natAbs : Nat) : Int) = b * b := Int.natAbs_mul_self
    omega
  unfold cc
  constructor
  · exact Int.ediv_nonneg (by omega) (by omega)
  · have : (b * b - D) / (4 * a) ≤ (b * b - D) := Int.ediv_le_self _ (by omega)
    omega
theorem cl_step (D a b : Int) (hD : -2000 ≤ D ∧ D ≤ -3) (ha : 1 ≤ a ∧ a ≤ 29) (hb : -30 ≤ b ∧ b ≤ 30) (acc : List DL.D) (s4 : Sl) (k : Dk) (hl : acc.length < 1000000) :
    clBody [.dat (.int D), .own acc, .dat (.int a), .dat (.int b), s4] k = .nx [.dat (.int D), .own (acc ++ if pc D a b = true then [.tuple [.int a, .int b, .int (cc D a b)]] else []), .dat (.int a), .dat (.int b), .dat (.int (cc D a b))] k := by
  obtain ⟨c0', c1'⟩ := cc_small D a b hD ha hb
  have a1 : cMul b b = true := cM' (by omega) (by omega)
  have a2 : cMul 4 a = true := cM' (by decide) (by omega)
  have a3 : cDiv (b * b - D) (4 * a) = true := cD (by omega) (by omega)
  have a4 : cMul (4 * a) (cc D a b) = true := cM' (by omega) (by omega)
  have hc := lcommon [a, b, cc D a b] k
  simp only [List.map_cons, List.map_nil] at hc
  have t : (tAndF (fTest (fEq (f2 gMulU (f2 gMulU (fC (.int 4)) (fVar 2)) (fVar 4)) (fSub (f2 gMulU (fVar 3) (fVar 3)) (fVar 0)))) (tAndF (fTest (fCmp (fun i j => decide (i ≤ j)) (fVar 2) (fVar 4))) (tAndF (tOrF (fTest (fCmp (fun i j => decide (j ≤ i)) (fVar 3) (fC (.int 0)))) (fTest (fCmp (fun i j => decide (i < j)) (fVar 2) (fVar 4)))) (fTest (fEq (fCall 1 f__law_common (fCons (fSeq .tuple (fCons (fVar 2) (fCons (fVar 3) (fCons (fVar 4) fNil)))) fNil)) (fC (.int 1))))))) [.dat (.int D), .own acc, .dat (.int a), .dat (.int b), .dat (.int (cc D a b))] k = some (pc D a b, k) := by
    unfold pc
    by_cases q1 : (4 * a * cc D a b == b * b - D) = true
    · by_cases q2 : a ≤ cc D a b
      · by_cases q3 : 0 ≤ b
        · simp [tAndF, tOrF, fTest, fEq, f2, gMulU, gII, fC, fVar, fSub, c0, a1, a2, a4, eqII, q1, fCmp, q2, q3, fCall, fCons, fNil, fSeq, dats, okArg, hc]
        · by_cases q4 : a < cc D a b
          · simp [tAndF, tOrF, fTest, fEq, f2, gMulU, gII, fC, fVar, fSub, c0, a1, a2, a4, eqII, q1, fCmp, q2, q3, q4, fCall, fCons, fNil, fSeq, dats, okArg, hc]
          · simp [tAndF, tOrF, fTest, fEq, f2, gMulU, gII, fC, fVar, fSub, c0, a1, a2, a4, eqII, q1, fCmp, q2, q3, q4, fCall, fCons, fNil, fSeq, dats, okArg, hc]
      · simp [tAndF, tOrF, fTest, fEq, f2, gMulU, gII, fC, fVar, fSub, c0, a1, a2, a4, eqII, q1, fCmp, q2]
    · have q1' : (4 * a * cc D a b == b * b - D) = false := by simpa using q1
      simp [tAndF, tOrF, fTest, fEq, f2, gMulU, gII, fC, fVar, fSub, c0, a1, a2, a4, eqII, q1']
  refine seq_of (e' := [.dat (.int D), .own acc, .dat (.int a), .dat (.int b), .dat (.int (cc D a b))]) (k' := k) ?_ ?_
  · simp [sAsg, fDiv, fSub, f2, gMulU, gII, fVar, fC, c0, a1, a2, a3, qName, stor, cc]
  · cases hp : pc D a b with
    | true =>
      rw [hp] at t
      refine if_t t ?_
      simp [sApp, fSeq, fCons, fNil, fVar, dats, hl]
    | false =>
      rw [hp] at t
      refine if_f t ?_
      simp [sNext]
def El (x : DL.D) : Prop := ∃ a b c : Int, x = .tuple [.int a, .int b, .int c] ∧ a.natAbs ≤ 3000 ∧ b.natAbs ≤ 3000 ∧ c.natAbs ≤ 3000
theorem cl_in (D a : Int) (hD : -2000 ≤ D ∧ D ≤ -3) (ha : 1 ≤ a ∧ a ≤ 29) : ∀ (bs : List Int) (acc : List DL.D) (s3 s4 : Sl) (k : Dk), (∀ b ∈ bs, -30 ≤ b ∧ b ≤ 30) → acc.length + bs.length < 1000000 → (∀ x ∈ acc, El x) →
    ∃ acc' s3' s4', loopF (qName 3) clBody (bs.map PyData.int) [.dat (.int D), .own acc, .dat (.int a), s3, s4] k = .nx [.dat (.int D), .own acc', .dat (.int a), s3', s4'] k ∧ (∀ x ∈ acc', El x) ∧ acc'.length ≤ acc.length + bs.length ∧ (acc ≠ [] ∨ (∃ b ∈ bs, pc D a b = true) → acc' ≠ [])
  | [], acc, s3, s4, k, _, _, he => ⟨acc, s3, s4, rfl, he, Nat.le_refl _, fun h => by
      rcases h with h | ⟨b, hb, _⟩
      · exact h
      · cases hb⟩
  | b :: bs, acc, s3, s4, k, hb, hl, he => by
    simp only [List.length_cons] at hl
    have hb0 := hb b (List.mem_cons_self ..)
    have st := cl_step D a b hD ha hb0 acc s4 k (by omega)
    obtain ⟨c0', c1'⟩ := cc_small D a b hD ha hb0
    have e1 : ∀ x ∈ acc ++ (if pc D a b = true then [PyData.tuple [.int a, .int b, .int (cc D a b)]] else []), El x := by
      intro x hx
      rcases List.mem_append.mp hx with hx | hx
      · exact he x hx
      · split at hx
        · simp only [List.mem_singleton] at hx
          exact ⟨a, b, cc D a b, hx, by omega, by omega, by omega⟩
        · cases hx
    have l1 : (acc ++ (if pc D a b = true then [PyData.tuple [.int a, .int b, .int (cc D a b)]] else [])).length ≤ acc.length + 1 := by
      rw [List.length_append]
      split <;> simp
    obtain ⟨acc', s3', s4', e, h1, h2, h3⟩ := cl_in D a hD ha bs _ (.dat (.int b)) (.dat (.int (cc D a b))) k (fun y hy => hb y (List.mem_cons_of_mem _ hy)) (by omega) e1
    refine ⟨acc', s3', s4', ?_, h1, by simp only [List.length_cons]; omega, fun h => h3 ?_⟩
    · have q : qName 3 (.dat (.int b)) [.dat (.int D), .own acc, .dat (.int a), s3, s4] = some [.dat (.int D), .own acc, .dat (.int a), .dat (.int b), s4] := by simp [qName, stor]
      simp only [List.map_cons, loopF, q, st]
      exact e
    · rcases h with h | ⟨y, hy, hp⟩
      · refine .inl fun z => h (List.append_eq_nil_iff.mp z).1
      · cases hy with
        | head => 
          rw [hp]
          exact .inl (by simp)
        | tail _ hy => exact .inr ⟨y, hy, hp⟩
def clFor : Fs := sFor (wRng2 (fCons (fSub (fC (.int 1)) (fVar 2)) (fCons (f2 gAddU (fVar 2) (fC (.int 1))) fNil))) (qName 3) clBody
theorem cl_out (D : Int) (hD : -2000 ≤ D ∧ D ≤ -3) : ∀ (as : List Int) (acc : List DL.D) (s2 s3 s4 : Sl) (k : Dk), (∀ a ∈ as, 1 ≤ a ∧ a ≤ 29) → acc.length + 100 * as.length < 1000000 → (∀ x ∈ acc, El x) →
    ∃ acc' s2' s3' s4', loopF (qName 2) clFor (as.map PyData.int) [.dat (.int D), .own acc, s2, s3, s4] k = .nx [.dat (.int D), .own acc', s2', s3', s4'] k ∧ (∀ x ∈ acc', El x) ∧ acc'.length ≤ acc.length + 100 * as.length ∧ (acc ≠ [] ∨ (∃ a ∈ as, ∃ b, 1 - a ≤ b ∧ b < a + 1 ∧ pc D a b = true) → acc' ≠ [])
  | [], acc, s2, s3, s4, k, _, _, he => ⟨acc, s2, s3, s4, rfl, he, by omega, fun h => by
      rcases h with h | ⟨b, hb, _⟩
      · exact h
      · cases hb⟩
  | a :: as, acc, s2, s3, s4, k, ha, hl, he => by
    simp only [List.length_cons] at hl
    have ha0 := ha a (List.mem_cons_self ..)
    have hbs : rng (1 - a) (a + 1 - (1 - a)).toNat = ((List.range (a + 1 - (1 - a)).toNat).map fun i => (1 - a + (i : Nat) : Int)).map PyData.int := by
      unfold rng
      rw [List.map_map]
      rfl
    have lb : ((List.range (a + 1 - (1 - a)).toNat).map fun i => (1 - a + (i : Nat) : Int)).length = (a + 1 - (1 - a)).toNat := by rw [List.length_map, List.length_range]
    obtain ⟨acc1, t3, t4, e, h1, h2, h3⟩ := cl_in D a hD ha0 ((List.range (a + 1 - (1 - a)).toNat).map fun i => (1 - a + (i : Nat) : Int)) acc s3 s4 k (fun b hb => by
      obtain ⟨i, hi, rfl⟩ := List.mem_map.mp hb
      have := List.mem_range.mp hi
      omega) (by rw [lb]; omega) he
    rw [lb] at h2
    obtain ⟨acc', s2', s3', s4', e', h1', h2', h3'⟩ := cl_out D hD as acc1 (.dat (.int a)) t3 t4 k (fun y hy => ha y (List.mem_cons_of_mem _ hy)) (by omega) h1
    refine ⟨acc', s2', s3', s4', ?_, h1', by simp only [List.length_cons]; omega, fun h => h3' ?_⟩
    · have q : qName 2 (.dat (.int a)) [.dat (.int D), .own acc, s2, s3, s4] = some [.dat (.int D), .own acc, .dat (.int a), s3, s4] := by simp [qName, stor]
      have w : wRng2 (fCons (fSub (fC (.int 1)) (fVar 2)) (fCons (f2 gAddU (fVar 2) (fC (.int 1))) fNil)) [.dat (.int D), .own acc, .dat (.int a), s3, s4] k = some (rng (1 - a) (a + 1 - (1 - a)).toNat, k) := by
        have g1 : -(2 ^ 62) ≤ 1 - a ∧ 1 - a < 2 ^ 62 ∧ -(2 ^ 62) ≤ a + 1 ∧ a + 1 < 2 ^ 62 := by omega
        have e1 : fCons (fSub (fC (.int 1)) (fVar 2)) (fCons (f2 gAddU (fVar 2) (fC (.int 1))) fNil) [.dat (.int D), .own acc, .dat (.int a), s3, s4] k = some ([.dat (.int (1 - a)), .dat (.int (a + 1))], k) := by
          simp [fCons, fNil, fSub, f2, gII, fC, fVar, gAddU, c0]
        unfold wRng2
        rw [e1]
        simp only
        rw [if_pos g1]
      simp only [List.map_cons, loopF, q]
      unfold clFor sFor
      simp only [w, hbs]
      rw [e]
      exact e'
    · rcases h with h | ⟨y, hy, b, b0, b1, hp⟩
      · exact .inl (h3 (.inl h))
      · cases hy with
        | head =>
          refine .inl (h3 (.inr ⟨b, List.mem_map.mpr ⟨(b - (1 - a)).toNat, List.mem_range.mpr (by omega), by omega⟩, hp⟩))
        | tail _ hy => exact .inr ⟨y, hy, b, b0, b1, hp⟩
def DiscOk (D : Int) : Prop := -2000 ≤ D ∧ D ≤ -3 ∧ (D % 4 = 0 ∨ D % 4 = 1)
theorem pc_one {D : Int} (h : DiscOk D) : ∃ b, 1 - 1 ≤ b ∧ b < (1 : Int) + 1 ∧ pc D 1 b = true := by
  obtain ⟨h1, h2, h3⟩ := h
  rcases h3 with h3 | h3
  · refine ⟨0, by omega, by omega, ?_⟩
    have e : cc D 1 0 = (0 - D) / 4 := by unfold cc; rfl
    unfold pc
    rw [e]
    have g : gcdL [1, 0, (0 - D) / 4] = 1 := by simp [gcdL]
    rw [g]
    simp
    omega
  · refine ⟨1, by omega, by omega, ?_⟩
    have e : cc D 1 1 = (1 - D) / 4 := by unfold cc; rfl
    unfold pc
    rw [e]
    have g : gcdL [1, 1, (1 - D) / 4] = 1 := by simp [gcdL]
    rw [g]
    simp
    omega
theorem classes (D : Int) (h : DiscOk D) (k : Dk) : ∃ L, f__law_classes [.dat (.int D)] k = some (.list L, k) ∧ L ≠ [] ∧ L.length < 1000000 ∧ ∀ x ∈ L, El x := by
  have hr : rng 1 (30 - 1 : Int).toNat = ((List.range 29).map fun i => (1 + (i : Nat) : Int)).map PyData.int := by
    unfold rng
    rw [List.map_map]
    rfl
  obtain ⟨L, s2, s3, s4, e, h1, h2, h3⟩ := cl_out D ⟨h.1, h.2.1⟩ ((List.range 29).map fun i => (1 + (i : Nat) : Int)) [] .un .un .un k (fun a ha => by
    obtain ⟨i, hi, rfl⟩ := List.mem_map.mp ha
    have := List.mem_range.mp hi
    omega) (by rw [List.length_map, List.length_range]; simp) (fun x hx => (nomatch hx))
  rw [List.length_map, List.length_range] at h2
  obtain ⟨b, b0, b1, hp⟩ := pc_one h
  refine ⟨L, ?_, h3 (.inr ⟨1, List.mem_map.mpr ⟨0, by simp, rfl⟩, b, b0, b1, hp⟩), by simp at h2; omega, h1⟩
  refine fn_of (seq_of (e' := [.dat (.int D), .own [], .un, .un, .un]) (k' := k) rfl (seq_of (e' := [.dat (.int D), .own L, s2, s3, s4]) (k' := k) ?_ ?_))
  · have w : wRng2 (fCons (fC (.int 1)) (fCons (fC (.int 30)) fNil)) [.dat (.int D), .own [], .un, .un, .un] k = some (rng 1 (30 - 1 : Int).toNat, k) := by
      have g1 : -(2 ^ 62) ≤ (1 : Int) ∧ (1 : Int) < 2 ^ 62 ∧ -(2 ^ 62) ≤ (30 : Int) ∧ (30 : Int) < 2 ^ 62 := by omega
      unfold wRng2
      simp only [fCons, fNil, fC, Option.bind_some, Option.map_some]
      rw [if_pos g1]
    show sFor (wRng2 (fCons (fC (.int 1)) (fCons (fC (.int 30)) fNil))) (qName 2) clFor _ _ = _
    unfold sFor
    simp only [w, hr]
    exact e
  · simp [sRet, fVar]
end G
set_option Elab.async false
set_option linter.all false
set_option maxRecDepth 100000
set_option maxHeartbeats 4000000
set_option exponentiation.threshold 3000
namespace G
open PySem PySem.Spec PyProof.Rows L2 DL
theorem nb_mul {x y : Int} {m n : Nat} (h1 : x.natAbs ≤ m) (h2 : y.natAbs ≤ n) : (x * y).natAbs ≤ m * n := by
  rw [Int.natAbs_mul]
  exact Nat.mul_le_mul h1 h2
theorem nb_add {x y : Int} {m n : Nat} (h1 : x.natAbs ≤ m) (h2 : y.natAbs ≤ n) : (x + y).natAbs ≤ m + n := by
  have := Int.natAbs_add_le x y
  omega
theorem cB {i j : Int} {m n : Nat} (hi : i.natAbs ≤ m) (hj : j.natAbs ≤ n) (hm : m < 10 ^ 200) (hn : n < 10 ^ 200) : cMul i j = true := cM' (by omega) (by omega)
theorem discriminant (most : Int) (h0 : 1 ≤ most) (h1 : most ≤ 499) (n : Nat) (k : Dk) (h : Ok (n + 3) k) : ∃ D k', f__law_discriminant [.deck, .dat (.int most)] k = some (.int D, k') ∧ DiscOk D ∧ Ok n k' := by
  obtain ⟨r, k1, e1, r0, r1, ok1⟩ := draw 6 (by decide) (by decide) (n + 2) k h
  have v0 : ∀ k, fVar 0 [.deck, .dat (.int most)] k = some (.deck, k) := fun k => rfl
  have t : fTest (fEq (fCall 2 f__law_draw (fCons (fVar 0) (fCons (fC (.int 6)) fNil))) (fC (.int 0))) [.deck, .dat (.int most)] k = some (r == 0, k1) := by
    simp [fTest, fEq, f2, fCall, fCons, fNil, fVar, fC, okArg, e1, eqII]
  by_cases hr : (r == 0) = true
  · rw [hr] at t
    obtain ⟨d, k2, e2, hd, ok2⟩ := pick (.tuple [.int (-3), .int (-4), .int (-2000)]) _ rfl (by simp) (by simp) (n + 1) k1 ok1
    have hd' : ∃ D, d = .int D ∧ DiscOk D := by
      simp only [List.mem_cons, List.not_mem_nil, or_false] at hd
      rcases hd with rfl | rfl | rfl
      · exact ⟨_, rfl, by decide, by decide, by decide⟩
      · exact ⟨_, rfl, by decide, by decide, by decide⟩
      · exact ⟨_, rfl, by decide, by decide, by decide⟩
    obtain ⟨D, rfl, hD⟩ := hd'
    refine ⟨D, k2, fn_of (seq_rt (if_t t (ret_of ?_))), hD, ok2.less (by omega)⟩
    have ng : ∀ z : Int, fNeg (fC (.int z)) [.deck, .dat (.int most)] k1 = some (.dat (.int (-z)), k1) := fun z => rfl
    exact call_of (cons_of (v0 _) (cons_of (tup_of (cons_of (ng 3) (cons_of (ng 4) (cons_of (ng 2000) nil_of))) rfl (by simp)) nil_of)) ⟨rfl, rfl⟩ e2
  · have hr' : (r == 0) = false := by simpa using hr
    rw [hr'] at t
    obtain ⟨a, k2, e2, a0, a1, ok2⟩ := draw most (by omega) (by omega) (n + 1) k1 ok1
    obtain ⟨d, k3, e3, hd, ok3⟩ := pick (.tuple [.int 0, .int 3]) _ rfl (by simp) (by simp) n k2 ok2
    have hd' : d = .int 0 ∨ d = .int 3 := by simpa using hd
    have hb : ∃ b : Int, d = .int b ∧ (b = 0 ∨ b = 3) := by
      rcases hd' with rfl | rfl
      · exact ⟨0, rfl, .inl rfl⟩
      · exact ⟨3, rfl, .inr rfl⟩
    obtain ⟨b, rfl, hb⟩ := hb
    have am : cMul 4 (1 + a) = true := cM' (by decide) (by omega)
    refine ⟨0 - 4 * (1 + a) - b, k3, fn_of (seq_of (if_f t rfl) (ret_of ?_)), ⟨by omega, by omega, by omega⟩, ok3⟩
    have x1 : f2 gAddU (fC (.int 1)) (fCall 2 f__law_draw (fCons (fVar 0) (fCons (fVar 1) fNil))) [.deck, .dat (.int most)] k1 = some (.dat (.int (1 + a)), k2) :=
      f2_of (c_of _) (call_of (cons_of (v0 _) (cons_of rfl nil_of)) ⟨rfl, rfl⟩ e2) rfl
    have x2 : f2 gMulU (fC (.int 4)) (f2 gAddU (fC (.int 1)) (fCall 2 f__law_draw (fCons (fVar 0) (fCons (fVar 1) fNil)))) [.deck, .dat (.int most)] k1 = some (.dat (.int (4 * (1 + a))), k2) :=
      f2_of (c_of _) x1 (by simp [gMulU, gII, am])
    exact f2_of (f2_of (c_of _) x2 rfl) (call_of (cons_of (v0 _) (cons_of (tup_of (cons_of (c_of _) (cons_of (c_of _) nil_of)) rfl (by simp)) nil_of)) ⟨rfl, rfl⟩ e3) rfl
def T4 (p q r s : Int) : DL.D := .tuple [.int p, .int q, .int r, .int s]
def T3 (a b c : Int) : DL.D := .tuple [.int a, .int b, .int c]
theorem product (p q r s t u v w : Int) (h : ∀ z ∈ [p, q, r, s, t, u, v, w], z.natAbs < 10 ^ 200) (k : Dk) : f__law_product [.dat (T4 p q r s), .dat (T4 t u v w)] k = some (T4 (p * t + q * v) (p * u + q * w) (r * t + s * v) (r * u + s * w), k) := by
  have m : ∀ x ∈ [p, q, r, s, t, u, v, w], ∀ y ∈ [p, q, r, s, t, u, v, w], cMul x y = true := fun x hx y hy => cM' (h x hx) (h y hy)
  have m1 := m p (by simp) t (by simp)
  have m2 := m q (by simp) v (by simp)
  have m3 := m p (by simp) u (by simp)
  have m4 := m q (by simp) w (by simp)
  have m5 := m r (by simp) t (by simp)
  have m6 := m s (by simp) v (by simp)
  have m7 := m r (by simp) u (by simp)
  have m8 := m s (by simp) w (by simp)
  refine fn_of ?_
  simp [g__law_product, sSeq, sAsg, fSeq, fCons, fNil, fVar, T4, dats, qTup, asT, qCons, qName, qNil, stor, sRet, f2, gAddU, gMulU, gII, c0, m1, m2, m3, m4, m5, m6, m7, m8]
theorem led (a b c p q r s : Int) (ha : a.natAbs ≤ 3000) (hb : b.natAbs ≤ 3000) (hc : c.natAbs ≤ 3000) (hp : p.natAbs ≤ 10000) (hq : q.natAbs ≤ 10000) (hr : r.natAbs ≤ 10000) (hs : s.natAbs ≤ 10000) (k : Dk) :
    ∃ x y z : Int, f__law_led [.dat (T3 a b c), .dat (T4 p q r s)] k = some (T3 x y z, k) ∧ x.natAbs < 10 ^ 44 ∧ y.natAbs < 10 ^ 44 ∧ z.natAbs < 10 ^ 44 := by
  have two : (2 : Int).natAbs ≤ 2 := by decide
  have ps := nb_mul hp hs
  have qr := nb_mul hq hr
  have ap := nb_mul ha hp
  have bp := nb_mul hb hp
  have cr := nb_mul hc hr
  have aq := nb_mul ha hq
  have bq := nb_mul hb hq
  have cs := nb_mul hc hs
  have ta := nb_mul two ha
  have tc := nb_mul two hc
  have tap := nb_mul ta hp
  have tcr := nb_mul tc hr
  have sm := nb_add ps qr
  have m1 := cB ha hp (by decide) (by decide)
  have m2 := cB ap hp (by decide) (by decide)
  have m3 := cB hb hp (by decide) (by decide)
  have m4 := cB bp hr (by decide) (by decide)
  have m5 := cB hc hr (by decide) (by decide)
  have m6 := cB cr hr (by decide) (by decide)
  have m7 := cB ha hq (by decide) (by decide)
  have m8 := cB aq hq (by decide) (by decide)
  have m9 := cB hb hq (by decide) (by decide)
  have m10 := cB bq hs (by decide) (by decide)
  have m11 := cB hc hs (by decide) (by decide)
  have m12 := cB cs hs (by decide) (by decide)
  have m13 := cB two ha (by decide) (by decide)
  have m14 := cB ta hp (by decide) (by decide)
  have m15 := cB tap hq (by decide) (by decide)
  have m16 := cB hp hs (by decide) (by decide)
  have m17 := cB hq hr (by decide) (by decide)
  have m18 := cB hb sm (by decide) (by decide)
  have m19 := cB two hc (by decide) (by decide)
  have m20 := cB tc hr (by decide) (by decide)
  have m21 := cB tcr hs (by decide) (by decide)
  refine ⟨a * p * p + b * p * r + c * r * r, 2 * a * p * q + b * (p * s + q * r) + 2 * c * r * s, a * q * q + b * q * s + c * s * s, fn_of ?_, ?_, ?_, ?_⟩
  · simp [g__law_led, sSeq, sAsg, sPar, fSeq, fCons, fNil, fVar, fC, T3, T4, dats, qTup, asT, qCons, qName, qNil, stor, sRet, f2, gAddU, gMulU, gII, c0, m1, m2, m3, m4, m5, m6, m7, m8, m9, m10, m11, m12, m13, m14, m15, m16, m17, m18, m19, m20, m21]
  · exact Nat.lt_of_le_of_lt (nb_add (nb_add (nb_mul ap hp) (nb_mul bp hr)) (nb_mul cr hr)) (by decide)
  · exact Nat.lt_of_le_of_lt (nb_add (nb_add (nb_mul tap hq) (nb_mul hb sm)) (nb_mul tcr hs)) (by decide)
  · exact Nat.lt_of_le_of_lt (nb_add (nb_add (nb_mul aq hq) (nb_mul bq hs)) (nb_mul cs hs)) (by decide)
end G
set_option Elab.async false
set_option linter.all false
set_option maxRecDepth 100000
set_option maxHeartbeats 4000000
set_option exponentiation.threshold 3000
namespace G
open PySem PySem.Spec PyProof.Rows L2 DL
theorem asg_of {f : Fe} {q : Fg'} {env env' : List Sl} {k k1 : Dk} {a : Sl} (h1 : f env k = some (a, k1)) (h2 : q a env = some env') : sAsg f q env k = .nx env' k1 := by
  unfold sAsg
  simp only [h1, h2]
def chBody : Fs := (sSeq (sAsg (fSub (fCall 2 f__law_draw (fCons (fVar 0) (fCons (fC (.int 7)) fNil))) (fC (.int 3))) (qName 4))
    (sAsg (fCall 2 f__law_product (fCons (fVar 2) (fCons (fCall 2 f__law_pick (fCons (fVar 0) (fCons (fSeq .tuple (fCons (fSeq .tuple (fCons (fC (.int 1)) (fCons (fVar 4) (fCons (fC (.int 0)) (fCons (fC (.int 1)) fNil))))) (fCons (fSeq .tuple (fCons (fC (.int 1)) (fCons (fC (.int 0)) (fCons (fVar 4) (fCons (fC (.int 1)) fNil))))) (fCons (fSeq .tuple (fCons (fC (.int 0)) (fCons (fNeg (fC (.int 1))) (fCons (fC (.int 1)) (fCons (fC (.int 0)) fNil))))) (fCons (fSeq .tuple (fCons (fNeg (fC (.int 1))) (fCons (fC (.int 0)) (fCons (fC (.int 0)) (fCons (fNeg (fC (.int 1))) fNil))))) fNil))))) fNil))) fNil))) (qName 2)))
/-- four entries of at most B -/
def M4 (B : Nat) (d : DL.D) : Prop := ∃ p q r s : Int, d = T4 p q r s ∧ p.natAbs ≤ B ∧ q.natAbs ≤ B ∧ r.natAbs ≤ B ∧ s.natAbs ≤ B
theorem ch_step (m : Int) (B : Nat) (hB : B ≤ 10000) (d : DL.D) (hd : M4 B d) (s3 s4 : Sl) (n : Nat) (k : Dk) (h : Ok (n + 2) k) : ∃ d' x k', chBody [.deck, .dat (.int m), .dat d, s3, s4] k = .nx [.deck, .dat (.int m), .dat d', s3, x] k' ∧ M4 (B * 6) d' ∧ Ok n k' := by
  obtain ⟨p, q, r, s, rfl, hp, hq, hr, hs⟩ := hd
  obtain ⟨a, k1, e1, a0, a1, ok1⟩ := draw 7 (by decide) (by decide) (n + 1) k h
  obtain ⟨o, k2, e2, ho, ok2⟩ := pick (.tuple [T4 1 (a - 3) 0 1, T4 1 0 (a - 3) 1, T4 0 (-1) 1 0, T4 (-1) 0 0 (-1)]) _ rfl (by simp) (by simp) n k1 ok1
  have ho' : M4 3 o := by
    simp only [List.mem_cons, List.not_mem_nil, or_false] at ho
    rcases ho with rfl | rfl | rfl | rfl
    · exact ⟨_, _, _, _, rfl, by decide, by omega, by decide, by decide⟩
    · exact ⟨_, _, _, _, rfl, by decide, by decide, by omega, by decide⟩
    · exact ⟨_, _, _, _, rfl, by decide, by decide, by decide, by decide⟩
    · exact ⟨_, _, _, _, rfl, by decide, by decide, by decide, by decide⟩
  obtain ⟨t, u, v, w, rfl, ht, hu, hv, hw⟩ := ho'
  have lt1 : ∀ {z : Int}, z.natAbs ≤ B → z.natAbs < 10 ^ 200 := fun {z} hz => Nat.lt_of_le_of_lt (Nat.le_trans hz hB) (by decide)
  have lt2 : ∀ {z : Int}, z.natAbs ≤ 3 → z.natAbs < 10 ^ 200 := fun {z} hz => Nat.lt_of_le_of_lt hz (by decide)
  have pr := product p q r s t u v w (fun z hz => by
    simp only [List.mem_cons, List.not_mem_nil, or_false] at hz
    rcases hz with rfl | rfl | rfl | rfl | rfl | rfl | rfl | rfl
    · exact lt1 hp
    · exact lt1 hq
    · exact lt1 hr
    · exact lt1 hs
    · exact lt2 ht
    · exact lt2 hu
    · exact lt2 hv
    · exact lt2 hw) k2
  have six : ∀ {x y : Int}, x.natAbs ≤ B * 3 → y.natAbs ≤ B * 3 → (x + y).natAbs ≤ B * 6 := fun {x y} h1 h2 => by have := nb_add h1 h2; omega
  refine ⟨_, .dat (.int (a - 3)), k2, seq_of (e' := [.deck, .dat (.int m), .dat (T4 p q r s), s3, .dat (.int (a - 3))]) (k' := k1) ?_ ?_, ⟨_, _, _, _, rfl, six (nb_mul hp ht) (nb_mul hq hv), six (nb_mul hp hu) (nb_mul hq hw), six (nb_mul hr ht) (nb_mul hs hv), six (nb_mul hr hu) (nb_mul hs hw)⟩, ok2⟩
  · simp [sAsg, fSub, f2, fCall, fCons, fNil, fVar, fC, okArg, e1, gII, c0, qName, stor]
  · have v0 : ∀ k, fVar 0 [.deck, .dat (.int m), .dat (T4 p q r s), s3, .dat (.int (a - 3))] k = some (.deck, k) := fun k => rfl
    have v2 : ∀ k, fVar 2 [.deck, .dat (.int m), .dat (T4 p q r s), s3, .dat (.int (a - 3))] k = some (.dat (T4 p q r s), k) := fun k => rfl
    have v4 : ∀ k, fVar 4 [.deck, .dat (.int m), .dat (T4 p q r s), s3, .dat (.int (a - 3))] k = some (.dat (.int (a - 3)), k) := fun k => rfl
    have ng : ∀ k, fNeg (fC (.int 1)) [.deck, .dat (.int m), .dat (T4 p q r s), s3, .dat (.int (a - 3))] k = some (.dat (.int (-1)), k) := fun k => rfl
    refine asg_of (a := .dat (T4 (p * t + q * v) (p * u + q * w) (r * t + s * v) (r * u + s * w))) (k1 := k2) (call_of (cons_of (v2 k1) (cons_of (call_of (cons_of (v0 k1) (cons_of (tup_of (cons_of (tup_of (cons_of (c_of (.int 1)) (cons_of (v4 k1) (cons_of (c_of (.int 0)) (cons_of (c_of (.int 1)) nil_of)))) rfl (by simp)) (cons_of (tup_of (cons_of (c_of (.int 1)) (cons_of (c_of (.int 0)) (cons_of (v4 k1) (cons_of (c_of (.int 1)) nil_of)))) rfl (by simp)) (cons_of (tup_of (cons_of (c_of (.int 0)) (cons_of (ng k1) (cons_of (c_of (.int 1)) (cons_of (c_of (.int 0)) nil_of)))) rfl (by simp)) (cons_of (tup_of (cons_of (ng k1) (cons_of (c_of (.int 0)) (cons_of (c_of (.int 0)) (cons_of (ng k1) nil_of)))) rfl (by simp)) nil_of)))) rfl (by simp)) nil_of)) ⟨rfl, rfl⟩ e2) nil_of)) ⟨rfl, rfl⟩ pr) rfl
theorem ch_loop (m : Int) (n : Nat) : ∀ (xs : List DL.D) (B : Nat) (d : DL.D) (s3 s4 : Sl) (k : Dk), B * 6 ^ xs.length ≤ 10000 → M4 B d → Ok (n + 2 * xs.length) k → (∀ x ∈ xs, ∃ z, x = .int z) →
    ∃ d' s3' s4' k', loopF (qName 3) chBody xs [.deck, .dat (.int m), .dat d, s3, s4] k = .nx [.deck, .dat (.int m), .dat d', s3', s4'] k' ∧ M4 10000 d' ∧ Ok n k'
  | [], B, d, s3, s4, k, hB, hd, h, _ => by
    obtain ⟨p, q, r, s, e, hp, hq, hr, hs⟩ := hd
    simp only [List.length_nil, Nat.pow_zero, Nat.mul_one] at hB
    exact ⟨d, s3, s4, k, rfl, ⟨p, q, r, s, e, by omega, by omega, by omega, by omega⟩, h⟩
  | x :: xs, B, d, s3, s4, k, hB, hd, h, hx => by
    obtain ⟨z, rfl⟩ := hx x (List.mem_cons_self ..)
    simp only [List.length_cons] at hB h
    have hp : 1 ≤ 6 ^ (xs.length + 1) := Nat.pow_pos (by decide)
    have hB1 : B ≤ B * 6 ^ (xs.length + 1) := Nat.le_mul_of_pos_right _ hp
    obtain ⟨d1, x4, k1, e1, hd1, ok1⟩ := ch_step m B (by omega) d hd (.dat (.int z)) s4 (n + 2 * xs.length) k (h.less (by omega))
    have hB2 : B * 6 * 6 ^ xs.length ≤ 10000 := by
      have e : B * 6 ^ (xs.length + 1) = B * 6 * 6 ^ xs.length := by rw [Nat.pow_succ, Nat.mul_assoc B 6, Nat.mul_comm 6]
      omega
    obtain ⟨d', s3', s4', k', e, h1, h2⟩ := ch_loop m n xs (B * 6) d1 (.dat (.int z)) x4 k1 hB2 hd1 ok1 fun y hy => hx y (List.mem_cons_of_mem _ hy)
    refine ⟨d', s3', s4', k', ?_, h1, h2⟩
    have q : qName 3 (.dat (.int z)) [.deck, .dat (.int m), .dat d, s3, s4] = some [.deck, .dat (.int m), .dat d, .dat (.int z), s4] := by simp [qName, stor]
    simp only [loopF, q, e1]
    exact e
theorem change (m : Int) (h0 : 1 ≤ m) (h5 : m ≤ 5) (n : Nat) (k : Dk) (h : Ok (n + 12) k) : ∃ d k', f__law_change [.deck, .dat (.int m)] k = some (d, k') ∧ M4 10000 d ∧ Ok n k' := by
  obtain ⟨r, k1, e1, r0, r1, ok1⟩ := draw (m + 1) (by omega) (by omega) (n + 11) k h
  have hl : (rng 0 r.toNat).length = r.toNat := rng_len 0 r.toNat
  have h6 : 6 ^ (rng 0 r.toNat).length ≤ 6 ^ 5 := Nat.pow_le_pow_right (by decide) (by omega)
  obtain ⟨d', s3', s4', k', e, h1, h2⟩ := ch_loop m n (rng 0 r.toNat) 1 (T4 1 0 0 1) .un .un k1 (by
    have : (6 : Nat) ^ 5 = 7776 := by decide
    omega) ⟨1, 0, 0, 1, rfl, by decide, by decide, by decide, by decide⟩ (ok1.less (by omega)) (fun x hx => by
    unfold rng at hx
    obtain ⟨i, _, rfl⟩ := List.mem_map.mp hx
    exact ⟨_, rfl⟩)
  refine ⟨d', k', fn_of (seq_of (e' := [.deck, .dat (.int m), .dat (T4 1 0 0 1), .un, .un]) (k' := k) (asg_of (tup_of (cons_of (c_of _) (cons_of (c_of _) (cons_of (c_of _) (cons_of (c_of _) nil_of)))) rfl (by simp)) rfl) (seq_of (e' := [.deck, .dat (.int m), .dat d', s3', s4']) (k' := k') ?_ (ret_of rfl))), h1, h2⟩
  have w : wRng1 (fCons (fCall 2 f__law_draw (fCons (fVar 0) (fCons (f2 gAddU (fVar 1) (fC (.int 1))) fNil))) fNil) [.deck, .dat (.int m), .dat (T4 1 0 0 1), .un, .un] k = some (rng 0 r.toNat, k1) := by
    have g1 : -(2 ^ 62) ≤ r ∧ r < 2 ^ 62 := by omega
    have c : fCons (fCall 2 f__law_draw (fCons (fVar 0) (fCons (f2 gAddU (fVar 1) (fC (.int 1))) fNil))) fNil [.deck, .dat (.int m), .dat (T4 1 0 0 1), .un, .un] k = some ([.dat (.int r)], k1) :=
      cons_of (call_of (cons_of (a := .deck) rfl (cons_of (f2_of rfl (c_of _) rfl) nil_of)) ⟨rfl, rfl⟩ e1) nil_of
    unfold wRng1
    rw [c]
    simp only
    rw [if_pos g1]
  show sFor _ (qName 3) chBody _ _ = _
  unfold sFor
  simp only [w]
  exact e
theorem form (D : Int) (hD : DiscOk D) (n : Nat) (k : Dk) (h : Ok (n + 13) k) : ∃ x y z k', f__law_form [.deck, .dat (.int D), .dat (.int 4)] k = some (T3 x y z, k') ∧ x.natAbs < 10 ^ 44 ∧ y.natAbs < 10 ^ 44 ∧ z.natAbs < 10 ^ 44 ∧ Ok n k' := by
  obtain ⟨L, e1, hne, hl, hel⟩ := classes D hD k
  obtain ⟨f, k1, e2, hf, ok1⟩ := pick (.list L) L rfl (List.length_pos_iff.mpr hne) hl (n + 12) k h
  obtain ⟨a, b, c, rfl, ha, hb, hc⟩ := hel f hf
  obtain ⟨d, k2, e3, hd, ok2⟩ := change 4 (by decide) (by decide) n k1 ok1
  obtain ⟨p, q, r, s, rfl, hp, hq, hr, hs⟩ := hd
  obtain ⟨x, y, z, e4, hx, hy, hz⟩ := led a b c p q r s ha hb hc hp hq hr hs k2
  refine ⟨x, y, z, k2, fn_of (ret_of ?_), hx, hy, hz, ok2⟩
  have v0 : ∀ k, fVar 0 [.deck, .dat (.int D), .dat (.int 4)] k = some (.deck, k) := fun k => rfl
  exact call_of (cons_of (call_of (cons_of (v0 k) (cons_of (call_of (cons_of (a := .dat (.int D)) rfl nil_of) ⟨rfl, rfl⟩ e1) nil_of)) ⟨rfl, rfl⟩ e2) (cons_of (call_of (cons_of (v0 k1) (cons_of (a := .dat (.int 4)) rfl nil_of)) ⟨rfl, rfl⟩ e3) nil_of)) ⟨rfl, rfl⟩ e4
end G
set_option Elab.async false
set_option linter.all false
set_option maxRecDepth 100000
set_option maxHeartbeats 4000000
set_option exponentiation.threshold 3000
namespace G
open PySem PySem.Spec PyProof.Rows L2 DL
theorem cut_ints (ns : List Int) (lo hi : Option Int) : ∃ c : List Int, DL.cutD (ns.map PyData.int) lo hi = c.map PyData.int ∧ c.length ≤ ns.length := by
  refine ⟨(ns.drop (HT.sIx ns.length 0 lo)).take (HT.sIx ns.length ns.length hi - HT.sIx ns.length 0 lo), ?_, ?_⟩
  · unfold DL.cutD
    rw [List.length_map, List.map_take, List.map_drop]
  · rw [List.length_take, List.length_drop]; omega
theorem lc_int (s : Sl) (s2 s3 : Sl) (k : Dk) : ∀ (c : List Int) (acc : List DL.D), acc.length + c.length < 1000000 → loopC (qName 1) fYes (f1 gInt (fVar 1)) [s, .un, s2, s3] (c.map PyData.int) acc k = some (acc ++ c.map PyData.int, k)
  | [], acc, _ => by simp [loopC]
  | z :: c, acc, h => by
    simp only [List.length_cons] at h
    have ih := lc_int s s2 s3 k c (acc ++ [.int z]) (by rw [List.length_append, List.length_singleton]; omega)
    have hl : acc.length < 1000000 := by omega
    have key : f1 gInt (fVar 1) [s, .dat (.int z), s2, s3] k = some (.dat (.int z), k) := rfl
    simp [loopC, qName, stor, fYes, key, hl, ih]
def mixBody : Fs := (sAsg (fMod (f1 gInt (f2 gAddU (f2 gAddU (f2 gMulU (fVar 3) (fC (.int 48271))) (fMod (f1 gInt (fVar 1)) (fC (.int 2147483563)))) (fC (.int 16)))) (fC (.int 2147483647))) (qName 3))
theorem mix_loop (s s2 : Sl) (k : Dk) : ∀ (c : List Int) (x : Sl) (m : Int), 0 ≤ m → m < 2147483647 → ∃ x' m', loopF (qName 1) mixBody (c.map PyData.int) [s, x, s2, .dat (.int m)] k = .nx [s, x', s2, .dat (.int m')] k ∧ 0 ≤ m' ∧ m' < 2147483647
  | [], x, m, h0, h1 => ⟨x, m, rfl, h0, h1⟩
  | z :: c, x, m, h0, h1 => by
    have a1 : cMul m 48271 = true := cM' (by omega) (by decide)
    have a3 : ∀ i, cMod i 2147483647 = true := fun i => rfl
    have a4 : ∀ i, cMod i 2147483563 = true := fun i => rfl
    obtain ⟨x', m', e, q0, q1⟩ := mix_loop s s2 k c (.dat (.int z)) ((m * 48271 + z.fmod 2147483563 + 16).fmod 2147483647) (fm0 _ (by decide)) (fm1 _ (by decide))
    refine ⟨x', m', ?_, q0, q1⟩
    have q : qName 1 (.dat (.int z)) [s, x, s2, .dat (.int m)] = some [s, .dat (.int z), s2, .dat (.int m)] := by simp [qName, stor]
    have b : mixBody [s, .dat (.int z), s2, .dat (.int m)] k = .nx [s, .dat (.int z), s2, .dat (.int ((m * 48271 + z.fmod 2147483563 + 16).fmod 2147483647))] k := by
      simp [mixBody, sAsg, fMod, f1, f2, gInt, gI, gAddU, gMulU, gII, fVar, fC, c0, a1, a3, a4, qName, stor]
    simp only [List.map_cons, loopF, q, b]
    exact e
theorem deck_ok (ns : List Int) (hl : ns.length ≤ 63) (k0 : Dk) : ∃ k, f__law_deck [.scr ns] k0 = some (deckD k, k0) ∧ Ok 100000 k := by
  obtain ⟨c, hc, lc⟩ := cut_ints ns none (some 63)
  obtain ⟨x', m', e, q0, q1⟩ := mix_loop (.scr ns) (.dat (.list (c.map PyData.int))) k0 c .un 10877016 (by decide) (by decide)
  refine ⟨⟨c.reverse, m', 0⟩, ?_, q0, q1, Int.le_refl _, by show (0 : Int) + (100000 : Nat) ≤ 1000000; decide, by show c.reverse.length ≤ 1000; rw [List.length_reverse]; omega⟩
  refine fn_of (seq_of (e' := [.scr ns, .un, .dat (.list (c.map PyData.int)), .dat (.int 10877016)]) (k' := k0) ?_ (seq_of (e' := [.scr ns, x', .dat (.list (c.map PyData.int)), .dat (.int m')]) (k' := k0) ?_ (ret_of ?_)))
  · have l := lc_int (.scr ns) .un .un k0 c [] (by simp; omega)
    have s : fSlU (fVar 0) fNoPart (fPart (fC (.int 63))) [.scr ns, .un, .un, .un] k0 = some (.dat (.list (c.map PyData.int)), k0) := by
      simp [fSlU, fVar, fNoPart, fPart, fC, cutU, hc]
    have lc' : fLc (wSeq (fSlU (fVar 0) fNoPart (fPart (fC (.int 63))))) (qName 1) fYes (f1 gInt (fVar 1)) [1] [.scr ns, .un, .un, .un] k0 = some (.dat (.list (c.map PyData.int)), k0) := by
      simp only [List.nil_append] at l
      simp [fLc, wSeq, wOf, s, asLd, wipeE, l]
    show sPar 2 3 _ [.scr ns, .un, .un, .un] k0 = _
    unfold sPar
    rw [cons_of lc' (cons_of (c_of (.int 10877016)) nil_of)]
    rfl
  · show sFor (wSeq (fVar 2)) (qName 1) mixBody _ _ = _
    unfold sFor
    have w : wSeq (fVar 2) [.scr ns, .un, .dat (.list (c.map PyData.int)), .dat (.int 10877016)] k0 = some (c.map PyData.int, k0) := rfl
    rw [w]
    exact e
  · have r : fRevU (fVar 2) [.scr ns, x', .dat (.list (c.map PyData.int)), .dat (.int m')] k0 = some (.dat (.list (c.map PyData.int).reverse), k0) := by
      simp [fRevU, fRevL, f1, fVar, asL]
    simp [fDisp, fPairs, r, fVar, fC, keyD, deckD]
    exact ⟨by decide, by decide, by decide⟩
/-! ### the law -/
def bentE (i : Nat) : Fe := fCall 2 f__law_bent (fCons (fVar 1) (fCons (fVar i) fNil))
theorem lc_bent (f : Fe) (env0 : List Sl) (hf : ∀ (z : Int) (n : Nat) (k : Dk), Ok (n + 3) k → ∃ d k', f (env0.set 9 (.dat (.int z))) k = some (.dat d, k') ∧ Good 3 8000 d ∧ Ok n k') (n : Nat) : ∀ (c : List Int) (acc : List DL.D) (k : Dk), acc.length + c.length < 1000000 → (∀ x ∈ acc, Good 3 8000 x) → Ok (n + 3 * c.length) k →
    ∃ L k', loopC (qName 9) fYes f env0 (c.map PyData.int) acc k = some (L, k') ∧ L.length = acc.length + c.length ∧ (∀ x ∈ L, Good 3 8000 x) ∧ Ok n k'
  | [], acc, k, _, ha, h => ⟨acc, k, rfl, rfl, ha, h⟩
  | z :: c, acc, k, hl, ha, h => by
    simp only [List.length_cons] at h hl
    obtain ⟨d, k1, e1, gd, ok1⟩ := hf z (n + 3 * c.length) k (h.less (by omega))
    obtain ⟨L, k', e, h1, h2, h3⟩ := lc_bent f env0 hf n c (acc ++ [d]) k1 (by rw [List.length_append, List.length_singleton]; omega) (fun x hx => by
      rcases List.mem_append.mp hx with q | q
      · exact ha x q
      · simp only [List.mem_singleton] at q; subst q; exact gd) ok1
    refine ⟨L, k', ?_, by rw [h1, List.length_append, List.length_singleton, List.length_cons]; omega, h2, h3⟩
    have hl' : acc.length < 1000000 := by omega
    simp [loopC, qName, stor, fYes, e1, hl', e]
theorem bent_comp (i : Nat) (hi : i = 2 ∨ i = 3) (l2 l3 : List Int) (h2 : l2 ≠ [] ∧ l2.length ≤ 4 ∧ ∀ z ∈ l2, z.natAbs < 10 ^ 44) (h3 : l3 ≠ [] ∧ l3.length ≤ 4 ∧ ∀ z ∈ l3, z.natAbs < 10 ^ 44) (s : Sl) (s4 : Sl) (n : Nat) (k : Dk) (h : Ok (n + 30) k) :
    ∃ L k', fLc (wRng1 (fCons (fC (.int 10)) fNil)) (qName 9) fYes (bentE i) [9] [s, .deck, .dat (.tuple (l2.map PyData.int)), .dat (.tuple (l3.map PyData.int)), s4, .un, .un, .un, .un, .un] k = some (.dat (.list L), k') ∧ L.length = 10 ∧ (∀ x ∈ L, Good 3 8000 x) ∧ Ok n k' := by
  have hr : rng 0 (10 : Int).toNat = ((List.range 10).map fun i => (0 + (i : Nat) : Int)).map PyData.int := by
    unfold rng
    rw [List.map_map]
    rfl
  have w : wRng1 (fCons (fC (.int 10)) fNil) [s, .deck, .dat (.tuple (l2.map PyData.int)), .dat (.tuple (l3.map PyData.int)), s4, .un, .un, .un, .un, .un] k = some (rng 0 (10 : Int).toNat, k) := rfl
  have hf : ∀ (z : Int) (n : Nat) (k : Dk), Ok (n + 3) k → ∃ d k', bentE i (([s, .deck, .dat (.tuple (l2.map PyData.int)), .dat (.tuple (l3.map PyData.int)), s4, .un, .un, .un, .un, .un] : List Sl).set 9 (.dat (.int z))) k = some (.dat d, k') ∧ Good 3 8000 d ∧ Ok n k' := by
    intro z n k h
    rcases hi with rfl | rfl
    · obtain ⟨d, k', e, gd, ok⟩ := bent_tup l2 h2.1 h2.2.1 h2.2.2 3 n k h
      exact ⟨d, k', call_of (cons_of (a := .deck) rfl (cons_of (a := .dat (.tuple (l2.map PyData.int))) rfl nil_of)) ⟨rfl, rfl⟩ e, gd, ok⟩
    · obtain ⟨d, k', e, gd, ok⟩ := bent_tup l3 h3.1 h3.2.1 h3.2.2 3 n k h
      exact ⟨d, k', call_of (cons_of (a := .deck) rfl (cons_of (a := .dat (.tuple (l3.map PyData.int))) rfl nil_of)) ⟨rfl, rfl⟩ e, gd, ok⟩
  obtain ⟨L, k', e, e1, e2, e3⟩ := lc_bent (bentE i) _ hf n ((List.range 10).map fun i => (0 + (i : Nat) : Int)) [] k (by simp) (fun x hx => (nomatch hx)) (by rw [List.length_map, List.length_range]; exact h)
  refine ⟨L, k', ?_, by rw [e1, List.length_map, List.length_range]; rfl, e2, e3⟩
  unfold fLc
  rw [w]
  simp only [Option.bind_some, hr]
  show (loopC (qName 9) fYes (bentE i) [s, .deck, .dat (.tuple (l2.map PyData.int)), .dat (.tuple (l3.map PyData.int)), s4, .un, .un, .un, .un, .un] _ [] k).map _ = _
  rw [e]
  rfl
end G
set_option Elab.async false
set_option linter.all false
set_option maxRecDepth 100000
set_option maxHeartbeats 8000000
set_option exponentiation.threshold 3000
namespace G
open PySem PySem.Spec PyProof.Rows L2 DL
def thBody : Fs := (sSeq (sPar 6 7 (fCons (f1 gRepr (fVar 5)) (fCons (f2 gAddU (f2 gMulU (fSeq .list (fCons (fCall 1 f__law_is_positive (fCons (fVar 5) fNil)) fNil)) (fC (.int 2))) (f2 gMulU (fSeq .list (fCons (fCall 1 f__law_is_whole (fCons (fVar 5) fNil)) fNil)) (fC (.int 2)))) fNil)))
    (sSeq (sAsg (fSeq .list (fCons (fCall 1 f_is_positive (fCons (fVar 5) fNil)) (fCons (fCallK 1 f_is_positive id (fCons (fVar 5) fNil)) (fCons (fCall 1 f_is_whole_change (fCons (fVar 5) fNil)) (fCons (fCallK 1 f_is_whole_change id (fCons (fVar 5) fNil)) fNil))))) (qName 8))
    (sIf (tOrF (fTest (f2 (gEqS true) (f1 gRepr (fVar 8)) (f1 gRepr (fVar 7)))) (fTest (f2 (gEqS true) (f1 gRepr (fVar 5)) (fVar 6)))) (sRet (fC (.bool false))) sNext)))
theorem callk_of {n : Nat} {f : Fd} {h : Fl} {env : List Sl} {k k1 k2 : Dk} {ss : List Sl} {d : DL.D} (h1 : h env k = some (ss, k1)) (h2 : ss.length = n ∧ ss.all okArg = true) (h3 : f ss k1 = some (d, k2)) : fCallK n f id h env k = some (.dat d, k2) := by
  unfold fCallK
  simp only [h1, Option.bind_some, id]
  rw [if_pos h2, h3]
  rfl
theorem rep_two (b : Bool) : gMulU (.dat (.list [.bool b])) (.dat (.int 2)) = some (.dat (.list [.bool b, .bool b])) := rfl
theorem cat_four (p w : Bool) : gAddU (.dat (.list [.bool p, .bool p])) (.dat (.list [.bool w, .bool w])) = some (.dat (.list [.bool p, .bool p, .bool w, .bool w])) := rfl
theorem show_four (p w : Bool) : okShow (.list [.bool p, .bool p, .bool w, .bool w]) = true := by
  have g : ∀ x ∈ [PyData.bool p, .bool p, .bool w, .bool w], Good 0 0 x := fun x hx => by
    simp only [List.mem_cons, List.not_mem_nil, or_false] at hx
    rcases hx with rfl | rfl | rfl | rfl <;> exact good_bool _
  exact (good_lst (n := 4) g (by simp)).show (by decide) (by decide)
theorem repr_of {d : DL.D} {i : Nat} {env : List Sl} {k : Dk} (h : fVar i env k = some (.dat d, k)) (ok : okShow d = true) : f1 gRepr (fVar i) env k = some (.dat (.str d.shown), k) := by
  unfold f1
  simp only [h, Option.bind_some, gRepr]
  rw [if_pos ok]
  rfl
theorem th_step (s0 s1 s2 s3 s4 : Sl) (d : DL.D) (hd : Good 3 8000 d) (s6 s7 s8 s9 : Sl) (k : Dk) : ∃ t6 t7 t8, thBody [s0, s1, s2, s3, s4, .dat d, s6, s7, s8, s9] k = .nx [s0, s1, s2, s3, s4, .dat d, t6, t7, t8, s9] k := by
  obtain ⟨p, w, e1, e2, e3, e4⟩ := both d hd.bn k
  have sh := hd.show (by decide) (by decide)
  have sf := show_four p w
  refine ⟨.dat (.str d.shown), .dat (.list [.bool p, .bool p, .bool w, .bool w]), .dat (.list [.bool p, .bool p, .bool w, .bool w]), ?_⟩
  refine seq_of (e' := [s0, s1, s2, s3, s4, .dat d, .dat (.str d.shown), .dat (.list [.bool p, .bool p, .bool w, .bool w]), s8, s9]) (k' := k) ?_ (seq_of (e' := [s0, s1, s2, s3, s4, .dat d, .dat (.str d.shown), .dat (.list [.bool p, .bool p, .bool w, .bool w]), .dat (.list [.bool p, .bool p, .bool w, .bool w]), s9]) (k' := k) (asg_of (tup_of (cons_of (call_of (cons_of rfl nil_of) ⟨rfl, rfl⟩ e1) (cons_of (callk_of (cons_of rfl nil_of) ⟨rfl, rfl⟩ e1) (cons_of (call_of (cons_of rfl nil_of) ⟨rfl, rfl⟩ e3) (cons_of (callk_of (cons_of rfl nil_of) ⟨rfl, rfl⟩ e3) nil_of)))) rfl (by simp)) rfl) (if_f (k' := k) ?_ rfl))
  · have c : (fCons (f1 gRepr (fVar 5)) (fCons (f2 gAddU (f2 gMulU (fSeq .list (fCons (fCall 1 f__law_is_positive (fCons (fVar 5) fNil)) fNil)) (fC (.int 2))) (f2 gMulU (fSeq .list (fCons (fCall 1 f__law_is_whole (fCons (fVar 5) fNil)) fNil)) (fC (.int 2)))) fNil)) [s0, s1, s2, s3, s4, .dat d, s6, s7, s8, s9] k = some ([.dat (.str d.shown), .dat (.list [.bool p, .bool p, .bool w, .bool w])], k) :=
      cons_of (repr_of rfl sh) (cons_of (f2_of (f2_of (tup_of (cons_of (call_of (cons_of (a := .dat d) rfl nil_of) ⟨rfl, rfl⟩ e2) nil_of) rfl (by simp)) (c_of _) (rep_two p)) (f2_of (tup_of (cons_of (call_of (cons_of (a := .dat d) rfl nil_of) ⟨rfl, rfl⟩ e4) nil_of) rfl (by simp)) (c_of _) (rep_two w)) (cat_four p w)) nil_of)
    unfold sPar
    rw [c]
    rfl
  · have g1 : f2 (gEqS true) (f1 gRepr (fVar 8)) (f1 gRepr (fVar 7)) [s0, s1, s2, s3, s4, .dat d, .dat (.str d.shown), .dat (.list [.bool p, .bool p, .bool w, .bool w]), .dat (.list [.bool p, .bool p, .bool w, .bool w]), s9] k = some (.dat (.bool false), k) :=
      f2_of (repr_of rfl sf) (repr_of rfl sf) (by simp [gEqS])
    have g2 : f2 (gEqS true) (f1 gRepr (fVar 5)) (fVar 6) [s0, s1, s2, s3, s4, .dat d, .dat (.str d.shown), .dat (.list [.bool p, .bool p, .bool w, .bool w]), .dat (.list [.bool p, .bool p, .bool w, .bool w]), s9] k = some (.dat (.bool false), k) :=
      f2_of (repr_of rfl sh) (b := .dat (.str d.shown)) rfl (by simp [gEqS])
    simp [tOrF, fTest, g1, g2]
theorem th_loop (s0 s1 s2 s3 s4 s9 : Sl) (k : Dk) : ∀ (ds : List DL.D) (s5 s6 s7 s8 : Sl), (∀ x ∈ ds, Good 3 8000 x) → ∃ t5 t6 t7 t8, loopF (qName 5) thBody ds [s0, s1, s2, s3, s4, s5, s6, s7, s8, s9] k = .nx [s0, s1, s2, s3, s4, t5, t6, t7, t8, s9] k
  | [], s5, s6, s7, s8, _ => ⟨s5, s6, s7, s8, rfl⟩
  | d :: ds, s5, s6, s7, s8, h => by
    obtain ⟨t6, t7, t8, e⟩ := th_step s0 s1 s2 s3 s4 d (h d (List.mem_cons_self ..)) s6 s7 s8 s9 k
    obtain ⟨u5, u6, u7, u8, e'⟩ := th_loop s0 s1 s2 s3 s4 s9 k ds (.dat d) t6 t7 t8 fun x hx => h x (List.mem_cons_of_mem _ hx)
    refine ⟨u5, u6, u7, u8, ?_⟩
    have q : qName 5 (.dat d) [s0, s1, s2, s3, s4, s5, s6, s7, s8, s9] = some [s0, s1, s2, s3, s4, .dat d, s6, s7, s8, s9] := by simp [qName, stor]
    simp only [loopF, q, e]
    exact e'
/-- the twenty things ahead -/
def ahead (x y z p q r s : Int) : List DL.D := [T3 x y z, T4 p q r s, T3 x y (0 - z), T3 (0 - x) y (0 - z), T4 1 0 0 (-1), T4 2 0 0 2, T3 2 2 2, T3 2 1 3, T3 0 1 1, T3 1 2 1, T4 1 1 0 1, T3 1 0 (10 ^ 39), T4 1 (10 ^ 39) 0 1, .none, .str "(1, 0, 1)", .int 0, .dict [], .list [.int 1, .int 0, .int 1], .tuple [], .bool true]
theorem good_T3 {a b c : Int} (ha : a.natAbs < 10 ^ 44) (hb : b.natAbs < 10 ^ 44) (hc : c.natAbs < 10 ^ 44) : Good 3 8000 (T3 a b c) := by
  refine (good_tup (m := 0) (w := 160) (n := 3) (fun x hx => ?_) (by simp)).le (by decide) (by decide)
  simp only [List.mem_cons, List.not_mem_nil, or_false] at hx
  rcases hx with rfl | rfl | rfl
  · exact gi (Nat.lt_trans ha (by decide))
  · exact gi (Nat.lt_trans hb (by decide))
  · exact gi (Nat.lt_trans hc (by decide))
theorem good_T4 {a b c e : Int} (ha : a.natAbs < 10 ^ 44) (hb : b.natAbs < 10 ^ 44) (hc : c.natAbs < 10 ^ 44) (he : e.natAbs < 10 ^ 44) : Good 3 8000 (T4 a b c e) := by
  refine (good_tup (m := 0) (w := 160) (n := 4) (fun x hx => ?_) (by simp)).le (by decide) (by decide)
  simp only [List.mem_cons, List.not_mem_nil, or_false] at hx
  rcases hx with rfl | rfl | rfl | rfl
  · exact gi (Nat.lt_trans ha (by decide))
  · exact gi (Nat.lt_trans hb (by decide))
  · exact gi (Nat.lt_trans hc (by decide))
  · exact gi (Nat.lt_trans he (by decide))
theorem good_ahead {x y z p q r s : Int} (hx : x.natAbs < 10 ^ 44) (hy : y.natAbs < 10 ^ 44) (hz : z.natAbs < 10 ^ 44) (hp : p.natAbs < 10 ^ 44) (hq : q.natAbs < 10 ^ 44) (hr : r.natAbs < 10 ^ 44) (hs : s.natAbs < 10 ^ 44) : ∀ d ∈ ahead x y z p q r s, Good 3 8000 d := by
  have ng : ∀ {v : Int}, v.natAbs < 10 ^ 44 → (0 - v).natAbs < 10 ^ 44 := fun {v} h => by
    have : (0 - v).natAbs = v.natAbs := by omega
    rw [this]; exact h
  intro d hd
  unfold ahead at hd
  simp only [List.mem_cons, List.not_mem_nil, or_false] at hd
  rcases hd with rfl | rfl | rfl | rfl | rfl | rfl | rfl | rfl | rfl | rfl | rfl | rfl | rfl | rfl | rfl | rfl | rfl | rfl | rfl | rfl
  · exact good_T3 hx hy hz
  · exact good_T4 hp hq hr hs
  · exact good_T3 hx hy (ng hz)
  · exact good_T3 (ng hx) hy (ng hz)
  · exact good_T4 (by decide) (by decide) (by decide) (by decide)
  · exact good_T4 (by decide) (by decide) (by decide) (by decide)
  · exact good_T3 (by decide) (by decide) (by decide)
  · exact good_T3 (by decide) (by decide) (by decide)
  · exact good_T3 (by decide) (by decide) (by decide)
  · exact good_T3 (by decide) (by decide) (by decide)
  · exact good_T4 (by decide) (by decide) (by decide) (by decide)
  · exact good_T3 (by decide) (by decide) (by decide)
  · exact good_T4 (by decide) (by decide) (by decide) (by decide)
  · exact good_none.le (by decide) (by decide)
  · exact (good_str (x := Str.ofString "(1, 0, 1)") (n := 9) (by decide) (ofs_small _)).le (by decide) (by decide)
  · exact (gi (by decide)).le (by decide) (by decide)
  · exact good_nodict.le (by decide) (by decide)
  · refine (good_lst (m := 0) (w := 160) (n := 3) (fun x hx => ?_) (by simp)).le (by decide) (by decide)
    simp only [List.mem_cons, List.not_mem_nil, or_false] at hx
    rcases hx with rfl | rfl | rfl <;> exact gi (by decide)
  · exact (good_tup (m := 0) (w := 0) (n := 0) (xs := []) (fun x hx => (nomatch hx)) (by simp)).le (by decide) (by decide)
  · exact (good_bool _).le (by decide) (by decide)
end G
set_option Elab.async false
set_option linter.all false
set_option maxRecDepth 100000
set_option maxHeartbeats 8000000
set_option exponentiation.threshold 3000
namespace G
open PySem PySem.Spec PyProof.Rows L2 DL
theorem cat_ll (xs ys : List DL.D) (h : xs.length + ys.length ≤ 1000000) : gAddU (.dat (.list xs)) (.dat (.list ys)) = some (.dat (.list (xs ++ ys))) := by
  simp [gAddU, gII, gCatT, gCatL, asT, asL, h]
theorem ahead_is (s : Sl) (x y z p q r t : Int) (k : Dk) : fSeq .list (fCons (fVar 2) (fCons (fVar 3) (fCons (fSeq .tuple (fCons (fIx (fVar 2) (fC (.int 0))) (fCons (fIx (fVar 2) (fC (.int 1))) (fCons (fSub (fC (.int 0)) (fIx (fVar 2) (fC (.int 2)))) fNil)))) (fCons (fSeq .tuple (fCons (fSub (fC (.int 0)) (fIx (fVar 2) (fC (.int 0)))) (fCons (fIx (fVar 2) (fC (.int 1))) (fCons (fSub (fC (.int 0)) (fIx (fVar 2) (fC (.int 2)))) fNil)))) (fCons (fSeq .tuple (fCons (fC (.int 1)) (fCons (fC (.int 0)) (fCons (fC (.int 0)) (fCons (fNeg (fC (.int 1))) fNil))))) (fCons (fSeq .tuple (fCons (fC (.int 2)) (fCons (fC (.int 0)) (fCons (fC (.int 0)) (fCons (fC (.int 2)) fNil))))) (fCons (fSeq .tuple (fCons (fC (.int 2)) (fCons (fC (.int 2)) (fCons (fC (.int 2)) fNil)))) (fCons (fSeq .tuple (fCons (fC (.int 2)) (fCons (fC (.int 1)) (fCons (fC (.int 3)) fNil)))) (fCons (fSeq .tuple (fCons (fC (.int 0)) (fCons (fC (.int 1)) (fCons (fC (.int 1)) fNil)))) (fCons (fSeq .tuple (fCons (fC (.int 1)) (fCons (fC (.int 2)) (fCons (fC (.int 1)) fNil)))) (fCons (fSeq .tuple (fCons (fC (.int 1)) (fCons (fC (.int 1)) (fCons (fC (.int 0)) (fCons (fC (.int 1)) fNil))))) (fCons (fSeq .tuple (fCons (fC (.int 1)) (fCons (fC (.int 0)) (fCons (fPow (fC (.int 10)) (fC (.int 39))) fNil)))) (fCons (fSeq .tuple (fCons (fC (.int 1)) (fCons (fPow (fC (.int 10)) (fC (.int 39))) (fCons (fC (.int 0)) (fCons (fC (.int 1)) fNil))))) (fCons (fC .none) (fCons (fC (.str "(1, 0, 1)")) (fCons (fC (.int 0)) (fCons (fC (.dict [])) (fCons (fSeq .list (fCons (fC (.int 1)) (fCons (fC (.int 0)) (fCons (fC (.int 1)) fNil)))) (fCons (fSeq .tuple fNil) (fCons (fC (.bool true)) fNil)))))))))))))))))))) [s, .deck, .dat (T3 x y z), .dat (T4 p q r t), .un, .un, .un, .un, .un, .un] k = some (.dat (.list (ahead x y z p q r t)), k) := by
  have pw : ∀ env k, fPow (fC (.int 10)) (fC (.int 39)) env k = some (.dat (.int (10 ^ 39)), k) := fun env k => by
    have c : cPow 10 39 = true := by decide
    simp [fPow, f2, fC, gII, c]
  have v2 : fVar 2 [s, .deck, .dat (T3 x y z), .dat (T4 p q r t), .un, .un, .un, .un, .un, .un] k = some (.dat (T3 x y z), k) := rfl
  have v3 : fVar 3 [s, .deck, .dat (T3 x y z), .dat (T4 p q r t), .un, .un, .un, .un, .un, .un] k = some (.dat (T4 p q r t), k) := rfl
  have i0 : fIx (fVar 2) (fC (.int 0)) [s, .deck, .dat (T3 x y z), .dat (T4 p q r t), .un, .un, .un, .un, .un, .un] k = some (.dat (.int x), k) := rfl
  have i1 : fIx (fVar 2) (fC (.int 1)) [s, .deck, .dat (T3 x y z), .dat (T4 p q r t), .un, .un, .un, .un, .un, .un] k = some (.dat (.int y), k) := rfl
  have i2 : fIx (fVar 2) (fC (.int 2)) [s, .deck, .dat (T3 x y z), .dat (T4 p q r t), .un, .un, .un, .un, .un, .un] k = some (.dat (.int z), k) := rfl
  have n1 : ∀ env k, fNeg (fC (.int 1)) env k = some (.dat (.int (-1)), k) := fun _ _ => rfl
  have sb : ∀ {f : Fe} {env k v}, f env k = some (.dat (.int v), k) → fSub (fC (.int 0)) f env k = some (.dat (.int (0 - v)), k) := fun {f env k v} h => f2_of (c_of _) h rfl
  have tt : ∀ {h : Fl} {env k} {a b c : Int}, h env k = some ([.dat (.int a), .dat (.int b), .dat (.int c)], k) → fSeq .tuple h env k = some (.dat (T3 a b c), k) := fun {h env k a b c} e => tup_of e rfl (by simp)
  have tq : ∀ {h : Fl} {env k} {a b c d : Int}, h env k = some ([.dat (.int a), .dat (.int b), .dat (.int c), .dat (.int d)], k) → fSeq .tuple h env k = some (.dat (T4 a b c d), k) := fun {h env k a b c d} e => tup_of e rfl (by simp)
  refine tup_of (cons_of v2 (cons_of v3 (cons_of (tt (cons_of i0 (cons_of i1 (cons_of (sb i2) nil_of)))) (cons_of (tt (cons_of (sb i0) (cons_of i1 (cons_of (sb i2) nil_of))))
    (cons_of (tq (cons_of (c_of _) (cons_of (c_of _) (cons_of (c_of _) (cons_of (n1 _ _) nil_of))))) (cons_of (tq (cons_of (c_of _) (cons_of (c_of _) (cons_of (c_of _) (cons_of (c_of _) nil_of)))))
    (cons_of (tt (cons_of (c_of _) (cons_of (c_of _) (cons_of (c_of _) nil_of)))) (cons_of (tt (cons_of (c_of _) (cons_of (c_of _) (cons_of (c_of _) nil_of)))) (cons_of (tt (cons_of (c_of _) (cons_of (c_of _) (cons_of (c_of _) nil_of)))) (cons_of (tt (cons_of (c_of _) (cons_of (c_of _) (cons_of (c_of _) nil_of))))
    (cons_of (tq (cons_of (c_of _) (cons_of (c_of _) (cons_of (c_of _) (cons_of (c_of _) nil_of))))) (cons_of (tt (cons_of (c_of _) (cons_of (c_of _) (cons_of (pw _ _) nil_of)))) (cons_of (tq (cons_of (c_of _) (cons_of (pw _ _) (cons_of (c_of _) (cons_of (c_of _) nil_of)))))
    (cons_of (c_of _) (cons_of (c_of _) (cons_of (c_of _) (cons_of (c_of _) (cons_of (tup_of (cons_of (c_of _) (cons_of (c_of _) (cons_of (c_of _) nil_of))) rfl (by simp)) (cons_of (tup_of nil_of rfl (by simp)) (cons_of (c_of _) nil_of)))))))))))))))))))) rfl (by simp [ahead])
theorem good_law : ∀ ns : List Int, ns.length ≤ 63 → GoodLaw f__law_deck g_law 10 ns := by
  intro ns hl
  obtain ⟨k, e0, ok0⟩ := deck_ok ns hl ⟨[], 0, 0⟩
  obtain ⟨r, k1, e1, r0, r1, ok1⟩ := draw 4 (by decide) (by decide) 99999 k ok0
  have most : ∃ m : Int, 1 ≤ m ∧ m ≤ 499 ∧ fIf (fTest (fEq (fCall 2 f__law_draw (fCons (fVar 1) (fCons (fC (.int 4)) fNil))) (fC (.int 0)))) (fC (.int 499)) (fC (.int 60)) [.scr ns, .deck, .un, .un, .un, .un, .un, .un, .un, .un] k = some (.dat (.int m), k1) := by
    have c : fCall 2 f__law_draw (fCons (fVar 1) (fCons (fC (.int 4)) fNil)) [.scr ns, .deck, .un, .un, .un, .un, .un, .un, .un, .un] k = some (.dat (.int r), k1) :=
      call_of (cons_of (a := .deck) rfl (cons_of (c_of _) nil_of)) ⟨rfl, rfl⟩ e1
    have t : fTest (fEq (fCall 2 f__law_draw (fCons (fVar 1) (fCons (fC (.int 4)) fNil))) (fC (.int 0))) [.scr ns, .deck, .un, .un, .un, .un, .un, .un, .un, .un] k = some (r == 0, k1) := by
      have e : fEq (fCall 2 f__law_draw (fCons (fVar 1) (fCons (fC (.int 4)) fNil))) (fC (.int 0)) [.scr ns, .deck, .un, .un, .un, .un, .un, .un, .un, .un] k = some (.dat (.bool (r == 0)), k1) := f2_of c (c_of _) (eqII r 0)
      unfold fTest
      rw [e]
      rfl
    cases hr : (r == 0) with
    | true =>
      rw [hr] at t
      refine ⟨499, by decide, by decide, ?_⟩
      unfold fIf
      rw [t]
      rfl
    | false =>
      rw [hr] at t
      refine ⟨60, by decide, by decide, ?_⟩
      unfold fIf
      rw [t]
      rfl
  obtain ⟨m, m0, m1, em⟩ := most
  obtain ⟨D, k2, e2, hD, ok2⟩ := discriminant m m0 m1 99996 k1 ok1
  obtain ⟨x, y, z, k3, e3, hx, hy, hz, ok3⟩ := form D hD 99983 k2 ok2
  obtain ⟨d, k4, e4, hd, ok4⟩ := change 5 (by decide) (by decide) 99971 k3 ok3
  obtain ⟨p, q, u, v, rfl, hp, hq, hu, hv⟩ := hd
  have lt : ∀ {w : Int}, w.natAbs ≤ 10000 → w.natAbs < 10 ^ 44 := fun {w} h => Nat.lt_of_le_of_lt h (by decide)
  have h2 : ([x, y, z] : List Int) ≠ [] ∧ [x, y, z].length ≤ 4 ∧ ∀ w ∈ [x, y, z], w.natAbs < 10 ^ 44 := ⟨by simp, by simp, fun w hw => by
    simp only [List.mem_cons, List.not_mem_nil, or_false] at hw
    rcases hw with rfl | rfl | rfl
    · exact hx
    · exact hy
    · exact hz⟩
  have h3 : ([p, q, u, v] : List Int) ≠ [] ∧ [p, q, u, v].length ≤ 4 ∧ ∀ w ∈ [p, q, u, v], w.natAbs < 10 ^ 44 := ⟨by simp, by simp, fun w hw => by
    simp only [List.mem_cons, List.not_mem_nil, or_false] at hw
    rcases hw with rfl | rfl | rfl | rfl
    · exact lt hp
    · exact lt hq
    · exact lt hu
    · exact lt hv⟩
  obtain ⟨L, k5, e5, l5, g5, ok5⟩ := bent_comp 2 (.inl rfl) [x, y, z] [p, q, u, v] h2 h3 (.scr ns) (.dat (.list (ahead x y z p q u v))) 99941 k4 ok4
  obtain ⟨M, k6, e6, l6, g6, ok6⟩ := bent_comp 3 (.inr rfl) [x, y, z] [p, q, u, v] h2 h3 (.scr ns) (.dat (.list (ahead x y z p q u v))) 99911 k5 ok5
  have ga := good_ahead hx hy hz (lt hp) (lt hq) (lt hu) (lt hv)
  have la : (ahead x y z p q u v).length = 20 := rfl
  obtain ⟨t5, t6, t7, t8, e7⟩ := th_loop (.scr ns) .deck (.dat (T3 x y z)) (.dat (T4 p q u v)) (.dat (.list (ahead x y z p q u v ++ L ++ M))) .un k6 (ahead x y z p q u v ++ L ++ M) .un .un .un .un (fun w hw => by
    rcases List.mem_append.mp hw with hw | hw
    · rcases List.mem_append.mp hw with hw | hw
      · exact ga w hw
      · exact g5 w hw
    · exact g6 w hw)
  refine ⟨⟨[], 0, 0⟩, ⟨[], 0, 0⟩, k6, k, e0, ?_⟩
  show g_law [.scr ns, .deck, .un, .un, .un, .un, .un, .un, .un, .un] k = _
  have v1 : ∀ a b c k, fVar 1 [.scr ns, .deck, a, b, c, .un, .un, .un, .un, .un] k = some (.deck, k) := fun _ _ _ _ => rfl
  refine seq_of (e' := [.scr ns, .deck, .dat (T3 x y z), .un, .un, .un, .un, .un, .un, .un]) (k' := k3) (asg_of (call_of (cons_of (v1 _ _ _ k) (cons_of (call_of (cons_of (v1 _ _ _ k) (cons_of em nil_of)) ⟨rfl, rfl⟩ e2) (cons_of (c_of _) nil_of))) ⟨rfl, rfl⟩ e3) rfl) ?_
  refine seq_of (e' := [.scr ns, .deck, .dat (T3 x y z), .dat (T4 p q u v), .un, .un, .un, .un, .un, .un]) (k' := k4) (asg_of (call_of (cons_of (v1 _ _ _ k3) (cons_of (c_of _) nil_of)) ⟨rfl, rfl⟩ e4) rfl) ?_
  refine seq_of (e' := [.scr ns, .deck, .dat (T3 x y z), .dat (T4 p q u v), .dat (.list (ahead x y z p q u v)), .un, .un, .un, .un, .un]) (k' := k4) (asg_of (ahead_is _ _ _ _ _ _ _ _ k4) rfl) ?_
  refine seq_of (e' := [.scr ns, .deck, .dat (T3 x y z), .dat (T4 p q u v), .dat (.list (ahead x y z p q u v ++ L ++ M)), .un, .un, .un, .un, .un]) (k' := k6) (asg_of (f2_of (f2_of (a := .dat (.list (ahead x y z p q u v))) rfl e5 (cat_ll _ _ (by omega))) e6 (cat_ll _ _ (by rw [List.length_append]; omega))) rfl) ?_
  refine seq_of (e' := [.scr ns, .deck, .dat (T3 x y z), .dat (T4 p q u v), .dat (.list (ahead x y z p q u v ++ L ++ M)), t5, t6, t7, t8, .un]) (k' := k6) ?_ (ret_of rfl)
  show sFor (wSeq (fVar 4)) (qName 5) thBody _ _ = _
  unfold sFor
  have w : wSeq (fVar 4) [.scr ns, .deck, .dat (T3 x y z), .dat (T4 p q u v), .dat (.list (ahead x y z p q u v ++ L ++ M)), .un, .un, .un, .un, .un] k6 = some (ahead x y z p q u v ++ L ++ M, k6) := rfl
  rw [w]
  exact e7
end G
open PySem PySem.W PyProof.Rows
set_option maxHeartbeats 0 in
theorem PySem.Challenge.cw_rulertrees_k16_forms_and_changes_of_any_holds : PySem.Challenge.rw_rulertrees_k16_forms_and_changes_of_any.Holds := by
  w_on; o_law; k_head; (case hw => w_witness2)
  k_fill
  refine DL.law_walk (l := PySem.Challenge.rw_rulertrees_k16_forms_and_changes_of_any) (n := 63) (k := 9) (x := "_law_script") (by decide +kernel) rfl (by decide) rfl ⟨rfl, by decide, by decide⟩ (fun w h Y => PySem.W.kIn_of Y) ?F
  case F =>
    intro w mg fa h KX hns hmg tf
    refine' G.all_mk G.good_law KX hns hmg tf ?a_common_divisor ?l_common_divisor ?c_common_divisor ?k_common_divisor ?a_is_integer ?l_is_integer ?c_is_integer ?k_is_integer ?a_is_tuple_of ?l_is_tuple_of ?c_is_tuple_of ?k_is_tuple_of ?a_is_integers ?l_is_integers ?c_is_integers ?k_is_integers ?t_is_integers ?v_is_integers ?o_is_integers ?r_is_integers ?a_two_determinant ?l_two_determinant ?c_two_determinant ?k_two_determinant ?a_discriminant_of ?l_discriminant_of ?c_discriminant_of ?k_discriminant_of ?a_is_positive ?l_is_positive ?c_is_positive ?k_is_positive ?a_is_whole_change ?l_is_whole_change ?c_is_whole_change ?k_is_whole_change ?a__law_deck ?l__law_deck ?c__law_deck ?k__law_deck ?a__law_draw ?l__law_draw ?c__law_draw ?k__law_draw ?a__law_pick ?l__law_pick ?c__law_pick ?k__law_pick ?a__law_common ?l__law_common ?c__law_common ?k__law_common ?a__law_are_integers ?l__law_are_integers ?c__law_are_integers ?k__law_are_integers ?a__law_is_positive ?l__law_is_positive ?c__law_is_positive ?k__law_is_positive ?a__law_is_whole ?l__law_is_whole ?c__law_is_whole ?k__law_is_whole ?a__law_led ?l__law_led ?c__law_led ?k__law_led ?a__law_product ?l__law_product ?c__law_product ?k__law_product ?a__law_classes ?l__law_classes ?c__law_classes ?k__law_classes ?a__law_discriminant ?l__law_discriminant ?c__law_discriminant ?k__law_discriminant ?a__law_change ?l__law_change ?c__law_change ?k__law_change ?a__law_form ?l__law_form ?c__law_form ?k__law_form ?a__law_bent ?l__law_bent ?c__law_bent ?k__law_bent ?a_law ?l_law ?c_law ?k_law ?z_gcd ?z_isinstance ?z_int ?z_bool ?z_tuple ?z_len ?z_all ?z_max ?z_abs ?z_range ?z_list ?z_str ?z_repr
    (case a_common_divisor => k_is)
    (case l_common_divisor => k_is)
    (case c_common_divisor => k_is)
    (case k_common_divisor => k_is)
    (case a_is_integer => k_is)
    (case l_is_integer => k_is)
    (case c_is_integer => k_is)
    (case k_is_integer => k_is)
    (case a_is_tuple_of => k_is)
    (case l_is_tuple_of => k_is)
    (case c_is_tuple_of => k_is)
    (case k_is_tuple_of => k_is)
    (case a_is_integers => k_is)
    (case l_is_integers => k_is)
    (case c_is_integers => k_is)
    (case k_is_integers => k_is)
    (case t_is_integers => k_is)
    (case v_is_integers => first | rfl | decide +kernel)
    (case o_is_integers => first | rfl | decide +kernel)
    (case r_is_integers => first | rfl | decide +kernel)
    (case a_two_determinant => k_is)
    (case l_two_determinant => k_is)
    (case c_two_determinant => k_is)
    (case k_two_determinant => k_is)
    (case a_discriminant_of => k_is)
    (case l_discriminant_of => k_is)
    (case c_discriminant_of => k_is)
    (case k_discriminant_of => k_is)
    (case a_is_positive => k_is)
    (case l_is_positive => k_is)
    (case c_is_positive => k_is)
    (case k_is_positive => k_is)
    (case a_is_whole_change => k_is)
    (case l_is_whole_change => k_is)
    (case c_is_whole_change => k_is)
    (case k_is_whole_change => k_is)
    (case a__law_deck => k_is)
    (case l__law_deck => k_is)
    (case c__law_deck => k_is)
    (case k__law_deck => k_is)
    (case a__law_draw => k_is)
    (case l__law_draw => k_is)
    (case c__law_draw => k_is)
    (case k__law_draw => k_is)
    (case a__law_pick => k_is)
    (case l__law_pick => k_is)
    (case c__law_pick => k_is)
    (case k__law_pick => k_is)
    (case a__law_common => k_is)
    (case l__law_common => k_is)
    (case c__law_common => k_is)
    (case k__law_common => k_is)
    (case a__law_are_integers => k_is)
    (case l__law_are_integers => k_is)
    (case c__law_are_integers => k_is)
    (case k__law_are_integers => k_is)
    (case a__law_is_positive => k_is)
    (case l__law_is_positive => k_is)
    (case c__law_is_positive => k_is)
    (case k__law_is_positive => k_is)
    (case a__law_is_whole => k_is)
    (case l__law_is_whole => k_is)
    (case c__law_is_whole => k_is)
    (case k__law_is_whole => k_is)
    (case a__law_led => k_is)
    (case l__law_led => k_is)
    (case c__law_led => k_is)
    (case k__law_led => k_is)
    (case a__law_product => k_is)
    (case l__law_product => k_is)
    (case c__law_product => k_is)
    (case k__law_product => k_is)
    (case a__law_classes => k_is)
    (case l__law_classes => k_is)
    (case c__law_classes => k_is)
    (case k__law_classes => k_is)
    (case a__law_discriminant => k_is)
    (case l__law_discriminant => k_is)
    (case c__law_discriminant => k_is)
    (case k__law_discriminant => k_is)
    (case a__law_change => k_is)
    (case l__law_change => k_is)
    (case c__law_change => k_is)
    (case k__law_change => k_is)
    (case a__law_form => k_is)
    (case l__law_form => k_is)
    (case c__law_form => k_is)
    (case k__law_form => k_is)
    (case a__law_bent => k_is)
    (case l__law_bent => k_is)
    (case c__law_bent => k_is)
    (case k__law_bent => k_is)
    (case a_law => k_is)
    (case l_law => k_is)
    (case c_law => k_is)
    (case k_law => k_is)
    (case z_gcd => k_is)
    (case z_isinstance => k_is)
    (case z_int => k_is)
    (case z_bool => k_is)
    (case z_tuple => k_is)
    (case z_len => k_is)
    (case z_all => k_is)
    (case z_max => k_is)
    (case z_abs => k_is)
    (case z_range => k_is)
    (case z_list => k_is)
    (case z_str => k_is)
    (case z_repr => k_is)
