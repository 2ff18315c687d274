import PyProof.Rows.All
import Wide.All
import OpenK.AllK
import Wide.FinOn
import HandS.ForMost
import HandS.ForExc
import HandS.Gcd
import HandS.Wide
import HandS.IsInst
import HandS.TupAny
import HandS.EndTab
import HandS.Style
import HandS.AnyAll
import HandS.RaiseMore
import HandS.Deep
import HandS.EndBits
import HandS.DictSub
import HandS.TupMul
import HandS.ExcOwn
import HandS.ExcIs
import KE.KExcInit
import KE.KExcLine
import KE.KExcIs
import HandS.TryOnly
import KE.GoesEnum
import PyProof.TupleOfGen
import HandS.Nested
import KE.KMathG
import HandS.GenOver
import HandS.GenCall
import HandS.GenList
import PyProof.GenQ
import PyProof.CollectWalk
import HandS.WideBits
import PyProof.ReprLen
import PyProof.StrLawsRepr
import PySem.Challenge.RW_rulertrees_k05_relations_and_their_value
set_option Elab.async false
set_option linter.all false
set_option maxRecDepth 100000
set_option maxHeartbeats 4000000
namespace DL
open PySem PySem.Spec PyProof.Rows L2
abbrev Fg := PySem.W.Frag
abbrev D := PyData
def keyD : Key → D
  | .inl i => .int i
  | .inr s => .str s
mutual
inductive Is (K : Fg) (H : Hp) : V → D → Prop
  | non : Is K H .non .none
  | bl (b : Bool) : Is K H (.bl b) (.bool b)
  | int (i : Int) : Is K H (.int i) (.int i)
  | str (x : Str) : Is K H (.str x) (.str x)
  | lst {a xs ds} : H a = some (.lst xs) → IsL K H xs ds → Is K H (.ref a) (.list ds)
  | tup {a xs ds} : SqT K H a xs → IsL K H xs ds → Is K H (.ref a) (.tuple ds)
  | dct {a kvs ds} : H a = some (.dK kvs) → kvs.map (fun p => keyD p.1) = ds.map (fun p => p.1) → IsL K H (kvs.map (fun p => p.2)) (ds.map (fun p => p.2)) → Is K H (.ref a) (.dict ds)
inductive IsL (K : Fg) (H : Hp) : List V → List D → Prop
  | nil : IsL K H [] []
  | cons {v vs d ds} : Is K H v d → IsL K H vs ds → IsL K H (v :: vs) (d :: ds)
end
def isT : HO → Bool
  | .tbl _ => true
  | _ => false
/-- what is seen without the addresses of A -/
def hide (A : List Addr) (H : Hp) : Hp := fun b => if b ∈ A then none else H b
theorem hide_in {A : List Addr} {H : Hp} {b : Addr} (h : b ∈ A) : hide A H b = none := if_pos h
theorem hide_out {A : List Addr} {H : Hp} {b : Addr} (h : b ∉ A) : hide A H b = H b := if_neg h
theorem hide_some {A : List Addr} {H : Hp} {b : Addr} {o : HO} (h : hide A H b = some o) : b ∉ A ∧ H b = some o := by
  by_cases hb : b ∈ A
  · rw [hide_in hb] at h; cases h
  · rw [hide_out hb] at h; exact ⟨hb, h⟩
/-- all but tables stands -/
def Kp (H H' : Hp) : Prop := ∀ b o, H b = some o → isT o = false → H' b = some o
theorem Kp.refl (H : Hp) : Kp H H := fun _ _ h _ => h
theorem Kp.trans {H H1 H2 : Hp} (a : Kp H H1) (b : Kp H1 H2) : Kp H H2 := fun c o h z => b c o (a c o h z) z
theorem Kp.sqt {K : Fg} {H H' : Hp} {a : Addr} {xs : List V} (k : Kp H H') (h : SqT K H a xs) : SqT K H' a xs := by
  rcases h with (h | ⟨o, h⟩) | h
  · exact .inl (.inl (k _ _ h rfl))
  · exact .inl (.inr ⟨o, k _ _ h rfl⟩)
  · exact .inr h
mutual
theorem Is.kp {K : Fg} {H H' : Hp} (k : Kp H H') : ∀ {v : V} {d : D}, Is K H v d → Is K H' v d
  | _, _, .non => .non
  | _, _, .bl b => .bl b
  | _, _, .int b => .int b
  | _, _, .str b => .str b
  | _, _, .lst h l => .lst (k _ _ h rfl) (IsL.kp k l)
  | _, _, .tup h l => .tup (k.sqt h) (IsL.kp k l)
  | _, _, .dct h e l => .dct (k _ _ h rfl) e (IsL.kp k l)
theorem IsL.kp {K : Fg} {H H' : Hp} (k : Kp H H') : ∀ {v : List V} {d : List D}, IsL K H v d → IsL K H' v d
  | _, _, .nil => .nil
  | _, _, .cons h l => .cons (Is.kp k h) (IsL.kp k l)
end
theorem IsL.len {K : Fg} {H : Hp} : ∀ {vs : List V} {ds : List D}, IsL K H vs ds → vs.length = ds.length
  | _, _, .nil => rfl
  | _, _, .cons _ l => by rw [List.length_cons, List.length_cons, IsL.len l]
theorem IsL.get {K : Fg} {H : Hp} : ∀ {vs : List V} {ds : List D} {i : Nat} {d : D}, IsL K H vs ds → ds[i]? = some d → ∃ v, vs[i]? = some v ∧ Is K H v d
  | _, _, _, _, .nil, e => by simp at e
  | _, _, 0, _, .cons h _, e => by simp at e; subst e; exact ⟨_, rfl, h⟩
  | _, _, i + 1, d, .cons _ l, e => by
    obtain ⟨v, h1, h2⟩ := IsL.get (i := i) l (by simpa using e)
    exact ⟨v, by simpa using h1, h2⟩
theorem IsL.getV {K : Fg} {H : Hp} : ∀ {vs : List V} {ds : List D} {i : Nat} {v : V}, IsL K H vs ds → vs[i]? = some v → ∃ d, ds[i]? = some d ∧ Is K H v d
  | _, _, _, _, .nil, e => by simp at e
  | _, _, 0, _, .cons h _, e => by simp at e; subst e; exact ⟨_, rfl, h⟩
  | _, _, i + 1, d, .cons _ l, e => by
    obtain ⟨v, h1, h2⟩ := IsL.getV (i := i) l (by simpa using e)
    exact ⟨v, by simpa using h1, h2⟩
theorem IsL.app {K : Fg} {H : Hp} : ∀ {vs ws : List V} {ds es : List D}, IsL K H vs ds → IsL K H ws es → IsL K H (vs ++ ws) (ds ++ es)
  | _, _, _, _, .nil, h => h
  | _, _, _, _, .cons a b, h => .cons a (IsL.app b h)
theorem IsL.tk {K : Fg} {H : Hp} : ∀ (n : Nat) {vs : List V} {ds : List D}, IsL K H vs ds → IsL K H (vs.take n) (ds.take n)
  | 0, _, _, _ => .nil
  | _ + 1, _, _, .nil => .nil
  | n + 1, _, _, .cons a b => .cons a (IsL.tk n b)
theorem IsL.dr {K : Fg} {H : Hp} : ∀ (n : Nat) {vs : List V} {ds : List D}, IsL K H vs ds → IsL K H (vs.drop n) (ds.drop n)
  | 0, _, _, h => h
  | _ + 1, _, _, .nil => .nil
  | n + 1, _, _, .cons a b => IsL.dr n b
theorem IsL.rev {K : Fg} {H : Hp} : ∀ {vs : List V} {ds : List D}, IsL K H vs ds → IsL K H vs.reverse ds.reverse
  | _, _, .nil => .nil
  | _, _, .cons a b => by
    rw [List.reverse_cons, List.reverse_cons]
    exact (IsL.rev b).app (.cons a .nil)
theorem IsL.ints {K : Fg} {H : Hp} : ∀ (ns : List Int), IsL K H (ns.map V.int) (ns.map PyData.int)
  | [] => .nil
  | _ :: r => .cons (.int _) (IsL.ints r)

/-! ### the deck, the world -/
structure Dk where
  cells : List Int
  mixed : Int
  turn : Int
def DkAt (H : Hp) (a c : Addr) (k : Dk) : Prop :=
  H a = some (.dK [(Sum.inr "cells", .ref c), (Sum.inr "mixed", .int k.mixed), (Sum.inr "turn", .int k.turn)]) ∧ H c = some (.lst (k.cells.map V.int))
abbrev Dm := Option (Addr × Addr)
structure Wd (T : List Addr) (dm : Dm) (A : List Addr) (H : Hp) (k : Dk) : Prop where
  dom : ∀ b ∈ A, H b ≠ none
  tab : ∀ P ∈ T, GxR.TabG H P
  dk : ∀ a c, dm = some (a, c) → a ∈ A ∧ c ∈ A ∧ a ≠ c ∧ DkAt H a c k
def Ndm (dm : Dm) (b : Addr) : Prop := ∀ a c, dm = some (a, c) → b ≠ a ∧ b ≠ c
/-- behind a piece of the run: all stands but the deck and the tables -/
structure Lt (dm : Dm) (H H' : Hp) : Prop where
  keep : ∀ b o, H b = some o → isT o = false → Ndm dm b → H' b = some o
  dom : ∀ b, H b ≠ none → H' b ≠ none
theorem Lt.refl (dm : Dm) (H : Hp) : Lt dm H H := ⟨fun _ _ h _ _ => h, fun _ h => h⟩
theorem Lt.trans {dm : Dm} {H H1 H2 : Hp} (a : Lt dm H H1) (b : Lt dm H1 H2) : Lt dm H H2 :=
  ⟨fun c o h z n => b.keep c o (a.keep c o h z n) z n, fun c h => b.dom c (a.dom c h)⟩
theorem Lt.weak {dm : Dm} {H H1 : Hp} (a : Lt none H H1) : Lt dm H H1 := ⟨fun b o h z _ => a.keep b o h z fun _ _ e => (nomatch e), a.dom⟩
theorem Lt.new {dm : Dm} {H : Hp} {p : Addr} {o : HO} (hp : H p = none) : Lt dm H (upd H p o) := by
  refine ⟨fun b u h _ _ => ?_, fun b h => ?_⟩
  · rw [upd_ne (ne_of_none h hp)]; exact h
  · by_cases e : b = p
    · subst e; exact absurd hp h
    · rw [upd_ne e]; exact h
theorem Lt.kp {T : List Addr} {dm : Dm} {A : List Addr} {H H' : Hp} {k : Dk} (w : Wd T dm A H k) (l : Lt dm H H') : Kp (hide A H) (hide A H') := fun b o h z => by
  obtain ⟨hb, h⟩ := hide_some h
  rw [hide_out hb]
  refine l.keep b o h z fun a c e => ?_
  obtain ⟨h1, h2, _⟩ := w.dk a c e
  exact ⟨fun q => hb (q ▸ h1), fun q => hb (q ▸ h2)⟩
theorem tabG_new {H : Hp} {p P : Addr} {o : HO} (hp : H p = none) (h : GxR.TabG H P) : GxR.TabG (upd H p o) P := by
  obtain ⟨ps, e, t⟩ := h
  exact ⟨ps, by rw [upd_ne (ne_of_none e hp)]; exact e, t⟩
theorem Wd.new {T : List Addr} {dm : Dm} {A : List Addr} {H : Hp} {k : Dk} {p : Addr} {o : HO} (w : Wd T dm A H k) (hp : H p = none) : Wd T dm A (upd H p o) k := by
  refine ⟨fun b h => (Lt.new (dm := dm) hp).dom b (w.dom b h), fun P h => tabG_new hp (w.tab P h), fun a c e => ?_⟩
  obtain ⟨h1, h2, h3, h4, h5⟩ := w.dk a c e
  exact ⟨h1, h2, h3, by rw [upd_ne (ne_of_none h4 hp)]; exact h4, by rw [upd_ne (ne_of_none h5 hp)]; exact h5⟩
/-- the script: a known list, or one of the written part -/
def Scr (K : Fg) (H : Hp) (a : Addr) (ns : List Int) : Prop := (∃ ob, H a = some (.frz ob (.lst (ns.map V.int)))) ∨
  ∃ (o : Obj) (its : Array Value) (n : Nat), K.lookup a = some o ∧ o.cls = .type "list" ∧ o.dict = none ∧ o.data = .seq its n ∧ its.size ≤ sizeLine ∧ Vals (ns.map V.int) its.toList
theorem Scr.keep {K : Fg} {H H' : Hp} {a : Addr} {ns : List Int} (h : Scr K H a ns) (k : ∀ ob u, H a = some (.frz ob u) → H' a = some (.frz ob u)) : Scr K H' a ns := by
  rcases h with ⟨ob, e⟩ | h
  · exact .inl ⟨ob, k _ _ e⟩
  · exact .inr h
theorem Scr.sql {K : Fg} {H : Hp} {a : Addr} {ns : List Int} (h : Scr K H a ns) : SqL K H a (ns.map V.int) := by
  rcases h with ⟨ob, e⟩ | h
  · exact .inl (.inr ⟨ob, e⟩)
  · exact .inr h
theorem Scr.lt {K : Fg} {T : List Addr} {dm : Dm} {A : List Addr} {H H' : Hp} {k : Dk} {a : Addr} {ns : List Int} (h : Scr K H a ns) (w : Wd T dm A H k) (l : Lt dm H H') : Scr K H' a ns := h.keep fun ob u e =>
  l.keep a _ e rfl fun x y z => by
    obtain ⟨_, _, _, q⟩ := w.dk x y z
    obtain ⟨q1, q2⟩ := q
    exact ⟨fun q => by (rw [q, q1] at e; cases e), fun q => by (rw [q, q2] at e; cases e)⟩
theorem Scr.new {K : Fg} {H : Hp} {a p : Addr} {o : HO} {ns : List Int} (h : Scr K H a ns) (hp : ∀ ob u, H p ≠ some (.frz ob u)) : Scr K (upd H p o) a ns := h.keep fun ob u e => by
  rw [upd_ne fun q => hp ob u (by rw [← q]; exact e)]; exact e
/-- slots -/
inductive Sl where
  | un
  | dat (d : D)
  | deck
  | own (ds : List D)
  | scr (ns : List Int)
def IsS (K : Fg) (A0 : List Addr) (dm : Dm) (A : List Addr) (H : Hp) (v : V) : Sl → Prop
  | .un => False
  | .dat d => Is K (hide A H) v d
  | .deck => ∃ a c, dm = some (a, c) ∧ v = .ref a
  | .own ds => ∃ p vs, v = .ref p ∧ p ∉ A0 ∧ Ndm dm p ∧ H p = some (.lst vs) ∧ IsL K (hide A H) vs ds
  | .scr ns => ∃ a, v = .ref a ∧ Scr K H a ns
theorem IsS.lt {K : Fg} {T : List Addr} {A0 : List Addr} {dm : Dm} {A : List Addr} {H H' : Hp} {k : Dk} {v : V} {s : Sl} (h : IsS K A0 dm A H v s) (w : Wd T dm A H k) (l : Lt dm H H') : IsS K A0 dm A H' v s := by
  cases s with
  | un => exact h
  | dat d => exact Is.kp (l.kp w) h
  | deck => exact h
  | own ds =>
    obtain ⟨p, vs, e, n0, n, h1, h2⟩ := h
    exact ⟨p, vs, e, n0, n, l.keep _ _ h1 rfl n, IsL.kp (l.kp w) h2⟩
  | scr ns => obtain ⟨a, e, h⟩ := h; exact ⟨a, e, h.lt w l⟩
/-- what a slot holds -/
def SlotOk (K : Fg) (dm : Dm) (A0 : List Addr) (H0 : Hp) (A : List Addr) (H : Hp) (o : Option (Option V)) : Option Sl → Prop
  | some (.dat d) => ∃ v, o = some (some v) ∧ Is K (hide A H) v d
  | some .deck => ∃ a c, dm = some (a, c) ∧ o = some (some (.ref a))
  | some (.own ds) => ∃ p vs, o = some (some (.ref p)) ∧ p ∈ A ∧ p ∉ A0 ∧ H0 p = none ∧ H p = some (.lst vs) ∧ IsL K (hide A H) vs ds
  | some (.scr ns) => ∃ a, o = some (some (.ref a)) ∧ Scr K H a ns
  | _ => True
structure Sta (K : Fg) (T : List Addr) (dm : Dm) (A0 : List Addr) (H0 : Hp) (A : List Addr) (σ : List (Option V)) (H : Hp) (env : List Sl) (k : Dk) : Prop where
  wd : Wd T dm A H k
  lt : Lt dm H0 H
  sub : ∀ b ∈ A0, b ∈ A
  dom0 : ∀ b ∈ A0, H0 b ≠ none
  dm0 : ∀ a c, dm = some (a, c) → a ∈ A0 ∧ c ∈ A0
  len : σ.length = env.length
  slot : ∀ i : Nat, SlotOk K dm A0 H0 A H σ[i]? env[i]?
  uniq : ∀ (i j : Nat) (p : Addr) (ds es : List D), env[i]? = some (.own ds) → env[j]? = some (.own es) → σ[i]? = some (some (.ref p)) → σ[j]? = some (some (.ref p)) → i = j
/-- the state behind an expression: the heap has grown, the deck has turned -/
theorem Sta.at {K : Fg} {T : List Addr} {dm : Dm} {A0 : List Addr} {H0 : Hp} {A : List Addr} {σ : List (Option V)} {H H' : Hp} {env : List Sl} {k k' : Dk} (s : Sta K T dm A0 H0 A σ H env k) (w : Wd T dm A H' k') (l : Lt dm H H') : Sta K T dm A0 H0 A σ H' env k' := by
  refine ⟨w, s.lt.trans l, s.sub, s.dom0, s.dm0, s.len, fun i => ?_, s.uniq⟩
  have h := s.slot i
  cases e : env[i]? with
  | none => exact trivial
  | some q =>
    rw [e] at h
    cases q with
    | un => exact trivial
    | dat d => obtain ⟨v, h1, h2⟩ := h; exact ⟨v, h1, Is.kp (l.kp s.wd) h2⟩
    | deck => exact h
    | own ds =>
      obtain ⟨p, vs, h1, h2, h3, h4, h5, h6⟩ := h
      refine ⟨p, vs, h1, h2, h3, h4, l.keep _ _ h5 rfl fun a c e => ?_, IsL.kp (l.kp s.wd) h6⟩
      obtain ⟨q1, q2⟩ := s.dm0 a c e
      exact ⟨fun z => h3 (z ▸ q1), fun z => h3 (z ▸ q2)⟩
    | scr ns => obtain ⟨a, h1, h2⟩ := h; exact ⟨a, h1, h2.lt s.wd l⟩
theorem Sta.new {K : Fg} {T : List Addr} {dm : Dm} {A0 : List Addr} {H0 : Hp} {A : List Addr} {σ : List (Option V)} {H : Hp} {env : List Sl} {k : Dk} {p : Addr} {o : HO} (s : Sta K T dm A0 H0 A σ H env k) (hp : H p = none) : Sta K T dm A0 H0 A σ (upd H p o) env k :=
  s.at (s.wd.new hp) (Lt.new hp)

/-! ### expressions over data -/
abbrev Fe := List Sl → Dk → Option (Sl × Dk)
abbrev Fl := List Sl → Dk → Option (List Sl × Dk)
abbrev Ft := List Sl → Dk → Option (Bool × Dk)
def DE (K : Fg) (T : List Addr) (t : TE) (f : Fe) : Prop := ∀ dm A0 H0 A σ H env k (Q : VK), Sta K T dm A0 H0 A σ H env k → ∀ s k', f env k = some (s, k') →
  (∀ v H', Sta K T dm A0 H0 A σ H' env k' → Lt dm H H' → IsS K A0 dm A H' v s → Q v H') → t σ H Q
def DT (K : Fg) (T : List Addr) (t : TT) (f : Ft) : Prop := ∀ dm A0 H0 A σ H env k (Q : Bool → Hp → Prop), Sta K T dm A0 H0 A σ H env k → ∀ b k', f env k = some (b, k') →
  (∀ H', Sta K T dm A0 H0 A σ H' env k' → Lt dm H H' → Q b H') → t σ H Q
/-- paired slots -/
inductive IsSL (K : Fg) (A0 : List Addr) (dm : Dm) (A : List Addr) (H : Hp) : List V → List Sl → Prop
  | nil : IsSL K A0 dm A H [] []
  | cons {v vs s ss} : IsS K A0 dm A H v s → IsSL K A0 dm A H vs ss → IsSL K A0 dm A H (v :: vs) (s :: ss)
def DA (K : Fg) (T : List Addr) (t : TA) (f : Fl) : Prop := ∀ dm A0 H0 A σ H env k (Q : List V → Hp → Prop), Sta K T dm A0 H0 A σ H env k → ∀ s k', f env k = some (s, k') →
  (∀ vs H', Sta K T dm A0 H0 A σ H' env k' → Lt dm H H' → IsSL K A0 dm A H' vs s → Q vs H') → t σ H Q
section
variable {K : Fg} {T : List Addr}
def fVar (i : Nat) : Fe := fun env k => match env[i]? with
  | some .un => none
  | some s => some (s, k)
  | none => none
theorem de_var (i : Nat) : DE K T (tVar i) (fVar i) := by
  intro dm A0 H0 A σ H env k Q S s k' hf hQ
  have h := S.slot i
  unfold fVar at hf
  cases e : env[i]? with
  | none => rw [e] at hf; cases hf
  | some q =>
    rw [e] at hf h
    cases q with
    | un => cases hf
    | dat d => cases hf; obtain ⟨v, h1, h2⟩ := h; exact ⟨v, h1, hQ v H S (Lt.refl _ _) h2⟩
    | deck => cases hf; obtain ⟨a, c, h1, h2⟩ := h; exact ⟨_, h2, hQ _ H S (Lt.refl _ _) ⟨a, c, h1, rfl⟩⟩
    | own ds =>
      cases hf
      obtain ⟨p, vs, h1, h2, h3, h4, h5, h6⟩ := h
      refine ⟨_, h1, hQ _ H S (Lt.refl _ _) ⟨p, vs, rfl, h3, fun a c e => ?_, h5, h6⟩⟩
      obtain ⟨q1, q2⟩ := S.dm0 a c e
      exact ⟨fun z => h3 (z ▸ q1), fun z => h3 (z ▸ q2)⟩
    | scr ns => cases hf; obtain ⟨a, h1, h2⟩ := h; exact ⟨_, h1, hQ _ H S (Lt.refl _ _) ⟨a, rfl, h2⟩⟩
def fC (d : D) : Fe := fun _ k => some (.dat d, k)
theorem de_c {v : V} {d : D} (h : ∀ H, Is K H v d) : DE K T (tC v) (fC d) := by
  intro dm A0 H0 A σ H env k Q S s k' hf hQ
  cases hf
  exact hQ v H S (Lt.refl _ _) (h _)
def f2 (g : Sl → Sl → Option Sl) (f1 f2 : Fe) : Fe := fun env k => (f1 env k).bind fun p => (f2 env p.2).bind fun q => (g p.1 q.1).map fun s => (s, q.2)
/-- two operands, the outcome pure -/
theorem de_bin {ta tb : TE} {f1 f2' : Fe} {g : Sl → Sl → Option Sl} {r : R2} (h1 : DE K T ta f1) (h2 : DE K T tb f2')
    (hr : ∀ dm A0 H0 A σ H env k x y a b s (Q : VK), Sta K T dm A0 H0 A σ H env k → IsS K A0 dm A H x a → IsS K A0 dm A H y b → g a b = some s →
      (∀ v H', Sta K T dm A0 H0 A σ H' env k → Lt dm H H' → IsS K A0 dm A H' v s → Q v H') → r x y H Q) : DE K T (tOp r ta tb) (f2 g f1 f2') := by
  intro dm A0 H0 A σ H env k Q S s k' hf hQ
  unfold f2 at hf
  cases e1 : f1 env k with
  | none => rw [e1] at hf; cases hf
  | some p =>
    rw [e1] at hf
    cases e2 : f2' env p.2 with
    | none => simp only [Option.bind_some, e2, Option.bind_none] at hf; cases hf
    | some q =>
      simp only [Option.bind_some, e2] at hf
      cases e3 : g p.1 q.1 with
      | none => rw [e3] at hf; cases hf
      | some z =>
        rw [e3] at hf
        cases hf
        refine h1 dm A0 H0 A σ H env k _ S p.1 p.2 e1 fun x H1 S1 l1 i1 => ?_
        refine h2 dm A0 H0 A σ H1 env p.2 _ S1 q.1 q.2 e2 fun y H2 S2 l2 i2 => ?_
        exact hr dm A0 H0 A σ H2 env q.2 x y p.1 q.1 _ Q S2 (i1.lt S1.wd l2) i2 e3 fun v H3 S3 l3 i3 => hQ v H3 S3 ((l1.trans l2).trans l3) i3
/-- two ints -/
def gII (c : Int → Int → Bool) (g : Int → Int → D) : Sl → Sl → Option Sl
  | .dat (.int i), .dat (.int j) => if c i j = true then some (.dat (g i j)) else none
  | _, _ => none
theorem is_int {K : Fg} {A0 : List Addr} {dm : Dm} {A : List Addr} {H : Hp} {x : V} {i : Int} (h : IsS K A0 dm A H x (.dat (.int i))) : x = .int i := by
  cases (show Is K (hide A H) x (.int i) from h) with
  | int => rfl
theorem gII_some {c : Int → Int → Bool} {g : Int → Int → D} {a b s : Sl} (h : gII c g a b = some s) : ∃ i j, a = .dat (.int i) ∧ b = .dat (.int j) ∧ c i j = true ∧ s = .dat (g i j) := by
  unfold gII at h
  split at h
  · rename_i i j
    by_cases hc : c i j = true
    · rw [if_pos hc] at h; cases h; exact ⟨i, j, rfl, rfl, hc, rfl⟩
    · rw [if_neg hc] at h; cases h
  · cases h
theorem de_ii {ta tb : TE} {f1 f2' : Fe} {c : Int → Int → Bool} {g : Int → Int → D} {g' : Int → Int → V} {r : R2} (h1 : DE K T ta f1) (h2 : DE K T tb f2')
    (hr : ∀ i j H (Q : VK), c i j = true → Q (g' i j) H → r (.int i) (.int j) H Q) (hg : ∀ i j H, Is K H (g' i j) (g i j)) : DE K T (tOp r ta tb) (f2 (gII c g) f1 f2') := by
  refine de_bin h1 h2 ?_
  intro dm A0 H0 A σ H env k x y a b s Q S i1 i2 e hQ
  obtain ⟨i, j, rfl, rfl, hc, rfl⟩ := gII_some e
  rw [is_int i1, is_int i2]
  exact hr i j H Q hc (hQ _ H S (Lt.refl _ _) (hg i j _))
def c0 : Int → Int → Bool := fun _ _ => true
def cMul (i j : Int) : Bool := decide (i.natAbs.log2 + j.natAbs.log2 < 1000000)
def cDiv (_ j : Int) : Bool := decide (0 < j) && decide (j.natAbs.log2 < 9000)
def cMod (_ j : Int) : Bool := decide (j ≠ 0)
def fAdd : Fe → Fe → Fe := f2 (gII c0 fun i j => .int (i + j))
def fSub : Fe → Fe → Fe := f2 (gII c0 fun i j => .int (i - j))
def fMul : Fe → Fe → Fe := f2 (gII cMul fun i j => .int (i * j))
def fDiv : Fe → Fe → Fe := f2 (gII cDiv fun i j => .int (i / j))
def fMod : Fe → Fe → Fe := f2 (gII cMod fun i j => .int (i.fmod j))
variable {ta tb : TE} {f g : Fe}
theorem de_add (h1 : DE K T ta f) (h2 : DE K T tb g) : DE K T (tOp (rI0 fun i j => .int (i + j)) ta tb) (fAdd f g) := de_ii h1 h2 (fun i j H Q _ q => ⟨i, j, rfl, rfl, q⟩) fun _ _ _ => .int _
theorem de_sub (h1 : DE K T ta f) (h2 : DE K T tb g) : DE K T (tOp (rI0 fun i j => .int (i - j)) ta tb) (fSub f g) := de_ii h1 h2 (fun i j H Q _ q => ⟨i, j, rfl, rfl, q⟩) fun _ _ _ => .int _
theorem de_mul (h1 : DE K T ta f) (h2 : DE K T tb g) : DE K T (tOp (rI CMulW fun i j => .int (i * j)) ta tb) (fMul f g) := de_ii h1 h2 (fun i j H Q c q => ⟨i, j, rfl, rfl, (show CMulW i j from (of_decide_eq_true (show decide (i.natAbs.log2 + j.natAbs.log2 < 1000000) = true from c) : i.natAbs.log2 + j.natAbs.log2 < 1000000)), q⟩) fun _ _ _ => .int _
theorem de_div (h1 : DE K T ta f) (h2 : DE K T tb g) : DE K T (tOp (rI CDivW fun i j => .int (i / j)) ta tb) (fDiv f g) := de_ii h1 h2 (fun i j H Q c q => ⟨i, j, rfl, rfl, by
  unfold cDiv at c; simp only [Bool.and_eq_true, decide_eq_true_eq] at c; exact c, q⟩) fun _ _ _ => .int _
theorem de_mod (h1 : DE K T ta f) (h2 : DE K T tb g) : DE K T (tOp (rI (fun _ j => j ≠ 0) fun i j => .int (i.fmod j)) ta tb) (fMod f g) := de_ii h1 h2 (fun i j H Q c q => ⟨i, j, rfl, rfl, by unfold cMod at c; exact of_decide_eq_true c, q⟩) fun _ _ _ => .int _
def fCmp (p : Int → Int → Bool) : Fe → Fe → Fe := f2 (gII c0 fun i j => .bool (p i j))
theorem de_cmp {p : Int → Int → Bool} (h1 : DE K T ta f) (h2 : DE K T tb g) : DE K T (tOp (rI0 fun i j => .bl (p i j)) ta tb) (fCmp p f g) := de_ii h1 h2 (fun i j H Q _ q => ⟨i, j, rfl, rfl, q⟩) fun _ _ _ => .bl _
end
end DL
set_option maxHeartbeats 4000000
namespace DL
open PySem PySem.Spec PyProof.Rows L2
section
variable {K : Fg} {T : List Addr} {ta tb : TE} {f g : Fe}
/-! ### new objects -/
theorem notA {dm : Dm} {A : List Addr} {H : Hp} {k : Dk} {p : Addr} (w : Wd T dm A H k) (hp : H p = none) : p ∉ A := fun h => w.dom p h hp
theorem kp_new {dm : Dm} {A : List Addr} {H : Hp} {k : Dk} {p : Addr} {o : HO} (w : Wd T dm A H k) (hp : H p = none) : Kp (hide A H) (hide A (upd H p o)) := (Lt.new (dm := dm) hp).kp w
theorem mk_tup {dm : Dm} {A : List Addr} {H : Hp} {k : Dk} {p : Addr} {vs : List V} {ds : List D} (w : Wd T dm A H k) (hp : H p = none) (h : IsL K (hide A H) vs ds) : Is K (hide A (upd H p (.tup vs))) (.ref p) (.tuple ds) :=
  .tup (.inl (.inl (by rw [hide_out (notA w hp)]; exact upd_same))) (IsL.kp (kp_new w hp) h)
theorem mk_lst {dm : Dm} {A : List Addr} {H : Hp} {k : Dk} {p : Addr} {vs : List V} {ds : List D} (w : Wd T dm A H k) (hp : H p = none) (h : IsL K (hide A H) vs ds) : Is K (hide A (upd H p (.lst vs))) (.ref p) (.list ds) :=
  .lst (by rw [hide_out (notA w hp)]; exact upd_same) (IsL.kp (kp_new w hp) h)
/-! ### what a slot's value is in the heap -/
def asL : Sl → Option (List D)
  | .dat (.list ds) => some ds
  | .own ds => some ds
  | _ => none
def asT : Sl → Option (List D)
  | .dat (.tuple ds) => some ds
  | _ => none
theorem is_lst {A0 : List Addr} {dm : Dm} {A : List Addr} {H : Hp} {v : V} {s : Sl} {ds : List D} (h : IsS K A0 dm A H v s) (e : asL s = some ds) : ∃ p vs, v = .ref p ∧ H p = some (.lst vs) ∧ IsL K (hide A H) vs ds := by
  cases s with
  | un => exact h.elim
  | deck => cases e
  | scr ns => cases e
  | own es => cases e; obtain ⟨p, vs, h1, _, _, h2, h3⟩ := h; exact ⟨p, vs, h1, h2, h3⟩
  | dat d =>
    cases d with
    | list es =>
      cases e
      cases (show Is K (hide A H) v (.list ds) from h) with
      | lst h1 h2 => exact ⟨_, _, rfl, (hide_some h1).2, h2⟩
    | _ => cases e
theorem sqt_out {A : List Addr} {H : Hp} {a : Addr} {xs : List V} (h : SqT K (hide A H) a xs) : SqT K H a xs := by
  rcases h with (h | ⟨o, h⟩) | h
  · exact .inl (.inl (hide_some h).2)
  · exact .inl (.inr ⟨o, (hide_some h).2⟩)
  · exact .inr h
theorem is_tup {A0 : List Addr} {dm : Dm} {A : List Addr} {H : Hp} {v : V} {s : Sl} {ds : List D} (h : IsS K A0 dm A H v s) (e : asT s = some ds) : ∃ p vs, v = .ref p ∧ SqT K H p vs ∧ SqT K (hide A H) p vs ∧ IsL K (hide A H) vs ds := by
  cases s with
  | un => exact h.elim
  | deck => cases e
  | scr ns => cases e
  | own es => cases e
  | dat d =>
    cases d with
    | tuple es =>
      cases e
      cases (show Is K (hide A H) v (.tuple ds) from h) with
      | tup h1 h2 => exact ⟨_, _, rfl, sqt_out h1, h1, h2⟩
    | _ => cases e
/-! ### one operand -/
def f1 (g : Sl → Option Sl) (f : Fe) : Fe := fun env k => (f env k).bind fun p => (g p.1).map fun s => (s, p.2)
theorem f1_some {g : Sl → Option Sl} {env : List Sl} {k k' : Dk} {s : Sl} (h : f1 g f env k = some (s, k')) : ∃ a, f env k = some (a, k') ∧ g a = some s := by
  unfold f1 at h
  cases e1 : f env k with
  | none => rw [e1] at h; cases h
  | some p =>
    rw [e1] at h
    simp only [Option.bind_some] at h
    cases e2 : g p.1 with
    | none => rw [e2] at h; cases h
    | some z => rw [e2] at h; cases h; exact ⟨p.1, rfl, e2⟩
def gI (c : Int → Bool) (g : Int → D) : Sl → Option Sl
  | .dat (.int i) => if c i = true then some (.dat (g i)) else none
  | _ => none
theorem gI_some {c : Int → Bool} {g : Int → D} {a s : Sl} (h : gI c g a = some s) : ∃ i, a = .dat (.int i) ∧ c i = true ∧ s = .dat (g i) := by
  unfold gI at h
  split at h
  · rename_i i
    by_cases hc : c i = true
    · rw [if_pos hc] at h; cases h; exact ⟨i, rfl, hc, rfl⟩
    · rw [if_neg hc] at h; cases h
  · cases h
def fNeg : Fe → Fe := f1 (gI (fun _ => true) fun i => .int (-i))
theorem de_neg (h1 : DE K T ta f) : DE K T (tUn (rU fun i => .int (-i)) ta) (fNeg f) := by
  intro dm A0 H0 A σ H env k Q S s k' hf hQ
  obtain ⟨a, e1, e2⟩ := f1_some hf
  obtain ⟨i, rfl, _, rfl⟩ := gI_some e2
  refine h1 dm A0 H0 A σ H env k _ S _ _ e1 fun x H1 S1 l1 i1 => ?_
  rw [is_int i1]
  exact ⟨i, rfl, hQ _ H1 S1 l1 (Is.int _)⟩
/-! ### tests -/
def fTest (f : Fe) : Ft := fun env k => (f env k).bind fun p => match p.1 with
  | .dat (.bool b) => some (b, p.2)
  | _ => none
theorem fTest_some {env : List Sl} {k k' : Dk} {b : Bool} (h : fTest f env k = some (b, k')) : f env k = some (.dat (.bool b), k') := by
  unfold fTest at h
  cases e1 : f env k with
  | none => rw [e1] at h; cases h
  | some p =>
    rw [e1] at h
    obtain ⟨s, k1⟩ := p
    simp only [Option.bind_some] at h
    cases s with
    | dat d =>
      cases d with
      | bool b' => cases h; rfl
      | _ => cases h
    | _ => cases h
theorem is_bl {A0 : List Addr} {dm : Dm} {A : List Addr} {H : Hp} {x : V} {b : Bool} (h : IsS K A0 dm A H x (.dat (.bool b))) : x = .bl b := by
  cases (show Is K (hide A H) x (.bool b) from h) with
  | bl => rfl
theorem dt_test (h1 : DE K T ta f) : DT K T (tTest ta) (fTest f) := by
  intro dm A0 H0 A σ H env k Q S b k' hf hQ
  refine h1 dm A0 H0 A σ H env k _ S _ _ (fTest_some hf) fun x H1 S1 l1 i1 => ?_
  exact ⟨b, is_bl i1, hQ H1 S1 l1⟩
theorem dt_b (h1 : DE K T ta f) : DT K T (tB ta) (fTest f) := dt_test h1
def tAndF (f g : Ft) : Ft := fun env k => (f env k).bind fun p => if p.1 = true then g env p.2 else some (false, p.2)
def tOrF (f g : Ft) : Ft := fun env k => (f env k).bind fun p => if p.1 = true then some (true, p.2) else g env p.2
def tNotF (f : Ft) : Ft := fun env k => (f env k).map fun p => (!p.1, p.2)
variable {ca cb : TT} {u w : Ft}
theorem dt_and (h1 : DT K T ca u) (h2 : DT K T cb w) : DT K T (tAnd ca cb) (tAndF u w) := by
  intro dm A0 H0 A σ H env k Q S b k' hf hQ
  unfold tAndF at hf
  cases e1 : u env k with
  | none => rw [e1] at hf; cases hf
  | some p =>
    obtain ⟨c, k1⟩ := p
    rw [e1] at hf
    simp only [Option.bind_some] at hf
    refine h1 dm A0 H0 A σ H env k _ S c k1 e1 fun H1 S1 l1 => ?_
    cases c with
    | true => exact iteT (h2 dm A0 H0 A σ H1 env k1 _ S1 b k' (by simpa using hf) fun H2 S2 l2 => hQ H2 S2 (l1.trans l2))
    | false =>
      simp at hf
      obtain ⟨rfl, rfl⟩ := hf
      exact iteF (hQ H1 S1 l1)
theorem dt_or (h1 : DT K T ca u) (h2 : DT K T cb w) : DT K T (tOr ca cb) (tOrF u w) := by
  intro dm A0 H0 A σ H env k Q S b k' hf hQ
  unfold tOrF at hf
  cases e1 : u env k with
  | none => rw [e1] at hf; cases hf
  | some p =>
    obtain ⟨c, k1⟩ := p
    rw [e1] at hf
    simp only [Option.bind_some] at hf
    refine h1 dm A0 H0 A σ H env k _ S c k1 e1 fun H1 S1 l1 => ?_
    cases c with
    | false => exact iteF (h2 dm A0 H0 A σ H1 env k1 _ S1 b k' (by simpa using hf) fun H2 S2 l2 => hQ H2 S2 (l1.trans l2))
    | true =>
      simp at hf
      obtain ⟨rfl, rfl⟩ := hf
      exact iteT (hQ H1 S1 l1)
theorem dt_not (h1 : DT K T ca u) : DT K T (tNot ca) (tNotF u) := by
  intro dm A0 H0 A σ H env k Q S b k' hf hQ
  unfold tNotF at hf
  cases e1 : u env k with
  | none => rw [e1] at hf; cases hf
  | some p =>
    rw [e1] at hf
    cases hf
    exact h1 dm A0 H0 A σ H env k _ S p.1 p.2 e1 fun H1 S1 l1 => hQ H1 S1 l1
/-- and, or, not as values, of bools -/
def fAnd (f g : Fe) : Fe := fun env k => (fTest f env k).bind fun p => if p.1 = true then g env p.2 else some (.dat (.bool false), p.2)
def fOr (f g : Fe) : Fe := fun env k => (fTest f env k).bind fun p => if p.1 = true then some (.dat (.bool true), p.2) else g env p.2
def fNot (f : Fe) : Fe := fun env k => (fTest f env k).map fun p => (.dat (.bool (!p.1)), p.2)
theorem de_and (h1 : DE K T ta f) (h2 : DE K T tb g) : DE K T (tAndV ta tb) (fAnd f g) := by
  intro dm A0 H0 A σ H env k Q S s k' hf hQ
  unfold fAnd at hf
  cases e1 : fTest f env k with
  | none => rw [e1] at hf; cases hf
  | some p =>
    obtain ⟨c, k1⟩ := p
    rw [e1] at hf
    simp only [Option.bind_some] at hf
    refine h1 dm A0 H0 A σ H env k _ S _ _ (fTest_some e1) fun x H1 S1 l1 i1 => ⟨c, is_bl i1, ?_⟩
    cases c with
    | true => exact iteT (h2 dm A0 H0 A σ H1 env k1 _ S1 s k' (by simpa using hf) fun v H2 S2 l2 i2 => hQ v H2 S2 (l1.trans l2) i2)
    | false =>
      simp at hf
      obtain ⟨rfl, rfl⟩ := hf
      exact iteF (hQ _ H1 S1 l1 (Is.bl _))
theorem de_or (h1 : DE K T ta f) (h2 : DE K T tb g) : DE K T (tOrV ta tb) (fOr f g) := by
  intro dm A0 H0 A σ H env k Q S s k' hf hQ
  unfold fOr at hf
  cases e1 : fTest f env k with
  | none => rw [e1] at hf; cases hf
  | some p =>
    obtain ⟨c, k1⟩ := p
    rw [e1] at hf
    simp only [Option.bind_some] at hf
    refine h1 dm A0 H0 A σ H env k _ S _ _ (fTest_some e1) fun x H1 S1 l1 i1 => ⟨c, is_bl i1, ?_⟩
    cases c with
    | false => exact iteF (h2 dm A0 H0 A σ H1 env k1 _ S1 s k' (by simpa using hf) fun v H2 S2 l2 i2 => hQ v H2 S2 (l1.trans l2) i2)
    | true =>
      simp at hf
      obtain ⟨rfl, rfl⟩ := hf
      exact iteT (hQ _ H1 S1 l1 (Is.bl _))
theorem de_not (h1 : DE K T ta f) : DE K T (tNotV ta) (fNot f) := by
  intro dm A0 H0 A σ H env k Q S s k' hf hQ
  unfold fNot at hf
  cases e1 : fTest f env k with
  | none => rw [e1] at hf; cases hf
  | some p =>
    rw [e1] at hf
    cases hf
    exact h1 dm A0 H0 A σ H env k _ S _ _ (fTest_some e1) fun x H1 S1 l1 i1 => ⟨p.1, is_bl i1, hQ _ H1 S1 l1 (Is.bl _)⟩
def fIf (u : Ft) (f g : Fe) : Fe := fun env k => (u env k).bind fun p => if p.1 = true then f env p.2 else g env p.2
theorem de_if (h0 : DT K T ca u) (h1 : DE K T ta f) (h2 : DE K T tb g) : DE K T (tIf ca ta tb) (fIf u f g) := by
  intro dm A0 H0 A σ H env k Q S s k' hf hQ
  unfold fIf at hf
  cases e1 : u env k with
  | none => rw [e1] at hf; cases hf
  | some p =>
    obtain ⟨c, k1⟩ := p
    rw [e1] at hf
    simp only [Option.bind_some] at hf
    refine h0 dm A0 H0 A σ H env k _ S c k1 e1 fun H1 S1 l1 => ?_
    cases c with
    | true => exact iteT (h1 dm A0 H0 A σ H1 env k1 _ S1 s k' (by simpa using hf) fun v H2 S2 l2 i2 => hQ v H2 S2 (l1.trans l2) i2)
    | false => exact iteF (h2 dm A0 H0 A σ H1 env k1 _ S1 s k' (by simpa using hf) fun v H2 S2 l2 i2 => hQ v H2 S2 (l1.trans l2) i2)
/-! ### a op b op' c, of ints -/
def fChain (p q : Int → Int → Bool) (f g h : Fe) : Fe := fun env k => (f env k).bind fun x => (g env x.2).bind fun y => match x.1, y.1 with
  | .dat (.int i), .dat (.int j) => if p i j = true then (h env y.2).bind fun z => match z.1 with
      | .dat (.int l) => some (.dat (.bool (q j l)), z.2)
      | _ => none
    else some (.dat (.bool false), y.2)
  | _, _ => none
theorem de_chain {tc : TE} {h : Fe} {p q : Int → Int → Bool} (h1 : DE K T ta f) (h2 : DE K T tb g) (h3 : DE K T tc h) :
    DE K T (tChain (rI0 fun i j => .bl (p i j)) (rI0 fun i j => .bl (q i j)) ta tb tc) (fChain p q f g h) := by
  intro dm A0 H0 A σ H env k Q S s k' hf hQ
  unfold fChain at hf
  cases e1 : f env k with
  | none => rw [e1] at hf; cases hf
  | some x =>
    obtain ⟨x, k1⟩ := x
    rw [e1] at hf
    simp only [Option.bind_some] at hf
    cases e2 : g env k1 with
    | none => rw [e2] at hf; cases hf
    | some y =>
      obtain ⟨y, k2⟩ := y
      rw [e2] at hf
      simp only [Option.bind_some] at hf
      split at hf
      · rename_i i j
        refine h1 dm A0 H0 A σ H env k _ S _ _ e1 fun v H1 S1 l1 i1 => ?_
        refine h2 dm A0 H0 A σ H1 env k1 _ S1 _ _ e2 fun v' H2 S2 l2 i2 => ?_
        rw [is_int i1, is_int i2]
        refine ⟨i, j, rfl, rfl, p i j, rfl, ?_⟩
        by_cases hp : p i j = true
        · rw [hp] at hf ⊢
          refine iteT ?_
          simp only [if_true] at hf
          cases e3 : h env k2 with
          | none => rw [e3] at hf; cases hf
          | some z =>
            obtain ⟨z, k3⟩ := z
            rw [e3] at hf
            simp only [Option.bind_some] at hf
            split at hf
            · rename_i l
              cases hf
              refine h3 dm A0 H0 A σ H2 env k2 _ S2 _ _ e3 fun v'' H3 S3 l3 i3 => ?_
              rw [is_int i3]
              exact ⟨j, l, rfl, rfl, hQ _ H3 S3 ((l1.trans l2).trans l3) (Is.bl _)⟩
            · cases hf
        · have hp' : p i j = false := by simpa using hp
          rw [hp'] at hf ⊢
          simp only [Bool.false_eq_true, if_false] at hf
          cases hf
          exact iteF (hQ _ H2 S2 (l1.trans l2) (Is.bl _))
      · cases hf
/-! ### argument lists, displays -/
def fNil : Fl := fun _ k => some ([], k)
def fCons (f : Fe) (h : Fl) : Fl := fun env k => (f env k).bind fun p => (h env p.2).map fun q => (p.1 :: q.1, q.2)
theorem da_nil : DA K T tNil fNil := by
  intro dm A0 H0 A σ H env k Q S s k' hf hQ
  cases hf
  exact hQ [] H S (Lt.refl _ _) .nil
theorem da_cons {tr : TA} {h : Fl} (h1 : DE K T ta f) (h2 : DA K T tr h) : DA K T (tCons ta tr) (fCons f h) := by
  intro dm A0 H0 A σ H env k Q S s k' hf hQ
  unfold fCons at hf
  cases e1 : f env k with
  | none => rw [e1] at hf; cases hf
  | some p =>
    obtain ⟨x, k1⟩ := p
    rw [e1] at hf
    simp only [Option.bind_some] at hf
    cases e2 : h env k1 with
    | none => rw [e2] at hf; cases hf
    | some q =>
      rw [e2] at hf
      cases hf
      refine h1 dm A0 H0 A σ H env k _ S _ _ e1 fun v H1 S1 l1 i1 => ?_
      exact h2 dm A0 H0 A σ H1 env k1 _ S1 _ _ e2 fun vs H2 S2 l2 i2 => hQ _ H2 S2 (l1.trans l2) (.cons (i1.lt S1.wd l2) i2)
/-- all are data -/
def dats : List Sl → Option (List D)
  | [] => some []
  | .dat d :: r => (dats r).map fun l => d :: l
  | _ => none
theorem isl_dats {A0 : List Addr} {dm : Dm} {A : List Addr} {H : Hp} : ∀ {vs : List V} {ss : List Sl} {ds : List D}, IsSL K A0 dm A H vs ss → dats ss = some ds → IsL K (hide A H) vs ds
  | _, _, _, .nil, e => by cases e; exact .nil
  | _, _, _, .cons (s := s) (ss := ss) h l, e => by
    cases s with
    | dat d =>
      unfold dats at e
      cases e2 : dats ss with
      | none => rw [e2] at e; cases e
      | some z => rw [e2] at e; cases e; exact .cons h (isl_dats l e2)
    | _ => cases e
def fSeq (c : List D → D) (h : Fl) : Fe := fun env k => (h env k).bind fun p => (dats p.1).bind fun ds => if ds.length ≤ 1000000 then some (.dat (c ds), p.2) else none
theorem fSeq_some {c : List D → D} {h : Fl} {env : List Sl} {k k' : Dk} {s : Sl} (e : fSeq c h env k = some (s, k')) : ∃ ss ds, h env k = some (ss, k') ∧ dats ss = some ds ∧ ds.length ≤ 1000000 ∧ s = .dat (c ds) := by
  unfold fSeq at e
  cases e1 : h env k with
  | none => rw [e1] at e; cases e
  | some p =>
    obtain ⟨ss, k1⟩ := p
    rw [e1] at e
    simp only [Option.bind_some] at e
    cases e2 : dats ss with
    | none => rw [e2] at e; cases e
    | some ds =>
      rw [e2] at e
      simp only [Option.bind_some] at e
      by_cases hc : ds.length ≤ 1000000
      · rw [if_pos hc] at e; cases e; exact ⟨ss, ds, rfl, e2, hc, rfl⟩
      · rw [if_neg hc] at e; cases e
theorem line_le {n : Nat} (h : n ≤ 1000000) : n ≤ sizeLine := Nat.le_trans h (by decide)
theorem de_tup {t : TA} {h : Fl} (h1 : DA K T t h) : DE K T (tTup t) (fSeq .tuple h) := by
  intro dm A0 H0 A σ H env k Q S s k' hf hQ
  obtain ⟨ss, ds, e1, e2, e3, rfl⟩ := fSeq_some hf
  refine h1 dm A0 H0 A σ H env k _ S _ _ e1 fun vs H1 S1 l1 i1 => ?_
  have il := isl_dats i1 e2
  refine ⟨line_le (by rw [il.len]; exact e3), fun p hp => hQ _ _ (S1.new hp) (l1.trans (Lt.new hp)) (mk_tup S1.wd hp il)⟩
theorem de_lst {t : TA} {h : Fl} (h1 : DA K T t h) : DE K T (tLst t) (fSeq .list h) := by
  intro dm A0 H0 A σ H env k Q S s k' hf hQ
  obtain ⟨ss, ds, e1, e2, e3, rfl⟩ := fSeq_some hf
  refine h1 dm A0 H0 A σ H env k _ S _ _ e1 fun vs H1 S1 l1 i1 => ?_
  have il := isl_dats i1 e2
  refine ⟨line_le (by rw [il.len]; exact e3), fun p hp => hQ _ _ (S1.new hp) (l1.trans (Lt.new hp)) (mk_lst S1.wd hp il)⟩
/-! ### items -/
def gIx (as : Sl → Option (List D)) : Sl → Sl → Option Sl := fun a b => match b with
  | .dat (.int i) => (as a).bind fun ds => (atI ds i).map .dat
  | _ => none
theorem gIx_some {as : Sl → Option (List D)} {a b s : Sl} (h : gIx as a b = some s) : ∃ i ds d, b = .dat (.int i) ∧ as a = some ds ∧ atI ds i = some d ∧ s = .dat d := by
  unfold gIx at h
  split at h
  · rename_i i
    cases e1 : as a with
    | none => rw [e1] at h; cases h
    | some ds =>
      rw [e1] at h
      simp only [Option.bind_some] at h
      cases e2 : atI ds i with
      | none => rw [e2] at h; cases h
      | some d => rw [e2] at h; cases h; exact ⟨i, ds, d, rfl, rfl, e2, rfl⟩
  · cases h
theorem isl_at {H : Hp} {vs : List V} {ds : List D} {i : Int} {d : D} (h : IsL K H vs ds) (e : atI ds i = some d) : ∃ v, atI vs i = some v ∧ Is K H v d := by
  unfold atI at e ⊢
  rw [h.len]
  cases e1 : ixN ds.length i with
  | none => rw [e1] at e; cases e
  | some j =>
    rw [e1] at e
    simp only [Option.bind_some] at e ⊢
    obtain ⟨v, h1, h2⟩ := h.get e
    exact ⟨v, h1, h2⟩
def fIxT : Fe → Fe → Fe := f2 (gIx asT)
def fIxL : Fe → Fe → Fe := f2 (gIx asL)
theorem de_ixT (h1 : DE K T ta f) (h2 : DE K T tb g) : DE K T (tOp (rIxT K) ta tb) (fIxT f g) := de_bin h1 h2 (by
  intro dm A0 H0 A σ H env k x y a b s Q S i1 i2 e hQ
  obtain ⟨i, ds, d, rfl, e1, e2, rfl⟩ := gIx_some e
  rw [is_int i2]
  obtain ⟨p, vs, rfl, h1, _, h2⟩ := is_tup i1 e1
  obtain ⟨v, h3, h4⟩ := isl_at h2 e2
  exact ⟨p, vs, i, v, rfl, rfl, h1, h3, hQ _ H S (Lt.refl _ _) h4⟩)
theorem de_ixL (h1 : DE K T ta f) (h2 : DE K T tb g) : DE K T (tOp (rIxL K) ta tb) (fIxL f g) := de_bin h1 h2 (by
  intro dm A0 H0 A σ H env k x y a b s Q S i1 i2 e hQ
  obtain ⟨i, ds, d, rfl, e1, e2, rfl⟩ := gIx_some e
  rw [is_int i2]
  obtain ⟨p, vs, rfl, h1, h2⟩ := is_lst i1 e1
  obtain ⟨v, h3, h4⟩ := isl_at h2 e2
  exact ⟨p, vs, i, v, rfl, rfl, .inl (.inl h1), h3, hQ _ H S (Lt.refl _ _) h4⟩)
/-- of a list or a tuple -/
def asQ (s : Sl) : Option (List D) := match asL s with
  | some ds => some ds
  | none => asT s
def fIx : Fe → Fe → Fe := f2 (gIx asQ)
theorem de_ix (h1 : DE K T ta f) (h2 : DE K T tb g) : DE K T (tOp (rIx K) ta tb) (fIx f g) := de_bin h1 h2 (by
  intro dm A0 H0 A σ H env k x y a b s Q S i1 i2 e hQ
  obtain ⟨i, ds, d, rfl, e1, e2, rfl⟩ := gIx_some e
  rw [is_int i2]
  unfold asQ at e1
  cases e3 : asL a with
  | some es =>
    rw [e3] at e1
    cases e1
    obtain ⟨p, vs, rfl, h1, h2⟩ := is_lst i1 e3
    obtain ⟨v, h3, h4⟩ := isl_at h2 e2
    exact .inl ⟨p, vs, i, v, rfl, rfl, .inl (.inl h1), h3, hQ _ H S (Lt.refl _ _) h4⟩
  | none =>
    rw [e3] at e1
    obtain ⟨p, vs, rfl, h1, _, h2⟩ := is_tup i1 e1
    obtain ⟨v, h3, h4⟩ := isl_at h2 e2
    exact .inr (.inl ⟨p, vs, i, v, rfl, rfl, h1, h3, hQ _ H S (Lt.refl _ _) h4⟩))
/-! ### slices -/
abbrev Fo := List Sl → Dk → Option (Option Int × Dk)
def DO (K : Fg) (T : List Addr) (t : TO) (f : Fo) : Prop := ∀ dm A0 H0 A σ H env k (Q : Option Int → Hp → Prop), Sta K T dm A0 H0 A σ H env k → ∀ b k', f env k = some (b, k') →
  (∀ H', Sta K T dm A0 H0 A σ H' env k' → Lt dm H H' → Q b H') → t σ H Q
def fNoPart : Fo := fun _ k => some (none, k)
def fPart (f : Fe) : Fo := fun env k => (f env k).bind fun p => match p.1 with
  | .dat (.int i) => some (some i, p.2)
  | _ => none
theorem do_none : DO K T tNoPart fNoPart := by
  intro dm A0 H0 A σ H env k Q S s k' hf hQ
  cases hf
  exact hQ H S (Lt.refl _ _)
theorem do_some (h1 : DE K T ta f) : DO K T (tPart ta) (fPart f) := by
  intro dm A0 H0 A σ H env k Q S s k' hf hQ
  unfold fPart at hf
  cases e1 : f env k with
  | none => rw [e1] at hf; cases hf
  | some p =>
    obtain ⟨x, k1⟩ := p
    rw [e1] at hf
    simp only [Option.bind_some] at hf
    split at hf
    · rename_i i
      cases hf
      refine h1 dm A0 H0 A σ H env k _ S _ _ e1 fun v H1 S1 l1 i1 => ?_
      rw [is_int i1]
      exact ⟨i, rfl, hQ H1 S1 l1⟩
    · cases hf
def cutD (xs : List D) (lo hi : Option Int) : List D := (xs.drop (HT.sIx xs.length 0 lo)).take (HT.sIx xs.length xs.length hi - HT.sIx xs.length 0 lo)
theorem isl_cut {H : Hp} {vs : List V} {ds : List D} {lo hi : Option Int} (h : IsL K H vs ds) : IsL K H (cutV vs lo hi) (cutD ds lo hi) := by
  unfold cutV cutD
  rw [h.len]
  exact (h.dr _).tk _
def fSl (as : Sl → Option (List D)) (c : List D → D) (f : Fe) (l h : Fo) : Fe := fun env k => (f env k).bind fun x => (l env x.2).bind fun y => (h env y.2).bind fun z => (as x.1).map fun ds => (.dat (c (cutD ds y.1 z.1)), z.2)
theorem fSl_some {as : Sl → Option (List D)} {c : List D → D} {l h : Fo} {env : List Sl} {k k' : Dk} {s : Sl} (e : fSl as c f l h env k = some (s, k')) :
    ∃ x k1 lo k2 hi ds, f env k = some (x, k1) ∧ l env k1 = some (lo, k2) ∧ h env k2 = some (hi, k') ∧ as x = some ds ∧ s = .dat (c (cutD ds lo hi)) := by
  unfold fSl at e
  cases e1 : f env k with
  | none => rw [e1] at e; cases e
  | some x =>
    obtain ⟨x, k1⟩ := x
    rw [e1] at e
    simp only [Option.bind_some] at e
    cases e2 : l env k1 with
    | none => rw [e2] at e; cases e
    | some y =>
      obtain ⟨lo, k2⟩ := y
      rw [e2] at e
      simp only [Option.bind_some] at e
      cases e3 : h env k2 with
      | none => rw [e3] at e; cases e
      | some z =>
        obtain ⟨hi, k3⟩ := z
        rw [e3] at e
        simp only [Option.bind_some] at e
        cases e4 : as x with
        | none => rw [e4] at e; cases e
        | some ds => rw [e4] at e; cases e; exact ⟨x, k1, lo, k2, hi, ds, rfl, e2, e3, e4, rfl⟩
theorem de_slT {l h : TO} {fl fh : Fo} (h1 : DE K T ta f) (h2 : DO K T l fl) (h3 : DO K T h fh) : DE K T (tSl (rSlA K) ta l h) (fSl asT .tuple f fl fh) := by
  intro dm A0 H0 A σ H env k Q S s k' hf hQ
  obtain ⟨x, k1, lo, k2, hi, ds, e1, e2, e3, e4, rfl⟩ := fSl_some hf
  refine h1 dm A0 H0 A σ H env k _ S _ _ e1 fun v H1 S1 l1 i1 => ?_
  refine h2 dm A0 H0 A σ H1 env k1 _ S1 _ _ e2 fun H2 S2 l2 => ?_
  refine h3 dm A0 H0 A σ H2 env k2 _ S2 _ _ e3 fun H3 S3 l3 => ?_
  obtain ⟨p, vs, rfl, g1, g2, g3⟩ := is_tup (i1.lt S1.wd (l2.trans l3)) e4
  refine ⟨p, vs, rfl, g1, fun e => hQ _ H3 S3 ((l1.trans l2).trans l3) ?_, fun e q hq => hQ _ _ (S3.new hq) (((l1.trans l2).trans l3).trans (Lt.new hq)) (mk_tup S3.wd hq (isl_cut g3))⟩
  have e' : cutD ds lo hi = ds := by
    rw [g3.len] at e
    unfold cutD
    rw [e.1, e.2]
    simp
  rw [e']
  exact Is.tup g2 g3
theorem de_slL {l h : TO} {fl fh : Fo} (h1 : DE K T ta f) (h2 : DO K T l fl) (h3 : DO K T h fh) : DE K T (tSl (rSlL K) ta l h) (fSl asL .list f fl fh) := by
  intro dm A0 H0 A σ H env k Q S s k' hf hQ
  obtain ⟨x, k1, lo, k2, hi, ds, e1, e2, e3, e4, rfl⟩ := fSl_some hf
  refine h1 dm A0 H0 A σ H env k _ S _ _ e1 fun v H1 S1 l1 i1 => ?_
  refine h2 dm A0 H0 A σ H1 env k1 _ S1 _ _ e2 fun H2 S2 l2 => ?_
  refine h3 dm A0 H0 A σ H2 env k2 _ S2 _ _ e3 fun H3 S3 l3 => ?_
  obtain ⟨p, vs, rfl, g1, g3⟩ := is_lst (i1.lt S1.wd (l2.trans l3)) e4
  exact ⟨p, vs, rfl, .inl (.inl g1), fun q hq => hQ _ _ (S3.new hq) (((l1.trans l2).trans l3).trans (Lt.new hq)) (mk_lst S3.wd hq (isl_cut g3))⟩
def fRevL (f : Fe) : Fe := f1 (fun s => (asL s).map fun ds => .dat (.list ds.reverse)) f
theorem de_revL (h1 : DE K T ta f) : DE K T (tRevL K ta) (fRevL f) := by
  intro dm A0 H0 A σ H env k Q S s k' hf hQ
  obtain ⟨a, e1, e2⟩ := f1_some hf
  cases e3 : asL a with
  | none => rw [e3] at e2; cases e2
  | some ds =>
    rw [e3] at e2
    cases e2
    refine h1 dm A0 H0 A σ H env k _ S _ _ e1 fun x H1 S1 l1 i1 => ?_
    obtain ⟨p, vs, rfl, g1, g3⟩ := is_lst i1 e3
    exact ⟨p, vs, rfl, .inl (.inl g1), fun q hq => hQ _ _ (S1.new hq) (l1.trans (Lt.new hq)) (mk_lst S1.wd hq g3.rev)⟩
/-! ### t + u, xs + ys, xs * n -/
def gCatT : Sl → Sl → Option Sl := fun a b => match asT a, asT b with
  | some x, some y => if x.length + y.length ≤ 1000000 then some (.dat (.tuple (x ++ y))) else none
  | _, _ => none
def gCatL : Sl → Sl → Option Sl := fun a b => match asL a, asL b with
  | some x, some y => if x.length + y.length ≤ 1000000 then some (.dat (.list (x ++ y))) else none
  | _, _ => none
theorem gCat_some {as : Sl → Option (List D)} {c : List D → D} {a b s : Sl} (h : (match as a, as b with
  | some x, some y => if x.length + y.length ≤ 1000000 then some (Sl.dat (c (x ++ y))) else none
  | _, _ => none) = some s) : ∃ x y, as a = some x ∧ as b = some y ∧ x.length + y.length ≤ 1000000 ∧ s = .dat (c (x ++ y)) := by
  split at h
  · rename_i x y e1 e2
    by_cases hc : x.length + y.length ≤ 1000000
    · rw [if_pos hc] at h; cases h; exact ⟨x, y, e1, e2, hc, rfl⟩
    · rw [if_neg hc] at h; cases h
  · cases h
theorem de_catT (h1 : DE K T ta f) (h2 : DE K T tb g) : DE K T (tOp (rCatA K) ta tb) (f2 gCatT f g) := de_bin h1 h2 (by
  intro dm A0 H0 A σ H env k x y a b s Q S i1 i2 e hQ
  obtain ⟨xs, ys, e1, e2, e3, rfl⟩ := gCat_some (as := asT) (c := PyData.tuple) e
  obtain ⟨p, vs, rfl, g1, g2, g3⟩ := is_tup i1 e1
  obtain ⟨q, ws, rfl, j1, j2, j3⟩ := is_tup i2 e2
  refine ⟨p, q, vs, ws, rfl, rfl, g1, j1, line_le (by rw [g3.len, j3.len]; exact e3), fun e => hQ _ H S (Lt.refl _ _) ?_, fun _ e => hQ _ H S (Lt.refl _ _) ?_, fun _ _ o ho => hQ _ _ (S.new ho) (Lt.new ho) (mk_tup S.wd ho (g3.app j3))⟩
  · subst e
    cases g3
    exact Is.tup j2 j3
  · subst e
    cases j3
    rw [List.append_nil]
    exact Is.tup g2 g3)
theorem de_catL (h1 : DE K T ta f) (h2 : DE K T tb g) : DE K T (tOp rCat ta tb) (f2 gCatL f g) := de_bin h1 h2 (by
  intro dm A0 H0 A σ H env k x y a b s Q S i1 i2 e hQ
  obtain ⟨xs, ys, e1, e2, e3, rfl⟩ := gCat_some (as := asL) (c := PyData.list) e
  obtain ⟨p, vs, rfl, g1, g3⟩ := is_lst i1 e1
  obtain ⟨q, ws, rfl, j1, j3⟩ := is_lst i2 e2
  exact ⟨p, q, vs, ws, rfl, rfl, g1, j1, line_le (by rw [g3.len, j3.len]; exact e3), fun o ho => hQ _ _ (S.new ho) (Lt.new ho) (mk_lst S.wd ho (g3.app j3))⟩)
/-! ### == of data -/
mutual
theorem dp_of {A : List Addr} {H : Hp} : ∀ {v : V} {d : D}, Is K (hide A H) v d → d.canLay0 = true → Dp K H v d
  | _, _, .non, _ => .non
  | _, _, .bl b, _ => .bl b
  | _, _, .int b, _ => .int b
  | _, _, .str b, _ => .str b
  | _, _, .lst h l, e => .lst (.inl (.inl (hide_some h).2)) (dpl_of l (by simpa only [PyData.canLay0] using e))
  | _, _, .tup h l, e => .tup (sqt_out h) (dpl_of l (by simpa only [PyData.canLay0] using e))
  | _, _, .dct _ _ _, e => by simp [PyData.canLay0] at e
theorem dpl_of {A : List Addr} {H : Hp} : ∀ {vs : List V} {ds : List D}, IsL K (hide A H) vs ds → PyData.canLayAll0 ds = true → DpAll K H vs ds
  | _, _, .nil, _ => .nil
  | _, _, .cons h l, e => by
    simp only [PyData.canLayAll0, Bool.and_eq_true] at e
    exact .cons (dp_of h e.1) (dpl_of l e.2)
end
def asD : Sl → Option D
  | .dat d => some d
  | .own ds => some (.list ds)
  | _ => none
theorem dp_asD {A0 : List Addr} {dm : Dm} {A : List Addr} {H : Hp} {v : V} {s : Sl} {d : D} (h : IsS K A0 dm A H v s) (e : asD s = some d) (c : SeqAt.shaped d = true) : Dp K H v d := by
  have c' := SeqAt.canLay_of_shaped c
  cases s with
  | dat d' => cases e; exact dp_of h c'
  | own es =>
    cases e
    obtain ⟨p, vs, rfl, _, _, h1, h2⟩ := h
    exact .lst (.inl (.inl h1)) (dpl_of h2 (by simpa only [PyData.canLay0] using c'))
  | un => cases e
  | deck => cases e
  | scr ns => cases e
def gEq (neg : Bool) : Sl → Sl → Option Sl := fun a b => match asD a, asD b with
  | some x, some y => if SeqAt.shaped x && SeqAt.shaped y then some (.dat (.bool (if neg then !PyData.eqv x y else PyData.eqv x y))) else none
  | _, _ => none
theorem gEq_some {neg : Bool} {a b s : Sl} (h : gEq neg a b = some s) : ∃ x y, asD a = some x ∧ asD b = some y ∧ SeqAt.shaped x = true ∧ SeqAt.shaped y = true ∧ s = .dat (.bool (if neg then !PyData.eqv x y else PyData.eqv x y)) := by
  unfold gEq at h
  split at h
  · rename_i x y e1 e2
    by_cases hc : (SeqAt.shaped x && SeqAt.shaped y) = true
    · rw [if_pos hc] at h; cases h
      obtain ⟨c1, c2⟩ := Bool.and_eq_true_iff.mp hc
      exact ⟨x, y, e1, e2, c1, c2, rfl⟩
    · rw [if_neg hc] at h; cases h
  · cases h
def fEq : Fe → Fe → Fe := f2 (gEq false)
def fNe : Fe → Fe → Fe := f2 (gEq true)
theorem de_eq (h1 : DE K T ta f) (h2 : DE K T tb g) : DE K T (tOp (rEqD K) ta tb) (fEq f g) := de_bin h1 h2 (by
  intro dm A0 H0 A σ H env k x y a b s Q S i1 i2 e hQ
  obtain ⟨d, d', e1, e2, c1, c2, rfl⟩ := gEq_some e
  exact ⟨d, d', dp_asD i1 e1 c1, dp_asD i2 e2 c2, c1, c2, hQ _ H S (Lt.refl _ _) (Is.bl _)⟩)
theorem de_ne (h1 : DE K T ta f) (h2 : DE K T tb g) : DE K T (tOp (rNeD K) ta tb) (fNe f g) := de_bin h1 h2 (by
  intro dm A0 H0 A σ H env k x y a b s Q S i1 i2 e hQ
  obtain ⟨d, d', e1, e2, c1, c2, rfl⟩ := gEq_some e
  exact ⟨d, d', dp_asD i1 e1 c1, dp_asD i2 e2 c2, c1, c2, hQ _ H S (Lt.refl _ _) (Is.bl _)⟩)
end
end DL
set_option maxHeartbeats 4000000
namespace DL
open PySem PySem.Spec PyProof.Rows L2
/-- from one state to a later one: what is not in A stands; A grows by new addresses alone -/
structure Tr (A : List Addr) (H : Hp) (A' : List Addr) (H' : Hp) : Prop where
  keep : ∀ b o, H b = some o → isT o = false → b ∉ A → H' b = some o
  dom : ∀ b, H b ≠ none → H' b ≠ none
  new : ∀ b ∈ A', b ∈ A ∨ H b = none
theorem Tr.refl (A : List Addr) (H : Hp) : Tr A H A H := ⟨fun _ _ h _ _ => h, fun _ h => h, fun _ h => .inl h⟩
theorem Tr.trans {A A1 A2 : List Addr} {H H1 H2 : Hp} (a : Tr A H A1 H1) (b : Tr A1 H1 A2 H2) : Tr A H A2 H2 := by
  refine ⟨fun c o h z n => b.keep c o (a.keep c o h z n) z fun m => ?_, fun c h => b.dom c (a.dom c h), fun c h => ?_⟩
  · rcases a.new c m with q | q
    · exact n q
    · rw [h] at q; cases q
  · rcases b.new c h with q | q
    · exact a.new c q
    · refine .inr ?_
      cases e : H c with
      | none => rfl
      | some o => exact absurd q (a.dom c (by rw [e]; simp))
theorem Tr.kp {A A' : List Addr} {H H' : Hp} (t : Tr A H A' H') : Kp (hide A H) (hide A' H') := fun b o h z => by
  obtain ⟨hb, h⟩ := hide_some h
  have h2 : b ∉ A' := fun m => by
    rcases t.new b m with q | q
    · exact hb q
    · rw [h] at q; cases q
  rw [hide_out h2]
  exact t.keep b o h z hb
section
variable {K : Fg} {T : List Addr}
theorem tr_of_lt {dm : Dm} {A : List Addr} {H H' : Hp} {k : Dk} (w : Wd T dm A H k) (l : Lt dm H H') : Tr A H A H' :=
  ⟨fun b o h z n => l.keep b o h z fun a c e => ⟨fun q => n (q ▸ (w.dk a c e).1), fun q => n (q ▸ (w.dk a c e).2.1)⟩, l.dom, fun _ h => .inl h⟩
inductive Out where
  | nx (env : List Sl) (k : Dk)
  | rt (d : D) (k : Dk)
  | bk (env : List Sl) (k : Dk)
  | ct (env : List Sl) (k : Dk)
  | bad
abbrev Fs := List Sl → Dk → Out
/-- what is wanted at an outcome -/
def OkOut (K : Fg) (T : List Addr) (dm : Dm) (A0 : List Addr) (H0 : Hp) (A : List Addr) (H : Hp) (E : Ends) : Out → Prop
  | .nx env k => ∀ A' σ H', Sta K T dm A0 H0 A' σ H' env k → Tr A H A' H' → E.nx σ H'
  | .rt d k => ∀ v H', Wd T dm A0 H' k → Lt dm H0 H' → Is K (hide A0 H') v d → E.rt v H'
  | .bk env k => ∀ A' σ H', Sta K T dm A0 H0 A' σ H' env k → Tr A H A' H' → E.bk σ H'
  | .ct env k => ∀ A' σ H', Sta K T dm A0 H0 A' σ H' env k → Tr A H A' H' → E.ct σ H'
  | .bad => False
def DS (K : Fg) (T : List Addr) (t : TS) (g : Fs) : Prop := ∀ dm A0 H0 A σ H env k (E : Ends), Sta K T dm A0 H0 A σ H env k → OkOut K T dm A0 H0 A H E (g env k) → t E σ H
def sNext : Fs := fun env k => .nx env k
def sSeq (g h : Fs) : Fs := fun env k => match g env k with
  | .nx env' k' => h env' k'
  | o => o
theorem OkOut.later {dm : Dm} {A0 : List Addr} {H0 : Hp} {A A1 : List Addr} {H H1 : Hp} {E : Ends} (t : Tr A H A1 H1) : ∀ {o : Out}, OkOut K T dm A0 H0 A H E o → OkOut K T dm A0 H0 A1 H1 E o
  | .nx _ _, h => fun A' σ H' S r => h A' σ H' S (t.trans r)
  | .rt _ _, h => h
  | .bk _ _, h => fun A' σ H' S r => h A' σ H' S (t.trans r)
  | .ct _ _, h => fun A' σ H' S r => h A' σ H' S (t.trans r)
  | .bad, h => h
variable {t u : TS} {g h : Fs} {ta tb : TE} {f f' : Fe}
theorem ds_next : DS K T tNext sNext := fun dm A0 H0 A σ H env k E S o => o A σ H S (Tr.refl _ _)
theorem ds_seq (h1 : DS K T t g) (h2 : DS K T u h) : DS K T (tSeq t u) (sSeq g h) := by
  intro dm A0 H0 A σ H env k E S o
  refine h1 dm A0 H0 A σ H env k _ S ?_
  unfold sSeq at o
  cases e : g env k with
  | nx env' k' =>
    rw [e] at o
    exact fun A' σ' H' S' r => h2 dm A0 H0 A' σ' H' env' k' E S' (OkOut.later r o)
  | rt d k' => rw [e] at o; exact o
  | bk env' k' => rw [e] at o; exact o
  | ct env' k' => rw [e] at o; exact o
  | bad => rw [e] at o; exact o
def sBrk : Fs := fun env k => .bk env k
def sCnt : Fs := fun env k => .ct env k
theorem ds_brk : DS K T tBreak sBrk := fun dm A0 H0 A σ H env k E S o => o A σ H S (Tr.refl _ _)
theorem ds_cnt : DS K T tCont sCnt := fun dm A0 H0 A σ H env k E S o => o A σ H S (Tr.refl _ _)
def sIf (c : Ft) (g h : Fs) : Fs := fun env k => match c env k with
  | some (true, k') => g env k'
  | some (false, k') => h env k'
  | none => .bad
theorem ds_if {c : TT} {w : Ft} (h0 : DT K T c w) (h1 : DS K T t g) (h2 : DS K T u h) : DS K T (tIfS c t u) (sIf w g h) := by
  intro dm A0 H0 A σ H env k E S o
  unfold sIf at o
  cases e : w env k with
  | none => rw [e] at o; exact o.elim
  | some p =>
    obtain ⟨b, k'⟩ := p
    rw [e] at o
    refine h0 dm A0 H0 A σ H env k _ S b k' e fun H' S' l => ?_
    have r := tr_of_lt S.wd l
    cases b with
    | true => exact iteT (h1 dm A0 H0 A σ H' env k' E S' (OkOut.later r o))
    | false => exact iteF (h2 dm A0 H0 A σ H' env k' E S' (OkOut.later r o))
def sRet (f : Fe) : Fs := fun env k => match f env k with
  | some (.dat d, k') => .rt d k'
  | some (.own ds, k') => .rt (.list ds) k'
  | _ => .bad
theorem hide_mono {A0 A : List Addr} {H : Hp} (h : ∀ b ∈ A0, b ∈ A) : Kp (hide A H) (hide A0 H) := fun b o e _ => by
  obtain ⟨h1, h2⟩ := hide_some e
  rw [hide_out fun m => h1 (h b m)]
  exact h2
theorem Sta.w0 {dm : Dm} {A0 : List Addr} {H0 : Hp} {A : List Addr} {σ : List (Option V)} {H : Hp} {env : List Sl} {k : Dk} (S : Sta K T dm A0 H0 A σ H env k) : Wd T dm A0 H k :=
  ⟨fun b h => S.lt.dom b (S.dom0 b h), S.wd.tab, fun a c e => ⟨(S.dm0 a c e).1, (S.dm0 a c e).2, (S.wd.dk a c e).2.2⟩⟩

theorem ds_ret (h1 : DE K T ta f) : DS K T (tRet ta) (sRet f) := by
  intro dm A0 H0 A σ H env k E S o
  unfold sRet at o
  cases e : f env k with
  | none => rw [e] at o; exact o.elim
  | some p =>
    obtain ⟨s, k'⟩ := p
    rw [e] at o
    refine h1 dm A0 H0 A σ H env k _ S s k' e fun v H' S' l i => ?_
    cases s with
    | un => exact i.elim
    | deck => exact o.elim
    | scr ns => exact o.elim
    | dat d => exact o v H' S'.w0 S'.lt (Is.kp (hide_mono S'.sub) i)
    | own ds =>
      obtain ⟨p, vs, rfl, n0, _, g1, g2⟩ := i
      exact o _ H' S'.w0 S'.lt (.lst (by rw [hide_out n0]; exact g1) (IsL.kp (hide_mono S'.sub) g2))
def sRetN : Fs := fun _ k => .rt .none k
theorem ds_retN : DS K T tRetN sRetN := fun dm A0 H0 A σ H env k E S o => o _ H S.w0 S.lt .non
/-! ### stores -/
/-- a value that may be stored as it is -/
def stor : Sl → Option Sl
  | .dat d => some (.dat d)
  | .deck => some .deck
  | _ => none
theorem Sta.set {dm : Dm} {A0 : List Addr} {H0 : Hp} {A : List Addr} {σ : List (Option V)} {H : Hp} {env : List Sl} {k : Dk} {v : V} {s s' : Sl} (S : Sta K T dm A0 H0 A σ H env k) (i : Nat) (h : IsS K A0 dm A H v s) (e : stor s = some s') :
    Sta K T dm A0 H0 A (σ.set i (some v)) H (env.set i s') k := by
  refine ⟨S.wd, S.lt, S.sub, S.dom0, S.dm0, by rw [List.length_set, List.length_set]; exact S.len, fun j => ?_, fun a b p ds es h1 h2 h3 h4 => ?_⟩
  · by_cases hj : j = i
    · subst hj
      by_cases hl : j < env.length
      · rw [List.getElem?_set_self (by rw [S.len]; exact hl), List.getElem?_set_self hl]
        cases s with
        | dat d => cases e; exact ⟨v, rfl, h⟩
        | deck => cases e; obtain ⟨a, c, h1, rfl⟩ := h; exact ⟨a, c, h1, rfl⟩
        | _ => cases e
      · rw [List.getElem?_eq_none (l := env.set j s') (by rw [List.length_set]; omega)]
        exact trivial
    · rw [List.getElem?_set_ne (Ne.symm hj), List.getElem?_set_ne (Ne.symm hj)]
      exact S.slot j
  · have no : ∀ c ds, (env.set i s')[c]? = some (.own ds) → c ≠ i := fun c ds hc z => by
      subst z
      by_cases hl : c < env.length
      · rw [List.getElem?_set_self hl] at hc
        cases hc
        cases s <;> cases e
      · rw [List.getElem?_eq_none (by rw [List.length_set]; omega)] at hc
        cases hc
    have ha := no a ds h1
    have hb := no b es h2
    rw [List.getElem?_set_ne (Ne.symm ha)] at h1 h3
    rw [List.getElem?_set_ne (Ne.symm hb)] at h2 h4
    exact S.uniq a b p ds es h1 h2 h3 h4
/-- the slots at l alone may have changed -/
def Chg (l : List Nat) (σ σ' : List (Option V)) : Prop := σ'.length = σ.length ∧ ∀ j : Nat, j ∉ l → σ'[j]? = σ[j]?
theorem Chg.trans {l m : List Nat} {σ σ' σ'' : List (Option V)} (a : Chg l σ σ') (b : Chg m σ' σ'') : Chg (l ++ m) σ σ'' :=
  ⟨b.1.trans a.1, fun j h => (b.2 j fun z => h (List.mem_append_right _ z)).trans (a.2 j fun z => h (List.mem_append_left _ z))⟩
/-- a target: what is handed on -/
abbrev Fg' := Sl → List Sl → Option (List Sl)
def DG (K : Fg) (T : List Addr) (g : TG) (q : Fg') (l : List Nat) : Prop := ∀ dm A0 H0 A σ H env k v s (Q : List (Option V) → Hp → Prop), Sta K T dm A0 H0 A σ H env k → IsS K A0 dm A H v s → ∀ env', q s env = some env' →
  (∀ σ', Sta K T dm A0 H0 A σ' H env' k → Chg l σ σ' → Q σ' H) → g v σ H Q
def DGs (K : Fg) (T : List Addr) (g : TGs) (q : List D → List Sl → Option (List Sl)) (l : List Nat) : Prop := ∀ dm A0 H0 A σ H env k vs ds (Q : List (Option V) → Hp → Prop), Sta K T dm A0 H0 A σ H env k → IsL K (hide A H) vs ds → ∀ env', q ds env = some env' →
  (∀ σ', Sta K T dm A0 H0 A σ' H env' k → Chg l σ σ' → Q σ' H) → g vs σ H Q
def qName (i : Nat) : Fg' := fun s env => (stor s).map fun s' => env.set i s'
theorem dg_name (i : Nat) : DG K T (gName i) (qName i) [i] := by
  intro dm A0 H0 A σ H env k v s Q S h env' e hQ
  unfold qName at e
  cases e1 : stor s with
  | none => rw [e1] at e; cases e
  | some s' => rw [e1] at e; cases e; exact hQ _ (S.set i h e1) ⟨by rw [List.length_set], fun j hj => List.getElem?_set_ne fun z => hj (by rw [z]; exact List.mem_cons_self)⟩
def qNil : List D → List Sl → Option (List Sl) := fun ds env => match ds with
  | [] => some env
  | _ => none
def qCons (q : Fg') (r : List D → List Sl → Option (List Sl)) : List D → List Sl → Option (List Sl) := fun ds env => match ds with
  | d :: ds => (q (.dat d) env).bind fun env' => r ds env'
  | [] => none
theorem dgs_nil : DGs K T gNil qNil [] := by
  intro dm A0 H0 A σ H env k vs ds Q S h env' e hQ
  cases h with
  | nil => cases e; exact ⟨rfl, hQ _ S ⟨rfl, fun _ _ => rfl⟩⟩
  | cons _ _ => cases e
theorem dgs_cons {g : TG} {gs : TGs} {q : Fg'} {r : List D → List Sl → Option (List Sl)} {l m : List Nat} (h1 : DG K T g q l) (h2 : DGs K T gs r m) : DGs K T (gCons g gs) (qCons q r) (l ++ m) := by
  intro dm A0 H0 A σ H env k vs ds Q S h env' e hQ
  cases h with
  | nil => cases e
  | cons hd tl =>
    rename_i v vs d ds
    have e : (q (.dat d) env).bind (fun env' => r ds env') = some env' := e
    cases e1 : q (.dat d) env with
    | none => rw [e1] at e; cases e
    | some env1 =>
      rw [e1] at e
      exact ⟨v, vs, rfl, h1 dm A0 H0 A σ H env k v (.dat d) _ S hd env1 e1 fun σ1 S1 c1 => h2 dm A0 H0 A σ1 H env1 k vs ds Q S1 tl env' e fun σ2 S2 c2 => hQ σ2 S2 (c1.trans c2)⟩
def qTup (n : Nat) (r : List D → List Sl → Option (List Sl)) : Fg' := fun s env => (asT s).bind fun ds => if ds.length = n then r ds env else none
theorem dg_tup {n : Nat} {gs : TGs} {r : List D → List Sl → Option (List Sl)} {l : List Nat} (h1 : DGs K T gs r l) : DG K T (gTup K n gs) (qTup n r) l := by
  intro dm A0 H0 A σ H env k v s Q S h env' e hQ
  unfold qTup at e
  cases e1 : asT s with
  | none => rw [e1] at e; cases e
  | some ds =>
    rw [e1] at e
    simp only [Option.bind_some] at e
    by_cases hn : ds.length = n
    · rw [if_pos hn] at e
      obtain ⟨p, vs, rfl, g1, _, g2⟩ := is_tup h e1
      exact ⟨p, vs, rfl, g1, by rw [g2.len]; exact hn, h1 dm A0 H0 A σ H env k vs ds Q S g2 env' e hQ⟩
    · rw [if_neg hn] at e; cases e
def sAsg (f : Fe) (q : Fg') : Fs := fun env k => match f env k with
  | some (s, k') => (match q s env with
    | some env' => .nx env' k'
    | none => .bad)
  | none => .bad
theorem ds_asg {g : TG} {q : Fg'} {l : List Nat} (h1 : DE K T ta f) (h2 : DG K T g q l) : DS K T (tAsg ta g) (sAsg f q) := by
  intro dm A0 H0 A σ H env k E S o
  unfold sAsg at o
  cases e : f env k with
  | none => rw [e] at o; exact o.elim
  | some p =>
    obtain ⟨s, k'⟩ := p
    rw [e] at o
    simp only at o
    cases e2 : q s env with
    | none => rw [e2] at o; exact o.elim
    | some env' =>
      rw [e2] at o
      refine h1 dm A0 H0 A σ H env k _ S s k' e fun v H' S' l' i => ?_
      exact h2 dm A0 H0 A σ H' env k' v s _ S' i env' e2 fun σ' S2 _ => o A σ' H' S2 (tr_of_lt S.wd l')
/-- a, b = e, e' -/
def sPar (i j : Nat) (h : Fl) : Fs := fun env k => match h env k with
  | some ([a, b], k') => (match stor a, stor b with
    | some a', some b' => .nx ((env.set i a').set j b') k'
    | _, _ => .bad)
  | _ => .bad
theorem ds_par {i j : Nat} {ta : TA} {h : Fl} (h1 : DA K T ta h) : DS K T (tPar i j ta) (sPar i j h) := by
  intro dm A0 H0 A σ H env k E S o
  unfold sPar at o
  split at o
  · rename_i a b k' e
    split at o
    · rename_i a' b' ea eb
      refine h1 dm A0 H0 A σ H env k _ S _ k' e fun vs H' S' l is => ?_
      cases is with
      | cons i1 is =>
        cases is with
        | cons i2 is =>
          cases is
          exact ⟨_, _, rfl, o A _ H' ((S'.set i i1 ea).set j i2 eb) (tr_of_lt S.wd l)⟩
    · exact o.elim
  · exact o.elim
/-- x op= e of ints -/
def sAug (c : Int → Int → Bool) (op : Int → Int → Int) (i : Nat) (f : Fe) : Fs := fun env k => match env[i]?, f env k with
  | some (.dat (.int a)), some (.dat (.int b), k') => if c a b = true then .nx (env.set i (.dat (.int (op a b)))) k' else .bad
  | _, _ => .bad
theorem ds_aug {i : Nat} {c : Int → Int → Bool} {op : Int → Int → Int} {r : TIp} (h1 : DE K T ta f) (hr : ∀ a b H (Q : VK), c a b = true → Q (.int (op a b)) H → r (.int a) (.int b) H Q) : DS K T (tAug i ta r) (sAug c op i f) := by
  intro dm A0 H0 A σ H env k E S o
  unfold sAug at o
  split at o
  · rename_i a b k' e1 e2
    by_cases hc : c a b = true
    · rw [if_pos hc] at o
      have q := S.slot i
      rw [e1] at q
      obtain ⟨v, ev, iv⟩ := q
      cases iv
      refine ⟨_, ev, ?_⟩
      refine h1 dm A0 H0 A σ H env k _ S _ k' e2 fun y H' S' l iy => ?_
      rw [is_int iy]
      exact hr a b H' _ hc (o A _ H' (S'.set (s := .dat (.int (op a b))) i (Is.int _) rfl) (tr_of_lt S.wd l))
    · rw [if_neg hc] at o
      exact o.elim
  · exact o.elim
/-! ### lists of the def's own -/
theorem hide_cons {A : List Addr} {H : Hp} {p : Addr} (hp : H p = none) (o : HO) : hide (p :: A) (upd H p o) = hide A H := by
  funext b
  by_cases hb : b = p
  · subst hb
    rw [hide_in List.mem_cons_self]
    by_cases ha : b ∈ A
    · rw [hide_in ha]
    · rw [hide_out ha, hp]
  · by_cases ha : b ∈ A
    · rw [hide_in (List.mem_cons_of_mem _ ha), hide_in ha]
    · rw [hide_out ha, hide_out (fun m => (List.mem_cons.mp m).elim hb ha), upd_ne hb]
theorem hide_upd {A : List Addr} {H : Hp} {p : Addr} (hp : p ∈ A) (o : HO) : hide A (upd H p o) = hide A H := by
  funext b
  by_cases ha : b ∈ A
  · rw [hide_in ha, hide_in ha]
  · rw [hide_out ha, hide_out ha, upd_ne (fun e : b = p => ha (by rw [e]; exact hp))]
/-- a new list in a slot -/
theorem Sta.own {dm : Dm} {A0 : List Addr} {H0 : Hp} {A : List Addr} {σ : List (Option V)} {H : Hp} {env : List Sl} {k : Dk} {vs : List V} {ds : List D} {p : Addr} (S : Sta K T dm A0 H0 A σ H env k) (i : Nat) (hp : H p = none) (h : IsL K (hide A H) vs ds) :
    Sta K T dm A0 H0 (p :: A) (σ.set i (some (.ref p))) (upd H p (.lst vs)) (env.set i (.own ds)) k ∧ Tr A H (p :: A) (upd H p (.lst vs)) := by
  have S1 := S.new (o := .lst vs) hp
  have pA : p ∉ A := notA S.wd hp
  have p0 : p ∉ A0 := fun m => pA (S.sub p m)
  have H0p : H0 p = none := by
    cases e : H0 p with
    | none => rfl
    | some o => exact absurd hp (S.lt.dom p (by rw [e]; simp))
  have hh := hide_cons (A := A) hp (.lst vs)
  have noP : ∀ j : Nat, ∀ ds, env[j]? = some (.own ds) → σ[j]? ≠ some (some (.ref p)) := fun j ds e z => by
    have q := S.slot j
    rw [e] at q
    obtain ⟨p', vs', h1, h2, _⟩ := q
    rw [z] at h1
    cases h1
    exact pA h2
  refine ⟨⟨⟨fun b hb => ?_, S1.wd.tab, fun a c e => ?_⟩, S1.lt, fun b hb => List.mem_cons_of_mem _ (S.sub b hb), S.dom0, S.dm0, by rw [List.length_set, List.length_set]; exact S.len, fun j => ?_, fun a b q es fs h1 h2 h3 h4 => ?_⟩, ⟨fun b o e z n => ?_, fun b e => ?_, fun b hb => ?_⟩⟩
  · rcases List.mem_cons.mp hb with e | hb
    · rw [e, upd_same]; simp
    · exact S1.wd.dom b hb
  · obtain ⟨q1, q2, q3⟩ := S1.wd.dk a c e
    exact ⟨List.mem_cons_of_mem _ q1, List.mem_cons_of_mem _ q2, q3⟩
  · by_cases hj : j = i
    · subst hj
      by_cases hl : j < env.length
      · rw [List.getElem?_set_self (by rw [S.len]; exact hl), List.getElem?_set_self hl]
        exact ⟨p, vs, rfl, List.mem_cons_self, p0, H0p, upd_same, by rw [hh]; exact h⟩
      · rw [List.getElem?_eq_none (l := env.set j _) (by rw [List.length_set]; omega)]
        exact trivial
    · rw [List.getElem?_set_ne (Ne.symm hj), List.getElem?_set_ne (Ne.symm hj)]
      have q := S.slot j
      cases e : env[j]? with
      | none => exact trivial
      | some z =>
        rw [e] at q
        cases z with
        | un => exact trivial
        | dat d => obtain ⟨v, h1, h2⟩ := q; exact ⟨v, h1, by rw [hh]; exact h2⟩
        | deck => exact q
        | own es =>
          obtain ⟨p', ws, h1, h2, h3, h4, h5, h6⟩ := q
          exact ⟨p', ws, h1, List.mem_cons_of_mem _ h2, h3, h4, by rw [upd_ne (ne_of_none h5 hp)]; exact h5, by rw [hh]; exact h6⟩
        | scr ns => obtain ⟨a, h1, h2⟩ := q; exact ⟨a, h1, h2.new fun ob u z => by rw [hp] at z; cases z⟩
  · by_cases ha : a = i
    · by_cases hb : b = i
      · rw [ha, hb]
      · rw [List.getElem?_set_ne (Ne.symm hb)] at h2 h4
        have e : q = p := by
          rw [ha] at h1 h3
          by_cases hl : i < σ.length
          · rw [List.getElem?_set_self hl] at h3; cases h3; rfl
          · rw [List.getElem?_eq_none (by rw [List.length_set]; omega)] at h3; cases h3
        exact absurd (e ▸ h4) (noP b fs h2)
    · rw [List.getElem?_set_ne (Ne.symm ha)] at h1 h3
      by_cases hb : b = i
      · have e : q = p := by
          rw [hb] at h2 h4
          by_cases hl : i < σ.length
          · rw [List.getElem?_set_self hl] at h4; cases h4; rfl
          · rw [List.getElem?_eq_none (by rw [List.length_set]; omega)] at h4; cases h4
        exact absurd (e ▸ h3) (noP a es h1)
      · rw [List.getElem?_set_ne (Ne.symm hb)] at h2 h4
        exact S.uniq a b q es fs h1 h2 h3 h4
  · rw [upd_ne (ne_of_none e hp)]; exact e
  · exact (Lt.new (dm := dm) hp).dom b e
  · rcases List.mem_cons.mp hb with e | hb
    · exact .inr (e ▸ hp)
    · exact .inl hb
def sOwn (i : Nat) (h : Fl) : Fs := fun env k => match h env k with
  | some (ss, k') => (match dats ss with
    | some ds => if ds.length ≤ 1000000 then .nx (env.set i (.own ds)) k' else .bad
    | none => .bad)
  | none => .bad
theorem ds_own {i : Nat} {ta : TA} {h : Fl} (h1 : DA K T ta h) : DS K T (tAsg (tLst ta) (gName i)) (sOwn i h) := by
  intro dm A0 H0 A σ H env k E S o
  unfold sOwn at o
  cases e : h env k with
  | none => rw [e] at o; exact o.elim
  | some p =>
    obtain ⟨ss, k'⟩ := p
    rw [e] at o
    simp only at o
    cases e2 : dats ss with
    | none => rw [e2] at o; exact o.elim
    | some ds =>
      rw [e2] at o
      simp only at o
      by_cases hc : ds.length ≤ 1000000
      · rw [if_pos hc] at o
        refine h1 dm A0 H0 A σ H env k _ S ss k' e fun vs H' S' l is => ?_
        have il := isl_dats is e2
        refine ⟨line_le (by rw [il.len]; exact hc), fun p hp => ?_⟩
        obtain ⟨S2, r2⟩ := S'.own i hp il
        exact o _ _ _ S2 ((tr_of_lt S.wd l).trans r2)
      · rw [if_neg hc] at o; exact o.elim
/-- x.append(e) -/
def sApp (i : Nat) (f : Fe) : Fs := fun env k => match env[i]?, f env k with
  | some (.own ds), some (.dat d, k') => if ds.length < 1000000 then .nx (env.set i (.own (ds ++ [d]))) k' else .bad
  | _, _ => .bad
theorem ds_app {i : Nat} (h1 : DE K T ta f) : DS K T (tDrop (tBM K "list" rAppend (tVar i) (tCons ta tNil))) (sApp i f) := by
  intro dm A0 H0 A σ H env k E S o
  unfold sApp at o
  split at o
  · rename_i ds d k' e1 e2
    by_cases hc : ds.length < 1000000
    · rw [if_pos hc] at o
      have q := S.slot i
      rw [e1] at q
      obtain ⟨p, vs, hs, hA, h0, H0p, hp, il⟩ := q
      refine ⟨.ref p, hs, .inl ⟨rfl, _, .inl (.inl hp)⟩, ?_⟩
      refine h1 dm A0 H0 A σ H env k _ S _ k' e2 fun y H' S' l iy => ?_
      have q' := S'.slot i
      rw [e1] at q'
      obtain ⟨p', ws, hs', hA', h0', H0p', hp', il'⟩ := q'
      rw [hs] at hs'
      cases hs'
      refine ⟨p, ws, y, rfl, rfl, hp', Nat.lt_of_lt_of_le (by rw [il'.len]; exact hc) (by decide), ?_⟩
      have hh : hide A (upd H' p (.lst (ws ++ [y]))) = hide A H' := hide_upd hA' _
      have iy' : Is K (hide A H') y d := iy
      have nd : ∀ a c, dm = some (a, c) → a ≠ p ∧ c ≠ p := fun a c e => ⟨fun z => h0 (z ▸ (S.dm0 a c e).1), fun z => h0 (z ▸ (S.dm0 a c e).2)⟩
      refine o A _ _ ?_ ((tr_of_lt S.wd l).trans ⟨fun b u e z n => by rw [upd_ne (fun q : b = p => n (by rw [q]; exact hA'))]; exact e, fun b e => ?_, fun _ h => .inl h⟩)
      · have hl : i < env.length := by
          cases hcmp : Nat.decLt i env.length with
          | isTrue h => exact h
          | isFalse h => rw [List.getElem?_eq_none (by omega)] at e1; cases e1
        refine ⟨⟨fun b hb => ?_, fun P hP => ?_, fun a c e => ?_⟩, ⟨fun b u e z n => ?_, fun b e => ?_⟩, S'.sub, S'.dom0, S'.dm0, by rw [List.length_set]; exact S'.len, fun j => ?_, fun a b q es fs g1 g2 g3 g4 => ?_⟩
        · by_cases e : b = p
          · rw [e, upd_same]; simp
          · rw [upd_ne e]; exact S'.wd.dom b hb
        · obtain ⟨ps, e, t⟩ := S'.wd.tab P hP
          exact ⟨ps, by rw [upd_ne fun z => by rw [z, hp'] at e; cases e]; exact e, t⟩
        · obtain ⟨q1, q2, q3, q4, q5⟩ := S'.wd.dk a c e
          obtain ⟨n1, n2⟩ := nd a c e
          exact ⟨q1, q2, q3, by rw [upd_ne n1]; exact q4, by rw [upd_ne n2]; exact q5⟩
        · rw [upd_ne fun q => by rw [q, H0p] at e; cases e]
          exact S'.lt.keep b u e z n
        · by_cases q : b = p
          · rw [q, upd_same]; simp
          · rw [upd_ne q]; exact S'.lt.dom b e
        · by_cases hj : j = i
          · subst hj
            rw [List.getElem?_set_self hl]
            exact ⟨p, ws ++ [y], hs, hA', h0, H0p, upd_same, by rw [hh]; exact il'.app (.cons iy' .nil)⟩
          · rw [List.getElem?_set_ne (Ne.symm hj)]
            have q := S'.slot j
            cases e : env[j]? with
            | none => exact trivial
            | some z =>
              rw [e] at q
              cases z with
              | un => exact trivial
              | dat d' => obtain ⟨v, h1, h2⟩ := q; exact ⟨v, h1, by rw [hh]; exact h2⟩
              | deck => exact q
              | own es =>
                obtain ⟨p2, us, h1, h2, h3, h4, h5, h6⟩ := q
                have ne : p2 ≠ p := fun z => hj (S'.uniq j i p es ds e e1 (z ▸ h1) hs)
                exact ⟨p2, us, h1, h2, h3, h4, by rw [upd_ne ne]; exact h5, by rw [hh]; exact h6⟩
              | scr ns => obtain ⟨a, h1, h2⟩ := q; exact ⟨a, h1, h2.new fun ob u z => by rw [hp'] at z; cases z⟩
        · have back : ∀ (c : Nat) (gs : List D), (env.set i (Sl.own (ds ++ [d])))[c]? = some (Sl.own gs) → ∃ gs', env[c]? = some (Sl.own gs') := fun c gs hcs => by
            by_cases hci : c = i
            · rw [hci]; exact ⟨_, e1⟩
            · rw [List.getElem?_set_ne (Ne.symm hci)] at hcs; exact ⟨_, hcs⟩
          obtain ⟨_, b1⟩ := back a es g1
          obtain ⟨_, b2⟩ := back b fs g2
          exact S'.uniq a b q _ _ b1 b2 g3 g4
      · by_cases q : b = p
        · rw [q, upd_same]; simp
        · rw [upd_ne q]; exact e
    · rw [if_neg hc] at o; exact o.elim
  · exact o.elim
end
end DL
set_option maxHeartbeats 4000000
namespace DL
open PySem PySem.Spec PyProof.Rows L2
/-- a walk J gives the items ds, whatever the body does -/
structure WkOk (K : Fg) (A : List Addr) (H : Hp) (J : It) (ds : List D) : Prop where
  go : ∀ A2 H2, Tr A H A2 H2 → ∀ (i : Nat) d, ds[i]? = some d → J.go i H2
  yl : ∀ A2 H2, Tr A H A2 H2 → (∀ b ∈ A2, H2 b ≠ none) → ∀ (i : Nat) d, ds[i]? = some d → ∀ x H3, J.yld i H2 x H3 → (H3 = H2 ∨ ∃ p o, H2 p = none ∧ H3 = upd H2 p o) ∧ Is K (hide A2 H3) x d
  st : ∀ A2 H2, Tr A H A2 H2 → ∀ i : Nat, ds.length ≤ i → J.stop i H2
abbrev Fw := List Sl → Dk → Option (List D × Dk)
def DI (K : Fg) (T : List Addr) (wi : TI) (fi : Fw) : Prop := ∀ dm A0 H0 A σ H env k (R : It → Hp → Prop), Sta K T dm A0 H0 A σ H env k → ∀ ds k', fi env k = some (ds, k') →
  (∀ J H', Sta K T dm A0 H0 A σ H' env k' → Lt dm H H' → WkOk K A H' J ds → R J H') → wi σ H R
section
variable {K : Fg} {T : List Addr} {ta : TE} {f : Fe}
theorem isl_ix {H : Hp} {vs : List V} {ds : List D} {i : Nat} {d : D} {x : V} (h : IsL K H vs ds) (e : ds[i]? = some d) (ex : vs[i]? = some x) : Is K H x d := by
  obtain ⟨v, h1, h2⟩ := h.get e
  rw [ex] at h1
  cases h1
  exact h2
def wOf (as : Sl → Option (List D)) (f : Fe) : Fw := fun env k => (f env k).bind fun p => (as p.1).map fun ds => (ds, p.2)
theorem wOf_some {as : Sl → Option (List D)} {env : List Sl} {k k' : Dk} {ds : List D} (h : wOf as f env k = some (ds, k')) : ∃ s, f env k = some (s, k') ∧ as s = some ds := by
  unfold wOf at h
  cases e1 : f env k with
  | none => rw [e1] at h; cases h
  | some p =>
    rw [e1] at h
    simp only [Option.bind_some] at h
    cases e2 : as p.1 with
    | none => rw [e2] at h; cases h
    | some z => rw [e2] at h; cases h; exact ⟨p.1, rfl, e2⟩
/-- a list that is data (not the def's own) -/
def asLd : Sl → Option (List D)
  | .dat (.list ds) => some ds
  | _ => none
theorem is_lstd {A0 : List Addr} {dm : Dm} {A : List Addr} {H : Hp} {v : V} {s : Sl} {ds : List D} (h : IsS K A0 dm A H v s) (e : asLd s = some ds) : ∃ p vs, v = .ref p ∧ p ∉ A ∧ H p = some (.lst vs) ∧ IsL K (hide A H) vs ds := by
  cases s with
  | un => exact h.elim
  | deck => cases e
  | scr ns => cases e
  | own es => cases e
  | dat d =>
    cases d with
    | list es =>
      cases e
      cases (show Is K (hide A H) v (.list ds) from h) with
      | lst h1 h2 => exact ⟨_, _, rfl, (hide_some h1).1, (hide_some h1).2, h2⟩
    | _ => cases e
theorem lst_fun {H : Hp} {p : Addr} {xs ys : List V} {o : Obj} (h : H p = some (.lst xs)) (e : Rd H p (.lst ys)) : ys = xs := by
  rcases e with e | ⟨_, e⟩
  · rw [h] at e; cases e; rfl
  · rw [h] at e; cases e
theorem wk_lst {A : List Addr} {H : Hp} {p : Addr} {vs : List V} {ds : List D} (pA : p ∉ A) (hp : H p = some (.lst vs)) (il : IsL K (hide A H) vs ds) : WkOk K A H (Itl K p) ds := by
  have at2 : ∀ A2 H2, Tr A H A2 H2 → H2 p = some (.lst vs) := fun A2 H2 r => r.keep p _ hp rfl pA
  refine ⟨fun A2 H2 r i d e => ?_, fun A2 H2 r _ i d e x H3 y => ?_, fun A2 H2 r i hi => ⟨vs, .inl (.inl (at2 A2 H2 r)), by rw [il.len]; exact hi⟩⟩
  · obtain ⟨v, h1, _⟩ := il.get e
    exact ⟨vs, v, .inl (.inl (at2 A2 H2 r)), h1⟩
  · obtain ⟨rfl, y⟩ := y
    exact ⟨.inl rfl, isl_ix (IsL.kp r.kp il) e (y vs (.inl (.inl (at2 A2 _ r))))⟩
theorem wk_tup {A : List Addr} {H : Hp} {p : Addr} {vs : List V} {ds : List D} (hp : SqT K (hide A H) p vs) (il : IsL K (hide A H) vs ds) : WkOk K A H (Itt K p) ds := by
  have at2 : ∀ A2 H2, Tr A H A2 H2 → SqT K H2 p vs := fun A2 H2 r => sqt_out (r.kp.sqt hp)
  refine ⟨fun A2 H2 r i d e => ?_, fun A2 H2 r _ i d e x H3 y => ?_, fun A2 H2 r i hi => ⟨vs, at2 A2 H2 r, by rw [il.len]; exact hi⟩⟩
  · obtain ⟨v, h1, _⟩ := il.get e
    exact ⟨vs, v, at2 A2 H2 r, h1⟩
  · obtain ⟨rfl, y⟩ := y
    exact ⟨.inl rfl, isl_ix (IsL.kp r.kp il) e (y vs (at2 A2 _ r))⟩
theorem di_lst (h1 : DE K T ta f) : DI K T (iList K ta) (wOf asLd f) := by
  intro dm A0 H0 A σ H env k R S ds k' hf hR
  obtain ⟨s, e1, e2⟩ := wOf_some hf
  refine h1 dm A0 H0 A σ H env k _ S s k' e1 fun v H' S' l i => ?_
  obtain ⟨p, vs, rfl, pA, hp, il⟩ := is_lstd i e2
  exact ⟨p, rfl, ⟨vs, .inl (.inl hp)⟩, hR _ H' S' l (wk_lst pA hp il)⟩
theorem di_tup (h1 : DE K T ta f) : DI K T (iTup K ta) (wOf asT f) := by
  intro dm A0 H0 A σ H env k R S ds k' hf hR
  obtain ⟨s, e1, e2⟩ := wOf_some hf
  refine h1 dm A0 H0 A σ H env k _ S s k' e1 fun v H' S' l i => ?_
  obtain ⟨p, vs, rfl, hp, hp', il⟩ := is_tup i e2
  exact ⟨p, rfl, ⟨vs, hp⟩, hR _ H' S' l (wk_tup hp' il)⟩
/-- the ints of a range -/
def rng (lo : Int) (n : Nat) : List D := (List.range n).map fun i => .int (lo + (i : Nat))
theorem rng_at {lo : Int} {n i : Nat} {d : D} (h : (rng lo n)[i]? = some d) : i < n ∧ d = .int (lo + (i : Nat)) := by
  unfold rng at h
  rw [List.getElem?_map] at h
  by_cases hi : i < n
  · rw [List.getElem?_range hi] at h
    cases h
    exact ⟨hi, rfl⟩
  · rw [List.getElem?_eq_none (by rw [List.length_range]; omega)] at h
    cases h
theorem rng_len (lo : Int) (n : Nat) : (rng lo n).length = n := by unfold rng; rw [List.length_map, List.length_range]
theorem wk_rng {A : List Addr} {H : Hp} {lo : Int} {n : Nat} : WkOk K A H (Itr lo n) (rng lo n) := by
  refine ⟨fun A2 H2 r i d e => (rng_at e).1, fun A2 H2 r _ i d e x H3 y => ?_, fun A2 H2 r i hi => by rw [rng_len] at hi; exact hi⟩
  obtain ⟨rfl, rfl⟩ := y
  rw [(rng_at e).2]
  exact ⟨.inl rfl, .int _⟩
def wRng1 (h : Fl) : Fw := fun env k => match h env k with
  | some ([.dat (.int j)], k') => if -(2 ^ 62) ≤ j ∧ j < 2 ^ 62 then some (rng 0 j.toNat, k') else none
  | _ => none
def wRng2 (h : Fl) : Fw := fun env k => match h env k with
  | some ([.dat (.int i), .dat (.int j)], k') => if -(2 ^ 62) ≤ i ∧ i < 2 ^ 62 ∧ -(2 ^ 62) ≤ j ∧ j < 2 ^ 62 then some (rng i (j - i).toNat, k') else none
  | _ => none
theorem di_rng1 {t : TA} {h : Fl} (h1 : DA K T t h) : DI K T (iRng1 t) (wRng1 h) := by
  intro dm A0 H0 A σ H env k R S ds k' hf hR
  unfold wRng1 at hf
  split at hf
  · rename_i j k1 e
    by_cases hc : -(2 ^ 62) ≤ j ∧ j < 2 ^ 62
    · rw [if_pos hc] at hf
      cases hf
      refine h1 dm A0 H0 A σ H env k _ S _ k' e fun vs H' S' l is => ?_
      cases is with
      | cons i1 is =>
        cases is
        rw [is_int i1]
        exact ⟨j, rfl, hc.1, hc.2, hR _ H' S' l wk_rng⟩
    · rw [if_neg hc] at hf; cases hf
  · cases hf
theorem di_rng2 {t : TA} {h : Fl} (h1 : DA K T t h) : DI K T (iRng2 t) (wRng2 h) := by
  intro dm A0 H0 A σ H env k R S ds k' hf hR
  unfold wRng2 at hf
  split at hf
  · rename_i i j k1 e
    by_cases hc : -(2 ^ 62) ≤ i ∧ i < 2 ^ 62 ∧ -(2 ^ 62) ≤ j ∧ j < 2 ^ 62
    · rw [if_pos hc] at hf
      cases hf
      refine h1 dm A0 H0 A σ H env k _ S _ k' e fun vs H' S' l is => ?_
      cases is with
      | cons i1 is =>
        cases is with
        | cons i2 is =>
          cases is
          rw [is_int i1, is_int i2]
          exact ⟨i, j, rfl, hc, hR _ H' S' l wk_rng⟩
    · rw [if_neg hc] at hf; cases hf
  · cases hf
/-! ### for -/
def loopF (q : Fg') (g : Fs) : List D → Fs
  | [], env, k => .nx env k
  | d :: ds, env, k => match q (.dat d) env with
    | none => .bad
    | some e1 => match g e1 k with
      | .nx e k' => loopF q g ds e k'
      | .ct e k' => loopF q g ds e k'
      | .bk e k' => .nx e k'
      | .rt d k' => .rt d k'
      | .bad => .bad
def sFor (fi : Fw) (q : Fg') (g : Fs) : Fs := fun env k => match fi env k with
  | some (ds, k') => loopF q g ds env k'
  | none => .bad
theorem Sta.yield {dm : Dm} {A0 : List Addr} {H0 : Hp} {A : List Addr} {σ : List (Option V)} {H H3 : Hp} {env : List Sl} {k : Dk} (S : Sta K T dm A0 H0 A σ H env k) (h : H3 = H ∨ ∃ p o, H p = none ∧ H3 = upd H p o) : Sta K T dm A0 H0 A σ H3 env k ∧ Lt dm H H3 := by
  rcases h with rfl | ⟨p, o, hp, rfl⟩
  · exact ⟨S, Lt.refl _ _⟩
  · exact ⟨S.new hp, Lt.new hp⟩
theorem ds_for {wi : TI} {fi : Fw} {g : TG} {q : Fg'} {tb : TS} {b : Fs} {l : List Nat} (h1 : DI K T wi fi) (h2 : DG K T g q l) (h3 : DS K T tb b) : DS K T (tFor wi g tb) (sFor fi q b) := by
  intro dm A0 H0 A σ H env k E S o
  unfold sFor at o
  cases e : fi env k with
  | none => rw [e] at o; exact o.elim
  | some p =>
    obtain ⟨ds, k'⟩ := p
    rw [e] at o
    simp only at o
    refine h1 dm A0 H0 A σ H env k _ S ds k' e fun J H1 S1 l1 w => ?_
    have o1 := OkOut.later (tr_of_lt S.wd l1) o
    refine ⟨fun i m σ2 H2 => ∃ A2 env2 k2, Sta K T dm A0 H0 A2 σ2 H2 env2 k2 ∧ Tr A H1 A2 H2 ∧ m = ds.length - i ∧ i ≤ ds.length ∧ OkOut K T dm A0 H0 A2 H2 E (loopF q b (ds.drop i) env2 k2),
      ⟨ds.length, A, env, k', S1, Tr.refl _ _, rfl, Nat.zero_le _, o1⟩, fun i m σ2 H2 ⟨A2, env2, k2, S2, r2, em, hi, o2⟩ => ?_⟩
    by_cases hlt : i < ds.length
    · refine .inr ⟨w.go A2 H2 r2 i ds[i] (List.getElem?_eq_getElem hlt), fun σ3 H3 => ∃ A3 env3 k3, Sta K T dm A0 H0 A3 σ3 H3 env3 k3 ∧ Tr A H1 A3 H3 ∧ OkOut K T dm A0 H0 A3 H3 E (loopF q b (ds.drop (i + 1)) env3 k3), fun σ3 H3 ⟨A3, env3, k3, S3, r3, o3⟩ => ⟨ds.length - (i + 1), by omega, A3, env3, k3, S3, r3, rfl, hlt, o3⟩, fun x H3 y => ?_⟩
      obtain ⟨hH3, ix⟩ := w.yl A2 H2 r2 S2.wd.dom i ds[i] (List.getElem?_eq_getElem hlt) x H3 y
      obtain ⟨S3, l3⟩ := S2.yield hH3
      rw [List.drop_eq_getElem_cons hlt] at o2
      unfold loopF at o2
      cases eq : q (.dat ds[i]) env2 with
      | none => rw [eq] at o2; exact o2.elim
      | some e1 =>
        rw [eq] at o2
        simp only at o2
        refine h2 dm A0 H0 A2 σ2 H3 env2 k2 x (.dat ds[i]) _ S3 ix e1 eq fun σ4 S4 _ => ?_
        refine h3 dm A0 H0 A2 σ4 H3 e1 k2 _ S4 ?_
        have r3 := r2.trans (tr_of_lt S2.wd l3)
        have o3 := OkOut.later (tr_of_lt S2.wd l3) o2
        cases eb : b e1 k2 with
        | nx e5 k5 => rw [eb] at o3; exact fun A5 σ5 H5 S5 r5 => ⟨A5, e5, k5, S5, r3.trans r5, OkOut.later r5 o3⟩
        | ct e5 k5 => rw [eb] at o3; exact fun A5 σ5 H5 S5 r5 => ⟨A5, e5, k5, S5, r3.trans r5, OkOut.later r5 o3⟩
        | bk e5 k5 => rw [eb] at o3; exact o3
        | rt d5 k5 => rw [eb] at o3; exact o3
        | bad => rw [eb] at o3; exact o3
    · have ei : i = ds.length := by omega
      subst ei
      refine .inl ⟨w.st A2 H2 r2 _ (Nat.le_refl _), ?_⟩
      rw [List.drop_length] at o2
      exact o2 A2 σ2 H2 S2 (Tr.refl _ _)
/-! ### while -/
def loopW (c : Ft) (g : Fs) : Nat → Fs
  | 0, _, _ => .bad
  | n + 1, env, k => match c env k with
    | none => .bad
    | some (false, k') => .nx env k'
    | some (true, k') => match g env k' with
      | .nx e k'' => loopW c g n e k''
      | .ct e k'' => loopW c g n e k''
      | .bk e k'' => .nx e k''
      | .rt d k'' => .rt d k''
      | .bad => .bad
def sWhile (fuel : List Sl → Dk → Nat) (c : Ft) (g : Fs) : Fs := fun env k => loopW c g (fuel env k) env k
theorem ds_while {fuel : List Sl → Dk → Nat} {tc : TT} {c : Ft} {tb : TS} {b : Fs} (h1 : DT K T tc c) (h3 : DS K T tb b) : DS K T (tWhile tc tb) (sWhile fuel c b) := by
  intro dm A0 H0 A σ H env k E S o
  unfold sWhile at o
  refine ⟨fun m σ2 H2 => ∃ A2 env2 k2, Sta K T dm A0 H0 A2 σ2 H2 env2 k2 ∧ OkOut K T dm A0 H0 A2 H2 E (loopW c b m env2 k2), ⟨_, A, env, k, S, o⟩, fun m σ2 H2 ⟨A2, env2, k2, S2, o2⟩ => ?_⟩
  cases m with
  | zero => exact o2.elim
  | succ m =>
    unfold loopW at o2
    cases ec : c env2 k2 with
    | none => rw [ec] at o2; exact o2.elim
    | some p =>
      obtain ⟨x, k3⟩ := p
      rw [ec] at o2
      refine h1 dm A0 H0 A2 σ2 H2 env2 k2 _ S2 x k3 ec fun H3 S3 l3 => ?_
      cases x with
      | false => exact iteF (o2 A2 σ2 H3 S3 (tr_of_lt S2.wd l3))
      | true =>
        have o3 := OkOut.later (tr_of_lt S2.wd l3) o2
        refine iteT ⟨fun σ' H' => ∃ A4 env4 k4, Sta K T dm A0 H0 A4 σ' H' env4 k4 ∧ OkOut K T dm A0 H0 A4 H' E (loopW c b m env4 k4), fun σ' H' n => ⟨m, Nat.lt_succ_self m, n⟩, ?_⟩
        refine h3 dm A0 H0 A2 σ2 H3 env2 k3 _ S3 ?_
        simp only at o3
        cases eb : b env2 k3 with
        | nx e5 k5 => rw [eb] at o3; exact fun A5 σ5 H5 S5 r5 => ⟨A5, e5, k5, S5, OkOut.later r5 o3⟩
        | ct e5 k5 => rw [eb] at o3; exact fun A5 σ5 H5 S5 r5 => ⟨A5, e5, k5, S5, OkOut.later r5 o3⟩
        | bk e5 k5 => rw [eb] at o3; exact o3
        | rt d5 k5 => rw [eb] at o3; exact o3
        | bad => rw [eb] at o3; exact o3
/-! ### [e for x in it if t] -/
def wipeE (env : List Sl) : List Nat → List Sl
  | [] => env
  | v :: vs => (wipeE env vs).set v .un
theorem wipe_chg (σ : List (Option V)) : ∀ vs : List Nat, Chg vs σ (wipe σ vs)
  | [] => ⟨rfl, fun _ _ => rfl⟩
  | v :: vs => by
    obtain ⟨h1, h2⟩ := wipe_chg σ vs
    refine ⟨by show ((wipe σ vs).set v none).length = _; rw [List.length_set]; exact h1, fun j hj => ?_⟩
    show ((wipe σ vs).set v none)[j]? = _
    rw [List.getElem?_set_ne fun z => hj (by rw [z]; exact List.mem_cons_self)]
    exact h2 j fun z => hj (List.mem_cons_of_mem _ z)
theorem wipe_in (σ : List (Option V)) : ∀ (vs : List Nat) (j : Nat), j ∈ vs → j < σ.length → (wipe σ vs)[j]? = some none
  | [], j, h, _ => (nomatch h)
  | v :: vs, j, h, hl => by
    show ((wipe σ vs).set v none)[j]? = _
    have e : (wipe σ vs).length = σ.length := wipe_length σ vs
    by_cases hj : v = j
    · subst hj
      rw [List.getElem?_set_self (by omega)]
    · rw [List.getElem?_set_ne hj]
      refine wipe_in σ vs j ?_ hl
      rcases List.mem_cons.mp h with q | q
      · exact absurd q.symm hj
      · exact q
theorem wipe_eq {σ σ' : List (Option V)} {l vs : List Nat} (h : Chg l σ σ') (hl : ∀ j ∈ l, j ∈ vs) : wipe σ' vs = wipe σ vs := by
  apply List.ext_getElem?
  intro j
  by_cases hj : j ∈ vs
  · by_cases hlen : j < σ.length
    · rw [wipe_in σ vs j hj hlen, wipe_in σ' vs j hj (by rw [h.1]; exact hlen)]
    · rw [List.getElem?_eq_none (by rw [wipe_length, h.1]; omega), List.getElem?_eq_none (by rw [wipe_length]; omega)]
  · rw [(wipe_chg σ' vs).2 j hj, (wipe_chg σ vs).2 j hj]
    exact h.2 j fun z => hj (hl j z)
theorem wipeE_len (env : List Sl) : ∀ vs : List Nat, (wipeE env vs).length = env.length
  | [] => rfl
  | v :: vs => by show ((wipeE env vs).set v .un).length = _; rw [List.length_set]; exact wipeE_len env vs
theorem Sta.unset {dm : Dm} {A0 : List Addr} {H0 : Hp} {A : List Addr} {σ : List (Option V)} {H : Hp} {env : List Sl} {k : Dk} (S : Sta K T dm A0 H0 A σ H env k) (i : Nat) : Sta K T dm A0 H0 A (σ.set i none) H (env.set i .un) k := by
  have no : ∀ (c : Nat) (ds : List D), (env.set i Sl.un)[c]? = some (Sl.own ds) → c ≠ i := fun c ds hc z => by
    subst z
    by_cases hl : c < env.length
    · rw [List.getElem?_set_self hl] at hc; cases hc
    · rw [List.getElem?_eq_none (by rw [List.length_set]; omega)] at hc; cases hc
  refine ⟨S.wd, S.lt, S.sub, S.dom0, S.dm0, by rw [List.length_set, List.length_set]; exact S.len, fun j => ?_, fun a b p ds es h1 h2 h3 h4 => ?_⟩
  · by_cases hj : j = i
    · subst hj
      by_cases hl : j < env.length
      · rw [List.getElem?_set_self hl]; exact trivial
      · rw [List.getElem?_eq_none (l := env.set j .un) (by rw [List.length_set]; omega)]; exact trivial
    · rw [List.getElem?_set_ne (Ne.symm hj), List.getElem?_set_ne (Ne.symm hj)]
      exact S.slot j
  · have ha := no a ds h1
    have hb := no b es h2
    rw [List.getElem?_set_ne (Ne.symm ha)] at h1 h3
    rw [List.getElem?_set_ne (Ne.symm hb)] at h2 h4
    exact S.uniq a b p ds es h1 h2 h3 h4
theorem Sta.wipe {dm : Dm} {A0 : List Addr} {H0 : Hp} {A : List Addr} {σ : List (Option V)} {H : Hp} {env : List Sl} {k : Dk} (S : Sta K T dm A0 H0 A σ H env k) : ∀ vs : List Nat, Sta K T dm A0 H0 A (L2.wipe σ vs) H (wipeE env vs) k
  | [] => S
  | v :: vs => (Sta.wipe S vs).unset v
/-- a new list beside the slots -/
theorem Sta.hid {dm : Dm} {A0 : List Addr} {H0 : Hp} {A : List Addr} {σ : List (Option V)} {H : Hp} {env : List Sl} {k : Dk} {p : Addr} {o : HO} (S : Sta K T dm A0 H0 A σ H env k) (hp : H p = none) : Sta K T dm A0 H0 (p :: A) σ (upd H p o) env k := by
  have S1 := S.new (o := o) hp
  have hh := hide_cons (A := A) hp o
  refine ⟨⟨fun b hb => ?_, S1.wd.tab, fun a c e => ?_⟩, S1.lt, fun b hb => List.mem_cons_of_mem _ (S.sub b hb), S.dom0, S.dm0, S.len, fun j => ?_, S.uniq⟩
  · rcases List.mem_cons.mp hb with e | hb
    · rw [e, upd_same]; simp
    · exact S1.wd.dom b hb
  · obtain ⟨q1, q2, q3⟩ := S1.wd.dk a c e
    exact ⟨List.mem_cons_of_mem _ q1, List.mem_cons_of_mem _ q2, q3⟩
  · have q := S.slot j
    cases e : env[j]? with
    | none => exact trivial
    | some z =>
      rw [e] at q
      cases z with
      | un => exact trivial
      | dat d => obtain ⟨v, h1, h2⟩ := q; exact ⟨v, h1, by rw [hh]; exact h2⟩
      | deck => exact q
      | own es =>
        obtain ⟨p', ws, h1, h2, h3, h4, h5, h6⟩ := q
        exact ⟨p', ws, h1, List.mem_cons_of_mem _ h2, h3, h4, by rw [upd_ne (ne_of_none h5 hp)]; exact h5, by rw [hh]; exact h6⟩
      | scr ns => obtain ⟨a, h1, h2⟩ := q; exact ⟨a, h1, h2.new fun ob u z => by rw [hp] at z; cases z⟩
def loopC (q : Fg') (c : Ft) (f : Fe) (env0 : List Sl) : List D → List D → Dk → Option (List D × Dk)
  | [], acc, k => some (acc, k)
  | d :: ds, acc, k => (q (.dat d) env0).bind fun e1 => (c e1 k).bind fun b => if b.1 = true then (f e1 b.2).bind fun y => match y.1 with
      | .dat z => if acc.length < 1000000 then loopC q c f env0 ds (acc ++ [z]) y.2 else none
      | _ => none
    else loopC q c f env0 ds acc b.2
def fLc (fi : Fw) (q : Fg') (c : Ft) (f : Fe) (vs : List Nat) : Fe := fun env k => (fi env k).bind fun p => (loopC q c f (wipeE env vs) p.1 [] p.2).map fun r => (.dat (.list r.1), r.2)
/-- the state while the list at p grows -/
structure Grow (K : Fg) (T : List Addr) (dm : Dm) (A0 : List Addr) (H0 : Hp) (A : List Addr) (σ : List (Option V)) (H1 : Hp) (env : List Sl) (p : Addr) (vs : List V) (acc : List D) (H : Hp) (k : Dk) : Prop where
  sta : Sta K T dm A0 H0 (p :: A) σ H env k
  lt : Lt dm H1 H
  at_ : H p = some (.lst vs)
  il : IsL K (hide (p :: A) H) vs acc
theorem Grow.more {dm : Dm} {A0 : List Addr} {H0 : Hp} {A : List Addr} {σ : List (Option V)} {H1 : Hp} {env : List Sl} {p : Addr} {vs : List V} {acc : List D} {H : Hp} {k : Dk} {v : V} {d : D} (G : Grow K T dm A0 H0 A σ H1 env p vs acc H k)
    (hp1 : H1 p = none) (hp0 : H0 p = none) (h0 : p ∉ A0) (hs : ∀ (j : Nat) ds, env[j]? = some (Sl.own ds) → σ[j]? ≠ some (some (.ref p))) (h : Is K (hide (p :: A) H) v d) : Grow K T dm A0 H0 A σ H1 env p (vs ++ [v]) (acc ++ [d]) (upd H p (.lst (vs ++ [v]))) k := by
  obtain ⟨S, l, e, il⟩ := G
  have pA : p ∈ p :: A := List.mem_cons_self
  have hh : hide (p :: A) (upd H p (.lst (vs ++ [v]))) = hide (p :: A) H := hide_upd pA _
  have dmn : ∀ a c, dm = some (a, c) → a ≠ p ∧ c ≠ p := fun a c q => ⟨fun z => h0 (z ▸ (S.dm0 a c q).1), fun z => h0 (z ▸ (S.dm0 a c q).2)⟩
  have dom : ∀ b, H b ≠ none → (upd H p (.lst (vs ++ [v]))) b ≠ none := fun b q => by
    by_cases z : b = p
    · rw [z, upd_same]; simp
    · rw [upd_ne z]; exact q
  refine ⟨⟨⟨fun b hb => dom b (S.wd.dom b hb), fun P hP => ?_, fun a c q => ?_⟩, ⟨fun b u q z n => ?_, fun b q => dom b (S.lt.dom b q)⟩, S.sub, S.dom0, S.dm0, S.len, fun j => ?_, S.uniq⟩, ⟨fun b u q z n => ?_, fun b q => dom b (l.dom b q)⟩, upd_same, by rw [hh]; exact il.app (.cons h .nil)⟩
  · obtain ⟨ps, q, t⟩ := S.wd.tab P hP
    exact ⟨ps, by rw [upd_ne fun z => by rw [z, e] at q; cases q]; exact q, t⟩
  · obtain ⟨q1, q2, q3, q4, q5⟩ := S.wd.dk a c q
    obtain ⟨n1, n2⟩ := dmn a c q
    exact ⟨q1, q2, q3, by rw [upd_ne n1]; exact q4, by rw [upd_ne n2]; exact q5⟩
  · rw [upd_ne fun w => by rw [w, hp0] at q; cases q]
    exact S.lt.keep b u q z n
  · have q := S.slot j
    cases e2 : env[j]? with
    | none => exact trivial
    | some z =>
      rw [e2] at q
      cases z with
      | un => exact trivial
      | dat d' => obtain ⟨v', h1, h2⟩ := q; exact ⟨v', h1, by rw [hh]; exact h2⟩
      | deck => exact q
      | own es =>
        obtain ⟨p2, us, h1, h2, h3, h4, h5, h6⟩ := q
        have ne : p2 ≠ p := fun z => hs j es e2 (by rw [← z]; exact h1)
        exact ⟨p2, us, h1, h2, h3, h4, by rw [upd_ne ne]; exact h5, by rw [hh]; exact h6⟩
      | scr ns => obtain ⟨a, h1, h2⟩ := q; exact ⟨a, h1, h2.new fun ob u z => by rw [e] at z; cases z⟩
  · rw [upd_ne fun w => by rw [w, hp1] at q; cases q]
    exact l.keep b u q z n
theorem Sta.h0new {dm : Dm} {A0 : List Addr} {H0 : Hp} {A : List Addr} {σ : List (Option V)} {H : Hp} {env : List Sl} {k : Dk} {p : Addr} (S : Sta K T dm A0 H0 A σ H env k) (hp : H p = none) : H0 p = none := by
  cases e : H0 p with
  | none => rfl
  | some o => exact absurd hp (S.lt.dom p (by rw [e]; simp))
theorem Sta.noown {dm : Dm} {A0 : List Addr} {H0 : Hp} {A : List Addr} {σ : List (Option V)} {H : Hp} {env : List Sl} {k : Dk} {p : Addr} (S : Sta K T dm A0 H0 A σ H env k) (hp : H p = none) : ∀ (j : Nat) ds, env[j]? = some (Sl.own ds) → σ[j]? ≠ some (some (.ref p)) := fun j ds e z => by
  have q := S.slot j
  rw [e] at q
  obtain ⟨p', vs', h1, h2, _⟩ := q
  rw [z] at h1
  cases h1
  exact notA S.wd hp h2
theorem de_lc {wi : TI} {fi : Fw} {g : TG} {q : Fg'} {l : List Nat} {tt : TT} {c : Ft} {te : TE} {fe : Fe} {vs : List Nat} (h1 : DI K T wi fi) (h2 : DG K T g q l) (h3 : DT K T tt c) (h4 : DE K T te fe) (hl : ∀ j ∈ l, j ∈ vs) :
    DE K T (tLc wi g tt te vs) (fLc fi q c fe vs) := by
  intro dm A0 H0 A σ H env k Q S s k' hf hQ
  unfold fLc at hf
  cases e : fi env k with
  | none => rw [e] at hf; cases hf
  | some p =>
    obtain ⟨ds, k1⟩ := p
    rw [e] at hf
    simp only [Option.bind_some] at hf
    cases er : loopC q c fe (wipeE env vs) ds [] k1 with
    | none => rw [er] at hf; cases hf
    | some r =>
      rw [er] at hf
      cases hf
      refine h1 dm A0 H0 A σ H env k _ S ds k1 e fun J H1 S1 l1 w => ?_
      intro p hp
      have S1w := S1.wipe vs
      have p0 : p ∉ A0 := fun m => notA S1.wd hp (S1.sub p m)
      have hp0 := S1.h0new hp
      have no := S1w.noown hp
      have rp : Tr A H1 (p :: A) (upd H1 p (.lst [])) := ⟨fun b o q _ _ => by rw [upd_ne (ne_of_none q hp)]; exact q, fun b q => (Lt.new (dm := dm) hp).dom b q, fun b hb => by
        rcases List.mem_cons.mp hb with z | z
        · exact .inr (z ▸ hp)
        · exact .inl z⟩
      have trG : ∀ {H2 : Hp} {k2 : Dk} {ws : List V} {acc : List D}, Grow K T dm A0 H0 A (L2.wipe σ vs) H1 (wipeE env vs) p ws acc H2 k2 → Tr A H1 (p :: A) H2 := fun {H2 k2 ws acc} G =>
        ⟨fun b o q z n => (tr_of_lt S1.wd G.lt).keep b o q z n, G.lt.dom, fun b hb => by
          rcases List.mem_cons.mp hb with z | z
          · exact .inr (z ▸ hp)
          · exact .inl z⟩
      refine ⟨fun i m H2 => ∃ ws acc k2, Grow K T dm A0 H0 A (L2.wipe σ vs) H1 (wipeE env vs) p ws acc H2 k2 ∧ m = ds.length - i ∧ i ≤ ds.length ∧ loopC q c fe (wipeE env vs) (ds.drop i) acc k2 = some r,
        ⟨ds.length, [], [], k1, ⟨S1w.hid hp, Lt.new hp, upd_same, .nil⟩, rfl, Nat.zero_le _, er⟩, fun i m H2 ⟨ws, acc, k2, G, em, hi, el⟩ => ?_⟩
      by_cases hlt : i < ds.length
      · refine .inr ⟨w.go _ H2 (trG G) i ds[i] (List.getElem?_eq_getElem hlt), fun H3 => ∃ ws acc k2, Grow K T dm A0 H0 A (L2.wipe σ vs) H1 (wipeE env vs) p ws acc H3 k2 ∧ loopC q c fe (wipeE env vs) (ds.drop (i + 1)) acc k2 = some r,
          fun H3 ⟨ws, acc, k2, G, el⟩ => ⟨ds.length - (i + 1), by omega, ws, acc, k2, G, rfl, hlt, el⟩, fun x H3 y => ?_⟩
        obtain ⟨hH3, ix⟩ := w.yl _ H2 (trG G) G.sta.wd.dom i ds[i] (List.getElem?_eq_getElem hlt) x H3 y
        obtain ⟨S3, l3⟩ := G.sta.yield hH3
        rw [List.drop_eq_getElem_cons hlt] at el
        unfold loopC at el
        cases eq : q (.dat ds[i]) (wipeE env vs) with
        | none => rw [eq] at el; cases el
        | some e1 =>
          rw [eq] at el
          simp only [Option.bind_some] at el
          cases ec : c e1 k2 with
          | none => rw [ec] at el; cases el
          | some b =>
            obtain ⟨b, k3⟩ := b
            rw [ec] at el
            simp only [Option.bind_some] at el
            refine h2 dm A0 H0 _ _ H3 _ k2 x (.dat ds[i]) _ S3 ix e1 eq fun σ4 S4 cg => ⟨(wipe_eq cg hl).trans (wipe_eq (wipe_chg σ vs) fun _ h => h), ?_⟩
            refine h3 dm A0 H0 _ σ4 H3 e1 k2 _ S4 b k3 ec fun H4 S5 l4 => ?_
            have keepG : ∀ {H5 : Hp} {k5 : Dk} {σ5 : List (Option V)} {e5 : List Sl}, Sta K T dm A0 H0 (p :: A) σ5 H5 e5 k5 → Lt dm H2 H5 → Grow K T dm A0 H0 A (L2.wipe σ vs) H1 (wipeE env vs) p ws acc H5 k5 := fun {H5 k5 σ5 e5} S5 l5 =>
              ⟨G.sta.at S5.wd l5, G.lt.trans l5, l5.keep p _ G.at_ rfl fun a c z => ⟨fun q => p0 (q ▸ (S1.dm0 a c z).1), fun q => p0 (q ▸ (S1.dm0 a c z).2)⟩, IsL.kp (l5.kp G.sta.wd) G.il⟩
            cases b with
            | false =>
              simp only [Bool.false_eq_true, if_false] at el
              exact iteF ⟨ws, acc, k3, keepG S5 (l3.trans l4), el⟩
            | true =>
              simp only [if_true] at el
              refine iteT ?_
              cases ef : fe e1 k3 with
              | none => rw [ef] at el; cases el
              | some z =>
                obtain ⟨z, k4⟩ := z
                rw [ef] at el
                simp only [Option.bind_some] at el
                cases z with
                | dat d =>
                  simp only at el
                  by_cases hc : acc.length < 1000000
                  · rw [if_pos hc] at el
                    refine h4 dm A0 H0 _ σ4 H4 e1 k3 _ S5 (.dat d) k4 ef fun v H5 S6 l5 iv => ?_
                    have G5 := keepG S6 ((l3.trans l4).trans l5)
                    exact ⟨ws, G5.at_, Nat.lt_of_lt_of_le (by rw [G5.il.len]; exact hc) (by decide), _, _, k4, G5.more hp hp0 p0 no iv, el⟩
                  · rw [if_neg hc] at el; cases el
                | _ => cases el
      · have ei : i = ds.length := by omega
        subst ei
        rw [List.drop_length] at el
        cases el
        refine .inl ⟨w.st _ H2 (trG G) _ (Nat.le_refl _), ?_⟩
        have wd2 : Wd T dm A H2 k2 := ⟨fun b hb => G.sta.wd.dom b (List.mem_cons_of_mem _ hb), G.sta.wd.tab, fun a c z => ⟨S1.sub a (S1.dm0 a c z).1, S1.sub c (S1.dm0 a c z).2, (G.sta.wd.dk a c z).2.2⟩⟩
        refine hQ _ H2 (S1.at wd2 G.lt) (l1.trans G.lt) ?_
        exact Is.lst (by rw [hide_out (notA S1.wd hp)]; exact G.at_) (IsL.kp (hide_mono fun b hb => List.mem_cons_of_mem _ hb) G.il)
def fYes : Ft := fun _ k => some (true, k)
theorem dt_yes : DT K T tYes fYes := by
  intro dm A0 H0 A σ H env k Q S b k' hf hQ
  cases hf
  exact hQ H S (Lt.refl _ _)
end
end DL
set_option maxHeartbeats 4000000
namespace DL
open PySem PySem.Spec PyProof.Rows L2
/-- a def's promise, where no repr is under way -/
structure FnG (P : Program) (w : World) (K : Fg) (mg : Str → Option Value) (base : Heap) (CX : CXT) (k : Nat) (f : Addr) (fd : FuncData) (ps : List Str) (sp : Sp) : Prop where
  len : ∀ vs H Q E, sp vs H Q E → vs.length = ps.length
  run : ∀ (A : Around) (outer : List Env) (s : Shared) (H : Hp) (args : Args) (us : List Value) (vs : List V) (Q : VK) (E : XK), A.guards = some [] → Room k A → Env0 P w K mg base A outer s H →
    BindsTo s fd args (ps.zip us) → Vals vs us → sp vs H Q E → codeAny (model P w) A (.call (.ref f) args) (CR CX outer P w H s Q E) s
section
variable {P : Program} {w : World} {K : Fg} {mg : Str → Option Value} {base : Heap} {CX : CXT} {k j : Nat} {f : Addr} {fd : FuncData} {ps : List Str} {sp sp' : Sp}
theorem FnG.mono (F : FnG P w K mg base CX j f fd ps sp) (h : j ≤ k) : FnG P w K mg base CX k f fd ps sp :=
  { len := F.len
    run := fun A outer s H args us vs Q E hg hr => F.run A outer s H args us vs Q E hg (hr.mono h) }
theorem FnG.imp (F : FnG P w K mg base CX k f fd ps sp) (h : ∀ vs H Q E, sp' vs H Q E → sp vs H Q E) : FnG P w K mg base CX k f fd ps sp' :=
  { len := fun vs H Q E q => F.len vs H Q E (h _ _ _ _ q)
    run := fun A outer s H args us vs Q E hg hr he hb hv hs => F.run A outer s H args us vs Q E hg hr he hb hv (h _ _ _ _ hs) }
theorem FnG.of (F : FnOk P w K mg base CX k f fd ps sp) : FnG P w K mg base CX k f fd ps sp :=
  { len := F.len, run := fun A outer s H args us vs Q E _ => F.run A outer s H args us vs Q E }
/-- by its body -/
theorem fnG_of {x qual : Str} {st : Stmt} {N : List Str} (F : Fun K x qual st f fd) (S : FnScope N ps (defScope st)) (len : ∀ vs H Q E, sp vs H Q E → vs.length = ps.length)
    (body : ∀ (cdv : Value) (A : Around) (outer : List Env) (s : Shared) (H : Hp) (vs : List V) (Q : VK) (E : XK), A.guards = some [] → Room k (A.deeper (envOfC qual (defScope st) s.heap.objs.size f cdv)) → sp vs H Q E →
      ∃ t, PSs (cxOf CX P w K mg base N qual (defScope st) f cdv A outer s H E) (defBody st) t ∧ t { nx := fun _ H' => Q .non H', rt := Q } (L2.start N vs) H) : FnG P w K mg base CX (k + 1) f fd ps sp := by
  obtain ⟨oc, od, kV, doc, pm, an, cdv, ct, osl, rfl, look, codeOk⟩ := F.ex
  constructor
  · exact len
  intro A outer s H args us vs Q E hg room env0 bnd vals want
  have size := len vs H Q E want
  have inK : K.In s.heap := env0.mod.kin.keeps (fun b o e => (env0.bs b o e).1)
  have noLim : s.heap.NoLimit := env0.mod.nolimit.keeps (fun b o e => (env0.bs b o e).1)
  refine codeAny_call_function room.depth (inK f _ look) rfl S.co S.gen rfl (PySem.W.codeRec_of inK codeOk) (bnd _ _ _ _ ?_)
  refine wpAny_newFunctionEnv_cells S.kind ?kinds ?rest
  case kinds =>
    rintro ⟨name, val⟩ hmem
    cases S.par name (List.of_mem_zip hmem).1 with
    | inl isLocal => exact Or.inl isLocal
    | inr isCell => exact Or.inr ⟨isCell, PySem.W.cellsFrom_some _ _ _ (Or.inl isCell)⟩
  case rest =>
    intro env henv s1 called
    cases henv
    refine ⟨noLim.keeps called.toInCall.keep, codeAny_func ?_⟩
    obtain ⟨t, derivation, reading⟩ := body cdv A outer s H vs Q E hg (room.deeper _) want
    have begun := inv_start (CX := CX) (P := P) (w := w) (K := K) (mg := mg) (base := base) (E := E) S room.hd env0 size vals called
    refine wpAny_mono (derivation.run [] s1 _ H _ begun reading) ?_ (fun _ _ left => left)
    intro flow s' ended
    match flow, ended with
    | .ret u, ⟨v, _, H', J, rel, q⟩ => exact ⟨v, H', J.os, J.bare, J.base, J.hok, rel, q⟩
    | .next, ⟨_, H', J, q⟩ => exact ⟨V.non, H', J.os, J.bare, J.base, J.hok, rfl, q⟩
    | .brk, ⟨_, _, _, q⟩ => exact q.elim
    | .cont, ⟨_, _, _, q⟩ => exact q.elim
end
section
variable {X : Cx} {CX : CXT} {k : Nat} {f : Addr} {fd : FuncData} {ps ks : List Str} {sp : Sp} {E : XK} {x : Str} {p pos : Pos} {e : Expr} {es : List Expr} {kws : List Keyword} {t tk : TA}
theorem runG {args : Args} {pins : List (Addr × Obj)} {σ : List (Option V)} {H : Hp} {s : Shared} {Q : VK} {us : List Value} {vs : List V} (F : FnG X.prog X.w X.K X.mg X.base CX k f fd ps sp) (hgd : X.A.guards = some []) (hr : Room k X.A) (hx : Passes CX X E)
    (hb : BindsTo s fd args (ps.zip us)) (I : Inv X pins σ H s) (r : Vals vs us) (h : sp vs H Q E) : codeAny (model X.prog X.w) X.A (.call (.ref f) args) (fun r s' => match r with
      | .ok (.ret u) => EP X pins σ Q u s'
      | .ok _ => False
      | .error e => X.xe e s') s := by
  refine codeAny_mono (F.run X.A X.stack s H args us vs Q E hgd hr I.env0 hb r h) fun r s' hq => ?_
  cases r with
  | error e => exact hx pins σ H s e s' I hq
  | ok fl =>
    cases fl with
    | ret u => exact I.after hq
    | next => exact hq.elim
    | brk => exact hq.elim
    | cont => exact hq.elim
theorem pe_callG (F : FnG X.prog X.w X.K X.mg X.base CX k f fd ps sp) (hgd : X.A.guards = some []) (hr : Room k X.A) (hg : Gl X x) (hm : X.mg x = some (.ref f)) (hk : PySem.W.keepIn X.K (.ref f) = true) (hb : Binds X.K fd ps []) (hx : Passes CX X E)
    (ha : PA X (e :: es) t) (hdb : (x == ("__debug__" : Str)) = false := by decide) (he : starEach (e :: es) X.env = (false, eval e X.env) :: starEach es X.env := by rfl) (hpl : (backTo pos (starEach es X.env)).any (·.1) = false := by rfl) :
    PE X (.Call (.Name x p) (e :: es) [] pos) (tCall sp [] E t) := by
  constructor
  intro pins s σ H Q I h
  refine wpAny_Call_Name_kw (ld_glob I hg hm ?_ hdb)
  refine PySem.W.callWith_K (h₀ := X.base) I.ok.mod.kin hk ?_ he hpl
  refine thn (ha.run pos pins s σ H _ I h) ?_
  rintro us s1 ⟨vs, H1, I1, r, q⟩
  have hl : (us ++ []).length = ps.length := by rw [List.append_nil, ← r.length]; have z := F.len _ _ _ _ q; rwa [List.append_nil] at z
  have hbb := hb s1 us I1.kIn hl
  rw [List.append_nil] at hbb
  have q' : sp vs H1 Q E := by
    have z : sp (vs ++ []) H1 Q E := q
    rwa [List.append_nil] at z
  exact ⟨I1.kIn, wpAny_call (codeAny_mono (runG F hgd hr hx hbb I1 r q') fun r s' hq => by
    cases r with
    | error e => exact hq
    | ok fl => cases fl <;> first | exact hq | exact hq.elim)⟩
/-- how keywords alone bind -/
structure KB (K : Fg) (fd : FuncData) (ps ks : List Str) (g : List Value → List Value) (gV : List V → List V) : Prop where
  to : ∀ (s : Shared) (ws : List Value), K.In s.heap → (g ws).length = ps.length → BindsTo s fd ⟨[], ks.zip ws⟩ (ps.zip (g ws))
  rel : ∀ {zs : List V} {ws : List Value}, Vals zs ws → Vals (gV zs) (g ws)
def tCallKw (sp : Sp) (gV : List V → List V) (E : XK) (tk : TA) : TE := fun σ H Q => tk σ H fun zs H2 => sp (gV zs) H2 Q E
theorem pe_callGK {g : List Value → List Value} {gV : List V → List V} (F : FnG X.prog X.w X.K X.mg X.base CX k f fd ps sp) (hgd : X.A.guards = some []) (hr : Room k X.A) (hg : Gl X x) (hm : X.mg x = some (.ref f)) (hk : PySem.W.keepIn X.K (.ref f) = true) (hb : KB X.K fd ps ks g gV) (hx : Passes CX X E)
    (hkw : PK X kws tk) (hall : (backToKw pos (keywordEach kws X.env)).all (·.1.isSome) = true := by rfl) (hks : (backToKw pos (keywordEach kws X.env)).filterMap (·.1) = ks := by rfl)
    (hdb : (x == ("__debug__" : Str)) = false := by decide) (hpl : ((backTo pos (starEach [] X.env)).any (·.1) || (backToKw pos (keywordEach kws X.env)).any (·.1.isNone)) = false := by rfl) :
    PE X (.Call (.Name x p) [] kws pos) (tCallKw sp gV E tk) := by
  constructor
  intro pins s σ H Q I h
  refine wpAny_Call_Name_kw (ld_glob I hg hm ?_ hdb)
  refine PySem.W.callWith_KW0 (h₀ := X.base) I.ok.mod.kin hk hall ?_ hpl
  refine thn (hkw.run pos pins s σ H _ I h) ?_
  rintro ws s2 ⟨zs, H2, I2, rz, q2⟩
  refine ⟨I2.kIn, ?_⟩
  rw [hks]
  have r2 := hb.rel rz
  have hl : (g ws).length = ps.length := by rw [← r2.length]; exact F.len _ _ _ _ q2
  exact wpAny_call (codeAny_mono (runG F hgd hr hx (hb.to s2 ws I2.kIn hl) I2 r2 q2) fun r s' hq => by
    cases r with
    | error e => exact hq
    | ok fl => cases fl <;> first | exact hq | exact hq.elim)
end
/-! ### a def over data -/
abbrev Fd := List Sl → Dk → Option (D × Dk)
/-- what a body does, as a function: m slots -/
def fnOf (m : Nat) (g : Fs) : Fd := fun ss k => match g (ss ++ List.replicate (m - ss.length) .un) k with
  | .rt d k' => some (d, k')
  | .nx _ k' => some (.none, k')
  | _ => none
/-- the arguments may be handed on -/
def okArg : Sl → Bool
  | .dat _ => true
  | .deck => true
  | .scr _ => true
  | _ => false
def spF (K : Fg) (T : List Addr) (n : Nat) (f : Fd) : Sp := fun vs H Q _ => ∃ (dm : Dm) (A : List Addr) (ss : List Sl) (k : Dk) (d : D) (k' : Dk), (∀ a c, dm = some (a, c) → a ∈ A ∧ c ∈ A) ∧ Wd T dm A H k ∧ IsSL K A dm A H vs ss ∧ vs.length = n ∧ ss.all okArg = true ∧ f ss k = some (d, k') ∧
  (∀ v H', Wd T dm A H' k' → Lt dm H H' → Is K (hide A H') v d → Q v H')
section
variable {K : Fg} {T : List Addr}
theorem IsSL.len {A0 : List Addr} {dm : Dm} {A : List Addr} {H : Hp} : ∀ {vs : List V} {ss : List Sl}, IsSL K A0 dm A H vs ss → vs.length = ss.length
  | _, _, .nil => rfl
  | _, _, .cons _ l => by rw [List.length_cons, List.length_cons, IsSL.len l]
theorem IsSL.at {A0 : List Addr} {dm : Dm} {A : List Addr} {H : Hp} : ∀ {vs : List V} {ss : List Sl} {i : Nat} {s : Sl}, IsSL K A0 dm A H vs ss → ss[i]? = some s → ∃ v, vs[i]? = some v ∧ IsS K A0 dm A H v s
  | _, _, _, _, .nil, e => by simp at e
  | _, _, 0, _, .cons h _, e => by simp at e; subst e; exact ⟨_, rfl, h⟩
  | _, _, i + 1, s, .cons _ l, e => by
    obtain ⟨v, h1, h2⟩ := IsSL.at (i := i) l (by simpa using e)
    exact ⟨v, by simpa using h1, h2⟩
/-- at a def's entry -/
theorem sta_start {dm : Dm} {A : List Addr} {H : Hp} {k : Dk} {vs : List V} {ss : List Sl} {N : List Str} (w : Wd T dm A H k) (hd : ∀ a c, dm = some (a, c) → a ∈ A ∧ c ∈ A) (h : IsSL K A dm A H vs ss) (ok : ss.all okArg = true) (hl : vs.length ≤ N.length) :
    Sta K T dm A H A (L2.start N vs) H (ss ++ List.replicate (N.length - ss.length) .un) k := by
  have e := h.len
  refine ⟨w, Lt.refl _ _, fun _ h => h, w.dom, hd, ?_, fun i => ?_, fun i j p ds es h1 _ _ _ => ?_⟩
  · unfold L2.start
    rw [List.length_append, List.length_append, List.length_map, List.length_replicate, List.length_replicate, e]
  · by_cases hi : i < ss.length
    · rw [List.getElem?_append_left hi]
      have e1 : ss[i]? = some ss[i] := List.getElem?_eq_getElem hi
      rw [e1]
      obtain ⟨v, h1, h2⟩ := h.at e1
      have e2 : (L2.start N vs)[i]? = some (some v) := by
        unfold L2.start
        rw [List.getElem?_append_left (by rw [List.length_map, e]; exact hi), List.getElem?_map, h1]
        rfl
      rw [e2]
      have ok1 : okArg ss[i] = true := List.all_eq_true.mp ok _ (List.getElem_mem hi)
      cases e3 : ss[i] with
      | un => exact trivial
      | dat d => rw [e3] at h2; exact ⟨v, rfl, h2⟩
      | deck => rw [e3] at h2; obtain ⟨a, c, q1, q2⟩ := h2; exact ⟨a, c, q1, by rw [q2]⟩
      | own ds => rw [e3] at ok1; cases ok1
      | scr ns => rw [e3] at h2; obtain ⟨a, q1, q2⟩ := h2; exact ⟨a, by rw [q1], q2⟩
    · rw [List.getElem?_append_right (by omega), List.getElem?_replicate]
      split <;> exact trivial
  · by_cases hi : i < ss.length
    · rw [List.getElem?_append_left hi, List.getElem?_eq_getElem hi] at h1
      have ok1 : okArg ss[i] = true := List.all_eq_true.mp ok _ (List.getElem_mem hi)
      have h1' : ss[i] = Sl.own ds := Option.some.inj h1
      rw [h1'] at ok1
      cases ok1
    · rw [List.getElem?_append_right (by omega), List.getElem?_replicate] at h1
      split at h1 <;> cases h1
/-- a body's reading keeps the promise -/
theorem spF_body {t : TS} {g : Fs} {N : List Str} {n : Nat} {vs : List V} {H : Hp} {Q : VK} {E : XK} (hn : n ≤ N.length) (h : DS K T t g) (sp : spF K T n (fnOf N.length g) vs H Q E) : t { nx := fun _ H' => Q .non H', rt := Q } (L2.start N vs) H := by
  obtain ⟨dm, A, ss, k, d, k', hd, w, il, hl, ok, hf, hQ⟩ := sp
  have S := sta_start (N := N) w hd il ok (by omega)
  refine h dm A H A (L2.start N vs) H _ k _ S ?_
  unfold fnOf at hf
  cases e : g (ss ++ List.replicate (N.length - ss.length) .un) k with
  | rt d1 k1 => rw [e] at hf; cases hf; exact hQ
  | nx e1 k1 => rw [e] at hf; cases hf; exact fun A' σ' H' S' _ => hQ _ H' S'.w0 S'.lt .non
  | bk e1 k1 => rw [e] at hf; cases hf
  | ct e1 k1 => rw [e] at hf; cases hf
  | bad => rw [e] at hf; cases hf
theorem spF_len {n : Nat} {f : Fd} {vs : List V} {H : Hp} {Q : VK} {E : XK} (sp : spF K T n f vs H Q E) : vs.length = n := by
  obtain ⟨dm, A, ss, k, d, k', hd, w, il, hl, ok, hf, hQ⟩ := sp
  exact hl
/-- a call -/
def fCall (n : Nat) (f : Fd) (h : Fl) : Fe := fun env k => (h env k).bind fun p => if p.1.length = n ∧ p.1.all okArg = true then (f p.1 p.2).map fun q => (.dat q.1, q.2) else none
theorem all_ok {A0 : List Addr} {dm : Dm} {A : List Addr} {H : Hp} : ∀ {vs : List V} {ss : List Sl}, IsSL K A0 dm A H vs ss → ss.all okArg = true → IsSL K A dm A H vs ss
  | _, _, .nil, _ => .nil
  | _, _, .cons (s := s) h l, e => by
    rw [List.all_cons, Bool.and_eq_true] at e
    refine .cons ?_ (all_ok l e.2)
    cases s with
    | un => exact h
    | dat d => exact h
    | deck => exact h
    | own ds => cases e.1
    | scr ns => exact h
theorem de_call {n : Nat} {f : Fd} {ta : TA} {h : Fl} {E : XK} (h1 : DA K T ta h) : DE K T (tCall (spF K T n f) [] E ta) (fCall n f h) := by
  intro dm A0 H0 A σ H env k Q S s k' hf hQ
  unfold fCall at hf
  cases e1 : h env k with
  | none => rw [e1] at hf; cases hf
  | some p =>
    obtain ⟨ss, k1⟩ := p
    rw [e1] at hf
    simp only [Option.bind_some] at hf
    by_cases hc : ss.length = n ∧ ss.all okArg = true
    · rw [if_pos hc] at hf
      cases e2 : f ss k1 with
      | none => rw [e2] at hf; cases hf
      | some q =>
        rw [e2] at hf
        cases hf
        refine h1 dm A0 H0 A σ H env k _ S ss k1 e1 fun vs H1 S1 l1 is => ?_
        rw [List.append_nil]
        refine ⟨dm, A, ss, k1, q.1, q.2, fun a c e => ⟨S1.sub a (S1.dm0 a c e).1, S1.sub c (S1.dm0 a c e).2⟩, S1.wd, all_ok is hc.2, by rw [is.len]; exact hc.1, hc.2, e2, fun v H2 w2 l2 iv => hQ v H2 (S1.at w2 l2) (l1.trans l2) iv⟩
    · rw [if_neg hc] at hf; cases hf
def fCallK (n : Nat) (f : Fd) (g : List Sl → List Sl) (h : Fl) : Fe := fun env k => (h env k).bind fun p => if (g p.1).length = n ∧ (g p.1).all okArg = true then (f (g p.1) p.2).map fun q => (.dat q.1, q.2) else none
theorem de_callK {n : Nat} {f : Fd} {ta : TA} {h : Fl} {E : XK} {g : List Sl → List Sl} {gV : List V → List V} (h1 : DA K T ta h) (hg : ∀ A0 dm A H vs ss, IsSL K A0 dm A H vs ss → IsSL K A0 dm A H (gV vs) (g ss)) : DE K T (tCallKw (spF K T n f) gV E ta) (fCallK n f g h) := by
  intro dm A0 H0 A σ H env k Q S s k' hf hQ
  unfold fCallK at hf
  cases e1 : h env k with
  | none => rw [e1] at hf; cases hf
  | some p =>
    obtain ⟨ss, k1⟩ := p
    rw [e1] at hf
    simp only [Option.bind_some] at hf
    by_cases hc : (g ss).length = n ∧ (g ss).all okArg = true
    · rw [if_pos hc] at hf
      cases e2 : f (g ss) k1 with
      | none => rw [e2] at hf; cases hf
      | some q =>
        rw [e2] at hf
        cases hf
        refine h1 dm A0 H0 A σ H env k _ S ss k1 e1 fun vs H1 S1 l1 is => ?_
        have is2 := hg _ _ _ _ _ _ is
        exact ⟨dm, A, g ss, k1, q.1, q.2, fun a c e => ⟨S1.sub a (S1.dm0 a c e).1, S1.sub c (S1.dm0 a c e).2⟩, S1.wd, all_ok is2 hc.2, by rw [is2.len]; exact hc.1, hc.2, e2, fun v H2 w2 l2 iv => hQ v H2 (S1.at w2 l2) (l1.trans l2) iv⟩
    · rw [if_neg hc] at hf; cases hf
end
end DL
set_option maxHeartbeats 4000000
namespace DL
open PySem PySem.Spec PyProof.Rows L2
section
variable {K : Fg} {T : List Addr} {ta tb : TE} {f g : Fe}
/-- a call of a built-in with one data argument, the outcome pure -/
theorem de_b1 {r : List V → Hp → VK → Prop} {q : Sl → Option Sl} (h1 : DE K T ta f)
    (hr : ∀ dm A0 H0 A σ H env k x a s (Q : VK), Sta K T dm A0 H0 A σ H env k → IsS K A0 dm A H x a → q a = some s → (∀ v H', Sta K T dm A0 H0 A σ H' env k → Lt dm H H' → IsS K A0 dm A H' v s → Q v H') → r [x] H Q) :
    DE K T (tCB r (tCons ta tNil)) (f1 q f) := by
  intro dm A0 H0 A σ H env k Q S s k' hf hQ
  obtain ⟨a, e1, e2⟩ := f1_some hf
  exact h1 dm A0 H0 A σ H env k _ S _ _ e1 fun x H1 S1 l1 i1 => hr dm A0 H0 A σ H1 env k' x a s Q S1 i1 e2 fun v H2 S2 l2 i2 => hQ v H2 S2 (l1.trans l2) i2
def gLen : Sl → Option Sl := fun a => (asQ a).map fun ds => .dat (.int (ds.length : Nat))
theorem is_seq {A0 : List Addr} {dm : Dm} {A : List Addr} {H : Hp} {v : V} {s : Sl} {ds : List D} (h : IsS K A0 dm A H v s) (e : asQ s = some ds) : ∃ p vs, v = .ref p ∧ (SqL K H p vs ∨ SqT K H p vs) ∧ IsL K (hide A H) vs ds := by
  unfold asQ at e
  cases e1 : asL s with
  | some es =>
    rw [e1] at e; cases e
    obtain ⟨p, vs, h1, h2, h3⟩ := is_lst h e1
    exact ⟨p, vs, h1, .inl (.inl (.inl h2)), h3⟩
  | none =>
    rw [e1] at e
    obtain ⟨p, vs, h1, h2, _, h3⟩ := is_tup h e
    exact ⟨p, vs, h1, .inr h2, h3⟩
theorem de_len (h1 : DE K T ta f) : DE K T (tCB (fun xs H Q => ∃ p ys, xs = [.ref p] ∧ (SqL K H p ys ∨ SqT K H p ys) ∧ Q (.int ys.length) H) (tCons ta tNil)) (f1 gLen f) := de_b1 h1 (by
  intro dm A0 H0 A σ H env k x a s Q S i e hQ
  unfold gLen at e
  cases e1 : asQ a with
  | none => rw [e1] at e; cases e
  | some ds =>
    rw [e1] at e; cases e
    obtain ⟨p, vs, rfl, h2, h3⟩ := is_seq i e1
    exact ⟨p, vs, rfl, h2, hQ _ H S (Lt.refl _ _) (by rw [h3.len]; exact Is.int _)⟩)
def gAbs : Sl → Option Sl := gI (fun _ => true) fun i => .int (if i < 0 then -i else i)
theorem de_abs (h1 : DE K T ta f) : DE K T (tCB (fun xs H Q => ∃ i, xs = [.int i] ∧ Q (.int (if i < 0 then -i else i)) H) (tCons ta tNil)) (f1 gAbs f) := de_b1 h1 (by
  intro dm A0 H0 A σ H env k x a s Q S i e hQ
  obtain ⟨z, rfl, _, rfl⟩ := gI_some e
  rw [is_int i]
  exact ⟨z, rfl, hQ _ H S (Lt.refl _ _) (Is.int _)⟩)
def gInt : Sl → Option Sl := gI (fun _ => true) fun i => .int i
theorem de_int1 (h1 : DE K T ta f) : DE K T (tCB (fun xs H Q => (∃ i, xs = [.int i] ∧ Q (.int i) H) ∨ ∃ k, xs = [.bl k] ∧ Q (.int (if k then 1 else 0)) H) (tCons ta tNil)) (f1 gInt f) := de_b1 h1 (by
  intro dm A0 H0 A σ H env k x a s Q S i e hQ
  obtain ⟨z, rfl, _, rfl⟩ := gI_some e
  rw [is_int i]
  exact .inl ⟨z, rfl, hQ _ H S (Lt.refl _ _) (Is.int _)⟩)
def gStr : Sl → Option Sl := gI (fun i => decide (i.natAbs.log2 < 1920)) fun i => .str (toString i)
theorem de_str1 (h1 : DE K T ta f) : DE K T (tCB (fun xs H Q => ∃ i, xs = [.int i] ∧ i.natAbs.log2 < 1920 ∧ Q (.str (toString i)) H) (tCons ta tNil)) (f1 gStr f) := de_b1 h1 (by
  intro dm A0 H0 A σ H env k x a s Q S i e hQ
  obtain ⟨z, rfl, c, rfl⟩ := gI_some e
  rw [is_int i]
  exact ⟨z, rfl, of_decide_eq_true c, hQ _ H S (Lt.refl _ _) (Is.str _)⟩)
def gListOf : Sl → Option Sl := fun a => (asQ a).map fun ds => .dat (.list ds)
theorem de_listOf (h1 : DE K T ta f) : DE K T (tCB (fun xs H Q => ∃ p ys, xs = [.ref p] ∧ (SqL K H p ys ∨ SqT K H p ys) ∧ ∀ l, H l = none → Q (.ref l) (upd H l (.lst ys))) (tCons ta tNil)) (f1 gListOf f) := de_b1 h1 (by
  intro dm A0 H0 A σ H env k x a s Q S i e hQ
  unfold gListOf at e
  cases e1 : asQ a with
  | none => rw [e1] at e; cases e
  | some ds =>
    rw [e1] at e; cases e
    obtain ⟨p, vs, rfl, h2, h3⟩ := is_seq i e1
    exact ⟨p, vs, rfl, h2, fun l hl => hQ _ _ (S.new hl) (Lt.new hl) (mk_lst S.wd hl h3)⟩)
def gTupOf : Sl → Option Sl := fun a => (asQ a).map fun ds => .dat (.tuple ds)
theorem de_tupOf (h1 : DE K T ta f) : DE K T (tCB (fun xs H Q => ∃ p ys, xs = [.ref p] ∧ ((SqL K H p ys ∧ ∀ l, H l = none → Q (.ref l) (upd H l (.tup ys))) ∨ (SqT K H p ys ∧ Q (.ref p) H))) (tCons ta tNil)) (f1 gTupOf f) := de_b1 h1 (by
  intro dm A0 H0 A σ H env k x a s Q S i e hQ
  unfold gTupOf at e
  cases e1 : asQ a with
  | none => rw [e1] at e; cases e
  | some ds =>
    rw [e1] at e; cases e
    unfold asQ at e1
    cases e2 : asL a with
    | some es =>
      rw [e2] at e1; cases e1
      obtain ⟨p, vs, rfl, h2, h3⟩ := is_lst i e2
      exact ⟨p, vs, rfl, .inl ⟨.inl (.inl h2), fun l hl => hQ _ _ (S.new hl) (Lt.new hl) (mk_tup S.wd hl h3)⟩⟩
    | none =>
      rw [e2] at e1
      obtain ⟨p, vs, rfl, h2, h2', h3⟩ := is_tup i e1
      exact ⟨p, vs, rfl, .inr ⟨h2, hQ _ H S (Lt.refl _ _) (Is.tup h2' h3)⟩⟩)
/-! ### two ints -/
theorem de_b2 {r : List V → Hp → VK → Prop} {c : Int → Int → Bool} {q : Int → Int → Int} (h1 : DE K T ta f) (h2 : DE K T tb g)
    (hr : ∀ i j H (Q : VK), c i j = true → Q (.int (q i j)) H → r [.int i, .int j] H Q) : DE K T (tCB r (tCons ta (tCons tb tNil))) (f2 (gII c fun i j => .int (q i j)) f g) := by
  intro dm A0 H0 A σ H env k Q S s k' hf hQ
  exact de_ii (r := fun x y H Q => r [x, y] H Q) (g' := fun i j => .int (q i j)) h1 h2 hr (fun _ _ _ => .int _) dm A0 H0 A σ H env k Q S s k' hf hQ
def fGcd : Fe → Fe → Fe := f2 (gII c0 fun i j => .int ((Nat.gcd i.natAbs j.natAbs : Nat) : Int))
theorem de_gcd (h1 : DE K T ta f) (h2 : DE K T tb g) : DE K T (tCB rGcd (tCons ta (tCons tb tNil))) (fGcd f g) := de_b2 h1 h2 fun i j H Q _ q => ⟨i, j, rfl, q⟩
def fMax : Fe → Fe → Fe := f2 (gII c0 fun i j => .int (if j > i then j else i))
theorem de_max (h1 : DE K T ta f) (h2 : DE K T tb g) : DE K T (tCB (fun xs H Q => ∃ i j, xs = [.int i, .int j] ∧ Q (.int (if j > i then j else i)) H) (tCons ta (tCons tb tNil))) (fMax f g) := de_b2 h1 h2 fun i j H Q _ q => ⟨i, j, rfl, q⟩
def cPow (i j : Int) : Bool := decide (0 ≤ j) && decide (j ≤ 1000000) && decide (i.natAbs < 2 ^ 64)
def fPow : Fe → Fe → Fe := f2 (gII cPow fun i j => .int (i ^ j.toNat))
theorem de_pow (h1 : DE K T ta f) (h2 : DE K T tb g) : DE K T (tOp (rI CPow fun i j => .int (i ^ j.toNat)) ta tb) (fPow f g) := de_ii h1 h2 (fun i j H Q c q => ⟨i, j, rfl, rfl, by
  unfold cPow at c
  simp only [Bool.and_eq_true, decide_eq_true_eq] at c
  exact ⟨c.1.1, c.1.2, c.2⟩, q⟩) fun _ _ _ => .int _
/-! ### xs * n -/
def gRep : Sl → Sl → Option Sl := fun a b => match asL a, b with
  | some ds, .dat (.int n) => if -1000 ≤ n ∧ n ≤ 1000 ∧ ds.length ≤ 1000 then some (.dat (.list (List.replicate n.toNat ds).flatten)) else none
  | _, _ => none
theorem isl_rep {H : Hp} {vs : List V} {ds : List D} (h : IsL K H vs ds) : ∀ n : Nat, IsL K H (List.replicate n vs).flatten (List.replicate n ds).flatten
  | 0 => .nil
  | n + 1 => by
    rw [List.replicate_succ, List.replicate_succ, List.flatten_cons, List.flatten_cons]
    exact h.app (isl_rep h n)
theorem de_rep (h1 : DE K T ta f) (h2 : DE K T tb g) : DE K T (tOp rRep ta tb) (f2 gRep f g) := de_bin h1 h2 (by
  intro dm A0 H0 A σ H env k x y a b s Q S i1 i2 e hQ
  unfold gRep at e
  cases e1 : asL a with
  | none => rw [e1] at e; cases e
  | some ds =>
    rw [e1] at e
    cases b with
    | dat d =>
      cases d with
      | int n =>
        simp only at e
        by_cases hc : -1000 ≤ n ∧ n ≤ 1000 ∧ ds.length ≤ 1000
        · rw [if_pos hc] at e
          cases e
          obtain ⟨p, vs, rfl, h3, h4⟩ := is_lst i1 e1
          rw [is_int i2]
          refine ⟨p, n, vs, rfl, rfl, h3, by omega, by omega, ?_, fun q hq => hQ _ _ (S.new hq) (Lt.new hq) (mk_lst S.wd hq (isl_rep h4 _))⟩
          rw [h4.len]
          have h5 : ds.length * n.toNat ≤ 1000 * 1000 := Nat.mul_le_mul hc.2.2 (by omega)
          exact Nat.le_trans h5 (by decide)
        · rw [if_neg hc] at e; cases e
      | _ => cases e
    | _ => cases e)
/-! ### isinstance -/
def tyN : D → String
  | .none => "NoneType"
  | .bool _ => "bool"
  | .int _ => "int"
  | .str _ => "str"
  | .list _ => "list"
  | .tuple _ => "tuple"
  | .dict _ => "dict"
theorem ty_of {A : List Addr} {H : Hp} {v : V} {d : D} (h : Is K (hide A H) v d) : TyX K H v (.type (tyN d)) := by
  cases h with
  | non => exact .base .non
  | bl b => exact .base (.bl b)
  | int b => exact .base (.int b)
  | str b => exact .base (.str b)
  | lst h _ => exact .base (.lst (hide_some h).2)
  | tup h _ =>
    rcases sqt_out h with (h | ⟨o, h⟩) | ⟨o, its, n, h1, h2, _⟩
    · exact .base (.tup h)
    · exact .fTuple h
    · exact .kTuple h1 h2
  | dct h _ _ => exact .base (.dK (hide_some h).2)
/-- the answers that are asked for -/
def tyB (t n : String) : Bool := (t == n) || (t == "bool" && n == "int")
def isiB (n : String) (d : D) : Bool := tyB (tyN d) n
theorem tyB_kit : ∀ t ∈ ["NoneType", "bool", "int", "str", "list", "tuple", "dict"], ∀ n ∈ ["int", "bool", "tuple", "str", "list", "dict"], kitB t n = some (tyB t n) := by decide +kernel
theorem isi_kit (d : D) (n : String) (hn : n ∈ ["int", "bool", "tuple", "str", "list", "dict"]) : kitB (tyN d) n = some (isiB n d) := tyB_kit (tyN d) (by cases d <;> simp [tyN]) n hn
def gIsi (n : String) : Sl → Option Sl
  | .dat d => some (.dat (.bool (isiB n d)))
  | _ => none
theorem de_isi (n : String) (hn : n ∈ ["int", "bool", "tuple", "str", "list", "dict"]) (h1 : DE K T ta f) : DE K T (tCB (rIsi K) (tCons ta (tCons (tC (.ty n)) tNil))) (f1 (gIsi n) f) := by
  intro dm A0 H0 A σ H env k Q S s k' hf hQ
  obtain ⟨a, e1, e2⟩ := f1_some hf
  cases a with
  | dat d =>
    cases e2
    refine h1 dm A0 H0 A σ H env k _ S _ _ e1 fun x H1 S1 l1 i1 => ?_
    exact ⟨x, .ty n, _, _, isiB n d, rfl, .ty n, ty_of i1, kit_ty (isi_kit d n hn), hQ _ H1 S1 l1 (Is.bl _)⟩
  | _ => cases e2
/-! ### the deck -/
theorem deck_at {dm : Dm} {A0 : List Addr} {H0 : Hp} {A : List Addr} {σ : List (Option V)} {H : Hp} {env : List Sl} {k : Dk} {i : Nat} (S : Sta K T dm A0 H0 A σ H env k) (e : env[i]? = some .deck) : ∃ a c, dm = some (a, c) ∧ σ[i]? = some (some (.ref a)) ∧ a ∈ A ∧ c ∈ A ∧ a ≠ c ∧ DkAt H a c k := by
  have q := S.slot i
  rw [e] at q
  obtain ⟨a, c, h1, h2⟩ := q
  obtain ⟨h3, h4, h5, h6⟩ := S.wd.dk a c h1
  exact ⟨a, c, h1, h2, h3, h4, h5, h6⟩
def isDeck (env : List Sl) (i : Nat) : Bool := match env[i]? with
  | some .deck => true
  | _ => false
theorem isDeck_eq {env : List Sl} {i : Nat} (h : isDeck env i = true) : env[i]? = some .deck := by
  unfold isDeck at h
  split at h
  · assumption
  · cases h
/-- deck['mixed'], deck['turn'] -/
def fDkI (i : Nat) (p : Dk → Int) : Fe := fun env k => if isDeck env i = true then some (.dat (.int (p k)), k) else none
theorem de_dkMixed (i : Nat) : DE K T (tDGet (tVar i) (tC (.str "mixed"))) (fDkI i Dk.mixed) := by
  intro dm A0 H0 A σ H env k Q S s k' hf hQ
  unfold fDkI at hf
  by_cases hc : isDeck env i = true
  · rw [if_pos hc] at hf
    cases hf
    obtain ⟨a, c, h1, h2, h3, h4, h5, h6, h7⟩ := deck_at S (isDeck_eq hc)
    exact ⟨_, h2, a, .int k.mixed, rfl, DGet.k (k := Sum.inr "mixed") h6, hQ _ H S (Lt.refl _ _) (Is.int _)⟩
  · rw [if_neg hc] at hf; cases hf
theorem de_dkTurn (i : Nat) : DE K T (tDGet (tVar i) (tC (.str "turn"))) (fDkI i Dk.turn) := by
  intro dm A0 H0 A σ H env k Q S s k' hf hQ
  unfold fDkI at hf
  by_cases hc : isDeck env i = true
  · rw [if_pos hc] at hf
    cases hf
    obtain ⟨a, c, h1, h2, h3, h4, h5, h6, h7⟩ := deck_at S (isDeck_eq hc)
    exact ⟨_, h2, a, .int k.turn, rfl, DGet.k (k := Sum.inr "turn") h6, hQ _ H S (Lt.refl _ _) (Is.int _)⟩
  · rw [if_neg hc] at hf; cases hf
/-- deck['cells'] != [] -/
def fDkNe (i : Nat) : Fe := fun env k => if isDeck env i = true then some (.dat (.bool (!k.cells.isEmpty)), k) else none
theorem shaped_ints : ∀ ns : List Int, SeqAt.shaped (.list (ns.map PyData.int)) = true := by
  intro ns
  have h1 : ∀ ns : List Int, PyData.canLayAll0 (ns.map PyData.int) = true := fun ns => by
    induction ns with
    | nil => rfl
    | cons a r ih => simp only [List.map_cons, PyData.canLayAll0, PyData.canLay0, ih, Bool.and_self]
  have h2 : ∀ ns : List Int, PyData.depthAll (ns.map PyData.int) ≤ 1 := fun ns => by
    induction ns with
    | nil => simp [PyData.depthAll]
    | cons a r ih => simp only [List.map_cons, PyData.depthAll, PyData.depth]; omega
  unfold SeqAt.shaped
  have := h2 ns
  simp only [PyData.canLay0, h1, Bool.true_and, decide_eq_true_eq, PyData.depth]
  exact decide_eq_true (by omega)
theorem de_dkNe (i : Nat) : DE K T (tOp (rNeD K) (tDGet (tVar i) (tC (.str "cells"))) (tLst tNil)) (fDkNe i) := by
  intro dm A0 H0 A σ H env k Q S s k' hf hQ
  unfold fDkNe at hf
  by_cases hc : isDeck env i = true
  · rw [if_pos hc] at hf
    cases hf
    obtain ⟨a, c, h1, h2, h3, h4, h5, h6, h7⟩ := deck_at S (isDeck_eq hc)
    refine ⟨_, h2, a, .ref c, rfl, DGet.k (k := Sum.inr "cells") h6, by decide, fun p hp => ?_⟩
    have e7 : (upd H p (.lst [])) c = some (.lst (k.cells.map V.int)) := by rw [upd_ne (ne_of_none h7 hp)]; exact h7
    refine ⟨.list (k.cells.map PyData.int), .list [], .lst (.inl (.inl e7)) ?_, .lst (.inl (.inl upd_same)) .nil, shaped_ints _, by decide +kernel, ?_⟩
    · have : ∀ ns : List Int, DpAll K (upd H p (.lst [])) (ns.map V.int) (ns.map PyData.int) := fun ns => by
        induction ns with
        | nil => exact .nil
        | cons a r ih => exact .cons (.int a) ih
      exact this _
    · have e : (!PyData.eqv (.list (k.cells.map PyData.int)) (.list [])) = !k.cells.isEmpty := by
        cases k.cells with
        | nil => rfl
        | cons a r => simp [PyData.eqv, PyData.eqvAll]
      rw [e]
      exact hQ _ _ (S.new hp) (Lt.new hp) (Is.bl _)
  · rw [if_neg hc] at hf; cases hf
/-- a change of the deck -/
theorem Sta.turn {dm : Dm} {A0 : List Addr} {H0 : Hp} {A : List Addr} {σ : List (Option V)} {H H' : Hp} {env : List Sl} {k k' : Dk} {a c : Addr} (S : Sta K T dm A0 H0 A σ H env k) (hd : dm = some (a, c)) (hk : DkAt H' a c k')
    (he : ∀ b, b ≠ a → b ≠ c → H' b = H b) : Sta K T dm A0 H0 A σ H' env k' ∧ Lt dm H H' := by
  have dom : ∀ b, H b ≠ none → H' b ≠ none := fun b q => by
    by_cases h1 : b = a
    · rw [h1, hk.1]; simp
    · by_cases h2 : b = c
      · rw [h2, hk.2]; simp
      · rw [he b h1 h2]; exact q
  have l : Lt dm H H' := ⟨fun b o q _ n => by rw [he b (n a c hd).1 (n a c hd).2]; exact q, dom⟩
  obtain ⟨h3, h4, h5, h6⟩ := S.wd.dk a c hd
  have w : Wd T dm A H' k' := ⟨fun b hb => dom b (S.wd.dom b hb), fun P hP => by
    obtain ⟨ps, q, t⟩ := S.wd.tab P hP
    refine ⟨ps, ?_, t⟩
    rw [he P (fun z => by rw [z, h6.1] at q; cases q) (fun z => by rw [z, h6.2] at q; cases q)]
    exact q, fun a' c' e => by
    rw [hd] at e
    cases e
    exact ⟨h3, h4, h5, hk⟩⟩
  exact ⟨S.at w l, l⟩
/-- deck['cells'].pop() -/
def fDkPop (i : Nat) : Fe := fun env k => if isDeck env i = true then (k.cells.getLast?).map fun z => (.dat (.int z), { k with cells := k.cells.dropLast }) else none
theorem de_dkPop (i : Nat) : DE K T (tBM0 K "list" rPop (tDGet (tVar i) (tC (.str "cells")))) (fDkPop i) := by
  intro dm A0 H0 A σ H env k Q S s k' hf hQ
  unfold fDkPop at hf
  by_cases hc : isDeck env i = true
  · rw [if_pos hc] at hf
    cases e : k.cells.getLast? with
    | none => rw [e] at hf; cases hf
    | some z =>
      rw [e] at hf
      cases hf
      obtain ⟨a, c, h1, h2, h3, h4, h5, h6, h7⟩ := deck_at S (isDeck_eq hc)
      have ne : k.cells ≠ [] := fun q => by rw [q] at e; cases e
      have e2 : (k.cells.map V.int)[(k.cells.map V.int).length - 1]? = some (.int z) := by
        rw [List.length_map, List.getElem?_map, ← List.getLast?_eq_getElem?, e]
        rfl
      refine ⟨_, h2, a, .ref c, rfl, DGet.k (k := Sum.inr "cells") h6, .inl ⟨rfl, _, .inl (.inl h7)⟩, c, _, .int z, rfl, rfl, h7, e2, ?_⟩
      obtain ⟨S2, l2⟩ := S.turn (H' := upd H c (.lst (k.cells.map V.int).dropLast)) (k' := { k with cells := k.cells.dropLast }) h1 ⟨by rw [upd_ne h5]; exact h6, by rw [upd_same, List.map_dropLast]⟩ fun b _ n => upd_ne n
      exact hQ _ _ S2 l2 (Is.int _)
  · rw [if_neg hc] at hf; cases hf
/-- deck['cells'].append(e) -/
def sDkApp (i : Nat) (f : Fe) : Fs := fun env k => if isDeck env i = true then match f env k with
    | some (.dat (.int z), k') => if k'.cells.length < 1000000 then .nx env { k' with cells := k'.cells ++ [z] } else .bad
    | _ => .bad
  else .bad
theorem ds_dkApp (i : Nat) (h1 : DE K T ta f) : DS K T (tDrop (tBM K "list" rAppend (tDGet (tVar i) (tC (.str "cells"))) (tCons ta tNil))) (sDkApp i f) := by
  intro dm A0 H0 A σ H env k E S o
  unfold sDkApp at o
  by_cases hc : isDeck env i = true
  · rw [if_pos hc] at o
    split at o
    · rename_i z k' e1
      by_cases hl : k'.cells.length < 1000000
      · rw [if_pos hl] at o
        obtain ⟨a, c, h1', h2, h3, h4, h5, h6, h7⟩ := deck_at S (isDeck_eq hc)
        refine ⟨_, h2, a, .ref c, rfl, DGet.k (k := Sum.inr "cells") h6, .inl ⟨rfl, _, .inl (.inl h7)⟩, ?_⟩
        refine h1 dm A0 H0 A σ H env k _ S _ k' e1 fun v H1 S1 l1 i1 => ?_
        obtain ⟨_, _, _, g6, g7⟩ := S1.wd.dk a c h1'
        rw [is_int i1]
        refine ⟨c, _, .int z, rfl, rfl, g7, Nat.lt_of_lt_of_le (by rw [List.length_map]; exact hl) (by decide), ?_⟩
        obtain ⟨S2, l2⟩ := S1.turn (H' := upd H1 c (.lst (k'.cells.map V.int ++ [V.int z]))) (k' := { k' with cells := k'.cells ++ [z] }) h1' ⟨by rw [upd_ne h5]; exact g6, by rw [upd_same, List.map_append]; rfl⟩ fun b _ n => upd_ne n
        exact o A σ _ S2 (tr_of_lt S.wd (l1.trans l2))
      · rw [if_neg hl] at o; exact o.elim
    · exact o.elim
  · rw [if_neg hc] at o; exact o.elim
/-- deck['mixed'] = e, deck['turn'] = e -/
def sDkPut (i : Nat) (p : Dk → Int → Dk) (f : Fe) : Fs := fun env k => if isDeck env i = true then match f env k with
    | some (.dat (.int z), k') => .nx env (p k' z)
    | _ => .bad
  else .bad
def putMixed (k : Dk) (z : Int) : Dk := { k with mixed := z }
def putTurn (k : Dk) (z : Int) : Dk := { k with turn := z }
theorem ds_dkMixed (i : Nat) (h1 : DE K T ta f) : DS K T (sDPut (tVar i) (tC (.str "mixed")) ta) (sDkPut i putMixed f) := by
  intro dm A0 H0 A σ H env k E S o
  unfold sDkPut at o
  by_cases hc : isDeck env i = true
  · rw [if_pos hc] at o
    split at o
    · rename_i z k' e1
      obtain ⟨a, c, h1', h2, h3, h4, h5, h6, h7⟩ := deck_at S (isDeck_eq hc)
      refine h1 dm A0 H0 A σ H env k _ S _ k' e1 fun v H1 S1 l1 i1 => ?_
      obtain ⟨_, _, _, g6, g7⟩ := S1.wd.dk a c h1'
      rw [is_int i1]
      refine ⟨_, h2, a, _, rfl, DPut.k (k := Sum.inr "mixed") g6 (by show 3 < sizeLine; decide), ?_⟩
      obtain ⟨S2, l2⟩ := S1.turn (H' := upd H1 a _) (k' := putMixed k' z) h1' ⟨by rw [upd_same] <;> rfl, by rw [upd_ne (Ne.symm h5)]; exact g7⟩ fun b n _ => upd_ne n
      exact o A σ _ S2 (tr_of_lt S.wd (l1.trans l2))
    · exact o.elim
  · rw [if_neg hc] at o; exact o.elim
theorem ds_dkTurn (i : Nat) (h1 : DE K T ta f) : DS K T (sDPut (tVar i) (tC (.str "turn")) ta) (sDkPut i putTurn f) := by
  intro dm A0 H0 A σ H env k E S o
  unfold sDkPut at o
  by_cases hc : isDeck env i = true
  · rw [if_pos hc] at o
    split at o
    · rename_i z k' e1
      obtain ⟨a, c, h1', h2, h3, h4, h5, h6, h7⟩ := deck_at S (isDeck_eq hc)
      refine h1 dm A0 H0 A σ H env k _ S _ k' e1 fun v H1 S1 l1 i1 => ?_
      obtain ⟨_, _, _, g6, g7⟩ := S1.wd.dk a c h1'
      rw [is_int i1]
      refine ⟨_, h2, a, _, rfl, DPut.k (k := Sum.inr "turn") g6 (by show 3 < sizeLine; decide), ?_⟩
      obtain ⟨S2, l2⟩ := S1.turn (H' := upd H1 a _) (k' := putTurn k' z) h1' ⟨by rw [upd_same] <;> rfl, by rw [upd_ne (Ne.symm h5)]; exact g7⟩ fun b n _ => upd_ne n
      exact o A σ _ S2 (tr_of_lt S.wd (l1.trans l2))
    · exact o.elim
  · rw [if_neg hc] at o; exact o.elim
/-! ### dict displays -/
theorem de_dnew : DE K T tDNewK (fC (.dict [])) := by
  intro dm A0 H0 A σ H env k Q S s k' hf hQ
  cases hf
  exact fun p hp => hQ _ _ (S.new hp) (Lt.new hp) (.dct (by rw [hide_out (notA S.wd hp)]; exact upd_same) rfl .nil)
end
end DL
set_option maxHeartbeats 4000000
namespace DL
open PySem PySem.Spec PyProof.Rows L2
/-! ### what isinstance asks of a value, at any later heap -/
def Kd (K : Fg) (h : Heap) (u : Value) (t : String) : Prop := ∃ P : Heap → Prop, PySem.W.KitX K u (.type t) P ∧ P h ∧ u ≠ .builtin "__main__.__loader__#opaque"
theorem Kd.keeps {X : Cx} {pins : List (Addr × Obj)} {σ : List (Option V)} {H : Hp} {s : Shared} {A : List Addr} {v : V} {d : D} {u : Value} (I : Inv X pins σ H s) (h : Is X.K (hide A H) v d) (r : RelV v u) {h2 : Heap}
    (k : ∀ a o, H a = some o → isT o = false → ∀ ob, s.heap.get? a = some ob → h2.get? a = some ob) (kk : ∀ b o, X.K.lookup b = some o → h2.get? b = some o) : Kd X.K h2 u (tyN d) := by
  cases h with
  | non => cases r; exact ⟨_, PySem.W.kitx_none, True.intro, fun z => nomatch z⟩
  | bl b => cases r; exact ⟨_, PySem.W.kitx_bool, True.intro, fun z => nomatch z⟩
  | int b => obtain ⟨t, rfl⟩ := r; exact ⟨_, PySem.W.kitx_int, True.intro, fun z => nomatch z⟩
  | str b => obtain ⟨t, rfl⟩ := r; exact ⟨_, PySem.W.kitx_str, True.intro, fun z => nomatch z⟩
  | @lst a xs ds ea _ =>
    cases r
    have ea' := (hide_some ea).2
    obtain ⟨_, _, n, _, h1⟩ := (show ObjOk X.prog X.w H s.heap a (.lst xs) from I.hok a _ ea')
    exact ⟨_, PySem.W.kitx_list, ⟨_, k a _ ea' rfl _ h1, rfl⟩, fun z => nomatch z⟩
  | @tup a xs ds ea _ =>
    cases r
    rcases sqt_out ea with (ea' | ⟨o, ea'⟩) | ⟨o, its, n, h1, h2, _⟩
    · obtain ⟨_, _, _, o, h1, h2, _⟩ := (show ObjOk X.prog X.w H s.heap a (.tup xs) from I.hok a _ ea')
      exact ⟨_, PySem.W.kitx_tuple, ⟨o, k a _ ea' rfl _ h1, h2⟩, fun z => nomatch z⟩
    · obtain ⟨_, _, _, _, o', h1, h2, _⟩ := (show ObjOk X.prog X.w H s.heap a (.frz o (.tup xs)) from I.hok a _ ea')
      exact ⟨_, PySem.W.kitx_tuple, ⟨o', k a _ ea' rfl _ h1, h2⟩, fun z => nomatch z⟩
    · exact ⟨_, PySem.W.kitx_tuple, ⟨o, kk a o h1, h2⟩, fun z => nomatch z⟩
  | @dct a kvs ds ea _ _ =>
    cases r
    have ea' := (hide_some ea).2
    obtain ⟨_, _, vs, _, o, es, ep, h1, h2, _⟩ := (show ObjOk X.prog X.w H s.heap a (.dK kvs) from I.hok a _ ea')
    exact ⟨_, PySem.W.kitx_dict, ⟨o, k a _ ea' rfl _ h1, h2.1⟩, fun z => nomatch z⟩
/-! ### a small def called at any place: is_integer -/
structure Raw (K : Fg) (mg : Str → Option Value) (h : Heap) : Prop where
  kin : K.In h
  gl : h.Ns mainGlobals mg
  bl : ∃ mb, h.Ns builtinsNs mb ∧ ∀ x : Str, x ≠ "__name__" → mb x = bootBuiltins x
  lim : h.NoLimit
theorem Raw.keeps {K : Fg} {mg : Str → Option Value} {h h' : Heap} (r : Raw K mg h) (k : ∀ b o, h.get? b = some o → h'.get? b = some o) : Raw K mg h' :=
  ⟨r.kin.keeps k, r.gl.keeps k, let ⟨mb, a, b⟩ := r.bl; ⟨mb, a.keeps k, b⟩, r.lim.keeps k⟩
theorem Keeps.trans' {s s1 s2 : Shared} (a : Keeps s s1) (b : Keeps s1 s2) : Keeps s s2 := by
  obtain ⟨h1, t1, rfl, k1⟩ := a
  obtain ⟨h2, t2, rfl, k2⟩ := b
  exact ⟨h2, t2, rfl, fun c o e => k2 c o (k1 c o e)⟩
/-- the text of is_integer -/
def intBody (q : Nat → Pos) : List Stmt := [.Return (some (.BoolOp .And [.Call (.Name "isinstance" (q 0)) [.Name "thing" (q 1), .Name "int" (q 2)] [] (q 3), .UnaryOp .Not (.Call (.Name "isinstance" (q 4)) [.Name "thing" (q 5), .Name "bool" (q 6)] [] (q 7)) (q 8)] (q 9))) (q 10)]
structure IntDef (st : Stmt) : Prop where
  body : ∃ q, defBody st = intBody q
  kind : (defScope st).kind = .function
  co : (defScope st).isCoroutine = false
  gen : (defScope st).isGenerator = false
  l1 : (defScope st).names.lookup ("thing" : Str) = some .local
  l2 : (defScope st).names.lookup ("isinstance" : Str) = some .globalImplicit
  l3 : (defScope st).names.lookup ("int" : Str) = some .globalImplicit
  l4 : (defScope st).names.lookup ("bool" : Str) = some .globalImplicit
section
variable {prog : Program} {w : World} {K : Fg} {mg : Str → Option Value} {A : Around} {E : Value → Shared → Prop} {s : Shared}
/-- isinstance(thing, T) in such a body -/
theorem raw_isi {env : Env} {m : Str → Option Value} {tn n : String} {nm : Str} {u : Value} {p0 p1 p2 p3 : Pos} {b : Bool} {Q : Value → Shared → Prop} (R : Raw K mg s.heap) (hk : env.scope.kind = .function) (hgl : env.globals = mainGlobals) (hbl : env.builtins = builtinsNs)
    (k1 : env.kindOf ("thing" : Str) = some .local) (k2 : env.kindOf ("isinstance" : Str) = some .globalImplicit) (k3 : env.kindOf nm = some .globalImplicit) (hns : s.heap.Ns env.locals m) (hm : m ("thing" : Str) = some u)
    (hi : mg ("isinstance" : Str) = none) (ht : mg nm = none) (hb : bootBuiltins nm = some (.type n)) (hn : nm ≠ "__name__") (hd : (nm == ("__debug__" : Str)) = false) (kd : Kd K s.heap u tn) (hkit : kitB tn n = some b)
    (hQ : ∀ tk, Q (.bool b) { s with toks := tk }) : wpAny (model prog w) A (eval (.Call (.Name "isinstance" p0) [.Name "thing" p1, .Name nm p2] [] p3) env) Q E s := by
  obtain ⟨mb, B1, B2⟩ := R.bl
  have gl : ∀ {y : Str} {v : Value} {pos : Pos} {Q' : Value → Shared → Prop}, env.kindOf y = some .globalImplicit → mg y = none → bootBuiltins y = some v → y ≠ "__name__" → (y == ("__debug__" : Str)) = false → Q' v s →
      wpAny (model prog w) A (eval (.Name y pos) env) Q' E s := fun {y v pos Q'} h1 h2 h3 h4 h5 h6 =>
    Calls.Name_function_global hk h1 (Calls.loadGlobal_builtin (by rw [hgl]; exact R.gl) h2 (by rw [hbl]; exact B1) ((B2 y h4).trans h3) h6) h5
  refine wpAny_Call_Name_kw (gl k2 hi (by decide +kernel : bootBuiltins "isinstance" = some (.builtin "isinstance")) (by decide) (by decide) ?_)
  refine PyProof.Rows.callWith_builtin1 ?_ (by rfl) (by rfl)
  have he1 : starEach [.Name "thing" p1, .Name nm p2] env = (false, eval (.Name "thing" p1) env) :: starEach [.Name nm p2] env := rfl
  have he2 : starEach [.Name nm p2] env = (false, eval (.Name nm p2) env) :: starEach [] env := rfl
  rw [he1]
  show wpAny _ _ (spliced ((false, eval (.Name "thing" p1) env) :: backTo p3 (starEach [.Name nm p2] env))) _ _ s
  refine Calls.spliced_cons (wpAny_Name (wpAny_loadName_local hk k1 hns hm ?_) (by decide))
  rw [he2]
  show wpAny _ _ (spliced ((false, eval (.Name nm p2) env) :: backTo p3 (starEach [] env))) _ _ s
  refine Calls.spliced_cons (gl k3 ht hb hn hd ?_)
  refine Calls.spliced_nil ?_
  obtain ⟨P, Z, hP, hx⟩ := kd
  exact PySem.W.kia_one Z R.kin hP (kit_ty hkit) hx hQ
theorem Kd.keeps' {h h' : Heap} {u : Value} {t : String} (k : Kd K h u t) (hu : ∀ P : Heap → Prop, PySem.W.KitX K u (.type t) P → P h → P h') : Kd K h' u t := by
  obtain ⟨P, Z, hP, hx⟩ := k
  exact ⟨P, Z, hu P Z hP, hx⟩
theorem raw_isint {st : Stmt} {f : Addr} {fd : FuncData} {u : Value} {tn : String} {b1 b2 : Bool} (F : Fun K "is_integer" "is_integer" st f fd) (D : IntDef st) (hargs : Binds K fd ["thing"] []) (R : Raw K mg s.heap)
    (hi : mg ("isinstance" : Str) = none) (h2 : mg ("int" : Str) = none) (h3 : mg ("bool" : Str) = none) (hroom : A.depth < recursionLimit) (kd : ∀ h' : Heap, (∀ b o, s.heap.get? b = some o → h'.get? b = some o) → Kd K h' u tn) (e1 : kitB tn "int" = some b1) (e2 : kitB tn "bool" = some b2) :
    wpAny (model prog w) A (call (.ref f) [u]) (fun y s' => y = .bool (b1 && !b2) ∧ Keeps s s') E s := by
  obtain ⟨oc, od, kV, doc, pm, an, cdv, ct, osl, rfl, look, cd⟩ := F.ex
  obtain ⟨q, hb⟩ := D.body
  refine wpAny_call (Att.call_fn (binds := [("thing", u)]) R.kin R.lim look cd hroom (hargs s [u] R.kin rfl) (by simp [D.l1]) (fun s₁ IC => ?_) D.co D.gen D.kind)
  have kept := IC.toInCall.keep
  have R1 := R.keeps kept
  have ns := IC.toInCall.ns
  have hm : bindL (envOfC "is_integer" (defScope st) s.heap.objs.size f cdv).kindOf [(("thing" : Str), u)] (fun _ => none) ("thing" : Str) = some u := by
    unfold bindL bindL
    rw [if_pos (show (envOfC "is_integer" (defScope st) s.heap.objs.size f cdv).kindOf ("thing" : Str) = some .local from D.l1)]
    simp
  obtain ⟨h1, tk1, e⟩ := IC.toInCall.same
  have K1 : Keeps s s₁ := ⟨h1, tk1, e, by rw [e] at kept; exact kept⟩
  rw [hb]
  show wpAny _ _ (execs (intBody q) _) _ _ s₁
  unfold intBody
  refine wpAny_execs_cons (wpAny_Return_some ?_)
  refine BoolOp_and ?_
  refine raw_isi R1 D.kind rfl rfl D.l1 D.l2 D.l3 ns hm hi h2 (by decide +kernel) (by decide) (by decide) (kd _ kept) e1 fun tk => ?_
  refine wpAny_truthy_bool ?_
  cases b1 with
  | false => exact ⟨rfl, Keeps.trans' K1 (GxR.keeps_tok _ _)⟩
  | true =>
    refine BoolOp_one (UnaryOp_ ?_)
    refine raw_isi (s := { s₁ with toks := tk }) R1 D.kind rfl rfl D.l1 D.l2 D.l4 ns hm hi h3 (by decide +kernel) (by decide) (by decide) (kd _ kept) e2 fun tk2 => ?_
    exact not_of (wpAny_truthy_bool ⟨rfl, Keeps.trans' K1 (GxR.keeps_tok _ _)⟩)
end
end DL
set_option maxHeartbeats 4000000
namespace DL
open PySem PySem.Spec PyProof.Rows L2
/-- the iterator over the tuple at t -/
def tupIt (t : Addr) : Obj := { cls := .type "tuple_iterator", data := .fields #[.ref t, .int 0 0] }
/-- the generator g, over n items, ready in s5: H1 was held before -/
def GReady (X : Cx) (pins : List (Addr × Obj)) (σ : List (Option V)) (H1 : Hp) (P : Addr) (n : Nat) (F : Nat → Value → Prop) (g : Addr) (s5 : Shared) : Prop :=
  ∃ (fp wr : List Addr) (G : Array GenState → Array GenState → Prop) (St : Nat → Shared → Prop), WalksS X.prog X.w X.A.in4 g fp wr G n F St ∧ St 0 s5 ∧ ((∀ i s, St i s → s.TypeIs (.ref g) "generator") ∧ (∀ b ∈ fp, b < s5.heap.objs.size) ∧ g ∈ fp) ∧
    ∀ s', Moved wr G s5 s' → ∃ H2, GxR.Tabbed P H1 H2 ∧ Inv X pins σ H2 s'
theorem gen_tup {X : Cx} {pins : List (Addr × Obj)} {σ : List (Option V)} {H : Hp} {s : Shared} {c P : Addr} {elt iter : Expr} {x : Str} {px gpos : Pos} {scope : Scope} {te : TE} {k : Nat} {Q' : Value → Shared → Prop} {α : Type} {R : α → Addr → List V → Hp → Prop}
    {F : α → List Value → Nat → Value → Prop} (room : Room k X.A) (TB : GxR.TabB X.base X.mg c P) (code : X.env.code = .ref c) (S : GxR.GenS X.env scope x) (src : PE X iter te) (fold : ∀ v, genFold iter X.env v = pure v) (I : Inv X pins σ H s)
    (h : te σ H fun v H1 => ∃ z t vs, v = .ref t ∧ SqT X.K H1 t vs ∧ GxR.TabG H1 P ∧ R z t vs H1)
    (hel : ∀ z t vs H1 s1 its, Inv X pins σ H1 s1 → R z t vs H1 → Vals vs its → ∀ (C : Addr) (cd : Value) (A' : Around) (E' : Value → Shared → Prop) (i : Nat) (u : Value) (s₂ : Shared) (m₂ : Str → Option Value), A'.handled = none → A'.depth ≤ X.A.depth + 1 → A'.units ≤ X.A.units + 8 →
      its[i]? = some u → s₂.heap.Ns C m₂ → m₂ x = some u → (∀ b o, b ≠ P → s1.heap.get? b = some o → s₂.heap.get? b = some o) →
      wpAny (model X.prog X.w) A' (eval elt (genEnv scope (cloFrom X.env.cells scope.names []) C cd builtinsNs X.env)) (fun y s₃ => F z its i y ∧ Keeps s₂ s₃) E' s₂)
    (hQ : ∀ z t vs its H1 g s5, R z t vs H1 → Vals vs its → GReady X pins σ H1 P its.length (F z its) g s5 → Q' (.ref g) s5) :
    wpAny (model X.prog X.w) X.A (eval (.GeneratorExp elt [⟨.Name x px, iter, [], 0⟩] scope gpos) X.env) Q' X.xe s := by
  have deep : X.A.depth < recursionLimit := room.depth
  refine wpAny_GeneratorExp_walksQD room.hd S.co (closure_ok S.free) S.cell S.dot S.loc S.kind deep ?_ fold
  refine thn (src.run pins s σ H _ I h) ?_
  rintro xv s1 ⟨v, H1, I1, rel, z0, t, vs, rfl, sq, ⟨ps, tblAt, trip⟩, hR⟩
  cases rel
  obtain ⟨its, vals, tupAt, _⟩ := I1.tuple sq
  have tupAt' : s1.heap.IsTuple t its.toArray := tupAt
  refine wpAny_pyIter_tuple tupAt' ?_
  have getP : s1.heap.get? P = some { cls := .none, data := .fields ps } := I1.hok P _ tblAt
  have ltP : P < s1.heap.objs.size := Heap.lt_size getP
  have getP2 : (s1.heap.push (tupIt t)).get? P = some { cls := .none, data := .fields ps } := Heap.get?_push_of_some _ getP
  have codeHd : PySem.W.CodeHd (s1.heap.push (tupIt t)) c P := TB.code.keeps fun b u e => Heap.get?_push_of_some _ (I1.bk b u e)
  have lim2 : (s1.heap.push (tupIt t)).NoLimit := I1.nolimit.push (tupIt t)
  have size2 : (s1.heap.push (tupIt t)).objs.size = s1.heap.objs.size + 1 := Heap.size_push ..
  have ltT : t < s1.heap.objs.size := by obtain ⟨ob, e, _⟩ := tupAt'; exact Heap.lt_size e
  have neTP : t ≠ P := fun z => by
    obtain ⟨ob, e, ec, _⟩ := tupAt'
    rw [z, getP] at e
    cases e
    cases ec
  have neSt : cStatics ≠ P := fun z => by
    obtain ⟨_, ⟨ob, es, ep, e, ed, _⟩, _⟩ := I1.nolimit
    rw [z, getP] at e
    cases e
    cases ed
  have ltSt : cStatics < s1.heap.objs.size := by obtain ⟨_, ns, _⟩ := I1.nolimit; exact ns.lt
  -- the code object is made, or stands
  have coded : ∀ Qc : Value → Shared → Prop, (∀ (cd : Value) (h3 : Heap) (tk : Nat) (ps' : Array Value), Heap.ExtBut P (s1.heap.push (tupIt t)) h3 → s1.heap.objs.size < h3.objs.size → h3.get? P = some { cls := .none, data := .fields ps' } →
      (∃ more, ps' = ps ++ more) → TriplesOk ps'.toList → Qc cd { s1 with heap := h3, toks := tk }) → wpAny (model X.prog X.w) X.A (genexprCode X.env gpos (X.env.qual ++ "<genexpr>") scope) Qc X.xe { s1 with heap := s1.heap.push (tupIt t) } := by
    intro Qc go
    cases hf : codeAmong gpos ps.toList with
    | none =>
      refine wpAny_genexprCodeX code (codeHd.code getP2 trip) (codeHd.tab getP2) hf fun c' h' tk ext ge lt isCode _ isTab _ => ?_
      obtain ⟨o1, w1, q1, q2, q3, q4, q5, q6, q7, q8, _, _, _, _, _, _, _, _, _, trip', _⟩ := isCode
      exact go _ h' tk _ ext (Nat.lt_of_lt_of_le (by rw [size2]; exact Nat.lt_succ_self _) (Nat.le_trans ge (Nat.le_of_lt lt))) isTab.2 ⟨_, rfl⟩ trip'
    | some cv =>
      refine wpAny_genexprCode_hit code (codeHd.code getP2 trip) hf ?_
      exact go cv (s1.heap.push (tupIt t)) s1.toks ps (Heap.ExtBut.refl _ _) (by rw [size2]; exact Nat.lt_succ_self _) getP2 ⟨#[], by simp⟩ trip
  refine ⟨lim2, coded _ fun cd h3 tk ps' ext size3 getP3 more trip3 => ?_⟩
  · skip
    obtain ⟨bm, ob, a1, a2, a3, a4, a5, a6, a7, a8⟩ := TB.bm
    have keep3 : ∀ b u, b ≠ P → s1.heap.get? b = some u → h3.get? b = some u := fun b u hb e => ext b u hb (Heap.get?_push_of_some _ e)
    refine wpAny_builtinsFor (m := X.mg) (by rw [I1.ok.glob]; exact ((I1.mod.glob.keeps I1.bk).push (tupIt t)).extBut ext TB.gP) a1 a2 (keep3 _ _ a4 (I1.bk _ _ a5)) a6 a7 a8 ?_
    have neIt : t ≠ s1.heap.objs.size := Nat.ne_of_lt ltT
    refine ⟨s1.heap.objs.size, [s1.heap.objs.size, t], [s1.heap.objs.size], its.toArray.size, (fun i v => its.toArray[i]? = some v), (fun i h => h.IsTupleIter s1.heap.objs.size t i ∧ h.IsTuple t its.toArray), (fun _ => true), F z0 its, rfl, fun A' hA => Walks.tuple hA _ _ neIt its.toArray, ?start, ?below, lim2.extBut ext neSt, ?notSt, ?quiet, ?ready⟩
    case start =>
      refine ⟨⟨tupIt t, ext _ _ (Nat.ne_of_gt ltP) (Heap.get?_push_size _ rfl), rfl, rfl⟩, ?_⟩
      obtain ⟨ob', e, r⟩ := tupAt'
      exact ⟨ob', keep3 t _ neTP e, r⟩
    case below =>
      intro b hb
      show b < h3.objs.size
      rcases List.mem_cons.mp hb with z | z
      · rw [z]; exact size3
      · rw [List.mem_singleton.mp z]; exact Nat.lt_trans ltT size3
    case notSt =>
      intro z
      exact Nat.ne_of_lt ltSt (List.mem_singleton.mp z)
    case quiet =>
      intro href hhref
      constructor
      · intro A' E' i v s₂ m₂ _ _ _ _ _ _ _
        simp only [List.forIn_nil]
        exact wpAny_pure ⟨rfl, GxR.keeps_refl _⟩
      · intro A' E' i v s₂ m₂ hA hD hU hPv _ hns hm hk
        refine hel z0 t vs H1 s1 its I1 hR vals _ cd A' E' i v s₂ m₂ hA hD hU (by rw [← List.getElem?_toArray]; exact hPv) hns hm fun b o hb e => ?_
        have e3 := keep3 b o hb e
        refine hk b (List.mem_range.mpr (Heap.lt_size e3)) (fun z => ?_) o (hhref b o e3)
        exact Nat.ne_of_lt (Heap.lt_size e) (List.mem_singleton.mp z)
    case ready =>
      intro g h5 tk5 gs bare above size5 keep5 W5 at5
      simp only [GxR.passing_true] at W5 at5
      have hl : (List.range its.toArray.size).length = its.length := by simp
      rw [hl] at W5
      have W6 : WalksS X.prog X.w X.A.in4 g _ _ _ its.length (F z0 its) _ := WalksS.mk W5.sub W5.grefl W5.gtrans W5.frame (fun i s Q E hi st q => by
        refine W5.item i s Q E hi st fun y s' hy st' mv => q y s' ?_ st' mv
        obtain ⟨j, hj, hF⟩ := hy
        obtain ⟨hlt, ej⟩ := List.getElem?_eq_some_iff.mp hj
        rw [List.getElem_range] at ej
        rw [ej]
        exact hF) W5.done W5.self
      refine hQ z0 t vs its H1 g _ hR vals ⟨_, _, _, _, W6, at5, ?ty, ?inv⟩
      case ty =>
        refine ⟨fun i s z => ?_, fun b hb => ?_, List.mem_cons_self⟩
        · obtain ⟨⟨o, nm, qn, ho, hc, _⟩, _⟩ := z
          exact ⟨o, ho, hc⟩
        · have e5 : h5.objs.size = g + 1 := size5
          have a3 : h3.objs.size < g := above
          show b < h5.objs.size
          rw [e5]
          rcases List.mem_cons.mp hb with z | z
          · rw [z]; exact Nat.lt_succ_self g
          · rcases List.mem_cons.mp z with z | z
            · rw [z]; exact Nat.lt_succ_of_lt a3
            · exact Nat.lt_succ_of_lt (Nat.lt_trans (List.mem_range.mp z) a3)
      case inv =>
        intro s' moved
        obtain ⟨more, em⟩ := more
        have stays : ∀ b u, s1.heap.get? b = some u → b ∉ h3.objs.size :: [s1.heap.objs.size] := fun b u e hb => by
          have hl := Heap.lt_size e
          rcases List.mem_cons.mp hb with z | z
          · rw [z] at hl
            exact absurd (Nat.lt_trans size3 hl) (Nat.lt_irrefl _)
          · rw [List.mem_singleton.mp z] at hl
            exact Nat.lt_irrefl _ hl
        have J := GxR.inv_tab (more := more) (h' := s'.heap) (g' := s'.gens) (d' := s'.drawn) (t' := s'.toks) I1 tblAt (fun b u hb e => moved.heap b u (stays b u e) (keep5 b u (keep3 b u hb e)))
          (by rw [← em]; exact moved.heap P _ (stays P _ getP) (keep5 P _ getP3)) (AllBare.movedS (I1.bare.push bare) moved)
        rw [GxR.sh_eta s1 s' moved.os] at J
        exact ⟨_, ⟨⟨ps ++ more, upd_same, by rw [← em]; exact trip3⟩, fun b hb => upd_ne hb⟩, J⟩

/-! ### all(is_integer(item) for item in t) -/
def isIntD (d : D) : Bool := isiB "int" d && !isiB "bool" d
def trD (p : D → Bool) (ds : List D) (j : Nat) : Bool := match ds[j]? with
  | some d => p d
  | none => false
theorem all_trD (p : D → Bool) (ds : List D) : (List.range ds.length).all (trD p ds) = ds.all p := by
  apply Bool.eq_iff_iff.mpr
  rw [List.all_eq_true, List.all_eq_true]
  refine ⟨fun h d hd => ?_, fun h j hj => ?_⟩
  · obtain ⟨j, hj, e⟩ := List.getElem_of_mem hd
    have q := h j (List.mem_range.mpr hj)
    unfold trD at q
    rw [List.getElem?_eq_getElem hj, e] at q
    exact q
  · have hj' := List.mem_range.mp hj
    unfold trD
    rw [List.getElem?_eq_getElem hj']
    exact h _ (List.getElem_mem hj')
def tAllI (K : Fg) (P : Addr) (te : TE) : TE := fun σ H Q => te σ H fun v H1 => ∃ t vs ds A, v = .ref t ∧ SqT K H1 t vs ∧ IsL K (hide A H1) vs ds ∧ GxR.TabG H1 P ∧ ∀ H2, GxR.Tabbed P H1 H2 → Q (.bl (ds.all isIntD)) H2
theorem pe_allInt {X : Cx} {c P : Addr} {iter : Expr} {x : Str} {px p pos gpos q1 q2 q3 : Pos} {scope : Scope} {te : TE} {k : Nat} {st : Stmt} {f : Addr} {fd : FuncData}
    (room : Room (k + 1) X.A) (hg : Gl X "all") (hm : X.mg "all" = none) (TB : GxR.TabB X.base X.mg c P) (code : X.env.code = .ref c) (S : GxR.GenS X.env scope x) (src : PE X iter te) (fold : ∀ v, genFold iter X.env v = pure v)
    (Fi : Fun X.K "is_integer" "is_integer" st f fd) (Di : IntDef st) (Bi : Binds X.K fd ["thing"] []) (gi : X.mg "is_integer" = some (.ref f)) (n1 : X.mg "isinstance" = none) (n2 : X.mg "int" = none) (n3 : X.mg "bool" = none)
    (k1 : scope.names.lookup ("is_integer" : Str) = some .globalImplicit)
    (hx : (x == ("__debug__" : Str)) = false := by decide) :
    PE X (.Call (.Name "all" p) [.GeneratorExp (.Call (.Name "is_integer" q1) [.Name x q2] [] q3) [⟨.Name x px, iter, [], 0⟩] scope gpos] [] pos) (tAllI X.K P te) := by
  constructor
  intro pins s σ H Q I h
  have star : starEach [Expr.GeneratorExp (.Call (.Name "is_integer" q1) [.Name x q2] [] q3) [⟨.Name x px, iter, [], 0⟩] scope gpos] X.env = (false, eval (.GeneratorExp (.Call (.Name "is_integer" q1) [.Name x q2] [] q3) [⟨.Name x px, iter, [], 0⟩] scope gpos) X.env) :: starEach [] X.env := rfl
  refine wpAny_Call_Name_kw (ld_blt I hg hm (by decide +kernel : bootBuiltins "all" = some (.builtin "all")) ?_)
  refine PyProof.Rows.callWith_builtin1 ?_ star (by rfl)
  rw [star]
  show wpAny _ _ (spliced ((false, eval _ X.env) :: backTo pos (starEach [] X.env))) _ _ s
  refine Calls.spliced_cons (gen_tup (α := List D) (R := fun ds t vs H1 => GxR.TabG H1 P ∧ ∃ A, IsL X.K (hide A H1) vs ds ∧ ∀ H2, GxR.Tabbed P H1 H2 → Q (.bl (ds.all isIntD)) H2) (F := fun ds _ i y => ∃ d, ds[i]? = some d ∧ y = .bool (isIntD d)) room TB code S src fold I ?_ ?_ ?_)
  · refine cast (congrArg (te σ H) ?_) h
    funext v H1
    apply propext
    constructor
    · rintro ⟨t, vs, ds, A, e1, e2, e3, e4, e5⟩
      exact ⟨ds, t, vs, e1, e2, e4, e4, A, e3, e5⟩
    · rintro ⟨ds, t, vs, e1, e2, e4, _, A, e3, e5⟩
      exact ⟨t, vs, ds, A, e1, e2, e3, e4, e5⟩
  · rintro ds t vs H1 s1 its I1 ⟨⟨ps, tblAt, _⟩, A, il, _⟩ vals C cd A' E' i u s₂ m₂ hA hD hU hi hns hm' keep
    obtain ⟨v, hv, rv⟩ : ∃ v, vs[i]? = some v ∧ RelV v u := by
      have hlen := vals.length
      obtain ⟨hlt, eu⟩ := List.getElem?_eq_some_iff.mp hi
      have hlt' : i < vs.length := by omega
      refine ⟨vs[i], List.getElem?_eq_getElem hlt', ?_⟩
      obtain ⟨u', hu', r'⟩ := vals.get (List.getElem?_eq_getElem hlt')
      rw [hi] at hu'
      cases hu'
      exact r'
    obtain ⟨d, hd, isd⟩ := il.getV hv
    have keepB : ∀ b o, X.base.get? b = some o → s₂.heap.get? b = some o := fun b o e => by
      obtain ⟨e1, e2⟩ := I1.bs b o e
      exact keep b o (fun z => by rw [z, tblAt] at e2; cases e2) e1
    have raw0 : Raw X.K X.mg X.base := ⟨I1.mod.kin, I1.mod.glob, I1.mod.blt, I1.mod.nolimit⟩
    have raw2 := raw0.keeps keepB
    have star2 : starEach [Expr.Name x q2] (genEnv scope (cloFrom X.env.cells scope.names []) C cd builtinsNs X.env) = (false, eval (.Name x q2) (genEnv scope (cloFrom X.env.cells scope.names []) C cd builtinsNs X.env)) :: starEach [] (genEnv scope (cloFrom X.env.cells scope.names []) C cd builtinsNs X.env) := rfl
    refine wpAny_Call_Name_kw (Calls.Name_function_global S.kind (show scope.names.lookup ("is_integer" : Str) = some .globalImplicit from k1) (Calls.loadGlobal_global (mg := X.mg) (by show s₂.heap.Ns X.env.globals X.mg; rw [I1.ok.glob]; exact raw2.gl) gi ?_) (by decide))
    refine PySem.W.callWith_K (h₀ := X.base) I1.mod.kin Fi.kp ?_ star2 (by rfl)
    rw [star2]
    show wpAny _ _ (spliced ((false, eval (.Name x q2) _) :: backTo q3 (starEach [] _))) _ _ s₂
    refine Calls.spliced_cons (wpAny_Name (wpAny_loadName_local S.kind (show scope.names.lookup x = some .local from S.loc) hns hm' ?_) hx)
    refine Calls.spliced_nil ⟨raw2.kin, ?_⟩
    have deep := room.dp
    refine wpAny_mono (raw_isint Fi Di Bi raw2 n1 n2 n3 (by omega) (fun h' hk => Kd.keeps I1 isd rv (fun a o ea et ob eo => hk _ _ (keep a ob (fun z => by rw [z, tblAt] at ea; cases ea; cases et) eo)) fun b o e => hk _ _ (raw2.kin b o e)) (isi_kit d "int" (by simp)) (isi_kit d "bool" (by simp))) (fun y s3 r => ⟨⟨d, hd, r.1⟩, r.2⟩) fun _ _ z => z
  · rintro ds t vs its H1 g s5 ⟨_, A, il, hq⟩ vals ⟨fp, wr, G, St, W, st0, _, hI⟩
    refine Calls.spliced_nil ?_
    have W1 := WalksS.in4_1 W
    have lens : its.length = ds.length := by rw [← vals.length, il.len]
    refine call_all_walkS (W1.self 0 _ _ _ st0 ⟨g, fp, wr, G, its.length, _, St, trD isIntD ds, rfl, W1, st0, ?_, fun s' mv => ?_⟩)
    · rintro j y sj Qj Ej ⟨d, hd, rfl⟩ hQj
      unfold trD at hQj
      rw [hd] at hQj
      exact wpAny_truthy_bool hQj
    · obtain ⟨H2, tab, J⟩ := hI s' mv
      rw [lens, all_trD]
      exact ⟨.bl _, H2, J, rfl, hq H2 tab⟩
/-- the reading over data -/
def gAllI : Sl → Option Sl := fun a => (asT a).map fun ds => .dat (.bool (ds.all isIntD))
theorem de_allI {K : Fg} {T : List Addr} {P : Addr} {ta : TE} {f : Fe} (hP : P ∈ T) (h1 : DE K T ta f) : DE K T (tAllI K P ta) (f1 gAllI f) := by
  intro dm A0 H0 A σ H env k Q S s k' hf hQ
  obtain ⟨a, e1, e2⟩ := f1_some hf
  unfold gAllI at e2
  cases e3 : asT a with
  | none => rw [e3] at e2; cases e2
  | some ds =>
    rw [e3] at e2
    cases e2
    refine h1 dm A0 H0 A σ H env k _ S _ _ e1 fun x H1 S1 l1 i1 => ?_
    obtain ⟨p, vs, rfl, g1, g2, g3⟩ := is_tup i1 e3
    refine ⟨p, vs, ds, A, rfl, g1, g3, S1.wd.tab P hP, fun H2 tb => ?_⟩
    obtain ⟨tG, eq⟩ := tb
    have l2 : Lt dm H1 H2 := ⟨fun b o hb z _ => by
      rw [eq b fun q => by
        obtain ⟨ps, e, _⟩ := S1.wd.tab P hP
        rw [q, e] at hb
        cases hb
        cases z]
      exact hb, fun b hb => by
      by_cases q : b = P
      · obtain ⟨ps, e, _⟩ := tG
        rw [q, e]; simp
      · rw [eq b q]; exact hb⟩
    have w2 : Wd T dm A H2 k' := ⟨fun b hb => l2.dom b (S1.wd.dom b hb), fun P' hP' => by
      by_cases q : P' = P
      · rw [q]; exact tG
      · obtain ⟨ps, e, t⟩ := S1.wd.tab P' hP'
        exact ⟨ps, by rw [eq P' q]; exact e, t⟩, fun a c e => by
      obtain ⟨q1, q2, q3, q4, q5⟩ := S1.wd.dk a c e
      obtain ⟨ps, ep, _⟩ := S1.wd.tab P hP
      exact ⟨q1, q2, q3, by rw [eq a fun z => by rw [z, ep] at q4; cases q4]; exact q4, by rw [eq c fun z => by rw [z, ep] at q5; cases q5]; exact q5⟩⟩
    exact hQ _ H2 (S1.at w2 l2) (l1.trans l2) (Is.bl _)
end DL
set_option maxHeartbeats 4000000
namespace DL
open PySem PySem.Spec PyProof.Rows L2
/-! ### data is read off the heap -/
theorem reads_key {k : Key} {v : Value} (h : Heap) (e : keyIs k v = true) : Reads h v (keyD k) [] := by
  rcases keyIs_shape e with ⟨i, t, rfl, rfl⟩ | ⟨x, t, rfl, rfl⟩
  · exact .int i t
  · exact .str x t
theorem reads_keys {P : Program} {w : World} (h : Heap) : ∀ {es : List DictEntry} {vs : List (Key × Value)} {kvs : List (Key × V)}, Pairs (mixKind P w) es vs → KV kvs vs → ReadsAll h (es.map (·.key)) (kvs.map fun p => keyD p.1) [] ∧ Vals (kvs.map fun p => p.2) (es.map (·.val))
  | _, _, _, .nil, .nil => ⟨.nil, .nil⟩
  | _, _, _, .cons h1 h2 t, .cons r q => by
    obtain ⟨i1, i2⟩ := reads_keys h t q
    obtain ⟨r1, r2⟩ := r
    rw [← h2] at r2
    refine ⟨?_, .cons r2 i2⟩
    have a : Reads h _ (keyD _) [] := reads_key h h1
    have b := ReadsAll.cons a i1
    rw [← r1] at b
    exact b
section
variable {X : Cx} {pins : List (Addr × Obj)} {σ : List (Option V)} {H : Hp} {s : Shared} {A : List Addr}
theorem kvs_reads {kvs : List (Key × V)} {a : Addr} (I : Inv X pins σ H s) (e : H a = some (.dK kvs)) : ∃ o es n, s.heap.get? a = some o ∧ o.cls = .type "dict" ∧ o.data = .dict es n ∧ ReadsAll s.heap (es.toList.map (·.key)) (kvs.map fun p => keyD p.1) [] ∧ Vals (kvs.map fun p => p.2) (es.toList.map (·.val)) := by
  obtain ⟨_, _, vs, kv, o, es, ep, h1, h2, h3, _, h4, _⟩ := (show ObjOk X.prog X.w H s.heap a (.dK kvs) from I.hok a _ e)
  obtain ⟨i1, i2⟩ := reads_keys s.heap h4 kv
  exact ⟨o, es, ep, h1, h2.1, h3, i1, i2⟩
mutual
theorem Is.reads (I : Inv X pins σ H s) : ∀ (d : D) (v : V) (u : Value), Is X.K (hide A H) v d → RelV v u → ∃ as, Reads s.heap u d as ∧ ∀ b ∈ as, H b ≠ none
  | .none, _, _, h, r => by cases h; cases r; exact ⟨_, .none, fun _ z => (nomatch z)⟩
  | .bool b, _, _, h, r => by cases h; cases r; exact ⟨_, .bool b, fun _ z => (nomatch z)⟩
  | .int i, _, _, h, r => by cases h; obtain ⟨t, rfl⟩ := r; exact ⟨_, .int i t, fun _ z => (nomatch z)⟩
  | .str x, _, _, h, r => by cases h; obtain ⟨t, rfl⟩ := r; exact ⟨_, .str x t, fun _ z => (nomatch z)⟩
  | .list ds, _, _, h, r => by
    cases h with
    | lst ha il =>
      cases r
      have ha' := (hide_some ha).2
      obtain ⟨its, rv, ⟨o, n, ho, hc, _, hd⟩, _⟩ := I.list (.inl (.inl ha'))
      obtain ⟨as, q1, q2⟩ := IsL.reads I ds _ its il rv
      exact ⟨_, .list ho hc hd q1, fun b hb => by
        rcases List.mem_cons.mp hb with z | z
        · rw [z, ha']; simp
        · exact q2 b z⟩
  | .tuple ds, _, _, h, r => by
    cases h with
    | tup ha il =>
      cases r
      obtain ⟨its, rv, ⟨o, ho, hc, n, hd⟩, _⟩ := I.tuple (sqt_out ha)
      obtain ⟨as, q1, q2⟩ := IsL.reads I ds _ its il rv
      exact ⟨_, .tuple ho hc hd q1, q2⟩
  | .dict ds, _, _, h, r => by
    cases h with
    | @dct a kvs _ ha ek il =>
      cases r
      have ha' := (hide_some ha).2
      obtain ⟨o, es, n, e1, e2, e3, rk, rv⟩ := kvs_reads I ha'
      obtain ⟨as, q1, q2⟩ := KvL.reads I ds _ _ il rv
      rw [ek] at rk
      exact ⟨_, .dict e1 e2 e3 rk q1, fun b hb => by
        have hb : b ∈ a :: [] ++ as := hb
        rcases List.mem_cons.mp hb with z | z
        · rw [z, ha']; simp
        · exact q2 b z⟩
theorem IsL.reads (I : Inv X pins σ H s) : ∀ (ds : List D) (vs : List V) (us : List Value), IsL X.K (hide A H) vs ds → Vals vs us → ∃ as, ReadsAll s.heap us ds as ∧ ∀ b ∈ as, H b ≠ none
  | [], _, _, h, r => by cases h; cases r; exact ⟨_, .nil, fun _ z => (nomatch z)⟩
  | d :: ds, _, _, h, r => by
    cases h with
    | cons h1 h2 =>
      cases r with
      | cons r1 r2 =>
        obtain ⟨as, q1, q2⟩ := Is.reads I d _ _ h1 r1
        obtain ⟨bs, q3, q4⟩ := IsL.reads I ds _ _ h2 r2
        exact ⟨_, .cons q1 q3, fun b hb => (List.mem_append.mp hb).elim (q2 b) (q4 b)⟩
theorem KvL.reads (I : Inv X pins σ H s) : ∀ (ds : List (D × D)) (vs : List V) (us : List Value), IsL X.K (hide A H) vs (ds.map fun p => p.2) → Vals vs us → ∃ as, ReadsAll s.heap us (ds.map fun p => p.2) as ∧ ∀ b ∈ as, H b ≠ none
  | [], _, _, h, r => by cases h; cases r; exact ⟨_, .nil, fun _ z => (nomatch z)⟩
  | (k, d) :: ds, _, _, h, r => by
    have h : IsL X.K (hide A H) _ (d :: ds.map fun p => p.2) := h
    cases h with
    | cons h1 h2 =>
      cases r with
      | cons r1 r2 =>
        obtain ⟨as, q1, q2⟩ := Is.reads I d _ _ h1 r1
        obtain ⟨bs, q3, q4⟩ := KvL.reads I ds _ _ h2 r2
        exact ⟨_, .cons q1 q3, fun b hb => (List.mem_append.mp hb).elim (q2 b) (q4 b)⟩
end
end

/-! ### repr -/
section
variable {X : Cx}
def okShow (d : D) : Bool := d.showable && decide (d.depth ≤ 60) && decide (d.shown.length ≤ 1000000)
def rRepr (K : Fg) : List V → Hp → VK → Prop := fun vs H Q => ∃ v d A, vs = [v] ∧ Is K (hide A H) v d ∧ okShow d = true ∧ Q (.str d.shown) H
theorem call_reprG (hgd : X.A.guards = some []) (hu : X.A.units + 64 < cLine) (hsy : ∃ o, X.base.get? sysModules = some o) : CallR X (.builtin "repr") (rRepr X.K) := by
  intro pins s σ H vs us Q I r h
  obtain ⟨v, d, A, rfl, isd, ok, q⟩ := h
  unfold okShow at ok
  simp only [Bool.and_eq_true, decide_eq_true_eq] at ok
  obtain ⟨⟨o1, o2⟩, o3⟩ := ok
  obtain ⟨u, rfl, ru⟩ := vals1 r
  have sz : d.shown.length ≤ sizeLine := Nat.le_trans o3 (by decide)
  obtain ⟨as, rd, has⟩ := Is.reads I d v u isd ru
  have fin : ∀ tk : Nat, EP X pins σ Q (.str d.shown s.toks) { s with toks := tk } := fun tk => ⟨.str d.shown, H, I.tok _, ⟨_, rfl⟩, q⟩
  have rd0 := rd
  cases rd with
  | none => exact call_repr_gives (PySem.typeIs_none s) F.slot_NoneType_repr F.entry_NoneType_repr (F.args_NoneType_repr_1 _) gives_none_repr (fin _) (hx := sz)
  | bool b => exact call_repr_gives (PySem.typeIs_bool s b) F.slot_bool_repr F.entry_bool_repr (F.args_bool_repr_1 _) (gives_bool_repr b) (fin _) (hx := sz)
  | int i t => exact PySem.P.repr_of_int (by simpa [PyData.showable] using o1) (fin _)
  | str x t => exact call_repr_gives (PySem.typeIs_str s x t) F.slot_str_repr F.entry_str_repr (F.args_str_repr_1 _) (gives_str_repr x t) (fin _) (hx := sz)
  | _ =>
    refine repr_of_reads' rd0 o1 (fun _ z => ?_) hgd (by omega) (fun _ _ e => e) (fun h' u' tk kept => ?_) sz
    · obtain ⟨o, eo⟩ := hsy
      exact has _ z (I.bs _ _ eo).2
    · exact ⟨.str _, H, I.kept (t' := tk) kept, ⟨_, rfl⟩, q⟩
end
section
variable {K : Fg} {T : List Addr} {ta tb : TE} {f g : Fe}
def gRepr : Sl → Option Sl
  | .dat d => if okShow d = true then some (.dat (.str d.shown)) else none
  | _ => none
theorem de_repr (h1 : DE K T ta f) : DE K T (tCB (rRepr K) (tCons ta tNil)) (f1 gRepr f) := de_b1 h1 (by
  intro dm A0 H0 A σ H env k x a s Q S i e hQ
  cases a with
  | dat d =>
    have e : (if okShow d = true then some (Sl.dat (.str d.shown)) else none) = some s := e
    by_cases hc : okShow d = true
    · rw [if_pos hc] at e
      cases e
      exact ⟨x, d, A, rfl, i, hc, hQ _ H S (Lt.refl _ _) (Is.str _)⟩
    · rw [if_neg hc] at e; cases e
  | _ => cases e)
end
end DL
set_option maxHeartbeats 4000000
namespace DL
open PySem PySem.Spec PyProof.Rows L2
/-! ### t[::-1] of a tuple -/
section
variable {prog : Program} {w : World} {A : Around} {E : Value → Shared → Prop} {s : Shared}
theorem sl_back {sl : Addr} {vl vu vs : Value} {n : Nat} {Q : Int × Int × Nat → Shared → Prop} (hs : s.heap.IsSliceOf sl vl vu vs) (p1 : IsPart vl none) (p2 : IsPart vu none) (p3 : IsPart vs (some (-1)))
    (h : Q ((n : Int) - 1, -1, n) s) : wpAny (model prog w) A (Builtin.Slice.sliceApplied (.ref sl) (pure (n : Int))) Q E s := by
  obtain ⟨os, atSl, clsSl, dataSl⟩ := id hs
  unfold Builtin.Slice.sliceApplied Builtin.Slice.sliceFields
  have fields := wpAny_bind (M := model prog w) (A := A) (E := E) (s := s) (m := field (.ref sl) 0) (f := fun a => field (.ref sl) 1 >>= fun b => field (.ref sl) 2 >>= fun c => pure (a, b, c)) (Q := fun r s' => r = (vl, vu, vs) ∧ s' = s)
    (wpAny_field atSl dataSl (x := vl) rfl (wpAny_bind (wpAny_field atSl dataSl (x := vu) rfl (wpAny_bind (wpAny_field atSl dataSl (x := vs) rfl (wpAny_pure ⟨rfl, rfl⟩))))))
  refine wpAny_bind (wpAny_mono fields (fun r s' e => ?_) fun _ _ z => z)
  obtain ⟨rfl, rfl⟩ := e
  refine wpAny_bind (HT.slicePart_ p3 ?_)
  show wpAny _ _ (if ((-1 : Int) == 0) = true then _ else _) _ _ _
  rw [if_neg (by decide)]
  refine wpAny_bind (HT.slicePart_ p1 (wpAny_bind (HT.slicePart_ p2 (wpAny_bind (wpAny_pure ?_)))))
  have places : Builtin.Slice.slicePlaces ((n : Int) - 1) (-1) (-1) = n := by
    unfold Builtin.Slice.slicePlaces
    rw [if_neg (by decide)]
    by_cases hn : (n : Int) - 1 > -1
    · rw [if_pos hn]
      have e : ((n : Int) - 1 - -1 - 1) / -(-1) + 1 = n := by
        have : (-(-1) : Int) = 1 := by decide
        rw [this, Int.ediv_one]
        omega
      rw [e]
      exact Int.toNat_natCast n
    · rw [if_neg hn]
      have : n = 0 := by omega
      subst this
      rfl
  show wpAny _ _ (pure ((n : Int) - 1, (-1 : Int), Builtin.Slice.slicePlaces ((n : Int) - 1) (-1) (-1))) _ _ _
  rw [places]
  exact wpAny_pure h
theorem fm_some {α β : Type} {f : α → Option β} {g : α → β} : ∀ (l : List α), (∀ k ∈ l, f k = some (g k)) → l.filterMap f = l.map g
  | [], _ => rfl
  | a :: r, h => by
    rw [List.filterMap_cons, h a List.mem_cons_self, List.map_cons, fm_some r fun k hk => h k (List.mem_cons_of_mem _ hk)]
theorem pick_back (xs : Array Value) : ((List.range xs.size).filterMap fun (k : Nat) => xs[(((xs.size : Nat) : Int) - 1 + (k : Int) * -1).toNat]?).toArray = xs.toList.reverse.toArray := by
  congr 1
  have key : ∀ k ∈ List.range xs.size, xs[(((xs.size : Nat) : Int) - 1 + (k : Int) * -1).toNat]? = some (xs.toList.reverse[k]?.getD Value.none) := fun k hk => by
    have hk := List.mem_range.mp hk
    have e : (((xs.size : Nat) : Int) - 1 + (k : Int) * -1).toNat = xs.size - 1 - k := by omega
    have lt : xs.size - 1 - k < xs.size := by omega
    have hk' : k < xs.toList.reverse.length := by rw [List.length_reverse, Array.length_toList]; exact hk
    rw [e, Array.getElem?_eq_getElem lt, List.getElem?_eq_getElem hk', Option.getD_some, List.getElem_reverse]
    simp
  rw [fm_some _ key]
  apply List.ext_getElem
  · rw [List.length_map, List.length_range, List.length_reverse, Array.length_toList]
  · intro i h1 h3
    rw [List.getElem_map, List.getElem_range, List.getElem?_eq_getElem h3, Option.getD_some]
theorem getItem_tup_back {t sl : Addr} {items : Array Value} {vl vu vs : Value} {Q : Value → Shared → Prop} (ht : IsTup s.heap t items) (hs : s.heap.IsSliceOf sl vl vu vs) (p1 : IsPart vl none) (p2 : IsPart vu none) (p3 : IsPart vs (some (-1)))
    (h : Q (.ref s.heap.objs.size) { s with heap := s.heap.push { cls := .type "tuple", data := .seq items.toList.reverse.toArray } }) (hsz : items.size ≤ sizeLine) : wpAny (model prog w) A (getItem (.ref t) (.ref sl)) Q E s := by
  have fits : sizeOk (.seq items.toList.reverse.toArray) := by
    show items.toList.reverse.toArray.size ≤ sizeLine
    rw [List.size_toArray, List.length_reverse, Array.length_toList]
    exact hsz
  obtain ⟨os, atSl, clsSl, _⟩ := id hs
  have tySl : s.TypeIs (.ref sl) "slice" := ⟨os, atSl, clsSl⟩
  unfold getItem
  try (with_reducible refine wpAny_holding ?_)
  first | (refine wpAny_bind (wpAny_pure ?_)) | skip
  refine wpAny_bind (wpAny_sequenceKey (IsTup.typeIs ht) (by decide) ?_)
  refine wpAny_bind (wpAny_callSpecial?_slot (name := Str.ofString "__getitem__") (IsTup.typeIs ht) slot_tuple_getitem (wpAny_call_entry slot_tuple_getitem (IsTup.typeIs ht) entry_tuple_getitem ?inner (args_tuple_getitem _ _)))
  case inner =>
    show wpAny _ _ (bind (Builtin.Tuple.tupleItemsOf (.ref t)) _) _ _ s
    refine wpAny_bind (tupleItemsOf_ ht (wpAny_bind (wpAny_typeOf tySl ?_)))
    rw [if_pos (by decide)]
    refine wpAny_bind (sl_back hs p1 p2 p3 ?_)
    have noWhole : ¬ ((((items.size : Nat) : Int) - 1 == 0 && (-1 : Int) == 1 && items.size == items.size) = true) := by simp
    show wpAny _ _ (if ((((items.size : Nat) : Int) - 1 == 0 && (-1 : Int) == 1 && items.size == items.size) = true) then _ else _) _ _ s
    rw [if_neg noWhole, pick_back]
    first
      | exact wpAny_bind (m := Builtin.Tuple.tupleExact _) (wpAny_newObj_type (wpAny_pure ⟨_, rfl, wpAny_pure h⟩) fits)
      | exact wpAny_bind (m := Builtin.Tuple.tupleExact _) (wpAny_newObj_type (wpAny_bind (wpAny_pure (wpAny_pure ⟨_, rfl, wpAny_pure h⟩))) fits)
      | exact wpAny_bind (wpAny_bind (m := Builtin.Tuple.tupleExact _) (wpAny_newObj_type (wpAny_pure (wpAny_pure ⟨_, rfl, wpAny_pure h⟩)) fits))
      | exact wpAny_bind (wpAny_bind (m := Builtin.Tuple.tupleExact _) (wpAny_newObj_type (wpAny_pure ⟨_, rfl, wpAny_pure h⟩) fits))
end
/-- t[::-1] -/
def tRevT (K : Fg) (te : TE) : TE := fun σ H Q => te σ H fun x H1 => ∃ a xs, x = .ref a ∧ SqT K H1 a xs ∧ ∀ p, H1 p = none → Q (.ref p) (upd H1 p (.tup xs.reverse))
theorem pe_revT {X : Cx} {e : Expr} {te : TE} {k : Nat} {p1 p2 p3 pos : Pos} (he : PE X e te) : PE X (.Subscript e (.Slice none none (some (.UnaryOp .USub (.Constant (.int 1) k p1) p2)) p3) pos) (tRevT X.K te) := by
  constructor
  intro pins s σ H Q I h
  refine Subscript_ (thn (he.run pins s σ H _ I h) ?_)
  rintro v s1 ⟨x, H1, I1, r1, a, xs, rfl, hx, q⟩
  cases r1
  have step : PO X (some (.UnaryOp .USub (.Constant (.int 1) k p1) p2)) (tPart (tUn (rU fun i => .int (-i)) (tC (.int 1)))) := po_some (pe_un un_neg pe_int)
  refine wpAny_Slice (thn (po_none.run pins s1 σ H1 (fun o H2 => o = none ∧ H2 = H1) I1 ⟨rfl, rfl⟩) ?_)
  rintro vl s2 ⟨_, H2, I2, pl, rfl, rfl⟩
  refine thn (po_none.run pins s2 σ H2 (fun o H3 => o = none ∧ H3 = H2) I2 ⟨rfl, rfl⟩) ?_
  rintro vu s3 ⟨_, H3, I3, pu, rfl, rfl⟩
  refine thn (step.run pins s3 σ H3 (fun o H4 => o = some (-1) ∧ H4 = H3) I3 ⟨1, rfl, -1, rfl, rfl, rfl⟩) ?_
  rintro vs s4 ⟨_, H4, I4, ps, rfl, rfl⟩
  have I5 : Inv X pins σ H4 { s4 with heap := s4.heap.push { cls := .type "slice", data := .fields #[vl, vu, vs] } } := I4.kept (t' := s4.toks) fun b ob z => Heap.get?_push_of_some _ z
  obtain ⟨its, r, ht, hz⟩ := I5.tuple hx
  have hlen := r.length
  show wpAny (model X.prog X.w) X.A (subscriptTail e _ (.ref a) (.ref s4.heap.objs.size)) (EP X pins σ Q) X.xe { s4 with heap := s4.heap.push { cls := .type "slice", data := .fields #[vl, vu, vs] } }
  refine tail_any (ops := [.ref a, .ref s4.heap.objs.size]) (IsTup.typeIs ht) slot_tuple_getitem.lookup ?_ (by with_unfolding_all rfl)
  refine getItem_tup_back ht (Heap.IsSliceOf.new _ vl vu vs) pl pu ps ?_ (by rw [List.size_toArray]; omega)
  refine ⟨.ref _, _, I5.laid (t' := s4.toks) (o := .tup xs.reverse) (fun b ob z => Heap.get?_push_of_some _ z) (Nat.le_refl _) ⟨by rw [List.length_reverse]; exact hz, _, r.reverse, IsTup.new _ _⟩, rfl, q _ (I5.hok.fresh (Nat.le_refl _))⟩
section
variable {K : Fg} {T : List Addr} {ta tb : TE} {f g : Fe}
def fRevT (f : Fe) : Fe := f1 (fun s => (asT s).map fun ds => .dat (.tuple ds.reverse)) f
theorem de_revT (h1 : DE K T ta f) : DE K T (tRevT K ta) (fRevT f) := by
  intro dm A0 H0 A σ H env k Q S s k' hf hQ
  obtain ⟨a, e1, e2⟩ := f1_some hf
  cases e3 : asT a with
  | none => rw [e3] at e2; cases e2
  | some ds =>
    rw [e3] at e2
    cases e2
    refine h1 dm A0 H0 A σ H env k _ S _ _ e1 fun x H1 S1 l1 i1 => ?_
    obtain ⟨p, vs, rfl, g1, _, g3⟩ := is_tup i1 e3
    exact ⟨p, vs, rfl, g1, fun q hq => hQ _ _ (S1.new hq) (l1.trans (Lt.new hq)) (mk_tup S1.wd hq g3.rev)⟩
/-! ### {k: e, ..} -/
inductive DPs (K : Fg) (T : List Addr) : List (TE × TE) → List (Key × Fe) → Prop
  | nil : DPs K T [] []
  | cons {k : Key} {te : TE} {f : Fe} {trs : List (TE × TE)} {kfs : List (Key × Fe)} : DE K T te f → DPs K T trs kfs → DPs K T ((tC (kV k), te) :: trs) ((k, f) :: kfs)
def fPairs : List (Key × Fe) → List Sl → Dk → Option (List (Key × D) × Dk)
  | [], _, k => some ([], k)
  | (key, f) :: r, env, k => (f env k).bind fun p => match p.1 with
    | .dat d => (fPairs r env p.2).map fun q => ((key, d) :: q.1, q.2)
    | _ => none
theorem pairs_run {dm : Dm} {A0 : List Addr} {H0 : Hp} {A : List Addr} {env : List Sl} {σ : List (Option V)} : ∀ {trs : List (TE × TE)} {kfs : List (Key × Fe)}, DPs K T trs kfs → ∀ {H : Hp} {k k' : Dk} {kds : List (Key × D)} {Q : List (V × V) → Hp → Prop}, Sta K T dm A0 H0 A σ H env k → fPairs kfs env k = some (kds, k') →
    (∀ (kvs : List (Key × V)) H', Sta K T dm A0 H0 A σ H' env k' → Lt dm H H' → kvs.map (fun p => p.1) = kds.map (fun p => p.1) → IsL K (hide A H') (kvs.map fun p => p.2) (kds.map fun p => p.2) → Q (kvs.map fun kv => (kV kv.1, kv.2)) H') → tPairs trs σ H Q
  | _, _, .nil, H, k, k', kds, Q, S, e, hQ => by
    cases e
    exact hQ [] H S (Lt.refl _ _) rfl .nil
  | _, _, .cons (k := key) (f := f) (kfs := kfs) h hr, H, k, k', kds, Q, S, e, hQ => by
    unfold fPairs at e
    cases e1 : f env k with
    | none => rw [e1] at e; cases e
    | some p =>
      obtain ⟨s, k1⟩ := p
      rw [e1] at e
      simp only [Option.bind_some] at e
      cases s with
      | dat d =>
        simp only at e
        cases e2 : fPairs kfs env k1 with
        | none => rw [e2] at e; cases e
        | some q =>
          rw [e2] at e
          cases e
          refine h dm A0 H0 A σ H env k _ S _ _ e1 fun v H1 S1 l1 i1 => ?_
          exact pairs_run hr S1 e2 fun kvs H2 S2 l2 ek il => hQ ((key, v) :: kvs) H2 S2 (l1.trans l2) (by rw [List.map_cons, List.map_cons, ek]) (.cons (i1.lt S1.wd l2) il)
      | _ => cases e
theorem merge_nodup : ∀ (kvs acc : List (Key × V)), ((acc ++ kvs).map fun p => p.1).Nodup → mergeK acc kvs = acc ++ kvs
  | [], acc, _ => by show acc = acc ++ []; rw [List.append_nil]
  | (k, v) :: r, acc, h => by
    show mergeK (putK acc k v) r = _
    have hk : valV acc k = none := by
      cases e : valV acc k with
      | none => rfl
      | some z =>
        have m := valV_in e
        rw [List.map_append, List.map_cons, List.nodup_append] at h
        exact absurd rfl (h.2.2 k m k List.mem_cons_self)
    have e : acc ++ [(k, v)] ++ r = acc ++ (k, v) :: r := by simp
    rw [putK_new v hk, merge_nodup r (acc ++ [(k, v)]) (by rw [e]; exact h), e]
def fDisp (kfs : List (Key × Fe)) : Fe := fun env k => if (kfs.map fun p => p.1).Nodup ∧ kfs.length ≤ 15 then (fPairs kfs env k).map fun q => (.dat (.dict (q.1.map fun p => (keyD p.1, p.2))), q.2) else none
theorem pairs_keys : ∀ {kfs : List (Key × Fe)} {env : List Sl} {k k' : Dk} {kds : List (Key × D)}, fPairs kfs env k = some (kds, k') → kds.map (fun p => p.1) = kfs.map (fun p => p.1)
  | [], _, _, _, _, e => by cases e; rfl
  | (key, f) :: r, env, k, k', kds, e => by
    unfold fPairs at e
    cases e1 : f env k with
    | none => rw [e1] at e; cases e
    | some p =>
      obtain ⟨s, k1⟩ := p
      rw [e1] at e
      simp only [Option.bind_some] at e
      cases s with
      | dat d =>
        simp only at e
        cases e2 : fPairs r env k1 with
        | none => rw [e2] at e; cases e
        | some q => rw [e2] at e; cases e; rw [List.map_cons, List.map_cons, pairs_keys e2]
      | _ => cases e
theorem de_disp {trs : List (TE × TE)} {kfs : List (Key × Fe)} (h : DPs K T trs kfs) : DE K T (tDisp trs) (fDisp kfs) := by
  intro dm A0 H0 A σ H env k Q S s k' hf hQ
  unfold fDisp at hf
  by_cases hc : (kfs.map fun p => p.1).Nodup ∧ kfs.length ≤ 15
  · rw [if_pos hc] at hf
    cases e : fPairs kfs env k with
    | none => rw [e] at hf; cases hf
    | some q =>
      obtain ⟨kds, k1⟩ := q
      rw [e] at hf
      cases hf
      intro p hp
      have p0 : p ∉ A0 := fun m => notA S.wd hp (S.sub p m)
      refine pairs_run h (S.hid (o := .dK []) hp) e fun kvs H2 S2 l2 ek il => ?_
      have at2 : H2 p = some (.dK []) := l2.keep p _ upd_same rfl fun a c z => ⟨fun q => p0 (q ▸ (S.dm0 a c z).1), fun q => p0 (q ▸ (S.dm0 a c z).2)⟩
      have len : kvs.length = kfs.length := by
        have := congrArg List.length (ek.trans (pairs_keys e))
        rwa [List.length_map, List.length_map] at this
      have mg : mergeK [] kvs = kvs := merge_nodup kvs [] (by rw [List.nil_append, ek, pairs_keys e]; exact hc.1)
      refine ⟨at2, kvs, rfl, by rw [len]; exact hc.2, ?_⟩
      rw [mg]
      have ne : ∀ b u, H b = some u → b ≠ p := fun b u q z => by rw [z, hp] at q; cases q
      have l3 : Lt dm H (upd H2 p (.dK kvs)) := ⟨fun b u q z n => by rw [upd_ne (ne b u q)]; exact l2.keep b u (by rw [upd_ne (ne b u q)]; exact q) z n, fun b q => by
        by_cases z : b = p
        · rw [z, upd_same]; simp
        · rw [upd_ne z]; exact l2.dom b (by rw [upd_ne z]; exact q)⟩
      have pA : p ∉ A := notA S.wd hp
      have w3 : Wd T dm A (upd H2 p (.dK kvs)) k1 := by
        refine ⟨fun b hb => l3.dom b (S.wd.dom b hb), fun P hP => ?_, fun a c z => ?_⟩
        · obtain ⟨ps, q, t⟩ := S2.wd.tab P hP
          exact ⟨ps, by rw [upd_ne fun z => by rw [z, at2] at q; cases q]; exact q, t⟩
        · obtain ⟨q1, q2, q3, q4, q5⟩ := S2.wd.dk a c z
          exact ⟨S.sub a (S.dm0 a c z).1, S.sub c (S.dm0 a c z).2, q3, by rw [upd_ne (fun y : a = p => p0 (y ▸ (S.dm0 a c z).1))]; exact q4, by rw [upd_ne (fun y : c = p => p0 (y ▸ (S.dm0 a c z).2))]; exact q5⟩
      refine hQ _ _ (S.at w3 l3) l3 ?_
      have hh : hide (p :: A) (upd H2 p (.dK kvs)) = hide (p :: A) H2 := hide_upd List.mem_cons_self _
      refine Is.dct (by rw [hide_out pA]; exact upd_same) ?_ (IsL.kp (hide_mono fun b hb => List.mem_cons_of_mem _ hb) (by rw [hh, List.map_map]; exact il))
      have e2 := congrArg (List.map keyD) ek
      rw [List.map_map, List.map_map] at e2
      rw [List.map_map]
      exact e2
  · rw [if_neg hc] at hf; cases hf
end
end DL
set_option maxHeartbeats 4000000
namespace DL
open PySem PySem.Spec PyProof.Rows L2
/-! ### the door: how a law's call begins and ends -/
/-- the object of a table that nobody has written to -/
def clean : Obj := { cls := .none, data := .fields #[] }
def lstObj (vs : List Value) : Obj := { cls := .type "list", data := .seq vs.toArray }
/-- all that is known where the law is called -/
structure Door (K : Fg) (mg mb : Str → Option Value) (s : Shared) (a : Addr) (tb : List Addr) (cs : List (Addr × Addr)) (vs : List Value) (ns : List Int) : Prop where
  kin : K.In s.heap
  glo : s.heap.Ns mainGlobals mg
  blt : s.heap.Ns builtinsNs mb
  blb : ∀ x : Str, x ≠ "__name__" → mb x = bootBuiltins x
  lim : s.heap.NoLimit
  gen : s.gens = #[]
  emp : ∀ b ∈ tb, s.heap.get? b = some clean
  off : ∀ b ∈ tb, K.lookup b = none
  cod : ∀ p ∈ cs, p.2 ∈ tb ∧ PySem.W.CodeHd s.heap p.1 p.2
  cds : ∀ b ∈ tb, ∃ p ∈ cs, p.2 = b
  bmn : ∃ (bm : Addr) (ob : Obj), mg "__builtins__" = some (.ref bm) ∧ bm ≠ builtinsNs ∧ s.heap.get? bm = some ob ∧ ob.cls = .type "module" ∧ ob.dict = some builtinsNs ∧ ob.data = .plain
  scr : s.heap.get? a = some (lstObj vs)
  nums : IntsAre vs ns
  short : ns.length ≤ sizeLine
open Classical in
/-- what is followed from the start: the tables, and the script where it is no part of the written -/
noncomputable def seen (K : Fg) (a : Addr) (tb : List Addr) (vs : List Value) (ns : List Int) : Hp := fun b =>
  if b ∈ tb then some (.tbl #[]) else if b = a ∧ K.lookup a = none then some (.frz (lstObj vs) (.lst (ns.map V.int))) else none
section
variable {K : Fg} {mg mb : Str → Option Value} {s : Shared} {a : Addr} {tb : List Addr} {cs : List (Addr × Addr)} {vs : List Value} {ns : List Int}
theorem seen_tb {b : Addr} (h : b ∈ tb) : seen K a tb vs ns b = some (.tbl #[]) := by unfold seen; exact if_pos h
theorem seen_no {b : Addr} (h : b ∉ tb) (n : ¬ (b = a ∧ K.lookup a = none)) : seen K a tb vs ns b = none := by unfold seen; rw [if_neg h, if_neg n]
theorem seen_sc (h : a ∉ tb) (n : K.lookup a = none) : seen K a tb vs ns a = some (.frz (lstObj vs) (.lst (ns.map V.int))) := by unfold seen; rw [if_neg h, if_pos ⟨rfl, n⟩]
theorem seen_cases (b : Addr) : b ∈ tb ∨ (b ∉ tb ∧ b = a ∧ K.lookup a = none) ∨ (b ∉ tb ∧ seen K a tb vs ns b = none) := by
  by_cases h : b ∈ tb
  · exact .inl h
  · by_cases n : b = a ∧ K.lookup a = none
    · exact .inr (.inl ⟨h, n⟩)
    · exact .inr (.inr ⟨h, seen_no h n⟩)
variable (d : Door K mg mb s a tb cs vs ns)
theorem Door.apart (d : Door K mg mb s a tb cs vs ns) : a ∉ tb := fun h => by
  have e := d.emp a h
  rw [d.scr] at e
  exact nomatch (congrArg (fun o : Option Obj => o.map Obj.data) e)
/-- an object of another kind is not followed -/
theorem Door.clear (d : Door K mg mb s a tb cs vs ns) {b : Addr} {o : Obj} (e : s.heap.get? b = some o) (n1 : ∀ us k, o.data ≠ .seq us k) (n2 : o.data ≠ .fields #[]) : seen K a tb vs ns b = none := by
  rcases seen_cases (K := K) (a := a) (tb := tb) (vs := vs) (ns := ns) b with h | ⟨_, rfl, _⟩ | ⟨_, h⟩
  · rw [d.emp b h] at e; cases e; exact absurd rfl n2
  · rw [d.scr] at e; cases e; exact absurd rfl (n1 _ _)
  · exact h
theorem Door.below (d : Door K mg mb s a tb cs vs ns) {b : Addr} {o : Obj} (e : s.heap.get? b = some o) (n1 : ∀ us k, o.data ≠ .seq us k) (n2 : o.data ≠ .fields #[]) : (hidT s.heap (seen K a tb vs ns)).get? b = some o := hidT_get e (d.clear e n1 n2)
theorem Door.names (d : Door K mg mb s a tb cs vs ns) {b : Addr} {m : Str → Option Value} (h : s.heap.Ns b m) : (hidT s.heap (seen K a tb vs ns)).Ns b m := by
  obtain ⟨o, es, ep, e, q, r⟩ := h
  refine ⟨o, es, ep, d.below e ?_ ?_, q, r⟩
  · intro us k z; rw [q] at z; cases z
  · intro z; rw [q] at z; cases z
theorem Door.kin' (d : Door K mg mb s a tb cs vs ns) : K.In (hidT s.heap (seen K a tb vs ns)) := fun b o e => by
  refine hidT_get (d.kin b o e) ?_
  rcases seen_cases (K := K) (a := a) (tb := tb) (vs := vs) (ns := ns) b with h | ⟨_, rfl, h⟩ | ⟨_, h⟩
  · rw [d.off b h] at e; cases e
  · rw [h] at e; cases e
  · exact h
theorem Door.hok {P : Program} {w : World} (d : Door K mg mb s a tb cs vs ns) : HOk P w (seen K a tb vs ns) s.heap := by
  intro b u z
  rcases seen_cases (K := K) (a := a) (tb := tb) (vs := vs) (ns := ns) b with h | ⟨h, rfl, n⟩ | ⟨_, h⟩
  · rw [seen_tb h] at z; cases z; exact d.emp b h
  · rw [seen_sc h n] at z; cases z
    exact ⟨d.scr, by rw [List.length_map]; exact d.short, vs, _, vals_ints d.nums, d.scr⟩
  · rw [h] at z; cases z
theorem Door.mod (d : Door K mg mb s a tb cs vs ns) : L2.Mod K mg (hidT s.heap (seen K a tb vs ns)) :=
  ⟨d.kin', d.names d.glo, ⟨mb, d.names d.blt, d.blb⟩, by obtain ⟨mc, h1, h2⟩ := d.lim; exact ⟨mc, d.names h1, h2⟩⟩
theorem Door.env {P : Program} {w : World} (d : Door K mg mb s a tb cs vs ns) : Env0 P w K mg (hidT s.heap (seen K a tb vs ns)) callerA [] s (seen K a tb vs ns) where
  frames := rfl
  mod := d.mod
  bs := fun b o e => of_hidT e
  bsz := Nat.le_of_eq (hidT_size _ _)
  funs := trivial
  frf := fun b h => by cases h
  hok := d.hok
  bare := .of_eq d.gen
theorem Door.scrip (d : Door K mg mb s a tb cs vs ns) : Scr K (seen K a tb vs ns) a ns := by
  cases q : K.lookup a with
  | none => exact .inl ⟨_, seen_sc d.apart q⟩
  | some o =>
    have e := d.kin a o q
    rw [d.scr] at e
    cases e
    refine .inr ⟨_, vs.toArray, _, q, rfl, rfl, rfl, ?_, ?_⟩
    · rw [List.size_toArray, d.nums.length]; exact d.short
    · have r := vals_ints d.nums
      simpa using r
theorem Door.tables (d : Door K mg mb s a tb cs vs ns) : ∀ p ∈ cs, GxR.TabB (hidT s.heap (seen K a tb vs ns)) mg p.1 p.2 := by
  intro p hp
  obtain ⟨pt, hc⟩ := d.cod p hp
  have pe := d.emp _ pt
  constructor
  · obtain ⟨o, us, x1, x2, x3, x4, x5, x6, x7, e, rest⟩ := hc
    refine ⟨o, us, x1, x2, x3, x4, x5, x6, x7, d.below e ?_ ?_, rest⟩
    · intro us' k z; rw [rest.2.1] at z; cases z
    · intro z
      have r3 := rest.2.2.1
      rw [rest.2.1] at z
      cases z
      simp at r3
  · obtain ⟨bm, ob, b1, b2, b3, b4, b5, b6⟩ := d.bmn
    refine ⟨bm, ob, b1, b2, ?_, ?_, d.below b3 ?_ ?_, b4, b5, b6⟩
    · intro q
      obtain ⟨o, es, ep, e, hd, _⟩ := d.glo
      rw [← q, b3] at e
      cases e
      rw [hd] at b6
      cases b6
    · intro q
      rw [q, pe] at b3
      cases b3
      cases b6
    · intro us k z; rw [b6] at z; cases z
    · intro z; rw [b6] at z; cases z
  · intro z
    obtain ⟨o, es, ep, e, hd, _⟩ := d.glo
    rw [z, pe] at e
    cases e
    cases hd
/-- what stands behind the call -/
theorem Door.leave {P : Program} {w : World} {s' : Shared} {H' : Hp} (d : Door K mg mb s a tb cs vs ns) (un : Un (frs []) [] (seen K a tb vs ns) H' s.heap s'.heap) (ok : HOk P w H' s'.heap) : OldK s.heap s'.heap := by
  have stay : ∀ b o, b ∉ tb → s.heap.get? b = some o → s'.heap.get? b = some o := by
    intro b o nb e
    rcases seen_cases (K := K) (a := a) (tb := tb) (vs := vs) (ns := ns) b with h | ⟨h, rfl, n⟩ | ⟨_, h⟩
    · exact absurd h nb
    · have z := ok _ _ (un.frzs _ _ _ (seen_sc h n))
      rw [d.scr] at e
      cases e
      exact z.1
    · exact un.keep b o e h (fun z => nomatch z) (fun z => nomatch z)
  have grew : ∀ b ∈ tb, ∃ more : Array Value, s'.heap.get? b = some { cls := .none, data := .fields more } := by
    intro b hb
    obtain ⟨more, z⟩ := un.tbls b #[] (seen_tb hb)
    exact ⟨_, ok _ _ z⟩
  refine ⟨fun b o e => ?_, fun b o e => ?_⟩
  · by_cases hb : b ∈ tb
    · obtain ⟨p, hp, rfl⟩ := d.cds b hb
      obtain ⟨more, hm⟩ := grew _ hb
      have e0 := d.emp _ hb
      rw [e0] at e
      cases e
      exact .inr (.inl ⟨((d.cod p hp).2.tab e0).isCodeTable, rfl, #[], more, rfl, by rw [Array.empty_append]; exact hm⟩)
    · exact .inl (stay b o hb e)
  · by_cases hb : b ∈ tb
    · obtain ⟨more, hm⟩ := grew _ hb
      exact ⟨_, hm⟩
    · exact ⟨o, stay b o hb e⟩
/-- the law's call by its promise -/
theorem Door.run {P : Program} {w : World} {k : Nat} {fa : Addr} {fd : FuncData} {x : Str} {sp : Sp} (d : Door K mg mb s a tb cs vs ns) (hr : Room k callerA)
    (F : FnG P w K mg (hidT s.heap (seen K a tb vs ns)) CX0 k fa fd [x] sp) (hb : ∀ (s : Shared) (u : Value), BindsTo s fd ⟨[u], []⟩ [(x, u)])
    (hs : sp [.ref a] (seen K a tb vs ns) (fun v _ => v = .bl true) fun _ _ _ => False) :
    codeAny (model P w) callerA (.call (.ref fa) ⟨[.ref a], []⟩) (fun r s' => r = .ok (.ret (.bool true)) ∧ OldK s.heap s'.heap ∧ s'.os = s.os ∧ AllBare s'.gens) s := by
  refine codeAny_mono (F.run callerA [] s _ ⟨[.ref a], []⟩ [.ref a] [.ref a] _ _ rfl hr d.env (hb s (.ref a)) (.cons rfl .nil) hs) fun r s' h => ?_
  match r, h with
  | .ok (.ret u), h =>
    obtain ⟨v, H', os, bare, un, ok, rv, rfl⟩ := h
    cases (show u = Value.bool true from rv)
    exact ⟨rfl, d.leave un ok, os, bare⟩
  | .ok .next, h => exact False.elim h
  | .ok .brk, h => exact False.elim h
  | .ok .cont, h => exact False.elim h
  | .error e, h => exact False.elim (show False from h)
end
end DL
namespace DL
open PySem PySem.Spec PyProof.Rows L2
/-- what the law's def promises at the head's heap -/
def LawHd (l : PySem.W.OpenLaw) (w : World) (K : Fg) (k n : Nat) (x : Str) (mg : Str → Option Value) (fa : Addr) (h : Heap) : Prop :=
  ∃ (fd : FuncData) (tb : List Addr) (cs : List (Addr × Addr)) (sp : Sp), (∀ b ∈ tb, h.get? b = some clean) ∧ (∀ b ∈ tb, K.lookup b = none) ∧ (∀ p ∈ cs, p.2 ∈ tb ∧ PySem.W.CodeHd h p.1 p.2) ∧ (∀ b ∈ tb, ∃ p ∈ cs, p.2 = b) ∧
    (∀ (s : Shared) (u : Value), BindsTo s fd ⟨[u], []⟩ [(x, u)]) ∧
    (∀ (H : Hp) (a : Addr) (ns : List Int), ns.length ≤ n → (∀ z ∈ ns, Builtin.Int.intBits z ≤ 1048576) → (∀ b ∈ tb, H b = some (.tbl #[])) → Scr K H a ns → sp [.ref a] H (fun v _ => v = .bl true) fun _ _ _ => False) ∧
    ∀ base : Heap, K.In base → base.Ns mainGlobals mg → (∃ o, base.get? sysModules = some o) → (∀ p ∈ cs, GxR.TabB base mg p.1 p.2) → FnG l.prog w K mg base CX0 k fa fd [x] sp
/-- the tables that the head names -/
def TabFacts (q : Program) (K : Fg) (h : Heap) : Prop := ∀ (x : Str) (d : DefRec) (c P : Addr), (recsOf q).find? (fun e => e.name == x) = some d → PySem.W.tabIn K x = some (c, P) → PySem.W.CodeHd h c P ∧ h.get? P = some clean
theorem law_walk {l : PySem.W.OpenLaw} {n k : Nat} {q : Program} {loose : List Str} {XP : (Str → Option Value) → Heap → Prop} {YP : World → Heap → Prop} {d : DefRec} {K : PySem.Params → Fg} {x : Str}
    (seer : importsNone q = true) (most : l.most = some n) (le : n ≤ sizeLine) (nodef : d.params.defaults = []) (room : Room k callerA) (inK : ∀ (w : World) (h : Heap), YP w h → (K w.params).In h)
    (F : ∀ (w : World) (mg : Str → Option Value) (fa : Addr) (h : Heap), (K w.params).In h → h.Ns mainGlobals mg → mg d.name = some (.ref fa) → TabFacts q (K w.params) h → LawHd l w (K w.params) k n x mg fa h) :
    PySem.W.WalkO q loose XP YP l.row.toRowW d [] (fun f vs => PySem.call f vs) := by
  refine Att.attach_callB most nodef ?_
  intro w s0 s1 mg mb fa o pm cd doc a vs ns G Y ho hd hcd hmg hobj hints hlen hbits hg
  have X := inK w _ Y
  have tf : TabFacts q (K w.params) s1.heap := fun y d' c P e1 e2 => PySem.W.tab_of G.T X e1 e2
  obtain ⟨fd, tb, cs, sp, t1, t2, t3, t4, b, prom, fn⟩ := F w mg fa _ X G.T.g hmg tf
  have D : Door (K w.params) mg mb s1 a tb cs vs ns := ⟨X, G.T.g, G.T.b, G.T.builtins, G.T.nolimit, hg, t1, t2, t3, t4, G.T.bmain, hobj, hints, Nat.le_trans hlen le⟩
  obtain ⟨mm, sy, _⟩ := (G.T.seer seer).mods
  obtain ⟨o9, _, _, e9, _⟩ := D.names sy
  exact D.run room (fn _ D.kin' (D.names G.T.g) ⟨o9, e9⟩ D.tables) b (prom _ a ns hlen hbits (fun b hb => seen_tb hb) D.scrip)
end DL
set_option maxHeartbeats 4000000
namespace DL
open PySem PySem.Spec PyProof.Rows L2
section
variable {K : Fg} {T : List Addr} {ta tb : TE} {f g : Fe}
/-! ### one operator for every kind -/
def rAddU (K : Fg) : R2 := fun x y H Q => (rI0 fun i j => .int (i + j)) x y H Q ∨ (rCatA K x y H Q ∨ rCat x y H Q)
theorem op_addU {X : Cx} : OpR X (binaryOp .Add) (rAddU X.K) := op_add.or (op_catA.or op_cat)
def gAddU : Sl → Sl → Option Sl := fun a b => match gII c0 (fun i j => .int (i + j)) a b with
  | some s => some s
  | none => match gCatT a b with
    | some s => some s
    | none => gCatL a b
theorem de_addU (h1 : DE K T ta f) (h2 : DE K T tb g) : DE K T (tOp (rAddU K) ta tb) (f2 gAddU f g) := de_bin h1 h2 (by
  intro dm A0 H0 A σ H env k x y a b s Q S i1 i2 e hQ
  unfold gAddU at e
  split at e
  · rename_i s' e1
    cases e
    obtain ⟨i, j, rfl, rfl, hc, rfl⟩ := gII_some e1
    rw [is_int i1, is_int i2]
    exact .inl ⟨i, j, rfl, rfl, hQ _ H S (Lt.refl _ _) (.int _)⟩
  · split at e
    · rename_i s' e1
      cases e
      obtain ⟨xs, ys, u1, u2, e3, rfl⟩ := gCat_some (as := asT) (c := PyData.tuple) e1
      obtain ⟨p, vs, rfl, g1, g2, g3⟩ := is_tup i1 u1
      obtain ⟨q, ws, rfl, j1, j2, j3⟩ := is_tup i2 u2
      refine .inr (.inl ⟨p, q, vs, ws, rfl, rfl, g1, j1, line_le (by rw [g3.len, j3.len]; exact e3), fun e => hQ _ H S (Lt.refl _ _) ?_, fun _ e => hQ _ H S (Lt.refl _ _) ?_, fun _ _ o ho => hQ _ _ (S.new ho) (Lt.new ho) (mk_tup S.wd ho (g3.app j3))⟩)
      · subst e
        cases g3
        exact Is.tup j2 j3
      · subst e
        cases j3
        rw [List.append_nil]
        exact Is.tup g2 g3
    · obtain ⟨xs, ys, e1, e2, e3, rfl⟩ := gCat_some (as := asL) (c := PyData.list) e
      obtain ⟨p, vs, rfl, g1, g3⟩ := is_lst i1 e1
      obtain ⟨q, ws, rfl, j1, j3⟩ := is_lst i2 e2
      exact .inr (.inr ⟨p, q, vs, ws, rfl, rfl, g1, j1, line_le (by rw [g3.len, j3.len]; exact e3), fun o ho => hQ _ _ (S.new ho) (Lt.new ho) (mk_lst S.wd ho (g3.app j3))⟩))
def rMulU : R2 := fun x y H Q => (rI CMulW fun i j => .int (i * j)) x y H Q ∨ rRep x y H Q
theorem op_mulU {X : Cx} : OpR X (binaryOp .Mult) rMulU := op_mulW.or op_rep
def gMulU : Sl → Sl → Option Sl := fun a b => match gII cMul (fun i j => .int (i * j)) a b with
  | some s => some s
  | none => gRep a b
theorem de_mulU (h1 : DE K T ta f) (h2 : DE K T tb g) : DE K T (tOp rMulU ta tb) (f2 gMulU f g) := de_bin h1 h2 (by
  intro dm A0 H0 A σ H env k x y a b s Q S i1 i2 e hQ
  unfold gMulU at e
  split at e
  · rename_i s' e1
    cases e
    obtain ⟨i, j, rfl, rfl, hc, rfl⟩ := gII_some e1
    rw [is_int i1, is_int i2]
    exact .inl ⟨i, j, rfl, rfl, (show CMulW i j from (of_decide_eq_true (show decide (i.natAbs.log2 + j.natAbs.log2 < 1000000) = true from hc) : i.natAbs.log2 + j.natAbs.log2 < 1000000)), hQ _ H S (Lt.refl _ _) (.int _)⟩
  · unfold gRep at e
    cases e1 : asL a with
    | none => rw [e1] at e; cases e
    | some ds =>
      rw [e1] at e
      cases b with
      | dat d =>
        cases d with
        | int n =>
          simp only at e
          by_cases hc : -1000 ≤ n ∧ n ≤ 1000 ∧ ds.length ≤ 1000
          · rw [if_pos hc] at e
            cases e
            obtain ⟨p, vs, rfl, h3, h4⟩ := is_lst i1 e1
            rw [is_int i2]
            refine .inr ⟨p, n, vs, rfl, rfl, h3, by omega, by omega, ?_, fun q hq => hQ _ _ (S.new hq) (Lt.new hq) (mk_lst S.wd hq (isl_rep h4 _))⟩
            rw [h4.len]
            have h5 : ds.length * n.toNat ≤ 1000 * 1000 := Nat.mul_le_mul hc.2.2 (by omega)
            exact Nat.le_trans h5 (by decide)
          · rw [if_neg hc] at e; cases e
        | _ => cases e
      | _ => cases e)
/-! ### slices of every kind -/
def cutU (a : Sl) (lo hi : Option Int) : Option Sl := match a with
  | .scr ns => some (.dat (.list (cutD (ns.map PyData.int) lo hi)))
  | a => match asL a with
    | some ds => some (.dat (.list (cutD ds lo hi)))
    | none => (asT a).map fun ds => .dat (.tuple (cutD ds lo hi))
def fSlU (f : Fe) (l h : Fo) : Fe := fun env k => (f env k).bind fun x => (l env x.2).bind fun y => (h env y.2).bind fun z => (cutU x.1 y.1 z.1).map fun s => (s, z.2)
def rSlU (K : Fg) (x : V) (lo hi : Option Int) (H : Hp) (Q : VK) : Prop := rSlL K x lo hi H Q ∨ rSlA K x lo hi H Q
theorem sl_u {X : Cx} : SlR X (rSlU X.K) := sl_list.or sl_tupA
theorem de_slU {l h : TO} {fl fh : Fo} (h1 : DE K T ta f) (h2 : DO K T l fl) (h3 : DO K T h fh) : DE K T (tSl (rSlU K) ta l h) (fSlU f fl fh) := by
  intro dm A0 H0 A σ H env k Q S s k' hf hQ
  unfold fSlU at hf
  cases e1 : f env k with
  | none => rw [e1] at hf; cases hf
  | some x =>
    obtain ⟨x, k1⟩ := x
    rw [e1] at hf
    simp only [Option.bind_some] at hf
    cases e2 : fl env k1 with
    | none => rw [e2] at hf; cases hf
    | some y =>
      obtain ⟨lo, k2⟩ := y
      rw [e2] at hf
      simp only [Option.bind_some] at hf
      cases e3 : fh env k2 with
      | none => rw [e3] at hf; cases hf
      | some z =>
        obtain ⟨hi, k3⟩ := z
        rw [e3] at hf
        simp only [Option.bind_some] at hf
        cases e4 : cutU x lo hi with
        | none => rw [e4] at hf; cases hf
        | some d =>
          rw [e4] at hf
          cases hf
          refine h1 dm A0 H0 A σ H env k _ S _ _ e1 fun v H1 S1 l1 i1 => ?_
          refine h2 dm A0 H0 A σ H1 env k1 _ S1 _ _ e2 fun H2 S2 l2 => ?_
          refine h3 dm A0 H0 A σ H2 env k2 _ S2 _ _ e3 fun H3 S3 l3 => ?_
          have i3 := i1.lt S1.wd (l2.trans l3)
          unfold cutU at e4
          split at e4
          · rename_i ns
            cases e4
            obtain ⟨p, rfl, sc⟩ := i3
            exact .inl ⟨p, _, rfl, sc.sql, fun q hq => hQ _ _ (S3.new hq) (((l1.trans l2).trans l3).trans (Lt.new hq)) (mk_lst S3.wd hq (isl_cut (IsL.ints ns)))⟩
          · split at e4
            · rename_i ds e5
              cases e4
              obtain ⟨p, vs, rfl, g1, g3⟩ := is_lst i3 e5
              exact .inl ⟨p, vs, rfl, .inl (.inl g1), fun q hq => hQ _ _ (S3.new hq) (((l1.trans l2).trans l3).trans (Lt.new hq)) (mk_lst S3.wd hq (isl_cut g3))⟩
            · rename_i x' _ _
              cases e5 : asT x with
              | none => rw [e5] at e4; cases e4
              | some ds =>
                rw [e5] at e4
                cases e4
                obtain ⟨p, vs, rfl, g1, g2, g3⟩ := is_tup i3 e5
                refine .inr ⟨p, vs, rfl, g1, fun e => hQ _ H3 S3 ((l1.trans l2).trans l3) ?_, fun e q hq => hQ _ _ (S3.new hq) (((l1.trans l2).trans l3).trans (Lt.new hq)) (mk_tup S3.wd hq (isl_cut g3))⟩
                have e' : cutD ds lo hi = ds := by
                  rw [g3.len] at e
                  unfold cutD
                  rw [e.1, e.2]
                  simp
                show IsS K A0 dm A H3 (V.ref p) (.dat (.tuple (cutD ds lo hi)))
                rw [e']
                exact Is.tup g2 g3
/-! ### a walk over a list or a tuple, a reversed list or tuple -/
def iSeq (K : Fg) (t : TE) : TI := fun σ H R => iList K t σ H R ∨ iTup K t σ H R
theorem pi_seq {X : Cx} {tg l : Expr} {tl : TE} (h : PE X l tl) : PI X tg l (iSeq X.K tl) := ⟨fun pins s σ H R I h' => h'.elim ((pi_list h).run pins s σ H R I) ((pi_tup h).run pins s σ H R I)⟩
def wSeq (f : Fe) : Fw := fun env k => match wOf asLd f env k with
  | some r => some r
  | none => wOf asT f env k
theorem di_seq (h1 : DE K T ta f) : DI K T (iSeq K ta) (wSeq f) := by
  intro dm A0 H0 A σ H env k R S ds k' hf hR
  unfold wSeq at hf
  split at hf
  · rename_i r e
    cases hf
    exact .inl (di_lst h1 dm A0 H0 A σ H env k R S ds k' e hR)
  · exact .inr (di_tup h1 dm A0 H0 A σ H env k R S ds k' hf hR)
def tRevU (K : Fg) (t : TE) : TE := fun σ H Q => tRevL K t σ H Q ∨ tRevT K t σ H Q
theorem pe_revU {X : Cx} {e : Expr} {te : TE} {k : Nat} {p1 p2 p3 pos : Pos} (he : PE X e te) : PE X (.Subscript e (.Slice none none (some (.UnaryOp .USub (.Constant (.int 1) k p1) p2)) p3) pos) (tRevU X.K te) :=
  ⟨fun pins s σ H Q I h => h.elim ((pe_revL he).run pins s σ H Q I) ((pe_revT he).run pins s σ H Q I)⟩
def fRevU (f : Fe) : Fe := fun env k => match fRevL f env k with
  | some r => some r
  | none => fRevT f env k
theorem de_revU (h1 : DE K T ta f) : DE K T (tRevU K ta) (fRevU f) := by
  intro dm A0 H0 A σ H env k Q S s k' hf hQ
  unfold fRevU at hf
  split at hf
  · rename_i r e
    cases hf
    exact .inl (de_revL h1 dm A0 H0 A σ H env k Q S s k' e hQ)
  · exact .inr (de_revT h1 dm A0 H0 A σ H env k Q S s k' hf hQ)
end
/-! ### the defs of the program, by name -/
structure Cg (P : Program) (w : World) (K : Fg) (mg : Str → Option Value) (base : Heap) (k : Nat) (x : Str) (ps : List Str) (sp : Sp) : Prop where
  ex : ∃ (f : Addr) (fd : FuncData), FnG P w K mg base CX0 k f fd ps sp ∧ mg x = some (.ref f) ∧ PySem.W.keepIn K (.ref f) = true ∧ Binds K fd ps []
section
variable {X : Cx} {k j : Nat} {x : Str} {ps : List Str} {sp : Sp} {p pos : Pos} {e : Expr} {es : List Expr} {t : TA}
def noX : XK := fun _ _ _ => False
theorem pe_callC (C : Cg X.prog X.w X.K X.mg X.base k x ps sp) (hgd : X.A.guards = some []) (hr : Room j X.A) (hk : k ≤ j) (ha : PA X (e :: es) t) (hg : Gl X x := by rfl)
    (hdb : (x == ("__debug__" : Str)) = false := by decide) (he : starEach (e :: es) X.env = (false, eval e X.env) :: starEach es X.env := by rfl) (hpl : (backTo pos (starEach es X.env)).any (·.1) = false := by rfl) :
    PE X (.Call (.Name x p) (e :: es) [] pos) (tCall sp [] noX t) := by
  obtain ⟨f, fd, F, hm, hkp, hb⟩ := C.ex
  exact pe_callG F hgd (hr.mono hk) hg hm hkp hb pass0 ha hdb he hpl
end
end DL
set_option maxHeartbeats 4000000
namespace DL
open PySem PySem.Spec PyProof.Rows L2
def recMost : Nat := 5
def fuelV (i : Nat) : List Sl → Dk → Nat := fun env _ => match env[i]? with
  | some (.dat (.int z)) => z.toNat + 1
  | _ => 1
section
variable {P : Program} {w : World} {K : Fg} {mg : Str → Option Value} {base : Heap} {CX : CXT} {T : List Addr}
theorem spF_none {n : Nat} {vs : List V} {H : Hp} {Q : VK} {E : XK} (sp : spF K T n (fun _ _ => none) vs H Q E) : False := by
  obtain ⟨dm, A, ss, k, d, k', hd, w, il, hl, ok, hf, hQ⟩ := sp
  cases hf
/-- a def with its code object's place -/
structure FunC (K : Fg) (x qual : Str) (st : Stmt) (f : Addr) (fd : FuncData) (c : Addr) : Prop where
  ex : ∃ (oc : Value) (od : Option Addr) (kV doc pm : Value) (an : Option Addr) (ct : Value) (osl : Array (Option Value)),
    fd = PySem.W.fnOf x qual (defArgs st) (defBody st) (defScope st) .none kV doc pm an (.ref c) ct ∧ K.lookup f = some ⟨oc, od, .func fd, osl⟩ ∧ PySem.W.codeIn K (.ref c) qual = true
  kp : PySem.W.keepIn K (.ref f) = true
theorem FunC.fun {x qual : Str} {st : Stmt} {f c : Addr} {fd : FuncData} (F : FunC K x qual st f fd c) : Fun K x qual st f fd := by
  obtain ⟨oc, od, kV, doc, pm, an, ct, osl, e1, e2, e3⟩ := F.ex
  exact ⟨⟨oc, od, kV, doc, pm, an, .ref c, ct, osl, e1, e2, e3⟩, F.kp⟩
theorem fnG_ofC {x qual : Str} {st : Stmt} {N ps : List Str} {k : Nat} {f c : Addr} {fd : FuncData} {sp : Sp} (F : FunC K x qual st f fd c) (S : FnScope N ps (defScope st)) (len : ∀ vs H Q E, sp vs H Q E → vs.length = ps.length)
    (body : ∀ (A : Around) (outer : List Env) (s : Shared) (H : Hp) (vs : List V) (Q : VK) (E : XK), A.guards = some [] → Room k (A.deeper (envOfC qual (defScope st) s.heap.objs.size f (.ref c))) → sp vs H Q E →
      ∃ t, PSs (cxOf CX P w K mg base N qual (defScope st) f (.ref c) A outer s H E) (defBody st) t ∧ t { nx := fun _ H' => Q .non H', rt := Q } (L2.start N vs) H) : FnG P w K mg base CX (k + 1) f fd ps sp := by
  obtain ⟨oc, od, kV, doc, pm, an, ct, osl, rfl, look, codeOk⟩ := F.ex
  constructor
  · exact len
  intro A outer s H args us vs Q E hg room env0 bnd vals want
  have size := len vs H Q E want
  have inK : K.In s.heap := env0.mod.kin.keeps (fun b o e => (env0.bs b o e).1)
  have noLim : s.heap.NoLimit := env0.mod.nolimit.keeps (fun b o e => (env0.bs b o e).1)
  refine codeAny_call_function room.depth (inK f _ look) rfl S.co S.gen rfl (PySem.W.codeRec_of inK codeOk) (bnd _ _ _ _ ?_)
  refine wpAny_newFunctionEnv_cells S.kind ?kinds ?rest
  case kinds =>
    rintro ⟨name, val⟩ hmem
    cases S.par name (List.of_mem_zip hmem).1 with
    | inl isLocal => exact Or.inl isLocal
    | inr isCell => exact Or.inr ⟨isCell, PySem.W.cellsFrom_some _ _ _ (Or.inl isCell)⟩
  case rest =>
    intro env henv s1 called
    cases henv
    refine ⟨noLim.keeps called.toInCall.keep, codeAny_func ?_⟩
    obtain ⟨t, derivation, reading⟩ := body A outer s H vs Q E hg (room.deeper _) want
    have begun := inv_start (CX := CX) (P := P) (w := w) (K := K) (mg := mg) (base := base) (E := E) S room.hd env0 size vals called
    refine wpAny_mono (derivation.run [] s1 _ H _ begun reading) ?_ (fun _ _ left => left)
    intro flow s' ended
    match flow, ended with
    | .ret u, ⟨v, _, H', J, rel, q⟩ => exact ⟨v, H', J.os, J.bare, J.base, J.hok, rel, q⟩
    | .next, ⟨_, H', J, q⟩ => exact ⟨V.non, H', J.os, J.bare, J.base, J.hok, rfl, q⟩
    | .brk, ⟨_, _, _, q⟩ => exact q.elim
    | .cont, ⟨_, _, _, q⟩ => exact q.elim
end
section
variable {X : Cx} {K : Fg}
theorem oprK {op : Value → Value → Sem Value} {r : Fg → R2} (h : OpR X op (r X.K)) (e : X.K = K) : OpR X op (r K) := e ▸ h
theorem calK {u : Value} {r : Fg → List V → Hp → VK → Prop} (h : CallR X u (r X.K)) (e : X.K = K) : CallR X u (r K) := e ▸ h
theorem ixrK {r : Fg → R2} (h : IxR X (r X.K)) (e : X.K = K) : IxR X (r K) := e ▸ h
theorem slrK {r : Fg → V → Option Int → Option Int → Hp → VK → Prop} (h : SlR X (r X.K)) (e : X.K = K) : SlR X (r K) := e ▸ h
def rLenU (K : Fg) : List V → Hp → VK → Prop := fun xs H Q => ∃ p ys, xs = [.ref p] ∧ (SqL K H p ys ∨ SqT K H p ys) ∧ Q (.int ys.length) H
def rListU (K : Fg) : List V → Hp → VK → Prop := fun xs H Q => ∃ p ys, xs = [.ref p] ∧ (SqL K H p ys ∨ SqT K H p ys) ∧ ∀ l, H l = none → Q (.ref l) (upd H l (.lst ys))
def rTupU (K : Fg) : List V → Hp → VK → Prop := fun xs H Q => ∃ p ys, xs = [.ref p] ∧ ((SqL K H p ys ∧ ∀ l, H l = none → Q (.ref l) (upd H l (.tup ys))) ∨ (SqT K H p ys ∧ Q (.ref p) H))
end
section
variable {P : Program} {w : World} {K : Fg} {mg : Str → Option Value} {base : Heap} {CX : CXT} {T : List Addr}
/-- a def called by keywords alone, in the order of its parameters -/
structure Ck (P : Program) (w : World) (K : Fg) (mg : Str → Option Value) (base : Heap) (k : Nat) (x : Str) (ps : List Str) (sp : Sp) : Prop where
  ex : ∃ (f : Addr) (fd : FuncData), FnG P w K mg base CX0 k f fd ps sp ∧ mg x = some (.ref f) ∧ PySem.W.keepIn K (.ref f) = true ∧ KB K fd ps ps id id
end
theorem pe_callKC {X : Cx} {k j : Nat} {x : Str} {ps : List Str} {sp : Sp} {p pos : Pos} {kws : List Keyword} {tk : TA} (C : Ck X.prog X.w X.K X.mg X.base k x ps sp) (hgd : X.A.guards = some []) (hr : Room j X.A) (hk : k ≤ j) (hkw : PK X kws tk) (hg : Gl X x := by rfl)
    (hall : (backToKw pos (keywordEach kws X.env)).all (·.1.isSome) = true := by rfl) (hks : (backToKw pos (keywordEach kws X.env)).filterMap (·.1) = ps := by rfl)
    (hdb : (x == ("__debug__" : Str)) = false := by decide) (hpl : ((backTo pos (starEach [] X.env)).any (·.1) || (backToKw pos (keywordEach kws X.env)).any (·.1.isNone)) = false := by rfl) :
    PE X (.Call (.Name x p) [] kws pos) (tCallKw sp id noX tk) := by
  obtain ⟨f, fd, F, hm, hkp, hb⟩ := C.ex
  exact pe_callGK F hgd (hr.mono hk) hg hm hkp hb pass0 hkw hall hks hdb hpl
section
variable {K : Fg} {T : List Addr} {ta : TE} {f : Fe}
theorem ds_augAdd {i : Nat} (h1 : DE K T ta f) : DS K T (tAug i ta (rI0 fun i j => .int (i + j))) (sAug c0 (fun a b => a + b) i f) := ds_aug h1 fun a b H Q _ q => ⟨a, b, rfl, rfl, q⟩
/-! ### == of texts -/
section
variable {K : Fg} {T : List Addr} {ta tb : TE} {f g : Fe}
def gEqS (neg : Bool) : Sl → Sl → Option Sl := fun a b => match a, b with
  | .dat (.str x), .dat (.str y) => some (.dat (.bool (if neg then !decide (x = y) else decide (x = y))))
  | _, _ => none
theorem gEqS_some {neg : Bool} {a b s : Sl} (h : gEqS neg a b = some s) : ∃ x y, a = .dat (.str x) ∧ b = .dat (.str y) ∧ s = .dat (.bool (if neg then !decide (x = y) else decide (x = y))) := by
  unfold gEqS at h
  split at h
  · cases h; exact ⟨_, _, rfl, rfl, rfl⟩
  · cases h
theorem is_strv {A0 : List Addr} {dm : Dm} {A : List Addr} {H : Hp} {x : V} {a : Str} (h : IsS K A0 dm A H x (.dat (.str a))) : x = .str a := by
  cases (show Is K (hide A H) x (.str a) from h) with
  | str => rfl
theorem str_dec (x y : Str) : decide (V.str x = V.str y) = decide (x = y) := decide_eq_decide.mpr ⟨fun h => V.str.inj h, fun h => by rw [h]⟩
theorem de_eqS (h1 : DE K T ta f) (h2 : DE K T tb g) : DE K T (tOp rEq ta tb) (f2 (gEqS false) f g) := de_bin h1 h2 (by
  intro dm A0 H0 A σ H env k x y a b s Q S i1 i2 e hQ
  obtain ⟨u, v, rfl, rfl, rfl⟩ := gEqS_some e
  rw [is_strv i1, is_strv i2]
  refine ⟨rfl, ?_⟩
  rw [str_dec]
  exact hQ _ H S (Lt.refl _ _) (Is.bl _))
theorem de_neS (h1 : DE K T ta f) (h2 : DE K T tb g) : DE K T (tOp rNe ta tb) (f2 (gEqS true) f g) := de_bin h1 h2 (by
  intro dm A0 H0 A σ H env k x y a b s Q S i1 i2 e hQ
  obtain ⟨u, v, rfl, rfl, rfl⟩ := gEqS_some e
  rw [is_strv i1, is_strv i2]
  refine ⟨rfl, ?_⟩
  rw [str_dec]
  exact hQ _ H S (Lt.refl _ _) (Is.bl _))
end
/-! ### small things of the head -/
theorem tab_by {K : Fg} {x : Str} {f c P : Addr} {oc oe : Value} {od oo : Option Addr} {fd : FuncData} {sl os : Array (Option Value)} {vs : Array Value} (a : PySem.W.nsIn K mainGlobals x = some (some (.ref f))) (l : K.lookup f = some ⟨oc, od, .func fd, sl⟩) (e : fd.code = .ref c) (t : K.lookup c = some ⟨oe, oo, .fields vs, os⟩) (v : (vs[11]? : Option Value) = some (.ref P)) : PySem.W.tabIn K x = some (c, P) := by
  unfold PySem.W.tabIn
  rw [a]
  simp only [l, e, t, v]
theorem tri_nil : TriplesOk (#[] : Array Value).toList := trivial
def posOf : List Stmt → List Pos
  | [.Return (some (.BoolOp .And [.Call (.Name _ a0) [.Name _ a1, .Name _ a2] [] a3, .UnaryOp .Not (.Call (.Name _ a4) [.Name _ a5, .Name _ a6] [] a7) a8] a9)) a10] => [a0, a1, a2, a3, a4, a5, a6, a7, a8, a9, a10]
  | _ => []
/-! ### the law -/
def deckD (k : Dk) : D := .dict [(.str "cells", .list (k.cells.map PyData.int)), (.str "mixed", .int k.mixed), (.str "turn", .int k.turn)]
/-- the law's function gives True for the script -/
def GoodLaw (deck : Fd) (g : Fs) (m : Nat) (ns : List Int) : Prop := ∃ (k0 k1 k2 : Dk) (k : Dk), deck [.scr ns] k0 = some (deckD k, k1) ∧ g (.scr ns :: .deck :: List.replicate (m - 2) .un) k = .rt (.bool true) k2
def spLaw (K : Fg) (T : List Addr) (n : Nat) : Sp := fun vs H Q _ => ∃ (a : Addr) (ns : List Int), vs = [.ref a] ∧ Scr K H a ns ∧ ns.length ≤ n ∧ (∀ b ∈ T, GxR.TabG H b) ∧ ∀ H', Q (.bl true) H'
theorem spLaw_len {n : Nat} {vs : List V} {H : Hp} {Q : VK} {E : XK} (h : spLaw K T n vs H Q E) : vs.length = 1 := by
  obtain ⟨a, ns, rfl, _⟩ := h; rfl
theorem hide_nil (H : Hp) : hide [] H = H := by
  funext b
  exact hide_out (by simp)
theorem isl_toInts {H : Hp} : ∀ {vs : List V} {ns : List Int}, IsL K H vs (ns.map PyData.int) → vs = ns.map V.int
  | vs, [], h => by cases h; rfl
  | vs, n :: r, h => by
    cases h with
    | cons h1 h2 =>
      cases h1
      rw [isl_toInts h2]
      rfl
theorem deck_of {H : Hp} {v : V} {k : Dk} (h : Is K H v (deckD k)) : ∃ a c, v = .ref a ∧ a ≠ c ∧ DkAt H a c k := by
  unfold deckD at h
  cases h with
  | dct h e l =>
    rename_i a kvs
    match kvs, h, e, l with
    | [(k1, v1), (k2, v2), (k3, v3)], h, e, l =>
      simp only [List.map_cons, List.map_nil, List.cons.injEq, and_true] at e l
      obtain ⟨e1, e2, e3⟩ := e
      cases l with
      | cons l1 l =>
        cases l with
        | cons l2 l =>
          cases l with
          | cons l3 l =>
            cases l2
            cases l3
            cases l1 with
            | lst hc il =>
              rename_i c xs
              cases k1 with
              | inl _ => cases e1
              | inr x1 =>
                cases k2 with
                | inl _ => cases e2
                | inr x2 =>
                  cases k3 with
                  | inl _ => cases e3
                  | inr x3 =>
                    cases e1
                    cases e2
                    cases e3
                    refine ⟨a, c, rfl, ?_, h, ?_⟩
                    · intro z
                      rw [z, hc] at h
                      cases h
                    · rw [hc, isl_toInts il]
    | [], h, e, l => cases e
    | [_], h, e, l => simp at e
    | [_, _], h, e, l => simp at e
    | _ :: _ :: _ :: _ :: _, h, e, l => simp at e
theorem law_body {deck : Fd} {u : TS} {g : Fs} {N : List Str} {n m : Nat} {vs : List V} {H : Hp} {Q : VK} {E : XK} (hm : N.length = m) (h2 : 2 ≤ N.length) (hu : DS K T u g) (h : spLaw K T n vs H Q E) (good : ∀ ns : List Int, ns.length ≤ n → GoodLaw deck g m ns) :
    tSeq (tAsg (tCall (spF K T 1 deck) [] noX (tCons (tVar 0) tNil)) (gName 1)) u { nx := fun _ H' => Q .non H', rt := Q } (L2.start N vs) H := by
  obtain ⟨a, ns, rfl, sc, hl, tb, q⟩ := h
  obtain ⟨k0, k1, k2, k, e1, e2⟩ := good ns hl
  have w : Wd T none [] H k0 := ⟨fun b h => (nomatch h), tb, fun _ _ e => nomatch e⟩
  have S := sta_start (K := K) (N := N) (vs := [.ref a]) (ss := [.scr ns]) w (fun _ _ e => nomatch e) (.cons ⟨a, rfl, sc⟩ .nil) rfl (show 1 ≤ N.length by omega)
  show tCall (spF K T 1 deck) [] noX (tCons (tVar 0) tNil) (L2.start N [.ref a]) H fun x H1 => u { nx := fun _ H' => Q .non H', rt := Q } ((L2.start N [.ref a]).set 1 (some x)) H1
  refine de_call (n := 1) (da_cons (de_var 0) da_nil) none [] H [] _ H _ k0 _ S (.dat (deckD k)) k1 ?_ fun v H1 S1 l1 i1 => ?_
  · show ((fCons (fVar 0) fNil) ([.scr ns] ++ List.replicate (N.length - 1) Sl.un) k0).bind _ = _
    have e0 : (fCons (fVar 0) fNil) ([.scr ns] ++ List.replicate (N.length - 1) Sl.un) k0 = some ([.scr ns], k0) := rfl
    rw [e0]
    simp only [Option.bind_some]
    rw [if_pos ⟨rfl, rfl⟩, e1]
    rfl
  · have i2 : Is K H1 v (deckD k) := by
      have z : Is K (hide [] H1) v (deckD k) := i1
      rwa [hide_nil] at z
    obtain ⟨a', c, rfl, ne, dk⟩ := deck_of i2
    have sc1 : Scr K H1 a ns := sc.lt w l1
    have ln : (L2.start N [V.ref a]).length = N.length := by
      unfold L2.start
      rw [List.length_append, List.length_map, List.length_replicate]
      simp
      omega
    have S2 : Sta K T (some (a', c)) [a', c] H1 [a', c] ((L2.start N [V.ref a]).set 1 (some (.ref a'))) H1 (.scr ns :: .deck :: List.replicate (m - 2) .un) k := by
      refine ⟨⟨fun b hb => ?_, S1.wd.tab, fun x y e => ?_⟩, Lt.refl _ _, fun _ h => h, fun b hb => ?_, fun x y e => ?_, ?_, fun i => ?_, fun i j p ds es h1 _ _ _ => ?_⟩
      · simp only [List.mem_cons, List.not_mem_nil, or_false] at hb
        rcases hb with rfl | rfl
        · rw [dk.1]; simp
        · rw [dk.2]; simp
      · cases e
        exact ⟨by simp, by simp, ne, dk⟩
      · simp only [List.mem_cons, List.not_mem_nil, or_false] at hb
        rcases hb with rfl | rfl
        · rw [dk.1]; simp
        · rw [dk.2]; simp
      · cases e
        exact ⟨by simp, by simp⟩
      · rw [List.length_set, ln, List.length_cons, List.length_cons, List.length_replicate]
        omega
      · match i with
        | 0 => 
          refine ⟨a, ?_, sc1⟩
          rw [List.getElem?_set_ne (by omega)]
          rfl
        | 1 =>
          refine ⟨a', c, rfl, ?_⟩
          rw [List.getElem?_set_self (by rw [ln]; omega)]
        | i + 2 =>
          rw [List.getElem?_cons_succ, List.getElem?_cons_succ, List.getElem?_replicate]
          split <;> exact trivial
      · match i, h1 with
        | 0, h1 => cases h1
        | 1, h1 => cases h1
        | i + 2, h1 =>
          rw [List.getElem?_cons_succ, List.getElem?_cons_succ, List.getElem?_replicate] at h1
          split at h1 <;> cases h1
    refine hu (some (a', c)) [a', c] H1 [a', c] _ H1 _ k _ S2 ?_
    rw [e2]
    intro v H' _ _ iv
    cases iv
    exact q H'
end
end DL
set_option maxHeartbeats 4000000
namespace DL
open PySem PySem.Spec PyProof.Rows L2
/-! ### exceptions of own classes -/
/-- an exception: its class by name, its field `thing` -/
structure Xn where
  cls : String
  thing : Option D
abbrev Cls_ := String → Option Addr
def ExAt (K : Fg) (cl : Cls_) (A : List Addr) (H : Hp) (x : Xn) (cls : Value) (d : Option Addr) : Prop := ∃ C, cl x.cls = some C ∧ cls = .ref C ∧ match x.thing with
  | none => d = none
  | some t => ∃ p v, d = some p ∧ p ∉ A ∧ H p = some (.xd [("thing", v)]) ∧ Is K (hide A H) v t
theorem ExAt.to {K : Fg} {cl : Cls_} {A A0 : List Addr} {H : Hp} {x : Xn} {cls : Value} {d : Option Addr} (h : ExAt K cl A H x cls d) (s : ∀ b ∈ A0, b ∈ A) : ExAt K cl A0 H x cls d := by
  obtain ⟨C, h1, h2, h3⟩ := h
  refine ⟨C, h1, h2, ?_⟩
  cases e : x.thing with
  | none => rw [e] at h3; exact h3
  | some t =>
    rw [e] at h3
    obtain ⟨p, v, q1, q2, q3, q4⟩ := h3
    exact ⟨p, v, q1, fun z => q2 (s p z), q3, Is.kp (hide_mono s) q4⟩
theorem ExAt.lt {K : Fg} {T : List Addr} {dm : Dm} {cl : Cls_} {A : List Addr} {H H' : Hp} {k : Dk} {x : Xn} {cls : Value} {d : Option Addr} (h : ExAt K cl A H x cls d) (w : Wd T dm A H k) (l : Lt dm H H') : ExAt K cl A H' x cls d := by
  obtain ⟨C, h1, h2, h3⟩ := h
  refine ⟨C, h1, h2, ?_⟩
  cases e : x.thing with
  | none => rw [e] at h3; exact h3
  | some t =>
    rw [e] at h3
    obtain ⟨p, v, q1, q2, q3, q4⟩ := h3
    refine ⟨p, v, q1, q2, l.keep _ _ q3 rfl fun a c e => ?_, Is.kp (l.kp w) q4⟩
    obtain ⟨z1, z2, _⟩ := w.dk a c e
    exact ⟨fun z => q2 (z ▸ z1), fun z => q2 (z ▸ z2)⟩
inductive Res (α : Type) where
  | ok (a : α)
  | ex (x : Xn) (k : Dk)
  | no
abbrev Rx (α : Type) := List Sl → Dk → Res (α × Dk)
def liftO {α : Type} (f : List Sl → Dk → Option (α × Dk)) : Rx α := fun env k => match f env k with
  | some p => .ok p
  | none => .no
section
variable {K : Fg} {T : List Addr} {cl : Cls_}
/-- an expression that may raise; its reading depends on the wish W -/
def DEX (K : Fg) (T : List Addr) (cl : Cls_) (t : WX → TE) (f : Rx Sl) : Prop := ∀ (W : WX) dm A0 H0 A σ H env k (Q : VK), Sta K T dm A0 H0 A σ H env k →
  (match f env k with
    | .ok p => ∀ v H', Sta K T dm A0 H0 A σ H' env p.2 → Lt dm H H' → IsS K A0 dm A H' v p.1 → Q v H'
    | .ex x k' => ∀ H' cls d, Sta K T dm A0 H0 A σ H' env k' → Lt dm H H' → ExAt K cl A H' x cls d → W cls d σ H'
    | .no => False) → t W σ H Q
def DAX (K : Fg) (T : List Addr) (cl : Cls_) (t : WX → TA) (f : Rx (List Sl)) : Prop := ∀ (W : WX) dm A0 H0 A σ H env k (Q : List V → Hp → Prop), Sta K T dm A0 H0 A σ H env k →
  (match f env k with
    | .ok p => ∀ vs H', Sta K T dm A0 H0 A σ H' env p.2 → Lt dm H H' → IsSL K A0 dm A H' vs p.1 → Q vs H'
    | .ex x k' => ∀ H' cls d, Sta K T dm A0 H0 A σ H' env k' → Lt dm H H' → ExAt K cl A H' x cls d → W cls d σ H'
    | .no => False) → t W σ H Q
theorem dex_of {t : TE} {f : Fe} (h : DE K T t f) : DEX K T cl (fun _ => t) (liftO f) := by
  intro W dm A0 H0 A σ H env k Q S o
  unfold liftO at o
  cases e : f env k with
  | none => rw [e] at o; exact o.elim
  | some p => rw [e] at o; exact h dm A0 H0 A σ H env k Q S p.1 p.2 e o
theorem dax_of {t : TA} {f : Fl} (h : DA K T t f) : DAX K T cl (fun _ => t) (liftO f) := by
  intro W dm A0 H0 A σ H env k Q S o
  unfold liftO at o
  cases e : f env k with
  | none => rw [e] at o; exact o.elim
  | some p => rw [e] at o; exact h dm A0 H0 A σ H env k Q S p.1 p.2 e o
def xCons (f : Rx Sl) (h : Rx (List Sl)) : Rx (List Sl) := fun env k => match f env k with
  | .ok p => (match h env p.2 with
    | .ok q => .ok (p.1 :: q.1, q.2)
    | .ex x k' => .ex x k'
    | .no => .no)
  | .ex x k' => .ex x k'
  | .no => .no
theorem dax_cons {ta : WX → TE} {tr : WX → TA} {f : Rx Sl} {h : Rx (List Sl)} (h1 : DEX K T cl ta f) (h2 : DAX K T cl tr h) : DAX K T cl (fun W => tCons (ta W) (tr W)) (xCons f h) := by
  intro W dm A0 H0 A σ H env k Q S o
  refine h1 W dm A0 H0 A σ H env k _ S ?_
  unfold xCons at o
  cases e : f env k with
  | no => rw [e] at o; exact o.elim
  | ex x k' => rw [e] at o; exact o
  | ok p =>
    rw [e] at o
    simp only at o ⊢
    intro v H1 S1 l1 i1
    refine h2 W dm A0 H0 A σ H1 env p.2 _ S1 ?_
    cases e2 : h env p.2 with
    | no => rw [e2] at o; exact o.elim
    | ex x k' => rw [e2] at o; exact fun H' cls d S' l' x' => o H' cls d S' (l1.trans l') x'
    | ok q =>
      rw [e2] at o
      exact fun vs H2 S2 l2 i2 => o _ H2 S2 (l1.trans l2) (.cons (i1.lt S1.wd l2) i2)
def xSeq (c : List D → D) (h : Rx (List Sl)) : Rx Sl := fun env k => match h env k with
  | .ok p => (match dats p.1 with
    | some ds => if ds.length ≤ 1000000 then .ok (.dat (c ds), p.2) else .no
    | none => .no)
  | .ex x k' => .ex x k'
  | .no => .no
theorem dex_tup {t : WX → TA} {h : Rx (List Sl)} (h1 : DAX K T cl t h) : DEX K T cl (fun W => tTup (t W)) (xSeq .tuple h) := by
  intro W dm A0 H0 A σ H env k Q S o
  refine h1 W dm A0 H0 A σ H env k _ S ?_
  unfold xSeq at o
  cases e : h env k with
  | no => rw [e] at o; exact o.elim
  | ex x k' => rw [e] at o; exact o
  | ok p =>
    rw [e] at o
    simp only at o ⊢
    intro vs H1 S1 l1 is
    cases e2 : dats p.1 with
    | none => rw [e2] at o; exact o.elim
    | some ds =>
      rw [e2] at o
      simp only at o
      by_cases hl : ds.length ≤ 1000000
      · rw [if_pos hl] at o
        have il := isl_dats is e2
        exact ⟨line_le (by rw [il.len]; exact hl), fun q hq => o _ _ (S1.new hq) (l1.trans (Lt.new hq)) (mk_tup S1.wd hq il)⟩
      · rw [if_neg hl] at o; exact o.elim
def xIf (u : Ft) (f g : Rx Sl) : Rx Sl := fun env k => match u env k with
  | some (true, k') => f env k'
  | some (false, k') => g env k'
  | none => .no
theorem dex_if {ca : TT} {u : Ft} {ta tb : WX → TE} {f g : Rx Sl} (h0 : DT K T ca u) (h1 : DEX K T cl ta f) (h2 : DEX K T cl tb g) : DEX K T cl (fun W => tIf ca (ta W) (tb W)) (xIf u f g) := by
  intro W dm A0 H0 A σ H env k Q S o
  unfold xIf at o
  cases e : u env k with
  | none => rw [e] at o; exact o.elim
  | some p =>
    obtain ⟨b, k'⟩ := p
    rw [e] at o
    refine h0 dm A0 H0 A σ H env k _ S b k' e fun H1 S1 l1 => ?_
    cases b with
    | true =>
      rw [if_pos rfl]
      refine h1 W dm A0 H0 A σ H1 env k' Q S1 ?_
      simp only at o
      cases e2 : f env k' with
      | no => rw [e2] at o; exact o.elim
      | ex x k2 => rw [e2] at o; exact fun H' cls d S' l' x' => o H' cls d S' (l1.trans l') x'
      | ok q => rw [e2] at o; exact fun v H2 S2 l2 i2 => o v H2 S2 (l1.trans l2) i2
    | false =>
      rw [if_neg (by decide)]
      refine h2 W dm A0 H0 A σ H1 env k' Q S1 ?_
      simp only at o
      cases e2 : g env k' with
      | no => rw [e2] at o; exact o.elim
      | ex x k2 => rw [e2] at o; exact fun H' cls d S' l' x' => o H' cls d S' (l1.trans l') x'
      | ok q => rw [e2] at o; exact fun v H2 S2 l2 i2 => o v H2 S2 (l1.trans l2) i2
end
end DL
set_option maxHeartbeats 4000000
namespace DL
open PySem PySem.Spec PyProof.Rows L2
abbrev Fdx := List Sl → Dk → Res (D × Dk)
/-- what a def promises that may raise -/
def spX (K : Fg) (T : List Addr) (cl : Cls_) (n : Nat) (f : Fdx) : Sp := fun vs H Q E => ∃ (dm : Dm) (A : List Addr) (ss : List Sl) (k : Dk), (∀ a c, dm = some (a, c) → a ∈ A ∧ c ∈ A) ∧ Wd T dm A H k ∧ IsSL K A dm A H vs ss ∧ vs.length = n ∧ ss.all okArg = true ∧
  match f ss k with
  | .ok p => ∀ v H', Wd T dm A H' p.2 → Lt dm H H' → Is K (hide A H') v p.1 → Q v H'
  | .ex x k' => ∀ H' cls d, Wd T dm A H' k' → Lt dm H H' → ExAt K cl A H' x cls d → E cls d H'
  | .no => False
def okF (f : Fdx) : Fd := fun ss k => match f ss k with
  | .ok p => some p
  | _ => none
section
variable {P : Program} {w : World} {K : Fg} {mg : Str → Option Value} {base : Heap} {T : List Addr} {cl : Cls_} {k n : Nat} {f : Addr} {fd : FuncData} {ps : List Str} {g : Fdx}
theorem spX_of {vs : List V} {H : Hp} {Q : VK} {E E' : XK} (h : spF K T n (okF g) vs H Q E) : spX K T cl n g vs H Q E' := by
  obtain ⟨dm, A, ss, k, d, k', h1, h2, h3, h4, h5, h6, h7⟩ := h
  refine ⟨dm, A, ss, k, h1, h2, h3, h4, h5, ?_⟩
  unfold okF at h6
  cases e : g ss k with
  | no => rw [e] at h6; cases h6
  | ex x k2 => rw [e] at h6; cases h6
  | ok p => rw [e] at h6; cases h6; exact h7
theorem spX_len {vs : List V} {H : Hp} {Q : VK} {E : XK} (h : spX K T cl n g vs H Q E) : vs.length = n := by
  obtain ⟨dm, A, ss, k, h1, h2, h3, h4, _⟩ := h
  exact h4
/-- where it never raises it is a calm def -/
theorem FnG.calm (F : FnG P w K mg base (L2.CX P w) k f fd ps (spX K T cl n g)) : FnG P w K mg base CX0 k f fd ps (spF K T n (okF g)) := by
  constructor
  · intro vs H Q E h
    exact F.len vs H Q E (spX_of h)
  · intro A outer s H args us vs Q E hg hr he hb hv hs
    refine codeAny_mono (F.run A outer s H args us vs Q (fun _ _ _ => False) hg hr he hb hv (spX_of hs)) fun r s' q => ?_
    match r, q with
    | .ok (.ret u), q => exact q
    | .ok .next, q => exact q
    | .ok .brk, q => exact q
    | .ok .cont, q => exact q
    | .error e, q =>
      obtain ⟨_, _, _, _, _, _, _, _, _, _, _, _, z⟩ := q
      exact z.elim
end
/-! ### calls -/
def tCallKS (sp : Sp) (gV : List V → List V) (E : L2.St → XK) (tk : TA) : TE := fun σ H Q => tk σ H fun zs H2 => sp (gV zs) H2 Q (E σ)
section
variable {X : Cx} {CX : CXT} {k j : Nat} {f : Addr} {fd : FuncData} {ps ks : List Str} {sp : Sp} {E : L2.St → XK} {x : Str} {p pos : Pos} {e : Expr} {es : List Expr} {kws : List Keyword} {t tk : TA}
theorem runGS {args : Args} {pins : List (Addr × Obj)} {σ : List (Option V)} {H : Hp} {s : Shared} {Q : VK} {us : List Value} {vs : List V} (F : FnG X.prog X.w X.K X.mg X.base CX k f fd ps sp) (hgd : X.A.guards = some []) (hr : Room k X.A) (hx : PassesAt CX X σ (E σ))
    (hb : BindsTo s fd args (ps.zip us)) (I : Inv X pins σ H s) (r : Vals vs us) (h : sp vs H Q (E σ)) : codeAny (model X.prog X.w) X.A (.call (.ref f) args) (fun r s' => match r with
      | .ok (.ret u) => EP X pins σ Q u s'
      | .ok _ => False
      | .error e => X.xe e s') s := by
  refine codeAny_mono (F.run X.A X.stack s H args us vs Q (E σ) hgd hr I.env0 hb r h) fun r s' hq => ?_
  cases r with
  | error e => exact hx pins H s e s' I hq
  | ok fl =>
    cases fl with
    | ret u => exact I.after hq
    | next => exact hq.elim
    | brk => exact hq.elim
    | cont => exact hq.elim
/-- the def stands under its name and may be called -/
structure Cx_ (P : Program) (w : World) (K : Fg) (mg : Str → Option Value) (base : Heap) (k : Nat) (x : Str) (ps : List Str) (sp : Sp) : Prop where
  ex : ∃ (f : Addr) (fd : FuncData), FnG P w K mg base (L2.CX P w) k f fd ps sp ∧ mg x = some (.ref f) ∧ PySem.W.keepIn K (.ref f) = true ∧ Binds K fd ps []
structure Ckx (P : Program) (w : World) (K : Fg) (mg : Str → Option Value) (base : Heap) (k : Nat) (x : Str) (ps ks : List Str) (g : List Value → List Value) (gV : List V → List V) (sp : Sp) : Prop where
  ex : ∃ (f : Addr) (fd : FuncData), FnG P w K mg base (L2.CX P w) k f fd ps sp ∧ mg x = some (.ref f) ∧ PySem.W.keepIn K (.ref f) = true ∧ KB K fd ps ks g gV
theorem pe_callX {W : WX} (C : Cx_ X.prog X.w X.K X.mg X.base k x ps sp) (tkW : Takes X W) (hgd : X.A.guards = some []) (hr : Room j X.A) (hk : k ≤ j) (ha : PA X (e :: es) t) (hg : Gl X x := by rfl)
    (hdb : (x == ("__debug__" : Str)) = false := by decide) (he : starEach (e :: es) X.env = (false, eval e X.env) :: starEach es X.env := by rfl) (hpl : (backTo pos (starEach es X.env)).any (·.1) = false := by rfl) :
    PE X (.Call (.Name x p) (e :: es) [] pos) (tCallS sp (WE W) t) := by
  obtain ⟨f, fd, F, hm, hkp, hb⟩ := C.ex
  constructor
  intro pins s σ H Q I h
  refine wpAny_Call_Name_kw (ld_glob I hg hm ?_ hdb)
  refine PySem.W.callWith_K (h₀ := X.base) I.ok.mod.kin hkp ?_ he hpl
  refine thn (ha.run pos pins s σ H _ I h) ?_
  rintro us s1 ⟨vs, H1, I1, r, q⟩
  have hl : (us ++ []).length = ps.length := by rw [List.append_nil, ← r.length]; exact F.len _ _ _ _ q
  have hbb := hb s1 us I1.kIn hl
  rw [List.append_nil] at hbb
  exact ⟨I1.kIn, wpAny_call (codeAny_mono (runGS F hgd (hr.mono hk) (passAt tkW σ) hbb I1 r q) fun r s' hq => by
    cases r with
    | error e => exact hq
    | ok fl => cases fl <;> first | exact hq | exact hq.elim)⟩
theorem pe_callXK {W : WX} {g : List Value → List Value} {gV : List V → List V} (C : Ckx X.prog X.w X.K X.mg X.base k x ps ks g gV sp) (tkW : Takes X W) (hgd : X.A.guards = some []) (hr : Room j X.A) (hk : k ≤ j) (hkw : PK X kws tk) (hg : Gl X x := by rfl)
    (hall : (backToKw pos (keywordEach kws X.env)).all (·.1.isSome) = true := by rfl) (hks : (backToKw pos (keywordEach kws X.env)).filterMap (·.1) = ks := by rfl)
    (hdb : (x == ("__debug__" : Str)) = false := by decide) (hpl : ((backTo pos (starEach [] X.env)).any (·.1) || (backToKw pos (keywordEach kws X.env)).any (·.1.isNone)) = false := by rfl) :
    PE X (.Call (.Name x p) [] kws pos) (tCallKS sp gV (WE W) tk) := by
  obtain ⟨f, fd, F, hm, hkp, hb⟩ := C.ex
  constructor
  intro pins s σ H Q I h
  refine wpAny_Call_Name_kw (ld_glob I hg hm ?_ hdb)
  refine PySem.W.callWith_KW0 (h₀ := X.base) I.ok.mod.kin hkp hall ?_ hpl
  refine thn (hkw.run pos pins s σ H _ I h) ?_
  rintro ws s2 ⟨zs, H2, I2, rz, q2⟩
  refine ⟨I2.kIn, ?_⟩
  rw [hks]
  have r2 := hb.rel rz
  have hl : (g ws).length = ps.length := by rw [← r2.length]; exact F.len _ _ _ _ q2
  exact wpAny_call (codeAny_mono (runGS F hgd (hr.mono hk) (passAt tkW σ) (hb.to s2 ws I2.kIn hl) I2 r2 q2) fun r s' hq => by
    cases r with
    | error e => exact hq
    | ok fl => cases fl <;> first | exact hq | exact hq.elim)
end
section
variable {K : Fg} {T : List Addr} {cl : Cls_}
def xCall (n : Nat) (f : Fdx) (g : List Sl → List Sl) (h : Fl) : Rx Sl := fun env k => match h env k with
  | some p => if (g p.1).length = n ∧ (g p.1).all okArg = true then (match f (g p.1) p.2 with
      | .ok q => .ok (.dat q.1, q.2)
      | .ex x k' => .ex x k'
      | .no => .no) else .no
  | none => .no
theorem dex_callK {n : Nat} {f : Fdx} {ta : TA} {h : Fl} {g : List Sl → List Sl} {gV : List V → List V} (h1 : DA K T ta h) (hg : ∀ A0 dm A H vs ss, IsSL K A0 dm A H vs ss → IsSL K A0 dm A H (gV vs) (g ss)) : DEX K T cl (fun W => tCallKS (spX K T cl n f) gV (WE W) ta) (xCall n f g h) := by
  intro W dm A0 H0 A σ H env k Q S o
  unfold xCall at o
  cases e1 : h env k with
  | none => rw [e1] at o; exact o.elim
  | some p =>
    obtain ⟨ss, k1⟩ := p
    rw [e1] at o
    simp only at o
    by_cases hc : (g ss).length = n ∧ (g ss).all okArg = true
    · rw [if_pos hc] at o
      refine h1 dm A0 H0 A σ H env k _ S ss k1 e1 fun vs H1 S1 l1 is => ?_
      have is2 := hg _ _ _ _ _ _ is
      refine ⟨dm, A, g ss, k1, fun a c e => ⟨S1.sub a (S1.dm0 a c e).1, S1.sub c (S1.dm0 a c e).2⟩, S1.wd, all_ok is2 hc.2, by rw [is2.len]; exact hc.1, hc.2, ?_⟩
      cases e2 : f (g ss) k1 with
      | no => rw [e2] at o; exact o.elim
      | ex x k' => rw [e2] at o; exact fun H2 cls d w2 l2 xa => o H2 cls d (S1.at w2 l2) (l1.trans l2) xa
      | ok q => rw [e2] at o; exact fun v H2 w2 l2 iv => o v H2 (S1.at w2 l2) (l1.trans l2) iv
    · rw [if_neg hc] at o; exact o.elim
theorem dex_call {n : Nat} {f : Fdx} {ta : TA} {h : Fl} (h1 : DA K T ta h) : DEX K T cl (fun W => tCallS (spX K T cl n f) (WE W) ta) (xCall n f id h) := dex_callK (gV := id) h1 fun _ _ _ _ _ _ h => h
/-! ### statements that may raise -/
inductive OutX where
  | nx (env : List Sl) (k : Dk)
  | rt (d : D) (k : Dk)
  | bk (env : List Sl) (k : Dk)
  | ct (env : List Sl) (k : Dk)
  | ex (x : Xn) (env : List Sl) (k : Dk)
  | bad
abbrev Fsx := List Sl → Dk → OutX
def OkX (K : Fg) (T : List Addr) (cl : Cls_) (W : WX) (dm : Dm) (A0 : List Addr) (H0 : Hp) (A : List Addr) (H : Hp) (E : Ends) : OutX → Prop
  | .nx env k => ∀ A' σ H', Sta K T dm A0 H0 A' σ H' env k → Tr A H A' H' → E.nx σ H'
  | .rt d k => ∀ v H', Wd T dm A0 H' k → Lt dm H0 H' → Is K (hide A0 H') v d → E.rt v H'
  | .bk env k => ∀ A' σ H', Sta K T dm A0 H0 A' σ H' env k → Tr A H A' H' → E.bk σ H'
  | .ct env k => ∀ A' σ H', Sta K T dm A0 H0 A' σ H' env k → Tr A H A' H' → E.ct σ H'
  | .ex x env k => ∀ A' σ H' cls d, Sta K T dm A0 H0 A' σ H' env k → Tr A H A' H' → ExAt K cl A' H' x cls d → W cls d σ H'
  | .bad => False
theorem OkX.later {W : WX} {dm : Dm} {A0 : List Addr} {H0 : Hp} {A A1 : List Addr} {H H1 : Hp} {E : Ends} (t : Tr A H A1 H1) : ∀ {o : OutX}, OkX K T cl W dm A0 H0 A H E o → OkX K T cl W dm A0 H0 A1 H1 E o
  | .nx _ _, h => fun A' σ H' S r => h A' σ H' S (t.trans r)
  | .rt _ _, h => h
  | .bk _ _, h => fun A' σ H' S r => h A' σ H' S (t.trans r)
  | .ct _ _, h => fun A' σ H' S r => h A' σ H' S (t.trans r)
  | .ex _ _ _, h => fun A' σ H' cls d S r => h A' σ H' cls d S (t.trans r)
  | .bad, h => h
def DSX (K : Fg) (T : List Addr) (cl : Cls_) (t : WX → TS) (g : Fsx) : Prop := ∀ (W : WX) dm A0 H0 A σ H env k (E : Ends), Sta K T dm A0 H0 A σ H env k → OkX K T cl W dm A0 H0 A H E (g env k) → t W E σ H
def liftS (g : Fs) : Fsx := fun env k => match g env k with
  | .nx e k' => .nx e k'
  | .rt d k' => .rt d k'
  | .bk e k' => .bk e k'
  | .ct e k' => .ct e k'
  | .bad => .bad
theorem dsx_of {t : TS} {g : Fs} (h : DS K T t g) : DSX K T cl (fun _ => t) (liftS g) := by
  intro W dm A0 H0 A σ H env k E S o
  refine h dm A0 H0 A σ H env k E S ?_
  unfold liftS at o
  cases e : g env k <;> rw [e] at o <;> exact o
def xSq (g h : Fsx) : Fsx := fun env k => match g env k with
  | .nx env' k' => h env' k'
  | o => o
theorem dsx_seq {t u : WX → TS} {g h : Fsx} (h1 : DSX K T cl t g) (h2 : DSX K T cl u h) : DSX K T cl (fun W => tSeq (t W) (u W)) (xSq g h) := by
  intro W dm A0 H0 A σ H env k E S o
  refine h1 W dm A0 H0 A σ H env k _ S ?_
  unfold xSq at o
  cases e : g env k with
  | nx e' k' => rw [e] at o; exact fun A' σ' H' S' r => h2 W dm A0 H0 A' σ' H' e' k' E S' (o.later r)
  | rt d k' => rw [e] at o; exact o
  | bk e' k' => rw [e] at o; exact o
  | ct e' k' => rw [e] at o; exact o
  | ex x e' k' => rw [e] at o; exact o
  | bad => rw [e] at o; exact o.elim
def xIfS (c : Ft) (g h : Fsx) : Fsx := fun env k => match c env k with
  | some (true, k') => g env k'
  | some (false, k') => h env k'
  | none => .bad
theorem dsx_if {c : TT} {w : Ft} {t u : WX → TS} {g h : Fsx} (h0 : DT K T c w) (h1 : DSX K T cl t g) (h2 : DSX K T cl u h) : DSX K T cl (fun W => tIfS c (t W) (u W)) (xIfS w g h) := by
  intro W dm A0 H0 A σ H env k E S o
  unfold xIfS at o
  cases e : w env k with
  | none => rw [e] at o; exact o.elim
  | some p =>
    obtain ⟨b, k'⟩ := p
    rw [e] at o
    refine h0 dm A0 H0 A σ H env k _ S b k' e fun H1 S1 l1 => ?_
    cases b with
    | true =>
      rw [if_pos rfl]
      exact h1 W dm A0 H0 A σ H1 env k' E S1 (OkX.later (tr_of_lt S.wd l1) o)
    | false =>
      rw [if_neg (by decide)]
      exact h2 W dm A0 H0 A σ H1 env k' E S1 (OkX.later (tr_of_lt S.wd l1) o)
def xRet (f : Rx Sl) : Fsx := fun env k => match f env k with
  | .ok (.dat d, k') => .rt d k'
  | .ok _ => .bad
  | .ex x k' => .ex x env k'
  | .no => .bad
theorem dsx_ret {t : WX → TE} {f : Rx Sl} (h1 : DEX K T cl t f) : DSX K T cl (fun W => tRet (t W)) (xRet f) := by
  intro W dm A0 H0 A σ H env k E S o
  refine h1 W dm A0 H0 A σ H env k _ S ?_
  unfold xRet at o
  cases e : f env k with
  | no => rw [e] at o; exact o.elim
  | ex x k' => rw [e] at o; exact fun H' cls d S' l xa => o A σ H' cls d S' (tr_of_lt S.wd l) xa
  | ok p =>
    obtain ⟨s, k'⟩ := p
    rw [e] at o
    cases s with
    | dat d => exact fun v H' S' l i => o v H' S'.w0 S'.lt (Is.kp (hide_mono S'.sub) i)
    | _ => exact o.elim
def xExpr (f : Rx Sl) : Fsx := fun env k => match f env k with
  | .ok p => .nx env p.2
  | .ex x k' => .ex x env k'
  | .no => .bad
theorem dsx_expr {t : WX → TE} {f : Rx Sl} (h1 : DEX K T cl t f) : DSX K T cl (fun W => tDrop (t W)) (xExpr f) := by
  intro W dm A0 H0 A σ H env k E S o
  refine h1 W dm A0 H0 A σ H env k _ S ?_
  unfold xExpr at o
  cases e : f env k with
  | no => rw [e] at o; exact o.elim
  | ex x k' => rw [e] at o; exact fun H' cls d S' l xa => o A σ H' cls d S' (tr_of_lt S.wd l) xa
  | ok p => rw [e] at o; exact fun v H' S' l _ => o A σ H' S' (tr_of_lt S.wd l)
/-- raise X() -/
def xRaise0 (n : String) : Fsx := fun env k => .ex ⟨n, none⟩ env k
theorem dsx_raise0 {n : String} {C : Addr} (h : cl n = some C) : DSX K T cl (fun W => fun _ σ H => W (.ref C) none σ H) (xRaise0 n) := by
  intro W dm A0 H0 A σ H env k E S o
  exact o A σ H _ _ S (Tr.refl _ _) ⟨C, h, rfl, rfl⟩
/-- raise X(e) for a class that keeps its argument as `thing` -/
def xRaise1 (n : String) (f : Fe) : Fsx := fun env k => match f env k with
  | some (.dat t, k') => .ex ⟨n, some t⟩ env k'
  | _ => .bad
theorem dsx_raise1 {n : String} {C : Addr} {te : TE} {f : Fe} (h : cl n = some C) (h1 : DE K T te f) : DSX K T cl (fun W => fun _ σ H => te σ H fun v H1 => ∀ d, H1 d = none → W (.ref C) (some d) σ (upd H1 d (.xd [("thing", v)]))) (xRaise1 n f) := by
  intro W dm A0 H0 A σ H env k E S o
  unfold xRaise1 at o
  cases e : f env k with
  | none => rw [e] at o; exact o.elim
  | some p =>
    obtain ⟨s, k'⟩ := p
    rw [e] at o
    cases s with
    | dat t =>
      refine h1 dm A0 H0 A σ H env k _ S _ _ e fun v H1 S1 l1 i1 p hp => ?_
      exact o A σ _ _ _ (S1.new hp) (tr_of_lt S.wd (l1.trans (Lt.new hp))) ⟨C, h, rfl, p, v, rfl, notA S1.wd hp, upd_same, Is.kp (kp_new S1.wd hp) i1⟩
    | _ => exact o.elim
/-- a def over data that may raise -/
def fnX (m : Nat) (g : Fsx) : Fdx := fun ss k => match g (ss ++ List.replicate (m - ss.length) .un) k with
  | .rt d k' => .ok (d, k')
  | .nx _ k' => .ok (.none, k')
  | .ex x _ k' => .ex x k'
  | _ => .no
theorem spX_body {t : WX → TS} {g : Fsx} {N : List Str} {n : Nat} {vs : List V} {H : Hp} {Q : VK} {E : XK} (hn : n ≤ N.length) (h : DSX K T cl t g) (sp : spX K T cl n (fnX N.length g) vs H Q E) : t (fun cls d _ H' => E cls d H') { nx := fun _ H' => Q .non H', rt := Q } (L2.start N vs) H := by
  obtain ⟨dm, A, ss, k, hd, w, il, hl, ok, hf⟩ := sp
  have S := sta_start (N := N) w hd il ok (by omega)
  refine h _ dm A H A (L2.start N vs) H _ k _ S ?_
  unfold fnX at hf
  cases e : g (ss ++ List.replicate (N.length - ss.length) .un) k with
  | rt d1 k1 => rw [e] at hf; exact hf
  | nx e1 k1 => rw [e] at hf; exact fun A' σ' H' S' _ => hf _ H' S'.w0 S'.lt .non
  | bk e1 k1 => rw [e] at hf; exact hf.elim
  | ct e1 k1 => rw [e] at hf; exact hf.elim
  | bad => rw [e] at hf; exact hf.elim
  | ex x e1 k1 => rw [e] at hf; exact fun A' σ' H' cls d S' _ xa => hf H' cls d S'.w0 S'.lt (xa.to S'.sub)
end
end DL
set_option maxHeartbeats 4000000
namespace DL
open PySem PySem.Spec PyProof.Rows L2
/-- X() for an own class without own making -/
theorem pmk_bare {X : Cx} {C : Addr} {bmB : List Value} {B newId initId : String} {x : Str} {p pos : Pos} (F : ExcBaseFacts B newId initId bmB) (known : PySem.W.excIn X.K C bmB newId = true) (gC : X.mg x = some (.ref C)) (kC : PySem.W.keepIn X.K (.ref C) = true) (r : Raises X (.ref C)) (hg : Gl X x)
    (hdb : (x == ("__debug__" : Str)) = false := by decide) : L2.PMk X (.Call (.Name x p) [] [] pos) (fun _ H Q => Q (.ref C) none H) := by
  intro pins s σ H Q I want
  refine wpAny_Call_Name_kw (ld_glob I hg gC ?_ hdb)
  refine PySem.W.callWith_K0 I.kIn kC ?_
  obtain ⟨_, _, _, _, _, _, _, _, _, _, _, _, _, _, _, _, _, classAt, names, plain, tail⟩ := exc_obj I.kIn known
  exact wpAny_call_exc_subT F tail classAt names plain (fun h' e made => mk_of I made r want (I.hok.gone made.new)) (Nat.zero_le _)
section
variable {K : Fg} {T : List Addr} {cl : Cls_}
/-- what a suite does with the exception x that it holds in slot i -/
def DH (K : Fg) (T : List Addr) (cl : Cls_) (i : Nat) (x : Xn) (ts : Addr → Value → Option Addr → TS) (g : Fsx) : Prop := ∀ (W : WX) (a : Addr) (cls : Value) (d : Option Addr) dm A0 H0 A σ H env k (E : Ends), Sta K T dm A0 H0 A σ H env k → env[i]? = some .un → σ[i]? = some (some (.ref a)) → H a = none → ExAt K cl A H x cls d →
  OkX K T cl W dm A0 H0 A H E (g env k) → ts a cls d E σ H
/-- a slot that is not looked at may hold anything -/
theorem Sta.blind {dm : Dm} {A0 : List Addr} {H0 : Hp} {A : List Addr} {σ : List (Option V)} {H : Hp} {env : List Sl} {k : Dk} (S : Sta K T dm A0 H0 A σ H env k) (i : Nat) (v : Option V) : Sta K T dm A0 H0 A (σ.set i v) H (env.set i .un) k := by
  refine ⟨S.wd, S.lt, S.sub, S.dom0, S.dm0, by rw [List.length_set, List.length_set]; exact S.len, fun j => ?_, fun j l p ds es h1 h2 h3 h4 => ?_⟩
  · by_cases e : j = i
    · subst e
      by_cases hj : j < env.length
      · rw [List.getElem?_set_self hj]
        exact trivial
      · rw [List.getElem?_eq_none (l := env.set j .un) (by rw [List.length_set]; omega)]
        exact trivial
    · rw [List.getElem?_set_ne (Ne.symm e), List.getElem?_set_ne (Ne.symm e)]
      exact S.slot j
  · have n1 : j ≠ i := fun z => by
      subst z
      by_cases hj : j < env.length
      · rw [List.getElem?_set_self hj] at h1; cases h1
      · rw [List.getElem?_eq_none (by rw [List.length_set]; omega)] at h1; cases h1
    have n2 : l ≠ i := fun z => by
      subst z
      by_cases hj : l < env.length
      · rw [List.getElem?_set_self hj] at h2; cases h2
      · rw [List.getElem?_eq_none (by rw [List.length_set]; omega)] at h2; cases h2
    rw [List.getElem?_set_ne (Ne.symm n1)] at h1 h3
    rw [List.getElem?_set_ne (Ne.symm n2)] at h2 h4
    exact S.uniq j l p ds es h1 h2 h3 h4
/-- try: body / except C as n: suite (n in slot i, not read elsewhere) -/
def xTry (i : Nat) (m : String → Bool) (gb : Fsx) (gs : Xn → Fsx) : Fsx := fun env k => match gb env k with
  | .ex x env' k' => if m x.cls = true then if i < env'.length then (match gs x (env'.set i .un) k' with
      | .nx e k2 => .nx (e.set i .un) k2
      | .rt d k2 => .rt d k2
      | .bk e k2 => .bk (e.set i .un) k2
      | .ct e k2 => .ct (e.set i .un) k2
      | _ => .bad) else .bad else .ex x env' k'
  | o => o
theorem dsx_try {i : Nat} {c : Value} {m : String → Bool} {tb : WX → TS} {ts : Addr → Value → Option Addr → TS} {gb : Fsx} {gs : Xn → Fsx} (hb : DSX K T cl tb gb) (hs : ∀ x, DH K T cl i x ts (gs x)) (hm : ∀ n C, cl n = some C → PySem.W.exmOne K (.ref C) c = some (m n)) :
    DSX K T cl (fun Wout => fun D σ H => tb (wAs K c i ts Wout D) D σ H) (xTry i m gb gs) := by
  intro W dm A0 H0 A σ H env k E S o
  refine hb _ dm A0 H0 A σ H env k E S ?_
  unfold xTry at o
  cases e : gb env k with
  | nx e' k' => rw [e] at o; exact o
  | rt d k' => rw [e] at o; exact o
  | bk e' k' => rw [e] at o; exact o
  | ct e' k' => rw [e] at o; exact o
  | bad => rw [e] at o; exact o.elim
  | ex x env' k' =>
    rw [e] at o
    simp only at o
    intro A' σ' H' cls d S' r xa
    obtain ⟨C, hC, rfl, _⟩ := id xa
    refine ⟨m x.cls, hm _ _ hC, fun hmt a ha => ?_, fun hmf => ?_⟩
    · rw [if_pos hmt] at o
      by_cases il : i < env'.length
      case neg => rw [if_neg il] at o; exact o.elim
      rw [if_pos il] at o
      have S2 := S'.blind i (some (.ref a))
      refine hs x W a (.ref C) d dm A0 H0 A' (σ'.set i (some (.ref a))) H' (env'.set i .un) k' _ S2 (List.getElem?_set_self il) (List.getElem?_set_self (by rw [S'.len]; exact il)) ha xa ?_
      cases e2 : gs x (env'.set i .un) k' with
      | nx e3 k3 => rw [e2] at o; exact fun A3 σ3 H3 S3 r3 => o A3 (σ3.set i none) H3 (S3.blind i none) (r.trans r3)
      | rt d3 k3 => rw [e2] at o; exact o
      | bk e3 k3 => rw [e2] at o; exact fun A3 σ3 H3 S3 r3 => o A3 (σ3.set i none) H3 (S3.blind i none) (r.trans r3)
      | ct e3 k3 => rw [e2] at o; exact fun A3 σ3 H3 S3 r3 => o A3 (σ3.set i none) H3 (S3.blind i none) (r.trans r3)
      | ex x3 e3 k3 => rw [e2] at o; exact o.elim
      | bad => rw [e2] at o; exact o.elim
    · rw [if_neg (by rw [hmf]; decide)] at o
      exact o A' σ' H' _ d S' r xa
end
end DL
set_option maxHeartbeats 4000000
namespace DL
open PySem PySem.Spec PyProof.Rows L2
/-! ### x is None; x in s -/
section
variable {K : Fg} {T : List Addr} {ta tb : TE} {f g : Fe}
def isNon : Sl → Option Bool
  | .dat .none => some true
  | .dat _ => some false
  | _ => none
theorem isNon_v {A0 : List Addr} {dm : Dm} {A : List Addr} {H : Hp} {x : V} {s : Sl} {b : Bool} (h : IsS K A0 dm A H x s) (e : isNon s = some b) : decide (x = V.non) = b := by
  cases s with
  | dat d =>
    have h' : Is K (hide A H) x d := h
    cases h' <;> cases e <;> rfl
  | _ => cases e
def gIsN (neg : Bool) : Sl → Sl → Option Sl := fun a b => match b with
  | .dat .none => (isNon a).map fun r => .dat (.bool (if neg then !r else r))
  | _ => none
theorem gIsN_some {neg : Bool} {a b s : Sl} (h : gIsN neg a b = some s) : ∃ r, b = .dat .none ∧ isNon a = some r ∧ s = .dat (.bool (if neg then !r else r)) := by
  unfold gIsN at h
  split at h
  · cases e : isNon a with
    | none => rw [e] at h; cases h
    | some r => rw [e] at h; cases h; exact ⟨r, rfl, rfl, rfl⟩
  · cases h
theorem is_nonv {A0 : List Addr} {dm : Dm} {A : List Addr} {H : Hp} {x : V} (h : IsS K A0 dm A H x (.dat .none)) : x = .non := by
  cases (show Is K (hide A H) x .none from h) with
  | non => rfl
theorem de_isN (h1 : DE K T ta f) (h2 : DE K T tb g) : DE K T (tOp (fun x y H Q => y = .non ∧ Q (.bl (decide (x = .non))) H) ta tb) (f2 (gIsN false) f g) := de_bin h1 h2 (by
  intro dm A0 H0 A σ H env k x y a b s Q S i1 i2 e hQ
  obtain ⟨r, rfl, e2, rfl⟩ := gIsN_some e
  refine ⟨is_nonv i2, ?_⟩
  rw [isNon_v i1 e2]
  exact hQ _ H S (Lt.refl _ _) (Is.bl _))
theorem de_notN (h1 : DE K T ta f) (h2 : DE K T tb g) : DE K T (tOp (fun x y H Q => y = .non ∧ Q (.bl (!decide (x = .non))) H) ta tb) (f2 (gIsN true) f g) := de_bin h1 h2 (by
  intro dm A0 H0 A σ H env k x y a b s Q S i1 i2 e hQ
  obtain ⟨r, rfl, e2, rfl⟩ := gIsN_some e
  refine ⟨is_nonv i2, ?_⟩
  rw [isNon_v i1 e2]
  exact hQ _ H S (Lt.refl _ _) (Is.bl _))
/-- both sides True or False -/
def gIsB (neg : Bool) : Sl → Sl → Option Sl := fun a b => match a, b with
  | .dat (.bool x), .dat (.bool y) => some (.dat (.bool (if neg then !decide (x = y) else decide (x = y))))
  | _, _ => none
theorem de_notB (h1 : DE K T ta f) (h2 : DE K T tb g) : DE K T (tOp rNotB ta tb) (f2 (gIsB true) f g) := de_bin h1 h2 (by
  intro dm A0 H0 A σ H env k x y a b s Q S i1 i2 e hQ
  unfold gIsB at e
  split at e
  · rename_i u v
    cases e
    exact ⟨u, v, is_bl i1, is_bl i2, hQ _ H S (Lt.refl _ _) (Is.bl _)⟩
  · cases e)
/-! in lists and tuples of data -/
def rInU (neg : Bool) (K : Fg) : R2 := fun x y H Q => ∃ d ds, Dp K H x d ∧ (Dp K H y (.list ds) ∨ Dp K H y (.tuple ds)) ∧ SeqAt.shaped d = true ∧ SeqAt.shaped (.list ds) = true ∧ Q (.bl (if neg then !ds.any (fun z => PyData.eqv z d) else ds.any fun z => PyData.eqv z d)) H
theorem op_inU {X : Cx} (hu : X.A.units + 65 < cLine) : OpR X (compareOp .In) (rInU false X.K) := by
  intro pins s σ H x y v u Q I rx ry h
  obtain ⟨d, ds, hd, he, sd, se, q⟩ := h
  obtain ⟨as, r1⟩ := Dp.reads I d x v hd rx
  have cs : PyData.canLayAll0 ds = true := SeqAt.canLay_of_shaped se
  rcases he with he | he
  · obtain ⟨bs, r2⟩ := Dp.reads I _ y u he ry
    exact SeqAt.in_list_reads r2 r1 cs (SeqAt.canLay_of_shaped sd) (room_in_shaped sd hu) ⟨.bl _, H, I, rfl, q⟩
  · obtain ⟨bs, r2⟩ := Dp.reads I _ y u he ry
    exact SeqAt.in_tuple_reads r2 r1 cs (SeqAt.canLay_of_shaped sd) (room_in_shaped sd hu) ⟨.bl _, H, I, rfl, q⟩
theorem op_notInU {X : Cx} (hu : X.A.units + 65 < cLine) : OpR X (compareOp .NotIn) (rInU true X.K) := by
  intro pins s σ H x y v u Q I rx ry h
  obtain ⟨d, ds, hd, he, sd, se, q⟩ := h
  obtain ⟨as, r1⟩ := Dp.reads I d x v hd rx
  have cs : PyData.canLayAll0 ds = true := SeqAt.canLay_of_shaped se
  rcases he with he | he
  · obtain ⟨bs, r2⟩ := Dp.reads I _ y u he ry
    exact SeqAt.notIn_list_reads r2 r1 cs (SeqAt.canLay_of_shaped sd) (room_in_shaped sd hu) ⟨.bl _, H, I, rfl, q⟩
  · obtain ⟨bs, r2⟩ := Dp.reads I _ y u he ry
    exact SeqAt.notIn_tuple_reads r2 r1 cs (SeqAt.canLay_of_shaped sd) (room_in_shaped sd hu) ⟨.bl _, H, I, rfl, q⟩
def seqD : D → Option (List D)
  | .list ds => some ds
  | .tuple ds => some ds
  | _ => none
def gIn (neg : Bool) : Sl → Sl → Option Sl := fun a b => match asD a, asD b with
  | some d, some e => (seqD e).bind fun ds => if SeqAt.shaped d && SeqAt.shaped (.list ds) then some (.dat (.bool (if neg then !ds.any (fun z => PyData.eqv z d) else ds.any fun z => PyData.eqv z d))) else none
  | _, _ => none
theorem de_inU {neg : Bool} (h1 : DE K T ta f) (h2 : DE K T tb g) : DE K T (tOp (rInU neg K) ta tb) (f2 (gIn neg) f g) := de_bin h1 h2 (by
  intro dm A0 H0 A σ H env k x y a b s Q S i1 i2 e hQ
  unfold gIn at e
  split at e
  · rename_i d e' q1 q2
    cases q3 : seqD e' with
    | none => rw [q3] at e; cases e
    | some ds =>
      rw [q3] at e
      simp only [Option.bind_some] at e
      by_cases hc : (SeqAt.shaped d && SeqAt.shaped (.list ds)) = true
      · rw [if_pos hc] at e
        cases e
        obtain ⟨c1, c2⟩ := Bool.and_eq_true_iff.mp hc
        refine ⟨d, ds, dp_asD i1 q1 c1, ?_, c1, c2, hQ _ H S (Lt.refl _ _) (Is.bl _)⟩
        cases e' with
        | list es => cases q3; exact .inl (dp_asD i2 q2 c2)
        | tuple es => cases q3; exact .inr (dp_asD i2 q2 (show SeqAt.shaped (.tuple ds) = true from c2))
        | _ => cases q3
      · rw [if_neg hc] at e; cases e
  · cases e)
end
end DL
namespace DL
open PySem PySem.Spec PyProof.Rows L2
theorem units65 {k : Nat} {A : Around} (r : Room k A) : A.units + 65 < cLine := by have := r.un; omega
theorem pg_tupK {X : Cx} {K : Fg} {es : List Expr} {kk : Nat} {pos : Pos} {n : Nat} {t : TGs} (e : X.K = K) (hc : X.calm = true) (h : PGs X es t) (hn : (assignEach es X.env).length = n := by rfl) (hst : (assignEach es X.env).findIdx? (·.1) = none := by rfl) : PG X (.Tuple es kk pos) (gTup K n t) := by
  subst e
  exact pg_tup hc h hn hst
end DL
set_option maxHeartbeats 4000000
namespace DL
open PySem PySem.Spec PyProof.Rows L2
/-- an own class of exceptions, over Exception in the end, without own making -/
structure XCls (K : Fg) (mg : Str → Option Value) (n : Str) (C : Addr) : Prop where
  g : mg n = some (.ref C)
  k : PySem.W.keepIn K (.ref C) = true
  x : PySem.W.excIn K C [.type "Exception", .type "BaseException", .type "object"] "Exception.__new__" = true
  b : PySem.W.subIn K (.ref C) (.type "BaseException") = some true
  t : PySem.W.typeIn K (.ref C) = some (.type "type")
  i : PySem.W.isClsIn K C = true
  s : PySem.W.subIn K (.ref C) (.ref C) = some true
theorem ps_raise0 {X : Cx} {W : WX} {n : Str} {C : Addr} {p pos pos' : Pos} (c : XCls X.K X.mg n C) (tk : Takes X W) (hc : X.calm = true) (hg : Gl X n) (hdb : (n == ("__debug__" : Str)) = false := by decide) :
    PS X (.Raise (some (.Call (.Name n p) [] [] pos)) none pos') (fun _ σ H => W (.ref C) none σ H) :=
  ps_raise hc tk (pmk_bare PySem.F.excBase_Exception c.x c.g c.k (raises_own c.b c.t) hg hdb)
theorem pss_and {X : Cx} {st : List Stmt} {p : Prop} {t : TS} (h : p → PSs X st t) : PSs X st (fun E σ H => p ∧ t E σ H) := ⟨fun pins s σ H D I hw => (h hw.1).run pins s σ H D I hw.2⟩
section
variable {K : Fg} {T : List Addr} {cl : Cls_}
/-- the suite: return (word, isinstance(e, C2)) -/
def tSaid (K : Fg) (D C2 : Addr) (w : Str) (i : Nat) (a : Addr) : TS := tRet (tTup (tCons (tC (.str w)) (tCons (tCB (rIsE K D a) (tCons (tVar i) (tCons (tC (.ref C2)) tNil))) tNil)))
def gSaid (n : String) (w : Str) (b : Bool) (x : Xn) : Fsx := fun _ k => if x.cls = n ∧ x.thing = none then .rt (.tuple [.str w, .bool b]) k else .bad
theorem dh_said {n : String} {D C2 : Addr} {w : Str} {i : Nat} {b : Bool} (hcl : cl n = some D) (hk : PySem.W.kitOne K (.ref D) (.ref C2) = some b) (x : Xn) :
    DH K T cl i x (fun a cls d => fun E σ H => (cls = .ref D ∧ d = none) ∧ tSaid K D C2 w i a E σ H) (gSaid n w b x) := by
  intro W a cls d dm A0 H0 A σ H env k E S e1 e2 ha xa o
  unfold gSaid at o
  by_cases hc : x.cls = n ∧ x.thing = none
  · rw [if_pos hc] at o
    obtain ⟨C, h1, rfl, h3⟩ := xa
    rw [hc.1, hcl] at h1
    cases h1
    rw [hc.2] at h3
    refine ⟨⟨rfl, h3⟩, _, e2, ⟨V.ref C2, .ref C2, b, rfl, fun u r => r, hk, ?_, fun p hp => ?_⟩⟩
    · exact Nat.le_trans (by decide : 2 ≤ 1000000) (line_le (Nat.le_refl _))
    · exact o _ _ (S.new hp).w0 (S.new hp).lt (Is.kp (hide_mono S.sub) (mk_tup S.wd hp (.cons (.str w) (.cons (.bl b) .nil))))
  · rw [if_neg hc] at o; exact o.elim
/-- a def that catches all that it lets rise -/
theorem spF_bodyX {t : WX → TS} {g : Fsx} {N : List Str} {n : Nat} {vs : List V} {H : Hp} {Q : VK} {E : XK} (hn : n ≤ N.length) (h : DSX K T cl t g) (sp : spF K T n (okF (fnX N.length g)) vs H Q E) : t (fun _ _ _ _ => False) { nx := fun _ H' => Q .non H', rt := Q } (L2.start N vs) H := by
  obtain ⟨dm, A, ss, k, d, k', hd, w, il, hl, ok, hf, hQ⟩ := sp
  have S := sta_start (N := N) w hd il ok (by omega)
  refine h _ dm A H A (L2.start N vs) H _ k _ S ?_
  unfold okF fnX at hf
  cases e : g (ss ++ List.replicate (N.length - ss.length) .un) k with
  | rt d1 k1 => rw [e] at hf; cases hf; exact hQ
  | nx e1 k1 => rw [e] at hf; cases hf; exact fun A' σ' H' S' _ => hQ _ H' S'.w0 S'.lt .non
  | bk e1 k1 => rw [e] at hf; cases hf
  | ct e1 k1 => rw [e] at hf; cases hf
  | bad => rw [e] at hf; cases hf
  | ex x e1 k1 => rw [e] at hf; cases hf
end
end DL
namespace DL
open PySem PySem.Spec PyProof.Rows L2
theorem kit_by {K : Fg} {D C : Addr} {v : Bool} (s : PySem.W.subIn K (.ref D) (.ref C) = some v) (t : PySem.W.typeIn K (.ref C) = some (.type "type")) (i : PySem.W.isClsIn K C = true) : PySem.W.kitCls K (.ref D) (.ref C) = some v := by
  unfold PySem.W.isClsIn at i
  show (if ((PySem.W.clsIn K C).isSome && PySem.W.typeIn K (.ref C) == some (.type "type")) = true then PySem.W.subIn K (.ref D) (.ref C) else none) = some v
  rw [i, t, s]
  rfl
theorem exm_by {K : Fg} {D C : Addr} {v : Bool} (b : PySem.W.subIn K (.ref C) (.type "BaseException") = some true) (s : PySem.W.subIn K (.ref D) (.ref C) = some v) (t : PySem.W.typeIn K (.ref C) = some (.type "type")) (i : PySem.W.isClsIn K C = true) : PySem.W.exmOne K (.ref D) (.ref C) = some v := by
  unfold PySem.W.exmOne
  rw [b]
  exact kit_by s t i
theorem kitOne_by {K : Fg} {D C : Addr} (s : PySem.W.subIn K (.ref D) (.ref C) = some true) (t : PySem.W.typeIn K (.ref C) = some (.type "type")) (i : PySem.W.isClsIn K C = true) : PySem.W.kitOne K (.ref D) (.ref C) = some true := by
  unfold PySem.W.kitOne
  split
  · rfl
  · exact kit_by s t i
/-- one class that may rise -/
def cl1 (n : String) (C : Addr) : Cls_ := fun s => if s = n then some C else none
theorem cl1_at {n : String} {C : Addr} : cl1 n C n = some C := if_pos rfl
theorem cl1_hm {K : Fg} {mg : Str → Option Value} {n : String} {x : Str} {C : Addr} (c : XCls K mg x C) : ∀ s C', cl1 n C s = some C' → PySem.W.exmOne K (.ref C') (.ref C) = some (decide (s = n)) := by
  intro s C' h
  unfold cl1 at h
  by_cases e : s = n
  · rw [if_pos e] at h
    cases h
    rw [decide_eq_true e]
    exact exm_by c.b c.s c.t c.i
  · rw [if_neg e] at h; cases h
/-- the two arguments the other way round -/
def swap2 {α : Type} : List α → List α
  | x :: y :: _ => [y, x]
  | _ => []
theorem isl_swap {K : Fg} (A0 : List Addr) (dm : Dm) (A : List Addr) (H : Hp) (vs : List V) (ss : List Sl) (h : IsSL K A0 dm A H vs ss) : IsSL K A0 dm A H (swap2 vs) (swap2 ss) := by
  cases h with
  | nil => exact .nil
  | cons h1 h2 =>
    cases h2 with
    | nil => exact .nil
    | cons h3 h4 => exact .cons h3 (.cons h1 .nil)
theorem vals_swap {zs : List V} {ws : List Value} (h : Vals zs ws) : Vals (swap2 zs) (swap2 ws) := by
  cases h with
  | nil => exact .nil
  | cons h1 h2 =>
    cases h2 with
    | nil => exact .nil
    | cons h3 h4 => exact .cons h3 (.cons h1 .nil)
end DL
namespace DL
open PySem PySem.Spec PyProof.Rows L2
section
variable {K : Fg} {T : List Addr} {ta tb : TE} {f g : Fe}
/-- // by a divisor of either sign -/
def CDivL : Int → Int → Prop := fun _ j => j ≠ 0 ∧ j.natAbs.log2 < 9000
theorem op_fdivL {X : Cx} : OpR X (binaryOp .FloorDiv) (rI CDivL fun i j => .int (i.fdiv j)) := opI fun _ _ _ _ _ _ _ hc q => floordiv_int hc.1 q (Or.inl (PyProof.noPylong_of_log2 hc.2))
def rDivU : R2 := fun x y H Q => (rI CDivW fun i j => .int (i / j)) x y H Q ∨ (rI CDivL fun i j => .int (i.fdiv j)) x y H Q
theorem op_fdivU {X : Cx} : OpR X (binaryOp .FloorDiv) rDivU := op_fdivW.or op_fdivL
def cDivN (_ j : Int) : Bool := decide (j ≠ 0) && decide (j.natAbs.log2 < 9000)
def gDivU : Sl → Sl → Option Sl := fun a b => match gII cDiv (fun i j => .int (i / j)) a b with
  | some s => some s
  | none => gII cDivN (fun i j => .int (i.fdiv j)) a b
theorem de_divU (h1 : DE K T ta f) (h2 : DE K T tb g) : DE K T (tOp rDivU ta tb) (f2 gDivU f g) := de_bin h1 h2 (by
  intro dm A0 H0 A σ H env k x y a b s Q S i1 i2 e hQ
  unfold gDivU at e
  split at e
  · rename_i s' e1
    cases e
    obtain ⟨i, j, rfl, rfl, hc, rfl⟩ := gII_some e1
    rw [is_int i1, is_int i2]
    unfold cDiv at hc
    simp only [Bool.and_eq_true, decide_eq_true_eq] at hc
    exact .inl ⟨i, j, rfl, rfl, hc, hQ _ H S (Lt.refl _ _) (.int _)⟩
  · obtain ⟨i, j, rfl, rfl, hc, rfl⟩ := gII_some e
    rw [is_int i1, is_int i2]
    unfold cDivN at hc
    simp only [Bool.and_eq_true, decide_eq_true_eq] at hc
    exact .inr ⟨i, j, rfl, rfl, hc, hQ _ H S (Lt.refl _ _) (.int _)⟩)
end
end DL
set_option maxHeartbeats 4000000
namespace DL
open PySem PySem.Spec PyProof.Rows L2
/-! ### xs == [], xs != [] for lists of any data -/
def rNil (neg : Bool) (K : Fg) : R2 := fun x y H Q => ∃ p q vs, x = .ref p ∧ y = .ref q ∧ SqL K H p vs ∧ SqL K H q [] ∧ Q (.bl (if neg then !vs.isEmpty else vs.isEmpty)) H
theorem op_eqNil {X : Cx} (hu : X.A.units + 64 < cLine) : OpR X (compareOp .Eq) (rNil false X.K) := by
  intro pins s σ H x y v u Q I rx ry h
  obtain ⟨p, q, vs, rfl, rfl, h1, h2, hQ⟩ := h
  cases rx
  cases ry
  obtain ⟨its, r1, l1, _⟩ := I.list h1
  obtain ⟨its2, r2, l2, _⟩ := I.list h2
  cases r2
  have len := r1.length
  cases vs with
  | nil =>
    cases r1
    exact SeqAt.eq_listAt (e := fun _ => true) l1.isList l2.isList rfl (by omega) (fun j h1 _ => absurd h1 (by simp)) ⟨.bl _, H, I, rfl, hQ⟩
  | cons a b =>
    refine SeqAt.eq_list_lengthsAt l1.isList l2.isList ?_ (by omega) ⟨.bl _, H, I, rfl, hQ⟩
    cases its with
    | nil => simp at len
    | cons c d => simp
theorem op_neNil {X : Cx} (hu : X.A.units + 64 < cLine) : OpR X (compareOp .NotEq) (rNil true X.K) := by
  intro pins s σ H x y v u Q I rx ry h
  obtain ⟨p, q, vs, rfl, rfl, h1, h2, hQ⟩ := h
  cases rx
  cases ry
  obtain ⟨its, r1, l1, _⟩ := I.list h1
  obtain ⟨its2, r2, l2, _⟩ := I.list h2
  cases r2
  have len := r1.length
  cases vs with
  | nil =>
    cases r1
    exact SeqAt.RcNeAt.lists (e := fun _ => true) l1.isList l2.isList rfl (by omega) (fun j h1 _ => absurd h1 (by simp)) _ _ _ _ ⟨.bl _, H, I, rfl, hQ⟩
  | cons a b =>
    refine SeqAt.RcNeAt.lists_lengths l1.isList l2.isList ?_ (by omega) _ _ _ _ ⟨.bl _, H, I, rfl, hQ⟩
    cases its with
    | nil => simp at len
    | cons c d => simp
section
variable {K : Fg} {T : List Addr} {ta tb : TE} {f g : Fe}
def gNil (neg : Bool) : Sl → Sl → Option Sl := fun a b => match asL a, asL b with
  | some ds, some [] => some (.dat (.bool (if neg then !ds.isEmpty else ds.isEmpty)))
  | _, _ => none
theorem de_nil {neg : Bool} (h1 : DE K T ta f) (h2 : DE K T tb g) : DE K T (tOp (rNil neg K) ta tb) (f2 (gNil neg) f g) := de_bin h1 h2 (by
  intro dm A0 H0 A σ H env k x y a b s Q S i1 i2 e hQ
  unfold gNil at e
  split at e
  · rename_i ds e1 e2
    cases e
    obtain ⟨p, vs, rfl, g1, g3⟩ := is_lst i1 e1
    obtain ⟨q, ws, rfl, j1, j3⟩ := is_lst i2 e2
    cases j3
    refine ⟨p, q, vs, rfl, rfl, .inl (.inl g1), .inl (.inl j1), ?_⟩
    have en : vs.isEmpty = ds.isEmpty := by cases g3 <;> rfl
    rw [en]
    exact hQ _ H S (Lt.refl _ _) (Is.bl _)
  · cases e)
end
end DL
set_option maxHeartbeats 4000000
namespace PySem
namespace TH
open PySem.W PySem.Calls PyProof.Rows PySem.HandSPX
/-! ### the text of __init__ -/
def iA (p1 p2 : Pos) : Arguments := { posonlyargs := [], args := [{ arg := "self", annotation := none, pos := p1 }, { arg := "thing", annotation := none, pos := p2 }], vararg := none, kwonlyargs := [], kw_defaults := [], kwarg := none, defaults := [] }
def iB (q1 q2 q3 q4 : Pos) : List Stmt := [.Assign [.Attribute (.Name "self" q1) "thing" q2] (.Name "thing" q3) q4]
def iS : Scope := { kind := .function, names := [(PySem.Str.ofString "self", .local), (PySem.Str.ofString "thing", .local)], isGenerator := false, isCoroutine := false, more := [] }
abbrev bmE : List Value := [.type "Exception", .type "BaseException", .type "object"]
/-- what the written part says of an own class x at C (over Exception in the end), whose __init__ at fI keeps its argument as `thing` -/
structure Txt (K : Frag) (mg : Str → Option Value) (x ql : Str) (C fI : Addr) : Prop where
  gC : mg x = some (.ref C)
  kC : keepIn K (.ref C) = true
  q : excInitIn K C bmE "Exception.__new__" = true
  ov : excOver K C bmE = true
  sa : findIn K (.ref C) "__setattr__" = some (some (.builtin "object.__setattr__"))
  ga : findIn K (.ref C) "__getattribute__" = some (some (.builtin "BaseException.__getattribute__"))
  gg : findIn K (.ref C) "__getattr__" = some none
  noN : findIn K (.ref C) "thing" = some none
  iC : findIn K (.ref C) "__init__" = some (some (.ref fI))
  tC : typeIn K (.ref fI) = some (.type "function")
  exC : subIn K (.ref C) (.type "BaseException") = some true
  tyC : typeIn K (.ref C) = some (.type "type")
  hdC : hasDictIn K C = true
  ss : subIn K (.ref C) (.ref C) = some true
  ic : isClsIn K C = true
  fn : ∃ (oc : Value) (od : Option Addr) (doc pm : Value) (an : Option Addr) (cdv ct : Value) (osl : Array (Option Value)) (p1 p2 q1 q2 q3 q4 : Pos),
    K.lookup fI = some ⟨oc, od, .func (fnOf "__init__" ql (iA p1 p2) (iB q1 q2 q3 q4) iS .none .none doc pm an cdv ct), osl⟩ ∧ codeIn K cdv ql = true
section
variable {prog : Program} {w : World} {A : Around} {E : Value → Shared → Prop} {R : Result → Shared → Prop} {hp : Heap} {g : Array GenState} {d : Drawn} {t : Nat} {os : OsState}
open Builtin Builtin.ObjectAttr in
/-- self.name = v, the first one, for a class over Exception -/
theorem th_osa {K : Frag} {name : Str} {tk : Tok} {v : Value} {e C : Addr} {fv : Array Value} (X : K.In hp) (he : hp.get? e = some { cls := .ref C, data := .fields fv }) (ov : excOver K C bmE = true) (hd : hasDictIn K C = true) (ha : findIn K (.ref C) name = some none)
    (go : ∀ h2 tk2 dx, (∀ b o, b ≠ e → hp.get? b = some o → h2.get? b = some o) → hp.objs.size ≤ dx → dx ≠ e → h2.get? e = some { cls := .ref C, dict := some dx, data := .fields fv } →
      h2.Ns1 dx (fun y => if y = name then some v else none) → R (.ok (.ret .none)) ⟨h2, g, d, tk2, os⟩) :
    codeAny (model prog w) A (.call (.builtin "object.__setattr__") ⟨[.ref e, .str name tk, v], []⟩) R ⟨hp, g, d, t, os⟩ := by
  have J : InstAt hp e { cls := .ref C, data := .fields fv } C none := ⟨he, rfl, rfl, trivial⟩
  have ta : takerIn K C name = some none := by unfold takerIn; rw [ha]; rfl
  have away : e ≠ hp.objs.size := Nat.ne_of_lt (Heap.lt_size he)
  obtain ⟨cd, hcd, hdict⟩ := any_some hd
  have Lc : Looks (model prog w) hp (classData C) cd := looks_clsIn X hcd
  refine osa_openX (od := none) PySem.F.store_Exception X J ov ta fun b => ?_
  show wpAny _ _ (storeInOwnDict (.ref e) (.ref C) (.str name tk) name v b) _ _ _
  obtain ⟨nm, bs, mro, ns, qn, dct, sn, sb, ab, col, del⟩ := cd
  dsimp only at hdict
  subst hdict
  unfold storeInOwnDict ownDictForStores
  repeat (first | with_reducible refine HandSPX.store_in_new ?_ ?_ | with_reducible refine wpAny_loadPart_at he ?_ | with_reducible refine Lc.at ?_ | wp_step)
  · exact ⟨_, #[], _, Eq.trans (Heap.get?_update_ne _ _ _ _ away.symm) (Heap.get?_push_at rfl rfl), rfl, fun en hen => absurd hen (by simp), fun _ => rfl⟩
  · intro h2 tk2 hn2 sm
    have stays : (hp.push { cls := .type "dict", data := .dict #[] }).get? e = some { cls := .ref C, data := .fields fv } := Heap.get?_push_of_some _ he
    refine go h2 tk2 hp.objs.size (fun b o hb ho => ?_) (Nat.le_refl _) away.symm ?_ hn2
    · have s1 := sm.2 b (Nat.ne_of_lt (Heap.lt_size ho))
      exact s1.trans ((Heap.get?_update_ne _ _ _ _ hb).trans (Heap.get?_push_of_some _ ho))
    · have s1 := sm.2 e away
      exact s1.trans (Heap.get?_update_self _ stays rfl)
end
theorem one_size (v : Value) : [v].length ≤ sizeLine := by
  rw [sizeLine_eq]
  exact (by decide : 1 ≤ 16777216)
theorem kept_but {K : Frag} {h h' : Heap} {x : Addr} (X : K.In h) (hx : K.lookup x = none) (k : ∀ b o, b ≠ x → h.get? b = some o → h'.get? b = some o) : K.In h' := fun a o e =>
  k a o (fun z => by rw [z, hx] at e; cases e) (X a o e)
theorem ldC {M : Model} {s : Shared} {name : Str} {scope : Scope} {L a : Addr} {cd : Value} {m : Str → Option Value} {x : Str} {pos : Pos} {v : Value} {Q : Value → Shared → Prop} {A : Around} {E : Value → Shared → Prop} (hn : s.heap.Ns L m) (hv : m x = some v) (h : Q v s)
    (hk : scope.kind = .function := by rfl) (hl : (envOfC name scope L a cd).kindOf x = some .local := by rfl) (hd : (x == ("__debug__" : Str)) = false := by decide) :
    wpAny M A (eval (.Name x pos) (envOfC name scope L a cd)) Q E s := wpAny_Name (wpAny_loadName_local hk hl hn hv h) hd
/-- what __init__ leaves of a fresh exception at x -/
structure InitEnd (h h' : Heap) (x C dx t1 : Addr) (v : Value) : Prop where
  keep : ∀ b o, b ≠ x → h.get? b = some o → h'.get? b = some o
  obj : h'.get? x = some { cls := .ref C, dict := some dx, data := .fields #[.ref t1, .none, .none, .none, .bool false, .none] }
  dbig : h.objs.size ≤ dx
  dne : dx ≠ x
  ns : h'.Ns1 dx (fun y => if y = "thing" then some v else none)
/-- a made Low -/
structure OwnMade (h h' : Heap) (e C d : Addr) (v : Value) : Prop where
  keep : ∀ b o, h.get? b = some o → h'.get? b = some o
  new : h.objs.size ≤ e
  obj : ∃ oe vs, h'.get? e = some oe ∧ oe.cls = .ref C ∧ oe.dict = some d ∧ oe.data = .fields vs ∧ vs[1]? = some .none
  dbig : h.objs.size ≤ d
  dne : d ≠ e
  ns : h'.Ns1 d (fun y => if y = "thing" then some v else none)
section
variable {prog : Program} {w : World} {A : Around} {E : Value → Shared → Prop} {R : Result → Shared → Prop} {s : Shared} {K : Frag} {mg : Str → Option Value} {xn ql : Str} {C fI : Addr}
theorem th_init (T : Txt K mg xn ql C fI) {x t0 : Addr} {v : Value} (X : K.In s.heap) (hlim : s.heap.NoLimit) (hx : s.heap.get? x = some (excO C t0)) (hnx : K.lookup x = none) (hroom : A.depth < recursionLimit)
    (hq : ∀ h' tk dx, InitEnd s.heap h' x C dx t0 v → R (.ok (.ret .none)) { s with heap := h', toks := tk }) :
    codeAny (model prog w) A (.call (.ref fI) ⟨[.ref x, v], []⟩) R s := by
  obtain ⟨oc, od, doc, pm, an, cdv, ct, osl, p1, p2, q1, q2, q3, q4, ho, hcd⟩ := T.fn
  refine Att.call_fn (binds := [("self", .ref x), ("thing", v)]) X hlim ho hcd hroom (BindsTo.of_eq (by first | rfl | with_unfolding_all rfl)) (by first | rfl | decide | with_unfolding_all rfl) (fun s₁ IC => ?_) rfl rfl rfl
  obtain ⟨h₁, tk₁, rfl⟩ := IC.toInCall.same
  have k : ∀ b o, s.heap.get? b = some o → h₁.get? b = some o := IC.toInCall.keep
  have hn := IC.toInCall.ns
  have hxL : s.heap.objs.size ≠ x := Nat.ne_of_gt (Heap.lt_size hx)
  have X₁ : K.In h₁ := X.keeps k
  have hx₁ := k _ _ hx
  -- self.by = by
  show wpAny _ _ (execs _ _) _ _ _
  refine wpAny_execs_cons (plainObj_wpAny_Assign_Attribute ?_)
  refine ldC (v := v) hn (by first | rfl | with_unfolding_all rfl | kernel_rfl) (ldC (v := .ref x) hn (by first | rfl | with_unfolding_all rfl | kernel_rfl) ?_)
  refine set_plain X₁ (ox := excO C t0) (od := none) ⟨hx₁, rfl, rfl, trivial⟩ T.sa ?_
  refine th_osa X₁ hx₁ T.ov T.hdC T.noN (fun h₃ tk₃ dx k₃ dn dne hx₃ hn₃ => ?_)
  show wpAny _ _ (execs _ _) _ _ _
  have z : s.heap.objs.size < h₁.objs.size := hn.lt
  exact wpAny_execs_nil (hq h₃ tk₃ dx ⟨fun b o hb e => k₃ b o hb (k b o e), hx₃, Nat.le_of_lt (Nat.lt_of_lt_of_le z dn), dne, hn₃⟩)
theorem th_made (T : Txt K mg xn ql C fI) {v : Value} (X : K.In s.heap) (hlim : s.heap.NoLimit) (hroom : A.depth + 1 < recursionLimit)
    (hq : ∀ h' tk e d, OwnMade s.heap h' e C d v → R (.ok (.ret (.ref e))) { s with heap := h', toks := tk }) :
    codeAny (model prog w) A (.call (.ref C) ⟨[v], []⟩) R s := by
  obtain ⟨nm, N, qn, bs, bm, hdct, sn, sub, ab, col, dd, k0, k1, k2, k3, k5, hC, hT⟩ := excInit_of X T.q
  obtain ⟨hp, g, dr, tk, os⟩ := s
  have k : ∀ b o, hp.get? b = some o → ((hp.push (kdv_tup [v])).push (excO C hp.objs.size)).get? b = some o := fun b o e => Heap.get?_push_of_some _ (Heap.get?_push_of_some _ e)
  have hget : ((hp.push (kdv_tup [v])).push (excO C hp.objs.size)).get? (hp.objs.size + 1) = some (excO C hp.objs.size) := by heap_get
  have hnx : K.lookup (hp.objs.size + 1) = none := by
    cases e : K.lookup (hp.objs.size + 1) with
    | none => rfl
    | some o =>
      have z : hp.get? (hp.objs.size + 1) = some o := X _ _ e
      exact absurd (Nat.lt_of_succ_lt (Heap.lt_size z)) (Nat.lt_irrefl _)
  refine HandSPX.call_own PySem.F.excBase_Exception hT hC (looks_findIn X T.iC) (fun self => bind_fn X self T.tC) (one_size v) ?_
  refine th_init (s := ⟨(hp.push (kdv_tup [v])).push (excO C hp.objs.size), g, dr, tk, os⟩) T (X.keeps k) (hlim.keeps k) hget hnx ?_ fun h' tk' dx ⟨k', hx, dn, dne, hns⟩ => ?_
  · show A.depth + 1 < recursionLimit
    exact hroom
  · have old : ∀ b o, hp.get? b = some o → h'.get? b = some o := fun b o e => k' b o (Nat.ne_of_lt (Nat.lt_succ_of_lt (Heap.lt_size e))) (k b o e)
    have z : hp.objs.size + 1 + 1 ≤ dx := by
      first
        | (simpa only [Heap.size_push] using dn)
        | exact dn
        | (have q := dn; rw [Heap.size_push, Heap.size_push] at q; exact q)
    exact ⟨rfl, hq h' tk' (hp.objs.size + 1) dx ⟨old, Nat.le_succ _, ⟨_, _, hx, rfl, rfl, rfl, rfl⟩, Nat.le_trans (Nat.le_trans (Nat.le_succ _) (Nat.le_succ _)) z, dne, hns⟩⟩
end
end TH
end PySem
namespace L2
open PySem PySem.Spec PyProof.Rows
theorem relO_th {v : V} {v' : Value} (r : RelV v v') (f : Str) : RelO (List.lookup f [(("thing" : Str), v)]) (if f = "thing" then some v' else none) := by
  by_cases hw : f = "thing"
  · subst hw
    rw [if_pos rfl]
    have q : List.lookup ("thing" : Str) [(("thing" : Str), v)] = some v := by simp [List.lookup]
    rw [q]
    exact r
  · rw [if_neg hw]
    have qw : (f == ("thing" : Str)) = false := by simpa using hw
    have q2 : List.lookup f [(("thing" : Str), v)] = none := by simp [List.lookup, qw]
    rw [q2]
    trivial
section
variable {X : Cx} {xn ql : Str} {C fI : Addr}
/-- X(e) -/
def tMkTh (C : Addr) (ta : TA) : St → Hp → XK → Prop := fun σ H Q => ta σ H fun vs H1 => ∃ v, vs = [v] ∧ ∀ d, H1 d = none → Q (.ref C) (some d) (upd H1 d (.xd [(("thing" : Str), v)]))
theorem pmk_th {a : Expr} {ta : TA} {p pos : Pos} {k : Nat} (T : PySem.TH.Txt X.K X.mg xn ql C fI) (hr : Room k X.A) (ha : PA X [a] ta) (hg : Gl X xn) (hdb : (xn == ("__debug__" : Str)) = false)
    (he : starEach (a :: []) X.env = (false, eval a X.env) :: starEach [] X.env := by rfl) (hpl : (backTo pos (starEach [] X.env)).any (·.1) = false := by rfl) :
    PMk X (.Call (.Name xn p) [a] [] pos) (tMkTh C ta) := by
  intro pins s σ H Q I h
  refine wpAny_Call_Name_kw (ld_glob I hg T.gC ?_ hdb)
  refine PySem.W.callWith_K (h₀ := X.base) I.ok.mod.kin T.kC (thn (ha.run pos pins s σ H _ I h) fun us s1 hh => ?_) he hpl
  obtain ⟨vs, H1, I1, r1, v, ev, q1⟩ := hh
  subst ev
  refine ⟨I1.kIn, ?_⟩
  cases r1 with
  | cons rv rn =>
    rename_i v' us'
    cases rn
    show wpAny _ _ (call (.ref C) [v']) _ _ _
    have hlim := I1.nolimit
    obtain ⟨hp, g, dr, tk, os⟩ := s1
    refine wpAny_call (PySem.TH.th_made T I1.kIn hlim (by have := hr.dp; omega) fun h' tk' e d M => ?_)
    show MkP X pins σ Q (.ref e) ⟨h', g, dr, tk', os⟩
    obtain ⟨oe, fv, hoe, hc, hd, hdat, h1⟩ := M.obj
    have hns := M.ns
    obtain ⟨G', g1, g2⟩ := restrict h' fun b => decide (b ≠ e)
    have gk : ∀ b, b ≠ e → G'.get? b = h'.get? b := fun b hb => g1 b (decide_eq_true hb)
    have ge : G'.get? e = none := g2 e (by simp)
    have old : ∀ b o, hp.get? b = some o → G'.get? b = some o := fun b o q => (gk b (Nat.ne_of_lt (Nat.lt_of_lt_of_le (Heap.lt_size q) M.new))).trans (M.keep b o q)
    have ob : ObjOk X.prog X.w (upd H1 d (.xd [(("thing" : Str), v)])) G' d (.xd [(("thing" : Str), v)]) :=
      ⟨_, hns.at (fun o q => (gk d M.dne).trans q), fun f => relO_th rv f⟩
    have J : Inv X pins σ (upd H1 d (.xd [(("thing" : Str), v)])) ⟨G', g, dr, tk', os⟩ := I1.laid (t' := tk') old M.dbig ob
    refine ⟨e, oe, fv, ⟨G', g, dr, tk', os⟩, _, .ref C, some d, rfl, J, fun b o q => ?_, ge, hoe, ⟨hc, hd⟩, hdat, h1, ?_, rfl, I1.bare, raises_own T.exC T.tyC, q1 d (I1.hok.fresh M.dbig)⟩
    · by_cases hb : b = e
      · have q' : G'.get? b = some o := q
        rw [hb, ge] at q'; cases q'
      · exact (gk b hb).symm.trans q
    · rw [upd_ne (Ne.symm M.dne)]
      exact I1.hok.fresh M.new
/-- raise Low(e) -/
def tRaiseTh (C : Addr) (W : WX) (ta : TA) : TS := fun _ σ H => tMkTh C ta σ H fun cls d H' => W cls d σ H'
theorem ps_raiseTh {a : Expr} {ta : TA} {W : WX} {p pos pos2 : Pos} {k : Nat} (hc : X.calm = true) (T : PySem.TH.Txt X.K X.mg xn ql C fI) (hr : Room k X.A) (tk : Takes X W) (ha : PA X [a] ta) (hg : Gl X xn) (hdb : (xn == ("__debug__" : Str)) = false)
    (he : starEach (a :: []) X.env = (false, eval a X.env) :: starEach [] X.env := by rfl) (hpl : (backTo pos (starEach [] X.env)).any (·.1) = false := by rfl) :
    PS X (.Raise (some (.Call (.Name xn p) [a] [] pos)) none pos2) (tRaiseTh C W ta) := ps_raise hc tk (pmk_th T hr ha hg hdb he hpl)
/-- low.by, low the exception that the suite holds (at a; its class cls, its dict d) -/
def tThing (C : Addr) (a : Addr) (cls : Value) (d : Option Addr) (te : TE) : TE := fun σ H Q => te σ H fun x H1 => x = .ref a ∧ cls = .ref C ∧ ∃ (dd : Addr) (v : V), d = some dd ∧ H1 dd = some (.xd [(("thing" : Str), v)]) ∧ Q v H1
theorem pe_thing {a : Addr} {oe : Obj} {cls : Value} {d : Option Addr} {pn : List (Addr × Obj)} {e : Expr} {te : TE} {pos : Pos} (T : PySem.TH.Txt X.K X.mg xn ql C fI) (hz : Zc cls d oe) (hf : ∃ vs, oe.data = .fields vs) (he : PE (X.suite a ((a, oe) :: pn)) e te)
    (hb : attributeBase e "thing" X.env (eval e X.env) = eval e X.env := by rfl) :
    PE (X.suite a ((a, oe) :: pn)) (.Attribute e "thing" pos) (tThing C a cls d te) := by
  refine ⟨fun pins s σ H Q I h => ?_⟩
  refine attr_of hb (thn (he.run pins s σ H _ I h) fun u s1 hh => ?_)
  obtain ⟨x, H1, I1, rx, ex, ec, dd, v, ed, ea, q⟩ := hh
  subst ex
  obtain rfl : u = Value.ref a := rx
  subst ec
  subst ed
  obtain ⟨ha, _⟩ := I1.pin (a, oe) (List.mem_append_left _ List.mem_cons_self)
  obtain ⟨vs, hd⟩ := hf
  have hx : ObjOk X.prog X.w H1 s1.heap dd (.xd [(("thing" : Str), v)]) := I1.hok dd _ ea
  obtain ⟨mA, hns, hr⟩ := hx
  obtain ⟨od, ho, hl⟩ := lookIn_ns hns
  have l : List.lookup ("thing" : Str) [(("thing" : Str), v)] = some v := by simp [List.lookup]
  obtain ⟨u, hu, ru⟩ := RelO.some_of (v := v) (o := mA "thing") (by rw [← l]; exact hr "thing")
  have J : PySem.W.InstAt s1.heap a oe C (some od) := ⟨ha, hz.1, by unfold PySem.W.notCls; rw [hd] <;> rfl, by rw [hz.2]; exact ho⟩
  exact HandSPX.exc_get I1.kIn J T.ga T.gg T.exC (PySem.W.findObj_own T.hdC T.noN rfl (by rw [hl, hu])) (handed_of ru) ⟨v, H1, I1.tok _, ru, q⟩
end
end L2
set_option maxHeartbeats 4000000
namespace DL
open PySem PySem.Spec PyProof.Rows L2
/-! ### what is never reached, a call as a statement, chains of three -/
theorem ps_off {X : Cx} {st : Stmt} : PS X st (fun _ _ _ => False) := ⟨fun _ _ _ _ _ _ no => no.elim⟩
def sOff : Fs := fun _ _ => .bad
section
variable {K : Fg} {T : List Addr} {ta tb tc td : TE} {f g h l : Fe}
theorem ds_off : DS K T (fun _ _ _ => False) sOff := fun _ _ _ _ _ _ _ _ _ _ no => no
def sExpr (f : Fe) : Fs := fun env k => match f env k with
  | some p => .nx env p.2
  | none => .bad
theorem ds_expr (h1 : DE K T ta f) : DS K T (tDrop ta) (sExpr f) := by
  intro dm A0 H0 A σ H env k E S o
  unfold sExpr at o
  cases e : f env k with
  | none => rw [e] at o; exact o.elim
  | some p =>
    rw [e] at o
    exact h1 dm A0 H0 A σ H env k _ S _ _ e fun v H' S' low _ => o A σ H' S' (tr_of_lt S.wd low)
/-- a op1 b op2 c op3 d -/
def tChain3 (r r' r'' : R2) (ta tb tc td : TE) : TE := fun σ H Q => ta σ H fun x H1 => tb σ H1 fun y H2 => r x y H2 fun z H3 => ∃ k, z = .bl k ∧
  (if k = true then tc σ H3 fun u H4 => r' y u H4 fun z2 H5 => ∃ k2, z2 = .bl k2 ∧ (if k2 = true then td σ H5 fun w H6 => r'' u w H6 Q else Q (.bl false) H5) else Q (.bl false) H3)
def fChain3 (p q r : Int → Int → Bool) (f g h l : Fe) : Fe := fun env k => (f env k).bind fun x => (g env x.2).bind fun y => match x.1, y.1 with
  | .dat (.int i), .dat (.int j) => if p i j = true then (h env y.2).bind fun z => match z.1 with
      | .dat (.int m) => if q j m = true then (l env z.2).bind fun u => match u.1 with
          | .dat (.int n) => some (.dat (.bool (r m n)), u.2)
          | _ => none
        else some (.dat (.bool false), z.2)
      | _ => none
    else some (.dat (.bool false), y.2)
  | _, _ => none
theorem de_chain3 {p q r : Int → Int → Bool} (h1 : DE K T ta f) (h2 : DE K T tb g) (h3 : DE K T tc h) (h4 : DE K T td l) :
    DE K T (tChain3 (rI0 fun i j => .bl (p i j)) (rI0 fun i j => .bl (q i j)) (rI0 fun i j => .bl (r i j)) ta tb tc td) (fChain3 p q r f g h l) := by
  intro dm A0 H0 A σ H env k Q S s k' hf hQ
  unfold fChain3 at hf
  cases e1 : f env k with
  | none => rw [e1] at hf; cases hf
  | some x =>
    obtain ⟨x, k1⟩ := x
    rw [e1] at hf
    simp only [Option.bind_some] at hf
    cases e2 : g env k1 with
    | none => rw [e2] at hf; cases hf
    | some y =>
      obtain ⟨y, k2⟩ := y
      rw [e2] at hf
      simp only [Option.bind_some] at hf
      split at hf
      · rename_i i j
        refine h1 dm A0 H0 A σ H env k _ S _ _ e1 fun v H1 S1 l1 i1 => ?_
        refine h2 dm A0 H0 A σ H1 env k1 _ S1 _ _ e2 fun v' H2 S2 l2 i2 => ?_
        rw [is_int i1, is_int i2]
        refine ⟨i, j, rfl, rfl, p i j, rfl, ?_⟩
        cases hp : p i j with
        | false =>
          rw [hp] at hf
          simp only [Bool.false_eq_true, if_false] at hf
          cases hf
          exact iteF (hQ _ H2 S2 (l1.trans l2) (Is.bl _))
        | true =>
          rw [hp] at hf
          simp only [if_true] at hf
          refine iteT ?_
          cases e3 : h env k2 with
          | none => rw [e3] at hf; cases hf
          | some z =>
            obtain ⟨z, k3⟩ := z
            rw [e3] at hf
            simp only [Option.bind_some] at hf
            split at hf
            · rename_i m
              refine h3 dm A0 H0 A σ H2 env k2 _ S2 _ _ e3 fun u H3 S3 l3 i3 => ?_
              rw [is_int i3]
              refine ⟨j, m, rfl, rfl, q j m, rfl, ?_⟩
              cases hq : q j m with
              | false =>
                rw [hq] at hf
                simp only [Bool.false_eq_true, if_false] at hf
                cases hf
                exact iteF (hQ _ H3 S3 ((l1.trans l2).trans l3) (Is.bl _))
              | true =>
                rw [hq] at hf
                simp only [if_true] at hf
                refine iteT ?_
                cases e4 : l env k3 with
                | none => rw [e4] at hf; cases hf
                | some u4 =>
                  obtain ⟨u4, k4⟩ := u4
                  rw [e4] at hf
                  simp only [Option.bind_some] at hf
                  split at hf
                  · rename_i n
                    cases hf
                    refine h4 dm A0 H0 A σ H3 env k3 _ S3 _ _ e4 fun w H4 S4 l4 i4 => ?_
                    rw [is_int i4]
                    exact ⟨m, n, rfl, rfl, hQ _ H4 S4 (((l1.trans l2).trans l3).trans l4) (Is.bl _)⟩
                  · cases hf
            · cases hf
      · cases hf
end
section
variable {X : Cx} {a b c d : Expr} {ta tb tc td : TE} {pos : Pos}
theorem pe_chain3 {o1 o2 o3 : CmpOp} {r r' r'' : R2} (h1 : OpR X (compareOp o1) r) (h2 : OpR X (compareOp o2) r') (h3 : OpR X (compareOp o3) r'') (ha : PE X a ta) (hb : PE X b tb) (hc : PE X c tc) (hd : PE X d td)
    (hm : lastMarks [o1, o2, o3] [b, c, d] = false := by with_unfolding_all rfl) : PE X (.Compare a [o1, o2, o3] [b, c, d] pos) (tChain3 r r' r'' ta tb tc td) := by
  refine ⟨fun pins s σ H Q I want => ?_⟩
  refine Compare_chain (thn (ha.run pins s σ H _ I want) fun v s1 ⟨x, H1, I1, e1, n1⟩ => ?_) hm
  refine chain_link (thn (hb.run pins s1 σ H1 _ I1 n1) fun u s2 ⟨y, H2, I2, e2, n2⟩ => ?_)
  refine thn (h1 pins s2 σ H2 x y v u _ I2 e1 e2 n2) fun d1 s3 ⟨z, H3, I3, e3, k, ez, n3⟩ => ?_
  subst ez
  cases e3
  refine wpAny_truthy_bool ?_
  cases k with
  | false => exact ite_ff ⟨.bl false, H3, I3, rfl, n3⟩
  | true =>
    refine ite_tt (chain_link (thn (hc.run pins s3 σ H3 _ I3 n3) fun u2 s4 ⟨y2, H4, I4, e4, n4⟩ => ?_))
    refine thn (h2 pins s4 σ H4 y y2 u u2 _ I4 e2 e4 n4) fun d2 s5 ⟨z2, H5, I5, e5, k2, ez2, n5⟩ => ?_
    subst ez2
    cases e5
    refine wpAny_truthy_bool ?_
    cases k2 with
    | false => exact ite_ff ⟨.bl false, H5, I5, rfl, n5⟩
    | true => exact ite_tt (chain_last (thn (hd.run pins s5 σ H5 _ I5 n5) fun u3 s6 ⟨y3, H6, I6, e6, n6⟩ => h3 pins s6 σ H6 y2 y3 u2 u3 Q I6 e4 e6 n6))
theorem pt_chain3 {o1 o2 o3 : CmpOp} {r r' r'' : R2} (h1 : OpR X (compareOp o1) r) (h2 : OpR X (compareOp o2) r') (h3 : OpR X (compareOp o3) r'') (ha : PE X a ta) (hb : PE X b tb) (hc : PE X c tc) (hd : PE X d td)
    (hm : lastMarks [o1, o2, o3] [b, c, d] = false := by with_unfolding_all rfl) : PT X (.Compare a [o1, o2, o3] [b, c, d] pos) (tTest (tChain3 r r' r'' ta tb tc td)) := by
  refine ⟨fun pins s σ H Q I want => ?_⟩
  refine isTrue_chain (thn (ha.run pins s σ H _ I want) fun v s1 ⟨x, H1, I1, e1, n1⟩ => ?_) hm
  refine test_link (thn (hb.run pins s1 σ H1 _ I1 n1) fun u s2 ⟨y, H2, I2, e2, n2⟩ => ?_)
  refine thn (h1 pins s2 σ H2 x y v u _ I2 e1 e2 n2) fun d1 s3 ⟨z, H3, I3, e3, k, ez, n3⟩ => ?_
  subst ez
  cases e3
  refine wpAny_truthy_bool ?_
  cases k with
  | false =>
    obtain ⟨k', e', q'⟩ := n3
    cases e'
    exact ite_ff ⟨H3, I3, q'⟩
  | true =>
    refine ite_tt (test_link (thn (hc.run pins s3 σ H3 _ I3 n3) fun u2 s4 ⟨y2, H4, I4, e4, n4⟩ => ?_))
    refine thn (h2 pins s4 σ H4 y y2 u u2 _ I4 e2 e4 n4) fun d2 s5 ⟨z2, H5, I5, e5, k2, ez2, n5⟩ => ?_
    subst ez2
    cases e5
    refine wpAny_truthy_bool ?_
    cases k2 with
    | false =>
      obtain ⟨k', e', q'⟩ := n5
      cases e'
      exact ite_ff ⟨H5, I5, q'⟩
    | true =>
      refine ite_tt (test_last (thn (hd.run pins s5 σ H5 _ I5 n5) fun u3 s6 ⟨y3, H6, I6, e6, n6⟩ => thn (h3 pins s6 σ H6 y2 y3 u2 u3 _ I6 e4 e6 n6) fun d3 s7 ⟨z3, H7, I7, e7, k3, ez3, n7⟩ => ?_))
      subst ez3
      cases e7
      exact wpAny_truthy_bool ⟨H7, I7, n7⟩
end
end DL
set_option maxHeartbeats 4000000
namespace DL
open PySem PySem.Spec PyProof.Rows L2
/-- a tuple of integers that the top has written under a name -/
structure KTup (K : Fg) (mg : Str → Option Value) (x : Str) (p : Addr) (zs : List Int) : Prop where
  g : mg x = some (.ref p)
  t : ∃ (o : Obj) (its : Array Value) (n : Nat), K.lookup p = some o ∧ o.cls = .type "tuple" ∧ o.data = .seq its n ∧ its.size ≤ sizeLine ∧ Vals (zs.map V.int) its.toList
theorem isl_ints {K : Fg} {H : Hp} : ∀ zs : List Int, IsL K H (zs.map V.int) (zs.map PyData.int)
  | [] => .nil
  | z :: zs => .cons (.int z) (isl_ints zs)
theorem KTup.is {K : Fg} {mg : Str → Option Value} {x : Str} {p : Addr} {zs : List Int} (y : KTup K mg x p zs) (H : Hp) : Is K H (.ref p) (.tuple (zs.map PyData.int)) := .tup (.inr y.t) (isl_ints zs)
end DL
set_option maxHeartbeats 4000000
namespace DL
open PySem PySem.Spec PyProof.Rows L2
section
variable {K : Fg} {T : List Addr} {cl : Cls_}
/-- raise X(e), X with its own making -/
theorem dsx_raiseTh {n : String} {C : Addr} {te : TE} {f : Fe} (h : cl n = some C) (h1 : DE K T te f) : DSX K T cl (fun W => tRaiseTh C W (tCons te tNil)) (xRaise1 n f) := by
  intro W dm A0 H0 A σ H env k E S o
  unfold xRaise1 at o
  cases e : f env k with
  | none => rw [e] at o; exact o.elim
  | some p =>
    obtain ⟨s, k'⟩ := p
    rw [e] at o
    cases s with
    | dat t =>
      refine h1 dm A0 H0 A σ H env k _ S _ _ e fun v H1 S1 l1 i1 => ⟨v, rfl, fun p hp => ?_⟩
      exact o A σ _ _ _ (S1.new hp) (tr_of_lt S.wd (l1.trans (Lt.new hp))) ⟨C, h, rfl, p, v, rfl, notA S1.wd hp, upd_same, Is.kp (kp_new S1.wd hp) i1⟩
    | _ => exact o.elim
/-- isinstance(e, c), e the exception in the suite, which has a dict at d -/
def rIsE2 (K : Fg) (D a : Addr) (d : Option Addr) : List V → Hp → VK → Prop := fun xs H Q => ∃ (c : V) (cv : Value) (b : Bool) (dd : Addr) (v : V), xs = [.ref a, c] ∧ (∀ u, RelV c u → u = cv) ∧ PySem.W.kitOne K (.ref D) cv = some b ∧ d = some dd ∧ H dd = some (.xd [(("thing" : Str), v)]) ∧ Q (.bl b) H
theorem call_isE2 {X : Cx} {a D : Addr} {d : Option Addr} {oe : Obj} {pn : List (Addr × Obj)} (C : ExcC X.K D) (hz : Zc (.ref D) d oe) (hf : ∃ vs, oe.data = .fields vs) : CallR (X.suite a ((a, oe) :: pn)) (.builtin "isinstance") (rIsE2 X.K D a d) := by
  intro pins s σ H xs us Q I r want
  obtain ⟨c, cv, b, dd, v, rfl, only, kit, rfl, hdd, q⟩ := want
  cases r with
  | cons r1 rest =>
    cases rest with
    | cons r2 rest =>
      cases rest
      cases r1
      have same := only _ r2
      subst same
      obtain ⟨there, _⟩ := I.pin (a, oe) (List.mem_append.mpr (.inl List.mem_cons_self))
      have ok : ObjOk X.prog X.w H s.heap dd (.xd [(("thing" : Str), v)]) := I.hok dd _ hdd
      obtain ⟨mA, ns, _⟩ := ok
      obtain ⟨od, ho, _⟩ := lookIn_ns ns
      obtain ⟨vs, hv⟩ := hf
      have J : PySem.W.InstAt s.heap a oe D (some od) := ⟨there, hz.1, by unfold PySem.W.notCls; rw [hv] <;> rfl, by rw [hz.2]; exact ho⟩
      have has : (PySem.W.clsIn X.K D).isSome = true := by obtain ⟨cd, hc, _⟩ := PySem.W.any_some C.hd; rw [hc]; rfl
      exact PySem.W.kia_one (PySem.W.kitx_exc has C.hg C.hk C.hs C.ha C.hn C.ht C.hm) I.kIn J kit (fun z => (nomatch z)) fun tk => ⟨.bl b, H, I.kept (t' := tk) fun _ _ z => z, rfl, q⟩
/-- the suite: return (word, e.thing, isinstance(e, C2)) -/
def tSaid2 (K : Fg) (D C2 : Addr) (w : Str) (i : Nat) (a : Addr) (cls : Value) (d : Option Addr) : TS := tRet (tTup (tCons (tC (.str w)) (tCons (tThing D a cls d (tVar i)) (tCons (tCB (rIsE2 K D a d) (tCons (tVar i) (tCons (tC (.ref C2)) tNil))) tNil))))
def gSaid2 (n : String) (w : Str) (b : Bool) (x : Xn) : Fsx := fun _ k => if x.cls = n then (match x.thing with
  | some t => .rt (.tuple [.str w, t, .bool b]) k
  | none => .bad) else .bad
theorem dh_said2 {n : String} {D C2 : Addr} {w : Str} {i : Nat} {b : Bool} (hcl : cl n = some D) (hk : PySem.W.kitOne K (.ref D) (.ref C2) = some b) (x : Xn) :
    DH K T cl i x (fun a cls d => fun E σ H => (cls = .ref D ∧ ∃ dd, d = some dd) ∧ tSaid2 K D C2 w i a cls d E σ H) (gSaid2 n w b x) := by
  intro W a cls d dm A0 H0 A σ H env k E S e1 e2 ha xa o
  unfold gSaid2 at o
  by_cases hc : x.cls = n
  · rw [if_pos hc] at o
    obtain ⟨C, h1, rfl, h3⟩ := xa
    rw [hc, hcl] at h1
    cases h1
    cases et : x.thing with
    | none => rw [et] at o; exact o.elim
    | some t =>
      rw [et] at o h3
      obtain ⟨p, v, rfl, pA, hp, iv⟩ := h3
      refine ⟨⟨rfl, p, rfl⟩, _, e2, rfl, rfl, p, v, rfl, hp, _, e2, ⟨V.ref C2, .ref C2, b, p, v, rfl, fun u r => r, hk, rfl, hp, ?_, fun q hq => ?_⟩⟩
      · exact Nat.le_trans (by decide : 3 ≤ 1000000) (line_le (Nat.le_refl _))
      · exact o _ _ (S.new hq).w0 (S.new hq).lt (Is.kp (hide_mono S.sub) (mk_tup S.wd hq (.cons (.str w) (.cons iv (.cons (.bl b) .nil)))))
  · rw [if_neg hc] at o; exact o.elim
/-! ### a loop whose body may raise -/
def loopX (q : Fg') (g : Fsx) : List D → Fsx
  | [], env, k => .nx env k
  | d :: ds, env, k => match q (.dat d) env with
    | none => .bad
    | some e1 => match g e1 k with
      | .nx e k' => loopX q g ds e k'
      | .ct e k' => loopX q g ds e k'
      | .bk e k' => .nx e k'
      | .rt d k' => .rt d k'
      | .ex x e k' => .ex x e k'
      | .bad => .bad
def xFor (fi : Fw) (q : Fg') (g : Fsx) : Fsx := fun env k => match fi env k with
  | some (ds, k') => loopX q g ds env k'
  | none => .bad
theorem dsx_for {wi : TI} {fi : Fw} {g : TG} {q : Fg'} {tb : WX → TS} {b : Fsx} {l : List Nat} (h1 : DI K T wi fi) (h2 : DG K T g q l) (h3 : DSX K T cl tb b) : DSX K T cl (fun W => tFor wi g (tb W)) (xFor fi q b) := by
  intro W dm A0 H0 A σ H env k E S o
  unfold xFor at o
  cases e : fi env k with
  | none => rw [e] at o; exact o.elim
  | some p =>
    obtain ⟨ds, k'⟩ := p
    rw [e] at o
    simp only at o
    refine h1 dm A0 H0 A σ H env k _ S ds k' e fun J H1 S1 l1 w => ?_
    have o1 := OkX.later (tr_of_lt S.wd l1) o
    refine ⟨fun i m σ2 H2 => ∃ A2 env2 k2, Sta K T dm A0 H0 A2 σ2 H2 env2 k2 ∧ Tr A H1 A2 H2 ∧ m = ds.length - i ∧ i ≤ ds.length ∧ OkX K T cl W dm A0 H0 A2 H2 E (loopX q b (ds.drop i) env2 k2),
      ⟨ds.length, A, env, k', S1, Tr.refl _ _, rfl, Nat.zero_le _, o1⟩, fun i m σ2 H2 ⟨A2, env2, k2, S2, r2, em, hi, o2⟩ => ?_⟩
    by_cases hlt : i < ds.length
    · refine .inr ⟨w.go A2 H2 r2 i ds[i] (List.getElem?_eq_getElem hlt), fun σ3 H3 => ∃ A3 env3 k3, Sta K T dm A0 H0 A3 σ3 H3 env3 k3 ∧ Tr A H1 A3 H3 ∧ OkX K T cl W dm A0 H0 A3 H3 E (loopX q b (ds.drop (i + 1)) env3 k3), fun σ3 H3 ⟨A3, env3, k3, S3, r3, o3⟩ => ⟨ds.length - (i + 1), by omega, A3, env3, k3, S3, r3, rfl, hlt, o3⟩, fun x H3 y => ?_⟩
      obtain ⟨hH3, ix⟩ := w.yl A2 H2 r2 S2.wd.dom i ds[i] (List.getElem?_eq_getElem hlt) x H3 y
      obtain ⟨S3, l3⟩ := S2.yield hH3
      rw [List.drop_eq_getElem_cons hlt] at o2
      unfold loopX at o2
      cases eq : q (.dat ds[i]) env2 with
      | none => rw [eq] at o2; exact o2.elim
      | some e1 =>
        rw [eq] at o2
        simp only at o2
        refine h2 dm A0 H0 A2 σ2 H3 env2 k2 x (.dat ds[i]) _ S3 ix e1 eq fun σ4 S4 _ => ?_
        refine h3 W dm A0 H0 A2 σ4 H3 e1 k2 _ S4 ?_
        have r3 := r2.trans (tr_of_lt S2.wd l3)
        have o3 := OkX.later (tr_of_lt S2.wd l3) o2
        cases eb : b e1 k2 with
        | nx e5 k5 => rw [eb] at o3; exact fun A5 σ5 H5 S5 r5 => ⟨A5, e5, k5, S5, r3.trans r5, OkX.later r5 o3⟩
        | ct e5 k5 => rw [eb] at o3; exact fun A5 σ5 H5 S5 r5 => ⟨A5, e5, k5, S5, r3.trans r5, OkX.later r5 o3⟩
        | bk e5 k5 => rw [eb] at o3; exact o3
        | rt d5 k5 => rw [eb] at o3; exact o3
        | ex x5 e5 k5 => rw [eb] at o3; exact o3
        | bad => rw [eb] at o3; exact o3
    · have ei : i = ds.length := by omega
      subst ei
      refine .inl ⟨w.st A2 H2 r2 _ (Nat.le_refl _), ?_⟩
      rw [List.drop_length] at o2
      exact o2 A2 σ2 H2 S2 (Tr.refl _ _)
end
end DL
set_option maxHeartbeats 4000000
namespace L2
open PySem PySem.Spec PyProof.Rows
/-- clauses «except C as n», one behind the other, and what they wish of an exception of the body -/
inductive HdAs (X : Cx) (Wout : WX) : List ExceptHandler → (Ends → WX) → Prop
  | nil : HdAs X Wout [] (fun _ => Wout)
  | cons {x n : Str} {c : Value} {i : Nat} {ts : Addr → Value → Option Addr → TS} {s0 : Stmt} {ss : List Stmt} {p1 p2 : Pos} {more : List ExceptHandler} {W : Ends → WX}
      (hi : X.N[i]? = some n) (hl : X.env.kindOf n = some .local) (hc : Names X x c)
      (hs : ∀ (a : Addr) (oe : Obj) (cls : Value) (d : Option Addr) (pn : List (Addr × Obj)), Zc cls d oe → (∃ vs, oe.data = .fields vs) → PSs (X.suite a ((a, oe) :: pn)) (s0 :: ss) (ts a cls d))
      (r : HdAs X Wout more W) : HdAs X Wout (.ExceptHandler (some (.Name x p1)) (some n) (s0 :: ss) p2 :: more) (fun D => wAs X.K c i ts (W D) D)
section
variable {X : Cx} {body : List Stmt} {h0 : ExceptHandler} {more : List ExceptHandler} {W : Ends → WX} {pos : Pos} {tb : WX → TS} {Wout : WX}
theorem ps_try_mas (st : X.stack = X.env :: X.outer) (fr : X.env.frame = some X.env.locals) (nd : X.N.Nodup) (tk : Takes X Wout)
    (hb : ∀ (V : WX) (pn : List (Addr × Obj)) (xe : Value → Shared → Prop), Takes (X.tr pn xe) V → PassesOwn (model X.prog X.w) X.A X.env xe → PSs (X.tr pn xe) body (tb V))
    (hh : HdAs X Wout (h0 :: more) W) : PS X (.Try body (h0 :: more) [] [] pos) (fun D σ H => tb (W D) D σ H) := by
  constructor
  intro pins s σ H D I want
  have ok := I.ok
  refine wpAny_Try_except ?_
  let aft : Value → Shared → Prop := fun e t1 => wpAny (model X.prog X.w) X.A (noteFrame e X.env) (fun _ t2 => wpAny (model X.prog X.w) X.A (setFlight e none) (fun _ t3 => wpAny (model X.prog X.w) X.A (handleBy e X.env (h0 :: more)) (SP X pins D) X.xe t3) X.xe t2) X.xe t1
  have caught : Takes (X.tr (X.pn ++ pins) aft) (W D) := by
    rintro u s' ⟨a, B, sI, pins', σ', H', cls, d, rfl, J', nb, up, sky, na, os, ag, w⟩
    have J : Inv X pins σ' H' sI := J'.ofTry ok
    have sk : Sky B (X.env :: X.outer) a (Zc cls d) X.env.locals s'.heap := st ▸ sky
    show wpAny (model X.prog X.w) X.A (noteFrame (.ref a) X.env) _ _ _
    refine Sky.land Zc.steady (by rw [ok.frames, st]) fr sk fun h3 fl3 up3 => ?_
    obtain ⟨o3, v3, at3, z3, d3⟩ := fl3.there
    have J3 : Inv X pins σ' H' { s' with heap := h3 } := J.landed nb fl3.1 (up.trans up3) os ag
    have out : a ∉ frs (X.env :: X.outer) := fun hm => by
      obtain ⟨_, o', at', nf⟩ := fl3.2.2.1.mem hm
      cases at3.symm.trans at'
      exact nf _ d3
    have nL : a ≠ X.env.locals := fun z => out (List.mem_filterMap.mpr ⟨_, List.mem_cons_self, fr.trans (congrArg some z.symm)⟩)
    have nF : a ∉ X.fs := fun hm => by
      obtain ⟨en, hen, q⟩ := List.mem_filterMap.mp hm
      exact out (List.mem_filterMap.mpr ⟨en, List.mem_cons_of_mem _ hen, q⟩)
    have S3 := J3.suite at3 d3 na nL nF
    have go : ∀ {hs : List ExceptHandler} {V : Ends → WX}, HdAs X Wout hs V → V D cls d σ' H' → wpAny (model X.prog X.w) X.A (handleBy (.ref a) X.env hs) (SP X pins D) X.xe { s' with heap := h3 } := by
      intro hs V hk
      induction hk with
      | nil =>
        intro w
        refine wpAny_handleBy_nil ?_
        obtain ⟨_, _, _, oe, vs, T, oT, ts', he, hz, hd, h1, hr⟩ := id fl3
        unfold PySem.passOn
        refine wpAny_bind (wpAny_field he hd h1 ?_)
        have up_ : wpAny (model X.prog X.w) X.A (setFlight (.ref a) X.env.frame) (fun _ s4 => wpAny (model X.prog X.w) X.A (throw (.ref a) : Sem Flow) (SP X pins D) X.xe s4) X.xe { s' with heap := h3 } := by
          rw [fr]
          refine HandSPX.setFlight_upZ fl3 fun h4 hh4 up4 => wpAny_throw (tk _ _ ⟨a, B, sI, pins, σ', H', cls, d, rfl, J, nb, ?_, ?_, na, os, ag, w⟩)
          · exact (up.trans up3).trans up4
          · exact .inr (.inr (st ▸ hh4))
        rw [if_neg (by simp : ¬ ((Value.ref T == Value.none) = true))]
        first
          | exact wpAny_bind (wpAny_pure (wpAny_bind up_))
          | exact wpAny_bind up_
      | @cons x n c i ts s0 ss p1 p2 more2 W2 hi hl hc hsu r ih =>
        rintro ⟨b, e1, yes, no⟩
        refine wpAny_handleBy_cons (codeAny_handlers_test ?_) (fun q => by cases q)
        have ty : PySem.W.Looks (model X.prog X.w) h3 (typeOf (.ref a)) cls := fun A Q E s4 k q => wpAny_typeOf_ref (k _ _ at3) (by rw [z3.1]; exact q)
        have name : ∀ {Q E : Value → Shared → Prop}, Q c { s' with heap := h3 } → wpAny (model X.prog X.w) (X.A.mark (some (.ref a))) (eval (.Name x p1) X.env) Q E { s' with heap := h3 } := fun {Q E} q => by
          rcases hc with ⟨gl, db, hm | ⟨hm, hv, nn⟩⟩
          · exact ld_glob (X := X.suite a ((a, o3) :: (X.pn ++ pins))) S3 gl hm q db
          · exact ld_blt (X := X.suite a ((a, o3) :: (X.pn ++ pins))) S3 gl hm hv q nn db
        refine name ((PySem.W.exm_one (M := model X.prog X.w) J3.kIn ty e1).here ?_)
        cases b with
        | false =>
          show wpAny _ X.A (handleBy (.ref a) X.env more2) _ _ _
          exact ih (no rfl)
        | true =>
          refine codeAny_handlers_suite_as (HandSPX.lands_againZ fl3 fun h4 fl4 up4 => ?_)
          obtain ⟨o4, v4, at4, z4, d4⟩ := fl4.there
          have J4 : Inv X pins σ' H' { s' with heap := h4 } := J.landed nb fl4.1 ((up.trans up3).trans up4) os ag
          refine store_ok (X := X.suite a ((a, o4) :: (X.pn ++ pins))) (v := .ref a) (J4.suite at4 d4 na nL nF) nd hi (.inl hl) rfl (fun s5 S5 => ?_) (.inr hl)
          refine wpAny_mono ((hsu a o4 cls d (X.pn ++ pins) z4 ⟨_, d4⟩).run [] s5 _ H' _ S5 (yes rfl a na)) (fun f s6 got => ?_) (fun _ _ z => z.elim)
          have clean : ∀ {σ6 : St} {H6 : Hp} {Q : Shared → Prop}, Inv (X.suite a ((a, o4) :: (X.pn ++ pins))) [] σ6 H6 s6 → (∀ s7, Inv X pins (σ6.set i none) H6 s7 → Q s7) →
              wpAny (model X.prog X.w) X.A (do bindName X.env n .none; unbindBehindTheSuite X.env n p2) (fun _ s7 => Q s7) X.xe s6 := fun S6 hq => gone_ok (S6.unsuite ok) nd hi hl hq
          cases f with
          | next => obtain ⟨σ6, H6, S6, q6⟩ := got; exact clean S6 fun s7 J7 => ⟨_, _, J7, q6⟩
          | brk => obtain ⟨σ6, H6, S6, q6⟩ := got; exact clean S6 fun s7 J7 => ⟨_, _, J7, q6⟩
          | cont => obtain ⟨σ6, H6, S6, q6⟩ := got; exact clean S6 fun s7 J7 => ⟨_, _, J7, q6⟩
          | ret u => obtain ⟨v6, σ6, H6, S6, r6, q6⟩ := got; exact clean S6 fun s7 J7 => ⟨_, _, _, J7, r6, q6⟩
    exact go hh w
  refine wpAny_mono ((hb (W D) (X.pn ++ pins) aft caught PassesOwn.looking).run [] s σ H D (I.toTry _) want) (fun f s1 got => ?_) (fun e s1 he => he)
  cases f with
  | next => obtain ⟨σ', H', J', q⟩ := got; exact wpAny_execs_nil ⟨σ', H', J'.ofTry ok, q⟩
  | brk => obtain ⟨σ', H', J', q⟩ := got; exact ⟨σ', H', J'.ofTry ok, q⟩
  | cont => obtain ⟨σ', H', J', q⟩ := got; exact ⟨σ', H', J'.ofTry ok, q⟩
  | ret u => obtain ⟨v, σ', H', J', r, q⟩ := got; exact ⟨v, σ', H', J'.ofTry ok, r, q⟩
end
end L2
set_option maxHeartbeats 4000000
namespace DL
open PySem PySem.Spec PyProof.Rows L2
/-- what a class says when it is asked for in a clause -/
structure KC (K : Fg) (C : Addr) : Prop where
  b : PySem.W.subIn K (.ref C) (.type "BaseException") = some true
  t : PySem.W.typeIn K (.ref C) = some (.type "type")
  i : PySem.W.isClsIn K C = true
theorem KC.ofX {K : Fg} {mg : Str → Option Value} {n : Str} {C : Addr} (c : XCls K mg n C) : KC K C := ⟨c.b, c.t, c.i⟩
theorem KC.ofT {K : Fg} {mg : Str → Option Value} {n ql : Str} {C fI : Addr} (c : PySem.TH.Txt K mg n ql C fI) : KC K C := ⟨c.exC, c.tyC, c.ic⟩
theorem hm_of {K : Fg} {cl : Cls_} {C : Addr} (c : KC K C) (n : String) (h : ∀ s C', cl s = some C' → PySem.W.subIn K (.ref C') (.ref C) = some (decide (s = n))) : ∀ s C', cl s = some C' → PySem.W.exmOne K (.ref C') (.ref C) = some (decide (s = n)) :=
  fun s C' e => exm_by c.b (h s C' e) c.t c.i
end DL
set_option maxHeartbeats 4000000
namespace DL
open PySem PySem.Spec PyProof.Rows L2
/-! ### enumerate of a list -/
def enumD (n : Nat) : List D → List D
  | [] => []
  | d :: ds => .tuple [.int (n : Nat), d] :: enumD (n + 1) ds
theorem enum_len (n : Nat) (ds : List D) : (enumD n ds).length = ds.length := by
  induction ds generalizing n with
  | nil => rfl
  | cons d ds ih => simp only [enumD, List.length_cons, ih]
theorem enum_at {n i : Nat} {ds : List D} {x : D} (h : (enumD n ds)[i]? = some x) : ∃ d, ds[i]? = some d ∧ x = .tuple [.int ((n + i : Nat) : Int), d] := by
  induction ds generalizing n i with
  | nil => cases h
  | cons d ds ih =>
    cases i with
    | zero => cases h; exact ⟨d, rfl, rfl⟩
    | succ i =>
      obtain ⟨d', h1, h2⟩ := ih (n := n + 1) (i := i) h
      refine ⟨d', h1, ?_⟩
      rw [h2]
      have e : n + 1 + i = n + (i + 1) := by omega
      rw [e]
section
variable {K : Fg} {T : List Addr} {ta : TE} {f : Fe}
theorem kp_fresh {A : List Addr} {H : Hp} {p : Addr} {o : HO} (hp : H p = none) : Kp (hide A H) (hide A (upd H p o)) := fun b o' e _ => by
  unfold hide at e ⊢
  by_cases hb : b ∈ A
  · rw [if_pos hb] at e; cases e
  · rw [if_neg hb] at e ⊢
    rw [upd_ne (fun z => by rw [z, hp] at e; cases e)]
    exact e
theorem wk_enum {A : List Addr} {H : Hp} {p : Addr} {vs : List V} {ds : List D} (pA : p ∉ A) (hp : H p = some (.lst vs)) (il : IsL K (hide A H) vs ds) : WkOk K A H (Ite K p) (enumD 0 ds) := by
  have at2 : ∀ A2 H2, Tr A H A2 H2 → H2 p = some (.lst vs) := fun A2 H2 r => r.keep p _ hp rfl pA
  refine ⟨fun A2 H2 r i d e => ?_, fun A2 H2 r live i d e x H3 y => ?_, fun A2 H2 r i hi => ⟨vs, .inl (.inl (at2 A2 H2 r)), by rw [il.len, ← enum_len 0 ds]; exact hi⟩⟩
  · obtain ⟨d', h1, _⟩ := enum_at e
    obtain ⟨v, h2, _⟩ := il.get h1
    exact ⟨vs, v, .inl (.inl (at2 A2 H2 r)), h2⟩
  · obtain ⟨q, v, rfl, hq, rfl, hv⟩ := y
    obtain ⟨d', h1, rfl⟩ := enum_at e
    have qA : q ∉ A2 := fun z => live q z hq
    refine ⟨.inr ⟨q, _, hq, rfl⟩, .tup (.inl (.inl (by rw [hide_out qA]; exact upd_same))) ?_⟩
    have e0 : 0 + i = i := Nat.zero_add i
    rw [e0]
    exact .cons (.int _) (.cons (Is.kp (kp_fresh hq) (isl_ix (IsL.kp r.kp il) h1 (hv vs (.inl (.inl (at2 A2 H2 r)))))) .nil)
def wEnum (f : Fe) : Fw := fun env k => (wOf asLd f env k).map fun p => (enumD 0 p.1, p.2)
theorem di_enum (h1 : DE K T ta f) : DI K T (iEnum K (tCons ta tNil)) (wEnum f) := by
  intro dm A0 H0 A σ H env k R S ds k' hf hR
  unfold wEnum at hf
  cases e : wOf asLd f env k with
  | none => rw [e] at hf; cases hf
  | some r =>
    rw [e] at hf
    cases hf
    obtain ⟨s, e1, e2⟩ := wOf_some (show wOf asLd f env k = some (r.1, r.2) from e)
    refine h1 dm A0 H0 A σ H env k _ S s _ e1 fun v H' S' l i => ?_
    obtain ⟨p, vs, rfl, pA, hp, il⟩ := is_lstd i e2
    exact ⟨p, vs, rfl, .inl (.inl hp), hR _ H' S' l (wk_enum pA hp il)⟩
end
end DL
set_option maxHeartbeats 4000000
namespace DL
open PySem PySem.Spec PyProof.Rows L2
/-! ### a walk within a comprehension: the own lists stand, too -/
structure WkC (K : Fg) (dm : Dm) (A : List Addr) (H : Hp) (J : It) (ds : List D) : Prop where
  go : ∀ (A2 : List Addr) (H2 : Hp), Lt dm H H2 → (∀ b ∈ A2, b ∈ A ∨ H b = none) → ∀ (i : Nat) d, ds[i]? = some d → J.go i H2
  yl : ∀ (A2 : List Addr) (H2 : Hp), Lt dm H H2 → (∀ b ∈ A2, b ∈ A ∨ H b = none) → (∀ b ∈ A2, H2 b ≠ none) → ∀ (i : Nat) d, ds[i]? = some d → ∀ x H3, J.yld i H2 x H3 → (H3 = H2 ∨ ∃ p o, H2 p = none ∧ H3 = upd H2 p o) ∧ Is K (hide A2 H3) x d
  st : ∀ (A2 : List Addr) (H2 : Hp), Lt dm H H2 → (∀ b ∈ A2, b ∈ A ∨ H b = none) → ∀ i : Nat, ds.length ≤ i → J.stop i H2
def DIC (K : Fg) (T : List Addr) (wi : TI) (fi : Fw) : Prop := ∀ dm A0 H0 A σ H env k (R : It → Hp → Prop), Sta K T dm A0 H0 A σ H env k → ∀ ds k', fi env k = some (ds, k') →
  (∀ J H', Sta K T dm A0 H0 A σ H' env k' → Lt dm H H' → WkC K dm A H' J ds → R J H') → wi σ H R
def zipD (ds es : List D) : List D := List.zipWith (fun d e => .tuple [d, e]) ds es
theorem zip_at {ds es : List D} {i : Nat} {x : D} (h : (zipD ds es)[i]? = some x) : ∃ d e, ds[i]? = some d ∧ es[i]? = some e ∧ x = .tuple [d, e] := by
  unfold zipD at h
  rw [List.getElem?_zipWith] at h
  cases h1 : ds[i]? with
  | none => rw [h1] at h; cases h
  | some d =>
    cases h2 : es[i]? with
    | none => rw [h1, h2] at h; cases h
    | some e => rw [h1, h2] at h; cases h; exact ⟨d, e, rfl, rfl, rfl⟩
section
variable {K : Fg} {T : List Addr} {ta tb : TE} {f g : Fe}
theorem is_lstN {dm : Dm} {A0 : List Addr} {A : List Addr} {H : Hp} {k : Dk} {v : V} {s : Sl} {ds : List D} (w : Wd T dm A H k) (h : IsS K A0 dm A H v s) (e : asL s = some ds) : ∃ p vs, v = .ref p ∧ Ndm dm p ∧ H p = some (.lst vs) ∧ IsL K (hide A H) vs ds := by
  cases s with
  | un => exact h.elim
  | deck => cases e
  | scr ns => cases e
  | own es =>
    cases e
    obtain ⟨p, vs, rfl, _, n, h1, h2⟩ := h
    exact ⟨p, vs, rfl, n, h1, h2⟩
  | dat d =>
    cases d with
    | list es =>
      cases e
      cases (show Is K (hide A H) v (.list ds) from h) with
      | lst h1 h2 =>
        obtain ⟨pA, h1⟩ := hide_some h1
        refine ⟨_, _, rfl, fun a c q => ?_, h1, h2⟩
        obtain ⟨q1, q2, _⟩ := w.dk a c q
        exact ⟨fun z => pA (z ▸ q1), fun z => pA (z ▸ q2)⟩
    | _ => cases e
theorem kp_c {dm : Dm} {A A2 : List Addr} {H H2 : Hp} {k : Dk} (w : Wd T dm A H k) (l : Lt dm H H2) (nw : ∀ b ∈ A2, b ∈ A ∨ H b = none) : Kp (hide A H) (hide A2 H2) := fun b o h z => by
  obtain ⟨hb, h⟩ := hide_some h
  have out : b ∉ A2 := fun m => by
    rcases nw b m with q | q
    · exact hb q
    · rw [h] at q; cases q
  rw [hide_out out]
  refine l.keep b o h z fun a c e => ?_
  obtain ⟨q1, q2, _⟩ := w.dk a c e
  exact ⟨fun q => hb (q ▸ q1), fun q => hb (q ▸ q2)⟩
theorem lst_at {H : Hp} {p : Addr} {xs ys : List V} (h : H p = some (.lst xs)) : SqL K H p xs := .inl (.inl h)
theorem wk_zip {dm : Dm} {A : List Addr} {H : Hp} {k : Dk} {p q : Addr} {vs us : List V} {ds es : List D} (w : Wd T dm A H k) (np : Ndm dm p) (nq : Ndm dm q) (hp : H p = some (.lst vs)) (hq : H q = some (.lst us)) (i1 : IsL K (hide A H) vs ds) (i2 : IsL K (hide A H) us es) : WkC K dm A H (Itz K p q) (zipD ds es) := by
  have at1 : ∀ H2, Lt dm H H2 → SqL K H2 p vs := fun H2 l => .inl (.inl (l.keep p _ hp rfl np))
  have at2 : ∀ H2, Lt dm H H2 → SqL K H2 q us := fun H2 l => .inl (.inl (l.keep q _ hq rfl nq))
  refine ⟨fun A2 H2 l nw i d e => ?_, fun A2 H2 l nw live i d e x H3 y => ?_, fun A2 H2 l nw i hi => ⟨vs, us, at1 H2 l, at2 H2 l, ?_⟩⟩
  · obtain ⟨d1, d2, h1, h2, _⟩ := zip_at e
    obtain ⟨v, h3, _⟩ := i1.get h1
    obtain ⟨u, h4, _⟩ := i2.get h2
    exact ⟨vs, us, v, u, at1 H2 l, at2 H2 l, h3, h4⟩
  · obtain ⟨r, v, u, rfl, hr, rfl, hv, hu⟩ := y
    obtain ⟨d1, d2, h1, h2, rfl⟩ := zip_at e
    have rA : r ∉ A2 := fun z => live r z hr
    have kp := kp_c w l nw
    refine ⟨.inr ⟨r, _, hr, rfl⟩, .tup (.inl (.inl (by rw [hide_out rA]; exact upd_same))) ?_⟩
    exact .cons (Is.kp (kp_fresh hr) (isl_ix (IsL.kp kp i1) h1 (hv vs (at1 H2 l)))) (.cons (Is.kp (kp_fresh hr) (isl_ix (IsL.kp kp i2) h2 (hu us (at2 H2 l)))) .nil)
  · have e : (zipD ds es).length = min ds.length es.length := by unfold zipD; rw [List.length_zipWith]
    rw [e] at hi
    rw [i1.len, i2.len]
    omega
def wZip (f g : Fe) : Fw := fun env k => (f env k).bind fun x => (g env x.2).bind fun y => match asL x.1, asL y.1 with
  | some ds, some es => some (zipD ds es, y.2)
  | _, _ => none
theorem dic_zip (h1 : DE K T ta f) (h2 : DE K T tb g) : DIC K T (iZip K (tCons ta (tCons tb tNil))) (wZip f g) := by
  intro dm A0 H0 A σ H env k R S ds k' hf hR
  unfold wZip at hf
  cases e1 : f env k with
  | none => rw [e1] at hf; cases hf
  | some x =>
    obtain ⟨s1, k1⟩ := x
    rw [e1] at hf
    simp only [Option.bind_some] at hf
    cases e2 : g env k1 with
    | none => rw [e2] at hf; cases hf
    | some y =>
      obtain ⟨s2, k2⟩ := y
      rw [e2] at hf
      simp only [Option.bind_some] at hf
      split at hf
      · rename_i d1 d2 l1 l2
        cases hf
        refine h1 dm A0 H0 A σ H env k _ S _ _ e1 fun v H1 S1 lt1 i1 => ?_
        refine h2 dm A0 H0 A σ H1 env k1 _ S1 _ _ e2 fun u H2 S2 lt2 i2 => ?_
        obtain ⟨p, vs, rfl, np, hp, il1⟩ := is_lstN S2.wd (i1.lt S1.wd lt2) l1
        obtain ⟨q, us, rfl, nq, hq, il2⟩ := is_lstN S2.wd i2 l2
        exact ⟨p, q, vs, us, rfl, .inl (.inl hp), .inl (.inl hq), hR _ H2 S2 (lt1.trans lt2) (wk_zip S2.wd np nq hp hq il1 il2)⟩
      · cases hf
theorem de_lcc {wi : TI} {fi : Fw} {g : TG} {q : Fg'} {l : List Nat} {tt : TT} {c : Ft} {te : TE} {fe : Fe} {vs : List Nat} (h1 : DIC K T wi fi) (h2 : DG K T g q l) (h3 : DT K T tt c) (h4 : DE K T te fe) (hl : ∀ j ∈ l, j ∈ vs) :
    DE K T (tLc wi g tt te vs) (fLc fi q c fe vs) := by
  intro dm A0 H0 A σ H env k Q S s k' hf hQ
  unfold fLc at hf
  cases e : fi env k with
  | none => rw [e] at hf; cases hf
  | some p =>
    obtain ⟨ds, k1⟩ := p
    rw [e] at hf
    simp only [Option.bind_some] at hf
    cases er : loopC q c fe (wipeE env vs) ds [] k1 with
    | none => rw [er] at hf; cases hf
    | some r =>
      rw [er] at hf
      cases hf
      refine h1 dm A0 H0 A σ H env k _ S ds k1 e fun J H1 S1 l1 w => ?_
      intro p hp
      have S1w := S1.wipe vs
      have p0 : p ∉ A0 := fun m => notA S1.wd hp (S1.sub p m)
      have hp0 := S1.h0new hp
      have no := S1w.noown hp
      have nw : ∀ b ∈ p :: A, b ∈ A ∨ H1 b = none := fun b hb => by
        rcases List.mem_cons.mp hb with z | z
        · exact .inr (z ▸ hp)
        · exact .inl z
      refine ⟨fun i m H2 => ∃ ws acc k2, Grow K T dm A0 H0 A (L2.wipe σ vs) H1 (wipeE env vs) p ws acc H2 k2 ∧ m = ds.length - i ∧ i ≤ ds.length ∧ loopC q c fe (wipeE env vs) (ds.drop i) acc k2 = some r,
        ⟨ds.length, [], [], k1, ⟨S1w.hid hp, Lt.new hp, upd_same, .nil⟩, rfl, Nat.zero_le _, er⟩, fun i m H2 ⟨ws, acc, k2, G, em, hi, el⟩ => ?_⟩
      by_cases hlt : i < ds.length
      · refine .inr ⟨w.go _ H2 G.lt nw i ds[i] (List.getElem?_eq_getElem hlt), fun H3 => ∃ ws acc k2, Grow K T dm A0 H0 A (L2.wipe σ vs) H1 (wipeE env vs) p ws acc H3 k2 ∧ loopC q c fe (wipeE env vs) (ds.drop (i + 1)) acc k2 = some r,
          fun H3 ⟨ws, acc, k2, G, el⟩ => ⟨ds.length - (i + 1), by omega, ws, acc, k2, G, rfl, hlt, el⟩, fun x H3 y => ?_⟩
        obtain ⟨hH3, ix⟩ := w.yl _ H2 G.lt nw G.sta.wd.dom i ds[i] (List.getElem?_eq_getElem hlt) x H3 y
        obtain ⟨S3, l3⟩ := G.sta.yield hH3
        rw [List.drop_eq_getElem_cons hlt] at el
        unfold loopC at el
        cases eq : q (.dat ds[i]) (wipeE env vs) with
        | none => rw [eq] at el; cases el
        | some e1 =>
          rw [eq] at el
          simp only [Option.bind_some] at el
          cases ec : c e1 k2 with
          | none => rw [ec] at el; cases el
          | some b =>
            obtain ⟨b, k3⟩ := b
            rw [ec] at el
            simp only [Option.bind_some] at el
            refine h2 dm A0 H0 _ _ H3 _ k2 x (.dat ds[i]) _ S3 ix e1 eq fun σ4 S4 cg => ⟨(wipe_eq cg hl).trans (wipe_eq (wipe_chg σ vs) fun _ h => h), ?_⟩
            refine h3 dm A0 H0 _ σ4 H3 e1 k2 _ S4 b k3 ec fun H4 S5 l4 => ?_
            have keepG : ∀ {H5 : Hp} {k5 : Dk} {σ5 : List (Option V)} {e5 : List Sl}, Sta K T dm A0 H0 (p :: A) σ5 H5 e5 k5 → Lt dm H2 H5 → Grow K T dm A0 H0 A (L2.wipe σ vs) H1 (wipeE env vs) p ws acc H5 k5 := fun {H5 k5 σ5 e5} S5 l5 =>
              ⟨G.sta.at S5.wd l5, G.lt.trans l5, l5.keep p _ G.at_ rfl fun a c z => ⟨fun q => p0 (q ▸ (S1.dm0 a c z).1), fun q => p0 (q ▸ (S1.dm0 a c z).2)⟩, IsL.kp (l5.kp G.sta.wd) G.il⟩
            cases b with
            | false =>
              simp only [Bool.false_eq_true, if_false] at el
              exact iteF ⟨ws, acc, k3, keepG S5 (l3.trans l4), el⟩
            | true =>
              simp only [if_true] at el
              refine iteT ?_
              cases ef : fe e1 k3 with
              | none => rw [ef] at el; cases el
              | some z =>
                obtain ⟨z, k4⟩ := z
                rw [ef] at el
                simp only [Option.bind_some] at el
                cases z with
                | dat d =>
                  simp only at el
                  by_cases hc : acc.length < 1000000
                  · rw [if_pos hc] at el
                    refine h4 dm A0 H0 _ σ4 H4 e1 k3 _ S5 (.dat d) k4 ef fun v H5 S6 l5 iv => ?_
                    have G5 := keepG S6 ((l3.trans l4).trans l5)
                    exact ⟨ws, G5.at_, Nat.lt_of_lt_of_le (by rw [G5.il.len]; exact hc) (by decide), _, _, k4, G5.more hp hp0 p0 no iv, el⟩
                  · rw [if_neg hc] at el; cases el
                | _ => cases el
      · have ei : i = ds.length := by omega
        subst ei
        rw [List.drop_length] at el
        cases el
        refine .inl ⟨w.st _ H2 G.lt nw _ (Nat.le_refl _), ?_⟩
        have wd2 : Wd T dm A H2 k2 := ⟨fun b hb => G.sta.wd.dom b (List.mem_cons_of_mem _ hb), G.sta.wd.tab, fun a c z => ⟨S1.sub a (S1.dm0 a c z).1, S1.sub c (S1.dm0 a c z).2, (G.sta.wd.dk a c z).2.2⟩⟩
        refine hQ _ H2 (S1.at wd2 G.lt) (l1.trans G.lt) ?_
        exact Is.lst (by rw [hide_out (notA S1.wd hp)]; exact G.at_) (IsL.kp (hide_mono fun b hb => List.mem_cons_of_mem _ hb) G.il)
end
end DL
set_option maxHeartbeats 4000000
namespace DL
open PySem PySem.Spec PyProof.Rows L2
section
variable {K : Fg} {T : List Addr}
/-- x, y, z = a, b, c -/
def sPar3 (i j l : Nat) (h : Fl) : Fs := fun env k => match h env k with
  | some ([a, b, c], k') => (match stor a, stor b, stor c with
    | some a', some b', some c' => .nx (((env.set i a').set j b').set l c') k'
    | _, _, _ => .bad)
  | _ => .bad
theorem ds_par3 {i j l : Nat} {ta : TA} {h : Fl} (h1 : DA K T ta h) : DS K T (tPar3 i j l ta) (sPar3 i j l h) := by
  intro dm A0 H0 A σ H env k E S o
  unfold sPar3 at o
  split at o
  · rename_i a b c k' e
    split at o
    · rename_i a' b' c' ea eb ec
      refine h1 dm A0 H0 A σ H env k _ S _ k' e fun vs H' S' lt is => ?_
      cases is with
      | cons i1 is =>
        cases is with
        | cons i2 is =>
          cases is with
          | cons i3 is =>
            cases is
            exact ⟨_, _, _, rfl, o A _ H' (((S'.set i i1 ea).set j i2 eb).set l i3 ec) (tr_of_lt S.wd lt)⟩
    · exact o.elim
  · exact o.elim
end
end DL
set_option maxHeartbeats 4000000
namespace DL
open PySem PySem.Spec PyProof.Rows L2
theorem pi_seqK {X : Cx} {K : Fg} {tg l : Expr} {tl : TE} (e : X.K = K) (h : PE X l tl) : PI X tg l (iSeq K tl) := by
  subst e
  exact pi_seq h
theorem relabel_id {sc : Scope} {env : Env} (h : (sc.names.all fun y => !(y.2 == NameKind.free)) = true) : relabel sc env = sc := by
  unfold relabel
  have e : (sc.names.map fun (n, k) => if (k == NameKind.free && env.scope.kind == ScopeKind.function && env.kindOf n == some .cell) then (n, NameKind.cell) else (n, k)) = sc.names := by
    conv => rhs; rw [← List.map_id sc.names]
    apply List.map_congr_left
    rintro ⟨n, k⟩ hm
    have hk := List.all_eq_true.mp h _ hm
    simp only [Bool.not_eq_true'] at hk
    simp only [hk, Bool.false_and, Bool.false_eq_true, if_false, id]
  rw [e]
end DL
set_option maxHeartbeats 4000000
namespace DL
open PySem PySem.Spec PyProof.Rows L2
section
variable {K : Fg} {T : List Addr} {ta : TE} {f : Fe}
/-! ### a list behind several targets -/
def qLst (n : Nat) (r : List D → List Sl → Option (List Sl)) : Fg' := fun s env => (asL s).bind fun ds => if ds.length = n then r ds env else none
theorem dg_lst {n : Nat} {gs : TGs} {r : List D → List Sl → Option (List Sl)} {l : List Nat} (h1 : DGs K T gs r l) : DG K T (L2.gLst K n gs) (qLst n r) l := by
  intro dm A0 H0 A σ H env k v s Q S h env' e hQ
  unfold qLst at e
  cases e1 : asL s with
  | none => rw [e1] at e; cases e
  | some ds =>
    rw [e1] at e
    simp only [Option.bind_some] at e
    by_cases hn : ds.length = n
    · rw [if_pos hn] at e
      obtain ⟨p, vs, rfl, g1, g2⟩ := is_lst h e1
      exact ⟨p, vs, rfl, .inl (.inl g1), by rw [g2.len]; exact hn, h1 dm A0 H0 A σ H env k vs ds Q S g2 env' e hQ⟩
    · rw [if_neg hn] at e; cases e
end
end DL
set_option maxHeartbeats 4000000
/-! ### enumerate of a tuple -/
namespace DL
open PySem PySem.Spec PyProof.Rows L2
set_option maxHeartbeats 1000000 in
theorem enumT_new {v : Value} {ob : Obj} {HH : Heap → Prop} (B : Begins v ob HH) :
    Meets (Builtin.«enumerate.__new__» ⟨[.type "enumerate", v], []⟩) (fun _ R st => HH st.heap ∧
      R (.ok (.ret (.ref (st.heap.push ob).objs.size))) { st with heap := (st.heap.push ob).push { cls := .type "enumerate", data := .fields #[.none, .bool false, .ref st.heap.objs.size, rawInt 0, .none, .none] } }) :=
  .of_wp fun prog w A R st hst => by
    obtain ⟨hp, gn, dr, tk, os⟩ := st
    obtain ⟨h1, hst⟩ := hst
    have hsub := sub_enumerate
    have go_ : ∀ {A' : Around} {E : Value → Shared → Prop} {Q : Value → Shared → Prop}, Q (.ref hp.objs.size) ⟨hp.push ob, gn, dr, tk, os⟩ → wpAny (model prog w) A' (pyIter v) Q E ⟨hp, gn, dr, tk, os⟩ :=
      fun z => B.iter prog w _ _ ⟨hp, gn, dr, tk, os⟩ _ h1 z
    wp_walk using go_
    refine wpAny_stack_any fun _ => wpAny_pure ?_
    split
    · rename_i c _ _ _ _ _
      cases (c == Value.type "enumerate") <;> (wp_walk using go_; exact ⟨_, rfl, hst⟩)
    · wp_walk using go_
      exact ⟨_, rfl, hst⟩
theorem enumT_call {prog : Program} {w : World} {A : Around} {E : Value → Shared → Prop} {s : Shared} {v : Value} {ob : Obj} {HH : Heap → Prop} {Q : Value → Shared → Prop} (B : Begins v ob HH) (h1 : HH s.heap)
    (hq : ∀ h', IsEnum h' (s.heap.objs.size + 1) s.heap.objs.size 0 .none → h'.get? s.heap.objs.size = some ob → (∀ b u, s.heap.get? b = some u → h'.get? b = some u) → Q (.ref (s.heap.objs.size + 1)) { s with heap := h' }) :
    wpAny (model prog w) A (call (.type "enumerate") [v]) Q E s := by
  refine callType_new F.called_enumerate (by decide) (F.typeCall_enumerate_1 _) (F.newCall_enumerate_1 _) (fun z => F.args_object_init_2 z _) F.entry_enumerate_new (enumT_new B) ⟨h1, ?_⟩
  have sz : (s.heap.push ob).objs.size = s.heap.objs.size + 1 := Heap.size_push ..
  show _ ∧ _
  rw [sz]
  have at1 : IsEnum ((s.heap.push ob).push { cls := .type "enumerate", data := .fields #[.none, .bool false, .ref s.heap.objs.size, rawInt 0, .none, .none] }) (s.heap.objs.size + 1) s.heap.objs.size 0 .none := by
    have z := Heap.get?_push_size (s.heap.push ob) (o := { cls := .type "enumerate", data := .fields #[.none, .bool false, .ref s.heap.objs.size, rawInt 0, .none, .none] }) rfl
    rw [sz] at z
    exact z
  exact ⟨⟨_, at1, rfl⟩, hq _ at1 (Heap.get?_push_of_some _ (Heap.get?_push_size _ B.free)) fun b u z => Heap.get?_push_of_some _ (Heap.get?_push_of_some _ z)⟩
/-- the tuple at a, each item in a new pair behind its number -/
def Itet (K : Fg) (a : Addr) : It :=
  ⟨fun i H => ∃ xs x, SqT K H a xs ∧ xs[i]? = some x, fun i H v H' => ∃ T x, v = .ref T ∧ H T = none ∧ H' = upd H T (.tup [.int (i : Nat), x]) ∧ ∀ xs, SqT K H a xs → xs[i]? = some x, fun i H => ∃ xs : List V, SqT K H a xs ∧ xs.length ≤ i⟩
theorem turn_enumT {P : Program} {w : World} {K : Fg} {elts : List Expr} {kk : Nat} {tpos : Pos} (a e it : Addr) :
    Turn P w K (.Tuple elts kk tpos) (Itet K a) [e, it] e (fun i h => (∃ old, IsEnum h e it ((i : Nat) : Int) old) ∧ h.IsTupleIter it a i ∧ e ≠ it) where
  mem := by simp
  obj := fun i h st b hb => by
    obtain ⟨⟨old, he⟩, ⟨o, ho, hc, hd⟩, _⟩ := st
    rcases (show b = e ∨ b = it by simpa using hb) with z | z
    · rw [z]
      exact ⟨_, he, fun v q => nomatch q⟩
    · rw [z]
      exact ⟨o, ho, fun v q => by rw [hd] at q; cases q⟩
  keep := fun i h h' st k => let ⟨⟨old, he⟩, hi, hne⟩ := st; ⟨⟨old, k e (by simp) _ he⟩, hi.at fun o q => k it (by simp) o q, hne⟩
  item := by
    intro X hP hw hK hc i pins s σ H E I hf st hg
    subst hP hw hK
    obtain ⟨⟨old, he⟩, hit, hne⟩ := st
    obtain ⟨xs, x, hq, hx⟩ := hg
    obtain ⟨its, rv, p, hz⟩ := I.tuple hq
    obtain ⟨u, hu, ru⟩ := rv.get hx
    have tup : s.heap.IsTuple a its.toArray := p
    have hel : e < s.heap.objs.size := Heap.lt_size he
    have hil : it < s.heap.objs.size := by obtain ⟨_, q, _⟩ := hit; exact Heap.lt_size q
    have nai : a ≠ it := fun z => by
      obtain ⟨o1, e1, c1, _⟩ := tup
      obtain ⟨o2, e2, c2, _⟩ := hit
      rw [z, e2] at e1
      have e1 := Option.some.inj e1
      rw [e1, c1] at c2
      exact absurd c2 (by decide)
    have nea : e ≠ a := fun z => by
      obtain ⟨o1, e1, c1, _⟩ := tup
      rw [← z, he] at e1
      have e1 := Option.some.inj e1
      rw [← e1] at c1
      exact absurd (show Value.type "enumerate" = Value.type "tuple" from c1) (by decide)
    have D := Draws.tuple (prog := X.prog) (w := X.w) (A := X.A.in1) (I.ok.hd hc) it a nai its.toArray
    have hlt : i < its.toArray.size := by
      have := (List.getElem?_eq_some_iff.mp hu).1
      simpa using this
    refine wpAny_pyNext_enum_itemD D he ⟨hit, tup⟩ hlt hne (by simp [hne, nea]) fun y h' tk hPy ho hst' hT hsz hk => ?_
    have ey : y = u := by
      have z : its[i]? = some y := by simpa using hPy
      rw [hu] at z
      exact (Option.some.inj z).symm
    subst ey
    refine ⟨_, rfl, wpAny_letOwnedTupleGo_enum (s := { s with heap := h', toks := tk + 1 }) ho fun h'' he' sb => ?_⟩
    have hT2 : h''.get? s.heap.objs.size = some { cls := .type "tuple", data := .seq #[.int i tk, y] } := (sb.2 _ (Nat.ne_of_gt hel)).trans hT
    have new : ObjOk X.prog X.w (upd H s.heap.objs.size (.tup [.int (i : Nat), x])) h'' s.heap.objs.size (.tup [.int (i : Nat), x]) :=
      ⟨by show 2 ≤ sizeLine; decide, [.int i tk, y], .cons ⟨_, rfl⟩ (.cons ru .nil), ⟨_, hT2, rfl, _, rfl⟩⟩
    have I1 : Inv X pins σ (upd H s.heap.objs.size (.tup [.int (i : Nat), x])) { s with heap := h'', toks := tk + 1 } :=
      I.turnedNew (ch := [e, it]) (fun b ob hb q => (sb.2 b (fun z => hb (by simp [z]))).trans (hk b ob (fun z => hb (by simp [z])) (fun z => hb (by simp [z])) q)) hf (Nat.le_refl _) new
    refine ⟨.ref s.heap.objs.size, _, I1, rfl, ⟨_, x, rfl, I.hok.fresh (Nat.le_refl _), rfl, fun ys hy => by rw [I.tuple_inj hy hq]; exact hx⟩, ⟨⟨y, ?_⟩, hst'.1.at fun o q => (sb.2 it (Ne.symm hne)).trans q, hne⟩, fun b hb => ?_⟩
    · have e1 : ((i + 1 : Nat) : Int) = (i : Int) + 1 := by omega
      rw [e1]
      exact he'
    · have lt : b < s.heap.objs.size := by
        rcases (show b = e ∨ b = it by simpa using hb) with z | z
        · rw [z]; exact hel
        · rw [z]; exact hil
      rw [upd_ne (Nat.ne_of_lt lt)]
      exact (hf b hb).1
  done := by
    intro X hP hw hK hc i pins s σ H E I hf st hg
    subst hP hw hK
    obtain ⟨⟨old, he⟩, hit, hne⟩ := st
    obtain ⟨xs, hq, hx⟩ := hg
    obtain ⟨its, rv, p, hz⟩ := I.tuple hq
    obtain ⟨f0, f1, f2, f3, f4, f5⟩ := hf it (by simp)
    have hl := rv.length
    have tup : s.heap.IsTuple a its.toArray := p
    have no : its.toArray[i]? = none := by simp; omega
    have D : Draws X.prog X.w X.A.in1 it [it, a] i (fun _ _ => False) (fun j h => j = i ∧ h.IsTupleIter it a i ∧ h.IsTuple a its.toArray) :=
      ⟨fun _ _ st => let ⟨o, ho, _⟩ := st.2.1; ⟨o, ho⟩, fun _ _ _ st hk => ⟨st.1, st.2.1.at fun o z => hk it (by simp) o z, st.2.2.at fun o z => hk a (by simp) o z⟩,
        fun j s Q E hi st _ => absurd hi (by rw [st.1]; exact Nat.lt_irrefl _), fun s Q E st hE => wpAny_nextOf_tuple_end (I.ok.hd hc) st.2.1 st.2.2 no hE⟩
    exact wpAny_pyNext_enum_endD D he ⟨rfl, hit, tup⟩ fun h' eb => ⟨rfl, I.turned (t' := s.toks) (fun b o hb q => eb b o hb q) f0 f1 f3 f4 f5⟩
  self := fun A i s Q E st h => let ⟨⟨_, he⟩, _⟩ := st; wpAny_pyIter_enum he h
def iEnumT (K : Fg) (ta : TA) : TI := fun σ H R => ta σ H fun vs H1 => ∃ a xs, vs = [.ref a] ∧ SqT K H1 a xs ∧ R (Itet K a) H1
theorem pi_enumT {X : Cx} {e : Expr} {ta : TA} {p pos tpos : Pos} {elts : List Expr} {kk : Nat} (hg : Gl X "enumerate") (hm : X.mg "enumerate" = none) (ha : PA X [e] ta) (hs : starEach [e] X.env = [(false, eval e X.env)] := by rfl) :
    PI X (.Tuple elts kk tpos) (.Call (.Name "enumerate" p) [e] [] pos) (iEnumT X.K ta) := by
  refine ⟨fun pins s σ H R I h => ?_⟩
  refine Call_ (ld_blt I hg hm boot_enumerate (PyProof.Rows.callWith_type1 (thn (ha.run pos pins s σ H _ I h) fun us s1 ⟨vs, H1, I1, r1, q1⟩ => ?_) hs rfl))
  obtain ⟨a, xs, rfl, hq, q⟩ := q1
  cases r1 with
  | cons r rr =>
    cases rr
    cases r
    obtain ⟨its, rv, p', hz⟩ := I1.tuple hq
    have tup : s1.heap.IsTuple a its.toArray := p'
    refine enumT_call (begins_tuple a its.toArray) tup fun h' he hit hk => wpAny_pyIter_enum he ?_
    have I2 : Inv X pins σ H1 { s1 with heap := h' } := I1.kept (t' := s1.toks) hk
    refine ⟨s1.heap.objs.size + 1, [s1.heap.objs.size + 1, s1.heap.objs.size], _, _, H1, rfl, I2, turn_enumT a (s1.heap.objs.size + 1) s1.heap.objs.size, ⟨⟨.none, he⟩, ⟨_, hit, rfl, rfl⟩, Nat.succ_ne_self _⟩, fun b hb => ?_, q⟩
    have hle : s1.heap.objs.size ≤ b := by
      rcases (show b = s1.heap.objs.size + 1 ∨ b = s1.heap.objs.size by simpa using hb) with z | z
      · rw [z]; exact Nat.le_add_right _ _
      · rw [z]; exact Nat.le_refl _
    exact I1.fpOk hle (I1.hok.fresh hle)
/-- of a list or a tuple -/
def iEnumU (K : Fg) (ta : TA) : TI := fun σ H R => iEnum K ta σ H R ∨ iEnumT K ta σ H R
theorem pi_enumU {X : Cx} {K : Fg} {e : Expr} {ta : TA} {p pos tpos : Pos} {elts : List Expr} {kk : Nat} (eK : X.K = K) (hg : Gl X "enumerate") (hm : X.mg "enumerate" = none) (ha : PA X [e] ta) (hs : starEach [e] X.env = [(false, eval e X.env)] := by rfl) :
    PI X (.Tuple elts kk tpos) (.Call (.Name "enumerate" p) [e] [] pos) (iEnumU K ta) := by
  subst eK
  exact ⟨fun pins s σ H R I h => h.elim ((pi_enum hg hm ha hs).run pins s σ H R I) ((pi_enumT hg hm ha hs).run pins s σ H R I)⟩
section
variable {K : Fg} {T : List Addr} {ta : TE} {f : Fe}
theorem wk_enumT {A : List Addr} {H : Hp} {p : Addr} {vs : List V} {ds : List D} (hp : SqT K (hide A H) p vs) (il : IsL K (hide A H) vs ds) : WkOk K A H (Itet K p) (enumD 0 ds) := by
  have at2 : ∀ A2 H2, Tr A H A2 H2 → SqT K H2 p vs := fun A2 H2 r => sqt_out (r.kp.sqt hp)
  refine ⟨fun A2 H2 r i d e => ?_, fun A2 H2 r live i d e x H3 y => ?_, fun A2 H2 r i hi => ⟨vs, at2 A2 H2 r, by rw [il.len, ← enum_len 0 ds]; exact hi⟩⟩
  · obtain ⟨d', h1, _⟩ := enum_at e
    obtain ⟨v, h2, _⟩ := il.get h1
    exact ⟨vs, v, at2 A2 H2 r, h2⟩
  · obtain ⟨q, v, rfl, hq, rfl, hv⟩ := y
    obtain ⟨d', h1, rfl⟩ := enum_at e
    have qA : q ∉ A2 := fun z => live q z hq
    refine ⟨.inr ⟨q, _, hq, rfl⟩, .tup (.inl (.inl (by rw [hide_out qA]; exact upd_same))) ?_⟩
    have e0 : 0 + i = i := Nat.zero_add i
    rw [e0]
    exact .cons (.int _) (.cons (Is.kp (kp_fresh hq) (isl_ix (IsL.kp r.kp il) h1 (hv vs (at2 A2 H2 r)))) .nil)
/-- a list that is data, or a tuple -/
def asW (s : Sl) : Option (List D) := match asLd s with
  | some ds => some ds
  | none => asT s
def wEnumU (f : Fe) : Fw := fun env k => (wOf asW f env k).map fun p => (enumD 0 p.1, p.2)
theorem di_enumU (h1 : DE K T ta f) : DI K T (iEnumU K (tCons ta tNil)) (wEnumU f) := by
  intro dm A0 H0 A σ H env k R S ds k' hf hR
  unfold wEnumU at hf
  cases e : wOf asW f env k with
  | none => rw [e] at hf; cases hf
  | some r =>
    rw [e] at hf
    cases hf
    obtain ⟨s, e1, e2⟩ := wOf_some (show wOf asW f env k = some (r.1, r.2) from e)
    unfold asW at e2
    cases e3 : asLd s with
    | some es =>
      rw [e3] at e2
      cases e2
      refine .inl (h1 dm A0 H0 A σ H env k _ S s _ e1 fun v H' S' l i => ?_)
      obtain ⟨p, vs, rfl, pA, hp, il⟩ := is_lstd i e3
      exact ⟨p, vs, rfl, .inl (.inl hp), hR _ H' S' l (wk_enum pA hp il)⟩
    | none =>
      rw [e3] at e2
      refine .inr (h1 dm A0 H0 A σ H env k _ S s _ e1 fun v H' S' l i => ?_)
      obtain ⟨p, vs, rfl, g1, g2, il⟩ := is_tup i e2
      exact ⟨p, vs, rfl, g1, hR _ H' S' l (wk_enumT g2 il)⟩
end
end DL
set_option maxHeartbeats 4000000
/-! ### elements of a generator expression: what changes nothing -/
namespace DL
open PySem PySem.Spec PyProof.Rows L2
structure GAt (X : Cx) (x : Str) (u : Value) (P : Addr) (s1 : Shared) (C : Addr) (A' : Around) (m : Str → Option Value) (s2 : Shared) : Prop where
  hd : A'.handled = none
  dp : A'.depth ≤ X.A.depth + 1
  un : A'.units ≤ X.A.units + 8
  ns : s2.heap.Ns C m
  at_ : m x = some u
  keep : ∀ b o, b ≠ P → s1.heap.get? b = some o → s2.heap.get? b = some o
def gEnvOf (X : Cx) (scope : Scope) (C : Addr) (cd : Value) : Env := genEnv scope (cloFrom X.env.cells scope.names []) C cd builtinsNs X.env
theorem GAt.step {X : Cx} {x : Str} {u : Value} {P : Addr} {s1 : Shared} {C : Addr} {A' : Around} {m : Str → Option Value} {s2 s3 : Shared} (g : GAt X x u P s1 C A' m s2) (k : Keeps s2 s3) : GAt X x u P s1 C A' m s3 := by
  obtain ⟨h', tk, rfl, kk⟩ := k
  exact ⟨g.hd, g.dp, g.un, g.ns.keeps kk, g.at_, fun b o n e => kk b o (g.keep b o n e)⟩
def EV (X : Cx) (scope : Scope) (x : Str) (P : Addr) (s1 : Shared) (e : Expr) (u : Value) (F : Value → Prop) : Prop :=
  ∀ (C : Addr) (cd : Value) (A' : Around) (E' : Value → Shared → Prop) (m : Str → Option Value) (s2 : Shared), GAt X x u P s1 C A' m s2 → wpAny (model X.prog X.w) A' (eval e (gEnvOf X scope C cd)) (fun y s3 => F y ∧ Keeps s2 s3) E' s2
/-- what an element asks: the item, the slots, the heap, what is wanted of the outcome -/
abbrev RE := V → List (Option V) → Hp → (V → Prop) → Prop
structure PR (X : Cx) (scope : Scope) (x : Str) (P : Addr) (e : Expr) (re : RE) : Prop where
  run : ∀ (pins : List (Addr × Obj)) (σ : List (Option V)) (H : Hp) (s1 : Shared) (ps : Array Value) (v : V) (u : Value) (F : V → Prop), Inv X pins σ H s1 → H P = some (.tbl ps) → RelV v u → re v σ H F → EV X scope x P s1 e u fun y => ∃ w, RelV w y ∧ F w
section
variable {X : Cx} {scope : Scope} {x : Str} {P : Addr}
theorem keeps_trans {s s1 s2 : Shared} (a : Keeps s s1) (b : Keeps s1 s2) : Keeps s s2 := Keeps.trans' a b
def reX : RE := fun v _ _ F => F v
theorem pr_x {p : Pos} (hk : scope.kind = .function) (hl : scope.names.lookup x = some .local) (hd : (x == ("__debug__" : Str)) = false := by decide) : PR X scope x P (.Name x p) reX := by
  refine ⟨fun pins σ H s1 ps v u F I hP r q => ?_⟩
  intro C cd A' E' m s2 g
  exact wpAny_Name (wpAny_loadName_local hk (show scope.names.lookup x = some .local from hl) g.ns g.at_ ⟨⟨v, r, q⟩, GxR.keeps_refl _⟩) hd
def reFree (i : Nat) : RE := fun _ σ _ F => ∃ w, σ[i]? = some (some w) ∧ F w
theorem pr_free {y : Str} {p : Pos} (i : Nat) (hk : scope.kind = .function) (hN : X.N[i]? = some y) (hl : scope.names.lookup y = some .free) (hc : X.env.scope.names.lookup y = some .cell)
    (fr : ∀ z ∈ scope.names, z.2 = .free → X.env.scope.names.lookup z.1 = some .cell) (hd : (y == ("__debug__" : Str)) = false := by decide) (hcd : (y == ("__classdict__" : Str)) = false := by decide) : PR X scope x P (.Name y p) (reFree i) := by
  refine ⟨fun pins σ H s1 ps v u F I hP r q => ?_⟩
  intro C cd A' E' m s2 g
  obtain ⟨w, hw, q⟩ := q
  obtain ⟨m1, hn1, hv⟩ := I.loc
  obtain ⟨uw, rw_, lk⟩ := hv i y w hN hw (.inr (.inl hc))
  have kc : X.env.kindOf y = some .cell := hc
  rcases lk with ⟨z, _⟩ | ⟨_, c, hcc, isc⟩
  · rw [kc] at z; cases z
  have hfree : ∀ z ∈ scope.names, z.2 = .free → ∃ c, X.env.cells.lookup z.1 = some c := fun z hz e => I.ok.has _ (.inl (fr z hz e))
  have nP : c ≠ P := fun z => by
    have := I.freeC y c hcc
    rw [z, hP] at this
    cases this
  have isc2 : s2.heap.IsCell c (some uw) := by
    obtain ⟨o, e, rr⟩ := isc
    exact ⟨o, g.keep c o nP e, rr⟩
  refine wpAny_Name (wpAny_loadName_free hk (show scope.names.lookup y = some .free from hl) (NdefX.clo_has hfree (PySem.mem_of_lookup hl) hcc) isc2 ⟨⟨w, rw_, q⟩, GxR.keeps_refl _⟩ hcd) hd
def reInt (n : Int) : RE := fun _ _ _ F => F (.int n)
theorem pr_int {n : Int} {j : Nat} {p : Pos} : PR X scope x P (.Constant (.int n) j p) (reInt n) := by
  refine ⟨fun pins σ H s1 ps v u F I hP r q => ?_⟩
  intro C cd A' E' m s2 g
  exact wpAny_Constant_int ⟨⟨.int n, ⟨_, rfl⟩, q⟩, GxR.keeps_tok _ _⟩
/-- an operator of ints, at any place -/
def RawII (prog : Program) (w : World) (f : Value → Value → Sem Value) (c : Int → Int → Prop) (g : Int → Int → V) : Prop :=
  ∀ (A : Around) (E : Value → Shared → Prop) (s : Shared) (i j : Int) (t t' : Tok) (Q : Value → Shared → Prop), c i j → (∀ u s', RelV (g i j) u → Keeps s s' → Q u s') → wpAny (model prog w) A (f (.int i t) (.int j t')) Q E s
def re2 (c : Int → Int → Prop) (g : Int → Int → V) (ra rb : RE) : RE := fun v σ H F => ra v σ H fun a => rb v σ H fun b => ∃ i j, a = .int i ∧ b = .int j ∧ c i j ∧ F (g i j)
theorem pr_op {op : Operator} {a b : Expr} {pos : Pos} {ra rb : RE} {c : Int → Int → Prop} {g : Int → Int → V} (ho : RawII X.prog X.w (binaryOp op) c g) (ha : PR X scope x P a ra) (hb : PR X scope x P b rb) : PR X scope x P (.BinOp a op b pos) (re2 c g ra rb) := by
  refine ⟨fun pins σ H s1 ps v u F I hP r q => ?_⟩
  intro C cd A' E' m s2 g2
  refine wpAny_BinOp (wpAny_mono (ha.run pins σ H s1 ps v u _ I hP r q C cd A' E' m s2 g2) (fun y s3 h3 => ?_) fun _ _ z => z)
  obtain ⟨⟨w, rw_, q⟩, k3⟩ := h3
  refine wpAny_mono (hb.run pins σ H s1 ps v u _ I hP r q C cd A' E' m s3 (g2.step k3)) (fun z s4 h4 => ?_) fun _ _ z => z
  obtain ⟨⟨w', rw', i, j, rfl, rfl, hc, q⟩, k4⟩ := h4
  obtain ⟨t, rfl⟩ := rw_
  obtain ⟨t', rfl⟩ := rw'
  exact ho A' E' s4 i j t t' _ hc fun u' s5 ru k5 => ⟨⟨_, ru, q⟩, keeps_trans (keeps_trans k3 k4) k5⟩
theorem raw_fdiv : RawII X.prog X.w (binaryOp .FloorDiv) (fun _ j => j ≠ 0 ∧ j.natAbs.log2 < 9000) fun i j => .int (i.fdiv j) := fun A E s i j t t' Q hc q =>
  floordiv_int hc.1 (q _ _ ⟨_, rfl⟩ (GxR.keeps_tok _ _)) (Or.inl (PyProof.noPylong_of_log2 hc.2))
/-! ### tuple(e for x in t) -/
/-- the generator expression's own names -/
structure GS (X : Cx) (scope : Scope) (x : Str) : Prop where
  kind : scope.kind = .function
  co : scope.isCoroutine = false
  cell : ∀ y ∈ scope.names, y.2 ≠ .cell
  dot : scope.names.lookup (".0" : Str) = some NameKind.local
  loc : scope.names.lookup x = some .local
  free : ∀ y ∈ scope.names, y.2 = .free → X.env.scope.names.lookup y.1 = some .cell
theorem GS.gen {pins : List (Addr × Obj)} {σ : List (Option V)} {H : Hp} {s : Shared} (S : GS X scope x) (I : Inv X pins σ H s) : GxR.GenS X.env scope x :=
  ⟨S.kind, S.co, S.cell, S.dot, S.loc, fun y hy e => I.ok.has _ (.inl (S.free y hy e))⟩
def tTupG (K : Fg) (P : Addr) (te : TE) (re : RE) : TE := fun σ H Q => te σ H fun v H1 => ∃ t vs, v = .ref t ∧ SqT K H1 t vs ∧ GxR.TabG H1 P ∧ vs.length ≤ sizeLine ∧ ∃ G : Nat → V → Prop, (∀ i a, vs[i]? = some a → re a σ H1 (G i)) ∧
  ∀ H2 ws p, GxR.Tabbed P H1 H2 → ws.length = vs.length → (∀ i w, ws[i]? = some w → G i w) → H2 p = none → Q (.ref p) (upd H2 p (.tup ws))
theorem vals_pick {G : Nat → V → Prop} : ∀ (us : List Value) (k : Nat), (∀ i y, us[i]? = some y → ∃ w, RelV w y ∧ G (k + i) w) → ∃ ws : List V, Vals ws us ∧ ws.length = us.length ∧ ∀ i w, ws[i]? = some w → G (k + i) w
  | [], _, _ => ⟨[], .nil, rfl, fun i w e => by simp at e⟩
  | u :: us, k, h => by
    obtain ⟨w, r, g⟩ := h 0 u rfl
    obtain ⟨ws, r2, l, g2⟩ := vals_pick us (k + 1) fun i y e => by
      have e1 : k + 1 + i = k + (i + 1) := by omega
      rw [e1]
      exact h (i + 1) y (by simpa using e)
    refine ⟨w :: ws, .cons r r2, by rw [List.length_cons, List.length_cons, l], fun i w' e => ?_⟩
    cases i with
    | zero => cases e; exact g
    | succ i =>
      have e1 : k + (i + 1) = k + 1 + i := by omega
      rw [e1]
      exact g2 i w' (by simpa using e)
theorem pe_tupG {c : Addr} {elt iter : Expr} {px p pos gpos : Pos} {te : TE} {re : RE} {k : Nat}
    (room : Room k X.A) (hg : Gl X "tuple") (hm : X.mg "tuple" = none) (TB : GxR.TabB X.base X.mg c P) (code : X.env.code = .ref c) (S : GS X scope x) (src : PE X iter te) (fold : ∀ v, genFold iter X.env v = pure v) (el : PR X scope x P elt re) :
    PE X (.Call (.Name "tuple" p) [.GeneratorExp elt [⟨.Name x px, iter, [], 0⟩] scope gpos] [] pos) (tTupG X.K P te re) := by
  constructor
  intro pins s σ H Q I h
  have star : starEach [Expr.GeneratorExp elt [⟨.Name x px, iter, [], 0⟩] scope gpos] X.env = (false, eval (.GeneratorExp elt [⟨.Name x px, iter, [], 0⟩] scope gpos) X.env) :: starEach [] X.env := rfl
  refine wpAny_Call_Name_kw (ld_blt I hg hm boot_tuple ?_)
  refine PyProof.Rows.callWith_type1 ?_ star (by rfl)
  rw [star]
  show wpAny _ _ (spliced ((false, eval _ X.env) :: backTo pos (starEach [] X.env))) _ _ s
  refine Calls.spliced_cons (gen_tup (α := Nat → V → Prop) (R := fun G t vs H1 => GxR.TabG H1 P ∧ vs.length ≤ sizeLine ∧ (∀ i a, vs[i]? = some a → re a σ H1 (G i)) ∧
    ∀ H2 ws p, GxR.Tabbed P H1 H2 → ws.length = vs.length → (∀ i w, ws[i]? = some w → G i w) → H2 p = none → Q (.ref p) (upd H2 p (.tup ws))) (F := fun G _ i y => ∃ w, RelV w y ∧ G i w) room TB code (S.gen I) src fold I ?_ ?_ ?_)
  · refine cast (congrArg (te σ H) ?_) h
    funext v H1
    apply propext
    constructor
    · rintro ⟨t, vs, e1, e2, e3, e4, G, e5, e6⟩
      exact ⟨G, t, vs, e1, e2, e3, e3, e4, e5, e6⟩
    · rintro ⟨G, t, vs, e1, e2, e3, _, e4, e5, e6⟩
      exact ⟨t, vs, e1, e2, e3, e4, G, e5, e6⟩
  · rintro G t vs H1 s1 its I1 ⟨⟨ps, tblAt, _⟩, _, hre, _⟩ vals C cd A' E' i u s₂ m₂ hA hD hU hi hns hm' keep
    obtain ⟨v, hv, rv⟩ : ∃ v, vs[i]? = some v ∧ RelV v u := by
      have hlen := vals.length
      obtain ⟨hlt, eu⟩ := List.getElem?_eq_some_iff.mp hi
      have hlt' : i < vs.length := by omega
      refine ⟨vs[i], List.getElem?_eq_getElem hlt', ?_⟩
      obtain ⟨u', hu', r'⟩ := vals.get (List.getElem?_eq_getElem hlt')
      rw [hi] at hu'
      cases hu'
      exact r'
    exact el.run pins σ H1 s1 ps v u _ I1 tblAt rv (hre i v hv) C cd A' E' m₂ s₂ ⟨hA, hD, hU, hns, hm', keep⟩
  · rintro G t vs its H1 g s5 ⟨_, hsz, _, hq⟩ vals ⟨fp, wr, Gg, St, W, st0, ⟨ty, fpl, gfp⟩, hI⟩
    refine Calls.spliced_nil ?_
    have lens : its.length = vs.length := vals.length.symm
    refine call_tuple_gen (WalksS.in4_3 W) ty st0 fpl gfp (fun s' acc mv hacc => ?_) (by rw [lens]; exact hsz)
    obtain ⟨H2, tab, J⟩ := hI s' mv
    obtain ⟨ws, rw_, lw, gw⟩ := vals_pick (G := G) acc.toList 0 fun i y e => by
      rw [Nat.zero_add]
      exact hacc.2 i y (by rw [← Array.getElem?_toList]; exact e)
    have lws : ws.length = vs.length := by rw [lw, ← lens, ← hacc.1]; rfl
    have J2 : Inv X pins σ (upd H2 s'.heap.objs.size (.tup ws)) { s' with heap := s'.heap.push { cls := .type "tuple", data := .seq acc } } :=
      J.laid (t' := s'.toks) (fun b o e => Heap.get?_push_of_some _ e) (Nat.le_refl _) (show ObjOk X.prog X.w _ _ _ (.tup ws) from ⟨by rw [lws]; exact hsz, acc.toList, rw_, by simpa using IsTup.new s'.heap acc⟩)
    exact ⟨.ref s'.heap.objs.size, _, J2, rfl, hq H2 ws _ tab lws (fun i w e => by have := gw i w e; rwa [Nat.zero_add] at this) (J.hok.fresh (Nat.le_refl _))⟩
end
/-! ### the same over data -/
abbrev Re := D → List Sl → Option D
/-- an element as a function of the item and the slots -/
def DR (K : Fg) (T : List Addr) (re : RE) (fe : Re) : Prop := ∀ dm A0 H0 A σ H env k v d z (F : V → Prop), Sta K T dm A0 H0 A σ H env k → Is K (hide A H) v d → fe d env = some z → (∀ w, Is K (hide A H) w z → F w) → re v σ H F
section
variable {K : Fg} {T : List Addr}
def feX : Re := fun d _ => some d
theorem dr_x : DR K T reX feX := by
  intro dm A0 H0 A σ H env k v d z F S i e q
  cases e
  exact q _ i
def feFree (j : Nat) : Re := fun _ env => match env[j]? with
  | some (.dat d) => some d
  | _ => none
theorem dr_free (j : Nat) : DR K T (reFree j) (feFree j) := by
  intro dm A0 H0 A σ H env k v d z F S i e q
  unfold feFree at e
  have h := S.slot j
  cases e1 : env[j]? with
  | none => rw [e1] at e; cases e
  | some s =>
    rw [e1] at e h
    cases s with
    | dat d' => cases e; obtain ⟨w, h1, h2⟩ := h; exact ⟨w, h1, q _ h2⟩
    | _ => cases e
def feInt (n : Int) : Re := fun _ _ => some (.int n)
theorem dr_int (n : Int) : DR K T (reInt n) (feInt n) := by
  intro dm A0 H0 A σ H env k v d z F S i e q
  cases e
  exact q _ (.int n)
def fe2 (c : Int → Int → Bool) (g : Int → Int → D) (a b : Re) : Re := fun d env => (a d env).bind fun p => (b d env).bind fun q => match p, q with
  | .int i, .int j => if c i j = true then some (g i j) else none
  | _, _ => none
theorem dr_2 {c : Int → Int → Prop} {g : Int → Int → V} {c' : Int → Int → Bool} {g' : Int → Int → D} {ra rb : RE} {fa fb : Re} (h1 : DR K T ra fa) (h2 : DR K T rb fb) (hc : ∀ i j, c' i j = true → c i j) (hg : ∀ i j H, Is K H (g i j) (g' i j)) : DR K T (re2 c g ra rb) (fe2 c' g' fa fb) := by
  intro dm A0 H0 A σ H env k v d z F S i e q
  unfold fe2 at e
  cases e1 : fa d env with
  | none => rw [e1] at e; cases e
  | some p =>
    rw [e1] at e
    simp only [Option.bind_some] at e
    cases e2 : fb d env with
    | none => rw [e2] at e; cases e
    | some r =>
      rw [e2] at e
      simp only [Option.bind_some] at e
      split at e
      · rename_i m n
        by_cases hh : c' m n = true
        · rw [if_pos hh] at e
          cases e
          refine h1 dm A0 H0 A σ H env k v d _ _ S i e1 fun a ia => ?_
          refine h2 dm A0 H0 A σ H env k v d _ _ S i e2 fun b ib => ?_
          cases ia
          cases ib
          exact ⟨m, n, rfl, rfl, hc m n hh, q _ (hg m n _)⟩
        · rw [if_neg hh] at e; cases e
      · cases e
theorem dr_fdiv {ra rb : RE} {fa fb : Re} (h1 : DR K T ra fa) (h2 : DR K T rb fb) : DR K T (re2 (fun _ j => j ≠ 0 ∧ j.natAbs.log2 < 9000) (fun i j => .int (i.fdiv j)) ra rb) (fe2 cDivN (fun i j => .int (i.fdiv j)) fa fb) :=
  dr_2 h1 h2 (fun i j e => by unfold cDivN at e; simp only [Bool.and_eq_true, decide_eq_true_eq] at e; exact e) fun _ _ _ => .int _
def mapRe (fe : Re) (env : List Sl) : List D → Option (List D)
  | [] => some []
  | d :: ds => (fe d env).bind fun z => (mapRe fe env ds).map fun zs => z :: zs
theorem mapRe_len {fe : Re} {env : List Sl} : ∀ {ds zs : List D}, mapRe fe env ds = some zs → zs.length = ds.length
  | [], zs, e => by cases e; rfl
  | d :: ds, zs, e => by
    unfold mapRe at e
    cases e1 : fe d env with
    | none => rw [e1] at e; cases e
    | some z =>
      rw [e1] at e
      simp only [Option.bind_some] at e
      cases e2 : mapRe fe env ds with
      | none => rw [e2] at e; cases e
      | some r => rw [e2] at e; cases e; rw [List.length_cons, List.length_cons, mapRe_len e2]
theorem mapRe_at {fe : Re} {env : List Sl} : ∀ {ds zs : List D} {i : Nat} {d : D}, mapRe fe env ds = some zs → ds[i]? = some d → ∃ z, zs[i]? = some z ∧ fe d env = some z
  | [], _, _, _, _, h => by simp at h
  | d :: ds, zs, i, d', e, h => by
    unfold mapRe at e
    cases e1 : fe d env with
    | none => rw [e1] at e; cases e
    | some z =>
      rw [e1] at e
      simp only [Option.bind_some] at e
      cases e2 : mapRe fe env ds with
      | none => rw [e2] at e; cases e
      | some r =>
        rw [e2] at e
        cases e
        cases i with
        | zero => cases h; exact ⟨z, rfl, e1⟩
        | succ i =>
          obtain ⟨z', a, b⟩ := mapRe_at (i := i) e2 (by simpa using h)
          exact ⟨z', by simpa using a, b⟩
def fTupG (f : Fe) (fe : Re) : Fe := fun env k => (f env k).bind fun p => (asT p.1).bind fun ds => if ds.length ≤ 1000000 then (mapRe fe env ds).map fun zs => (.dat (.tuple zs), p.2) else none
theorem isl_of {H : Hp} : ∀ {ws : List V} {zs : List D}, ws.length = zs.length → (∀ (i : Nat) w, ws[i]? = some w → ∃ z, zs[i]? = some z ∧ Is K H w z) → IsL K H ws zs
  | [], [], _, _ => .nil
  | [], _ :: _, e, _ => by simp at e
  | _ :: _, [], e, _ => by simp at e
  | w :: ws, z :: zs, e, h => by
    obtain ⟨z', e1, i1⟩ := h 0 w rfl
    cases e1
    exact .cons i1 (isl_of (by simpa using e) fun i w' ew => by simpa using h (i + 1) w' (by simpa using ew))
/-- the table has grown: nothing else has changed -/
theorem sta_tab {P : Addr} {dm : Dm} {A0 : List Addr} {H0 : Hp} {A : List Addr} {σ : List (Option V)} {H1 H2 : Hp} {env : List Sl} {k : Dk} (hP : P ∈ T) (S : Sta K T dm A0 H0 A σ H1 env k) (tb : GxR.Tabbed P H1 H2) : Sta K T dm A0 H0 A σ H2 env k ∧ Lt dm H1 H2 := by
  obtain ⟨tG, eq⟩ := tb
  have l2 : Lt dm H1 H2 := ⟨fun b o hb z _ => by
    rw [eq b fun q => by
      obtain ⟨ps, e, _⟩ := S.wd.tab P hP
      rw [q, e] at hb
      cases hb
      cases z]
    exact hb, fun b hb => by
    by_cases q : b = P
    · obtain ⟨ps, e, _⟩ := tG
      rw [q, e]; simp
    · rw [eq b q]; exact hb⟩
  have w2 : Wd T dm A H2 k := ⟨fun b hb => l2.dom b (S.wd.dom b hb), fun P' hP' => by
    by_cases q : P' = P
    · rw [q]; exact tG
    · obtain ⟨ps, e, t⟩ := S.wd.tab P' hP'
      exact ⟨ps, by rw [eq P' q]; exact e, t⟩, fun a c e => by
    obtain ⟨q1, q2, q3, q4, q5⟩ := S.wd.dk a c e
    obtain ⟨ps, ep, _⟩ := S.wd.tab P hP
    exact ⟨q1, q2, q3, by rw [eq a fun z => by rw [z, ep] at q4; cases q4]; exact q4, by rw [eq c fun z => by rw [z, ep] at q5; cases q5]; exact q5⟩⟩
  exact ⟨S.at w2 l2, l2⟩
theorem de_tupG {P : Addr} {ta : TE} {f : Fe} {re : RE} {fe : Re} (hP : P ∈ T) (h1 : DE K T ta f) (h2 : DR K T re fe) : DE K T (tTupG K P ta re) (fTupG f fe) := by
  intro dm A0 H0 A σ H env k Q S s k' hf hQ
  unfold fTupG at hf
  cases e1 : f env k with
  | none => rw [e1] at hf; cases hf
  | some p =>
    obtain ⟨a, k1⟩ := p
    rw [e1] at hf
    simp only [Option.bind_some] at hf
    cases e2 : asT a with
    | none => rw [e2] at hf; cases hf
    | some ds =>
      rw [e2] at hf
      simp only [Option.bind_some] at hf
      by_cases hl : ds.length ≤ 1000000
      · rw [if_pos hl] at hf
        cases e3 : mapRe fe env ds with
        | none => rw [e3] at hf; cases hf
        | some zs =>
          rw [e3] at hf
          cases hf
          refine h1 dm A0 H0 A σ H env k _ S _ _ e1 fun v H1 S1 l1 i1 => ?_
          obtain ⟨t, vs, rfl, g1, g2, g3⟩ := is_tup i1 e2
          refine ⟨t, vs, rfl, g1, S1.wd.tab P hP, line_le (by rw [g3.len]; exact hl), fun i w => ∃ z, zs[i]? = some z ∧ Is K (hide A H1) w z, fun i b hb => ?_, fun H2 ws q tb lw hw hq => ?_⟩
          · obtain ⟨d, hd, isd⟩ := g3.getV hb
            obtain ⟨z, hz, ez⟩ := mapRe_at e3 hd
            exact h2 dm A0 H0 A σ H1 env _ b d z _ S1 isd ez fun w iw => ⟨z, hz, iw⟩
          · obtain ⟨S2, l2⟩ := sta_tab hP S1 tb
            have il : IsL K (hide A H1) ws zs := isl_of (by rw [lw, g3.len, mapRe_len e3]) hw
            exact hQ _ _ (S2.new hq) ((l1.trans l2).trans (Lt.new hq)) (mk_tup S2.wd hq (IsL.kp (l2.kp S1.wd) il))
      · rw [if_neg hl] at hf; cases hf
end
end DL
set_option maxHeartbeats 4000000
namespace DL
open PySem PySem.Spec PyProof.Rows L2
section
variable {K : Fg} {T : List Addr} {ta tb : TE} {f g : Fe}
/-! ### a tuple some times over -/
def gRepT : Sl → Sl → Option Sl := fun a b => match asT a, b with
  | some ds, .dat (.int n) => if ds ≠ [] ∧ 2 ≤ n ∧ n ≤ 1000 ∧ ds.length ≤ 1000 then some (.dat (.tuple (List.replicate n.toNat ds).flatten)) else none
  | _, _ => none
def rMulT (K : Fg) : R2 := fun x y H Q => rMulU x y H Q ∨ rRepT K x y H Q
theorem op_mulT {X : Cx} : OpR X (binaryOp .Mult) (rMulT X.K) := op_mulU.or op_repT
def gMulT : Sl → Sl → Option Sl := fun a b => match gRepT a b with
  | some s => some s
  | none => gMulU a b
theorem repT_in : ∀ dm A0 H0 A σ H env k x y a b s (Q : VK), Sta K T dm A0 H0 A σ H env k → IsS K A0 dm A H x a → IsS K A0 dm A H y b → gRepT a b = some s →
      (∀ v H', Sta K T dm A0 H0 A σ H' env k → Lt dm H H' → IsS K A0 dm A H' v s → Q v H') → rRepT K x y H Q := by
  intro dm A0 H0 A σ H env k x y a b s Q S i1 i2 e hQ
  unfold gRepT at e
  cases e1 : asT a with
  | none => rw [e1] at e; cases e
  | some ds =>
    rw [e1] at e
    cases b with
    | dat d =>
      cases d with
      | int n =>
        simp only at e
        by_cases hc : ds ≠ [] ∧ 2 ≤ n ∧ n ≤ 1000 ∧ ds.length ≤ 1000
        · rw [if_pos hc] at e
          cases e
          obtain ⟨p, vs, rfl, g1, g2, g3⟩ := is_tup i1 e1
          rw [is_int i2]
          refine ⟨p, n, vs, rfl, rfl, g1, ?_, hc.2.1, hc.2.2.1, by rw [g3.len]; exact hc.2.2.2, fun q hq => hQ _ _ (S.new hq) (Lt.new hq) (mk_tup S.wd hq (isl_rep g3 _))⟩
          intro z
          subst z
          cases g3
          exact hc.1 rfl
        · rw [if_neg hc] at e; cases e
      | _ => cases e
    | _ => cases e
theorem mulU_in : ∀ dm A0 H0 A σ H env k x y a b s (Q : VK), Sta K T dm A0 H0 A σ H env k → IsS K A0 dm A H x a → IsS K A0 dm A H y b → gMulU a b = some s →
      (∀ v H', Sta K T dm A0 H0 A σ H' env k → Lt dm H H' → IsS K A0 dm A H' v s → Q v H') → rMulU x y H Q := by
  intro dm A0 H0 A σ H env k x y a b s Q S i1 i2 e hQ
  unfold gMulU at e
  split at e
  · rename_i s' e1
    cases e
    obtain ⟨i, j, rfl, rfl, hc, rfl⟩ := gII_some e1
    rw [is_int i1, is_int i2]
    exact .inl ⟨i, j, rfl, rfl, (show CMulW i j from (of_decide_eq_true (show decide (i.natAbs.log2 + j.natAbs.log2 < 1000000) = true from hc) : i.natAbs.log2 + j.natAbs.log2 < 1000000)), hQ _ H S (Lt.refl _ _) (.int _)⟩
  · unfold gRep at e
    cases e1 : asL a with
    | none => rw [e1] at e; cases e
    | some ds =>
      rw [e1] at e
      cases b with
      | dat d =>
        cases d with
        | int n =>
          simp only at e
          by_cases hc : -1000 ≤ n ∧ n ≤ 1000 ∧ ds.length ≤ 1000
          · rw [if_pos hc] at e
            cases e
            obtain ⟨p, vs, rfl, h3, h4⟩ := is_lst i1 e1
            rw [is_int i2]
            refine .inr ⟨p, n, vs, rfl, rfl, h3, by omega, by omega, ?_, fun q hq => hQ _ _ (S.new hq) (Lt.new hq) (mk_lst S.wd hq (isl_rep h4 _))⟩
            rw [h4.len]
            have h5 : ds.length * n.toNat ≤ 1000 * 1000 := Nat.mul_le_mul hc.2.2 (by omega)
            exact Nat.le_trans h5 (by decide)
          · rw [if_neg hc] at e; cases e
        | _ => cases e
      | _ => cases e
theorem de_mulT (h1 : DE K T ta f) (h2 : DE K T tb g) : DE K T (tOp (rMulT K) ta tb) (f2 gMulT f g) := de_bin h1 h2 (by
  intro dm A0 H0 A σ H env k x y a b s Q S i1 i2 e hQ
  unfold gMulT at e
  split at e
  · rename_i s' e1
    cases e
    exact .inr (repT_in (K := K) (T := T) _ _ _ _ _ _ _ _ _ _ _ _ _ _ S i1 i2 e1 hQ)
  · exact .inl (mulU_in (K := K) (T := T) _ _ _ _ _ _ _ _ _ _ _ _ _ _ S i1 i2 e hQ))
end
/-! ### a tuple of any data held against () -/
def rNilT (neg : Bool) (K : Fg) : R2 := fun x y H Q => ∃ p q vs, x = .ref p ∧ y = .ref q ∧ SqT K H p vs ∧ SqT K H q [] ∧ Q (.bl (if neg then !vs.isEmpty else vs.isEmpty)) H
theorem nilT_len {vs : List V} {its : List Value} (h : vs.length = its.length) : ((List.range (min its.toArray.size ([] : List Value).toArray.size)).all (fun _ => true) && its.toArray.size == ([] : List Value).toArray.size) = vs.isEmpty := by
  cases vs with
  | nil => cases its with
    | nil => rfl
    | cons a b => simp at h
  | cons a b => cases its with
    | nil => simp at h
    | cons c d => simp
theorem op_eqNilT {X : Cx} (hu : X.A.units + 64 < cLine) : OpR X (compareOp .Eq) (rNilT false X.K) := by
  intro pins s σ H x y v u Q I rx ry h
  obtain ⟨p, q, vs, rfl, rfl, h1, h2, hQ⟩ := h
  cases rx
  cases ry
  obtain ⟨its, r1, l1, _⟩ := I.tuple h1
  obtain ⟨its2, r2, l2, _⟩ := I.tuple h2
  cases r2
  refine SeqAt.eq_tupleAt (e := fun _ => true) l1 l2 (by omega) (fun j _ h2 => absurd h2 (by simp)) ?_
  rw [nilT_len r1.length]
  exact ⟨.bl _, H, I, rfl, hQ⟩
theorem op_neNilT {X : Cx} (hu : X.A.units + 64 < cLine) : OpR X (compareOp .NotEq) (rNilT true X.K) := by
  intro pins s σ H x y v u Q I rx ry h
  obtain ⟨p, q, vs, rfl, rfl, h1, h2, hQ⟩ := h
  cases rx
  cases ry
  obtain ⟨its, r1, l1, _⟩ := I.tuple h1
  obtain ⟨its2, r2, l2, _⟩ := I.tuple h2
  cases r2
  refine SeqAt.RcNeAt.tuples (e := fun _ => true) l1 l2 (by omega) (fun j _ h2 => absurd h2 (by simp)) _ _ _ _ ?_
  rw [nilT_len r1.length]
  exact ⟨.bl _, H, I, rfl, hQ⟩
section
variable {K : Fg} {T : List Addr} {ta tb : TE} {f g : Fe}
def gNilT (neg : Bool) : Sl → Sl → Option Sl := fun a b => match asT a, asT b with
  | some ds, some [] => some (.dat (.bool (if neg then !ds.isEmpty else ds.isEmpty)))
  | _, _ => none
theorem de_nilT {neg : Bool} (h1 : DE K T ta f) (h2 : DE K T tb g) : DE K T (tOp (rNilT neg K) ta tb) (f2 (gNilT neg) f g) := de_bin h1 h2 (by
  intro dm A0 H0 A σ H env k x y a b s Q S i1 i2 e hQ
  unfold gNilT at e
  split at e
  · rename_i ds e1 e2
    cases e
    obtain ⟨p, vs, rfl, g1, _, g3⟩ := is_tup i1 e1
    obtain ⟨q, ws, rfl, j1, _, j3⟩ := is_tup i2 e2
    cases j3
    refine ⟨p, q, vs, rfl, rfl, g1, j1, ?_⟩
    have en : vs.isEmpty = ds.isEmpty := by cases g3 <;> rfl
    rw [en]
    exact hQ _ H S (Lt.refl _ _) (Is.bl _)
  · cases e)
end
end DL
set_option maxHeartbeats 4000000
namespace DL
open PySem PySem.Spec PyProof.Rows L2
/-! ### x *= e, x //= e -/
theorem ip_mulW {X : Cx} : PIp X .Mult (rI CMulW fun i j => .int (i * j)) := by
  intro pins s σ H x y v u Q I r1 r2 h
  obtain ⟨i, j, e1, e2, c, q⟩ := h
  subst e1; subst e2
  obtain ⟨t, rfl⟩ := r1
  obtain ⟨t', rfl⟩ := r2
  exact imul_int ⟨.int _, H, I.tok _, ⟨_, rfl⟩, q⟩ c.ok
theorem ip_fdivL {X : Cx} : PIp X .FloorDiv (rI CDivL fun i j => .int (i.fdiv j)) := by
  intro pins s σ H x y v u Q I r1 r2 h
  obtain ⟨i, j, e1, e2, c, q⟩ := h
  subst e1; subst e2
  obtain ⟨t, rfl⟩ := r1
  obtain ⟨t', rfl⟩ := r2
  exact PySem.AutoIntOps.ifloordiv_1 (by simpa using c.1) (by rw [PyProof.noPylong_of_log2 c.2]; decide) ⟨.int _, H, I.tok _, ⟨_, rfl⟩, q⟩
section
variable {K : Fg} {T : List Addr} {ta tb : TE} {f g : Fe}
theorem ds_augMul {i : Nat} (h1 : DE K T ta f) : DS K T (tAug i ta (rI CMulW fun i j => .int (i * j))) (sAug cMul (fun a b => a * b) i f) :=
  ds_aug h1 fun a b H Q c q => ⟨a, b, rfl, rfl, (show CMulW a b from (of_decide_eq_true (show decide (a.natAbs.log2 + b.natAbs.log2 < 1000000) = true from c) : a.natAbs.log2 + b.natAbs.log2 < 1000000)), q⟩
theorem ds_augDiv {i : Nat} (h1 : DE K T ta f) : DS K T (tAug i ta (rI CDivL fun i j => .int (i.fdiv j))) (sAug cDivN (fun a b => a.fdiv b) i f) :=
  ds_aug h1 fun a b H Q c q => ⟨a, b, rfl, rfl, (by
    unfold cDivN at c
    simp only [Bool.and_eq_true, decide_eq_true_eq] at c
    exact c), q⟩
/-! ### isqrt -/
def rSqrt : List V → Hp → VK → Prop := fun vs H Q => ∃ a : Int, vs = [.int a] ∧ 0 ≤ a ∧ a.toNat.log2 < 6000 ∧ Q (.int ((Float64.isqrt a.toNat : Nat) : Int)) H
theorem cr_isqrt {X : Cx} : CallR X (.builtin "math.isqrt") rSqrt := by
  intro pins s σ H vs us Q I r h
  obtain ⟨a, rfl, h0, h1, q⟩ := h
  cases r with
  | cons r1 r2 =>
  cases r2
  obtain ⟨t, rfl⟩ := r1
  exact call_function_meets PySem.W.MGF.kind_isqrt PySem.W.MGF.plain_isqrt PySem.W.MGF.entry_isqrt (PySem.W.MGF.args_isqrt _) (PySem.W.mg_run_isqrt a t (by omega) (by omega) (by omega)).meets ⟨.int _, H, I.tok _, ⟨_, rfl⟩, q⟩
def cSqrt (i : Int) : Bool := decide (0 ≤ i) && decide (i.toNat.log2 < 6000)
def fSqrt : Fe → Fe := f1 (gI cSqrt fun i => .int ((Float64.isqrt i.toNat : Nat) : Int))
theorem de_sqrt (h1 : DE K T ta f) : DE K T (tCB rSqrt (tCons ta tNil)) (fSqrt f) := de_b1 h1 (by
  intro dm A0 H0 A σ H env k x a s Q S i e hQ
  obtain ⟨z, rfl, c, rfl⟩ := gI_some e
  rw [is_int i]
  unfold cSqrt at c
  simp only [Bool.and_eq_true, decide_eq_true_eq] at c
  exact ⟨z, rfl, c.1, c.2, hQ _ H S (Lt.refl _ _) (Is.int _)⟩)
/-! ### x[i] = e, x a list of the def's own -/
theorem own_upd {dm : Dm} {A0 : List Addr} {H0 : Hp} {A : List Addr} {σ : List (Option V)} {H : Hp} {env : List Sl} {k : Dk} {i : Nat} {ds ds2 : List D} {p : Addr} {vs vs2 : List V} (S : Sta K T dm A0 H0 A σ H env k)
    (e1 : env[i]? = some (.own ds)) (hs : σ[i]? = some (some (.ref p))) (hA : p ∈ A) (h0 : p ∉ A0) (H0p : H0 p = none) (hp : H p = some (.lst vs)) (il : IsL K (hide A H) vs2 ds2) :
    Sta K T dm A0 H0 A σ (upd H p (.lst vs2)) (env.set i (.own ds2)) k ∧ Tr A H A (upd H p (.lst vs2)) ∧ hide A (upd H p (.lst vs2)) = hide A H := by
  have hh : hide A (upd H p (.lst vs2)) = hide A H := hide_upd hA _
  have nd : ∀ a c, dm = some (a, c) → a ≠ p ∧ c ≠ p := fun a c e => ⟨fun z => h0 (z ▸ (S.dm0 a c e).1), fun z => h0 (z ▸ (S.dm0 a c e).2)⟩
  refine ⟨?_, ⟨fun b u e z n => by rw [upd_ne (fun q : b = p => n (by rw [q]; exact hA))]; exact e, fun b e => ?_, fun _ h => .inl h⟩, hh⟩
  · have hl : i < env.length := by
      cases hcmp : Nat.decLt i env.length with
      | isTrue h => exact h
      | isFalse h => rw [List.getElem?_eq_none (by omega)] at e1; cases e1
    refine ⟨⟨fun b hb => ?_, fun P hP => ?_, fun a c e => ?_⟩, ⟨fun b u e z n => ?_, fun b e => ?_⟩, S.sub, S.dom0, S.dm0, by rw [List.length_set]; exact S.len, fun j => ?_, fun a b q es fs g1 g2 g3 g4 => ?_⟩
    · by_cases e : b = p
      · rw [e, upd_same]; simp
      · rw [upd_ne e]; exact S.wd.dom b hb
    · obtain ⟨ps, e, t⟩ := S.wd.tab P hP
      exact ⟨ps, by rw [upd_ne fun z => by rw [z, hp] at e; cases e]; exact e, t⟩
    · obtain ⟨q1, q2, q3, q4, q5⟩ := S.wd.dk a c e
      obtain ⟨n1, n2⟩ := nd a c e
      exact ⟨q1, q2, q3, by rw [upd_ne n1]; exact q4, by rw [upd_ne n2]; exact q5⟩
    · rw [upd_ne fun q => by rw [q, H0p] at e; cases e]
      exact S.lt.keep b u e z n
    · by_cases q : b = p
      · rw [q, upd_same]; simp
      · rw [upd_ne q]; exact S.lt.dom b e
    · by_cases hj : j = i
      · subst hj
        rw [List.getElem?_set_self hl]
        exact ⟨p, vs2, hs, hA, h0, H0p, upd_same, by rw [hh]; exact il⟩
      · rw [List.getElem?_set_ne (Ne.symm hj)]
        have q := S.slot j
        cases e : env[j]? with
        | none => exact trivial
        | some z =>
          rw [e] at q
          cases z with
          | un => exact trivial
          | dat d' => obtain ⟨v, h1, h2⟩ := q; exact ⟨v, h1, by rw [hh]; exact h2⟩
          | deck => exact q
          | own es =>
            obtain ⟨p2, us, h1, h2, h3, h4, h5, h6⟩ := q
            have ne : p2 ≠ p := fun z => hj (S.uniq j i p es ds e e1 (z ▸ h1) hs)
            exact ⟨p2, us, h1, h2, h3, h4, by rw [upd_ne ne]; exact h5, by rw [hh]; exact h6⟩
          | scr ns => obtain ⟨a, h1, h2⟩ := q; exact ⟨a, h1, h2.new fun ob u z => by rw [hp] at z; cases z⟩
    · have back : ∀ (c : Nat) (gs : List D), (env.set i (Sl.own ds2))[c]? = some (Sl.own gs) → ∃ gs', env[c]? = some (Sl.own gs') := fun c gs hcs => by
        by_cases hci : c = i
        · rw [hci]; exact ⟨_, e1⟩
        · rw [List.getElem?_set_ne (Ne.symm hci)] at hcs; exact ⟨_, hcs⟩
      obtain ⟨_, b1⟩ := back a es g1
      obtain ⟨_, b2⟩ := back b fs g2
      exact S.uniq a b q _ _ b1 b2 g3 g4
  · by_cases q : b = p
    · rw [q, upd_same]; simp
    · rw [upd_ne q]; exact e
theorem IsL.put {H : Hp} {v : V} {d : D} (h : Is K H v d) : ∀ {vs : List V} {ds : List D} (j : Nat), IsL K H vs ds → IsL K H (vs.set j v) (ds.set j d)
  | _, _, _, .nil => .nil
  | _, _, 0, .cons _ t => .cons h t
  | _, _, j + 1, .cons a t => .cons a (IsL.put h j t)
/-- x[c] = e, c a literal -/
def setOwn (i : Nat) (c : Int) (d : D) (env : List Sl) : Option (List Sl) := match env[i]? with
  | some (.own ds) => (ixN ds.length c).map fun j => env.set i (.own (ds.set j d))
  | _ => none
theorem setOwn_ok {dm : Dm} {A0 : List Addr} {H0 : Hp} {A : List Addr} {σ : List (Option V)} {H : Hp} {env env' : List Sl} {k : Dk} {i : Nat} {c : Int} {d : D} {v : V} {Q : Hp → Prop} (S : Sta K T dm A0 H0 A σ H env k)
    (e : setOwn i c d env = some env') (iv : Is K (hide A H) v d) (hQ : ∀ H', Sta K T dm A0 H0 A σ H' env' k → Tr A H A H' → hide A H' = hide A H → Q H') :
    tVar i σ H fun o H1 => (tC (.int c)) σ H1 fun z H2 => rSetL o z v H2 Q := by
  unfold setOwn at e
  split at e
  · rename_i ds e1
    cases e2 : ixN ds.length c with
    | none => rw [e2] at e; cases e
    | some j =>
      rw [e2] at e
      cases e
      have q := S.slot i
      rw [e1] at q
      obtain ⟨p, vs, hs, hA, h0, H0p, hp, il⟩ := q
      obtain ⟨S2, t, hh⟩ := own_upd S e1 hs hA h0 H0p hp (il.put iv j)
      exact ⟨.ref p, hs, p, vs, c, j, rfl, rfl, hp, by rw [il.len]; exact e2, hQ _ S2 t hh⟩
  · cases e
def sSetC (i : Nat) (c : Int) (f : Fe) : Fs := fun env k => match f env k with
  | some (.dat d, k') => match setOwn i c d env with
    | some env' => .nx env' k'
    | none => .bad
  | _ => .bad
theorem ds_setC {i : Nat} {c : Int} (h1 : DE K T ta f) : DS K T (tAsg ta (gSub (tVar i) (tC (.int c)) rSetL)) (sSetC i c f) := by
  intro dm A0 H0 A σ H env k E S o
  unfold sSetC at o
  split at o
  · rename_i d k' e1
    split at o
    · rename_i env' e2
      refine h1 dm A0 H0 A σ H env k _ S _ k' e1 fun y H1 S1 l iy => ?_
      exact setOwn_ok S1 e2 iy fun H2 S2 t _ => o A _ _ S2 ((tr_of_lt S.wd l).trans t)
    · exact o.elim
  · exact o.elim
/-- x[a], y[b] = e, a and b literals -/
def sSetC2 (i : Nat) (a : Int) (j : Nat) (b : Int) (f : Fe) : Fs := fun env k => match f env k with
  | some (.dat (.tuple [d, e]), k') => match (setOwn i a d env).bind fun env1 => setOwn j b e env1 with
    | some env' => .nx env' k'
    | none => .bad
  | _ => .bad
theorem ds_setC2 {i j : Nat} {a b : Int} (h1 : DE K T ta f) : DS K T (tAsg ta (gTup K 2 (gCons (gSub (tVar i) (tC (.int a)) rSetL) (gCons (gSub (tVar j) (tC (.int b)) rSetL) L2.gNil)))) (sSetC2 i a j b f) := by
  intro dm A0 H0 A σ H env k E S o
  unfold sSetC2 at o
  split at o
  · rename_i d e k' e1
    split at o
    · rename_i env' e2
      obtain ⟨env1, e3, e4⟩ := Option.bind_eq_some_iff.mp e2
      refine h1 dm A0 H0 A σ H env k _ S _ k' e1 fun y H1 S1 l iy => ?_
      obtain ⟨p, vs, rfl, g1, g2, g3⟩ := is_tup iy (show asT (.dat (.tuple [d, e])) = some [d, e] from rfl)
      cases g3 with
      | cons i1 is =>
        cases is with
        | cons i2 is =>
          cases is
          refine ⟨p, _, rfl, g1, rfl, _, _, rfl, ?_⟩
          refine setOwn_ok S1 e3 i1 fun H2 S2 t2 hh => ?_
          refine ⟨_, _, rfl, ?_⟩
          refine setOwn_ok S2 e4 (by rw [hh]; exact i2) fun H3 S3 t3 _ => ?_
          exact ⟨rfl, o A _ _ S3 (((tr_of_lt S.wd l).trans t2).trans t3)⟩
    · exact o.elim
  · exact o.elim
end
end DL
set_option maxHeartbeats 4000000
namespace DL
open PySem PySem.Spec PyProof.Rows L2
section
variable {K : Fg} {T : List Addr} {ta tb : TE} {f g : Fe}
/-! ### x = [.. for ..], x a list of the def's own -/
theorem lc_core {wi : TI} {fi : Fw} {g : TG} {q : Fg'} {l : List Nat} {tt : TT} {c : Ft} {te : TE} {fe : Fe} {vs : List Nat} (h1 : DI K T wi fi) (h2 : DG K T g q l) (h3 : DT K T tt c) (h4 : DE K T te fe) (hl : ∀ j ∈ l, j ∈ vs) :
    ∀ dm A0 H0 A σ H env k (Q : VK) zs k', Sta K T dm A0 H0 A σ H env k → fLc fi q c fe vs env k = some (.dat (.list zs), k') →
      (∀ p H1 k1 ws H2, Sta K T dm A0 H0 A σ H1 env k1 → Lt dm H H1 → H1 p = none → Grow K T dm A0 H0 A (L2.wipe σ vs) H1 (wipeE env vs) p ws zs H2 k' → Q (.ref p) H2) → tLc wi g tt te vs σ H Q := by
  intro dm A0 H0 A σ H env k Q zs k' S hf hQ
  unfold fLc at hf
  cases e : fi env k with
  | none => rw [e] at hf; cases hf
  | some p =>
    obtain ⟨ds, k1⟩ := p
    rw [e] at hf
    simp only [Option.bind_some] at hf
    cases er : loopC q c fe (wipeE env vs) ds [] k1 with
    | none => rw [er] at hf; cases hf
    | some r =>
      rw [er] at hf
      cases hf
      refine h1 dm A0 H0 A σ H env k _ S ds k1 e fun J H1 S1 l1 w => ?_
      intro p hp
      have S1w := S1.wipe vs
      have p0 : p ∉ A0 := fun m => notA S1.wd hp (S1.sub p m)
      have hp0 := S1.h0new hp
      have no := S1w.noown hp
      have rp : Tr A H1 (p :: A) (upd H1 p (.lst [])) := ⟨fun b o q _ _ => by rw [upd_ne (ne_of_none q hp)]; exact q, fun b q => (Lt.new (dm := dm) hp).dom b q, fun b hb => by
        rcases List.mem_cons.mp hb with z | z
        · exact .inr (z ▸ hp)
        · exact .inl z⟩
      have trG : ∀ {H2 : Hp} {k2 : Dk} {ws : List V} {acc : List D}, Grow K T dm A0 H0 A (L2.wipe σ vs) H1 (wipeE env vs) p ws acc H2 k2 → Tr A H1 (p :: A) H2 := fun {H2 k2 ws acc} G =>
        ⟨fun b o q z n => (tr_of_lt S1.wd G.lt).keep b o q z n, G.lt.dom, fun b hb => by
          rcases List.mem_cons.mp hb with z | z
          · exact .inr (z ▸ hp)
          · exact .inl z⟩
      refine ⟨fun i m H2 => ∃ ws acc k2, Grow K T dm A0 H0 A (L2.wipe σ vs) H1 (wipeE env vs) p ws acc H2 k2 ∧ m = ds.length - i ∧ i ≤ ds.length ∧ loopC q c fe (wipeE env vs) (ds.drop i) acc k2 = some r,
        ⟨ds.length, [], [], k1, ⟨S1w.hid hp, Lt.new hp, upd_same, .nil⟩, rfl, Nat.zero_le _, er⟩, fun i m H2 ⟨ws, acc, k2, G, em, hi, el⟩ => ?_⟩
      by_cases hlt : i < ds.length
      · refine .inr ⟨w.go _ H2 (trG G) i ds[i] (List.getElem?_eq_getElem hlt), fun H3 => ∃ ws acc k2, Grow K T dm A0 H0 A (L2.wipe σ vs) H1 (wipeE env vs) p ws acc H3 k2 ∧ loopC q c fe (wipeE env vs) (ds.drop (i + 1)) acc k2 = some r,
          fun H3 ⟨ws, acc, k2, G, el⟩ => ⟨ds.length - (i + 1), by omega, ws, acc, k2, G, rfl, hlt, el⟩, fun x H3 y => ?_⟩
        obtain ⟨hH3, ix⟩ := w.yl _ H2 (trG G) G.sta.wd.dom i ds[i] (List.getElem?_eq_getElem hlt) x H3 y
        obtain ⟨S3, l3⟩ := G.sta.yield hH3
        rw [List.drop_eq_getElem_cons hlt] at el
        unfold loopC at el
        cases eq : q (.dat ds[i]) (wipeE env vs) with
        | none => rw [eq] at el; cases el
        | some e1 =>
          rw [eq] at el
          simp only [Option.bind_some] at el
          cases ec : c e1 k2 with
          | none => rw [ec] at el; cases el
          | some b =>
            obtain ⟨b, k3⟩ := b
            rw [ec] at el
            simp only [Option.bind_some] at el
            refine h2 dm A0 H0 _ _ H3 _ k2 x (.dat ds[i]) _ S3 ix e1 eq fun σ4 S4 cg => ⟨(wipe_eq cg hl).trans (wipe_eq (wipe_chg σ vs) fun _ h => h), ?_⟩
            refine h3 dm A0 H0 _ σ4 H3 e1 k2 _ S4 b k3 ec fun H4 S5 l4 => ?_
            have keepG : ∀ {H5 : Hp} {k5 : Dk} {σ5 : List (Option V)} {e5 : List Sl}, Sta K T dm A0 H0 (p :: A) σ5 H5 e5 k5 → Lt dm H2 H5 → Grow K T dm A0 H0 A (L2.wipe σ vs) H1 (wipeE env vs) p ws acc H5 k5 := fun {H5 k5 σ5 e5} S5 l5 =>
              ⟨G.sta.at S5.wd l5, G.lt.trans l5, l5.keep p _ G.at_ rfl fun a c z => ⟨fun q => p0 (q ▸ (S1.dm0 a c z).1), fun q => p0 (q ▸ (S1.dm0 a c z).2)⟩, IsL.kp (l5.kp G.sta.wd) G.il⟩
            cases b with
            | false =>
              simp only [Bool.false_eq_true, if_false] at el
              exact iteF ⟨ws, acc, k3, keepG S5 (l3.trans l4), el⟩
            | true =>
              simp only [if_true] at el
              refine iteT ?_
              cases ef : fe e1 k3 with
              | none => rw [ef] at el; cases el
              | some z =>
                obtain ⟨z, k4⟩ := z
                rw [ef] at el
                simp only [Option.bind_some] at el
                cases z with
                | dat d =>
                  simp only at el
                  by_cases hc : acc.length < 1000000
                  · rw [if_pos hc] at el
                    refine h4 dm A0 H0 _ σ4 H4 e1 k3 _ S5 (.dat d) k4 ef fun v H5 S6 l5 iv => ?_
                    have G5 := keepG S6 ((l3.trans l4).trans l5)
                    exact ⟨ws, G5.at_, Nat.lt_of_lt_of_le (by rw [G5.il.len]; exact hc) (by decide), _, _, k4, G5.more hp hp0 p0 no iv, el⟩
                  · rw [if_neg hc] at el; cases el
                | _ => cases el
      · have ei : i = ds.length := by omega
        subst ei
        rw [List.drop_length] at el
        cases el
        refine .inl ⟨w.st _ H2 (trG G) _ (Nat.le_refl _), ?_⟩
        exact hQ p H1 k1 ws H2 S1 l1 hp G
theorem Sta.own_at {dm : Dm} {A0 : List Addr} {H0 : Hp} {A : List Addr} {σ σ' : List (Option V)} {H1 H2 : Hp} {env env' : List Sl} {k1 k2 : Dk} {vs : List V} {ds : List D} {p : Addr} (S : Sta K T dm A0 H0 A σ H1 env k1) (i : Nat) (hp : H1 p = none)
    (G : Grow K T dm A0 H0 A σ' H1 env' p vs ds H2 k2) : Sta K T dm A0 H0 (p :: A) (σ.set i (some (.ref p))) H2 (env.set i (.own ds)) k2 ∧ Tr A H1 (p :: A) H2 := by
  have pA : p ∉ A := notA S.wd hp
  have p0 : p ∉ A0 := fun m => pA (S.sub p m)
  have H0p := S.h0new hp
  have noP := S.noown hp
  have kp : Kp (hide A H1) (hide (p :: A) H2) := fun b o h z => by
    obtain ⟨hb, h⟩ := hide_some h
    have ne : b ≠ p := fun e => by rw [e, hp] at h; cases h
    rw [hide_out (fun m => (List.mem_cons.mp m).elim ne hb)]
    refine G.lt.keep b o h z fun a c e => ?_
    obtain ⟨q1, q2⟩ := S.dm0 a c e
    exact ⟨fun w => hb (w ▸ S.sub a q1), fun w => hb (w ▸ S.sub c q2)⟩
  refine ⟨⟨G.sta.wd, S.lt.trans G.lt, fun b hb => List.mem_cons_of_mem _ (S.sub b hb), S.dom0, S.dm0, by rw [List.length_set, List.length_set]; exact S.len, fun j => ?_, fun a b q es fs h1 h2 h3 h4 => ?_⟩, ⟨fun b o e z n => (tr_of_lt S.wd G.lt).keep b o e z n, G.lt.dom, fun b hb => ?_⟩⟩
  · by_cases hj : j = i
    · subst hj
      by_cases hl : j < env.length
      · rw [List.getElem?_set_self (by rw [S.len]; exact hl), List.getElem?_set_self hl]
        exact ⟨p, vs, rfl, List.mem_cons_self, p0, H0p, G.at_, G.il⟩
      · rw [List.getElem?_eq_none (l := env.set j _) (by rw [List.length_set]; omega)]
        exact trivial
    · rw [List.getElem?_set_ne (Ne.symm hj), List.getElem?_set_ne (Ne.symm hj)]
      have q := S.slot j
      cases e : env[j]? with
      | none => exact trivial
      | some z =>
        rw [e] at q
        cases z with
        | un => exact trivial
        | dat d => obtain ⟨v, h1, h2⟩ := q; exact ⟨v, h1, Is.kp kp h2⟩
        | deck => exact q
        | own es =>
          obtain ⟨p', ws, h1, h2, h3, h4, h5, h6⟩ := q
          exact ⟨p', ws, h1, List.mem_cons_of_mem _ h2, h3, h4, G.lt.keep _ _ h5 rfl fun a c e => ⟨fun w => h3 (w ▸ (S.dm0 a c e).1), fun w => h3 (w ▸ (S.dm0 a c e).2)⟩, IsL.kp kp h6⟩
        | scr ns => obtain ⟨a, h1, h2⟩ := q; exact ⟨a, h1, h2.lt S.wd G.lt⟩
  · by_cases ha : a = i
    · by_cases hb : b = i
      · rw [ha, hb]
      · rw [List.getElem?_set_ne (Ne.symm hb)] at h2 h4
        have e : q = p := by
          rw [ha] at h1 h3
          by_cases hl : i < σ.length
          · rw [List.getElem?_set_self hl] at h3; cases h3; rfl
          · rw [List.getElem?_eq_none (by rw [List.length_set]; omega)] at h3; cases h3
        exact absurd (e ▸ h4) (noP b fs h2)
    · rw [List.getElem?_set_ne (Ne.symm ha)] at h1 h3
      by_cases hb : b = i
      · have e : q = p := by
          rw [hb] at h2 h4
          by_cases hl : i < σ.length
          · rw [List.getElem?_set_self hl] at h4; cases h4; rfl
          · rw [List.getElem?_eq_none (by rw [List.length_set]; omega)] at h4; cases h4
        exact absurd (e ▸ h3) (noP a es h1)
      · rw [List.getElem?_set_ne (Ne.symm hb)] at h2 h4
        exact S.uniq a b q es fs h1 h2 h3 h4
  · rcases List.mem_cons.mp hb with e | hb
    · exact .inr (e ▸ hp)
    · exact .inl hb
def sOwnLc (i : Nat) (fi : Fw) (q : Fg') (c : Ft) (f : Fe) (vs : List Nat) : Fs := fun env k => match fLc fi q c f vs env k with
  | some (.dat (.list ds), k') => .nx (env.set i (.own ds)) k'
  | _ => .bad
theorem ds_ownLc {i : Nat} {wi : TI} {fi : Fw} {g : TG} {q : Fg'} {l : List Nat} {tt : TT} {c : Ft} {te : TE} {fe : Fe} {vs : List Nat} (h1 : DI K T wi fi) (h2 : DG K T g q l) (h3 : DT K T tt c) (h4 : DE K T te fe) (hl : ∀ j ∈ l, j ∈ vs) :
    DS K T (tAsg (tLc wi g tt te vs) (gName i)) (sOwnLc i fi q c fe vs) := by
  intro dm A0 H0 A σ H env k E S o
  unfold sOwnLc at o
  split at o
  · rename_i ds k' e1
    refine lc_core h1 h2 h3 h4 hl dm A0 H0 A σ H env k _ ds k' S e1 fun p H1 k1 ws H2 S1 l1 hp G => ?_
    obtain ⟨S2, t⟩ := S1.own_at i hp G
    exact o _ _ _ S2 ((tr_of_lt S.wd l1).trans t)
  · exact o.elim
/-! ### x = xs * n, x a list of the def's own -/
def sOwnRep (i : Nat) (f g : Fe) : Fs := fun env k => match f env k with
  | some (a, k1) => match g env k1 with
    | some (b, k2) => match gRep a b with
      | some (.dat (.list ds)) => .nx (env.set i (.own ds)) k2
      | _ => .bad
    | none => .bad
  | none => .bad
theorem ds_ownRep {i : Nat} (h1 : DE K T ta f) (h2 : DE K T tb g) : DS K T (tAsg (tOp rRep ta tb) (gName i)) (sOwnRep i f g) := by
  intro dm A0 H0 A σ H env k E S o
  unfold sOwnRep at o
  split at o
  · rename_i a k1 e1
    split at o
    · rename_i b k2 e2
      split at o
      · rename_i ds e3
        refine h1 dm A0 H0 A σ H env k _ S a k1 e1 fun x H1 S1 l1 i1 => ?_
        refine h2 dm A0 H0 A σ H1 env k1 _ S1 b k2 e2 fun y H2 S2 l2 i2 => ?_
        unfold gRep at e3
        cases e4 : asL a with
        | none => rw [e4] at e3; cases e3
        | some es =>
          rw [e4] at e3
          cases b with
          | dat d =>
            cases d with
            | int n =>
              simp only at e3
              by_cases hc : -1000 ≤ n ∧ n ≤ 1000 ∧ es.length ≤ 1000
              · rw [if_pos hc] at e3
                cases e3
                obtain ⟨p, vs, rfl, h3, h4⟩ := is_lst (i1.lt S1.wd l2) e4
                rw [is_int i2]
                refine ⟨p, n, vs, rfl, rfl, h3, by omega, by omega, ?_, fun q hq => ?_⟩
                · rw [h4.len]
                  have h5 : es.length * n.toNat ≤ 1000 * 1000 := Nat.mul_le_mul hc.2.2 (by omega)
                  exact Nat.le_trans h5 (by decide)
                · obtain ⟨S3, t⟩ := S2.own i hq (isl_rep h4 n.toNat)
                  exact o _ _ _ S3 ((tr_of_lt S.wd (l1.trans l2)).trans t)
              · rw [if_neg hc] at e3; cases e3
            | _ => cases e3
          | _ => cases e3
      · exact o.elim
    · exact o.elim
  · exact o.elim
/-! ### an own list that is changed no more -/
theorem Sta.frz {dm : Dm} {A0 : List Addr} {H0 : Hp} {A : List Addr} {σ : List (Option V)} {H : Hp} {env : List Sl} {k : Dk} {i : Nat} {ds : List D} (S : Sta K T dm A0 H0 A σ H env k) (e1 : env[i]? = some (.own ds)) :
    ∃ A', Sta K T dm A0 H0 A' σ H (env.set i (.dat (.list ds))) k ∧ Tr A H A' H := by
  have q := S.slot i
  rw [e1] at q
  obtain ⟨p, vs, hs, hA, h0, H0p, hp, il⟩ := q
  have sb : ∀ b ∈ A.filter (fun b => decide (b ≠ p)), b ∈ A := fun b hb => (List.mem_filter.mp hb).1
  have inn : ∀ b, b ∈ A → b ≠ p → b ∈ A.filter (fun b => decide (b ≠ p)) := fun b hb n => List.mem_filter.mpr ⟨hb, decide_eq_true n⟩
  have pn : p ∉ A.filter (fun b => decide (b ≠ p)) := fun hb => (of_decide_eq_true (List.mem_filter.mp hb).2) rfl
  have kp : Kp (hide A H) (hide (A.filter (fun b => decide (b ≠ p))) H) := hide_mono sb
  have hl : i < env.length := by
    cases hcmp : Nat.decLt i env.length with
    | isTrue h => exact h
    | isFalse h => rw [List.getElem?_eq_none (by omega)] at e1; cases e1
  refine ⟨A.filter (fun b => decide (b ≠ p)), ⟨⟨fun b hb => S.wd.dom b (sb b hb), S.wd.tab, fun a c e => ?_⟩, S.lt, fun b hb => inn b (S.sub b hb) fun z => h0 (z ▸ hb), S.dom0, S.dm0, by rw [List.length_set]; exact S.len, fun j => ?_, fun a b q es fs h1 h2 h3 h4 => ?_⟩,
    ⟨fun b o e _ _ => e, fun b e => e, fun b hb => .inl (sb b hb)⟩⟩
  · obtain ⟨q1, q2, q3⟩ := S.wd.dk a c e
    obtain ⟨d1, d2⟩ := S.dm0 a c e
    exact ⟨inn a q1 fun z => h0 (z ▸ d1), inn c q2 fun z => h0 (z ▸ d2), q3⟩
  · by_cases hj : j = i
    · subst hj
      rw [List.getElem?_set_self hl]
      exact ⟨.ref p, hs, Is.lst (by rw [hide_out pn]; exact hp) (IsL.kp kp il)⟩
    · rw [List.getElem?_set_ne (Ne.symm hj)]
      have q := S.slot j
      cases e : env[j]? with
      | none => exact trivial
      | some z =>
        rw [e] at q
        cases z with
        | un => exact trivial
        | dat d => obtain ⟨v, h1, h2⟩ := q; exact ⟨v, h1, Is.kp kp h2⟩
        | deck => exact q
        | own es =>
          obtain ⟨p', ws, h1, h2, h3, h4, h5, h6⟩ := q
          have ne : p' ≠ p := fun z => hj (S.uniq j i p es ds e e1 (z ▸ h1) hs)
          exact ⟨p', ws, h1, inn p' h2 ne, h3, h4, h5, IsL.kp kp h6⟩
        | scr ns => exact q
  · have back : ∀ (c : Nat) (gs : List D), (env.set i (Sl.dat (.list ds)))[c]? = some (Sl.own gs) → env[c]? = some (Sl.own gs) := fun c gs hcs => by
      by_cases hci : c = i
      · rw [hci, List.getElem?_set_self hl] at hcs; cases hcs
      · rw [List.getElem?_set_ne (Ne.symm hci)] at hcs; exact hcs
    exact S.uniq a b q es fs (back a es h1) (back b fs h2) h3 h4
def sFrz (i : Nat) (g : Fs) : Fs := fun env k => match env[i]? with
  | some (.own ds) => g (env.set i (.dat (.list ds))) k
  | _ => g env k
theorem ds_frz {i : Nat} {t : TS} {g : Fs} (h : DS K T t g) : DS K T t (sFrz i g) := by
  intro dm A0 H0 A σ H env k E S o
  unfold sFrz at o
  split at o
  · rename_i ds e1
    obtain ⟨A', S', t⟩ := S.frz e1
    exact h dm A0 H0 A' σ H _ k E S' (o.later t)
  · exact h dm A0 H0 A σ H env k E S o
end
/-! ### a def called by keywords in another order -/
structure Cks (P : Program) (w : World) (K : Fg) (mg : Str → Option Value) (base : Heap) (k : Nat) (x : Str) (ps ks : List Str) (g : List Value → List Value) (gV : List V → List V) (sp : Sp) : Prop where
  ex : ∃ (f : Addr) (fd : FuncData), FnG P w K mg base CX0 k f fd ps sp ∧ mg x = some (.ref f) ∧ PySem.W.keepIn K (.ref f) = true ∧ KB K fd ps ks g gV
theorem pe_callKCs {X : Cx} {k j : Nat} {x : Str} {ps ks : List Str} {g : List Value → List Value} {gV : List V → List V} {sp : Sp} {p pos : Pos} {kws : List Keyword} {tk : TA} (C : Cks X.prog X.w X.K X.mg X.base k x ps ks g gV sp) (hgd : X.A.guards = some []) (hr : Room j X.A) (hk : k ≤ j) (hkw : PK X kws tk) (hg : Gl X x := by rfl)
    (hall : (backToKw pos (keywordEach kws X.env)).all (·.1.isSome) = true := by rfl) (hks : (backToKw pos (keywordEach kws X.env)).filterMap (·.1) = ks := by rfl)
    (hdb : (x == ("__debug__" : Str)) = false := by decide) (hpl : ((backTo pos (starEach [] X.env)).any (·.1) || (backToKw pos (keywordEach kws X.env)).any (·.1.isNone)) = false := by rfl) :
    PE X (.Call (.Name x p) [] kws pos) (tCallKw sp gV noX tk) := by
  obtain ⟨f, fd, F, hm, hkp, hb⟩ := C.ex
  exact pe_callGK F hgd (hr.mono hk) hg hm hkp hb pass0 hkw hall hks hdb hpl
/-! ### is True, is False -/
section
variable {K : Fg} {T : List Addr} {ta tb : TE} {f g : Fe}
def gIsBl : Sl → Sl → Option Sl := fun a b => match a, b with
  | .dat (.bool x), .dat (.bool y) => some (.dat (.bool (decide (x = y))))
  | _, _ => none
theorem de_isBl (h1 : DE K T ta f) (h2 : DE K T tb g) : DE K T (tOp rIsB ta tb) (f2 gIsBl f g) := de_bin h1 h2 (by
  intro dm A0 H0 A σ H env k x y a b s Q S i1 i2 e hQ
  unfold gIsBl at e
  split at e
  · cases e
    cases (show Is K (hide A H) x _ from i1)
    cases (show Is K (hide A H) y _ from i2)
    exact ⟨_, _, rfl, rfl, hQ _ H S (Lt.refl _ _) (Is.bl _)⟩
  · cases e)
end
/-! ### powers of wide bases -/
def CPowX (i j : Int) : Prop := 0 ≤ j ∧ j ≤ 100 ∧ i.natAbs.log2 < 1000
theorem op_powX {X : Cx} : OpR X (binaryOp .Pow) (rI CPowX fun i j => .int (i ^ j.toNat)) := opI fun i j _ _ _ _ _ hc q => pow_int hc.1 (by
  obtain ⟨h0, h1, h2⟩ := hc
  have b : Builtin.Int.intBits i ≤ 1000 := by
    unfold Builtin.Int.intBits
    split <;> omega
  have : (Builtin.Int.intBits i : Int) * j ≤ 1000 * 100 := Int.mul_le_mul (by omega) h1 h0 (by decide)
  omega) q
def cPowX (i j : Int) : Bool := decide (0 ≤ j) && decide (j ≤ 100) && decide (i.natAbs.log2 < 1000)
section
variable {K : Fg} {T : List Addr} {ta tb : TE} {f g : Fe}
def fPowX : Fe → Fe → Fe := f2 (gII cPowX fun i j => .int (i ^ j.toNat))
theorem de_powX (h1 : DE K T ta f) (h2 : DE K T tb g) : DE K T (tOp (rI CPowX fun i j => .int (i ^ j.toNat)) ta tb) (fPowX f g) := de_ii h1 h2 (fun i j H Q c q => ⟨i, j, rfl, rfl, by
  unfold cPowX at c
  simp only [Bool.and_eq_true, decide_eq_true_eq] at c
  exact ⟨c.1.1, c.1.2, c.2⟩, q⟩) fun _ _ _ => .int _
end
end DL
set_option maxHeartbeats 4000000
/-! ### a generator's turns, indexed by what is out so far -/
namespace GX
open PySem PySem.Spec PyProof.Rows L2 GenW
open Sem (wp)
section
variable {ι : Type}
abbrev RA (ι : Type) := ι → Result → Shared → Prop
abbrev YA (ι : Type) := ι → Value → Shared → (ι → Resume → Shared → Prop) → Prop
def SEndA (R : RA ι) (Y : YA ι) (go : ι → Code → Sem PySem.Fin → List Frame → Shared → Prop) (x : ι) (e : End) (s' : Shared) : Prop :=
  match e with
  | .ret r => R x r s'
  | .susp v g l k c p fs => (End.susp v g l k c p fs).quiet = true ∧ Y x v s' fun x' r s'' => go x' c (k r) fs s''
def SegA (M : Model) (A : Around) (R : RA ι) (Y : YA ι) : Nat → ι → Code → Sem PySem.Fin → List Frame → Shared → Prop
  | 0 => fun x c t fs s => ∀ Γ p, Γ.code = c → Γ.Woken A → ∃ e s', Runs M Γ p t fs s e s' ∧ SEndA R Y (fun _ _ _ _ _ => False) x e s'
  | n + 1 => fun x c t fs s => ∀ Γ p, Γ.code = c → Γ.Woken A → ∃ e s', Runs M Γ p t fs s e s' ∧ SEndA R Y (fun x' c' t' fs' s'' => SegA M A R Y n x' c' t' fs' s'') x e s'
def SegA.next (M : Model) (A : Around) (R : RA ι) (Y : YA ι) : Nat → ι → Code → Sem PySem.Fin → List Frame → Shared → Prop
  | 0 => fun _ _ _ _ _ => False
  | n + 1 => fun x c t fs s => SegA M A R Y n x c t fs s
variable {M : Model} {A : Around} {R : RA ι} {Y : YA ι} {n : Nat} {x : ι} {c : Code} {fs : List Frame} {s : Shared}
theorem sega_iff {t : Sem PySem.Fin} : SegA M A R Y n x c t fs s ↔ ∀ Γ p, Γ.code = c → Γ.Woken A → ∃ e s', Runs M Γ p t fs s e s' ∧ SEndA R Y (SegA.next M A R Y n) x e s' := by
  cases n <;> rfl
theorem sega_wrap {α : Type} {m : Sem α} {K : α → Sem PySem.Fin} {H : Value → Sem PySem.Fin} {gd : Bool → Bool} {lv : List Value → List Value}
    (h : wpAny M (A.over c fs) m (fun a s' => SegA M A R Y n x c (K a) fs s') (fun e s' => SegA M A R Y n x c (H e) fs s') s) : SegA M A R Y n x c (m.wrap K H gd lv) fs s := by
  rw [sega_iff]
  rintro Γ p rfl hΓ
  exact runs_wrap_of_wp K H gd lv m (h (Γ.over fs) p (hΓ.over fs)) (fun a p' s' h' => sega_iff.mp h' Γ p' rfl hΓ) (fun e p' s' h' => sega_iff.mp h' Γ p' rfl hΓ)
theorem sega_bind_wrap {α β : Type} {m : Sem α} {f : α → Sem β} {K : β → Sem PySem.Fin} {H : Value → Sem PySem.Fin} {gd : Bool → Bool} {lv : List Value → List Value}
    (h : wpAny M (A.over c fs) m (fun a s' => SegA M A R Y n x c ((f a).wrap K H gd lv) fs s') (fun e s' => SegA M A R Y n x c (H e) fs s') s) : SegA M A R Y n x c ((m >>= f).wrap K H gd lv) fs s := by
  rw [Sem.bind_eq_wrap', Sem.wrap_wrap]; exact sega_wrap h
theorem sega_at {p' : Pos} {k : Unit → Sem PySem.Fin} (h : SegA M A R Y n x c (k ()) fs s) : SegA M A R Y n x c (.at p' k) fs s :=
  sega_wrap (m := standAt p') (K := k) (H := .raise) (gd := id) (lv := id) (wpAny_standAt h)
theorem sega_again {c' : Code} (hq : c'.quiet = true) (hc : SegA M A R Y n x c' (M.den c') fs s) : SegA M A R Y n x c (.pure (.again c')) fs s := by
  rw [sega_iff]
  rintro Γ p rfl hΓ
  obtain ⟨e, s', hr, he⟩ := sega_iff.mp hc (Γ.goto c') p rfl (hΓ.goto c')
  exact ⟨e, s', Runs.head (c₁ := c') (fun _ _ z => .again hq z) hr, he⟩
theorem sega_end (r : Result) (h : R x r s) : SegA M A R Y n x c (leafOf r) [] s := by
  rw [sega_iff]
  rintro Γ p rfl _
  exact ⟨.ret r, s, Runs.leaf r, h⟩
theorem sega_yield {v : Value} {g : Bool} {l : List Value} {k : Resume → Sem PySem.Fin} (hfs : splitAtGen fs = none) (hg : g = false) (hfg : fs.any Frame.guarded = false)
    (h : Y x v s fun x' r s'' => SegA M A R Y n x' c (k r) fs s'') : SegA M A R Y (n + 1) x c (.yield v g l k) fs s := by
  rintro Γ p rfl _
  exact ⟨_, s, Runs.yield' fs hfs, And.intro (by simp [End.quiet, hg, hfg]) h⟩
def GoesA (M : Model) (A : Around) (R : RA ι) (Y : YA ι) (n : Nat) (x : ι) (gs : GenState) (r : Resume) (s : Shared) : Prop :=
  match gs with
  | .fresh c => r = .send .none ∧ SegA M A R Y n x c (M.den c) [] s
  | .suspended k _ c _ fs _ => SegA M A R Y n x c (k r) fs s
  | _ => False
theorem wpAny_resumeA {E : Value → Shared → Prop} {g : Nat} {gs : GenState} {r : Resume} {l : List Value} {α : Type} {k : GenResult → Sem α} {Q : α → Shared → Prop} (hg : s.gens[g]? = some gs)
    (hgo : GoesA M A R Y n x gs r (s.setGen g .running))
    (hR : ∀ y s₁, s.gens.size ≤ s₁.gens.size → R x y s₁ → wpAny M A (k (End.ret y).result) Q E (s₁.setGen g .finished))
    (hY : ∀ v s₁ gs', gs'.bare = true → s.gens.size ≤ s₁.gens.size → Y x v s₁ (fun x' r' s'' => match n with | 0 => False | m + 1 => GoesA M A R Y m x' gs' r' s'') → wpAny M A (k (.yielded v)) Q E (s₁.setGen g gs')) :
    wpAny M A (.resume g r l k) Q E s := by
  intro Γ p hΓ
  rw [Sem.wp_resume]
  have hB : ∀ c, (Γ.wake c p).Woken A := fun c => hΓ.wake c p
  have sz : ∀ {c : Code} {p' : Pos} {t : Sem PySem.Fin} {fs : List Frame} {e : End} {s₁ : Shared}, Runs M (Γ.wake c p) p' t fs (s.setGen g .running) e s₁ → s.gens.size ≤ s₁.gens.size := fun hr => by
    have := runs_gsz hr
    rw [setGen_size] at this
    exact this
  have fin : ∀ e₁ s₁, s.gens.size ≤ s₁.gens.size → SEndA R Y (SegA.next M A R Y n) x e₁ s₁ →
      wp M Γ (k e₁.result) (fun a _ s' => Q a s') (fun e _ s' => E e s') p (s₁.setGen g e₁.genState) := by
    intro e₁ s₁ hz he
    cases e₁ with
    | ret y => exact hR y s₁ hz he Γ p hΓ
    | susp v g₀ l₀ k₀ c₀ p₀ fs₀ =>
      refine hY v s₁ _ (End.bare_of_quiet he.1) hz ?_ Γ p hΓ
      cases n with
      | zero => exact he.2
      | succ m => exact he.2
  have hqt : ∀ e₁ s₁, SEndA R Y (SegA.next M A R Y n) x e₁ s₁ → e₁.quiet = true := by
    intro e₁ s₁ he
    cases e₁ with
    | ret y => rfl
    | susp v g₀ l₀ k₀ c₀ p₀ fs₀ => exact he.1
  cases gs with
  | fresh c =>
    obtain ⟨rfl, hs⟩ := hgo
    obtain ⟨e₁, s₁, hr, he⟩ := sega_iff.mp hs (Γ.wake c p) p rfl (hB c)
    exact ⟨_, _, by unfold Wakes; rw [hg]; exact ⟨e₁, s₁, hr, hqt e₁ s₁ he, rfl, rfl⟩, fin e₁ s₁ (sz hr) he⟩
  | suspended k₀ l₀ c₀ p₀ fs₀ cl =>
    obtain ⟨e₁, s₁, hr, he⟩ := sega_iff.mp hgo (Γ.wake c₀ p) p₀ rfl (hB c₀)
    exact ⟨_, _, by unfold Wakes; rw [hg]; exact ⟨e₁, s₁, hr, hqt e₁ s₁ he, rfl, rfl⟩, fin e₁ s₁ (sz hr) he⟩
  | running => exact hgo.elim
  | finished => exact hgo.elim
end
section
variable {ι : Type} {prog : Program} {w : World} {A : Around} {E : Value → Shared → Prop} {s : Shared}
theorem next_goes {a : Addr} {g n : Nat} {gs : GenState} {x : ι} {F : ι → Shared → Prop} {Y : YA ι} {Q : Option Value → Shared → Prop} (hh : A.handled = none)
    (hl : s.heap.NoLimit) (hroom : A.depth < recursionLimit) (hg : s.heap.IsGen a g) (hgs : s.gens[g]? = some gs)
    (hgo : GoesA (model prog w) A.in1 (fun x r s₁ => r = .ok .next ∧ F x s₁) Y n x gs (.send .none) (s.setGen g .running))
    (hY : ∀ v s₁ gs', gs'.bare = true → s.gens.size ≤ s₁.gens.size → Y x v s₁ (fun x' r' s'' => match n with
        | 0 => False
        | m + 1 => GoesA (model prog w) A.in1 (fun x r s₁ => r = .ok .next ∧ F x s₁) Y m x' gs' r' s'') → Q (some v) (s₁.setGen g gs'))
    (hP : ∀ s₁, F x s₁ → ∀ h', (∀ b o, s₁.heap.get? b = some o → h'.get? b = some o) → Q none { s₁.setGen g .finished with heap := h' }) :
    wpAny (model prog w) A (pyNext (.ref a)) Q E s := by
  unfold pyNext
  refine wpAny_bind (wpAny_attempt (wpAny_callSpecial?_slot (name := Str.ofString "__next__") hg.typeIs slot_gen_next
    (wpAny_call_entry slot_gen_next hg.typeIs entry_gen_next ?_ (args_gen_next _))))
  show wpAny _ A.in1 (Builtin.Generator.genWake (.ref a) (.send .none)) _ _ s
  unfold Builtin.Generator.genWake
  refine wpAny_bind (wpAny_holding (wpAny_genNumber hg (wpAny_bind (wpAny_genState hgs ?_))))
  cases gs with
  | running => exact hgo.elim
  | finished => exact hgo.elim
  | _ =>
    refine wpAny_bind (wpAny_roomToWake hl hroom ?_)
    show wpAny _ A.in1 (.resume g (.send .none) [] _) _ _ s
    refine wpAny_resumeA hgs hgo (fun y s₁ hz hx => ?_) (fun v s₁ gs' hb hz hv => ?_)
    · obtain ⟨rfl, hp⟩ := hx
      show wpAny _ A.in1 (newExc (.type "StopIteration") [] >>= _) _ _ _
      refine wpAny_bind ?_
      simp only [newExc, newTuple]
      refine wpAny_bind (wpAny_newObj_type ?_ (by size_fits))
      refine wpAny_bind (m := firstArgMember _ _) (wpAny_of_eq (a := Value.none) (by first | rfl | (simp only [firstArgMember]; rfl)) ?_)
      refine wpAny_newObj_type ?_ (by size_fits)
      simp only [raiseNew]
      refine wpAny_bind (wpAny_bind (wpAny_handled ?_))
      first | rw [show A.in1.handled = none from hh] | rw [hh]
      refine wpAny_throw ?_
      refine wpAny_bind (wpAny_isInstance (T := "StopIteration") (b := true) ⟨_, Heap.get?_push_size _ rfl, rfl⟩ isSubtype_stop ?_)
      exact wpAny_pure (hP s₁ hp _ fun b o hb => Heap.get?_push_of_some _ (Heap.get?_push_of_some _ hb))
    · exact wpAny_pure ⟨v, rfl, wpAny_pure (hY v s₁ gs' hb hz hv)⟩
end
end GX
set_option maxHeartbeats 4000000
/-! ### the frame of a generator expression as a context -/
namespace GX
open PySem PySem.Spec PyProof.Rows L2 GenW
open Sem (wp)
abbrev gEnv (X : Cx) (scope : Scope) (C : Addr) (cd : Value) : Env := genEnv scope (cloFrom X.env.cells scope.names []) C cd builtinsNs X.env
abbrev genCx (X : Cx) (A' : Around) (s : Shared) (H : Hp) (scope : Scope) (C : Addr) (cd : Value) (fp : List Addr) : Cx :=
  { X with A := A'.deeper (gEnv X scope C cd), s_0 := s, H_0 := H, env := gEnv X scope C cd, outer := X.stack, stack := gEnv X scope C cd :: X.stack, ex := fp, fn := fun _ => false, calm := true, pn := [], xe := fun _ _ => False }
section
variable {X : Cx} {pins : List (Addr × Obj)} {σ : L2.St} {H : Hp} {s : Shared}
theorem gen_start {A' : Around} {scope : Scope} {own : List (Str × Nat)} {cd : Value} {fp : List Addr} {h6 : Heap} {g6 : Array GenState} {d6 : Drawn} {t6 : Nat} {m0 : Str → Option Value} (I : Inv X pins σ H s) (ok : BlkOk X.N X.env.scope scope own) (nocell : ∀ y ∈ scope.names, y.2 ≠ .cell) (hN : X.N.Nodup)
    (hA : A'.handled = none) (hF : A'.frames = some X.stack) (hfp : ∀ b ∈ fp, FpOk X pins H b ∧ b < s.heap.objs.size) (hns : h6.Ns s.heap.objs.size m0) (kp : ∀ b o, s.heap.get? b = some o → h6.get? b = some o) (hb : AllBare g6) :
    Inv (genCx X A' s H scope s.heap.objs.size cd fp) [] (wipe σ (own.map (·.2))) H { s with heap := h6, gens := g6, drawn := d6, toks := t6 } := by
  have hfree : ∀ y ∈ scope.names, y.2 = .free → ∃ c, X.env.cells.lookup y.1 = some c := fun y hy e => by
    rcases ok.free y hy e with k | k
    · exact I.ok.has _ (.inl k)
    · exact I.ok.has _ (.inr k)
  have e0 := I.env0
  have cm : ∀ {y c}, (cloFrom X.env.cells scope.names []).lookup y = some c → X.env.cells.lookup y = some c := fun {y c} e => by
    rcases cloFrom_mem (PySem.mem_of_lookup e) with hm | ⟨h1, h2⟩
    · cases hm
    · obtain ⟨c1, hc⟩ := hfree _ h1 rfl
      have hc : X.env.cells.lookup y = some c1 := hc
      have e2 : c = c1 := by
        rw [h2, hc] <;> rfl
      rw [e2]
      exact hc
  have look : ∀ {y}, scope.names.lookup y = some .free → ∃ c, (cloFrom X.env.cells scope.names []).lookup y = some c := fun {y} hl => by
    have hy : (y, NameKind.free) ∈ scope.names := PySem.mem_of_lookup hl
    exact mem_lookup (cloFrom_has (cells := X.env.cells) (acc := []) hy)
  have cl : ∀ {y c}, X.env.cells.lookup y = some c → c < s.heap.objs.size := fun {y c} e => by
    obtain ⟨w, z⟩ := I.cell _ _ e
    exact z.lt
  have okB : (genCx X A' s H scope s.heap.objs.size cd fp).Ok := by
    refine ⟨I.ok.mod, ok.kind, I.ok.glob, rfl, Nat.le_refl _, fun y z c e1 e2 => I.ok.inj y z c (cm e1) (cm e2), fun y hy => ?_, fun y c z _ => ?_, fun _ => hA, Around.frames_deeper hF, .inr ⟨rfl, rfl⟩, fun b hb => ⟨?_, fun y c e z => ?_⟩, e0.bs, e0.bsz, fun b o e hb => ?_, fun b hb z => ?_, e0.funs, e0.frf⟩
    · have hy : scope.names.lookup y = some .cell ∨ scope.names.lookup y = some .free := hy
      rcases hy with hy | hy
      · exact absurd rfl (nocell _ (PySem.mem_of_lookup hy))
      · exact look hy
    · have z : false = true := z
      cases z
    · show b ≠ s.heap.objs.size
      exact Nat.ne_of_lt (hfp b hb).2
    · exact (hfp b hb).1.2.2.2.2.1 y c (cm e) z
    · rcases (hfp b hb).1.2.2.2.1 with z | z
      · exact I.ok.noex b o e z
      · exact absurd (Nat.lt_of_lt_of_le (Heap.lt_size e) (Nat.le_trans I.ok.bsz z)) (Nat.lt_irrefl _)
    · rcases List.mem_cons.mp (I.stkSub b z) with z | z
      · exact (hfp b hb).1.2.1 z
      · exact (hfp b hb).1.2.2.1 z
  refine ⟨okB, rfl, hb, Un.kept kp, ⟨_, hns, fun i y av e1 e2 e3 => ?_⟩, fun y c e => ?_, I.hok.fresh (Nat.le_refl _), fun y c e => ?_, fun p hp => absurd (show p ∈ ([] : List (Addr × Obj)) ++ [] from hp) (by simp), I.hok.kept kp, by rw [wipe_length]; exact I.len⟩
  · obtain ⟨e2, hne⟩ := wipe_some e2
    have e3 : Vis scope y := e3
    have hfr : scope.names.lookup y = some .free := by
      have no : ∀ {k' : NameKind}, scope.names.lookup y = some k' → ¬ (k' = .local ∨ k' = .cell) := fun {k'} e hh => by
        rcases ok.own _ (PySem.mem_of_lookup e) hh with e' | e'
        · obtain ⟨p, hp, hpy⟩ := List.mem_map.mp e'
          have e4 := ok.ix p hp
          have : p.1 = y := hpy
          rw [this] at e4
          exact hne (List.mem_map.mpr ⟨p, hp, nodup_ix hN e4 e1⟩)
        · exact e' (List.mem_of_getElem? e1)
      rcases e3 with k | k | k
      · exact absurd (.inl rfl) (no k)
      · exact absurd (.inr rfl) (no k)
      · exact k
    obtain ⟨m, hn, hl⟩ := I.loc
    have hvis : Vis X.env.scope y := (ok.free _ (PySem.mem_of_lookup hfr) rfl).elim (fun k => .inr (.inl k)) (fun k => .inr (.inr k))
    obtain ⟨w', r, q⟩ := hl i y av e1 e2 hvis
    obtain ⟨c2, h2⟩ := look hfr
    refine ⟨w', r, .inr ⟨.inr hfr, c2, h2, ?_⟩⟩
    have c1 := cm h2
    rcases q with ⟨k', _⟩ | ⟨_, c3, e', z⟩
    · have k' : X.env.scope.names.lookup y = some .local := k'
      rcases ok.free _ (PySem.mem_of_lookup hfr) rfl with k2 | k2 <;> rw [show X.env.scope.names.lookup y = _ from k2] at k' <;> cases k'
    · rw [c1] at e'
      cases e'
      exact z.keeps kp
  · obtain ⟨w', z⟩ := I.cell y c (cm e)
    exact ⟨w', z.keeps kp⟩
  · exact I.freeC y c (cm e)
/-- other generators' states -/
theorem inv_gens {G : Array GenState} (I : Inv X pins σ H s) (hG : AllBare G) : Inv X pins σ H { s with gens := G } := ⟨I.ok, I.os, hG, I.base, I.loc, I.cell, I.free, I.freeC, I.pin, I.hok, I.len⟩
/-! ### at rest -/
/-- while the generator sleeps its consumer may write at S; all else is kept -/
structure Sl (S a : Addr) (s s' : Shared) (oS : Obj) : Prop where
  os : s'.os = s.os
  bare : AllBare s'.gens
  keep : ∀ b o, b ≠ S ∨ b = a → s.heap.get? b = some o → s'.heap.get? b = some o
  own : s'.heap.get? S = some oS
  nc : ∀ v, oS.data ≠ .cell v
abbrev Ix := List V × Obj
def RF (X : Cx) (pins : List (Addr × Obj)) (σ : L2.St) (S : Addr) (sQ : List V → Hp → Prop) (x : Ix) (s : Shared) : Prop := ∃ H, Inv X pins σ H s ∧ H S = none ∧ s.heap.get? S = some x.2 ∧ sQ x.1 H
def YF (X : Cx) (pins : List (Addr × Obj)) (σ : L2.St) (a : Addr) (g : Nat) (S : Addr) (yQ : List V → V → Hp → Prop → Prop) : YA Ix := fun x v s kap =>
  ∃ y H, RelV y v ∧ Inv X pins σ H s ∧ H S = none ∧ S ≠ cStatics ∧ s.heap.IsGen a g ∧ s.heap.get? S = some x.2 ∧ (∀ v, x.2.data ≠ .cell v) ∧ yQ x.1 y H (∀ oS s', Sl S a s s' oS → kap (x.1 ++ [y], oS) (.send .none) s')
def Rest (X : Cx) (pins : List (Addr × Obj)) (σ : L2.St) (A' : Around) (a : Addr) (g : Nat) (S : Addr) (sQ : List V → Hp → Prop) (yQ : List V → V → Hp → Prop → Prop) (n : Nat) (x : Ix) (s : Shared) : Prop :=
  s.heap.IsGen a g ∧ s.heap.NoLimit ∧ AllBare s.gens ∧ ∃ gs, s.gens[g]? = some gs ∧ GoesA (model X.prog X.w) A'.in1 (fun x r s₁ => r = .ok .next ∧ RF X pins σ S sQ x s₁) (YF X pins σ a g S yQ) n x gs (.send .none) (s.setGen g .running)
/-- the next item: one more step, or the end -/
theorem next_rest {A' : Around} {a : Addr} {g : Nat} {S : Addr} {sQ : List V → Hp → Prop} {yQ : List V → V → Hp → Prop → Prop} {n : Nat} {x : Ix} {Q : Option Value → Shared → Prop} {E : Value → Shared → Prop}
    (mono : ∀ acc y H P P', (P → P') → yQ acc y H P → yQ acc y H P') (hh : A'.handled = none) (hroom : A'.depth < recursionLimit) (h : Rest X pins σ A' a g S sQ yQ n x s)
    (hn : ∀ s' H', Inv X pins σ H' s' → H' S = none → s'.heap.get? S = some x.2 → sQ x.1 H' → Q none s')
    (hy : ∀ v s' y H', RelV y v → Inv X pins σ H' s' → H' S = none → s'.heap.get? S = some x.2 → yQ x.1 y H' (∃ m, n = m + 1 ∧ ∀ oS s'', Sl S a s' s'' oS → s''.gens = s'.gens → Rest X pins σ A' a g S sQ yQ m (x.1 ++ [y], oS) s'') → Q (some v) s') :
    wpAny (model X.prog X.w) A' (pyNext (.ref a)) Q E s := by
  obtain ⟨hg, hl, hb, gs, hgs, hgo⟩ := h
  have hlt : g < s.gens.size := by
    rcases Nat.lt_or_ge g s.gens.size with h' | h'
    · exact h'
    · rw [Array.getElem?_eq_none h'] at hgs; cases hgs
  refine next_goes hh hl hroom hg hgs hgo (fun v s₁ gs' hbg hz hv => ?_) (fun s₁ hF h' hk => ?_)
  · obtain ⟨y, H1, rv, I1, nS, cS, hg1, eS, ncS, q⟩ := hv
    have hb1 : AllBare (s₁.setGen g gs').gens := allBare_setGen I1.bare hbg
    refine hy v (s₁.setGen g gs') y H1 rv (inv_gens I1 hb1) nS eS (mono _ _ _ _ _ (fun z => ?_) q)
    cases n with
    | zero =>
      exact (z x.2 s₁ ⟨rfl, I1.bare, fun _ _ _ e => e, eS, ncS⟩).elim
    | succ m =>
      refine ⟨m, rfl, fun oS s'' sl eg => ⟨?_, ?_, by rw [eg]; exact hb1, gs', by rw [eg]; exact setGen_at (Nat.lt_of_lt_of_le hlt hz), z oS (s''.setGen g .running) ⟨sl.os, allBare_setGen sl.bare rfl, sl.keep, sl.own, sl.nc⟩⟩⟩
      · obtain ⟨o, nm, qn, ho, r⟩ := hg1
        exact ⟨o, nm, qn, sl.keep _ _ (.inr rfl) ho, r⟩
      · obtain ⟨mc, hns, hnn⟩ := I1.nolimit
        exact ⟨mc, hns.at' fun o e => sl.keep cStatics o (.inl (Ne.symm cS)) e, hnn⟩
  · obtain ⟨H1, I1, nS, eS, q⟩ := hF
    have hb1 : AllBare (s₁.setGen g .finished).gens := allBare_setGen I1.bare rfl
    exact hn _ H1 ((inv_gens I1 hb1).kept (t' := s₁.toks) hk) nS (hk _ _ eS) q
end
end GX
set_option maxHeartbeats 4000000
/-! ### a generator expression is made, and runs -/
namespace GX
open PySem PySem.Spec PyProof.Rows L2 GenW
open Sem (wp)
/-- what its runs want: the iterator's turns, the block, what stands at the end, what a value that goes out wants -/
def tWlk (J : It) (g : TG) (tt : TT) (te : TE) (vs : List Nat) (σ : L2.St) (sQ : List V → Hp → Prop) (yQ : List V → V → Hp → Prop → Prop) (W : Nat → Nat → List V → Hp → Prop) : Prop := ∀ i m acc H, W i m acc H →
  (J.stop i H ∧ sQ acc H) ∨ (J.go i H ∧ ∃ Nx : List V → Hp → Prop, (∀ acc' H', Nx acc' H' → ∃ m', m' < m ∧ W (i + 1) m' acc' H') ∧ ∀ x H', J.yld i H x H' → g x (wipe σ vs) H' fun σ2 H2 => wipe σ2 vs = wipe σ vs ∧ tt σ2 H2 fun b H3 =>
    if b = true then te σ2 H3 fun y H4 => yQ acc y H4 (Nx (acc ++ [y]) H4) else Nx acc H3)
def tG (P : Addr) (wi : TI) (g : TG) (tt : TT) (te : TE) (vs : List Nat) (sQ : List V → Hp → Prop) (yQ : List V → V → Hp → Prop → Prop) : L2.St → Hp → Prop := fun σ H => wi σ H fun J H1 => GxR.TabG H1 P ∧ ∀ H2, GxR.Tabbed P H1 H2 →
  ∃ W : Nat → Nat → List V → Hp → Prop, (∃ m, W 0 m [] H2) ∧ tWlk J g tt te vs σ sQ yQ W
/-- made, and not begun -/
def Made (X : Cx) (k : Nat) (pins : List (Addr × Obj)) (σ : L2.St) (sQ : List V → Hp → Prop) (yQ : List V → V → Hp → Prop → Prop) (u : Value) (s5 : Shared) : Prop :=
  ∃ (a : Addr) (g n : Nat) (oa : Obj), u = .ref a ∧ a < s5.heap.objs.size ∧ s5.heap.get? a = some oa ∧ s5.heap.IsGen a g ∧ (∀ v, oa.data ≠ .cell v) ∧ s5.heap.NoLimit ∧ AllBare s5.gens ∧ g < s5.gens.size ∧
    ∀ (A' : Around) (S : Addr) (oS : Obj) (s6 : Shared), A'.guards = some [] → Room k (A'.in1.deeper (gEnv X X.env.scope 0 .none)) → A'.frames = some X.stack → (S = a ∨ s5.heap.objs.size ≤ S) → s6.heap.get? S = some oS → (∀ v, oS.data ≠ .cell v) → (∀ b o, s5.heap.get? b = some o → s6.heap.get? b = some o) →
      s6.os = s5.os → AllBare s6.gens → s6.gens[g]? = s5.gens[g]? → Rest X pins σ A' a g S sQ yQ n ([], oS) s6
section
variable {X : Cx} {pins : List (Addr × Obj)} {σ : L2.St} {H : Hp} {s : Shared}
/-- the contexts in which a block's pieces are shown -/
def InG (X : Cx) (k : Nat) (p : Cx → Prop) (scope : Scope) : Prop := ∀ (A' : Around) (s : Shared) (H : Hp) (C : Addr) (cd : Value) (fp : List Addr), A'.guards = some [] → Room k (A'.deeper (gEnv X scope C cd)) → p (genCx X A' s H scope C cd fp)
theorem seg_gen {A' : Around} {a : Addr} {gi k : Nat} {S C it : Addr} {oa : Obj} {cd : Value} {fp : List Addr} {tn : Nat → Heap → Prop} {J : It} {elt tg iter : Expr} {ifs : List Expr} {scope : Scope} {own : List (Str × Nat)} {pos : Pos} {s3 : Shared} {H3 : Hp}
    {g : TG} {tt : TT} {te : TE} {sQ : List V → Hp → Prop} {yQ : List V → V → Hp → Prop → Prop} {W : Nat → Nat → List V → Hp → Prop} (mono : ∀ acc y H P P', (P → P') → yQ acc y H P → yQ acc y H P')
    (I3 : Inv X pins σ H3 s3) (hG : A'.in1.guards = some []) (hR : Room k (A'.in1.deeper (gEnv X scope C cd))) (T : Turn X.prog X.w X.K tg J fp it tn) (hco : scope.isCoroutine = false) (ffp : ∀ b ∈ fp, FpOk X pins H3 b ∧ b < s3.heap.objs.size)
    (hg : InG X k (fun Y => PG Y tg g) scope) (ht : InG X k (fun Y => PTs Y ifs tt) scope) (he : InG X k (fun Y => PE Y elt te) scope) (wk : tWlk J g tt te (own.map (·.2)) σ sQ yQ W)
    (hC : C = s3.heap.objs.size) (haC : s3.heap.objs.size < a) (haS : s3.heap.objs.size < S) (hac : S ≠ cStatics) (hSa : S = a ∨ a < S) (oag : ∃ nm qn, oa.cls = .type "generator" ∧ oa.data = .fields #[.int gi 0, nm, qn] ∧ True) (isg : ∀ h : Heap, h.get? a = some oa → h.IsGen a gi) :
    ∀ (n m i : Nat) (acc : List V) (oS : Obj) (s : Shared) (H : Hp), m < n → Inv (genCx X A'.in1 s3 H3 scope C cd fp) [(S, oS), (a, oa)] (wipe σ (own.map (·.2))) H s → tn i s.heap → (∀ b ∈ fp, H b = none) → W i m acc H →
      SegA (model X.prog X.w) A'.in1 (fun x r s₁ => r = .ok .next ∧ RF X pins σ S sQ x s₁) (YF X pins σ a gi S yQ) n (acc, oS) (.compLoop (.GeneratorExp elt [⟨tg, iter, ifs, 0⟩] scope pos) 0 (.ref it) .none (gEnv X scope C cd))
        ((model X.prog X.w).den (.compLoop (.GeneratorExp elt [⟨tg, iter, ifs, 0⟩] scope pos) 0 (.ref it) .none (gEnv X scope C cd))) [] s := by
  have pg := hg A'.in1 s3 H3 C cd fp hG hR
  have pt := ht A'.in1 s3 H3 C cd fp hG hR
  have pe := he A'.in1 s3 H3 C cd fp hG hR
  have nfp : ∀ b ∈ fp, b ≠ S ∧ b ≠ a ∧ b ≠ C := fun b hb => by
    have := (ffp b hb).2
    exact ⟨Nat.ne_of_lt (Nat.lt_trans this haS), Nat.ne_of_lt (Nat.lt_trans this haC), by rw [hC]; exact Nat.ne_of_lt this⟩
  -- the def's own context again
  have back : ∀ {pins' : List (Addr × Obj)} {σ' : L2.St} {H' : Hp} {s' : Shared}, Inv (genCx X A'.in1 s3 H3 scope C cd fp) pins' σ' H' s' → Inv X pins σ H' s' := fun {pins' σ' H' s'} I' =>
    I3.call' (ch := fp) I'.os I'.base I'.hok I'.bare fun b hb => ⟨(ffp b hb).1.2.2.2.1, (ffp b hb).1.2.1, (ffp b hb).1.2.2.2.2.1, (ffp b hb).1.2.2.2.2.2⟩
  have stat : ∀ {σ' : L2.St} {oS : Obj} {H' : Hp} {s' : Shared}, Inv (genCx X A'.in1 s3 H3 scope C cd fp) [(S, oS), (a, oa)] σ' H' s' → (∀ b ∈ fp, H' b = none) → ∀ b ∈ fp, FpOk (genCx X A'.in1 s3 H3 scope C cd fp) [(S, oS), (a, oa)] H' b := fun {σ' oS H' s'} I' hn b hb =>
    ⟨hn b hb, (I'.ok.exf b hb).1, I'.ok.exfs b hb, .inl hb, fun x c e => (I'.ok.exf b hb).2 x c e, fun p hp => by
      have hp : p ∈ ([] : List (Addr × Obj)) ++ [(S, oS), (a, oa)] := hp
      simp only [List.nil_append, List.mem_cons, List.not_mem_nil, or_false] at hp
      rcases hp with rfl | rfl
      · exact Ne.symm (nfp b hb).1
      · exact Ne.symm (nfp b hb).2.1⟩
  intro n
  induction n with
  | zero => intro m i acc oS s H hm; omega
  | succ n ihn =>
    intro m
    induction m using Nat.strongRecOn with
    | ind m ihm =>
      intro i acc oS s5 H5 hm I5 st5 n5 w5
      show SegA _ A'.in1 _ _ _ _ _ ((compTurn (.GeneratorExp elt [⟨tg, iter, ifs, 0⟩] scope pos) 0 (.ref it) .none (gEnv X scope C cd)).onRaise (leaving (gEnv X scope C cd))) [] s5
      rw [compTurn_gen, Sem.onRaise_eq_wrap]
      refine sega_bind_wrap (wpAny_standAt ?_)
      rcases wk i m acc H5 w5 with ⟨stop, qq⟩ | ⟨go, Nx, hNx, step⟩
      · have td := T.done (genCx X A'.in1 s3 H3 scope C cd fp) rfl rfl rfl rfl i _ s5 _ H5 (fun _ _ => False) I5 (stat I5 n5) st5 stop
        refine sega_bind_wrap (thnF td fun r s6 ⟨hr, I6⟩ => ?_)
        subst hr
        refine sega_end (.ok .next) ⟨rfl, H5, back I6, ?_, ?_, qq⟩
        · exact (I6.pin (S, oS) (by simp)).2.1
        · exact (I6.pin (S, oS) (by simp)).1
      · have ti := T.item (genCx X A'.in1 s3 H3 scope C cd fp) rfl rfl rfl rfl i _ s5 _ H5 (fun _ _ => False) I5 (stat I5 n5) st5 go
        refine sega_bind_wrap (thnF ti fun r s6 ⟨u, hr, h6⟩ => ?_)
        subst hr
        refine sega_bind_wrap (thnF h6 fun _ s7 ⟨x, H7, I7, r7, y7, st7, n7⟩ => ?_)
        have I7' := I7.pinned (stat I7 n7) (T.obj _ _ st7)
        refine sega_bind_wrap (thnF (pg.run _ s7 _ H7 x u _ I7' r7 (step x H7 y7)) fun _ s8 ⟨σ8, H8, I8, hw8, q8⟩ => ?_)
        refine sega_bind_wrap (thnF (pt.run _ s8 σ8 H8 _ I8 q8) fun b s9 ⟨H9, I9, q9⟩ => ?_)
        have hl : (wipe σ (own.map (·.2))).length = σ8.length := by rw [← hw8, wipe_length]
        have fin : ∀ {s' : Shared} {H' : Hp}, Inv (genCx X A'.in1 s3 H3 scope C cd fp) ([(S, oS), (a, oa)] ++ pinsAt fp s7.heap) σ8 H' s' →
            Inv (genCx X A'.in1 s3 H3 scope C cd fp) [(S, oS), (a, oa)] (wipe σ (own.map (·.2))) H' s' ∧ tn (i + 1) s'.heap ∧ ∀ b ∈ fp, H' b = none := fun {s' H'} I' => by
          have pin' : ∀ b ∈ fp, ∀ o, s7.heap.get? b = some o → s'.heap.get? b = some o ∧ H' b = none := fun b hb o e =>
            let z := I'.pin (b, o) (List.mem_append_right _ (List.mem_append_right _ (mem_pinsAt hb e)))
            ⟨z.1, z.2.1⟩
          refine ⟨(I'.unpinned (pins := [(S, oS), (a, oa)])).weak hl (fun j v e => ?_), T.keep _ _ _ st7 fun b hb o e => (pin' b hb o e).1, fun b hb => ?_⟩
          · rw [← hw8] at e
            exact (wipe_some e).1
          · obtain ⟨o, e, _⟩ := T.obj _ _ st7 b hb
            exact (pin' b hb o e).2
        cases b with
        | false =>
          simp only [Bool.false_eq_true, if_false] at q9 ⊢
          obtain ⟨J9, st9, n9⟩ := fin I9
          obtain ⟨m', hm', w'⟩ := hNx acc H9 q9
          exact sega_again rfl (ihm m' hm' (i + 1) acc oS s9 H9 (by omega) J9 st9 n9 w')
        | true =>
          simp only [if_true] at q9 ⊢
          have hy : ∀ v, yieldOut (gEnv X scope C cd) v = yieldValue v := fun v => by
            have : (gEnv X scope C cd).scope.isCoroutine = false := hco
            simp only [yieldOut, this, Bool.false_eq_true, if_false]
          simp only [hy]
          rw [Sem.bind_eq_wrap', Sem.bind_eq_wrap', Sem.wrap_wrap, Sem.wrap_wrap]
          refine sega_wrap (thnF (pe.run _ s9 σ8 H9 _ I9 q9) fun z s10 ⟨yv, H10, I10, r10, q10⟩ => ?_)
          obtain ⟨J10, st10, n10⟩ := fin I10
          have pS := J10.pin (S, oS) (by simp)
          have pa := J10.pin (a, oa) (by simp)
          refine sega_at (sega_yield rfl rfl rfl ⟨yv, H10, r10, back J10, pS.2.1, hac, isg _ pa.1, pS.1, pS.2.2.2.2, mono _ _ _ _ _ (fun nx oS' s'' sl => ?_) q10⟩)
          obtain ⟨m', hm', w'⟩ := hNx _ _ nx
          refine sega_again rfl (ihn m' (i + 1) (acc ++ [yv]) oS' s'' H10 (by omega) ?_ (T.keep _ _ _ st10 fun b hb o e => sl.keep b o (.inl (nfp b hb).1) e) n10 w')
          -- the frame wakes
          obtain ⟨hh, gg, dd, tk, oo⟩ := s''
          have ho : oo = s10.os := sl.os
          subst ho
          have J0 : Inv (genCx X A'.in1 s3 H3 scope C cd fp) [] (wipe σ (own.map (·.2))) H10 s10 := J10.pins_of fun p hp => absurd hp (by simp)
          have nt : ∀ b u, H10 b = some u → b ≠ S := fun b u q hb => by rw [hb, pS.2.1] at q; cases q
          have nc : ∀ b, b ∉ [S] → b ≠ S := fun b hb e => hb (by rw [e]; exact List.mem_singleton.mpr rfl)
          have kp : ∀ b o, b ≠ S → s10.heap.get? b = some o → hh.get? b = some o := fun b o hb e => sl.keep b o (.inl hb) e
          have J1 : Inv (genCx X A'.in1 s3 H3 scope C cd fp) [] (wipe σ (own.map (·.2))) H10 { s10 with heap := hh, gens := gg, drawn := dd, toks := tk } := by
            refine J0.step (g' := gg) (t' := tk) (d' := dd) (ch := [S]) (fun b hb => ?_)
              (fun b ob _ _ hc q _ => kp b ob (nc b hc) q) (fun b ob _ _ hc q _ => ⟨ob.slots, kp b ob (nc b hc) q⟩) (fun _ _ _ _ n => n) (fun b ob hc q => ⟨ob, kp b ob (nc b hc) q⟩)
              (fun _ _ q => q) (fun _ _ _ q => q) (fun b ps q => ⟨#[], by rw [q]; simp⟩) (fun m0 hm0 => ?_) (fun b u q => ?_) sl.bare
            · rw [List.mem_singleton.mp hb]
              refine ⟨.inr (Nat.le_of_lt haS), pS.2.2.1, fun y c e z => ?_, fun p hp => absurd (show p ∈ ([] : List (Addr × Obj)) ++ [] from hp) (by simp)⟩
              obtain ⟨v0, o0, e1, e2⟩ := J10.cell y c e
              rw [z, pS.1] at e1
              cases e1
              exact pS.2.2.2.2 _ e2
            · obtain ⟨ob, es, ep, ho, r⟩ := hm0
              exact ⟨ob, es, ep, kp _ ob (Ne.symm pS.2.2.1) ho, r⟩
            · refine (J0.hok b u q).stay (fun c v hc y => kp c v ?_ y) (fun _ y => y) fun _ _ y => y
              rcases hc with y | y
              · rw [y]; exact nt b u q
              · exact nt c _ y
          refine J1.pins_of fun p hp => ?_
          simp only [List.mem_cons, List.not_mem_nil, or_false] at hp
          rcases hp with rfl | rfl
          · exact ⟨sl.own, pS.2.1, pS.2.2.1, pS.2.2.2.1, sl.nc⟩
          · exact ⟨sl.keep _ _ (.inr rfl) pa.1, pa.2.1, pa.2.2.1, pa.2.2.2.1, pa.2.2.2.2⟩
end
end GX
set_option maxHeartbeats 4000000
namespace GX
open PySem PySem.Spec PyProof.Rows L2 GenW
open Sem (wp)
section
variable {X : Cx} {pins : List (Addr × Obj)} {σ : L2.St} {H : Hp} {s : Shared}
theorem seg_start {A' : Around} {C it : Addr} {cd : Value} {fp : List Addr} {tn : Nat → Heap → Prop} {J : It} {elt tg iter : Expr} {ifs : List Expr} {scope : Scope} {pos : Pos} {n : Nat} {x : Ix}
    {R : RA Ix} {Y : YA Ix} (T : Turn X.prog X.w X.K tg J fp it tn) {s : Shared} (st : tn 0 s.heap)
    (loop : SegA (model X.prog X.w) A'.in1 R Y n x (.compLoop (.GeneratorExp elt [⟨tg, iter, ifs, 0⟩] scope pos) 0 (.ref it) .none (gEnv X scope C cd))
        ((model X.prog X.w).den (.compLoop (.GeneratorExp elt [⟨tg, iter, ifs, 0⟩] scope pos) 0 (.ref it) .none (gEnv X scope C cd))) [] s) :
    SegA (model X.prog X.w) A'.in1 R Y n x (.compStart (.GeneratorExp elt [⟨tg, iter, ifs, 0⟩] scope pos) 0 (.ref it) .none (gEnv X scope C cd))
        ((model X.prog X.w).den (.compStart (.GeneratorExp elt [⟨tg, iter, ifs, 0⟩] scope pos) 0 (.ref it) .none (gEnv X scope C cd))) [] s := by
  show SegA _ A'.in1 _ _ _ _ _ ((compStart (.GeneratorExp elt [⟨tg, iter, ifs, 0⟩] scope pos) 0 (.ref it) .none (gEnv X scope C cd)).onRaise (leaving (gEnv X scope C cd))) [] s
  unfold compStart
  rw [Sem.onRaise_eq_wrap]
  show SegA _ A'.in1 _ _ _ _ _ ((ask >>= _).wrap _ _ _ _) [] s
  refine sega_bind_wrap (wpAny_askSetting ?_)
  split
  · exact sega_again rfl loop
  · first
      | exact sega_bind_wrap (wpAny_rule (sega_bind_wrap (wpAny_standAt (sega_bind_wrap (T.self _ 0 s _ _ st (sega_again rfl loop))))))
      | (refine sega_bind_wrap (wpAny_rule ?_); show SegA _ A'.in1 _ _ _ _ _ ((standAt iter.pos >>= _).wrap _ _ _ _) [] s; exact sega_bind_wrap (wpAny_standAt (sega_bind_wrap (T.self _ 0 s _ _ st (sega_again rfl loop)))))
theorem room_env {k : Nat} {A : Around} {e e' : Env} (r : Room k (A.deeper e)) : Room k (A.deeper e') := ⟨r.hd, r.dp, r.un⟩
theorem gen_make {k k' : Nat} {c P : Addr} {elt tg iter : Expr} {ifs : List Expr} {scope : Scope} {own : List (Str × Nat)} {pos : Pos} {wi : TI} {g : TG} {tt : TT} {te : TE} {sQ : List V → Hp → Prop} {yQ : List V → V → Hp → Prop → Prop}
    (mono : ∀ acc y H P P', (P → P') → yQ acc y H P → yQ acc y H P') (room : Room k' X.A) (TB : GxR.TabB X.base X.mg c P) (code : X.env.code = .ref c) (hN : X.N.Nodup) (hi : PI X tg iter wi) (ok : BlkOk X.N X.env.scope scope own)
    (nocell : ∀ y ∈ scope.names, y.2 ≠ .cell) (dot : scope.names.lookup (".0" : Str) = some NameKind.local) (hco : scope.isCoroutine = false)
    (hg : InG X k (fun Y => PG Y tg g) scope) (ht : InG X k (fun Y => PTs Y ifs tt) scope) (he : InG X k (fun Y => PE Y elt te) scope) (fold : ∀ v, genFold iter X.env v = pure v)
    (I : Inv X pins σ H s) (h : tG P wi g tt te (own.map (·.2)) sQ yQ σ H) :
    wpAny (model X.prog X.w) X.A (eval (.GeneratorExp elt [⟨tg, iter, ifs, 0⟩] scope pos) X.env) (Made X k pins σ sQ yQ) X.xe s := by
  have hfree : ∀ y ∈ scope.names, y.2 = .free → ∃ c, X.env.cells.lookup y.1 = some c := fun y hy e => by
    rcases ok.free y hy e with k | k
    · exact I.ok.has _ (.inl k)
    · exact I.ok.has _ (.inr k)
  refine wpAny_GeneratorExp_make hco (closure_ok hfree) nocell dot ok.kind room.depth ?_ fold
  refine thn (hi.run pins s σ H _ I h) fun xv s1 hx => thn hx fun itv s2 h2 => ?_
  obtain ⟨it, fp, tn, J, H2, e, I2, T, st2, f2, ⟨ps, tblAt, trip⟩, q⟩ := h2
  subst e
  refine ⟨I2.nolimit, ?_⟩
  have getP : s2.heap.get? P = some { cls := .none, data := .fields ps } := I2.hok P _ tblAt
  have codeHd : PySem.W.CodeHd s2.heap c P := TB.code.keeps I2.bk
  have neSt : cStatics ≠ P := fun z => by
    obtain ⟨_, ⟨ob, es, ep, e, ed, _⟩, _⟩ := I2.nolimit
    rw [z, getP] at e
    cases e
    cases ed
  have coded : ∀ Qc : Value → Shared → Prop, (∀ (cd : Value) (h3 : Heap) (tk : Nat) (ps' : Array Value), Heap.ExtBut P s2.heap h3 → h3.get? P = some { cls := .none, data := .fields ps' } →
      (∃ more, ps' = ps ++ more) → TriplesOk ps'.toList → Qc cd { s2 with heap := h3, toks := tk }) → wpAny (model X.prog X.w) X.A (genexprCode X.env pos (X.env.qual ++ "<genexpr>") scope) Qc X.xe s2 := by
    intro Qc go
    cases hf : codeAmong pos ps.toList with
    | none =>
      refine wpAny_genexprCodeX code (codeHd.code getP trip) (codeHd.tab getP) hf fun c' h' tk ext ge lt isCode _ isTab _ => ?_
      obtain ⟨o1, w1, q1, q2, q3, q4, q5, q6, q7, q8, _, _, _, _, _, _, _, _, _, trip', _⟩ := isCode
      exact go _ h' tk _ ext isTab.2 ⟨_, rfl⟩ trip'
    | some cv =>
      refine wpAny_genexprCode_hit code (codeHd.code getP trip) hf ?_
      exact go cv s2.heap s2.toks ps (Heap.ExtBut.refl _ _) getP ⟨#[], by simp⟩ trip
  refine coded _ fun cd h3 tk ps' ext getP3 more trip3 => ?_
  obtain ⟨more, em⟩ := more
  obtain ⟨bm, ob, a1, a2, a3, a4, a5, a6, a7, a8⟩ := TB.bm
  have keep3 : ∀ b u, b ≠ P → s2.heap.get? b = some u → h3.get? b = some u := fun b u hb e => ext b u hb e
  refine wpAny_builtinsFor (m := X.mg) (by rw [I2.ok.glob]; exact (I2.mod.glob.keeps I2.bk).extBut ext TB.gP) a1 a2 (keep3 _ _ a4 (I2.bk _ _ a5)) a6 a7 a8 ?_
  -- the state with the code object
  have I3 : Inv X pins σ (upd H2 P (.tbl (ps ++ more))) { s2 with heap := h3, toks := tk } :=
    GxR.inv_tab (g' := s2.gens) (d' := s2.drawn) (t' := tk) I2 tblAt keep3 (by rw [getP3, em]) I2.bare
  have tab : GxR.Tabbed P H2 (upd H2 P (.tbl (ps ++ more))) := ⟨⟨ps ++ more, upd_same, by rw [← em]; exact trip3⟩, fun b hb => upd_ne hb⟩
  obtain ⟨W, ⟨m0, w0⟩, wk⟩ := q _ tab
  generalize upd H2 P (.tbl (ps ++ more)) = H3 at I3 tab w0
  have nP : ∀ b ∈ fp, b ≠ P := fun b hb z => by
    have := (f2 b hb).1
    rw [z, tblAt] at this
    cases this
  have f3 : ∀ b ∈ fp, FpOk X pins H3 b ∧ b < h3.objs.size := fun b hb => by
    obtain ⟨o, e, _⟩ := T.obj _ _ st2 b hb
    exact ⟨⟨by rw [tab.2 b (nP b hb)]; exact (f2 b hb).1, (f2 b hb).2⟩, Heap.lt_size (keep3 b o (nP b hb) e)⟩
  have st3 : tn 0 h3 := T.keep _ _ _ st2 fun b hb o e => keep3 b o (nP b hb) e
  intro h' hns sb
  have szC : h'.objs.size = h3.objs.size + 1 := by rw [sb.1, Heap.size_push]
  have kp' : ∀ b o, h3.get? b = some o → h'.get? b = some o := fun b o e => sb.extBut b o (Nat.ne_of_lt (Heap.lt_size e)) (Heap.get?_push_of_some _ e)
  have lim' : h'.NoLimit := I3.nolimit.fresh _ sb
  generalize hoa : ({ cls := .type "generator", data := .fields #[.int s2.gens.size 0, .str "<genexpr>" (tk + 1), .str (X.env.qual ++ "<genexpr>") (tk + 1 + 1)] } : Obj) = oa
  have isg : ∀ hh : Heap, hh.get? h'.objs.size = some oa → hh.IsGen h'.objs.size s2.gens.size := fun hh e => by
    rw [← hoa] at e
    exact ⟨_, _, _, e, rfl, rfl, rfl⟩
  have nca : ∀ v, oa.data ≠ .cell v := fun v z => by rw [← hoa] at z; cases z
  have atA : (h'.push oa).get? h'.objs.size = some oa := Heap.get?_push_size _ (by rw [← hoa]; rfl)
  refine ⟨h'.objs.size, s2.gens.size, m0 + 1, oa, rfl, by show h'.objs.size < (h'.push oa).objs.size; rw [Heap.size_push]; exact Nat.lt_succ_self _, atA, isg _ atA, nca, lim'.push _, ?_, by show s2.gens.size < (s2.gens.push _).size; rw [Array.size_push]; exact Nat.lt_succ_self _, ?_⟩
  · intro y hy
    rcases Array.mem_push.mp hy with z | z
    · exact I2.bare y z
    · rw [z]; rfl
  intro A' S oS s6 hG hR hF hS eS ncS kp6 os6 b6 g6
  have kpA : ∀ b o, h3.get? b = some o → s6.heap.get? b = some o := fun b o e => kp6 b o (Heap.get?_push_of_some _ (kp' b o e))
  have aAt : s6.heap.get? h'.objs.size = some oa := kp6 _ _ atA
  have sSt : cStatics < h'.objs.size := by
    obtain ⟨_, ns, _⟩ := lim'
    exact ns.lt
  have cS : S ≠ cStatics := fun z => by
    rcases hS with e | e
    · rw [z] at e; exact Nat.ne_of_lt sSt e
    · have e2 : h'.objs.size + 1 ≤ S := by
        rw [← Heap.size_push h' oa]; exact e
      rw [z] at e2
      exact Nat.lt_irrefl _ (Nat.lt_trans sSt e2)
  have haS : h3.objs.size < S ∧ (S = h'.objs.size ∨ h'.objs.size < S) := by
    rcases hS with e | e
    · rw [e]; exact ⟨by omega, .inl rfl⟩
    · have e2 : h'.objs.size + 1 ≤ S := by
        rw [← Heap.size_push h' oa]; exact e
      exact ⟨Nat.lt_trans (by rw [szC]; exact Nat.lt_succ_self _) e2, .inr e2⟩
  refine ⟨isg _ aAt, ?_, b6, _, g6.trans (Array.getElem?_push_size ..), rfl, ?_⟩
  · obtain ⟨mc, hn, hnn⟩ := lim'.push oa
    exact ⟨mc, hn.at' fun o e => kp6 _ o e, hnn⟩
  obtain ⟨h6, gg, dd, tt6, oo⟩ := s6
  have ho : oo = s2.os := os6
  subst ho
  have nsC : h6.Ns h3.objs.size (fun y => if y = ".0" then some (.ref it) else none) := by
    obtain ⟨o, es, ep, eo, r⟩ := hns
    exact ⟨o, es, ep, kp6 _ o (Heap.get?_push_of_some _ eo), r⟩
  have I6 : Inv (genCx X A'.in1 { s2 with heap := h3, toks := tk } H3 scope h3.objs.size cd fp) [] (wipe σ (own.map (·.2))) H3 (({ heap := h6, gens := gg, drawn := dd, toks := tt6, os := s2.os } : Shared).setGen s2.gens.size .running) :=
    gen_start (s := { s2 with heap := h3, toks := tk }) (A' := A'.in1) I3 ok nocell hN hR.hd (by show A'.frames = _; exact hF) f3 nsC kpA (allBare_setGen (s := { heap := h6, gens := gg, drawn := dd, toks := tt6, os := s2.os }) b6 rfl)
  have fresh : ∀ b, h3.objs.size < b → H3 b = none ∧ b ≠ h3.objs.size ∧ b ∉ frs X.stack := fun b hb => ⟨I3.hok.fresh (Nat.le_of_lt hb), Nat.ne_of_gt hb, fun z => by
    rcases List.mem_cons.mp (I3.stkSub b z) with w | w
    · have := I3.lt
      rw [← w] at this
      exact Nat.lt_irrefl _ (Nat.lt_trans this hb)
    · exact I3.nofs (Nat.le_of_lt hb) w⟩
  have I7 : Inv (genCx X A'.in1 { s2 with heap := h3, toks := tk } H3 scope h3.objs.size cd fp) [(S, oS), (h'.objs.size, oa)] (wipe σ (own.map (·.2))) H3 (({ heap := h6, gens := gg, drawn := dd, toks := tt6, os := s2.os } : Shared).setGen s2.gens.size .running) :=
    I6.pins_of fun p hp => by
      simp only [List.mem_cons, List.not_mem_nil, or_false] at hp
      rcases hp with rfl | rfl
      · obtain ⟨q1, q2, q3⟩ := fresh S haS.1
        exact ⟨eS, q1, q2, q3, ncS⟩
      · obtain ⟨q1, q2, q3⟩ := fresh h'.objs.size (by omega)
        exact ⟨aAt, q1, q2, q3, nca⟩
  refine seg_start T (T.keep _ _ _ st3 fun b hb o e => kpA b o e) ?_
  exact seg_gen (H3 := H3) (s3 := { s2 with heap := h3, toks := tk }) (oa := oa) mono I3 hG (room_env hR) T hco f3 hg ht he wk rfl (by show h3.objs.size < h'.objs.size; omega) haS.1 cS haS.2 ⟨_, _, by rw [← hoa], by rw [← hoa], trivial⟩ isg
    (m0 + 1) m0 0 [] oS _ H3 (Nat.lt_succ_self _) I7 (T.keep _ _ _ st3 fun b hb o e => kpA b o e) (fun b hb => (f3 b hb).1.1) w0
end
end GX
set_option maxHeartbeats 4000000
/-! ### all, any, tuple of a generator expression -/
namespace GX
open PySem PySem.Spec PyProof.Rows L2 GenW
open Sem (wp)
section
variable {X : Cx} {pins : List (Addr × Obj)} {σ : L2.St} {H : Hp} {s : Shared}
def allS (Q : VK) : List V → Hp → Prop := fun _ H => Q (.bl true) H
def allY (Q : VK) : List V → V → Hp → Prop → Prop := fun _ y H P => ∃ c, y = .bl c ∧ (c = true → P) ∧ (c = false → Q (.bl false) H)
theorem allY_mono {Q : VK} : ∀ acc y H P P', (P → P') → allY Q acc y H P → allY Q acc y H P' := fun _ _ _ _ _ h ⟨c, e, q1, q2⟩ => ⟨c, e, fun z => h (q1 z), q2⟩
def anyS (Q : VK) : List V → Hp → Prop := fun _ H => Q (.bl false) H
def anyY (Q : VK) : List V → V → Hp → Prop → Prop := fun _ y H P => ∃ c, y = .bl c ∧ (c = false → P) ∧ (c = true → Q (.bl true) H)
theorem anyY_mono {Q : VK} : ∀ acc y H P P', (P → P') → anyY Q acc y H P → anyY Q acc y H P' := fun _ _ _ _ _ h ⟨c, e, q1, q2⟩ => ⟨c, e, fun z => h (q1 z), q2⟩
theorem all_loop {A : Around} {a : Addr} {g : Nat} {Q : VK} {R : Result → Shared → Prop} (hh : A.handled = none) (hroom : A.depth < recursionLimit) (hR : ∀ b H' s', Inv X pins σ H' s' → Q (.bl b) H' → R (.ok (.ret (.bool b))) s') :
    ∀ (n : Nat) (x : Ix) (s : Shared), (∀ v, x.2.data ≠ .cell v) → Rest X pins σ A.in1 a g a (allS Q) (allY Q) n x s → codeAny (model X.prog X.w) A (.builtin "all.loop" ⟨[.ref a], []⟩) R s := by
  intro n
  induction n with
  | zero =>
    intro x s nc h
    refine codeAny_builtin F.entry_all_loop ?_
    rw [Around.under_plainId F.plain_all_loop _]
    show wpAny _ A.in1 (pyNext (.ref a) >>= _) _ _ s
    refine wpAny_bind (next_rest allY_mono hh hroom h (fun s' H' I' _ _ q => wpAny_bind (wpAny_rule (wpAny_pure (hR true H' s' I' q)))) fun v s' y H' r I' _ eS q => ?_)
    obtain ⟨c, rfl, q1, q2⟩ := q
    obtain rfl : v = .bool c := r
    refine wpAny_bind (wpAny_holding (wpAny_truthy_bool ?_))
    refine wpAny_bind (wpAny_letGo ?_)
    cases c with
    | true => obtain ⟨m, e, _⟩ := q1 rfl; cases e
    | false =>
      simp only [Bool.false_eq_true, if_false]
      exact wpAny_bind (wpAny_rule (wpAny_pure (hR false H' s' I' (q2 rfl))))
  | succ n ih =>
    intro x s nc h
    refine codeAny_builtin F.entry_all_loop ?_
    rw [Around.under_plainId F.plain_all_loop _]
    show wpAny _ A.in1 (pyNext (.ref a) >>= _) _ _ s
    refine wpAny_bind (next_rest allY_mono hh hroom h (fun s' H' I' _ _ q => wpAny_bind (wpAny_rule (wpAny_pure (hR true H' s' I' q)))) fun v s' y H' r I' _ eS q => ?_)
    obtain ⟨c, rfl, q1, q2⟩ := q
    obtain rfl : v = .bool c := r
    refine wpAny_bind (wpAny_holding (wpAny_truthy_bool ?_))
    refine wpAny_bind (wpAny_letGo ?_)
    cases c with
    | true =>
      simp only [if_true]
      obtain ⟨m, e, nx⟩ := q1 rfl
      cases e
      exact wpAny_pure ⟨plainId_quiet F.plain_all_loop _, ih (x.1 ++ [.bl true], x.2) _ nc (nx x.2 s' ⟨rfl, I'.bare, fun _ _ _ e => e, eS, nc⟩ rfl)⟩
    | false =>
      simp only [Bool.false_eq_true, if_false]
      exact wpAny_bind (wpAny_rule (wpAny_pure (hR false H' s' I' (q2 rfl))))
theorem any_loop {A : Around} {a : Addr} {g : Nat} {Q : VK} {R : Result → Shared → Prop} (hh : A.handled = none) (hroom : A.depth < recursionLimit) (hR : ∀ b H' s', Inv X pins σ H' s' → Q (.bl b) H' → R (.ok (.ret (.bool b))) s') :
    ∀ (n : Nat) (x : Ix) (s : Shared), (∀ v, x.2.data ≠ .cell v) → Rest X pins σ A.in1 a g a (anyS Q) (anyY Q) n x s → codeAny (model X.prog X.w) A (.builtin "any.loop" ⟨[.ref a], []⟩) R s := by
  intro n
  induction n with
  | zero =>
    intro x s nc h
    refine codeAny_builtin F.entry_any_loop ?_
    rw [Around.under_plainId F.plain_any_loop _]
    show wpAny _ A.in1 (pyNext (.ref a) >>= _) _ _ s
    refine wpAny_bind (next_rest anyY_mono hh hroom h (fun s' H' I' _ _ q => wpAny_bind (wpAny_rule (wpAny_pure (hR false H' s' I' q)))) fun v s' y H' r I' _ eS q => ?_)
    obtain ⟨c, rfl, q1, q2⟩ := q
    obtain rfl : v = .bool c := r
    refine wpAny_bind (wpAny_holding (wpAny_truthy_bool ?_))
    refine wpAny_bind (wpAny_letGo ?_)
    cases c with
    | false => obtain ⟨m, e, _⟩ := q1 rfl; cases e
    | true =>
      simp only [if_true]
      exact wpAny_bind (wpAny_rule (wpAny_pure (hR true H' s' I' (q2 rfl))))
  | succ n ih =>
    intro x s nc h
    refine codeAny_builtin F.entry_any_loop ?_
    rw [Around.under_plainId F.plain_any_loop _]
    show wpAny _ A.in1 (pyNext (.ref a) >>= _) _ _ s
    refine wpAny_bind (next_rest anyY_mono hh hroom h (fun s' H' I' _ _ q => wpAny_bind (wpAny_rule (wpAny_pure (hR false H' s' I' q)))) fun v s' y H' r I' _ eS q => ?_)
    obtain ⟨c, rfl, q1, q2⟩ := q
    obtain rfl : v = .bool c := r
    refine wpAny_bind (wpAny_holding (wpAny_truthy_bool ?_))
    refine wpAny_bind (wpAny_letGo ?_)
    cases c with
    | false =>
      simp only [Bool.false_eq_true, if_false]
      obtain ⟨m, e, nx⟩ := q1 rfl
      cases e
      exact wpAny_pure ⟨plainId_quiet F.plain_any_loop _, ih (x.1 ++ [.bl false], x.2) _ nc (nx x.2 s' ⟨rfl, I'.bare, fun _ _ _ e => e, eS, nc⟩ rfl)⟩
    | true =>
      simp only [if_true]
      exact wpAny_bind (wpAny_rule (wpAny_pure (hR true H' s' I' (q2 rfl))))
theorem room_in {k j : Nat} {A : Around} {e : Env} (r : Room (k + 1) A) {A' : Around} (h1 : A'.handled = A.handled) (h2 : A'.depth = A.depth) (h3 : A'.units = A.units + j) (hj : j ≤ 8) : Room k (A'.deeper e) :=
  ⟨h1.trans r.hd, by have := r.dp; show A'.depth + 1 + 3 * k + 5 < _; omega, by have := r.un; show A'.units + 3 + 16 * k + 200 < _; omega⟩
theorem made_all {k : Nat} {Q : VK} {u : Value} {E : Value → Shared → Prop} (hgd : X.A.guards = some []) (hr : Room (k + 1) X.A) (hF : X.A.frames = some X.stack) (h : Made X k pins σ (allS Q) (allY Q) u s) :
    wpAny (model X.prog X.w) X.A (call (.builtin "all") [u]) (fun v s' => ∃ x H', Inv X pins σ H' s' ∧ RelV x v ∧ Q x H') E s := by
  obtain ⟨a, g, n, oa, rfl, hlt, ea, hg, nca, lim, bare, glt, wake⟩ := h
  refine call_function_tree F.kind_all F.plain_all F.entry_all (F.args_all1 _) ?_
  unfold Builtin.«all»
  refine wpAny_bind (m := oneArg "all" _) (wpAny_pure ?_)
  refine wpAny_bind (wpAny_pyIter_gen hg ?_)
  exact wpAny_pure ⟨plainId_quiet F.plain_all_loop _, all_loop hr.hd hr.depth (fun b H' s' I' q => ⟨.bl b, H', I', rfl, q⟩) n ([], oa) s nca (wake X.A.in1 a oa s hgd (room_in (j := 2) hr rfl rfl rfl (by decide)) hF (.inl rfl) ea nca (fun _ _ e => e) rfl bare rfl)⟩
theorem made_any {k : Nat} {Q : VK} {u : Value} {E : Value → Shared → Prop} (hgd : X.A.guards = some []) (hr : Room (k + 1) X.A) (hF : X.A.frames = some X.stack) (h : Made X k pins σ (anyS Q) (anyY Q) u s) :
    wpAny (model X.prog X.w) X.A (call (.builtin "any") [u]) (fun v s' => ∃ x H', Inv X pins σ H' s' ∧ RelV x v ∧ Q x H') E s := by
  obtain ⟨a, g, n, oa, rfl, hlt, ea, hg, nca, lim, bare, glt, wake⟩ := h
  refine call_function_tree F.kind_any F.plain_any F.entry_any (F.args_any1 _) ?_
  unfold Builtin.«any»
  refine wpAny_bind (m := oneArg "any" _) (wpAny_pure ?_)
  refine wpAny_bind (wpAny_pyIter_gen hg ?_)
  exact wpAny_pure ⟨plainId_quiet F.plain_any_loop _, any_loop hr.hd hr.depth (fun b H' s' I' q => ⟨.bl b, H', I', rfl, q⟩) n ([], oa) s nca (wake X.A.in1 a oa s hgd (room_in (j := 2) hr rfl rfl rfl (by decide)) hF (.inl rfl) ea nca (fun _ _ e => e) rfl bare rfl)⟩
/-! ### the tuple -/
def tupY : List V → V → Hp → Prop → Prop := fun acc _ _ P => acc.length < sizeLine ∧ P
theorem tupY_mono : ∀ acc y H P P', (P → P') → tupY acc y H P → tupY acc y H P' := fun _ _ _ _ _ h q => ⟨q.1, h q.2⟩
theorem extend_loop {A : Around} {a S : Addr} {g : Nat} {sQ : List V → Hp → Prop} {res : Value} {R : Result → Shared → Prop} (hh : A.handled = none) (hroom : A.depth < recursionLimit) (hSa : a ≠ S)
    (hR : ∀ ys H' s' acc c, Inv X pins σ H' s' → s'.heap.get? S = some (lstObj acc c) → Vals ys acc.toList → sQ ys H' → R (.ok (.ret res)) s') :
    ∀ (n : Nat) (ys : List V) (acc : Array Value) (c : Nat) (s : Shared), Vals ys acc.toList → s.heap.get? S = some (lstObj acc c) → Rest X pins σ A.in1 a g S sQ tupY n (ys, lstObj acc c) s → codeAny (model X.prog X.w) A (.builtin "list.extend.loop" ⟨[.ref S, .ref a, res], []⟩) R s := by
  intro n
  induction n with
  | zero =>
    intro ys acc c s r eS h
    refine codeAny_builtin F.entry_extend_loop ?_
    rw [Around.under_plainId F.plain_extend_loop _]
    show wpAny _ A.in1 (pyNext (.ref a) >>= _) _ _ s
    refine wpAny_bind (next_rest tupY_mono hh hroom h (fun s' H' I' _ e q => wpAny_pure (hR ys H' s' acc c I' e r q)) fun v s' y H' rv I' _ e q => ?_)
    obtain ⟨_, m, e, _⟩ := q
    cases e
  | succ n ih =>
    intro ys acc c s r eS h
    refine codeAny_builtin F.entry_extend_loop ?_
    rw [Around.under_plainId F.plain_extend_loop _]
    show wpAny _ A.in1 (pyNext (.ref a) >>= _) _ _ s
    refine wpAny_bind (next_rest tupY_mono hh hroom h (fun s' H' I' _ e q => wpAny_pure (hR ys H' s' acc c I' e r q)) fun v s' y H' rv I' _ e q => ?_)
    obtain ⟨hlt, m, em, nx⟩ := q
    cases em
    have eS' : s'.heap.get? S = some (lstObj acc c) := e
    have hsz : acc.size < sizeLine := by
      have h1 := r.length
      have h2 : ys.length < sizeLine := hlt
      have h3 : acc.toList.length = acc.size := by simp
      omega
    show wpAny _ A.in1 (updateSeq S (·.push v) >>= _) _ _ _
    refine wpAny_bind ?_
    refine wpAny_updateSeq eS' rfl (wpAny_pure ⟨plainId_quiet F.plain_extend_loop _, ih (ys ++ [y]) (acc.push v) _ _ ?_ (Heap.get?_update_self _ eS' rfl) (nx _ _ ⟨rfl, I'.bare, fun b o hb eb => ?_, Heap.get?_update_self _ eS' rfl, fun v z => by cases z⟩ rfl)⟩)
      (by omega) (by show (acc.push v).size ≤ sizeLine + 1; rw [Array.size_push]; omega)
    · rw [Array.toList_push]; exact r.append (.cons rv .nil)
    · have : b ≠ S := by
        rcases hb with z | z
        · exact z
        · rw [z]; exact hSa
      exact (Heap.get?_update_other _ _ (Ne.symm this)).trans eb
theorem collect_made {A : Around} {a : Addr} {g n : Nat} {sQ : List V → Hp → Prop} {Q : List Value → Shared → Prop} {E : Value → Shared → Prop} (hh : A.handled = none) (hroom : A.depth < recursionLimit) (hlt : a < s.heap.objs.size) (hg : s.heap.IsGen a g) (bare : AllBare s.gens)
    (wake : ∀ (S : Addr) (oS : Obj) (s6 : Shared), s.heap.objs.size ≤ S → s6.heap.get? S = some oS → (∀ v, oS.data ≠ .cell v) → (∀ b o, s.heap.get? b = some o → s6.heap.get? b = some o) → s6.os = s.os → s6.gens = s.gens → Rest X pins σ A.in1 a g S sQ tupY n ([], oS) s6)
    (hQ : ∀ ys H' s' acc, Inv X pins σ H' s' → Vals ys acc → sQ ys H' → Q acc s') : wpAny (model X.prog X.w) A (collect (.ref a)) Q E s := by
  have hSI : s.heap.objs.size ≠ a := Nat.ne_of_gt hlt
  unfold collect
  refine wpAny_bind (wpAny_runValue (codeAny_builtin F.entry_proto_collect ?_))
  rw [Around.under_plainId F.plain_proto_collect _]
  show wpAny _ A.in1 (newList [] >>= fun l => again (.builtin "list.__iadd__" ⟨[l, .ref a], []⟩)) _ _ s
  refine wpAny_bind (wpAny_newObj_type ?_)
  refine wpAny_pure ⟨plainId_quiet F.plain_list_iadd _, codeAny_builtin F.entry_list_iadd ?_⟩
  rw [Around.under_plainId F.plain_list_iadd _]
  have gty : ∀ {h : Heap}, (∀ b o, s.heap.get? b = some o → h.get? b = some o) → h.IsGen a g := fun {h} q => hg.keeps q
  have k1 : ∀ b o, s.heap.get? b = some o → (s.heap.push { cls := .type "list", data := .seq ([] : List Value).toArray }).get? b = some o := fun b o e => Heap.get?_push_of_some _ e
  have tyG : ({ s with heap := s.heap.push { cls := .type "list", data := .seq ([] : List Value).toArray } } : Shared).TypeIs (.ref a) "generator" := Heap.IsGen.typeIs (gty k1)
  show wpAny _ A.in1 (Builtin.List.listExtendWith (.ref s.heap.objs.size) (.ref a) (.ref s.heap.objs.size)) _ _ _
  unfold Builtin.List.listExtendWith
  refine wpAny_bind (wpAny_typeOf tyG ?_)
  have h1 : Builtin.List.listSameRef (.ref s.heap.objs.size) (.ref a) = false := by simp [Builtin.List.listSameRef, hSI]
  have h2 : (Value.type "generator" == Value.type "list") = false := by decide
  have h3 : (Value.type "generator" == Value.type "tuple") = false := by decide
  simp only [h1, h2, h3, Bool.or_false, Bool.false_eq_true, if_false]
  refine wpAny_bind (wpAny_pyIter_gen (gty k1) ?_)
  refine wpAny_bind (wpAny_holding ?_)
  unfold Builtin.List.listLengthHint
  refine wpAny_bind (wpAny_specialOf tyG F.gen_no_len ?_)
  show wpAny _ A.in1 (specialOf (Value.ref a) (Str.ofString "__length_hint__") >>= _) _ _ _
  refine wpAny_bind (wpAny_specialOf tyG F.gen_no_hint ?_)
  refine wpAny_pure ?_
  show wpAny _ A.in1 (rule "list.extend.makes-room" >>= fun _ => Builtin.List.listTouch (.ref s.heap.objs.size) >>= fun _ =>
    again (.builtin "list.extend.loop" ⟨[.ref s.heap.objs.size, .ref a, .ref s.heap.objs.size], []⟩)) _ _ _
  refine wpAny_bind (wpAny_rule ?_)
  have hS₁ : (s.heap.push { cls := .type "list", data := .seq ([] : List Value).toArray }).get? s.heap.objs.size = some { cls := .type "list", data := .seq ([] : List Value).toArray } := Heap.get?_push_size _ rfl
  refine wpAny_bind ?_
  show wpAny _ A.in1 (updateSeq s.heap.objs.size (·.push .none) >>= fun _ => updateSeq s.heap.objs.size (·.pop)) _ _ _
  refine wpAny_bind (wpAny_updateSeq hS₁ rfl ?_)
  have hS₂ := Heap.get?_update_self (Obj.mapSeq (·.push Value.none)) hS₁ rfl
  refine wpAny_updateSeq hS₂ rfl ?_
  have hS₃ := Heap.get?_update_self (Obj.mapSeq (·.pop)) hS₂ rfl
  have oth : ∀ b o, s.heap.get? b = some o →
      (((s.heap.push { cls := .type "list", data := .seq ([] : List Value).toArray }).update s.heap.objs.size (Obj.mapSeq (·.push Value.none))).update s.heap.objs.size (Obj.mapSeq (·.pop))).get? b = some o :=
    fun b o e => (Heap.get?_update_other _ _ (Ne.symm (Nat.ne_of_lt (Heap.lt_size e)))).trans ((Heap.get?_update_other _ _ (Ne.symm (Nat.ne_of_lt (Heap.lt_size e)))).trans (Heap.get?_push_of_some _ e))
  refine wpAny_pure ⟨plainId_quiet F.plain_extend_loop _, extend_loop hh hroom (Ne.symm hSI) (fun ys H' s' acc c I' eS r q => ?_) n [] #[] _ _ .nil hS₃ (wake _ _ _ (Nat.le_refl _) hS₃ (fun v z => by cases z) oth rfl rfl)⟩
  show wpAny _ A (load s.heap.objs.size >>= _) _ _ s'
  refine wpAny_bind (wpAny_load eS ?_)
  exact wpAny_pure (hQ ys H' s' acc.toList I' r q)
end
end GX
set_option maxHeartbeats 4000000
namespace GX
open PySem PySem.Spec PyProof.Rows L2 GenW
open Sem (wp)
section
variable {X : Cx} {pins : List (Addr × Obj)} {σ : L2.St} {H : Hp} {s : Shared}
def tupS (Q : VK) : List V → Hp → Prop := fun acc H => acc.length ≤ sizeLine ∧ ∀ p, H p = none → Q (.ref p) (upd H p (.tup acc))
theorem code_tuple_made {A : Around} {a : Addr} {g n : Nat} {sQ : List V → Hp → Prop} {Q₁ : Value → Shared → Prop} {E : Value → Shared → Prop} (hh : A.handled = none) (hroom : A.depth < recursionLimit) (hlt : a < s.heap.objs.size) (hg : s.heap.IsGen a g) (bare : AllBare s.gens)
    (wake : ∀ (S : Addr) (oS : Obj) (s6 : Shared), s.heap.objs.size ≤ S → s6.heap.get? S = some oS → (∀ v, oS.data ≠ .cell v) → (∀ b o, s.heap.get? b = some o → s6.heap.get? b = some o) → s6.os = s.os → s6.gens = s.gens → Rest X pins σ A.in1.in1 a g S sQ tupY n ([], oS) s6)
    (h : ∀ ys H' s' acc, Inv X pins σ H' s' → Vals ys acc → sQ ys H' → acc.length ≤ sizeLine ∧ Q₁ (.ref s'.heap.objs.size) { s' with heap := s'.heap.push { cls := .type "tuple", data := .seq acc.toArray } }) :
    codeAny (model X.prog X.w) A (.call (.builtin "tuple.__new__") ⟨[.type "tuple", .ref a], []⟩) (wants Q₁ E) s := by
  refine codeAny_of_tree ?_
  show wpAny _ A.in1 (do checkBuiltinCall "tuple.__new__" ⟨[.type "tuple", .ref a], []⟩; again (.builtin "tuple.__new__" ⟨[.type "tuple", .ref a], []⟩)) _ _ s
  refine wpAny_bind (wpAny_of_eq (F.newCall_tuple_1 _) (wpAny_pure ⟨plainId_quiet F.plain_tuple_new _, codeAny_builtin F.entry_tuple_new ?_⟩))
  rw [Around.under_plainId F.plain_tuple_new _]
  have hsub := sub_tuple_self
  have hinit := init_tuple_lookup
  have hmh := madeHere_tuple
  have hTI : s.TypeIs (.ref a) "generator" := Heap.IsGen.typeIs hg
  wp_walk using wpAny_typeOf hTI, collect_made (A := A.in1) hh hroom hlt hg bare wake
  intro ys H' s' acc I' r q
  obtain ⟨hz, hq⟩ := h ys H' s' acc I' r q
  show wpAny _ _ (Builtin.Tuple.tupleExact acc.toArray >>= fun v => ret v) _ _ _
  unfold Builtin.Tuple.tupleExact
  refine wpAny_bind (wpAny_newObj_type ?_ (by show acc.toArray.size ≤ sizeLine; simpa using hz))
  exact wpAny_pure hq
theorem made_tup {k : Nat} {Q : VK} {u : Value} {E : Value → Shared → Prop} (hgd : X.A.guards = some []) (hr : Room (k + 1) X.A) (hF : X.A.frames = some X.stack) (h : Made X k pins σ (tupS Q) tupY u s) :
    wpAny (model X.prog X.w) X.A (call (.type "tuple") [u]) (fun v s' => ∃ x H', Inv X pins σ H' s' ∧ RelV x v ∧ Q x H') E s := by
  obtain ⟨a, g, n, oa, rfl, hlt, ea, hg, nca, lim, bare, glt, wake⟩ := h
  refine callType_codes (Q₁ := fun obj s₁ => s₁.TypeIs obj "tuple" ∧ ∃ x H', Inv X pins σ H' s₁ ∧ RelV x obj ∧ Q x H') F.called_tuple (F.typeCall_tuple_1 _) F.entry_object_init
    (code_tuple_made (sQ := tupS Q) (by exact hr.hd) (by exact hr.depth) hlt hg bare (fun S oS s6 h1 h2 h3 h4 h5 h6 => wake X.A.in1.in1.in1 S oS s6 hgd (room_in (j := 4) hr rfl rfl rfl (by decide)) hF (.inr h1) h2 h3 h4 h5 (by rw [h6]; exact bare) (by rw [h6])) fun ys H' s' acc I' r q => ⟨by rw [← r.length]; exact q.1, ?_⟩) fun obj s₁ h₁ => ?_
  · refine ⟨⟨_, Heap.get?_push_size _ rfl, rfl⟩, .ref s'.heap.objs.size, _, ?_, rfl, q.2 _ (I'.hok.fresh (Nat.le_refl _))⟩
    exact I'.laid (t' := s'.toks) (fun b o e => Heap.get?_push_of_some _ e) (Nat.le_refl _) (show ObjOk X.prog X.w _ _ _ (.tup ys) from ⟨q.1, acc, r, by simpa using IsTup.new s'.heap acc.toArray⟩)
  · exact ⟨h₁.1, F.args_object_init_2 obj _, object_init_meets F.called_tuple.init.lookup F.called_tuple.made (by decide) _ _ X.A.in1 _ s₁ ⟨h₁.1, rfl, h₁.2⟩⟩
/-! ### the expressions -/
/-- what a generator expression's place and names must be -/
structure Spot (X : Cx) (P : Addr) (scope : Scope) (own : List (Str × Nat)) (c : Addr) : Prop where
  tab : GxR.TabB X.base X.mg c P
  code : X.env.code = .ref c
  nd : X.N.Nodup
  ok : BlkOk X.N X.env.scope scope own
  nocell : ∀ y ∈ scope.names, y.2 ≠ .cell
  dot : scope.names.lookup (".0" : Str) = some NameKind.local
  co : scope.isCoroutine = false
def tAllX (P : Addr) (wi : TI) (g : TG) (tt : TT) (te : TE) (vs : List Nat) : TE := fun σ H Q => tG P wi g tt te vs (allS Q) (allY Q) σ H
def tAnyX (P : Addr) (wi : TI) (g : TG) (tt : TT) (te : TE) (vs : List Nat) : TE := fun σ H Q => tG P wi g tt te vs (anyS Q) (anyY Q) σ H
def tTupX (P : Addr) (wi : TI) (g : TG) (tt : TT) (te : TE) (vs : List Nat) : TE := fun σ H Q => tG P wi g tt te vs (tupS Q) tupY σ H
variable {k : Nat} {c P : Addr} {elt tg iter : Expr} {ifs : List Expr} {scope : Scope} {own : List (Str × Nat)} {p pos gpos : Pos} {wi : TI} {g : TG} {tt : TT} {te : TE}
theorem pe_allX (hgd : X.A.guards = some []) (room : Room (k + 1) X.A) (hgl : Gl X "all") (hm : X.mg "all" = none) (sp : Spot X P scope own c) (hi : PI X tg iter wi) (hg : InG X k (fun Y => PG Y tg g) scope) (ht : InG X k (fun Y => PTs Y ifs tt) scope) (he : InG X k (fun Y => PE Y elt te) scope) (fold : ∀ v, genFold iter X.env v = pure v) :
    PE X (.Call (.Name "all" p) [.GeneratorExp elt [⟨tg, iter, ifs, 0⟩] scope gpos] [] pos) (tAllX P wi g tt te (own.map (·.2))) := by
  constructor
  intro pins s σ H Q I h
  have star : starEach [Expr.GeneratorExp elt [⟨tg, iter, ifs, 0⟩] scope gpos] X.env = (false, eval (.GeneratorExp elt [⟨tg, iter, ifs, 0⟩] scope gpos) X.env) :: starEach [] X.env := rfl
  refine wpAny_Call_Name_kw (ld_blt I hgl hm (by decide +kernel : bootBuiltins "all" = some (.builtin "all")) ?_)
  refine PyProof.Rows.callWith_builtin1 ?_ star (by rfl)
  rw [star]
  show wpAny _ _ (spliced ((false, eval _ X.env) :: backTo pos (starEach [] X.env))) _ _ s
  refine Calls.spliced_cons (thn (gen_make allY_mono room sp.tab sp.code sp.nd hi sp.ok sp.nocell sp.dot sp.co hg ht he fold I h) fun u s1 hu => ?_)
  exact Calls.spliced_nil (made_all hgd room I.ok.frames hu)
theorem pe_anyX (hgd : X.A.guards = some []) (room : Room (k + 1) X.A) (hgl : Gl X "any") (hm : X.mg "any" = none) (sp : Spot X P scope own c) (hi : PI X tg iter wi) (hg : InG X k (fun Y => PG Y tg g) scope) (ht : InG X k (fun Y => PTs Y ifs tt) scope) (he : InG X k (fun Y => PE Y elt te) scope) (fold : ∀ v, genFold iter X.env v = pure v) :
    PE X (.Call (.Name "any" p) [.GeneratorExp elt [⟨tg, iter, ifs, 0⟩] scope gpos] [] pos) (tAnyX P wi g tt te (own.map (·.2))) := by
  constructor
  intro pins s σ H Q I h
  have star : starEach [Expr.GeneratorExp elt [⟨tg, iter, ifs, 0⟩] scope gpos] X.env = (false, eval (.GeneratorExp elt [⟨tg, iter, ifs, 0⟩] scope gpos) X.env) :: starEach [] X.env := rfl
  refine wpAny_Call_Name_kw (ld_blt I hgl hm (by decide +kernel : bootBuiltins "any" = some (.builtin "any")) ?_)
  refine PyProof.Rows.callWith_builtin1 ?_ star (by rfl)
  rw [star]
  show wpAny _ _ (spliced ((false, eval _ X.env) :: backTo pos (starEach [] X.env))) _ _ s
  refine Calls.spliced_cons (thn (gen_make anyY_mono room sp.tab sp.code sp.nd hi sp.ok sp.nocell sp.dot sp.co hg ht he fold I h) fun u s1 hu => ?_)
  exact Calls.spliced_nil (made_any hgd room I.ok.frames hu)
theorem pe_tupX (hgd : X.A.guards = some []) (room : Room (k + 1) X.A) (hgl : Gl X "tuple") (hm : X.mg "tuple" = none) (sp : Spot X P scope own c) (hi : PI X tg iter wi) (hg : InG X k (fun Y => PG Y tg g) scope) (ht : InG X k (fun Y => PTs Y ifs tt) scope) (he : InG X k (fun Y => PE Y elt te) scope) (fold : ∀ v, genFold iter X.env v = pure v) :
    PE X (.Call (.Name "tuple" p) [.GeneratorExp elt [⟨tg, iter, ifs, 0⟩] scope gpos] [] pos) (tTupX P wi g tt te (own.map (·.2))) := by
  constructor
  intro pins s σ H Q I h
  have star : starEach [Expr.GeneratorExp elt [⟨tg, iter, ifs, 0⟩] scope gpos] X.env = (false, eval (.GeneratorExp elt [⟨tg, iter, ifs, 0⟩] scope gpos) X.env) :: starEach [] X.env := rfl
  refine wpAny_Call_Name_kw (ld_blt I hgl hm boot_tuple ?_)
  refine PyProof.Rows.callWith_type1 ?_ star (by rfl)
  rw [star]
  show wpAny _ _ (spliced ((false, eval _ X.env) :: backTo pos (starEach [] X.env))) _ _ s
  refine Calls.spliced_cons (thn (gen_make tupY_mono room sp.tab sp.code sp.nd hi sp.ok sp.nocell sp.dot sp.co hg ht he fold I h) fun u s1 hu => ?_)
  exact Calls.spliced_nil (made_tup hgd room I.ok.frames hu)
end
end GX
set_option maxHeartbeats 4000000
/-! ### all, any, tuple of a generator expression over data -/
namespace DL
open PySem PySem.Spec PyProof.Rows L2 GX
section
variable {K : Fg} {T : List Addr}
/-- the loop stops at a value that is b0 -/
def loopB (b0 : Bool) (q : Fg') (c : Ft) (f : Fe) (env0 : List Sl) : List D → Dk → Option (Bool × Dk)
  | [], k => some (!b0, k)
  | d :: ds, k => (q (.dat d) env0).bind fun e1 => (c e1 k).bind fun b => if b.1 = true then (f e1 b.2).bind fun y => match y.1 with
      | .dat (.bool x) => if x = b0 then some (b0, y.2) else loopB b0 q c f env0 ds y.2
      | _ => none
    else loopB b0 q c f env0 ds b.2
def fAllX (fi : Fw) (q : Fg') (c : Ft) (f : Fe) (vs : List Nat) : Fe := fun env k => (fi env k).bind fun p => (loopB false q c f (wipeE env vs) p.1 p.2).map fun r => (.dat (.bool r.1), r.2)
def fAnyX (fi : Fw) (q : Fg') (c : Ft) (f : Fe) (vs : List Nat) : Fe := fun env k => (fi env k).bind fun p => (loopB true q c f (wipeE env vs) p.1 p.2).map fun r => (.dat (.bool r.1), r.2)
def fTupX (fi : Fw) (q : Fg') (c : Ft) (f : Fe) (vs : List Nat) : Fe := fun env k => (fi env k).bind fun p => (loopC q c f (wipeE env vs) p.1 [] p.2).map fun r => (.dat (.tuple r.1), r.2)
/-- what the walked thing is to give, while the state stays -/
structure WkG (K : Fg) (dm : Dm) (A : List Addr) (H : Hp) (J : It) (ds : List D) : Prop where
  go : ∀ H2, Lt dm H H2 → ∀ (i : Nat) d, ds[i]? = some d → J.go i H2
  yl : ∀ H2, Lt dm H H2 → (∀ b ∈ A, H2 b ≠ none) → ∀ (i : Nat) d, ds[i]? = some d → ∀ x H3, J.yld i H2 x H3 → (H3 = H2 ∨ ∃ p o, H2 p = none ∧ H3 = upd H2 p o) ∧ Is K (hide A H3) x d
  st : ∀ H2, Lt dm H H2 → ∀ i : Nat, ds.length ≤ i → J.stop i H2
def DIG (K : Fg) (T : List Addr) (wi : TI) (fi : Fw) : Prop := ∀ dm A0 H0 A σ H env k (R : It → Hp → Prop), Sta K T dm A0 H0 A σ H env k → ∀ ds k', fi env k = some (ds, k') →
  (∀ J H', Sta K T dm A0 H0 A σ H' env k' → Lt dm H H' → WkG K dm A H' J ds → R J H') → wi σ H R
theorem dig_of {wi : TI} {fi : Fw} (h : DI K T wi fi) : DIG K T wi fi := by
  intro dm A0 H0 A σ H env k R S ds k' e q
  refine h dm A0 H0 A σ H env k R S ds k' e fun J H' S' l w => q J H' S' l ⟨fun H2 l2 => w.go A H2 (tr_of_lt S'.wd l2), fun H2 l2 => w.yl A H2 (tr_of_lt S'.wd l2), fun H2 l2 => w.st A H2 (tr_of_lt S'.wd l2)⟩
theorem dig_ofC {wi : TI} {fi : Fw} (h : DIC K T wi fi) : DIG K T wi fi := by
  intro dm A0 H0 A σ H env k R S ds k' e q
  refine h dm A0 H0 A σ H env k R S ds k' e fun J H' S' l w => q J H' S' l ⟨fun H2 l2 => w.go A H2 l2 fun b hb => .inl hb, fun H2 l2 => w.yl A H2 l2 fun b hb => .inl hb, fun H2 l2 => w.st A H2 l2 fun b hb => .inl hb⟩
variable {P : Addr} {wi : TI} {fi : Fw} {g : TG} {q : Fg'} {l : List Nat} {tt : TT} {c : Ft} {te : TE} {fe : Fe} {vs : List Nat}
theorem loopB_core {b0 : Bool} {dm : Dm} {A0 : List Addr} {H0 : Hp} {A : List Addr} {σ : List (Option V)} {H1 : Hp} {env : List Sl} {k1 : Dk} {J : It} {ds : List D} {r : Bool × Dk} {sQ : List V → Hp → Prop} {yQ : List V → V → Hp → Prop → Prop}
    (h2 : DG K T g q l) (h3 : DT K T tt c) (h4 : DE K T te fe) (hl : ∀ j ∈ l, j ∈ vs) (S1 : Sta K T dm A0 H0 A σ H1 env k1) (w : WkG K dm A H1 J ds) (er : loopB b0 q c fe (wipeE env vs) ds k1 = some r)
    (fin : ∀ H2, Sta K T dm A0 H0 A (L2.wipe σ vs) H2 (wipeE env vs) r.2 → Lt dm H1 H2 → r.1 = (!b0) → ∀ acc, sQ acc H2)
    (yes : ∀ acc H2 x N, (x = b0 → ∀ k2, Sta K T dm A0 H0 A (L2.wipe σ vs) H2 (wipeE env vs) k2 → Lt dm H1 H2 → r = (b0, k2) → yQ acc (.bl x) H2 N) ∧ (x ≠ b0 → N → yQ acc (.bl x) H2 N)) :
    ∃ W : Nat → Nat → List V → Hp → Prop, (∃ m, W 0 m [] H1) ∧ tWlk J g tt te vs σ sQ yQ W := by
  have S1w := S1.wipe vs
  refine ⟨fun i m _ H2 => ∃ k2, Sta K T dm A0 H0 A (L2.wipe σ vs) H2 (wipeE env vs) k2 ∧ Lt dm H1 H2 ∧ m = ds.length - i ∧ i ≤ ds.length ∧ loopB b0 q c fe (wipeE env vs) (ds.drop i) k2 = some r,
    ⟨ds.length, k1, S1w, Lt.refl _ _, rfl, Nat.zero_le _, er⟩, fun i m acc H2 ⟨k2, S2, l2, em, hi, el⟩ => ?_⟩
  by_cases hlt : i < ds.length
  · refine .inr ⟨w.go H2 l2 i ds[i] (List.getElem?_eq_getElem hlt), fun _ H3 => ∃ k3, Sta K T dm A0 H0 A (L2.wipe σ vs) H3 (wipeE env vs) k3 ∧ Lt dm H1 H3 ∧ loopB b0 q c fe (wipeE env vs) (ds.drop (i + 1)) k3 = some r,
      fun _ H3 ⟨k3, S3, l3, el⟩ => ⟨ds.length - (i + 1), by omega, k3, S3, l3, rfl, hlt, el⟩, fun x H3 y => ?_⟩
    obtain ⟨hH3, ix⟩ := w.yl H2 l2 S2.wd.dom i ds[i] (List.getElem?_eq_getElem hlt) x H3 y
    obtain ⟨S3, l3⟩ := S2.yield hH3
    rw [List.drop_eq_getElem_cons hlt] at el
    unfold loopB at el
    cases eq : q (.dat ds[i]) (wipeE env vs) with
    | none => rw [eq] at el; cases el
    | some e1 =>
      rw [eq] at el
      simp only [Option.bind_some] at el
      cases ec : c e1 k2 with
      | none => rw [ec] at el; cases el
      | some b =>
        obtain ⟨b, k3⟩ := b
        rw [ec] at el
        simp only [Option.bind_some] at el
        refine h2 dm A0 H0 _ _ H3 _ k2 x (.dat ds[i]) _ S3 ix e1 eq fun σ4 S4 cg => ⟨(wipe_eq cg hl).trans (wipe_eq (wipe_chg σ vs) fun _ h => h), ?_⟩
        refine h3 dm A0 H0 _ σ4 H3 e1 k2 _ S4 b k3 ec fun H4 S5 l4 => ?_
        cases b with
        | false =>
          simp only [Bool.false_eq_true, if_false] at el
          exact iteF ⟨k3, S2.at S5.wd (l3.trans l4), l2.trans (l3.trans l4), el⟩
        | true =>
          simp only [if_true] at el
          refine iteT ?_
          cases ef : fe e1 k3 with
          | none => rw [ef] at el; cases el
          | some z =>
            obtain ⟨z, k4⟩ := z
            rw [ef] at el
            simp only [Option.bind_some] at el
            cases z with
            | dat d =>
              cases d with
              | bool x0 =>
                simp only at el
                refine h4 dm A0 H0 _ σ4 H4 e1 k3 _ S5 (.dat (.bool x0)) k4 ef fun v H5 S6 l5 iv => ?_
                have iv : Is K (hide A H5) v (.bool x0) := iv
                cases iv
                have l25 : Lt dm H2 H5 := (l3.trans l4).trans l5
                have S25 := S2.at S6.wd l25
                obtain ⟨y1, y2⟩ := yes acc H5 x0 (∃ k3, Sta K T dm A0 H0 A (L2.wipe σ vs) H5 (wipeE env vs) k3 ∧ Lt dm H1 H5 ∧ loopB b0 q c fe (wipeE env vs) (ds.drop (i + 1)) k3 = some r)
                by_cases hx : x0 = b0
                · rw [if_pos hx] at el
                  cases el
                  exact y1 hx k4 S25 (l2.trans l25) rfl
                · rw [if_neg hx] at el
                  exact y2 hx ⟨k4, S25, l2.trans l25, el⟩
              | _ => cases el
            | _ => cases el
  · have ei : i = ds.length := by omega
    subst ei
    rw [List.drop_length] at el
    unfold loopB at el
    cases el
    exact .inl ⟨w.st H2 l2 _ (Nat.le_refl _), fin H2 S2 l2 rfl acc⟩
theorem wkg_tab {dm : Dm} {A : List Addr} {H1 H2 : Hp} {J : It} {ds : List D} (w : WkG K dm A H1 J ds) (l : Lt dm H1 H2) : WkG K dm A H2 J ds :=
  ⟨fun H3 l3 => w.go H3 (l.trans l3), fun H3 l3 => w.yl H3 (l.trans l3), fun H3 l3 => w.st H3 (l.trans l3)⟩
theorem de_allX (hP : P ∈ T) (h1 : DIG K T wi fi) (h2 : DG K T g q l) (h3 : DT K T tt c) (h4 : DE K T te fe) (hl : ∀ j ∈ l, j ∈ vs) : DE K T (tAllX P wi g tt te vs) (fAllX fi q c fe vs) := by
  intro dm A0 H0 A σ H env k Q S s k' hf hQ
  unfold fAllX at hf
  cases e : fi env k with
  | none => rw [e] at hf; cases hf
  | some p =>
    obtain ⟨ds, k1⟩ := p
    rw [e] at hf
    simp only [Option.bind_some] at hf
    cases er : loopB false q c fe (wipeE env vs) ds k1 with
    | none => rw [er] at hf; cases hf
    | some r =>
      rw [er] at hf
      cases hf
      refine h1 dm A0 H0 A σ H env k _ S ds k1 e fun J H1 S1 l1 w => ⟨S1.wd.tab P hP, fun H2 tb => ?_⟩
      obtain ⟨S2, l2⟩ := sta_tab hP S1 tb
      refine loopB_core h2 h3 h4 hl S2 (wkg_tab w l2) er (fun H3 S3 l3 er2 acc => ?_) fun acc H3 x N => ⟨fun ex k3 S3 l3 e3 => ⟨x, rfl, fun z => ?_, fun _ => ?_⟩, fun ex n => ⟨x, rfl, fun _ => n, fun z => absurd z ex⟩⟩
      · have := hQ (.bl true) H3 (S2.at S3.wd l3) ((l1.trans l2).trans l3) (by rw [er2]; exact Is.bl _)
        exact this
      · rw [ex] at z; cases z
      · subst ex
        rw [e3] at hQ
        exact hQ (.bl false) H3 (S2.at S3.wd l3) ((l1.trans l2).trans l3) (Is.bl _)
theorem de_anyX (hP : P ∈ T) (h1 : DIG K T wi fi) (h2 : DG K T g q l) (h3 : DT K T tt c) (h4 : DE K T te fe) (hl : ∀ j ∈ l, j ∈ vs) : DE K T (tAnyX P wi g tt te vs) (fAnyX fi q c fe vs) := by
  intro dm A0 H0 A σ H env k Q S s k' hf hQ
  unfold fAnyX at hf
  cases e : fi env k with
  | none => rw [e] at hf; cases hf
  | some p =>
    obtain ⟨ds, k1⟩ := p
    rw [e] at hf
    simp only [Option.bind_some] at hf
    cases er : loopB true q c fe (wipeE env vs) ds k1 with
    | none => rw [er] at hf; cases hf
    | some r =>
      rw [er] at hf
      cases hf
      refine h1 dm A0 H0 A σ H env k _ S ds k1 e fun J H1 S1 l1 w => ⟨S1.wd.tab P hP, fun H2 tb => ?_⟩
      obtain ⟨S2, l2⟩ := sta_tab hP S1 tb
      refine loopB_core h2 h3 h4 hl S2 (wkg_tab w l2) er (fun H3 S3 l3 er2 acc => ?_) fun acc H3 x N => ⟨fun ex k3 S3 l3 e3 => ⟨x, rfl, fun z => ?_, fun _ => ?_⟩, fun ex n => ⟨x, rfl, fun _ => n, fun z => absurd z ex⟩⟩
      · have := hQ (.bl false) H3 (S2.at S3.wd l3) ((l1.trans l2).trans l3) (by rw [er2]; exact Is.bl _)
        exact this
      · rw [ex] at z; cases z
      · subst ex
        rw [e3] at hQ
        exact hQ (.bl true) H3 (S2.at S3.wd l3) ((l1.trans l2).trans l3) (Is.bl _)
theorem de_tupX (hP : P ∈ T) (h1 : DIG K T wi fi) (h2 : DG K T g q l) (h3 : DT K T tt c) (h4 : DE K T te fe) (hl : ∀ j ∈ l, j ∈ vs) : DE K T (tTupX P wi g tt te vs) (fTupX fi q c fe vs) := by
  intro dm A0 H0 A σ H env k Q S s k' hf hQ
  unfold fTupX at hf
  cases e : fi env k with
  | none => rw [e] at hf; cases hf
  | some p =>
    obtain ⟨ds, k1⟩ := p
    rw [e] at hf
    simp only [Option.bind_some] at hf
    cases er : loopC q c fe (wipeE env vs) ds [] k1 with
    | none => rw [er] at hf; cases hf
    | some r =>
      rw [er] at hf
      cases hf
      refine h1 dm A0 H0 A σ H env k _ S ds k1 e fun J H1' S1' l1 w' => ⟨S1'.wd.tab P hP, fun H1 tb => ?_⟩
      obtain ⟨S1, l2'⟩ := sta_tab hP S1' tb
      have w := wkg_tab w' l2'
      have S1w := S1.wipe vs
      refine ⟨fun i m ws H2 => ∃ acc k2, Sta K T dm A0 H0 A (L2.wipe σ vs) H2 (wipeE env vs) k2 ∧ Lt dm H1 H2 ∧ IsL K (hide A H2) ws acc ∧ acc.length ≤ 1000000 ∧ m = ds.length - i ∧ i ≤ ds.length ∧ loopC q c fe (wipeE env vs) (ds.drop i) acc k2 = some r,
        ⟨ds.length, [], k1, S1w, Lt.refl _ _, .nil, Nat.zero_le _, rfl, Nat.zero_le _, er⟩, fun i m ws H2 ⟨acc, k2, S2, l2, il, ac, em, hi, el⟩ => ?_⟩
      by_cases hlt : i < ds.length
      · refine .inr ⟨w.go H2 l2 i ds[i] (List.getElem?_eq_getElem hlt), fun ws H3 => ∃ acc k3, Sta K T dm A0 H0 A (L2.wipe σ vs) H3 (wipeE env vs) k3 ∧ Lt dm H1 H3 ∧ IsL K (hide A H3) ws acc ∧ acc.length ≤ 1000000 ∧ loopC q c fe (wipeE env vs) (ds.drop (i + 1)) acc k3 = some r,
          fun ws H3 ⟨acc, k3, S3, l3, il, ac, el⟩ => ⟨ds.length - (i + 1), by omega, acc, k3, S3, l3, il, ac, rfl, hlt, el⟩, fun x H3 y => ?_⟩
        obtain ⟨hH3, ix⟩ := w.yl H2 l2 S2.wd.dom i ds[i] (List.getElem?_eq_getElem hlt) x H3 y
        obtain ⟨S3, l3⟩ := S2.yield hH3
        rw [List.drop_eq_getElem_cons hlt] at el
        unfold loopC at el
        cases eq : q (.dat ds[i]) (wipeE env vs) with
        | none => rw [eq] at el; cases el
        | some e1 =>
          rw [eq] at el
          simp only [Option.bind_some] at el
          cases ec : c e1 k2 with
          | none => rw [ec] at el; cases el
          | some b =>
            obtain ⟨b, k3⟩ := b
            rw [ec] at el
            simp only [Option.bind_some] at el
            refine h2 dm A0 H0 _ _ H3 _ k2 x (.dat ds[i]) _ S3 ix e1 eq fun σ4 S4 cg => ⟨(wipe_eq cg hl).trans (wipe_eq (wipe_chg σ vs) fun _ h => h), ?_⟩
            refine h3 dm A0 H0 _ σ4 H3 e1 k2 _ S4 b k3 ec fun H4 S5 l4 => ?_
            cases b with
            | false =>
              simp only [Bool.false_eq_true, if_false] at el
              exact iteF ⟨acc, k3, S2.at S5.wd (l3.trans l4), l2.trans (l3.trans l4), IsL.kp ((l3.trans l4).kp S2.wd) il, ac, el⟩
            | true =>
              simp only [if_true] at el
              refine iteT ?_
              cases ef : fe e1 k3 with
              | none => rw [ef] at el; cases el
              | some z =>
                obtain ⟨z, k4⟩ := z
                rw [ef] at el
                simp only [Option.bind_some] at el
                cases z with
                | dat d =>
                  simp only at el
                  by_cases hc : acc.length < 1000000
                  · rw [if_pos hc] at el
                    refine h4 dm A0 H0 _ σ4 H4 e1 k3 _ S5 (.dat d) k4 ef fun v H5 S6 l5 iv => ?_
                    have l25 : Lt dm H2 H5 := (l3.trans l4).trans l5
                    have il5 := IsL.kp (l25.kp S2.wd) il
                    exact ⟨Nat.lt_of_lt_of_le (by rw [il.len]; exact hc) (by decide), acc ++ [d], k4, S2.at S6.wd l25, l2.trans l25, il5.app (.cons iv .nil), by rw [List.length_append, List.length_singleton]; omega, el⟩
                  · rw [if_neg hc] at el; cases el
                | _ => cases el
      · have ei : i = ds.length := by omega
        subst ei
        rw [List.drop_length] at el
        unfold loopC at el
        cases el
        refine .inl ⟨w.st H2 l2 _ (Nat.le_refl _), Nat.le_trans (by rw [il.len]; exact ac) (by decide), fun p hp => ?_⟩
        have S3 := S1.at S2.wd l2
        exact hQ _ _ (S3.new hp) (((l1.trans l2').trans l2).trans (Lt.new hp)) (mk_tup S3.wd hp il)
end
end DL
set_option maxHeartbeats 4000000
namespace DL
open PySem PySem.Spec PyProof.Rows L2
section
variable {K : Fg} {T : List Addr} {ta tb : TE} {f g : Fe}
/-! ### bits -/
def cShr (_ j : Int) : Bool := decide (0 ≤ j)
def cShl (i j : Int) : Bool := decide (0 ≤ j) && decide (j ≤ 1000000) && decide (i.natAbs < 2 ^ 64)
def fShr : Fe → Fe → Fe := f2 (gII cShr fun i j => .int (i / 2 ^ j.toNat))
def fShl : Fe → Fe → Fe := f2 (gII cShl fun i j => .int (i * 2 ^ j.toNat))
def fBand : Fe → Fe → Fe := f2 (gII c0 fun i j => .int (Builtin.bitAnd i j))
theorem de_shr (h1 : DE K T ta f) (h2 : DE K T tb g) : DE K T (tOp (rI (fun _ j => 0 ≤ j) fun i j => .int (i / 2 ^ j.toNat)) ta tb) (fShr f g) :=
  de_ii h1 h2 (fun i j H Q c q => ⟨i, j, rfl, rfl, of_decide_eq_true c, q⟩) fun _ _ _ => .int _
theorem de_shl (h1 : DE K T ta f) (h2 : DE K T tb g) : DE K T (tOp (rI CPow fun i j => .int (i * 2 ^ j.toNat)) ta tb) (fShl f g) :=
  de_ii h1 h2 (fun i j H Q c q => ⟨i, j, rfl, rfl, by
    unfold cShl at c
    simp only [Bool.and_eq_true, decide_eq_true_eq] at c
    exact ⟨c.1.1, c.1.2, c.2⟩, q⟩) fun _ _ _ => .int _
theorem de_band (h1 : DE K T ta f) (h2 : DE K T tb g) : DE K T (tOp (rI0 fun i j => .int (Builtin.bitAnd i j)) ta tb) (fBand f g) :=
  de_ii h1 h2 (fun i j H Q _ q => ⟨i, j, rfl, rfl, q⟩) fun _ _ _ => .int _
def fBits (f : Fe) : Fe := f1 (gI (fun _ => true) fun i => .int (Builtin.Int.intBits i : Nat)) f
theorem de_bits (h1 : DE K T ta f) : DE K T (tBits ta) (fBits f) := by
  intro dm A0 H0 A σ H env k Q S s k' hf hQ
  obtain ⟨a, e1, e2⟩ := f1_some hf
  obtain ⟨z, rfl, _, rfl⟩ := gI_some e2
  refine h1 dm A0 H0 A σ H env k _ S _ _ e1 fun v H1 S1 l1 i1 => ?_
  rw [is_int i1]
  exact ⟨z, rfl, hQ _ H1 S1 l1 (Is.int _)⟩
/-! ### range(a, b, c) -/
def rng3 (lo c : Int) (n : Nat) : List D := (List.range n).map fun (i : Nat) => .int (lo + (i : Int) * c)
theorem rng3_at {lo c : Int} {n i : Nat} {d : D} (e : (rng3 lo c n)[i]? = some d) : i < n ∧ d = .int (lo + (i : Int) * c) := by
  unfold rng3 at e
  rw [List.getElem?_map] at e
  cases h : (List.range n)[i]? with
  | none => rw [h] at e; cases e
  | some j =>
    rw [h] at e
    obtain ⟨h1, h2⟩ := List.getElem?_eq_some_iff.mp h
    rw [List.getElem_range] at h2
    rw [List.length_range] at h1
    cases e
    exact ⟨h1, by rw [h2]⟩
theorem wk_rng3 {A : List Addr} {H : Hp} {lo c : Int} {n : Nat} : WkOk K A H (Itc lo c n) (rng3 lo c n) := by
  refine ⟨fun A2 H2 r i d e => (rng3_at e).1, fun A2 H2 r _ i d e x H3 y => ?_, fun A2 H2 r i hi => by unfold rng3 at hi; rw [List.length_map, List.length_range] at hi; exact hi⟩
  obtain ⟨rfl, rfl⟩ := y
  rw [(rng3_at e).2]
  exact ⟨.inl rfl, .int _⟩
/-- a range upwards, its ends small -/
def wRng3 (h : Fl) : Fw := fun env k => match h env k with
  | some ([.dat (.int i), .dat (.int j), .dat (.int c)], k') => if 0 < c ∧ c < 1073741824 ∧ Builtin.Range.small i j c = true ∧ 0 ≤ Builtin.Range.rangeSize i j c then some (rng3 i c (Builtin.Range.rangeSize i j c).toNat, k') else none
  | _ => none
theorem di_rng3 {t : TA} {h : Fl} (h1 : DA K T t h) : DI K T (iRng3 t) (wRng3 h) := by
  intro dm A0 H0 A σ H env k R S ds k' hf hR
  unfold wRng3 at hf
  split at hf
  · rename_i i j c k1 e
    by_cases hc : 0 < c ∧ c < 1073741824 ∧ Builtin.Range.small i j c = true ∧ 0 ≤ Builtin.Range.rangeSize i j c
    · rw [if_pos hc] at hf
      cases hf
      refine h1 dm A0 H0 A σ H env k _ S _ k' e fun vs H' S' l is => ?_
      cases is with
      | cons i1 is =>
        cases is with
        | cons i2 is =>
          cases is with
          | cons i3 is =>
            cases is
            rw [is_int i1, is_int i2, is_int i3]
            exact ⟨i, j, c, _, rfl, ⟨by omega, by omega, hc.2.2.1, by omega⟩, hR _ H' S' l wk_rng3⟩
    · rw [if_neg hc] at hf; cases hf
  · cases hf
/-! ### x[i] = e, the place read -/
def sSetX (i : Nat) (g : Fe) (f : Fe) : Fs := fun env k => match f env k with
  | some (.dat d, k1) => match g env k1 with
    | some (.dat (.int c), k2) => match setOwn i c d env with
      | some env' => .nx env' k2
      | none => .bad
    | _ => .bad
  | _ => .bad
theorem ds_setX {i : Nat} (h1 : DE K T ta f) (h2 : DE K T tb g) : DS K T (tAsg ta (gSub (tVar i) tb rSetL)) (sSetX i g f) := by
  intro dm A0 H0 A σ H env k E S o
  unfold sSetX at o
  split at o
  · rename_i d k1 e1
    split at o
    · rename_i c k2 e2
      split at o
      · rename_i env' e3
        refine h1 dm A0 H0 A σ H env k _ S _ k1 e1 fun y H1 S1 l1 iy => ?_
        have iy : Is K (hide A H1) y d := iy
        unfold setOwn at e3
        split at e3
        · rename_i ds e4
          cases e5 : ixN ds.length c with
          | none => rw [e5] at e3; cases e3
          | some j =>
            rw [e5] at e3
            cases e3
            have q := S1.slot i
            rw [e4] at q
            obtain ⟨p, vs, hs, hA, h0, H0p, hp, il⟩ := q
            refine ⟨.ref p, hs, ?_⟩
            refine h2 dm A0 H0 A σ H1 env k1 _ S1 _ k2 e2 fun z H2 S2 l2 iz => ?_
            rw [is_int iz]
            have q2 := S2.slot i
            rw [e4] at q2
            obtain ⟨p', vs', hs', hA', h0', H0p', hp', il'⟩ := q2
            rw [hs] at hs'
            cases hs'
            obtain ⟨S3, t, hh⟩ := own_upd S2 e4 hs hA h0 H0p hp' (il'.put (Is.kp (l2.kp S1.wd) iy) j)
            exact ⟨p, vs', c, j, rfl, rfl, hp', by rw [il'.len]; exact e5, o A _ _ S3 ((tr_of_lt S.wd (l1.trans l2)).trans t)⟩
        · cases e3
      · exact o.elim
    · exact o.elim
  · exact o.elim
/-! ### operators over what may raise -/
theorem Sta.ext {dm : Dm} {A0 : List Addr} {H0 : Hp} {A : List Addr} {σ : List (Option V)} {H : Hp} {env : List Sl} {k : Dk} {v : V} {d : D} (S : Sta K T dm A0 H0 A σ H env k) (iv : Is K (hide A H) v d) : Sta K T dm A0 H0 A (σ ++ [some v]) H (env ++ [.dat d]) k := by
  refine ⟨S.wd, S.lt, S.sub, S.dom0, S.dm0, by rw [List.length_append, List.length_append, S.len]; rfl, fun i => ?_, fun a b p ds es h1 h2 h3 h4 => ?_⟩
  · by_cases hi : i < env.length
    · rw [List.getElem?_append_left hi, List.getElem?_append_left (by rw [S.len]; exact hi)]
      exact S.slot i
    · by_cases he : i = env.length
      · subst he
        rw [List.getElem?_concat_length]
        exact ⟨v, by rw [← S.len, List.getElem?_concat_length], iv⟩
      · rw [List.getElem?_eq_none (l := env ++ _) (by rw [List.length_append, List.length_singleton]; omega)]
        exact trivial
  · have lt : ∀ {a : Nat} {ds : List D}, (env ++ [Sl.dat d])[a]? = some (Sl.own ds) → a < env.length := fun {a ds} h => by
      rcases Nat.lt_or_ge a env.length with q | q
      · exact q
      · rw [List.getElem?_append_right q] at h
        cases hz : a - env.length with
        | zero => rw [hz] at h; cases h
        | succ n => rw [hz] at h; simp at h
    have la := lt h1
    have lb := lt h2
    rw [List.getElem?_append_left la] at h1
    rw [List.getElem?_append_left lb] at h2
    rw [List.getElem?_append_left (by rw [S.len]; exact la)] at h3
    rw [List.getElem?_append_left (by rw [S.len]; exact lb)] at h4
    exact S.uniq a b p ds es h1 h2 h3 h4
theorem Sta.cut {dm : Dm} {A0 : List Addr} {H0 : Hp} {A : List Addr} {σ : List (Option V)} {H : Hp} {env : List Sl} {k : Dk} {x : Option V} {y : Sl} (S : Sta K T dm A0 H0 A (σ ++ [x]) H (env ++ [y]) k) : Sta K T dm A0 H0 A σ H env k := by
  have hl : σ.length = env.length := by
    have := S.len
    rw [List.length_append, List.length_append] at this
    simpa using this
  refine ⟨S.wd, S.lt, S.sub, S.dom0, S.dm0, hl, fun i => ?_, fun a b p ds es h1 h2 h3 h4 => ?_⟩
  · by_cases hi : i < env.length
    · have q := S.slot i
      rw [List.getElem?_append_left hi, List.getElem?_append_left (by rw [hl]; exact hi)] at q
      exact q
    · rw [List.getElem?_eq_none (l := env) (by omega)]
      exact trivial
  · have la := (List.getElem?_eq_some_iff.mp h1).1
    have lb := (List.getElem?_eq_some_iff.mp h2).1
    exact S.uniq a b p ds es (by rw [List.getElem?_append_left la]; exact h1) (by rw [List.getElem?_append_left lb]; exact h2) (by rw [List.getElem?_append_left (by rw [hl]; exact la)]; exact h3) (by rw [List.getElem?_append_left (by rw [hl]; exact lb)]; exact h4)
variable {cl : Cls_}
def x2 (q : Sl → Sl → Option Sl) (r1 r2 : Rx Sl) : Rx Sl := fun env k => match r1 env k with
  | .ok (.dat d, k1) => (match r2 env k1 with
    | .ok (.dat e, k2) => (match q (.dat d) (.dat e) with
      | some s => .ok (s, k2)
      | none => .no)
    | .ok _ => .no
    | .ex x k2 => .ex x k2
    | .no => .no)
  | .ok _ => .no
  | .ex x k1 => .ex x k1
  | .no => .no
theorem dex_2 {t1 t2 : WX → TE} {r1 r2 : Rx Sl} {r : R2} {q : Sl → Sl → Option Sl} (hop : ∀ (ta tb : TE) (f g : Fe), DE K T ta f → DE K T tb g → DE K T (tOp r ta tb) (f2 q f g)) (h1 : DEX K T cl t1 r1) (h2 : DEX K T cl t2 r2) :
    DEX K T cl (fun W => tOp r (t1 W) (t2 W)) (x2 q r1 r2) := by
  intro W dm A0 H0 A σ H env k Q S o
  refine h1 W dm A0 H0 A σ H env k _ S ?_
  unfold x2 at o
  cases e1 : r1 env k with
  | no => rw [e1] at o; exact o.elim
  | ex x k1 => rw [e1] at o; exact o
  | ok p =>
    obtain ⟨s1, k1⟩ := p
    rw [e1] at o
    cases s1 with
    | dat d =>
      simp only at o ⊢
      intro x H1 S1 l1 i1
      refine h2 W dm A0 H0 A σ H1 env k1 _ S1 ?_
      cases e2 : r2 env k1 with
      | no => rw [e2] at o; exact o.elim
      | ex x2 k2 => rw [e2] at o; exact fun H' cls d S' l' x' => o H' cls d S' (l1.trans l') x'
      | ok p =>
        obtain ⟨s2, k2⟩ := p
        rw [e2] at o
        cases s2 with
        | dat e =>
          simp only at o ⊢
          intro y H2 S2 l2 i2
          cases e3 : q (.dat d) (.dat e) with
          | none => rw [e3] at o; exact o.elim
          | some s =>
            rw [e3] at o
            simp only at o
            have i1' : Is K (hide A H2) x d := Is.kp (l2.kp S1.wd) i1
            have Sa := S2.ext i1'
            have Sb := Sa.ext (v := y) (d := e) i2
            have ln : env.length < (env ++ [Sl.dat d]).length := by rw [List.length_append]; exact Nat.lt_succ_self _
            have v1 : fVar env.length ((env ++ [.dat d]) ++ [.dat e]) k2 = some (.dat d, k2) := by
              unfold fVar
              rw [List.getElem?_append_left ln, List.getElem?_concat_length]
            have v2 : fVar (env.length + 1) ((env ++ [.dat d]) ++ [.dat e]) k2 = some (.dat e, k2) := by
              unfold fVar
              have : env.length + 1 = (env ++ [Sl.dat d]).length := by rw [List.length_append]; rfl
              rw [this, List.getElem?_concat_length]
            have hf : f2 q (fVar env.length) (fVar (env.length + 1)) ((env ++ [.dat d]) ++ [.dat e]) k2 = some (s, k2) := by
              unfold f2
              simp only [v1, v2, e3, Option.bind_some, Option.map_some]
            have := hop _ _ _ _ (de_var env.length) (de_var (env.length + 1)) dm A0 H0 A _ H2 _ k2 Q Sb s k2 hf fun v H' S' l' i' => o v H' S'.cut.cut ((l1.trans l2).trans l') i'
            obtain ⟨x', hx, y', hy, hr⟩ := this
            have lx : σ.length < (σ ++ [some x]).length := by rw [List.length_append]; exact Nat.lt_succ_self _
            rw [← S.len, List.getElem?_append_left lx, List.getElem?_concat_length] at hx
            have ly : env.length + 1 = (σ ++ [some x]).length := by rw [List.length_append, S.len]; rfl
            rw [ly, List.getElem?_concat_length] at hy
            cases hx
            cases hy
            exact hr
        | _ => exact o.elim
    | _ => exact o.elim
end
end DL
set_option maxHeartbeats 4000000
namespace DL
open PySem PySem.Spec PyProof.Rows L2
/-! ### str of any data but texts -/
def isStrD : D → Bool
  | .str _ => true
  | _ => false
def rStrU (K : Fg) : List V → Hp → VK → Prop := fun vs H Q => ∃ v d A, vs = [v] ∧ Is K (hide A H) v d ∧ okShow d = true ∧ isStrD d = false ∧ Q (.str d.shown) H
section
variable {X : Cx}
theorem call_strU (hgd : X.A.guards = some []) (hu : X.A.units + 64 < cLine) (hsy : ∃ o, X.base.get? sysModules = some o) : CallR X (.type "str") (rStrU X.K) := by
  intro pins s σ H vs us Q I r h
  obtain ⟨v, d, A, rfl, isd, ok, ns, q⟩ := h
  unfold okShow at ok
  simp only [Bool.and_eq_true, decide_eq_true_eq] at ok
  obtain ⟨⟨o1, o2⟩, o3⟩ := ok
  obtain ⟨u, rfl, ru⟩ := vals1 r
  have sz : d.shown.length ≤ sizeLine := Nat.le_trans o3 (by decide)
  obtain ⟨as, rd, has⟩ := Is.reads I d v u isd ru
  have fin : ∀ tk : Nat, EP X pins σ Q (.str d.shown s.toks) { s with toks := tk } := fun tk => ⟨.str d.shown, H, I.tok _, ⟨_, rfl⟩, q⟩
  have rd0 := rd
  cases rd with
  | none => exact PySem.P.str_of_none (fin _)
  | bool b => exact PySem.P.str_of_bool (by cases b <;> exact fin _)
  | int i t => exact PySem.P.str_of_int (by simpa [PyData.showable] using o1) (fin _)
  | str x t => cases ns
  | _ =>
    refine str_of_reads rd0 o1 (fun _ z => ?_) hgd (by omega) (fun _ _ e => e) (fun h' u' tk kept => ?_) sz
    · obtain ⟨o, eo⟩ := hsy
      exact has _ z (I.bs _ _ eo).2
    · exact ⟨.str _, H, I.kept (t' := tk) kept, ⟨_, rfl⟩, q⟩
end
section
variable {K : Fg} {T : List Addr} {ta : TE} {f : Fe}
def gStrU : Sl → Option Sl
  | .dat d => if okShow d = true ∧ isStrD d = false then some (.dat (.str d.shown)) else none
  | _ => none
theorem de_strU (h1 : DE K T ta f) : DE K T (tCB (rStrU K) (tCons ta tNil)) (f1 gStrU f) := de_b1 h1 (by
  intro dm A0 H0 A σ H env k x a s Q S i e hQ
  cases a with
  | dat d =>
    have e : (if okShow d = true ∧ isStrD d = false then some (Sl.dat (.str d.shown)) else none) = some s := e
    by_cases hc : okShow d = true ∧ isStrD d = false
    · rw [if_pos hc] at e
      cases e
      exact ⟨x, d, A, rfl, i, hc.1, hc.2, hQ _ H S (Lt.refl _ _) (Is.str _)⟩
    · rw [if_neg hc] at e; cases e
  | _ => cases e)
end
end DL
set_option maxHeartbeats 4000000
/-! a tuple of data times one is itself -/
namespace DL
open PySem PySem.Spec PyProof.Rows L2
theorem tuple_mulW1 (l : Addr) (items : Array Value) (n : Nat) (dd : Option Addr) (sl : Array (Option Value)) (u : Tok) :
    Meets (Builtin.«tuple.__mul__» ⟨[.ref l, .int 1 u], []⟩) (fun _ R s => s.heap.get? l = some { cls := .type "tuple", dict := dd, data := .seq items n, slots := sl } ∧
      R (.ok (.ret (Value.ref l))) s) :=
  .of_wp fun prog w A R s h => by
    obtain ⟨hp, g, d, tk, os⟩ := s
    obtain ⟨hl, h⟩ := h
    have f1 := AutoSeq1.idx_int
    wp_walk using wpAny_loadPart' hl
    exact ⟨_, rfl, h⟩
def rRep1 (K : Fg) : R2 := fun x y H Q => ∃ l xs, x = .ref l ∧ y = .int 1 ∧ SqT K H l xs ∧ Q (.ref l) H
theorem op_rep1 {X : Cx} : OpR X (binaryOp .Mult) (rRep1 X.K) := by
  intro pins s σ H x y v u Q I rx ry h
  obtain ⟨l, xs, rfl, rfl, hT, q⟩ := h
  cases rx
  obtain ⟨t, rfl⟩ := ry
  obtain ⟨its, r, ⟨⟨cls, dd, data, sl⟩, ho, hc, n, hd⟩, hs⟩ := I.tuple hT
  simp only at hc hd
  subst hc hd
  refine wpAny_binaryOp_repeat_ref (T := "tuple") (U := "int") (by decide) ⟨_, ho, rfl⟩ (fun s' => typeIs_int s' 1 t) noFill_tuple_mul F.fills_int_mul F.slot_int_rmul repeat_tuple F.slot_int_index.lookup
    (call_meets F.slot_int_rmul (typeIs_int s 1 t) F.entry_int_rmul (F.args_int_rmul_2 _ _) (int_rmul_tuple 1 t l its.toArray n dd sl)
      ⟨ho, rfl, ⟨_, ho, rfl⟩, call_meets F.slot_tuple_mul ⟨_, ho, rfl⟩ F.entry_tuple_mul (F.args_tuple_mul_2 _ _) (tuple_mulW1 l its.toArray n dd sl t) ⟨ho, ?_⟩⟩)
  exact ⟨.ref l, H, I, rfl, q⟩
section
variable {K : Fg} {T : List Addr} {ta tb : TE} {f g : Fe}
def isOne : Sl → Bool
  | .dat (.int n) => decide (n = 1)
  | _ => false
theorem isOne_some {s : Sl} (h : isOne s = true) : s = .dat (.int 1) := by
  unfold isOne at h
  split at h
  · rw [of_decide_eq_true h]
  · cases h
theorem asT_eq {s : Sl} {ds : List D} (h : asT s = some ds) : s = .dat (.tuple ds) := by
  unfold asT at h
  split at h
  · cases h; rfl
  · cases h
def gMulV : Sl → Sl → Option Sl := fun a b => if isOne b = true ∧ (asT a).isSome = true then (asT a).map fun ds => .dat (.tuple ds) else gMulT a b
def rMulV (K : Fg) : R2 := fun x y H Q => rMulT K x y H Q ∨ rRep1 K x y H Q
theorem op_mulV {X : Cx} : OpR X (binaryOp .Mult) (rMulV X.K) := op_mulT.or op_rep1
theorem de_mulV (h1 : DE K T ta f) (h2 : DE K T tb g) : DE K T (tOp (rMulV K) ta tb) (f2 gMulV f g) := de_bin h1 h2 (by
  intro dm A0 H0 A σ H env k x y a b s Q S i1 i2 e hQ
  unfold gMulV at e
  by_cases hc : isOne b = true ∧ (asT a).isSome = true
  · rw [if_pos hc] at e
    have := isOne_some hc.1
    subst this
    cases e1 : asT a with
    | none => rw [e1] at e; cases e
    | some ds =>
      rw [e1] at e
      cases e
      obtain ⟨p, vs, rfl, g1, g2, g3⟩ := is_tup i1 e1
      rw [is_int i2]
      refine .inr ⟨p, vs, rfl, rfl, g1, hQ _ H S (Lt.refl _ _) ?_⟩
      rw [asT_eq e1] at i1
      exact i1
  · rw [if_neg hc] at e
    unfold gMulT at e
    split at e
    · rename_i s' e1
      cases e
      exact .inl (.inr (repT_in (K := K) (T := T) _ _ _ _ _ _ _ _ _ _ _ _ _ _ S i1 i2 e1 hQ))
    · exact .inl (.inl (mulU_in (K := K) (T := T) _ _ _ _ _ _ _ _ _ _ _ _ _ _ S i1 i2 e hQ)))
end
end DL
set_option maxHeartbeats 4000000
/-! a comprehension over a list of the def's own -/
namespace DL
open PySem PySem.Spec PyProof.Rows L2
section
variable {K : Fg} {T : List Addr} {ta tb : TE} {f g : Fe}
theorem wk_lstC {dm : Dm} {A : List Addr} {H : Hp} {k : Dk} {p : Addr} {vs : List V} {ds : List D} (w : Wd T dm A H k) (np : Ndm dm p) (hp : H p = some (.lst vs)) (i1 : IsL K (hide A H) vs ds) : WkC K dm A H (Itl K p) ds := by
  have at1 : ∀ H2, Lt dm H H2 → SqL K H2 p vs := fun H2 l => .inl (.inl (l.keep p _ hp rfl np))
  refine ⟨fun A2 H2 l nw i d e => ?_, fun A2 H2 l nw live i d e x H3 y => ?_, fun A2 H2 l nw i hi => ⟨vs, at1 H2 l, by rw [i1.len]; exact hi⟩⟩
  · obtain ⟨v, h1, _⟩ := i1.get e
    exact ⟨vs, v, at1 H2 l, h1⟩
  · obtain ⟨rfl, y⟩ := y
    exact ⟨.inl rfl, isl_ix (IsL.kp (kp_c w l nw) i1) e (y vs (at1 _ l))⟩
theorem wk_tupC {dm : Dm} {A : List Addr} {H : Hp} {k : Dk} {p : Addr} {vs : List V} {ds : List D} (w : Wd T dm A H k) (hp : SqT K (hide A H) p vs) (il : IsL K (hide A H) vs ds) : WkC K dm A H (Itt K p) ds := by
  have at2 : ∀ A2 H2, Lt dm H H2 → (∀ b ∈ A2, b ∈ A ∨ H b = none) → SqT K H2 p vs := fun A2 H2 l nw => sqt_out ((kp_c w l nw).sqt hp)
  refine ⟨fun A2 H2 l nw i d e => ?_, fun A2 H2 l nw live i d e x H3 y => ?_, fun A2 H2 l nw i hi => ⟨vs, at2 A2 H2 l nw, by rw [il.len]; exact hi⟩⟩
  · obtain ⟨v, h1, _⟩ := il.get e
    exact ⟨vs, v, at2 A2 H2 l nw, h1⟩
  · obtain ⟨rfl, y⟩ := y
    exact ⟨.inl rfl, isl_ix (IsL.kp (kp_c w l nw) il) e (y vs (at2 A2 _ l nw))⟩
def wSeqN (f : Fe) : Fw := fun env k => match wOf asL f env k with
  | some r => some r
  | none => wOf asT f env k
theorem dic_seq (h1 : DE K T ta f) : DIC K T (iSeq K ta) (wSeqN f) := by
  intro dm A0 H0 A σ H env k R S ds k' hf hR
  unfold wSeqN at hf
  split at hf
  · rename_i r e
    cases hf
    obtain ⟨s, e1, e2⟩ := wOf_some e
    refine .inl (h1 dm A0 H0 A σ H env k _ S s k' e1 fun v H' S' l i => ?_)
    obtain ⟨p, vs, rfl, np, hp, il⟩ := is_lstN S'.wd i e2
    exact ⟨p, rfl, ⟨vs, .inl (.inl hp)⟩, hR _ H' S' l (wk_lstC S'.wd np hp il)⟩
  · obtain ⟨s, e1, e2⟩ := wOf_some hf
    refine .inr (h1 dm A0 H0 A σ H env k _ S s k' e1 fun v H' S' l i => ?_)
    obtain ⟨p, vs, rfl, hp, hp', il⟩ := is_tup i e2
    exact ⟨p, rfl, ⟨vs, hp⟩, hR _ H' S' l (wk_tupC S'.wd hp' il)⟩
end
end DL
set_option maxHeartbeats 8000000
namespace G
open PySem PySem.Spec PyProof.Rows L2 DL GX
def topS (i : Nat) : Stmt := PySem.Challenge.pw_rulertrees_k05_relations_and_their_value.main.body.getD i (.Pass ⟨0, 0, 0, 0⟩)
structure Tx (base : Heap) (mg : Str → Option Value) : Prop where
  z_gcd : mg "gcd" = some (.builtin "math.gcd")
  z_len : mg "len" = none
  z_tuple : mg "tuple" = none
  z_range : mg "range" = none
  z_isinstance : mg "isinstance" = none
  z_int : mg "int" = none
  z_bool : mg "bool" = none
  z_all : mg "all" = none
  z_max : mg "max" = none
  z_abs : mg "abs" = none
  z_list : mg "list" = none
  z_str : mg "str" = none
  z_repr : mg "repr" = none
  sys : ∃ o, base.get? sysModules = some o
def clm (C_BadPlaces C_BadRelation : Addr) : Cls_ := fun s => if s = "BadPlaces" then some C_BadPlaces else if s = "BadRelation" then some C_BadRelation else none
theorem clm_BadPlaces {C_BadPlaces C_BadRelation : Addr} : clm C_BadPlaces C_BadRelation "BadPlaces" = some C_BadPlaces := by simp [clm]
theorem clm_BadRelation {C_BadPlaces C_BadRelation : Addr} : clm C_BadPlaces C_BadRelation "BadRelation" = some C_BadRelation := by simp [clm]
/-! ### common_divisor -/
abbrev s_common_divisor : Stmt := topS 6
abbrev N_common_divisor : List Str := ["numbers", "common", "number"]
theorem sc_common_divisor : FnScope N_common_divisor ["numbers"] (defScope s_common_divisor) := ⟨rfl, rfl, rfl, by decide +kernel, rfl, by decide +kernel, by decide +kernel⟩
def g_common_divisor : Fs := (sSeq (sAsg (fC (.int 0)) (qName 1))
    (sSeq (sFor (wSeq (fVar 0)) (qName 2) (sAsg (fGcd (fVar 1) (fVar 2)) (qName 1)))
    (sRet (fVar 1))))
def f_common_divisor : Fd := fnOf 3 g_common_divisor
theorem ok_common_divisor {P : Program} {w : World} {K : Fg} {mg : Str → Option Value} {base : Heap} {T : List Addr} (tx : Tx base mg) {f : Addr} {fd : FuncData} (F : Fun K "common_divisor" "common_divisor" s_common_divisor f fd) :
    FnG P w K mg base CX0 1 f fd ["numbers"] (spF K T 1 f_common_divisor) := by
  refine fnG_of F sc_common_divisor (fun vs H Q E h => spF_len h) (fun cdv A outer s H vs Q E hg0 hr h => ?_)
  have hu := hu_of hr
  refine ⟨_, PSs.nox (pss_cons (ps_set (i := 1) sc_common_divisor.nd rfl (Or.inl rfl) pe_int)
      (pss_cons (ps_for PassesOwn.never rfl (pi_seq (pv 0)) (pg_name (i := 2) sc_common_divisor.nd rfl (Or.inl rfl)) (pss_one (ps_set (i := 1) sc_common_divisor.nd rfl (Or.inl rfl) (pe_callMB (id := "math.gcd") cr_gcd (by rfl) tx.z_gcd (pa_cons (pv 1) (pa_cons (pv 2) pa_nil))))))
      (pss_one (ps_ret (pv 1))))), spF_body (N := N_common_divisor) (g := g_common_divisor) (by decide) ?_ h⟩
  unfold g_common_divisor
  exact (ds_seq (ds_asg (de_c fun _ => .int _) (dg_name 1))
      (ds_seq (ds_for (di_seq (de_var 0)) (dg_name 2) (ds_asg (de_gcd (de_var 1) (de_var 2)) (dg_name 1)))
      (ds_ret (de_var 1))))
/-! ### sign_of_first -/
abbrev s_sign_of_first : Stmt := topS 7
abbrev N_sign_of_first : List Str := ["numbers", "number"]
theorem sc_sign_of_first : FnScope N_sign_of_first ["numbers"] (defScope s_sign_of_first) := ⟨rfl, rfl, rfl, by decide +kernel, rfl, by decide +kernel, by decide +kernel⟩
def g_sign_of_first : Fs := (sSeq (sFor (wSeq (fVar 0)) (qName 1) (sIf (fTest (fNe (fVar 1) (fC (.int 0)))) (sRet (fIf (fTest (fCmp (fun i j => decide (j < i)) (fVar 1) (fC (.int 0)))) (fC (.int 1)) (fNeg (fC (.int 1))))) sNext))
    (sRet (fC (.int 0))))
def f_sign_of_first : Fd := fnOf 2 g_sign_of_first
theorem ok_sign_of_first {P : Program} {w : World} {K : Fg} {mg : Str → Option Value} {base : Heap} {T : List Addr} (tx : Tx base mg) {f : Addr} {fd : FuncData} (F : Fun K "sign_of_first" "sign_of_first" s_sign_of_first f fd) :
    FnG P w K mg base CX0 1 f fd ["numbers"] (spF K T 1 f_sign_of_first) := by
  refine fnG_of F sc_sign_of_first (fun vs H Q E h => spF_len h) (fun cdv A outer s H vs Q E hg0 hr h => ?_)
  have hu := hu_of hr
  refine ⟨_, PSs.nox (pss_cons (ps_for PassesOwn.never rfl (pi_seq (pv 0)) (pg_name (i := 1) sc_sign_of_first.nd rfl (Or.inl rfl)) (pss_one (ps_if (pt_cmpR (op_neD hr.units) (pv 1) pe_int (nomark _)) (pss_one (ps_ret (pe_ifExp (pt_cmpR op_gt (pv 1) pe_int (nomark _)) pe_int (pe_un un_neg pe_int)))) pss_nil)))
      (pss_one (ps_ret pe_int))), spF_body (N := N_sign_of_first) (g := g_sign_of_first) (by decide) ?_ h⟩
  unfold g_sign_of_first
  exact (ds_seq (ds_for (di_seq (de_var 0)) (dg_name 1) (ds_if (dt_test (de_ne (de_var 1) (de_c fun _ => .int _))) (ds_ret (de_if (dt_test (de_cmp (p := fun i j => decide (j < i)) (de_var 1) (de_c fun _ => .int _))) (de_c fun _ => .int _) (de_neg (de_c fun _ => .int _)))) ds_next))
      (ds_ret (de_c fun _ => .int _)))
/-! ### is_short -/
abbrev s_is_short : Stmt := topS 8
abbrev N_is_short : List Str := ["numbers"]
theorem sc_is_short : FnScope N_is_short ["numbers"] (defScope s_is_short) := ⟨rfl, rfl, rfl, by decide +kernel, rfl, by decide +kernel, by decide +kernel⟩
def g_is_short : Fs := (sRet (fAnd (fEq (fCall 1 f_sign_of_first (fCons (fVar 0) fNil)) (fC (.int 1))) (fEq (fCall 1 f_common_divisor (fCons (fVar 0) fNil)) (fC (.int 1)))))
def f_is_short : Fd := fnOf 1 g_is_short
theorem ok_is_short {P : Program} {w : World} {K : Fg} {mg : Str → Option Value} {base : Heap} {T : List Addr} (tx : Tx base mg) (C_sign_of_first : Cg P w K mg base 1 "sign_of_first" ["numbers"] (spF K T 1 f_sign_of_first)) (C_common_divisor : Cg P w K mg base 1 "common_divisor" ["numbers"] (spF K T 1 f_common_divisor)) {f : Addr} {fd : FuncData} (F : Fun K "is_short" "is_short" s_is_short f fd) :
    FnG P w K mg base CX0 2 f fd ["numbers"] (spF K T 1 f_is_short) := by
  refine fnG_of F sc_is_short (fun vs H Q E h => spF_len h) (fun cdv A outer s H vs Q E hg0 hr h => ?_)
  have hu := hu_of hr
  refine ⟨_, PSs.nox (pss_one (ps_ret (pe_and (pe_cmpR (op_eqD hr.units) (pe_callC C_sign_of_first hg0 hr (by decide) (pa_cons (pv 0) pa_nil)) pe_int (nomark _)) (pe_one (pe_cmpR (op_eqD hr.units) (pe_callC C_common_divisor hg0 hr (by decide) (pa_cons (pv 0) pa_nil)) pe_int (nomark _)))))), spF_body (N := N_is_short) (g := g_is_short) (by decide) ?_ h⟩
  unfold g_is_short
  exact (ds_ret (de_and (de_eq (de_call (n := 1) (E := noX) (da_cons (de_var 0) da_nil)) (de_c fun _ => .int _)) (de_eq (de_call (n := 1) (E := noX) (da_cons (de_var 0) da_nil)) (de_c fun _ => .int _))))
/-! ### count_dials -/
abbrev s_count_dials : Stmt := topS 10
abbrev N_count_dials : List Str := ["items"]
theorem sc_count_dials : FnScope N_count_dials ["items"] (defScope s_count_dials) := ⟨rfl, rfl, rfl, by decide +kernel, rfl, by decide +kernel, by decide +kernel⟩
def g_count_dials : Fs := (sRet (fSub (fBits (f1 gLen (fVar 0))) (fC (.int 1))))
def f_count_dials : Fd := fnOf 1 g_count_dials
theorem ok_count_dials {P : Program} {w : World} {K : Fg} {mg : Str → Option Value} {base : Heap} {T : List Addr} (tx : Tx base mg) {f : Addr} {fd : FuncData} (F : Fun K "count_dials" "count_dials" s_count_dials f fd) :
    FnG P w K mg base CX0 1 f fd ["items"] (spF K T 1 f_count_dials) := by
  refine fnG_of F sc_count_dials (fun vs H Q E h => spF_len h) (fun cdv A outer s H vs Q E hg0 hr h => ?_)
  have hu := hu_of hr
  refine ⟨_, PSs.nox (pss_one (ps_ret (pe_op op_sub (pe_bits (pe_callB (id := "len") call_len_seq (by rfl) tx.z_len (by decide +kernel) (pa_cons (pv 0) pa_nil))) pe_int))), spF_body (N := N_count_dials) (g := g_count_dials) (by decide) ?_ h⟩
  unfold g_count_dials
  exact (ds_ret (de_sub (de_bits (de_len (de_var 0))) (de_c fun _ => .int _)))
/-! ### bit_span -/
abbrev s_bit_span : Stmt := topS 11
abbrev N_bit_span : List Str := ["items", "dial"]
theorem sc_bit_span : FnScope N_bit_span ["items", "dial"] (defScope s_bit_span) := ⟨rfl, rfl, rfl, by decide +kernel, rfl, by decide +kernel, by decide +kernel⟩
def g_bit_span : Fs := (sRet (fShr (f1 gLen (fVar 0)) (f2 gAddU (fVar 1) (fC (.int 1)))))
def f_bit_span : Fd := fnOf 2 g_bit_span
theorem ok_bit_span {P : Program} {w : World} {K : Fg} {mg : Str → Option Value} {base : Heap} {T : List Addr} (tx : Tx base mg) {f : Addr} {fd : FuncData} (F : Fun K "bit_span" "bit_span" s_bit_span f fd) :
    FnG P w K mg base CX0 1 f fd ["items", "dial"] (spF K T 2 f_bit_span) := by
  refine fnG_of F sc_bit_span (fun vs H Q E h => spF_len h) (fun cdv A outer s H vs Q E hg0 hr h => ?_)
  have hu := hu_of hr
  refine ⟨_, PSs.nox (pss_one (ps_ret (pe_op op_shr (pe_callB (id := "len") call_len_seq (by rfl) tx.z_len (by decide +kernel) (pa_cons (pv 0) pa_nil)) (pe_op op_addU (pv 1) pe_int)))), spF_body (N := N_bit_span) (g := g_bit_span) (by decide) ?_ h⟩
  unfold g_bit_span
  exact (ds_ret (de_shr (de_len (de_var 0)) (de_addU (de_var 1) (de_c fun _ => .int _))))
/-! ### with_place -/
abbrev s_with_place : Stmt := topS 12
abbrev N_with_place : List Str := ["items", "dial", "place", "a", "b", "span", "low"]
theorem sc_with_place : FnScope N_with_place ["items", "dial", "place"] (defScope s_with_place) := ⟨rfl, rfl, rfl, by decide +kernel, rfl, by decide +kernel, by decide +kernel⟩
def g_with_place : Fs := (sSeq (sAsg (fVar 2) (qTup 2 (qCons (qName 3) (qCons (qName 4) qNil))))
    (sSeq (sAsg (fCall 2 f_bit_span (fCons (fVar 0) (fCons (fVar 1) fNil))) (qName 5))
    (sRet (fTupX (wRng1 (fCons (f1 gLen (fVar 0)) fNil)) (qName 6) (fTest (fEq (fBand (fVar 6) (fVar 5)) (fC (.int 0)))) (f2 gAddU (f2 gMulU (fVar 3) (fIx (fVar 0) (fVar 6))) (f2 gMulU (fVar 4) (fIx (fVar 0) (f2 gAddU (fVar 6) (fVar 5))))) [6]))))
def f_with_place : Fd := fnOf 7 g_with_place
theorem ok_with_place {P : Program} {w : World} {K : Fg} {mg : Str → Option Value} {base : Heap} {T : List Addr} (tx : Tx base mg) (C_bit_span : Cg P w K mg base 1 "bit_span" ["items", "dial"] (spF K T 2 f_bit_span)) {f c Pt : Addr} {fd : FuncData} (F : FunC K "with_place" "with_place" s_with_place f fd c) (TB : GxR.TabB base mg c Pt) (hP : Pt ∈ T) :
    FnG P w K mg base CX0 2 f fd ["items", "dial", "place"] (spF K T 3 f_with_place) := by
  refine fnG_ofC F sc_with_place (fun vs H Q E h => spF_len h) (fun A outer s H vs Q E hg0 hr h => ?_)
  have hu := hu_of hr
  refine ⟨_, PSs.nox (pss_cons (ps_asg (pv 2) (pg_tup rfl (pgs_cons (pg_name (i := 3) sc_with_place.nd rfl (Or.inr rfl)) (pgs_cons (pg_name (i := 4) sc_with_place.nd rfl (Or.inr rfl)) pgs_nil))))
      (pss_cons (ps_set (i := 5) sc_with_place.nd rfl (Or.inr rfl) (pe_callC C_bit_span hg0 hr (by decide) (pa_cons (pv 0) (pa_cons (pv 1) pa_nil))))
      (pss_one (ps_ret (pe_tupX (k := 0) (own := [("low", 6)]) (g := gName 6)  hg0 (hr.mono (by decide)) (by rfl) tx.z_tuple ⟨TB, rfl, sc_with_place.nd, blkOk_by (N := N_with_place) (sc := defScope s_with_place) (by decide +kernel), (by decide +kernel), rfl, rfl⟩ (pi_range1 (by rfl) tx.z_range (pa_cons (pe_callB (id := "len") call_len_seq (by rfl) tx.z_len (by decide +kernel) (pa_cons (pv 0) pa_nil)) pa_nil)) (fun A2 s2 H2 C2 cd2 fp2 hg0 hr => pg_name (i := 6) sc_with_place.nd rfl (Or.inl rfl)) (fun A2 s2 H2 C2 cd2 fp2 hg0 hr => pts_one (pt_cmpR (oprK (r := rEqD) (K := K) (op_eqD hr.units) rfl) (pe_op op_and (pv 6) (pv 5)) pe_int (nomark _))) (fun A2 s2 H2 C2 cd2 fp2 hg0 hr => (pe_op (oprK (r := rAddU) (K := K) op_addU rfl) (pe_op op_mulU (pv 3) (pe_ix (ixrK (r := rIx) (K := K) ix_seq rfl) (pv 0) (pv 6) (fun _ _ => rfl))) (pe_op op_mulU (pv 4) (pe_ix (ixrK (r := rIx) (K := K) ix_seq rfl) (pv 0) (pe_op (oprK (r := rAddU) (K := K) op_addU rfl) (pv 6) (pv 5)) (fun _ _ => rfl))))) (fun _ => rfl)))))), spF_body (N := N_with_place) (g := g_with_place) (by decide) ?_ h⟩
  unfold g_with_place
  exact (ds_seq (ds_asg (de_var 2) (dg_tup (dgs_cons (dg_name 3) (dgs_cons (dg_name 4) dgs_nil))))
      (ds_seq (ds_asg (de_call (n := 2) (E := noX) (da_cons (de_var 0) (da_cons (de_var 1) da_nil))) (dg_name 5))
      (ds_ret (de_tupX (vs := [6]) hP (dig_of (di_rng1 (da_cons (de_len (de_var 0)) da_nil))) (dg_name 6) (dt_test (de_eq (de_band (de_var 6) (de_var 5)) (de_c fun _ => .int _))) (de_addU (de_mulU (de_var 3) (de_ix (de_var 0) (de_var 6))) (de_mulU (de_var 4) (de_ix (de_var 0) (de_addU (de_var 6) (de_var 5))))) (fun j h => by simpa using h)))))
/-! ### is_integer -/
abbrev s_is_integer : Stmt := topS 14
abbrev N_is_integer : List Str := ["thing"]
theorem sc_is_integer : FnScope N_is_integer ["thing"] (defScope s_is_integer) := ⟨rfl, rfl, rfl, by decide +kernel, rfl, by decide +kernel, by decide +kernel⟩
def g_is_integer : Fs := (sRet (fAnd (f1 (gIsi "int") (fVar 0)) (fNot (f1 (gIsi "bool") (fVar 0)))))
def f_is_integer : Fd := fnOf 1 g_is_integer
theorem ok_is_integer {P : Program} {w : World} {K : Fg} {mg : Str → Option Value} {base : Heap} {T : List Addr} (tx : Tx base mg) {f : Addr} {fd : FuncData} (F : Fun K "is_integer" "is_integer" s_is_integer f fd) :
    FnG P w K mg base CX0 1 f fd ["thing"] (spF K T 1 f_is_integer) := by
  refine fnG_of F sc_is_integer (fun vs H Q E h => spF_len h) (fun cdv A outer s H vs Q E hg0 hr h => ?_)
  have hu := hu_of hr
  refine ⟨_, PSs.nox (pss_one (ps_ret (pe_and (pe_callB (id := "isinstance") call_isi (by rfl) tx.z_isinstance (by decide +kernel) (pa_cons (pv 0) (pa_cons (pe_bltn (v := .ty "int") (by rfl) tx.z_int (u := .type "int") (by decide +kernel) rfl) pa_nil))) (pe_one (pe_not (pe_callB (id := "isinstance") call_isi (by rfl) tx.z_isinstance (by decide +kernel) (pa_cons (pv 0) (pa_cons (pe_bltn (v := .ty "bool") (by rfl) tx.z_bool (u := .type "bool") (by decide +kernel) rfl) pa_nil)))))))), spF_body (N := N_is_integer) (g := g_is_integer) (by decide) ?_ h⟩
  unfold g_is_integer
  exact (ds_ret (de_and (de_isi "int" (by decide) (de_var 0)) (de_not (de_isi "bool" (by decide) (de_var 0)))))
/-! ### is_tuple_of -/
abbrev s_is_tuple_of : Stmt := topS 15
abbrev N_is_tuple_of : List Str := ["thing", "many"]
theorem sc_is_tuple_of : FnScope N_is_tuple_of ["thing", "many"] (defScope s_is_tuple_of) := ⟨rfl, rfl, rfl, by decide +kernel, rfl, by decide +kernel, by decide +kernel⟩
def g_is_tuple_of : Fs := (sRet (fAnd (f1 (gIsi "tuple") (fVar 0)) (fEq (f1 gLen (fVar 0)) (fVar 1))))
def f_is_tuple_of : Fd := fnOf 2 g_is_tuple_of
theorem ok_is_tuple_of {P : Program} {w : World} {K : Fg} {mg : Str → Option Value} {base : Heap} {T : List Addr} (tx : Tx base mg) {f : Addr} {fd : FuncData} (F : Fun K "is_tuple_of" "is_tuple_of" s_is_tuple_of f fd) :
    FnG P w K mg base CX0 1 f fd ["thing", "many"] (spF K T 2 f_is_tuple_of) := by
  refine fnG_of F sc_is_tuple_of (fun vs H Q E h => spF_len h) (fun cdv A outer s H vs Q E hg0 hr h => ?_)
  have hu := hu_of hr
  refine ⟨_, PSs.nox (pss_one (ps_ret (pe_and (pe_callB (id := "isinstance") call_isi (by rfl) tx.z_isinstance (by decide +kernel) (pa_cons (pv 0) (pa_cons (pe_bltn (v := .ty "tuple") (by rfl) tx.z_tuple (u := .type "tuple") (by decide +kernel) rfl) pa_nil))) (pe_one (pe_cmpR (op_eqD hr.units) (pe_callB (id := "len") call_len_seq (by rfl) tx.z_len (by decide +kernel) (pa_cons (pv 0) pa_nil)) (pv 1) (nomark _)))))), spF_body (N := N_is_tuple_of) (g := g_is_tuple_of) (by decide) ?_ h⟩
  unfold g_is_tuple_of
  exact (ds_ret (de_and (de_isi "tuple" (by decide) (de_var 0)) (de_eq (de_len (de_var 0)) (de_var 1))))
/-! ### is_integers -/
abbrev s_is_integers : Stmt := topS 16
abbrev N_is_integers : List Str := ["thing", "many"]
theorem sc_is_integers : FnScope N_is_integers ["thing", "many"] (defScope s_is_integers) := ⟨rfl, rfl, rfl, by decide +kernel, rfl, by decide +kernel, by decide +kernel⟩
def g_is_integers : Fs := (sRet (fAnd (fCall 2 f_is_tuple_of (fCons (fVar 0) (fCons (fVar 1) fNil))) (f1 gAllI (fVar 0))))
def f_is_integers : Fd := fnOf 2 g_is_integers
theorem ok_is_integers {P : Program} {w : World} {K : Fg} {mg : Str → Option Value} {base : Heap} {T : List Addr} (tx : Tx base mg) (C_is_tuple_of : Cg P w K mg base 1 "is_tuple_of" ["thing", "many"] (spF K T 2 f_is_tuple_of)) {f fi c Pt : Addr} {fd fdi : FuncData} (F : FunC K "is_integers" "is_integers" s_is_integers f fd c) (Fi : Fun K "is_integer" "is_integer" s_is_integer fi fdi) (Di : IntDef s_is_integer) (Bi : Binds K fdi ["thing"] []) (gi : mg "is_integer" = some (.ref fi)) (TB : GxR.TabB base mg c Pt) (hP : Pt ∈ T) :
    FnG P w K mg base CX0 3 f fd ["thing", "many"] (spF K T 2 f_is_integers) := by
  refine fnG_ofC F sc_is_integers (fun vs H Q E h => spF_len h) (fun A outer s H vs Q E hg0 hr h => ?_)
  have hu := hu_of hr
  refine ⟨_, PSs.nox (pss_one (ps_ret (pe_and (pe_callC C_is_tuple_of hg0 hr (by decide) (pa_cons (pv 0) (pa_cons (pv 1) pa_nil))) (pe_one (pe_allInt hr (by rfl) tx.z_all TB rfl ⟨rfl, rfl, by decide +kernel, rfl, rfl, fun y hy e => absurd e ((by decide +kernel : ∀ y ∈ _, (Prod.snd y : NameKind) ≠ .free) y hy)⟩ (pv 0) (fun _ => rfl) Fi Di Bi gi tx.z_isinstance tx.z_int tx.z_bool rfl))))), spF_body (N := N_is_integers) (g := g_is_integers) (by decide) ?_ h⟩
  unfold g_is_integers
  exact (ds_ret (de_and (de_call (n := 2) (E := noX) (da_cons (de_var 0) (da_cons (de_var 1) da_nil))) (de_allI hP (de_var 0))))
/-! ### is_place -/
abbrev s_is_place : Stmt := topS 19
abbrev N_is_place : List Str := ["thing", "a", "b"]
theorem sc_is_place : FnScope N_is_place ["thing"] (defScope s_is_place) := ⟨rfl, rfl, rfl, by decide +kernel, rfl, by decide +kernel, by decide +kernel⟩
def g_is_place : Fs := (sSeq (sIf (tNotF (fTest (fCall 2 f_is_integers (fCons (fVar 0) (fCons (fC (.int 2)) fNil))))) (sRet (fC (.bool false))) sNext)
    (sSeq (sAsg (fVar 0) (qTup 2 (qCons (qName 1) (qCons (qName 2) qNil))))
    (sRet (fAnd (fEq (fGcd (fVar 1) (fVar 2)) (fC (.int 1))) (fOr (fCmp (fun i j => decide (j < i)) (fVar 2) (fC (.int 0))) (fEq (fVar 0) (fC (.tuple [.int 1, .int 0]))))))))
def f_is_place : Fd := fnOf 3 g_is_place
theorem ok_is_place {P : Program} {w : World} {K : Fg} {mg : Str → Option Value} {base : Heap} {T : List Addr} (tx : Tx base mg) (C_is_integers : Cg P w K mg base 3 "is_integers" ["thing", "many"] (spF K T 2 f_is_integers)) {p_FAR : Addr} (y_FAR : KTup K mg "FAR" p_FAR [1, 0]) {f : Addr} {fd : FuncData} (F : Fun K "is_place" "is_place" s_is_place f fd) :
    FnG P w K mg base CX0 4 f fd ["thing"] (spF K T 1 f_is_place) := by
  refine fnG_of F sc_is_place (fun vs H Q E h => spF_len h) (fun cdv A outer s H vs Q E hg0 hr h => ?_)
  have hu := hu_of hr
  refine ⟨_, PSs.nox (pss_cons (ps_if (pt_not (pt_val (pe_callC C_is_integers hg0 hr (by decide) (pa_cons (pv 0) (pa_cons pe_int pa_nil))))) (pss_one (ps_ret pe_bl)) pss_nil)
      (pss_cons (ps_asg (pv 0) (pg_tup rfl (pgs_cons (pg_name (i := 1) sc_is_place.nd rfl (Or.inl rfl)) (pgs_cons (pg_name (i := 2) sc_is_place.nd rfl (Or.inl rfl)) pgs_nil))))
      (pss_one (ps_ret (pe_and (pe_cmpR (op_eqD hr.units) (pe_callMB (id := "math.gcd") cr_gcd (by rfl) tx.z_gcd (pa_cons (pv 1) (pa_cons (pv 2) pa_nil))) pe_int (nomark _)) (pe_one (pe_or (pe_cmpR op_gt (pv 2) pe_int (nomark _)) (pe_one (pe_cmpR (op_eqD hr.units) (pv 0) (pe_glob (v := .ref p_FAR) (u := .ref p_FAR) (by rfl) y_FAR.g rfl) (nomark _)))))))))), spF_body (N := N_is_place) (g := g_is_place) (by decide) ?_ h⟩
  unfold g_is_place
  exact (ds_seq (ds_if (dt_not (dt_b (de_call (n := 2) (E := noX) (da_cons (de_var 0) (da_cons (de_c fun _ => .int _) da_nil))))) (ds_ret (de_c fun _ => .bl _)) ds_next)
      (ds_seq (ds_asg (de_var 0) (dg_tup (dgs_cons (dg_name 1) (dgs_cons (dg_name 2) dgs_nil))))
      (ds_ret (de_and (de_eq (de_gcd (de_var 1) (de_var 2)) (de_c fun _ => .int _)) (de_or (de_cmp (p := fun i j => decide (j < i)) (de_var 2) (de_c fun _ => .int _)) (de_eq (de_var 0) (de_c y_FAR.is)))))))
/-! ### are_places -/
abbrev s_are_places : Stmt := topS 20
abbrev N_are_places : List Str := ["thing", "many", "place"]
theorem sc_are_places : FnScope N_are_places ["thing", "many"] (defScope s_are_places) := ⟨rfl, rfl, rfl, by decide +kernel, rfl, by decide +kernel, by decide +kernel⟩
def g_are_places : Fs := (sRet (fAnd (fCall 2 f_is_tuple_of (fCons (fVar 0) (fCons (fVar 1) fNil))) (fAllX (wSeq (fVar 0)) (qName 2) fYes (fCall 1 f_is_place (fCons (fVar 2) fNil)) [2])))
def f_are_places : Fd := fnOf 3 g_are_places
theorem ok_are_places {P : Program} {w : World} {K : Fg} {mg : Str → Option Value} {base : Heap} {T : List Addr} (tx : Tx base mg) (C_is_tuple_of : Cg P w K mg base 1 "is_tuple_of" ["thing", "many"] (spF K T 2 f_is_tuple_of)) (C_is_place : Cg P w K mg base 4 "is_place" ["thing"] (spF K T 1 f_is_place)) {f c Pt : Addr} {fd : FuncData} (F : FunC K "are_places" "are_places" s_are_places f fd c) (TB : GxR.TabB base mg c Pt) (hP : Pt ∈ T) :
    FnG P w K mg base CX0 6 f fd ["thing", "many"] (spF K T 2 f_are_places) := by
  refine fnG_ofC F sc_are_places (fun vs H Q E h => spF_len h) (fun A outer s H vs Q E hg0 hr h => ?_)
  have hu := hu_of hr
  refine ⟨_, PSs.nox (pss_one (ps_ret (pe_and (pe_callC C_is_tuple_of hg0 hr (by decide) (pa_cons (pv 0) (pa_cons (pv 1) pa_nil))) (pe_one (pe_allX (k := 4) (own := [("place", 2)]) (g := gName 2) (tt := tYes) hg0 (hr.mono (by decide)) (by rfl) tx.z_all ⟨TB, rfl, sc_are_places.nd, blkOk_by (N := N_are_places) (sc := defScope s_are_places) (by decide +kernel), (by decide +kernel), rfl, rfl⟩ (pi_seq (pv 0)) (fun A2 s2 H2 C2 cd2 fp2 hg0 hr => pg_name (i := 2) sc_are_places.nd rfl (Or.inl rfl)) (fun A2 s2 H2 C2 cd2 fp2 hg0 hr => pts_nil) (fun A2 s2 H2 C2 cd2 fp2 hg0 hr => (pe_callC C_is_place hg0 hr (by decide) (pa_cons (pv 2) pa_nil))) (fun _ => rfl)))))), spF_body (N := N_are_places) (g := g_are_places) (by decide) ?_ h⟩
  unfold g_are_places
  exact (ds_ret (de_and (de_call (n := 2) (E := noX) (da_cons (de_var 0) (da_cons (de_var 1) da_nil))) (de_allX (vs := [2]) hP (dig_of (di_seq (de_var 0))) (dg_name 2) dt_yes (de_call (n := 1) (E := noX) (da_cons (de_var 2) da_nil)) (fun j h => by simpa using h))))
/-! ### is_relation -/
abbrev s_is_relation : Stmt := topS 23
abbrev N_is_relation : List Str := ["thing"]
theorem sc_is_relation : FnScope N_is_relation ["thing"] (defScope s_is_relation) := ⟨rfl, rfl, rfl, by decide +kernel, rfl, by decide +kernel, by decide +kernel⟩
def g_is_relation : Fs := (sSeq (sIf (tOrF (tNotF (fTest (f1 (gIsi "tuple") (fVar 0)))) (fTest (f2 (gIn true) (f1 gLen (fVar 0)) (fC (.tuple [.int 2, .int 4, .int 8, .int 16, .int 32, .int 64]))))) (sRet (fC (.bool false))) sNext)
    (sRet (fAnd (fCall 2 f_is_integers (fCons (fVar 0) (fCons (f1 gLen (fVar 0)) fNil))) (fCall 1 f_is_short (fCons (fVar 0) fNil)))))
def f_is_relation : Fd := fnOf 1 g_is_relation
theorem ok_is_relation {P : Program} {w : World} {K : Fg} {mg : Str → Option Value} {base : Heap} {T : List Addr} (tx : Tx base mg) (C_is_integers : Cg P w K mg base 3 "is_integers" ["thing", "many"] (spF K T 2 f_is_integers)) (C_is_short : Cg P w K mg base 2 "is_short" ["numbers"] (spF K T 1 f_is_short)) {p_LENGTHS : Addr} (y_LENGTHS : KTup K mg "LENGTHS" p_LENGTHS [2, 4, 8, 16, 32, 64]) {f : Addr} {fd : FuncData} (F : Fun K "is_relation" "is_relation" s_is_relation f fd) :
    FnG P w K mg base CX0 4 f fd ["thing"] (spF K T 1 f_is_relation) := by
  refine fnG_of F sc_is_relation (fun vs H Q E h => spF_len h) (fun cdv A outer s H vs Q E hg0 hr h => ?_)
  have hu := hu_of hr
  refine ⟨_, PSs.nox (pss_cons (ps_if (PW.pt (pw_or (pt_not (pt_val (pe_callB (id := "isinstance") call_isi (by rfl) tx.z_isinstance (by decide +kernel) (pa_cons (pv 0) (pa_cons (pe_bltn (v := .ty "tuple") (by rfl) tx.z_tuple (u := .type "tuple") (by decide +kernel) rfl) pa_nil))))) (pw_or1 (pt_cmpR (op_notInU (units65 hr)) (pe_callB (id := "len") call_len_seq (by rfl) tx.z_len (by decide +kernel) (pa_cons (pv 0) pa_nil)) (pe_glob (v := .ref p_LENGTHS) (u := .ref p_LENGTHS) (by rfl) y_LENGTHS.g rfl) (by with_unfolding_all rfl))))) (pss_one (ps_ret pe_bl)) pss_nil)
      (pss_one (ps_ret (pe_and (pe_callC C_is_integers hg0 hr (by decide) (pa_cons (pv 0) (pa_cons (pe_callB (id := "len") call_len_seq (by rfl) tx.z_len (by decide +kernel) (pa_cons (pv 0) pa_nil)) pa_nil))) (pe_one (pe_callC C_is_short hg0 hr (by decide) (pa_cons (pv 0) pa_nil))))))), spF_body (N := N_is_relation) (g := g_is_relation) (by decide) ?_ h⟩
  unfold g_is_relation
  exact (ds_seq (ds_if (dt_or (dt_not (dt_b (de_isi "tuple" (by decide) (de_var 0)))) (dt_test (de_inU (neg := true) (de_len (de_var 0)) (de_c y_LENGTHS.is)))) (ds_ret (de_c fun _ => .bl _)) ds_next)
      (ds_ret (de_and (de_call (n := 2) (E := noX) (da_cons (de_var 0) (da_cons (de_len (de_var 0)) da_nil))) (de_call (n := 1) (E := noX) (da_cons (de_var 0) da_nil)))))
/-! ### check_relation -/
abbrev s_check_relation : Stmt := topS 24
abbrev N_check_relation : List Str := ["thing"]
theorem sc_check_relation : FnScope N_check_relation ["thing"] (defScope s_check_relation) := ⟨rfl, rfl, rfl, by decide +kernel, rfl, by decide +kernel, by decide +kernel⟩
def gx_check_relation : Fsx := (xIfS (tNotF (fTest (fCall 1 f_is_relation (fCons (fVar 0) fNil)))) (xRaise1 "BadRelation" (fVar 0)) (liftS sNext))
def fx_check_relation : Fdx := fnX 1 gx_check_relation
def f_check_relation : Fd := okF fx_check_relation
theorem okx_check_relation {P : Program} {w : World} {K : Fg} {mg : Str → Option Value} {base : Heap} {T : List Addr} (tx : Tx base mg) (C_is_relation : Cg P w K mg base 4 "is_relation" ["thing"] (spF K T 1 f_is_relation)) {C_BadPlaces fI_BadPlaces : Addr} (c_BadPlaces : PySem.TH.Txt K mg "BadPlaces" "BadPlaces.__init__" C_BadPlaces fI_BadPlaces) {C_BadRelation fI_BadRelation : Addr} (c_BadRelation : PySem.TH.Txt K mg "BadRelation" "BadRelation.__init__" C_BadRelation fI_BadRelation) {f : Addr} {fd : FuncData} (F : Fun K "check_relation" "check_relation" s_check_relation f fd) :
    FnG P w K mg base (L2.CX P w) 5 f fd ["thing"] (spX K T (clm C_BadPlaces C_BadRelation) 1 fx_check_relation) := by
  refine fnG_of F sc_check_relation (fun vs H Q E h => spX_len h) (fun cdv A outer s H vs Q E hg0 hr h => ?_)
  have hu := hu_of hr
  have tk : Takes (cxOf (L2.CX P w) P w K mg base N_check_relation "check_relation" (defScope s_check_relation) f cdv A outer s H E) (fun cls d _ H => E cls d H) := takes_of rfl rfl rfl rfl
  have D1 := (show DSX K T (clm C_BadPlaces C_BadRelation) _ gx_check_relation from (dsx_if (dt_not (dt_b (de_call (n := 1) (E := noX) (da_cons (de_var 0) da_nil)))) (dsx_raiseTh (n := "BadRelation") (C := C_BadRelation) clm_BadRelation (de_var 0)) (dsx_of ds_next)))
  refine ⟨_, ?_, spX_body (N := N_check_relation) (g := gx_check_relation) (by decide) D1 h⟩
  exact (pss_one (ps_if (pt_not (pt_val (pe_callC C_is_relation hg0 hr (by decide) (pa_cons (pv 0) pa_nil)))) (pss_one (ps_raiseTh rfl c_BadRelation hr tk (by exact (pa_cons (pv 0) pa_nil)) rfl rfl)) pss_nil))
/-! ### check_places -/
abbrev s_check_places : Stmt := topS 25
abbrev N_check_places : List Str := ["places", "many"]
theorem sc_check_places : FnScope N_check_places ["places", "many"] (defScope s_check_places) := ⟨rfl, rfl, rfl, by decide +kernel, rfl, by decide +kernel, by decide +kernel⟩
def gx_check_places : Fsx := (xIfS (tNotF (fTest (fCall 2 f_are_places (fCons (fVar 0) (fCons (fVar 1) fNil))))) (xRaise1 "BadPlaces" (fVar 0)) (liftS sNext))
def fx_check_places : Fdx := fnX 2 gx_check_places
def f_check_places : Fd := okF fx_check_places
theorem okx_check_places {P : Program} {w : World} {K : Fg} {mg : Str → Option Value} {base : Heap} {T : List Addr} (tx : Tx base mg) (C_are_places : Cg P w K mg base 6 "are_places" ["thing", "many"] (spF K T 2 f_are_places)) {C_BadPlaces fI_BadPlaces : Addr} (c_BadPlaces : PySem.TH.Txt K mg "BadPlaces" "BadPlaces.__init__" C_BadPlaces fI_BadPlaces) {C_BadRelation fI_BadRelation : Addr} (c_BadRelation : PySem.TH.Txt K mg "BadRelation" "BadRelation.__init__" C_BadRelation fI_BadRelation) {f : Addr} {fd : FuncData} (F : Fun K "check_places" "check_places" s_check_places f fd) :
    FnG P w K mg base (L2.CX P w) 7 f fd ["places", "many"] (spX K T (clm C_BadPlaces C_BadRelation) 2 fx_check_places) := by
  refine fnG_of F sc_check_places (fun vs H Q E h => spX_len h) (fun cdv A outer s H vs Q E hg0 hr h => ?_)
  have hu := hu_of hr
  have tk : Takes (cxOf (L2.CX P w) P w K mg base N_check_places "check_places" (defScope s_check_places) f cdv A outer s H E) (fun cls d _ H => E cls d H) := takes_of rfl rfl rfl rfl
  have D1 := (show DSX K T (clm C_BadPlaces C_BadRelation) _ gx_check_places from (dsx_if (dt_not (dt_b (de_call (n := 2) (E := noX) (da_cons (de_var 0) (da_cons (de_var 1) da_nil))))) (dsx_raiseTh (n := "BadPlaces") (C := C_BadPlaces) clm_BadPlaces (de_var 0)) (dsx_of ds_next)))
  refine ⟨_, ?_, spX_body (N := N_check_places) (g := gx_check_places) (by decide) D1 h⟩
  exact (pss_one (ps_if (pt_not (pt_val (pe_callC C_are_places hg0 hr (by decide) (pa_cons (pv 0) (pa_cons (pv 1) pa_nil))))) (pss_one (ps_raiseTh rfl c_BadPlaces hr tk (by exact (pa_cons (pv 0) pa_nil)) rfl rfl)) pss_nil))
/-! ### dials_of -/
abbrev s_dials_of : Stmt := topS 26
abbrev N_dials_of : List Str := ["relation"]
theorem sc_dials_of : FnScope N_dials_of ["relation"] (defScope s_dials_of) := ⟨rfl, rfl, rfl, by decide +kernel, rfl, by decide +kernel, by decide +kernel⟩
def gx_dials_of : Fsx := (xSq (xExpr (xCall 1 fx_check_relation id (fCons (fVar 0) fNil)))
    (liftS (sRet (fCall 1 f_count_dials (fCons (fVar 0) fNil)))))
def fx_dials_of : Fdx := fnX 1 gx_dials_of
def f_dials_of : Fd := okF fx_dials_of
theorem okx_dials_of {P : Program} {w : World} {K : Fg} {mg : Str → Option Value} {base : Heap} {T : List Addr} (tx : Tx base mg) (C_count_dials : Cg P w K mg base 1 "count_dials" ["items"] (spF K T 1 f_count_dials)) {C_BadPlaces fI_BadPlaces : Addr} (c_BadPlaces : PySem.TH.Txt K mg "BadPlaces" "BadPlaces.__init__" C_BadPlaces fI_BadPlaces) {C_BadRelation fI_BadRelation : Addr} (c_BadRelation : PySem.TH.Txt K mg "BadRelation" "BadRelation.__init__" C_BadRelation fI_BadRelation) (X_check_relation : Cx_ P w K mg base 5 "check_relation" ["thing"] (spX K T (clm C_BadPlaces C_BadRelation) 1 fx_check_relation)) {f : Addr} {fd : FuncData} (F : Fun K "dials_of" "dials_of" s_dials_of f fd) :
    FnG P w K mg base (L2.CX P w) 6 f fd ["relation"] (spX K T (clm C_BadPlaces C_BadRelation) 1 fx_dials_of) := by
  refine fnG_of F sc_dials_of (fun vs H Q E h => spX_len h) (fun cdv A outer s H vs Q E hg0 hr h => ?_)
  have hu := hu_of hr
  have tk : Takes (cxOf (L2.CX P w) P w K mg base N_dials_of "dials_of" (defScope s_dials_of) f cdv A outer s H E) (fun cls d _ H => E cls d H) := takes_of rfl rfl rfl rfl
  have D1 := (show DSX K T (clm C_BadPlaces C_BadRelation) _ gx_dials_of from (dsx_seq (dsx_expr (dex_call (n := 1) (da_cons (de_var 0) da_nil)))
      (dsx_of (ds_ret (de_call (n := 1) (E := noX) (da_cons (de_var 0) da_nil))))))
  refine ⟨_, ?_, spX_body (N := N_dials_of) (g := gx_dials_of) (by decide) D1 h⟩
  exact (pss_cons (ps_expr (pe_callX X_check_relation tk hg0 hr (by decide) (pa_cons (pv 0) pa_nil)))
      (pss_one (ps_ret (pe_callC C_count_dials hg0 hr (by decide) (pa_cons (pv 0) pa_nil)))))
/-! ### value -/
abbrev s_value : Stmt := topS 27
abbrev N_value : List Str := ["relation", "places", "rest", "place"]
theorem sc_value : FnScope N_value ["relation", "places"] (defScope s_value) := ⟨rfl, rfl, rfl, by decide +kernel, rfl, by decide +kernel, by decide +kernel⟩
def gx_value : Fsx := (xSq (xExpr (xCall 1 fx_check_relation id (fCons (fVar 0) fNil)))
    (xSq (xExpr (xCall 2 fx_check_places id (fCons (fVar 1) (fCons (fCall 1 f_count_dials (fCons (fVar 0) fNil)) fNil))))
    (xSq (liftS (sAsg (fVar 0) (qName 2)))
    (xSq (liftS (sFor (wSeq (fVar 1)) (qName 3) (sAsg (fCall 3 f_with_place (fCons (fVar 2) (fCons (fC (.int 0)) (fCons (fVar 3) fNil)))) (qName 2))))
    (liftS (sRet (fIx (fVar 2) (fC (.int 0)))))))))
def fx_value : Fdx := fnX 4 gx_value
def f_value : Fd := okF fx_value
theorem okx_value {P : Program} {w : World} {K : Fg} {mg : Str → Option Value} {base : Heap} {T : List Addr} (tx : Tx base mg) (C_count_dials : Cg P w K mg base 1 "count_dials" ["items"] (spF K T 1 f_count_dials)) (C_with_place : Cg P w K mg base 2 "with_place" ["items", "dial", "place"] (spF K T 3 f_with_place)) {C_BadPlaces fI_BadPlaces : Addr} (c_BadPlaces : PySem.TH.Txt K mg "BadPlaces" "BadPlaces.__init__" C_BadPlaces fI_BadPlaces) {C_BadRelation fI_BadRelation : Addr} (c_BadRelation : PySem.TH.Txt K mg "BadRelation" "BadRelation.__init__" C_BadRelation fI_BadRelation) (X_check_relation : Cx_ P w K mg base 5 "check_relation" ["thing"] (spX K T (clm C_BadPlaces C_BadRelation) 1 fx_check_relation)) (X_check_places : Cx_ P w K mg base 7 "check_places" ["places", "many"] (spX K T (clm C_BadPlaces C_BadRelation) 2 fx_check_places)) {f : Addr} {fd : FuncData} (F : Fun K "value" "value" s_value f fd) :
    FnG P w K mg base (L2.CX P w) 8 f fd ["relation", "places"] (spX K T (clm C_BadPlaces C_BadRelation) 2 fx_value) := by
  refine fnG_of F sc_value (fun vs H Q E h => spX_len h) (fun cdv A outer s H vs Q E hg0 hr h => ?_)
  have hu := hu_of hr
  have tk : Takes (cxOf (L2.CX P w) P w K mg base N_value "value" (defScope s_value) f cdv A outer s H E) (fun cls d _ H => E cls d H) := takes_of rfl rfl rfl rfl
  have D1 := (show DSX K T (clm C_BadPlaces C_BadRelation) _ gx_value from (dsx_seq (dsx_expr (dex_call (n := 1) (da_cons (de_var 0) da_nil)))
      (dsx_seq (dsx_expr (dex_call (n := 2) (da_cons (de_var 1) (da_cons (de_call (n := 1) (E := noX) (da_cons (de_var 0) da_nil)) da_nil))))
      (dsx_seq (dsx_of (ds_asg (de_var 0) (dg_name 2)))
      (dsx_seq (dsx_of (ds_for (di_seq (de_var 1)) (dg_name 3) (ds_asg (de_call (n := 3) (E := noX) (da_cons (de_var 2) (da_cons (de_c fun _ => .int _) (da_cons (de_var 3) da_nil)))) (dg_name 2))))
      (dsx_of (ds_ret (de_ix (de_var 2) (de_c fun _ => .int _)))))))))
  refine ⟨_, ?_, spX_body (N := N_value) (g := gx_value) (by decide) D1 h⟩
  exact (pss_cons (ps_expr (pe_callX X_check_relation tk hg0 hr (by decide) (pa_cons (pv 0) pa_nil)))
      (pss_cons (ps_expr (pe_callX X_check_places tk hg0 hr (by decide) (pa_cons (pv 1) (pa_cons (pe_callC C_count_dials hg0 hr (by decide) (pa_cons (pv 0) pa_nil)) pa_nil))))
      (pss_cons (ps_set (i := 2) sc_value.nd rfl (Or.inl rfl) (pv 0))
      (pss_cons (ps_for (passes_of rfl) rfl (pi_seq (pv 1)) (pg_name (i := 3) sc_value.nd rfl (Or.inl rfl)) (pss_one (ps_set (i := 2) sc_value.nd rfl (Or.inl rfl) (pe_callC C_with_place hg0 hr (by decide) (pa_cons (pv 2) (pa_cons pe_int (pa_cons (pv 3) pa_nil)))))))
      (pss_one (ps_ret (pe_ix ix_seq (pv 2) pe_int (fun _ _ => rfl))))))))
/-! ### holds -/
abbrev s_holds : Stmt := topS 28
abbrev N_holds : List Str := ["relation", "places"]
theorem sc_holds : FnScope N_holds ["relation", "places"] (defScope s_holds) := ⟨rfl, rfl, rfl, by decide +kernel, rfl, by decide +kernel, by decide +kernel⟩
def gx_holds : Fsx := (xRet (x2 (gEq false) (xCall 2 fx_value id (fCons (fVar 0) (fCons (fVar 1) fNil))) (liftO (fC (.int 0)))))
def fx_holds : Fdx := fnX 2 gx_holds
def f_holds : Fd := okF fx_holds
theorem okx_holds {P : Program} {w : World} {K : Fg} {mg : Str → Option Value} {base : Heap} {T : List Addr} (tx : Tx base mg) {C_BadPlaces fI_BadPlaces : Addr} (c_BadPlaces : PySem.TH.Txt K mg "BadPlaces" "BadPlaces.__init__" C_BadPlaces fI_BadPlaces) {C_BadRelation fI_BadRelation : Addr} (c_BadRelation : PySem.TH.Txt K mg "BadRelation" "BadRelation.__init__" C_BadRelation fI_BadRelation) (X_value : Cx_ P w K mg base 8 "value" ["relation", "places"] (spX K T (clm C_BadPlaces C_BadRelation) 2 fx_value)) {f : Addr} {fd : FuncData} (F : Fun K "holds" "holds" s_holds f fd) :
    FnG P w K mg base (L2.CX P w) 9 f fd ["relation", "places"] (spX K T (clm C_BadPlaces C_BadRelation) 2 fx_holds) := by
  refine fnG_of F sc_holds (fun vs H Q E h => spX_len h) (fun cdv A outer s H vs Q E hg0 hr h => ?_)
  have hu := hu_of hr
  have tk : Takes (cxOf (L2.CX P w) P w K mg base N_holds "holds" (defScope s_holds) f cdv A outer s H E) (fun cls d _ H => E cls d H) := takes_of rfl rfl rfl rfl
  have D1 := (show DSX K T (clm C_BadPlaces C_BadRelation) _ gx_holds from (dsx_ret (dex_2 (fun _ _ _ _ h1 h2 => de_eq h1 h2) (dex_call (n := 2) (da_cons (de_var 0) (da_cons (de_var 1) da_nil))) (dex_of (de_c fun _ => .int _)))))
  refine ⟨_, ?_, spX_body (N := N_holds) (g := gx_holds) (by decide) D1 h⟩
  exact (pss_one (ps_ret (pe_cmpR (op_eqD hr.units) (pe_callX X_value tk hg0 hr (by decide) (pa_cons (pv 0) (pa_cons (pv 1) pa_nil))) pe_int (nomark _))))
/-! ### _law_deck -/
abbrev s__law_deck : Stmt := topS 30
abbrev N__law_deck : List Str := ["_law_script", "_law_cell", "_law_cells", "_law_mixed"]
theorem sc__law_deck : FnScope N__law_deck ["_law_script"] (defScope s__law_deck) := ⟨rfl, rfl, rfl, by decide +kernel, rfl, by decide +kernel, by decide +kernel⟩
def g__law_deck : Fs := (sSeq (sPar 2 3 (fCons (fLc (wSeq (fSlU (fVar 0) fNoPart (fPart (fC (.int 63))))) (qName 1) fYes (f1 gInt (fVar 1)) [1]) (fCons (fC (.int 1087705)) fNil)))
    (sSeq (sFor (wSeq (fVar 2)) (qName 1) (sAsg (fMod (f2 gAddU (f2 gAddU (f2 gMulU (fVar 3) (fC (.int 45991))) (fMod (fVar 1) (fC (.int 2147483549)))) (fC (.int 22))) (fC (.int 2147483587))) (qName 3)))
    (sRet (fDisp (((Sum.inr "cells"), (fRevU (fVar 2))) :: (((Sum.inr "mixed"), (fVar 3)) :: (((Sum.inr "turn"), (fC (.int 0))) :: [])))))))
def f__law_deck : Fd := fnOf 4 g__law_deck
theorem ok__law_deck {P : Program} {w : World} {K : Fg} {mg : Str → Option Value} {base : Heap} {T : List Addr} (tx : Tx base mg) {f : Addr} {fd : FuncData} (F : Fun K "_law_deck" "_law_deck" s__law_deck f fd) :
    FnG P w K mg base CX0 1 f fd ["_law_script"] (spF K T 1 f__law_deck) := by
  refine fnG_of F sc__law_deck (fun vs H Q E h => spF_len h) (fun cdv A outer s H vs Q E hg0 hr h => ?_)
  have hu := hu_of hr
  refine ⟨_, PSs.nox (pss_cons (ps_par (i := 2) (j := 3) rfl sc__law_deck.nd rfl rfl (by decide) rfl rfl (pa_cons (pe_lc (own := [("_law_cell", 1)]) (g := gName 1) (tt := tYes) rfl sc__law_deck.nd (pi_seq (pe_slice sl_u (pv 0) po_none (po_some pe_int))) (blkOk_by (N := N__law_deck) (sc := defScope s__law_deck) (by decide +kernel)) (fun _ _ _ _ _ => pg_name (i := 1) sc__law_deck.nd rfl (Or.inl rfl)) (fun _ _ _ _ _ => pts_nil) (fun _ _ _ _ _ => (pe_callTy (T := "int") call_int1 (by rfl) tx.z_int (by decide +kernel) (pa_cons (pv 1) pa_nil)))) (pa_cons pe_int pa_nil)) rfl)
      (pss_cons (ps_for PassesOwn.never rfl (pi_seq (pv 2)) (pg_name (i := 1) sc__law_deck.nd rfl (Or.inl rfl)) (pss_one (ps_set (i := 3) sc__law_deck.nd rfl (Or.inl rfl) (pe_op op_modN (pe_op op_addU (pe_op op_addU (pe_op op_mulU (pv 3) pe_int) (pe_op op_modN (pv 1) pe_int)) pe_int) pe_int))))
      (pss_one (ps_ret (pe_disp (pps_cons pe_str (pe_revU (pv 2)) (pps_cons pe_str (pv 3) (pps_cons pe_str pe_int pps_nil))) rfl rfl (by simp) (by decide)))))), spF_body (N := N__law_deck) (g := g__law_deck) (by decide) ?_ h⟩
  unfold g__law_deck
  exact (ds_seq (ds_par (da_cons (de_lc (vs := [1]) (di_seq (de_slU (de_var 0) do_none (do_some (de_c fun _ => .int _)))) (dg_name 1) dt_yes (de_int1 (de_var 1)) (fun j h => h)) (da_cons (de_c fun _ => .int _) da_nil)))
      (ds_seq (ds_for (di_seq (de_var 2)) (dg_name 1) (ds_asg (de_mod (de_addU (de_addU (de_mulU (de_var 3) (de_c fun _ => .int _)) (de_mod (de_var 1) (de_c fun _ => .int _))) (de_c fun _ => .int _)) (de_c fun _ => .int _)) (dg_name 3)))
      (ds_ret (de_disp (DPs.cons (k := (Sum.inr "cells")) (de_revU (de_var 2)) (DPs.cons (k := (Sum.inr "mixed")) (de_var 3) (DPs.cons (k := (Sum.inr "turn")) (de_c fun _ => .int _) DPs.nil)))))))
/-! ### _law_draw -/
abbrev s__law_draw : Stmt := topS 31
abbrev N__law_draw : List Str := ["_law_deck_here", "_law_limit", "_law_cell", "_law_mixed"]
theorem sc__law_draw : FnScope N__law_draw ["_law_deck_here", "_law_limit"] (defScope s__law_draw) := ⟨rfl, rfl, rfl, by decide +kernel, rfl, by decide +kernel, by decide +kernel⟩
def g__law_draw : Fs := (sSeq (sDkPut 0 putTurn (f2 gAddU (fDkI 0 Dk.turn) (fC (.int 1))))
    (sSeq (sIf (fTest (fDkNe 0)) (sSeq (sAsg (fDkPop 0) (qName 2))
    (sSeq (sIf (fTest (fCmp (fun i j => decide (j ≤ i)) (fVar 2) (fPow (fC (.int 10)) (fC (.int 18))))) (sSeq (sDkApp 0 (f2 gDivU (fVar 2) (fMax (fC (.int 2)) (fVar 1))))
    (sRet (fMod (fVar 2) (fVar 1)))) sNext)
    (sDkPut 0 putMixed (fMod (f2 gAddU (f2 gAddU (fDkI 0 Dk.mixed) (fMod (fVar 2) (fC (.int 2147483587)))) (fC (.int 1))) (fC (.int 2147483587)))))) sNext)
    (sSeq (sAsg (fMod (f2 gAddU (f2 gAddU (f2 gMulU (fDkI 0 Dk.mixed) (fC (.int 39373))) (f2 gMulU (fDkI 0 Dk.turn) (fC (.int 6101)))) (fC (.int 22))) (fC (.int 2147483629))) (qName 3))
    (sSeq (sDkPut 0 putMixed (fMod (f2 gAddU (f2 gMulU (fVar 3) (fVar 3)) (fDkI 0 Dk.turn)) (fC (.int 2147483587))))
    (sRet (fMod (f2 gDivU (fDkI 0 Dk.mixed) (fC (.int 89))) (fVar 1)))))))
def f__law_draw : Fd := fnOf 4 g__law_draw
theorem ok__law_draw {P : Program} {w : World} {K : Fg} {mg : Str → Option Value} {base : Heap} {T : List Addr} (tx : Tx base mg) {f : Addr} {fd : FuncData} (F : Fun K "_law_draw" "_law_draw" s__law_draw f fd) :
    FnG P w K mg base CX0 1 f fd ["_law_deck_here", "_law_limit"] (spF K T 2 f__law_draw) := by
  refine fnG_of F sc__law_draw (fun vs H Q E h => spF_len h) (fun cdv A outer s H vs Q E hg0 hr h => ?_)
  have hu := hu_of hr
  refine ⟨_, PSs.nox (pss_cons (ps_dput hu (pv 0) pe_str (pe_op op_addU (pe_dget hu (pv 0) pe_str (fun _ _ => rfl)) pe_int) rfl)
      (pss_cons (ps_if (pt_cmpR (op_neD hr.units) (pe_dget hu (pv 0) pe_str (fun _ _ => rfl)) (pe_lst pa_nil) (nomark _)) (pss_cons (ps_set (i := 2) sc__law_draw.nd rfl (Or.inl rfl) (pe_bm0 PySem.F.plainAttrs_list PySem.F.slot_list_pop PySem.F.type_list_pop mt_pop (pe_dget hu (pv 0) pe_str (fun _ _ => rfl))))
      (pss_cons (ps_if (pt_cmpR op_ge (pv 2) (pe_op op_pow pe_int pe_int) (nomark _)) (pss_cons (ps_expr (pe_bm PySem.F.plainAttrs_list PySem.F.slot_list_append PySem.F.type_list_append mt_append (pe_dget hu (pv 0) pe_str (fun _ _ => rfl)) (pa_cons (pe_op op_fdivU (pv 2) (pe_callB (id := "max") (call_max2 rfl) (by rfl) tx.z_max (by decide +kernel) (pa_cons pe_int (pa_cons (pv 1) pa_nil)))) pa_nil)))
      (pss_one (ps_ret (pe_op op_modN (pv 2) (pv 1))))) pss_nil)
      (pss_one (ps_dput hu (pv 0) pe_str (pe_op op_modN (pe_op op_addU (pe_op op_addU (pe_dget hu (pv 0) pe_str (fun _ _ => rfl)) (pe_op op_modN (pv 2) pe_int)) pe_int) pe_int) rfl)))) pss_nil)
      (pss_cons (ps_set (i := 3) sc__law_draw.nd rfl (Or.inl rfl) (pe_op op_modN (pe_op op_addU (pe_op op_addU (pe_op op_mulU (pe_dget hu (pv 0) pe_str (fun _ _ => rfl)) pe_int) (pe_op op_mulU (pe_dget hu (pv 0) pe_str (fun _ _ => rfl)) pe_int)) pe_int) pe_int))
      (pss_cons (ps_dput hu (pv 0) pe_str (pe_op op_modN (pe_op op_addU (pe_op op_mulU (pv 3) (pv 3)) (pe_dget hu (pv 0) pe_str (fun _ _ => rfl))) pe_int) rfl)
      (pss_one (ps_ret (pe_op op_modN (pe_op op_fdivU (pe_dget hu (pv 0) pe_str (fun _ _ => rfl)) pe_int) (pv 1)))))))), spF_body (N := N__law_draw) (g := g__law_draw) (by decide) ?_ h⟩
  unfold g__law_draw
  exact (ds_seq (ds_dkTurn 0 (de_addU (de_dkTurn 0) (de_c fun _ => .int _)))
      (ds_seq (ds_if (dt_test (de_dkNe 0)) (ds_seq (ds_asg (de_dkPop 0) (dg_name 2))
      (ds_seq (ds_if (dt_test (de_cmp (p := fun i j => decide (j ≤ i)) (de_var 2) (de_pow (de_c fun _ => .int _) (de_c fun _ => .int _)))) (ds_seq (ds_dkApp 0 (de_divU (de_var 2) (de_max (de_c fun _ => .int _) (de_var 1))))
      (ds_ret (de_mod (de_var 2) (de_var 1)))) ds_next)
      (ds_dkMixed 0 (de_mod (de_addU (de_addU (de_dkMixed 0) (de_mod (de_var 2) (de_c fun _ => .int _))) (de_c fun _ => .int _)) (de_c fun _ => .int _))))) ds_next)
      (ds_seq (ds_asg (de_mod (de_addU (de_addU (de_mulU (de_dkMixed 0) (de_c fun _ => .int _)) (de_mulU (de_dkTurn 0) (de_c fun _ => .int _))) (de_c fun _ => .int _)) (de_c fun _ => .int _)) (dg_name 3))
      (ds_seq (ds_dkMixed 0 (de_mod (de_addU (de_mulU (de_var 3) (de_var 3)) (de_dkTurn 0)) (de_c fun _ => .int _)))
      (ds_ret (de_mod (de_divU (de_dkMixed 0) (de_c fun _ => .int _)) (de_var 1)))))))
/-! ### _law_pick -/
abbrev s__law_pick : Stmt := topS 32
abbrev N__law_pick : List Str := ["_law_deck_here", "_law_some"]
theorem sc__law_pick : FnScope N__law_pick ["_law_deck_here", "_law_some"] (defScope s__law_pick) := ⟨rfl, rfl, rfl, by decide +kernel, rfl, by decide +kernel, by decide +kernel⟩
def g__law_pick : Fs := (sRet (fIx (fVar 1) (fCall 2 f__law_draw (fCons (fVar 0) (fCons (f1 gLen (fVar 1)) fNil)))))
def f__law_pick : Fd := fnOf 2 g__law_pick
theorem ok__law_pick {P : Program} {w : World} {K : Fg} {mg : Str → Option Value} {base : Heap} {T : List Addr} (tx : Tx base mg) (C__law_draw : Cg P w K mg base 1 "_law_draw" ["_law_deck_here", "_law_limit"] (spF K T 2 f__law_draw)) {f : Addr} {fd : FuncData} (F : Fun K "_law_pick" "_law_pick" s__law_pick f fd) :
    FnG P w K mg base CX0 2 f fd ["_law_deck_here", "_law_some"] (spF K T 2 f__law_pick) := by
  refine fnG_of F sc__law_pick (fun vs H Q E h => spF_len h) (fun cdv A outer s H vs Q E hg0 hr h => ?_)
  have hu := hu_of hr
  refine ⟨_, PSs.nox (pss_one (ps_ret (pe_ix ix_seq (pv 1) (pe_callC C__law_draw hg0 hr (by decide) (pa_cons (pv 0) (pa_cons (pe_callB (id := "len") call_len_seq (by rfl) tx.z_len (by decide +kernel) (pa_cons (pv 1) pa_nil)) pa_nil))) (fun _ _ => rfl)))), spF_body (N := N__law_pick) (g := g__law_pick) (by decide) ?_ h⟩
  unfold g__law_pick
  exact (ds_ret (de_ix (de_var 1) (de_call (n := 2) (E := noX) (da_cons (de_var 0) (da_cons (de_len (de_var 1)) da_nil)))))
/-! ### _law_is_integer -/
abbrev s__law_is_integer : Stmt := topS 33
abbrev N__law_is_integer : List Str := ["_law_thing"]
theorem sc__law_is_integer : FnScope N__law_is_integer ["_law_thing"] (defScope s__law_is_integer) := ⟨rfl, rfl, rfl, by decide +kernel, rfl, by decide +kernel, by decide +kernel⟩
def g__law_is_integer : Fs := (sRet (fAnd (f1 (gIsi "int") (fVar 0)) (fNot (f1 (gIsi "bool") (fVar 0)))))
def f__law_is_integer : Fd := fnOf 1 g__law_is_integer
theorem ok__law_is_integer {P : Program} {w : World} {K : Fg} {mg : Str → Option Value} {base : Heap} {T : List Addr} (tx : Tx base mg) {f : Addr} {fd : FuncData} (F : Fun K "_law_is_integer" "_law_is_integer" s__law_is_integer f fd) :
    FnG P w K mg base CX0 1 f fd ["_law_thing"] (spF K T 1 f__law_is_integer) := by
  refine fnG_of F sc__law_is_integer (fun vs H Q E h => spF_len h) (fun cdv A outer s H vs Q E hg0 hr h => ?_)
  have hu := hu_of hr
  refine ⟨_, PSs.nox (pss_one (ps_ret (pe_and (pe_callB (id := "isinstance") call_isi (by rfl) tx.z_isinstance (by decide +kernel) (pa_cons (pv 0) (pa_cons (pe_bltn (v := .ty "int") (by rfl) tx.z_int (u := .type "int") (by decide +kernel) rfl) pa_nil))) (pe_one (pe_not (pe_callB (id := "isinstance") call_isi (by rfl) tx.z_isinstance (by decide +kernel) (pa_cons (pv 0) (pa_cons (pe_bltn (v := .ty "bool") (by rfl) tx.z_bool (u := .type "bool") (by decide +kernel) rfl) pa_nil)))))))), spF_body (N := N__law_is_integer) (g := g__law_is_integer) (by decide) ?_ h⟩
  unfold g__law_is_integer
  exact (ds_ret (de_and (de_isi "int" (by decide) (de_var 0)) (de_not (de_isi "bool" (by decide) (de_var 0)))))
/-! ### _law_gcd -/
abbrev s__law_gcd : Stmt := topS 34
abbrev N__law_gcd : List Str := ["_law_one", "_law_other"]
theorem sc__law_gcd : FnScope N__law_gcd ["_law_one", "_law_other"] (defScope s__law_gcd) := ⟨rfl, rfl, rfl, by decide +kernel, rfl, by decide +kernel, by decide +kernel⟩
def g__law_gcd : Fs := (sSeq (sPar 0 1 (fCons (f1 gAbs (fVar 0)) (fCons (f1 gAbs (fVar 1)) fNil)))
    (sSeq (sWhile (fuelV 1) (fTest (fCmp (fun i j => decide (j < i)) (fVar 1) (fC (.int 0)))) (sPar 0 1 (fCons (fVar 1) (fCons (fMod (fVar 0) (fVar 1)) fNil))))
    (sRet (fVar 0))))
def f__law_gcd : Fd := fnOf 2 g__law_gcd
theorem ok__law_gcd {P : Program} {w : World} {K : Fg} {mg : Str → Option Value} {base : Heap} {T : List Addr} (tx : Tx base mg) {f : Addr} {fd : FuncData} (F : Fun K "_law_gcd" "_law_gcd" s__law_gcd f fd) :
    FnG P w K mg base CX0 1 f fd ["_law_one", "_law_other"] (spF K T 2 f__law_gcd) := by
  refine fnG_of F sc__law_gcd (fun vs H Q E h => spF_len h) (fun cdv A outer s H vs Q E hg0 hr h => ?_)
  have hu := hu_of hr
  refine ⟨_, PSs.nox (pss_cons (ps_par (i := 0) (j := 1) rfl sc__law_gcd.nd rfl rfl (by decide) rfl rfl (pa_cons (pe_callB (id := "abs") call_abs (by rfl) tx.z_abs (by decide +kernel) (pa_cons (pv 0) pa_nil)) (pa_cons (pe_callB (id := "abs") call_abs (by rfl) tx.z_abs (by decide +kernel) (pa_cons (pv 1) pa_nil)) pa_nil)) rfl)
      (pss_cons (ps_while PassesOwn.never (pt_cmpR op_gt (pv 1) pe_int (nomark _)) (pss_one (ps_par (i := 0) (j := 1) rfl sc__law_gcd.nd rfl rfl (by decide) rfl rfl (pa_cons (pv 1) (pa_cons (pe_op op_modN (pv 0) (pv 1)) pa_nil)) rfl)))
      (pss_one (ps_ret (pv 0))))), spF_body (N := N__law_gcd) (g := g__law_gcd) (by decide) ?_ h⟩
  unfold g__law_gcd
  exact (ds_seq (ds_par (da_cons (de_abs (de_var 0)) (da_cons (de_abs (de_var 1)) da_nil)))
      (ds_seq (ds_while (dt_test (de_cmp (p := fun i j => decide (j < i)) (de_var 1) (de_c fun _ => .int _))) (ds_par (da_cons (de_var 1) (da_cons (de_mod (de_var 0) (de_var 1)) da_nil))))
      (ds_ret (de_var 0))))
/-! ### _law_short -/
abbrev s__law_short : Stmt := topS 35
abbrev N__law_short : List Str := ["_law_numbers", "_law_divisor", "_law_number", "_law_first"]
theorem sc__law_short : FnScope N__law_short ["_law_numbers"] (defScope s__law_short) := ⟨rfl, rfl, rfl, by decide +kernel, rfl, by decide +kernel, by decide +kernel⟩
def g__law_short : Fs := (sSeq (sAsg (fC (.int 0)) (qName 1))
    (sSeq (sFor (wSeq (fVar 0)) (qName 2) (sAsg (fCall 2 f__law_gcd (fCons (fVar 2) (fCons (fVar 1) fNil))) (qName 1)))
    (sSeq (sAsg (fIx (fLc (wSeq (fVar 0)) (qName 2) (fTest (fNe (fVar 2) (fC (.int 0)))) (fVar 2) [2]) (fC (.int 0))) (qName 3))
    (sRet (f1 gTupOf (fLc (wSeq (fVar 0)) (qName 2) fYes (fIf (fTest (fCmp (fun i j => decide (j < i)) (fVar 3) (fC (.int 0)))) (f2 gDivU (fVar 2) (fVar 1)) (fSub (fC (.int 0)) (f2 gDivU (fVar 2) (fVar 1)))) [2]))))))
def f__law_short : Fd := fnOf 4 g__law_short
theorem ok__law_short {P : Program} {w : World} {K : Fg} {mg : Str → Option Value} {base : Heap} {T : List Addr} (tx : Tx base mg) (C__law_gcd : Cg P w K mg base 1 "_law_gcd" ["_law_one", "_law_other"] (spF K T 2 f__law_gcd)) {f : Addr} {fd : FuncData} (F : Fun K "_law_short" "_law_short" s__law_short f fd) :
    FnG P w K mg base CX0 2 f fd ["_law_numbers"] (spF K T 1 f__law_short) := by
  refine fnG_of F sc__law_short (fun vs H Q E h => spF_len h) (fun cdv A outer s H vs Q E hg0 hr h => ?_)
  have hu := hu_of hr
  refine ⟨_, PSs.nox (pss_cons (ps_set (i := 1) sc__law_short.nd rfl (Or.inr rfl) pe_int)
      (pss_cons (ps_for PassesOwn.never rfl (pi_seq (pv 0)) (pg_name (i := 2) sc__law_short.nd rfl (Or.inl rfl)) (pss_one (ps_set (i := 1) sc__law_short.nd rfl (Or.inr rfl) (pe_callC C__law_gcd hg0 hr (by decide) (pa_cons (pv 2) (pa_cons (pv 1) pa_nil))))))
      (pss_cons (ps_set (i := 3) sc__law_short.nd rfl (Or.inr rfl) (pe_ix ix_seq (pe_lc (own := [("_law_number", 2)]) (g := gName 2)  rfl sc__law_short.nd (pi_seq (pv 0)) (blkOk_by (N := N__law_short) (sc := defScope s__law_short) (by decide +kernel)) (fun _ _ _ _ _ => pg_name (i := 2) sc__law_short.nd rfl (Or.inl rfl)) (fun _ _ _ _ _ => pts_one (pt_cmpR (oprK (r := rNeD) (K := K) (op_neD hr.units) rfl) (pv 2) pe_int (nomark _))) (fun _ _ _ _ _ => (pv 2))) pe_int (fun _ _ => rfl)))
      (pss_one (ps_ret (pe_callTy (T := "tuple") call_tuple_of (by rfl) tx.z_tuple (by decide +kernel) (pa_cons (pe_lc (own := [("_law_number", 2)]) (g := gName 2) (tt := tYes) rfl sc__law_short.nd (pi_seq (pv 0)) (blkOk_by (N := N__law_short) (sc := defScope s__law_short) (by decide +kernel)) (fun _ _ _ _ _ => pg_name (i := 2) sc__law_short.nd rfl (Or.inl rfl)) (fun _ _ _ _ _ => pts_nil) (fun _ _ _ _ _ => (pe_ifExp (pt_cmpR op_gt (pv 3) pe_int (nomark _)) (pe_op op_fdivU (pv 2) (pv 1)) (pe_op op_sub pe_int (pe_op op_fdivU (pv 2) (pv 1)))))) pa_nil))))))), spF_body (N := N__law_short) (g := g__law_short) (by decide) ?_ h⟩
  unfold g__law_short
  exact (ds_seq (ds_asg (de_c fun _ => .int _) (dg_name 1))
      (ds_seq (ds_for (di_seq (de_var 0)) (dg_name 2) (ds_asg (de_call (n := 2) (E := noX) (da_cons (de_var 2) (da_cons (de_var 1) da_nil))) (dg_name 1)))
      (ds_seq (ds_asg (de_ix (de_lc (vs := [2]) (di_seq (de_var 0)) (dg_name 2) (dt_test (de_ne (de_var 2) (de_c fun _ => .int _))) (de_var 2) (fun j h => h)) (de_c fun _ => .int _)) (dg_name 3))
      (ds_ret (de_tupOf (de_lc (vs := [2]) (di_seq (de_var 0)) (dg_name 2) dt_yes (de_if (dt_test (de_cmp (p := fun i j => decide (j < i)) (de_var 3) (de_c fun _ => .int _))) (de_divU (de_var 2) (de_var 1)) (de_sub (de_c fun _ => .int _) (de_divU (de_var 2) (de_var 1)))) (fun j h => h)))))))
/-! ### _law_is_place -/
abbrev s__law_is_place : Stmt := topS 36
abbrev N__law_is_place : List Str := ["_law_thing", "_law_it"]
theorem sc__law_is_place : FnScope N__law_is_place ["_law_thing"] (defScope s__law_is_place) := ⟨rfl, rfl, rfl, by decide +kernel, rfl, by decide +kernel, by decide +kernel⟩
def g__law_is_place : Fs := (sSeq (sIf (tOrF (tNotF (fTest (f1 (gIsi "tuple") (fVar 0)))) (tOrF (fTest (fNe (f1 gLen (fVar 0)) (fC (.int 2)))) (fTest (f2 (gNil true) (fLc (wSeq (fVar 0)) (qName 1) (tNotF (fTest (fCall 1 f__law_is_integer (fCons (fVar 1) fNil)))) (fVar 1) [1]) (fSeq .list fNil))))) (sRet (fC (.bool false))) sNext)
    (sRet (fOr (fAnd (fCmp (fun i j => decide (j < i)) (fIx (fVar 0) (fC (.int 1))) (fC (.int 0))) (fEq (fCall 2 f__law_gcd (fCons (fIx (fVar 0) (fC (.int 0))) (fCons (fIx (fVar 0) (fC (.int 1))) fNil))) (fC (.int 1)))) (fEq (fVar 0) (fSeq .tuple (fCons (fC (.int 1)) (fCons (fC (.int 0)) fNil)))))))
def f__law_is_place : Fd := fnOf 2 g__law_is_place
theorem ok__law_is_place {P : Program} {w : World} {K : Fg} {mg : Str → Option Value} {base : Heap} {T : List Addr} (tx : Tx base mg) (C__law_is_integer : Cg P w K mg base 1 "_law_is_integer" ["_law_thing"] (spF K T 1 f__law_is_integer)) (C__law_gcd : Cg P w K mg base 1 "_law_gcd" ["_law_one", "_law_other"] (spF K T 2 f__law_gcd)) {f : Addr} {fd : FuncData} (F : Fun K "_law_is_place" "_law_is_place" s__law_is_place f fd) :
    FnG P w K mg base CX0 2 f fd ["_law_thing"] (spF K T 1 f__law_is_place) := by
  refine fnG_of F sc__law_is_place (fun vs H Q E h => spF_len h) (fun cdv A outer s H vs Q E hg0 hr h => ?_)
  have hu := hu_of hr
  refine ⟨_, PSs.nox (pss_cons (ps_if (PW.pt (pw_or (pt_not (pt_val (pe_callB (id := "isinstance") call_isi (by rfl) tx.z_isinstance (by decide +kernel) (pa_cons (pv 0) (pa_cons (pe_bltn (v := .ty "tuple") (by rfl) tx.z_tuple (u := .type "tuple") (by decide +kernel) rfl) pa_nil))))) (pw_or (pt_cmpR (op_neD hr.units) (pe_callB (id := "len") call_len_seq (by rfl) tx.z_len (by decide +kernel) (pa_cons (pv 0) pa_nil)) pe_int (nomark _)) (pw_or1 (pt_cmpR (op_neNil hr.units) (pe_lc (own := [("_law_it", 1)]) (g := gName 1)  rfl sc__law_is_place.nd (pi_seq (pv 0)) (blkOk_by (N := N__law_is_place) (sc := defScope s__law_is_place) (by decide +kernel)) (fun _ _ _ _ _ => pg_name (i := 1) sc__law_is_place.nd rfl (Or.inl rfl)) (fun _ _ _ _ _ => pts_one (pt_not (pt_val (pe_callC C__law_is_integer hg0 hr (by decide) (pa_cons (pv 1) pa_nil))))) (fun _ _ _ _ _ => (pv 1))) (pe_lst pa_nil) (nomark _)))))) (pss_one (ps_ret pe_bl)) pss_nil)
      (pss_one (ps_ret (pe_or (pe_and (pe_cmpR op_gt (pe_ix ix_seq (pv 0) pe_int (fun _ _ => rfl)) pe_int (nomark _)) (pe_one (pe_cmpR (op_eqD hr.units) (pe_callC C__law_gcd hg0 hr (by decide) (pa_cons (pe_ix ix_seq (pv 0) pe_int (fun _ _ => rfl)) (pa_cons (pe_ix ix_seq (pv 0) pe_int (fun _ _ => rfl)) pa_nil))) pe_int (nomark _)))) (pe_one (pe_cmpR (op_eqD hr.units) (pv 0) (pe_tup (pa_cons pe_int (pa_cons pe_int pa_nil))) (nomark _))))))), spF_body (N := N__law_is_place) (g := g__law_is_place) (by decide) ?_ h⟩
  unfold g__law_is_place
  exact (ds_seq (ds_if (dt_or (dt_not (dt_b (de_isi "tuple" (by decide) (de_var 0)))) (dt_or (dt_test (de_ne (de_len (de_var 0)) (de_c fun _ => .int _))) (dt_test (de_nil (neg := true) (de_lc (vs := [1]) (di_seq (de_var 0)) (dg_name 1) (dt_not (dt_b (de_call (n := 1) (E := noX) (da_cons (de_var 1) da_nil)))) (de_var 1) (fun j h => h)) (de_lst da_nil))))) (ds_ret (de_c fun _ => .bl _)) ds_next)
      (ds_ret (de_or (de_and (de_cmp (p := fun i j => decide (j < i)) (de_ix (de_var 0) (de_c fun _ => .int _)) (de_c fun _ => .int _)) (de_eq (de_call (n := 2) (E := noX) (da_cons (de_ix (de_var 0) (de_c fun _ => .int _)) (da_cons (de_ix (de_var 0) (de_c fun _ => .int _)) da_nil))) (de_c fun _ => .int _))) (de_eq (de_var 0) (de_tup (da_cons (de_c fun _ => .int _) (da_cons (de_c fun _ => .int _) da_nil)))))))
/-! ### _law_place -/
abbrev s__law_place : Stmt := topS 37
abbrev N__law_place : List Str := ["_law_one", "_law_other", "_law_divisor"]
theorem sc__law_place : FnScope N__law_place ["_law_one", "_law_other"] (defScope s__law_place) := ⟨rfl, rfl, rfl, by decide +kernel, rfl, by decide +kernel, by decide +kernel⟩
def g__law_place : Fs := (sSeq (sAsg (fCall 2 f__law_gcd (fCons (fVar 0) (fCons (fVar 1) fNil))) (qName 2))
    (sSeq (sIf (fTest (fEq (fVar 1) (fC (.int 0)))) (sRet (fSeq .tuple (fCons (fC (.int 1)) (fCons (fC (.int 0)) fNil)))) sNext)
    (sRet (fIf (fTest (fCmp (fun i j => decide (j < i)) (fVar 1) (fC (.int 0)))) (fSeq .tuple (fCons (f2 gDivU (fVar 0) (fVar 2)) (fCons (f2 gDivU (fVar 1) (fVar 2)) fNil))) (fSeq .tuple (fCons (fSub (fC (.int 0)) (f2 gDivU (fVar 0) (fVar 2))) (fCons (fSub (fC (.int 0)) (f2 gDivU (fVar 1) (fVar 2))) fNil)))))))
def f__law_place : Fd := fnOf 3 g__law_place
theorem ok__law_place {P : Program} {w : World} {K : Fg} {mg : Str → Option Value} {base : Heap} {T : List Addr} (tx : Tx base mg) (C__law_gcd : Cg P w K mg base 1 "_law_gcd" ["_law_one", "_law_other"] (spF K T 2 f__law_gcd)) {f : Addr} {fd : FuncData} (F : Fun K "_law_place" "_law_place" s__law_place f fd) :
    FnG P w K mg base CX0 2 f fd ["_law_one", "_law_other"] (spF K T 2 f__law_place) := by
  refine fnG_of F sc__law_place (fun vs H Q E h => spF_len h) (fun cdv A outer s H vs Q E hg0 hr h => ?_)
  have hu := hu_of hr
  refine ⟨_, PSs.nox (pss_cons (ps_set (i := 2) sc__law_place.nd rfl (Or.inl rfl) (pe_callC C__law_gcd hg0 hr (by decide) (pa_cons (pv 0) (pa_cons (pv 1) pa_nil))))
      (pss_cons (ps_if (pt_cmpR (op_eqD hr.units) (pv 1) pe_int (nomark _)) (pss_one (ps_ret (pe_tup (pa_cons pe_int (pa_cons pe_int pa_nil))))) pss_nil)
      (pss_one (ps_ret (pe_ifExp (pt_cmpR op_gt (pv 1) pe_int (nomark _)) (pe_tup (pa_cons (pe_op op_fdivU (pv 0) (pv 2)) (pa_cons (pe_op op_fdivU (pv 1) (pv 2)) pa_nil))) (pe_tup (pa_cons (pe_op op_sub pe_int (pe_op op_fdivU (pv 0) (pv 2))) (pa_cons (pe_op op_sub pe_int (pe_op op_fdivU (pv 1) (pv 2))) pa_nil)))))))), spF_body (N := N__law_place) (g := g__law_place) (by decide) ?_ h⟩
  unfold g__law_place
  exact (ds_seq (ds_asg (de_call (n := 2) (E := noX) (da_cons (de_var 0) (da_cons (de_var 1) da_nil))) (dg_name 2))
      (ds_seq (ds_if (dt_test (de_eq (de_var 1) (de_c fun _ => .int _))) (ds_ret (de_tup (da_cons (de_c fun _ => .int _) (da_cons (de_c fun _ => .int _) da_nil)))) ds_next)
      (ds_ret (de_if (dt_test (de_cmp (p := fun i j => decide (j < i)) (de_var 1) (de_c fun _ => .int _))) (de_tup (da_cons (de_divU (de_var 0) (de_var 2)) (da_cons (de_divU (de_var 1) (de_var 2)) da_nil))) (de_tup (da_cons (de_sub (de_c fun _ => .int _) (de_divU (de_var 0) (de_var 2))) (da_cons (de_sub (de_c fun _ => .int _) (de_divU (de_var 1) (de_var 2))) da_nil)))))))
/-! ### _law_is_relation -/
abbrev s__law_is_relation : Stmt := topS 38
abbrev N__law_is_relation : List Str := ["_law_thing", "_law_it"]
theorem sc__law_is_relation : FnScope N__law_is_relation ["_law_thing"] (defScope s__law_is_relation) := ⟨rfl, rfl, rfl, by decide +kernel, rfl, by decide +kernel, by decide +kernel⟩
def g__law_is_relation : Fs := (sSeq (sIf (tOrF (tNotF (fTest (f1 (gIsi "tuple") (fVar 0)))) (fTest (f2 (gIn true) (f1 gLen (fVar 0)) (fSeq .tuple (fCons (fC (.int 2)) (fCons (fC (.int 4)) (fCons (fC (.int 8)) (fCons (fC (.int 16)) (fCons (fC (.int 32)) (fCons (fC (.int 64)) fNil)))))))))) (sRet (fC (.bool false))) sNext)
    (sSeq (sIf (tOrF (fTest (f2 (gNil true) (fLc (wSeq (fVar 0)) (qName 1) (tNotF (fTest (fCall 1 f__law_is_integer (fCons (fVar 1) fNil)))) (fVar 1) [1]) (fSeq .list fNil))) (fTest (f2 (gNil false) (fLc (wSeq (fVar 0)) (qName 1) (fTest (fNe (fVar 1) (fC (.int 0)))) (fVar 1) [1]) (fSeq .list fNil)))) (sRet (fC (.bool false))) sNext)
    (sRet (fEq (fCall 1 f__law_short (fCons (fVar 0) fNil)) (fVar 0)))))
def f__law_is_relation : Fd := fnOf 2 g__law_is_relation
theorem ok__law_is_relation {P : Program} {w : World} {K : Fg} {mg : Str → Option Value} {base : Heap} {T : List Addr} (tx : Tx base mg) (C__law_is_integer : Cg P w K mg base 1 "_law_is_integer" ["_law_thing"] (spF K T 1 f__law_is_integer)) (C__law_short : Cg P w K mg base 2 "_law_short" ["_law_numbers"] (spF K T 1 f__law_short)) {f : Addr} {fd : FuncData} (F : Fun K "_law_is_relation" "_law_is_relation" s__law_is_relation f fd) :
    FnG P w K mg base CX0 3 f fd ["_law_thing"] (spF K T 1 f__law_is_relation) := by
  refine fnG_of F sc__law_is_relation (fun vs H Q E h => spF_len h) (fun cdv A outer s H vs Q E hg0 hr h => ?_)
  have hu := hu_of hr
  refine ⟨_, PSs.nox (pss_cons (ps_if (PW.pt (pw_or (pt_not (pt_val (pe_callB (id := "isinstance") call_isi (by rfl) tx.z_isinstance (by decide +kernel) (pa_cons (pv 0) (pa_cons (pe_bltn (v := .ty "tuple") (by rfl) tx.z_tuple (u := .type "tuple") (by decide +kernel) rfl) pa_nil))))) (pw_or1 (pt_cmpR (op_notInU (units65 hr)) (pe_callB (id := "len") call_len_seq (by rfl) tx.z_len (by decide +kernel) (pa_cons (pv 0) pa_nil)) (pe_tup (pa_cons pe_int (pa_cons pe_int (pa_cons pe_int (pa_cons pe_int (pa_cons pe_int (pa_cons pe_int pa_nil))))))) (by with_unfolding_all rfl))))) (pss_one (ps_ret pe_bl)) pss_nil)
      (pss_cons (ps_if (PW.pt (pw_or (pt_cmpR (op_neNil hr.units) (pe_lc (own := [("_law_it", 1)]) (g := gName 1)  rfl sc__law_is_relation.nd (pi_seq (pv 0)) (blkOk_by (N := N__law_is_relation) (sc := defScope s__law_is_relation) (by decide +kernel)) (fun _ _ _ _ _ => pg_name (i := 1) sc__law_is_relation.nd rfl (Or.inl rfl)) (fun _ _ _ _ _ => pts_one (pt_not (pt_val (pe_callC C__law_is_integer hg0 hr (by decide) (pa_cons (pv 1) pa_nil))))) (fun _ _ _ _ _ => (pv 1))) (pe_lst pa_nil) (nomark _)) (pw_or1 (pt_cmpR (op_eqNil hr.units) (pe_lc (own := [("_law_it", 1)]) (g := gName 1)  rfl sc__law_is_relation.nd (pi_seq (pv 0)) (blkOk_by (N := N__law_is_relation) (sc := defScope s__law_is_relation) (by decide +kernel)) (fun _ _ _ _ _ => pg_name (i := 1) sc__law_is_relation.nd rfl (Or.inl rfl)) (fun _ _ _ _ _ => pts_one (pt_cmpR (oprK (r := rNeD) (K := K) (op_neD hr.units) rfl) (pv 1) pe_int (nomark _))) (fun _ _ _ _ _ => (pv 1))) (pe_lst pa_nil) (nomark _))))) (pss_one (ps_ret pe_bl)) pss_nil)
      (pss_one (ps_ret (pe_cmpR (op_eqD hr.units) (pe_callC C__law_short hg0 hr (by decide) (pa_cons (pv 0) pa_nil)) (pv 0) (nomark _)))))), spF_body (N := N__law_is_relation) (g := g__law_is_relation) (by decide) ?_ h⟩
  unfold g__law_is_relation
  exact (ds_seq (ds_if (dt_or (dt_not (dt_b (de_isi "tuple" (by decide) (de_var 0)))) (dt_test (de_inU (neg := true) (de_len (de_var 0)) (de_tup (da_cons (de_c fun _ => .int _) (da_cons (de_c fun _ => .int _) (da_cons (de_c fun _ => .int _) (da_cons (de_c fun _ => .int _) (da_cons (de_c fun _ => .int _) (da_cons (de_c fun _ => .int _) da_nil)))))))))) (ds_ret (de_c fun _ => .bl _)) ds_next)
      (ds_seq (ds_if (dt_or (dt_test (de_nil (neg := true) (de_lc (vs := [1]) (di_seq (de_var 0)) (dg_name 1) (dt_not (dt_b (de_call (n := 1) (E := noX) (da_cons (de_var 1) da_nil)))) (de_var 1) (fun j h => h)) (de_lst da_nil))) (dt_test (de_nil (neg := false) (de_lc (vs := [1]) (di_seq (de_var 0)) (dg_name 1) (dt_test (de_ne (de_var 1) (de_c fun _ => .int _))) (de_var 1) (fun j h => h)) (de_lst da_nil)))) (ds_ret (de_c fun _ => .bl _)) ds_next)
      (ds_ret (de_eq (de_call (n := 1) (E := noX) (da_cons (de_var 0) da_nil)) (de_var 0)))))
/-! ### _law_value -/
abbrev s__law_value : Stmt := topS 39
abbrev N__law_value : List Str := ["_law_items_here", "_law_places", "_law_found", "_law_one", "_law_other", "_law_at"]
theorem sc__law_value : FnScope N__law_value ["_law_items_here", "_law_places"] (defScope s__law_value) := ⟨rfl, rfl, rfl, by decide +kernel, rfl, by decide +kernel, by decide +kernel⟩
def g__law_value : Fs := (sSeq (sAsg (f1 gListOf (fVar 0)) (qName 2))
    (sSeq (sFor (wSeq (fRevU (fVar 1))) (qTup 2 (qCons (qName 3) (qCons (qName 4) qNil))) (sAsg (fLc (wRng3 (fCons (fC (.int 0)) (fCons (f1 gLen (fVar 2)) (fCons (fC (.int 2)) fNil)))) (qName 5) fYes (f2 gAddU (f2 gMulU (fIx (fVar 2) (fVar 5)) (fVar 3)) (f2 gMulU (fIx (fVar 2) (f2 gAddU (fVar 5) (fC (.int 1)))) (fVar 4))) [5]) (qName 2)))
    (sRet (fIx (fVar 2) (fC (.int 0))))))
def f__law_value : Fd := fnOf 6 g__law_value
theorem ok__law_value {P : Program} {w : World} {K : Fg} {mg : Str → Option Value} {base : Heap} {T : List Addr} (tx : Tx base mg) {f : Addr} {fd : FuncData} (F : Fun K "_law_value" "_law_value" s__law_value f fd) :
    FnG P w K mg base CX0 1 f fd ["_law_items_here", "_law_places"] (spF K T 2 f__law_value) := by
  refine fnG_of F sc__law_value (fun vs H Q E h => spF_len h) (fun cdv A outer s H vs Q E hg0 hr h => ?_)
  have hu := hu_of hr
  refine ⟨_, PSs.nox (pss_cons (ps_set (i := 2) sc__law_value.nd rfl (Or.inr rfl) (pe_callTy (T := "list") call_list_of (by rfl) tx.z_list (by decide +kernel) (pa_cons (pv 0) pa_nil)))
      (pss_cons (ps_for PassesOwn.never rfl (pi_seq (pe_revU (pv 1))) (pg_tup rfl (pgs_cons (pg_name (i := 3) sc__law_value.nd rfl (Or.inr rfl)) (pgs_cons (pg_name (i := 4) sc__law_value.nd rfl (Or.inr rfl)) pgs_nil))) (pss_one (ps_set (i := 2) sc__law_value.nd rfl (Or.inr rfl) (pe_lc (own := [("_law_at", 5)]) (g := gName 5) (tt := tYes) rfl sc__law_value.nd (pi_range3 (by rfl) tx.z_range (pa_cons pe_int (pa_cons (pe_callB (id := "len") call_len_seq (by rfl) tx.z_len (by decide +kernel) (pa_cons (pv 2) pa_nil)) (pa_cons pe_int pa_nil)))) (blkOk_by (N := N__law_value) (sc := defScope s__law_value) (by decide +kernel)) (fun _ _ _ _ _ => pg_name (i := 5) sc__law_value.nd rfl (Or.inl rfl)) (fun _ _ _ _ _ => pts_nil) (fun _ _ _ _ _ => (pe_op (oprK (r := rAddU) (K := K) op_addU rfl) (pe_op op_mulU (pe_ix (ixrK (r := rIx) (K := K) ix_seq rfl) (pv 2) (pv 5) (fun _ _ => rfl)) (pv 3)) (pe_op op_mulU (pe_ix (ixrK (r := rIx) (K := K) ix_seq rfl) (pv 2) (pe_op (oprK (r := rAddU) (K := K) op_addU rfl) (pv 5) pe_int) (fun _ _ => rfl)) (pv 4))))))))
      (pss_one (ps_ret (pe_ix ix_seq (pv 2) pe_int (fun _ _ => rfl)))))), spF_body (N := N__law_value) (g := g__law_value) (by decide) ?_ h⟩
  unfold g__law_value
  exact (ds_seq (ds_asg (de_listOf (de_var 0)) (dg_name 2))
      (ds_seq (ds_for (di_seq (de_revU (de_var 1))) (dg_tup (dgs_cons (dg_name 3) (dgs_cons (dg_name 4) dgs_nil))) (ds_asg (de_lc (vs := [5]) (di_rng3 (da_cons (de_c fun _ => .int _) (da_cons (de_len (de_var 2)) (da_cons (de_c fun _ => .int _) da_nil)))) (dg_name 5) dt_yes (de_addU (de_mulU (de_ix (de_var 2) (de_var 5)) (de_var 3)) (de_mulU (de_ix (de_var 2) (de_addU (de_var 5) (de_c fun _ => .int _))) (de_var 4))) (fun j h => h)) (dg_name 2)))
      (ds_ret (de_ix (de_var 2) (de_c fun _ => .int _)))))
/-! ### _law_signed -/
abbrev s__law_signed : Stmt := topS 40
abbrev N__law_signed : List Str := ["_law_deck_here", "_law_limit", "_law_found"]
theorem sc__law_signed : FnScope N__law_signed ["_law_deck_here", "_law_limit"] (defScope s__law_signed) := ⟨rfl, rfl, rfl, by decide +kernel, rfl, by decide +kernel, by decide +kernel⟩
def g__law_signed : Fs := (sSeq (sAsg (fCall 2 f__law_draw (fCons (fVar 0) (fCons (fVar 1) fNil))) (qName 2))
    (sRet (fIf (fTest (fEq (fCall 2 f__law_draw (fCons (fVar 0) (fCons (fC (.int 2)) fNil))) (fC (.int 0)))) (fSub (fC (.int 0)) (fVar 2)) (fVar 2))))
def f__law_signed : Fd := fnOf 3 g__law_signed
theorem ok__law_signed {P : Program} {w : World} {K : Fg} {mg : Str → Option Value} {base : Heap} {T : List Addr} (tx : Tx base mg) (C__law_draw : Cg P w K mg base 1 "_law_draw" ["_law_deck_here", "_law_limit"] (spF K T 2 f__law_draw)) {f : Addr} {fd : FuncData} (F : Fun K "_law_signed" "_law_signed" s__law_signed f fd) :
    FnG P w K mg base CX0 2 f fd ["_law_deck_here", "_law_limit"] (spF K T 2 f__law_signed) := by
  refine fnG_of F sc__law_signed (fun vs H Q E h => spF_len h) (fun cdv A outer s H vs Q E hg0 hr h => ?_)
  have hu := hu_of hr
  refine ⟨_, PSs.nox (pss_cons (ps_set (i := 2) sc__law_signed.nd rfl (Or.inl rfl) (pe_callC C__law_draw hg0 hr (by decide) (pa_cons (pv 0) (pa_cons (pv 1) pa_nil))))
      (pss_one (ps_ret (pe_ifExp (pt_cmpR (op_eqD hr.units) (pe_callC C__law_draw hg0 hr (by decide) (pa_cons (pv 0) (pa_cons pe_int pa_nil))) pe_int (nomark _)) (pe_op op_sub pe_int (pv 2)) (pv 2))))), spF_body (N := N__law_signed) (g := g__law_signed) (by decide) ?_ h⟩
  unfold g__law_signed
  exact (ds_seq (ds_asg (de_call (n := 2) (E := noX) (da_cons (de_var 0) (da_cons (de_var 1) da_nil))) (dg_name 2))
      (ds_ret (de_if (dt_test (de_eq (de_call (n := 2) (E := noX) (da_cons (de_var 0) (da_cons (de_c fun _ => .int _) da_nil))) (de_c fun _ => .int _))) (de_sub (de_c fun _ => .int _) (de_var 2)) (de_var 2))))
/-! ### _law_drawn_place -/
abbrev s__law_drawn_place : Stmt := topS 41
abbrev N__law_drawn_place : List Str := ["_law_deck_here", "_law_limit", "_law_one", "_law_other"]
theorem sc__law_drawn_place : FnScope N__law_drawn_place ["_law_deck_here"] (defScope s__law_drawn_place) := ⟨rfl, rfl, rfl, by decide +kernel, rfl, by decide +kernel, by decide +kernel⟩
def g__law_drawn_place : Fs := (sSeq (sAsg (fCall 2 f__law_pick (fCons (fVar 0) (fCons (fSeq .list (fCons (fC (.int 2)) (fCons (fC (.int 3)) (fCons (fC (.int 8)) (fCons (fC (.int 1000)) (fCons (fC (.int 30000)) fNil)))))) fNil))) (qName 1))
    (sSeq (sPar 2 3 (fCons (fCall 2 f__law_signed (fCons (fVar 0) (fCons (fVar 1) fNil))) (fCons (fCall 2 f__law_draw (fCons (fVar 0) (fCons (fVar 1) fNil))) fNil)))
    (sSeq (sIf (fTest (fEq (fVar 1) (fC (.int 30000)))) (sPar 2 3 (fCons (f2 gAddU (f2 gMulU (fVar 2) (fC (.int 33333))) (fCall 2 f__law_draw (fCons (fVar 0) (fCons (fC (.int 9)) fNil)))) (fCons (f2 gAddU (f2 gMulU (fVar 3) (fC (.int 33333))) (fC (.int 1))) fNil))) sNext)
    (sRet (fIf (fTest (fNe (fSeq .tuple (fCons (fVar 2) (fCons (fVar 3) fNil))) (fSeq .tuple (fCons (fC (.int 0)) (fCons (fC (.int 0)) fNil))))) (fCall 2 f__law_place (fCons (fVar 2) (fCons (fVar 3) fNil))) (fSeq .tuple (fCons (fC (.int 1)) (fCons (fC (.int 0)) fNil))))))))
def f__law_drawn_place : Fd := fnOf 4 g__law_drawn_place
theorem ok__law_drawn_place {P : Program} {w : World} {K : Fg} {mg : Str → Option Value} {base : Heap} {T : List Addr} (tx : Tx base mg) (C__law_pick : Cg P w K mg base 2 "_law_pick" ["_law_deck_here", "_law_some"] (spF K T 2 f__law_pick)) (C__law_signed : Cg P w K mg base 2 "_law_signed" ["_law_deck_here", "_law_limit"] (spF K T 2 f__law_signed)) (C__law_draw : Cg P w K mg base 1 "_law_draw" ["_law_deck_here", "_law_limit"] (spF K T 2 f__law_draw)) (C__law_place : Cg P w K mg base 2 "_law_place" ["_law_one", "_law_other"] (spF K T 2 f__law_place)) {f : Addr} {fd : FuncData} (F : Fun K "_law_drawn_place" "_law_drawn_place" s__law_drawn_place f fd) :
    FnG P w K mg base CX0 3 f fd ["_law_deck_here"] (spF K T 1 f__law_drawn_place) := by
  refine fnG_of F sc__law_drawn_place (fun vs H Q E h => spF_len h) (fun cdv A outer s H vs Q E hg0 hr h => ?_)
  have hu := hu_of hr
  refine ⟨_, PSs.nox (pss_cons (ps_set (i := 1) sc__law_drawn_place.nd rfl (Or.inl rfl) (pe_callC C__law_pick hg0 hr (by decide) (pa_cons (pv 0) (pa_cons (pe_lst (pa_cons pe_int (pa_cons pe_int (pa_cons pe_int (pa_cons pe_int (pa_cons pe_int pa_nil)))))) pa_nil))))
      (pss_cons (ps_par (i := 2) (j := 3) rfl sc__law_drawn_place.nd rfl rfl (by decide) rfl rfl (pa_cons (pe_callC C__law_signed hg0 hr (by decide) (pa_cons (pv 0) (pa_cons (pv 1) pa_nil))) (pa_cons (pe_callC C__law_draw hg0 hr (by decide) (pa_cons (pv 0) (pa_cons (pv 1) pa_nil))) pa_nil)) rfl)
      (pss_cons (ps_if (pt_cmpR (op_eqD hr.units) (pv 1) pe_int (nomark _)) (pss_one (ps_par (i := 2) (j := 3) rfl sc__law_drawn_place.nd rfl rfl (by decide) rfl rfl (pa_cons (pe_op op_addU (pe_op op_mulU (pv 2) pe_int) (pe_callC C__law_draw hg0 hr (by decide) (pa_cons (pv 0) (pa_cons pe_int pa_nil)))) (pa_cons (pe_op op_addU (pe_op op_mulU (pv 3) pe_int) pe_int) pa_nil)) rfl)) pss_nil)
      (pss_one (ps_ret (pe_ifExp (pt_cmpR (op_neD hr.units) (pe_tup (pa_cons (pv 2) (pa_cons (pv 3) pa_nil))) (pe_tup (pa_cons pe_int (pa_cons pe_int pa_nil))) (nomark _)) (pe_callC C__law_place hg0 hr (by decide) (pa_cons (pv 2) (pa_cons (pv 3) pa_nil))) (pe_tup (pa_cons pe_int (pa_cons pe_int pa_nil))))))))), spF_body (N := N__law_drawn_place) (g := g__law_drawn_place) (by decide) ?_ h⟩
  unfold g__law_drawn_place
  exact (ds_seq (ds_asg (de_call (n := 2) (E := noX) (da_cons (de_var 0) (da_cons (de_lst (da_cons (de_c fun _ => .int _) (da_cons (de_c fun _ => .int _) (da_cons (de_c fun _ => .int _) (da_cons (de_c fun _ => .int _) (da_cons (de_c fun _ => .int _) da_nil)))))) da_nil))) (dg_name 1))
      (ds_seq (ds_par (da_cons (de_call (n := 2) (E := noX) (da_cons (de_var 0) (da_cons (de_var 1) da_nil))) (da_cons (de_call (n := 2) (E := noX) (da_cons (de_var 0) (da_cons (de_var 1) da_nil))) da_nil)))
      (ds_seq (ds_if (dt_test (de_eq (de_var 1) (de_c fun _ => .int _))) (ds_par (da_cons (de_addU (de_mulU (de_var 2) (de_c fun _ => .int _)) (de_call (n := 2) (E := noX) (da_cons (de_var 0) (da_cons (de_c fun _ => .int _) da_nil)))) (da_cons (de_addU (de_mulU (de_var 3) (de_c fun _ => .int _)) (de_c fun _ => .int _)) da_nil))) ds_next)
      (ds_ret (de_if (dt_test (de_ne (de_tup (da_cons (de_var 2) (da_cons (de_var 3) da_nil))) (de_tup (da_cons (de_c fun _ => .int _) (da_cons (de_c fun _ => .int _) da_nil))))) (de_call (n := 2) (E := noX) (da_cons (de_var 2) (da_cons (de_var 3) da_nil))) (de_tup (da_cons (de_c fun _ => .int _) (da_cons (de_c fun _ => .int _) da_nil))))))))
/-! ### _law_items -/
abbrev s__law_items : Stmt := topS 42
abbrev N__law_items : List Str := ["_law_deck_here", "_law_n", "_law_limit", "_law_share", "_law_found", "_law_turn", "_law_it"]
theorem sc__law_items : FnScope N__law_items ["_law_deck_here", "_law_n"] (defScope s__law_items) := ⟨rfl, rfl, rfl, by decide +kernel, rfl, by decide +kernel, by decide +kernel⟩
def g__law_items : Fs := (sSeq (sAsg (fSeq .tuple (fCons (fCall 2 f__law_pick (fCons (fVar 0) (fCons (fSeq .list (fCons (fC (.int 2)) (fCons (fC (.int 3)) (fCons (fC (.int 10)) (fCons (fC (.int 1001)) (fCons (fC (.int 1000001)) fNil)))))) fNil))) (fCons (fCall 2 f__law_pick (fCons (fVar 0) (fCons (fSeq .list (fCons (fC (.int 1)) (fCons (fC (.int 2)) (fCons (fC (.int 4)) fNil)))) fNil))) fNil))) (qTup 2 (qCons (qName 2) (qCons (qName 3) qNil))))
    (sSeq (sOwn 4 (fCons (fC (.int 1)) fNil))
    (sSeq (sFor (wRng1 (fCons (fVar 1) fNil)) (qName 5) (sAsg (f2 gAddU (fVar 4) (fVar 4)) (qName 4)))
    (sSeq (sOwnLc 4 (wSeq (fVar 4)) (qName 6) fYes (fIf (fTest (fEq (fCall 2 f__law_draw (fCons (fVar 0) (fCons (fVar 3) fNil))) (fC (.int 0)))) (fCall 2 f__law_signed (fCons (fVar 0) (fCons (fVar 2) fNil))) (fC (.int 0))) [6])
    (sSeq (sIf (fTest (f2 (gNil false) (fLc (wSeqN (fVar 4)) (qName 6) (fTest (fNe (fVar 6) (fC (.int 0)))) (fVar 6) [6]) (fSeq .list fNil))) (sSetX 4 (fCall 2 f__law_draw (fCons (fVar 0) (fCons (f1 gLen (fVar 4)) fNil))) (fC (.int 1))) sNext)
    (sFrz 4 (sRet (fCall 1 f__law_short (fCons (fVar 4) fNil)))))))))
def f__law_items : Fd := fnOf 7 g__law_items
theorem ok__law_items {P : Program} {w : World} {K : Fg} {mg : Str → Option Value} {base : Heap} {T : List Addr} (tx : Tx base mg) (C__law_pick : Cg P w K mg base 2 "_law_pick" ["_law_deck_here", "_law_some"] (spF K T 2 f__law_pick)) (C__law_draw : Cg P w K mg base 1 "_law_draw" ["_law_deck_here", "_law_limit"] (spF K T 2 f__law_draw)) (C__law_signed : Cg P w K mg base 2 "_law_signed" ["_law_deck_here", "_law_limit"] (spF K T 2 f__law_signed)) (C__law_short : Cg P w K mg base 2 "_law_short" ["_law_numbers"] (spF K T 1 f__law_short)) {f : Addr} {fd : FuncData} (F : Fun K "_law_items" "_law_items" s__law_items f fd) :
    FnG P w K mg base CX0 3 f fd ["_law_deck_here", "_law_n"] (spF K T 2 f__law_items) := by
  refine fnG_of F sc__law_items (fun vs H Q E h => spF_len h) (fun cdv A outer s H vs Q E hg0 hr h => ?_)
  have hu := hu_of hr
  refine ⟨_, PSs.nox (pss_cons (ps_asg (pe_tup (pa_cons (pe_callC C__law_pick hg0 hr (by decide) (pa_cons (pv 0) (pa_cons (pe_lst (pa_cons pe_int (pa_cons pe_int (pa_cons pe_int (pa_cons pe_int (pa_cons pe_int pa_nil)))))) pa_nil))) (pa_cons (pe_callC C__law_pick hg0 hr (by decide) (pa_cons (pv 0) (pa_cons (pe_lst (pa_cons pe_int (pa_cons pe_int (pa_cons pe_int pa_nil)))) pa_nil))) pa_nil))) (pg_tup rfl (pgs_cons (pg_name (i := 2) sc__law_items.nd rfl (Or.inr rfl)) (pgs_cons (pg_name (i := 3) sc__law_items.nd rfl (Or.inr rfl)) pgs_nil))))
      (pss_cons (ps_set (i := 4) sc__law_items.nd rfl (Or.inl rfl) (pe_lst (pa_cons pe_int pa_nil)))
      (pss_cons (ps_for PassesOwn.never rfl (pi_range1 (by rfl) tx.z_range (pa_cons (pv 1) pa_nil)) (pg_name (i := 5) sc__law_items.nd rfl (Or.inl rfl)) (pss_one (ps_set (i := 4) sc__law_items.nd rfl (Or.inl rfl) (pe_op op_addU (pv 4) (pv 4)))))
      (pss_cons (ps_setLc (i := 4) (own := [("_law_it", 6)]) (g := gName 6) (tt := tYes) rfl sc__law_items.nd rfl rfl (sw_true rfl rfl rfl (by decide +kernel)) (pi_seq (pv 4)) (blkOk_by (N := N__law_items) (sc := defScope s__law_items) (by decide +kernel)) (fun _ _ _ _ _ => pg_name (i := 6) sc__law_items.nd rfl (Or.inl rfl)) (fun _ _ _ _ _ => pts_nil) (fun _ _ _ _ _ => (pe_ifExp (pt_cmpR (oprK (r := rEqD) (K := K) (op_eqD hr.units) rfl) (pe_callC C__law_draw hg0 hr (by decide) (pa_cons (pv 0) (pa_cons (pv 3) pa_nil))) pe_int (nomark _)) (pe_callC C__law_signed hg0 hr (by decide) (pa_cons (pv 0) (pa_cons (pv 2) pa_nil))) pe_int)))
      (pss_cons (ps_if (pt_cmpR (op_eqNil hr.units) (pe_lc (own := [("_law_it", 6)]) (g := gName 6)  rfl sc__law_items.nd (pi_seq (pv 4)) (blkOk_by (N := N__law_items) (sc := defScope s__law_items) (by decide +kernel)) (fun _ _ _ _ _ => pg_name (i := 6) sc__law_items.nd rfl (Or.inl rfl)) (fun _ _ _ _ _ => pts_one (pt_cmpR (oprK (r := rNeD) (K := K) (op_neD hr.units) rfl) (pv 6) pe_int (nomark _))) (fun _ _ _ _ _ => (pv 6))) (pe_lst pa_nil) (nomark _)) (pss_one (ps_asg pe_int (pg_sub (pv 4) (pe_callC C__law_draw hg0 hr (by decide) (pa_cons (pv 0) (pa_cons (pe_callB (id := "len") call_len_seq (by rfl) tx.z_len (by decide +kernel) (pa_cons (pv 4) pa_nil)) pa_nil))) set_list))) pss_nil)
      (pss_one (ps_ret (pe_callC C__law_short hg0 hr (by decide) (pa_cons (pv 4) pa_nil))))))))), spF_body (N := N__law_items) (g := g__law_items) (by decide) ?_ h⟩
  unfold g__law_items
  exact (ds_seq (ds_asg (de_tup (da_cons (de_call (n := 2) (E := noX) (da_cons (de_var 0) (da_cons (de_lst (da_cons (de_c fun _ => .int _) (da_cons (de_c fun _ => .int _) (da_cons (de_c fun _ => .int _) (da_cons (de_c fun _ => .int _) (da_cons (de_c fun _ => .int _) da_nil)))))) da_nil))) (da_cons (de_call (n := 2) (E := noX) (da_cons (de_var 0) (da_cons (de_lst (da_cons (de_c fun _ => .int _) (da_cons (de_c fun _ => .int _) (da_cons (de_c fun _ => .int _) da_nil)))) da_nil))) da_nil))) (dg_tup (dgs_cons (dg_name 2) (dgs_cons (dg_name 3) dgs_nil))))
      (ds_seq (ds_own (da_cons (de_c fun _ => .int _) da_nil))
      (ds_seq (ds_for (di_rng1 (da_cons (de_var 1) da_nil)) (dg_name 5) (ds_asg (de_addU (de_var 4) (de_var 4)) (dg_name 4)))
      (ds_seq (ds_ownLc (i := 4) (vs := [6]) (di_seq (de_var 4)) (dg_name 6) dt_yes (de_if (dt_test (de_eq (de_call (n := 2) (E := noX) (da_cons (de_var 0) (da_cons (de_var 3) da_nil))) (de_c fun _ => .int _))) (de_call (n := 2) (E := noX) (da_cons (de_var 0) (da_cons (de_var 2) da_nil))) (de_c fun _ => .int _)) (fun j h => h))
      (ds_seq (ds_if (dt_test (de_nil (neg := false) (de_lcc (vs := [6]) (dic_seq (de_var 4)) (dg_name 6) (dt_test (de_ne (de_var 6) (de_c fun _ => .int _))) (de_var 6) (fun j h => h)) (de_lst da_nil))) (ds_setX (i := 4) (de_c fun _ => .int _) (de_call (n := 2) (E := noX) (da_cons (de_var 0) (da_cons (de_len (de_var 4)) da_nil)))) ds_next)
      (ds_frz (i := 4) (ds_ret (de_call (n := 1) (E := noX) (da_cons (de_var 4) da_nil)))))))))
/-! ### _law_told -/
abbrev s__law_told : Stmt := topS 43
abbrev N__law_told : List Str := ["_law_way", "_law_relation", "_law_places", "e"]
theorem sc__law_told : FnScope N__law_told ["_law_way", "_law_relation", "_law_places"] (defScope s__law_told) := ⟨rfl, rfl, rfl, by decide +kernel, rfl, by decide +kernel, by decide +kernel⟩
def gx__law_told : Fsx := (xTry 3 (fun s => decide (s = "BadPlaces")) (xTry 3 (fun s => decide (s = "BadRelation")) (xSq (xIfS (fTest (fEq (fVar 0) (fC (.int 0)))) (xRet (xSeq .tuple (xCons (liftO (fC (.str "told"))) (xCons (xCall 2 fx_value id (fCons (fVar 1) (fCons (fVar 2) fNil))) (liftO fNil))))) (liftS sNext))
    (xSq (xIfS (fTest (fEq (fVar 0) (fC (.int 1)))) (xRet (xSeq .tuple (xCons (liftO (fC (.str "told"))) (xCons (xCall 2 fx_value swap2 (fCons (fVar 2) (fCons (fVar 1) fNil))) (liftO fNil))))) (liftS sNext))
    (xSq (xIfS (fTest (fEq (fVar 0) (fC (.int 2)))) (xRet (xSeq .tuple (xCons (liftO (fC (.str "told"))) (xCons (xCall 2 fx_holds id (fCons (fVar 1) (fCons (fVar 2) fNil))) (liftO fNil))))) (liftS sNext))
    (xRet (xSeq .tuple (xCons (liftO (fC (.str "told"))) (xCons (xCall 2 fx_holds swap2 (fCons (fVar 2) (fCons (fVar 1) fNil))) (liftO fNil)))))))) (fun x => gSaid2 "BadRelation" "relation" true x)) (fun x => gSaid2 "BadPlaces" "places" true x))
def fx__law_told : Fdx := fnX 4 gx__law_told
def f__law_told : Fd := okF fx__law_told
theorem ok__law_told {P : Program} {w : World} {K : Fg} {mg : Str → Option Value} {base : Heap} {T : List Addr} (tx : Tx base mg) {C_BadPlaces fI_BadPlaces : Addr} (c_BadPlaces : PySem.TH.Txt K mg "BadPlaces" "BadPlaces.__init__" C_BadPlaces fI_BadPlaces) {C_BadRelation fI_BadRelation : Addr} (c_BadRelation : PySem.TH.Txt K mg "BadRelation" "BadRelation.__init__" C_BadRelation fI_BadRelation) {C_RulerError : Addr} (c_RulerError : XCls K mg "RulerError" C_RulerError) (X_value : Cx_ P w K mg base 8 "value" ["relation", "places"] (spX K T (clm C_BadPlaces C_BadRelation) 2 fx_value)) (X_holds : Cx_ P w K mg base 9 "holds" ["relation", "places"] (spX K T (clm C_BadPlaces C_BadRelation) 2 fx_holds)) (Y_value_swap2 : Ckx P w K mg base 8 "value" ["relation", "places"] ["places", "relation"] swap2 swap2 (spX K T (clm C_BadPlaces C_BadRelation) 2 fx_value)) (Y_holds_swap2 : Ckx P w K mg base 9 "holds" ["relation", "places"] ["places", "relation"] swap2 swap2 (spX K T (clm C_BadPlaces C_BadRelation) 2 fx_holds)) (e_BadRelation : ExcC K C_BadRelation) (u_BadRelation_RulerError : PySem.W.subIn K (.ref C_BadRelation) (.ref C_RulerError) = some true) (e_BadPlaces : ExcC K C_BadPlaces) (u_BadPlaces_RulerError : PySem.W.subIn K (.ref C_BadPlaces) (.ref C_RulerError) = some true) (u_BadPlaces_BadRelation : PySem.W.subIn K (.ref C_BadPlaces) (.ref C_BadRelation) = some false) (u_BadRelation_BadPlaces : PySem.W.subIn K (.ref C_BadRelation) (.ref C_BadPlaces) = some false) {f : Addr} {fd : FuncData} (F : Fun K "_law_told" "_law_told" s__law_told f fd) :
    FnG P w K mg base CX0 10 f fd ["_law_way", "_law_relation", "_law_places"] (spF K T 3 f__law_told) := by
  refine fnG_of F sc__law_told (fun vs H Q E h => spF_len h) (fun cdv A outer s H vs Q E hg0 hr h => ?_)
  have hu := hu_of hr
  have D1 := (show DSX K T (clm C_BadPlaces C_BadRelation) _ gx__law_told from (dsx_try (c := .ref C_BadPlaces) (m := fun s => decide (s = "BadPlaces")) (dsx_try (c := .ref C_BadRelation) (m := fun s => decide (s = "BadRelation")) (dsx_seq (dsx_if (dt_test (de_eq (de_var 0) (de_c fun _ => .int _))) (dsx_ret (dex_tup (dax_cons (dex_of (de_c fun _ => .str _)) (dax_cons (dex_call (n := 2) (da_cons (de_var 1) (da_cons (de_var 2) da_nil))) (dax_of da_nil))))) (dsx_of ds_next))
      (dsx_seq (dsx_if (dt_test (de_eq (de_var 0) (de_c fun _ => .int _))) (dsx_ret (dex_tup (dax_cons (dex_of (de_c fun _ => .str _)) (dax_cons (dex_callK (g := swap2) (gV := swap2) (da_cons (de_var 2) (da_cons (de_var 1) da_nil)) isl_swap) (dax_of da_nil))))) (dsx_of ds_next))
      (dsx_seq (dsx_if (dt_test (de_eq (de_var 0) (de_c fun _ => .int _))) (dsx_ret (dex_tup (dax_cons (dex_of (de_c fun _ => .str _)) (dax_cons (dex_call (n := 2) (da_cons (de_var 1) (da_cons (de_var 2) da_nil))) (dax_of da_nil))))) (dsx_of ds_next))
      (dsx_ret (dex_tup (dax_cons (dex_of (de_c fun _ => .str _)) (dax_cons (dex_callK (g := swap2) (gV := swap2) (da_cons (de_var 2) (da_cons (de_var 1) da_nil)) isl_swap) (dax_of da_nil))))))))
      (fun x => dh_said2 (n := "BadRelation") (D := C_BadRelation) (C2 := C_RulerError) (w := "relation") (i := 3) (b := true) clm_BadRelation (kitOne_by u_BadRelation_RulerError c_RulerError.t c_RulerError.i) x) (hm_of (KC.ofT c_BadRelation) "BadRelation" (fun s C' e => by
        unfold clm at e
        by_cases z : s = "BadPlaces"
        · rw [if_pos z] at e; cases e; rw [z]; exact u_BadPlaces_BadRelation
        rw [if_neg z] at e; clear z
        by_cases z : s = "BadRelation"
        · rw [if_pos z] at e; cases e; rw [z]; exact c_BadRelation.ss
        rw [if_neg z] at e; clear z
        cases e)))
      (fun x => dh_said2 (n := "BadPlaces") (D := C_BadPlaces) (C2 := C_RulerError) (w := "places") (i := 3) (b := true) clm_BadPlaces (kitOne_by u_BadPlaces_RulerError c_RulerError.t c_RulerError.i) x) (hm_of (KC.ofT c_BadPlaces) "BadPlaces" (fun s C' e => by
        unfold clm at e
        by_cases z : s = "BadPlaces"
        · rw [if_pos z] at e; cases e; rw [z]; exact c_BadPlaces.ss
        rw [if_neg z] at e; clear z
        by_cases z : s = "BadRelation"
        · rw [if_pos z] at e; cases e; rw [z]; exact u_BadRelation_BadPlaces
        rw [if_neg z] at e; clear z
        cases e))))
  refine ⟨_, PSs.nox ?_, spF_bodyX (cl := (clm C_BadPlaces C_BadRelation)) (N := N__law_told) (g := gx__law_told) (by decide) D1 h⟩
  exact (pss_one (ps_try_mas rfl rfl sc__law_told.nd takes0 (fun W pn xe tk po => (pss_cons (ps_if (pt_cmpR (op_eqD hr.units) (pv 0) pe_int (nomark _)) (pss_one (ps_ret (pe_tup (pa_cons pe_str (pa_cons (pe_callX X_value tk hg0 hr (by decide) (pa_cons (pv 1) (pa_cons (pv 2) pa_nil))) pa_nil))))) pss_nil)
      (pss_cons (ps_if (pt_cmpR (op_eqD hr.units) (pv 0) pe_int (nomark _)) (pss_one (ps_ret (pe_tup (pa_cons pe_str (pa_cons (pe_callXK Y_value_swap2 tk hg0 hr (by decide) (pk_cons (pv 2) (pk_cons (pv 1) pk_nil))) pa_nil))))) pss_nil)
      (pss_cons (ps_if (pt_cmpR (op_eqD hr.units) (pv 0) pe_int (nomark _)) (pss_one (ps_ret (pe_tup (pa_cons pe_str (pa_cons (pe_callX X_holds tk hg0 hr (by decide) (pa_cons (pv 1) (pa_cons (pv 2) pa_nil))) pa_nil))))) pss_nil)
      (pss_one (ps_ret (pe_tup (pa_cons pe_str (pa_cons (pe_callXK Y_holds_swap2 tk hg0 hr (by decide) (pk_cons (pv 2) (pk_cons (pv 1) pk_nil))) pa_nil)))))))))
      (HdAs.cons (i := 3) rfl rfl (by exact ⟨rfl, by decide, .inl c_BadRelation.gC⟩)
      (fun a oe cls d pn hz hf => pss_and fun h => by obtain ⟨rfl, dd, rfl⟩ := h; exact pss_one (ps_ret (pe_tup (pa_cons pe_str (pa_cons (pe_thing c_BadRelation hz hf (pv 3)) (pa_cons (pe_callB (id := "isinstance") (calK (r := fun K => rIsE2 K C_BadRelation a (some dd)) (K := K) (call_isE2 e_BadRelation hz hf) rfl) (by rfl) tx.z_isinstance (by decide +kernel) (pa_cons (pv 3) (pa_cons (pe_glob (v := .ref C_RulerError) (u := .ref C_RulerError) (by rfl) c_RulerError.g rfl) pa_nil))) pa_nil))))))
      (HdAs.cons (i := 3) rfl rfl (by exact ⟨rfl, by decide, .inl c_BadPlaces.gC⟩)
      (fun a oe cls d pn hz hf => pss_and fun h => by obtain ⟨rfl, dd, rfl⟩ := h; exact pss_one (ps_ret (pe_tup (pa_cons pe_str (pa_cons (pe_thing c_BadPlaces hz hf (pv 3)) (pa_cons (pe_callB (id := "isinstance") (calK (r := fun K => rIsE2 K C_BadPlaces a (some dd)) (K := K) (call_isE2 e_BadPlaces hz hf) rfl) (by rfl) tx.z_isinstance (by decide +kernel) (pa_cons (pv 3) (pa_cons (pe_glob (v := .ref C_RulerError) (u := .ref C_RulerError) (by rfl) c_RulerError.g rfl) pa_nil))) pa_nil))))))
      HdAs.nil))))
/-! ### _law_bent_items -/
abbrev s__law_bent_items : Stmt := topS 44
abbrev N__law_bent_items : List Str := ["_law_deck_here", "_law_items_here", "_law_way", "_law_at", "_law_odd", "_law_strange", "_law_it"]
theorem sc__law_bent_items : FnScope N__law_bent_items ["_law_deck_here", "_law_items_here"] (defScope s__law_bent_items) := ⟨rfl, rfl, rfl, by decide +kernel, rfl, by decide +kernel, by decide +kernel⟩
def g__law_bent_items : Fs := (sSeq (sPar 2 3 (fCons (fCall 2 f__law_draw (fCons (fVar 0) (fCons (fC (.int 9)) fNil))) (fCons (fCall 2 f__law_draw (fCons (fVar 0) (fCons (f1 gLen (fVar 1)) fNil))) fNil)))
    (sSeq (sAsg (fSeq .list (fCons (fC (.bool true)) (fCons (fC (.bool false)) (fCons (fC .none) (fCons (fC (.str "1")) (fCons (fSeq .tuple (fCons (fC (.int 1)) fNil)) (fCons (fSeq .list (fCons (fC (.int 1)) fNil)) (fCons (fPow (fC (.int 10)) (fC (.int 39))) (fCons (fC (.str "")) (fCons (fC (.dict [])) (fCons (fSeq .tuple fNil) (fCons (fC (.int 0)) (fCons (fNeg (fC (.int 1))) (fCons (fC (.int 2)) fNil)))))))))))))) (qName 4))
    (sSeq (sIf (fTest (fCmp (fun i j => decide (i < j)) (fVar 2) (fC (.int 3)))) (sRet (f2 gAddU (f2 gAddU (fSlU (fVar 1) fNoPart (fPart (fVar 3))) (fSeq .tuple (fCons (fCall 2 f__law_pick (fCons (fVar 0) (fCons (fVar 4) fNil))) fNil))) (fSlU (fVar 1) (fPart (f2 gAddU (fVar 3) (fC (.int 1)))) fNoPart))) sNext)
    (sSeq (sIf (fTest (fEq (fVar 2) (fC (.int 3)))) (sRet (f1 gListOf (fVar 1))) sNext)
    (sSeq (sIf (fTest (fEq (fVar 2) (fC (.int 4)))) (sRet (f1 gTupOf (fLc (wSeq (fVar 1)) (qName 6) fYes (fSub (fC (.int 0)) (fVar 6)) [6]))) sNext)
    (sSeq (sIf (fTest (fEq (fVar 2) (fC (.int 5)))) (sRet (f1 gTupOf (fLc (wSeq (fVar 1)) (qName 6) fYes (f2 gMulU (fC (.int 2)) (fVar 6)) [6]))) sNext)
    (sSeq (sIf (fTest (fEq (fVar 2) (fC (.int 6)))) (sRet (fCall 2 f__law_pick (fCons (fVar 0) (fCons (fSeq .list (fCons (fSlU (fVar 1) fNoPart (fPart (fNeg (fC (.int 1))))) (fCons (f2 gAddU (fVar 1) (fSeq .tuple (fCons (fC (.int 0)) fNil))) (fCons (fSlU (fVar 1) (fPart (fC (.int 1))) fNoPart) (fCons (f2 gAddU (fVar 1) (fVar 1)) (fCons (f2 gMulV (fSeq .tuple (fCons (fC (.int 0)) fNil)) (f1 gLen (fVar 1))) (fCons (fRevU (fVar 1)) fNil))))))) fNil)))) sNext)
    (sSeq (sAsg (fSeq .list (fCons (fC .none) (fCons (fSeq .tuple fNil) (fCons (fC (.int 0)) (fCons (fC (.str "")) (fCons (f1 gStrU (fVar 1)) (fCons (fC (.dict [])) (fCons (fC (.bool true)) (fCons (fSeq .list fNil) (fCons (fSeq .tuple (fCons (fC (.int 1)) fNil)) (fCons (fSeq .tuple (fCons (fVar 1) fNil)) (fCons (fSeq .tuple (fCons (fC (.int 1)) (fCons (fC (.int 0)) (fCons (fC (.int 0)) fNil)))) (fCons (fSeq .tuple (fCons (fC (.int 0)) (fCons (fC (.int 0)) fNil))) (fCons (f2 gAddU (fSeq .tuple (fCons (fC (.int 1)) fNil)) (f2 gMulV (fSeq .tuple (fCons (fC (.int 0)) fNil)) (fC (.int 127)))) (fCons (fSeq .tuple (fCons (fC .none) (fCons (fC .none) fNil))) fNil))))))))))))))) (qName 5))
    (sRet (fCall 2 f__law_pick (fCons (fVar 0) (fCons (f2 gAddU (fVar 5) (fSeq .list (fCons (fSeq .tuple (fCons (fC (.bool true)) (fCons (fC (.bool false)) fNil))) (fCons (fSeq .tuple (fCons (fC (.int 0)) (fCons (fNeg (fC (.int 1))) fNil))) (fCons (fSeq .tuple (fCons (fC (.int 0)) (fCons (fC (.int 1)) fNil))) (fCons (fSeq .tuple (fCons (fPow (fC (.int 10)) (fC (.int 39))) (fCons (fPow (fC (.int 10)) (fC (.int 38))) fNil))) (fCons (fSeq .tuple (fCons (fPow (fC (.int 10)) (fC (.int 39))) (fCons (fC (.int 1)) fNil))) fNil))))))) fNil))))))))))))
def f__law_bent_items : Fd := fnOf 7 g__law_bent_items
theorem ok__law_bent_items {P : Program} {w : World} {K : Fg} {mg : Str → Option Value} {base : Heap} {T : List Addr} (tx : Tx base mg) (C__law_draw : Cg P w K mg base 1 "_law_draw" ["_law_deck_here", "_law_limit"] (spF K T 2 f__law_draw)) (C__law_pick : Cg P w K mg base 2 "_law_pick" ["_law_deck_here", "_law_some"] (spF K T 2 f__law_pick)) {f : Addr} {fd : FuncData} (F : Fun K "_law_bent_items" "_law_bent_items" s__law_bent_items f fd) :
    FnG P w K mg base CX0 3 f fd ["_law_deck_here", "_law_items_here"] (spF K T 2 f__law_bent_items) := by
  refine fnG_of F sc__law_bent_items (fun vs H Q E h => spF_len h) (fun cdv A outer s H vs Q E hg0 hr h => ?_)
  have hu := hu_of hr
  refine ⟨_, PSs.nox (pss_cons (ps_par (i := 2) (j := 3) rfl sc__law_bent_items.nd rfl rfl (by decide) rfl rfl (pa_cons (pe_callC C__law_draw hg0 hr (by decide) (pa_cons (pv 0) (pa_cons pe_int pa_nil))) (pa_cons (pe_callC C__law_draw hg0 hr (by decide) (pa_cons (pv 0) (pa_cons (pe_callB (id := "len") call_len_seq (by rfl) tx.z_len (by decide +kernel) (pa_cons (pv 1) pa_nil)) pa_nil))) pa_nil)) rfl)
      (pss_cons (ps_set (i := 4) sc__law_bent_items.nd rfl (Or.inl rfl) (pe_lst (pa_cons pe_bl (pa_cons pe_bl (pa_cons pe_non (pa_cons pe_str (pa_cons (pe_tup (pa_cons pe_int pa_nil)) (pa_cons (pe_lst (pa_cons pe_int pa_nil)) (pa_cons (pe_op op_pow pe_int pe_int) (pa_cons pe_str (pa_cons pe_dnewK (pa_cons (pe_tup pa_nil) (pa_cons pe_int (pa_cons (pe_un un_neg pe_int) (pa_cons pe_int pa_nil)))))))))))))))
      (pss_cons (ps_if (pt_cmpR op_lt (pv 2) pe_int (nomark _)) (pss_one (ps_ret (pe_op op_addU (pe_op op_addU (pe_slice sl_u (pv 1) po_none (po_some (pv 3))) (pe_tup (pa_cons (pe_callC C__law_pick hg0 hr (by decide) (pa_cons (pv 0) (pa_cons (pv 4) pa_nil))) pa_nil))) (pe_slice sl_u (pv 1) (po_some (pe_op op_addU (pv 3) pe_int)) po_none)))) pss_nil)
      (pss_cons (ps_if (pt_cmpR (op_eqD hr.units) (pv 2) pe_int (nomark _)) (pss_one (ps_ret (pe_callTy (T := "list") call_list_of (by rfl) tx.z_list (by decide +kernel) (pa_cons (pv 1) pa_nil)))) pss_nil)
      (pss_cons (ps_if (pt_cmpR (op_eqD hr.units) (pv 2) pe_int (nomark _)) (pss_one (ps_ret (pe_callTy (T := "tuple") call_tuple_of (by rfl) tx.z_tuple (by decide +kernel) (pa_cons (pe_lc (own := [("_law_it", 6)]) (g := gName 6) (tt := tYes) rfl sc__law_bent_items.nd (pi_seq (pv 1)) (blkOk_by (N := N__law_bent_items) (sc := defScope s__law_bent_items) (by decide +kernel)) (fun _ _ _ _ _ => pg_name (i := 6) sc__law_bent_items.nd rfl (Or.inl rfl)) (fun _ _ _ _ _ => pts_nil) (fun _ _ _ _ _ => (pe_op op_sub pe_int (pv 6)))) pa_nil)))) pss_nil)
      (pss_cons (ps_if (pt_cmpR (op_eqD hr.units) (pv 2) pe_int (nomark _)) (pss_one (ps_ret (pe_callTy (T := "tuple") call_tuple_of (by rfl) tx.z_tuple (by decide +kernel) (pa_cons (pe_lc (own := [("_law_it", 6)]) (g := gName 6) (tt := tYes) rfl sc__law_bent_items.nd (pi_seq (pv 1)) (blkOk_by (N := N__law_bent_items) (sc := defScope s__law_bent_items) (by decide +kernel)) (fun _ _ _ _ _ => pg_name (i := 6) sc__law_bent_items.nd rfl (Or.inl rfl)) (fun _ _ _ _ _ => pts_nil) (fun _ _ _ _ _ => (pe_op op_mulU pe_int (pv 6)))) pa_nil)))) pss_nil)
      (pss_cons (ps_if (pt_cmpR (op_eqD hr.units) (pv 2) pe_int (nomark _)) (pss_one (ps_ret (pe_callC C__law_pick hg0 hr (by decide) (pa_cons (pv 0) (pa_cons (pe_lst (pa_cons (pe_slice sl_u (pv 1) po_none (po_some (pe_un un_neg pe_int))) (pa_cons (pe_op op_addU (pv 1) (pe_tup (pa_cons pe_int pa_nil))) (pa_cons (pe_slice sl_u (pv 1) (po_some pe_int) po_none) (pa_cons (pe_op op_addU (pv 1) (pv 1)) (pa_cons (pe_op op_mulV (pe_tup (pa_cons pe_int pa_nil)) (pe_callB (id := "len") call_len_seq (by rfl) tx.z_len (by decide +kernel) (pa_cons (pv 1) pa_nil))) (pa_cons (pe_revU (pv 1)) pa_nil))))))) pa_nil))))) pss_nil)
      (pss_cons (ps_set (i := 5) sc__law_bent_items.nd rfl (Or.inl rfl) (pe_lst (pa_cons pe_non (pa_cons (pe_tup pa_nil) (pa_cons pe_int (pa_cons pe_str (pa_cons (pe_callTy (T := "str") (call_strU hg0 hr.units tx.sys) (by rfl) tx.z_str (by decide +kernel) (pa_cons (pv 1) pa_nil)) (pa_cons pe_dnewK (pa_cons pe_bl (pa_cons (pe_lst pa_nil) (pa_cons (pe_tup (pa_cons pe_int pa_nil)) (pa_cons (pe_tup (pa_cons (pv 1) pa_nil)) (pa_cons (pe_tup (pa_cons pe_int (pa_cons pe_int (pa_cons pe_int pa_nil)))) (pa_cons (pe_tup (pa_cons pe_int (pa_cons pe_int pa_nil))) (pa_cons (pe_op op_addU (pe_tup (pa_cons pe_int pa_nil)) (pe_op op_mulV (pe_tup (pa_cons pe_int pa_nil)) pe_int)) (pa_cons (pe_tup (pa_cons pe_non (pa_cons pe_non pa_nil))) pa_nil))))))))))))))))
      (pss_one (ps_ret (pe_callC C__law_pick hg0 hr (by decide) (pa_cons (pv 0) (pa_cons (pe_op op_addU (pv 5) (pe_lst (pa_cons (pe_tup (pa_cons pe_bl (pa_cons pe_bl pa_nil))) (pa_cons (pe_tup (pa_cons pe_int (pa_cons (pe_un un_neg pe_int) pa_nil))) (pa_cons (pe_tup (pa_cons pe_int (pa_cons pe_int pa_nil))) (pa_cons (pe_tup (pa_cons (pe_op op_pow pe_int pe_int) (pa_cons (pe_op op_pow pe_int pe_int) pa_nil))) (pa_cons (pe_tup (pa_cons (pe_op op_pow pe_int pe_int) (pa_cons pe_int pa_nil))) pa_nil))))))) pa_nil))))))))))))), spF_body (N := N__law_bent_items) (g := g__law_bent_items) (by decide) ?_ h⟩
  unfold g__law_bent_items
  exact (ds_seq (ds_par (da_cons (de_call (n := 2) (E := noX) (da_cons (de_var 0) (da_cons (de_c fun _ => .int _) da_nil))) (da_cons (de_call (n := 2) (E := noX) (da_cons (de_var 0) (da_cons (de_len (de_var 1)) da_nil))) da_nil)))
      (ds_seq (ds_asg (de_lst (da_cons (de_c fun _ => .bl _) (da_cons (de_c fun _ => .bl _) (da_cons (de_c fun _ => .non) (da_cons (de_c fun _ => .str _) (da_cons (de_tup (da_cons (de_c fun _ => .int _) da_nil)) (da_cons (de_lst (da_cons (de_c fun _ => .int _) da_nil)) (da_cons (de_pow (de_c fun _ => .int _) (de_c fun _ => .int _)) (da_cons (de_c fun _ => .str _) (da_cons de_dnew (da_cons (de_tup da_nil) (da_cons (de_c fun _ => .int _) (da_cons (de_neg (de_c fun _ => .int _)) (da_cons (de_c fun _ => .int _) da_nil)))))))))))))) (dg_name 4))
      (ds_seq (ds_if (dt_test (de_cmp (p := fun i j => decide (i < j)) (de_var 2) (de_c fun _ => .int _))) (ds_ret (de_addU (de_addU (de_slU (de_var 1) do_none (do_some (de_var 3))) (de_tup (da_cons (de_call (n := 2) (E := noX) (da_cons (de_var 0) (da_cons (de_var 4) da_nil))) da_nil))) (de_slU (de_var 1) (do_some (de_addU (de_var 3) (de_c fun _ => .int _))) do_none))) ds_next)
      (ds_seq (ds_if (dt_test (de_eq (de_var 2) (de_c fun _ => .int _))) (ds_ret (de_listOf (de_var 1))) ds_next)
      (ds_seq (ds_if (dt_test (de_eq (de_var 2) (de_c fun _ => .int _))) (ds_ret (de_tupOf (de_lc (vs := [6]) (di_seq (de_var 1)) (dg_name 6) dt_yes (de_sub (de_c fun _ => .int _) (de_var 6)) (fun j h => h)))) ds_next)
      (ds_seq (ds_if (dt_test (de_eq (de_var 2) (de_c fun _ => .int _))) (ds_ret (de_tupOf (de_lc (vs := [6]) (di_seq (de_var 1)) (dg_name 6) dt_yes (de_mulU (de_c fun _ => .int _) (de_var 6)) (fun j h => h)))) ds_next)
      (ds_seq (ds_if (dt_test (de_eq (de_var 2) (de_c fun _ => .int _))) (ds_ret (de_call (n := 2) (E := noX) (da_cons (de_var 0) (da_cons (de_lst (da_cons (de_slU (de_var 1) do_none (do_some (de_neg (de_c fun _ => .int _)))) (da_cons (de_addU (de_var 1) (de_tup (da_cons (de_c fun _ => .int _) da_nil))) (da_cons (de_slU (de_var 1) (do_some (de_c fun _ => .int _)) do_none) (da_cons (de_addU (de_var 1) (de_var 1)) (da_cons (de_mulV (de_tup (da_cons (de_c fun _ => .int _) da_nil)) (de_len (de_var 1))) (da_cons (de_revU (de_var 1)) da_nil))))))) da_nil)))) ds_next)
      (ds_seq (ds_asg (de_lst (da_cons (de_c fun _ => .non) (da_cons (de_tup da_nil) (da_cons (de_c fun _ => .int _) (da_cons (de_c fun _ => .str _) (da_cons (de_strU (de_var 1)) (da_cons de_dnew (da_cons (de_c fun _ => .bl _) (da_cons (de_lst da_nil) (da_cons (de_tup (da_cons (de_c fun _ => .int _) da_nil)) (da_cons (de_tup (da_cons (de_var 1) da_nil)) (da_cons (de_tup (da_cons (de_c fun _ => .int _) (da_cons (de_c fun _ => .int _) (da_cons (de_c fun _ => .int _) da_nil)))) (da_cons (de_tup (da_cons (de_c fun _ => .int _) (da_cons (de_c fun _ => .int _) da_nil))) (da_cons (de_addU (de_tup (da_cons (de_c fun _ => .int _) da_nil)) (de_mulV (de_tup (da_cons (de_c fun _ => .int _) da_nil)) (de_c fun _ => .int _))) (da_cons (de_tup (da_cons (de_c fun _ => .non) (da_cons (de_c fun _ => .non) da_nil))) da_nil))))))))))))))) (dg_name 5))
      (ds_ret (de_call (n := 2) (E := noX) (da_cons (de_var 0) (da_cons (de_addU (de_var 5) (de_lst (da_cons (de_tup (da_cons (de_c fun _ => .bl _) (da_cons (de_c fun _ => .bl _) da_nil))) (da_cons (de_tup (da_cons (de_c fun _ => .int _) (da_cons (de_neg (de_c fun _ => .int _)) da_nil))) (da_cons (de_tup (da_cons (de_c fun _ => .int _) (da_cons (de_c fun _ => .int _) da_nil))) (da_cons (de_tup (da_cons (de_pow (de_c fun _ => .int _) (de_c fun _ => .int _)) (da_cons (de_pow (de_c fun _ => .int _) (de_c fun _ => .int _)) da_nil))) (da_cons (de_tup (da_cons (de_pow (de_c fun _ => .int _) (de_c fun _ => .int _)) (da_cons (de_c fun _ => .int _) da_nil))) da_nil))))))) da_nil))))))))))))
/-! ### _law_bent_places -/
abbrev s__law_bent_places : Stmt := topS 45
abbrev N__law_bent_places : List Str := ["_law_deck_here", "_law_places", "_law_way", "_law_at", "_law_one", "_law_other", "_law_odd"]
theorem sc__law_bent_places : FnScope N__law_bent_places ["_law_deck_here", "_law_places"] (defScope s__law_bent_places) := ⟨rfl, rfl, rfl, by decide +kernel, rfl, by decide +kernel, by decide +kernel⟩
def g__law_bent_places : Fs := (sSeq (sPar 2 3 (fCons (fCall 2 f__law_draw (fCons (fVar 0) (fCons (fC (.int 6)) fNil))) (fCons (fCall 2 f__law_draw (fCons (fVar 0) (fCons (f1 gLen (fVar 1)) fNil))) fNil)))
    (sSeq (sAsg (fIx (fVar 1) (fVar 3)) (qTup 2 (qCons (qName 4) (qCons (qName 5) qNil))))
    (sSeq (sAsg (fSeq .list (fCons (fC .none) (fCons (fSeq .tuple fNil) (fCons (fC (.int 0)) (fCons (fC (.str "")) (fCons (fSeq .list (fCons (fVar 4) (fCons (fVar 5) fNil))) (fCons (fSeq .tuple (fCons (fVar 4) fNil)) (fCons (fSeq .tuple (fCons (fVar 4) (fCons (fVar 5) (fCons (fC (.int 1)) fNil)))) (fCons (fSeq .tuple (fCons (fC (.int 0)) (fCons (fC (.int 0)) fNil))) (fCons (fSeq .tuple (fCons (fC (.int 2)) (fCons (fC (.int 0)) fNil))) (fCons (fSeq .tuple (fCons (fNeg (fC (.int 1))) (fCons (fC (.int 0)) fNil))) (fCons (fSeq .tuple (fCons (fC (.int 0)) (fCons (fNeg (fC (.int 1))) fNil))) (fCons (fSeq .tuple (fCons (fC (.int 0)) (fCons (fC (.int 2)) fNil))) (fCons (fSeq .tuple (fCons (fC (.bool true)) (fCons (fC (.int 1)) fNil))) (fCons (fSeq .tuple (fCons (fC (.int 1)) (fCons (fC (.bool false)) fNil))) fNil))))))))))))))) (qName 6))
    (sSeq (sIf (fTest (fCmp (fun i j => decide (i < j)) (fVar 2) (fC (.int 2)))) (sRet (f2 gAddU (f2 gAddU (fSlU (fVar 1) fNoPart (fPart (fVar 3))) (fSeq .tuple (fCons (fCall 2 f__law_pick (fCons (fVar 0) (fCons (f2 gAddU (fVar 6) (fSeq .list (fCons (fSeq .tuple (fCons (f2 gMulU (fC (.int 2)) (fVar 4)) (fCons (f2 gMulU (fC (.int 2)) (fVar 5)) fNil))) (fCons (fSeq .tuple (fCons (fSeq .tuple (fCons (fVar 4) (fCons (fVar 5) fNil))) fNil)) fNil)))) fNil))) fNil))) (fSlU (fVar 1) (fPart (f2 gAddU (fVar 3) (fC (.int 1)))) fNoPart))) sNext)
    (sSeq (sIf (fTest (fEq (fVar 2) (fC (.int 2)))) (sRet (f1 gListOf (fVar 1))) sNext)
    (sSeq (sIf (fTest (fEq (fVar 2) (fC (.int 3)))) (sRet (fCall 2 f__law_pick (fCons (fVar 0) (fCons (fSeq .list (fCons (fSlU (fVar 1) fNoPart (fPart (fNeg (fC (.int 1))))) (fCons (f2 gAddU (fVar 1) (fSlU (fVar 1) fNoPart (fPart (fC (.int 1))))) (fCons (f2 gAddU (fVar 1) (fVar 1)) (fCons (fSeq .tuple fNil) fNil))))) fNil)))) sNext)
    (sRet (fCall 2 f__law_pick (fCons (fVar 0) (fCons (fSeq .list (fCons (fC .none) (fCons (fC (.int 0)) (fCons (fC (.str "")) (fCons (fC (.dict [])) (fCons (fC (.bool true)) (fCons (fSeq .list fNil) (fCons (f2 gMulV (fSeq .tuple (fCons (fC .none) fNil)) (f1 gLen (fVar 1))) (fCons (fSeq .tuple (fCons (fVar 1) fNil)) (fCons (f1 gStrU (fVar 1)) (fCons (fIx (fVar 1) (fC (.int 0))) fNil))))))))))) fNil))))))))))
def f__law_bent_places : Fd := fnOf 7 g__law_bent_places
theorem ok__law_bent_places {P : Program} {w : World} {K : Fg} {mg : Str → Option Value} {base : Heap} {T : List Addr} (tx : Tx base mg) (C__law_draw : Cg P w K mg base 1 "_law_draw" ["_law_deck_here", "_law_limit"] (spF K T 2 f__law_draw)) (C__law_pick : Cg P w K mg base 2 "_law_pick" ["_law_deck_here", "_law_some"] (spF K T 2 f__law_pick)) {f : Addr} {fd : FuncData} (F : Fun K "_law_bent_places" "_law_bent_places" s__law_bent_places f fd) :
    FnG P w K mg base CX0 3 f fd ["_law_deck_here", "_law_places"] (spF K T 2 f__law_bent_places) := by
  refine fnG_of F sc__law_bent_places (fun vs H Q E h => spF_len h) (fun cdv A outer s H vs Q E hg0 hr h => ?_)
  have hu := hu_of hr
  refine ⟨_, PSs.nox (pss_cons (ps_par (i := 2) (j := 3) rfl sc__law_bent_places.nd rfl rfl (by decide) rfl rfl (pa_cons (pe_callC C__law_draw hg0 hr (by decide) (pa_cons (pv 0) (pa_cons pe_int pa_nil))) (pa_cons (pe_callC C__law_draw hg0 hr (by decide) (pa_cons (pv 0) (pa_cons (pe_callB (id := "len") call_len_seq (by rfl) tx.z_len (by decide +kernel) (pa_cons (pv 1) pa_nil)) pa_nil))) pa_nil)) rfl)
      (pss_cons (ps_asg (pe_ix ix_seq (pv 1) (pv 3) (fun _ _ => rfl)) (pg_tup rfl (pgs_cons (pg_name (i := 4) sc__law_bent_places.nd rfl (Or.inl rfl)) (pgs_cons (pg_name (i := 5) sc__law_bent_places.nd rfl (Or.inl rfl)) pgs_nil))))
      (pss_cons (ps_set (i := 6) sc__law_bent_places.nd rfl (Or.inl rfl) (pe_lst (pa_cons pe_non (pa_cons (pe_tup pa_nil) (pa_cons pe_int (pa_cons pe_str (pa_cons (pe_lst (pa_cons (pv 4) (pa_cons (pv 5) pa_nil))) (pa_cons (pe_tup (pa_cons (pv 4) pa_nil)) (pa_cons (pe_tup (pa_cons (pv 4) (pa_cons (pv 5) (pa_cons pe_int pa_nil)))) (pa_cons (pe_tup (pa_cons pe_int (pa_cons pe_int pa_nil))) (pa_cons (pe_tup (pa_cons pe_int (pa_cons pe_int pa_nil))) (pa_cons (pe_tup (pa_cons (pe_un un_neg pe_int) (pa_cons pe_int pa_nil))) (pa_cons (pe_tup (pa_cons pe_int (pa_cons (pe_un un_neg pe_int) pa_nil))) (pa_cons (pe_tup (pa_cons pe_int (pa_cons pe_int pa_nil))) (pa_cons (pe_tup (pa_cons pe_bl (pa_cons pe_int pa_nil))) (pa_cons (pe_tup (pa_cons pe_int (pa_cons pe_bl pa_nil))) pa_nil))))))))))))))))
      (pss_cons (ps_if (pt_cmpR op_lt (pv 2) pe_int (nomark _)) (pss_one (ps_ret (pe_op op_addU (pe_op op_addU (pe_slice sl_u (pv 1) po_none (po_some (pv 3))) (pe_tup (pa_cons (pe_callC C__law_pick hg0 hr (by decide) (pa_cons (pv 0) (pa_cons (pe_op op_addU (pv 6) (pe_lst (pa_cons (pe_tup (pa_cons (pe_op op_mulU pe_int (pv 4)) (pa_cons (pe_op op_mulU pe_int (pv 5)) pa_nil))) (pa_cons (pe_tup (pa_cons (pe_tup (pa_cons (pv 4) (pa_cons (pv 5) pa_nil))) pa_nil)) pa_nil)))) pa_nil))) pa_nil))) (pe_slice sl_u (pv 1) (po_some (pe_op op_addU (pv 3) pe_int)) po_none)))) pss_nil)
      (pss_cons (ps_if (pt_cmpR (op_eqD hr.units) (pv 2) pe_int (nomark _)) (pss_one (ps_ret (pe_callTy (T := "list") call_list_of (by rfl) tx.z_list (by decide +kernel) (pa_cons (pv 1) pa_nil)))) pss_nil)
      (pss_cons (ps_if (pt_cmpR (op_eqD hr.units) (pv 2) pe_int (nomark _)) (pss_one (ps_ret (pe_callC C__law_pick hg0 hr (by decide) (pa_cons (pv 0) (pa_cons (pe_lst (pa_cons (pe_slice sl_u (pv 1) po_none (po_some (pe_un un_neg pe_int))) (pa_cons (pe_op op_addU (pv 1) (pe_slice sl_u (pv 1) po_none (po_some pe_int))) (pa_cons (pe_op op_addU (pv 1) (pv 1)) (pa_cons (pe_tup pa_nil) pa_nil))))) pa_nil))))) pss_nil)
      (pss_one (ps_ret (pe_callC C__law_pick hg0 hr (by decide) (pa_cons (pv 0) (pa_cons (pe_lst (pa_cons pe_non (pa_cons pe_int (pa_cons pe_str (pa_cons pe_dnewK (pa_cons pe_bl (pa_cons (pe_lst pa_nil) (pa_cons (pe_op op_mulV (pe_tup (pa_cons pe_non pa_nil)) (pe_callB (id := "len") call_len_seq (by rfl) tx.z_len (by decide +kernel) (pa_cons (pv 1) pa_nil))) (pa_cons (pe_tup (pa_cons (pv 1) pa_nil)) (pa_cons (pe_callTy (T := "str") (call_strU hg0 hr.units tx.sys) (by rfl) tx.z_str (by decide +kernel) (pa_cons (pv 1) pa_nil)) (pa_cons (pe_ix ix_seq (pv 1) pe_int (fun _ _ => rfl)) pa_nil))))))))))) pa_nil))))))))))), spF_body (N := N__law_bent_places) (g := g__law_bent_places) (by decide) ?_ h⟩
  unfold g__law_bent_places
  exact (ds_seq (ds_par (da_cons (de_call (n := 2) (E := noX) (da_cons (de_var 0) (da_cons (de_c fun _ => .int _) da_nil))) (da_cons (de_call (n := 2) (E := noX) (da_cons (de_var 0) (da_cons (de_len (de_var 1)) da_nil))) da_nil)))
      (ds_seq (ds_asg (de_ix (de_var 1) (de_var 3)) (dg_tup (dgs_cons (dg_name 4) (dgs_cons (dg_name 5) dgs_nil))))
      (ds_seq (ds_asg (de_lst (da_cons (de_c fun _ => .non) (da_cons (de_tup da_nil) (da_cons (de_c fun _ => .int _) (da_cons (de_c fun _ => .str _) (da_cons (de_lst (da_cons (de_var 4) (da_cons (de_var 5) da_nil))) (da_cons (de_tup (da_cons (de_var 4) da_nil)) (da_cons (de_tup (da_cons (de_var 4) (da_cons (de_var 5) (da_cons (de_c fun _ => .int _) da_nil)))) (da_cons (de_tup (da_cons (de_c fun _ => .int _) (da_cons (de_c fun _ => .int _) da_nil))) (da_cons (de_tup (da_cons (de_c fun _ => .int _) (da_cons (de_c fun _ => .int _) da_nil))) (da_cons (de_tup (da_cons (de_neg (de_c fun _ => .int _)) (da_cons (de_c fun _ => .int _) da_nil))) (da_cons (de_tup (da_cons (de_c fun _ => .int _) (da_cons (de_neg (de_c fun _ => .int _)) da_nil))) (da_cons (de_tup (da_cons (de_c fun _ => .int _) (da_cons (de_c fun _ => .int _) da_nil))) (da_cons (de_tup (da_cons (de_c fun _ => .bl _) (da_cons (de_c fun _ => .int _) da_nil))) (da_cons (de_tup (da_cons (de_c fun _ => .int _) (da_cons (de_c fun _ => .bl _) da_nil))) da_nil))))))))))))))) (dg_name 6))
      (ds_seq (ds_if (dt_test (de_cmp (p := fun i j => decide (i < j)) (de_var 2) (de_c fun _ => .int _))) (ds_ret (de_addU (de_addU (de_slU (de_var 1) do_none (do_some (de_var 3))) (de_tup (da_cons (de_call (n := 2) (E := noX) (da_cons (de_var 0) (da_cons (de_addU (de_var 6) (de_lst (da_cons (de_tup (da_cons (de_mulU (de_c fun _ => .int _) (de_var 4)) (da_cons (de_mulU (de_c fun _ => .int _) (de_var 5)) da_nil))) (da_cons (de_tup (da_cons (de_tup (da_cons (de_var 4) (da_cons (de_var 5) da_nil))) da_nil)) da_nil)))) da_nil))) da_nil))) (de_slU (de_var 1) (do_some (de_addU (de_var 3) (de_c fun _ => .int _))) do_none))) ds_next)
      (ds_seq (ds_if (dt_test (de_eq (de_var 2) (de_c fun _ => .int _))) (ds_ret (de_listOf (de_var 1))) ds_next)
      (ds_seq (ds_if (dt_test (de_eq (de_var 2) (de_c fun _ => .int _))) (ds_ret (de_call (n := 2) (E := noX) (da_cons (de_var 0) (da_cons (de_lst (da_cons (de_slU (de_var 1) do_none (do_some (de_neg (de_c fun _ => .int _)))) (da_cons (de_addU (de_var 1) (de_slU (de_var 1) do_none (do_some (de_c fun _ => .int _)))) (da_cons (de_addU (de_var 1) (de_var 1)) (da_cons (de_tup da_nil) da_nil))))) da_nil)))) ds_next)
      (ds_ret (de_call (n := 2) (E := noX) (da_cons (de_var 0) (da_cons (de_lst (da_cons (de_c fun _ => .non) (da_cons (de_c fun _ => .int _) (da_cons (de_c fun _ => .str _) (da_cons de_dnew (da_cons (de_c fun _ => .bl _) (da_cons (de_lst da_nil) (da_cons (de_mulV (de_tup (da_cons (de_c fun _ => .non) da_nil)) (de_len (de_var 1))) (da_cons (de_tup (da_cons (de_var 1) da_nil)) (da_cons (de_strU (de_var 1)) (da_cons (de_ix (de_var 1) (de_c fun _ => .int _)) da_nil))))))))))) da_nil))))))))))
/-! ### _law_are_places -/
abbrev s__law_are_places : Stmt := topS 46
abbrev N__law_are_places : List Str := ["_law_n", "_law_thing", "_law_it"]
theorem sc__law_are_places : FnScope N__law_are_places ["_law_n", "_law_thing"] (defScope s__law_are_places) := ⟨rfl, rfl, rfl, by decide +kernel, rfl, by decide +kernel, by decide +kernel⟩
def g__law_are_places : Fs := (sRet (fAnd (f1 (gIsi "tuple") (fVar 1)) (fAnd (fEq (f1 gLen (fVar 1)) (fVar 0)) (f2 (gNil false) (fLc (wSeq (fVar 1)) (qName 2) (tNotF (fTest (fCall 1 f__law_is_place (fCons (fVar 2) fNil)))) (fVar 2) [2]) (fSeq .list fNil)))))
def f__law_are_places : Fd := fnOf 3 g__law_are_places
theorem ok__law_are_places {P : Program} {w : World} {K : Fg} {mg : Str → Option Value} {base : Heap} {T : List Addr} (tx : Tx base mg) (C__law_is_place : Cg P w K mg base 2 "_law_is_place" ["_law_thing"] (spF K T 1 f__law_is_place)) {f : Addr} {fd : FuncData} (F : Fun K "_law_are_places" "_law_are_places" s__law_are_places f fd) :
    FnG P w K mg base CX0 3 f fd ["_law_n", "_law_thing"] (spF K T 2 f__law_are_places) := by
  refine fnG_of F sc__law_are_places (fun vs H Q E h => spF_len h) (fun cdv A outer s H vs Q E hg0 hr h => ?_)
  have hu := hu_of hr
  refine ⟨_, PSs.nox (pss_one (ps_ret (pe_and (pe_callB (id := "isinstance") call_isi (by rfl) tx.z_isinstance (by decide +kernel) (pa_cons (pv 1) (pa_cons (pe_bltn (v := .ty "tuple") (by rfl) tx.z_tuple (u := .type "tuple") (by decide +kernel) rfl) pa_nil))) (pe_and (pe_cmpR (op_eqD hr.units) (pe_callB (id := "len") call_len_seq (by rfl) tx.z_len (by decide +kernel) (pa_cons (pv 1) pa_nil)) (pv 0) (nomark _)) (pe_one (pe_cmpR (op_eqNil hr.units) (pe_lc (own := [("_law_it", 2)]) (g := gName 2)  rfl sc__law_are_places.nd (pi_seq (pv 1)) (blkOk_by (N := N__law_are_places) (sc := defScope s__law_are_places) (by decide +kernel)) (fun _ _ _ _ _ => pg_name (i := 2) sc__law_are_places.nd rfl (Or.inl rfl)) (fun _ _ _ _ _ => pts_one (pt_not (pt_val (pe_callC C__law_is_place hg0 hr (by decide) (pa_cons (pv 2) pa_nil))))) (fun _ _ _ _ _ => (pv 2))) (pe_lst pa_nil) (nomark _))))))), spF_body (N := N__law_are_places) (g := g__law_are_places) (by decide) ?_ h⟩
  unfold g__law_are_places
  exact (ds_ret (de_and (de_isi "tuple" (by decide) (de_var 1)) (de_and (de_eq (de_len (de_var 1)) (de_var 0)) (de_nil (neg := false) (de_lc (vs := [2]) (di_seq (de_var 1)) (dg_name 2) (dt_not (dt_b (de_call (n := 1) (E := noX) (da_cons (de_var 2) da_nil)))) (de_var 2) (fun j h => h)) (de_lst da_nil)))))
/-! ### law -/
abbrev s_law : Stmt := topS 47
abbrev N_law : List Str := ["_law_script", "_law_deck_here", "_law_n", "_law_turn", "_law_items_here", "_law_places", "_law_own", "_law_told_here", "_law_at", "_law_far", "_law_near", "_law_thing", "_law_spots", "_law_is_one", "_law_due", "_law_way"]
theorem sc_law : FnScope N_law ["_law_script"] (defScope s_law) := ⟨rfl, rfl, rfl, by decide +kernel, rfl, by decide +kernel, by decide +kernel⟩
def g_law : Fs := (sSeq (sAsg (fCall 2 f__law_pick (fCons (fVar 1) (fCons (fSeq .list (fCons (fC (.int 3)) (fCons (fC (.int 2)) (fCons (fC (.int 4)) (fCons (fC (.int 1)) (fCons (fC (.int 5)) (fCons (fC (.int 6)) fNil))))))) fNil))) (qName 2))
    (sSeq (sAsg (fSeq .tuple (fCons (fCall 2 f__law_items (fCons (fVar 1) (fCons (fVar 2) fNil))) (fCons (f1 gTupOf (fLc (wRng1 (fCons (fVar 2) fNil)) (qName 3) fYes (fCall 1 f__law_drawn_place (fCons (fVar 1) fNil)) [3])) fNil))) (qTup 2 (qCons (qName 4) (qCons (qName 5) qNil))))
    (sSeq (sAsg (fCall 2 f__law_value (fCons (fVar 4) (fCons (fVar 5) fNil))) (qName 6))
    (sSeq (sAsg (fLc (wRng1 (fCons (fC (.int 4)) fNil)) (qName 15) fYes (fCall 3 f__law_told (fCons (fVar 15) (fCons (fVar 4) (fCons (fVar 5) fNil)))) [15]) (qName 7))
    (sSeq (sIf (fTest (f2 (gEqS true) (f1 gRepr (fVar 7)) (f1 gRepr (fSeq .list (fCons (fSeq .tuple (fCons (fC (.str "told")) (fCons (fVar 6) fNil))) (fCons (fSeq .tuple (fCons (fC (.str "told")) (fCons (fVar 6) fNil))) (fCons (fSeq .tuple (fCons (fC (.str "told")) (fCons (fEq (fVar 6) (fC (.int 0))) fNil))) (fCons (fSeq .tuple (fCons (fC (.str "told")) (fCons (fEq (fVar 6) (fC (.int 0))) fNil))) fNil)))))))) (sRet (fC (.bool false))) sNext)
    (sSeq (sIf (fTest (f2 (gEqS true) (f1 gRepr (fSeq .list (fCons (fCall 1 f_dials_of (fCons (fVar 4) fNil)) (fCons (fCallK 1 f_dials_of id (fCons (fVar 4) fNil)) (fCons (fCall 1 f_is_relation (fCons (fVar 4) fNil)) (fCons (fCallK 1 f_is_relation id (fCons (fVar 4) fNil)) fNil)))))) (f1 gRepr (fSeq .list (fCons (fVar 2) (fCons (fVar 2) (fCons (fC (.bool true)) (fCons (fC (.bool true)) fNil)))))))) (sRet (fC (.bool false))) sNext)
    (sSeq (sAsg (fCall 2 f__law_draw (fCons (fVar 1) (fCons (fVar 2) fNil))) (qName 8))
    (sSeq (sPar 9 10 (fCons (f2 gAddU (f2 gAddU (fSlU (fVar 5) fNoPart (fPart (fVar 8))) (fSeq .tuple (fCons (fSeq .tuple (fCons (fC (.int 1)) (fCons (fC (.int 0)) fNil))) fNil))) (fSlU (fVar 5) (fPart (f2 gAddU (fVar 8) (fC (.int 1)))) fNoPart)) (fCons (f2 gAddU (f2 gAddU (fSlU (fVar 5) fNoPart (fPart (fVar 8))) (fSeq .tuple (fCons (fSeq .tuple (fCons (fC (.int 0)) (fCons (fC (.int 1)) fNil))) fNil))) (fSlU (fVar 5) (fPart (f2 gAddU (fVar 8) (fC (.int 1)))) fNoPart)) fNil)))
    (sSeq (sIf (fTest (fNe (f2 gAddU (f2 gMulU (fCall 2 f_value (fCons (fVar 4) (fCons (fVar 9) fNil))) (fIx (fIx (fVar 5) (fVar 8)) (fC (.int 0)))) (f2 gMulU (fCall 2 f_value (fCons (fVar 4) (fCons (fVar 10) fNil))) (fIx (fIx (fVar 5) (fVar 8)) (fC (.int 1))))) (fVar 6))) (sRet (fC (.bool false))) sNext)
    (sSeq (sFor (wRng1 (fCons (fC (.int 3)) fNil)) (qName 3) (sSeq (sAsg (fSeq .tuple (fCons (fCall 2 f__law_bent_items (fCons (fVar 1) (fCons (fVar 4) fNil))) (fCons (fCall 2 f__law_bent_places (fCons (fVar 1) (fCons (fVar 5) fNil))) fNil))) (qTup 2 (qCons (qName 11) (qCons (qName 12) qNil))))
    (sSeq (sAsg (fCall 1 f__law_is_relation (fCons (fVar 11) fNil)) (qName 13))
    (sSeq (sIf (fTest (f2 (gEqS true) (f1 gRepr (fSeq .list (fCons (fCall 1 f_is_relation (fCons (fVar 11) fNil)) (fCons (fCallK 1 f_is_relation id (fCons (fVar 11) fNil)) fNil)))) (f1 gRepr (fSeq .list (fCons (fVar 13) (fCons (fVar 13) fNil)))))) (sRet (fC (.bool false))) sNext)
    (sSeq (sAsg (fSeq .tuple (fCons (fC (.str "places")) (fCons (fVar 12) (fCons (fC (.bool true)) fNil)))) (qName 14))
    (sSeq (sIf (tAndF (tNotF (fTest (fCall 2 f__law_are_places (fCons (fVar 2) (fCons (fVar 12) fNil))))) (fTest (f2 (gEqS true) (f1 gRepr (fLc (wRng1 (fCons (fC (.int 4)) fNil)) (qName 15) fYes (fCall 3 f__law_told (fCons (fVar 15) (fCons (fVar 4) (fCons (fVar 12) fNil)))) [15])) (f1 gRepr (f2 gMulU (fSeq .list (fCons (fVar 14) fNil)) (fC (.int 4))))))) (sRet (fC (.bool false))) sNext)
    (sSeq (sAsg (fSeq .tuple (fCons (fC (.str "relation")) (fCons (fVar 11) (fCons (fC (.bool true)) fNil)))) (qName 14))
    (sSeq (sIf (tAndF (tNotF (fTest (fVar 13))) (fTest (f2 (gEqS true) (f1 gRepr (fLc (wRng1 (fCons (fC (.int 4)) fNil)) (qName 15) fYes (fCall 3 f__law_told (fCons (fVar 15) (fCons (fVar 11) (fCons (fVar 12) fNil)))) [15])) (f1 gRepr (f2 gMulU (fSeq .list (fCons (fVar 14) fNil)) (fC (.int 4))))))) (sRet (fC (.bool false))) sNext)
    (sIf (tAndF (tNotF (fTest (fVar 13))) (fTest (f2 (gEqS true) (f1 gRepr (fLc (wSeq (fSeq .tuple (fCons (fC (.int 0)) (fCons (fC (.int 3)) fNil)))) (qName 15) fYes (fCall 3 f__law_told (fCons (fVar 15) (fCons (fVar 11) (fCons (fVar 5) fNil)))) [15])) (f1 gRepr (f2 gMulU (fSeq .list (fCons (fVar 14) fNil)) (fC (.int 2))))))) (sRet (fC (.bool false))) sNext)))))))))
    (sRet (fC (.bool true)))))))))))))
theorem okl_law {P : Program} {w : World} {K : Fg} {mg : Str → Option Value} {base : Heap} {T : List Addr} (tx : Tx base mg) (C__law_deck : Cg P w K mg base 1 "_law_deck" ["_law_script"] (spF K T 1 f__law_deck)) (C__law_pick : Cg P w K mg base 2 "_law_pick" ["_law_deck_here", "_law_some"] (spF K T 2 f__law_pick)) (C__law_items : Cg P w K mg base 3 "_law_items" ["_law_deck_here", "_law_n"] (spF K T 2 f__law_items)) (C__law_drawn_place : Cg P w K mg base 3 "_law_drawn_place" ["_law_deck_here"] (spF K T 1 f__law_drawn_place)) (C__law_value : Cg P w K mg base 1 "_law_value" ["_law_items_here", "_law_places"] (spF K T 2 f__law_value)) (C__law_told : Cg P w K mg base 10 "_law_told" ["_law_way", "_law_relation", "_law_places"] (spF K T 3 f__law_told)) (C_dials_of : Cg P w K mg base 6 "dials_of" ["relation"] (spF K T 1 f_dials_of)) (C_is_relation : Cg P w K mg base 4 "is_relation" ["thing"] (spF K T 1 f_is_relation)) (C__law_draw : Cg P w K mg base 1 "_law_draw" ["_law_deck_here", "_law_limit"] (spF K T 2 f__law_draw)) (C_value : Cg P w K mg base 8 "value" ["relation", "places"] (spF K T 2 f_value)) (C__law_bent_items : Cg P w K mg base 3 "_law_bent_items" ["_law_deck_here", "_law_items_here"] (spF K T 2 f__law_bent_items)) (C__law_bent_places : Cg P w K mg base 3 "_law_bent_places" ["_law_deck_here", "_law_places"] (spF K T 2 f__law_bent_places)) (C__law_is_relation : Cg P w K mg base 3 "_law_is_relation" ["_law_thing"] (spF K T 1 f__law_is_relation)) (C__law_are_places : Cg P w K mg base 3 "_law_are_places" ["_law_n", "_law_thing"] (spF K T 2 f__law_are_places)) (W_dials_of : Ck P w K mg base 6 "dials_of" ["relation"] (spF K T 1 f_dials_of)) (W_is_relation : Ck P w K mg base 4 "is_relation" ["thing"] (spF K T 1 f_is_relation)) {f : Addr} {fd : FuncData} (F : Fun K "law" "law" s_law f fd) (good : ∀ ns : List Int, ns.length ≤ 63 → GoodLaw f__law_deck g_law 16 ns) :
    FnG P w K mg base CX0 11 f fd ["_law_script"] (spLaw K T 63) := by
  refine fnG_of F sc_law (fun vs H Q E h => spLaw_len h) (fun cdv A outer s H vs Q E hg0 hr h => ?_)
  have hu := hu_of hr
  refine ⟨_, PSs.nox (pss_cons (ps_set (i := 1) sc_law.nd rfl (Or.inr rfl) (pe_callC C__law_deck hg0 hr (by decide) (pa_cons (pv 0) pa_nil)))
      (pss_cons (ps_set (i := 2) sc_law.nd rfl (Or.inl rfl) (pe_callC C__law_pick hg0 hr (by decide) (pa_cons (pv 1) (pa_cons (pe_lst (pa_cons pe_int (pa_cons pe_int (pa_cons pe_int (pa_cons pe_int (pa_cons pe_int (pa_cons pe_int pa_nil))))))) pa_nil))))
      (pss_cons (ps_asg (pe_tup (pa_cons (pe_callC C__law_items hg0 hr (by decide) (pa_cons (pv 1) (pa_cons (pv 2) pa_nil))) (pa_cons (pe_callTy (T := "tuple") call_tuple_of (by rfl) tx.z_tuple (by decide +kernel) (pa_cons (pe_lc (own := [("_law_turn", 3)]) (g := gName 3) (tt := tYes) rfl sc_law.nd (pi_range1 (by rfl) tx.z_range (pa_cons (pv 2) pa_nil)) (blkOk_by (N := N_law) (sc := defScope s_law) (by decide +kernel)) (fun _ _ _ _ _ => pg_name (i := 3) sc_law.nd rfl (Or.inl rfl)) (fun _ _ _ _ _ => pts_nil) (fun _ _ _ _ _ => (pe_callC C__law_drawn_place hg0 hr (by decide) (pa_cons (pv 1) pa_nil)))) pa_nil)) pa_nil))) (pg_tup rfl (pgs_cons (pg_name (i := 4) sc_law.nd rfl (Or.inr rfl)) (pgs_cons (pg_name (i := 5) sc_law.nd rfl (Or.inr rfl)) pgs_nil))))
      (pss_cons (ps_set (i := 6) sc_law.nd rfl (Or.inl rfl) (pe_callC C__law_value hg0 hr (by decide) (pa_cons (pv 4) (pa_cons (pv 5) pa_nil))))
      (pss_cons (ps_setLc (i := 7) (own := [("_law_way", 15)]) (g := gName 15) (tt := tYes) rfl sc_law.nd rfl rfl (sw_true rfl rfl rfl (by decide +kernel)) (pi_range1 (by rfl) tx.z_range (pa_cons pe_int pa_nil)) (blkOk_by (N := N_law) (sc := defScope s_law) (by decide +kernel)) (fun _ _ _ _ _ => pg_name (i := 15) sc_law.nd rfl (Or.inl rfl)) (fun _ _ _ _ _ => pts_nil) (fun _ _ _ _ _ => (pe_callC C__law_told hg0 hr (by decide) (pa_cons (pv 15) (pa_cons (pv 4) (pa_cons (pv 5) pa_nil))))))
      (pss_cons (ps_if (pt_cmpR op_ne (pe_callB (id := "repr") (call_reprG hg0 hr.units tx.sys) (by rfl) tx.z_repr (by decide +kernel) (pa_cons (pv 7) pa_nil)) (pe_callB (id := "repr") (call_reprG hg0 hr.units tx.sys) (by rfl) tx.z_repr (by decide +kernel) (pa_cons (pe_lst (pa_cons (pe_tup (pa_cons pe_str (pa_cons (pv 6) pa_nil))) (pa_cons (pe_tup (pa_cons pe_str (pa_cons (pv 6) pa_nil))) (pa_cons (pe_tup (pa_cons pe_str (pa_cons (pe_cmpR (op_eqD hr.units) (pv 6) pe_int (nomark _)) pa_nil))) (pa_cons (pe_tup (pa_cons pe_str (pa_cons (pe_cmpR (op_eqD hr.units) (pv 6) pe_int (nomark _)) pa_nil))) pa_nil))))) pa_nil)) (nomark _)) (pss_one (ps_ret pe_bl)) pss_nil)
      (pss_cons (ps_if (pt_cmpR op_ne (pe_callB (id := "repr") (call_reprG hg0 hr.units tx.sys) (by rfl) tx.z_repr (by decide +kernel) (pa_cons (pe_lst (pa_cons (pe_callC C_dials_of hg0 hr (by decide) (pa_cons (pv 4) pa_nil)) (pa_cons (pe_callKC W_dials_of hg0 hr (by decide) (pk_cons (pv 4) pk_nil)) (pa_cons (pe_callC C_is_relation hg0 hr (by decide) (pa_cons (pv 4) pa_nil)) (pa_cons (pe_callKC W_is_relation hg0 hr (by decide) (pk_cons (pv 4) pk_nil)) pa_nil))))) pa_nil)) (pe_callB (id := "repr") (call_reprG hg0 hr.units tx.sys) (by rfl) tx.z_repr (by decide +kernel) (pa_cons (pe_lst (pa_cons (pv 2) (pa_cons (pv 2) (pa_cons pe_bl (pa_cons pe_bl pa_nil))))) pa_nil)) (nomark _)) (pss_one (ps_ret pe_bl)) pss_nil)
      (pss_cons (ps_set (i := 8) sc_law.nd rfl (Or.inl rfl) (pe_callC C__law_draw hg0 hr (by decide) (pa_cons (pv 1) (pa_cons (pv 2) pa_nil))))
      (pss_cons (ps_par (i := 9) (j := 10) rfl sc_law.nd rfl rfl (by decide) rfl rfl (pa_cons (pe_op op_addU (pe_op op_addU (pe_slice sl_u (pv 5) po_none (po_some (pv 8))) (pe_tup (pa_cons (pe_tup (pa_cons pe_int (pa_cons pe_int pa_nil))) pa_nil))) (pe_slice sl_u (pv 5) (po_some (pe_op op_addU (pv 8) pe_int)) po_none)) (pa_cons (pe_op op_addU (pe_op op_addU (pe_slice sl_u (pv 5) po_none (po_some (pv 8))) (pe_tup (pa_cons (pe_tup (pa_cons pe_int (pa_cons pe_int pa_nil))) pa_nil))) (pe_slice sl_u (pv 5) (po_some (pe_op op_addU (pv 8) pe_int)) po_none)) pa_nil)) rfl)
      (pss_cons (ps_if (pt_cmpR (op_neD hr.units) (pe_op op_addU (pe_op op_mulU (pe_callC C_value hg0 hr (by decide) (pa_cons (pv 4) (pa_cons (pv 9) pa_nil))) (pe_ix ix_seq (pe_ix ix_seq (pv 5) (pv 8) (fun _ _ => rfl)) pe_int (fun _ _ => rfl))) (pe_op op_mulU (pe_callC C_value hg0 hr (by decide) (pa_cons (pv 4) (pa_cons (pv 10) pa_nil))) (pe_ix ix_seq (pe_ix ix_seq (pv 5) (pv 8) (fun _ _ => rfl)) pe_int (fun _ _ => rfl)))) (pv 6) (nomark _)) (pss_one (ps_ret pe_bl)) pss_nil)
      (pss_cons (ps_for PassesOwn.never rfl (pi_range1 (by rfl) tx.z_range (pa_cons pe_int pa_nil)) (pg_name (i := 3) sc_law.nd rfl (Or.inl rfl)) (pss_cons (ps_asg (pe_tup (pa_cons (pe_callC C__law_bent_items hg0 hr (by decide) (pa_cons (pv 1) (pa_cons (pv 4) pa_nil))) (pa_cons (pe_callC C__law_bent_places hg0 hr (by decide) (pa_cons (pv 1) (pa_cons (pv 5) pa_nil))) pa_nil))) (pg_tup rfl (pgs_cons (pg_name (i := 11) sc_law.nd rfl (Or.inr rfl)) (pgs_cons (pg_name (i := 12) sc_law.nd rfl (Or.inr rfl)) pgs_nil))))
      (pss_cons (ps_set (i := 13) sc_law.nd rfl (Or.inl rfl) (pe_callC C__law_is_relation hg0 hr (by decide) (pa_cons (pv 11) pa_nil)))
      (pss_cons (ps_if (pt_cmpR op_ne (pe_callB (id := "repr") (call_reprG hg0 hr.units tx.sys) (by rfl) tx.z_repr (by decide +kernel) (pa_cons (pe_lst (pa_cons (pe_callC C_is_relation hg0 hr (by decide) (pa_cons (pv 11) pa_nil)) (pa_cons (pe_callKC W_is_relation hg0 hr (by decide) (pk_cons (pv 11) pk_nil)) pa_nil))) pa_nil)) (pe_callB (id := "repr") (call_reprG hg0 hr.units tx.sys) (by rfl) tx.z_repr (by decide +kernel) (pa_cons (pe_lst (pa_cons (pv 13) (pa_cons (pv 13) pa_nil))) pa_nil)) (nomark _)) (pss_one (ps_ret pe_bl)) pss_nil)
      (pss_cons (ps_set (i := 14) sc_law.nd rfl (Or.inl rfl) (pe_tup (pa_cons pe_str (pa_cons (pv 12) (pa_cons pe_bl pa_nil)))))
      (pss_cons (ps_if (PW.pt (pw_and (pt_not (pt_val (pe_callC C__law_are_places hg0 hr (by decide) (pa_cons (pv 2) (pa_cons (pv 12) pa_nil))))) (pw_and1 (pt_cmpR op_ne (pe_callB (id := "repr") (call_reprG hg0 hr.units tx.sys) (by rfl) tx.z_repr (by decide +kernel) (pa_cons (pe_lc (own := [("_law_way", 15)]) (g := gName 15) (tt := tYes) rfl sc_law.nd (pi_range1 (by rfl) tx.z_range (pa_cons pe_int pa_nil)) (blkOk_by (N := N_law) (sc := defScope s_law) (by decide +kernel)) (fun _ _ _ _ _ => pg_name (i := 15) sc_law.nd rfl (Or.inl rfl)) (fun _ _ _ _ _ => pts_nil) (fun _ _ _ _ _ => (pe_callC C__law_told hg0 hr (by decide) (pa_cons (pv 15) (pa_cons (pv 4) (pa_cons (pv 12) pa_nil)))))) pa_nil)) (pe_callB (id := "repr") (call_reprG hg0 hr.units tx.sys) (by rfl) tx.z_repr (by decide +kernel) (pa_cons (pe_op op_mulU (pe_lst (pa_cons (pv 14) pa_nil)) pe_int) pa_nil)) (nomark _))))) (pss_one (ps_ret pe_bl)) pss_nil)
      (pss_cons (ps_set (i := 14) sc_law.nd rfl (Or.inl rfl) (pe_tup (pa_cons pe_str (pa_cons (pv 11) (pa_cons pe_bl pa_nil)))))
      (pss_cons (ps_if (PW.pt (pw_and (pt_not (pt_val (pv 13))) (pw_and1 (pt_cmpR op_ne (pe_callB (id := "repr") (call_reprG hg0 hr.units tx.sys) (by rfl) tx.z_repr (by decide +kernel) (pa_cons (pe_lc (own := [("_law_way", 15)]) (g := gName 15) (tt := tYes) rfl sc_law.nd (pi_range1 (by rfl) tx.z_range (pa_cons pe_int pa_nil)) (blkOk_by (N := N_law) (sc := defScope s_law) (by decide +kernel)) (fun _ _ _ _ _ => pg_name (i := 15) sc_law.nd rfl (Or.inl rfl)) (fun _ _ _ _ _ => pts_nil) (fun _ _ _ _ _ => (pe_callC C__law_told hg0 hr (by decide) (pa_cons (pv 15) (pa_cons (pv 11) (pa_cons (pv 12) pa_nil)))))) pa_nil)) (pe_callB (id := "repr") (call_reprG hg0 hr.units tx.sys) (by rfl) tx.z_repr (by decide +kernel) (pa_cons (pe_op op_mulU (pe_lst (pa_cons (pv 14) pa_nil)) pe_int) pa_nil)) (nomark _))))) (pss_one (ps_ret pe_bl)) pss_nil)
      (pss_one (ps_if (PW.pt (pw_and (pt_not (pt_val (pv 13))) (pw_and1 (pt_cmpR op_ne (pe_callB (id := "repr") (call_reprG hg0 hr.units tx.sys) (by rfl) tx.z_repr (by decide +kernel) (pa_cons (pe_lc (own := [("_law_way", 15)]) (g := gName 15) (tt := tYes) rfl sc_law.nd (pi_seq (pe_tup (pa_cons pe_int (pa_cons pe_int pa_nil)))) (blkOk_by (N := N_law) (sc := defScope s_law) (by decide +kernel)) (fun _ _ _ _ _ => pg_name (i := 15) sc_law.nd rfl (Or.inl rfl)) (fun _ _ _ _ _ => pts_nil) (fun _ _ _ _ _ => (pe_callC C__law_told hg0 hr (by decide) (pa_cons (pv 15) (pa_cons (pv 11) (pa_cons (pv 5) pa_nil)))))) pa_nil)) (pe_callB (id := "repr") (call_reprG hg0 hr.units tx.sys) (by rfl) tx.z_repr (by decide +kernel) (pa_cons (pe_op op_mulU (pe_lst (pa_cons (pv 14) pa_nil)) pe_int) pa_nil)) (nomark _))))) (pss_one (ps_ret pe_bl)) pss_nil))))))))))
      (pss_one (ps_ret pe_bl))))))))))))), law_body (N := N_law) (g := g_law) rfl (by decide) ?_ h good⟩
  unfold g_law
  exact (ds_seq (ds_asg (de_call (n := 2) (E := noX) (da_cons (de_var 1) (da_cons (de_lst (da_cons (de_c fun _ => .int _) (da_cons (de_c fun _ => .int _) (da_cons (de_c fun _ => .int _) (da_cons (de_c fun _ => .int _) (da_cons (de_c fun _ => .int _) (da_cons (de_c fun _ => .int _) da_nil))))))) da_nil))) (dg_name 2))
      (ds_seq (ds_asg (de_tup (da_cons (de_call (n := 2) (E := noX) (da_cons (de_var 1) (da_cons (de_var 2) da_nil))) (da_cons (de_tupOf (de_lc (vs := [3]) (di_rng1 (da_cons (de_var 2) da_nil)) (dg_name 3) dt_yes (de_call (n := 1) (E := noX) (da_cons (de_var 1) da_nil)) (fun j h => h))) da_nil))) (dg_tup (dgs_cons (dg_name 4) (dgs_cons (dg_name 5) dgs_nil))))
      (ds_seq (ds_asg (de_call (n := 2) (E := noX) (da_cons (de_var 4) (da_cons (de_var 5) da_nil))) (dg_name 6))
      (ds_seq (ds_asg (de_lc (vs := [15]) (di_rng1 (da_cons (de_c fun _ => .int _) da_nil)) (dg_name 15) dt_yes (de_call (n := 3) (E := noX) (da_cons (de_var 15) (da_cons (de_var 4) (da_cons (de_var 5) da_nil)))) (fun j h => h)) (dg_name 7))
      (ds_seq (ds_if (dt_test (de_neS (de_repr (de_var 7)) (de_repr (de_lst (da_cons (de_tup (da_cons (de_c fun _ => .str _) (da_cons (de_var 6) da_nil))) (da_cons (de_tup (da_cons (de_c fun _ => .str _) (da_cons (de_var 6) da_nil))) (da_cons (de_tup (da_cons (de_c fun _ => .str _) (da_cons (de_eq (de_var 6) (de_c fun _ => .int _)) da_nil))) (da_cons (de_tup (da_cons (de_c fun _ => .str _) (da_cons (de_eq (de_var 6) (de_c fun _ => .int _)) da_nil))) da_nil)))))))) (ds_ret (de_c fun _ => .bl _)) ds_next)
      (ds_seq (ds_if (dt_test (de_neS (de_repr (de_lst (da_cons (de_call (n := 1) (E := noX) (da_cons (de_var 4) da_nil)) (da_cons (de_callK (E := noX) (g := id) (gV := id) (da_cons (de_var 4) da_nil) (fun _ _ _ _ _ _ h => h)) (da_cons (de_call (n := 1) (E := noX) (da_cons (de_var 4) da_nil)) (da_cons (de_callK (E := noX) (g := id) (gV := id) (da_cons (de_var 4) da_nil) (fun _ _ _ _ _ _ h => h)) da_nil)))))) (de_repr (de_lst (da_cons (de_var 2) (da_cons (de_var 2) (da_cons (de_c fun _ => .bl _) (da_cons (de_c fun _ => .bl _) da_nil)))))))) (ds_ret (de_c fun _ => .bl _)) ds_next)
      (ds_seq (ds_asg (de_call (n := 2) (E := noX) (da_cons (de_var 1) (da_cons (de_var 2) da_nil))) (dg_name 8))
      (ds_seq (ds_par (da_cons (de_addU (de_addU (de_slU (de_var 5) do_none (do_some (de_var 8))) (de_tup (da_cons (de_tup (da_cons (de_c fun _ => .int _) (da_cons (de_c fun _ => .int _) da_nil))) da_nil))) (de_slU (de_var 5) (do_some (de_addU (de_var 8) (de_c fun _ => .int _))) do_none)) (da_cons (de_addU (de_addU (de_slU (de_var 5) do_none (do_some (de_var 8))) (de_tup (da_cons (de_tup (da_cons (de_c fun _ => .int _) (da_cons (de_c fun _ => .int _) da_nil))) da_nil))) (de_slU (de_var 5) (do_some (de_addU (de_var 8) (de_c fun _ => .int _))) do_none)) da_nil)))
      (ds_seq (ds_if (dt_test (de_ne (de_addU (de_mulU (de_call (n := 2) (E := noX) (da_cons (de_var 4) (da_cons (de_var 9) da_nil))) (de_ix (de_ix (de_var 5) (de_var 8)) (de_c fun _ => .int _))) (de_mulU (de_call (n := 2) (E := noX) (da_cons (de_var 4) (da_cons (de_var 10) da_nil))) (de_ix (de_ix (de_var 5) (de_var 8)) (de_c fun _ => .int _)))) (de_var 6))) (ds_ret (de_c fun _ => .bl _)) ds_next)
      (ds_seq (ds_for (di_rng1 (da_cons (de_c fun _ => .int _) da_nil)) (dg_name 3) (ds_seq (ds_asg (de_tup (da_cons (de_call (n := 2) (E := noX) (da_cons (de_var 1) (da_cons (de_var 4) da_nil))) (da_cons (de_call (n := 2) (E := noX) (da_cons (de_var 1) (da_cons (de_var 5) da_nil))) da_nil))) (dg_tup (dgs_cons (dg_name 11) (dgs_cons (dg_name 12) dgs_nil))))
      (ds_seq (ds_asg (de_call (n := 1) (E := noX) (da_cons (de_var 11) da_nil)) (dg_name 13))
      (ds_seq (ds_if (dt_test (de_neS (de_repr (de_lst (da_cons (de_call (n := 1) (E := noX) (da_cons (de_var 11) da_nil)) (da_cons (de_callK (E := noX) (g := id) (gV := id) (da_cons (de_var 11) da_nil) (fun _ _ _ _ _ _ h => h)) da_nil)))) (de_repr (de_lst (da_cons (de_var 13) (da_cons (de_var 13) da_nil)))))) (ds_ret (de_c fun _ => .bl _)) ds_next)
      (ds_seq (ds_asg (de_tup (da_cons (de_c fun _ => .str _) (da_cons (de_var 12) (da_cons (de_c fun _ => .bl _) da_nil)))) (dg_name 14))
      (ds_seq (ds_if (dt_and (dt_not (dt_b (de_call (n := 2) (E := noX) (da_cons (de_var 2) (da_cons (de_var 12) da_nil))))) (dt_test (de_neS (de_repr (de_lc (vs := [15]) (di_rng1 (da_cons (de_c fun _ => .int _) da_nil)) (dg_name 15) dt_yes (de_call (n := 3) (E := noX) (da_cons (de_var 15) (da_cons (de_var 4) (da_cons (de_var 12) da_nil)))) (fun j h => h))) (de_repr (de_mulU (de_lst (da_cons (de_var 14) da_nil)) (de_c fun _ => .int _)))))) (ds_ret (de_c fun _ => .bl _)) ds_next)
      (ds_seq (ds_asg (de_tup (da_cons (de_c fun _ => .str _) (da_cons (de_var 11) (da_cons (de_c fun _ => .bl _) da_nil)))) (dg_name 14))
      (ds_seq (ds_if (dt_and (dt_not (dt_b (de_var 13))) (dt_test (de_neS (de_repr (de_lc (vs := [15]) (di_rng1 (da_cons (de_c fun _ => .int _) da_nil)) (dg_name 15) dt_yes (de_call (n := 3) (E := noX) (da_cons (de_var 15) (da_cons (de_var 11) (da_cons (de_var 12) da_nil)))) (fun j h => h))) (de_repr (de_mulU (de_lst (da_cons (de_var 14) da_nil)) (de_c fun _ => .int _)))))) (ds_ret (de_c fun _ => .bl _)) ds_next)
      (ds_if (dt_and (dt_not (dt_b (de_var 13))) (dt_test (de_neS (de_repr (de_lc (vs := [15]) (di_seq (de_tup (da_cons (de_c fun _ => .int _) (da_cons (de_c fun _ => .int _) da_nil)))) (dg_name 15) dt_yes (de_call (n := 3) (E := noX) (da_cons (de_var 15) (da_cons (de_var 11) (da_cons (de_var 5) da_nil)))) (fun j h => h))) (de_repr (de_mulU (de_lst (da_cons (de_var 14) da_nil)) (de_c fun _ => .int _)))))) (ds_ret (de_c fun _ => .bl _)) ds_next)))))))))
      (ds_ret (de_c fun _ => .bl _))))))))))))
/-! ### the facts of the head -/
theorem int_def : IntDef s_is_integer := ⟨⟨fun i => (posOf (defBody s_is_integer)).getD i ⟨0, 0, 0, 0⟩, rfl⟩, rfl, rfl, rfl, rfl, rfl, rfl, rfl⟩
theorem all_mk {q : Program} {l : PySem.W.OpenLaw} {w : World} {K : Fg} {h : Heap} {mg : Str → Option Value} {fa : Addr} (good : ∀ ns : List Int, ns.length ≤ 63 → GoodLaw f__law_deck g_law 16 ns) (X : K.In h) (hns0 : h.Ns mainGlobals mg) (hfa : mg "law" = some (.ref fa)) (tf : TabFacts q K h)
    {f_common_divisor : Addr} {oc_common_divisor kV_common_divisor dc_common_divisor pm_common_divisor ct_common_divisor cd_common_divisor : Value} {od_common_divisor an_common_divisor : Option Addr} {sl_common_divisor : Array (Option Value)}
    {f_sign_of_first : Addr} {oc_sign_of_first kV_sign_of_first dc_sign_of_first pm_sign_of_first ct_sign_of_first cd_sign_of_first : Value} {od_sign_of_first an_sign_of_first : Option Addr} {sl_sign_of_first : Array (Option Value)}
    {f_is_short : Addr} {oc_is_short kV_is_short dc_is_short pm_is_short ct_is_short cd_is_short : Value} {od_is_short an_is_short : Option Addr} {sl_is_short : Array (Option Value)}
    {f_count_dials : Addr} {oc_count_dials kV_count_dials dc_count_dials pm_count_dials ct_count_dials cd_count_dials : Value} {od_count_dials an_count_dials : Option Addr} {sl_count_dials : Array (Option Value)}
    {f_bit_span : Addr} {oc_bit_span kV_bit_span dc_bit_span pm_bit_span ct_bit_span cd_bit_span : Value} {od_bit_span an_bit_span : Option Addr} {sl_bit_span : Array (Option Value)}
    {f_with_place : Addr} {oc_with_place kV_with_place dc_with_place pm_with_place ct_with_place : Value} {od_with_place an_with_place : Option Addr} {sl_with_place : Array (Option Value)}
    {co_with_place ta_with_place : Addr} {dr_with_place : DefRec} {oe_with_place : Value} {oo_with_place : Option Addr} {ov_with_place : Array Value} {os_with_place : Array (Option Value)}
    {f_is_integer : Addr} {oc_is_integer kV_is_integer dc_is_integer pm_is_integer ct_is_integer cd_is_integer : Value} {od_is_integer an_is_integer : Option Addr} {sl_is_integer : Array (Option Value)}
    {f_is_tuple_of : Addr} {oc_is_tuple_of kV_is_tuple_of dc_is_tuple_of pm_is_tuple_of ct_is_tuple_of cd_is_tuple_of : Value} {od_is_tuple_of an_is_tuple_of : Option Addr} {sl_is_tuple_of : Array (Option Value)}
    {f_is_integers : Addr} {oc_is_integers kV_is_integers dc_is_integers pm_is_integers ct_is_integers : Value} {od_is_integers an_is_integers : Option Addr} {sl_is_integers : Array (Option Value)}
    {co_is_integers ta_is_integers : Addr} {dr_is_integers : DefRec} {oe_is_integers : Value} {oo_is_integers : Option Addr} {ov_is_integers : Array Value} {os_is_integers : Array (Option Value)}
    {f_is_place : Addr} {oc_is_place kV_is_place dc_is_place pm_is_place ct_is_place cd_is_place : Value} {od_is_place an_is_place : Option Addr} {sl_is_place : Array (Option Value)}
    {f_are_places : Addr} {oc_are_places kV_are_places dc_are_places pm_are_places ct_are_places : Value} {od_are_places an_are_places : Option Addr} {sl_are_places : Array (Option Value)}
    {co_are_places ta_are_places : Addr} {dr_are_places : DefRec} {oe_are_places : Value} {oo_are_places : Option Addr} {ov_are_places : Array Value} {os_are_places : Array (Option Value)}
    {f_is_relation : Addr} {oc_is_relation kV_is_relation dc_is_relation pm_is_relation ct_is_relation cd_is_relation : Value} {od_is_relation an_is_relation : Option Addr} {sl_is_relation : Array (Option Value)}
    {f_check_relation : Addr} {oc_check_relation kV_check_relation dc_check_relation pm_check_relation ct_check_relation cd_check_relation : Value} {od_check_relation an_check_relation : Option Addr} {sl_check_relation : Array (Option Value)}
    {f_check_places : Addr} {oc_check_places kV_check_places dc_check_places pm_check_places ct_check_places cd_check_places : Value} {od_check_places an_check_places : Option Addr} {sl_check_places : Array (Option Value)}
    {f_dials_of : Addr} {oc_dials_of kV_dials_of dc_dials_of pm_dials_of ct_dials_of cd_dials_of : Value} {od_dials_of an_dials_of : Option Addr} {sl_dials_of : Array (Option Value)}
    {f_value : Addr} {oc_value kV_value dc_value pm_value ct_value cd_value : Value} {od_value an_value : Option Addr} {sl_value : Array (Option Value)}
    {f_holds : Addr} {oc_holds kV_holds dc_holds pm_holds ct_holds cd_holds : Value} {od_holds an_holds : Option Addr} {sl_holds : Array (Option Value)}
    {f__law_deck : Addr} {oc__law_deck kV__law_deck dc__law_deck pm__law_deck ct__law_deck cd__law_deck : Value} {od__law_deck an__law_deck : Option Addr} {sl__law_deck : Array (Option Value)}
    {f__law_draw : Addr} {oc__law_draw kV__law_draw dc__law_draw pm__law_draw ct__law_draw cd__law_draw : Value} {od__law_draw an__law_draw : Option Addr} {sl__law_draw : Array (Option Value)}
    {f__law_pick : Addr} {oc__law_pick kV__law_pick dc__law_pick pm__law_pick ct__law_pick cd__law_pick : Value} {od__law_pick an__law_pick : Option Addr} {sl__law_pick : Array (Option Value)}
    {f__law_is_integer : Addr} {oc__law_is_integer kV__law_is_integer dc__law_is_integer pm__law_is_integer ct__law_is_integer cd__law_is_integer : Value} {od__law_is_integer an__law_is_integer : Option Addr} {sl__law_is_integer : Array (Option Value)}
    {f__law_gcd : Addr} {oc__law_gcd kV__law_gcd dc__law_gcd pm__law_gcd ct__law_gcd cd__law_gcd : Value} {od__law_gcd an__law_gcd : Option Addr} {sl__law_gcd : Array (Option Value)}
    {f__law_short : Addr} {oc__law_short kV__law_short dc__law_short pm__law_short ct__law_short cd__law_short : Value} {od__law_short an__law_short : Option Addr} {sl__law_short : Array (Option Value)}
    {f__law_is_place : Addr} {oc__law_is_place kV__law_is_place dc__law_is_place pm__law_is_place ct__law_is_place cd__law_is_place : Value} {od__law_is_place an__law_is_place : Option Addr} {sl__law_is_place : Array (Option Value)}
    {f__law_place : Addr} {oc__law_place kV__law_place dc__law_place pm__law_place ct__law_place cd__law_place : Value} {od__law_place an__law_place : Option Addr} {sl__law_place : Array (Option Value)}
    {f__law_is_relation : Addr} {oc__law_is_relation kV__law_is_relation dc__law_is_relation pm__law_is_relation ct__law_is_relation cd__law_is_relation : Value} {od__law_is_relation an__law_is_relation : Option Addr} {sl__law_is_relation : Array (Option Value)}
    {f__law_value : Addr} {oc__law_value kV__law_value dc__law_value pm__law_value ct__law_value cd__law_value : Value} {od__law_value an__law_value : Option Addr} {sl__law_value : Array (Option Value)}
    {f__law_signed : Addr} {oc__law_signed kV__law_signed dc__law_signed pm__law_signed ct__law_signed cd__law_signed : Value} {od__law_signed an__law_signed : Option Addr} {sl__law_signed : Array (Option Value)}
    {f__law_drawn_place : Addr} {oc__law_drawn_place kV__law_drawn_place dc__law_drawn_place pm__law_drawn_place ct__law_drawn_place cd__law_drawn_place : Value} {od__law_drawn_place an__law_drawn_place : Option Addr} {sl__law_drawn_place : Array (Option Value)}
    {f__law_items : Addr} {oc__law_items kV__law_items dc__law_items pm__law_items ct__law_items cd__law_items : Value} {od__law_items an__law_items : Option Addr} {sl__law_items : Array (Option Value)}
    {f__law_told : Addr} {oc__law_told kV__law_told dc__law_told pm__law_told ct__law_told cd__law_told : Value} {od__law_told an__law_told : Option Addr} {sl__law_told : Array (Option Value)}
    {f__law_bent_items : Addr} {oc__law_bent_items kV__law_bent_items dc__law_bent_items pm__law_bent_items ct__law_bent_items cd__law_bent_items : Value} {od__law_bent_items an__law_bent_items : Option Addr} {sl__law_bent_items : Array (Option Value)}
    {f__law_bent_places : Addr} {oc__law_bent_places kV__law_bent_places dc__law_bent_places pm__law_bent_places ct__law_bent_places cd__law_bent_places : Value} {od__law_bent_places an__law_bent_places : Option Addr} {sl__law_bent_places : Array (Option Value)}
    {f__law_are_places : Addr} {oc__law_are_places kV__law_are_places dc__law_are_places pm__law_are_places ct__law_are_places cd__law_are_places : Value} {od__law_are_places an__law_are_places : Option Addr} {sl__law_are_places : Array (Option Value)}
    {f_law : Addr} {oc_law kV_law dc_law pm_law ct_law cd_law : Value} {od_law an_law : Option Addr} {sl_law : Array (Option Value)}
    {p_FAR : Addr} {od_FAR : Option Addr} {n_FAR : Nat} {sl_FAR : Array (Option Value)} {t0_FAR t1_FAR : Tok}
    {p_LENGTHS : Addr} {od_LENGTHS : Option Addr} {n_LENGTHS : Nat} {sl_LENGTHS : Array (Option Value)} {t0_LENGTHS t1_LENGTHS t2_LENGTHS t3_LENGTHS t4_LENGTHS t5_LENGTHS : Tok}
    {C_BadPlaces : Addr}
    {fI_BadPlaces : Addr} {oi_BadPlaces di_BadPlaces pi_BadPlaces ti_BadPlaces vi_BadPlaces : Value} {xi_BadPlaces ai_BadPlaces : Option Addr} {si_BadPlaces : Array (Option Value)} {p1_BadPlaces p2_BadPlaces q1_BadPlaces q2_BadPlaces q3_BadPlaces q4_BadPlaces : Pos}
    {C_BadRelation : Addr}
    {fI_BadRelation : Addr} {oi_BadRelation di_BadRelation pi_BadRelation ti_BadRelation vi_BadRelation : Value} {xi_BadRelation ai_BadRelation : Option Addr} {si_BadRelation : Array (Option Value)} {p1_BadRelation p2_BadRelation q1_BadRelation q2_BadRelation q3_BadRelation q4_BadRelation : Pos}
    {C_RulerError : Addr}
    (a_common_divisor : PySem.W.nsIn K mainGlobals "common_divisor" = some (some (.ref f_common_divisor)))
    (l_common_divisor : K.lookup f_common_divisor = some ⟨oc_common_divisor, od_common_divisor, .func (PySem.W.fnOf "common_divisor" "common_divisor" (defArgs s_common_divisor) (defBody s_common_divisor) (defScope s_common_divisor) .none kV_common_divisor dc_common_divisor pm_common_divisor an_common_divisor cd_common_divisor ct_common_divisor), sl_common_divisor⟩)
    (c_common_divisor : PySem.W.codeIn K cd_common_divisor "common_divisor" = true)
    (k_common_divisor : PySem.W.keepIn K (.ref f_common_divisor) = true)
    (a_sign_of_first : PySem.W.nsIn K mainGlobals "sign_of_first" = some (some (.ref f_sign_of_first)))
    (l_sign_of_first : K.lookup f_sign_of_first = some ⟨oc_sign_of_first, od_sign_of_first, .func (PySem.W.fnOf "sign_of_first" "sign_of_first" (defArgs s_sign_of_first) (defBody s_sign_of_first) (defScope s_sign_of_first) .none kV_sign_of_first dc_sign_of_first pm_sign_of_first an_sign_of_first cd_sign_of_first ct_sign_of_first), sl_sign_of_first⟩)
    (c_sign_of_first : PySem.W.codeIn K cd_sign_of_first "sign_of_first" = true)
    (k_sign_of_first : PySem.W.keepIn K (.ref f_sign_of_first) = true)
    (a_is_short : PySem.W.nsIn K mainGlobals "is_short" = some (some (.ref f_is_short)))
    (l_is_short : K.lookup f_is_short = some ⟨oc_is_short, od_is_short, .func (PySem.W.fnOf "is_short" "is_short" (defArgs s_is_short) (defBody s_is_short) (defScope s_is_short) .none kV_is_short dc_is_short pm_is_short an_is_short cd_is_short ct_is_short), sl_is_short⟩)
    (c_is_short : PySem.W.codeIn K cd_is_short "is_short" = true)
    (k_is_short : PySem.W.keepIn K (.ref f_is_short) = true)
    (a_count_dials : PySem.W.nsIn K mainGlobals "count_dials" = some (some (.ref f_count_dials)))
    (l_count_dials : K.lookup f_count_dials = some ⟨oc_count_dials, od_count_dials, .func (PySem.W.fnOf "count_dials" "count_dials" (defArgs s_count_dials) (defBody s_count_dials) (defScope s_count_dials) .none kV_count_dials dc_count_dials pm_count_dials an_count_dials cd_count_dials ct_count_dials), sl_count_dials⟩)
    (c_count_dials : PySem.W.codeIn K cd_count_dials "count_dials" = true)
    (k_count_dials : PySem.W.keepIn K (.ref f_count_dials) = true)
    (a_bit_span : PySem.W.nsIn K mainGlobals "bit_span" = some (some (.ref f_bit_span)))
    (l_bit_span : K.lookup f_bit_span = some ⟨oc_bit_span, od_bit_span, .func (PySem.W.fnOf "bit_span" "bit_span" (defArgs s_bit_span) (defBody s_bit_span) (defScope s_bit_span) .none kV_bit_span dc_bit_span pm_bit_span an_bit_span cd_bit_span ct_bit_span), sl_bit_span⟩)
    (c_bit_span : PySem.W.codeIn K cd_bit_span "bit_span" = true)
    (k_bit_span : PySem.W.keepIn K (.ref f_bit_span) = true)
    (a_with_place : PySem.W.nsIn K mainGlobals "with_place" = some (some (.ref f_with_place)))
    (l_with_place : K.lookup f_with_place = some ⟨oc_with_place, od_with_place, .func (PySem.W.fnOf "with_place" "with_place" (defArgs s_with_place) (defBody s_with_place) (defScope s_with_place) .none kV_with_place dc_with_place pm_with_place an_with_place (.ref co_with_place) ct_with_place), sl_with_place⟩)
    (c_with_place : PySem.W.codeIn K (.ref co_with_place) "with_place" = true)
    (k_with_place : PySem.W.keepIn K (.ref f_with_place) = true)
    (t_with_place : K.lookup co_with_place = some ⟨oe_with_place, oo_with_place, .fields ov_with_place, os_with_place⟩)
    (v_with_place : (ov_with_place[11]? : Option Value) = some (.ref ta_with_place))
    (o_with_place : K.lookup ta_with_place = none)
    (r_with_place : (recsOf q).find? (fun e => e.name == ("with_place" : Str)) = some dr_with_place)
    (a_is_integer : PySem.W.nsIn K mainGlobals "is_integer" = some (some (.ref f_is_integer)))
    (l_is_integer : K.lookup f_is_integer = some ⟨oc_is_integer, od_is_integer, .func (PySem.W.fnOf "is_integer" "is_integer" (defArgs s_is_integer) (defBody s_is_integer) (defScope s_is_integer) .none kV_is_integer dc_is_integer pm_is_integer an_is_integer cd_is_integer ct_is_integer), sl_is_integer⟩)
    (c_is_integer : PySem.W.codeIn K cd_is_integer "is_integer" = true)
    (k_is_integer : PySem.W.keepIn K (.ref f_is_integer) = true)
    (a_is_tuple_of : PySem.W.nsIn K mainGlobals "is_tuple_of" = some (some (.ref f_is_tuple_of)))
    (l_is_tuple_of : K.lookup f_is_tuple_of = some ⟨oc_is_tuple_of, od_is_tuple_of, .func (PySem.W.fnOf "is_tuple_of" "is_tuple_of" (defArgs s_is_tuple_of) (defBody s_is_tuple_of) (defScope s_is_tuple_of) .none kV_is_tuple_of dc_is_tuple_of pm_is_tuple_of an_is_tuple_of cd_is_tuple_of ct_is_tuple_of), sl_is_tuple_of⟩)
    (c_is_tuple_of : PySem.W.codeIn K cd_is_tuple_of "is_tuple_of" = true)
    (k_is_tuple_of : PySem.W.keepIn K (.ref f_is_tuple_of) = true)
    (a_is_integers : PySem.W.nsIn K mainGlobals "is_integers" = some (some (.ref f_is_integers)))
    (l_is_integers : K.lookup f_is_integers = some ⟨oc_is_integers, od_is_integers, .func (PySem.W.fnOf "is_integers" "is_integers" (defArgs s_is_integers) (defBody s_is_integers) (defScope s_is_integers) .none kV_is_integers dc_is_integers pm_is_integers an_is_integers (.ref co_is_integers) ct_is_integers), sl_is_integers⟩)
    (c_is_integers : PySem.W.codeIn K (.ref co_is_integers) "is_integers" = true)
    (k_is_integers : PySem.W.keepIn K (.ref f_is_integers) = true)
    (t_is_integers : K.lookup co_is_integers = some ⟨oe_is_integers, oo_is_integers, .fields ov_is_integers, os_is_integers⟩)
    (v_is_integers : (ov_is_integers[11]? : Option Value) = some (.ref ta_is_integers))
    (o_is_integers : K.lookup ta_is_integers = none)
    (r_is_integers : (recsOf q).find? (fun e => e.name == ("is_integers" : Str)) = some dr_is_integers)
    (a_is_place : PySem.W.nsIn K mainGlobals "is_place" = some (some (.ref f_is_place)))
    (l_is_place : K.lookup f_is_place = some ⟨oc_is_place, od_is_place, .func (PySem.W.fnOf "is_place" "is_place" (defArgs s_is_place) (defBody s_is_place) (defScope s_is_place) .none kV_is_place dc_is_place pm_is_place an_is_place cd_is_place ct_is_place), sl_is_place⟩)
    (c_is_place : PySem.W.codeIn K cd_is_place "is_place" = true)
    (k_is_place : PySem.W.keepIn K (.ref f_is_place) = true)
    (a_are_places : PySem.W.nsIn K mainGlobals "are_places" = some (some (.ref f_are_places)))
    (l_are_places : K.lookup f_are_places = some ⟨oc_are_places, od_are_places, .func (PySem.W.fnOf "are_places" "are_places" (defArgs s_are_places) (defBody s_are_places) (defScope s_are_places) .none kV_are_places dc_are_places pm_are_places an_are_places (.ref co_are_places) ct_are_places), sl_are_places⟩)
    (c_are_places : PySem.W.codeIn K (.ref co_are_places) "are_places" = true)
    (k_are_places : PySem.W.keepIn K (.ref f_are_places) = true)
    (t_are_places : K.lookup co_are_places = some ⟨oe_are_places, oo_are_places, .fields ov_are_places, os_are_places⟩)
    (v_are_places : (ov_are_places[11]? : Option Value) = some (.ref ta_are_places))
    (o_are_places : K.lookup ta_are_places = none)
    (r_are_places : (recsOf q).find? (fun e => e.name == ("are_places" : Str)) = some dr_are_places)
    (a_is_relation : PySem.W.nsIn K mainGlobals "is_relation" = some (some (.ref f_is_relation)))
    (l_is_relation : K.lookup f_is_relation = some ⟨oc_is_relation, od_is_relation, .func (PySem.W.fnOf "is_relation" "is_relation" (defArgs s_is_relation) (defBody s_is_relation) (defScope s_is_relation) .none kV_is_relation dc_is_relation pm_is_relation an_is_relation cd_is_relation ct_is_relation), sl_is_relation⟩)
    (c_is_relation : PySem.W.codeIn K cd_is_relation "is_relation" = true)
    (k_is_relation : PySem.W.keepIn K (.ref f_is_relation) = true)
    (a_check_relation : PySem.W.nsIn K mainGlobals "check_relation" = some (some (.ref f_check_relation)))
    (l_check_relation : K.lookup f_check_relation = some ⟨oc_check_relation, od_check_relation, .func (PySem.W.fnOf "check_relation" "check_relation" (defArgs s_check_relation) (defBody s_check_relation) (defScope s_check_relation) .none kV_check_relation dc_check_relation pm_check_relation an_check_relation cd_check_relation ct_check_relation), sl_check_relation⟩)
    (c_check_relation : PySem.W.codeIn K cd_check_relation "check_relation" = true)
    (k_check_relation : PySem.W.keepIn K (.ref f_check_relation) = true)
    (a_check_places : PySem.W.nsIn K mainGlobals "check_places" = some (some (.ref f_check_places)))
    (l_check_places : K.lookup f_check_places = some ⟨oc_check_places, od_check_places, .func (PySem.W.fnOf "check_places" "check_places" (defArgs s_check_places) (defBody s_check_places) (defScope s_check_places) .none kV_check_places dc_check_places pm_check_places an_check_places cd_check_places ct_check_places), sl_check_places⟩)
    (c_check_places : PySem.W.codeIn K cd_check_places "check_places" = true)
    (k_check_places : PySem.W.keepIn K (.ref f_check_places) = true)
    (a_dials_of : PySem.W.nsIn K mainGlobals "dials_of" = some (some (.ref f_dials_of)))
    (l_dials_of : K.lookup f_dials_of = some ⟨oc_dials_of, od_dials_of, .func (PySem.W.fnOf "dials_of" "dials_of" (defArgs s_dials_of) (defBody s_dials_of) (defScope s_dials_of) .none kV_dials_of dc_dials_of pm_dials_of an_dials_of cd_dials_of ct_dials_of), sl_dials_of⟩)
    (c_dials_of : PySem.W.codeIn K cd_dials_of "dials_of" = true)
    (k_dials_of : PySem.W.keepIn K (.ref f_dials_of) = true)
    (a_value : PySem.W.nsIn K mainGlobals "value" = some (some (.ref f_value)))
    (l_value : K.lookup f_value = some ⟨oc_value, od_value, .func (PySem.W.fnOf "value" "value" (defArgs s_value) (defBody s_value) (defScope s_value) .none kV_value dc_value pm_value an_value cd_value ct_value), sl_value⟩)
    (c_value : PySem.W.codeIn K cd_value "value" = true)
    (k_value : PySem.W.keepIn K (.ref f_value) = true)
    (a_holds : PySem.W.nsIn K mainGlobals "holds" = some (some (.ref f_holds)))
    (l_holds : K.lookup f_holds = some ⟨oc_holds, od_holds, .func (PySem.W.fnOf "holds" "holds" (defArgs s_holds) (defBody s_holds) (defScope s_holds) .none kV_holds dc_holds pm_holds an_holds cd_holds ct_holds), sl_holds⟩)
    (c_holds : PySem.W.codeIn K cd_holds "holds" = true)
    (k_holds : PySem.W.keepIn K (.ref f_holds) = true)
    (a__law_deck : PySem.W.nsIn K mainGlobals "_law_deck" = some (some (.ref f__law_deck)))
    (l__law_deck : K.lookup f__law_deck = some ⟨oc__law_deck, od__law_deck, .func (PySem.W.fnOf "_law_deck" "_law_deck" (defArgs s__law_deck) (defBody s__law_deck) (defScope s__law_deck) .none kV__law_deck dc__law_deck pm__law_deck an__law_deck cd__law_deck ct__law_deck), sl__law_deck⟩)
    (c__law_deck : PySem.W.codeIn K cd__law_deck "_law_deck" = true)
    (k__law_deck : PySem.W.keepIn K (.ref f__law_deck) = true)
    (a__law_draw : PySem.W.nsIn K mainGlobals "_law_draw" = some (some (.ref f__law_draw)))
    (l__law_draw : K.lookup f__law_draw = some ⟨oc__law_draw, od__law_draw, .func (PySem.W.fnOf "_law_draw" "_law_draw" (defArgs s__law_draw) (defBody s__law_draw) (defScope s__law_draw) .none kV__law_draw dc__law_draw pm__law_draw an__law_draw cd__law_draw ct__law_draw), sl__law_draw⟩)
    (c__law_draw : PySem.W.codeIn K cd__law_draw "_law_draw" = true)
    (k__law_draw : PySem.W.keepIn K (.ref f__law_draw) = true)
    (a__law_pick : PySem.W.nsIn K mainGlobals "_law_pick" = some (some (.ref f__law_pick)))
    (l__law_pick : K.lookup f__law_pick = some ⟨oc__law_pick, od__law_pick, .func (PySem.W.fnOf "_law_pick" "_law_pick" (defArgs s__law_pick) (defBody s__law_pick) (defScope s__law_pick) .none kV__law_pick dc__law_pick pm__law_pick an__law_pick cd__law_pick ct__law_pick), sl__law_pick⟩)
    (c__law_pick : PySem.W.codeIn K cd__law_pick "_law_pick" = true)
    (k__law_pick : PySem.W.keepIn K (.ref f__law_pick) = true)
    (a__law_is_integer : PySem.W.nsIn K mainGlobals "_law_is_integer" = some (some (.ref f__law_is_integer)))
    (l__law_is_integer : K.lookup f__law_is_integer = some ⟨oc__law_is_integer, od__law_is_integer, .func (PySem.W.fnOf "_law_is_integer" "_law_is_integer" (defArgs s__law_is_integer) (defBody s__law_is_integer) (defScope s__law_is_integer) .none kV__law_is_integer dc__law_is_integer pm__law_is_integer an__law_is_integer cd__law_is_integer ct__law_is_integer), sl__law_is_integer⟩)
    (c__law_is_integer : PySem.W.codeIn K cd__law_is_integer "_law_is_integer" = true)
    (k__law_is_integer : PySem.W.keepIn K (.ref f__law_is_integer) = true)
    (a__law_gcd : PySem.W.nsIn K mainGlobals "_law_gcd" = some (some (.ref f__law_gcd)))
    (l__law_gcd : K.lookup f__law_gcd = some ⟨oc__law_gcd, od__law_gcd, .func (PySem.W.fnOf "_law_gcd" "_law_gcd" (defArgs s__law_gcd) (defBody s__law_gcd) (defScope s__law_gcd) .none kV__law_gcd dc__law_gcd pm__law_gcd an__law_gcd cd__law_gcd ct__law_gcd), sl__law_gcd⟩)
    (c__law_gcd : PySem.W.codeIn K cd__law_gcd "_law_gcd" = true)
    (k__law_gcd : PySem.W.keepIn K (.ref f__law_gcd) = true)
    (a__law_short : PySem.W.nsIn K mainGlobals "_law_short" = some (some (.ref f__law_short)))
    (l__law_short : K.lookup f__law_short = some ⟨oc__law_short, od__law_short, .func (PySem.W.fnOf "_law_short" "_law_short" (defArgs s__law_short) (defBody s__law_short) (defScope s__law_short) .none kV__law_short dc__law_short pm__law_short an__law_short cd__law_short ct__law_short), sl__law_short⟩)
    (c__law_short : PySem.W.codeIn K cd__law_short "_law_short" = true)
    (k__law_short : PySem.W.keepIn K (.ref f__law_short) = true)
    (a__law_is_place : PySem.W.nsIn K mainGlobals "_law_is_place" = some (some (.ref f__law_is_place)))
    (l__law_is_place : K.lookup f__law_is_place = some ⟨oc__law_is_place, od__law_is_place, .func (PySem.W.fnOf "_law_is_place" "_law_is_place" (defArgs s__law_is_place) (defBody s__law_is_place) (defScope s__law_is_place) .none kV__law_is_place dc__law_is_place pm__law_is_place an__law_is_place cd__law_is_place ct__law_is_place), sl__law_is_place⟩)
    (c__law_is_place : PySem.W.codeIn K cd__law_is_place "_law_is_place" = true)
    (k__law_is_place : PySem.W.keepIn K (.ref f__law_is_place) = true)
    (a__law_place : PySem.W.nsIn K mainGlobals "_law_place" = some (some (.ref f__law_place)))
    (l__law_place : K.lookup f__law_place = some ⟨oc__law_place, od__law_place, .func (PySem.W.fnOf "_law_place" "_law_place" (defArgs s__law_place) (defBody s__law_place) (defScope s__law_place) .none kV__law_place dc__law_place pm__law_place an__law_place cd__law_place ct__law_place), sl__law_place⟩)
    (c__law_place : PySem.W.codeIn K cd__law_place "_law_place" = true)
    (k__law_place : PySem.W.keepIn K (.ref f__law_place) = true)
    (a__law_is_relation : PySem.W.nsIn K mainGlobals "_law_is_relation" = some (some (.ref f__law_is_relation)))
    (l__law_is_relation : K.lookup f__law_is_relation = some ⟨oc__law_is_relation, od__law_is_relation, .func (PySem.W.fnOf "_law_is_relation" "_law_is_relation" (defArgs s__law_is_relation) (defBody s__law_is_relation) (defScope s__law_is_relation) .none kV__law_is_relation dc__law_is_relation pm__law_is_relation an__law_is_relation cd__law_is_relation ct__law_is_relation), sl__law_is_relation⟩)
    (c__law_is_relation : PySem.W.codeIn K cd__law_is_relation "_law_is_relation" = true)
    (k__law_is_relation : PySem.W.keepIn K (.ref f__law_is_relation) = true)
    (a__law_value : PySem.W.nsIn K mainGlobals "_law_value" = some (some (.ref f__law_value)))
    (l__law_value : K.lookup f__law_value = some ⟨oc__law_value, od__law_value, .func (PySem.W.fnOf "_law_value" "_law_value" (defArgs s__law_value) (defBody s__law_value) (defScope s__law_value) .none kV__law_value dc__law_value pm__law_value an__law_value cd__law_value ct__law_value), sl__law_value⟩)
    (c__law_value : PySem.W.codeIn K cd__law_value "_law_value" = true)
    (k__law_value : PySem.W.keepIn K (.ref f__law_value) = true)
    (a__law_signed : PySem.W.nsIn K mainGlobals "_law_signed" = some (some (.ref f__law_signed)))
    (l__law_signed : K.lookup f__law_signed = some ⟨oc__law_signed, od__law_signed, .func (PySem.W.fnOf "_law_signed" "_law_signed" (defArgs s__law_signed) (defBody s__law_signed) (defScope s__law_signed) .none kV__law_signed dc__law_signed pm__law_signed an__law_signed cd__law_signed ct__law_signed), sl__law_signed⟩)
    (c__law_signed : PySem.W.codeIn K cd__law_signed "_law_signed" = true)
    (k__law_signed : PySem.W.keepIn K (.ref f__law_signed) = true)
    (a__law_drawn_place : PySem.W.nsIn K mainGlobals "_law_drawn_place" = some (some (.ref f__law_drawn_place)))
    (l__law_drawn_place : K.lookup f__law_drawn_place = some ⟨oc__law_drawn_place, od__law_drawn_place, .func (PySem.W.fnOf "_law_drawn_place" "_law_drawn_place" (defArgs s__law_drawn_place) (defBody s__law_drawn_place) (defScope s__law_drawn_place) .none kV__law_drawn_place dc__law_drawn_place pm__law_drawn_place an__law_drawn_place cd__law_drawn_place ct__law_drawn_place), sl__law_drawn_place⟩)
    (c__law_drawn_place : PySem.W.codeIn K cd__law_drawn_place "_law_drawn_place" = true)
    (k__law_drawn_place : PySem.W.keepIn K (.ref f__law_drawn_place) = true)
    (a__law_items : PySem.W.nsIn K mainGlobals "_law_items" = some (some (.ref f__law_items)))
    (l__law_items : K.lookup f__law_items = some ⟨oc__law_items, od__law_items, .func (PySem.W.fnOf "_law_items" "_law_items" (defArgs s__law_items) (defBody s__law_items) (defScope s__law_items) .none kV__law_items dc__law_items pm__law_items an__law_items cd__law_items ct__law_items), sl__law_items⟩)
    (c__law_items : PySem.W.codeIn K cd__law_items "_law_items" = true)
    (k__law_items : PySem.W.keepIn K (.ref f__law_items) = true)
    (a__law_told : PySem.W.nsIn K mainGlobals "_law_told" = some (some (.ref f__law_told)))
    (l__law_told : K.lookup f__law_told = some ⟨oc__law_told, od__law_told, .func (PySem.W.fnOf "_law_told" "_law_told" (defArgs s__law_told) (defBody s__law_told) (defScope s__law_told) .none kV__law_told dc__law_told pm__law_told an__law_told cd__law_told ct__law_told), sl__law_told⟩)
    (c__law_told : PySem.W.codeIn K cd__law_told "_law_told" = true)
    (k__law_told : PySem.W.keepIn K (.ref f__law_told) = true)
    (a__law_bent_items : PySem.W.nsIn K mainGlobals "_law_bent_items" = some (some (.ref f__law_bent_items)))
    (l__law_bent_items : K.lookup f__law_bent_items = some ⟨oc__law_bent_items, od__law_bent_items, .func (PySem.W.fnOf "_law_bent_items" "_law_bent_items" (defArgs s__law_bent_items) (defBody s__law_bent_items) (defScope s__law_bent_items) .none kV__law_bent_items dc__law_bent_items pm__law_bent_items an__law_bent_items cd__law_bent_items ct__law_bent_items), sl__law_bent_items⟩)
    (c__law_bent_items : PySem.W.codeIn K cd__law_bent_items "_law_bent_items" = true)
    (k__law_bent_items : PySem.W.keepIn K (.ref f__law_bent_items) = true)
    (a__law_bent_places : PySem.W.nsIn K mainGlobals "_law_bent_places" = some (some (.ref f__law_bent_places)))
    (l__law_bent_places : K.lookup f__law_bent_places = some ⟨oc__law_bent_places, od__law_bent_places, .func (PySem.W.fnOf "_law_bent_places" "_law_bent_places" (defArgs s__law_bent_places) (defBody s__law_bent_places) (defScope s__law_bent_places) .none kV__law_bent_places dc__law_bent_places pm__law_bent_places an__law_bent_places cd__law_bent_places ct__law_bent_places), sl__law_bent_places⟩)
    (c__law_bent_places : PySem.W.codeIn K cd__law_bent_places "_law_bent_places" = true)
    (k__law_bent_places : PySem.W.keepIn K (.ref f__law_bent_places) = true)
    (a__law_are_places : PySem.W.nsIn K mainGlobals "_law_are_places" = some (some (.ref f__law_are_places)))
    (l__law_are_places : K.lookup f__law_are_places = some ⟨oc__law_are_places, od__law_are_places, .func (PySem.W.fnOf "_law_are_places" "_law_are_places" (defArgs s__law_are_places) (defBody s__law_are_places) (defScope s__law_are_places) .none kV__law_are_places dc__law_are_places pm__law_are_places an__law_are_places cd__law_are_places ct__law_are_places), sl__law_are_places⟩)
    (c__law_are_places : PySem.W.codeIn K cd__law_are_places "_law_are_places" = true)
    (k__law_are_places : PySem.W.keepIn K (.ref f__law_are_places) = true)
    (a_law : PySem.W.nsIn K mainGlobals "law" = some (some (.ref f_law)))
    (l_law : K.lookup f_law = some ⟨oc_law, od_law, .func (PySem.W.fnOf "law" "law" (defArgs s_law) (defBody s_law) (defScope s_law) .none kV_law dc_law pm_law an_law cd_law ct_law), sl_law⟩)
    (c_law : PySem.W.codeIn K cd_law "law" = true)
    (k_law : PySem.W.keepIn K (.ref f_law) = true)
    (z_gcd : PySem.W.nsIn K mainGlobals "gcd" = some (some (.builtin "math.gcd")))
    (z_len : PySem.W.nsIn K mainGlobals "len" = some none)
    (z_tuple : PySem.W.nsIn K mainGlobals "tuple" = some none)
    (z_range : PySem.W.nsIn K mainGlobals "range" = some none)
    (z_isinstance : PySem.W.nsIn K mainGlobals "isinstance" = some none)
    (z_int : PySem.W.nsIn K mainGlobals "int" = some none)
    (z_bool : PySem.W.nsIn K mainGlobals "bool" = some none)
    (z_all : PySem.W.nsIn K mainGlobals "all" = some none)
    (z_max : PySem.W.nsIn K mainGlobals "max" = some none)
    (z_abs : PySem.W.nsIn K mainGlobals "abs" = some none)
    (z_list : PySem.W.nsIn K mainGlobals "list" = some none)
    (z_str : PySem.W.nsIn K mainGlobals "str" = some none)
    (z_repr : PySem.W.nsIn K mainGlobals "repr" = some none)
    (a_FAR : PySem.W.nsIn K mainGlobals "FAR" = some (some (.ref p_FAR)))
    (l_FAR : K.lookup p_FAR = some ⟨.type "tuple", od_FAR, .seq #[.int 1 t0_FAR, .int 0 t1_FAR] n_FAR, sl_FAR⟩)
    (a_LENGTHS : PySem.W.nsIn K mainGlobals "LENGTHS" = some (some (.ref p_LENGTHS)))
    (l_LENGTHS : K.lookup p_LENGTHS = some ⟨.type "tuple", od_LENGTHS, .seq #[.int 2 t0_LENGTHS, .int 4 t1_LENGTHS, .int 8 t2_LENGTHS, .int 16 t3_LENGTHS, .int 32 t4_LENGTHS, .int 64 t5_LENGTHS] n_LENGTHS, sl_LENGTHS⟩)
    (ga_BadPlaces : PySem.W.nsIn K mainGlobals "BadPlaces" = some (some (.ref C_BadPlaces)))
    (ka_BadPlaces : PySem.W.keepIn K (.ref C_BadPlaces) = true)
    (qi_BadPlaces : PySem.W.excInitIn K C_BadPlaces [.type "Exception", .type "BaseException", .type "object"] "Exception.__new__" = true)
    (ov_BadPlaces : PySem.W.excOver K C_BadPlaces [.type "Exception", .type "BaseException", .type "object"] = true)
    (sa_BadPlaces : PySem.W.findIn K (.ref C_BadPlaces) "__setattr__" = some (some (.builtin "object.__setattr__")))
    (gg_BadPlaces : PySem.W.findIn K (.ref C_BadPlaces) "__getattribute__" = some (some (.builtin "BaseException.__getattribute__")))
    (gn_BadPlaces : PySem.W.findIn K (.ref C_BadPlaces) "__getattr__" = some none)
    (nn_BadPlaces : PySem.W.findIn K (.ref C_BadPlaces) "thing" = some none)
    (iC_BadPlaces : PySem.W.findIn K (.ref C_BadPlaces) "__init__" = some (some (.ref fI_BadPlaces)))
    (tf_BadPlaces : PySem.W.typeIn K (.ref fI_BadPlaces) = some (.type "function"))
    (ba_BadPlaces : PySem.W.subIn K (.ref C_BadPlaces) (.type "BaseException") = some true)
    (ta_BadPlaces : PySem.W.typeIn K (.ref C_BadPlaces) = some (.type "type"))
    (hd_BadPlaces : PySem.W.hasDictIn K C_BadPlaces = true)
    (ss_BadPlaces : PySem.W.subIn K (.ref C_BadPlaces) (.ref C_BadPlaces) = some true)
    (ia_BadPlaces : PySem.W.isClsIn K C_BadPlaces = true)
    (lf_BadPlaces : K.lookup fI_BadPlaces = some ⟨oi_BadPlaces, xi_BadPlaces, .func (PySem.W.fnOf "__init__" "BadPlaces.__init__" (PySem.TH.iA p1_BadPlaces p2_BadPlaces) (PySem.TH.iB q1_BadPlaces q2_BadPlaces q3_BadPlaces q4_BadPlaces) PySem.TH.iS .none .none di_BadPlaces pi_BadPlaces ai_BadPlaces vi_BadPlaces ti_BadPlaces), si_BadPlaces⟩)
    (cf_BadPlaces : PySem.W.codeIn K vi_BadPlaces "BadPlaces.__init__" = true)
    (ga_BadRelation : PySem.W.nsIn K mainGlobals "BadRelation" = some (some (.ref C_BadRelation)))
    (ka_BadRelation : PySem.W.keepIn K (.ref C_BadRelation) = true)
    (qi_BadRelation : PySem.W.excInitIn K C_BadRelation [.type "Exception", .type "BaseException", .type "object"] "Exception.__new__" = true)
    (ov_BadRelation : PySem.W.excOver K C_BadRelation [.type "Exception", .type "BaseException", .type "object"] = true)
    (sa_BadRelation : PySem.W.findIn K (.ref C_BadRelation) "__setattr__" = some (some (.builtin "object.__setattr__")))
    (gg_BadRelation : PySem.W.findIn K (.ref C_BadRelation) "__getattribute__" = some (some (.builtin "BaseException.__getattribute__")))
    (gn_BadRelation : PySem.W.findIn K (.ref C_BadRelation) "__getattr__" = some none)
    (nn_BadRelation : PySem.W.findIn K (.ref C_BadRelation) "thing" = some none)
    (iC_BadRelation : PySem.W.findIn K (.ref C_BadRelation) "__init__" = some (some (.ref fI_BadRelation)))
    (tf_BadRelation : PySem.W.typeIn K (.ref fI_BadRelation) = some (.type "function"))
    (ba_BadRelation : PySem.W.subIn K (.ref C_BadRelation) (.type "BaseException") = some true)
    (ta_BadRelation : PySem.W.typeIn K (.ref C_BadRelation) = some (.type "type"))
    (hd_BadRelation : PySem.W.hasDictIn K C_BadRelation = true)
    (ss_BadRelation : PySem.W.subIn K (.ref C_BadRelation) (.ref C_BadRelation) = some true)
    (ia_BadRelation : PySem.W.isClsIn K C_BadRelation = true)
    (lf_BadRelation : K.lookup fI_BadRelation = some ⟨oi_BadRelation, xi_BadRelation, .func (PySem.W.fnOf "__init__" "BadRelation.__init__" (PySem.TH.iA p1_BadRelation p2_BadRelation) (PySem.TH.iB q1_BadRelation q2_BadRelation q3_BadRelation q4_BadRelation) PySem.TH.iS .none .none di_BadRelation pi_BadRelation ai_BadRelation vi_BadRelation ti_BadRelation), si_BadRelation⟩)
    (cf_BadRelation : PySem.W.codeIn K vi_BadRelation "BadRelation.__init__" = true)
    (ga_RulerError : PySem.W.nsIn K mainGlobals "RulerError" = some (some (.ref C_RulerError)))
    (ka_RulerError : PySem.W.keepIn K (.ref C_RulerError) = true)
    (xa_RulerError : PySem.W.excIn K C_RulerError [.type "Exception", .type "BaseException", .type "object"] "Exception.__new__" = true)
    (ba_RulerError : PySem.W.subIn K (.ref C_RulerError) (.type "BaseException") = some true)
    (ta_RulerError : PySem.W.typeIn K (.ref C_RulerError) = some (.type "type"))
    (ia_RulerError : PySem.W.isClsIn K C_RulerError = true)
    (sa_RulerError : PySem.W.subIn K (.ref C_RulerError) (.ref C_RulerError) = some true)
    (e1_BadPlaces : PySem.W.findIn K (.ref C_BadPlaces) "__getattribute__" = some (some (.builtin "BaseException.__getattribute__")))
    (e2_BadPlaces : PySem.W.findIn K (.ref C_BadPlaces) "__getattr__" = some none)
    (e3_BadPlaces : PySem.W.hasDictIn K C_BadPlaces = true)
    (e4_BadPlaces : PySem.W.findIn K (.ref C_BadPlaces) "__class__" = some (some (.builtin "object.__class__")))
    (e5_BadPlaces : PySem.W.specialIn K (.builtin "object.__class__") "__get__" = some (some (.builtin "getset_descriptor.__get__")))
    (e6_BadPlaces : PySem.W.takesIn K (.builtin "object.__class__") = some true)
    (e7_BadPlaces : PySem.W.mroIn K C_BadPlaces (.type "object") = some true)
    (e8_BadPlaces : PySem.W.subIn K (.ref C_BadPlaces) (.ref C_RulerError) = some true)
    (e1_BadRelation : PySem.W.findIn K (.ref C_BadRelation) "__getattribute__" = some (some (.builtin "BaseException.__getattribute__")))
    (e2_BadRelation : PySem.W.findIn K (.ref C_BadRelation) "__getattr__" = some none)
    (e3_BadRelation : PySem.W.hasDictIn K C_BadRelation = true)
    (e4_BadRelation : PySem.W.findIn K (.ref C_BadRelation) "__class__" = some (some (.builtin "object.__class__")))
    (e5_BadRelation : PySem.W.specialIn K (.builtin "object.__class__") "__get__" = some (some (.builtin "getset_descriptor.__get__")))
    (e6_BadRelation : PySem.W.takesIn K (.builtin "object.__class__") = some true)
    (e7_BadRelation : PySem.W.mroIn K C_BadRelation (.type "object") = some true)
    (e8_BadRelation : PySem.W.subIn K (.ref C_BadRelation) (.ref C_RulerError) = some true)
    (u_BadPlaces_BadRelation : PySem.W.subIn K (.ref C_BadPlaces) (.ref C_BadRelation) = some false)
    (u_BadRelation_BadPlaces : PySem.W.subIn K (.ref C_BadRelation) (.ref C_BadPlaces) = some false) :
    LawHd l w K 11 63 "_law_script" mg fa h := by
  have e := hfa.symm.trans (PySem.W.mg_of X hns0 a_law)
  cases e
  have F_common_divisor := fun_mk (st := s_common_divisor) l_common_divisor c_common_divisor k_common_divisor
  have b_common_divisor := F_common_divisor.binds (ps := ["numbers"]) fun _ _ _ _ _ _ us hl => match us, hl with | [_], _ => rfl
  have F_sign_of_first := fun_mk (st := s_sign_of_first) l_sign_of_first c_sign_of_first k_sign_of_first
  have b_sign_of_first := F_sign_of_first.binds (ps := ["numbers"]) fun _ _ _ _ _ _ us hl => match us, hl with | [_], _ => rfl
  have F_is_short := fun_mk (st := s_is_short) l_is_short c_is_short k_is_short
  have b_is_short := F_is_short.binds (ps := ["numbers"]) fun _ _ _ _ _ _ us hl => match us, hl with | [_], _ => rfl
  have F_count_dials := fun_mk (st := s_count_dials) l_count_dials c_count_dials k_count_dials
  have b_count_dials := F_count_dials.binds (ps := ["items"]) fun _ _ _ _ _ _ us hl => match us, hl with | [_], _ => rfl
  have F_bit_span := fun_mk (st := s_bit_span) l_bit_span c_bit_span k_bit_span
  have b_bit_span := F_bit_span.binds (ps := ["items", "dial"]) fun _ _ _ _ _ _ us hl => match us, hl with | [_, _], _ => rfl
  have F_with_place : FunC K "with_place" "with_place" s_with_place f_with_place _ co_with_place := ⟨⟨oc_with_place, od_with_place, kV_with_place, dc_with_place, pm_with_place, an_with_place, ct_with_place, sl_with_place, rfl, l_with_place, c_with_place⟩, k_with_place⟩
  have b_with_place := F_with_place.fun.binds (ps := ["items", "dial", "place"]) fun _ _ _ _ _ _ us hl => match us, hl with | [_, _, _], _ => rfl
  have g_with_place := tf "with_place" dr_with_place co_with_place ta_with_place r_with_place (tab_by a_with_place l_with_place rfl t_with_place v_with_place)
  have F_is_integer := fun_mk (st := s_is_integer) l_is_integer c_is_integer k_is_integer
  have b_is_integer := F_is_integer.binds (ps := ["thing"]) fun _ _ _ _ _ _ us hl => match us, hl with | [_], _ => rfl
  have F_is_tuple_of := fun_mk (st := s_is_tuple_of) l_is_tuple_of c_is_tuple_of k_is_tuple_of
  have b_is_tuple_of := F_is_tuple_of.binds (ps := ["thing", "many"]) fun _ _ _ _ _ _ us hl => match us, hl with | [_, _], _ => rfl
  have F_is_integers : FunC K "is_integers" "is_integers" s_is_integers f_is_integers _ co_is_integers := ⟨⟨oc_is_integers, od_is_integers, kV_is_integers, dc_is_integers, pm_is_integers, an_is_integers, ct_is_integers, sl_is_integers, rfl, l_is_integers, c_is_integers⟩, k_is_integers⟩
  have b_is_integers := F_is_integers.fun.binds (ps := ["thing", "many"]) fun _ _ _ _ _ _ us hl => match us, hl with | [_, _], _ => rfl
  have g_is_integers := tf "is_integers" dr_is_integers co_is_integers ta_is_integers r_is_integers (tab_by a_is_integers l_is_integers rfl t_is_integers v_is_integers)
  have F_is_place := fun_mk (st := s_is_place) l_is_place c_is_place k_is_place
  have b_is_place := F_is_place.binds (ps := ["thing"]) fun _ _ _ _ _ _ us hl => match us, hl with | [_], _ => rfl
  have F_are_places : FunC K "are_places" "are_places" s_are_places f_are_places _ co_are_places := ⟨⟨oc_are_places, od_are_places, kV_are_places, dc_are_places, pm_are_places, an_are_places, ct_are_places, sl_are_places, rfl, l_are_places, c_are_places⟩, k_are_places⟩
  have b_are_places := F_are_places.fun.binds (ps := ["thing", "many"]) fun _ _ _ _ _ _ us hl => match us, hl with | [_, _], _ => rfl
  have g_are_places := tf "are_places" dr_are_places co_are_places ta_are_places r_are_places (tab_by a_are_places l_are_places rfl t_are_places v_are_places)
  have F_is_relation := fun_mk (st := s_is_relation) l_is_relation c_is_relation k_is_relation
  have b_is_relation := F_is_relation.binds (ps := ["thing"]) fun _ _ _ _ _ _ us hl => match us, hl with | [_], _ => rfl
  have F_check_relation := fun_mk (st := s_check_relation) l_check_relation c_check_relation k_check_relation
  have b_check_relation := F_check_relation.binds (ps := ["thing"]) fun _ _ _ _ _ _ us hl => match us, hl with | [_], _ => rfl
  have F_check_places := fun_mk (st := s_check_places) l_check_places c_check_places k_check_places
  have b_check_places := F_check_places.binds (ps := ["places", "many"]) fun _ _ _ _ _ _ us hl => match us, hl with | [_, _], _ => rfl
  have F_dials_of := fun_mk (st := s_dials_of) l_dials_of c_dials_of k_dials_of
  have b_dials_of := F_dials_of.binds (ps := ["relation"]) fun _ _ _ _ _ _ us hl => match us, hl with | [_], _ => rfl
  have F_value := fun_mk (st := s_value) l_value c_value k_value
  have b_value := F_value.binds (ps := ["relation", "places"]) fun _ _ _ _ _ _ us hl => match us, hl with | [_, _], _ => rfl
  have F_holds := fun_mk (st := s_holds) l_holds c_holds k_holds
  have b_holds := F_holds.binds (ps := ["relation", "places"]) fun _ _ _ _ _ _ us hl => match us, hl with | [_, _], _ => rfl
  have F__law_deck := fun_mk (st := s__law_deck) l__law_deck c__law_deck k__law_deck
  have b__law_deck := F__law_deck.binds (ps := ["_law_script"]) fun _ _ _ _ _ _ us hl => match us, hl with | [_], _ => rfl
  have F__law_draw := fun_mk (st := s__law_draw) l__law_draw c__law_draw k__law_draw
  have b__law_draw := F__law_draw.binds (ps := ["_law_deck_here", "_law_limit"]) fun _ _ _ _ _ _ us hl => match us, hl with | [_, _], _ => rfl
  have F__law_pick := fun_mk (st := s__law_pick) l__law_pick c__law_pick k__law_pick
  have b__law_pick := F__law_pick.binds (ps := ["_law_deck_here", "_law_some"]) fun _ _ _ _ _ _ us hl => match us, hl with | [_, _], _ => rfl
  have F__law_is_integer := fun_mk (st := s__law_is_integer) l__law_is_integer c__law_is_integer k__law_is_integer
  have b__law_is_integer := F__law_is_integer.binds (ps := ["_law_thing"]) fun _ _ _ _ _ _ us hl => match us, hl with | [_], _ => rfl
  have F__law_gcd := fun_mk (st := s__law_gcd) l__law_gcd c__law_gcd k__law_gcd
  have b__law_gcd := F__law_gcd.binds (ps := ["_law_one", "_law_other"]) fun _ _ _ _ _ _ us hl => match us, hl with | [_, _], _ => rfl
  have F__law_short := fun_mk (st := s__law_short) l__law_short c__law_short k__law_short
  have b__law_short := F__law_short.binds (ps := ["_law_numbers"]) fun _ _ _ _ _ _ us hl => match us, hl with | [_], _ => rfl
  have F__law_is_place := fun_mk (st := s__law_is_place) l__law_is_place c__law_is_place k__law_is_place
  have b__law_is_place := F__law_is_place.binds (ps := ["_law_thing"]) fun _ _ _ _ _ _ us hl => match us, hl with | [_], _ => rfl
  have F__law_place := fun_mk (st := s__law_place) l__law_place c__law_place k__law_place
  have b__law_place := F__law_place.binds (ps := ["_law_one", "_law_other"]) fun _ _ _ _ _ _ us hl => match us, hl with | [_, _], _ => rfl
  have F__law_is_relation := fun_mk (st := s__law_is_relation) l__law_is_relation c__law_is_relation k__law_is_relation
  have b__law_is_relation := F__law_is_relation.binds (ps := ["_law_thing"]) fun _ _ _ _ _ _ us hl => match us, hl with | [_], _ => rfl
  have F__law_value := fun_mk (st := s__law_value) l__law_value c__law_value k__law_value
  have b__law_value := F__law_value.binds (ps := ["_law_items_here", "_law_places"]) fun _ _ _ _ _ _ us hl => match us, hl with | [_, _], _ => rfl
  have F__law_signed := fun_mk (st := s__law_signed) l__law_signed c__law_signed k__law_signed
  have b__law_signed := F__law_signed.binds (ps := ["_law_deck_here", "_law_limit"]) fun _ _ _ _ _ _ us hl => match us, hl with | [_, _], _ => rfl
  have F__law_drawn_place := fun_mk (st := s__law_drawn_place) l__law_drawn_place c__law_drawn_place k__law_drawn_place
  have b__law_drawn_place := F__law_drawn_place.binds (ps := ["_law_deck_here"]) fun _ _ _ _ _ _ us hl => match us, hl with | [_], _ => rfl
  have F__law_items := fun_mk (st := s__law_items) l__law_items c__law_items k__law_items
  have b__law_items := F__law_items.binds (ps := ["_law_deck_here", "_law_n"]) fun _ _ _ _ _ _ us hl => match us, hl with | [_, _], _ => rfl
  have F__law_told := fun_mk (st := s__law_told) l__law_told c__law_told k__law_told
  have b__law_told := F__law_told.binds (ps := ["_law_way", "_law_relation", "_law_places"]) fun _ _ _ _ _ _ us hl => match us, hl with | [_, _, _], _ => rfl
  have F__law_bent_items := fun_mk (st := s__law_bent_items) l__law_bent_items c__law_bent_items k__law_bent_items
  have b__law_bent_items := F__law_bent_items.binds (ps := ["_law_deck_here", "_law_items_here"]) fun _ _ _ _ _ _ us hl => match us, hl with | [_, _], _ => rfl
  have F__law_bent_places := fun_mk (st := s__law_bent_places) l__law_bent_places c__law_bent_places k__law_bent_places
  have b__law_bent_places := F__law_bent_places.binds (ps := ["_law_deck_here", "_law_places"]) fun _ _ _ _ _ _ us hl => match us, hl with | [_, _], _ => rfl
  have F__law_are_places := fun_mk (st := s__law_are_places) l__law_are_places c__law_are_places k__law_are_places
  have b__law_are_places := F__law_are_places.binds (ps := ["_law_n", "_law_thing"]) fun _ _ _ _ _ _ us hl => match us, hl with | [_, _], _ => rfl
  have F_law := fun_mk (st := s_law) l_law c_law k_law
  have b_law := F_law.binds (ps := ["_law_script"]) fun _ _ _ _ _ _ us hl => match us, hl with | [_], _ => rfl
  refine ⟨PySem.W.fnOf "law" "law" (defArgs s_law) (defBody s_law) (defScope s_law) .none kV_law dc_law pm_law an_law cd_law ct_law, [ta_with_place, ta_is_integers, ta_are_places], [(co_with_place, ta_with_place), (co_is_integers, ta_is_integers), (co_are_places, ta_are_places)], spLaw K [ta_with_place, ta_is_integers, ta_are_places] 63, (fun b hb => by
    simp only [List.mem_cons, List.not_mem_nil, or_false] at hb
    rcases hb with rfl | rfl | rfl
    · exact g_with_place.2
    · exact g_is_integers.2
    · exact g_are_places.2), (fun b hb => by
    simp only [List.mem_cons, List.not_mem_nil, or_false] at hb
    rcases hb with rfl | rfl | rfl
    · exact o_with_place
    · exact o_is_integers
    · exact o_are_places), (fun b hb => by
    simp only [List.mem_cons, List.not_mem_nil, or_false] at hb
    rcases hb with rfl | rfl | rfl
    · exact ⟨by simp, g_with_place.1⟩
    · exact ⟨by simp, g_is_integers.1⟩
    · exact ⟨by simp, g_are_places.1⟩), (fun b hb => by
    simp only [List.mem_cons, List.not_mem_nil, or_false] at hb
    rcases hb with rfl | rfl | rfl
    · exact ⟨(co_with_place, _), by simp, rfl⟩
    · exact ⟨(co_is_integers, _), by simp, rfl⟩
    · exact ⟨(co_are_places, _), by simp, rfl⟩), fun s u => .of_eq rfl, fun H a ns hl _ ht hs => ⟨a, ns, rfl, hs, hl, fun b hb => ⟨#[], ht b hb, tri_nil⟩, fun _ => rfl⟩, fun base kin nsb sy TB => ?_⟩
  have tx : Tx base mg := { z_gcd := PySem.W.mg_of X hns0 z_gcd, z_len := PySem.W.mg_none_of X hns0 z_len, z_tuple := PySem.W.mg_none_of X hns0 z_tuple, z_range := PySem.W.mg_none_of X hns0 z_range, z_isinstance := PySem.W.mg_none_of X hns0 z_isinstance, z_int := PySem.W.mg_none_of X hns0 z_int, z_bool := PySem.W.mg_none_of X hns0 z_bool, z_all := PySem.W.mg_none_of X hns0 z_all, z_max := PySem.W.mg_none_of X hns0 z_max, z_abs := PySem.W.mg_none_of X hns0 z_abs, z_list := PySem.W.mg_none_of X hns0 z_list, z_str := PySem.W.mg_none_of X hns0 z_str, z_repr := PySem.W.mg_none_of X hns0 z_repr, sys := sy }
  have c_BadPlaces : PySem.TH.Txt K mg "BadPlaces" "BadPlaces.__init__" C_BadPlaces fI_BadPlaces := ⟨PySem.W.mg_of X hns0 ga_BadPlaces, ka_BadPlaces, qi_BadPlaces, ov_BadPlaces, sa_BadPlaces, gg_BadPlaces, gn_BadPlaces, nn_BadPlaces, iC_BadPlaces, tf_BadPlaces, ba_BadPlaces, ta_BadPlaces, hd_BadPlaces, ss_BadPlaces, ia_BadPlaces, _, _, _, _, _, _, _, _, _, _, _, _, _, _, lf_BadPlaces, cf_BadPlaces⟩
  have c_BadRelation : PySem.TH.Txt K mg "BadRelation" "BadRelation.__init__" C_BadRelation fI_BadRelation := ⟨PySem.W.mg_of X hns0 ga_BadRelation, ka_BadRelation, qi_BadRelation, ov_BadRelation, sa_BadRelation, gg_BadRelation, gn_BadRelation, nn_BadRelation, iC_BadRelation, tf_BadRelation, ba_BadRelation, ta_BadRelation, hd_BadRelation, ss_BadRelation, ia_BadRelation, _, _, _, _, _, _, _, _, _, _, _, _, _, _, lf_BadRelation, cf_BadRelation⟩
  have c_RulerError : XCls K mg "RulerError" C_RulerError := ⟨PySem.W.mg_of X hns0 ga_RulerError, ka_RulerError, xa_RulerError, ba_RulerError, ta_RulerError, ia_RulerError, sa_RulerError⟩
  have y_FAR : KTup K mg "FAR" p_FAR [1, 0] := ⟨PySem.W.mg_of X hns0 a_FAR, _, _, _, l_FAR, rfl, rfl, by show 2 ≤ sizeLine; decide, (.cons ⟨_, rfl⟩ (.cons ⟨_, rfl⟩ .nil))⟩
  have y_LENGTHS : KTup K mg "LENGTHS" p_LENGTHS [2, 4, 8, 16, 32, 64] := ⟨PySem.W.mg_of X hns0 a_LENGTHS, _, _, _, l_LENGTHS, rfl, rfl, by show 6 ≤ sizeLine; decide, (.cons ⟨_, rfl⟩ (.cons ⟨_, rfl⟩ (.cons ⟨_, rfl⟩ (.cons ⟨_, rfl⟩ (.cons ⟨_, rfl⟩ (.cons ⟨_, rfl⟩ .nil))))))⟩
  have e_BadPlaces : ExcC K C_BadPlaces := ⟨e1_BadPlaces, e2_BadPlaces, ba_BadPlaces, e3_BadPlaces, e4_BadPlaces, e5_BadPlaces, e6_BadPlaces, e7_BadPlaces⟩
  have e_BadRelation : ExcC K C_BadRelation := ⟨e1_BadRelation, e2_BadRelation, ba_BadRelation, e3_BadRelation, e4_BadRelation, e5_BadRelation, e6_BadRelation, e7_BadRelation⟩
  have G_common_divisor : FnG l.prog w K mg base CX0 1 f_common_divisor _ ["numbers"] (spF K [ta_with_place, ta_is_integers, ta_are_places] 1 G.f_common_divisor) := ok_common_divisor (P := l.prog) (w := w) (base := base) (T := [ta_with_place, ta_is_integers, ta_are_places]) tx F_common_divisor
  have C_common_divisor : Cg l.prog w K mg base 1 "common_divisor" ["numbers"] (spF K [ta_with_place, ta_is_integers, ta_are_places] 1 G.f_common_divisor) := ⟨f_common_divisor, _, G_common_divisor, PySem.W.mg_of X hns0 a_common_divisor, k_common_divisor, b_common_divisor⟩
  have G_sign_of_first : FnG l.prog w K mg base CX0 1 f_sign_of_first _ ["numbers"] (spF K [ta_with_place, ta_is_integers, ta_are_places] 1 G.f_sign_of_first) := ok_sign_of_first (P := l.prog) (w := w) (base := base) (T := [ta_with_place, ta_is_integers, ta_are_places]) tx F_sign_of_first
  have C_sign_of_first : Cg l.prog w K mg base 1 "sign_of_first" ["numbers"] (spF K [ta_with_place, ta_is_integers, ta_are_places] 1 G.f_sign_of_first) := ⟨f_sign_of_first, _, G_sign_of_first, PySem.W.mg_of X hns0 a_sign_of_first, k_sign_of_first, b_sign_of_first⟩
  have G_is_short : FnG l.prog w K mg base CX0 2 f_is_short _ ["numbers"] (spF K [ta_with_place, ta_is_integers, ta_are_places] 1 G.f_is_short) := ok_is_short (P := l.prog) (w := w) (base := base) (T := [ta_with_place, ta_is_integers, ta_are_places]) tx C_sign_of_first C_common_divisor F_is_short
  have C_is_short : Cg l.prog w K mg base 2 "is_short" ["numbers"] (spF K [ta_with_place, ta_is_integers, ta_are_places] 1 G.f_is_short) := ⟨f_is_short, _, G_is_short, PySem.W.mg_of X hns0 a_is_short, k_is_short, b_is_short⟩
  have G_count_dials : FnG l.prog w K mg base CX0 1 f_count_dials _ ["items"] (spF K [ta_with_place, ta_is_integers, ta_are_places] 1 G.f_count_dials) := ok_count_dials (P := l.prog) (w := w) (base := base) (T := [ta_with_place, ta_is_integers, ta_are_places]) tx F_count_dials
  have C_count_dials : Cg l.prog w K mg base 1 "count_dials" ["items"] (spF K [ta_with_place, ta_is_integers, ta_are_places] 1 G.f_count_dials) := ⟨f_count_dials, _, G_count_dials, PySem.W.mg_of X hns0 a_count_dials, k_count_dials, b_count_dials⟩
  have G_bit_span : FnG l.prog w K mg base CX0 1 f_bit_span _ ["items", "dial"] (spF K [ta_with_place, ta_is_integers, ta_are_places] 2 G.f_bit_span) := ok_bit_span (P := l.prog) (w := w) (base := base) (T := [ta_with_place, ta_is_integers, ta_are_places]) tx F_bit_span
  have C_bit_span : Cg l.prog w K mg base 1 "bit_span" ["items", "dial"] (spF K [ta_with_place, ta_is_integers, ta_are_places] 2 G.f_bit_span) := ⟨f_bit_span, _, G_bit_span, PySem.W.mg_of X hns0 a_bit_span, k_bit_span, b_bit_span⟩
  have G_with_place : FnG l.prog w K mg base CX0 2 f_with_place _ ["items", "dial", "place"] (spF K [ta_with_place, ta_is_integers, ta_are_places] 3 G.f_with_place) := ok_with_place (P := l.prog) (w := w) (base := base) (T := [ta_with_place, ta_is_integers, ta_are_places]) tx C_bit_span F_with_place (TB (co_with_place, ta_with_place) (by simp)) (by simp)
  have C_with_place : Cg l.prog w K mg base 2 "with_place" ["items", "dial", "place"] (spF K [ta_with_place, ta_is_integers, ta_are_places] 3 G.f_with_place) := ⟨f_with_place, _, G_with_place, PySem.W.mg_of X hns0 a_with_place, k_with_place, b_with_place⟩
  have G_is_integer : FnG l.prog w K mg base CX0 1 f_is_integer _ ["thing"] (spF K [ta_with_place, ta_is_integers, ta_are_places] 1 G.f_is_integer) := ok_is_integer (P := l.prog) (w := w) (base := base) (T := [ta_with_place, ta_is_integers, ta_are_places]) tx F_is_integer
  have C_is_integer : Cg l.prog w K mg base 1 "is_integer" ["thing"] (spF K [ta_with_place, ta_is_integers, ta_are_places] 1 G.f_is_integer) := ⟨f_is_integer, _, G_is_integer, PySem.W.mg_of X hns0 a_is_integer, k_is_integer, b_is_integer⟩
  have G_is_tuple_of : FnG l.prog w K mg base CX0 1 f_is_tuple_of _ ["thing", "many"] (spF K [ta_with_place, ta_is_integers, ta_are_places] 2 G.f_is_tuple_of) := ok_is_tuple_of (P := l.prog) (w := w) (base := base) (T := [ta_with_place, ta_is_integers, ta_are_places]) tx F_is_tuple_of
  have C_is_tuple_of : Cg l.prog w K mg base 1 "is_tuple_of" ["thing", "many"] (spF K [ta_with_place, ta_is_integers, ta_are_places] 2 G.f_is_tuple_of) := ⟨f_is_tuple_of, _, G_is_tuple_of, PySem.W.mg_of X hns0 a_is_tuple_of, k_is_tuple_of, b_is_tuple_of⟩
  have G_is_integers : FnG l.prog w K mg base CX0 3 f_is_integers _ ["thing", "many"] (spF K [ta_with_place, ta_is_integers, ta_are_places] 2 G.f_is_integers) := ok_is_integers (T := [ta_with_place, ta_is_integers, ta_are_places]) tx C_is_tuple_of F_is_integers F_is_integer int_def b_is_integer (PySem.W.mg_of X hns0 a_is_integer) (TB (co_is_integers, ta_is_integers) (by simp)) (by simp)
  have C_is_integers : Cg l.prog w K mg base 3 "is_integers" ["thing", "many"] (spF K [ta_with_place, ta_is_integers, ta_are_places] 2 G.f_is_integers) := ⟨f_is_integers, _, G_is_integers, PySem.W.mg_of X hns0 a_is_integers, k_is_integers, b_is_integers⟩
  have G_is_place : FnG l.prog w K mg base CX0 4 f_is_place _ ["thing"] (spF K [ta_with_place, ta_is_integers, ta_are_places] 1 G.f_is_place) := ok_is_place (P := l.prog) (w := w) (base := base) (T := [ta_with_place, ta_is_integers, ta_are_places]) tx C_is_integers y_FAR F_is_place
  have C_is_place : Cg l.prog w K mg base 4 "is_place" ["thing"] (spF K [ta_with_place, ta_is_integers, ta_are_places] 1 G.f_is_place) := ⟨f_is_place, _, G_is_place, PySem.W.mg_of X hns0 a_is_place, k_is_place, b_is_place⟩
  have G_are_places : FnG l.prog w K mg base CX0 6 f_are_places _ ["thing", "many"] (spF K [ta_with_place, ta_is_integers, ta_are_places] 2 G.f_are_places) := ok_are_places (P := l.prog) (w := w) (base := base) (T := [ta_with_place, ta_is_integers, ta_are_places]) tx C_is_tuple_of C_is_place F_are_places (TB (co_are_places, ta_are_places) (by simp)) (by simp)
  have C_are_places : Cg l.prog w K mg base 6 "are_places" ["thing", "many"] (spF K [ta_with_place, ta_is_integers, ta_are_places] 2 G.f_are_places) := ⟨f_are_places, _, G_are_places, PySem.W.mg_of X hns0 a_are_places, k_are_places, b_are_places⟩
  have G_is_relation : FnG l.prog w K mg base CX0 4 f_is_relation _ ["thing"] (spF K [ta_with_place, ta_is_integers, ta_are_places] 1 G.f_is_relation) := ok_is_relation (P := l.prog) (w := w) (base := base) (T := [ta_with_place, ta_is_integers, ta_are_places]) tx C_is_integers C_is_short y_LENGTHS F_is_relation
  have C_is_relation : Cg l.prog w K mg base 4 "is_relation" ["thing"] (spF K [ta_with_place, ta_is_integers, ta_are_places] 1 G.f_is_relation) := ⟨f_is_relation, _, G_is_relation, PySem.W.mg_of X hns0 a_is_relation, k_is_relation, b_is_relation⟩
  have W_is_relation : Ck l.prog w K mg base 4 "is_relation" ["thing"] (spF K [ta_with_place, ta_is_integers, ta_are_places] 1 G.f_is_relation) := ⟨f_is_relation, _, G_is_relation, PySem.W.mg_of X hns0 a_is_relation, k_is_relation, ⟨fun s ws _ hl => match ws, hl with | [_], _ => .of_eq rfl, fun r => r⟩⟩
  have Gx_check_relation : FnG l.prog w K mg base (L2.CX l.prog w) 5 f_check_relation _ ["thing"] (spX K [ta_with_place, ta_is_integers, ta_are_places] (clm C_BadPlaces C_BadRelation) 1 G.fx_check_relation) := okx_check_relation (P := l.prog) (w := w) (base := base) (T := [ta_with_place, ta_is_integers, ta_are_places]) tx C_is_relation c_BadPlaces c_BadRelation F_check_relation
  have X_check_relation : Cx_ l.prog w K mg base 5 "check_relation" ["thing"] (spX K [ta_with_place, ta_is_integers, ta_are_places] (clm C_BadPlaces C_BadRelation) 1 G.fx_check_relation) := ⟨f_check_relation, _, Gx_check_relation, PySem.W.mg_of X hns0 a_check_relation, k_check_relation, b_check_relation⟩
  have G_check_relation : FnG l.prog w K mg base CX0 5 f_check_relation _ ["thing"] (spF K [ta_with_place, ta_is_integers, ta_are_places] 1 G.f_check_relation) := Gx_check_relation.calm
  have C_check_relation : Cg l.prog w K mg base 5 "check_relation" ["thing"] (spF K [ta_with_place, ta_is_integers, ta_are_places] 1 G.f_check_relation) := ⟨f_check_relation, _, G_check_relation, PySem.W.mg_of X hns0 a_check_relation, k_check_relation, b_check_relation⟩
  have Gx_check_places : FnG l.prog w K mg base (L2.CX l.prog w) 7 f_check_places _ ["places", "many"] (spX K [ta_with_place, ta_is_integers, ta_are_places] (clm C_BadPlaces C_BadRelation) 2 G.fx_check_places) := okx_check_places (P := l.prog) (w := w) (base := base) (T := [ta_with_place, ta_is_integers, ta_are_places]) tx C_are_places c_BadPlaces c_BadRelation F_check_places
  have X_check_places : Cx_ l.prog w K mg base 7 "check_places" ["places", "many"] (spX K [ta_with_place, ta_is_integers, ta_are_places] (clm C_BadPlaces C_BadRelation) 2 G.fx_check_places) := ⟨f_check_places, _, Gx_check_places, PySem.W.mg_of X hns0 a_check_places, k_check_places, b_check_places⟩
  have G_check_places : FnG l.prog w K mg base CX0 7 f_check_places _ ["places", "many"] (spF K [ta_with_place, ta_is_integers, ta_are_places] 2 G.f_check_places) := Gx_check_places.calm
  have C_check_places : Cg l.prog w K mg base 7 "check_places" ["places", "many"] (spF K [ta_with_place, ta_is_integers, ta_are_places] 2 G.f_check_places) := ⟨f_check_places, _, G_check_places, PySem.W.mg_of X hns0 a_check_places, k_check_places, b_check_places⟩
  have Gx_dials_of : FnG l.prog w K mg base (L2.CX l.prog w) 6 f_dials_of _ ["relation"] (spX K [ta_with_place, ta_is_integers, ta_are_places] (clm C_BadPlaces C_BadRelation) 1 G.fx_dials_of) := okx_dials_of (P := l.prog) (w := w) (base := base) (T := [ta_with_place, ta_is_integers, ta_are_places]) tx C_count_dials c_BadPlaces c_BadRelation X_check_relation F_dials_of
  have X_dials_of : Cx_ l.prog w K mg base 6 "dials_of" ["relation"] (spX K [ta_with_place, ta_is_integers, ta_are_places] (clm C_BadPlaces C_BadRelation) 1 G.fx_dials_of) := ⟨f_dials_of, _, Gx_dials_of, PySem.W.mg_of X hns0 a_dials_of, k_dials_of, b_dials_of⟩
  have G_dials_of : FnG l.prog w K mg base CX0 6 f_dials_of _ ["relation"] (spF K [ta_with_place, ta_is_integers, ta_are_places] 1 G.f_dials_of) := Gx_dials_of.calm
  have C_dials_of : Cg l.prog w K mg base 6 "dials_of" ["relation"] (spF K [ta_with_place, ta_is_integers, ta_are_places] 1 G.f_dials_of) := ⟨f_dials_of, _, G_dials_of, PySem.W.mg_of X hns0 a_dials_of, k_dials_of, b_dials_of⟩
  have W_dials_of : Ck l.prog w K mg base 6 "dials_of" ["relation"] (spF K [ta_with_place, ta_is_integers, ta_are_places] 1 G.f_dials_of) := ⟨f_dials_of, _, G_dials_of, PySem.W.mg_of X hns0 a_dials_of, k_dials_of, ⟨fun s ws _ hl => match ws, hl with | [_], _ => .of_eq rfl, fun r => r⟩⟩
  have Gx_value : FnG l.prog w K mg base (L2.CX l.prog w) 8 f_value _ ["relation", "places"] (spX K [ta_with_place, ta_is_integers, ta_are_places] (clm C_BadPlaces C_BadRelation) 2 G.fx_value) := okx_value (P := l.prog) (w := w) (base := base) (T := [ta_with_place, ta_is_integers, ta_are_places]) tx C_count_dials C_with_place c_BadPlaces c_BadRelation X_check_relation X_check_places F_value
  have X_value : Cx_ l.prog w K mg base 8 "value" ["relation", "places"] (spX K [ta_with_place, ta_is_integers, ta_are_places] (clm C_BadPlaces C_BadRelation) 2 G.fx_value) := ⟨f_value, _, Gx_value, PySem.W.mg_of X hns0 a_value, k_value, b_value⟩
  have Y_value_swap2 : Ckx l.prog w K mg base 8 "value" ["relation", "places"] ["places", "relation"] swap2 swap2 (spX K [ta_with_place, ta_is_integers, ta_are_places] (clm C_BadPlaces C_BadRelation) 2 G.fx_value) := ⟨f_value, _, Gx_value, PySem.W.mg_of X hns0 a_value, k_value, ⟨fun s ws _ hl => match ws, hl with | _ :: _ :: _, _ => .of_eq rfl | [], h => (nomatch h) | [_], h => (nomatch h), vals_swap⟩⟩
  have G_value : FnG l.prog w K mg base CX0 8 f_value _ ["relation", "places"] (spF K [ta_with_place, ta_is_integers, ta_are_places] 2 G.f_value) := Gx_value.calm
  have C_value : Cg l.prog w K mg base 8 "value" ["relation", "places"] (spF K [ta_with_place, ta_is_integers, ta_are_places] 2 G.f_value) := ⟨f_value, _, G_value, PySem.W.mg_of X hns0 a_value, k_value, b_value⟩
  have Gx_holds : FnG l.prog w K mg base (L2.CX l.prog w) 9 f_holds _ ["relation", "places"] (spX K [ta_with_place, ta_is_integers, ta_are_places] (clm C_BadPlaces C_BadRelation) 2 G.fx_holds) := okx_holds (P := l.prog) (w := w) (base := base) (T := [ta_with_place, ta_is_integers, ta_are_places]) tx c_BadPlaces c_BadRelation X_value F_holds
  have X_holds : Cx_ l.prog w K mg base 9 "holds" ["relation", "places"] (spX K [ta_with_place, ta_is_integers, ta_are_places] (clm C_BadPlaces C_BadRelation) 2 G.fx_holds) := ⟨f_holds, _, Gx_holds, PySem.W.mg_of X hns0 a_holds, k_holds, b_holds⟩
  have Y_holds_swap2 : Ckx l.prog w K mg base 9 "holds" ["relation", "places"] ["places", "relation"] swap2 swap2 (spX K [ta_with_place, ta_is_integers, ta_are_places] (clm C_BadPlaces C_BadRelation) 2 G.fx_holds) := ⟨f_holds, _, Gx_holds, PySem.W.mg_of X hns0 a_holds, k_holds, ⟨fun s ws _ hl => match ws, hl with | _ :: _ :: _, _ => .of_eq rfl | [], h => (nomatch h) | [_], h => (nomatch h), vals_swap⟩⟩
  have G_holds : FnG l.prog w K mg base CX0 9 f_holds _ ["relation", "places"] (spF K [ta_with_place, ta_is_integers, ta_are_places] 2 G.f_holds) := Gx_holds.calm
  have C_holds : Cg l.prog w K mg base 9 "holds" ["relation", "places"] (spF K [ta_with_place, ta_is_integers, ta_are_places] 2 G.f_holds) := ⟨f_holds, _, G_holds, PySem.W.mg_of X hns0 a_holds, k_holds, b_holds⟩
  have G__law_deck : FnG l.prog w K mg base CX0 1 f__law_deck _ ["_law_script"] (spF K [ta_with_place, ta_is_integers, ta_are_places] 1 G.f__law_deck) := ok__law_deck (P := l.prog) (w := w) (base := base) (T := [ta_with_place, ta_is_integers, ta_are_places]) tx F__law_deck
  have C__law_deck : Cg l.prog w K mg base 1 "_law_deck" ["_law_script"] (spF K [ta_with_place, ta_is_integers, ta_are_places] 1 G.f__law_deck) := ⟨f__law_deck, _, G__law_deck, PySem.W.mg_of X hns0 a__law_deck, k__law_deck, b__law_deck⟩
  have G__law_draw : FnG l.prog w K mg base CX0 1 f__law_draw _ ["_law_deck_here", "_law_limit"] (spF K [ta_with_place, ta_is_integers, ta_are_places] 2 G.f__law_draw) := ok__law_draw (P := l.prog) (w := w) (base := base) (T := [ta_with_place, ta_is_integers, ta_are_places]) tx F__law_draw
  have C__law_draw : Cg l.prog w K mg base 1 "_law_draw" ["_law_deck_here", "_law_limit"] (spF K [ta_with_place, ta_is_integers, ta_are_places] 2 G.f__law_draw) := ⟨f__law_draw, _, G__law_draw, PySem.W.mg_of X hns0 a__law_draw, k__law_draw, b__law_draw⟩
  have G__law_pick : FnG l.prog w K mg base CX0 2 f__law_pick _ ["_law_deck_here", "_law_some"] (spF K [ta_with_place, ta_is_integers, ta_are_places] 2 G.f__law_pick) := ok__law_pick (P := l.prog) (w := w) (base := base) (T := [ta_with_place, ta_is_integers, ta_are_places]) tx C__law_draw F__law_pick
  have C__law_pick : Cg l.prog w K mg base 2 "_law_pick" ["_law_deck_here", "_law_some"] (spF K [ta_with_place, ta_is_integers, ta_are_places] 2 G.f__law_pick) := ⟨f__law_pick, _, G__law_pick, PySem.W.mg_of X hns0 a__law_pick, k__law_pick, b__law_pick⟩
  have G__law_is_integer : FnG l.prog w K mg base CX0 1 f__law_is_integer _ ["_law_thing"] (spF K [ta_with_place, ta_is_integers, ta_are_places] 1 G.f__law_is_integer) := ok__law_is_integer (P := l.prog) (w := w) (base := base) (T := [ta_with_place, ta_is_integers, ta_are_places]) tx F__law_is_integer
  have C__law_is_integer : Cg l.prog w K mg base 1 "_law_is_integer" ["_law_thing"] (spF K [ta_with_place, ta_is_integers, ta_are_places] 1 G.f__law_is_integer) := ⟨f__law_is_integer, _, G__law_is_integer, PySem.W.mg_of X hns0 a__law_is_integer, k__law_is_integer, b__law_is_integer⟩
  have G__law_gcd : FnG l.prog w K mg base CX0 1 f__law_gcd _ ["_law_one", "_law_other"] (spF K [ta_with_place, ta_is_integers, ta_are_places] 2 G.f__law_gcd) := ok__law_gcd (P := l.prog) (w := w) (base := base) (T := [ta_with_place, ta_is_integers, ta_are_places]) tx F__law_gcd
  have C__law_gcd : Cg l.prog w K mg base 1 "_law_gcd" ["_law_one", "_law_other"] (spF K [ta_with_place, ta_is_integers, ta_are_places] 2 G.f__law_gcd) := ⟨f__law_gcd, _, G__law_gcd, PySem.W.mg_of X hns0 a__law_gcd, k__law_gcd, b__law_gcd⟩
  have G__law_short : FnG l.prog w K mg base CX0 2 f__law_short _ ["_law_numbers"] (spF K [ta_with_place, ta_is_integers, ta_are_places] 1 G.f__law_short) := ok__law_short (P := l.prog) (w := w) (base := base) (T := [ta_with_place, ta_is_integers, ta_are_places]) tx C__law_gcd F__law_short
  have C__law_short : Cg l.prog w K mg base 2 "_law_short" ["_law_numbers"] (spF K [ta_with_place, ta_is_integers, ta_are_places] 1 G.f__law_short) := ⟨f__law_short, _, G__law_short, PySem.W.mg_of X hns0 a__law_short, k__law_short, b__law_short⟩
  have G__law_is_place : FnG l.prog w K mg base CX0 2 f__law_is_place _ ["_law_thing"] (spF K [ta_with_place, ta_is_integers, ta_are_places] 1 G.f__law_is_place) := ok__law_is_place (P := l.prog) (w := w) (base := base) (T := [ta_with_place, ta_is_integers, ta_are_places]) tx C__law_is_integer C__law_gcd F__law_is_place
  have C__law_is_place : Cg l.prog w K mg base 2 "_law_is_place" ["_law_thing"] (spF K [ta_with_place, ta_is_integers, ta_are_places] 1 G.f__law_is_place) := ⟨f__law_is_place, _, G__law_is_place, PySem.W.mg_of X hns0 a__law_is_place, k__law_is_place, b__law_is_place⟩
  have G__law_place : FnG l.prog w K mg base CX0 2 f__law_place _ ["_law_one", "_law_other"] (spF K [ta_with_place, ta_is_integers, ta_are_places] 2 G.f__law_place) := ok__law_place (P := l.prog) (w := w) (base := base) (T := [ta_with_place, ta_is_integers, ta_are_places]) tx C__law_gcd F__law_place
  have C__law_place : Cg l.prog w K mg base 2 "_law_place" ["_law_one", "_law_other"] (spF K [ta_with_place, ta_is_integers, ta_are_places] 2 G.f__law_place) := ⟨f__law_place, _, G__law_place, PySem.W.mg_of X hns0 a__law_place, k__law_place, b__law_place⟩
  have G__law_is_relation : FnG l.prog w K mg base CX0 3 f__law_is_relation _ ["_law_thing"] (spF K [ta_with_place, ta_is_integers, ta_are_places] 1 G.f__law_is_relation) := ok__law_is_relation (P := l.prog) (w := w) (base := base) (T := [ta_with_place, ta_is_integers, ta_are_places]) tx C__law_is_integer C__law_short F__law_is_relation
  have C__law_is_relation : Cg l.prog w K mg base 3 "_law_is_relation" ["_law_thing"] (spF K [ta_with_place, ta_is_integers, ta_are_places] 1 G.f__law_is_relation) := ⟨f__law_is_relation, _, G__law_is_relation, PySem.W.mg_of X hns0 a__law_is_relation, k__law_is_relation, b__law_is_relation⟩
  have G__law_value : FnG l.prog w K mg base CX0 1 f__law_value _ ["_law_items_here", "_law_places"] (spF K [ta_with_place, ta_is_integers, ta_are_places] 2 G.f__law_value) := ok__law_value (P := l.prog) (w := w) (base := base) (T := [ta_with_place, ta_is_integers, ta_are_places]) tx F__law_value
  have C__law_value : Cg l.prog w K mg base 1 "_law_value" ["_law_items_here", "_law_places"] (spF K [ta_with_place, ta_is_integers, ta_are_places] 2 G.f__law_value) := ⟨f__law_value, _, G__law_value, PySem.W.mg_of X hns0 a__law_value, k__law_value, b__law_value⟩
  have G__law_signed : FnG l.prog w K mg base CX0 2 f__law_signed _ ["_law_deck_here", "_law_limit"] (spF K [ta_with_place, ta_is_integers, ta_are_places] 2 G.f__law_signed) := ok__law_signed (P := l.prog) (w := w) (base := base) (T := [ta_with_place, ta_is_integers, ta_are_places]) tx C__law_draw F__law_signed
  have C__law_signed : Cg l.prog w K mg base 2 "_law_signed" ["_law_deck_here", "_law_limit"] (spF K [ta_with_place, ta_is_integers, ta_are_places] 2 G.f__law_signed) := ⟨f__law_signed, _, G__law_signed, PySem.W.mg_of X hns0 a__law_signed, k__law_signed, b__law_signed⟩
  have G__law_drawn_place : FnG l.prog w K mg base CX0 3 f__law_drawn_place _ ["_law_deck_here"] (spF K [ta_with_place, ta_is_integers, ta_are_places] 1 G.f__law_drawn_place) := ok__law_drawn_place (P := l.prog) (w := w) (base := base) (T := [ta_with_place, ta_is_integers, ta_are_places]) tx C__law_pick C__law_signed C__law_draw C__law_place F__law_drawn_place
  have C__law_drawn_place : Cg l.prog w K mg base 3 "_law_drawn_place" ["_law_deck_here"] (spF K [ta_with_place, ta_is_integers, ta_are_places] 1 G.f__law_drawn_place) := ⟨f__law_drawn_place, _, G__law_drawn_place, PySem.W.mg_of X hns0 a__law_drawn_place, k__law_drawn_place, b__law_drawn_place⟩
  have G__law_items : FnG l.prog w K mg base CX0 3 f__law_items _ ["_law_deck_here", "_law_n"] (spF K [ta_with_place, ta_is_integers, ta_are_places] 2 G.f__law_items) := ok__law_items (P := l.prog) (w := w) (base := base) (T := [ta_with_place, ta_is_integers, ta_are_places]) tx C__law_pick C__law_draw C__law_signed C__law_short F__law_items
  have C__law_items : Cg l.prog w K mg base 3 "_law_items" ["_law_deck_here", "_law_n"] (spF K [ta_with_place, ta_is_integers, ta_are_places] 2 G.f__law_items) := ⟨f__law_items, _, G__law_items, PySem.W.mg_of X hns0 a__law_items, k__law_items, b__law_items⟩
  have G__law_told : FnG l.prog w K mg base CX0 10 f__law_told _ ["_law_way", "_law_relation", "_law_places"] (spF K [ta_with_place, ta_is_integers, ta_are_places] 3 G.f__law_told) := ok__law_told (P := l.prog) (w := w) (base := base) (T := [ta_with_place, ta_is_integers, ta_are_places]) tx c_BadPlaces c_BadRelation c_RulerError X_value X_holds Y_value_swap2 Y_holds_swap2 e_BadRelation e8_BadRelation e_BadPlaces e8_BadPlaces u_BadPlaces_BadRelation u_BadRelation_BadPlaces F__law_told
  have C__law_told : Cg l.prog w K mg base 10 "_law_told" ["_law_way", "_law_relation", "_law_places"] (spF K [ta_with_place, ta_is_integers, ta_are_places] 3 G.f__law_told) := ⟨f__law_told, _, G__law_told, PySem.W.mg_of X hns0 a__law_told, k__law_told, b__law_told⟩
  have G__law_bent_items : FnG l.prog w K mg base CX0 3 f__law_bent_items _ ["_law_deck_here", "_law_items_here"] (spF K [ta_with_place, ta_is_integers, ta_are_places] 2 G.f__law_bent_items) := ok__law_bent_items (P := l.prog) (w := w) (base := base) (T := [ta_with_place, ta_is_integers, ta_are_places]) tx C__law_draw C__law_pick F__law_bent_items
  have C__law_bent_items : Cg l.prog w K mg base 3 "_law_bent_items" ["_law_deck_here", "_law_items_here"] (spF K [ta_with_place, ta_is_integers, ta_are_places] 2 G.f__law_bent_items) := ⟨f__law_bent_items, _, G__law_bent_items, PySem.W.mg_of X hns0 a__law_bent_items, k__law_bent_items, b__law_bent_items⟩
  have G__law_bent_places : FnG l.prog w K mg base CX0 3 f__law_bent_places _ ["_law_deck_here", "_law_places"] (spF K [ta_with_place, ta_is_integers, ta_are_places] 2 G.f__law_bent_places) := ok__law_bent_places (P := l.prog) (w := w) (base := base) (T := [ta_with_place, ta_is_integers, ta_are_places]) tx C__law_draw C__law_pick F__law_bent_places
  have C__law_bent_places : Cg l.prog w K mg base 3 "_law_bent_places" ["_law_deck_here", "_law_places"] (spF K [ta_with_place, ta_is_integers, ta_are_places] 2 G.f__law_bent_places) := ⟨f__law_bent_places, _, G__law_bent_places, PySem.W.mg_of X hns0 a__law_bent_places, k__law_bent_places, b__law_bent_places⟩
  have G__law_are_places : FnG l.prog w K mg base CX0 3 f__law_are_places _ ["_law_n", "_law_thing"] (spF K [ta_with_place, ta_is_integers, ta_are_places] 2 G.f__law_are_places) := ok__law_are_places (P := l.prog) (w := w) (base := base) (T := [ta_with_place, ta_is_integers, ta_are_places]) tx C__law_is_place F__law_are_places
  have C__law_are_places : Cg l.prog w K mg base 3 "_law_are_places" ["_law_n", "_law_thing"] (spF K [ta_with_place, ta_is_integers, ta_are_places] 2 G.f__law_are_places) := ⟨f__law_are_places, _, G__law_are_places, PySem.W.mg_of X hns0 a__law_are_places, k__law_are_places, b__law_are_places⟩
  exact okl_law (T := [ta_with_place, ta_is_integers, ta_are_places]) tx C__law_deck C__law_pick C__law_items C__law_drawn_place C__law_value C__law_told C_dials_of C_is_relation C__law_draw C_value C__law_bent_items C__law_bent_places C__law_is_relation C__law_are_places W_dials_of W_is_relation F_law good
end G
set_option maxHeartbeats 4000000
set_option exponentiation.threshold 3000
namespace G
open PySem PySem.Spec PyProof.Rows L2 DL
theorem lg {n : Nat} {m : Nat} (h : n < 2 ^ m) : n.log2 < m ∨ n = 0 := by
  by_cases e : n = 0
  · exact .inr e
  · exact .inl ((Nat.log2_lt e).mpr h)
theorem lgle {n m : Nat} (h : n < 2 ^ m) : n.log2 ≤ m := by
  rcases lg h with h | h
  · omega
  · subst h; rw [Nat.log2_zero]; exact Nat.zero_le _
theorem cM {i j : Int} (hi : i.natAbs < 2 ^ 1000) (hj : j.natAbs < 2 ^ 1000) : cMul i j = true := by
  unfold cMul
  have h1 := lgle hi
  have h2 := lgle hj
  exact decide_eq_true (by omega)
theorem big1000 {n : Nat} (h : n < 10 ^ 200) : n < 2 ^ 1000 := Nat.lt_trans h (by decide)
theorem cM' {i j : Int} (hi : i.natAbs < 10 ^ 200) (hj : j.natAbs < 10 ^ 200) : cMul i j = true := cM (big1000 hi) (big1000 hj)
theorem cD {i j : Int} (h0 : 0 < j) (hj : j.natAbs < 10 ^ 200) : cDiv i j = true := by
  unfold cDiv
  have h2 := lgle (big1000 hj)
  rw [Bool.and_eq_true]
  exact ⟨decide_eq_true h0, decide_eq_true (by omega)⟩
theorem cMo {i j : Int} (h0 : j ≠ 0) : cMod i j = true := by
  unfold cMod
  exact decide_eq_true h0
def Ok (n : Nat) (k : Dk) : Prop := 0 ≤ k.mixed ∧ k.mixed < 2147483647 ∧ 0 ≤ k.turn ∧ k.turn + n ≤ 1000000 ∧ k.cells.length ≤ 1000
theorem Ok.less {n m : Nat} {k : Dk} (h : Ok n k) (l : m ≤ n) : Ok m k := ⟨h.1, h.2.1, h.2.2.1, by have := h.2.2.2.1; omega, h.2.2.2.2⟩
theorem fm0 (a : Int) {b : Int} (h : 0 < b) : 0 ≤ a.fmod b := Int.fmod_nonneg_of_pos a h
theorem fm1 (a : Int) {b : Int} (h : 0 < b) : a.fmod b < b := Int.fmod_lt_of_pos a h
theorem seq_of {g h : Fs} {env e' : List Sl} {k k' : Dk} {o : Out} (h1 : g env k = .nx e' k') (h2 : h e' k' = o) : sSeq g h env k = o := by
  unfold sSeq; rw [h1]; exact h2
theorem seq_rt {g h : Fs} {env : List Sl} {k k' : Dk} {d : D} (h1 : g env k = .rt d k') : sSeq g h env k = .rt d k' := by
  unfold sSeq; rw [h1]
theorem fn_of {m : Nat} {g : Fs} {ss : List Sl} {k k' : Dk} {d : D} (h : g (ss ++ List.replicate (m - ss.length) .un) k = .rt d k') : fnOf m g ss k = some (d, k') := by
  unfold fnOf; rw [h]
theorem if_t {c : Ft} {g h : Fs} {env : List Sl} {k k' : Dk} {o : Out} (h1 : c env k = some (true, k')) (h2 : g env k' = o) : sIf c g h env k = o := by
  unfold sIf; rw [h1]; exact h2
theorem if_f {c : Ft} {g h : Fs} {env : List Sl} {k k' : Dk} {o : Out} (h1 : c env k = some (false, k')) (h2 : h env k' = o) : sIf c g h env k = o := by
  unfold sIf; rw [h1]; exact h2
theorem ret_of {f : Fe} {env : List Sl} {k k' : Dk} {d : D} (h1 : f env k = some (.dat d, k')) : sRet f env k = .rt d k' := by
  unfold sRet; rw [h1]
theorem last_some {l : List Int} (h : l ≠ []) : ∃ z, l.getLast? = some z := ⟨l.getLast h, List.getLast?_eq_some_getLast h⟩
def gcdL (l : List Int) : Nat := l.foldl (fun g z => Nat.gcd g z.natAbs) 0
theorem com_loop (l : List Int) : ∀ (x y : Sl) (g : Nat) (k : Dk), ∃ y', loopF (qName 2) (sAsg (fGcd (fVar 1) (fVar 2)) (qName 1)) (l.map PyData.int) [x, .dat (.int (g : Int)), y] k = .nx [x, .dat (.int ((l.foldl (fun g z => Nat.gcd g z.natAbs) g : Nat) : Int)), y'] k := by
  induction l with
  | nil => intro x y g k; exact ⟨y, rfl⟩
  | cons z r ih =>
    intro x y g k
    obtain ⟨y', e⟩ := ih x (.dat (.int z)) (Nat.gcd g z.natAbs) k
    refine ⟨y', ?_⟩
    simp only [List.map_cons, loopF, List.foldl_cons]
    simp [qName, stor, sAsg, fGcd, f2, fVar, gII, c0]
    exact e
theorem while_gcd (x y : Sl) (k : Dk) : ∀ (fuel : Nat) (a b : Nat), b < fuel → loopW (fTest (fCmp (fun i j => decide (j < i)) (fVar 3) (fC (.int 0)))) (sPar 1 3 (fCons (fVar 3) (fCons (fMod (f1 gInt (fVar 1)) (fVar 3)) fNil))) fuel [x, .dat (.int (a : Int)), y, .dat (.int (b : Int))] k =
    .nx [x, .dat (.int ((Nat.gcd a b : Nat) : Int)), y, .dat (.int 0)] k := by
  intro fuel
  induction fuel with
  | zero => intro a b h; omega
  | succ fuel ih =>
    intro a b h
    unfold loopW
    by_cases hb : b = 0
    · subst hb
      have t : fTest (fCmp (fun i j => decide (j < i)) (fVar 3) (fC (.int 0))) [x, .dat (.int (a : Int)), y, .dat (.int ((0 : Nat) : Int))] k = some (false, k) := by
        simp [fTest, fCmp, f2, gII, fVar, fC, c0]
      rw [t, Nat.gcd_zero_right]
      rfl
    · have hb0 : (0 : Int) < (b : Int) := by omega
      have hb1 : 0 < b := by omega
      have t : fTest (fCmp (fun i j => decide (j < i)) (fVar 3) (fC (.int 0))) [x, .dat (.int (a : Int)), y, .dat (.int (b : Int))] k = some (true, k) := by
        simp [fTest, fCmp, f2, gII, fVar, fC, c0, hb1]
      have a6 : cMod (a : Int) (b : Int) = true := cMo (by omega)
      have em : Int.fmod (a : Int) (b : Int) = ((a % b : Nat) : Int) := by
        rw [Int.fmod_eq_emod_of_nonneg _ (by omega)]
        rfl
      have s : sPar 1 3 (fCons (fVar 3) (fCons (fMod (f1 gInt (fVar 1)) (fVar 3)) fNil)) [x, .dat (.int (a : Int)), y, .dat (.int (b : Int))] k = .nx [x, .dat (.int (b : Int)), y, .dat (.int ((a % b : Nat) : Int))] k := by
        simp [sPar, fCons, fNil, fVar, fMod, f1, f2, gInt, gI, gII, a6, stor, em]
      rw [t]
      simp only [s]
      rw [ih b (a % b) (by have := Nat.mod_lt a (Nat.pos_of_ne_zero hb); omega)]
      rw [Nat.gcd_comm a b, Nat.gcd_rec b a, Nat.gcd_comm]
theorem lcom_loop (l : List Int) : ∀ (x y w : Sl) (g : Nat) (k : Dk), ∃ y' w', loopF (qName 2) (sSeq (sAsg (f1 gAbs (fVar 2)) (qName 3)) (sWhile (fuelV 3) (fTest (fCmp (fun i j => decide (j < i)) (fVar 3) (fC (.int 0)))) (sPar 1 3 (fCons (fVar 3) (fCons (fMod (f1 gInt (fVar 1)) (fVar 3)) fNil))))) (l.map PyData.int) [x, .dat (.int (g : Int)), y, w] k =
    .nx [x, .dat (.int ((l.foldl (fun g z => Nat.gcd g z.natAbs) g : Nat) : Int)), y', w'] k := by
  induction l with
  | nil => intro x y w g k; exact ⟨y, w, rfl⟩
  | cons z r ih =>
    intro x y w g k
    obtain ⟨y', w', e⟩ := ih x (.dat (.int z)) (.dat (.int 0)) (Nat.gcd g z.natAbs) k
    refine ⟨y', w', ?_⟩
    have ab : (if z < 0 then -z else z) = ((z.natAbs : Nat) : Int) := by split <;> omega
    have s : (sSeq (sAsg (f1 gAbs (fVar 2)) (qName 3)) (sWhile (fuelV 3) (fTest (fCmp (fun i j => decide (j < i)) (fVar 3) (fC (.int 0)))) (sPar 1 3 (fCons (fVar 3) (fCons (fMod (f1 gInt (fVar 1)) (fVar 3)) fNil))))) [x, .dat (.int (g : Int)), .dat (.int z), w] k = .nx [x, .dat (.int ((Nat.gcd g z.natAbs : Nat) : Int)), .dat (.int z), .dat (.int 0)] k := by
      refine seq_of (e' := [x, .dat (.int (g : Int)), .dat (.int z), .dat (.int ((z.natAbs : Nat) : Int))]) (k' := k) ?_ ?_
      · simp only [← ab]
        simp [sAsg, f1, gAbs, gI, fVar, qName, stor]
      · unfold sWhile
        exact while_gcd _ _ _ _ _ _ (by simp [fuelV])
    simp only [List.map_cons, loopF, List.foldl_cons]
    have q : qName 2 (.dat (.int z)) [x, .dat (.int (g : Int)), y, w] = some [x, .dat (.int (g : Int)), .dat (.int z), w] := by simp [qName, stor]
    rw [q]
    simp only [s]
    exact e
theorem eqII (a b : Int) : gEq false (.dat (.int a)) (.dat (.int b)) = some (.dat (.bool (a == b))) := rfl
theorem neII (a b : Int) : gEq true (.dat (.int a)) (.dat (.int b)) = some (.dat (.bool (!(a == b)))) := rfl
theorem isi_tup (d : D) : gIsi "tuple" (.dat d) = some (.dat (.bool (isiB "tuple" d))) := rfl
theorem isi_any (n : String) (d : D) : gIsi n (.dat d) = some (.dat (.bool (isiB n d))) := rfl
theorem isB_tup (ds : List D) : isiB "tuple" (.tuple ds) = true := rfl
theorem not_tup {d : D} (h : ∀ ds, d ≠ .tuple ds) : isiB "tuple" d = false := by
  cases d with
  | tuple ds => exact absurd rfl (h ds)
  | _ => rfl
theorem tup_or (d : D) : (∃ ds, d = .tuple ds) ∨ ∀ ds, d ≠ .tuple ds := by
  cases d with
  | tuple ds => exact .inl ⟨ds, rfl⟩
  | _ => exact .inr fun _ h => nomatch h
def ones (ds : List D) : List D := (ds.filter fun d => !isIntD d).map fun _ => .int 1
theorem ones_len (ds : List D) : (ones ds).length ≤ ds.length := by
  unfold ones
  rw [List.length_map]
  exact List.length_filter_le _ _
theorem lc_ones (m : Sl) (t : Sl) (k : Dk) : ∀ (ds acc : List D), acc.length + ds.length < 1000000 → loopC (qName 2) (tOrF (fTest (f1 (gIsi "bool") (fVar 2))) (tNotF (fTest (f1 (gIsi "int") (fVar 2))))) (fC (.int 1)) [m, t, .un] ds acc k = some (acc ++ ones ds, k)
  | [], acc, _ => by simp [loopC, ones]
  | d :: ds, acc, h => by
    simp only [List.length_cons] at h
    by_cases e : isIntD d = true
    · have ih := lc_ones m t k ds acc (by omega)
      have e1 : isiB "int" d = true ∧ isiB "bool" d = false := by simpa [isIntD] using e
      simp [loopC, qName, stor, tOrF, tNotF, fTest, f1, fVar, isi_any, e1.1, e1.2, ih]
      simp [ones, e]
    · have e0 : isIntD d = false := by simpa using e
      have ih := lc_ones m t k ds (acc ++ [.int 1]) (by rw [List.length_append, List.length_singleton]; omega)
      have hl : acc.length < 1000000 := by omega
      have c : (tOrF (fTest (f1 (gIsi "bool") (fVar 2))) (tNotF (fTest (f1 (gIsi "int") (fVar 2))))) [m, t, .dat d] k = some (true, k) := by
        unfold isIntD at e0
        cases e1 : isiB "bool" d with
        | true => simp [tOrF, fTest, f1, fVar, isi_any, e1]
        | false =>
          rw [e1] at e0
          have e2 : isiB "int" d = false := by simpa using e0
          simp [tOrF, tNotF, fTest, f1, fVar, isi_any, e1, e2]
      simp [loopC, qName, stor, c, fC, hl, ih]
      simp [ones, e0]
theorem ones_shaped (ds : List D) : SeqAt.shaped (.list (ones ds)) = true := by
  have h1 : ∀ n : Nat, PyData.canLayAll0 (List.replicate n (.int 1)) = true := fun n => by
    induction n with
    | zero => rfl
    | succ n ih => rw [List.replicate_succ]; simp only [PyData.canLayAll0, PyData.canLay0, ih]; rfl
  have h2 : ∀ n : Nat, PyData.depthAll (List.replicate n (.int 1)) = 0 := fun n => by
    induction n with
    | zero => rfl
    | succ n ih => rw [List.replicate_succ]; simp only [PyData.depthAll, PyData.depth, ih]; rfl
  have e : ones ds = List.replicate (ones ds).length (.int 1) := by
    unfold ones
    rw [List.map_const', List.length_replicate]
  rw [e]
  unfold SeqAt.shaped
  simp only [PyData.canLay0, PyData.depth, h1, h2]
  rfl
theorem ones_nil (ds : List D) : PyData.eqv (.list (ones ds)) (.list []) = ds.all isIntD := by
  cases h : ds.all isIntD with
  | true =>
    have e : ones ds = [] := by
      unfold ones
      rw [List.map_eq_nil_iff, List.filter_eq_nil_iff]
      intro d hd
      simp [List.all_eq_true.mp h d hd]
    rw [e]; rfl
  | false =>
    have e : ones ds ≠ [] := by
      unfold ones
      intro z
      rw [List.map_eq_nil_iff, List.filter_eq_nil_iff] at z
      rw [List.all_eq_false] at h
      obtain ⟨d, hd, hn⟩ := h
      exact z d hd (by simpa using hn)
    cases e2 : ones ds with
    | nil => exact absurd e2 e
    | cons a b => rfl
theorem isInt_of {d : D} (h : isIntD d = true) : ∃ z, d = .int z := by
  cases d with
  | int z => exact ⟨z, rfl⟩
  | bool b => cases h
  | none => cases h
  | str x => cases h
  | list x => cases h
  | tuple x => cases h
  | dict x => cases h
def Bnd (d : D) : Prop := ∀ ds, d = .tuple ds → ∀ z, PyData.int z ∈ ds → z.natAbs < 10 ^ 90
theorem at0 {x y z : D} : atI [x, y, z] 0 = some x := rfl
theorem at1 {x y z : D} : atI [x, y, z] 1 = some y := rfl
theorem at2 {x y z : D} : atI [x, y, z] 2 = some z := rfl
theorem bt0 {x y z w : D} : atI [x, y, z, w] 0 = some x := rfl
theorem bt1 {x y z w : D} : atI [x, y, z, w] 1 = some y := rfl
theorem bt2 {x y z w : D} : atI [x, y, z, w] 2 = some z := rfl
theorem bt3 {x y z w : D} : atI [x, y, z, w] 3 = some w := rfl
structure Good (m w : Nat) (d : D) : Prop where
  lv : d.leavesShort 60 = true
  sh : d.showable = true
  dp : d.depth ≤ m
  wt : d.weight ≤ w
  bn : Bnd d
  it : ∀ z, d = .int z → z.natAbs < 10 ^ 90
theorem Good.le {m w m' w' : Nat} {d : D} (h : Good m w d) (h1 : m ≤ m') (h2 : w ≤ w') : Good m' w' d := ⟨h.lv, h.sh, Nat.le_trans h.dp h1, Nat.le_trans h.wt h2, h.bn, h.it⟩
theorem Good.show {m w : Nat} {d : D} (h : Good m w d) (h1 : m ≤ 60) (h2 : w ≤ 16000) : okShow d = true := by
  have l := PyData.shown_le 60 (by decide) d h.lv
  have l2 : (60 + 2) * d.weight ≤ 62 * 16000 := Nat.mul_le_mul (by decide) (Nat.le_trans h.wt h2)
  unfold okShow
  rw [Bool.and_eq_true, Bool.and_eq_true]
  exact ⟨⟨h.sh, decide_eq_true (Nat.le_trans h.dp h1)⟩, decide_eq_true (by omega)⟩
theorem log45 {n : Nat} (h : n < 10 ^ 46) : n.log2 ≤ 155 := lgle (Nat.lt_trans h (by decide))
theorem good_int {z : Int} (h : z.natAbs < 10 ^ 46) : Good 0 160 (.int z) := by
  have l := log45 h
  refine ⟨?_, ?_, Nat.le_refl _, ?_, fun ds e => (nomatch e), fun y e => by cases e; exact Nat.lt_trans h (by decide)⟩
  · have e := int_text_length_le10 (k := 46) (by decide) h
    have e2 : (PyData.shown (.int z)).length ≤ 60 := by
      show (Str.ofString (toString z)).length ≤ 60
      rw [PySem.ofString_length]; omega
    simp only [PyData.leavesShort]
    exact decide_eq_true e2
  · simp only [PyData.showable]
    exact decide_eq_true (by omega)
  · simp only [PyData.weight]
    split <;> omega
theorem good_none : Good 0 0 .none := ⟨rfl, rfl, Nat.le_refl _, Nat.le_refl _, fun _ e => (nomatch e), fun _ e => (nomatch e)⟩
theorem good_bool (b : Bool) : Good 0 0 (.bool b) := ⟨rfl, rfl, Nat.le_refl _, Nat.le_refl _, fun _ e => (nomatch e), fun _ e => (nomatch e)⟩
theorem good_str {x : Str} {n : Nat} (h : x.length ≤ n) (hc : ∀ c ∈ x.cps.toList, c < 16 ^ 8) : Good 0 n (.str x) := by
  refine ⟨?_, rfl, Nat.le_refl _, h, fun _ e => (nomatch e), fun _ e => (nomatch e)⟩
  simp only [PyData.leavesShort]
  exact List.all_eq_true.mpr fun c hm => decide_eq_true (hc c hm)
theorem ofs_small (s : String) : ∀ c ∈ (Str.ofString s).cps.toList, c < 16 ^ 8 := by
  intro c hc
  rw [PyProof.Rows.signs_ofString] at hc
  obtain ⟨x, _, rfl⟩ := List.mem_map.mp hc
  exact Nat.lt_of_lt_of_le x.val.toNat_lt (by decide)
theorem good_istr {z : Int} (h : z.natAbs < 10 ^ 46) : Good 0 160 (.str (toString z)) := by
  have e := int_text_length_le10 (k := 46) (by decide) h
  exact good_str (x := Str.ofString (toString z)) (by rw [PySem.ofString_length]; omega) (ofs_small _)
theorem all_parts {m w : Nat} : ∀ {xs : List D}, (∀ x ∈ xs, Good m w x) → PyData.leavesShortAll 60 xs = true ∧ PyData.showableAll xs = true ∧ PyData.depthAll xs ≤ m ∧ PyData.weightAll xs ≤ xs.length * (w + 1)
  | [], _ => ⟨rfl, rfl, Nat.zero_le _, Nat.zero_le _⟩
  | x :: xs, h => by
    have hx := h x (List.mem_cons_self ..)
    obtain ⟨h1, h2, h3, h4⟩ := all_parts fun y hy => h y (List.mem_cons_of_mem _ hy)
    refine ⟨?_, ?_, ?_, ?_⟩
    · simp only [PyData.leavesShortAll, hx.lv, h1]; rfl
    · simp only [PyData.showableAll, hx.sh, h2]; rfl
    · simp only [PyData.depthAll]; exact Nat.max_le.mpr ⟨hx.dp, h3⟩
    · have a := hx.wt
      simp only [PyData.weightAll, List.length_cons, Nat.succ_mul]
      omega
theorem good_tup {m w n : Nat} {xs : List D} (h : ∀ x ∈ xs, Good m w x) (hl : xs.length ≤ n) : Good (m + 1) (n * (w + 1)) (.tuple xs) := by
  obtain ⟨h1, h2, h3, h4⟩ := all_parts h
  refine ⟨?_, ?_, ?_, ?_, fun ds e z hz => ?_, fun _ e => (nomatch e)⟩
  · simpa only [PyData.leavesShort] using h1
  · simpa only [PyData.showable] using h2
  · simp only [PyData.depth]; omega
  · simp only [PyData.weight]; exact Nat.le_trans h4 (Nat.mul_le_mul_right _ hl)
  · cases e
    exact (h _ hz).it z rfl
theorem good_lst {m w n : Nat} {xs : List D} (h : ∀ x ∈ xs, Good m w x) (hl : xs.length ≤ n) : Good (m + 1) (n * (w + 1)) (.list xs) := by
  obtain ⟨h1, h2, h3, h4⟩ := all_parts h
  refine ⟨?_, ?_, ?_, ?_, fun ds e => (nomatch e), fun _ e => (nomatch e)⟩
  · simpa only [PyData.leavesShort] using h1
  · simpa only [PyData.showable] using h2
  · simp only [PyData.depth]; omega
  · simp only [PyData.weight]; exact Nat.le_trans h4 (Nat.mul_le_mul_right _ hl)
theorem good_nodict : Good 1 0 (.dict []) := ⟨rfl, rfl, Nat.le_refl _, Nat.le_refl _, fun _ e => (nomatch e), fun _ e => (nomatch e)⟩
theorem good_dict {m w : Nat} {d : D} (h : Good m w d) : Good (m + 1) (w + 3) (.dict [(.str "a", d)]) := by
  have a1 : (PyData.str "a").leavesShort 60 = true := by decide
  have hd := h.dp
  have hw := h.wt
  refine ⟨?_, ?_, ?_, ?_, fun _ e => (nomatch e), fun _ e => (nomatch e)⟩
  · simp only [PyData.leavesShort, PyData.leavesShortKv, h.lv, Bool.and_true]; exact a1
  · simp only [PyData.showable, PyData.showableKv, h.sh]; rfl
  · simp only [PyData.depth, PyData.depthKv]
    have : max (max 0 d.depth) 0 = d.depth := by omega
    omega
  · simp only [PyData.weight, PyData.weightKv]
    have e : ("a" : Str).cps.size = 1 := rfl
    omega
theorem gi {z : Int} (h : z.natAbs < 10 ^ 45) : Good 0 160 (.int z) := good_int (Nat.lt_trans h (by decide))
theorem gi1 {z : Int} (h : z.natAbs < 10 ^ 44) (e : Int) (he : e.natAbs ≤ 1) : Good 0 160 (.int (z + e)) := good_int (by
  have a : (z + e).natAbs ≤ z.natAbs + e.natAbs := Int.natAbs_add_le z e
  have b : (10 : Nat) ^ 44 + 1 < 10 ^ 46 := by decide
  omega)
theorem cut_mem {xs : List D} {lo hi : Option Int} {x : D} (h : x ∈ DL.cutD xs lo hi) : x ∈ xs := by
  unfold DL.cutD at h
  exact List.mem_of_mem_drop (List.mem_of_mem_take h)
theorem cut_len (xs : List D) (lo hi : Option Int) : (DL.cutD xs lo hi).length ≤ xs.length := by
  unfold DL.cutD
  rw [List.length_take, List.length_drop]
  omega
theorem cat_tt (xs ys : List D) (h : xs.length + ys.length ≤ 1000000) : gAddU (.dat (.tuple xs)) (.dat (.tuple ys)) = some (.dat (.tuple (xs ++ ys))) := by
  simp [gAddU, gII, gCatT, asT, h]
theorem sl_t (xs : List D) (lo hi : Option Int) : cutU (.dat (.tuple xs)) lo hi = some (.dat (.tuple (DL.cutD xs lo hi))) := rfl
theorem ints_shaped (l : List Int) : SeqAt.shaped (.tuple (l.map PyData.int)) = true := by
  have h1 : PyData.canLayAll0 (l.map PyData.int) = true := by
    induction l with
    | nil => rfl
    | cons z r ih => simp only [List.map_cons, PyData.canLayAll0, PyData.canLay0, ih]; rfl
  have h2 : PyData.depthAll (l.map PyData.int) = 0 := by
    induction l with
    | nil => rfl
    | cons z r ih =>
      simp only [List.map_cons, PyData.depthAll, PyData.depth, ih (by simpa only [List.map_cons, PyData.canLayAll0, PyData.canLay0, Bool.true_and] using h1)]
      rfl
  unfold SeqAt.shaped
  simp only [PyData.canLay0, PyData.depth, h1, h2]
  rfl
theorem ne_unit (l : List Int) (h : l ≠ []) : gEq true (.dat (.tuple (l.map PyData.int))) (.dat (.tuple [])) = some (.dat (.bool true)) := by
  have s0 : SeqAt.shaped (.tuple []) = true := by decide
  unfold gEq
  simp only [asD, ints_shaped, s0]
  cases l with
  | nil => exact absurd rfl h
  | cons z r => rfl
theorem f2_of {g : Sl → Sl → Option Sl} {f f' : Fe} {env : List Sl} {k k1 k2 : Dk} {a b s : Sl} (h1 : f env k = some (a, k1)) (h2 : f' env k1 = some (b, k2)) (h3 : g a b = some s) : f2 g f f' env k = some (s, k2) := by
  unfold f2
  simp only [h1, h2, h3, Option.bind_some, Option.map_some]
theorem cons_of {f : Fe} {h : Fl} {env : List Sl} {k k1 k2 : Dk} {a : Sl} {r : List Sl} (h1 : f env k = some (a, k1)) (h2 : h env k1 = some (r, k2)) : fCons f h env k = some (a :: r, k2) := by
  unfold fCons
  simp only [h1, h2, Option.bind_some, Option.map_some]
theorem nil_of {env : List Sl} {k : Dk} : fNil env k = some ([], k) := rfl
theorem c_of (d : D) {env : List Sl} {k : Dk} : fC d env k = some (.dat d, k) := rfl
theorem tup_of {c : List D → D} {h : Fl} {env : List Sl} {k k1 : Dk} {ss : List Sl} {ds : List D} (h1 : h env k = some (ss, k1)) (h2 : dats ss = some ds) (h3 : ds.length ≤ 1000000) : fSeq c h env k = some (.dat (c ds), k1) := by
  unfold fSeq
  simp only [h1, h2, Option.bind_some]
  rw [if_pos h3]
theorem call_of {n : Nat} {f : Fd} {h : Fl} {env : List Sl} {k k1 k2 : Dk} {ss : List Sl} {d : D} (h1 : h env k = some (ss, k1)) (h2 : ss.length = n ∧ ss.all okArg = true) (h3 : f ss k1 = some (d, k2)) : fCall n f h env k = some (.dat d, k2) := by
  unfold fCall
  simp only [h1, Option.bind_some]
  rw [if_pos h2, h3]
  rfl
theorem rev_t (xs : List D) (e : List Sl) (s : Sl) (k : Dk) : fRevU (fVar 1) (s :: .dat (.tuple xs) :: e) k = some (.dat (.tuple xs.reverse), k) := by
  simp [fRevU, fRevL, fRevT, f1, fVar, asL, asT]
def cc (D a b : Int) : Int := (b * b - D) / (4 * a)
def pc (D a b : Int) : Bool := (4 * a * cc D a b == b * b - D) && (decide (a ≤ cc D a b) && ((decide (0 ≤ b) || decide (a < cc D a b)) && (((gcdL [a, b, cc D a b] : Nat) : Int) == 1)))
theorem cc_small (D a b : Int) (hD : -2000 ≤ D ∧ D ≤ -3) (ha : 1 ≤ a ∧ a ≤ 29) (hb : -30 ≤ b ∧ b ≤ 30) : 0 ≤ cc D a b ∧ cc D a b ≤ 2900 := by
  have h1 : b * b ≤ 30 * 30 := by
    have : b.natAbs * b.natAbs ≤ 30 * 30 := Nat.mul_le_mul (by omega) (by omega)
    have e : ((b.natAbs * b.natAbs : Nat) : Int) = b * b := Int.natAbs_mul_self
    omega
  have h0 : 0 ≤ b * b := by
    have e : ((b.natAbs * b.natAbs : Nat) : Int) = b * b := Int.natAbs_mul_self
    omega
  unfold cc
  constructor
  · exact Int.ediv_nonneg (by omega) (by omega)
  · have : (b * b - D) / (4 * a) ≤ (b * b - D) := Int.ediv_le_self _ (by omega)
    omega
def El (x : DL.D) : Prop := ∃ a b c : Int, x = .tuple [.int a, .int b, .int c] ∧ a.natAbs ≤ 3000 ∧ b.natAbs ≤ 3000 ∧ c.natAbs ≤ 3000
def DiscOk (D : Int) : Prop := -2000 ≤ D ∧ D ≤ -3 ∧ (D % 4 = 0 ∨ D % 4 = 1)
theorem pc_one {D : Int} (h : DiscOk D) : ∃ b, 1 - 1 ≤ b ∧ b < (1 : Int) + 1 ∧ pc D 1 b = true := by
  obtain ⟨h1, h2, h3⟩ := h
  rcases h3 with h3 | h3
  · refine ⟨0, by omega, by omega, ?_⟩
    have e : cc D 1 0 = (0 - D) / 4 := by unfold cc; rfl
    unfold pc
    rw [e]
    have g : gcdL [1, 0, (0 - D) / 4] = 1 := by simp [gcdL]
    rw [g]
    simp
    omega
  · refine ⟨1, by omega, by omega, ?_⟩
    have e : cc D 1 1 = (1 - D) / 4 := by unfold cc; rfl
    unfold pc
    rw [e]
    have g : gcdL [1, 1, (1 - D) / 4] = 1 := by simp [gcdL]
    rw [g]
    simp
    omega
theorem nb_mul {x y : Int} {m n : Nat} (h1 : x.natAbs ≤ m) (h2 : y.natAbs ≤ n) : (x * y).natAbs ≤ m * n := by
  rw [Int.natAbs_mul]
  exact Nat.mul_le_mul h1 h2
theorem nb_add {x y : Int} {m n : Nat} (h1 : x.natAbs ≤ m) (h2 : y.natAbs ≤ n) : (x + y).natAbs ≤ m + n := by
  have := Int.natAbs_add_le x y
  omega
theorem cB {i j : Int} {m n : Nat} (hi : i.natAbs ≤ m) (hj : j.natAbs ≤ n) (hm : m < 10 ^ 200) (hn : n < 10 ^ 200) : cMul i j = true := cM' (by omega) (by omega)
def T4 (p q r s : Int) : DL.D := .tuple [.int p, .int q, .int r, .int s]
def T3 (a b c : Int) : DL.D := .tuple [.int a, .int b, .int c]
theorem asg_of {f : Fe} {q : Fg'} {env env' : List Sl} {k k1 : Dk} {a : Sl} (h1 : f env k = some (a, k1)) (h2 : q a env = some env') : sAsg f q env k = .nx env' k1 := by
  unfold sAsg
  simp only [h1, h2]
def M4 (B : Nat) (d : DL.D) : Prop := ∃ p q r s : Int, d = T4 p q r s ∧ p.natAbs ≤ B ∧ q.natAbs ≤ B ∧ r.natAbs ≤ B ∧ s.natAbs ≤ B
theorem cut_ints (ns : List Int) (lo hi : Option Int) : ∃ c : List Int, DL.cutD (ns.map PyData.int) lo hi = c.map PyData.int ∧ c.length ≤ ns.length := by
  refine ⟨(ns.drop (HT.sIx ns.length 0 lo)).take (HT.sIx ns.length ns.length hi - HT.sIx ns.length 0 lo), ?_, ?_⟩
  · unfold DL.cutD
    rw [List.length_map, List.map_take, List.map_drop]
  · rw [List.length_take, List.length_drop]; omega
theorem lc_int (s : Sl) (s2 s3 : Sl) (k : Dk) : ∀ (c : List Int) (acc : List DL.D), acc.length + c.length < 1000000 → loopC (qName 1) fYes (f1 gInt (fVar 1)) [s, .un, s2, s3] (c.map PyData.int) acc k = some (acc ++ c.map PyData.int, k)
  | [], acc, _ => by simp [loopC]
  | z :: c, acc, h => by
    simp only [List.length_cons] at h
    have ih := lc_int s s2 s3 k c (acc ++ [.int z]) (by rw [List.length_append, List.length_singleton]; omega)
    have hl : acc.length < 1000000 := by omega
    have key : f1 gInt (fVar 1) [s, .dat (.int z), s2, s3] k = some (.dat (.int z), k) := rfl
    simp [loopC, qName, stor, fYes, key, hl, ih]
theorem lc_bent (f : Fe) (env0 : List Sl) (hf : ∀ (z : Int) (n : Nat) (k : Dk), Ok (n + 3) k → ∃ d k', f (env0.set 9 (.dat (.int z))) k = some (.dat d, k') ∧ Good 3 8000 d ∧ Ok n k') (n : Nat) : ∀ (c : List Int) (acc : List DL.D) (k : Dk), acc.length + c.length < 1000000 → (∀ x ∈ acc, Good 3 8000 x) → Ok (n + 3 * c.length) k →
    ∃ L k', loopC (qName 9) fYes f env0 (c.map PyData.int) acc k = some (L, k') ∧ L.length = acc.length + c.length ∧ (∀ x ∈ L, Good 3 8000 x) ∧ Ok n k'
  | [], acc, k, _, ha, h => ⟨acc, k, rfl, rfl, ha, h⟩
  | z :: c, acc, k, hl, ha, h => by
    simp only [List.length_cons] at h hl
    obtain ⟨d, k1, e1, gd, ok1⟩ := hf z (n + 3 * c.length) k (h.less (by omega))
    obtain ⟨L, k', e, h1, h2, h3⟩ := lc_bent f env0 hf n c (acc ++ [d]) k1 (by rw [List.length_append, List.length_singleton]; omega) (fun x hx => by
      rcases List.mem_append.mp hx with q | q
      · exact ha x q
      · simp only [List.mem_singleton] at q; subst q; exact gd) ok1
    refine ⟨L, k', ?_, by rw [h1, List.length_append, List.length_singleton, List.length_cons]; omega, h2, h3⟩
    have hl' : acc.length < 1000000 := by omega
    simp [loopC, qName, stor, fYes, e1, hl', e]
theorem callk_of {n : Nat} {f : Fd} {h : Fl} {env : List Sl} {k k1 k2 : Dk} {ss : List Sl} {d : DL.D} (h1 : h env k = some (ss, k1)) (h2 : ss.length = n ∧ ss.all okArg = true) (h3 : f ss k1 = some (d, k2)) : fCallK n f id h env k = some (.dat d, k2) := by
  unfold fCallK
  simp only [h1, Option.bind_some, id]
  rw [if_pos h2, h3]
  rfl
theorem rep_two (b : Bool) : gMulU (.dat (.list [.bool b])) (.dat (.int 2)) = some (.dat (.list [.bool b, .bool b])) := rfl
theorem cat_four (p w : Bool) : gAddU (.dat (.list [.bool p, .bool p])) (.dat (.list [.bool w, .bool w])) = some (.dat (.list [.bool p, .bool p, .bool w, .bool w])) := rfl
theorem show_four (p w : Bool) : okShow (.list [.bool p, .bool p, .bool w, .bool w]) = true := by
  have g : ∀ x ∈ [PyData.bool p, .bool p, .bool w, .bool w], Good 0 0 x := fun x hx => by
    simp only [List.mem_cons, List.not_mem_nil, or_false] at hx
    rcases hx with rfl | rfl | rfl | rfl <;> exact good_bool _
  exact (good_lst (n := 4) g (by simp)).show (by decide) (by decide)
theorem repr_of {d : DL.D} {i : Nat} {env : List Sl} {k : Dk} (h : fVar i env k = some (.dat d, k)) (ok : okShow d = true) : f1 gRepr (fVar i) env k = some (.dat (.str d.shown), k) := by
  unfold f1
  simp only [h, Option.bind_some, gRepr]
  rw [if_pos ok]
  rfl
theorem good_T3 {a b c : Int} (ha : a.natAbs < 10 ^ 44) (hb : b.natAbs < 10 ^ 44) (hc : c.natAbs < 10 ^ 44) : Good 3 8000 (T3 a b c) := by
  refine (good_tup (m := 0) (w := 160) (n := 3) (fun x hx => ?_) (by simp)).le (by decide) (by decide)
  simp only [List.mem_cons, List.not_mem_nil, or_false] at hx
  rcases hx with rfl | rfl | rfl
  · exact gi (Nat.lt_trans ha (by decide))
  · exact gi (Nat.lt_trans hb (by decide))
  · exact gi (Nat.lt_trans hc (by decide))
theorem good_T4 {a b c e : Int} (ha : a.natAbs < 10 ^ 44) (hb : b.natAbs < 10 ^ 44) (hc : c.natAbs < 10 ^ 44) (he : e.natAbs < 10 ^ 44) : Good 3 8000 (T4 a b c e) := by
  refine (good_tup (m := 0) (w := 160) (n := 4) (fun x hx => ?_) (by simp)).le (by decide) (by decide)
  simp only [List.mem_cons, List.not_mem_nil, or_false] at hx
  rcases hx with rfl | rfl | rfl | rfl
  · exact gi (Nat.lt_trans ha (by decide))
  · exact gi (Nat.lt_trans hb (by decide))
  · exact gi (Nat.lt_trans hc (by decide))
  · exact gi (Nat.lt_trans he (by decide))
theorem cat_ll (xs ys : List DL.D) (h : xs.length + ys.length ≤ 1000000) : gAddU (.dat (.list xs)) (.dat (.list ys)) = some (.dat (.list (xs ++ ys))) := by
  simp [gAddU, gII, gCatT, gCatL, asT, asL, h]
end G
set_option maxHeartbeats 4000000
namespace G
open PySem PySem.Spec PyProof.Rows L2 DL
/-! ### what is wanted of a reading -/
def we (f : Fe) (env : List Sl) (k : Dk) (R : Sl → Dk → Prop) : Prop := ∃ s k', f env k = some (s, k') ∧ R s k'
def wl (h : Fl) (env : List Sl) (k : Dk) (R : List Sl → Dk → Prop) : Prop := ∃ s k', h env k = some (s, k') ∧ R s k'
def wt (c : Ft) (env : List Sl) (k : Dk) (R : Bool → Dk → Prop) : Prop := ∃ b k', c env k = some (b, k') ∧ R b k'
def wo (c : Fo) (env : List Sl) (k : Dk) (R : Option Int → Dk → Prop) : Prop := ∃ b k', c env k = some (b, k') ∧ R b k'
def ww (c : Fw) (env : List Sl) (k : Dk) (R : List DL.D → Dk → Prop) : Prop := ∃ b k', c env k = some (b, k') ∧ R b k'
def wf (f : Fd) (ss : List Sl) (k : Dk) (R : DL.D → Dk → Prop) : Prop := ∃ d k', f ss k = some (d, k') ∧ R d k'
structure ws (g : Fs) (env : List Sl) (k : Dk) (Q : Out → Prop) : Prop where
  out : Q (g env k)
def wg (o : Option Sl) (R : Sl → Prop) : Prop := ∃ s, o = some s ∧ R s
def wc (o : Option (List DL.D × Dk)) (R : List DL.D → Dk → Prop) : Prop := ∃ s k', o = some (s, k') ∧ R s k'
def thenS (h : Fs) (Q : Out → Prop) : Out → Prop
  | .nx e k => ws h e k Q
  | o => Q o
def retQ (R : DL.D → Dk → Prop) : Out → Prop
  | .rt d k => R d k
  | .nx _ k => R .none k
  | _ => False
def datQ (s : Sl) (R : DL.D → Prop) : Prop := ∃ d, s = .dat d ∧ R d
def rdatQ (s : Sl) (R : DL.D → Prop) : Prop := ∃ d, (s = .dat d ∨ ∃ ds, s = .own ds ∧ d = .list ds) ∧ R d
theorem rdat_i {d : DL.D} {R : DL.D → Prop} (r : R d) : rdatQ (.dat d) R := ⟨d, .inl rfl, r⟩
theorem rdat_o {ds : List DL.D} {R : DL.D → Prop} (r : R (.list ds)) : rdatQ (.own ds) R := ⟨_, .inr ⟨ds, rfl, rfl⟩, r⟩
def datsQ (ss : List Sl) (R : List DL.D → Prop) : Prop := ∃ ds, dats ss = some ds ∧ ds.length ≤ 1000000 ∧ R ds
def setQ (q : Fg') (s : Sl) (env : List Sl) (R : List Sl → Prop) : Prop := ∃ e, q s env = some e ∧ R e
def setI (i : Nat) (s : Sl) (env : List Sl) (R : List Sl → Prop) : Prop := R (env.set i s)
def setsQ (q : List DL.D → List Sl → Option (List Sl)) (ds : List DL.D) (env : List Sl) (R : List Sl → Prop) : Prop := ∃ e, q ds env = some e ∧ R e
def callQ (n : Nat) (f : Fd) (ss : List Sl) (k : Dk) (R : DL.D → Dk → Prop) : Prop := (ss.length = n ∧ ss.all okArg = true) ∧ wf f ss k R
def rng1Q (xs : List Sl) (R : List DL.D → Prop) : Prop := ∃ j : Int, xs = [.dat (.int j)] ∧ (-(2 ^ 62) ≤ j ∧ j < 2 ^ 62) ∧ R (rng 0 j.toNat)
def rng2Q (xs : List Sl) (R : List DL.D → Prop) : Prop := ∃ i j : Int, xs = [.dat (.int i), .dat (.int j)] ∧ (-(2 ^ 62) ≤ i ∧ i < 2 ^ 62 ∧ -(2 ^ 62) ≤ j ∧ j < 2 ^ 62) ∧ R (rng i (j - i).toNat)
def partQ (s : Sl) (R : Int → Prop) : Prop := ∃ i, s = .dat (.int i) ∧ R i
def parQ (xs : List Sl) (R : DL.D → DL.D → Prop) : Prop := ∃ a b, xs = [.dat a, .dat b] ∧ R a b
def walkQ (s : Sl) (R : List DL.D → Prop) : Prop := ∃ ds, (match asLd s with | some d => some d | none => asT s) = some ds ∧ R ds
def lenQ (n : Nat) (A : Prop) : Prop := n < 1000000 ∧ A
def augQ (cc : Int → Int → Bool) (a : Int) (s : Sl) (R : Int → Prop) : Prop := ∃ b, s = .dat (.int b) ∧ cc a b = true ∧ R b
theorem rng1_i {j : Int} {R : List DL.D → Prop} (h : -(2 ^ 62) ≤ j ∧ j < 2 ^ 62) (r : R (rng 0 j.toNat)) : rng1Q [.dat (.int j)] R := ⟨j, rfl, h, r⟩
theorem rng2_i {i j : Int} {R : List DL.D → Prop} (h : -(2 ^ 62) ≤ i ∧ i < 2 ^ 62 ∧ -(2 ^ 62) ≤ j ∧ j < 2 ^ 62) (r : R (rng i (j - i).toNat)) : rng2Q [.dat (.int i), .dat (.int j)] R := ⟨i, j, rfl, h, r⟩
theorem part_i {i : Int} {R : Int → Prop} (r : R i) : partQ (.dat (.int i)) R := ⟨i, rfl, r⟩
theorem par_i {a b : DL.D} {R : DL.D → DL.D → Prop} (r : R a b) : parQ [.dat a, .dat b] R := ⟨a, b, rfl, r⟩
theorem walk_t {ds : List DL.D} {R : List DL.D → Prop} (r : R ds) : walkQ (.dat (.tuple ds)) R := ⟨ds, rfl, r⟩
theorem walk_l {ds : List DL.D} {R : List DL.D → Prop} (r : R ds) : walkQ (.dat (.list ds)) R := ⟨ds, rfl, r⟩
theorem len_i {n : Nat} {A : Prop} (h : n < 1000000) (a : A) : lenQ n A := ⟨h, a⟩
theorem aug_i {cc : Int → Int → Bool} {a b : Int} {R : Int → Prop} (h : cc a b = true) (r : R b) : augQ cc a (.dat (.int b)) R := ⟨b, rfl, h, r⟩
def boolQ (s : Sl) (R : Bool → Prop) : Prop := ∃ b, s = .dat (.bool b) ∧ R b
def fork (b : Bool) (A B : Prop) : Prop := (b = true → A) ∧ (b = false → B)
section
variable {env : List Sl} {k : Dk} {R : Sl → Dk → Prop} {f g h : Fe} {hl : Fl} {c c1 c2 : Ft} {S : Bool → Dk → Prop} {L : List Sl → Dk → Prop} {Q : Out → Prop}
/-! expressions -/
theorem we_of {s : Sl} {k' : Dk} (e : f env k = some (s, k')) (r : R s k') : we f env k R := ⟨s, k', e, r⟩
theorem we_c {d : DL.D} (r : R (.dat d) k) : we (fC d) env k R := ⟨_, _, rfl, r⟩
theorem we_var {i : Nat} {s : Sl} (e : fVar i env k = some (s, k)) (r : R s k) : we (fVar i) env k R := ⟨_, _, e, r⟩
theorem we_v0 {d : DL.D} {t : List Sl} (r : R (.dat d) k) : we (fVar 0) (.dat d :: t) k R := ⟨_, _, rfl, r⟩
theorem we_o0 {d : List DL.D} {t : List Sl} (r : R (.own d) k) : we (fVar 0) (.own d :: t) k R := ⟨_, _, rfl, r⟩
theorem we_k0 {t : List Sl} (r : R .deck k) : we (fVar 0) (.deck :: t) k R := ⟨_, _, rfl, r⟩
theorem we_s0 {ns : List Int} {t : List Sl} (r : R (.scr ns) k) : we (fVar 0) (.scr ns :: t) k R := ⟨_, _, rfl, r⟩
theorem we_v1 {x0 : Sl} {d : DL.D} {t : List Sl} (r : R (.dat d) k) : we (fVar 1) (x0 :: .dat d :: t) k R := ⟨_, _, rfl, r⟩
theorem we_o1 {x0 : Sl} {d : List DL.D} {t : List Sl} (r : R (.own d) k) : we (fVar 1) (x0 :: .own d :: t) k R := ⟨_, _, rfl, r⟩
theorem we_k1 {x0 : Sl} {t : List Sl} (r : R .deck k) : we (fVar 1) (x0 :: .deck :: t) k R := ⟨_, _, rfl, r⟩
theorem we_s1 {x0 : Sl} {ns : List Int} {t : List Sl} (r : R (.scr ns) k) : we (fVar 1) (x0 :: .scr ns :: t) k R := ⟨_, _, rfl, r⟩
theorem we_v2 {x0 x1 : Sl} {d : DL.D} {t : List Sl} (r : R (.dat d) k) : we (fVar 2) (x0 :: x1 :: .dat d :: t) k R := ⟨_, _, rfl, r⟩
theorem we_o2 {x0 x1 : Sl} {d : List DL.D} {t : List Sl} (r : R (.own d) k) : we (fVar 2) (x0 :: x1 :: .own d :: t) k R := ⟨_, _, rfl, r⟩
theorem we_k2 {x0 x1 : Sl} {t : List Sl} (r : R .deck k) : we (fVar 2) (x0 :: x1 :: .deck :: t) k R := ⟨_, _, rfl, r⟩
theorem we_s2 {x0 x1 : Sl} {ns : List Int} {t : List Sl} (r : R (.scr ns) k) : we (fVar 2) (x0 :: x1 :: .scr ns :: t) k R := ⟨_, _, rfl, r⟩
theorem we_v3 {x0 x1 x2 : Sl} {d : DL.D} {t : List Sl} (r : R (.dat d) k) : we (fVar 3) (x0 :: x1 :: x2 :: .dat d :: t) k R := ⟨_, _, rfl, r⟩
theorem we_o3 {x0 x1 x2 : Sl} {d : List DL.D} {t : List Sl} (r : R (.own d) k) : we (fVar 3) (x0 :: x1 :: x2 :: .own d :: t) k R := ⟨_, _, rfl, r⟩
theorem we_v4 {x0 x1 x2 x3 : Sl} {d : DL.D} {t : List Sl} (r : R (.dat d) k) : we (fVar 4) (x0 :: x1 :: x2 :: x3 :: .dat d :: t) k R := ⟨_, _, rfl, r⟩
theorem we_o4 {x0 x1 x2 x3 : Sl} {d : List DL.D} {t : List Sl} (r : R (.own d) k) : we (fVar 4) (x0 :: x1 :: x2 :: x3 :: .own d :: t) k R := ⟨_, _, rfl, r⟩
theorem we_v5 {x0 x1 x2 x3 x4 : Sl} {d : DL.D} {t : List Sl} (r : R (.dat d) k) : we (fVar 5) (x0 :: x1 :: x2 :: x3 :: x4 :: .dat d :: t) k R := ⟨_, _, rfl, r⟩
theorem we_o5 {x0 x1 x2 x3 x4 : Sl} {d : List DL.D} {t : List Sl} (r : R (.own d) k) : we (fVar 5) (x0 :: x1 :: x2 :: x3 :: x4 :: .own d :: t) k R := ⟨_, _, rfl, r⟩
theorem we_v6 {x0 x1 x2 x3 x4 x5 : Sl} {d : DL.D} {t : List Sl} (r : R (.dat d) k) : we (fVar 6) (x0 :: x1 :: x2 :: x3 :: x4 :: x5 :: .dat d :: t) k R := ⟨_, _, rfl, r⟩
theorem we_o6 {x0 x1 x2 x3 x4 x5 : Sl} {d : List DL.D} {t : List Sl} (r : R (.own d) k) : we (fVar 6) (x0 :: x1 :: x2 :: x3 :: x4 :: x5 :: .own d :: t) k R := ⟨_, _, rfl, r⟩
theorem we_v7 {x0 x1 x2 x3 x4 x5 x6 : Sl} {d : DL.D} {t : List Sl} (r : R (.dat d) k) : we (fVar 7) (x0 :: x1 :: x2 :: x3 :: x4 :: x5 :: x6 :: .dat d :: t) k R := ⟨_, _, rfl, r⟩
theorem we_o7 {x0 x1 x2 x3 x4 x5 x6 : Sl} {d : List DL.D} {t : List Sl} (r : R (.own d) k) : we (fVar 7) (x0 :: x1 :: x2 :: x3 :: x4 :: x5 :: x6 :: .own d :: t) k R := ⟨_, _, rfl, r⟩
theorem we_v8 {x0 x1 x2 x3 x4 x5 x6 x7 : Sl} {d : DL.D} {t : List Sl} (r : R (.dat d) k) : we (fVar 8) (x0 :: x1 :: x2 :: x3 :: x4 :: x5 :: x6 :: x7 :: .dat d :: t) k R := ⟨_, _, rfl, r⟩
theorem we_o8 {x0 x1 x2 x3 x4 x5 x6 x7 : Sl} {d : List DL.D} {t : List Sl} (r : R (.own d) k) : we (fVar 8) (x0 :: x1 :: x2 :: x3 :: x4 :: x5 :: x6 :: x7 :: .own d :: t) k R := ⟨_, _, rfl, r⟩
theorem we_v9 {x0 x1 x2 x3 x4 x5 x6 x7 x8 : Sl} {d : DL.D} {t : List Sl} (r : R (.dat d) k) : we (fVar 9) (x0 :: x1 :: x2 :: x3 :: x4 :: x5 :: x6 :: x7 :: x8 :: .dat d :: t) k R := ⟨_, _, rfl, r⟩
theorem we_o9 {x0 x1 x2 x3 x4 x5 x6 x7 x8 : Sl} {d : List DL.D} {t : List Sl} (r : R (.own d) k) : we (fVar 9) (x0 :: x1 :: x2 :: x3 :: x4 :: x5 :: x6 :: x7 :: x8 :: .own d :: t) k R := ⟨_, _, rfl, r⟩
theorem we_v10 {x0 x1 x2 x3 x4 x5 x6 x7 x8 x9 : Sl} {d : DL.D} {t : List Sl} (r : R (.dat d) k) : we (fVar 10) (x0 :: x1 :: x2 :: x3 :: x4 :: x5 :: x6 :: x7 :: x8 :: x9 :: .dat d :: t) k R := ⟨_, _, rfl, r⟩
theorem we_o10 {x0 x1 x2 x3 x4 x5 x6 x7 x8 x9 : Sl} {d : List DL.D} {t : List Sl} (r : R (.own d) k) : we (fVar 10) (x0 :: x1 :: x2 :: x3 :: x4 :: x5 :: x6 :: x7 :: x8 :: x9 :: .own d :: t) k R := ⟨_, _, rfl, r⟩
theorem we_v11 {x0 x1 x2 x3 x4 x5 x6 x7 x8 x9 x10 : Sl} {d : DL.D} {t : List Sl} (r : R (.dat d) k) : we (fVar 11) (x0 :: x1 :: x2 :: x3 :: x4 :: x5 :: x6 :: x7 :: x8 :: x9 :: x10 :: .dat d :: t) k R := ⟨_, _, rfl, r⟩
theorem we_o11 {x0 x1 x2 x3 x4 x5 x6 x7 x8 x9 x10 : Sl} {d : List DL.D} {t : List Sl} (r : R (.own d) k) : we (fVar 11) (x0 :: x1 :: x2 :: x3 :: x4 :: x5 :: x6 :: x7 :: x8 :: x9 :: x10 :: .own d :: t) k R := ⟨_, _, rfl, r⟩
theorem we_v12 {x0 x1 x2 x3 x4 x5 x6 x7 x8 x9 x10 x11 : Sl} {d : DL.D} {t : List Sl} (r : R (.dat d) k) : we (fVar 12) (x0 :: x1 :: x2 :: x3 :: x4 :: x5 :: x6 :: x7 :: x8 :: x9 :: x10 :: x11 :: .dat d :: t) k R := ⟨_, _, rfl, r⟩
theorem we_o12 {x0 x1 x2 x3 x4 x5 x6 x7 x8 x9 x10 x11 : Sl} {d : List DL.D} {t : List Sl} (r : R (.own d) k) : we (fVar 12) (x0 :: x1 :: x2 :: x3 :: x4 :: x5 :: x6 :: x7 :: x8 :: x9 :: x10 :: x11 :: .own d :: t) k R := ⟨_, _, rfl, r⟩
theorem we_v13 {x0 x1 x2 x3 x4 x5 x6 x7 x8 x9 x10 x11 x12 : Sl} {d : DL.D} {t : List Sl} (r : R (.dat d) k) : we (fVar 13) (x0 :: x1 :: x2 :: x3 :: x4 :: x5 :: x6 :: x7 :: x8 :: x9 :: x10 :: x11 :: x12 :: .dat d :: t) k R := ⟨_, _, rfl, r⟩
theorem we_o13 {x0 x1 x2 x3 x4 x5 x6 x7 x8 x9 x10 x11 x12 : Sl} {d : List DL.D} {t : List Sl} (r : R (.own d) k) : we (fVar 13) (x0 :: x1 :: x2 :: x3 :: x4 :: x5 :: x6 :: x7 :: x8 :: x9 :: x10 :: x11 :: x12 :: .own d :: t) k R := ⟨_, _, rfl, r⟩
theorem we_v14 {x0 x1 x2 x3 x4 x5 x6 x7 x8 x9 x10 x11 x12 x13 : Sl} {d : DL.D} {t : List Sl} (r : R (.dat d) k) : we (fVar 14) (x0 :: x1 :: x2 :: x3 :: x4 :: x5 :: x6 :: x7 :: x8 :: x9 :: x10 :: x11 :: x12 :: x13 :: .dat d :: t) k R := ⟨_, _, rfl, r⟩
theorem we_o14 {x0 x1 x2 x3 x4 x5 x6 x7 x8 x9 x10 x11 x12 x13 : Sl} {d : List DL.D} {t : List Sl} (r : R (.own d) k) : we (fVar 14) (x0 :: x1 :: x2 :: x3 :: x4 :: x5 :: x6 :: x7 :: x8 :: x9 :: x10 :: x11 :: x12 :: x13 :: .own d :: t) k R := ⟨_, _, rfl, r⟩
theorem we_v15 {x0 x1 x2 x3 x4 x5 x6 x7 x8 x9 x10 x11 x12 x13 x14 : Sl} {d : DL.D} {t : List Sl} (r : R (.dat d) k) : we (fVar 15) (x0 :: x1 :: x2 :: x3 :: x4 :: x5 :: x6 :: x7 :: x8 :: x9 :: x10 :: x11 :: x12 :: x13 :: x14 :: .dat d :: t) k R := ⟨_, _, rfl, r⟩
theorem we_o15 {x0 x1 x2 x3 x4 x5 x6 x7 x8 x9 x10 x11 x12 x13 x14 : Sl} {d : List DL.D} {t : List Sl} (r : R (.own d) k) : we (fVar 15) (x0 :: x1 :: x2 :: x3 :: x4 :: x5 :: x6 :: x7 :: x8 :: x9 :: x10 :: x11 :: x12 :: x13 :: x14 :: .own d :: t) k R := ⟨_, _, rfl, r⟩
theorem we_v16 {x0 x1 x2 x3 x4 x5 x6 x7 x8 x9 x10 x11 x12 x13 x14 x15 : Sl} {d : DL.D} {t : List Sl} (r : R (.dat d) k) : we (fVar 16) (x0 :: x1 :: x2 :: x3 :: x4 :: x5 :: x6 :: x7 :: x8 :: x9 :: x10 :: x11 :: x12 :: x13 :: x14 :: x15 :: .dat d :: t) k R := ⟨_, _, rfl, r⟩
theorem we_o16 {x0 x1 x2 x3 x4 x5 x6 x7 x8 x9 x10 x11 x12 x13 x14 x15 : Sl} {d : List DL.D} {t : List Sl} (r : R (.own d) k) : we (fVar 16) (x0 :: x1 :: x2 :: x3 :: x4 :: x5 :: x6 :: x7 :: x8 :: x9 :: x10 :: x11 :: x12 :: x13 :: x14 :: x15 :: .own d :: t) k R := ⟨_, _, rfl, r⟩
theorem we_v17 {x0 x1 x2 x3 x4 x5 x6 x7 x8 x9 x10 x11 x12 x13 x14 x15 x16 : Sl} {d : DL.D} {t : List Sl} (r : R (.dat d) k) : we (fVar 17) (x0 :: x1 :: x2 :: x3 :: x4 :: x5 :: x6 :: x7 :: x8 :: x9 :: x10 :: x11 :: x12 :: x13 :: x14 :: x15 :: x16 :: .dat d :: t) k R := ⟨_, _, rfl, r⟩
theorem we_o17 {x0 x1 x2 x3 x4 x5 x6 x7 x8 x9 x10 x11 x12 x13 x14 x15 x16 : Sl} {d : List DL.D} {t : List Sl} (r : R (.own d) k) : we (fVar 17) (x0 :: x1 :: x2 :: x3 :: x4 :: x5 :: x6 :: x7 :: x8 :: x9 :: x10 :: x11 :: x12 :: x13 :: x14 :: x15 :: x16 :: .own d :: t) k R := ⟨_, _, rfl, r⟩
theorem we_v18 {x0 x1 x2 x3 x4 x5 x6 x7 x8 x9 x10 x11 x12 x13 x14 x15 x16 x17 : Sl} {d : DL.D} {t : List Sl} (r : R (.dat d) k) : we (fVar 18) (x0 :: x1 :: x2 :: x3 :: x4 :: x5 :: x6 :: x7 :: x8 :: x9 :: x10 :: x11 :: x12 :: x13 :: x14 :: x15 :: x16 :: x17 :: .dat d :: t) k R := ⟨_, _, rfl, r⟩
theorem we_o18 {x0 x1 x2 x3 x4 x5 x6 x7 x8 x9 x10 x11 x12 x13 x14 x15 x16 x17 : Sl} {d : List DL.D} {t : List Sl} (r : R (.own d) k) : we (fVar 18) (x0 :: x1 :: x2 :: x3 :: x4 :: x5 :: x6 :: x7 :: x8 :: x9 :: x10 :: x11 :: x12 :: x13 :: x14 :: x15 :: x16 :: x17 :: .own d :: t) k R := ⟨_, _, rfl, r⟩
theorem we_v19 {x0 x1 x2 x3 x4 x5 x6 x7 x8 x9 x10 x11 x12 x13 x14 x15 x16 x17 x18 : Sl} {d : DL.D} {t : List Sl} (r : R (.dat d) k) : we (fVar 19) (x0 :: x1 :: x2 :: x3 :: x4 :: x5 :: x6 :: x7 :: x8 :: x9 :: x10 :: x11 :: x12 :: x13 :: x14 :: x15 :: x16 :: x17 :: x18 :: .dat d :: t) k R := ⟨_, _, rfl, r⟩
theorem we_o19 {x0 x1 x2 x3 x4 x5 x6 x7 x8 x9 x10 x11 x12 x13 x14 x15 x16 x17 x18 : Sl} {d : List DL.D} {t : List Sl} (r : R (.own d) k) : we (fVar 19) (x0 :: x1 :: x2 :: x3 :: x4 :: x5 :: x6 :: x7 :: x8 :: x9 :: x10 :: x11 :: x12 :: x13 :: x14 :: x15 :: x16 :: x17 :: x18 :: .own d :: t) k R := ⟨_, _, rfl, r⟩
theorem we_v20 {x0 x1 x2 x3 x4 x5 x6 x7 x8 x9 x10 x11 x12 x13 x14 x15 x16 x17 x18 x19 : Sl} {d : DL.D} {t : List Sl} (r : R (.dat d) k) : we (fVar 20) (x0 :: x1 :: x2 :: x3 :: x4 :: x5 :: x6 :: x7 :: x8 :: x9 :: x10 :: x11 :: x12 :: x13 :: x14 :: x15 :: x16 :: x17 :: x18 :: x19 :: .dat d :: t) k R := ⟨_, _, rfl, r⟩
theorem we_o20 {x0 x1 x2 x3 x4 x5 x6 x7 x8 x9 x10 x11 x12 x13 x14 x15 x16 x17 x18 x19 : Sl} {d : List DL.D} {t : List Sl} (r : R (.own d) k) : we (fVar 20) (x0 :: x1 :: x2 :: x3 :: x4 :: x5 :: x6 :: x7 :: x8 :: x9 :: x10 :: x11 :: x12 :: x13 :: x14 :: x15 :: x16 :: x17 :: x18 :: x19 :: .own d :: t) k R := ⟨_, _, rfl, r⟩
theorem we_v21 {x0 x1 x2 x3 x4 x5 x6 x7 x8 x9 x10 x11 x12 x13 x14 x15 x16 x17 x18 x19 x20 : Sl} {d : DL.D} {t : List Sl} (r : R (.dat d) k) : we (fVar 21) (x0 :: x1 :: x2 :: x3 :: x4 :: x5 :: x6 :: x7 :: x8 :: x9 :: x10 :: x11 :: x12 :: x13 :: x14 :: x15 :: x16 :: x17 :: x18 :: x19 :: x20 :: .dat d :: t) k R := ⟨_, _, rfl, r⟩
theorem we_o21 {x0 x1 x2 x3 x4 x5 x6 x7 x8 x9 x10 x11 x12 x13 x14 x15 x16 x17 x18 x19 x20 : Sl} {d : List DL.D} {t : List Sl} (r : R (.own d) k) : we (fVar 21) (x0 :: x1 :: x2 :: x3 :: x4 :: x5 :: x6 :: x7 :: x8 :: x9 :: x10 :: x11 :: x12 :: x13 :: x14 :: x15 :: x16 :: x17 :: x18 :: x19 :: x20 :: .own d :: t) k R := ⟨_, _, rfl, r⟩
theorem we_v22 {x0 x1 x2 x3 x4 x5 x6 x7 x8 x9 x10 x11 x12 x13 x14 x15 x16 x17 x18 x19 x20 x21 : Sl} {d : DL.D} {t : List Sl} (r : R (.dat d) k) : we (fVar 22) (x0 :: x1 :: x2 :: x3 :: x4 :: x5 :: x6 :: x7 :: x8 :: x9 :: x10 :: x11 :: x12 :: x13 :: x14 :: x15 :: x16 :: x17 :: x18 :: x19 :: x20 :: x21 :: .dat d :: t) k R := ⟨_, _, rfl, r⟩
theorem we_o22 {x0 x1 x2 x3 x4 x5 x6 x7 x8 x9 x10 x11 x12 x13 x14 x15 x16 x17 x18 x19 x20 x21 : Sl} {d : List DL.D} {t : List Sl} (r : R (.own d) k) : we (fVar 22) (x0 :: x1 :: x2 :: x3 :: x4 :: x5 :: x6 :: x7 :: x8 :: x9 :: x10 :: x11 :: x12 :: x13 :: x14 :: x15 :: x16 :: x17 :: x18 :: x19 :: x20 :: x21 :: .own d :: t) k R := ⟨_, _, rfl, r⟩
theorem we_v23 {x0 x1 x2 x3 x4 x5 x6 x7 x8 x9 x10 x11 x12 x13 x14 x15 x16 x17 x18 x19 x20 x21 x22 : Sl} {d : DL.D} {t : List Sl} (r : R (.dat d) k) : we (fVar 23) (x0 :: x1 :: x2 :: x3 :: x4 :: x5 :: x6 :: x7 :: x8 :: x9 :: x10 :: x11 :: x12 :: x13 :: x14 :: x15 :: x16 :: x17 :: x18 :: x19 :: x20 :: x21 :: x22 :: .dat d :: t) k R := ⟨_, _, rfl, r⟩
theorem we_o23 {x0 x1 x2 x3 x4 x5 x6 x7 x8 x9 x10 x11 x12 x13 x14 x15 x16 x17 x18 x19 x20 x21 x22 : Sl} {d : List DL.D} {t : List Sl} (r : R (.own d) k) : we (fVar 23) (x0 :: x1 :: x2 :: x3 :: x4 :: x5 :: x6 :: x7 :: x8 :: x9 :: x10 :: x11 :: x12 :: x13 :: x14 :: x15 :: x16 :: x17 :: x18 :: x19 :: x20 :: x21 :: x22 :: .own d :: t) k R := ⟨_, _, rfl, r⟩
theorem we_v24 {x0 x1 x2 x3 x4 x5 x6 x7 x8 x9 x10 x11 x12 x13 x14 x15 x16 x17 x18 x19 x20 x21 x22 x23 : Sl} {d : DL.D} {t : List Sl} (r : R (.dat d) k) : we (fVar 24) (x0 :: x1 :: x2 :: x3 :: x4 :: x5 :: x6 :: x7 :: x8 :: x9 :: x10 :: x11 :: x12 :: x13 :: x14 :: x15 :: x16 :: x17 :: x18 :: x19 :: x20 :: x21 :: x22 :: x23 :: .dat d :: t) k R := ⟨_, _, rfl, r⟩
theorem we_o24 {x0 x1 x2 x3 x4 x5 x6 x7 x8 x9 x10 x11 x12 x13 x14 x15 x16 x17 x18 x19 x20 x21 x22 x23 : Sl} {d : List DL.D} {t : List Sl} (r : R (.own d) k) : we (fVar 24) (x0 :: x1 :: x2 :: x3 :: x4 :: x5 :: x6 :: x7 :: x8 :: x9 :: x10 :: x11 :: x12 :: x13 :: x14 :: x15 :: x16 :: x17 :: x18 :: x19 :: x20 :: x21 :: x22 :: x23 :: .own d :: t) k R := ⟨_, _, rfl, r⟩
theorem we_v25 {x0 x1 x2 x3 x4 x5 x6 x7 x8 x9 x10 x11 x12 x13 x14 x15 x16 x17 x18 x19 x20 x21 x22 x23 x24 : Sl} {d : DL.D} {t : List Sl} (r : R (.dat d) k) : we (fVar 25) (x0 :: x1 :: x2 :: x3 :: x4 :: x5 :: x6 :: x7 :: x8 :: x9 :: x10 :: x11 :: x12 :: x13 :: x14 :: x15 :: x16 :: x17 :: x18 :: x19 :: x20 :: x21 :: x22 :: x23 :: x24 :: .dat d :: t) k R := ⟨_, _, rfl, r⟩
theorem we_o25 {x0 x1 x2 x3 x4 x5 x6 x7 x8 x9 x10 x11 x12 x13 x14 x15 x16 x17 x18 x19 x20 x21 x22 x23 x24 : Sl} {d : List DL.D} {t : List Sl} (r : R (.own d) k) : we (fVar 25) (x0 :: x1 :: x2 :: x3 :: x4 :: x5 :: x6 :: x7 :: x8 :: x9 :: x10 :: x11 :: x12 :: x13 :: x14 :: x15 :: x16 :: x17 :: x18 :: x19 :: x20 :: x21 :: x22 :: x23 :: x24 :: .own d :: t) k R := ⟨_, _, rfl, r⟩
theorem we_f1 {o : Sl → Option Sl} (r : we f env k fun x k1 => wg (o x) fun s => R s k1) : we (f1 o f) env k R := by
  obtain ⟨x, k1, e1, s, e2, r⟩ := r
  exact ⟨s, k1, by unfold f1; simp only [e1, e2, Option.bind_some, Option.map_some], r⟩
theorem we_f2 {o : Sl → Sl → Option Sl} (r : we f env k fun x k1 => we g env k1 fun y k2 => wg (o x y) fun s => R s k2) : we (f2 o f g) env k R := by
  obtain ⟨x, k1, e1, y, k2, e2, s, e3, r⟩ := r
  exact ⟨s, k2, f2_of e1 e2 e3, r⟩
theorem we_add (r : we f env k fun x k1 => we g env k1 fun y k2 => wg (gII c0 (fun i j => .int (i + j)) x y) fun s => R s k2) : we (fAdd f g) env k R := we_f2 r
theorem we_sub (r : we f env k fun x k1 => we g env k1 fun y k2 => wg (gII c0 (fun i j => .int (i - j)) x y) fun s => R s k2) : we (fSub f g) env k R := we_f2 r
theorem we_mul (r : we f env k fun x k1 => we g env k1 fun y k2 => wg (gII cMul (fun i j => .int (i * j)) x y) fun s => R s k2) : we (fMul f g) env k R := we_f2 r
theorem we_div (r : we f env k fun x k1 => we g env k1 fun y k2 => wg (gII cDiv (fun i j => .int (i / j)) x y) fun s => R s k2) : we (fDiv f g) env k R := we_f2 r
theorem we_mod (r : we f env k fun x k1 => we g env k1 fun y k2 => wg (gII cMod (fun i j => .int (i.fmod j)) x y) fun s => R s k2) : we (fMod f g) env k R := we_f2 r
theorem we_cmp {p : Int → Int → Bool} (r : we f env k fun x k1 => we g env k1 fun y k2 => wg (gII c0 (fun i j => .bool (p i j)) x y) fun s => R s k2) : we (fCmp p f g) env k R := we_f2 r
theorem we_eq (r : we f env k fun x k1 => we g env k1 fun y k2 => wg (gEq false x y) fun s => R s k2) : we (fEq f g) env k R := we_f2 r
theorem we_ne (r : we f env k fun x k1 => we g env k1 fun y k2 => wg (gEq true x y) fun s => R s k2) : we (fNe f g) env k R := we_f2 r
theorem we_ix (r : we f env k fun x k1 => we g env k1 fun y k2 => wg (gIx asQ x y) fun s => R s k2) : we (fIx f g) env k R := we_f2 r
theorem we_ixt (r : we f env k fun x k1 => we g env k1 fun y k2 => wg (gIx asT x y) fun s => R s k2) : we (fIxT f g) env k R := we_f2 r
theorem we_pow (r : we f env k fun x k1 => we g env k1 fun y k2 => wg (gII cPow (fun i j => .int (i ^ j.toNat)) x y) fun s => R s k2) : we (fPow f g) env k R := we_f2 r
theorem we_gcd (r : we f env k fun x k1 => we g env k1 fun y k2 => wg (gII c0 (fun i j => .int ((Nat.gcd i.natAbs j.natAbs : Nat) : Int)) x y) fun s => R s k2) : we (fGcd f g) env k R := we_f2 r
theorem we_max (r : we f env k fun x k1 => we g env k1 fun y k2 => wg (gII c0 (fun i j => .int (if j > i then j else i)) x y) fun s => R s k2) : we (fMax f g) env k R := we_f2 r
theorem we_neg (r : we f env k fun x k1 => wg (gI (fun _ => true) (fun i => .int (-i)) x) fun s => R s k1) : we (fNeg f) env k R := we_f1 r
theorem wl_nil (r : L [] k) : wl fNil env k L := ⟨_, _, rfl, r⟩
theorem wl_cons (r : we f env k fun x k1 => wl hl env k1 fun xs k2 => L (x :: xs) k2) : wl (fCons f hl) env k L := by
  obtain ⟨x, k1, e1, y, k2, e2, r⟩ := r
  exact ⟨_, k2, cons_of e1 e2, r⟩
theorem we_seq {c : List DL.D → DL.D} (r : wl hl env k fun xs k1 => datsQ xs fun ds => R (.dat (c ds)) k1) : we (fSeq c hl) env k R := by
  obtain ⟨x, k1, e1, y, e2, h3, r⟩ := r
  exact ⟨_, k1, tup_of e1 e2 h3, r⟩
theorem we_call {n : Nat} {d : Fd} (r : wl hl env k fun xs k1 => callQ n d xs k1 fun v k2 => R (.dat v) k2) : we (fCall n d hl) env k R := by
  obtain ⟨x, k1, e1, h2, v, k2, e3, r⟩ := r
  exact ⟨_, k2, call_of e1 h2 e3, r⟩
theorem we_callk {n : Nat} {d : Fd} {p : List Sl → List Sl} (r : wl hl env k fun xs k1 => callQ n d (p xs) k1 fun v k2 => R (.dat v) k2) : we (fCallK n d p hl) env k R := by
  obtain ⟨x, k1, e1, h2, v, k2, e3, r⟩ := r
  exact ⟨_, k2, by unfold fCallK; simp only [e1, Option.bind_some]; rw [if_pos h2, e3]; rfl, r⟩
theorem we_callid {n : Nat} {d : Fd} (r : wl hl env k fun xs k1 => callQ n d xs k1 fun v k2 => R (.dat v) k2) : we (fCallK n d id hl) env k R := we_callk (p := id) r
theorem we_if (r : wt c env k fun b k1 => fork b (we f env k1 R) (we g env k1 R)) : we (fIf c f g) env k R := by
  obtain ⟨b, k1, e1, r⟩ := r
  cases b with
  | true =>
    obtain ⟨s, k2, e2, r⟩ := r.1 rfl
    exact ⟨s, k2, by unfold fIf; rw [e1]; exact e2, r⟩
  | false =>
    obtain ⟨s, k2, e2, r⟩ := r.2 rfl
    exact ⟨s, k2, by unfold fIf; rw [e1]; exact e2, r⟩
theorem we_and (r : wt (fTest f) env k fun b k1 => fork b (we g env k1 R) (R (.dat (.bool false)) k1)) : we (fAnd f g) env k R := by
  obtain ⟨b, k1, e1, r⟩ := r
  cases b with
  | true =>
    obtain ⟨s, k2, e2, r⟩ := r.1 rfl
    exact ⟨s, k2, by unfold fAnd; rw [e1]; exact e2, r⟩
  | false => exact ⟨_, k1, by unfold fAnd; rw [e1]; rfl, r.2 rfl⟩
theorem we_or (r : wt (fTest f) env k fun b k1 => fork b (R (.dat (.bool true)) k1) (we g env k1 R)) : we (fOr f g) env k R := by
  obtain ⟨b, k1, e1, r⟩ := r
  cases b with
  | false =>
    obtain ⟨s, k2, e2, r⟩ := r.2 rfl
    exact ⟨s, k2, by unfold fOr; rw [e1]; exact e2, r⟩
  | true => exact ⟨_, k1, by unfold fOr; rw [e1]; rfl, r.1 rfl⟩
theorem we_not (r : wt (fTest f) env k fun b k1 => R (.dat (.bool (!b))) k1) : we (fNot f) env k R := by
  obtain ⟨b, k1, e1, r⟩ := r
  exact ⟨_, k1, by unfold fNot; rw [e1]; rfl, r⟩
theorem we_slu {l u : Fo} (r : we f env k fun x k1 => wo l env k1 fun a k2 => wo u env k2 fun b k3 => wg (cutU x a b) fun s => R s k3) : we (fSlU f l u) env k R := by
  obtain ⟨x, k1, e1, a, k2, e2, b, k3, e3, s, e4, r⟩ := r
  exact ⟨s, k3, by unfold fSlU; simp only [e1, e2, e3, e4, Option.bind_some, Option.map_some], r⟩
theorem wo_no {P : Option Int → Dk → Prop} (r : P none k) : wo fNoPart env k P := ⟨_, _, rfl, r⟩
theorem wo_part {P : Option Int → Dk → Prop} (r : we f env k fun x k1 => partQ x fun i => P (some i) k1) : wo (fPart f) env k P := by
  obtain ⟨x, k1, e1, i, rfl, r⟩ := r
  exact ⟨_, k1, by unfold fPart; rw [e1]; rfl, r⟩
theorem we_dki {i : Nat} {p : Dk → Int} (hd : isDeck env i = true) (r : R (.dat (.int (p k))) k) : we (fDkI i p) env k R := ⟨_, _, by unfold fDkI; rw [if_pos hd], r⟩
theorem we_lc {fi : Fw} {q : Fg'} {vs : List Nat} (r : ww fi env k fun ds k1 => wc (loopC q c f (wipeE env vs) ds [] k1) fun xs k2 => R (.dat (.list xs)) k2) : we (fLc fi q c f vs) env k R := by
  obtain ⟨ds, k1, e1, xs, k2, e2, r⟩ := r
  exact ⟨_, k2, by unfold fLc; simp only [e1, e2, Option.bind_some, Option.map_some], r⟩
/-! leaves -/
theorem wg_of {o : Option Sl} {P : Sl → Prop} {s : Sl} (e : o = some s) (r : P s) : wg o P := ⟨s, e, r⟩
theorem wg_ii0 {u : Int → Int → DL.D} {P : Sl → Prop} {i j : Int} (r : P (.dat (u i j))) : wg (gII c0 u (.dat (.int i)) (.dat (.int j))) P := ⟨_, rfl, r⟩
theorem wg_ii {cc : Int → Int → Bool} {u : Int → Int → DL.D} {P : Sl → Prop} {i j : Int} (hc : cc i j = true) (r : P (.dat (u i j))) : wg (gII cc u (.dat (.int i)) (.dat (.int j))) P := ⟨_, by unfold gII; simp only [hc, if_pos], r⟩
theorem wg_pow {P : Sl → Prop} {i j z : Int} (hc : cPow i j = true) (e : i ^ j.toNat = z) (r : P (.dat (.int z))) : wg (gII cPow (fun i j => .int (i ^ j.toNat)) (.dat (.int i)) (.dat (.int j))) P := ⟨_, by unfold gII; simp only [hc, if_pos]; rfl, by subst e; exact r⟩
theorem nat_of {x : Int} {n : Nat} (h : -(n : Int) < x ∧ x < (n : Int)) : x.natAbs < n := by omega
theorem cMi {i j : Int} (hi : -(10 ^ 150) < i ∧ i < 10 ^ 150) (hj : -(10 ^ 150) < j ∧ j < 10 ^ 150) : cMul i j = true := cM' (by omega) (by omega)
theorem mul_in {x y a b : Int} (h : -a ≤ x ∧ x ≤ a) (h2 : -b ≤ y ∧ y ≤ b) : -(a * b) ≤ x * y ∧ x * y ≤ a * b := by
  have e : (x * y).natAbs ≤ (a * b).natAbs := by
    rw [Int.natAbs_mul, Int.natAbs_mul]
    exact Nat.mul_le_mul (by omega) (by omega)
  have p : 0 ≤ a * b := Int.mul_nonneg (by omega) (by omega)
  omega
theorem wg_i {u : Int → DL.D} {P : Sl → Prop} {i : Int} (r : P (.dat (u i))) : wg (gI (fun _ => true) u (.dat (.int i))) P := ⟨_, rfl, r⟩
theorem wg_int {P : Sl → Prop} {i : Int} (r : P (.dat (.int i))) : wg (gInt (.dat (.int i))) P := ⟨_, rfl, r⟩
theorem wg_addi {P : Sl → Prop} {i j : Int} (r : P (.dat (.int (i + j)))) : wg (gAddU (.dat (.int i)) (.dat (.int j))) P := ⟨_, rfl, r⟩
theorem wg_addt {P : Sl → Prop} {xs ys : List DL.D} (hl : xs.length + ys.length ≤ 1000000) (r : P (.dat (.tuple (xs ++ ys)))) : wg (gAddU (.dat (.tuple xs)) (.dat (.tuple ys))) P := ⟨_, cat_tt _ _ hl, r⟩
theorem cat_ll' (xs ys : List DL.D) (h : xs.length + ys.length ≤ 1000000) : gAddU (.dat (.list xs)) (.dat (.list ys)) = some (.dat (.list (xs ++ ys))) := by
  simp [gAddU, gII, gCatT, gCatL, asT, asL, h]
theorem wg_addl {P : Sl → Prop} {xs ys : List DL.D} (hl : xs.length + ys.length ≤ 1000000) (r : P (.dat (.list (xs ++ ys)))) : wg (gAddU (.dat (.list xs)) (.dat (.list ys))) P := ⟨_, cat_ll' _ _ hl, r⟩
theorem wg_muli {P : Sl → Prop} {i j : Int} (hc : cMul i j = true) (r : P (.dat (.int (i * j)))) : wg (gMulU (.dat (.int i)) (.dat (.int j))) P := ⟨_, by unfold gMulU gII; simp only [hc, if_pos], r⟩
theorem wg_eqi {P : Sl → Prop} {i j : Int} (r : P (.dat (.bool (i == j)))) : wg (gEq false (.dat (.int i)) (.dat (.int j))) P := ⟨_, eqII i j, r⟩
theorem wg_nei {P : Sl → Prop} {i j : Int} (r : P (.dat (.bool (!(i == j))))) : wg (gEq true (.dat (.int i)) (.dat (.int j))) P := ⟨_, neII i j, r⟩
theorem wg_eqs {P : Sl → Prop} {neg : Bool} {i j : Str} (r : P (.dat (.bool (if neg then !decide (i = j) else decide (i = j))))) : wg (gEqS neg (.dat (.str i)) (.dat (.str j))) P := ⟨_, rfl, r⟩
theorem wg_eqd {P : Sl → Prop} {neg : Bool} {x y : DL.D} (hx : SeqAt.shaped x = true) (hy : SeqAt.shaped y = true) (r : P (.dat (.bool (if neg then !PyData.eqv x y else PyData.eqv x y)))) : wg (gEq neg (.dat x) (.dat y)) P := ⟨_, by unfold gEq; simp only [asD, hx, hy]; rfl, r⟩
theorem wg_isn {P : Sl → Prop} {neg : Bool} {a : Sl} {b : Bool} (e : isNon a = some b) (r : P (.dat (.bool (if neg then !b else b)))) : wg (gIsN neg a (.dat .none)) P := ⟨_, by unfold gIsN; simp only [e, Option.map_some], r⟩
theorem wg_isb {P : Sl → Prop} {neg : Bool} {x y : Bool} (r : P (.dat (.bool (if neg then !decide (x = y) else decide (x = y))))) : wg (gIsB neg (.dat (.bool x)) (.dat (.bool y))) P := ⟨_, rfl, r⟩
theorem wg_eqs_t {P : Sl → Prop} {i j : Str} (r : P (.dat (.bool (!decide (i = j))))) : wg (gEqS true (.dat (.str i)) (.dat (.str j))) P := ⟨_, rfl, r⟩
theorem wg_eqs_f {P : Sl → Prop} {i j : Str} (r : P (.dat (.bool (decide (i = j))))) : wg (gEqS false (.dat (.str i)) (.dat (.str j))) P := ⟨_, rfl, r⟩
theorem wg_eqd_t {P : Sl → Prop} {x y : DL.D} (hx : SeqAt.shaped x = true) (hy : SeqAt.shaped y = true) (r : P (.dat (.bool (!PyData.eqv x y)))) : wg (gEq true (.dat x) (.dat y)) P := wg_eqd hx hy r
theorem wg_eqd_f {P : Sl → Prop} {x y : DL.D} (hx : SeqAt.shaped x = true) (hy : SeqAt.shaped y = true) (r : P (.dat (.bool (PyData.eqv x y)))) : wg (gEq false (.dat x) (.dat y)) P := wg_eqd hx hy r
theorem wg_isn_t {P : Sl → Prop} {a : Sl} {b : Bool} (e : isNon a = some b) (r : P (.dat (.bool (!b)))) : wg (gIsN true a (.dat .none)) P := wg_isn e r
theorem wg_isn_f {P : Sl → Prop} {a : Sl} {b : Bool} (e : isNon a = some b) (r : P (.dat (.bool b))) : wg (gIsN false a (.dat .none)) P := wg_isn e r
theorem wg_isb_t {P : Sl → Prop} {x y : Bool} (r : P (.dat (.bool (!decide (x = y))))) : wg (gIsB true (.dat (.bool x)) (.dat (.bool y))) P := ⟨_, rfl, r⟩
theorem wg_isb_f {P : Sl → Prop} {x y : Bool} (r : P (.dat (.bool (decide (x = y))))) : wg (gIsB false (.dat (.bool x)) (.dat (.bool y))) P := ⟨_, rfl, r⟩
theorem wg_ix {P : Sl → Prop} {as : Sl → Option (List DL.D)} {a : Sl} {ds : List DL.D} {i : Int} {d : DL.D} (h1 : as a = some ds) (h2 : atI ds i = some d) (r : P (.dat d)) : wg (gIx as a (.dat (.int i))) P := ⟨_, by unfold gIx; simp only [h1, h2, Option.bind_some, Option.map_some], r⟩
theorem wg_len {P : Sl → Prop} {a : Sl} {ds : List DL.D} (h1 : asQ a = some ds) (r : P (.dat (.int (ds.length : Nat)))) : wg (gLen a) P := ⟨_, by unfold gLen; simp only [h1, Option.map_some], r⟩
theorem wg_repr {P : Sl → Prop} {d : DL.D} (h : okShow d = true) (r : P (.dat (.str d.shown))) : wg (gRepr (.dat d)) P := ⟨_, (if_pos h : gRepr (.dat d) = _), r⟩
theorem wg_isi {P : Sl → Prop} {n : String} {d : DL.D} (r : P (.dat (.bool (isiB n d)))) : wg (gIsi n (.dat d)) P := ⟨_, rfl, r⟩
theorem wg_tupof {P : Sl → Prop} {a : Sl} {ds : List DL.D} (h1 : asQ a = some ds) (r : P (.dat (.tuple ds))) : wg (gTupOf a) P := ⟨_, by unfold gTupOf; simp only [h1, Option.map_some], r⟩
theorem wg_listof {P : Sl → Prop} {a : Sl} {ds : List DL.D} (h1 : asQ a = some ds) (r : P (.dat (.list ds))) : wg (gListOf a) P := ⟨_, by unfold gListOf; simp only [h1, Option.map_some], r⟩
theorem wg_abs {P : Sl → Prop} {i : Int} (r : P (.dat (.int (if i < 0 then -i else i)))) : wg (gAbs (.dat (.int i))) P := ⟨_, rfl, r⟩
theorem wg_nil {P : Sl → Prop} {neg : Bool} {a b : Sl} {ds : List DL.D} (h1 : asL a = some ds) (h2 : asL b = some []) (r : P (.dat (.bool (if neg then !ds.isEmpty else ds.isEmpty)))) : wg (gNil neg a b) P := ⟨_, by unfold DL.gNil; simp only [h1, h2], r⟩
theorem wg_nil_t {P : Sl → Prop} {a b : Sl} {ds : List DL.D} (h1 : asL a = some ds) (h2 : asL b = some []) (r : P (.dat (.bool (!ds.isEmpty)))) : wg (gNil true a b) P := wg_nil h1 h2 r
theorem wg_nil_f {P : Sl → Prop} {a b : Sl} {ds : List DL.D} (h1 : asL a = some ds) (h2 : asL b = some []) (r : P (.dat (.bool ds.isEmpty))) : wg (gNil false a b) P := wg_nil h1 h2 r
theorem wg_cutt {P : Sl → Prop} {ds : List DL.D} {lo hi : Option Int} (r : P (.dat (.tuple (DL.cutD ds lo hi)))) : wg (cutU (.dat (.tuple ds)) lo hi) P := ⟨_, rfl, r⟩
theorem wg_cutl {P : Sl → Prop} {ds : List DL.D} {lo hi : Option Int} (r : P (.dat (.list (DL.cutD ds lo hi)))) : wg (cutU (.dat (.list ds)) lo hi) P := ⟨_, rfl, r⟩
theorem wg_cutt' {P : Sl → Prop} {ds zs : List DL.D} {lo hi : Option Int} (e : DL.cutD ds lo hi = zs) (r : P (.dat (.tuple zs))) : wg (cutU (.dat (.tuple ds)) lo hi) P := by subst e; exact ⟨_, rfl, r⟩
theorem wg_cutl' {P : Sl → Prop} {ds zs : List DL.D} {lo hi : Option Int} (e : DL.cutD ds lo hi = zs) (r : P (.dat (.list zs))) : wg (cutU (.dat (.list ds)) lo hi) P := by subst e; exact ⟨_, rfl, r⟩
theorem wg_addt' {P : Sl → Prop} {xs ys zs : List DL.D} (hl : xs.length + ys.length ≤ 1000000) (e : xs ++ ys = zs) (r : P (.dat (.tuple zs))) : wg (gAddU (.dat (.tuple xs)) (.dat (.tuple ys))) P := by subst e; exact wg_addt hl r
theorem wg_addl' {P : Sl → Prop} {xs ys zs : List DL.D} (hl : xs.length + ys.length ≤ 1000000) (e : xs ++ ys = zs) (r : P (.dat (.list zs))) : wg (gAddU (.dat (.list xs)) (.dat (.list ys))) P := by subst e; exact wg_addl hl r
theorem datQ_i {d : DL.D} {P : DL.D → Prop} (r : P d) : datQ (.dat d) P := ⟨d, rfl, r⟩
theorem boolQ_i {b : Bool} {P : Bool → Prop} (r : P b) : boolQ (.dat (.bool b)) P := ⟨b, rfl, r⟩
/-! tests -/
theorem wt_of {b : Bool} {k' : Dk} (e : c env k = some (b, k')) (r : S b k') : wt c env k S := ⟨b, k', e, r⟩
theorem wt_test (r : we f env k fun s k1 => boolQ s fun b => S b k1) : wt (fTest f) env k S := by
  obtain ⟨s, k1, e1, b, rfl, r⟩ := r
  exact ⟨b, k1, test_of' e1, r⟩
where
  test_of' {k1 : Dk} {b : Bool} (e1 : f env k = some (.dat (.bool b), k1)) : fTest f env k = some (b, k1) := by unfold fTest; rw [e1]; rfl
theorem wt_and (r : wt c1 env k fun b k1 => fork b (wt c2 env k1 S) (S false k1)) : wt (tAndF c1 c2) env k S := by
  obtain ⟨b, k1, e1, r⟩ := r
  cases b with
  | true =>
    obtain ⟨s, k2, e2, r⟩ := r.1 rfl
    exact ⟨s, k2, by unfold tAndF; rw [e1]; exact e2, r⟩
  | false => exact ⟨_, k1, by unfold tAndF; rw [e1]; rfl, r.2 rfl⟩
theorem wt_or (r : wt c1 env k fun b k1 => fork b (S true k1) (wt c2 env k1 S)) : wt (tOrF c1 c2) env k S := by
  obtain ⟨b, k1, e1, r⟩ := r
  cases b with
  | false =>
    obtain ⟨s, k2, e2, r⟩ := r.2 rfl
    exact ⟨s, k2, by unfold tOrF; rw [e1]; exact e2, r⟩
  | true => exact ⟨_, k1, by unfold tOrF; rw [e1]; rfl, r.1 rfl⟩
theorem wt_not (r : wt c env k fun b k1 => S (!b) k1) : wt (tNotF c) env k S := by
  obtain ⟨b, k1, e1, r⟩ := r
  exact ⟨_, k1, by unfold tNotF; rw [e1]; rfl, r⟩
theorem wt_yes (r : S true k) : wt fYes env k S := ⟨_, _, rfl, r⟩
/-! forks -/
theorem fork_t {A B : Prop} (a : A) : fork true A B := ⟨fun _ => a, fun h => (nomatch h)⟩
theorem fork_f {A B : Prop} (b : B) : fork false A B := ⟨fun h => (nomatch h), fun _ => b⟩
theorem fork_not {b : Bool} {A B : Prop} (h : fork b B A) : fork (!b) A B := by
  cases b with
  | true => exact ⟨fun z => (nomatch z), fun _ => h.1 rfl⟩
  | false => exact ⟨fun _ => h.2 rfl, fun z => (nomatch z)⟩
theorem fork_dec {p : Prop} [Decidable p] {A B : Prop} (a : p → A) (b : ¬ p → B) : fork (decide p) A B := ⟨fun h => a (of_decide_eq_true h), fun h => b (of_decide_eq_false h)⟩
theorem fork_lf {b : Bool} {A B : Prop} (h : b = false) (r : B) : fork b A B := ⟨fun z => (by rw [h] at z; cases z), fun _ => r⟩
theorem fork_lt {b : Bool} {A B : Prop} (h : b = true) (r : A) : fork b A B := ⟨fun _ => r, fun z => (by rw [h] at z; cases z)⟩
theorem fork_self {α : Type} {a : α} [Decidable (a = a)] {A B : Prop} (r : A) : fork (decide (a = a)) A B := ⟨fun _ => r, fun h => absurd rfl (of_decide_eq_false h)⟩
theorem fork_seli {i : Int} {A B : Prop} (r : A) : fork (i == i) A B := ⟨fun _ => r, fun h => by simp at h⟩
theorem fork_eq {i j : Int} {A B : Prop} (a : i = j → A) (b : i ≠ j → B) : fork (i == j) A B := ⟨fun h => a (by simpa using h), fun h => b (by simpa using h)⟩
theorem fork_b {c : Bool} {A B : Prop} (a : c = true → A) (b : c = false → B) : fork c A B := ⟨a, b⟩
/-! statements -/
theorem ws_seq {a b : Fs} (r : ws a env k (thenS b Q)) : ws (sSeq a b) env k Q := by
  have r := r.out
  refine ⟨?_⟩
  unfold sSeq
  cases e : a env k <;> rw [e] at r <;> first | exact r | exact r.out
theorem then_nx {b : Fs} (r : ws b env k Q) : thenS b Q (.nx env k) := r
theorem then_rt {b : Fs} {d : DL.D} (r : Q (.rt d k)) : thenS b Q (.rt d k) := r
theorem then_bk {b : Fs} (r : Q (.bk env k)) : thenS b Q (.bk env k) := r
theorem then_ct {b : Fs} (r : Q (.ct env k)) : thenS b Q (.ct env k) := r
theorem ret_rt {d : DL.D} {P : DL.D → Dk → Prop} (r : P d k) : retQ P (.rt d k) := r
theorem ret_nx {P : DL.D → Dk → Prop} (r : P .none k) : retQ P (.nx env k) := r
theorem ws_next (r : Q (.nx env k)) : ws sNext env k Q := ⟨r⟩
theorem ws_asg {q : Fg'} (r : we f env k fun s k1 => setQ q s env fun e => Q (.nx e k1)) : ws (sAsg f q) env k Q := by
  obtain ⟨s, k1, e1, e, e2, r⟩ := r
  refine ⟨?_⟩
  unfold sAsg
  rw [e1]
  simp only [e2]
  exact r
theorem ws_ret (r : we f env k fun s k1 => rdatQ s fun d => Q (.rt d k1)) : ws (sRet f) env k Q := by
  obtain ⟨s, k1, e1, d, h, r⟩ := r
  refine ⟨?_⟩
  rcases h with rfl | ⟨ds, rfl, rfl⟩
  · rw [ret_of e1]
    exact r
  · unfold sRet
    rw [e1]
    exact r
theorem ws_retn (r : Q (.rt .none k)) : ws sRetN env k Q := ⟨r⟩
theorem ws_if {a b : Fs} (r : wt c env k fun t k1 => fork t (ws a env k1 Q) (ws b env k1 Q)) : ws (sIf c a b) env k Q := by
  obtain ⟨t, k1, e1, r⟩ := r
  refine ⟨?_⟩
  unfold sIf
  rw [e1]
  cases t with
  | true => exact (r.1 rfl).out
  | false => exact (r.2 rfl).out
theorem ws_par {i j : Nat} (r : wl hl env k fun xs k1 => parQ xs fun a b => setI i (.dat a) env fun e1 => setI j (.dat b) e1 fun e => Q (.nx e k1)) : ws (sPar i j hl) env k Q := by
  obtain ⟨xs, k1, e1, a, b, rfl, r⟩ := r
  refine ⟨?_⟩
  unfold sPar
  rw [e1]
  exact r
theorem ws_aug {cc : Int → Int → Bool} {op : Int → Int → Int} {i : Nat} {a : Int} (ha : env[i]? = some (.dat (.int a))) (r : we f env k fun s k1 => augQ cc a s fun b => setI i (.dat (.int (op a b))) env fun e => Q (.nx e k1)) : ws (sAug cc op i f) env k Q := by
  obtain ⟨s, k1, e1, b, rfl, hc, r⟩ := r
  refine ⟨?_⟩
  unfold sAug
  rw [ha, e1]
  simp only [hc, if_pos]
  exact r
theorem ws_own {i : Nat} (r : wl hl env k fun xs k1 => datsQ xs fun ds => setI i (.own ds) env fun e => Q (.nx e k1)) : ws (sOwn i hl) env k Q := by
  obtain ⟨xs, k1, e1, ds, e2, h3, r⟩ := r
  refine ⟨?_⟩
  unfold sOwn
  rw [e1]
  simp only [e2, h3, if_pos]
  exact r
theorem ws_app {i : Nat} {ds : List DL.D} (ha : env[i]? = some (.own ds)) (r : we f env k fun s k1 => datQ s fun d => lenQ ds.length (setI i (.own (ds ++ [d])) env fun e => Q (.nx e k1))) : ws (sApp i f) env k Q := by
  obtain ⟨s, k1, e1, d, rfl, h3, r⟩ := r
  refine ⟨?_⟩
  unfold sApp
  rw [ha, e1]
  simp only [h3, if_pos]
  exact r
theorem set_dat {i : Nat} {d : DL.D} {P : List Sl → Prop} (r : setI i (.dat d) env P) : setQ (qName i) (.dat d) env P := ⟨_, rfl, r⟩
theorem set_deck {i : Nat} {P : List Sl → Prop} (r : setI i .deck env P) : setQ (qName i) .deck env P := ⟨_, rfl, r⟩
theorem setI_0 {x0 s : Sl} {t : List Sl} {P : List Sl → Prop} (r : P (s :: t)) : setI 0 s (x0 :: t) P := r
theorem setI_1 {x0 x1 s : Sl} {t : List Sl} {P : List Sl → Prop} (r : P (x0 :: s :: t)) : setI 1 s (x0 :: x1 :: t) P := r
theorem setI_2 {x0 x1 x2 s : Sl} {t : List Sl} {P : List Sl → Prop} (r : P (x0 :: x1 :: s :: t)) : setI 2 s (x0 :: x1 :: x2 :: t) P := r
theorem setI_3 {x0 x1 x2 x3 s : Sl} {t : List Sl} {P : List Sl → Prop} (r : P (x0 :: x1 :: x2 :: s :: t)) : setI 3 s (x0 :: x1 :: x2 :: x3 :: t) P := r
theorem setI_4 {x0 x1 x2 x3 x4 s : Sl} {t : List Sl} {P : List Sl → Prop} (r : P (x0 :: x1 :: x2 :: x3 :: s :: t)) : setI 4 s (x0 :: x1 :: x2 :: x3 :: x4 :: t) P := r
theorem setI_5 {x0 x1 x2 x3 x4 x5 s : Sl} {t : List Sl} {P : List Sl → Prop} (r : P (x0 :: x1 :: x2 :: x3 :: x4 :: s :: t)) : setI 5 s (x0 :: x1 :: x2 :: x3 :: x4 :: x5 :: t) P := r
theorem setI_6 {x0 x1 x2 x3 x4 x5 x6 s : Sl} {t : List Sl} {P : List Sl → Prop} (r : P (x0 :: x1 :: x2 :: x3 :: x4 :: x5 :: s :: t)) : setI 6 s (x0 :: x1 :: x2 :: x3 :: x4 :: x5 :: x6 :: t) P := r
theorem setI_7 {x0 x1 x2 x3 x4 x5 x6 x7 s : Sl} {t : List Sl} {P : List Sl → Prop} (r : P (x0 :: x1 :: x2 :: x3 :: x4 :: x5 :: x6 :: s :: t)) : setI 7 s (x0 :: x1 :: x2 :: x3 :: x4 :: x5 :: x6 :: x7 :: t) P := r
theorem setI_8 {x0 x1 x2 x3 x4 x5 x6 x7 x8 s : Sl} {t : List Sl} {P : List Sl → Prop} (r : P (x0 :: x1 :: x2 :: x3 :: x4 :: x5 :: x6 :: x7 :: s :: t)) : setI 8 s (x0 :: x1 :: x2 :: x3 :: x4 :: x5 :: x6 :: x7 :: x8 :: t) P := r
theorem setI_9 {x0 x1 x2 x3 x4 x5 x6 x7 x8 x9 s : Sl} {t : List Sl} {P : List Sl → Prop} (r : P (x0 :: x1 :: x2 :: x3 :: x4 :: x5 :: x6 :: x7 :: x8 :: s :: t)) : setI 9 s (x0 :: x1 :: x2 :: x3 :: x4 :: x5 :: x6 :: x7 :: x8 :: x9 :: t) P := r
theorem setI_10 {x0 x1 x2 x3 x4 x5 x6 x7 x8 x9 x10 s : Sl} {t : List Sl} {P : List Sl → Prop} (r : P (x0 :: x1 :: x2 :: x3 :: x4 :: x5 :: x6 :: x7 :: x8 :: x9 :: s :: t)) : setI 10 s (x0 :: x1 :: x2 :: x3 :: x4 :: x5 :: x6 :: x7 :: x8 :: x9 :: x10 :: t) P := r
theorem setI_11 {x0 x1 x2 x3 x4 x5 x6 x7 x8 x9 x10 x11 s : Sl} {t : List Sl} {P : List Sl → Prop} (r : P (x0 :: x1 :: x2 :: x3 :: x4 :: x5 :: x6 :: x7 :: x8 :: x9 :: x10 :: s :: t)) : setI 11 s (x0 :: x1 :: x2 :: x3 :: x4 :: x5 :: x6 :: x7 :: x8 :: x9 :: x10 :: x11 :: t) P := r
theorem setI_12 {x0 x1 x2 x3 x4 x5 x6 x7 x8 x9 x10 x11 x12 s : Sl} {t : List Sl} {P : List Sl → Prop} (r : P (x0 :: x1 :: x2 :: x3 :: x4 :: x5 :: x6 :: x7 :: x8 :: x9 :: x10 :: x11 :: s :: t)) : setI 12 s (x0 :: x1 :: x2 :: x3 :: x4 :: x5 :: x6 :: x7 :: x8 :: x9 :: x10 :: x11 :: x12 :: t) P := r
theorem setI_13 {x0 x1 x2 x3 x4 x5 x6 x7 x8 x9 x10 x11 x12 x13 s : Sl} {t : List Sl} {P : List Sl → Prop} (r : P (x0 :: x1 :: x2 :: x3 :: x4 :: x5 :: x6 :: x7 :: x8 :: x9 :: x10 :: x11 :: x12 :: s :: t)) : setI 13 s (x0 :: x1 :: x2 :: x3 :: x4 :: x5 :: x6 :: x7 :: x8 :: x9 :: x10 :: x11 :: x12 :: x13 :: t) P := r
theorem setI_14 {x0 x1 x2 x3 x4 x5 x6 x7 x8 x9 x10 x11 x12 x13 x14 s : Sl} {t : List Sl} {P : List Sl → Prop} (r : P (x0 :: x1 :: x2 :: x3 :: x4 :: x5 :: x6 :: x7 :: x8 :: x9 :: x10 :: x11 :: x12 :: x13 :: s :: t)) : setI 14 s (x0 :: x1 :: x2 :: x3 :: x4 :: x5 :: x6 :: x7 :: x8 :: x9 :: x10 :: x11 :: x12 :: x13 :: x14 :: t) P := r
theorem setI_15 {x0 x1 x2 x3 x4 x5 x6 x7 x8 x9 x10 x11 x12 x13 x14 x15 s : Sl} {t : List Sl} {P : List Sl → Prop} (r : P (x0 :: x1 :: x2 :: x3 :: x4 :: x5 :: x6 :: x7 :: x8 :: x9 :: x10 :: x11 :: x12 :: x13 :: x14 :: s :: t)) : setI 15 s (x0 :: x1 :: x2 :: x3 :: x4 :: x5 :: x6 :: x7 :: x8 :: x9 :: x10 :: x11 :: x12 :: x13 :: x14 :: x15 :: t) P := r
theorem setI_16 {x0 x1 x2 x3 x4 x5 x6 x7 x8 x9 x10 x11 x12 x13 x14 x15 x16 s : Sl} {t : List Sl} {P : List Sl → Prop} (r : P (x0 :: x1 :: x2 :: x3 :: x4 :: x5 :: x6 :: x7 :: x8 :: x9 :: x10 :: x11 :: x12 :: x13 :: x14 :: x15 :: s :: t)) : setI 16 s (x0 :: x1 :: x2 :: x3 :: x4 :: x5 :: x6 :: x7 :: x8 :: x9 :: x10 :: x11 :: x12 :: x13 :: x14 :: x15 :: x16 :: t) P := r
theorem setI_17 {x0 x1 x2 x3 x4 x5 x6 x7 x8 x9 x10 x11 x12 x13 x14 x15 x16 x17 s : Sl} {t : List Sl} {P : List Sl → Prop} (r : P (x0 :: x1 :: x2 :: x3 :: x4 :: x5 :: x6 :: x7 :: x8 :: x9 :: x10 :: x11 :: x12 :: x13 :: x14 :: x15 :: x16 :: s :: t)) : setI 17 s (x0 :: x1 :: x2 :: x3 :: x4 :: x5 :: x6 :: x7 :: x8 :: x9 :: x10 :: x11 :: x12 :: x13 :: x14 :: x15 :: x16 :: x17 :: t) P := r
theorem setI_18 {x0 x1 x2 x3 x4 x5 x6 x7 x8 x9 x10 x11 x12 x13 x14 x15 x16 x17 x18 s : Sl} {t : List Sl} {P : List Sl → Prop} (r : P (x0 :: x1 :: x2 :: x3 :: x4 :: x5 :: x6 :: x7 :: x8 :: x9 :: x10 :: x11 :: x12 :: x13 :: x14 :: x15 :: x16 :: x17 :: s :: t)) : setI 18 s (x0 :: x1 :: x2 :: x3 :: x4 :: x5 :: x6 :: x7 :: x8 :: x9 :: x10 :: x11 :: x12 :: x13 :: x14 :: x15 :: x16 :: x17 :: x18 :: t) P := r
theorem setI_19 {x0 x1 x2 x3 x4 x5 x6 x7 x8 x9 x10 x11 x12 x13 x14 x15 x16 x17 x18 x19 s : Sl} {t : List Sl} {P : List Sl → Prop} (r : P (x0 :: x1 :: x2 :: x3 :: x4 :: x5 :: x6 :: x7 :: x8 :: x9 :: x10 :: x11 :: x12 :: x13 :: x14 :: x15 :: x16 :: x17 :: x18 :: s :: t)) : setI 19 s (x0 :: x1 :: x2 :: x3 :: x4 :: x5 :: x6 :: x7 :: x8 :: x9 :: x10 :: x11 :: x12 :: x13 :: x14 :: x15 :: x16 :: x17 :: x18 :: x19 :: t) P := r
theorem setI_20 {x0 x1 x2 x3 x4 x5 x6 x7 x8 x9 x10 x11 x12 x13 x14 x15 x16 x17 x18 x19 x20 s : Sl} {t : List Sl} {P : List Sl → Prop} (r : P (x0 :: x1 :: x2 :: x3 :: x4 :: x5 :: x6 :: x7 :: x8 :: x9 :: x10 :: x11 :: x12 :: x13 :: x14 :: x15 :: x16 :: x17 :: x18 :: x19 :: s :: t)) : setI 20 s (x0 :: x1 :: x2 :: x3 :: x4 :: x5 :: x6 :: x7 :: x8 :: x9 :: x10 :: x11 :: x12 :: x13 :: x14 :: x15 :: x16 :: x17 :: x18 :: x19 :: x20 :: t) P := r
theorem setI_21 {x0 x1 x2 x3 x4 x5 x6 x7 x8 x9 x10 x11 x12 x13 x14 x15 x16 x17 x18 x19 x20 x21 s : Sl} {t : List Sl} {P : List Sl → Prop} (r : P (x0 :: x1 :: x2 :: x3 :: x4 :: x5 :: x6 :: x7 :: x8 :: x9 :: x10 :: x11 :: x12 :: x13 :: x14 :: x15 :: x16 :: x17 :: x18 :: x19 :: x20 :: s :: t)) : setI 21 s (x0 :: x1 :: x2 :: x3 :: x4 :: x5 :: x6 :: x7 :: x8 :: x9 :: x10 :: x11 :: x12 :: x13 :: x14 :: x15 :: x16 :: x17 :: x18 :: x19 :: x20 :: x21 :: t) P := r
theorem setI_22 {x0 x1 x2 x3 x4 x5 x6 x7 x8 x9 x10 x11 x12 x13 x14 x15 x16 x17 x18 x19 x20 x21 x22 s : Sl} {t : List Sl} {P : List Sl → Prop} (r : P (x0 :: x1 :: x2 :: x3 :: x4 :: x5 :: x6 :: x7 :: x8 :: x9 :: x10 :: x11 :: x12 :: x13 :: x14 :: x15 :: x16 :: x17 :: x18 :: x19 :: x20 :: x21 :: s :: t)) : setI 22 s (x0 :: x1 :: x2 :: x3 :: x4 :: x5 :: x6 :: x7 :: x8 :: x9 :: x10 :: x11 :: x12 :: x13 :: x14 :: x15 :: x16 :: x17 :: x18 :: x19 :: x20 :: x21 :: x22 :: t) P := r
theorem setI_23 {x0 x1 x2 x3 x4 x5 x6 x7 x8 x9 x10 x11 x12 x13 x14 x15 x16 x17 x18 x19 x20 x21 x22 x23 s : Sl} {t : List Sl} {P : List Sl → Prop} (r : P (x0 :: x1 :: x2 :: x3 :: x4 :: x5 :: x6 :: x7 :: x8 :: x9 :: x10 :: x11 :: x12 :: x13 :: x14 :: x15 :: x16 :: x17 :: x18 :: x19 :: x20 :: x21 :: x22 :: s :: t)) : setI 23 s (x0 :: x1 :: x2 :: x3 :: x4 :: x5 :: x6 :: x7 :: x8 :: x9 :: x10 :: x11 :: x12 :: x13 :: x14 :: x15 :: x16 :: x17 :: x18 :: x19 :: x20 :: x21 :: x22 :: x23 :: t) P := r
theorem setI_24 {x0 x1 x2 x3 x4 x5 x6 x7 x8 x9 x10 x11 x12 x13 x14 x15 x16 x17 x18 x19 x20 x21 x22 x23 x24 s : Sl} {t : List Sl} {P : List Sl → Prop} (r : P (x0 :: x1 :: x2 :: x3 :: x4 :: x5 :: x6 :: x7 :: x8 :: x9 :: x10 :: x11 :: x12 :: x13 :: x14 :: x15 :: x16 :: x17 :: x18 :: x19 :: x20 :: x21 :: x22 :: x23 :: s :: t)) : setI 24 s (x0 :: x1 :: x2 :: x3 :: x4 :: x5 :: x6 :: x7 :: x8 :: x9 :: x10 :: x11 :: x12 :: x13 :: x14 :: x15 :: x16 :: x17 :: x18 :: x19 :: x20 :: x21 :: x22 :: x23 :: x24 :: t) P := r
theorem setI_25 {x0 x1 x2 x3 x4 x5 x6 x7 x8 x9 x10 x11 x12 x13 x14 x15 x16 x17 x18 x19 x20 x21 x22 x23 x24 x25 s : Sl} {t : List Sl} {P : List Sl → Prop} (r : P (x0 :: x1 :: x2 :: x3 :: x4 :: x5 :: x6 :: x7 :: x8 :: x9 :: x10 :: x11 :: x12 :: x13 :: x14 :: x15 :: x16 :: x17 :: x18 :: x19 :: x20 :: x21 :: x22 :: x23 :: x24 :: s :: t)) : setI 25 s (x0 :: x1 :: x2 :: x3 :: x4 :: x5 :: x6 :: x7 :: x8 :: x9 :: x10 :: x11 :: x12 :: x13 :: x14 :: x15 :: x16 :: x17 :: x18 :: x19 :: x20 :: x21 :: x22 :: x23 :: x24 :: x25 :: t) P := r
theorem dats_0 {P : List DL.D → Prop} (r : P []) : datsQ [] P := ⟨_, rfl, by simp, r⟩
theorem dats_1 {d0 : DL.D} {P : List DL.D → Prop} (r : P [d0]) : datsQ [.dat d0] P := ⟨_, rfl, by simp, r⟩
theorem dats_2 {d0 d1 : DL.D} {P : List DL.D → Prop} (r : P [d0, d1]) : datsQ [.dat d0, .dat d1] P := ⟨_, rfl, by simp, r⟩
theorem dats_3 {d0 d1 d2 : DL.D} {P : List DL.D → Prop} (r : P [d0, d1, d2]) : datsQ [.dat d0, .dat d1, .dat d2] P := ⟨_, rfl, by simp, r⟩
theorem dats_4 {d0 d1 d2 d3 : DL.D} {P : List DL.D → Prop} (r : P [d0, d1, d2, d3]) : datsQ [.dat d0, .dat d1, .dat d2, .dat d3] P := ⟨_, rfl, by simp, r⟩
theorem dats_5 {d0 d1 d2 d3 d4 : DL.D} {P : List DL.D → Prop} (r : P [d0, d1, d2, d3, d4]) : datsQ [.dat d0, .dat d1, .dat d2, .dat d3, .dat d4] P := ⟨_, rfl, by simp, r⟩
theorem dats_6 {d0 d1 d2 d3 d4 d5 : DL.D} {P : List DL.D → Prop} (r : P [d0, d1, d2, d3, d4, d5]) : datsQ [.dat d0, .dat d1, .dat d2, .dat d3, .dat d4, .dat d5] P := ⟨_, rfl, by simp, r⟩
theorem dats_7 {d0 d1 d2 d3 d4 d5 d6 : DL.D} {P : List DL.D → Prop} (r : P [d0, d1, d2, d3, d4, d5, d6]) : datsQ [.dat d0, .dat d1, .dat d2, .dat d3, .dat d4, .dat d5, .dat d6] P := ⟨_, rfl, by simp, r⟩
theorem dats_8 {d0 d1 d2 d3 d4 d5 d6 d7 : DL.D} {P : List DL.D → Prop} (r : P [d0, d1, d2, d3, d4, d5, d6, d7]) : datsQ [.dat d0, .dat d1, .dat d2, .dat d3, .dat d4, .dat d5, .dat d6, .dat d7] P := ⟨_, rfl, by simp, r⟩
theorem dats_9 {d0 d1 d2 d3 d4 d5 d6 d7 d8 : DL.D} {P : List DL.D → Prop} (r : P [d0, d1, d2, d3, d4, d5, d6, d7, d8]) : datsQ [.dat d0, .dat d1, .dat d2, .dat d3, .dat d4, .dat d5, .dat d6, .dat d7, .dat d8] P := ⟨_, rfl, by simp, r⟩
theorem dats_10 {d0 d1 d2 d3 d4 d5 d6 d7 d8 d9 : DL.D} {P : List DL.D → Prop} (r : P [d0, d1, d2, d3, d4, d5, d6, d7, d8, d9]) : datsQ [.dat d0, .dat d1, .dat d2, .dat d3, .dat d4, .dat d5, .dat d6, .dat d7, .dat d8, .dat d9] P := ⟨_, rfl, by simp, r⟩
theorem dats_11 {d0 d1 d2 d3 d4 d5 d6 d7 d8 d9 d10 : DL.D} {P : List DL.D → Prop} (r : P [d0, d1, d2, d3, d4, d5, d6, d7, d8, d9, d10]) : datsQ [.dat d0, .dat d1, .dat d2, .dat d3, .dat d4, .dat d5, .dat d6, .dat d7, .dat d8, .dat d9, .dat d10] P := ⟨_, rfl, by simp, r⟩
theorem dats_12 {d0 d1 d2 d3 d4 d5 d6 d7 d8 d9 d10 d11 : DL.D} {P : List DL.D → Prop} (r : P [d0, d1, d2, d3, d4, d5, d6, d7, d8, d9, d10, d11]) : datsQ [.dat d0, .dat d1, .dat d2, .dat d3, .dat d4, .dat d5, .dat d6, .dat d7, .dat d8, .dat d9, .dat d10, .dat d11] P := ⟨_, rfl, by simp, r⟩
theorem dats_13 {d0 d1 d2 d3 d4 d5 d6 d7 d8 d9 d10 d11 d12 : DL.D} {P : List DL.D → Prop} (r : P [d0, d1, d2, d3, d4, d5, d6, d7, d8, d9, d10, d11, d12]) : datsQ [.dat d0, .dat d1, .dat d2, .dat d3, .dat d4, .dat d5, .dat d6, .dat d7, .dat d8, .dat d9, .dat d10, .dat d11, .dat d12] P := ⟨_, rfl, by simp, r⟩
theorem dats_14 {d0 d1 d2 d3 d4 d5 d6 d7 d8 d9 d10 d11 d12 d13 : DL.D} {P : List DL.D → Prop} (r : P [d0, d1, d2, d3, d4, d5, d6, d7, d8, d9, d10, d11, d12, d13]) : datsQ [.dat d0, .dat d1, .dat d2, .dat d3, .dat d4, .dat d5, .dat d6, .dat d7, .dat d8, .dat d9, .dat d10, .dat d11, .dat d12, .dat d13] P := ⟨_, rfl, by simp, r⟩
theorem dats_15 {d0 d1 d2 d3 d4 d5 d6 d7 d8 d9 d10 d11 d12 d13 d14 : DL.D} {P : List DL.D → Prop} (r : P [d0, d1, d2, d3, d4, d5, d6, d7, d8, d9, d10, d11, d12, d13, d14]) : datsQ [.dat d0, .dat d1, .dat d2, .dat d3, .dat d4, .dat d5, .dat d6, .dat d7, .dat d8, .dat d9, .dat d10, .dat d11, .dat d12, .dat d13, .dat d14] P := ⟨_, rfl, by simp, r⟩
theorem dats_16 {d0 d1 d2 d3 d4 d5 d6 d7 d8 d9 d10 d11 d12 d13 d14 d15 : DL.D} {P : List DL.D → Prop} (r : P [d0, d1, d2, d3, d4, d5, d6, d7, d8, d9, d10, d11, d12, d13, d14, d15]) : datsQ [.dat d0, .dat d1, .dat d2, .dat d3, .dat d4, .dat d5, .dat d6, .dat d7, .dat d8, .dat d9, .dat d10, .dat d11, .dat d12, .dat d13, .dat d14, .dat d15] P := ⟨_, rfl, by simp, r⟩
theorem set_tup {n : Nat} {q : List DL.D → List Sl → Option (List Sl)} {s : Sl} {ds : List DL.D} {P : List Sl → Prop} (h : asT s = some ds) (hn : ds.length = n) (r : setsQ q ds env P) : setQ (qTup n q) s env P := by
  obtain ⟨e, he, r⟩ := r
  exact ⟨e, by unfold qTup; rw [h]; simp only [Option.bind_some]; rw [if_pos hn, he], r⟩
theorem sets_nil {P : List Sl → Prop} (r : P env) : setsQ qNil [] env P := ⟨_, rfl, r⟩
theorem sets_cons {q : Fg'} {qs : List DL.D → List Sl → Option (List Sl)} {d : DL.D} {ds : List DL.D} {P : List Sl → Prop} (r : setQ q (.dat d) env fun e => setsQ qs ds e P) : setsQ (qCons q qs) (d :: ds) env P := by
  obtain ⟨e, he, e2, he2, r⟩ := r
  exact ⟨e2, by unfold qCons; simp only [he, Option.bind_some, he2], r⟩
/-! loops -/
theorem ws_for {fi : Fw} {q : Fg'} {b : Fs} (r : ww fi env k fun ds k1 => ws (loopF q b ds) env k1 Q) : ws (sFor fi q b) env k Q := by
  obtain ⟨ds, k1, e1, r⟩ := r
  refine ⟨?_⟩
  unfold sFor
  rw [e1]
  exact r.out
def goOn (q : Fg') (b : Fs) (ds : List DL.D) (Q : Out → Prop) : Out → Prop
  | .nx e k => ws (loopF q b ds) e k Q
  | .ct e k => ws (loopF q b ds) e k Q
  | .bk e k => Q (.nx e k)
  | .rt d k => Q (.rt d k)
  | .bad => False
theorem loop_nil {q : Fg'} {b : Fs} (r : Q (.nx env k)) : ws (loopF q b []) env k Q := ⟨r⟩
theorem loop_cons {q : Fg'} {b : Fs} {d : DL.D} {ds : List DL.D} (r : setQ q (.dat d) env fun e => ws b e k (goOn q b ds Q)) : ws (loopF q b (d :: ds)) env k Q := by
  obtain ⟨e, he, r⟩ := r
  have r := r.out
  refine ⟨?_⟩
  unfold loopF
  simp only [he]
  cases h : b e k <;> rw [h] at r <;> first | exact r | exact r.out | exact r.elim
theorem go_nx {q : Fg'} {b : Fs} {ds : List DL.D} (r : ws (loopF q b ds) env k Q) : goOn q b ds Q (.nx env k) := r
theorem go_ct {q : Fg'} {b : Fs} {ds : List DL.D} (r : ws (loopF q b ds) env k Q) : goOn q b ds Q (.ct env k) := r
theorem go_bk {q : Fg'} {b : Fs} {ds : List DL.D} (r : Q (.nx env k)) : goOn q b ds Q (.bk env k) := r
theorem go_rt {q : Fg'} {b : Fs} {ds : List DL.D} {d : DL.D} (r : Q (.rt d k)) : goOn q b ds Q (.rt d k) := r
/-- a loop by its invariant: what is left to walk, the slots, the deck -/
def stepQ (I : List DL.D → List Sl → Dk → Prop) (ds : List DL.D) (Q : Out → Prop) : Out → Prop
  | .nx e k => I ds e k
  | .ct e k => I ds e k
  | .bk e k => Q (.nx e k)
  | .rt d k => Q (.rt d k)
  | .bad => False
theorem loop_inv {q : Fg'} {b : Fs} (I : List DL.D → List Sl → Dk → Prop) (step : ∀ d ds env k, I (d :: ds) env k → setQ q (.dat d) env fun e => ws b e k (stepQ I ds Q)) (fin : ∀ env k, I [] env k → Q (.nx env k)) :
    ∀ ds env k, I ds env k → ws (loopF q b ds) env k Q
  | [], env, k, h => ⟨fin env k h⟩
  | d :: ds, env, k, h => by
    obtain ⟨e, he, r⟩ := step d ds env k h
    refine loop_cons ⟨e, he, ?_⟩
    have key : ∀ o : Out, stepQ I ds Q o → goOn q b ds Q o := fun o r => by
      cases o with
      | nx e k => exact loop_inv I step fin ds _ _ r
      | ct e k => exact loop_inv I step fin ds _ _ r
      | bk e k => exact r
      | rt d k => exact r
      | bad => exact r
    exact ⟨key _ r.out⟩
theorem step_nx {I : List DL.D → List Sl → Dk → Prop} {ds : List DL.D} (r : I ds env k) : stepQ I ds Q (.nx env k) := r
theorem step_ct {I : List DL.D → List Sl → Dk → Prop} {ds : List DL.D} (r : I ds env k) : stepQ I ds Q (.ct env k) := r
theorem step_bk {I : List DL.D → List Sl → Dk → Prop} {ds : List DL.D} (r : Q (.nx env k)) : stepQ I ds Q (.bk env k) := r
theorem step_rt {I : List DL.D → List Sl → Dk → Prop} {ds : List DL.D} {d : DL.D} (r : Q (.rt d k)) : stepQ I ds Q (.rt d k) := r
theorem ww_of {fi : Fw} {ds : List DL.D} {k' : Dk} {P : List DL.D → Dk → Prop} (e : fi env k = some (ds, k')) (r : P ds k') : ww fi env k P := ⟨ds, k', e, r⟩
theorem ww_seq {P : List DL.D → Dk → Prop} (r : we f env k fun s k1 => walkQ s fun ds => P ds k1) : ww (wSeq f) env k P := by
  obtain ⟨s, k1, e1, ds, e2, r⟩ := r
  refine ⟨ds, k1, ?_, r⟩
  unfold wSeq wOf
  simp only [e1, Option.bind_some]
  cases h : asLd s with
  | some d => rw [h] at e2; cases e2; rfl
  | none => rw [h] at e2; simp only at e2; simp only [e2, Option.map_none, Option.map_some]
theorem ww_rng1 {P : List DL.D → Dk → Prop} (r : wl hl env k fun xs k1 => rng1Q xs fun ds => P ds k1) : ww (wRng1 hl) env k P := by
  obtain ⟨xs, k1, e1, j, rfl, hj, r⟩ := r
  exact ⟨_, k1, by unfold wRng1; rw [e1]; simp only [hj, and_self, if_pos], r⟩
theorem ww_rng2 {P : List DL.D → Dk → Prop} (r : wl hl env k fun xs k1 => rng2Q xs fun ds => P ds k1) : ww (wRng2 hl) env k P := by
  obtain ⟨xs, k1, e1, i, j, rfl, hj, r⟩ := r
  exact ⟨_, k1, by unfold wRng2; rw [e1]; simp only [hj, and_self, if_pos], r⟩
theorem wc_nil {q : Fg'} {e0 : List Sl} {acc : List DL.D} {P : List DL.D → Dk → Prop} (r : P acc k) : wc (loopC q c f e0 [] acc k) P := ⟨_, _, rfl, r⟩
theorem wc_cons {q : Fg'} {e0 : List Sl} {acc : List DL.D} {d : DL.D} {ds : List DL.D} {P : List DL.D → Dk → Prop}
    (r : setQ q (.dat d) e0 fun e => wt c e k fun b k1 => fork b (we f e k1 fun s k2 => datQ s fun z => lenQ acc.length (wc (loopC q c f e0 ds (acc ++ [z]) k2) P)) (wc (loopC q c f e0 ds acc k1) P)) : wc (loopC q c f e0 (d :: ds) acc k) P := by
  obtain ⟨e, he, b, k1, e1, r⟩ := r
  cases b with
  | true =>
    obtain ⟨s, k2, e2, z, rfl, hl, xs, k3, e3, r⟩ := r.1 rfl
    exact ⟨xs, k3, by unfold loopC; simp only [he, e1, Option.bind_some, if_pos, e2, hl, e3], r⟩
  | false =>
    obtain ⟨xs, k3, e3, r⟩ := r.2 rfl
    exact ⟨xs, k3, by unfold loopC; simp only [he, e1, Option.bind_some]; exact e3, r⟩
/-! defs -/
theorem wf_of {d : Fd} {ss : List Sl} {v : DL.D} {k' : Dk} {P : DL.D → Dk → Prop} (e : d ss k = some (v, k')) (r : P v k') : wf d ss k P := ⟨v, k', e, r⟩
theorem wf_fn {m : Nat} {g : Fs} {ss e : List Sl} {P : DL.D → Dk → Prop} (he : ss ++ List.replicate (m - ss.length) .un = e) (r : ws g e k (retQ P)) : wf (fnOf m g) ss k P := by
  subst he
  have r := r.out
  unfold wf fnOf
  cases h : g (ss ++ List.replicate (m - ss.length) .un) k <;> rw [h] at r <;> first | exact ⟨_, _, rfl, r⟩ | exact r.elim
theorem call_i {n : Nat} {d : Fd} {ss : List Sl} {P : DL.D → Dk → Prop} (h : ss.length = n ∧ ss.all okArg = true) (r : wf d ss k P) : callQ n d ss k P := ⟨h, r⟩
theorem wf.mono {d : Fd} {ss : List Sl} {P P' : DL.D → Dk → Prop} (r : wf d ss k P) (h : ∀ v k', P v k' → P' v k') : wf d ss k P' := by
  obtain ⟨v, k', e, r⟩ := r
  exact ⟨v, k', e, h _ _ r⟩
theorem wf.get {d : Fd} {ss : List Sl} {P : DL.D → Dk → Prop} (r : wf d ss k P) : ∃ v k', d ss k = some (v, k') ∧ P v k' := r
def trueQ : Out → Prop
  | .rt d _ => d = .bool true
  | _ => False
theorem true_i {k : Dk} : trueQ (.rt (.bool true) k) := rfl
/-- a while by a measure and an invariant -/
def wstepQ (I : Nat → List Sl → Dk → Prop) (m : Nat) (Q : Out → Prop) : Out → Prop
  | .nx e k => ∃ m', m' < m ∧ I m' e k
  | .ct e k => ∃ m', m' < m ∧ I m' e k
  | .bk e k => Q (.nx e k)
  | .rt d k => Q (.rt d k)
  | .bad => False
theorem wst_nx {I : Nat → List Sl → Dk → Prop} {m : Nat} {Q : Out → Prop} {e : List Sl} {k : Dk} (r : ∃ m', m' < m ∧ I m' e k) : wstepQ I m Q (.nx e k) := r
theorem wst_rt {I : Nat → List Sl → Dk → Prop} {m : Nat} {Q : Out → Prop} {d : DL.D} {k : Dk} (r : Q (.rt d k)) : wstepQ I m Q (.rt d k) := r
theorem while_inv {c : Ft} {g : Fs} {Q : Out → Prop} (I : Nat → List Sl → Dk → Prop) (step : ∀ m env k, I m env k → wt c env k fun b k1 => fork b (ws g env k1 (wstepQ I m Q)) (Q (.nx env k1))) :
    ∀ n m env k, I m env k → m < n → Q (loopW c g n env k)
  | 0, m, env, k, _, h => absurd h (Nat.not_lt_zero _)
  | n + 1, m, env, k, hI, h => by
    obtain ⟨b, k1, e1, r⟩ := step m env k hI
    unfold loopW
    rw [e1]
    cases b with
    | false => exact r.2 rfl
    | true =>
      have r := (r.1 rfl).out
      have key : ∀ o : Out, wstepQ I m Q o → Q (match o with
          | .nx e k'' => loopW c g n e k''
          | .ct e k'' => loopW c g n e k''
          | .bk e k'' => .nx e k''
          | .rt d k'' => .rt d k''
          | .bad => .bad) := fun o r => by
        cases o with
        | nx e k2 => obtain ⟨m', hm, r⟩ := r; exact while_inv I step n m' e k2 r (by omega)
        | ct e k2 => obtain ⟨m', hm, r⟩ := r; exact while_inv I step n m' e k2 r (by omega)
        | bk e k2 => exact r
        | rt d k2 => exact r
        | bad => exact r.elim
      exact key _ r
theorem ws_while {fuel : List Sl → Dk → Nat} {c : Ft} {g : Fs} {env : List Sl} {k : Dk} {Q : Out → Prop} (I : Nat → List Sl → Dk → Prop) (m : Nat) (h0 : I m env k) (hm : m < fuel env k) (step : ∀ m env k, I m env k → wt c env k fun b k1 => fork b (ws g env k1 (wstepQ I m Q)) (Q (.nx env k1))) : ws (sWhile fuel c g) env k Q :=
  ⟨while_inv I step _ m env k h0 hm⟩
theorem ws_expr {f : Fe} {env : List Sl} {k : Dk} {Q : Out → Prop} (r : we f env k fun _ k1 => Q (.nx env k1)) : ws (sExpr f) env k Q := by
  obtain ⟨s, k1, e1, r⟩ := r
  refine ⟨?_⟩
  unfold sExpr
  rw [e1]
  exact r
theorem we_chain3 {p q r : Int → Int → Bool} {f g h l : Fe} {env : List Sl} {k : Dk} {R : Sl → Dk → Prop}
    (w : we f env k fun x k1 => we g env k1 fun y k2 => partQ x fun i => partQ y fun j => fork (p i j) (we h env k2 fun z k3 => partQ z fun m => fork (q j m) (we l env k3 fun u k4 => partQ u fun n => R (.dat (.bool (r m n))) k4) (R (.dat (.bool false)) k3)) (R (.dat (.bool false)) k2)) : we (fChain3 p q r f g h l) env k R := by
  obtain ⟨x, k1, e1, y, k2, e2, i, rfl, j, rfl, w⟩ := w
  unfold we fChain3
  simp only [e1, e2, Option.bind_some]
  cases hp : p i j with
  | false => exact ⟨_, _, rfl, w.2 hp⟩
  | true =>
    obtain ⟨z, k3, e3, m, rfl, w⟩ := w.1 hp
    simp only [e3, Option.bind_some, if_true]
    cases hq : q j m with
    | false => exact ⟨_, _, rfl, w.2 hq⟩
    | true =>
      obtain ⟨u, k4, e4, n, rfl, w⟩ := w.1 hq
      simp only [e4, Option.bind_some, if_true]
      exact ⟨_, _, rfl, w⟩
theorem good_ws {deck : Fd} {g : Fs} {m : Nat} {ns : List Int} {k0 k1 k : Dk} {e : List Sl} (h : deck [.scr ns] k0 = some (deckD k, k1)) (he : .scr ns :: .deck :: List.replicate (m - 2) .un = e) (r : ws g e k trueQ) : GoodLaw deck g m ns := by
  subst he
  have r := r.out
  cases e : g (.scr ns :: .deck :: List.replicate (m - 2) .un) k with
  | rt d k2 =>
    rw [e] at r
    have r : d = .bool true := r
    subst r
    exact ⟨k0, k1, k2, k, h, e⟩
  | nx a b => rw [e] at r; exact r.elim
  | bk a b => rw [e] at r; exact r.elim
  | ct a b => rw [e] at r; exact r.elim
  | bad => rw [e] at r; exact r.elim
end
/-! the head alone: a quick look before a group of rules is tried -/
theorem id_we {f : Fe} {env : List Sl} {k : Dk} {R : Sl → Dk → Prop} (r : we f env k R) : we f env k R := r
theorem id_var {i : Nat} {env : List Sl} {k : Dk} {R : Sl → Dk → Prop} (r : we (fVar i) env k R) : we (fVar i) env k R := r
theorem id_wl {f : Fl} {env : List Sl} {k : Dk} {R : List Sl → Dk → Prop} (r : wl f env k R) : wl f env k R := r
theorem id_wt {f : Ft} {env : List Sl} {k : Dk} {R : Bool → Dk → Prop} (r : wt f env k R) : wt f env k R := r
theorem id_wo {f : Fo} {env : List Sl} {k : Dk} {R : Option Int → Dk → Prop} (r : wo f env k R) : wo f env k R := r
theorem id_ww {f : Fw} {env : List Sl} {k : Dk} {R : List DL.D → Dk → Prop} (r : ww f env k R) : ww f env k R := r
theorem id_ws {f : Fs} {env : List Sl} {k : Dk} {Q : Out → Prop} (r : ws f env k Q) : ws f env k Q := r
theorem id_wg {o : Option Sl} {R : Sl → Prop} (r : wg o R) : wg o R := r
theorem id_wc {o : Option (List DL.D × Dk)} {R : List DL.D → Dk → Prop} (r : wc o R) : wc o R := r
theorem id_fork {b : Bool} {A B : Prop} (r : fork b A B) : fork b A B := r
theorem id_setI {i : Nat} {s : Sl} {env : List Sl} {R : List Sl → Prop} (r : setI i s env R) : setI i s env R := r
theorem id_datsQ {ss : List Sl} {R : List DL.D → Prop} (r : datsQ ss R) : datsQ ss R := r
end G
set_option maxHeartbeats 4000000
namespace G
open PySem PySem.Spec PyProof.Rows L2 DL
/-! ### what is wanted of a reading that may raise -/
def resQ {α : Type} (R : α → Dk → Prop) (X : Xn → Dk → Prop) : Res (α × Dk) → Prop
  | .ok p => R p.1 p.2
  | .ex x k => X x k
  | .no => False
structure wxe (f : Rx Sl) (env : List Sl) (k : Dk) (R : Sl → Dk → Prop) (X : Xn → Dk → Prop) : Prop where
  out : resQ R X (f env k)
structure wxl (f : Rx (List Sl)) (env : List Sl) (k : Dk) (R : List Sl → Dk → Prop) (X : Xn → Dk → Prop) : Prop where
  out : resQ R X (f env k)
structure wxf (f : Fdx) (ss : List Sl) (k : Dk) (R : DL.D → Dk → Prop) (X : Xn → Dk → Prop) : Prop where
  out : resQ R X (f ss k)
structure wxs (g : Fsx) (env : List Sl) (k : Dk) (Q : OutX → Prop) : Prop where
  out : Q (g env k)
def liftQ (Q : OutX → Prop) : Out → Prop
  | .nx e k => Q (.nx e k)
  | .rt d k => Q (.rt d k)
  | .bk e k => Q (.bk e k)
  | .ct e k => Q (.ct e k)
  | .bad => False
def thenX (h : Fsx) (Q : OutX → Prop) : OutX → Prop
  | .nx e k => wxs h e k Q
  | o => Q o
def retXQ (R : DL.D → Dk → Prop) (X : Xn → Dk → Prop) : OutX → Prop
  | .rt d k => R d k
  | .nx _ k => R .none k
  | .ex x _ k => X x k
  | _ => False
def tryQ (i : Nat) (m : String → Bool) (gs : Xn → Fsx) (Q : OutX → Prop) : OutX → Prop
  | .ex x e k => fork (m x.cls) (i < e.length ∧ wxs (gs x) (e.set i .un) k fun o => match o with
      | .nx e2 k2 => Q (.nx (e2.set i .un) k2)
      | .rt d k2 => Q (.rt d k2)
      | .bk e2 k2 => Q (.bk (e2.set i .un) k2)
      | .ct e2 k2 => Q (.ct (e2.set i .un) k2)
      | _ => False) (Q (.ex x e k))
  | o => Q o
section
variable {env : List Sl} {k : Dk} {R : Sl → Dk → Prop} {L : List Sl → Dk → Prop} {X : Xn → Dk → Prop} {Q : OutX → Prop} {f : Fe} {c : Ft}
theorem wxe_lift (r : we f env k R) : wxe (liftO f) env k R X := by
  obtain ⟨s, k1, e, r⟩ := r
  exact ⟨by unfold liftO; rw [e]; exact r⟩
theorem wxl_lift {h : Fl} (r : wl h env k L) : wxl (liftO h) env k L X := by
  obtain ⟨s, k1, e, r⟩ := r
  exact ⟨by unfold liftO; rw [e]; exact r⟩
theorem wxe_call {n : Nat} {d : Fdx} {p : List Sl → List Sl} {h : Fl} (r : wl h env k fun xs k1 => ((p xs).length = n ∧ (p xs).all okArg = true) ∧ wxf d (p xs) k1 (fun v k2 => R (.dat v) k2) X) : wxe (xCall n d p h) env k R X := by
  obtain ⟨xs, k1, e, ok, r⟩ := r
  have r := r.out
  refine ⟨?_⟩
  unfold xCall
  rw [e]
  simp only
  rw [if_pos ok]
  cases h2 : d (p xs) k1 <;> rw [h2] at r <;> exact r
theorem wxe_if {u v : Rx Sl} (r : wt c env k fun b k1 => fork b (wxe u env k1 R X) (wxe v env k1 R X)) : wxe (xIf c u v) env k R X := by
  obtain ⟨b, k1, e, r⟩ := r
  refine ⟨?_⟩
  unfold xIf
  rw [e]
  cases b with
  | true => exact (r.1 rfl).out
  | false => exact (r.2 rfl).out
theorem wxl_cons {u : Rx Sl} {h : Rx (List Sl)} (r : wxe u env k (fun x k1 => wxl h env k1 (fun xs k2 => L (x :: xs) k2) X) X) : wxl (xCons u h) env k L X := by
  have r := r.out
  refine ⟨?_⟩
  unfold xCons
  cases h1 : u env k with
  | no => rw [h1] at r; exact r
  | ex x k1 => rw [h1] at r; exact r
  | ok p =>
    rw [h1] at r
    have r := (show wxl h env p.2 _ X from r).out
    simp only
    cases h2 : h env p.2 <;> rw [h2] at r <;> exact r
theorem wxe_seq {c : List DL.D → DL.D} {h : Rx (List Sl)} (r : wxl h env k (fun xs k1 => datsQ xs fun ds => R (.dat (c ds)) k1) X) : wxe (xSeq c h) env k R X := by
  have r := r.out
  refine ⟨?_⟩
  unfold xSeq
  cases h1 : h env k with
  | no => rw [h1] at r; exact r
  | ex x k1 => rw [h1] at r; exact r
  | ok p =>
    rw [h1] at r
    obtain ⟨ds, e, l, r⟩ := (show datsQ p.1 _ from r)
    simp only [e, l, if_pos]
    exact r
theorem wxs_lift {g : Fs} (r : ws g env k (liftQ Q)) : wxs (liftS g) env k Q := by
  have r := r.out
  refine ⟨?_⟩
  unfold liftS
  cases h : g env k <;> rw [h] at r <;> first | exact r | exact r.elim
theorem wxs_seq {a b : Fsx} (r : wxs a env k (thenX b Q)) : wxs (xSq a b) env k Q := by
  have r := r.out
  refine ⟨?_⟩
  unfold xSq
  cases h : a env k <;> rw [h] at r <;> first | exact r | exact r.out
theorem wxs_if {a b : Fsx} (r : wt c env k fun t k1 => fork t (wxs a env k1 Q) (wxs b env k1 Q)) : wxs (xIfS c a b) env k Q := by
  obtain ⟨t, k1, e, r⟩ := r
  refine ⟨?_⟩
  unfold xIfS
  rw [e]
  cases t with
  | true => exact (r.1 rfl).out
  | false => exact (r.2 rfl).out
theorem wxs_ret {u : Rx Sl} (r : wxe u env k (fun s k1 => datQ s fun d => Q (.rt d k1)) fun x k1 => Q (.ex x env k1)) : wxs (xRet u) env k Q := by
  have r := r.out
  refine ⟨?_⟩
  unfold xRet
  cases h : u env k with
  | no => rw [h] at r; exact r.elim
  | ex x k1 => rw [h] at r; exact r
  | ok p =>
    obtain ⟨s, k1⟩ := p
    rw [h] at r
    obtain ⟨d, rfl, r⟩ := (show datQ s _ from r)
    exact r
theorem wxs_expr {u : Rx Sl} (r : wxe u env k (fun _ k1 => Q (.nx env k1)) fun x k1 => Q (.ex x env k1)) : wxs (xExpr u) env k Q := by
  have r := r.out
  refine ⟨?_⟩
  unfold xExpr
  cases h : u env k with
  | no => rw [h] at r; exact r.elim
  | ex x k1 => rw [h] at r; exact r
  | ok p => rw [h] at r; exact r
theorem wxs_raise0 {n : String} (r : Q (.ex ⟨n, none⟩ env k)) : wxs (xRaise0 n) env k Q := ⟨r⟩
theorem wxs_raise1 {n : String} (r : we f env k fun s k1 => datQ s fun d => Q (.ex ⟨n, some d⟩ env k1)) : wxs (xRaise1 n f) env k Q := by
  obtain ⟨s, k1, e, d, rfl, r⟩ := r
  exact ⟨by unfold xRaise1; rw [e]; exact r⟩
theorem wxs_try {i : Nat} {m : String → Bool} {gb : Fsx} {gs : Xn → Fsx} (r : wxs gb env k (tryQ i m gs Q)) : wxs (xTry i m gb gs) env k Q := by
  have r := r.out
  refine ⟨?_⟩
  unfold xTry
  cases h : gb env k with
  | nx e k1 => rw [h] at r; exact r
  | rt d k1 => rw [h] at r; exact r
  | bk e k1 => rw [h] at r; exact r
  | ct e k1 => rw [h] at r; exact r
  | bad => rw [h] at r; exact r
  | ex x e k1 =>
    rw [h] at r
    simp only
    cases hm : m x.cls with
    | false => exact (show fork _ _ _ from r).2 hm
    | true =>
      obtain ⟨il, r⟩ := (show fork _ _ _ from r).1 hm
      have r := r.out
      rw [if_pos rfl, if_pos il]
      cases h2 : gs x (e.set i .un) k1 <;> rw [h2] at r <;> first | exact r | exact r.elim
theorem wxf_fn {m : Nat} {g : Fsx} {ss e : List Sl} {P : DL.D → Dk → Prop} (he : ss ++ List.replicate (m - ss.length) .un = e) (r : wxs g e k (retXQ P X)) : wxf (fnX m g) ss k P X := by
  subst he
  have r := r.out
  refine ⟨?_⟩
  unfold fnX
  cases h : g (ss ++ List.replicate (m - ss.length) .un) k <;> rw [h] at r <;> first | exact r | exact r.elim
/-- a def that lets none rise here -/
theorem wf_okF {d : Fdx} {ss : List Sl} {P : DL.D → Dk → Prop} (r : wxf d ss k P fun _ _ => False) : wf (okF d) ss k P := by
  have r := r.out
  unfold wf okF
  cases h : d ss k with
  | no => rw [h] at r; exact r.elim
  | ex x k1 => rw [h] at r; exact r.elim
  | ok p => rw [h] at r; exact ⟨p.1, p.2, rfl, r⟩
theorem wxf.mono {d : Fdx} {ss : List Sl} {P P' : DL.D → Dk → Prop} {X' : Xn → Dk → Prop} (r : wxf d ss k P X) (h : ∀ v k', P v k' → P' v k') (hx : ∀ x k', X x k' → X' x k') : wxf d ss k P' X' := by
  have r := r.out
  refine ⟨?_⟩
  cases h2 : d ss k with
  | no => rw [h2] at r; exact r
  | ex x k1 => rw [h2] at r; exact hx _ _ r
  | ok p => rw [h2] at r; exact h _ _ r
theorem thenx_nx {b : Fsx} (r : wxs b env k Q) : thenX b Q (.nx env k) := r
theorem thenx_rt {b : Fsx} {d : DL.D} (r : Q (.rt d k)) : thenX b Q (.rt d k) := r
theorem thenx_ex {b : Fsx} {x : Xn} (r : Q (.ex x env k)) : thenX b Q (.ex x env k) := r
theorem lift_nx' (r : Q (.nx env k)) : liftQ Q (.nx env k) := r
theorem lift_rt' {d : DL.D} (r : Q (.rt d k)) : liftQ Q (.rt d k) := r
theorem retx_rt {d : DL.D} {P : DL.D → Dk → Prop} (r : P d k) : retXQ P X (.rt d k) := r
theorem retx_nx {P : DL.D → Dk → Prop} (r : P .none k) : retXQ P X (.nx env k) := r
theorem retx_ex {x : Xn} {P : DL.D → Dk → Prop} (r : X x k) : retXQ P X (.ex x env k) := r
theorem try_nx {i : Nat} {m : String → Bool} {gs : Xn → Fsx} (r : Q (.nx env k)) : tryQ i m gs Q (.nx env k) := r
theorem try_rt {i : Nat} {m : String → Bool} {gs : Xn → Fsx} {d : DL.D} (r : Q (.rt d k)) : tryQ i m gs Q (.rt d k) := r
end
end G
set_option maxHeartbeats 4000000
namespace G
open PySem PySem.Spec PyProof.Rows L2 DL
section
variable {env : List Sl} {k : Dk}
theorem set_lst {n : Nat} {q : List DL.D → List Sl → Option (List Sl)} {s : Sl} {ds : List DL.D} {P : List Sl → Prop} (h : asL s = some ds) (hn : ds.length = n) (r : setsQ q ds env P) : setQ (qLst n q) s env P := by
  obtain ⟨e, he, r⟩ := r
  exact ⟨e, by unfold qLst; simp only [h, Option.bind_some, if_pos hn, he], r⟩
theorem ww_enumU {f : Fe} {P : List DL.D → Dk → Prop} (r : we f env k fun s k1 => walkQ s fun ds => P (enumD 0 ds) k1) : ww (wEnumU f) env k P := by
  obtain ⟨s, k1, e1, ds, e2, r⟩ := r
  have e2 : asW s = some ds := e2
  exact ⟨_, k1, by unfold wEnumU wOf; simp only [e1, e2, Option.bind_some, Option.map_some], r⟩
def tupGQ (fe : Re) (env : List Sl) (s : Sl) (R : DL.D → Prop) : Prop := ∃ ds zs, asT s = some ds ∧ ds.length ≤ 1000000 ∧ mapRe fe env ds = some zs ∧ R (.tuple zs)
theorem we_tupG {f : Fe} {fe : Re} {R : Sl → Dk → Prop} (r : we f env k fun s k1 => tupGQ fe env s fun d => R (.dat d) k1) : we (fTupG f fe) env k R := by
  obtain ⟨s, k1, e1, ds, zs, e2, l, e3, r⟩ := r
  exact ⟨_, k1, by unfold fTupG; simp only [e1, e2, e3, l, Option.bind_some, Option.map_some, if_true], r⟩
theorem try_hit2 {i : Nat} {m : String → Bool} {n : String} {w : Str} {b : Bool} {d : DL.D} {Q : OutX → Prop} (hm : m n = true) (hi : i < env.length) (r : Q (.rt (.tuple [.str w, d, .bool b]) k)) : tryQ i m (fun x => gSaid2 n w b x) Q (.ex ⟨n, some d⟩ env k) := by
  refine ⟨fun _ => ⟨hi, ⟨?_⟩⟩, fun z => absurd (hm.symm.trans z) (by decide)⟩
  unfold gSaid2
  simp only [if_true]
  exact r
theorem try_hit0 {i : Nat} {m : String → Bool} {n : String} {w : Str} {b : Bool} {Q : OutX → Prop} (hm : m n = true) (hi : i < env.length) (r : Q (.rt (.tuple [.str w, .bool b]) k)) : tryQ i m (fun x => gSaid n w b x) Q (.ex ⟨n, none⟩ env k) := by
  refine ⟨fun _ => ⟨hi, ⟨?_⟩⟩, fun z => absurd (hm.symm.trans z) (by decide)⟩
  unfold gSaid
  simp only [and_self, if_true]
  exact r
theorem try_miss {i : Nat} {m : String → Bool} {gs : Xn → Fsx} {x : Xn} {Q : OutX → Prop} (hm : m x.cls = false) (r : Q (.ex x env k)) : tryQ i m gs Q (.ex x env k) := ⟨fun z => absurd (hm.symm.trans z) (by decide), fun _ => r⟩
def par3Q (xs : List Sl) (R : DL.D → DL.D → DL.D → Prop) : Prop := ∃ a b c, xs = [.dat a, .dat b, .dat c] ∧ R a b c
theorem par3_i {a b c : DL.D} {R : DL.D → DL.D → DL.D → Prop} (r : R a b c) : par3Q [.dat a, .dat b, .dat c] R := ⟨a, b, c, rfl, r⟩
theorem ws_par3 {i j l : Nat} {hl : Fl} {Q : Out → Prop} (r : wl hl env k fun xs k1 => par3Q xs fun a b c => setI i (.dat a) env fun e1 => setI j (.dat b) e1 fun e2 => setI l (.dat c) e2 fun e => Q (.nx e k1)) : ws (sPar3 i j l hl) env k Q := by
  obtain ⟨xs, k1, e1, a, b, c, rfl, r⟩ := r
  refine ⟨?_⟩
  unfold sPar3
  rw [e1]
  exact r
def zipQ (s t : Sl) (R : List DL.D → Prop) : Prop := ∃ ds es, asL s = some ds ∧ asL t = some es ∧ R (zipD ds es)
theorem zip_i {s t : Sl} {ds es : List DL.D} {R : List DL.D → Prop} (h1 : asL s = some ds) (h2 : asL t = some es) (r : R (zipD ds es)) : zipQ s t R := ⟨ds, es, h1, h2, r⟩
theorem ww_zip {f g : Fe} {P : List DL.D → Dk → Prop} (r : we f env k fun s k1 => we g env k1 fun t k2 => zipQ s t fun ds => P ds k2) : ww (wZip f g) env k P := by
  obtain ⟨s, k1, e1, t, k2, e2, ds, es, h1, h2, r⟩ := r
  exact ⟨_, k2, by unfold wZip; simp only [e1, e2, h1, h2, Option.bind_some], r⟩
def isNo (k : Dk) (b : Bool) (k1 : Dk) : Prop := b = false ∧ k1 = k
theorem wc_none' {q : Fg'} {c : Ft} {f : Fe} {e0 : List Sl} {acc : List DL.D} {P : List DL.D → Dk → Prop} {k : Dk} (r : P acc k) : ∀ ds : List DL.D, (∀ d ∈ ds, setQ q (.dat d) e0 fun e => wt c e k (isNo k)) → wc (loopC q c f e0 ds acc k) P
  | [], _ => wc_nil r
  | d :: ds, h => by
    obtain ⟨e, he, b, k1, e1, rfl, rfl⟩ := h d (List.mem_cons_self ..)
    exact wc_cons ⟨e, he, false, _, e1, fork_f (wc_none' r ds fun x hx => h x (List.mem_cons_of_mem _ hx))⟩
theorem wc_none {q : Fg'} {c : Ft} {f : Fe} {e0 : List Sl} {acc ds : List DL.D} {P : List DL.D → Dk → Prop} (h : ∀ d ∈ ds, setQ q (.dat d) e0 fun e => wt c e k (isNo k)) (r : P acc k) : wc (loopC q c f e0 ds acc k) P := wc_none' r ds h
end
end G
set_option maxHeartbeats 4000000
namespace G
open PySem PySem.Spec PyProof.Rows L2 DL
section
variable {env : List Sl} {k : Dk}
theorem setI_wipe {i : Nat} {s : Sl} {vs : List Nat} {P : List Sl → Prop} (r : setI i s (wipeE env vs) P) : setI i s (wipeE env vs) P := r
theorem vAt0 (d : DL.D) (ds : List DL.D) : atI (d :: ds) 0 = some d := by
  unfold atI ixN
  rw [if_pos (by decide), if_pos (by rw [List.length_cons]; omega)]
  rfl
theorem vAtN {ds : List DL.D} {i : Nat} (h : i < ds.length) : atI ds (i : Int) = ds[i]? := by
  unfold atI ixN
  rw [if_pos (by omega), if_pos (by omega)]
  rfl
theorem vAtL {ds : List DL.D} {i : Int} {d : DL.D} (h0 : 0 ≤ i) (h : ds[i.toNat]? = some d) : atI ds i = some d := by
  unfold atI ixN
  have hl : i.toNat < ds.length := by
    cases hc : decide (i.toNat < ds.length) with
    | true => exact of_decide_eq_true hc
    | false => rw [List.getElem?_eq_none (by have := of_decide_eq_false hc; omega)] at h; cases h
  rw [if_pos h0, if_pos (by omega)]
  exact h
end
def fmQ (pz : Bool) (k0 : Dk) (A : Prop) (b : Bool) (k : Dk) : Prop := b = pz ∧ k = k0 ∧ (pz = true → A)
def fmR (d : DL.D) (k0 : Dk) (s : Sl) (k : Dk) : Prop := s = .dat d ∧ k = k0
/-- a comprehension over integers that draws nothing -/
theorem wc_fm {q : Fg'} {c : Ft} {f : Fe} {e0 : List Sl} {k : Dk} {P : List DL.D → Dk → Prop} (p : Int → Bool) (h : Int → DL.D) : ∀ (L : List Int) (acc : List DL.D), acc.length + L.length < 1000000 →
    (∀ z ∈ L, setQ q (.dat (.int z)) e0 fun e => wt c e k (fmQ (p z) k (we f e k (fmR (h z) k)))) → P (acc ++ (L.filter p).map h) k → wc (loopC q c f e0 (L.map PyData.int) acc k) P
  | [], acc, _, _, r => wc_nil (by simpa using r)
  | z :: L, acc, hl, st, r => by
    rw [List.length_cons] at hl
    obtain ⟨e, he, b, k1, e1, hb, rfl, hf⟩ := st z (List.mem_cons_self ..)
    subst hb
    refine wc_cons ⟨e, he, p z, k1, e1, ?_⟩
    cases hp : p z with
    | true =>
      obtain ⟨s, k2, e2, rfl, rfl⟩ := hf hp
      refine fork_t ⟨_, _, e2, h z, rfl, by omega, wc_fm p h L _ (by rw [List.length_append, List.length_singleton]; omega) (fun x hx => st x (List.mem_cons_of_mem _ hx)) ?_⟩
      simpa [List.filter_cons, hp] using r
    | false =>
      refine fork_f (wc_fm p h L _ (by omega) (fun x hx => st x (List.mem_cons_of_mem _ hx)) ?_)
      simpa [List.filter_cons, hp] using r
end G
set_option maxHeartbeats 4000000
namespace G
open PySem PySem.Spec PyProof.Rows L2 DL GX
def wb (o : Option (Bool × Dk)) (R : Bool → Dk → Prop) : Prop := ∃ b k', o = some (b, k') ∧ R b k'
section
variable {env : List Sl} {k : Dk} {R : Sl → Dk → Prop} {f g : Fe} {Q : Out → Prop}
theorem we_tupX {fi : Fw} {q : Fg'} {c : Ft} {vs : List Nat} (r : ww fi env k fun ds k1 => wc (loopC q c f (wipeE env vs) ds [] k1) fun xs k2 => R (.dat (.tuple xs)) k2) : we (fTupX fi q c f vs) env k R := by
  obtain ⟨ds, k1, e1, xs, k2, e2, r⟩ := r
  exact ⟨_, k2, by unfold fTupX; simp only [e1, e2, Option.bind_some, Option.map_some], r⟩
theorem we_allX {fi : Fw} {q : Fg'} {c : Ft} {vs : List Nat} (r : ww fi env k fun ds k1 => wb (loopB false q c f (wipeE env vs) ds k1) fun b k2 => R (.dat (.bool b)) k2) : we (fAllX fi q c f vs) env k R := by
  obtain ⟨ds, k1, e1, b, k2, e2, r⟩ := r
  exact ⟨_, k2, by unfold fAllX; simp only [e1, e2, Option.bind_some, Option.map_some], r⟩
theorem we_anyX {fi : Fw} {q : Fg'} {c : Ft} {vs : List Nat} (r : ww fi env k fun ds k1 => wb (loopB true q c f (wipeE env vs) ds k1) fun b k2 => R (.dat (.bool b)) k2) : we (fAnyX fi q c f vs) env k R := by
  obtain ⟨ds, k1, e1, b, k2, e2, r⟩ := r
  exact ⟨_, k2, by unfold fAnyX; simp only [e1, e2, Option.bind_some, Option.map_some], r⟩
theorem we_shr (r : we f env k fun x k1 => we g env k1 fun y k2 => wg (gII cShr (fun i j => .int (i / 2 ^ j.toNat)) x y) fun s => R s k2) : we (fShr f g) env k R := we_f2 r
theorem we_shl (r : we f env k fun x k1 => we g env k1 fun y k2 => wg (gII cShl (fun i j => .int (i * 2 ^ j.toNat)) x y) fun s => R s k2) : we (fShl f g) env k R := we_f2 r
theorem we_band (r : we f env k fun x k1 => we g env k1 fun y k2 => wg (gII c0 (fun i j => .int (Builtin.bitAnd i j)) x y) fun s => R s k2) : we (fBand f g) env k R := we_f2 r
theorem we_bits (r : we f env k fun x k1 => wg (gI (fun _ => true) (fun i => .int (Builtin.Int.intBits i : Nat)) x) fun s => R s k1) : we (fBits f) env k R := we_f1 r
theorem wg_ii' {c : Int → Int → Bool} {q : Int → Int → DL.D} {i j : Int} {P : Sl → Prop} (h : c i j = true) (r : P (.dat (q i j))) : wg (gII c q (.dat (.int i)) (.dat (.int j))) P := ⟨_, by simp only [gII, h, if_pos], r⟩
theorem wg_i' {q : Int → DL.D} {i : Int} {P : Sl → Prop} (r : P (.dat (q i))) : wg (gI (fun _ => true) q (.dat (.int i))) P := ⟨_, rfl, r⟩
theorem wg_strU {d : DL.D} {P : Sl → Prop} (h : okShow d = true) (h2 : isStrD d = false) (r : P (.dat (.str d.shown))) : wg (gStrU (.dat d)) P := ⟨_, (if_pos ⟨h, h2⟩ : gStrU (.dat d) = _), r⟩
def rng3Q (xs : List Sl) (P : List DL.D → Prop) : Prop := ∃ i j c : Int, xs = [.dat (.int i), .dat (.int j), .dat (.int c)] ∧ (0 < c ∧ c < 1073741824 ∧ Builtin.Range.small i j c = true ∧ 0 ≤ Builtin.Range.rangeSize i j c) ∧ P (rng3 i c (Builtin.Range.rangeSize i j c).toNat)
theorem rng3_i {i j c : Int} {P : List DL.D → Prop} (h : 0 < c ∧ c < 1073741824 ∧ Builtin.Range.small i j c = true ∧ 0 ≤ Builtin.Range.rangeSize i j c) (r : P (rng3 i c (Builtin.Range.rangeSize i j c).toNat)) : rng3Q [.dat (.int i), .dat (.int j), .dat (.int c)] P := ⟨i, j, c, rfl, h, r⟩
theorem ww_rng3 {hl : Fl} {P : List DL.D → Dk → Prop} (r : wl hl env k fun xs k1 => rng3Q xs fun ds => P ds k1) : ww (wRng3 hl) env k P := by
  obtain ⟨xs, k1, e1, i, j, c, rfl, h, r⟩ := r
  exact ⟨_, k1, by unfold wRng3; simp only [e1, h, and_self, if_pos], r⟩
theorem ws_setX {i : Nat} (r : we f env k fun x k1 => datQ x fun d => we g env k1 fun y k2 => partQ y fun c => ∃ env', setOwn i c d env = some env' ∧ Q (.nx env' k2)) : ws (sSetX i g f) env k Q := by
  obtain ⟨x, k1, e1, d, rfl, y, k2, e2, c, rfl, env', e3, r⟩ := r
  refine ⟨?_⟩
  unfold sSetX
  simp only [e1, e2, e3]
  exact r
def ownQ' (i : Nat) (env : List Sl) (Q : Out → Prop) (xs : List DL.D) (k : Dk) : Prop := setI i (.own xs) env fun e => Q (.nx e k)
theorem ws_ownLc' {i : Nat} {fi : Fw} {q : Fg'} {c : Ft} {vs : List Nat} (r : ww fi env k fun ds k1 => wc (loopC q c f (wipeE env vs) ds [] k1) fun xs k2 => setI i (.own xs) env fun e => Q (.nx e k2)) : ws (sOwnLc i fi q c f vs) env k Q := by
  obtain ⟨ds, k1, e1, xs, k2, e2, r⟩ := r
  refine ⟨?_⟩
  unfold sOwnLc fLc
  simp only [e1, e2, Option.bind_some, Option.map_some]
  exact r
theorem ws_ownRep' {i : Nat} (r : we f env k fun a k1 => we g env k1 fun b k2 => wg (gRep a b) fun s => ∃ ds, s = .dat (.list ds) ∧ setI i (.own ds) env fun e => Q (.nx e k2)) : ws (sOwnRep i f g) env k Q := by
  obtain ⟨a, k1, e1, b, k2, e2, s, e3, ds, rfl, r⟩ := r
  refine ⟨?_⟩
  unfold sOwnRep
  simp only [e1, e2, e3]
  exact r
theorem ws_frz' {i : Nat} {h : Fs} {ds : List DL.D} (hi : env[i]? = some (.own ds)) (r : setI i (.dat (.list ds)) env fun e => ws h e k Q) : ws (sFrz i h) env k Q := by
  refine ⟨?_⟩
  unfold sFrz
  rw [hi]
  exact (show ws h (env.set i (.dat (.list ds))) k Q from r).out
theorem ws_frzD {i : Nat} {h : Fs} {d : DL.D} (hi : env[i]? = some (.dat d)) (r : ws h env k Q) : ws (sFrz i h) env k Q := by
  refine ⟨?_⟩
  unfold sFrz
  rw [hi]
  exact r.out
end
section
variable {env : List Sl} {k : Dk} {q : Fg'} {c : Ft} {f : Fe} {e0 : List Sl} {R : Bool → Dk → Prop} {b0 : Bool}
theorem wb_nil (r : R (!b0) k) : wb (loopB b0 q c f e0 [] k) R := ⟨_, _, rfl, r⟩
theorem wb_cons {d : DL.D} {ds : List DL.D} (r : setQ q (.dat d) e0 fun e => wt c e k fun b k1 => fork b (we f e k1 fun s k2 => boolQ s fun x => (x = b0 → R b0 k2) ∧ (x ≠ b0 → wb (loopB b0 q c f e0 ds k2) R)) (wb (loopB b0 q c f e0 ds k1) R)) : wb (loopB b0 q c f e0 (d :: ds) k) R := by
  obtain ⟨e, he, b, k1, e1, r⟩ := r
  cases b with
  | true =>
    obtain ⟨s, k2, e2, x, rfl, r1, r2⟩ := r.1 rfl
    by_cases hx : x = b0
    · exact ⟨b0, k2, by unfold loopB; simp only [he, e1, Option.bind_some, if_pos, e2, hx], r1 hx⟩
    · obtain ⟨b, k3, e3, r⟩ := r2 hx
      exact ⟨b, k3, by unfold loopB; simp only [he, e1, Option.bind_some, if_pos, e2, if_neg hx, e3], r⟩
  | false =>
    obtain ⟨b, k3, e3, r⟩ := r.2 rfl
    exact ⟨b, k3, by unfold loopB; simp only [he, e1, Option.bind_some]; exact e3, r⟩
/-- a test of each item that draws nothing -/
def isB (b : Bool) (k0 : Dk) (s : Sl) (k : Dk) : Prop := s = .dat (.bool b) ∧ k = k0
end
theorem wb_pure {b0 : Bool} {q : Fg'} {f : Fe} {e0 : List Sl} {k : Dk} {R : Bool → Dk → Prop} (p : DL.D → Bool) : ∀ (ds : List DL.D), (∀ d ∈ ds, setQ q (.dat d) e0 fun e => we f e k (isB (p d) k)) → R (if b0 then ds.any p else ds.all p) k → wb (loopB b0 q fYes f e0 ds k) R
  | [], _, r => wb_nil (by cases b0 <;> exact r)
  | d :: ds, h, r => by
    obtain ⟨e, he, s, k2, e2, rfl, rfl⟩ := h d (List.mem_cons_self ..)
    refine wb_cons ⟨e, he, true, _, rfl, fork_t ⟨_, _, e2, p d, rfl, fun hx => ?_, fun hx => wb_pure p ds (fun x hx => h x (List.mem_cons_of_mem _ hx)) ?_⟩⟩
    · cases b0 <;> simpa [hx] using r
    · cases b0 <;> cases hp : p d <;> simp_all
/-- a comprehension over any items that draws nothing -/
theorem wc_pure {q : Fg'} {c : Ft} {f : Fe} {e0 : List Sl} {k : Dk} {P : List DL.D → Dk → Prop} (p : DL.D → Bool) (h : DL.D → DL.D) : ∀ (L acc : List DL.D), acc.length + L.length < 1000000 →
    (∀ z ∈ L, setQ q (.dat z) e0 fun e => wt c e k (fmQ (p z) k (we f e k (fmR (h z) k)))) → P (acc ++ (L.filter p).map h) k → wc (loopC q c f e0 L acc k) P
  | [], acc, _, _, r => wc_nil (by simpa using r)
  | z :: L, acc, hl, st, r => by
    rw [List.length_cons] at hl
    obtain ⟨e, he, b, k1, e1, hb, rfl, hf⟩ := st z (List.mem_cons_self ..)
    subst hb
    refine wc_cons ⟨e, he, p z, k1, e1, ?_⟩
    cases hp : p z with
    | true =>
      obtain ⟨s, k2, e2, rfl, rfl⟩ := hf hp
      refine fork_t ⟨_, _, e2, h z, rfl, by omega, wc_pure p h L _ (by rw [List.length_append, List.length_singleton]; omega) (fun x hx => st x (List.mem_cons_of_mem _ hx)) ?_⟩
      simpa [List.filter_cons, hp] using r
    | false =>
      refine fork_f (wc_pure p h L _ (by omega) (fun x hx => st x (List.mem_cons_of_mem _ hx)) ?_)
      simpa [List.filter_cons, hp] using r
section
variable {env : List Sl} {k : Dk} {X : Xn → Dk → Prop} {R : Sl → Dk → Prop}
theorem wxe_2 {q : Sl → Sl → Option Sl} {r1 r2 : Rx Sl} (r : wxe r1 env k (fun s k1 => datQ s fun d => wxe r2 env k1 (fun t k2 => datQ t fun e => wg (q (.dat d) (.dat e)) fun u => R u k2) X) X) : wxe (x2 q r1 r2) env k R X := by
  have r := r.out
  refine ⟨?_⟩
  unfold x2
  cases h1 : r1 env k with
  | no => rw [h1] at r; exact r
  | ex x k1 => rw [h1] at r; exact r
  | ok p =>
    obtain ⟨s, k1⟩ := p
    rw [h1] at r
    obtain ⟨d, rfl, r⟩ := (show datQ s _ from r)
    have r := r.out
    simp only
    cases h2 : r2 env k1 with
    | no => rw [h2] at r; exact r
    | ex x k2 => rw [h2] at r; exact r
    | ok p =>
      obtain ⟨t, k2⟩ := p
      rw [h2] at r
      obtain ⟨e, rfl, u, h3, r⟩ := (show datQ t _ from r)
      simp only [h3]
      exact r
end
end G
set_option maxHeartbeats 4000000
namespace G
open PySem PySem.Spec PyProof.Rows L2 DL GX
section
variable {env : List Sl} {k : Dk} {R : Sl → Dk → Prop} {f g : Fe} {Q : Out → Prop}
def revQ (s : Sl) (R : DL.D → Prop) : Prop := ∃ d, (match asL s, asT s with
  | some ds, _ => some (PyData.list ds.reverse)
  | none, some ds => some (PyData.tuple ds.reverse)
  | _, _ => none) = some d ∧ R d
theorem rvq_l {ds : List DL.D} {R : DL.D → Prop} (r : R (.list ds.reverse)) : revQ (.dat (.list ds)) R := ⟨_, rfl, r⟩
theorem rvq_o {ds : List DL.D} {R : DL.D → Prop} (r : R (.list ds.reverse)) : revQ (.own ds) R := ⟨_, rfl, r⟩
theorem rvq_t {ds : List DL.D} {R : DL.D → Prop} (r : R (.tuple ds.reverse)) : revQ (.dat (.tuple ds)) R := ⟨_, rfl, r⟩
theorem we_revU (r : we f env k fun s k1 => revQ s fun d => R (.dat d) k1) : we (fRevU f) env k R := by
  obtain ⟨s, k1, e1, d, e2, r⟩ := r
  refine ⟨.dat d, k1, ?_, r⟩
  unfold fRevU fRevL fRevT f1
  simp only [e1, Option.bind_some]
  cases h : asL s with
  | some ds =>
    rw [h] at e2
    cases e2
    rfl
  | none =>
    rw [h] at e2
    cases h2 : asT s with
    | none => rw [h2] at e2; cases e2
    | some ds => rw [h2] at e2; cases e2; rfl
def walkN (s : Sl) (P : List DL.D → Prop) : Prop := ∃ ds, asQ s = some ds ∧ P ds
theorem walkN_i {s : Sl} {ds : List DL.D} {P : List DL.D → Prop} (h : asQ s = some ds) (r : P ds) : walkN s P := ⟨ds, h, r⟩
theorem ww_seqN {P : List DL.D → Dk → Prop} (r : we f env k fun s k1 => walkN s fun ds => P ds k1) : ww (wSeqN f) env k P := by
  obtain ⟨s, k1, e1, ds, e2, r⟩ := r
  refine ⟨ds, k1, ?_, r⟩
  unfold asQ at e2
  unfold wSeqN wOf
  simp only [e1, Option.bind_some]
  cases h : asL s with
  | some es => rw [h] at e2; cases e2; rfl
  | none => rw [h] at e2; simp only at e2; rw [e2]; rfl
theorem flat1 (d : DL.D) : ∀ n : Nat, (List.replicate n [d]).flatten = List.replicate n d
  | 0 => rfl
  | n + 1 => by rw [List.replicate_succ, List.flatten_cons, flat1 d n]; rfl
theorem wg_rep1 {d : DL.D} {n : Int} {P : Sl → Prop} (h : 1 ≤ n) (h2 : n ≤ 1000) (r : P (.dat (.tuple (List.replicate n.toNat d)))) : wg (gMulV (.dat (.tuple [d])) (.dat (.int n))) P := by
  refine ⟨_, ?_, r⟩
  unfold gMulV
  by_cases h1 : n = 1
  · subst h1
    rw [if_pos ⟨rfl, rfl⟩]
    rfl
  · rw [if_neg fun w => h1 (of_decide_eq_true (show decide (n = 1) = true from w.1))]
    unfold gMulT gRepT
    have c : ([d] : List DL.D) ≠ [] ∧ (2 : Int) ≤ n ∧ n ≤ 1000 ∧ ([d] : List DL.D).length ≤ 1000 := ⟨by simp, by omega, by omega, by simp⟩
    simp only [asT]
    rw [if_pos c, flat1]
theorem wg_repl {ds : List DL.D} {n : Int} {P : Sl → Prop} (h : -1000 ≤ n ∧ n ≤ 1000) (h2 : ds.length ≤ 1000) (r : P (.dat (.list (List.replicate n.toNat ds).flatten))) : wg (gMulU (.dat (.list ds)) (.dat (.int n))) P := by
  refine ⟨_, ?_, r⟩
  unfold gMulU gII gRep
  simp only [asL]
  rw [if_pos ⟨h.1, h.2, h2⟩]
end
end G
/-! lists of integers: their divisor, their first that is not 0, and what is shortened -/
set_option maxHeartbeats 4000000
namespace G
def fnz : List Int → Int
  | [] => 0
  | z :: r => if z = 0 then fnz r else z
def gcdF (a : Nat) (l : List Int) : Nat := l.foldl (fun g z => Nat.gcd g z.natAbs) a
theorem gcdF_cons (a : Nat) (z : Int) (r : List Int) : gcdF a (z :: r) = gcdF (Nat.gcd a z.natAbs) r := rfl
theorem gcdF_dvd : ∀ (l : List Int) (a : Nat), gcdF a l ∣ a ∧ ∀ z ∈ l, gcdF a l ∣ z.natAbs
  | [], a => ⟨Nat.dvd_refl _, fun z h => nomatch h⟩
  | z :: r, a => by
    obtain ⟨h1, h2⟩ := gcdF_dvd r (Nat.gcd a z.natAbs)
    rw [gcdF_cons]
    refine ⟨Nat.dvd_trans h1 (Nat.gcd_dvd_left ..), fun x hx => ?_⟩
    rcases List.mem_cons.mp hx with rfl | hx
    · exact Nat.dvd_trans h1 (Nat.gcd_dvd_right ..)
    · exact h2 x hx
theorem gcdF_mul (e : Int) : ∀ (l : List Int) (a : Nat), gcdF (e.natAbs * a) (l.map fun z => e * z) = e.natAbs * gcdF a l
  | [], a => rfl
  | z :: r, a => by
    rw [List.map_cons, gcdF_cons, gcdF_cons, Int.natAbs_mul, Nat.gcd_mul_left]
    exact gcdF_mul e r _
theorem gcdF_zero : ∀ (l : List Int) (a : Nat), gcdF a l = 0 ↔ a = 0 ∧ fnz l = 0
  | [], a => by simp [gcdF, fnz]
  | z :: r, a => by
    rw [gcdF_cons, gcdF_zero r, Nat.gcd_eq_zero_iff]
    show _ ↔ a = 0 ∧ (if z = 0 then fnz r else z) = 0
    by_cases h : z = 0
    · subst h; simp
    · rw [if_neg h]; omega
theorem fnz_mul {e : Int} (h : e ≠ 0) : ∀ l : List Int, fnz (l.map fun z => e * z) = e * fnz l
  | [] => by simp [fnz]
  | z :: r => by
    rw [List.map_cons]
    unfold fnz
    by_cases h2 : z = 0
    · subst h2; rw [Int.mul_zero, if_pos rfl, if_pos rfl]; exact fnz_mul h r
    · rw [if_neg (Int.mul_ne_zero h h2), if_neg h2]
theorem fnz_mem : ∀ {l : List Int}, fnz l ≠ 0 → fnz l ∈ l
  | [], h => absurd rfl h
  | z :: r, h => by
    unfold fnz at h ⊢
    by_cases h2 : z = 0
    · rw [if_pos h2] at h ⊢; exact List.mem_cons_of_mem _ (fnz_mem h)
    · rw [if_neg h2]; exact List.mem_cons_self ..
def gI0 (l : List Int) : Int := ((gcdF 0 l : Nat) : Int)
def sgI (l : List Int) : Int := if 0 < fnz l then gI0 l else -gI0 l
def shD (l : List Int) : List Int := l.map fun z => if 0 < fnz l then z / gI0 l else 0 - z / gI0 l
theorem gI0_dvd {l : List Int} {z : Int} (h : z ∈ l) : gI0 l ∣ z := by
  have := (gcdF_dvd l 0).2 z h
  exact Int.dvd_natAbs.mp (Int.natCast_dvd_natCast.mpr this)
theorem gI0_pos {l : List Int} (h : fnz l ≠ 0) : 0 < gI0 l := by
  have : gcdF 0 l ≠ 0 := fun e => h ((gcdF_zero l 0).mp e).2
  unfold gI0; omega
theorem sh_back {l : List Int} (h : fnz l ≠ 0) : (shD l).map (fun z => sgI l * z) = l := by
  unfold shD
  rw [List.map_map]
  conv => rhs; rw [← List.map_id l]
  refine List.map_congr_left fun z hz => ?_
  have d := gI0_dvd hz
  have e := Int.mul_ediv_cancel' d
  show sgI l * (if 0 < fnz l then z / gI0 l else 0 - z / gI0 l) = z
  unfold sgI
  split
  · exact e
  · rw [Int.neg_mul, Int.zero_sub, Int.mul_neg, Int.neg_neg]; exact e
theorem sg_ne {l : List Int} (h : fnz l ≠ 0) : sgI l ≠ 0 := by
  have := gI0_pos h
  unfold sgI
  split <;> omega
theorem sg_abs (l : List Int) : (sgI l).natAbs = gcdF 0 l := by unfold sgI gI0; split <;> omega
theorem sh_gcd {l : List Int} (h : fnz l ≠ 0) : gcdF 0 (shD l) = 1 := by
  have e := gcdF_mul (sgI l) (shD l) 0
  rw [sh_back h, Nat.mul_zero, sg_abs] at e
  have p := gI0_pos h
  unfold gI0 at p
  have p : 0 < gcdF 0 l := by omega
  exact Nat.eq_of_mul_eq_mul_left p (e.symm.trans (Nat.mul_one _).symm)
theorem sh_first {l : List Int} (h : fnz l ≠ 0) : 0 < fnz (shD l) := by
  have e := fnz_mul (sg_ne h) (shD l)
  rw [sh_back h] at e
  have p := gI0_pos h
  unfold sgI at e
  split at e
  · rename_i c
    rw [e] at c
    exact Int.pos_of_mul_pos_right c p
  · rename_i c
    have n : fnz l < 0 := by omega
    rw [e, Int.neg_mul] at n
    have : 0 < gI0 l * fnz (shD l) := by omega
    exact Int.pos_of_mul_pos_right this p
theorem sh_len (l : List Int) : (shD l).length = l.length := by unfold shD; rw [List.length_map]
theorem sh_fix {l : List Int} (h : fnz l ≠ 0) : shD (shD l) = shD l := by
  have h1 := sh_first h
  have h2 := sh_gcd h
  generalize shD l = m at *
  unfold shD
  conv => rhs; rw [← List.map_id m]
  refine List.map_congr_left fun z hz => ?_
  have g : gI0 m = 1 := by unfold gI0; rw [h2]; rfl
  rw [if_pos h1, g, Int.ediv_one]
  rfl
theorem sh_small {l : List Int} (h : fnz l ≠ 0) {z : Int} (hz : z ∈ shD l) : ∃ y ∈ l, z.natAbs ≤ y.natAbs := by
  unfold shD at hz
  obtain ⟨y, hy, rfl⟩ := List.mem_map.mp hz
  refine ⟨y, hy, ?_⟩
  have a : (y / gI0 l).natAbs ≤ y.natAbs := by
    obtain ⟨q, e⟩ := gI0_dvd hy
    have p := gI0_pos h
    rw [e, Int.mul_ediv_cancel_left _ (by omega), Int.natAbs_mul]
    exact Nat.le_mul_of_pos_left _ (by omega)
  split
  · exact a
  · omega
end G
set_option maxHeartbeats 4000000
set_option exponentiation.threshold 3000
/-! how long a shown value is -/
namespace G
open PySem PySem.Spec PyProof.Rows L2 DL
/-- codes that a text's showing keeps short -/
def Sc (s : Str) : Prop := ∀ c ∈ s.cps.toList, c < 16 ^ 8
theorem sc_of (s : String) : Sc (Str.ofString s) := fun c hc => by
  rw [PyProof.Rows.signs_ofString] at hc
  obtain ⟨x, _, rfl⟩ := List.mem_map.mp hc
  exact Nat.lt_of_lt_of_le x.val.toNat_lt (by decide)
theorem sc_app {a b : Str} (ha : Sc a) (hb : Sc b) : Sc (a ++ b) := fun c hc => by
  rw [Str.cps_append, Array.toList_append] at hc
  rcases List.mem_append.mp hc with h | h
  · exact ha c h
  · exact hb c h
theorem sc_join {sep : Str} (hs : Sc sep) : ∀ {ts : List Str}, (∀ t ∈ ts, Sc t) → Sc (Str.join sep ts)
  | [], _ => by unfold Str.join; exact sc_of ""
  | [t], h => by
    have : Str.join sep [t] = t := by simp [Str.join]
    rw [this]; exact h t (List.mem_cons_self ..)
  | t :: u :: r, h => by
    have e : Str.join sep (t :: u :: r) = t ++ sep ++ Str.join sep (u :: r) := by simp [Str.join]
    rw [e]
    exact sc_app (sc_app (h t (List.mem_cons_self ..)) hs) (sc_join hs fun x hx => h x (List.mem_cons_of_mem _ hx))
theorem textFrom_sc : ∀ (ts : List Str) (k : Nat) (acc : Str), Sc acc → (∀ t ∈ ts, Sc t) → Sc (textFrom k acc ts)
  | [], _, _, h, _ => h
  | t :: r, k, acc, h, ht => by
    show Sc (textFrom (k + 1) (acc ++ (if k > 0 then ", " else "" : String) ++ t) r)
    exact textFrom_sc r (k + 1) _ (sc_app (sc_app h (sc_of _)) (ht t (List.mem_cons_self ..))) fun x hx => ht x (List.mem_cons_of_mem _ hx)
theorem scs_mem : ∀ {xs : List DL.D} {t : Str}, t ∈ PyData.shownAll xs → ∃ x ∈ xs, t = x.shown
  | [], t, h => by simp [PyData.shownAll] at h
  | x :: xs, t, h => by
    simp only [PyData.shownAll] at h
    rcases List.mem_cons.mp h with rfl | h
    · exact ⟨x, List.mem_cons_self .., rfl⟩
    · obtain ⟨y, hy, e⟩ := scs_mem h
      exact ⟨y, List.mem_cons_of_mem _ hy, e⟩
theorem sc_int (z : Int) : Sc (PyData.int z).shown := by simp only [PyData.shown]; exact sc_of _
theorem sc_tup {xs : List DL.D} (h : ∀ x ∈ xs, Sc x.shown) : Sc (PyData.tuple xs).shown := by
  simp only [PyData.shown]
  unfold tupleText
  refine sc_app (sc_app (sc_of _) (sc_join (sc_of _) fun t ht => ?_)) (sc_of _)
  obtain ⟨x, hx, rfl⟩ := scs_mem ht
  exact h x hx
theorem sc_lst {xs : List DL.D} (h : ∀ x ∈ xs, Sc x.shown) : Sc (PyData.list xs).shown := by
  simp only [PyData.shown]
  unfold listText
  refine sc_app (textFrom_sc _ _ _ (sc_of _) fun t ht => ?_) (sc_of _)
  obtain ⟨x, hx, rfl⟩ := scs_mem ht
  exact h x hx
structure Sh (m n : Nat) (d : DL.D) : Prop where
  sh : d.showable = true
  dp : d.depth ≤ m
  ln : d.shown.length ≤ n
theorem Sh.le {m n m' n' : Nat} {d : DL.D} (h : Sh m n d) (h1 : m ≤ m') (h2 : n ≤ n') : Sh m' n' d := ⟨h.sh, Nat.le_trans h.dp h1, Nat.le_trans h.ln h2⟩
theorem Sh.show {m n : Nat} {d : DL.D} (h : Sh m n d) (h1 : m ≤ 60) (h2 : n ≤ 1000000) : okShow d = true := by
  unfold okShow
  rw [Bool.and_eq_true, Bool.and_eq_true]
  exact ⟨⟨h.sh, decide_eq_true (Nat.le_trans h.dp h1)⟩, decide_eq_true (Nat.le_trans h.ln h2)⟩
theorem sh_all {m n : Nat} : ∀ {xs : List DL.D}, (∀ x ∈ xs, Sh m n x) → PyData.showableAll xs = true ∧ PyData.depthAll xs ≤ m ∧ ((PyData.shownAll xs).map (·.length)).sum ≤ xs.length * n ∧ (PyData.shownAll xs).length = xs.length
  | [], _ => ⟨by simp [PyData.showableAll], by simp [PyData.depthAll], by simp [PyData.shownAll], by simp [PyData.shownAll]⟩
  | x :: xs, h => by
    have hx := h x (List.mem_cons_self ..)
    obtain ⟨h1, h2, h3, h4⟩ := sh_all fun y hy => h y (List.mem_cons_of_mem _ hy)
    have ln := hx.ln
    refine ⟨?_, ?_, ?_, ?_⟩
    · simp only [PyData.showableAll, hx.sh, h1]; rfl
    · simp only [PyData.depthAll]; exact Nat.max_le.mpr ⟨hx.dp, h2⟩
    · simp only [PyData.shownAll, List.map_cons, List.sum_cons, List.length_cons, Nat.succ_mul]; omega
    · simp only [PyData.shownAll, List.length_cons, h4]
theorem sh_tup {m n l : Nat} {xs : List DL.D} (h : ∀ x ∈ xs, Sh m n x) (hl : xs.length ≤ l) : Sh (m + 1) (l * (n + 2) + 3) (.tuple xs) := by
  obtain ⟨h1, h2, h3, h4⟩ := sh_all h
  have e := tupleText_len_le (PyData.shownAll xs)
  refine ⟨by simp only [PyData.showable]; exact h1, by simp only [PyData.depth]; omega, ?_⟩
  simp only [PyData.shown]
  rw [h4] at e
  have : xs.length * (n + 2) ≤ l * (n + 2) := Nat.mul_le_mul_right _ hl
  rw [Nat.mul_add] at this
  omega
theorem sh_lst {m n l : Nat} {xs : List DL.D} (h : ∀ x ∈ xs, Sh m n x) (hl : xs.length ≤ l) : Sh (m + 1) (l * (n + 2) + 3) (.list xs) := by
  obtain ⟨h1, h2, h3, h4⟩ := sh_all h
  have e := listText_len_le (PyData.shownAll xs)
  refine ⟨by simp only [PyData.showable]; exact h1, by simp only [PyData.depth]; omega, ?_⟩
  simp only [PyData.shown]
  rw [h4] at e
  have : xs.length * (n + 2) ≤ l * (n + 2) := Nat.mul_le_mul_right _ hl
  rw [Nat.mul_add] at this
  omega
theorem sh_int {k : Nat} {z : Int} (h : z.natAbs < 10 ^ k) (h0 : 0 < k) (hk : k ≤ 200) : Sh 0 (k + 1) (.int z) := by
  have e := int_text_length_le10 h0 h
  refine ⟨?_, by simp only [PyData.depth]; exact Nat.le_refl _, ?_⟩
  · simp only [PyData.showable]
    refine decide_eq_true ?_
    by_cases hz : z.natAbs = 0
    · rw [hz]; decide
    · refine (Nat.log2_lt hz).mpr (Nat.lt_of_lt_of_le h (Nat.le_trans (Nat.pow_le_pow_right (by decide) hk) (by decide)))
  · simp only [PyData.shown]
    rw [PySem.ofString_length]
    exact e
theorem sh_none : Sh 0 4 .none := ⟨rfl, Nat.le_refl _, by decide⟩
theorem sh_bool (b : Bool) : Sh 0 5 (.bool b) := ⟨rfl, by simp only [PyData.depth]; exact Nat.le_refl _, by cases b <;> decide⟩
theorem sh_dict0 : Sh 1 2 (.dict []) := ⟨rfl, by decide, by decide⟩
theorem sh_str {n : Nat} {s : Str} (h : Sc s) (l : s.length ≤ n) : Sh 0 (10 * n + 2) (.str s) := by
  refine ⟨rfl, by simp only [PyData.depth]; exact Nat.le_refl _, ?_⟩
  simp only [PyData.shown]
  have := StrLaws.reprText_len s h
  omega
theorem sh_lit {n : Nat} (s : String) (l : s.length ≤ n) : Sh 0 (10 * n + 2) (.str (Str.ofString s)) := sh_str (sc_of s) (by rw [PySem.ofString_length]; exact l)
end G
local macro_rules | `(tactic| walk_at "grd") => `(tactic| assumption)
local macro_rules | `(tactic| walk_at "grd") => `(tactic| (first | ((refine G.cMi ?_ ?_ <;> omega)) | fail "no"))
local macro_rules | `(tactic| walk_at "grd") => `(tactic| decide)
local macro_rules | `(tactic| walk_at "grd") => `(tactic| (first | (exact G.cD (by decide) (by decide)) | fail "no"))
local macro_rules | `(tactic| walk_at "grd") => `(tactic| (first | (exact G.cMo (by decide)) | fail "no"))
local macro_rules | `(tactic| walk_at "len") => `(tactic| (simp only [List.length_cons, List.length_nil, List.length_append]; omega))
local macro_rules | `(tactic| walk_at "len") => `(tactic| assumption)
local macro_rules | `(tactic| walk_at "len") => `(tactic| decide)
local macro_rules | `(tactic| walk_at "at") => `(tactic| assumption)
local macro_rules | `(tactic| walk_at "at") => `(tactic| exact rfl)
local macro_rules | `(tactic| walk_at "shw") => `(tactic| assumption)
local macro_rules | `(tactic| walk_at "app") => `(tactic| exact rfl)
local macro_rules | `(tactic| walk_at "app") => `(tactic| (first | (((simp only [List.cons_append, List.nil_append]) <;> exact rfl)) | fail "no"))
local macro_rules | `(tactic| walk_at "cut") => `(tactic| exact rfl)
local macro_rules | `(tactic| walk_at "cut") => `(tactic| (first | (((simp [DL.cutD, HT.sIx]) <;> exact rfl)) | fail "no"))
local macro_rules | `(tactic| walk_at "cut") => `(tactic| assumption)
local macro_rules | `(tactic| walk_at "spec") => `(tactic| fail "no spec")
local macro_rules | `(tactic| walk_at "q_var") => `(tactic| with_reducible refine G.we_o25 ?_)
local macro_rules | `(tactic| walk_at "q_var") => `(tactic| with_reducible refine G.we_o24 ?_)
local macro_rules | `(tactic| walk_at "q_var") => `(tactic| with_reducible refine G.we_o23 ?_)
local macro_rules | `(tactic| walk_at "q_var") => `(tactic| with_reducible refine G.we_o22 ?_)
local macro_rules | `(tactic| walk_at "q_var") => `(tactic| with_reducible refine G.we_o21 ?_)
local macro_rules | `(tactic| walk_at "q_var") => `(tactic| with_reducible refine G.we_o20 ?_)
local macro_rules | `(tactic| walk_at "q_var") => `(tactic| with_reducible refine G.we_o19 ?_)
local macro_rules | `(tactic| walk_at "q_var") => `(tactic| with_reducible refine G.we_o18 ?_)
local macro_rules | `(tactic| walk_at "q_var") => `(tactic| with_reducible refine G.we_o17 ?_)
local macro_rules | `(tactic| walk_at "q_var") => `(tactic| with_reducible refine G.we_o16 ?_)
local macro_rules | `(tactic| walk_at "q_var") => `(tactic| with_reducible refine G.we_o15 ?_)
local macro_rules | `(tactic| walk_at "q_var") => `(tactic| with_reducible refine G.we_o14 ?_)
local macro_rules | `(tactic| walk_at "q_var") => `(tactic| with_reducible refine G.we_o13 ?_)
local macro_rules | `(tactic| walk_at "q_var") => `(tactic| with_reducible refine G.we_o12 ?_)
local macro_rules | `(tactic| walk_at "q_var") => `(tactic| with_reducible refine G.we_o11 ?_)
local macro_rules | `(tactic| walk_at "q_var") => `(tactic| with_reducible refine G.we_o10 ?_)
local macro_rules | `(tactic| walk_at "q_var") => `(tactic| with_reducible refine G.we_o9 ?_)
local macro_rules | `(tactic| walk_at "q_var") => `(tactic| with_reducible refine G.we_o8 ?_)
local macro_rules | `(tactic| walk_at "q_var") => `(tactic| with_reducible refine G.we_o7 ?_)
local macro_rules | `(tactic| walk_at "q_var") => `(tactic| with_reducible refine G.we_o6 ?_)
local macro_rules | `(tactic| walk_at "q_var") => `(tactic| with_reducible refine G.we_o5 ?_)
local macro_rules | `(tactic| walk_at "q_var") => `(tactic| with_reducible refine G.we_o4 ?_)
local macro_rules | `(tactic| walk_at "q_var") => `(tactic| with_reducible refine G.we_o3 ?_)
local macro_rules | `(tactic| walk_at "q_var") => `(tactic| with_reducible refine G.we_o2 ?_)
local macro_rules | `(tactic| walk_at "q_var") => `(tactic| with_reducible refine G.we_o1 ?_)
local macro_rules | `(tactic| walk_at "q_var") => `(tactic| with_reducible refine G.we_o0 ?_)
local macro_rules | `(tactic| walk_at "q_var") => `(tactic| with_reducible refine G.we_s2 ?_)
local macro_rules | `(tactic| walk_at "q_var") => `(tactic| with_reducible refine G.we_k2 ?_)
local macro_rules | `(tactic| walk_at "q_var") => `(tactic| with_reducible refine G.we_s1 ?_)
local macro_rules | `(tactic| walk_at "q_var") => `(tactic| with_reducible refine G.we_k1 ?_)
local macro_rules | `(tactic| walk_at "q_var") => `(tactic| with_reducible refine G.we_s0 ?_)
local macro_rules | `(tactic| walk_at "q_var") => `(tactic| with_reducible refine G.we_k0 ?_)
local macro_rules | `(tactic| walk_at "q_var") => `(tactic| with_reducible refine G.we_v25 ?_)
local macro_rules | `(tactic| walk_at "q_var") => `(tactic| with_reducible refine G.we_v24 ?_)
local macro_rules | `(tactic| walk_at "q_var") => `(tactic| with_reducible refine G.we_v23 ?_)
local macro_rules | `(tactic| walk_at "q_var") => `(tactic| with_reducible refine G.we_v22 ?_)
local macro_rules | `(tactic| walk_at "q_var") => `(tactic| with_reducible refine G.we_v21 ?_)
local macro_rules | `(tactic| walk_at "q_var") => `(tactic| with_reducible refine G.we_v20 ?_)
local macro_rules | `(tactic| walk_at "q_var") => `(tactic| with_reducible refine G.we_v19 ?_)
local macro_rules | `(tactic| walk_at "q_var") => `(tactic| with_reducible refine G.we_v18 ?_)
local macro_rules | `(tactic| walk_at "q_var") => `(tactic| with_reducible refine G.we_v17 ?_)
local macro_rules | `(tactic| walk_at "q_var") => `(tactic| with_reducible refine G.we_v16 ?_)
local macro_rules | `(tactic| walk_at "q_var") => `(tactic| with_reducible refine G.we_v15 ?_)
local macro_rules | `(tactic| walk_at "q_var") => `(tactic| with_reducible refine G.we_v14 ?_)
local macro_rules | `(tactic| walk_at "q_var") => `(tactic| with_reducible refine G.we_v13 ?_)
local macro_rules | `(tactic| walk_at "q_var") => `(tactic| with_reducible refine G.we_v12 ?_)
local macro_rules | `(tactic| walk_at "q_var") => `(tactic| with_reducible refine G.we_v11 ?_)
local macro_rules | `(tactic| walk_at "q_var") => `(tactic| with_reducible refine G.we_v10 ?_)
local macro_rules | `(tactic| walk_at "q_var") => `(tactic| with_reducible refine G.we_v9 ?_)
local macro_rules | `(tactic| walk_at "q_var") => `(tactic| with_reducible refine G.we_v8 ?_)
local macro_rules | `(tactic| walk_at "q_var") => `(tactic| with_reducible refine G.we_v7 ?_)
local macro_rules | `(tactic| walk_at "q_var") => `(tactic| with_reducible refine G.we_v6 ?_)
local macro_rules | `(tactic| walk_at "q_var") => `(tactic| with_reducible refine G.we_v5 ?_)
local macro_rules | `(tactic| walk_at "q_var") => `(tactic| with_reducible refine G.we_v4 ?_)
local macro_rules | `(tactic| walk_at "q_var") => `(tactic| with_reducible refine G.we_v3 ?_)
local macro_rules | `(tactic| walk_at "q_var") => `(tactic| with_reducible refine G.we_v2 ?_)
local macro_rules | `(tactic| walk_at "q_var") => `(tactic| with_reducible refine G.we_v1 ?_)
local macro_rules | `(tactic| walk_at "q_var") => `(tactic| with_reducible refine G.we_v0 ?_)
local macro_rules | `(tactic| walk_at "q_wc") => `(tactic| with_reducible refine G.wc_nil ?_)
local macro_rules | `(tactic| walk_at "q_ww") => `(tactic| with_reducible refine G.ww_rng2 ?_)
local macro_rules | `(tactic| walk_at "q_ww") => `(tactic| with_reducible refine G.ww_rng1 ?_)
local macro_rules | `(tactic| walk_at "q_ww") => `(tactic| ((with_reducible refine G.ww_seq ?_)))
local macro_rules | `(tactic| walk_at "q_setI") => `(tactic| with_reducible refine G.setI_25 ?_)
local macro_rules | `(tactic| walk_at "q_setI") => `(tactic| with_reducible refine G.setI_24 ?_)
local macro_rules | `(tactic| walk_at "q_setI") => `(tactic| with_reducible refine G.setI_23 ?_)
local macro_rules | `(tactic| walk_at "q_setI") => `(tactic| with_reducible refine G.setI_22 ?_)
local macro_rules | `(tactic| walk_at "q_setI") => `(tactic| with_reducible refine G.setI_21 ?_)
local macro_rules | `(tactic| walk_at "q_setI") => `(tactic| with_reducible refine G.setI_20 ?_)
local macro_rules | `(tactic| walk_at "q_setI") => `(tactic| with_reducible refine G.setI_19 ?_)
local macro_rules | `(tactic| walk_at "q_setI") => `(tactic| with_reducible refine G.setI_18 ?_)
local macro_rules | `(tactic| walk_at "q_setI") => `(tactic| with_reducible refine G.setI_17 ?_)
local macro_rules | `(tactic| walk_at "q_setI") => `(tactic| with_reducible refine G.setI_16 ?_)
local macro_rules | `(tactic| walk_at "q_setI") => `(tactic| with_reducible refine G.setI_15 ?_)
local macro_rules | `(tactic| walk_at "q_setI") => `(tactic| with_reducible refine G.setI_14 ?_)
local macro_rules | `(tactic| walk_at "q_setI") => `(tactic| with_reducible refine G.setI_13 ?_)
local macro_rules | `(tactic| walk_at "q_setI") => `(tactic| with_reducible refine G.setI_12 ?_)
local macro_rules | `(tactic| walk_at "q_setI") => `(tactic| with_reducible refine G.setI_11 ?_)
local macro_rules | `(tactic| walk_at "q_setI") => `(tactic| with_reducible refine G.setI_10 ?_)
local macro_rules | `(tactic| walk_at "q_setI") => `(tactic| with_reducible refine G.setI_9 ?_)
local macro_rules | `(tactic| walk_at "q_setI") => `(tactic| with_reducible refine G.setI_8 ?_)
local macro_rules | `(tactic| walk_at "q_setI") => `(tactic| with_reducible refine G.setI_7 ?_)
local macro_rules | `(tactic| walk_at "q_setI") => `(tactic| with_reducible refine G.setI_6 ?_)
local macro_rules | `(tactic| walk_at "q_setI") => `(tactic| with_reducible refine G.setI_5 ?_)
local macro_rules | `(tactic| walk_at "q_setI") => `(tactic| with_reducible refine G.setI_4 ?_)
local macro_rules | `(tactic| walk_at "q_setI") => `(tactic| with_reducible refine G.setI_3 ?_)
local macro_rules | `(tactic| walk_at "q_setI") => `(tactic| with_reducible refine G.setI_2 ?_)
local macro_rules | `(tactic| walk_at "q_setI") => `(tactic| with_reducible refine G.setI_1 ?_)
local macro_rules | `(tactic| walk_at "q_setI") => `(tactic| with_reducible refine G.setI_0 ?_)
local macro_rules | `(tactic| walk_at "q_ws") => `(tactic| with_reducible refine G.loop_cons ?_)
local macro_rules | `(tactic| walk_at "q_ws") => `(tactic| with_reducible refine G.loop_nil ?_)
local macro_rules | `(tactic| walk_at "q_ws") => `(tactic| ((with_reducible apply G.ws_app); (exact rfl)))
local macro_rules | `(tactic| walk_at "q_ws") => `(tactic| ((with_reducible apply G.ws_aug); (exact rfl)))
local macro_rules | `(tactic| walk_at "q_ws") => `(tactic| with_reducible refine G.ws_expr ?_)
local macro_rules | `(tactic| walk_at "q_ws") => `(tactic| with_reducible refine G.ws_for ?_)
local macro_rules | `(tactic| walk_at "q_ws") => `(tactic| with_reducible refine G.ws_own ?_)
local macro_rules | `(tactic| walk_at "q_ws") => `(tactic| with_reducible refine G.ws_par ?_)
local macro_rules | `(tactic| walk_at "q_ws") => `(tactic| with_reducible refine G.ws_if ?_)
local macro_rules | `(tactic| walk_at "q_ws") => `(tactic| with_reducible refine G.ws_retn ?_)
local macro_rules | `(tactic| walk_at "q_ws") => `(tactic| with_reducible refine G.ws_ret ?_)
local macro_rules | `(tactic| walk_at "q_ws") => `(tactic| with_reducible refine G.ws_asg ?_)
local macro_rules | `(tactic| walk_at "q_ws") => `(tactic| with_reducible refine G.ws_next ?_)
local macro_rules | `(tactic| walk_at "q_ws") => `(tactic| with_reducible refine G.ws_seq ?_)
local macro_rules | `(tactic| walk_at "q_fork") => `(tactic| with_reducible refine G.fork_b (fun h => ?_) (fun h => ?_))
local macro_rules | `(tactic| walk_at "q_fork") => `(tactic| with_reducible refine G.fork_eq (fun h => ?_) (fun h => ?_))
local macro_rules | `(tactic| walk_at "q_fork") => `(tactic| with_reducible refine G.fork_dec (fun h => ?_) (fun h => ?_))
local macro_rules | `(tactic| walk_at "q_fork") => `(tactic| ((with_reducible refine G.fork_lt ?_ ?_); decide))
local macro_rules | `(tactic| walk_at "q_fork") => `(tactic| ((with_reducible refine G.fork_lf ?_ ?_); decide))
local macro_rules | `(tactic| walk_at "q_fork") => `(tactic| with_reducible refine G.fork_seli ?_)
local macro_rules | `(tactic| walk_at "q_fork") => `(tactic| with_reducible refine G.fork_self ?_)
local macro_rules | `(tactic| walk_at "q_fork") => `(tactic| with_reducible refine G.fork_not ?_)
local macro_rules | `(tactic| walk_at "q_fork") => `(tactic| with_reducible refine G.fork_f ?_)
local macro_rules | `(tactic| walk_at "q_fork") => `(tactic| with_reducible refine G.fork_t ?_)
local macro_rules | `(tactic| walk_at "q_wt") => `(tactic| with_reducible refine G.wt_yes ?_)
local macro_rules | `(tactic| walk_at "q_wt") => `(tactic| with_reducible refine G.wt_not ?_)
local macro_rules | `(tactic| walk_at "q_wt") => `(tactic| with_reducible refine G.wt_or ?_)
local macro_rules | `(tactic| walk_at "q_wt") => `(tactic| with_reducible refine G.wt_and ?_)
local macro_rules | `(tactic| walk_at "q_wt") => `(tactic| with_reducible refine G.wt_test ?_)
local macro_rules | `(tactic| walk_at "q_wg") => `(tactic| ((with_reducible refine G.wg_repr ?_ ?_); (walk_at "shw")))
local macro_rules | `(tactic| walk_at "q_wg") => `(tactic| ((with_reducible apply G.wg_nil_f); (exact rfl); (exact rfl)))
local macro_rules | `(tactic| walk_at "q_wg") => `(tactic| ((with_reducible apply G.wg_nil_t); (exact rfl); (exact rfl)))
local macro_rules | `(tactic| walk_at "q_wg") => `(tactic| ((with_reducible apply G.wg_ix); (exact rfl); (walk_at "at")))
local macro_rules | `(tactic| walk_at "q_wg") => `(tactic| ((with_reducible apply G.wg_listof); (exact rfl)))
local macro_rules | `(tactic| walk_at "q_wg") => `(tactic| ((with_reducible apply G.wg_tupof); (exact rfl)))
local macro_rules | `(tactic| walk_at "q_wg") => `(tactic| ((with_reducible apply G.wg_len); (exact rfl)))
local macro_rules | `(tactic| walk_at "q_wg") => `(tactic| ((with_reducible apply G.wg_isn_f); (exact rfl)))
local macro_rules | `(tactic| walk_at "q_wg") => `(tactic| ((with_reducible apply G.wg_isn_t); (exact rfl)))
local macro_rules | `(tactic| walk_at "q_wg") => `(tactic| ((with_reducible apply G.wg_addl'); (walk_at "len"); (walk_at "app")))
local macro_rules | `(tactic| walk_at "q_wg") => `(tactic| ((with_reducible apply G.wg_addt'); (walk_at "len"); (walk_at "app")))
local macro_rules | `(tactic| walk_at "q_wg") => `(tactic| ((with_reducible refine G.wg_muli ?_ ?_); (walk_at "grd")))
local macro_rules | `(tactic| walk_at "q_wg") => `(tactic| ((with_reducible refine G.wg_ii ?_ ?_); (walk_at "grd")))
local macro_rules | `(tactic| walk_at "q_wg") => `(tactic| (first | (((with_reducible apply G.wg_pow); (first | decide | assumption); ((simp) <;> exact rfl))) | fail "no"))
local macro_rules | `(tactic| walk_at "q_wg") => `(tactic| ((with_reducible apply G.wg_cutl'); (walk_at "cut")))
local macro_rules | `(tactic| walk_at "q_wg") => `(tactic| ((with_reducible apply G.wg_cutt'); (walk_at "cut")))
local macro_rules | `(tactic| walk_at "q_wg") => `(tactic| with_reducible refine G.wg_abs ?_)
local macro_rules | `(tactic| walk_at "q_wg") => `(tactic| with_reducible refine G.wg_isi ?_)
local macro_rules | `(tactic| walk_at "q_wg") => `(tactic| with_reducible refine G.wg_isb_f ?_)
local macro_rules | `(tactic| walk_at "q_wg") => `(tactic| with_reducible refine G.wg_isb_t ?_)
local macro_rules | `(tactic| walk_at "q_wg") => `(tactic| with_reducible refine G.wg_eqs_f ?_)
local macro_rules | `(tactic| walk_at "q_wg") => `(tactic| with_reducible refine G.wg_eqs_t ?_)
local macro_rules | `(tactic| walk_at "q_wg") => `(tactic| with_reducible refine G.wg_nei ?_)
local macro_rules | `(tactic| walk_at "q_wg") => `(tactic| with_reducible refine G.wg_eqi ?_)
local macro_rules | `(tactic| walk_at "q_wg") => `(tactic| with_reducible refine G.wg_addi ?_)
local macro_rules | `(tactic| walk_at "q_wg") => `(tactic| with_reducible refine G.wg_int ?_)
local macro_rules | `(tactic| walk_at "q_wg") => `(tactic| with_reducible refine G.wg_i ?_)
local macro_rules | `(tactic| walk_at "q_wg") => `(tactic| with_reducible refine G.wg_ii0 ?_)
local macro_rules | `(tactic| walk_at "q_wo") => `(tactic| ((with_reducible refine G.wo_part ?_)))
local macro_rules | `(tactic| walk_at "q_wo") => `(tactic| with_reducible refine G.wo_no ?_)
local macro_rules | `(tactic| walk_at "q_datsQ") => `(tactic| with_reducible refine G.dats_16 ?_)
local macro_rules | `(tactic| walk_at "q_datsQ") => `(tactic| with_reducible refine G.dats_15 ?_)
local macro_rules | `(tactic| walk_at "q_datsQ") => `(tactic| with_reducible refine G.dats_14 ?_)
local macro_rules | `(tactic| walk_at "q_datsQ") => `(tactic| with_reducible refine G.dats_13 ?_)
local macro_rules | `(tactic| walk_at "q_datsQ") => `(tactic| with_reducible refine G.dats_12 ?_)
local macro_rules | `(tactic| walk_at "q_datsQ") => `(tactic| with_reducible refine G.dats_11 ?_)
local macro_rules | `(tactic| walk_at "q_datsQ") => `(tactic| with_reducible refine G.dats_10 ?_)
local macro_rules | `(tactic| walk_at "q_datsQ") => `(tactic| with_reducible refine G.dats_9 ?_)
local macro_rules | `(tactic| walk_at "q_datsQ") => `(tactic| with_reducible refine G.dats_8 ?_)
local macro_rules | `(tactic| walk_at "q_datsQ") => `(tactic| with_reducible refine G.dats_7 ?_)
local macro_rules | `(tactic| walk_at "q_datsQ") => `(tactic| with_reducible refine G.dats_6 ?_)
local macro_rules | `(tactic| walk_at "q_datsQ") => `(tactic| with_reducible refine G.dats_5 ?_)
local macro_rules | `(tactic| walk_at "q_datsQ") => `(tactic| with_reducible refine G.dats_4 ?_)
local macro_rules | `(tactic| walk_at "q_datsQ") => `(tactic| with_reducible refine G.dats_3 ?_)
local macro_rules | `(tactic| walk_at "q_datsQ") => `(tactic| with_reducible refine G.dats_2 ?_)
local macro_rules | `(tactic| walk_at "q_datsQ") => `(tactic| with_reducible refine G.dats_1 ?_)
local macro_rules | `(tactic| walk_at "q_datsQ") => `(tactic| with_reducible refine G.dats_0 ?_)
local macro_rules | `(tactic| walk_at "q_wl") => `(tactic| with_reducible refine G.wl_cons ?_)
local macro_rules | `(tactic| walk_at "q_wl") => `(tactic| with_reducible refine G.wl_nil ?_)
local macro_rules | `(tactic| walk_at "q_we") => `(tactic| ((with_reducible refine G.we_dki ?_ ?_); (exact rfl)))
local macro_rules | `(tactic| walk_at "q_we") => `(tactic| with_reducible refine G.we_or ?_)
local macro_rules | `(tactic| walk_at "q_we") => `(tactic| with_reducible refine G.we_and ?_)
local macro_rules | `(tactic| walk_at "q_we") => `(tactic| ((with_reducible refine G.id_var ?_); (walk_at "q_var")))
local macro_rules | `(tactic| walk_at "q_we") => `(tactic| with_reducible refine G.we_f2 ?_)
local macro_rules | `(tactic| walk_at "q_we") => `(tactic| with_reducible refine G.we_f1 ?_)
local macro_rules | `(tactic| walk_at "q_we") => `(tactic| with_reducible refine G.we_not ?_)
local macro_rules | `(tactic| walk_at "q_we") => `(tactic| with_reducible refine G.we_lc ?_)
local macro_rules | `(tactic| walk_at "q_we") => `(tactic| with_reducible refine G.we_slu ?_)
local macro_rules | `(tactic| walk_at "q_we") => `(tactic| with_reducible refine G.we_if ?_)
local macro_rules | `(tactic| walk_at "q_we") => `(tactic| with_reducible refine G.we_callk ?_)
local macro_rules | `(tactic| walk_at "q_we") => `(tactic| with_reducible refine G.we_callid ?_)
local macro_rules | `(tactic| walk_at "q_we") => `(tactic| with_reducible refine G.we_call ?_)
local macro_rules | `(tactic| walk_at "q_we") => `(tactic| with_reducible refine G.we_seq ?_)
local macro_rules | `(tactic| walk_at "q_we") => `(tactic| with_reducible refine G.we_neg ?_)
local macro_rules | `(tactic| walk_at "q_we") => `(tactic| with_reducible refine G.we_max ?_)
local macro_rules | `(tactic| walk_at "q_we") => `(tactic| with_reducible refine G.we_gcd ?_)
local macro_rules | `(tactic| walk_at "q_we") => `(tactic| with_reducible refine G.we_pow ?_)
local macro_rules | `(tactic| walk_at "q_we") => `(tactic| with_reducible refine G.we_ixt ?_)
local macro_rules | `(tactic| walk_at "q_we") => `(tactic| with_reducible refine G.we_ix ?_)
local macro_rules | `(tactic| walk_at "q_we") => `(tactic| with_reducible refine G.we_ne ?_)
local macro_rules | `(tactic| walk_at "q_we") => `(tactic| with_reducible refine G.we_eq ?_)
local macro_rules | `(tactic| walk_at "q_we") => `(tactic| with_reducible refine G.we_cmp ?_)
local macro_rules | `(tactic| walk_at "q_we") => `(tactic| with_reducible refine G.we_mod ?_)
local macro_rules | `(tactic| walk_at "q_we") => `(tactic| with_reducible refine G.we_div ?_)
local macro_rules | `(tactic| walk_at "q_we") => `(tactic| with_reducible refine G.we_mul ?_)
local macro_rules | `(tactic| walk_at "q_we") => `(tactic| with_reducible refine G.we_sub ?_)
local macro_rules | `(tactic| walk_at "q_we") => `(tactic| with_reducible refine G.we_add ?_)
local macro_rules | `(tactic| walk_at "q_we") => `(tactic| with_reducible refine G.we_c ?_)
local macro_rules | `(tactic| walk_at "vc1") => `(tactic| walk_at "spec")
local macro_rules | `(tactic| walk_at "vc1") => `(tactic| ((with_reducible refine G.aug_i ?_ ?_); (walk_at "grd")))
local macro_rules | `(tactic| walk_at "vc1") => `(tactic| ((with_reducible refine G.len_i ?_ ?_); (walk_at "len")))
local macro_rules | `(tactic| walk_at "vc1") => `(tactic| with_reducible refine G.walk_l ?_)
local macro_rules | `(tactic| walk_at "vc1") => `(tactic| with_reducible refine G.walk_t ?_)
local macro_rules | `(tactic| walk_at "vc1") => `(tactic| with_reducible refine G.par_i ?_)
local macro_rules | `(tactic| walk_at "vc1") => `(tactic| with_reducible refine G.part_i ?_)
local macro_rules | `(tactic| walk_at "vc1") => `(tactic| ((with_reducible refine G.rng2_i ?_ ?_); (first | decide | omega)))
local macro_rules | `(tactic| walk_at "vc1") => `(tactic| ((with_reducible refine G.rng1_i ?_ ?_); (first | decide | omega)))
local macro_rules | `(tactic| walk_at "vc1") => `(tactic| with_reducible refine G.wc_cons ?_)
local macro_rules | `(tactic| walk_at "vc1") => `(tactic| ((with_reducible refine G.id_wc ?_); (walk_at "q_wc")))
local macro_rules | `(tactic| walk_at "vc1") => `(tactic| ((with_reducible refine G.id_ww ?_); (walk_at "q_ww")))
local macro_rules | `(tactic| walk_at "vc1") => `(tactic| ((with_reducible refine G.id_setI ?_); (walk_at "q_setI")))
local macro_rules | `(tactic| walk_at "vc1") => `(tactic| with_reducible refine G.sets_cons ?_)
local macro_rules | `(tactic| walk_at "vc1") => `(tactic| with_reducible refine G.sets_nil ?_)
local macro_rules | `(tactic| walk_at "vc1") => `(tactic| ((with_reducible apply G.set_tup); (exact rfl); (exact rfl)))
local macro_rules | `(tactic| walk_at "vc1") => `(tactic| with_reducible refine G.set_deck ?_)
local macro_rules | `(tactic| walk_at "vc1") => `(tactic| with_reducible refine G.set_dat ?_)
local macro_rules | `(tactic| walk_at "vc1") => `(tactic| with_reducible refine G.ret_nx ?_)
local macro_rules | `(tactic| walk_at "vc1") => `(tactic| with_reducible refine G.ret_rt ?_)
local macro_rules | `(tactic| walk_at "vc1") => `(tactic| with_reducible refine G.step_ct ?_)
local macro_rules | `(tactic| walk_at "vc1") => `(tactic| with_reducible refine G.go_ct ?_)
local macro_rules | `(tactic| walk_at "vc1") => `(tactic| with_reducible refine G.then_ct ?_)
local macro_rules | `(tactic| walk_at "vc1") => `(tactic| with_reducible refine G.step_bk ?_)
local macro_rules | `(tactic| walk_at "vc1") => `(tactic| with_reducible refine G.go_bk ?_)
local macro_rules | `(tactic| walk_at "vc1") => `(tactic| with_reducible refine G.then_bk ?_)
local macro_rules | `(tactic| walk_at "vc1") => `(tactic| with_reducible refine G.step_rt ?_)
local macro_rules | `(tactic| walk_at "vc1") => `(tactic| with_reducible refine G.go_rt ?_)
local macro_rules | `(tactic| walk_at "vc1") => `(tactic| with_reducible refine G.then_rt ?_)
local macro_rules | `(tactic| walk_at "vc1") => `(tactic| with_reducible refine G.step_nx ?_)
local macro_rules | `(tactic| walk_at "vc1") => `(tactic| with_reducible refine G.go_nx ?_)
local macro_rules | `(tactic| walk_at "vc1") => `(tactic| with_reducible refine G.then_nx ?_)
local macro_rules | `(tactic| walk_at "vc1") => `(tactic| with_reducible refine G.wst_rt ?_)
local macro_rules | `(tactic| walk_at "vc1") => `(tactic| with_reducible refine G.wst_nx ?_)
local macro_rules | `(tactic| walk_at "vc1") => `(tactic| with_reducible refine G.we_chain3 ?_)
local macro_rules | `(tactic| walk_at "vc1") => `(tactic| ((with_reducible refine G.id_ws ?_); (walk_at "q_ws")))
local macro_rules | `(tactic| walk_at "vc1") => `(tactic| ((with_reducible refine G.id_fork ?_); (walk_at "q_fork")))
local macro_rules | `(tactic| walk_at "vc1") => `(tactic| ((with_reducible refine G.id_wt ?_); (walk_at "q_wt")))
local macro_rules | `(tactic| walk_at "vc1") => `(tactic| with_reducible refine G.boolQ_i ?_)
local macro_rules | `(tactic| walk_at "vc1") => `(tactic| with_reducible refine G.rdat_o ?_)
local macro_rules | `(tactic| walk_at "vc1") => `(tactic| with_reducible refine G.rdat_i ?_)
local macro_rules | `(tactic| walk_at "vc1") => `(tactic| with_reducible refine G.datQ_i ?_)
local macro_rules | `(tactic| walk_at "vc1") => `(tactic| ((with_reducible refine G.id_wg ?_); (walk_at "q_wg")))
local macro_rules | `(tactic| walk_at "vc1") => `(tactic| ((with_reducible refine G.id_wo ?_); (walk_at "q_wo")))
local macro_rules | `(tactic| walk_at "vc1") => `(tactic| ((with_reducible refine G.call_i ?_ ?_); (exact ⟨rfl, rfl⟩)))
local macro_rules | `(tactic| walk_at "vc1") => `(tactic| ((with_reducible refine G.id_datsQ ?_); (walk_at "q_datsQ")))
local macro_rules | `(tactic| walk_at "vc1") => `(tactic| ((with_reducible refine G.id_wl ?_); (walk_at "q_wl")))
local macro_rules | `(tactic| walk_at "vc1") => `(tactic| ((with_reducible refine G.id_we ?_); (walk_at "q_we")))
local macro_rules | `(tactic| walk_at "vc") => `(tactic| repeat' (walk_at "vc1"))
local macro_rules | `(tactic| walk_at "spec") => `(tactic| ((with_reducible refine And.intro ?_ ?_); (exact ⟨rfl, rfl⟩)))
local macro_rules | `(tactic| walk_at "spec") => `(tactic| with_reducible refine G.try_rt ?_)
local macro_rules | `(tactic| walk_at "spec") => `(tactic| with_reducible refine G.try_nx ?_)
local macro_rules | `(tactic| walk_at "spec") => `(tactic| with_reducible refine G.retx_ex ?_)
local macro_rules | `(tactic| walk_at "spec") => `(tactic| with_reducible refine G.retx_nx ?_)
local macro_rules | `(tactic| walk_at "spec") => `(tactic| with_reducible refine G.retx_rt ?_)
local macro_rules | `(tactic| walk_at "spec") => `(tactic| with_reducible refine G.lift_rt' ?_)
local macro_rules | `(tactic| walk_at "spec") => `(tactic| with_reducible refine G.lift_nx' ?_)
local macro_rules | `(tactic| walk_at "spec") => `(tactic| with_reducible refine G.thenx_ex ?_)
local macro_rules | `(tactic| walk_at "spec") => `(tactic| with_reducible refine G.thenx_rt ?_)
local macro_rules | `(tactic| walk_at "spec") => `(tactic| with_reducible refine G.thenx_nx ?_)
local macro_rules | `(tactic| walk_at "spec") => `(tactic| with_reducible refine G.wxs_try ?_)
local macro_rules | `(tactic| walk_at "spec") => `(tactic| with_reducible refine G.wxs_raise1 ?_)
local macro_rules | `(tactic| walk_at "spec") => `(tactic| with_reducible refine G.wxs_raise0 ?_)
local macro_rules | `(tactic| walk_at "spec") => `(tactic| with_reducible refine G.wxs_expr ?_)
local macro_rules | `(tactic| walk_at "spec") => `(tactic| with_reducible refine G.wxs_ret ?_)
local macro_rules | `(tactic| walk_at "spec") => `(tactic| with_reducible refine G.wxs_if ?_)
local macro_rules | `(tactic| walk_at "spec") => `(tactic| with_reducible refine G.wxs_seq ?_)
local macro_rules | `(tactic| walk_at "spec") => `(tactic| with_reducible refine G.wxs_lift ?_)
local macro_rules | `(tactic| walk_at "spec") => `(tactic| with_reducible refine G.wxe_seq ?_)
local macro_rules | `(tactic| walk_at "spec") => `(tactic| with_reducible refine G.wxl_cons ?_)
local macro_rules | `(tactic| walk_at "spec") => `(tactic| with_reducible refine G.wxe_if ?_)
local macro_rules | `(tactic| walk_at "spec") => `(tactic| ((with_reducible refine G.wxe_call ?_)))
local macro_rules | `(tactic| walk_at "spec") => `(tactic| with_reducible refine G.wxl_lift ?_)
local macro_rules | `(tactic| walk_at "spec") => `(tactic| with_reducible refine G.wxe_lift ?_)
local macro_rules | `(tactic| walk_at "spec") => `(tactic| ((with_reducible apply G.zip_i); (exact rfl); (exact rfl)))
local macro_rules | `(tactic| walk_at "spec") => `(tactic| with_reducible refine G.ww_zip ?_)
local macro_rules | `(tactic| walk_at "spec") => `(tactic| with_reducible refine G.par3_i ?_)
local macro_rules | `(tactic| walk_at "spec") => `(tactic| with_reducible refine G.ws_par3 ?_)
local macro_rules | `(tactic| walk_at "spec") => `(tactic| ((with_reducible refine G.try_miss ?_ ?_); (first | rfl | simp; done)))
local macro_rules | `(tactic| walk_at "spec") => `(tactic| ((with_reducible refine G.try_hit0 ?_ ?_ ?_); (first | rfl | simp); (simp)))
local macro_rules | `(tactic| walk_at "spec") => `(tactic| ((with_reducible refine G.try_hit2 ?_ ?_ ?_); (first | rfl | simp); (simp)))
local macro_rules | `(tactic| walk_at "spec") => `(tactic| with_reducible refine G.we_tupG ?_)
local macro_rules | `(tactic| walk_at "spec") => `(tactic| with_reducible refine G.ww_enumU ?_)
local macro_rules | `(tactic| walk_at "spec") => `(tactic| ((with_reducible apply G.set_lst); (exact rfl); (exact rfl)))
local macro_rules | `(tactic| walk_at "spec") => `(tactic| ((with_reducible refine G.setI_wipe ?_); (simp only [DL.wipeE, List.set_cons_succ, List.set_cons_zero])))
local macro_rules | `(tactic| walk_at "at") => `(tactic| exact G.vAt0 _ _)
local macro_rules | `(tactic| walk_at "len") => `(tactic| (simp only [List.length_cons, List.length_nil, List.length_append, List.length_map]; omega))
local macro_rules | `(tactic| walk_at "spec") => `(tactic| with_reducible refine G.wxe_2 ?_)
local macro_rules | `(tactic| walk_at "spec") => `(tactic| with_reducible refine G.wb_nil ?_)
local macro_rules | `(tactic| walk_at "spec") => `(tactic| ((with_reducible apply G.ws_frzD); (exact rfl)))
local macro_rules | `(tactic| walk_at "spec") => `(tactic| ((with_reducible apply G.ws_frz'); (exact rfl)))
local macro_rules | `(tactic| walk_at "spec") => `(tactic| with_reducible refine G.ws_ownRep' ?_)
local macro_rules | `(tactic| walk_at "spec") => `(tactic| with_reducible refine G.ws_ownLc' ?_)
local macro_rules | `(tactic| walk_at "spec") => `(tactic| with_reducible refine G.ws_setX ?_)
local macro_rules | `(tactic| walk_at "spec") => `(tactic| with_reducible refine G.ww_rng3 ?_)
local macro_rules | `(tactic| walk_at "spec") => `(tactic| ((with_reducible refine G.wg_strU ?_ ?_ ?_); (walk_at "shw"); (first | rfl | assumption)))
local macro_rules | `(tactic| walk_at "spec") => `(tactic| with_reducible refine G.wg_i' ?_)
local macro_rules | `(tactic| walk_at "spec") => `(tactic| with_reducible refine G.we_bits ?_)
local macro_rules | `(tactic| walk_at "spec") => `(tactic| with_reducible refine G.we_band ?_)
local macro_rules | `(tactic| walk_at "spec") => `(tactic| with_reducible refine G.we_shl ?_)
local macro_rules | `(tactic| walk_at "spec") => `(tactic| with_reducible refine G.we_shr ?_)
local macro_rules | `(tactic| walk_at "spec") => `(tactic| with_reducible refine G.we_anyX ?_)
local macro_rules | `(tactic| walk_at "spec") => `(tactic| with_reducible refine G.we_allX ?_)
local macro_rules | `(tactic| walk_at "spec") => `(tactic| with_reducible refine G.we_tupX ?_)
set_option maxHeartbeats 8000000
set_option exponentiation.threshold 3000
namespace G
open PySem PySem.Spec PyProof.Rows L2 DL
theorem divU_pos {i j : Int} (h : cDiv i j = true) : gDivU (.dat (.int i)) (.dat (.int j)) = some (.dat (.int (i / j))) := by
  simp [gDivU, gII, h]
def dEnd : Fs := (sSeq (sAsg (fMod (f2 gAddU (f2 gAddU (f2 gMulU (fDkI 0 Dk.mixed) (fC (.int 39373))) (f2 gMulU (fDkI 0 Dk.turn) (fC (.int 6101)))) (fC (.int 22))) (fC (.int 2147483629))) (qName 3))
    (sSeq (sDkPut 0 putMixed (fMod (f2 gAddU (f2 gMulU (fVar 3) (fVar 3)) (fDkI 0 Dk.turn)) (fC (.int 2147483587))))
    (sRet (fMod (f2 gDivU (fDkI 0 Dk.mixed) (fC (.int 89))) (fVar 1)))))
theorem draw_end (b : Int) (hb : 0 < b) (c2 c3 : Sl) (n : Nat) (k : Dk) (h : Ok n k) : ∃ r k', dEnd [.deck, .dat (.int b), c2, c3] k = .rt (.int r) k' ∧ 0 ≤ r ∧ r < b ∧ Ok n k' := by
  obtain ⟨h1, h2, h3, h4, h5⟩ := h
  have a1 : cMul k.mixed 39373 = true := cM' (by omega) (by decide)
  have a2 : cMul k.turn 6101 = true := cM' (by omega) (by decide)
  have a3 : ∀ i, cMod i 2147483629 = true := fun i => rfl
  have a4 : ∀ i, cMod i 2147483587 = true := fun i => rfl
  have a6 : ∀ i, cMod i b = true := fun i => cMo (by omega)
  have z0 := fm0 (k.mixed * 39373 + k.turn * 6101 + 22) (b := 2147483629) (by decide)
  have z1 := fm1 (k.mixed * 39373 + k.turn * 6101 + 22) (b := 2147483629) (by decide)
  generalize e : (k.mixed * 39373 + k.turn * 6101 + 22).fmod 2147483629 = z at z0 z1
  have a7 : cMul z z = true := cM' (by omega) (by omega)
  have w0 := fm0 (z * z + k.turn) (b := 2147483587) (by decide)
  have w1 := fm1 (z * z + k.turn) (b := 2147483587) (by decide)
  generalize e2 : (z * z + k.turn).fmod 2147483587 = y at w0 w1
  have a8 : cDiv y 89 = true := cD (by decide) (by decide)
  refine ⟨(y / 89).fmod b, { k with mixed := y }, ?_, fm0 _ hb, fm1 _ hb, w0, by show y < 2147483647; omega, h3, h4, h5⟩
  refine seq_of (e' := [.deck, .dat (.int b), c2, .dat (.int z)]) (k' := k) ?_ (seq_of (e' := [.deck, .dat (.int b), c2, .dat (.int z)]) (k' := { k with mixed := y }) ?_ (ret_of ?_))
  · simp [sAsg, isDeck, fMod, f2, gAddU, gMulU, gII, fDkI, fC, fVar, c0, a1, a2, a3, e, qName, stor]
  · simp [sDkPut, putMixed, isDeck, fMod, f2, gAddU, gMulU, gII, fDkI, fC, fVar, c0, a4, a7, e2]
  · simp [fMod, f2, isDeck, fDkI, fC, fVar, divU_pos a8, gII, a6]
theorem draw (b : Int) (hb : 0 < b) (hb2 : b < 1000002) (n : Nat) (k : Dk) (h : Ok (n + 1) k) : ∃ r k', f__law_draw [.deck, .dat (.int b)] k = some (.int r, k') ∧ 0 ≤ r ∧ r < b ∧ Ok n k' := by
  obtain ⟨h1, h2, h3, h4, h5⟩ := h
  have a1 : cPow 10 18 = true := by decide
  have a6 : ∀ i, cMod i b = true := fun i => cMo (by omega)
  have a3 : ∀ i, cMod i 2147483587 = true := fun i => rfl
  have s1 : sDkPut 0 putTurn (f2 gAddU (fDkI 0 Dk.turn) (fC (.int 1))) [.deck, .dat (.int b), .un, .un] k = .nx [.deck, .dat (.int b), .un, .un] { k with turn := k.turn + 1 } := by
    simp [sDkPut, putTurn, isDeck, f2, gAddU, gII, fDkI, fC, c0]
  by_cases hc : k.cells = []
  · obtain ⟨r, k', e, q1, q2, q3⟩ := draw_end b hb .un .un n { k with turn := k.turn + 1 } ⟨h1, h2, by show 0 ≤ k.turn + 1; omega, by show k.turn + 1 + n ≤ _; omega, h5⟩
    refine ⟨r, k', ?_, q1, q2, q3⟩
    refine fn_of (seq_of s1 (seq_of (e' := [.deck, .dat (.int b), .un, .un]) (k' := { k with turn := k.turn + 1 }) (if_f (k' := { k with turn := k.turn + 1 }) ?_ rfl) e))
    simp [fTest, fDkNe, isDeck, hc]
  · obtain ⟨z, ez⟩ := last_some hc
    have hi : k.cells.isEmpty = false := by cases hk : k.cells with | nil => exact absurd hk hc | cons _ _ => rfl
    have t1 : fTest (fDkNe 0) [.deck, .dat (.int b), .un, .un] { k with turn := k.turn + 1 } = some (true, { k with turn := k.turn + 1 }) := by
      simp [fTest, fDkNe, isDeck, hi]
    have s2 : sAsg (fDkPop 0) (qName 2) [.deck, .dat (.int b), .un, .un] { k with turn := k.turn + 1 } = .nx [.deck, .dat (.int b), .dat (.int z), .un] { k with turn := k.turn + 1, cells := k.cells.dropLast } := by
      simp [sAsg, fDkPop, isDeck, ez, qName, stor]
    have hl : k.cells.dropLast.length ≤ 1000 := by rw [List.length_dropLast]; omega
    have hl2 : ∀ y : Int, (k.cells.dropLast ++ [y]).length ≤ 1000 := fun y => by
      have hne : k.cells.length ≠ 0 := fun w => hc (List.length_eq_zero_iff.mp w)
      rw [List.length_append, List.length_dropLast, List.length_singleton]
      omega
    by_cases hz : (1000000000000000000 : Int) ≤ z
    · have a2 : cDiv z (if b > 2 then b else 2) = true := cD (by split <;> omega) (by split <;> omega)
      refine ⟨z.fmod b, { k with cells := k.cells.dropLast ++ [z / (if b > 2 then b else 2)], turn := k.turn + 1 }, ?_, fm0 _ hb, fm1 _ hb, h1, h2, by show 0 ≤ k.turn + 1; omega, by show k.turn + 1 + n ≤ _; omega, hl2 _⟩
      refine fn_of (seq_of s1 (seq_rt (if_t t1 (seq_of s2 (seq_rt (if_t (k' := { k with turn := k.turn + 1, cells := k.cells.dropLast }) ?_ (seq_of (e' := [.deck, .dat (.int b), .dat (.int z), .un]) (k' := { k with cells := k.cells.dropLast ++ [z / (if b > 2 then b else 2)], turn := k.turn + 1 }) ?_ (ret_of ?_))))))))
      · simp [fTest, fCmp, f2, gII, fVar, fPow, fC, c0, a1, hz]
      · have hl' : k.cells.length - 1 < 1000000 := by omega
        have m : fMax (fC (.int 2)) (fVar 1) [.deck, .dat (.int b), .dat (.int z), .un] { k with turn := k.turn + 1, cells := k.cells.dropLast } = some (.dat (.int (if b > 2 then b else 2)), { k with turn := k.turn + 1, cells := k.cells.dropLast }) := by
          simp [fMax, f2, gII, fVar, fC, c0]
        have d : f2 gDivU (fVar 2) (fMax (fC (.int 2)) (fVar 1)) [.deck, .dat (.int b), .dat (.int z), .un] { k with turn := k.turn + 1, cells := k.cells.dropLast } = some (.dat (.int (z / (if b > 2 then b else 2))), { k with turn := k.turn + 1, cells := k.cells.dropLast }) := f2_of (a := .dat (.int z)) rfl m (divU_pos a2)
        unfold sDkApp
        rw [d]
        simp [isDeck, hl']
      · simp [fMod, f2, gII, fVar, a6]
    · have z0 := fm0 (k.mixed + z.fmod 2147483587 + 1) (b := 2147483587) (by decide)
      have z1 := fm1 (k.mixed + z.fmod 2147483587 + 1) (b := 2147483587) (by decide)
      obtain ⟨r, k', e, q1, q2, q3⟩ := draw_end b hb (.dat (.int z)) .un n { cells := k.cells.dropLast, mixed := (k.mixed + z.fmod 2147483587 + 1).fmod 2147483587, turn := k.turn + 1 } ⟨z0, by show (k.mixed + z.fmod 2147483587 + 1).fmod 2147483587 < (2147483647 : Int); omega, by show 0 ≤ k.turn + 1; omega, by show k.turn + 1 + n ≤ _; omega, hl⟩
      refine ⟨r, k', ?_, q1, q2, q3⟩
      refine fn_of (seq_of s1 (seq_of (if_t t1 (seq_of s2 (seq_of (e' := [.deck, .dat (.int b), .dat (.int z), .un]) (k' := { k with turn := k.turn + 1, cells := k.cells.dropLast }) (if_f (k' := { k with turn := k.turn + 1, cells := k.cells.dropLast }) ?_ rfl) ?_))) e))
      · simp [fTest, fCmp, f2, gII, fVar, fPow, fC, c0, a1, hz]
      · simp [sDkPut, putMixed, isDeck, fMod, f2, gAddU, gII, fDkI, fVar, fC, c0, a3]
theorem pick (some_ : DL.D) (ds : List DL.D) (hs : asQ (.dat some_) = some ds) (h0 : 0 < ds.length) (h1 : ds.length < 1000000) (n : Nat) (k : Dk) (h : Ok (n + 1) k) :
    ∃ x k', f__law_pick [.deck, .dat some_] k = some (x, k') ∧ x ∈ ds ∧ Ok n k' := by
  obtain ⟨r, k', e, q1, q2, q3⟩ := draw ds.length (by omega) (by omega) n k h
  have hr : r.toNat < ds.length := by omega
  refine ⟨ds[r.toNat], k', ?_, List.getElem_mem hr, q3⟩
  refine fn_of (ret_of ?_)
  have e2 : atI ds r = some ds[r.toNat] := by
    have z := atI_nat (xs := ds) (j := r.toNat) (List.getElem?_eq_getElem hr)
    rwa [Int.toNat_of_nonneg q1] at z
  simp [fIx, f2, fVar, fCall, fCons, fNil, f1, gLen, hs, okArg, e, gIx, e2]
def mixBody : Fs := (sAsg (fMod (f2 gAddU (f2 gAddU (f2 gMulU (fVar 3) (fC (.int 45991))) (fMod (fVar 1) (fC (.int 2147483549)))) (fC (.int 22))) (fC (.int 2147483587))) (qName 3))
theorem mix_loop (s s2 : Sl) (k : Dk) : ∀ (c : List Int) (x : Sl) (m : Int), 0 ≤ m → m < 2147483647 → ∃ x' m', loopF (qName 1) mixBody (c.map PyData.int) [s, x, s2, .dat (.int m)] k = .nx [s, x', s2, .dat (.int m')] k ∧ 0 ≤ m' ∧ m' < 2147483647
  | [], x, m, h0, h1 => ⟨x, m, rfl, h0, h1⟩
  | z :: c, x, m, h0, h1 => by
    have a1 : cMul m 45991 = true := cM' (by omega) (by decide)
    have a3 : ∀ i, cMod i 2147483587 = true := fun i => rfl
    have a4 : ∀ i, cMod i 2147483549 = true := fun i => rfl
    have z1 := fm1 (m * 45991 + z.fmod 2147483549 + 22) (b := 2147483587) (by decide)
    obtain ⟨x', m', e, q0, q1⟩ := mix_loop s s2 k c (.dat (.int z)) ((m * 45991 + z.fmod 2147483549 + 22).fmod 2147483587) (fm0 _ (by decide)) (by omega)
    refine ⟨x', m', ?_, q0, q1⟩
    have q : qName 1 (.dat (.int z)) [s, x, s2, .dat (.int m)] = some [s, .dat (.int z), s2, .dat (.int m)] := by simp [qName, stor]
    have b : mixBody [s, .dat (.int z), s2, .dat (.int m)] k = .nx [s, .dat (.int z), s2, .dat (.int ((m * 45991 + z.fmod 2147483549 + 22).fmod 2147483587))] k := by
      simp [mixBody, sAsg, fMod, f2, gAddU, gMulU, gII, fVar, fC, c0, a1, a3, a4, qName, stor]
    simp only [List.map_cons, loopF, q, b]
    exact e
theorem deck_ok (ns : List Int) (hl : ns.length ≤ 63) (k0 : Dk) : ∃ k, f__law_deck [.scr ns] k0 = some (deckD k, k0) ∧ Ok 100000 k := by
  obtain ⟨c, hc, lc⟩ := cut_ints ns none (some 63)
  obtain ⟨x', m', e, q0, q1⟩ := mix_loop (.scr ns) (.dat (.list (c.map PyData.int))) k0 c .un 1087705 (by decide) (by decide)
  refine ⟨⟨c.reverse, m', 0⟩, ?_, q0, q1, Int.le_refl _, by show (0 : Int) + (100000 : Nat) ≤ 1000000; decide, by show c.reverse.length ≤ 1000; rw [List.length_reverse]; omega⟩
  refine fn_of (seq_of (e' := [.scr ns, .un, .dat (.list (c.map PyData.int)), .dat (.int 1087705)]) (k' := k0) ?_ (seq_of (e' := [.scr ns, x', .dat (.list (c.map PyData.int)), .dat (.int m')]) (k' := k0) ?_ (ret_of ?_)))
  · have l := lc_int (.scr ns) .un .un k0 c [] (by simp; omega)
    have s : fSlU (fVar 0) fNoPart (fPart (fC (.int 63))) [.scr ns, .un, .un, .un] k0 = some (.dat (.list (c.map PyData.int)), k0) := by
      simp [fSlU, fVar, fNoPart, fPart, fC, cutU, hc]
    have lc' : fLc (wSeq (fSlU (fVar 0) fNoPart (fPart (fC (.int 63))))) (qName 1) fYes (f1 gInt (fVar 1)) [1] [.scr ns, .un, .un, .un] k0 = some (.dat (.list (c.map PyData.int)), k0) := by
      simp only [List.nil_append] at l
      simp [fLc, wSeq, wOf, s, asLd, wipeE, l]
    show sPar 2 3 _ [.scr ns, .un, .un, .un] k0 = _
    unfold sPar
    rw [cons_of lc' (cons_of (c_of (.int 1087705)) nil_of)]
    rfl
  · show sFor (wSeq (fVar 2)) (qName 1) mixBody _ _ = _
    unfold sFor
    have w : wSeq (fVar 2) [.scr ns, .un, .dat (.list (c.map PyData.int)), .dat (.int 1087705)] k0 = some (c.map PyData.int, k0) := rfl
    rw [w]
    exact e
  · have r : fRevU (fVar 2) [.scr ns, x', .dat (.list (c.map PyData.int)), .dat (.int m')] k0 = some (.dat (.list (c.map PyData.int).reverse), k0) := by
      simp [fRevU, fRevL, f1, fVar, asL]
    simp [fDisp, fPairs, r, fVar, fC, keyD, deckD]
    exact ⟨by decide, by decide, by decide⟩
def isTup (m : Nat) (d : DL.D) : Bool := match d with
  | .tuple ds => decide (ds.length = m) && ds.all isIntD
  | _ => false
theorem isTup_not {d : DL.D} (h : ∀ ds, d ≠ .tuple ds) (m : Nat) : isTup m d = false := by
  cases d with
  | tuple ds => exact absurd rfl (h ds)
  | _ => rfl
theorem tuple_of (d : DL.D) (m : Nat) (k : Dk) : f_is_tuple_of [.dat d, .dat (.int m)] k = some (.bool (match d with
    | .tuple ds => decide (ds.length = m)
    | _ => false), k) := by
  refine fn_of (ret_of ?_)
  rcases tup_or d with ⟨ds, rfl⟩ | h
  · simp [fAnd, fTest, f1, fVar, isi_tup, isB_tup, fEq, f2, gLen, asQ, asL, asT, eqII]
    by_cases e : ds.length = m <;> simp [e] <;> omega
  · have e := not_tup h
    simp [fAnd, fTest, f1, fVar, isi_tup, e]
theorem integers (d : DL.D) (m : Nat) (k : Dk) : f_is_integers [.dat d, .dat (.int m)] k = some (.bool (isTup m d), k) := by
  refine fn_of (ret_of ?_)
  rcases tup_or d with ⟨ds, rfl⟩ | h
  · by_cases e : ds.length = m
    · simp [fAnd, fTest, fCall, fCons, fNil, fVar, okArg, tuple_of, f1, gAllI, asT, e, isTup]
    · simp [fAnd, fTest, fCall, fCons, fNil, fVar, okArg, tuple_of, f1, gAllI, asT, e, isTup]
  · have e : (match d with
      | PyData.tuple ds => decide (ds.length = m)
      | _ => false) = false := by
      cases d with
      | tuple ds => exact absurd rfl (h ds)
      | _ => rfl
    simp [fAnd, fTest, fCall, fCons, fNil, fVar, okArg, tuple_of, e, isTup_not h]
theorem isTup_len {m : Nat} {d : DL.D} (h : isTup m d = true) : ∃ ds, d = .tuple ds ∧ ds.length = m ∧ ds.all isIntD = true := by
  rcases tup_or d with ⟨ds, rfl⟩ | q
  · simp only [isTup, Bool.and_eq_true, decide_eq_true_eq] at h
    exact ⟨ds, rfl, h.1, h.2⟩
  · rw [isTup_not q] at h; cases h
theorem isTup2 {d : DL.D} (h : isTup 2 d = true) : ∃ a b, d = .tuple [.int a, .int b] := by
  obtain ⟨ds, rfl, hl, ha⟩ := isTup_len h
  match ds, hl, ha with
  | [x, y], _, ha =>
    simp only [List.all_cons, List.all_nil, Bool.and_eq_true] at ha
    obtain ⟨a, rfl⟩ := isInt_of ha.1
    obtain ⟨b, rfl⟩ := isInt_of ha.2.1
    exact ⟨a, b, rfl⟩
theorem test_of {f : Fe} {env : List Sl} {k k' : Dk} {b : Bool} (h : f env k = some (.dat (.bool b), k')) : fTest f env k = some (b, k') := by
  unfold fTest
  rw [h]
  rfl
theorem law_int (d : DL.D) (k : Dk) : f__law_is_integer [.dat d] k = some (.bool (isIntD d), k) := by
  refine fn_of (ret_of ?_)
  unfold isIntD
  cases e1 : isiB "int" d <;> cases e2 : isiB "bool" d <;> simp [fAnd, fNot, fTest, f1, fVar, isi_any, e1, e2]
theorem lc_odd (t : Sl) (k : Dk) : ∀ (ds acc : List DL.D), acc.length + ds.length < 1000000 → loopC (qName 1) (tNotF (fTest (fCall 1 f__law_is_integer (fCons (fVar 1) fNil)))) (fVar 1) [t, .un] ds acc k = some (acc ++ ds.filter (fun d => !isIntD d), k)
  | [], acc, _ => by simp [loopC]
  | d :: ds, acc, h => by
    simp only [List.length_cons] at h
    have c : (tNotF (fTest (fCall 1 f__law_is_integer (fCons (fVar 1) fNil)))) [t, .dat d] k = some (!isIntD d, k) := by
      simp [tNotF, fTest, fCall, fCons, fNil, fVar, okArg, law_int]
    cases e : isIntD d with
    | true =>
      have ih := lc_odd t k ds acc (by omega)
      rw [e] at c
      simp [loopC, qName, stor, c, ih, e]
    | false =>
      have ih := lc_odd t k ds (acc ++ [d]) (by rw [List.length_append, List.length_singleton]; omega)
      have hl : acc.length < 1000000 := by omega
      rw [e] at c
      have v : fVar 1 [t, .dat d] k = some (.dat d, k) := rfl
      simp [loopC, qName, stor, c, v, hl, ih, e]
theorem odd_nil (ds : List DL.D) : (ds.filter fun d => !isIntD d).isEmpty = ds.all isIntD := by
  induction ds with
  | nil => rfl
  | cons d r ih =>
    cases e : isIntD d with
    | true => simp [List.filter_cons, e, ih]
    | false => simp [List.filter_cons, e]
theorem shape (d : DL.D) (m : Nat) (hm : m < 1000) (k : Dk) : (tOrF (tNotF (fTest (f1 (gIsi "tuple") (fVar 0)))) (tOrF (fTest (fNe (f1 gLen (fVar 0)) (fC (.int m)))) (fTest (f2 (gNil true) (fLc (wSeq (fVar 0)) (qName 1) (tNotF (fTest (fCall 1 f__law_is_integer (fCons (fVar 1) fNil)))) (fVar 1) [1]) (fSeq .list fNil))))) [.dat d, .un] k = some (!isTup m d, k) := by
  rcases tup_or d with ⟨ds, rfl⟩ | h
  · by_cases e : ds.length = m
    · have l := lc_odd (.dat (.tuple ds)) k ds [] (by simp; omega)
      simp only [List.nil_append] at l
      have s : fLc (wSeq (fVar 0)) (qName 1) (tNotF (fTest (fCall 1 f__law_is_integer (fCons (fVar 1) fNil)))) (fVar 1) [1] [.dat (.tuple ds), .un] k = some (.dat (.list (ds.filter fun d => !isIntD d)), k) := by
        have w : wSeq (fVar 0) [.dat (.tuple ds), .un] k = some (ds, k) := rfl
        unfold fLc
        rw [w]
        simp only [Option.bind_some]
        show (loopC _ _ _ [.dat (.tuple ds), .un] ds [] k).map _ = _
        rw [l]
        rfl
      have g : f2 (gNil true) (fLc (wSeq (fVar 0)) (qName 1) (tNotF (fTest (fCall 1 f__law_is_integer (fCons (fVar 1) fNil)))) (fVar 1) [1]) (fSeq .list fNil) [.dat (.tuple ds), .un] k = some (.dat (.bool (!ds.all isIntD)), k) :=
        f2_of s (tup_of nil_of rfl (by simp)) (by rw [← odd_nil]; rfl)
      have t3 : fTest (f2 (gNil true) (fLc (wSeq (fVar 0)) (qName 1) (tNotF (fTest (fCall 1 f__law_is_integer (fCons (fVar 1) fNil)))) (fVar 1) [1]) (fSeq .list fNil)) [.dat (.tuple ds), .un] k = some (!ds.all isIntD, k) := test_of g
      have t2 : fTest (fNe (f1 gLen (fVar 0)) (fC (.int m))) [.dat (.tuple ds), .un] k = some (false, k) := by
        simp [fTest, f1, fVar, fNe, f2, gLen, asQ, asL, asT, fC, neII, e]
      have t1 : tNotF (fTest (f1 (gIsi "tuple") (fVar 0))) [.dat (.tuple ds), .un] k = some (false, k) := by
        simp [tNotF, fTest, f1, fVar, isi_any, isB_tup]
      simp [tOrF, t1, t2, t3, isTup, e]
    · have e' : ¬ ((ds.length : Int) = (m : Int)) := by omega
      simp [tOrF, tNotF, fTest, f1, fVar, isi_any, isB_tup, fNe, f2, gLen, asQ, asL, asT, fC, neII, e', isTup, e]
  · have e := not_tup h
    simp [tOrF, tNotF, fTest, f1, fVar, isi_any, e, isTup_not h]
theorem while2 (k : Dk) : ∀ (fuel : Nat) (a b : Nat), b < fuel → loopW (fTest (fCmp (fun i j => decide (j < i)) (fVar 1) (fC (.int 0)))) (sPar 0 1 (fCons (fVar 1) (fCons (fMod (fVar 0) (fVar 1)) fNil))) fuel [.dat (.int (a : Int)), .dat (.int (b : Int))] k =
    .nx [.dat (.int ((Nat.gcd a b : Nat) : Int)), .dat (.int 0)] k := by
  intro fuel
  induction fuel with
  | zero => intro a b h; omega
  | succ fuel ih =>
    intro a b h
    unfold loopW
    by_cases hb : b = 0
    · subst hb
      have t : fTest (fCmp (fun i j => decide (j < i)) (fVar 1) (fC (.int 0))) [.dat (.int (a : Int)), .dat (.int ((0 : Nat) : Int))] k = some (false, k) := by
        simp [fTest, fCmp, f2, gII, fVar, fC, c0]
      rw [t, Nat.gcd_zero_right]
      rfl
    · have hb0 : (0 : Int) < (b : Int) := by omega
      have hb1 : 0 < b := by omega
      have t : fTest (fCmp (fun i j => decide (j < i)) (fVar 1) (fC (.int 0))) [.dat (.int (a : Int)), .dat (.int (b : Int))] k = some (true, k) := by
        simp [fTest, fCmp, f2, gII, fVar, fC, c0, hb1]
      have a6 : cMod (a : Int) (b : Int) = true := cMo (by omega)
      have em : Int.fmod (a : Int) (b : Int) = ((a % b : Nat) : Int) := by
        rw [Int.fmod_eq_emod_of_nonneg _ (by omega)]
        rfl
      have s : sPar 0 1 (fCons (fVar 1) (fCons (fMod (fVar 0) (fVar 1)) fNil)) [.dat (.int (a : Int)), .dat (.int (b : Int))] k = .nx [.dat (.int (b : Int)), .dat (.int ((a % b : Nat) : Int))] k := by
        simp [sPar, fCons, fNil, fVar, fMod, f2, gII, a6, stor, em]
      rw [t]
      simp only [s]
      rw [ih b (a % b) (by have := Nat.mod_lt a (Nat.pos_of_ne_zero hb); omega)]
      rw [Nat.gcd_comm a b, Nat.gcd_rec b a, Nat.gcd_comm]
def gcdI (a b : Int) : Int := ((Nat.gcd a.natAbs b.natAbs : Nat) : Int)
theorem divisor (a b : Int) (k : Dk) : f__law_gcd [.dat (.int a), .dat (.int b)] k = some (.int (gcdI a b), k) := by
  have ab : ∀ z : Int, (if z < 0 then -z else z) = ((z.natAbs : Nat) : Int) := fun z => by split <;> omega
  refine fn_of (seq_of (e' := [.dat (.int ((a.natAbs : Nat) : Int)), .dat (.int ((b.natAbs : Nat) : Int))]) (k' := k) ?_ (seq_of (e' := [.dat (.int (gcdI a b)), .dat (.int 0)]) (k' := k) ?_ (ret_of rfl)))
  · simp only [← ab]
    simp [sPar, fCons, fNil, f1, gAbs, gI, fVar, stor]
  · unfold sWhile
    exact while2 _ _ _ _ (by simp [fuelV])
def one0 (a b : Int) : Bool := a == 1 && (b == 0 && true)
theorem eq10 (a b : Int) (e : List Sl) (k : Dk) : fEq (fVar 0) (fSeq .tuple (fCons (fC (.int 1)) (fCons (fC (.int 0)) fNil))) (.dat (.tuple [.int a, .int b]) :: e) k = some (.dat (.bool (one0 a b)), k) := by
  have s1 : SeqAt.shaped (.tuple [.int a, .int b]) = true := ints_shaped [a, b]
  have s2 : SeqAt.shaped (.tuple [.int 1, .int 0]) = true := ints_shaped [1, 0]
  refine f2_of (a := .dat (.tuple [.int a, .int b])) (b := .dat (.tuple [.int 1, .int 0])) rfl (tup_of (cons_of (c_of _) (cons_of (c_of _) nil_of)) rfl (by simp)) ?_
  unfold gEq
  simp only [asD, s1, s2]
  rfl
theorem eq10F (a b : Int) (e : List Sl) (k : Dk) : fEq (fVar 0) (fC (.tuple [.int 1, .int 0])) (.dat (.tuple [.int a, .int b]) :: e) k = some (.dat (.bool (one0 a b)), k) := by
  have s1 : SeqAt.shaped (.tuple [.int a, .int b]) = true := ints_shaped [a, b]
  have s2 : SeqAt.shaped (.tuple [.int 1, .int 0]) = true := ints_shaped [1, 0]
  refine f2_of (a := .dat (.tuple [.int a, .int b])) (b := .dat (.tuple [.int 1, .int 0])) rfl (c_of _) ?_
  unfold gEq
  simp only [asD, s1, s2]
  rfl
def plI (a b : Int) : Bool := (gcdI a b == 1) && (decide (0 < b) || one0 a b)
theorem pl_eq (a b : Int) : ((decide (0 < b) && (gcdI a b == 1)) || one0 a b) = plI a b := by
  unfold plI
  cases h : one0 a b with
  | false => cases decide (0 < b) <;> cases (gcdI a b == 1) <;> rfl
  | true =>
    have h2 : a = 1 ∧ b = 0 := by simpa [one0] using h
    have g : (gcdI a b == 1) = true := by rw [h2.1, h2.2]; rfl
    rw [g]
    cases decide (0 < b) <;> rfl
theorem is_place2 (a b : Int) (k : Dk) : f_is_place [.dat (.tuple [.int a, .int b])] k = some (.bool (plI a b), k) := by
  have i1 : f_is_integers [.dat (.tuple [.int a, .int b]), .dat (.int 2)] k = some (.bool true, k) := integers (.tuple [.int a, .int b]) 2 k
  have t : tNotF (fTest (fCall 2 f_is_integers (fCons (fVar 0) (fCons (fC (.int 2)) fNil)))) [.dat (.tuple [.int a, .int b]), .un, .un] k = some (false, k) := by
    simp [tNotF, fTest, fCall, fCons, fNil, fVar, fC, okArg, i1]
  refine fn_of (seq_of (if_f t rfl) (seq_of (e' := [.dat (.tuple [.int a, .int b]), .dat (.int a), .dat (.int b)]) (k' := k) rfl (ret_of ?_)))
  have g : fEq (fGcd (fVar 1) (fVar 2)) (fC (.int 1)) [.dat (.tuple [.int a, .int b]), .dat (.int a), .dat (.int b)] k = some (.dat (.bool (gcdI a b == 1)), k) :=
    f2_of (a := .dat (.int (gcdI a b))) rfl (c_of _) (eqII _ _)
  have c : fCmp (fun i j => decide (j < i)) (fVar 2) (fC (.int 0)) [.dat (.tuple [.int a, .int b]), .dat (.int a), .dat (.int b)] k = some (.dat (.bool (decide (0 < b))), k) := rfl
  have q := eq10F a b [.dat (.int a), .dat (.int b)] k
  unfold fAnd
  rw [test_of g]
  unfold plI
  cases gcdI a b == 1 with
  | false => rfl
  | true =>
    simp only [Option.bind_some, if_true]
    unfold fOr
    rw [test_of c]
    cases decide (0 < b) with
    | true => rfl
    | false =>
      simp only [Option.bind_some]
      rw [q]
      rfl
theorem law_place2 (a b : Int) (k : Dk) : f__law_is_place [.dat (.tuple [.int a, .int b])] k = some (.bool (plI a b), k) := by
  have t : (tOrF (tNotF (fTest (f1 (gIsi "tuple") (fVar 0)))) (tOrF (fTest (fNe (f1 gLen (fVar 0)) (fC (.int 2)))) (fTest (f2 (DL.gNil true) (fLc (wSeq (fVar 0)) (qName 1) (tNotF (fTest (fCall 1 f__law_is_integer (fCons (fVar 1) fNil)))) (fVar 1) [1]) (fSeq .list fNil))))) [.dat (.tuple [.int a, .int b]), .un] k = some (false, k) := shape (.tuple [.int a, .int b]) 2 (by decide) k
  refine fn_of (seq_of (if_f t rfl) (ret_of ?_))
  have x0 : fIx (fVar 0) (fC (.int 0)) [.dat (.tuple [.int a, .int b]), .un] k = some (.dat (.int a), k) := rfl
  have x1 : fIx (fVar 0) (fC (.int 1)) [.dat (.tuple [.int a, .int b]), .un] k = some (.dat (.int b), k) := rfl
  have c : fCmp (fun i j => decide (j < i)) (fIx (fVar 0) (fC (.int 1))) (fC (.int 0)) [.dat (.tuple [.int a, .int b]), .un] k = some (.dat (.bool (decide (0 < b))), k) := rfl
  have g : fEq (fCall 2 f__law_gcd (fCons (fIx (fVar 0) (fC (.int 0))) (fCons (fIx (fVar 0) (fC (.int 1))) fNil))) (fC (.int 1)) [.dat (.tuple [.int a, .int b]), .un] k = some (.dat (.bool (gcdI a b == 1)), k) :=
    f2_of (call_of (cons_of x0 (cons_of x1 nil_of)) ⟨rfl, rfl⟩ (divisor a b k)) (c_of _) (eqII _ _)
  have q := eq10 a b [.un] k
  have an : fAnd (fCmp (fun i j => decide (j < i)) (fIx (fVar 0) (fC (.int 1))) (fC (.int 0))) (fEq (fCall 2 f__law_gcd (fCons (fIx (fVar 0) (fC (.int 0))) (fCons (fIx (fVar 0) (fC (.int 1))) fNil))) (fC (.int 1))) [.dat (.tuple [.int a, .int b]), .un] k = some (.dat (.bool (decide (0 < b) && (gcdI a b == 1))), k) := by
    unfold fAnd
    rw [test_of c]
    cases decide (0 < b) with
    | true => simp only [Option.bind_some, if_true]; rw [g]; rfl
    | false => rfl
  rw [← pl_eq]
  show fOr _ _ [.dat (.tuple [.int a, .int b]), .un] k = _
  unfold fOr
  rw [test_of an]
  cases decide (0 < b) && (gcdI a b == 1) with
  | true => rfl
  | false =>
    simp only [Option.bind_some]
    rw [q]
    rfl
theorem is_place_no (d : DL.D) (h : isTup 2 d = false) (k : Dk) : f_is_place [.dat d] k = some (.bool false, k) := by
  have i1 : f_is_integers [.dat d, .dat (.int 2)] k = some (.bool false, k) := by rw [← h]; exact integers d 2 k
  have t : tNotF (fTest (fCall 2 f_is_integers (fCons (fVar 0) (fCons (fC (.int 2)) fNil)))) [.dat d, .un, .un] k = some (true, k) := by
    simp [tNotF, fTest, fCall, fCons, fNil, fVar, fC, okArg, i1]
  exact fn_of (seq_rt (if_t t (ret_of (c_of _))))
theorem law_place_no (d : DL.D) (h : isTup 2 d = false) (k : Dk) : f__law_is_place [.dat d] k = some (.bool false, k) := by
  have t := shape d 2 (by decide) k
  rw [h] at t
  exact fn_of (seq_rt (if_t t (ret_of (c_of _))))
def P2 (a b : Int) : DL.D := .tuple [.int a, .int b]
def plD (a b : Int) : DL.D := if b = 0 then P2 1 0 else if 0 < b then P2 (a / gcdI a b) (b / gcdI a b) else P2 (0 - a / gcdI a b) (0 - b / gcdI a b)
theorem gcd_pos {a b : Int} (h : gcdI a b ≠ 0) : 0 < gcdI a b := by
  unfold gcdI at *
  omega
theorem gcd_le {a b : Int} {n : Nat} (ha : a.natAbs ≤ n) (hb : b.natAbs ≤ n) : (gcdI a b).natAbs ≤ n := by
  unfold gcdI
  rw [Int.natAbs_natCast]
  by_cases z : a.natAbs = 0
  · rw [z, Nat.gcd_zero_left]; exact hb
  · exact Nat.le_trans (Nat.le_of_dvd (Nat.pos_of_ne_zero z) (Nat.gcd_dvd_left _ _)) ha
theorem gcd_dvdl (a b : Int) : gcdI a b ∣ a := by
  unfold gcdI
  exact Int.ofNat_dvd_left.mpr (Nat.gcd_dvd_left _ _)
theorem gcd_dvdr (a b : Int) : gcdI a b ∣ b := by
  unfold gcdI
  exact Int.ofNat_dvd_left.mpr (Nat.gcd_dvd_right _ _)
theorem fdiv_neg {a g : Int} (hg : 0 < g) (h : g ∣ a) : a.fdiv (-g) = 0 - a / g := by
  obtain ⟨q, rfl⟩ := h
  rw [Int.mul_ediv_cancel_left _ (by omega)]
  have e : g * q = (-g) * (-q) := by rw [Int.neg_mul_neg]
  rw [e, Int.mul_fdiv_cancel_left _ (by omega)]
  omega
theorem divU_neg {i j : Int} (h : j < 0) (hb : j.natAbs < 10 ^ 200) : gDivU (.dat (.int i)) (.dat (.int j)) = some (.dat (.int (i.fdiv j))) := by
  have n : cDiv i j = false := by
    unfold cDiv
    have : ¬ 0 < j := by omega
    simp [this]
  have p : DL.cDivN i j = true := by
    unfold DL.cDivN
    have : j ≠ 0 := by omega
    have h2 := lgle (big1000 hb)
    rw [Bool.and_eq_true]
    exact ⟨decide_eq_true this, decide_eq_true (by omega)⟩
  simp [gDivU, gII, n, p]
theorem gcdI_mul (g q r : Int) (hg : 0 < g) : gcdI (g * q) (g * r) = g * gcdI q r := by
  unfold gcdI
  rw [Int.natAbs_mul, Int.natAbs_mul, Nat.gcd_mul_left]
  have e : ((g.natAbs : Nat) : Int) = g := by omega
  rw [Int.natCast_mul, e]
theorem gcdI_neg (x y : Int) : gcdI (0 - x) (0 - y) = gcdI x y := by
  unfold gcdI
  have e1 : (0 - x).natAbs = x.natAbs := by omega
  have e2 : (0 - y).natAbs = y.natAbs := by omega
  rw [e1, e2]
def Norm (x y : Int) : Prop := gcdI x y = 1 ∧ (0 < y ∨ (x = 1 ∧ y = 0))
theorem pl_norm (a b : Int) (h : gcdI a b ≠ 0) : ∃ x y, plD a b = P2 x y ∧ Norm x y ∧ x.natAbs * (gcdI a b).natAbs ≤ a.natAbs ∧ y.natAbs * (gcdI a b).natAbs ≤ b.natAbs := by
  have gp := gcd_pos h
  obtain ⟨q, hq⟩ := gcd_dvdl a b
  obtain ⟨r, hr⟩ := gcd_dvdr a b
  have one : gcdI q r = 1 := by
    have e := gcdI_mul (gcdI a b) q r gp
    rw [← hq, ← hr] at e
    have e2 : gcdI a b * gcdI q r = gcdI a b * 1 := by rw [← e, Int.mul_one]
    exact Int.eq_of_mul_eq_mul_left h e2
  have da : a / gcdI a b = q := by
    conv => lhs; lhs; rw [hq]
    exact Int.mul_ediv_cancel_left _ h
  have db : b / gcdI a b = r := by
    conv => lhs; lhs; rw [hr]
    exact Int.mul_ediv_cancel_left _ h
  have na : q.natAbs * (gcdI a b).natAbs = a.natAbs := by
    have e := congrArg Int.natAbs hq
    rw [Int.natAbs_mul, Nat.mul_comm] at e
    exact e.symm
  have nb : r.natAbs * (gcdI a b).natAbs = b.natAbs := by
    have e := congrArg Int.natAbs hr
    rw [Int.natAbs_mul, Nat.mul_comm] at e
    exact e.symm
  unfold plD
  by_cases h0 : b = 0
  · refine ⟨1, 0, if_pos h0, ⟨rfl, .inr ⟨rfl, rfl⟩⟩, ?_, ?_⟩
    · subst h0
      show 1 * (gcdI a 0).natAbs ≤ _
      unfold gcdI
      simp
    · show 0 * _ ≤ _; omega
  · rw [if_neg h0]
    by_cases hp : 0 < b
    · rw [if_pos hp, da, db]
      have rp : 0 < r := by
        have : 0 < gcdI a b * r := by rw [← hr]; exact hp
        rw [Int.mul_comm] at this
        exact Int.pos_of_mul_pos_left this gp
      exact ⟨q, r, rfl, ⟨one, .inl rp⟩, by omega, by omega⟩
    · rw [if_neg hp, da, db]
      have rn : r < 0 := by
        have n1 : ¬ 0 ≤ r := fun z => by
          have := Int.mul_nonneg (Int.le_of_lt gp) z
          rw [← hr] at this
          omega
        omega
      refine ⟨0 - q, 0 - r, rfl, ⟨by rw [gcdI_neg]; exact one, .inl (by omega)⟩, ?_, ?_⟩
      · have e : (0 - q).natAbs = q.natAbs := by omega
        rw [e]; omega
      · have e : (0 - r).natAbs = r.natAbs := by omega
        rw [e]; omega
theorem pl_fix {x y : Int} (h : Norm x y) : plD x y = P2 x y := by
  unfold plD
  rcases h.2 with h2 | ⟨rfl, rfl⟩
  · rw [if_neg (show ¬ y = 0 by omega), if_pos h2, h.1, Int.ediv_one, Int.ediv_one]
  · rfl
theorem pl_test {x y : Int} (h : Norm x y) : plI x y = true := by
  unfold plI
  rw [h.1]
  rcases h.2 with h2 | ⟨rfl, rfl⟩
  · rw [decide_eq_true h2]; rfl
  · rfl
theorem pl_back {x y f : Int} (h : Norm x y) (hf : 0 < f) : gcdI (0 - x * f) (0 - y * f) ≠ 0 ∧ plD (0 - x * f) (0 - y * f) = P2 x y := by
  have g : gcdI (0 - x * f) (0 - y * f) = f := by
    rw [gcdI_neg, Int.mul_comm x, Int.mul_comm y, gcdI_mul f x y hf, h.1, Int.mul_one]
  refine ⟨by rw [g]; omega, ?_⟩
  unfold plD
  rw [g]
  rcases h.2 with h2 | ⟨rfl, rfl⟩
  · have yf : 0 < y * f := Int.mul_pos h2 hf
    rw [if_neg (show ¬ (0 - y * f) = 0 by omega), if_neg (show ¬ 0 < (0 - y * f) by omega)]
    have e1 : (0 - x * f) / f = 0 - x := by
      have e : 0 - x * f = (0 - x) * f := by rw [Int.sub_mul, Int.zero_mul]
      rw [e, Int.mul_ediv_cancel _ (by omega)]
    have e2 : (0 - y * f) / f = 0 - y := by
      have e : 0 - y * f = (0 - y) * f := by rw [Int.sub_mul, Int.zero_mul]
      rw [e, Int.mul_ediv_cancel _ (by omega)]
    rw [e1, e2]
    have a1 : 0 - (0 - x) = x := by omega
    have a2 : 0 - (0 - y) = y := by omega
    rw [a1, a2]
  · rw [if_pos (by simp)]
def Sm (n : Nat) (z : Int) : Prop := -((10 : Int) ^ n) < z ∧ z < 10 ^ n
theorem ten_pos (n : Nat) : (0 : Int) < 10 ^ n := Int.pow_pos (by decide)
theorem Sm.mono {n m : Nat} {z : Int} (h : Sm n z) (l : n ≤ m) : Sm m z := by
  have e : (10 : Int) ^ n ≤ 10 ^ m := by
    have := Nat.pow_le_pow_right (n := 10) (by decide) l
    exact_mod_cast this
  exact ⟨by have := h.1; omega, by have := h.2; omega⟩
theorem Sm.mul {n m : Nat} {x y : Int} (h : Sm n x) (h2 : Sm m y) : Sm (n + m) (x * y) := by
  have ha : -((10 : Int) ^ n - 1) ≤ x ∧ x ≤ (10 : Int) ^ n - 1 := by
    have h1 := h.1
    have h2 := h.2
    omega
  have hb : -((10 : Int) ^ m - 1) ≤ y ∧ y ≤ (10 : Int) ^ m - 1 := by
    have h3 := h2.1
    have h4 := h2.2
    omega
  have a := mul_in ha hb
  have e : ((10 : Int) ^ n - 1) * (10 ^ m - 1) = 10 ^ (n + m) - 10 ^ n - 10 ^ m + 1 := by rw [Int.pow_add]; grind
  have p1 := ten_pos n
  have p2 := ten_pos m
  rw [e] at a
  exact ⟨by omega, by omega⟩
theorem Sm.add {n m : Nat} {x y : Int} (h : Sm n x) (h2 : Sm n y) (l : n < m) : Sm m (x + y) := by
  have e : (10 : Int) ^ (n + 1) ≤ 10 ^ m := by
    have := Nat.pow_le_pow_right (n := 10) (by decide) l
    exact_mod_cast this
  rw [Int.pow_succ] at e
  have p := ten_pos n
  exact ⟨by have := h.1; have := h2.1; omega, by have := h.2; have := h2.2; omega⟩
theorem Sm.sub {n m : Nat} {x y : Int} (h : Sm n x) (h2 : Sm n y) (l : n < m) : Sm m (x - y) := by
  have := Sm.add (y := -y) h ⟨by have := h2.2; omega, by have := h2.1; omega⟩ l
  rwa [← Int.sub_eq_add_neg] at this
theorem Sm.addm {n m : Nat} {x y : Int} (h : Sm n x) (h2 : Sm m y) : Sm (max n m + 1) (x + y) := Sm.add (h.mono (Nat.le_max_left ..)) (h2.mono (Nat.le_max_right ..)) (Nat.lt_succ_self _)
theorem Sm.subm {n m : Nat} {x y : Int} (h : Sm n x) (h2 : Sm m y) : Sm (max n m + 1) (x - y) := Sm.sub (h.mono (Nat.le_max_left ..)) (h2.mono (Nat.le_max_right ..)) (Nat.lt_succ_self _)
theorem Sm.cm {n m : Nat} {x y : Int} (h : Sm n x) (h2 : Sm m y) (l : n ≤ 150) (l2 : m ≤ 150) : cMul x y = true :=
  cMi (h.mono l) (h2.mono l2)
theorem sm_lit {z : Int} {n : Nat} (h : -((10 : Int) ^ n) < z ∧ z < 10 ^ n) : Sm n z := h
theorem Sm.n90 {n : Nat} {z : Int} (h : Sm n z) (l : n ≤ 90) : z.natAbs < 10 ^ 90 := by
  have := h.mono l
  unfold Sm at this
  omega
theorem wf_draw {b : Int} {n : Nat} {k : Dk} {P : DL.D → Dk → Prop} (h : Ok n k) (hb : 0 < b) (hb2 : b < 1000002) (hn : 1 ≤ n) (r : ∀ r k', 0 ≤ r → r < b → Ok (n - 1) k' → P (.int r) k') : wf f__law_draw [.deck, .dat (.int b)] k P := by
  obtain ⟨z, k', e, h0, h1, h2⟩ := draw b hb hb2 (n - 1) k (h.less (by omega))
  exact ⟨_, k', e, r z k' h0 h1 h2⟩
def inI (lo hi : Int) (d : DL.D) : Bool := match d with
  | .int z => decide (lo ≤ z) && decide (z ≤ hi)
  | _ => false
theorem wf_pick {some_ : DL.D} {ds : List DL.D} {n : Nat} {k : Dk} {P : DL.D → Dk → Prop} (hs : asQ (.dat some_) = some ds) (h0 : 0 < ds.length) (h1 : ds.length < 1000000) (h : Ok n k) (hn : 1 ≤ n) (r : ∀ x k', x ∈ ds → Ok (n - 1) k' → P x k') : wf f__law_pick [.deck, .dat some_] k P := by
  obtain ⟨x, k', e, hx, h2⟩ := pick some_ ds hs h0 h1 (n - 1) k (h.less (by omega))
  exact ⟨_, k', e, r x k' hx h2⟩
theorem wf_picki (lo hi : Int) {some_ : DL.D} {ds : List DL.D} {n : Nat} {k : Dk} {P : DL.D → Dk → Prop} (hs : asQ (.dat some_) = some ds) (h0 : 0 < ds.length) (h1 : ds.length < 1000000) (hi_ : ds.all (inI lo hi) = true) (h : Ok n k) (hn : 1 ≤ n) (r : ∀ x k', lo ≤ x → x ≤ hi → Ok (n - 1) k' → P (.int x) k') : wf f__law_pick [.deck, .dat some_] k P := by
  refine wf_pick hs h0 h1 h hn fun x k' hx h2 => ?_
  have q := List.all_eq_true.mp hi_ x hx
  cases x with
  | int z =>
    unfold inI at q
    simp only [Bool.and_eq_true, decide_eq_true_eq] at q
    exact r z k' q.1 q.2 h2
  | _ => exact (nomatch q)
theorem wf_signed {b : Int} {n : Nat} {k : Dk} {P : DL.D → Dk → Prop} (h : Ok n k) (hb : 0 < b) (hb2 : b < 1000002) (hn : 2 ≤ n) (r : ∀ z k', -b < z → z < b → Ok (n - 2) k' → P (.int z) k') : wf f__law_signed [.deck, .dat (.int b)] k P := by
  refine wf_fn (e := [.deck, .dat (.int b), .un]) rfl ?_
  unfold g__law_signed
  walk_at "vc"
  refine wf_draw h hb hb2 (by omega) fun r1 k1 a1 a2 o1 => ?_
  walk_at "vc"
  refine wf_draw o1 (by omega) (by omega) (by omega) fun r2 k2 b1 b2 o2 => ?_
  walk_at "vc"
  · exact r _ _ (by omega) (by omega) (o2.less (by omega))
  · exact r _ _ (by omega) (by omega) (o2.less (by omega))
theorem wf_integers {d : DL.D} {m : Nat} {k : Dk} {P : DL.D → Dk → Prop} (z : P (.bool (isTup m d)) k) : wf f_is_integers [.dat d, .dat (.int m)] k P := ⟨_, _, integers d m k, z⟩
theorem wf_divisor {a b : Int} {k : Dk} {P : DL.D → Dk → Prop} (z : P (.int (gcdI a b)) k) : wf f__law_gcd [.dat (.int a), .dat (.int b)] k P := ⟨_, _, divisor a b k, z⟩
theorem wg_divU {i j : Int} {R : Sl → Prop} (h : 0 < j) (hj : j.natAbs < 10 ^ 200) (r : R (.dat (.int (i / j)))) : wg (gDivU (.dat (.int i)) (.dat (.int j))) R := ⟨_, divU_pos (cD h hj), r⟩
theorem wf_lplace {a b : Int} {k : Dk} {P : DL.D → Dk → Prop} (ha : Sm 150 a) (hb : Sm 150 b) (hg : gcdI a b ≠ 0) (z : P (plD a b) k) : wf f__law_place [.dat (.int a), .dat (.int b)] k P := by
  have g0 := gcd_pos hg
  have g1 : (gcdI a b).natAbs < 10 ^ 200 := by
    have h1 := ha.mono (m := 200) (by decide)
    have h2 := hb.mono (m := 200) (by decide)
    unfold Sm at h1 h2
    have := gcd_le (a := a) (b := b) (n := 10 ^ 200 - 1) (by omega) (by omega)
    omega
  refine wf_fn (e := [.dat (.int a), .dat (.int b), .un]) rfl ?_
  unfold g__law_place
  walk_at "vc"
  refine wf_divisor ?_
  unfold plD P2 at z
  walk_at "vc"
  all_goals (try (refine wg_divU g0 g1 ?_; walk_at "vc"; refine wg_divU g0 g1 ?_; walk_at "vc"))
  all_goals (simp_all)
theorem gcd_r0 (a : Int) : gcdI a 0 = a.natAbs := by
  unfold gcdI
  rw [show (0 : Int).natAbs = 0 from rfl, Nat.gcd_zero_right]
theorem gcd_ne {a b : Int} (h : ¬ (a = 0 ∧ b = 0)) : gcdI a b ≠ 0 := by
  unfold gcdI
  intro z
  have z' : Nat.gcd a.natAbs b.natAbs = 0 := by omega
  have h1 := Nat.eq_zero_of_gcd_eq_zero_left z'
  have h2 := Nat.eq_zero_of_gcd_eq_zero_right z'
  omega
theorem norm_nn {x y : Int} (h : Norm x y) : 0 ≤ y := by
  rcases h.2 with z | z <;> omega
theorem norm_one {x y u v : Int} (h : Norm x y) (h2 : Norm u v) (c : x * v = y * u) : x = u ∧ y = v := by
  have y0 := norm_nn h
  have v0 := norm_nn h2
  rcases h.2 with yp | ⟨rfl, rfl⟩
  · have e1 := gcdI_mul y u v yp
    rw [h2.1, Int.mul_one] at e1
    rcases h2.2 with vp | ⟨rfl, rfl⟩
    · have e2 := gcdI_mul v x y vp
      rw [h.1, Int.mul_one] at e2
      have a1 : v * x = y * u := by rw [Int.mul_comm]; exact c
      have a2 : v * y = y * v := Int.mul_comm ..
      rw [a1, a2, e1] at e2
      subst e2
      exact ⟨by
        have : y * x = y * u := a1
        exact Int.eq_of_mul_eq_mul_left (by omega) this, rfl⟩
    · rw [Int.mul_zero, Int.mul_one] at c
      omega
  · rw [Int.one_mul, Int.zero_mul] at c
    subst c
    rcases h2.2 with vp | ⟨rfl, _⟩
    · omega
    · exact ⟨rfl, rfl⟩
theorem gcd_0 {a : Int} (h : a ≠ 0) (b : Int) : gcdI a b ≠ 0 ∧ gcdI b a ≠ 0 := ⟨gcd_ne fun w => h w.1, gcd_ne fun w => h w.2⟩
theorem pl_ex {a b : Int} (h : gcdI a b ≠ 0) : ∃ u v g, plD a b = P2 u v ∧ Norm u v ∧ g ≠ 0 ∧ a = g * u ∧ b = g * v := by
  have gp := gcd_pos h
  obtain ⟨q, hq⟩ := gcd_dvdl a b
  obtain ⟨r, hr⟩ := gcd_dvdr a b
  have one : gcdI q r = 1 := by
    have e := gcdI_mul (gcdI a b) q r gp
    rw [← hq, ← hr] at e
    have e2 : gcdI a b * gcdI q r = gcdI a b * 1 := by rw [← e, Int.mul_one]
    exact Int.eq_of_mul_eq_mul_left h e2
  have da : a / gcdI a b = q := by
    conv => lhs; lhs; rw [hq]
    exact Int.mul_ediv_cancel_left _ h
  have db : b / gcdI a b = r := by
    conv => lhs; lhs; rw [hr]
    exact Int.mul_ediv_cancel_left _ h
  unfold plD
  by_cases h0 : b = 0
  · refine ⟨1, 0, a, if_pos h0, ⟨rfl, .inr ⟨rfl, rfl⟩⟩, fun z => h ?_, by omega, by omega⟩
    rw [z, h0]
    rfl
  · rw [if_neg h0]
    by_cases hp : 0 < b
    · rw [if_pos hp, da, db]
      have rp : 0 < r := by
        have : 0 < gcdI a b * r := by rw [← hr]; exact hp
        rw [Int.mul_comm] at this
        exact Int.pos_of_mul_pos_left this gp
      exact ⟨q, r, _, rfl, ⟨one, .inl rp⟩, h, hq, hr⟩
    · rw [if_neg hp, da, db]
      have rn : r < 0 := by
        have n1 : ¬ 0 ≤ r := fun z => by
          have := Int.mul_nonneg (Int.le_of_lt gp) z
          rw [← hr] at this
          omega
        omega
      refine ⟨0 - q, 0 - r, -gcdI a b, rfl, ⟨by rw [gcdI_neg]; exact one, .inl (by omega)⟩, by omega, ?_, ?_⟩
      · rw [show (0 : Int) - q = -q by omega, Int.neg_mul_neg]; exact hq
      · rw [show (0 : Int) - r = -r by omega, Int.neg_mul_neg]; exact hr
theorem pl_cross {a b u v : Int} (h : gcdI a b ≠ 0) (n : Norm u v) (c : a * v = b * u) : plD a b = P2 u v := by
  obtain ⟨u', v', g, e, n', g0, rfl, rfl⟩ := pl_ex h
  have c' : u' * v = v' * u := by
    rw [Int.mul_assoc, Int.mul_assoc] at c
    exact Int.eq_of_mul_eq_mul_left g0 c
  obtain ⟨rfl, rfl⟩ := norm_one n' n c'
  exact e
theorem sm_fac {n : Nat} {g z : Int} (h : Sm n (g * z)) (h0 : g ≠ 0) : Sm n z := by
  have e : z.natAbs ≤ (g * z).natAbs := by
    rw [Int.natAbs_mul]
    exact Nat.le_mul_of_pos_left _ (by omega)
  have p := ten_pos n
  unfold Sm at *
  omega
def isPl (d : DL.D) : Bool := match d with
  | .tuple [.int a, .int b] => plI a b
  | _ => false
theorem isPl_tup {d : DL.D} (h : isPl d = true) : ∃ a b, d = .tuple [.int a, .int b] ∧ plI a b = true := by
  unfold isPl at h
  split at h
  · exact ⟨_, _, rfl, h⟩
  · cases h
theorem isPl_no {d : DL.D} (h : isTup 2 d = false) : isPl d = false := by
  unfold isPl
  split
  · exact absurd ((show isTup 2 _ = true from rfl).symm.trans h) (by decide)
  · rfl
theorem pl_prog (d : DL.D) (k : Dk) : f_is_place [.dat d] k = some (.bool (isPl d), k) := by
  cases h : isTup 2 d with
  | true => obtain ⟨a, b, rfl⟩ := isTup2 h; exact is_place2 a b k
  | false => rw [isPl_no h]; exact is_place_no d h k
theorem pl_law (d : DL.D) (k : Dk) : f__law_is_place [.dat d] k = some (.bool (isPl d), k) := by
  cases h : isTup 2 d with
  | true => obtain ⟨a, b, rfl⟩ := isTup2 h; exact law_place2 a b k
  | false => rw [isPl_no h]; exact law_place_no d h k
theorem wf_is_place {d : DL.D} {k : Dk} {P : DL.D → Dk → Prop} (z : P (.bool (isPl d)) k) : wf f_is_place [.dat d] k P := ⟨_, _, pl_prog d k, z⟩
theorem wf_law_place {d : DL.D} {k : Dk} {P : DL.D → Dk → Prop} (z : P (.bool (isPl d)) k) : wf f__law_is_place [.dat d] k P := ⟨_, _, pl_law d k, z⟩
theorem pl_norm_of {a b : Int} (h : plI a b = true) : Norm a b := by
  unfold plI one0 at h
  simp only [Bool.and_eq_true, Bool.or_eq_true, beq_iff_eq, decide_eq_true_eq, Bool.and_true] at h
  exact ⟨h.1, h.2⟩
end G
set_option maxHeartbeats 8000000
set_option exponentiation.threshold 3000
namespace G
open PySem PySem.Spec PyProof.Rows L2 DL
def lSg : Fs := (sIf (fTest (fNe (fVar 1) (fC (.int 0)))) (sRet (fIf (fTest (fCmp (fun i j => decide (j < i)) (fVar 1) (fC (.int 0)))) (fC (.int 1)) (fNeg (fC (.int 1))))) sNext)
def lSgn : Fs := (sSeq (sFor (wSeq (fVar 0)) (qName 1) lSg)
    (sRet (fC (.int 0))))
theorem sgn_eq : g_sign_of_first = lSgn := rfl
def sgZ (z : Int) : Int := if z = 0 then 0 else if 0 < z then 1 else -1
theorem ws_sgl {x : Sl} {Q : Out → Prop} {k : Dk} : ∀ (L : List Int) (s : Sl), (fnz L = 0 → ∀ s, Q (.nx [x, s] k)) → (fnz L ≠ 0 → Q (.rt (.int (sgZ (fnz L))) k)) → ws (loopF (qName 1) lSg (L.map PyData.int)) [x, s] k Q
  | [], s, nx, rt => loop_nil (nx rfl s)
  | z :: L, s, nx, rt => by
    rw [List.map_cons]
    refine loop_cons ?_
    unfold lSg
    unfold fnz at nx rt
    walk_at "vc"
    · rename_i h
      rw [if_pos h] at nx rt
      exact ws_sgl L _ nx rt
    all_goals
      rename_i h c
      rw [if_neg h] at rt
      have := rt h
      unfold sgZ at this
      rw [if_neg h] at this
      first
        | (rw [if_pos c] at this; exact this)
        | (rw [if_neg c] at this; exact this)
theorem wf_sgn {L : List Int} {k : Dk} {P : DL.D → Dk → Prop} (r : P (.int (sgZ (fnz L))) k) : wf f_sign_of_first [.dat (.tuple (L.map PyData.int))] k P := by
  refine wf_fn (e := [.dat (.tuple (L.map PyData.int)), .un]) rfl ?_
  rw [sgn_eq]
  unfold lSgn
  walk_at "vc"
  refine ws_sgl L _ (fun h s => ?_) (fun h => ?_)
  · walk_at "vc"
    rw [h] at r
    exact r
  · walk_at "vc"
    exact r
theorem wf_com {L : List Int} {k : Dk} {P : DL.D → Dk → Prop} (r : P (.int (gI0 L)) k) : wf f_common_divisor [.dat (.tuple (L.map PyData.int))] k P := by
  refine wf_fn (e := [.dat (.tuple (L.map PyData.int)), .un, .un]) rfl ?_
  unfold g_common_divisor
  walk_at "vc"
  obtain ⟨y', e⟩ := com_loop L (.dat (.tuple (L.map PyData.int))) .un 0 k
  have e' : loopF (qName 2) (sAsg (fGcd (fVar 1) (fVar 2)) (qName 1)) (L.map PyData.int) [.dat (.tuple (L.map PyData.int)), .dat (.int 0), .un] k = .nx [.dat (.tuple (L.map PyData.int)), .dat (.int (gI0 L)), y'] k := e
  refine ⟨?_⟩
  rw [e']
  walk_at "vc"
  exact r
/-! relations -/
def shB (L : List Int) : Bool := decide (0 < fnz L) && (gI0 L == 1)
theorem sgZ_1 (z : Int) : sgZ z = 1 ↔ 0 < z := by
  unfold sgZ
  by_cases h : z = 0
  · subst h; decide
  · rw [if_neg h]
    by_cases h2 : 0 < z
    · rw [if_pos h2]; simp [h2]
    · rw [if_neg h2]; simp [h2]
theorem wf_isshort {L : List Int} {k : Dk} {P : DL.D → Dk → Prop} (r : P (.bool (shB L)) k) : wf f_is_short [.dat (.tuple (L.map PyData.int))] k P := by
  refine wf_fn (e := [.dat (.tuple (L.map PyData.int))]) rfl ?_
  unfold g_is_short
  walk_at "vc"
  refine wf_sgn ?_
  unfold shB at r
  walk_at "vc"
  · rename_i h
    rw [decide_eq_true ((sgZ_1 _).mp h), Bool.true_and] at r
    refine wf_com ?_
    walk_at "vc"
    exact r
  · rename_i h
    rw [decide_eq_false (fun w => h ((sgZ_1 _).mpr w)), Bool.false_and] at r
    exact r
def vI : DL.D → Int
  | .int z => z
  | _ => 0
theorem all_map : ∀ {ds : List DL.D}, ds.all isIntD = true → ds = (ds.map vI).map PyData.int
  | [], _ => rfl
  | d :: ds, h => by
    simp only [List.all_cons, Bool.and_eq_true] at h
    obtain ⟨z, rfl⟩ := isInt_of h.1
    rw [List.map_cons, List.map_cons, ← all_map h.2]
    rfl
theorem map_all : ∀ L : List Int, (L.map PyData.int).all isIntD = true
  | [] => rfl
  | z :: L => by rw [List.map_cons, List.all_cons, map_all L]; rfl
theorem map_vI : ∀ L : List Int, (L.map PyData.int).map vI = L
  | [] => rfl
  | z :: L => by rw [List.map_cons, List.map_cons, map_vI L]; rfl
def lenB (n : Nat) : Bool := n == 2 || (n == 4 || (n == 8 || (n == 16 || (n == 32 || n == 64))))
def lenL : List DL.D := [.int 2, .int 4, .int 8, .int 16, .int 32, .int 64]
theorem int_beq (a n : Nat) : ((a : Int) == (n : Int)) = (n == a) := by
  by_cases h : n = a
  · subst h; simp
  · have : (a : Int) ≠ n := by omega
    rw [beq_eq_false_iff_ne.mpr this, beq_eq_false_iff_ne.mpr h]
theorem wg_inL {n : Nat} {R : Sl → Prop} (r : R (.dat (.bool (!lenB n)))) : wg (gIn true (.dat (.int (n : Int))) (.dat (.tuple [.int 2, .int 4, .int 8, .int 16, .int 32, .int 64]))) R := by
  refine ⟨_, ?_, r⟩
  have s1 : SeqAt.shaped (.int (n : Int)) = true := rfl
  have s2 : SeqAt.shaped (.list [.int 2, .int 4, .int 8, .int 16, .int 32, .int 64]) = true := ints_shaped [2, 4, 8, 16, 32, 64]
  unfold gIn
  simp only [asD, seqD, Option.bind_some, s1, s2, Bool.and_self, if_true]
  have e : ([.int 2, .int 4, .int 8, .int 16, .int 32, .int 64] : List DL.D).any (fun z => PyData.eqv z (.int (n : Int))) = lenB n := by
    simp only [List.any_cons, List.any_nil, Bool.or_false]
    unfold lenB
    show (((2 : Nat) : Int) == (n : Int) || (((4 : Nat) : Int) == (n : Int) || (((8 : Nat) : Int) == (n : Int) || (((16 : Nat) : Int) == (n : Int) || (((32 : Nat) : Int) == (n : Int) || ((64 : Nat) : Int) == (n : Int)))))) = _
    simp only [int_beq]
  rw [e]
def relD : DL.D → Bool
  | .tuple ds => lenB ds.length && (ds.all isIntD && shB (ds.map vI))
  | _ => false
theorem relD_not {d : DL.D} (h : ∀ ds, d ≠ .tuple ds) : relD d = false := by
  cases d with
  | tuple ds => exact absurd rfl (h ds)
  | _ => rfl
theorem relD_tup (ds : List DL.D) : relD (.tuple ds) = (lenB ds.length && (ds.all isIntD && shB (ds.map vI))) := rfl
theorem lenB_le {n : Nat} (h : lenB n = true) : n ≤ 64 := by
  unfold lenB at h
  simp only [Bool.or_eq_true, beq_iff_eq] at h
  omega
theorem isB_tupE (ds : List DL.D) : isiB "tuple" (.tuple ds) = true := isB_tup ds
local macro_rules | `(tactic| walk_at "spec") => `(tactic| with_reducible refine G.wg_inL ?_)
local macro_rules | `(tactic| walk_at "spec") => `(tactic| with_reducible refine G.wf_isshort ?_)
local macro_rules | `(tactic| walk_at "spec") => `(tactic| with_reducible refine G.wf_integers ?_)
theorem wf_isrel {d : DL.D} {k : Dk} {P : DL.D → Dk → Prop} (r : P (.bool (relD d)) k) : wf f_is_relation [.dat d] k P := by
  refine wf_fn (e := [.dat d]) rfl ?_
  unfold g_is_relation
  rcases tup_or d with ⟨ds, rfl⟩ | h
  · walk_at "vc"
    · rename_i h1 h2
      have e : ds.all isIntD = true := by
        obtain ⟨es, e1, _, e2⟩ := isTup_len h2
        cases e1
        exact e2
      rw [all_map e]
      refine wf_isshort ?_
      rw [relD_tup] at r
      rw [h1, e] at r
      walk_at "vc"
      exact r
    · rename_i h1 h2
      have e : ds.all isIntD = false := by
        unfold isTup at h2
        simpa using h2
      rw [relD_tup] at r
      rw [h1, e] at r
      exact r
    · rename_i h1
      rw [relD_tup] at r
      rw [h1] at r
      exact r
    · rename_i h1
      rw [isB_tup] at h1
      cases h1
  · have e := not_tup h
    rw [relD_not h] at r
    walk_at "vc"
    · rename_i h1
      rw [e] at h1
      cases h1
    · exact r
/-! the law's -/
theorem g_loop {x : Sl} {k : Dk} {Q : Out → Prop} : ∀ (L : List Int) (g : Nat) (s2 s3 : Sl), (∀ s2 s3, Q (.nx [x, .dat (.int ((gcdF g L : Nat) : Int)), s2, s3] k)) → ws (loopF (qName 2) (sAsg (fCall 2 f__law_gcd (fCons (fVar 2) (fCons (fVar 1) fNil))) (qName 1)) (L.map PyData.int)) [x, .dat (.int (g : Int)), s2, s3] k Q
  | [], g, s2, s3, r => loop_nil (r _ _)
  | z :: L, g, s2, s3, r => by
    rw [List.map_cons]
    refine loop_cons ?_
    walk_at "vc"
    refine wf_divisor ?_
    walk_at "vc"
    have e : gcdI z (g : Int) = ((Nat.gcd g z.natAbs : Nat) : Int) := by
      unfold gcdI
      rw [Nat.gcd_comm]
      rfl
    rw [e]
    exact g_loop L _ _ _ r
theorem nz_filter : ∀ {M : List Int}, fnz M ≠ 0 → ∃ t, M.filter (fun z => !(z == 0)) = fnz M :: t
  | [], h => absurd rfl h
  | z :: M, h => by
    unfold fnz at h ⊢
    by_cases hz : z = 0
    · rw [if_pos hz] at h ⊢
      obtain ⟨t, e⟩ := nz_filter h
      exact ⟨t, by subst hz; simpa [List.filter_cons] using e⟩
    · rw [if_neg hz]
      exact ⟨M.filter (fun z => !(z == 0)), by simp [List.filter_cons, hz]⟩
theorem nz_empty : ∀ M : List Int, (M.filter (fun z => !(z == 0))).isEmpty = decide (fnz M = 0)
  | [] => rfl
  | z :: M => by
    unfold fnz
    by_cases hz : z = 0
    · subst hz
      rw [if_pos rfl, List.filter_cons_of_neg (by decide)]
      exact nz_empty M
    · rw [if_neg hz, decide_eq_false hz, List.filter_cons_of_pos (by simp [hz])]
      rfl
theorem sm_gcd {n : Nat} {L : List Int} (h : ∀ z ∈ L, Sm n z) (h0 : fnz L ≠ 0) : Sm n (gI0 L) := by
  have m := fnz_mem h0
  obtain ⟨q, e⟩ := gI0_dvd m
  have p := gI0_pos h0
  have s := h _ m
  have q0 : q ≠ 0 := fun w => h0 (by rw [e, w, Int.mul_zero])
  have e2 : (fnz L).natAbs = (gI0 L).natAbs * q.natAbs := by rw [← Int.natAbs_mul, ← e]
  have := Nat.le_mul_of_pos_right (gI0 L).natAbs (show 0 < q.natAbs by omega)
  unfold Sm at *
  omega
theorem wf_lshort {n : Nat} {L : List Int} {x : DL.D} {k : Dk} {P : DL.D → Dk → Prop} (hx : x = .list (L.map PyData.int) ∨ x = .tuple (L.map PyData.int)) (hs : ∀ z ∈ L, Sm n z) (hn : n ≤ 80) (hl : L.length < 1000)
    (h0 : fnz L ≠ 0) (r : P (.tuple ((shD L).map PyData.int)) k) : wf f__law_short [.dat x] k P := by
  refine wf_fn (e := [.dat x, .un, .un, .un]) rfl ?_
  unfold g__law_short
  have wq : ∀ (R : List DL.D → Prop), R (L.map PyData.int) → walkQ (.dat x) R := fun R hr => by
    rcases hx with rfl | rfl
    · exact walk_l hr
    · exact walk_t hr
  have p := gI0_pos h0
  have gd : (gI0 L).natAbs < 10 ^ 200 := Nat.lt_trans ((sm_gcd hs h0).n90 (by omega)) (by decide)
  obtain ⟨t, et⟩ := nz_filter h0
  walk_at "vc"
  refine wq _ ?_
  walk_at "vc"
  refine g_loop L 0 _ _ fun s2 s3 => ?_
  walk_at "vc"
  refine wq _ ?_
  walk_at "vc"
  refine wc_fm (fun z => !(z == 0)) PyData.int L [] (by simp; omega) (fun z hz => ?_) ?_
  · walk_at "vc"
    refine ⟨rfl, rfl, fun _ => ?_⟩
    walk_at "vc"
    exact ⟨rfl, rfl⟩
  rw [et, List.nil_append, List.map_cons]
  walk_at "vc"
  refine wq _ ?_
  walk_at "vc"
  refine wc_fm (fun _ => true) (fun z => .int (if 0 < fnz L then z / gI0 L else 0 - z / gI0 L)) L [] (by simp; omega) (fun z hz => ?_) ?_
  · walk_at "vc"
    refine ⟨rfl, rfl, fun _ => ?_⟩
    walk_at "vc"
    all_goals
      rename_i c
      refine wg_divU p gd ?_
      walk_at "vc"
      first
        | (rw [if_pos c]; exact ⟨rfl, rfl⟩)
        | (rw [if_neg c]; exact ⟨rfl, rfl⟩)
  walk_at "vc"
  have e : ([] : List DL.D) ++ (L.filter fun _ => true).map (fun z => PyData.int (if 0 < fnz L then z / gI0 L else 0 - z / gI0 L)) = (shD L).map PyData.int := by
    unfold shD
    rw [List.map_map, List.nil_append, List.filter_eq_self.mpr (fun _ _ => rfl)]
    rfl
  rw [e]
  exact r
theorem eqv_ints : ∀ L M : List Int, PyData.eqvAll (L.map PyData.int) (M.map PyData.int) = decide (L = M)
  | [], [] => rfl
  | [], z :: M => by simp [PyData.eqvAll]
  | z :: L, [] => by simp [PyData.eqvAll]
  | z :: L, y :: M => by
    rw [List.map_cons, List.map_cons]
    rw [PyData.eqvAll, eqv_ints L M]
    show ((z == y) && decide (L = M)) = _
    by_cases h : z = y <;> by_cases h2 : L = M <;> simp [h, h2]
theorem wg_eqL {L M : List Int} {R : Sl → Prop} (r : R (.dat (.bool (decide (L = M))))) : wg (gEq false (.dat (.tuple (L.map PyData.int))) (.dat (.tuple (M.map PyData.int)))) R := by
  refine wg_eqd (ints_shaped L) (ints_shaped M) ?_
  have e : PyData.eqv (.tuple (L.map PyData.int)) (.tuple (M.map PyData.int)) = decide (L = M) := by
    rw [PyData.eqv]
    exact eqv_ints L M
  rw [e]
  exact r
theorem sh_same {L : List Int} (h0 : fnz L ≠ 0) : decide (shD L = L) = shB L := by
  by_cases h : shD L = L
  · have h1 := sh_first h0
    have h2 := sh_gcd h0
    rw [h] at h1 h2
    have g : gI0 L = 1 := by unfold gI0; rw [h2]; rfl
    unfold shB
    rw [decide_eq_true h, decide_eq_true h1, g]
    rfl
  · rw [decide_eq_false h]
    cases e : shB L with
    | false => rfl
    | true =>
      unfold shB at e
      simp only [Bool.and_eq_true, decide_eq_true_eq, beq_iff_eq] at e
      refine absurd ?_ h
      unfold shD
      conv => rhs; rw [← List.map_id L]
      refine List.map_congr_left fun z hz => ?_
      rw [if_pos e.1, e.2, Int.ediv_one]
      rfl
theorem wf_lint {d : DL.D} {k : Dk} {P : DL.D → Dk → Prop} (z : P (.bool (isIntD d)) k) : wf f__law_is_integer [.dat d] k P := ⟨_, _, law_int d k, z⟩
theorem odd_of (ds : List DL.D) : (([] : List DL.D) ++ (ds.filter fun d => !isIntD d).map id).isEmpty = ds.all isIntD := by
  rw [List.map_id, List.nil_append]
  exact odd_nil ds
theorem wf_lrel {n : Nat} {d : DL.D} {k : Dk} {P : DL.D → Dk → Prop} (hn : n ≤ 80) (hs : ∀ ds, d = .tuple ds → ∀ z, PyData.int z ∈ ds → Sm n z) (r : P (.bool (relD d)) k) : wf f__law_is_relation [.dat d] k P := by
  refine wf_fn (e := [.dat d, .un]) rfl ?_
  unfold g__law_is_relation
  rcases tup_or d with ⟨ds, rfl⟩ | h
  · have hs := hs ds rfl
    rw [relD_tup] at r
    walk_at "vc"
    · rename_i h1
      have le := lenB_le h1
      rw [h1, Bool.true_and] at r
      refine wc_pure (fun d => !isIntD d) id ds [] (by simp; omega) (fun z hz => ?_) ?_
      · walk_at "vc"
        refine wf_lint ?_
        walk_at "vc"
        refine ⟨rfl, rfl, fun _ => ?_⟩
        walk_at "vc"
        exact ⟨rfl, rfl⟩
      cases e : ds.all isIntD with
      | false =>
        rw [e, Bool.false_and] at r
        have o := odd_of ds
        rw [e] at o
        generalize ([] : List DL.D) ++ (ds.filter fun d => !isIntD d).map id = es at o
        walk_at "vc"
        · rename_i q; rw [o] at q; cases q
        · exact r
      | true =>
        rw [e, Bool.true_and] at r
        have o := odd_of ds
        rw [e] at o
        generalize ([] : List DL.D) ++ (ds.filter fun d => !isIntD d).map id = es at o
        have q := all_map e
        generalize ds.map vI = L at q r
        subst q
        have hs : ∀ z ∈ L, Sm n z := fun z hz => hs z (List.mem_map.mpr ⟨z, hz, rfl⟩)
        rw [List.length_map] at le
        walk_at "vc"
        rotate_left
        · rename_i q; rw [o] at q; cases q
        refine wc_fm (fun z => !(z == 0)) PyData.int L [] (by simp; omega) (fun z hz => ?_) ?_
        · walk_at "vc"
          refine ⟨rfl, rfl, fun _ => ?_⟩
          walk_at "vc"
          exact ⟨rfl, rfl⟩
        have o2 := nz_empty L
        have o3 : (([] : List DL.D) ++ (L.filter fun z => !(z == 0)).map PyData.int).isEmpty = decide (fnz L = 0) := by
          rw [List.nil_append, List.isEmpty_map]
          exact o2
        generalize ([] : List DL.D) ++ (L.filter fun z => !(z == 0)).map PyData.int = fs at o3
        by_cases h0 : fnz L = 0
        · rw [decide_eq_true h0] at o3
          walk_at "vc"
          rotate_left
          · rename_i q; rw [o3] at q; cases q
          have : shB L = false := by unfold shB; rw [h0]; rfl
          rw [this] at r
          exact r
        · rw [decide_eq_false h0] at o3
          walk_at "vc"
          · rename_i q; rw [o3] at q; cases q
          refine wf_lshort (.inr rfl) hs hn (by omega) h0 ?_
          walk_at "vc"
          refine wg_eqL ?_
          walk_at "vc"
          rw [sh_same h0]
          exact r
    · rename_i h1
      rw [h1] at r
      exact r
    · rename_i h1
      rw [isB_tup] at h1
      cases h1
  · have e := not_tup h
    rw [relD_not h] at r
    walk_at "vc"
    · rename_i h1
      rw [e] at h1
      cases h1
    · exact r
end G
set_option maxHeartbeats 8000000
set_option exponentiation.threshold 3000
namespace G
open PySem PySem.Spec PyProof.Rows L2 DL
/-! ### tables of integers -/
def tb (n : Nat) (f : Nat → Int) : List DL.D := (List.range n).map fun j => .int (f j)
theorem tb_len (n : Nat) (f : Nat → Int) : (tb n f).length = n := by unfold tb; rw [List.length_map, List.length_range]
theorem tb_get {n : Nat} {f : Nat → Int} {j : Nat} (h : j < n) : (tb n f)[j]? = some (.int (f j)) := by
  unfold tb
  rw [List.getElem?_map, List.getElem?_range h]
  rfl
theorem tb_at {n : Nat} {f : Nat → Int} {j : Nat} {i : Int} (h : j < n) (e : i = (j : Int)) : atI (tb n f) i = some (.int (f j)) := by
  subst e
  rw [vAtN (by rw [tb_len]; exact h)]
  exact tb_get h
theorem tb_of (L : List Int) : L.map PyData.int = tb L.length (fun j => L.getD j 0) := by
  refine List.ext_getElem? fun j => ?_
  by_cases h : j < L.length
  · rw [tb_get h, List.getElem?_map, List.getElem?_eq_getElem h]
    simp [List.getD, h]
  · rw [List.getElem?_eq_none (by rw [List.length_map]; omega), List.getElem?_eq_none (by rw [tb_len]; omega)]
theorem wc_nm {q : Fg'} {c : Ft} {f : Fe} {e0 : List Sl} {k : Dk} {P : List DL.D → Dk → Prop} (g : Nat → Int) (p : Nat → Bool) (h : Nat → DL.D) : ∀ (L : List Nat) (acc : List DL.D), acc.length + L.length < 1000000 →
    (∀ z ∈ L, setQ q (.dat (.int (g z))) e0 fun e => wt c e k (fmQ (p z) k (we f e k (fmR (h z) k)))) → P (acc ++ (L.filter p).map h) k → wc (loopC q c f e0 (L.map fun z => .int (g z)) acc k) P
  | [], acc, _, _, r => wc_nil (by simpa using r)
  | z :: L, acc, hl, st, r => by
    rw [List.length_cons] at hl
    obtain ⟨e, he, b, k1, e1, hb, rfl, hf⟩ := st z (List.mem_cons_self ..)
    subst hb
    refine wc_cons ⟨e, he, p z, k1, e1, ?_⟩
    cases hp : p z with
    | true =>
      obtain ⟨s, k2, e2, rfl, rfl⟩ := hf hp
      refine fork_t ⟨_, _, e2, h z, rfl, by omega, wc_nm g p h L _ (by rw [List.length_append, List.length_singleton]; omega) (fun x hx => st x (List.mem_cons_of_mem _ hx)) ?_⟩
      simpa [List.filter_cons, hp] using r
    | false =>
      refine fork_f (wc_nm g p h L _ (by omega) (fun x hx => st x (List.mem_cons_of_mem _ hx)) ?_)
      simpa [List.filter_cons, hp] using r
theorem wc_tb {q : Fg'} {c : Ft} {f : Fe} {e0 : List Sl} {k : Dk} {P : List DL.D → Dk → Prop} (g : Nat → Int) (p : Nat → Bool) (h : Nat → DL.D) (n : Nat) (hn : n < 1000000)
    (st : ∀ z < n, setQ q (.dat (.int (g z))) e0 fun e => wt c e k (fmQ (p z) k (we f e k (fmR (h z) k)))) (r : P (((List.range n).filter p).map h) k) : wc (loopC q c f e0 ((List.range n).map fun z => .int (g z)) [] k) P :=
  wc_nm g p h (List.range n) [] (by simp; omega) (fun z hz => st z (List.mem_range.mp hz)) (by rw [List.nil_append]; exact r)
/-! ### the sum over all rows of bits -/
def V : List (Int × Int) → (Nat → Int) → Int
  | [], f => f 0
  | p :: ps, f => p.1 * V ps f + p.2 * V ps (fun j => f (j + 2 ^ ps.length))
theorem V_lin (a b : Int) : ∀ (ps : List (Int × Int)) (f g : Nat → Int), V ps (fun j => a * f j + b * g j) = a * V ps f + b * V ps g
  | [], f, g => rfl
  | p :: ps, f, g => by
    unfold V
    rw [V_lin a b ps f g, V_lin a b ps (fun j => f (j + 2 ^ ps.length)) (fun j => g (j + 2 ^ ps.length))]
    grind
theorem V_first (p : Int × Int) (ps : List (Int × Int)) (f : Nat → Int) : V ps (fun j => p.1 * f j + p.2 * f (j + 2 ^ ps.length)) = V (p :: ps) f := V_lin p.1 p.2 ps f _
theorem V_last (a b : Int) : ∀ (ps : List (Int × Int)) (f : Nat → Int), V (ps ++ [(a, b)]) f = V ps (fun j => f (2 * j) * a + f (2 * j + 1) * b)
  | [], f => by
    show a * f 0 + b * f (0 + 2 ^ 0) = f (2 * 0) * a + f (2 * 0 + 1) * b
    rw [Int.mul_comm a, Int.mul_comm b]
  | p :: ps, f => by
    rw [List.cons_append]
    unfold V
    rw [V_last a b ps, V_last a b ps]
    have e : ∀ j, 2 * (j + 2 ^ ps.length) = 2 * j + 2 ^ (ps ++ [(a, b)]).length := fun j => by
      rw [List.length_append, List.length_singleton, Nat.pow_succ]
      omega
    have e2 : ∀ j, 2 * j + 2 ^ (ps ++ [(a, b)]).length + 1 = 2 * j + 1 + 2 ^ (ps ++ [(a, b)]).length := fun j => by omega
    simp only [e, e2]
def W : List (Int × Int) → (Nat → Int) → Int
  | [], f => f 0
  | p :: ps, f => W ps (fun j => f (2 * j) * p.1 + f (2 * j + 1) * p.2)
theorem W_V : ∀ (qs : List (Int × Int)) (f : Nat → Int), W qs f = V qs.reverse f
  | [], f => rfl
  | p :: qs, f => by
    rw [List.reverse_cons]
    unfold W
    rw [W_V qs, ← V_last p.1 p.2]
def pD (p : Int × Int) : DL.D := .tuple [.int p.1, .int p.2]
/-! ### the program's value -/
theorem sm_step {q : Nat} {a b x y : Int} (ha : Sm 10 a) (hb : Sm 10 b) (hx : Sm q x) (hy : Sm q y) : Sm (q + 11) (a * x + b * y) :=
  Sm.add (n := 10 + q) (Sm.mul ha hx) (Sm.mul hb hy) (by omega)
theorem half_filter {m : Nat} (h : m = 1 ∨ m = 2 ∨ m = 4 ∨ m = 8 ∨ m = 16 ∨ m = 32) : (List.range (2 * m)).filter (fun (j : Nat) => Builtin.bitAnd (0 + (j : Int)) (m : Int) == 0) = List.range m := by
  rcases h with rfl | rfl | rfl | rfl | rfl | rfl <;> decide +kernel
theorem half_low {m j : Nat} (h : m = 1 ∨ m = 2 ∨ m = 4 ∨ m = 8 ∨ m = 16 ∨ m = 32) (hj : j < 2 * m) (e : (Builtin.bitAnd (0 + (j : Int)) (m : Int) == 0) = true) : j < m := by
  have := half_filter h
  have q : j ∈ (List.range (2 * m)).filter (fun (j : Nat) => Builtin.bitAnd (0 + (j : Int)) (m : Int) == 0) := List.mem_filter.mpr ⟨List.mem_range.mpr hj, e⟩
  rw [this] at q
  exact List.mem_range.mp q
theorem wf_span {m : Nat} {ds : List DL.D} {k : Dk} {P : DL.D → Dk → Prop} (h : ds.length = 2 * m) (r : P (.int (m : Int)) k) : wf f_bit_span [.dat (.tuple ds), .dat (.int 0)] k P := by
  refine wf_fn (e := [.dat (.tuple ds), .dat (.int 0)]) rfl ?_
  unfold g_bit_span
  walk_at "vc"
  have e : ((ds.length : Nat) : Int) / 2 ^ ((0 : Int) + 1).toNat = (m : Int) := by
    rw [h]
    show ((2 * m : Nat) : Int) / 2 = m
    omega
  refine wg_ii' rfl ?_
  rw [e]
  walk_at "vc"
  exact r
theorem wf_with {m q : Nat} {a b : Int} {f : Nat → Int} {k : Dk} {P : DL.D → Dk → Prop} (hm : m = 1 ∨ m = 2 ∨ m = 4 ∨ m = 8 ∨ m = 16 ∨ m = 32) (hq : q ≤ 140) (ha : Sm 10 a) (hb : Sm 10 b) (hf : ∀ j < 2 * m, Sm q (f j))
    (r : P (.tuple (tb m fun j => a * f j + b * f (j + m))) k) : wf f_with_place [.dat (.tuple (tb (2 * m) f)), .dat (.int 0), .dat (.tuple [.int a, .int b])] k P := by
  refine wf_fn (e := [.dat (.tuple (tb (2 * m) f)), .dat (.int 0), .dat (.tuple [.int a, .int b]), .un, .un, .un, .un]) rfl ?_
  unfold g_with_place
  walk_at "vc"
  refine wf_span (tb_len ..) ?_
  have tl : (tb (2 * m) f).length = 2 * m := tb_len ..
  have ml : 2 * m ≤ 64 := by omega
  walk_at "vc"
  have te : rng 0 ((tb (2 * m) f).length : Int).toNat = (List.range (2 * m)).map fun j => .int (0 + (j : Int)) := by rw [tl]; rfl
  rw [te]
  refine wc_tb (fun j => 0 + (j : Int)) (fun (j : Nat) => Builtin.bitAnd (0 + (j : Int)) (m : Int) == 0) (fun j => .int (a * f j + b * f (j + m))) _ (by omega) (fun j hj => ?_) ?_
  · walk_at "vc"
    refine ⟨rfl, rfl, fun hl => ?_⟩
    have jm := half_low hm hj hl
    have c1 : cMul a (f j) = true := Sm.cm ha (hf _ (by omega)) (by decide) (by omega)
    have c2 : cMul b (f (j + m)) = true := Sm.cm hb (hf _ (by omega)) (by decide) (by omega)
    have a1 : atI (tb (2 * m) f) (0 + (j : Int)) = some (.int (f j)) := tb_at (by omega) (by omega)
    have a2 : atI (tb (2 * m) f) (0 + (j : Int) + (m : Int)) = some (.int (f (j + m))) := tb_at (by omega) (by omega)
    walk_at "vc"
    exact ⟨rfl, rfl⟩
  rw [half_filter hm]
  walk_at "vc"
  exact r
theorem V_sm : ∀ (ps : List (Int × Int)) (q : Nat) (f : Nat → Int), (∀ p ∈ ps, Sm 10 p.1 ∧ Sm 10 p.2) → (∀ j < 2 ^ ps.length, Sm q (f j)) → Sm (q + 11 * ps.length) (V ps f)
  | [], q, f, _, hf => hf 0 (by decide)
  | p :: ps, q, f, hp, hf => by
    rw [← V_first]
    have h := hp p (List.mem_cons_self ..)
    have e : 2 ^ (p :: ps).length = 2 ^ ps.length + 2 ^ ps.length := by rw [List.length_cons, Nat.pow_succ]; omega
    have := V_sm ps (q + 11) (fun j => p.1 * f j + p.2 * f (j + 2 ^ ps.length)) (fun x hx => hp x (List.mem_cons_of_mem _ hx)) (fun j hj => sm_step h.1 h.2 (hf _ (by omega)) (hf _ (by omega)))
    rw [List.length_cons, Nat.mul_succ]
    exact this.mono (by omega)
theorem pow_in {n : Nat} (h : n ≤ 5) : 2 ^ n = 1 ∨ 2 ^ n = 2 ∨ 2 ^ n = 4 ∨ 2 ^ n = 8 ∨ 2 ^ n = 16 ∨ 2 ^ n = 32 := by
  have : n = 0 ∨ n = 1 ∨ n = 2 ∨ n = 3 ∨ n = 4 ∨ n = 5 := by omega
  rcases this with rfl | rfl | rfl | rfl | rfl | rfl <;> decide
def lV : Fs := sAsg (fCall 3 f_with_place (fCons (fVar 2) (fCons (fC (.int 0)) (fCons (fVar 3) fNil)))) (qName 2)
theorem ws_vl {s0 s1 : Sl} {k : Dk} {Q : Out → Prop} : ∀ (ps : List (Int × Int)) (q : Nat) (f : Nat → Int) (s3 : Sl), ps.length ≤ 6 → q + 11 * ps.length ≤ 130 → (∀ p ∈ ps, Sm 10 p.1 ∧ Sm 10 p.2) → (∀ j < 2 ^ ps.length, Sm q (f j)) →
    (∀ g s3, g 0 = V ps f → Q (.nx [s0, s1, .dat (.tuple (tb 1 g)), s3] k)) → ws (loopF (qName 3) lV (ps.map pD)) [s0, s1, .dat (.tuple (tb (2 ^ ps.length) f)), s3] k Q
  | [], q, f, s3, _, _, _, _, r => loop_nil (r f s3 rfl)
  | p :: ps, q, f, s3, hl, hq, hp, hf, r => by
    rw [List.map_cons]
    refine loop_cons ?_
    have h := hp p (List.mem_cons_self ..)
    rw [List.length_cons] at hl hq
    have e : 2 ^ (p :: ps).length = 2 * 2 ^ ps.length := by rw [List.length_cons, Nat.pow_succ]; omega
    rw [e] at hf ⊢
    unfold lV pD
    walk_at "vc"
    refine wf_with (q := q) (pow_in (by omega)) (by omega) h.1 h.2 hf ?_
    walk_at "vc"
    refine ws_vl ps (q + 11) _ _ (by omega) (by omega) (fun x hx => hp x (List.mem_cons_of_mem _ hx)) (fun j hj => sm_step h.1 h.2 (hf _ (by omega)) (hf _ (by omega))) (fun g s3 eg => r g s3 (by rw [eg, ← V_first]))
theorem wf_cd {n : Nat} {ds : List DL.D} {k : Dk} {P : DL.D → Dk → Prop} (hn : n ≤ 6) (h : ds.length = 2 ^ n) (r : P (.int (n : Int)) k) : wf f_count_dials [.dat (.tuple ds)] k P := by
  refine wf_fn (e := [.dat (.tuple ds)]) rfl ?_
  unfold g_count_dials
  walk_at "vc"
  have e : ((Builtin.Int.intBits ((ds.length : Nat) : Int) : Nat) : Int) - 1 = (n : Int) := by
    rw [h]
    have : n = 0 ∨ n = 1 ∨ n = 2 ∨ n = 3 ∨ n = 4 ∨ n = 5 ∨ n = 6 := by omega
    rcases this with rfl | rfl | rfl | rfl | rfl | rfl | rfl <;> decide
  rw [e]
  exact r
def plsD (n : Nat) : DL.D → Bool
  | .tuple ds => decide (ds.length = n) && ds.all isPl
  | _ => false
theorem plsD_tup (n : Nat) (ds : List DL.D) : plsD n (.tuple ds) = (decide (ds.length = n) && ds.all isPl) := rfl
theorem plsD_not {d : DL.D} (h : ∀ ds, d ≠ .tuple ds) (n : Nat) : plsD n d = false := by
  cases d with
  | tuple ds => exact absurd rfl (h ds)
  | _ => rfl
def tupN (m : Nat) : DL.D → Bool
  | .tuple ds => decide (ds.length = m)
  | _ => false
theorem tupN_not {d : DL.D} (h : ∀ ds, d ≠ .tuple ds) (n : Nat) : tupN n d = false := by
  cases d with
  | tuple ds => exact absurd rfl (h ds)
  | _ => rfl
theorem wf_tupof {d : DL.D} {m : Nat} {k : Dk} {P : DL.D → Dk → Prop} (z : P (.bool (tupN m d)) k) : wf f_is_tuple_of [.dat d, .dat (.int m)] k P := by
  refine ⟨_, _, tuple_of d m k, ?_⟩
  rcases tup_or d with ⟨ds, rfl⟩ | h
  · exact z
  · rw [tupN_not h] at z
    cases d with
    | tuple ds => exact absurd rfl (h ds)
    | _ => exact z
theorem wf_arepl {n : Nat} {d : DL.D} {k : Dk} {P : DL.D → Dk → Prop} (r : P (.bool (plsD n d)) k) : wf f_are_places [.dat d, .dat (.int n)] k P := by
  refine wf_fn (e := [.dat d, .dat (.int n), .un]) rfl ?_
  unfold g_are_places
  rcases tup_or d with ⟨ds, rfl⟩ | h
  · rw [plsD_tup] at r
    walk_at "vc"
    refine wf_tupof ?_
    unfold tupN
    walk_at "vc"
    · rename_i h1
      refine wb_pure (b0 := false) isPl ds (fun z hz => ?_) ?_
      · walk_at "vc"
        refine wf_is_place ?_
        exact ⟨rfl, rfl⟩
      · rw [decide_eq_true h1, Bool.true_and] at r
        show rdatQ (.dat (.bool (ds.all isPl))) _
        walk_at "vc"
        exact r
    · rename_i h1
      rw [decide_eq_false h1] at r
      exact r
  · rw [plsD_not h] at r
    walk_at "vc"
    refine wf_tupof ?_
    rw [tupN_not h]
    walk_at "vc"
    exact r
theorem wx_chkrel {d : DL.D} {k : Dk} {P : DL.D → Dk → Prop} {X : Xn → Dk → Prop} (r : relD d = true → P .none k) (x : relD d = false → X ⟨"BadRelation", some d⟩ k) : wxf fx_check_relation [.dat d] k P X := by
  refine wxf_fn (e := [.dat d]) rfl ?_
  unfold gx_check_relation
  walk_at "vc"
  refine wf_isrel ?_
  cases e : relD d with
  | true => walk_at "vc"; exact r e
  | false => walk_at "vc"; exact x e
theorem wx_chkpl {n : Nat} {d : DL.D} {k : Dk} {P : DL.D → Dk → Prop} {X : Xn → Dk → Prop} (r : plsD n d = true → P .none k) (x : plsD n d = false → X ⟨"BadPlaces", some d⟩ k) : wxf fx_check_places [.dat d, .dat (.int n)] k P X := by
  refine wxf_fn (e := [.dat d, .dat (.int n)]) rfl ?_
  unfold gx_check_places
  walk_at "vc"
  refine wf_arepl ?_
  cases e : plsD n d with
  | true => walk_at "vc"; exact r e
  | false => walk_at "vc"; exact x e
/-- a relation of n dials, in this law's bounds -/
structure Rl (n : Nat) (f : Nat → Int) : Prop where
  lo : 1 ≤ n
  hi : n ≤ 6
  ok : relD (.tuple (tb (2 ^ n) f)) = true
  sm : ∀ j < 2 ^ n, Sm 7 (f j)
structure Ps (n : Nat) (ps : List (Int × Int)) : Prop where
  ln : ps.length = n
  ok : plsD n (.tuple (ps.map pD)) = true
  sm : ∀ p ∈ ps, Sm 10 p.1 ∧ Sm 10 p.2
theorem wx_dials {n : Nat} {f : Nat → Int} {k : Dk} {P : DL.D → Dk → Prop} {X : Xn → Dk → Prop} (R : Rl n f) (r : P (.int (n : Int)) k) : wxf fx_dials_of [.dat (.tuple (tb (2 ^ n) f))] k P X := by
  refine wxf_fn (e := [.dat (.tuple (tb (2 ^ n) f))]) rfl ?_
  unfold gx_dials_of
  walk_at "vc"
  refine wx_chkrel (fun _ => ?_) (fun z => absurd (z.symm.trans R.ok) (by decide))
  walk_at "vc"
  refine wf_cd R.hi (tb_len ..) ?_
  walk_at "vc"
  exact r
theorem wx_val1 {d e : DL.D} {k : Dk} {P : DL.D → Dk → Prop} {X : Xn → Dk → Prop} (h : relD d = false) (x : X ⟨"BadRelation", some d⟩ k) : wxf fx_value [.dat d, .dat e] k P X := by
  refine wxf_fn (e := [.dat d, .dat e, .un, .un]) rfl ?_
  unfold gx_value
  walk_at "vc"
  refine wx_chkrel (fun z => absurd (z.symm.trans h) (by decide)) (fun z => ?_)
  walk_at "vc"
  exact x
theorem wx_val2 {n : Nat} {f : Nat → Int} {e : DL.D} {k : Dk} {P : DL.D → Dk → Prop} {X : Xn → Dk → Prop} (R : Rl n f) (h : plsD n e = false) (x : X ⟨"BadPlaces", some e⟩ k) : wxf fx_value [.dat (.tuple (tb (2 ^ n) f)), .dat e] k P X := by
  refine wxf_fn (e := [.dat (.tuple (tb (2 ^ n) f)), .dat e, .un, .un]) rfl ?_
  unfold gx_value
  walk_at "vc"
  refine wx_chkrel (fun z => ?_) (fun z => absurd (z.symm.trans R.ok) (by decide))
  walk_at "vc"
  refine wf_cd R.hi (tb_len ..) ?_
  walk_at "vc"
  refine wx_chkpl (fun z => absurd (z.symm.trans h) (by decide)) (fun z => ?_)
  walk_at "vc"
  exact x
theorem wx_val {n : Nat} {f : Nat → Int} {ps : List (Int × Int)} {k : Dk} {P : DL.D → Dk → Prop} {X : Xn → Dk → Prop} (R : Rl n f) (S : Ps n ps) (r : P (.int (V ps f)) k) : wxf fx_value [.dat (.tuple (tb (2 ^ n) f)), .dat (.tuple (ps.map pD))] k P X := by
  refine wxf_fn (e := [.dat (.tuple (tb (2 ^ n) f)), .dat (.tuple (ps.map pD)), .un, .un]) rfl ?_
  unfold gx_value
  walk_at "vc"
  refine wx_chkrel (fun z => ?_) (fun z => absurd (z.symm.trans R.ok) (by decide))
  walk_at "vc"
  refine wf_cd R.hi (tb_len ..) ?_
  walk_at "vc"
  refine wx_chkpl (fun z => ?_) (fun z => absurd (z.symm.trans S.ok) (by decide))
  walk_at "vc"
  have l := S.ln
  subst l
  refine ws_vl ps 7 f _ R.hi (by have := R.hi; omega) S.sm R.sm (fun g s3 eg => ?_)
  have a1 : atI (tb 1 g) 0 = some (.int (V ps f)) := by rw [tb_at (j := 0) (i := 0) (by omega) rfl, eg]
  walk_at "vc"
  have r' := r
  rw [← eg] at r'
  exact r'
theorem wx_hold1 {d e : DL.D} {k : Dk} {P : DL.D → Dk → Prop} {X : Xn → Dk → Prop} (h : relD d = false) (x : X ⟨"BadRelation", some d⟩ k) : wxf fx_holds [.dat d, .dat e] k P X := by
  refine wxf_fn (e := [.dat d, .dat e]) rfl ?_
  unfold gx_holds
  walk_at "vc"
  refine wx_val1 h ?_
  walk_at "vc"
  exact x
theorem wx_hold2 {n : Nat} {f : Nat → Int} {e : DL.D} {k : Dk} {P : DL.D → Dk → Prop} {X : Xn → Dk → Prop} (R : Rl n f) (h : plsD n e = false) (x : X ⟨"BadPlaces", some e⟩ k) : wxf fx_holds [.dat (.tuple (tb (2 ^ n) f)), .dat e] k P X := by
  refine wxf_fn (e := [.dat (.tuple (tb (2 ^ n) f)), .dat e]) rfl ?_
  unfold gx_holds
  walk_at "vc"
  refine wx_val2 R h ?_
  walk_at "vc"
  exact x
theorem wx_hold {n : Nat} {f : Nat → Int} {ps : List (Int × Int)} {k : Dk} {P : DL.D → Dk → Prop} {X : Xn → Dk → Prop} (R : Rl n f) (S : Ps n ps) (r : P (.bool (V ps f == 0)) k) : wxf fx_holds [.dat (.tuple (tb (2 ^ n) f)), .dat (.tuple (ps.map pD))] k P X := by
  refine wxf_fn (e := [.dat (.tuple (tb (2 ^ n) f)), .dat (.tuple (ps.map pD))]) rfl ?_
  unfold gx_holds
  walk_at "vc"
  refine wx_val R S ?_
  walk_at "vc"
  exact r
end G
local macro_rules | `(tactic| walk_at "spec") => `(tactic| ((with_reducible refine G.wg_repl ?_ ?_ ?_); (first | decide | omega); (first | decide | (simp; done) | omega)))
local macro_rules | `(tactic| walk_at "spec") => `(tactic| ((with_reducible refine G.wg_rep1 ?_ ?_ ?_); (first | decide | omega); (first | decide | omega)))
local macro_rules | `(tactic| walk_at "spec") => `(tactic| ((with_reducible apply G.walkN_i); (exact rfl)))
local macro_rules | `(tactic| walk_at "spec") => `(tactic| with_reducible refine G.ww_seqN ?_)
local macro_rules | `(tactic| walk_at "spec") => `(tactic| with_reducible refine G.rvq_t ?_)
local macro_rules | `(tactic| walk_at "spec") => `(tactic| with_reducible refine G.rvq_o ?_)
local macro_rules | `(tactic| walk_at "spec") => `(tactic| with_reducible refine G.rvq_l ?_)
local macro_rules | `(tactic| walk_at "spec") => `(tactic| with_reducible refine G.we_revU ?_)
set_option maxHeartbeats 8000000
set_option exponentiation.threshold 3000
namespace G
open PySem PySem.Spec PyProof.Rows L2 DL
/-! ### the law's value -/
theorem r3_ok {m : Nat} (h : m = 1 ∨ m = 2 ∨ m = 4 ∨ m = 8 ∨ m = 16 ∨ m = 32) : (0 < (2 : Int) ∧ (2 : Int) < 1073741824 ∧ Builtin.Range.small 0 ((2 * m : Nat) : Int) 2 = true ∧ 0 ≤ Builtin.Range.rangeSize 0 ((2 * m : Nat) : Int) 2) ∧ (Builtin.Range.rangeSize 0 ((2 * m : Nat) : Int) 2).toNat = m := by
  rcases h with rfl | rfl | rfl | rfl | rfl | rfl <;> decide
def lW : Fs := (sAsg (fLc (wRng3 (fCons (fC (.int 0)) (fCons (f1 gLen (fVar 2)) (fCons (fC (.int 2)) fNil)))) (qName 5) fYes (f2 gAddU (f2 gMulU (fIx (fVar 2) (fVar 5)) (fVar 3)) (f2 gMulU (fIx (fVar 2) (f2 gAddU (fVar 5) (fC (.int 1)))) (fVar 4))) [5]) (qName 2))
def lWv : Fs := (sSeq (sAsg (f1 gListOf (fVar 0)) (qName 2))
    (sSeq (sFor (wSeq (fRevU (fVar 1))) (qTup 2 (qCons (qName 3) (qCons (qName 4) qNil))) lW)
    (sRet (fIx (fVar 2) (fC (.int 0))))))
theorem lv_eq : g__law_value = lWv := rfl
theorem ws_wl {s0 s1 : Sl} {k : Dk} {Q : Out → Prop} : ∀ (ps : List (Int × Int)) (q : Nat) (f : Nat → Int) (s3 s4 : Sl), ps.length ≤ 6 → q + 11 * ps.length ≤ 130 → (∀ p ∈ ps, Sm 10 p.1 ∧ Sm 10 p.2) → (∀ j < 2 ^ ps.length, Sm q (f j)) →
    (∀ g s3 s4, g 0 = W ps f → Q (.nx [s0, s1, .dat (.list (tb 1 g)), s3, s4, .un] k)) → ws (loopF (qTup 2 (qCons (qName 3) (qCons (qName 4) qNil))) lW (ps.map pD)) [s0, s1, .dat (.list (tb (2 ^ ps.length) f)), s3, s4, .un] k Q
  | [], q, f, s3, s4, _, _, _, _, r => loop_nil (r f s3 s4 rfl)
  | p :: ps, q, f, s3, s4, hl, hq, hp, hf, r => by
    rw [List.map_cons]
    refine loop_cons ?_
    have h := hp p (List.mem_cons_self ..)
    rw [List.length_cons] at hl hq
    have e : 2 ^ (p :: ps).length = 2 * 2 ^ ps.length := by rw [List.length_cons, Nat.pow_succ]; omega
    rw [e] at hf ⊢
    have pw := pow_in (show ps.length ≤ 5 by omega)
    generalize em : 2 ^ ps.length = m at *
    obtain ⟨r1, r2⟩ := r3_ok pw
    unfold lW pD
    have tl : (tb (2 * m) f).length = 2 * m := tb_len ..
    walk_at "vc"
    rw [tl]
    refine rng3_i r1 ?_
    rw [r2]
    unfold DL.rng3
    refine wc_tb (fun j => 0 + (j : Int) * 2) (fun _ => true) (fun j => .int (f (2 * j) * p.1 + f (2 * j + 1) * p.2)) m (by omega) (fun j hj => ?_) ?_
    · have c1 : cMul (f (2 * j)) p.1 = true := Sm.cm (hf _ (by omega)) h.1 (by omega) (by decide)
      have c2 : cMul (f (2 * j + 1)) p.2 = true := Sm.cm (hf _ (by omega)) h.2 (by omega) (by decide)
      have a1 : atI (tb (2 * m) f) (0 + (j : Int) * 2) = some (.int (f (2 * j))) := tb_at (by omega) (by omega)
      have a2 : atI (tb (2 * m) f) (0 + (j : Int) * 2 + 1) = some (.int (f (2 * j + 1))) := tb_at (by omega) (by omega)
      walk_at "vc"
      refine ⟨rfl, rfl, fun _ => ?_⟩
      walk_at "vc"
      exact ⟨rfl, rfl⟩
    rw [List.filter_eq_self.mpr (fun _ _ => rfl)]
    walk_at "vc"
    have q2 := ws_wl (s0 := s0) (s1 := s1) (k := k) (Q := Q) ps (q + 11) (fun j => f (2 * j) * p.1 + f (2 * j + 1) * p.2) (.dat (.int p.1)) (.dat (.int p.2)) (by omega) (by omega) (fun x hx => hp x (List.mem_cons_of_mem _ hx))
      (fun j hj => by
        have := sm_step h.1 h.2 (hf (2 * j) (by omega)) (hf (2 * j + 1) (by omega))
        rw [Int.mul_comm (f (2 * j)), Int.mul_comm (f (2 * j + 1))]
        exact this) (fun g s3 s4 eg => r g s3 s4 eg)
    rw [em] at q2
    exact q2
theorem wf_lval {n : Nat} {f : Nat → Int} {ps : List (Int × Int)} {k : Dk} {P : DL.D → Dk → Prop} (R : Rl n f) (S : Ps n ps) (r : P (.int (V ps f)) k) : wf f__law_value [.dat (.tuple (tb (2 ^ n) f)), .dat (.tuple (ps.map pD))] k P := by
  refine wf_fn (e := [.dat (.tuple (tb (2 ^ n) f)), .dat (.tuple (ps.map pD)), .un, .un, .un, .un]) rfl ?_
  rw [lv_eq]
  unfold lWv
  walk_at "vc"
  rw [← List.map_reverse]
  have l : ps.reverse.length = n := by rw [List.length_reverse]; exact S.ln
  have hi := R.hi
  have sm := R.sm
  rw [← l] at sm ⊢
  refine ws_wl ps.reverse 7 f _ _ (by omega) (by omega) (fun p hp => S.sm p (List.mem_reverse.mp hp)) sm (fun g s3 s4 eg => ?_)
  rw [W_V, List.reverse_reverse] at eg
  have a1 : atI (tb 1 g) 0 = some (.int (V ps f)) := by rw [tb_at (j := 0) (i := 0) (by omega) rfl, eg]
  walk_at "vc"
  have r' := r
  rw [← eg] at r'
  exact r'
/-! ### what is told -/
theorem wf_told1 {w : Int} {d e : DL.D} {k : Dk} {P : DL.D → Dk → Prop} (h : relD d = false) (r : P (.tuple [.str "relation", d, .bool true]) k) : wf f__law_told [.dat (.int w), .dat d, .dat e] k P := by
  refine wf_okF ?_
  refine wxf_fn (e := [.dat (.int w), .dat d, .dat e, .un]) rfl ?_
  unfold gx__law_told
  walk_at "vc"
  · refine wx_val1 h ?_
    walk_at "vc"
    exact r
  · refine wx_val1 h ?_
    walk_at "vc"
    exact r
  · refine wx_hold1 h ?_
    walk_at "vc"
    exact r
  · refine wx_hold1 h ?_
    walk_at "vc"
    exact r
theorem wf_told2 {w : Int} {n : Nat} {f : Nat → Int} {e : DL.D} {k : Dk} {P : DL.D → Dk → Prop} (R : Rl n f) (h : plsD n e = false) (r : P (.tuple [.str "places", e, .bool true]) k) : wf f__law_told [.dat (.int w), .dat (.tuple (tb (2 ^ n) f)), .dat e] k P := by
  refine wf_okF ?_
  refine wxf_fn (e := [.dat (.int w), .dat (.tuple (tb (2 ^ n) f)), .dat e, .un]) rfl ?_
  unfold gx__law_told
  walk_at "vc"
  · refine wx_val2 R h ?_
    walk_at "vc"
    exact r
  · refine wx_val2 R h ?_
    walk_at "vc"
    exact r
  · refine wx_hold2 R h ?_
    walk_at "vc"
    exact r
  · refine wx_hold2 R h ?_
    walk_at "vc"
    exact r
theorem wf_told {w : Int} {n : Nat} {f : Nat → Int} {ps : List (Int × Int)} {k : Dk} {P : DL.D → Dk → Prop} (R : Rl n f) (S : Ps n ps) (r0 : (w = 0 ∨ w = 1) → P (.tuple [.str "told", .int (V ps f)]) k) (r1 : ¬ (w = 0 ∨ w = 1) → P (.tuple [.str "told", .bool (V ps f == 0)]) k) : wf f__law_told [.dat (.int w), .dat (.tuple (tb (2 ^ n) f)), .dat (.tuple (ps.map pD))] k P := by
  refine wf_okF ?_
  refine wxf_fn (e := [.dat (.int w), .dat (.tuple (tb (2 ^ n) f)), .dat (.tuple (ps.map pD)), .un]) rfl ?_
  unfold gx__law_told
  walk_at "vc"
  · refine wx_val R S ?_
    walk_at "vc"
    exact r0 (by omega)
  · refine wx_val R S ?_
    walk_at "vc"
    exact r0 (by omega)
  · refine wx_hold R S ?_
    walk_at "vc"
    exact r1 (by omega)
  · refine wx_hold R S ?_
    walk_at "vc"
    exact r1 (by omega)
end G
set_option maxHeartbeats 8000000
set_option exponentiation.threshold 3000
namespace G
open PySem PySem.Spec PyProof.Rows L2 DL
/-! ### a drawn place -/
def lDf : Fs := (sRet (fIf (fTest (fNe (fSeq .tuple (fCons (fVar 2) (fCons (fVar 3) fNil))) (fSeq .tuple (fCons (fC (.int 0)) (fCons (fC (.int 0)) fNil))))) (fCall 2 f__law_place (fCons (fVar 2) (fCons (fVar 3) fNil))) (fSeq .tuple (fCons (fC (.int 1)) (fCons (fC (.int 0)) fNil)))))
def lDp : Fs := (sSeq (sAsg (fCall 2 f__law_pick (fCons (fVar 0) (fCons (fSeq .list (fCons (fC (.int 2)) (fCons (fC (.int 3)) (fCons (fC (.int 8)) (fCons (fC (.int 1000)) (fCons (fC (.int 30000)) fNil)))))) fNil))) (qName 1))
    (sSeq (sPar 2 3 (fCons (fCall 2 f__law_signed (fCons (fVar 0) (fCons (fVar 1) fNil))) (fCons (fCall 2 f__law_draw (fCons (fVar 0) (fCons (fVar 1) fNil))) fNil)))
    (sSeq (sIf (fTest (fEq (fVar 1) (fC (.int 30000)))) (sPar 2 3 (fCons (f2 gAddU (f2 gMulU (fVar 2) (fC (.int 33333))) (fCall 2 f__law_draw (fCons (fVar 0) (fCons (fC (.int 9)) fNil)))) (fCons (f2 gAddU (f2 gMulU (fVar 3) (fC (.int 33333))) (fC (.int 1))) fNil))) sNext)
    lDf)))
theorem dp_eq : g__law_drawn_place = lDp := rfl
theorem ws_df {s1 : Sl} {a b : Int} {k : Dk} {P : DL.D → Dk → Prop} (sa : Sm 10 a) (sb : Sm 10 b) (z : ∀ x y, Norm x y → Sm 10 x → Sm 10 y → P (P2 x y) k) : ws lDf [.deck, s1, .dat (.int a), .dat (.int b)] k (retQ P) := by
  unfold lDf
  walk_at "vc"
  refine wg_eqd_t rfl rfl ?_
  have e : PyData.eqv (.tuple [.int a, .int b]) (.tuple [.int 0, .int 0]) = (a == 0 && (b == 0 && true)) := rfl
  rw [e]
  walk_at "vc"
  · exact z 1 0 ⟨by decide, .inr ⟨rfl, rfl⟩⟩ (by constructor <;> decide) (by constructor <;> decide)
  · rename_i hc
    have hg : gcdI a b ≠ 0 := gcd_ne (fun w => by rw [w.1, w.2] at hc; exact absurd hc (by decide))
    refine wf_lplace (sa.mono (by decide)) (sb.mono (by decide)) hg ?_
    walk_at "vc"
    obtain ⟨u, v, e1, e2, e3, e4⟩ := pl_norm a b hg
    rw [e1]
    have g1 : 1 ≤ (gcdI a b).natAbs := by omega
    have l1 := Nat.le_mul_of_pos_right u.natAbs (show 0 < (gcdI a b).natAbs from g1)
    have l2 := Nat.le_mul_of_pos_right v.natAbs (show 0 < (gcdI a b).natAbs from g1)
    unfold Sm at sa sb
    exact z u v e2 (by unfold Sm; omega) (by unfold Sm; omega)
theorem wf_dpl {n : Nat} {k : Dk} {P : DL.D → Dk → Prop} (h : Ok n k) (hn : 6 ≤ n) (z : ∀ x y k', Norm x y → Sm 10 x → Sm 10 y → Ok (n - 6) k' → P (P2 x y) k') : wf f__law_drawn_place [.deck] k P := by
  refine wf_fn (e := [.deck, .un, .un, .un]) rfl ?_
  rw [dp_eq]
  unfold lDp
  walk_at "vc"
  refine wf_picki 2 30000 (ds := [.int 2, .int 3, .int 8, .int 1000, .int 30000]) rfl (by decide) (by decide) (by decide) h (by omega) fun lim k1 l0 l1 ok1 => ?_
  walk_at "vc"
  refine wf_signed ok1 (by omega) (by omega) (by omega) fun a k2 a0 a1 ok2 => ?_
  walk_at "vc"
  refine wf_draw ok2 (by omega) (by omega) (by omega) fun b k3 b0 b1 ok3 => ?_
  walk_at "vc"
  · refine wf_draw ok3 (by omega) (by omega) (by omega) fun c k4 c0 c1 ok4 => ?_
    walk_at "vc"
    refine ws_df ?_ ?_ fun x y nx sx sy => z x y _ nx sx sy (ok4.less (by omega)) <;> exact ⟨by omega, by omega⟩
  · refine ws_df ?_ ?_ fun x y nx sx sy => z x y _ nx sx sy (ok3.less (by omega)) <;> exact ⟨by omega, by omega⟩
/-! ### drawn items -/
theorem wc_inv {q : Fg'} {c : Ft} {f : Fe} {e0 : List Sl} {P : List DL.D → Dk → Prop} (I : List DL.D → List DL.D → Dk → Prop) (step : ∀ d ds acc k, I (d :: ds) acc k → setQ q (.dat d) e0 fun e => wt c e k fun b k1 => fork b (we f e k1 fun s k2 => datQ s fun z => lenQ acc.length (I ds (acc ++ [z]) k2)) (I ds acc k1)) (fin : ∀ acc k, I [] acc k → P acc k) :
    ∀ ds acc k, I ds acc k → wc (loopC q c f e0 ds acc k) P
  | [], acc, k, h => wc_nil (fin acc k h)
  | d :: ds, acc, k, h => by
    obtain ⟨e, he, b, k1, e1, r⟩ := step d ds acc k h
    refine wc_cons ⟨e, he, b, k1, e1, ?_⟩
    cases b with
    | true =>
      obtain ⟨s, k2, e2, z, rfl, hl, r⟩ := r.1 rfl
      exact fork_t ⟨_, k2, e2, z, rfl, hl, wc_inv I step fin ds _ _ r⟩
    | false => exact fork_f (wc_inv I step fin ds _ _ (r.2 rfl))
theorem wg_addo {xs ys : List DL.D} {P : Sl → Prop} (hl : xs.length + ys.length ≤ 1000000) (r : P (.dat (.list (xs ++ ys)))) : wg (gAddU (.own xs) (.own ys)) P := by
  refine ⟨_, ?_, r⟩
  unfold gAddU gII gCatT gCatL
  simp only [asT, asL]
  rw [if_pos hl]
def lDb : Fs := sAsg (f2 gAddU (fVar 4) (fVar 4)) (qName 4)
theorem dbl (j : Nat) : List.replicate (2 ^ j) (PyData.int 1) ++ List.replicate (2 ^ j) (PyData.int 1) = List.replicate (2 ^ (j + 1)) (PyData.int 1) := by
  rw [List.replicate_append_replicate, Nat.pow_succ]
  congr 1
  omega
theorem ws_dbl {s0 s1 s2 s3 : Sl} {k : Dk} {Q : Out → Prop} : ∀ (ts : List DL.D) (j : Nat) (s5 : Sl), j + ts.length ≤ 6 → (∀ s5, Q (.nx [s0, s1, s2, s3, .dat (.list (List.replicate (2 ^ (j + ts.length)) (.int 1))), s5, .un] k)) →
    ws (loopF (qName 5) lDb ts) [s0, s1, s2, s3, .dat (.list (List.replicate (2 ^ j) (.int 1))), s5, .un] k Q
  | [], j, s5, _, r => loop_nil (r s5)
  | t :: ts, j, s5, h, r => by
    refine loop_cons ?_
    rw [List.length_cons] at h r
    unfold lDb
    have pw : 2 ^ j ≤ 2 ^ 6 := Nat.pow_le_pow_right (by decide) (by omega)
    walk_at "vc"
    refine wg_addl' (by rw [List.length_replicate]; omega) (dbl j) ?_
    walk_at "vc"
    refine ws_dbl ts (j + 1) _ (by omega) fun s5 => ?_
    have := r s5
    rw [show j + 1 + ts.length = j + (ts.length + 1) by omega]
    exact this
theorem fnz_in : ∀ {M : List Int} {z : Int}, z ∈ M → z ≠ 0 → fnz M ≠ 0
  | y :: M, z, h, h0 => by
    unfold fnz
    by_cases hy : y = 0
    · rw [if_pos hy]
      rcases List.mem_cons.mp h with rfl | h
      · exact absurd hy h0
      · exact fnz_in h h0
    · rw [if_neg hy]
      exact hy
theorem rel_of {n : Nat} {M : List Int} (lo : 1 ≤ n) (hi : n ≤ 6) (l : M.length = 2 ^ n) (h : shB M = true) : relD (.tuple (M.map PyData.int)) = true := by
  rw [relD_tup, List.length_map, map_all, map_vI, h, l]
  have : n = 1 ∨ n = 2 ∨ n = 3 ∨ n = 4 ∨ n = 5 ∨ n = 6 := by omega
  rcases this with rfl | rfl | rfl | rfl | rfl | rfl <;> decide
theorem sm_sh {n : Nat} {L : List Int} (h : ∀ z ∈ L, Sm n z) (h0 : fnz L ≠ 0) : ∀ z ∈ shD L, Sm n z := fun z hz => by
  obtain ⟨y, hy, le⟩ := sh_small h0 hz
  have := h y hy
  unfold Sm at *
  omega
theorem shB_sh {L : List Int} (h0 : fnz L ≠ 0) : shB (shD L) = true := by
  have h1 := sh_first h0
  have h2 := sh_gcd h0
  have g : gI0 (shD L) = 1 := by unfold gI0; rw [h2]; rfl
  unfold shB
  rw [decide_eq_true h1, g]
  rfl
theorem rl_of {n : Nat} {L : List Int} (lo : 1 ≤ n) (hi : n ≤ 6) (l : L.length = 2 ^ n) (h : ∀ z ∈ L, Sm 7 z) (h0 : fnz L ≠ 0) : ∃ f, (shD L).map PyData.int = tb (2 ^ n) f ∧ Rl n f := by
  have sl : (shD L).length = 2 ^ n := by rw [sh_len]; exact l
  have e := tb_of (shD L)
  rw [sl] at e
  refine ⟨_, e, lo, hi, by rw [← e]; exact rel_of lo hi sl (shB_sh h0), fun j hj => ?_⟩
  have hj : j < (shD L).length := by omega
  have : (shD L).getD j 0 = (shD L)[j] := by simp [List.getD, hj]
  rw [this]
  exact sm_sh h h0 _ (List.getElem_mem hj)
end G
set_option maxHeartbeats 8000000
set_option exponentiation.threshold 3000
namespace G
open PySem PySem.Spec PyProof.Rows L2 DL
def lIx : Fe := (fIf (fTest (fEq (fCall 2 f__law_draw (fCons (fVar 0) (fCons (fVar 3) fNil))) (fC (.int 0)))) (fCall 2 f__law_signed (fCons (fVar 0) (fCons (fVar 2) fNil))) (fC (.int 0)))
def lIf : Fs := (sSeq (sIf (fTest (f2 (gNil false) (fLc (wSeqN (fVar 4)) (qName 6) (fTest (fNe (fVar 6) (fC (.int 0)))) (fVar 6) [6]) (fSeq .list fNil))) (sSetX 4 (fCall 2 f__law_draw (fCons (fVar 0) (fCons (f1 gLen (fVar 4)) fNil))) (fC (.int 1))) sNext)
    (sFrz 4 (sRet (fCall 1 f__law_short (fCons (fVar 4) fNil)))))
def lIt : Fs := (sSeq (sAsg (fSeq .tuple (fCons (fCall 2 f__law_pick (fCons (fVar 0) (fCons (fSeq .list (fCons (fC (.int 2)) (fCons (fC (.int 3)) (fCons (fC (.int 10)) (fCons (fC (.int 1001)) (fCons (fC (.int 1000001)) fNil)))))) fNil))) (fCons (fCall 2 f__law_pick (fCons (fVar 0) (fCons (fSeq .list (fCons (fC (.int 1)) (fCons (fC (.int 2)) (fCons (fC (.int 4)) fNil)))) fNil))) fNil))) (qTup 2 (qCons (qName 2) (qCons (qName 3) qNil))))
    (sSeq (sOwn 4 (fCons (fC (.int 1)) fNil))
    (sSeq (sFor (wRng1 (fCons (fVar 1) fNil)) (qName 5) lDb)
    (sSeq (sOwnLc 4 (wSeq (fVar 4)) (qName 6) fYes lIx [6])
    lIf))))
theorem it_eq : g__law_items = lIt := rfl
theorem setOwn_at {s0 s1 s2 s3 s5 s6 : Sl} {ds : List DL.D} {r : Int} {d : DL.D} (h0 : 0 ≤ r) (h1 : r < ds.length) : setOwn 4 r d [s0, s1, s2, s3, .own ds, s5, s6] = some [s0, s1, s2, s3, .own (ds.set r.toNat d), s5, s6] := by
  unfold setOwn
  have e : ixN ds.length r = some r.toNat := by unfold ixN; rw [if_pos h0, if_pos h1]
  show (ixN ds.length r).map _ = _
  rw [e]
  rfl
theorem ws_if5 {n b : Nat} {L : List Int} {k : Dk} {P : DL.D → Dk → Prop} {s2 s3 s5 : Sl} (lo : 1 ≤ n) (hi : n ≤ 6) (l : L.length = 2 ^ n) (hs : ∀ z ∈ L, Sm 7 z) (h : Ok (b + 1) k)
    (z : ∀ f k', Rl n f → Ok b k' → P (.tuple (tb (2 ^ n) f)) k') : ws lIf [.deck, .dat (.int (n : Int)), s2, s3, .own (L.map PyData.int), s5, .un] k (retQ P) := by
  have pw : 2 ^ n ≤ 2 ^ 6 := Nat.pow_le_pow_right (by decide) hi
  have p0 : 0 < 2 ^ n := Nat.pow_pos (by decide)
  have lm : (L.map PyData.int).length = 2 ^ n := by rw [List.length_map]; exact l
  unfold lIf
  walk_at "vc"
  refine wc_fm (fun z => !(z == 0)) PyData.int L [] (by simp; omega) (fun z hz => ?_) ?_
  · walk_at "vc"
    refine ⟨rfl, rfl, fun _ => ?_⟩
    walk_at "vc"
    exact ⟨rfl, rfl⟩
  have o3 : (([] : List DL.D) ++ (L.filter fun z => !(z == 0)).map PyData.int).isEmpty = decide (fnz L = 0) := by
    rw [List.nil_append, List.isEmpty_map]
    exact nz_empty L
  generalize ([] : List DL.D) ++ (L.filter fun z => !(z == 0)).map PyData.int = fs at o3
  by_cases h0 : fnz L = 0
  · rw [decide_eq_true h0] at o3
    walk_at "vc"
    · refine wf_draw h (by omega) (by omega) (by omega) fun r k1 r0 r1 ok1 => ?_
      walk_at "vc"
      refine ⟨_, setOwn_at r0 r1, ?_⟩
      have e : (L.map PyData.int).set r.toNat (.int 1) = (L.set r.toNat 1).map PyData.int := by rw [List.map_set]
      rw [e]
      have jl : r.toNat < L.length := by omega
      have h0' : fnz (L.set r.toNat 1) ≠ 0 := fnz_in (z := 1) (by
        have := List.getElem_mem (l := L.set r.toNat 1) (n := r.toNat) (by rw [List.length_set]; exact jl)
        rwa [List.getElem_set_self] at this) (by decide)
      have hs' : ∀ z ∈ L.set r.toNat 1, Sm 7 z := fun z hz => by
        rcases List.mem_or_eq_of_mem_set hz with q | rfl
        · exact hs z q
        · exact ⟨by decide, by decide⟩
      have l' : (L.set r.toNat 1).length = 2 ^ n := by rw [List.length_set]; exact l
      obtain ⟨f, ef, R⟩ := rl_of lo hi l' hs' h0'
      walk_at "vc"
      refine wf_lshort (.inl rfl) hs' (by decide) (by omega) h0' ?_
      rw [ef]
      walk_at "vc"
      exact z f _ R (ok1.less (by omega))
    · rename_i q; rw [o3] at q; cases q
  · rw [decide_eq_false h0] at o3
    walk_at "vc"
    · rename_i q; rw [o3] at q; cases q
    · obtain ⟨f, ef, R⟩ := rl_of lo hi l hs h0
      refine wf_lshort (.inl rfl) hs (by decide) (by omega) h0 ?_
      rw [ef]
      walk_at "vc"
      exact z f _ R (h.less (by omega))
theorem rng_cons {n : Nat} (h : 1 ≤ n) : ∃ d ts, rng 0 n = d :: ts ∧ ts.length + 1 = n := by
  obtain ⟨m, rfl⟩ : ∃ m, n = m + 1 := ⟨n - 1, by omega⟩
  unfold rng
  rw [List.range_succ_eq_map, List.map_cons]
  exact ⟨_, _, rfl, by rw [List.length_map, List.length_map, List.length_range]⟩
theorem wf_items {n b : Nat} {k : Dk} {P : DL.D → Dk → Prop} (lo : 1 ≤ n) (hi : n ≤ 6) (h : Ok (b + 195) k)
    (z : ∀ f k', Rl n f → Ok b k' → P (.tuple (tb (2 ^ n) f)) k') : wf f__law_items [.deck, .dat (.int (n : Int))] k P := by
  refine wf_fn (e := [.deck, .dat (.int (n : Int)), .un, .un, .un, .un, .un]) rfl ?_
  rw [it_eq]
  unfold lIt
  have pw : 2 ^ n ≤ 2 ^ 6 := Nat.pow_le_pow_right (by decide) hi
  walk_at "vc"
  refine wf_picki 2 1000001 (ds := [.int 2, .int 3, .int 10, .int 1001, .int 1000001]) rfl (by decide) (by decide) (by decide) h (by omega) fun lim k1 l0 l1 ok1 => ?_
  walk_at "vc"
  refine wf_picki 1 4 (ds := [.int 1, .int 2, .int 4]) rfl (by decide) (by decide) (by decide) ok1 (by omega) fun sh k2 s0 s1 ok2 => ?_
  walk_at "vc"
  rw [Int.toNat_natCast]
  obtain ⟨d, ts, e, tl⟩ := rng_cons lo
  rw [e]
  refine loop_cons ?_
  unfold lDb
  walk_at "vc"
  refine wg_addo (by decide) ?_
  walk_at "vc"
  have d0 := ws_dbl (s0 := .deck) (s1 := .dat (.int (n : Int))) (s2 := .dat (.int lim)) (s3 := .dat (.int sh)) (k := k2) (Q := thenS (sSeq (sOwnLc 4 (wSeq (fVar 4)) (qName 6) fYes lIx [6]) lIf) (retQ P)) ts 1 (.dat d) (by omega) (fun s5 => ?_)
  · exact d0
  rw [show 1 + ts.length = n by omega]
  walk_at "vc"
  refine wc_inv (fun ds acc k => ∃ L : List Int, acc = L.map PyData.int ∧ (∀ z ∈ L, Sm 7 z) ∧ L.length + ds.length = 2 ^ n ∧ Ok (b + 1 + 3 * ds.length) k) (fun d ds acc k ⟨L, e, hs, hl, ok⟩ => ?_) (fun acc k ⟨L, e, hs, hl, ok⟩ => ?_) _ _ _ ⟨[], rfl, fun z hz => (nomatch hz), by rw [List.length_replicate]; simp, ok2.less (by rw [List.length_replicate]; omega)⟩
  · subst e
    rw [List.length_cons] at hl ok
    have hlen : (L.map PyData.int).length < 1000000 := by rw [List.length_map]; omega
    have nxt : ∀ (x : Int) k', Sm 7 x → Ok (b + 1 + 3 * ds.length) k' → ∃ M : List Int, L.map PyData.int ++ [PyData.int x] = M.map PyData.int ∧ (∀ z ∈ M, Sm 7 z) ∧ M.length + ds.length = 2 ^ n ∧ Ok (b + 1 + 3 * ds.length) k' := fun x k' sx ok' =>
      ⟨L ++ [x], by rw [List.map_append]; rfl, fun z hz => by
        rcases List.mem_append.mp hz with q | q
        · exact hs z q
        · rw [List.mem_singleton.mp q]; exact sx, by rw [List.length_append, List.length_singleton]; omega, ok'⟩
    unfold lIx
    walk_at "vc"
    refine wf_draw ok (by omega) (by omega) (by omega) fun r k1 r0 r1 ok1 => ?_
    walk_at "vc"
    · refine wf_signed ok1 (by omega) (by omega) (by omega) fun x k2 x0 x1 ok2 => ?_
      walk_at "vc"
      exact nxt x _ ⟨by omega, by omega⟩ (ok2.less (by omega))
    · exact nxt 0 _ ⟨by decide, by decide⟩ (ok1.less (by omega))
  · subst e
    walk_at "vc"
    exact ws_if5 lo hi (by simpa using hl) hs (ok.less (by omega)) z
end G
set_option maxHeartbeats 8000000
set_option exponentiation.threshold 3000
namespace G
open PySem PySem.Spec PyProof.Rows L2 DL
/-! ### values that are bent -/
def Itm (x : DL.D) : Prop := Sh 1 60 x ∧ ∀ z, x = .int z → Sm 60 z
def Bi (d : DL.D) : Prop := Sh 3 9000 d ∧ ∀ ds, d = .tuple ds → ∀ z, PyData.int z ∈ ds → Sm 60 z
theorem bi_tup {ds : List DL.D} (h : ∀ x ∈ ds, Itm x) (l : ds.length ≤ 130) : Bi (.tuple ds) :=
  ⟨(sh_tup (fun x hx => (h x hx).1) l).le (by decide) (by decide), fun es e z hz => by cases e; exact (h _ hz).2 z rfl⟩
theorem bi_lst {ds : List DL.D} (h : ∀ x ∈ ds, Itm x) (l : ds.length ≤ 130) : Bi (.list ds) :=
  ⟨(sh_lst (fun x hx => (h x hx).1) l).le (by decide) (by decide), fun es e => nomatch e⟩
theorem bi_of {m n : Nat} {d : DL.D} (h : Sh m n d) (h1 : m ≤ 3) (h2 : n ≤ 9000) (nt : ∀ ds, d ≠ .tuple ds) : Bi d := ⟨h.le h1 h2, fun ds e => absurd e (nt ds)⟩
theorem sm_abs {n : Nat} {z : Int} (h : Sm n z) : z.natAbs < 10 ^ n := by
  have p := ten_pos n
  have e : ((10 ^ n : Nat) : Int) = (10 : Int) ^ n := by norm_cast
  unfold Sm at h
  omega
theorem itm_int {z : Int} (h : Sm 50 z) : Itm (.int z) := ⟨(sh_int (k := 50) (sm_abs h) (by decide) (by decide)).le (by decide) (by decide), fun y e => by cases e; exact h.mono (by decide)⟩
theorem itm_bool (b : Bool) : Itm (.bool b) := ⟨(sh_bool b).le (by decide) (by decide), fun y e => nomatch e⟩
theorem itm_none : Itm .none := ⟨sh_none.le (by decide) (by decide), fun y e => nomatch e⟩
theorem itm_str (s : String) (l : s.length ≤ 5) : Itm (.str (Str.ofString s)) := ⟨(sh_lit s l).le (by decide) (by decide), fun y e => nomatch e⟩
theorem itm_dict : Itm (.dict []) := ⟨sh_dict0.le (by decide) (by decide), fun y e => nomatch e⟩
theorem itm_tup0 : Itm (.tuple []) := ⟨(sh_tup (m := 0) (n := 0) (l := 0) (xs := []) (List.forall_mem_nil _) (by simp)).le (by decide) (by decide), fun y e => nomatch e⟩
theorem itm_tup1 : Itm (.tuple [.int 1]) := ⟨(sh_tup (m := 0) (n := 3) (l := 1) (xs := [.int 1]) (List.forall_mem_cons.mpr ⟨sh_int (k := 2) (by decide) (by decide) (by decide), List.forall_mem_nil _⟩) (by simp)).le (by decide) (by decide), fun y e => nomatch e⟩
theorem itm_lst1 : Itm (.list [.int 1]) := ⟨(sh_lst (m := 0) (n := 3) (l := 1) (xs := [.int 1]) (List.forall_mem_cons.mpr ⟨sh_int (k := 2) (by decide) (by decide) (by decide), List.forall_mem_nil _⟩) (by simp)).le (by decide) (by decide), fun y e => nomatch e⟩
theorem mem_cut {x : DL.D} {ds : List DL.D} {lo hi : Option Int} (h : x ∈ DL.cutD ds lo hi) : x ∈ ds := List.mem_of_mem_drop (List.mem_of_mem_take h)
theorem len_cut (ds : List DL.D) (lo hi : Option Int) : (DL.cutD ds lo hi).length ≤ ds.length := by
  unfold DL.cutD
  rw [List.length_take, List.length_drop]
  omega
theorem tb_mem {x : DL.D} {n : Nat} {f : Nat → Int} (h : x ∈ tb n f) : ∃ j, j < n ∧ x = .int (f j) := by
  unfold tb at h
  obtain ⟨j, hj, rfl⟩ := List.mem_map.mp h
  exact ⟨j, List.mem_range.mp hj, rfl⟩
def lOdd : List DL.D := [.bool true, .bool false, .none, .str "1", .tuple [.int 1], .list [.int 1], .int (10 ^ 39), .str "", .dict [], .tuple [], .int 0, .int (-1), .int 2]
theorem odd_ok : ∀ x ∈ lOdd, Itm x := by
  unfold lOdd
  refine List.forall_mem_cons.mpr ⟨itm_bool _, List.forall_mem_cons.mpr ⟨itm_bool _, List.forall_mem_cons.mpr ⟨itm_none, List.forall_mem_cons.mpr ⟨itm_str "1" (by decide), List.forall_mem_cons.mpr ⟨itm_tup1, List.forall_mem_cons.mpr ⟨itm_lst1, List.forall_mem_cons.mpr ⟨itm_int (by constructor <;> decide), List.forall_mem_cons.mpr ⟨itm_str "" (by decide), List.forall_mem_cons.mpr ⟨itm_dict, List.forall_mem_cons.mpr ⟨itm_tup0, List.forall_mem_cons.mpr ⟨itm_int (by constructor <;> decide), List.forall_mem_cons.mpr ⟨itm_int (by constructor <;> decide), List.forall_mem_cons.mpr ⟨itm_int (by constructor <;> decide), List.forall_mem_nil _⟩⟩⟩⟩⟩⟩⟩⟩⟩⟩⟩⟩⟩
theorem wf_bi {n b : Nat} {f : Nat → Int} {k : Dk} {P : DL.D → Dk → Prop} (R : Rl n f) (h : Ok (b + 3) k) (z : ∀ d k', Bi d → Ok b k' → P d k') : wf f__law_bent_items [.deck, .dat (.tuple (tb (2 ^ n) f))] k P := by
  refine wf_fn (e := [.deck, .dat (.tuple (tb (2 ^ n) f)), .un, .un, .un, .un, .un]) rfl ?_
  unfold g__law_bent_items
  have pw : 2 ^ n ≤ 2 ^ 6 := Nat.pow_le_pow_right (by decide) R.hi
  have p0 : 2 ^ 1 ≤ 2 ^ n := Nat.pow_le_pow_right (by decide) R.lo
  have sm := R.sm
  generalize 2 ^ n = N at *
  have tl : (tb N f).length = N := tb_len ..
  have ti : ∀ x ∈ tb N f, Itm x := fun x hx => by
    obtain ⟨j, hj, rfl⟩ := tb_mem hx
    exact itm_int ((sm j hj).mono (by decide))
  walk_at "vc"
  refine wf_draw h (by omega) (by omega) (by omega) fun w k1 w0 w1 ok1 => ?_
  walk_at "vc"
  refine wf_draw ok1 (by omega) (by omega) (by omega) fun r k2 r0 r1 ok2 => ?_
  obtain ⟨X, eX⟩ : ∃ X, DL.cutD (tb N f) none (some r) = X := ⟨_, rfl⟩
  obtain ⟨Y, eY⟩ : ∃ Y, DL.cutD (tb N f) (some (r + 1)) none = Y := ⟨_, rfl⟩
  obtain ⟨X1, eX1⟩ : ∃ Y, DL.cutD (tb N f) none (some (-1)) = Y := ⟨_, rfl⟩
  obtain ⟨Y1, eY1⟩ : ∃ Y, DL.cutD (tb N f) (some 1) none = Y := ⟨_, rfl⟩
  have lX : X.length ≤ N := by rw [← eX]; exact Nat.le_trans (len_cut ..) (by omega)
  have lY : Y.length ≤ N := by rw [← eY]; exact Nat.le_trans (len_cut ..) (by omega)
  have lX1 : X1.length ≤ N := by rw [← eX1]; exact Nat.le_trans (len_cut ..) (by omega)
  have lY1 : Y1.length ≤ N := by rw [← eY1]; exact Nat.le_trans (len_cut ..) (by omega)
  have i1 : Itm (.int 1) := itm_int (by constructor <;> decide)
  have i0 : Itm (.int 0) := itm_int (by constructor <;> decide)
  have la : (tb N f).length + (tb N f).length ≤ 1000000 := by omega
  have s64 : Sh 1 643 (.tuple (tb N f)) := sh_tup (m := 0) (n := 8) (l := 64) (fun x hx => by
    obtain ⟨j, hj, rfl⟩ := tb_mem hx
    exact sh_int (k := 7) (sm_abs (sm j hj)) (by decide) (by decide)) (by omega)
  have sg : okShow (.tuple (tb N f)) = true := s64.show (by decide) (by decide)
  walk_at "vc"
  · refine wf_pick (some_ := .list lOdd) (ds := lOdd) rfl (by decide) (by decide) ok2 (by omega) fun x k3 hx ok3 => ?_
    walk_at "vc"
    refine z _ _ (bi_tup (fun y hy => ?_) ?_) (ok3.less (by omega))
    · rcases List.mem_append.mp hy with q | q
      · rcases List.mem_append.mp q with q | q
        · exact ti _ (mem_cut (eX ▸ q))
        · rw [List.mem_singleton.mp q]; exact odd_ok x hx
      · exact ti _ (mem_cut (eY ▸ q))
    · rw [List.length_append, List.length_append, List.length_singleton]; omega
  · exact z _ _ (bi_lst ti (by omega)) (ok2.less (by omega))
  · refine wc_tb f (fun _ => true) (fun j => .int (0 - f j)) N (by omega) (fun j hj => ?_) ?_
    · walk_at "vc"
      refine ⟨rfl, rfl, fun _ => ?_⟩
      walk_at "vc"
      exact ⟨rfl, rfl⟩
    rw [List.filter_eq_self.mpr (fun _ _ => rfl)]
    walk_at "vc"
    refine z _ _ (bi_tup (fun y hy => ?_) (by rw [List.length_map, List.length_range]; omega)) (ok2.less (by omega))
    obtain ⟨j, hj, rfl⟩ := List.mem_map.mp hy
    have := sm j (List.mem_range.mp hj)
    exact itm_int (Sm.mono (n := 7) (by unfold Sm at *; omega) (by decide))
  · refine wc_tb f (fun _ => true) (fun j => .int (2 * f j)) N (by omega) (fun j hj => ?_) ?_
    · have c2 : cMul 2 (f j) = true := Sm.cm (n := 1) (m := 7) (by constructor <;> decide) (sm j hj) (by decide) (by decide)
      walk_at "vc"
      refine ⟨rfl, rfl, fun _ => ?_⟩
      walk_at "vc"
      exact ⟨rfl, rfl⟩
    rw [List.filter_eq_self.mpr (fun _ _ => rfl)]
    walk_at "vc"
    refine z _ _ (bi_tup (fun y hy => ?_) (by rw [List.length_map, List.length_range]; omega)) (ok2.less (by omega))
    obtain ⟨j, hj, rfl⟩ := List.mem_map.mp hy
    have := sm j (List.mem_range.mp hj)
    exact itm_int (Sm.mono (n := 8) (by unfold Sm at *; omega) (by decide))
  · refine wf_pick rfl (by simp) (by simp) ok2 (by omega) fun x k3 hx ok3 => ?_
    walk_at "vc"
    refine z _ _ ?_ (ok3.less (by omega))
    simp only [List.mem_cons, List.not_mem_nil, or_false] at hx
    rcases hx with rfl | rfl | rfl | rfl | rfl | rfl
    · exact bi_tup (fun y hy => ti _ (mem_cut (eX1 ▸ hy))) (by omega)
    · refine bi_tup (fun y hy => ?_) (by rw [List.length_append, List.length_singleton]; omega)
      rcases List.mem_append.mp hy with q | q
      · exact ti _ q
      · rw [List.mem_singleton.mp q]; exact i0
    · exact bi_tup (fun y hy => ti _ (mem_cut (eY1 ▸ hy))) (by omega)
    · refine bi_tup (fun y hy => ?_) (by rw [List.length_append]; omega)
      rcases List.mem_append.mp hy with q | q
      · exact ti _ q
      · exact ti _ q
    · refine bi_tup (fun y hy => ?_) (by rw [List.length_replicate]; omega)
      rw [List.eq_of_mem_replicate hy]
      exact i0
    · exact bi_tup (fun y hy => ti _ (List.mem_reverse.mp hy)) (by rw [List.length_reverse]; omega)
  · refine wf_pick rfl (by simp) (by simp) ok2 (by omega) fun x k3 hx ok3 => ?_
    walk_at "vc"
    refine z _ _ ?_ (ok3.less (by omega))
    clear eX eY eX1 eY1
    simp only [List.mem_cons, List.not_mem_nil, or_false] at hx
    rcases hx with rfl | rfl | rfl | rfl | rfl | rfl | rfl | rfl | rfl | rfl | rfl | rfl | rfl | rfl | rfl | rfl | rfl | rfl | rfl
    · exact bi_of sh_none (by decide) (by decide) fun _ e => nomatch e
    · exact bi_tup (List.forall_mem_nil _) (by decide)
    · exact bi_of i0.1 (by decide) (by decide) fun _ e => nomatch e
    · exact bi_of (sh_lit "" (n := 5) (by decide)) (by decide) (by decide) fun _ e => nomatch e
    · exact bi_of (sh_str (sc_tup fun x hx => by
        obtain ⟨j, hj, rfl⟩ := tb_mem hx
        exact sc_int _) s64.ln) (by decide) (by decide) fun _ e => nomatch e
    · exact bi_of sh_dict0 (by decide) (by decide) fun _ e => nomatch e
    · exact bi_of (sh_bool _) (by decide) (by decide) fun _ e => nomatch e
    · exact bi_lst (List.forall_mem_nil _) (by decide)
    · exact bi_tup (List.forall_mem_cons.mpr ⟨i1, List.forall_mem_nil _⟩) (by decide)
    · exact ⟨(sh_tup (l := 1) (List.forall_mem_cons.mpr ⟨s64, List.forall_mem_nil _⟩) (by simp)).le (by decide) (by decide), fun es e y hy => by cases e; simp at hy⟩
    · exact bi_tup (List.forall_mem_cons.mpr ⟨i1, List.forall_mem_cons.mpr ⟨i0, List.forall_mem_cons.mpr ⟨i0, List.forall_mem_nil _⟩⟩⟩) (by decide)
    · exact bi_tup (List.forall_mem_cons.mpr ⟨i0, List.forall_mem_cons.mpr ⟨i0, List.forall_mem_nil _⟩⟩) (by decide)
    · refine bi_tup (List.forall_mem_cons.mpr ⟨i1, fun y hy => ?_⟩) (by decide)
      rw [List.eq_of_mem_replicate hy]
      exact i0
    · exact bi_tup (List.forall_mem_cons.mpr ⟨itm_none, List.forall_mem_cons.mpr ⟨itm_none, List.forall_mem_nil _⟩⟩) (by decide)
    · exact bi_tup (List.forall_mem_cons.mpr ⟨itm_bool _, List.forall_mem_cons.mpr ⟨itm_bool _, List.forall_mem_nil _⟩⟩) (by decide)
    · exact bi_tup (List.forall_mem_cons.mpr ⟨i0, List.forall_mem_cons.mpr ⟨itm_int (by constructor <;> decide), List.forall_mem_nil _⟩⟩) (by decide)
    · exact bi_tup (List.forall_mem_cons.mpr ⟨i0, List.forall_mem_cons.mpr ⟨i1, List.forall_mem_nil _⟩⟩) (by decide)
    · exact bi_tup (List.forall_mem_cons.mpr ⟨itm_int (by constructor <;> decide), List.forall_mem_cons.mpr ⟨itm_int (by constructor <;> decide), List.forall_mem_nil _⟩⟩) (by decide)
    · exact bi_tup (List.forall_mem_cons.mpr ⟨itm_int (by constructor <;> decide), List.forall_mem_cons.mpr ⟨i1, List.forall_mem_nil _⟩⟩) (by decide)
/-! ### places that are bent -/
def Sp (x : DL.D) : Prop := Sh 3 130 x
def Bp (d : DL.D) : Prop := Sh 4 3000 d
theorem sp_tup {ds : List DL.D} (h : ∀ x ∈ ds, Sh 2 55 x) (l : ds.length ≤ 2) : Sp (.tuple ds) := (sh_tup h l).le (by decide) (by decide)
theorem bp_tup {ds : List DL.D} (h : ∀ x ∈ ds, Sp x) (l : ds.length ≤ 13) : Bp (.tuple ds) := (sh_tup (fun x hx => h x hx) l).le (by decide) (by decide)
theorem bp_lst {ds : List DL.D} (h : ∀ x ∈ ds, Sp x) (l : ds.length ≤ 13) : Bp (.list ds) := (sh_lst (fun x hx => h x hx) l).le (by decide) (by decide)
theorem sh_pl {a b : Int} (ha : Sm 11 a) (hb : Sm 11 b) : Sh 1 31 (.tuple [.int a, .int b]) :=
  (sh_tup (m := 0) (n := 12) (l := 2) (List.forall_mem_cons.mpr ⟨sh_int (sm_abs ha) (by decide) (by decide), List.forall_mem_cons.mpr ⟨sh_int (sm_abs hb) (by decide) (by decide), List.forall_mem_nil _⟩⟩) (by simp)).le (by decide) (by decide)
theorem sp_pD {p : Int × Int} (h : Sm 10 p.1 ∧ Sm 10 p.2) : Sp (pD p) := (sh_pl (h.1.mono (by decide)) (h.2.mono (by decide))).le (by decide) (by decide)
theorem wf_bp {n b : Nat} {ps : List (Int × Int)} {k : Dk} {P : DL.D → Dk → Prop} (lo : 1 ≤ n) (hi : n ≤ 6) (S : Ps n ps) (h : Ok (b + 3) k) (z : ∀ d k', Bp d → Ok b k' → P d k') : wf f__law_bent_places [.deck, .dat (.tuple (ps.map pD))] k P := by
  refine wf_fn (e := [.deck, .dat (.tuple (ps.map pD)), .un, .un, .un, .un, .un]) rfl ?_
  unfold g__law_bent_places
  have tl : (ps.map pD).length = n := by rw [List.length_map]; exact S.ln
  have ti : ∀ x ∈ ps.map pD, Sp x := fun x hx => by
    obtain ⟨p, hp, rfl⟩ := List.mem_map.mp hx
    exact sp_pD (S.sm p hp)
  have s64 : Sh 2 202 (.tuple (ps.map pD)) := (sh_tup (m := 1) (n := 31) (l := 6) (fun x hx => by
    obtain ⟨p, hp, rfl⟩ := List.mem_map.mp hx
    have := S.sm p hp
    exact sh_pl (this.1.mono (by decide)) (this.2.mono (by decide))) (by omega)).le (by decide) (by decide)
  have sg : okShow (.tuple (ps.map pD)) = true := s64.show (by decide) (by decide)
  have sc0 : Sc (PyData.tuple (ps.map pD)).shown := sc_tup fun x hx => by
    obtain ⟨p, hp, rfl⟩ := List.mem_map.mp hx
    exact sc_tup fun x hx => by
      simp only [List.mem_cons, List.not_mem_nil, or_false] at hx
      rcases hx with rfl | rfl <;> exact sc_int _
  have ea : ∀ r : Int, 0 ≤ r → r < n → ∃ a b, atI (ps.map pD) r = some (.tuple [.int a, .int b]) ∧ Sm 10 a ∧ Sm 10 b := fun r r0 r1 => by
    have l := S.ln
    have hr : r.toNat < ps.length := by omega
    refine ⟨(ps[r.toNat]).1, (ps[r.toNat]).2, vAtL r0 ?_, S.sm _ (List.getElem_mem hr)⟩
    rw [List.getElem?_map, List.getElem?_eq_getElem hr]
    rfl
  generalize ps.map pD = ds at *
  have la : ds.length + ds.length ≤ 1000000 := by omega
  walk_at "vc"
  refine wf_draw h (by omega) (by omega) (by omega) fun w k1 w0 w1 ok1 => ?_
  walk_at "vc"
  refine wf_draw ok1 (by omega) (by omega) (by omega) fun r k2 r0 r1 ok2 => ?_
  obtain ⟨X, eX⟩ : ∃ X, DL.cutD ds none (some r) = X := ⟨_, rfl⟩
  obtain ⟨Y, eY⟩ : ∃ Y, DL.cutD ds (some (r + 1)) none = Y := ⟨_, rfl⟩
  obtain ⟨X1, eX1⟩ : ∃ Y, DL.cutD ds none (some (-1)) = Y := ⟨_, rfl⟩
  obtain ⟨Y1, eY1⟩ : ∃ Y, DL.cutD ds none (some 1) = Y := ⟨_, rfl⟩
  have lX : X.length ≤ n := by rw [← eX]; exact Nat.le_trans (len_cut ..) (by omega)
  have lY : Y.length ≤ n := by rw [← eY]; exact Nat.le_trans (len_cut ..) (by omega)
  have lX1 : X1.length ≤ n := by rw [← eX1]; exact Nat.le_trans (len_cut ..) (by omega)
  have lY1 : Y1.length ≤ n := by rw [← eY1]; exact Nat.le_trans (len_cut ..) (by omega)
  have lb : ds.length + Y1.length ≤ 1000000 := by omega
  obtain ⟨p, q, a1, sp, sq⟩ := ea r r0 (by omega)
  obtain ⟨p', q', a0, sp', sq'⟩ := ea 0 (by decide) (by omega)
  have c1 : cMul 2 p = true := Sm.cm (n := 1) (m := 10) (by constructor <;> decide) sp (by decide) (by decide)
  have c2 : cMul 2 q = true := Sm.cm (n := 1) (m := 10) (by constructor <;> decide) sq (by decide) (by decide)
  walk_at "vc"
  · refine wf_pick rfl (by simp) (by simp) ok2 (by omega) fun x k3 hx ok3 => ?_
    walk_at "vc"
    refine z _ _ (bp_tup (fun y hy => ?_) (by rw [List.length_append, List.length_append, List.length_singleton]; omega)) (ok3.less (by omega))
    rcases List.mem_append.mp hy with u | u
    · rcases List.mem_append.mp u with u | u
      · exact ti _ (mem_cut (eX ▸ u))
      · rw [List.mem_singleton.mp u]
        have ip : Sh 2 55 (.int p) := (sh_int (k := 11) (sm_abs (sp.mono (by decide))) (by decide) (by decide)).le (by decide) (by decide)
        have iq : Sh 2 55 (.int q) := (sh_int (k := 11) (sm_abs (sq.mono (by decide))) (by decide) (by decide)).le (by decide) (by decide)
        have ic : ∀ c : Int, c.natAbs < 10 ^ 2 → Sh 2 55 (.int c) := fun c hc => (sh_int (k := 2) hc (by decide) (by decide)).le (by decide) (by decide)
        have ib : ∀ c : Bool, Sh 2 55 (.bool c) := fun c => (sh_bool c).le (by decide) (by decide)
        have two : ∀ {c d : DL.D}, Sh 2 55 c → Sh 2 55 d → Sp (.tuple [c, d]) := fun hc hd => sp_tup (List.forall_mem_cons.mpr ⟨hc, List.forall_mem_cons.mpr ⟨hd, List.forall_mem_nil _⟩⟩) (by simp)
        have d2 : ∀ {c : Int}, Sm 10 c → Sm 11 (2 * c) := fun hc => by unfold Sm at *; omega
        clear eX eY eX1 eY1
        simp only [List.mem_cons, List.not_mem_nil, or_false] at hx
        rcases hx with rfl | rfl | rfl | rfl | rfl | rfl | rfl | rfl | rfl | rfl | rfl | rfl | rfl | rfl | rfl | rfl
        · exact sh_none.le (by decide) (by decide)
        · exact sp_tup (List.forall_mem_nil _) (by decide)
        · exact (ic 0 (by decide)).le (by decide) (by decide)
        · exact (sh_lit "" (n := 5) (by decide)).le (by decide) (by decide)
        · exact (sh_lst (l := 2) (List.forall_mem_cons.mpr ⟨ip, List.forall_mem_cons.mpr ⟨iq, List.forall_mem_nil _⟩⟩) (by simp)).le (by decide) (by decide)
        · exact sp_tup (List.forall_mem_cons.mpr ⟨ip, List.forall_mem_nil _⟩) (by simp)
        · exact (sh_tup (m := 0) (n := 12) (l := 3) (List.forall_mem_cons.mpr ⟨sh_int (sm_abs (sp.mono (by decide))) (by decide) (by decide), List.forall_mem_cons.mpr ⟨sh_int (sm_abs (sq.mono (by decide))) (by decide) (by decide), List.forall_mem_cons.mpr ⟨sh_int (k := 11) (by decide) (by decide) (by decide), List.forall_mem_nil _⟩⟩⟩) (by simp)).le (by decide) (by decide)
        · exact two (ic _ (by decide)) (ic _ (by decide))
        · exact two (ic _ (by decide)) (ic _ (by decide))
        · exact two (ic _ (by decide)) (ic _ (by decide))
        · exact two (ic _ (by decide)) (ic _ (by decide))
        · exact two (ic _ (by decide)) (ic _ (by decide))
        · exact two (ib _) (ic _ (by decide))
        · exact two (ic _ (by decide)) (ib _)
        · exact (sh_pl (d2 sp) (d2 sq)).le (by decide) (by decide)
        · exact sp_tup (List.forall_mem_cons.mpr ⟨(sh_pl (sp.mono (by decide)) (sq.mono (by decide))).le (by decide) (by decide), List.forall_mem_nil _⟩) (by simp)
    · exact ti _ (mem_cut (eY ▸ u))
  · exact z _ _ (bp_lst ti (by omega)) (ok2.less (by omega))
  · refine wf_pick rfl (by simp) (by simp) ok2 (by omega) fun x k3 hx ok3 => ?_
    walk_at "vc"
    refine z _ _ ?_ (ok3.less (by omega))
    simp only [List.mem_cons, List.not_mem_nil, or_false] at hx
    rcases hx with rfl | rfl | rfl | rfl
    · exact bp_tup (fun y hy => ti _ (mem_cut (eX1 ▸ hy))) (by omega)
    · refine bp_tup (fun y hy => ?_) (by rw [List.length_append]; omega)
      rcases List.mem_append.mp hy with u | u
      · exact ti _ u
      · exact ti _ (mem_cut (eY1 ▸ u))
    · refine bp_tup (fun y hy => ?_) (by rw [List.length_append]; omega)
      rcases List.mem_append.mp hy with u | u
      · exact ti _ u
      · exact ti _ u
    · exact bp_tup (List.forall_mem_nil _) (by decide)
  · refine wf_pick rfl (by simp) (by simp) ok2 (by omega) fun x k3 hx ok3 => ?_
    walk_at "vc"
    refine z _ _ ?_ (ok3.less (by omega))
    simp only [List.mem_cons, List.not_mem_nil, or_false] at hx
    rcases hx with rfl | rfl | rfl | rfl | rfl | rfl | rfl | rfl | rfl | rfl
    · exact sh_none.le (by decide) (by decide)
    · exact (sh_int (k := 2) (by decide) (by decide) (by decide)).le (by decide) (by decide)
    · exact (sh_lit "" (n := 5) (by decide)).le (by decide) (by decide)
    · exact sh_dict0.le (by decide) (by decide)
    · exact (sh_bool _).le (by decide) (by decide)
    · exact bp_lst (List.forall_mem_nil _) (by decide)
    · refine bp_tup (fun y hy => ?_) (by rw [List.length_replicate]; omega)
      rw [List.eq_of_mem_replicate hy]
      exact sh_none.le (by decide) (by decide)
    · exact (sh_tup (l := 1) (List.forall_mem_cons.mpr ⟨s64, List.forall_mem_nil _⟩) (by simp)).le (by decide) (by decide)
    · exact (sh_str sc0 s64.ln).le (by decide) (by decide)
    · exact (sh_pl (sp'.mono (by decide)) (sq'.mono (by decide))).le (by decide) (by decide)
end G
set_option maxHeartbeats 16000000
set_option exponentiation.threshold 3000
namespace G
open PySem PySem.Spec PyProof.Rows L2 DL
def lRel : Fs := (sSeq (sAsg (fSeq .tuple (fCons (fC (.str "relation")) (fCons (fVar 11) (fCons (fC (.bool true)) fNil)))) (qName 14))
    (sSeq (sIf (tAndF (tNotF (fTest (fVar 13))) (fTest (f2 (gEqS true) (f1 gRepr (fLc (wRng1 (fCons (fC (.int 4)) fNil)) (qName 15) fYes (fCall 3 f__law_told (fCons (fVar 15) (fCons (fVar 11) (fCons (fVar 12) fNil)))) [15])) (f1 gRepr (f2 gMulU (fSeq .list (fCons (fVar 14) fNil)) (fC (.int 4))))))) (sRet (fC (.bool false))) sNext)
    (sIf (tAndF (tNotF (fTest (fVar 13))) (fTest (f2 (gEqS true) (f1 gRepr (fLc (wSeq (fSeq .tuple (fCons (fC (.int 0)) (fCons (fC (.int 3)) fNil)))) (qName 15) fYes (fCall 3 f__law_told (fCons (fVar 15) (fCons (fVar 11) (fCons (fVar 5) fNil)))) [15])) (f1 gRepr (f2 gMulU (fSeq .list (fCons (fVar 14) fNil)) (fC (.int 2))))))) (sRet (fC (.bool false))) sNext)))
def lPls : Fs := (sSeq (sAsg (fSeq .tuple (fCons (fC (.str "places")) (fCons (fVar 12) (fCons (fC (.bool true)) fNil)))) (qName 14))
    (sSeq (sIf (tAndF (tNotF (fTest (fCall 2 f__law_are_places (fCons (fVar 2) (fCons (fVar 12) fNil))))) (fTest (f2 (gEqS true) (f1 gRepr (fLc (wRng1 (fCons (fC (.int 4)) fNil)) (qName 15) fYes (fCall 3 f__law_told (fCons (fVar 15) (fCons (fVar 4) (fCons (fVar 12) fNil)))) [15])) (f1 gRepr (f2 gMulU (fSeq .list (fCons (fVar 14) fNil)) (fC (.int 4))))))) (sRet (fC (.bool false))) sNext)
    lRel))
def lBody : Fs := (sSeq (sAsg (fSeq .tuple (fCons (fCall 2 f__law_bent_items (fCons (fVar 1) (fCons (fVar 4) fNil))) (fCons (fCall 2 f__law_bent_places (fCons (fVar 1) (fCons (fVar 5) fNil))) fNil))) (qTup 2 (qCons (qName 11) (qCons (qName 12) qNil))))
    (sSeq (sAsg (fCall 1 f__law_is_relation (fCons (fVar 11) fNil)) (qName 13))
    (sSeq (sIf (fTest (f2 (gEqS true) (f1 gRepr (fSeq .list (fCons (fCall 1 f_is_relation (fCons (fVar 11) fNil)) (fCons (fCallK 1 f_is_relation id (fCons (fVar 11) fNil)) fNil)))) (f1 gRepr (fSeq .list (fCons (fVar 13) (fCons (fVar 13) fNil)))))) (sRet (fC (.bool false))) sNext)
    lPls)))
def lLoop : Fs := (sSeq (sFor (wRng1 (fCons (fC (.int 3)) fNil)) (qName 3) lBody)
    (sRet (fC (.bool true))))
def lRest : Fs := (sSeq (sAsg (fCall 2 f__law_draw (fCons (fVar 1) (fCons (fVar 2) fNil))) (qName 8))
    (sSeq (sPar 9 10 (fCons (f2 gAddU (f2 gAddU (fSlU (fVar 5) fNoPart (fPart (fVar 8))) (fSeq .tuple (fCons (fSeq .tuple (fCons (fC (.int 1)) (fCons (fC (.int 0)) fNil))) fNil))) (fSlU (fVar 5) (fPart (f2 gAddU (fVar 8) (fC (.int 1)))) fNoPart)) (fCons (f2 gAddU (f2 gAddU (fSlU (fVar 5) fNoPart (fPart (fVar 8))) (fSeq .tuple (fCons (fSeq .tuple (fCons (fC (.int 0)) (fCons (fC (.int 1)) fNil))) fNil))) (fSlU (fVar 5) (fPart (f2 gAddU (fVar 8) (fC (.int 1)))) fNoPart)) fNil)))
    (sSeq (sIf (fTest (fNe (f2 gAddU (f2 gMulU (fCall 2 f_value (fCons (fVar 4) (fCons (fVar 9) fNil))) (fIx (fIx (fVar 5) (fVar 8)) (fC (.int 0)))) (f2 gMulU (fCall 2 f_value (fCons (fVar 4) (fCons (fVar 10) fNil))) (fIx (fIx (fVar 5) (fVar 8)) (fC (.int 1))))) (fVar 6))) (sRet (fC (.bool false))) sNext)
    lLoop)))
def lLaw : Fs := (sSeq (sAsg (fCall 2 f__law_pick (fCons (fVar 1) (fCons (fSeq .list (fCons (fC (.int 3)) (fCons (fC (.int 2)) (fCons (fC (.int 4)) (fCons (fC (.int 1)) (fCons (fC (.int 5)) (fCons (fC (.int 6)) fNil))))))) fNil))) (qName 2))
    (sSeq (sAsg (fSeq .tuple (fCons (fCall 2 f__law_items (fCons (fVar 1) (fCons (fVar 2) fNil))) (fCons (f1 gTupOf (fLc (wRng1 (fCons (fVar 2) fNil)) (qName 3) fYes (fCall 1 f__law_drawn_place (fCons (fVar 1) fNil)) [3])) fNil))) (qTup 2 (qCons (qName 4) (qCons (qName 5) qNil))))
    (sSeq (sAsg (fCall 2 f__law_value (fCons (fVar 4) (fCons (fVar 5) fNil))) (qName 6))
    (sSeq (sAsg (fLc (wRng1 (fCons (fC (.int 4)) fNil)) (qName 15) fYes (fCall 3 f__law_told (fCons (fVar 15) (fCons (fVar 4) (fCons (fVar 5) fNil)))) [15]) (qName 7))
    (sSeq (sIf (fTest (f2 (gEqS true) (f1 gRepr (fVar 7)) (f1 gRepr (fSeq .list (fCons (fSeq .tuple (fCons (fC (.str "told")) (fCons (fVar 6) fNil))) (fCons (fSeq .tuple (fCons (fC (.str "told")) (fCons (fVar 6) fNil))) (fCons (fSeq .tuple (fCons (fC (.str "told")) (fCons (fEq (fVar 6) (fC (.int 0))) fNil))) (fCons (fSeq .tuple (fCons (fC (.str "told")) (fCons (fEq (fVar 6) (fC (.int 0))) fNil))) fNil)))))))) (sRet (fC (.bool false))) sNext)
    (sSeq (sIf (fTest (f2 (gEqS true) (f1 gRepr (fSeq .list (fCons (fCall 1 f_dials_of (fCons (fVar 4) fNil)) (fCons (fCallK 1 f_dials_of id (fCons (fVar 4) fNil)) (fCons (fCall 1 f_is_relation (fCons (fVar 4) fNil)) (fCons (fCallK 1 f_is_relation id (fCons (fVar 4) fNil)) fNil)))))) (f1 gRepr (fSeq .list (fCons (fVar 2) (fCons (fVar 2) (fCons (fC (.bool true)) (fCons (fC (.bool true)) fNil)))))))) (sRet (fC (.bool false))) sNext)
    lRest))))))
theorem law_eq : g_law = lLaw := rfl
theorem wf_lare {n : Nat} {d : DL.D} {k : Dk} {P : DL.D → Dk → Prop} (hn : n ≤ 100) (r : P (.bool (plsD n d)) k) : wf f__law_are_places [.dat (.int (n : Int)), .dat d] k P := by
  refine wf_fn (e := [.dat (.int (n : Int)), .dat d, .un]) rfl ?_
  unfold g__law_are_places
  rcases tup_or d with ⟨ds, rfl⟩ | h
  · rw [plsD_tup] at r
    walk_at "vc"
    · rename_i h1
      have e : ds.length = n := by omega
      rw [decide_eq_true e, Bool.true_and] at r
      refine wc_pure (fun d => !isPl d) id ds [] (by simp; omega) (fun z hz => ?_) ?_
      · walk_at "vc"
        refine wf_law_place ?_
        walk_at "vc"
        refine ⟨rfl, rfl, fun _ => ?_⟩
        walk_at "vc"
        exact ⟨rfl, rfl⟩
      have o : (([] : List DL.D) ++ (ds.filter fun d => !isPl d).map id).isEmpty = ds.all isPl := by
        rw [List.map_id, List.nil_append]
        clear r e h1
        induction ds with
        | nil => rfl
        | cons d r ih =>
          cases e : isPl d with
          | false => simp [List.filter_cons, e]
          | true =>
            rw [List.filter_cons_of_neg (by simp [e]), List.all_cons, e, Bool.true_and]
            exact ih (isB_tup r)
      walk_at "vc"
      rw [o]
      exact r
    · rename_i h1
      rw [decide_eq_false (by omega)] at r
      exact r
    · rename_i h1
      rw [isB_tup] at h1
      cases h1
  · have e := not_tup h
    rw [plsD_not h] at r
    walk_at "vc"
    · rename_i h1
      rw [e] at h1
      cases h1
    · exact r
/-! ### showing what is told -/
theorem bi_due {d : DL.D} (h : Sh 4 9000 d) (s : String) (l : s.length ≤ 20) : Sh 5 28000 (.tuple [.str (Str.ofString s), d, .bool true]) :=
  (sh_tup (m := 4) (n := 9000) (l := 3) (List.forall_mem_cons.mpr ⟨(sh_lit s l).le (by decide) (by decide), List.forall_mem_cons.mpr ⟨h, List.forall_mem_cons.mpr ⟨(sh_bool true).le (by decide) (by decide), List.forall_mem_nil _⟩⟩⟩) (by simp)).le (by decide) (by decide)
theorem show_n {m : Nat} {ds : List DL.D} (h : ∀ x ∈ ds, Sh m 28000 x) (hm : m ≤ 10) (l : ds.length ≤ 4) : okShow (.list ds) = true := (sh_lst h l).show (by omega) (by decide)
theorem due_rng4 : rng 0 (Int.toNat 4) = [.int 0, .int 1, .int 2, .int 3] := rfl
theorem wipe16 {x0 x1 x2 x3 x4 x5 x6 x7 x8 x9 x10 x11 x12 x13 x14 x15 : Sl} : wipeE [x0, x1, x2, x3, x4, x5, x6, x7, x8, x9, x10, x11, x12, x13, x14, x15] [15] = [x0, x1, x2, x3, x4, x5, x6, x7, x8, x9, x10, x11, x12, x13, x14, .un] := rfl
theorem ws_rel {ps : List (Int × Int)} {s0 s1 s2 s3 s4 s6 s7 s8 s9 s10 s14 : Sl} {d e : DL.D} {k : Dk} {Q : Out → Prop} (hd : Bi d)
    (z : ∀ s14, Q (.nx [s0, s1, s2, s3, s4, .dat (.tuple (ps.map pD)), s6, s7, s8, s9, s10, .dat d, .dat e, .dat (.bool (relD d)), s14, .un] k)) :
    ws lRel [s0, s1, s2, s3, s4, .dat (.tuple (ps.map pD)), s6, s7, s8, s9, s10, .dat d, .dat e, .dat (.bool (relD d)), s14, .un] k Q := by
  have sd : Sh 5 28000 (.tuple [.str "relation", d, .bool true]) := bi_due (hd.1.le (by decide) (by decide)) "relation" (by decide)
  generalize ed : relD d = b at *
  unfold lRel
  cases b with
  | true =>
    walk_at "vc"
    exact z _
  | false =>
    obtain ⟨D, eD⟩ : ∃ D, D = PyData.tuple [.str "relation", d, .bool true] := ⟨_, rfl⟩
    rw [← eD] at sd
    have h4 : okShow (.list [D, D, D, D]) = true := show_n (List.forall_mem_cons.mpr ⟨sd, List.forall_mem_cons.mpr ⟨sd, List.forall_mem_cons.mpr ⟨sd, List.forall_mem_cons.mpr ⟨sd, List.forall_mem_nil _⟩⟩⟩⟩) (by decide) (by simp)
    have h2 : okShow (.list [D, D]) = true := show_n (List.forall_mem_cons.mpr ⟨sd, List.forall_mem_cons.mpr ⟨sd, List.forall_mem_nil _⟩⟩) (by decide) (by simp)
    have h4' : okShow (.list (List.replicate (Int.toNat 4) [D]).flatten) = true := h4
    have h2' : okShow (.list (List.replicate (Int.toNat 2) [D]).flatten) = true := h2
    walk_at "vc"
    rw [due_rng4, wipe16]
    walk_at "vc"
    refine wf_told1 ed ?_
    walk_at "vc"
    refine wf_told1 ed ?_
    walk_at "vc"
    refine wf_told1 ed ?_
    walk_at "vc"
    refine wf_told1 ed ?_
    walk_at "vc"
    rw [← eD]
    walk_at "vc"
    refine G.wg_repl ?_ ?_ ?_
    · decide
    · simp
    walk_at "vc"
    rotate_left
    · rename_i no; exact absurd rfl no
    refine wf_told1 ed ?_
    walk_at "vc"
    refine wf_told1 ed ?_
    walk_at "vc"
    rw [← eD]
    walk_at "vc"
    refine G.wg_repl ?_ ?_ ?_
    · decide
    · simp
    walk_at "vc"
    rotate_left
    · rename_i no; exact absurd rfl no
    exact z _
theorem ws_pls {n : Nat} {f : Nat → Int} {ps : List (Int × Int)} {s0 s1 s3 s6 s7 s8 s9 s10 s14 : Sl} {d e : DL.D} {k : Dk} {Q : Out → Prop} (R : Rl n f) (hd : Bi d) (he : Bp e)
    (z : ∀ s14, Q (.nx [s0, s1, .dat (.int (n : Int)), s3, .dat (.tuple (tb (2 ^ n) f)), .dat (.tuple (ps.map pD)), s6, s7, s8, s9, s10, .dat d, .dat e, .dat (.bool (relD d)), s14, .un] k)) :
    ws lPls [s0, s1, .dat (.int (n : Int)), s3, .dat (.tuple (tb (2 ^ n) f)), .dat (.tuple (ps.map pD)), s6, s7, s8, s9, s10, .dat d, .dat e, .dat (.bool (relD d)), s14, .un] k Q := by
  have sd : Sh 5 28000 (.tuple [.str "places", e, .bool true]) := bi_due (he.le (by decide) (by decide)) "places" (by decide)
  obtain ⟨D, eD⟩ : ∃ D, D = PyData.tuple [.str "places", e, .bool true] := ⟨_, rfl⟩
  rw [← eD] at sd
  have h4 : okShow (.list [D, D, D, D]) = true := show_n (List.forall_mem_cons.mpr ⟨sd, List.forall_mem_cons.mpr ⟨sd, List.forall_mem_cons.mpr ⟨sd, List.forall_mem_cons.mpr ⟨sd, List.forall_mem_nil _⟩⟩⟩⟩) (by decide) (by simp)
  have h4' : okShow (.list (List.replicate (Int.toNat 4) [D]).flatten) = true := h4
  unfold lPls
  walk_at "vc"
  rw [← eD]
  walk_at "vc"
  refine wf_lare (by have := R.hi; omega) ?_
  cases ep : plsD n e with
  | true =>
    walk_at "vc"
    exact ws_rel hd z
  | false =>
    walk_at "vc"
    rw [due_rng4, wipe16]
    walk_at "vc"
    refine wf_told2 R ep ?_
    walk_at "vc"
    refine wf_told2 R ep ?_
    walk_at "vc"
    refine wf_told2 R ep ?_
    walk_at "vc"
    refine wf_told2 R ep ?_
    walk_at "vc"
    rw [← eD]
    walk_at "vc"
    refine G.wg_repl ?_ ?_ ?_
    · decide
    · simp
    walk_at "vc"
    rotate_left
    · rename_i no; exact absurd rfl no
    exact ws_rel hd z
theorem show_b (ds : List DL.D) (h : ∀ x ∈ ds, Sh 0 100 x) (l : ds.length ≤ 4) : okShow (.list ds) = true := (sh_lst h l).show (by decide) (by decide)
theorem ws_body {n b : Nat} {f : Nat → Int} {ps : List (Int × Int)} {s0 s3 s6 s7 s8 s9 s10 s11 s12 s13 s14 : Sl} {k : Dk} {Q : Out → Prop} (R : Rl n f) (S : Ps n ps) (h : Ok (b + 6) k)
    (z : ∀ s11 s12 s13 s14 k', Ok b k' → Q (.nx [s0, .deck, .dat (.int (n : Int)), s3, .dat (.tuple (tb (2 ^ n) f)), .dat (.tuple (ps.map pD)), s6, s7, s8, s9, s10, s11, s12, s13, s14, .un] k')) :
    ws lBody [s0, .deck, .dat (.int (n : Int)), s3, .dat (.tuple (tb (2 ^ n) f)), .dat (.tuple (ps.map pD)), s6, s7, s8, s9, s10, s11, s12, s13, s14, .un] k Q := by
  unfold lBody
  walk_at "vc"
  refine wf_bi R (b := b + 3) h fun d k1 hd ok1 => ?_
  walk_at "vc"
  refine wf_bp R.lo R.hi S ok1 fun e k2 he ok2 => ?_
  walk_at "vc"
  refine wf_lrel (n := 60) (by decide) hd.2 ?_
  have sb : okShow (.list [.bool (relD d), .bool (relD d)]) = true := show_b _ (List.forall_mem_cons.mpr ⟨(sh_bool _).le (by decide) (by decide), List.forall_mem_cons.mpr ⟨(sh_bool _).le (by decide) (by decide), List.forall_mem_nil _⟩⟩) (by simp)
  walk_at "vc"
  refine wf_isrel ?_
  walk_at "vc"
  refine wf_isrel ?_
  walk_at "vc"
  exact ws_pls R hd he fun s14 => z _ _ _ _ _ ok2
/-! ### one dial -/
theorem V_cons (p : Int × Int) (ps : List (Int × Int)) (f : Nat → Int) : V (p :: ps) f = p.1 * V ps f + p.2 * V ps (fun j => f (j + 2 ^ ps.length)) := rfl
theorem V_set : ∀ (ps : List (Int × Int)) (j : Nat) (f : Nat → Int) (h : j < ps.length), V (ps.set j (1, 0)) f * (ps[j]).1 + V (ps.set j (0, 1)) f * (ps[j]).2 = V ps f
  | p :: ps, 0, f, h => by
    show (1 * V ps f + 0 * V ps (fun j => f (j + 2 ^ ps.length))) * p.1 + (0 * V ps f + 1 * V ps (fun j => f (j + 2 ^ ps.length))) * p.2 = p.1 * V ps f + p.2 * V ps (fun j => f (j + 2 ^ ps.length))
    grind
  | p :: ps, j + 1, f, h => by
    have h' : j < ps.length := by rw [List.length_cons] at h; omega
    have a := V_set ps j f h'
    have b := V_set ps j (fun j => f (j + 2 ^ ps.length)) h'
    have l : ∀ q : Int × Int, (ps.set j q).length = ps.length := fun q => List.length_set
    show V (p :: ps.set j (1, 0)) f * (ps[j]).1 + V (p :: ps.set j (0, 1)) f * (ps[j]).2 = p.1 * V ps f + p.2 * V ps (fun j => f (j + 2 ^ ps.length))
    rw [V_cons, V_cons, l, l, ← a, ← b]
    grind
theorem cut_take (ds : List DL.D) {r : Int} (h0 : 0 ≤ r) (h1 : r ≤ ds.length) : DL.cutD ds none (some r) = ds.take r.toNat := by
  obtain ⟨j, rfl⟩ := Int.eq_ofNat_of_zero_le h0
  have e1 : HT.sIx ds.length 0 none = 0 := rfl
  have e2 : HT.sIx ds.length ds.length (some (j : Int)) = j := by
    unfold HT.sIx
    simp only
    rw [if_neg (by omega)]
    omega
  unfold DL.cutD
  rw [e1, e2]
  simp
theorem cut_drop (ds : List DL.D) {r : Int} (h0 : 0 ≤ r) (h1 : r ≤ ds.length) : DL.cutD ds (some r) none = ds.drop r.toNat := by
  obtain ⟨j, rfl⟩ := Int.eq_ofNat_of_zero_le h0
  have e1 : HT.sIx ds.length ds.length none = ds.length := rfl
  have e2 : HT.sIx ds.length 0 (some (j : Int)) = j := by
    unfold HT.sIx
    simp only
    rw [if_neg (by omega)]
    omega
  unfold DL.cutD
  rw [e1, e2]
  simp only [Int.toNat_natCast]
  exact List.take_of_length_le (by rw [List.length_drop]; omega)
theorem ps_set {n j : Nat} {ps : List (Int × Int)} {q : Int × Int} (S : Ps n ps) (hq : isPl (pD q) = true) (hs : Sm 10 q.1 ∧ Sm 10 q.2) : Ps n (ps.set j q) := by
  refine ⟨by rw [List.length_set]; exact S.ln, ?_, fun p hp => ?_⟩
  · have o := S.ok
    rw [plsD_tup, Bool.and_eq_true] at o ⊢
    refine ⟨by rw [List.length_map, List.length_set]; exact decide_eq_true S.ln, ?_⟩
    refine List.all_eq_true.mpr fun x hx => ?_
    obtain ⟨p, hp, rfl⟩ := List.mem_map.mp hx
    rcases List.mem_or_eq_of_mem_set hp with u | rfl
    · exact List.all_eq_true.mp o.2 _ (List.mem_map.mpr ⟨p, u, rfl⟩)
    · exact hq
  · rcases List.mem_or_eq_of_mem_set hp with u | rfl
    · exact S.sm p u
    · exact hs
theorem map_set {ps : List (Int × Int)} {j : Nat} {q : Int × Int} (h : j < ps.length) : (ps.map pD).take j ++ [pD q] ++ (ps.map pD).drop (j + 1) = (ps.set j q).map pD := by
  rw [List.map_set, List.set_eq_take_append_cons_drop, if_pos (by rw [List.length_map]; exact h), List.append_assoc]
  rfl
end G
set_option maxHeartbeats 16000000
set_option exponentiation.threshold 3000
namespace G
open PySem PySem.Spec PyProof.Rows L2 DL
theorem due_rng3 : rng 0 (Int.toNat 3) = [.int 0, .int 1, .int 2] := rfl
theorem ws_rest {n b : Nat} {f : Nat → Int} {ps : List (Int × Int)} {s0 s3 s7 s8 s9 s10 s11 s12 s13 s14 : Sl} {k : Dk} (R : Rl n f) (S : Ps n ps) (h : Ok (b + 19) k) :
    ws lRest [s0, .deck, .dat (.int (n : Int)), s3, .dat (.tuple (tb (2 ^ n) f)), .dat (.tuple (ps.map pD)), .dat (.int (V ps f)), s7, s8, s9, s10, s11, s12, s13, s14, .un] k trueQ := by
  have lo := R.lo
  have hi := R.hi
  have ln := S.ln
  have tl : (ps.map pD).length = n := by rw [List.length_map]; exact ln
  unfold lRest
  walk_at "vc"
  refine wf_draw h (by omega) (by omega) (by omega) fun r k1 r0 r1 ok1 => ?_
  obtain ⟨j, rfl⟩ := Int.eq_ofNat_of_zero_le r0
  have hj : j < ps.length := by omega
  have c1 : DL.cutD (ps.map pD) none (some (j : Int)) = (ps.map pD).take j := cut_take _ r0 (by omega)
  have c2 : DL.cutD (ps.map pD) (some ((j : Int) + 1)) none = (ps.map pD).drop (j + 1) := cut_drop _ (by omega) (by omega)
  have l1 : ((ps.map pD).take j).length ≤ n := by rw [List.length_take]; omega
  have l2 : ((ps.map pD).drop (j + 1)).length ≤ n := by rw [List.length_drop]; omega
  have p10 : (ps.map pD).take j ++ [.tuple [.int 1, .int 0]] ++ (ps.map pD).drop (j + 1) = (ps.set j (1, 0)).map pD := map_set (q := (1, 0)) hj
  have p01 : (ps.map pD).take j ++ [.tuple [.int 0, .int 1]] ++ (ps.map pD).drop (j + 1) = (ps.set j (0, 1)).map pD := map_set (q := (0, 1)) hj
  have S10 : Ps n (ps.set j (1, 0)) := ps_set S rfl (by constructor <;> constructor <;> decide)
  have S01 : Ps n (ps.set j (0, 1)) := ps_set S rfl (by constructor <;> constructor <;> decide)
  have at0 : atI (ps.map pD) (j : Int) = some (.tuple [.int (ps[j]).1, .int (ps[j]).2]) := by
    rw [vAtN (by omega), List.getElem?_map, List.getElem?_eq_getElem hj]
    rfl
  have sj := S.sm _ (List.getElem_mem hj)
  have vs := V_set ps j f hj
  generalize (ps[j]).1 = a at *
  generalize (ps[j]).2 = c at *
  have s10 := V_sm (ps.set j (1, 0)) 7 f S10.sm (by rw [S10.ln]; exact R.sm)
  have s01 := V_sm (ps.set j (0, 1)) 7 f S01.sm (by rw [S01.ln]; exact R.sm)
  rw [S10.ln] at s10
  rw [S01.ln] at s01
  have m1 : cMul (V (ps.set j (1, 0)) f) a = true := Sm.cm s10 sj.1 (by omega) (by decide)
  have m2 : cMul (V (ps.set j (0, 1)) f) c = true := Sm.cm s01 sj.2 (by omega) (by decide)
  walk_at "vc"
  rw [p10, p01]
  refine wf_okF (wx_val R S10 ?_)
  walk_at "vc"
  refine wf_okF (wx_val R S01 ?_)
  walk_at "vc"
  · rename_i hv
    unfold lLoop
    walk_at "vc"
    rw [due_rng3]
    walk_at "vc"
    refine ws_body R S (b := b + 12) (ok1.less (by omega)) fun s11 s12 s13 s14 k2 ok2 => ?_
    walk_at "vc"
    refine ws_body R S (b := b + 6) ok2 fun s11 s12 s13 s14 k3 ok3 => ?_
    walk_at "vc"
    refine ws_body R S (b := b) ok3 fun s11 s12 s13 s14 k4 ok4 => ?_
    walk_at "vc"
    rfl
  · rename_i hv
    exact absurd vs hv
theorem wipe3 {x0 x1 x2 x3 x4 x5 x6 x7 x8 x9 x10 x11 x12 x13 x14 x15 : Sl} : wipeE [x0, x1, x2, x3, x4, x5, x6, x7, x8, x9, x10, x11, x12, x13, x14, x15] [3] = [x0, x1, x2, .un, x4, x5, x6, x7, x8, x9, x10, x11, x12, x13, x14, x15] := rfl
theorem ps_of {n : Nat} {ps : List (Int × Int)} (l : ps.length = n) (h : ∀ p ∈ ps, Norm p.1 p.2 ∧ Sm 10 p.1 ∧ Sm 10 p.2) : Ps n ps := by
  refine ⟨l, ?_, fun p hp => (h p hp).2⟩
  rw [plsD_tup, List.length_map, decide_eq_true l, Bool.true_and]
  refine List.all_eq_true.mpr fun x hx => ?_
  obtain ⟨p, hp, rfl⟩ := List.mem_map.mp hx
  exact pl_test (h p hp).1
theorem v_sh {n : Nat} {f : Nat → Int} {ps : List (Int × Int)} (R : Rl n f) (S : Ps n ps) : Sm 80 (V ps f) := by
  have := V_sm ps 7 f S.sm (by rw [S.ln]; exact R.sm)
  rw [S.ln] at this
  exact this.mono (by have := R.hi; omega)
theorem good_law : ∀ ns : List Int, ns.length ≤ 63 → GoodLaw f__law_deck g_law 16 ns := by
  intro ns hl
  obtain ⟨k, hk, ok⟩ := deck_ok ns hl ⟨[], 0, 0⟩
  refine good_ws (e := [.scr ns, .deck, .un, .un, .un, .un, .un, .un, .un, .un, .un, .un, .un, .un, .un, .un]) hk rfl ?_
  rw [law_eq]
  unfold lLaw
  walk_at "vc"
  refine wf_picki 1 6 (ds := [.int 3, .int 2, .int 4, .int 1, .int 5, .int 6]) rfl (by decide) (by decide) (by decide) ok (by decide) fun m k1 m0 m1 ok1 => ?_
  obtain ⟨n, rfl⟩ := Int.eq_ofNat_of_zero_le (show 0 ≤ m by omega)
  walk_at "vc"
  refine wf_items (n := n) (b := 1000) (by omega) (by omega) (ok1.less (by decide)) fun f k2 R ok2 => ?_
  walk_at "vc"
  rw [Int.toNat_natCast, wipe3]
  refine wc_inv (fun ds acc k => ∃ ps : List (Int × Int), acc = ps.map pD ∧ (∀ p ∈ ps, Norm p.1 p.2 ∧ Sm 10 p.1 ∧ Sm 10 p.2) ∧ ps.length + ds.length = n ∧ Ok (100 + 6 * ds.length) k) (fun d ds acc k ⟨ps, e, hs, hl, ok⟩ => ?_) (fun acc k ⟨ps, e, hs, hl, ok⟩ => ?_) _ _ _ ⟨[], rfl, fun z hz => (nomatch hz), by simp [rng], ok2.less (by simp [rng]; omega)⟩
  · subst e
    rw [List.length_cons] at hl ok
    have hlen : (ps.map pD).length < 1000000 := by rw [List.length_map]; omega
    walk_at "vc"
    refine wf_dpl ok (by omega) fun x y k' nx sx sy ok' => ?_
    unfold P2
    walk_at "vc"
    exact ⟨ps ++ [(x, y)], by rw [List.map_append]; rfl, fun p hp => by
      rcases List.mem_append.mp hp with q | q
      · exact hs p q
      · rw [List.mem_singleton.mp q]; exact ⟨nx, sx, sy⟩, by rw [List.length_append, List.length_singleton]; omega, ok'.less (by omega)⟩
  · subst e
    have S : Ps n ps := ps_of (by simpa using hl) hs
    have sv := v_sh R S
    have iv : Sh 0 90 (.int (V ps f)) := (sh_int (k := 80) (sm_abs sv) (by decide) (by decide)).le (by decide) (by decide)
    have t1 : Sh 1 28000 (.tuple [.str "told", .int (V ps f)]) := (sh_tup (m := 0) (n := 100) (l := 2) (List.forall_mem_cons.mpr ⟨(sh_lit "told" (n := 9) (by decide)).le (by decide) (by decide), List.forall_mem_cons.mpr ⟨iv.le (by decide) (by decide), List.forall_mem_nil _⟩⟩) (by simp)).le (by decide) (by decide)
    have t2 : Sh 1 28000 (.tuple [.str "told", .bool (V ps f == 0)]) := (sh_tup (m := 0) (n := 100) (l := 2) (List.forall_mem_cons.mpr ⟨(sh_lit "told" (n := 9) (by decide)).le (by decide) (by decide), List.forall_mem_cons.mpr ⟨(sh_bool _).le (by decide) (by decide), List.forall_mem_nil _⟩⟩) (by simp)).le (by decide) (by decide)
    have sw : okShow (.list [.tuple [.str "told", .int (V ps f)], .tuple [.str "told", .int (V ps f)], .tuple [.str "told", .bool (V ps f == 0)], .tuple [.str "told", .bool (V ps f == 0)]]) = true :=
      show_n (List.forall_mem_cons.mpr ⟨t1, List.forall_mem_cons.mpr ⟨t1, List.forall_mem_cons.mpr ⟨t2, List.forall_mem_cons.mpr ⟨t2, List.forall_mem_nil _⟩⟩⟩⟩) (by decide) (by simp)
    have ni : Sh 0 100 (.int (n : Int)) := (sh_int (k := 2) (by omega) (by decide) (by decide)).le (by decide) (by decide)
    have sn : okShow (.list [.int (n : Int), .int (n : Int), .bool true, .bool true]) = true := show_b _ (List.forall_mem_cons.mpr ⟨ni, List.forall_mem_cons.mpr ⟨ni, List.forall_mem_cons.mpr ⟨(sh_bool _).le (by decide) (by decide), List.forall_mem_cons.mpr ⟨(sh_bool _).le (by decide) (by decide), List.forall_mem_nil _⟩⟩⟩⟩) (by simp)
    walk_at "vc"
    refine wf_lval R S ?_
    walk_at "vc"
    rw [due_rng4, wipe16]
    walk_at "vc"
    refine wf_told R S (fun _ => ?_) (fun w => absurd (.inl rfl) w)
    walk_at "vc"
    refine wf_told R S (fun _ => ?_) (fun w => absurd (.inr rfl) w)
    walk_at "vc"
    refine wf_told R S (fun w => absurd w (by decide)) (fun _ => ?_)
    walk_at "vc"
    refine wf_told R S (fun w => absurd w (by decide)) (fun _ => ?_)
    walk_at "vc"
    refine wf_okF (wx_dials R ?_)
    walk_at "vc"
    refine wf_okF (wx_dials R ?_)
    walk_at "vc"
    refine wf_isrel ?_
    rw [R.ok]
    walk_at "vc"
    refine wf_isrel ?_
    rw [R.ok]
    walk_at "vc"
    · exact ws_rest (b := 0) R S (ok.less (by omega))
    · rename_i no; exact absurd rfl no
end G
open PySem PySem.W PyProof.Rows
set_option maxHeartbeats 0 in
theorem PySem.Challenge.cw_rulertrees_k05_relations_and_their_value_holds : PySem.Challenge.rw_rulertrees_k05_relations_and_their_value.Holds := by
  w_on; o_law; k_head; (case hw => w_witness2)
  k_fill
  refine DL.law_walk (l := PySem.Challenge.rw_rulertrees_k05_relations_and_their_value) (n := 63) (k := 11) (x := "_law_script") (by decide +kernel) rfl (by decide) rfl ⟨rfl, by decide, by decide⟩ (fun w h Y => PySem.W.kIn_of Y) ?F
  case F =>
    intro w mg fa h KX hns hmg tf
    refine' G.all_mk G.good_law KX hns hmg tf ?a_common_divisor ?l_common_divisor ?c_common_divisor ?k_common_divisor ?a_sign_of_first ?l_sign_of_first ?c_sign_of_first ?k_sign_of_first ?a_is_short ?l_is_short ?c_is_short ?k_is_short ?a_count_dials ?l_count_dials ?c_count_dials ?k_count_dials ?a_bit_span ?l_bit_span ?c_bit_span ?k_bit_span ?a_with_place ?l_with_place ?c_with_place ?k_with_place ?t_with_place ?v_with_place ?o_with_place ?r_with_place ?a_is_integer ?l_is_integer ?c_is_integer ?k_is_integer ?a_is_tuple_of ?l_is_tuple_of ?c_is_tuple_of ?k_is_tuple_of ?a_is_integers ?l_is_integers ?c_is_integers ?k_is_integers ?t_is_integers ?v_is_integers ?o_is_integers ?r_is_integers ?a_is_place ?l_is_place ?c_is_place ?k_is_place ?a_are_places ?l_are_places ?c_are_places ?k_are_places ?t_are_places ?v_are_places ?o_are_places ?r_are_places ?a_is_relation ?l_is_relation ?c_is_relation ?k_is_relation ?a_check_relation ?l_check_relation ?c_check_relation ?k_check_relation ?a_check_places ?l_check_places ?c_check_places ?k_check_places ?a_dials_of ?l_dials_of ?c_dials_of ?k_dials_of ?a_value ?l_value ?c_value ?k_value ?a_holds ?l_holds ?c_holds ?k_holds ?a__law_deck ?l__law_deck ?c__law_deck ?k__law_deck ?a__law_draw ?l__law_draw ?c__law_draw ?k__law_draw ?a__law_pick ?l__law_pick ?c__law_pick ?k__law_pick ?a__law_is_integer ?l__law_is_integer ?c__law_is_integer ?k__law_is_integer ?a__law_gcd ?l__law_gcd ?c__law_gcd ?k__law_gcd ?a__law_short ?l__law_short ?c__law_short ?k__law_short ?a__law_is_place ?l__law_is_place ?c__law_is_place ?k__law_is_place ?a__law_place ?l__law_place ?c__law_place ?k__law_place ?a__law_is_relation ?l__law_is_relation ?c__law_is_relation ?k__law_is_relation ?a__law_value ?l__law_value ?c__law_value ?k__law_value ?a__law_signed ?l__law_signed ?c__law_signed ?k__law_signed ?a__law_drawn_place ?l__law_drawn_place ?c__law_drawn_place ?k__law_drawn_place ?a__law_items ?l__law_items ?c__law_items ?k__law_items ?a__law_told ?l__law_told ?c__law_told ?k__law_told ?a__law_bent_items ?l__law_bent_items ?c__law_bent_items ?k__law_bent_items ?a__law_bent_places ?l__law_bent_places ?c__law_bent_places ?k__law_bent_places ?a__law_are_places ?l__law_are_places ?c__law_are_places ?k__law_are_places ?a_law ?l_law ?c_law ?k_law ?z_gcd ?z_len ?z_tuple ?z_range ?z_isinstance ?z_int ?z_bool ?z_all ?z_max ?z_abs ?z_list ?z_str ?z_repr ?a_FAR ?l_FAR ?a_LENGTHS ?l_LENGTHS ?ga_BadPlaces ?ka_BadPlaces ?qi_BadPlaces ?ov_BadPlaces ?sa_BadPlaces ?gg_BadPlaces ?gn_BadPlaces ?nn_BadPlaces ?iC_BadPlaces ?tf_BadPlaces ?ba_BadPlaces ?ta_BadPlaces ?hd_BadPlaces ?ss_BadPlaces ?ia_BadPlaces ?lf_BadPlaces ?cf_BadPlaces ?ga_BadRelation ?ka_BadRelation ?qi_BadRelation ?ov_BadRelation ?sa_BadRelation ?gg_BadRelation ?gn_BadRelation ?nn_BadRelation ?iC_BadRelation ?tf_BadRelation ?ba_BadRelation ?ta_BadRelation ?hd_BadRelation ?ss_BadRelation ?ia_BadRelation ?lf_BadRelation ?cf_BadRelation ?ga_RulerError ?ka_RulerError ?xa_RulerError ?ba_RulerError ?ta_RulerError ?ia_RulerError ?sa_RulerError ?e1_BadPlaces ?e2_BadPlaces ?e3_BadPlaces ?e4_BadPlaces ?e5_BadPlaces ?e6_BadPlaces ?e7_BadPlaces ?e8_BadPlaces ?e1_BadRelation ?e2_BadRelation ?e3_BadRelation ?e4_BadRelation ?e5_BadRelation ?e6_BadRelation ?e7_BadRelation ?e8_BadRelation ?u_BadPlaces_BadRelation ?u_BadRelation_BadPlaces
    (case a_common_divisor => k_is)
    (case l_common_divisor => k_is)
    (case c_common_divisor => k_is)
    (case k_common_divisor => k_is)
    (case a_sign_of_first => k_is)
    (case l_sign_of_first => k_is)
    (case c_sign_of_first => k_is)
    (case k_sign_of_first => k_is)
    (case a_is_short => k_is)
    (case l_is_short => k_is)
    (case c_is_short => k_is)
    (case k_is_short => k_is)
    (case a_count_dials => k_is)
    (case l_count_dials => k_is)
    (case c_count_dials => k_is)
    (case k_count_dials => k_is)
    (case a_bit_span => k_is)
    (case l_bit_span => k_is)
    (case c_bit_span => k_is)
    (case k_bit_span => k_is)
    (case a_with_place => k_is)
    (case l_with_place => k_is)
    (case c_with_place => k_is)
    (case k_with_place => k_is)
    (case t_with_place => k_is)
    (case v_with_place => first | rfl | decide +kernel)
    (case o_with_place => first | rfl | decide +kernel)
    (case r_with_place => first | rfl | decide +kernel)
    (case a_is_integer => k_is)
    (case l_is_integer => k_is)
    (case c_is_integer => k_is)
    (case k_is_integer => k_is)
    (case a_is_tuple_of => k_is)
    (case l_is_tuple_of => k_is)
    (case c_is_tuple_of => k_is)
    (case k_is_tuple_of => k_is)
    (case a_is_integers => k_is)
    (case l_is_integers => k_is)
    (case c_is_integers => k_is)
    (case k_is_integers => k_is)
    (case t_is_integers => k_is)
    (case v_is_integers => first | rfl | decide +kernel)
    (case o_is_integers => first | rfl | decide +kernel)
    (case r_is_integers => first | rfl | decide +kernel)
    (case a_is_place => k_is)
    (case l_is_place => k_is)
    (case c_is_place => k_is)
    (case k_is_place => k_is)
    (case a_are_places => k_is)
    (case l_are_places => k_is)
    (case c_are_places => k_is)
    (case k_are_places => k_is)
    (case t_are_places => k_is)
    (case v_are_places => first | rfl | decide +kernel)
    (case o_are_places => first | rfl | decide +kernel)
    (case r_are_places => first | rfl | decide +kernel)
    (case a_is_relation => k_is)
    (case l_is_relation => k_is)
    (case c_is_relation => k_is)
    (case k_is_relation => k_is)
    (case a_check_relation => k_is)
    (case l_check_relation => k_is)
    (case c_check_relation => k_is)
    (case k_check_relation => k_is)
    (case a_check_places => k_is)
    (case l_check_places => k_is)
    (case c_check_places => k_is)
    (case k_check_places => k_is)
    (case a_dials_of => k_is)
    (case l_dials_of => k_is)
    (case c_dials_of => k_is)
    (case k_dials_of => k_is)
    (case a_value => k_is)
    (case l_value => k_is)
    (case c_value => k_is)
    (case k_value => k_is)
    (case a_holds => k_is)
    (case l_holds => k_is)
    (case c_holds => k_is)
    (case k_holds => k_is)
    (case a__law_deck => k_is)
    (case l__law_deck => k_is)
    (case c__law_deck => k_is)
    (case k__law_deck => k_is)
    (case a__law_draw => k_is)
    (case l__law_draw => k_is)
    (case c__law_draw => k_is)
    (case k__law_draw => k_is)
    (case a__law_pick => k_is)
    (case l__law_pick => k_is)
    (case c__law_pick => k_is)
    (case k__law_pick => k_is)
    (case a__law_is_integer => k_is)
    (case l__law_is_integer => k_is)
    (case c__law_is_integer => k_is)
    (case k__law_is_integer => k_is)
    (case a__law_gcd => k_is)
    (case l__law_gcd => k_is)
    (case c__law_gcd => k_is)
    (case k__law_gcd => k_is)
    (case a__law_short => k_is)
    (case l__law_short => k_is)
    (case c__law_short => k_is)
    (case k__law_short => k_is)
    (case a__law_is_place => k_is)
    (case l__law_is_place => k_is)
    (case c__law_is_place => k_is)
    (case k__law_is_place => k_is)
    (case a__law_place => k_is)
    (case l__law_place => k_is)
    (case c__law_place => k_is)
    (case k__law_place => k_is)
    (case a__law_is_relation => k_is)
    (case l__law_is_relation => k_is)
    (case c__law_is_relation => k_is)
    (case k__law_is_relation => k_is)
    (case a__law_value => k_is)
    (case l__law_value => k_is)
    (case c__law_value => k_is)
    (case k__law_value => k_is)
    (case a__law_signed => k_is)
    (case l__law_signed => k_is)
    (case c__law_signed => k_is)
    (case k__law_signed => k_is)
    (case a__law_drawn_place => k_is)
    (case l__law_drawn_place => k_is)
    (case c__law_drawn_place => k_is)
    (case k__law_drawn_place => k_is)
    (case a__law_items => k_is)
    (case l__law_items => k_is)
    (case c__law_items => k_is)
    (case k__law_items => k_is)
    (case a__law_told => k_is)
    (case l__law_told => k_is)
    (case c__law_told => k_is)
    (case k__law_told => k_is)
    (case a__law_bent_items => k_is)
    (case l__law_bent_items => k_is)
    (case c__law_bent_items => k_is)
    (case k__law_bent_items => k_is)
    (case a__law_bent_places => k_is)
    (case l__law_bent_places => k_is)
    (case c__law_bent_places => k_is)
    (case k__law_bent_places => k_is)
    (case a__law_are_places => k_is)
    (case l__law_are_places => k_is)
    (case c__law_are_places => k_is)
    (case k__law_are_places => k_is)
    (case a_law => k_is)
    (case l_law => k_is)
    (case c_law => k_is)
    (case k_law => k_is)
    (case z_gcd => k_is)
    (case z_len => k_is)
    (case z_tuple => k_is)
    (case z_range => k_is)
    (case z_isinstance => k_is)
    (case z_int => k_is)
    (case z_bool => k_is)
    (case z_all => k_is)
    (case z_max => k_is)
    (case z_abs => k_is)
    (case z_list => k_is)
    (case z_str => k_is)
    (case z_repr => k_is)
    (case a_FAR => k_is)
    (case l_FAR => k_is)
    (case a_LENGTHS => k_is)
    (case l_LENGTHS => k_is)
    (case ga_BadPlaces => k_is)
    (case ka_BadPlaces => k_is)
    (case qi_BadPlaces => kx_is)
    (case ov_BadPlaces => kx_is)
    (case sa_BadPlaces => k_is)
    (case gg_BadPlaces => k_is)
    (case gn_BadPlaces => k_is)
    (case nn_BadPlaces => k_is)
    (case iC_BadPlaces => k_is)
    (case tf_BadPlaces => k_is)
    (case ba_BadPlaces => k_is)
    (case ta_BadPlaces => k_is)
    (case hd_BadPlaces => k_is)
    (case ss_BadPlaces => k_is)
    (case ia_BadPlaces => k_is)
    (case lf_BadPlaces => k_is)
    (case cf_BadPlaces => k_is)
    (case ga_BadRelation => k_is)
    (case ka_BadRelation => k_is)
    (case qi_BadRelation => kx_is)
    (case ov_BadRelation => kx_is)
    (case sa_BadRelation => k_is)
    (case gg_BadRelation => k_is)
    (case gn_BadRelation => k_is)
    (case nn_BadRelation => k_is)
    (case iC_BadRelation => k_is)
    (case tf_BadRelation => k_is)
    (case ba_BadRelation => k_is)
    (case ta_BadRelation => k_is)
    (case hd_BadRelation => k_is)
    (case ss_BadRelation => k_is)
    (case ia_BadRelation => k_is)
    (case lf_BadRelation => k_is)
    (case cf_BadRelation => k_is)
    (case ga_RulerError => k_is)
    (case ka_RulerError => k_is)
    (case xa_RulerError => k_exc)
    (case ba_RulerError => k_is)
    (case ta_RulerError => k_is)
    (case ia_RulerError => k_is)
    (case sa_RulerError => k_is)
    (case e1_BadPlaces => k_is)
    (case e2_BadPlaces => k_is)
    (case e3_BadPlaces => k_is)
    (case e4_BadPlaces => k_is)
    (case e5_BadPlaces => k_is)
    (case e6_BadPlaces => k_is)
    (case e7_BadPlaces => k_is)
    (case e8_BadPlaces => k_is)
    (case e1_BadRelation => k_is)
    (case e2_BadRelation => k_is)
    (case e3_BadRelation => k_is)
    (case e4_BadRelation => k_is)
    (case e5_BadRelation => k_is)
    (case e6_BadRelation => k_is)
    (case e7_BadRelation => k_is)
    (case e8_BadRelation => k_is)
    (case u_BadPlaces_BadRelation => k_is)
    (case u_BadRelation_BadPlaces => k_is)
