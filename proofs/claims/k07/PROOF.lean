import PyProof.Rows.All
import Wide.All
import OpenK.AllK
import Wide.FinOn
import HandS.ForExc
import HandS.ForMost
import HandS.Walk
import HandS.Defaults
import HandS.IsInst
import HandS.SetFor
import HandS.More
import HandS.Flow
import HandS.Zip
import HandS.Wide
import HandS.ExcInit
import HandS.ExcIs
import KE.KExcIs
import PySem.Challenge.RW_registerways_k07_errors_of_their_own
import HandS.HeadHook2
import KE.KStateDown
import Lean
import HandS.Words
import HandS.WordsExc
import HandS.Head0
import HandS.Head1
import HandS.Head2
import HandS.HeadEnd
set_option Elab.async false
set_option linter.all false
set_option maxRecDepth 100000
set_option maxHeartbeats 0
/-! Values without the heap: what a name's value is as a tree, which containers a frame alone may change. -/
namespace Pv
open PySem L2

inductive D where
  | non | bl (b : Bool) | int (i : Int) | str (s : Str) | ref (a : Addr) | ty (n : String)
  | tup (ds : List D) | lst (ds : List D) | dic (ks : List Key) (ds : List D) | key (ks : List Key) | dit (ks : List (List Key)) (ds : List D) | obj (C : Addr) (fs : List Str) (ds : List D) | exc (C : Addr) (fs : List Str) (ds : List D) | ftup (ds : List D)

abbrev Fr := PySem.W.Frag
def StT (K : Fr) (a : Addr) (xs : List V) : Prop :=
    ∃ (o : Obj) (its : Array Value) (n : Nat), K.lookup a = some o ∧ o.cls = .type "tuple" ∧ o.data = .seq its n ∧ its.size ≤ sizeLine ∧ Vals xs its.toList
def StL (K : Fr) (a : Addr) (xs : List V) : Prop :=
    ∃ (o : Obj) (its : Array Value) (n : Nat), K.lookup a = some o ∧ o.cls = .type "list" ∧ o.dict = none ∧ o.data = .seq its n ∧ its.size ≤ sizeLine ∧ Vals xs its.toList

/-- a tuple that has no dict -/
def FzT (H : Hp) (a : Addr) (xs : List V) : Prop := ∃ o, H a = some (.frz o (.tup xs)) ∧ o.dict = none
/-- the dict of an error -/
def XD (O : Addr → Prop) (H : Hp) : Option Addr → List (Str × V) → Prop
  | none, ys => ys = []
  | some dx, ys => H dx = some (exd dx ys) ∧ ¬ O dx
mutual
/-- v is the tree d, and nothing that it reaches is in O -/
def Rp (K : Fr) (O : Addr → Prop) (H : Hp) : D → V → Prop
  | .non, v => v = .non
  | .bl b, v => v = .bl b
  | .int i, v => v = .int i
  | .str s, v => v = .str s
  | .ref a, v => v = .ref a
  | .ty n, v => v = .ty n
  | .tup ds, v => ∃ a xs, v = .ref a ∧ ((Rd H a (.tup xs) ∧ ¬ O a) ∨ StT K a xs) ∧ RpL K O H ds xs
  | .lst ds, v => ∃ a xs, v = .ref a ∧ ((Rd H a (.lst xs) ∧ ¬ O a) ∨ StL K a xs) ∧ RpL K O H ds xs
  | .dic ks ds, v => ∃ a ys, v = .ref a ∧ (H a = some (.dK ys) ∧ ¬ O a) ∧ ys.map (·.1) = ks ∧ RpL K O H ds (ys.map (·.2))
  | .key ks, v => ∃ a, v = .ref a ∧ H a = some (.tup (ks.map kV)) ∧ ¬ O a
  | .dit ks ds, v => ∃ a ys, v = .ref a ∧ (H a = some (.dT ys) ∧ ¬ O a) ∧ ys.map (·.1) = ks ∧ RpL K O H ds (ys.map (·.2))
  | .obj C fs ds, v => ∃ a dx ys, v = .ref a ∧ (H a = some (.ins C dx ys) ∧ ¬ O a) ∧ ys.map (·.1) = fs ∧ RpL K O H ds (ys.map (·.2))
  | .exc C fs ds, v => ∃ a od ys, v = .ref a ∧ (H a = some (exo a C od) ∧ ¬ O a) ∧ XD O H od ys ∧ ys.map (·.1) = fs ∧ RpL K O H ds (ys.map (·.2))
  | .ftup ds, v => ∃ a xs, v = .ref a ∧ (FzT H a xs ∧ ¬ O a) ∧ RpL K O H ds xs
def RpL (K : Fr) (O : Addr → Prop) (H : Hp) : List D → List V → Prop
  | [], xs => xs = []
  | d :: ds, xs => ∃ x r, xs = x :: r ∧ Rp K O H d x ∧ RpL K O H ds r
end

/-- what stands outside of O stays, and stays outside -/
def Gd (O : Addr → Prop) (H : Hp) (O' : Addr → Prop) (H' : Hp) : Prop := ∀ a o, H a = some o → ¬ O a → H' a = some o ∧ ¬ O' a

section
variable {K : Fr} {O O' O'' : Addr → Prop} {H H' H'' : Hp}
theorem Gd.rd {a : Addr} {u : HO} (g : Gd O H O' H') (h : Rd H a u ∧ ¬ O a) : Rd H' a u ∧ ¬ O' a := by
  obtain ⟨h | ⟨o, h⟩, n⟩ := h
  · exact ⟨.inl (g _ _ h n).1, (g _ _ h n).2⟩
  · exact ⟨.inr ⟨o, (g _ _ h n).1⟩, (g _ _ h n).2⟩
theorem XD.mono (g : Gd O H O' H') : ∀ {od : Option Addr} {ys : List (Str × V)}, XD O H od ys → XD O' H' od ys
  | none, _, h => h
  | some _, _, h => g _ _ h.1 h.2
mutual
theorem Rp.mono (g : Gd O H O' H') : ∀ (d : D) (v : V), Rp K O H d v → Rp K O' H' d v
  | .non, v, h => by simpa only [Rp] using h
  | .bl b, v, h => by simpa only [Rp] using h
  | .int i, v, h => by simpa only [Rp] using h
  | .str s, v, h => by simpa only [Rp] using h
  | .ref a, v, h => by simpa only [Rp] using h
  | .ty n, v, h => by simpa only [Rp] using h
  | .tup ds, v, h => by
    simp only [Rp] at h ⊢
    obtain ⟨a, xs, e, h1, h2⟩ := h
    exact ⟨a, xs, e, h1.imp g.rd id, RpL.mono g ds xs h2⟩
  | .lst ds, v, h => by
    simp only [Rp] at h ⊢
    obtain ⟨a, xs, e, h1, h2⟩ := h
    exact ⟨a, xs, e, h1.imp g.rd id, RpL.mono g ds xs h2⟩
  | .dic ks ds, v, h => by
    simp only [Rp] at h ⊢
    obtain ⟨a, ys, e, h1, h3, h2⟩ := h
    exact ⟨a, ys, e, g _ _ h1.1 h1.2, h3, RpL.mono g ds _ h2⟩
  | .key ks, v, h => by
    simp only [Rp] at h ⊢
    obtain ⟨a, e, h1, h2⟩ := h
    exact ⟨a, e, g _ _ h1 h2⟩
  | .dit ks ds, v, h => by
    simp only [Rp] at h ⊢
    obtain ⟨a, ys, e, h1, h3, h2⟩ := h
    exact ⟨a, ys, e, g _ _ h1.1 h1.2, h3, RpL.mono g ds _ h2⟩
  | .obj C fs ds, v, h => by
    simp only [Rp] at h ⊢
    obtain ⟨a, dx, ys, e, h1, h3, h2⟩ := h
    exact ⟨a, dx, ys, e, g _ _ h1.1 h1.2, h3, RpL.mono g ds _ h2⟩
  | .exc C fs ds, v, h => by
    simp only [Rp] at h ⊢
    obtain ⟨a, od, ys, e, h1, h4, h3, h2⟩ := h
    exact ⟨a, od, ys, e, g _ _ h1.1 h1.2, h4.mono g, h3, RpL.mono g ds _ h2⟩
  | .ftup ds, v, h => by
    simp only [Rp] at h ⊢
    obtain ⟨a, xs, e, ⟨⟨o, h1, h3⟩, h4⟩, h2⟩ := h
    exact ⟨a, xs, e, ⟨⟨o, (g _ _ h1 h4).1, h3⟩, (g _ _ h1 h4).2⟩, RpL.mono g ds xs h2⟩
theorem RpL.mono (g : Gd O H O' H') : ∀ (ds : List D) (xs : List V), RpL K O H ds xs → RpL K O' H' ds xs
  | [], xs, h => by simpa only [RpL] using h
  | d :: ds, xs, h => by
    simp only [RpL] at h ⊢
    obtain ⟨x, r, e, h1, h2⟩ := h
    exact ⟨x, r, e, Rp.mono g d x h1, RpL.mono g ds r h2⟩
end
theorem RpL.length : ∀ {ds : List D} {xs : List V}, RpL K O H ds xs → xs.length = ds.length
  | [], xs, h => by simp only [RpL] at h; subst h; rfl
  | d :: ds, xs, h => by
    simp only [RpL] at h
    obtain ⟨x, r, rfl, h1, h2⟩ := h
    exact congrArg Nat.succ (RpL.length h2)
theorem RpL.get : ∀ {ds : List D} {xs : List V} {i : Nat} {d : D}, RpL K O H ds xs → ds[i]? = some d → ∃ x, xs[i]? = some x ∧ Rp K O H d x
  | [], xs, i, d, h, e => by simp at e
  | d :: ds, xs, 0, d', h, e => by
    simp only [RpL] at h
    obtain ⟨x, r, rfl, h1, h2⟩ := h
    cases Option.some.inj (show some d = some d' from e)
    exact ⟨x, rfl, h1⟩
  | d :: ds, xs, i + 1, d', h, e => by
    simp only [RpL] at h
    obtain ⟨x, r, rfl, h1, h2⟩ := h
    exact RpL.get (i := i) h2 e
theorem RpL.get' {ds : List D} {xs : List V} {i : Nat} {x : V} (h : RpL K O H ds xs) (e : xs[i]? = some x) : ∃ d, ds[i]? = some d ∧ Rp K O H d x := by
  have hl := h.length
  have hi : i < ds.length := by rw [← hl]; exact (List.getElem?_eq_some_iff.mp e).1
  obtain ⟨y, h1, h2⟩ := h.get (i := i) (List.getElem?_eq_getElem hi)
  rw [e] at h1
  cases h1
  exact ⟨_, List.getElem?_eq_getElem hi, h2⟩
theorem RpL.append : ∀ {ds es : List D} {xs ys : List V}, RpL K O H ds xs → RpL K O H es ys → RpL K O H (ds ++ es) (xs ++ ys)
  | [], es, xs, ys, h, h' => by simp only [RpL] at h; subst h; exact h'
  | d :: ds, es, xs, ys, h, h' => by
    simp only [RpL] at h
    obtain ⟨x, r, rfl, h1, h2⟩ := h
    show RpL K O H (d :: (ds ++ es)) (x :: (r ++ ys))
    simp only [RpL]
    exact ⟨x, _, rfl, h1, RpL.append h2 h'⟩
theorem RpL.nil : RpL K O H [] [] := by simp only [RpL]
theorem RpL.cons {d : D} {ds : List D} {x : V} {xs : List V} (h1 : Rp K O H d x) (h2 : RpL K O H ds xs) : RpL K O H (d :: ds) (x :: xs) := by
  simp only [RpL]; exact ⟨x, xs, rfl, h1, h2⟩
theorem RpL.take : ∀ (n : Nat) {ds : List D} {xs : List V}, RpL K O H ds xs → RpL K O H (ds.take n) (xs.take n)
  | 0, _, _, _ => RpL.nil
  | n + 1, [], xs, h => by simp only [RpL] at h; subst h; exact RpL.nil
  | n + 1, d :: ds, xs, h => by
    simp only [RpL] at h
    obtain ⟨x, r, rfl, h1, h2⟩ := h
    exact RpL.cons h1 (RpL.take n h2)
theorem RpL.drop : ∀ (n : Nat) {ds : List D} {xs : List V}, RpL K O H ds xs → RpL K O H (ds.drop n) (xs.drop n)
  | 0, _, _, h => h
  | n + 1, [], xs, h => by simp only [RpL] at h; subst h; exact RpL.nil
  | n + 1, d :: ds, xs, h => by
    simp only [RpL] at h
    obtain ⟨x, r, rfl, h1, h2⟩ := h
    exact RpL.drop n h2
theorem RpL.set : ∀ {ds : List D} {xs : List V} (i : Nat) {d : D} {x : V}, RpL K O H ds xs → Rp K O H d x → RpL K O H (ds.set i d) (xs.set i x)
  | [], xs, i, d, x, h, h' => by simp only [RpL] at h; subst h; exact RpL.nil
  | d :: ds, xs, 0, d', x', h, h' => by
    simp only [RpL] at h
    obtain ⟨x, r, rfl, h1, h2⟩ := h
    exact RpL.cons h' h2
  | d :: ds, xs, i + 1, d', x', h, h' => by
    simp only [RpL] at h
    obtain ⟨x, r, rfl, h1, h2⟩ := h
    exact RpL.cons h1 (RpL.set i h2 h')
theorem RpL.eraseIdx : ∀ {ds : List D} {xs : List V} (i : Nat), RpL K O H ds xs → RpL K O H (ds.eraseIdx i) (xs.eraseIdx i)
  | [], xs, i, h => by simp only [RpL] at h; subst h; exact RpL.nil
  | d :: ds, xs, 0, h => by
    simp only [RpL] at h
    obtain ⟨x, r, rfl, h1, h2⟩ := h
    exact h2
  | d :: ds, xs, i + 1, h => by
    simp only [RpL] at h
    obtain ⟨x, r, rfl, h1, h2⟩ := h
    exact RpL.cons h1 (RpL.eraseIdx i h2)
theorem Rp.intL : ∀ {ns : List Int} {xs : List V}, RpL K O H (ns.map D.int) xs → xs = ns.map V.int
  | [], xs, h => by simpa only [List.map, RpL] using h
  | n :: ns, xs, h => by
    simp only [List.map, RpL, Rp] at h
    obtain ⟨x, r, rfl, rfl, h2⟩ := h
    rw [Rp.intL h2]; rfl
theorem Rp.ofInts : ∀ {ns : List Int}, RpL K O H (ns.map D.int) (ns.map V.int)
  | [] => RpL.nil
  | n :: ns => RpL.cons (by simp only [Rp]) Rp.ofInts
end

/-- the frame's own container at a is the tree d -/
def Ow (K : Fr) (O : Addr → Prop) (H : Hp) (a : Addr) : D → Prop
  | .lst ds => ∃ xs, H a = some (.lst xs) ∧ RpL K O H ds xs
  | .dic ks ds => ∃ ys, H a = some (.dK ys) ∧ ys.map (·.1) = ks ∧ RpL K O H ds (ys.map (·.2))
  | .dit ks ds => ∃ ys, H a = some (.dT ys) ∧ ys.map (·.1) = ks ∧ RpL K O H ds (ys.map (·.2))
  | .obj C fs ds => ∃ dx ys, H a = some (.ins C dx ys) ∧ ys.map (·.1) = fs ∧ RpL K O H ds (ys.map (·.2))
  | _ => False
/-- what a reader sees: the container itself may be anybody's own -/
def Rw (K : Fr) (O : Addr → Prop) (H : Hp) : D → V → Prop
  | .lst ds, v => ∃ a xs, v = .ref a ∧ SqL K H a xs ∧ RpL K O H ds xs
  | .dic ks ds, v => ∃ a ys, v = .ref a ∧ H a = some (.dK ys) ∧ ys.map (·.1) = ks ∧ RpL K O H ds (ys.map (·.2))
  | .dit ks ds, v => ∃ a ys, v = .ref a ∧ H a = some (.dT ys) ∧ ys.map (·.1) = ks ∧ RpL K O H ds (ys.map (·.2))
  | .obj C fs ds, v => ∃ a dx ys, v = .ref a ∧ H a = some (.ins C dx ys) ∧ ys.map (·.1) = fs ∧ RpL K O H ds (ys.map (·.2))
  | d, v => Rp K O H d v
def mutO : HO → Bool
  | .lst _ => true | .dK _ => true | .dT _ => true | .ins _ _ _ => true | .frz _ u => mutO u | _ => false
section
variable {K : Fr} {O O' O'' : Addr → Prop} {H H' H'' : Hp} {a : Addr} {d : D} {v : V}
theorem Ow.mono (g : Gd O H O' H') (e : H' a = H a) (h : Ow K O H a d) : Ow K O' H' a d := by
  cases d <;> simp only [Ow] at h ⊢
  case lst ds => obtain ⟨xs, h1, h2⟩ := h; exact ⟨xs, e.trans h1, h2.mono g⟩
  case dic ks ds => obtain ⟨ys, h1, h3, h2⟩ := h; exact ⟨ys, e.trans h1, h3, h2.mono g⟩
  case dit ks ds => obtain ⟨ys, h1, h3, h2⟩ := h; exact ⟨ys, e.trans h1, h3, h2.mono g⟩
  case obj C fs ds => obtain ⟨dx, ys, h1, h3, h2⟩ := h; exact ⟨dx, ys, e.trans h1, h3, h2.mono g⟩
theorem Ow.tr (h : Ow K O H a d) : ∃ o, H a = some o ∧ mutO o = true := by
  cases d <;> simp only [Ow] at h
  case lst ds => obtain ⟨xs, h1, h2⟩ := h; exact ⟨_, h1, rfl⟩
  case dic ks ds => obtain ⟨ys, h1, h3, h2⟩ := h; exact ⟨_, h1, rfl⟩
  case dit ks ds => obtain ⟨ys, h1, h3, h2⟩ := h; exact ⟨_, h1, rfl⟩
  case obj C fs ds => obtain ⟨dx, ys, h1, h3, h2⟩ := h; exact ⟨_, h1, rfl⟩
theorem Ow.rw (h : Ow K O H a d) : Rw K O H d (.ref a) := by
  cases d <;> simp only [Ow] at h
  case lst ds => obtain ⟨xs, h1, h2⟩ := h; exact ⟨a, xs, rfl, .of h1, h2⟩
  case dic ks ds => obtain ⟨ys, h1, h3, h2⟩ := h; exact ⟨a, ys, rfl, h1, h3, h2⟩
  case dit ks ds => obtain ⟨ys, h1, h3, h2⟩ := h; exact ⟨a, ys, rfl, h1, h3, h2⟩
  case obj C fs ds => obtain ⟨dx, ys, h1, h3, h2⟩ := h; exact ⟨a, dx, ys, rfl, h1, h3, h2⟩
theorem Ow.rp (n : ¬ O a) (h : Ow K O H a d) : Rp K O H d (.ref a) := by
  cases d <;> simp only [Ow] at h <;> simp only [Rp]
  case lst ds => obtain ⟨xs, h1, h2⟩ := h; exact ⟨a, xs, rfl, .inl ⟨.of h1, n⟩, h2⟩
  case dic ks ds => obtain ⟨ys, h1, h3, h2⟩ := h; exact ⟨a, ys, rfl, ⟨h1, n⟩, h3, h2⟩
  case dit ks ds => obtain ⟨ys, h1, h3, h2⟩ := h; exact ⟨a, ys, rfl, ⟨h1, n⟩, h3, h2⟩
  case obj C fs ds => obtain ⟨dx, ys, h1, h3, h2⟩ := h; exact ⟨a, dx, ys, rfl, ⟨h1, n⟩, h3, h2⟩
theorem Rp.rw (h : Rp K O H d v) : Rw K O H d v := by
  cases d <;> try exact h
  case lst ds =>
    simp only [Rp] at h; obtain ⟨a, xs, e, h1, h2⟩ := h
    exact ⟨a, xs, e, h1.imp (·.1) id, h2⟩
  case dic ks ds => simp only [Rp] at h; obtain ⟨a, ys, e, h1, h3, h2⟩ := h; exact ⟨a, ys, e, h1.1, h3, h2⟩
  case dit ks ds => simp only [Rp] at h; obtain ⟨a, ys, e, h1, h3, h2⟩ := h; exact ⟨a, ys, e, h1.1, h3, h2⟩
  case obj C fs ds => simp only [Rp] at h; obtain ⟨a, dx, ys, e, h1, h3, h2⟩ := h; exact ⟨a, dx, ys, e, h1.1, h3, h2⟩
theorem Ex_seq {xs : List V} (e : Same H H') (h : SqL K H a xs) : SqL K H' a xs := e.seq h
theorem same_gd (e : Same H H') (k : ∀ a o, H a = some o → ¬ O a → ¬ O' a) : Gd O H O' H' := fun a o h n => ⟨e a o h, k a o h n⟩
/-- a reader's view stays while nothing changes -/
theorem Rw.mono (e : Same H H') (k : ∀ a o, H a = some o → ¬ O a → ¬ O' a) (h : Rw K O H d v) : Rw K O' H' d v := by
  have g : Gd O H O' H' := same_gd e k
  cases d <;> try exact Rp.mono g _ _ h
  case lst ds => obtain ⟨a, xs, e1, h1, h2⟩ := h; exact ⟨a, xs, e1, e.seq h1, h2.mono g⟩
  case dic ks ds =>
    obtain ⟨a, ys, e1, h1, h3, h2⟩ := h
    exact ⟨a, ys, e1, e _ _ h1, h3, h2.mono g⟩
  case dit ks ds =>
    obtain ⟨a, ys, e1, h1, h3, h2⟩ := h
    exact ⟨a, ys, e1, e _ _ h1, h3, h2.mono g⟩
  case obj C fs ds => obtain ⟨a, dx, ys, e1, h1, h3, h2⟩ := h; exact ⟨a, dx, ys, e1, e _ _ h1, h3, h2.mono g⟩
end
/-- the reading of several -/
def RwL (K : Fr) (O : Addr → Prop) (H : Hp) : List D → List V → Prop
  | [], xs => xs = []
  | d :: ds, xs => ∃ x r, xs = x :: r ∧ Rw K O H d x ∧ RwL K O H ds r
section
variable {K : Fr} {O O' O'' : Addr → Prop} {H H' H'' : Hp} {a : Addr} {d : D} {v : V}
theorem RwL.mono (e : Same H H') (k : ∀ a o, H a = some o → ¬ O a → ¬ O' a) : ∀ {ds : List D} {xs : List V}, RwL K O H ds xs → RwL K O' H' ds xs
  | [], _, h => h
  | _ :: _, _, ⟨x, r, h0, h1, h2⟩ => ⟨x, r, h0, h1.mono e k, RwL.mono e k h2⟩
theorem RpL.rwL : ∀ {ds : List D} {xs : List V}, RpL K O H ds xs → RwL K O H ds xs
  | [], xs, h => by simp only [RpL] at h; exact h
  | d :: ds, xs, h => by
    simp only [RpL] at h
    obtain ⟨x, r, rfl, h1, h2⟩ := h
    exact ⟨x, r, rfl, h1.rw, RpL.rwL h2⟩
end
end Pv
namespace Pv
open PySem L2

/-- a slot: shared, the frame's own, a caller's own that was handed in to be changed -/
inductive Fl where
  | sh | own | io
  deriving DecidableEq
abbrev Env := List (Option (Fl × D))
inductive Kd where
  | sh | fr | ow (i : Nat)
/-- E: containers that were there and must not be met; ps: the handed-in ones by slot; H0: the heap at the entry -/
structure Gx where
  E : Addr → Prop
  ps : List (Option Addr)
  H0 : Hp
def Od (G : Gx) (T : List Addr) (os : List (Option Addr)) (a : Addr) : Prop := G.E a ∨ a ∈ T ∨ some a ∈ os

structure I (K : Fr) (G : Gx) (T : List Addr) (os : List (Option Addr)) (ρ : Env) (σ : L2.St) (H : Hp) : Prop where
  lo : os.length = ρ.length
  ls : σ.length = ρ.length
  nT : T.Nodup
  nO : ∀ a, a ∈ T → some a ∉ os
  inj : ∀ (i j : Nat) a, os[i]? = some (some a) → os[j]? = some (some a) → i = j
  tr : ∀ a, Od G T os a → ∃ o, H a = some o ∧ mutO o = true
  ex : ∀ a, G.E a → a ∉ T ∧ some a ∉ os
  sh : ∀ (i : Nat) d, ρ[i]? = some (some (.sh, d)) → ∃ v, σ[i]? = some (some v) ∧ Rp K (Od G T os) H d v
  ow : ∀ (i : Nat) f d, ρ[i]? = some (some (f, d)) → f ≠ .sh → ∃ a, os[i]? = some (some a) ∧ σ[i]? = some (some (.ref a)) ∧ Ow K (Od G T os) H a d
  no : ∀ (i : Nat) a, os[i]? = some (some a) → ∃ f d, f ≠ .sh ∧ ρ[i]? = some (some (f, d))
  io : ∀ (i : Nat) d, ρ[i]? = some (some (.io, d)) → ∃ a, G.ps[i]? = some (some a) ∧ os[i]? = some (some a)
  h0 : ∀ a, H a = none → G.H0 a = none
  f0 : ∀ a, a ∈ T → G.H0 a = none
  g0 : ∀ (i : Nat) a d, os[i]? = some (some a) → ρ[i]? = some (some (.own, d)) → G.H0 a = none

section
variable {K : Fr} {G : Gx} {T : List Addr} {os os' os'' : List (Option Addr)} {ρ ρ' ρ'' : Env} {σ σ' : L2.St} {H H' H'' : Hp} {a p : Addr} {d : D} {v : V}
theorem I.ext (h : I K G T os ρ σ H) (e : Same H H') : I K G T os ρ σ H' := by
  have g : Gd (Od G T os) H (Od G T os) H' := same_gd e fun _ _ _ n => n
  refine ⟨h.lo, h.ls, h.nT, h.nO, h.inj, fun a ha => ?_, h.ex, fun i d r => ?_, fun i f d r n => ?_, h.no, h.io, fun a q => h.h0 a (Same.free e q), h.f0, h.g0⟩
  · obtain ⟨o, h1, h2⟩ := h.tr a ha; exact ⟨o, e _ _ h1, h2⟩
  · obtain ⟨v, h1, h2⟩ := h.sh i d r; exact ⟨v, h1, Rp.mono g _ _ h2⟩
  · obtain ⟨a, h1, h2, h3⟩ := h.ow i f d r n
    obtain ⟨o, q, _⟩ := h3.tr
    exact ⟨a, h1, h2, h3.mono g ((e _ _ q).trans q.symm)⟩
theorem Od.cons : Od G (p :: T) os a ↔ Od G T os a ∨ a = p := by
  unfold Od
  rw [List.mem_cons]
  constructor
  · rintro (h | (h | h) | h)
    · exact .inl (.inl h)
    · exact .inr h
    · exact .inl (.inr (.inl h))
    · exact .inl (.inr (.inr h))
  · rintro ((h | h | h) | h)
    · exact .inl h
    · exact .inr (.inl (.inr h))
    · exact .inr (.inr h)
    · exact .inr (.inl (.inl h))
theorem I.temp (h : I K G T os ρ σ H) (e : Same H H') (n : H p = none) (m : ∃ o, H' p = some o ∧ mutO o = true) : I K G (p :: T) os ρ σ H' := by
  have no : ∀ a, Od G T os a → a ≠ p := fun a ha q => by
    obtain ⟨o, h1, _⟩ := h.tr a ha
    rw [q, n] at h1; cases h1
  have g : Gd (Od G T os) H (Od G (p :: T) os) H' := same_gd e fun a o h1 n1 q => by
    rcases Od.cons.mp q with q | q
    · exact n1 q
    · rw [q, n] at h1; cases h1
  refine ⟨h.lo, h.ls, List.nodup_cons.mpr ⟨fun q => no p (.inr (.inl q)) rfl, h.nT⟩, fun a ha q => ?_, h.inj, fun a ha => ?_, fun a ha => ?_, fun i d r => ?_, fun i f d r n => ?_, h.no, h.io, fun a q => h.h0 a (Same.free e q), fun a ha => ?_, h.g0⟩
  · rcases List.mem_cons.mp ha with e | e
    · exact no a (.inr (.inr q)) e
    · exact h.nO a e q
  · rcases Od.cons.mp ha with q | q
    · obtain ⟨o, h1, h2⟩ := h.tr a q; exact ⟨o, e _ _ h1, h2⟩
    · rw [q]; exact m
  · refine ⟨fun q => ?_, (h.ex a ha).2⟩
    rcases List.mem_cons.mp q with q | q
    · exact no a (.inl ha) q
    · exact (h.ex a ha).1 q
  · obtain ⟨v, h1, h2⟩ := h.sh i d r; exact ⟨v, h1, Rp.mono g _ _ h2⟩
  · obtain ⟨a, h1, h2, h3⟩ := h.ow i f d r n
    obtain ⟨o, q, _⟩ := h3.tr
    exact ⟨a, h1, h2, h3.mono g ((e _ _ q).trans q.symm)⟩
  · rcases List.mem_cons.mp ha with q | q
    · rw [q]; exact h.h0 p n
    · exact h.f0 a q
theorem Gd.drop : Gd (Od G (p :: T) os) H (Od G T os) H := fun a o h n => ⟨h, fun q => n (Od.cons.mpr (.inl q))⟩
theorem I.drop (h : I K G (p :: T) os ρ σ H) : I K G T os ρ σ H := by
  refine ⟨h.lo, h.ls, (List.nodup_cons.mp h.nT).2, fun a ha => h.nO a (List.mem_cons_of_mem _ ha), h.inj, fun a ha => h.tr a (Od.cons.mpr (.inl ha)), fun a ha => ⟨fun q => (h.ex a ha).1 (List.mem_cons_of_mem _ q), (h.ex a ha).2⟩, fun i d r => ?_, fun i f d r n => ?_, h.no, h.io, h.h0, fun a ha => h.f0 a (List.mem_cons_of_mem _ ha), h.g0⟩
  · obtain ⟨v, h1, h2⟩ := h.sh i d r; exact ⟨v, h1, Rp.mono Gd.drop _ _ h2⟩
  · obtain ⟨a, h1, h2, h3⟩ := h.ow i f d r n
    exact ⟨a, h1, h2, h3.mono Gd.drop rfl⟩
theorem I.ndrop (h : I K G (p :: T) os ρ σ H) : ¬ Od G T os p := by
  rintro (q | q | q)
  · exact (h.ex p q).1 (List.mem_cons_self ..)
  · exact (List.nodup_cons.mp h.nT).1 q
  · exact h.nO p (List.mem_cons_self ..) q

/-- a value, with the state behind it -/
def Tm (K : Fr) (G : Gx) (T : List Addr) (os : List (Option Addr)) (ρ : Env) (σ : L2.St) (H : Hp) : Kd → D → V → Prop
  | .sh, d, v => I K G T os ρ σ H ∧ Rp K (Od G T os) H d v
  | .fr, d, v => ∃ a, v = .ref a ∧ I K G (a :: T) os ρ σ H ∧ Ow K (Od G (a :: T) os) H a d
  | .ow i, d, v => I K G T os ρ σ H ∧ ∃ a f, v = .ref a ∧ os[i]? = some (some a) ∧ f ≠ .sh ∧ ρ[i]? = some (some (f, d))
theorem Tm.i {k : Kd} (h : Tm K G T os ρ σ H k d v) : I K G T os ρ σ H := by
  cases k with
  | sh => exact h.1
  | fr => obtain ⟨a, _, h, _⟩ := h; exact h.drop
  | ow i => exact h.1
theorem Tm.rw {k : Kd} (h : Tm K G T os ρ σ H k d v) : Rw K (Od G T os) H d v := by
  cases k with
  | sh => exact h.2.rw
  | fr => obtain ⟨a, rfl, h1, h2⟩ := h; exact (h2.mono Gd.drop rfl).rw
  | ow i =>
    obtain ⟨h, a, f, rfl, h1, h2, h3⟩ := h
    obtain ⟨b, q1, _, q3⟩ := h.ow i f d h3 h2
    rw [h1] at q1
    cases q1
    exact q3.rw
/-- what is not an own slot can be kept by anybody -/
def Kd.free : Kd → Bool
  | .ow _ => false
  | _ => true
theorem Tm.rp {k : Kd} (hk : k.free = true) (h : Tm K G T os ρ σ H k d v) : Rp K (Od G T os) H d v := by
  cases k with
  | sh => exact h.2
  | fr => obtain ⟨a, rfl, h1, h2⟩ := h; exact (h2.mono Gd.drop rfl).rp h1.ndrop
  | ow i => cases hk

/-- what an expression may do: it changes own containers, it gives none a new place -/
structure Stp (os : List (Option Addr)) (H : Hp) (os' : List (Option Addr)) (H' : Hp) : Prop where
  keep : ∀ a o, H a = some o → some a ∉ os → H' a = some o
  own : ∀ (i : Nat) a, os'[i]? = some (some a) → os[i]? = some (some a)
  fre : ∀ a, H' a = none → H a = none
/-- a new container stands where nothing stood -/
def Nw (H : Hp) (k : Kd) (v : V) : Prop := k = .fr → ∀ a, v = .ref a → H a = none
theorem Nw.sh {H : Hp} {v : V} : Nw H .sh v := fun e => nomatch e
theorem Nw.ow {H : Hp} {i : Nat} {v : V} : Nw H (.ow i) v := fun e => nomatch e
theorem mem_get {α : Type} {l : List α} {x : α} (h : x ∈ l) : ∃ i : Nat, l[i]? = some x := List.getElem?_of_mem h
theorem mem_of_get {α : Type} {l : List α} {i : Nat} {x : α} (h : l[i]? = some x) : x ∈ l := List.mem_of_getElem? h
theorem Stp.refl : Stp os H os H := ⟨fun _ _ h _ => h, fun _ _ h => h, fun _ h => h⟩
theorem Stp.of (e : Same H H') : Stp os H os H' := ⟨fun _ _ h _ => e _ _ h, fun _ _ h => h, fun _ h => Same.free e h⟩
theorem Stp.mem (s : Stp os H os' H') (h : some a ∈ os') : some a ∈ os := by
  obtain ⟨i, h⟩ := mem_get h
  exact mem_of_get (s.own i a h)
theorem Stp.trans (s : Stp os H os' H') (t : Stp os' H' os'' H'') : Stp os H os'' H'' :=
  ⟨fun a o h n => t.keep a o (s.keep a o h n) fun q => n (s.mem q), fun i a h => s.own i a (t.own i a h), fun a h => s.fre a (t.fre a h)⟩
theorem Stp.gd (s : Stp os H os' H') : Gd (Od G T os) H (Od G T os') H' := fun a o h n =>
  ⟨s.keep a o h fun q => n (.inr (.inr q)), fun q => n (by
    rcases q with q | q | q
    · exact .inl q
    · exact .inr (.inl q)
    · exact .inr (.inr (s.mem q)))⟩

/-- an own slot given up: from now on anybody may hold it -/
theorem mem_set_none {l : List (Option Addr)} {i : Nat} {a : Addr} (h : some a ∈ l.set i none) : some a ∈ l := by
  obtain ⟨j, h⟩ := mem_get h
  by_cases e : i = j
  · subst e
    by_cases q : i < l.length
    · rw [List.getElem?_set_self q] at h; cases h
    · rw [List.getElem?_eq_none (by simpa using q)] at h; cases h
  · rw [List.getElem?_set_ne e] at h; exact mem_of_get h
theorem get_set_none {l : List (Option Addr)} {i j : Nat} {a : Addr} (h : (l.set i none)[j]? = some (some a)) : l[j]? = some (some a) ∧ j ≠ i := by
  by_cases e : i = j
  · subst e
    by_cases q : i < l.length
    · rw [List.getElem?_set_self q] at h; cases h
    · rw [List.getElem?_eq_none (by simpa using q)] at h; cases h
  · rw [List.getElem?_set_ne e] at h; exact ⟨h, fun q => e q.symm⟩
theorem I.unown {i : Nat} {f : Fl} (h : I K G T os ρ σ H) (r : ρ[i]? = some (some (f, d))) (n : f ≠ .sh) :
    ∃ a, os[i]? = some (some a) ∧ I K G T (os.set i none) (ρ.set i (some (.sh, d))) σ H ∧ Rp K (Od G T (os.set i none)) H d (.ref a) := by
  obtain ⟨a, h1, h2, h3⟩ := h.ow i f d r n
  have hi : i < ρ.length := (List.getElem?_eq_some_iff.mp r).1
  have g : Gd (Od G T os) H (Od G T (os.set i none)) H := Stp.gd (show Stp os H (os.set i none) H from ⟨fun _ _ h _ => h, fun j b q => (get_set_none q).1, fun _ h => h⟩)
  have na : ¬ Od G T (os.set i none) a := by
    rintro (q | q | q)
    · exact (h.ex a q).2 (mem_of_get h1)
    · exact h.nO a q (mem_of_get h1)
    · obtain ⟨j, q⟩ := mem_get q
      obtain ⟨q1, q2⟩ := get_set_none q
      exact q2 (h.inj j i a q1 h1)
  refine ⟨a, h1, ⟨?_, ?_, h.nT, fun b hb q => h.nO b hb (mem_set_none q), fun j k b q1 q2 => h.inj j k b (get_set_none q1).1 (get_set_none q2).1, fun b hb => h.tr b ?_, fun b hb => ⟨(h.ex b hb).1, fun q => (h.ex b hb).2 (mem_set_none q)⟩, fun j d' q => ?_, fun j f' d' q n' => ?_, fun j b q => ?_, fun j d' q => ?_, h.h0, h.f0, fun j b d' q1 q2 => ?_⟩, (h3.mono g rfl).rp na⟩
  · rw [List.length_set, List.length_set]; exact h.lo
  · rw [List.length_set]; exact h.ls
  · rcases hb with q | q | q
    · exact .inl q
    · exact .inr (.inl q)
    · exact .inr (.inr (mem_set_none q))
  · by_cases e : i = j
    · subst e
      rw [List.getElem?_set_self hi] at q
      cases q
      exact ⟨_, h2, (h3.mono g rfl).rp na⟩
    · rw [List.getElem?_set_ne e] at q
      obtain ⟨v, q1, q2⟩ := h.sh j d' q
      exact ⟨v, q1, Rp.mono g _ _ q2⟩
  · by_cases e : i = j
    · subst e
      rw [List.getElem?_set_self hi] at q
      cases q
      exact absurd rfl n'
    · rw [List.getElem?_set_ne e] at q
      obtain ⟨b, q1, q2, q3⟩ := h.ow j f' d' q n'
      exact ⟨b, by rw [List.getElem?_set_ne e]; exact q1, q2, q3.mono g rfl⟩
  · obtain ⟨q1, q2⟩ := get_set_none q
    obtain ⟨f', d', q3, q4⟩ := h.no j b q1
    exact ⟨f', d', q3, by rw [List.getElem?_set_ne (fun z => q2 z.symm)]; exact q4⟩
  · by_cases e : i = j
    · subst e
      rw [List.getElem?_set_self hi] at q
      cases q
    · rw [List.getElem?_set_ne e] at q
      obtain ⟨b, q1, q2⟩ := h.io j d' q
      exact ⟨b, q1, by rw [List.getElem?_set_ne e]; exact q2⟩
  · obtain ⟨q3, q4⟩ := get_set_none q1
    rw [List.getElem?_set_ne (fun z => q4 z.symm)] at q2
    exact h.g0 j b d' q3 q2
/-- an own container changed in its place -/
theorem I.chg {i : Nat} {f : Fl} {d' : D} (h : I K G T os ρ σ H) (r : ρ[i]? = some (some (f, d))) (n : f ≠ .sh) (ha : os[i]? = some (some a)) (k : ∀ b o, b ≠ a → H b = some o → H' b = some o)
    (w : Ow K (Od G T os) H' a d') : I K G T os (ρ.set i (some (f, d'))) σ H' ∧ Stp os H os H' := by
  have hi : i < ρ.length := (List.getElem?_eq_some_iff.mp r).1
  have hm := mem_of_get ha
  have g : Gd (Od G T os) H (Od G T os) H' := fun b o q n => ⟨k b o (fun z => n (by rw [z]; exact .inr (.inr hm))) q, n⟩
  refine ⟨⟨?_, ?_, h.nT, h.nO, h.inj, fun b hb => ?_, h.ex, fun j e q => ?_, fun j f' e q n' => ?_, fun j b q => ?_, fun j e q => ?_, fun b q => ?_, h.f0, fun j b e q1 q2 => ?_⟩, ⟨fun b o q1 q2 => k b o (fun z => q2 (by rw [z]; exact hm)) q1, fun _ _ q => q, fun b q => ?_⟩⟩
  · rw [List.length_set]; exact h.lo
  · rw [List.length_set]; exact h.ls
  · by_cases z : b = a
    · rw [z]; exact w.tr
    · obtain ⟨o, q1, q2⟩ := h.tr b hb; exact ⟨o, k b o z q1, q2⟩
  · by_cases z : i = j
    · subst z
      rw [List.getElem?_set_self hi] at q
      cases q
      exact absurd rfl n
    · rw [List.getElem?_set_ne z] at q
      obtain ⟨v, q1, q2⟩ := h.sh j e q
      exact ⟨v, q1, Rp.mono g _ _ q2⟩
  · by_cases z : i = j
    · subst z
      rw [List.getElem?_set_self hi] at q
      cases q
      obtain ⟨b, q1, q2, _⟩ := h.ow i f d r n
      rw [ha] at q1
      cases q1
      exact ⟨a, ha, q2, w⟩
    · rw [List.getElem?_set_ne z] at q
      obtain ⟨b, q1, q2, q3⟩ := h.ow j f' e q n'
      have hb : b ≠ a := fun y => z (h.inj i j a ha (by rw [y] at q1; exact q1))
      obtain ⟨o, q4, _⟩ := q3.tr
      exact ⟨b, q1, q2, q3.mono g ((k b o hb q4).trans q4.symm)⟩
  · by_cases z : i = j
    · subst z
      exact ⟨f, d', n, List.getElem?_set_self hi⟩
    · obtain ⟨f', e, q1, q2⟩ := h.no j b q
      exact ⟨f', e, q1, by rw [List.getElem?_set_ne z]; exact q2⟩
  · by_cases z : i = j
    · subst z
      rw [List.getElem?_set_self hi] at q
      cases q
      exact h.io i d r
    · rw [List.getElem?_set_ne z] at q
      exact h.io j e q
  · by_cases z : b = a
    · subst z
      obtain ⟨o, q1, _⟩ := w.tr
      rw [q1] at q; cases q
    · cases q1 : H b with
      | none => exact h.h0 b q1
      | some o => rw [k b o z q1] at q; cases q
  · by_cases z : i = j
    · subst z
      rw [List.getElem?_set_self hi] at q2
      cases q2
      exact h.g0 i b d q1 r
    · rw [List.getElem?_set_ne z] at q2
      exact h.g0 j b e q1 q2
  · by_cases z : b = a
    · subst z
      obtain ⟨o, q1, _⟩ := w.tr
      rw [q1] at q; cases q
    · cases q1 : H b with
      | none => rfl
      | some o => rw [k b o z q1] at q; cases q
end

/-! ### what is said of an expression -/
/-- it changes nothing -/
def tK (K : Fr) (ρ : Env) (d : D) (k : Kd) : TE := fun σ H Q => ∃ G T os, I K G T os ρ σ H ∧ ∀ v H', Tm K G T os ρ σ H' k d v → Same H H' → Nw H k v → Q v H'
def tR (K : Fr) (ρ : Env) (d : D) : TE := fun σ H Q => ∃ G T os, I K G T os ρ σ H ∧ ∀ v H', I K G T os ρ σ H' → Rw K (Od G T os) H' d v → Same H H' → Q v H'
def tRA (K : Fr) (ρ : Env) (ds : List D) : TA := fun σ H Q => ∃ G T os, I K G T os ρ σ H ∧ ∀ vs H', I K G T os ρ σ H' → RwL K (Od G T os) H' ds vs → Same H H' → Q vs H'
def tB (K : Fr) (ρ : Env) (b : Bool) : TT := fun σ H Q => ∃ G T os, I K G T os ρ σ H ∧ ∀ H', I K G T os ρ σ H' → Same H H' → Q b H'
/-- it may change own containers -/
def tV (K : Fr) (ρ : Env) (d : D) (k : Kd) (ρ' : Env) : TE := fun σ H Q => ∃ G T os, I K G T os ρ σ H ∧ ∀ v H' os', Tm K G T os' ρ' σ H' k d v → Stp os H os' H' → Nw H k v → Q v H'
def tVA (K : Fr) (ρ : Env) (ds : List D) (ρ' : Env) : TA := fun σ H Q => ∃ G T os, I K G T os ρ σ H ∧ ∀ vs H' os', I K G T os' ρ' σ H' → RpL K (Od G T os') H' ds vs → Stp os H os' H' → Q vs H'
def EK (X : Cx) (e : Expr) (ρ : Env) (d : D) (k : Kd) : Prop := PE X e (tK X.K ρ d k)
def ER (X : Cx) (e : Expr) (ρ : Env) (d : D) : Prop := PE X e (tR X.K ρ d)
def ERA (X : Cx) (es : List Expr) (ρ : Env) (ds : List D) : Prop := PA X es (tRA X.K ρ ds)
def ET (X : Cx) (e : Expr) (ρ : Env) (b : Bool) : Prop := PT X e (tB X.K ρ b)
def EV (X : Cx) (e : Expr) (ρ : Env) (d : D) (k : Kd) (ρ' : Env) : Prop := PE X e (tV X.K ρ d k ρ')
def EVA (X : Cx) (es : List Expr) (ρ : Env) (ds : List D) (ρ' : Env) : Prop := PA X es (tVA X.K ρ ds ρ')

theorem pe_weak {X : Cx} {e : Expr} {t t' : TE} (h : PE X e t) (w : ∀ σ H Q, t' σ H Q → t σ H Q) : PE X e t' := ⟨fun pins s σ H Q I q => h.run pins s σ H Q I (w σ H Q q)⟩
theorem pt_weak {X : Cx} {e : Expr} {t t' : TT} (h : PT X e t) (w : ∀ σ H Q, t' σ H Q → t σ H Q) : PT X e t' := ⟨fun pins s σ H Q I q => h.run pins s σ H Q I (w σ H Q q)⟩
theorem pw_weak {X : Cx} {e : Expr} {t t' : TT} (h : PW X e t) (w : ∀ σ H Q, t' σ H Q → t σ H Q) : PW X e t' := ⟨fun wh pins s σ H Q I q => h.run wh pins s σ H Q I (w σ H Q q)⟩
theorem pa_weak {X : Cx} {es : List Expr} {t t' : TA} (h : PA X es t) (w : ∀ σ H Q, t' σ H Q → t σ H Q) : PA X es t' := ⟨fun pos pins s σ H Q I q => h.run pos pins s σ H Q I (w σ H Q q)⟩

section
variable {X : Cx} {e : Expr} {es : List Expr} {ρ ρ' ρ'' : Env} {d : D} {ds : List D} {k : Kd} {b : Bool}
theorem EK.r (h : EK X e ρ d k) : ER X e ρ d := pe_weak h fun σ H Q ⟨G, T, os, i, q⟩ => ⟨G, T, os, i, fun v H' t s _ => q v H' t.i t.rw s⟩
theorem EV.q (h : EK X e ρ d k) (hk : k.free = true) : EV X e ρ d k ρ := pe_weak h fun σ H Q ⟨G, T, os, i, q⟩ => ⟨G, T, os, i, fun v H' t s n => q v H' os t (.of s) n⟩
theorem EV.esc {i : Nat} (h : EK X e ρ d (.ow i)) : EV X e ρ d .sh (ρ.set i (some (.sh, d))) := pe_weak h fun σ H Q ⟨G, T, os, j, q⟩ => ⟨G, T, os, j, fun v H' t s _ => by
  obtain ⟨t1, a, f, rfl, h1, h2, h3⟩ := t
  obtain ⟨b, q1, q2, q3⟩ := t1.unown h3 h2
  rw [h1] at q1
  cases q1
  refine q _ H' (os.set i none) ⟨q2, q3⟩ ⟨fun c o z _ => s _ _ z, fun j c z => (get_set_none z).1, fun c z => Same.free s z⟩ .sh⟩
theorem ERA.nil : ERA X [] ρ [] := pa_weak pa_nil fun σ H Q ⟨G, T, os, i, q⟩ => q [] H i rfl (Same.refl H)
theorem ERA.cons (h : ER X e ρ d) (r : ERA X es ρ ds) (hs : starEach (e :: es) X.env = (false, eval e X.env) :: starEach es X.env := by rfl) : ERA X (e :: es) ρ (d :: ds) :=
  pa_weak (pa_cons h r hs) fun σ H Q ⟨G, T, os, i, q⟩ => ⟨G, T, os, i, fun v H1 i1 w1 s1 => ⟨G, T, os, i1, fun vs H2 i2 w2 s2 => q _ H2 i2 ⟨v, vs, rfl, w1.mono s2 fun _ _ _ n => n, w2⟩ (s1.trans s2)⟩⟩
theorem EVA.nil : EVA X [] ρ [] ρ := pa_weak pa_nil fun σ H Q ⟨G, T, os, i, q⟩ => q [] H os i RpL.nil .refl
theorem EVA.cons (h : EV X e ρ d k ρ') (hk : k.free = true) (r : EVA X es ρ' ds ρ'') (hs : starEach (e :: es) X.env = (false, eval e X.env) :: starEach es X.env := by rfl) : EVA X (e :: es) ρ (d :: ds) ρ'' :=
  pa_weak (pa_cons h r hs) fun σ H Q ⟨G, T, os, i, q⟩ => ⟨G, T, os, i, fun v H1 o1 t1 s1 _ => ⟨G, T, o1, t1.i, fun vs H2 o2 i2 w2 s2 => q _ H2 o2 i2 (RpL.cons (Rp.mono s2.gd _ _ (t1.rp hk)) w2) (s1.trans s2)⟩⟩
theorem ET.val (h : EK X e ρ (.bl b) k) (he : ∀ whole, isTrue e X.env whole = (do let v ← whole; standAt e.pos; holding [v] (truthy v)) := by intro _; rfl) : ET X e ρ b :=
  pt_weak (pt_val h he) fun σ H Q ⟨G, T, os, i, q⟩ => ⟨G, T, os, i, fun v H1 t s _ => ⟨b, by
    have w := t.rw
    simp only [Rw, Rp] at w
    exact w, q H1 t.i s⟩⟩
end
end Pv
namespace Pv
open PySem L2 PyProof.Rows

theorem sz {n : Nat} (h : n ≤ 1000000) : n ≤ sizeLine := Nat.le_trans h (by decide)
theorem szl {n : Nat} (h : n < 1000000) : n < sizeLine := Nat.lt_of_lt_of_le h (by decide)

/-! ### list + list, whoever holds them -/
def rCatL (K : PySem.W.Frag) : R2 := fun x y H Q => ∃ l b xs zs, x = .ref l ∧ y = .ref b ∧ SqL K H l xs ∧ SqL K H b zs ∧ xs.length + zs.length ≤ sizeLine ∧ ∀ p, H p = none → Q (.ref p) (upd H p (.lst (xs ++ zs)))
theorem op_catL {X : Cx} : OpR X (binaryOp .Add) (rCatL X.K) := by
  intro pins s σ H x y v u Q I rx ry h
  obtain ⟨l, b, xs, zs, rfl, rfl, hH, hB, hz, q⟩ := h
  cases rx
  cases ry
  obtain ⟨its, r, hl, z1⟩ := I.list hH
  obtain ⟨its2, r2, hl2, z2⟩ := I.list hB
  obtain ⟨⟨cls, dd, data, sl⟩, n, ho, hc, hdd, hd⟩ := hl
  obtain ⟨⟨cls2, dd2, data2, sl2⟩, n2, ho2, hc2, hdd2, hd2⟩ := hl2
  simp only at hc hd hc2 hd2 hdd hdd2
  subst hc hd hc2 hd2 hdd hdd2
  have e1 := r.length
  have e2 := r2.length
  refine PySem.concat_meets ⟨_, ho, rfl⟩ ⟨_, ho2, rfl⟩ PySem.noFill_list_add PySem.seq_list_add PySem.F.slot_list_add PySem.F.entry_list_add (PySem.F.args_list_add_2 _ _) (PyProof.Rows.list_addW l b its.toArray its2.toArray n n2 none none sl sl2 (by rw [List.size_toArray, List.size_toArray]; omega)) ⟨ho, ho2, ?_⟩
  have ea : its.toArray ++ its2.toArray = (its ++ its2).toArray := by simp
  rw [ea]
  exact ⟨.ref _, _, I.lnew (t' := s.toks) (r.append r2) (by rw [List.length_append]; omega), rfl, q _ I.fresh⟩

/-- what an operation gives: a value that anybody may hold, or a new container -/
def Outp (K : Fr) (O : Addr → Prop) (H H' : Hp) : Kd → D → V → Prop
  | .sh, d, v => Same H H' ∧ Rp K O H' d v
  | .fr, d, v => Same H H' ∧ ∃ a, v = .ref a ∧ H a = none ∧ Ow K (fun b => O b ∨ b = a) H' a d
  | .ow _, _, _ => False
section
variable {K : Fr} {G : Gx} {T : List Addr} {os : List (Option Addr)} {ρ : Env} {σ : L2.St} {H H' : Hp} {d : D} {v : V} {k : Kd} {O : Addr → Prop}
theorem Outp.tm (i : I K G T os ρ σ H) (h : Outp K (Od G T os) H H' k d v) : Tm K G T os ρ σ H' k d v ∧ Same H H' := by
  cases k with
  | sh => exact ⟨⟨i.ext h.1, h.2⟩, h.1⟩
  | fr =>
    obtain ⟨e, a, rfl, n, w⟩ := h
    refine ⟨⟨a, rfl, i.temp e n w.tr, w.mono (fun b o q1 q2 => ⟨q1, fun z => q2 (Od.cons.mp z)⟩) rfl⟩, e⟩
  | ow i => exact h.elim
theorem same_new {p : Addr} {o : HO} (n : H p = none) : Same H (upd H p o) := fun b u q => by rw [upd_ne (ne_of_none q n)]; exact q
theorem gd_new {p : Addr} {o : HO} (n : H p = none) : Gd O H O (upd H p o) := fun a u q z => ⟨same_new n a u q, z⟩
theorem gd_new' {p : Addr} {o : HO} (n : H p = none) : Gd O H (fun b => O b ∨ b = p) (upd H p o) := fun a u q z => ⟨same_new n a u q, fun w => w.elim z fun e => by rw [e, n] at q; cases q⟩
theorem Outp.nw (h : Outp K O H H' k d v) : Nw H k v := fun e a ea => by
  subst e
  obtain ⟨_, b, rfl, n, _⟩ := h
  cases ea
  exact n
theorem Nw.back {H0 : Hp} (e : ∀ a, H a = none → H0 a = none) (n : Nw H k v) : Nw H0 k v := fun q a h => e a (n q a h)
theorem Outp.scal (h : Rp K O H d v) : Outp K O H H .sh d v := ⟨Same.refl H, h⟩
theorem Outp.newL {p : Addr} {ds : List D} {xs : List V} (n : H p = none) (h : RpL K O H ds xs) : Outp K O H (upd H p (.lst xs)) .fr (.lst ds) (.ref p) :=
  ⟨same_new n, p, rfl, n, xs, upd_same, h.mono (gd_new' n)⟩
theorem Outp.newT {p : Addr} {ds : List D} {xs : List V} (n : H p = none) (no : ¬ O p) (h : RpL K O H ds xs) : Outp K O H (upd H p (.tup xs)) .sh (.tup ds) (.ref p) :=
  ⟨same_new n, by simp only [Rp]; exact ⟨p, xs, rfl, .inl ⟨.inl upd_same, no⟩, h.mono (gd_new n)⟩⟩
/-- what the state's own containers are is tracked, so a new place is none of them -/
def Trk (O : Addr → Prop) (H : Hp) : Prop := ∀ a, O a → ∃ o, H a = some o ∧ mutO o = true
theorem Trk.new {p : Addr} (t : Trk O H) (n : H p = none) : ¬ O p := fun q => by obtain ⟨o, h, _⟩ := t p q; rw [n] at h; cases h
end

/-! ### operations on values -/
def Op2 (X : Cx) (f : Value → Value → Sem Value) (d1 d2 d : D) (k : Kd) : Prop :=
  ∃ r, OpR X f r ∧ ∀ O H v1 v2 Q, Trk O H → Rw X.K O H d1 v1 → Rw X.K O H d2 v2 → (∀ v H', Outp X.K O H H' k d v → Q v H') → r v1 v2 H Q
section
variable {X : Cx} {a b : Expr} {ρ : Env} {d d1 d2 : D} {k : Kd} {pos : Pos}
theorem Op2.run {f : Value → Value → Sem Value} {t : TE} (ha : ER X a ρ d1) (hb : ER X b ρ d2) (h : Op2 X f d1 d2 d k) (mk : ∀ r, OpR X f r → PE X e (tOp r (tR X.K ρ d1) (tR X.K ρ d2))) : EK X e ρ d k := by
  obtain ⟨r, ho, hq⟩ := h
  refine pe_weak (mk r ho) fun σ H Q ⟨G, T, os, i, q⟩ => ⟨G, T, os, i, fun v1 H1 i1 w1 s1 => ⟨G, T, os, i1, fun v2 H2 i2 w2 s2 => ?_⟩⟩
  refine hq (Od G T os) H2 v1 v2 Q i2.tr (w1.mono s2 fun _ _ _ n => n) w2 fun v H' o => ?_
  obtain ⟨t1, t2⟩ := o.tm i2
  exact q v H' t1 ((s1.trans s2).trans t2) (o.nw.back fun a h => Same.free (s1.trans s2) h)
theorem EK.bin {op : Operator} (ha : ER X a ρ d1) (hb : ER X b ρ d2) (h : Op2 X (binaryOp op) d1 d2 d k) : EK X (.BinOp a op b pos) ρ d k := Op2.run (t := fun _ _ _ => True) ha hb h fun r ho => pe_op ho ha hb
theorem EK.cmp {op : CmpOp} (ha : ER X a ρ d1) (hb : ER X b ρ d2) (h : Op2 X (compareOp op) d1 d2 d k) (hm : behindInMarks op b = false := by rfl) : EK X (.Compare a [op] [b] pos) ρ d k := Op2.run (t := fun _ _ _ => True) ha hb h fun r ho => pe_cmpR ho ha hb hm

theorem rI_op {f : Value → Value → Sem Value} {g : Int → Int → V} {C : Int → Int → Prop} {i j : Int} (ho : OpR X f (rI C g)) (hc : C i j) (hd : ∀ O H, Rp X.K O H d (g i j)) : Op2 X f (.int i) (.int j) d .sh :=
  ⟨_, ho, fun O H v1 v2 Q _ h1 h2 q => by
    simp only [Rw, Rp] at h1 h2
    subst h1 h2
    exact ⟨i, j, rfl, rfl, hc, q _ H (.scal (hd O H))⟩⟩
theorem rI0_op {f : Value → Value → Sem Value} {g : Int → Int → V} {i j : Int} (ho : OpR X f (rI0 g)) (hd : ∀ O H, Rp X.K O H d (g i j)) : Op2 X f (.int i) (.int j) d .sh :=
  ⟨_, ho, fun O H v1 v2 Q _ h1 h2 q => by
    simp only [Rw, Rp] at h1 h2
    subst h1 h2
    exact ⟨i, j, rfl, rfl, q _ H (.scal (hd O H))⟩⟩
theorem Op2.addI {i j : Int} : Op2 X (binaryOp .Add) (.int i) (.int j) (.int (i + j)) .sh := rI0_op op_add fun _ _ => by simp only [Rp]
theorem Op2.subI {i j : Int} : Op2 X (binaryOp .Sub) (.int i) (.int j) (.int (i - j)) .sh := rI0_op op_sub fun _ _ => by simp only [Rp]
theorem Op2.mulI {i j : Int} (h : CMul i j) : Op2 X (binaryOp .Mult) (.int i) (.int j) (.int (i * j)) .sh := rI_op op_mul h fun _ _ => by simp only [Rp]
theorem Op2.modI {i j : Int} (h : 0 < j) : Op2 X (binaryOp .Mod) (.int i) (.int j) (.int (i % j)) .sh := rI_op op_mod h fun _ _ => by simp only [Rp]
theorem Op2.divI {i j : Int} (h : CDiv i j) : Op2 X (binaryOp .FloorDiv) (.int i) (.int j) (.int (i / j)) .sh := rI_op op_fdiv h fun _ _ => by simp only [Rp]
theorem Op2.powI {i j : Int} (h : CPow i j) : Op2 X (binaryOp .Pow) (.int i) (.int j) (.int (i ^ j.toNat)) .sh := rI_op op_pow h fun _ _ => by simp only [Rp]
theorem Op2.ltI {i j : Int} : Op2 X (compareOp .Lt) (.int i) (.int j) (.bl (decide (i < j))) .sh := rI0_op op_lt fun _ _ => by simp only [Rp]
theorem Op2.leI {i j : Int} : Op2 X (compareOp .LtE) (.int i) (.int j) (.bl (decide (i ≤ j))) .sh := rI0_op op_le fun _ _ => by simp only [Rp]
theorem Op2.gtI {i j : Int} : Op2 X (compareOp .Gt) (.int i) (.int j) (.bl (decide (j < i))) .sh := rI0_op op_gt fun _ _ => by simp only [Rp]
theorem Op2.geI {i j : Int} : Op2 X (compareOp .GtE) (.int i) (.int j) (.bl (decide (j ≤ i))) .sh := rI0_op op_ge fun _ _ => by simp only [Rp]
theorem Op2.addL {ds es : List D} (h : ds.length + es.length ≤ 1000000) : Op2 X (binaryOp .Add) (.lst ds) (.lst es) (.lst (ds ++ es)) .fr :=
  ⟨_, op_catL, fun O H v1 v2 Q _ h1 h2 q => by
    obtain ⟨l, xs, rfl, hl, r1⟩ := h1
    obtain ⟨m, ys, rfl, hm, r2⟩ := h2
    exact ⟨l, m, xs, ys, rfl, rfl, hl, hm, by rw [r1.length, r2.length]; exact sz h, fun p n => q _ _ (.newL n (r1.append r2))⟩⟩
theorem Op2.addS {s t : Str} (h : s.length + t.length ≤ 1000000) : Op2 X (binaryOp .Add) (.str s) (.str t) (.str (s ++ t)) .sh :=
  ⟨_, op_add_str, fun O H v1 v2 Q _ h1 h2 q => by
    simp only [Rw, Rp] at h1 h2
    subst h1 h2
    exact ⟨s, t, rfl, rfl, sz h, q _ H (.scal (by simp only [Rp]))⟩⟩
theorem tupW {K : Fr} {O : Addr → Prop} {H : Hp} {ds : List D} {v : V} (h : Rw K O H (.tup ds) v) : ∃ a xs, v = .ref a ∧ SqT K H a xs ∧ RpL K O H ds xs := by
  simp only [Rw, Rp] at h
  obtain ⟨a, xs, e, h1, h2⟩ := h
  exact ⟨a, xs, e, h1.imp (·.1) id, h2⟩
theorem Op2.addT {ds es : List D} (h0 : ds ≠ []) (h : ds.length + es.length ≤ 1000000) : Op2 X (binaryOp .Add) (.tup ds) (.tup es) (.tup (ds ++ es)) .sh :=
  ⟨_, op_catT, fun O H v1 v2 Q tk h1 h2 q => by
    have h1' := h1
    obtain ⟨l, xs, rfl, hl, r1⟩ := tupW h1
    obtain ⟨m, ys, rfl, hm, r2⟩ := tupW h2
    refine ⟨l, m, xs, ys, rfl, rfl, hl, hm, fun e => h0 (List.length_eq_zero_iff.mp (by rw [← r1.length, e]; rfl)), by rw [r1.length, r2.length]; exact sz h, ?_⟩
    refine ⟨fun e => ?_, fun e p n => q _ _ (.newT n (tk.new n) (r1.append r2))⟩
    subst e
    have e2 : es = [] := List.length_eq_zero_iff.mp (by rw [← r2.length]; rfl)
    subst e2
    rw [List.append_nil] at q
    exact q _ H (.scal h1')⟩
end
end Pv
namespace Pv
open PySem L2 PyProof.Rows

/-! ### arguments that anybody may keep -/
def tFA (K : Fr) (ρ : Env) (ds : List D) : TA := fun σ H Q => ∃ G T os, I K G T os ρ σ H ∧ ∀ vs H', I K G T os ρ σ H' → RpL K (Od G T os) H' ds vs → Same H H' → Q vs H'
def EFA (X : Cx) (es : List Expr) (ρ : Env) (ds : List D) : Prop := PA X es (tFA X.K ρ ds)
/-- what is said of an expression whose value is not told exactly -/
abbrev Po1 := D → Kd → Env → Prop
def tP (K : Fr) (ρ : Env) (R : Po1) : TE := fun σ H Q => ∃ G T os, I K G T os ρ σ H ∧ ∀ d k ρ' v H' os', R d k ρ' → Tm K G T os' ρ' σ H' k d v → Stp os H os' H' → Nw H k v → Q v H'
def EP (X : Cx) (e : Expr) (ρ : Env) (R : Po1) : Prop := PE X e (tP X.K ρ R)
def Po1.is (d : D) (k : Kd) (ρ : Env) : Po1 := fun d' k' ρ' => d' = d ∧ k' = k ∧ ρ' = ρ

section
variable {X : Cx} {a b c e : Expr} {es : List Expr} {ρ ρ' ρ'' : Env} {d d1 d2 : D} {ds : List D} {k : Kd} {pos : Pos} {R : Po1}
theorem EFA.nil : EFA X [] ρ [] := pa_weak pa_nil fun σ H Q ⟨G, T, os, i, q⟩ => q [] H i RpL.nil (Same.refl H)
theorem EFA.cons (h : EK X e ρ d k) (hk : k.free = true) (r : EFA X es ρ ds) (hs : starEach (e :: es) X.env = (false, eval e X.env) :: starEach es X.env := by rfl) : EFA X (e :: es) ρ (d :: ds) :=
  pa_weak (pa_cons h r hs) fun σ H Q ⟨G, T, os, i, q⟩ => ⟨G, T, os, i, fun v H1 t1 s1 _ => ⟨G, T, os, t1.i, fun vs H2 i2 w2 s2 => q _ H2 i2 (RpL.cons (Rp.mono (same_gd s2 fun _ _ _ n => n) _ _ (t1.rp hk)) w2) (s1.trans s2)⟩⟩
theorem EFA.rA (h : EFA X es ρ ds) : ERA X es ρ ds := pa_weak h fun σ H Q ⟨G, T, os, i, q⟩ => ⟨G, T, os, i, fun vs H' i' w s => q vs H' i' w.rwL s⟩
theorem EVA.q (h : EFA X es ρ ds) : EVA X es ρ ds ρ := pa_weak h fun σ H Q ⟨G, T, os, i, q⟩ => ⟨G, T, os, i, fun vs H' i' w s => q vs H' os i' w (.of s)⟩
theorem EP.v (h : EV X e ρ d k ρ') : EP X e ρ (Po1.is d k ρ') := pe_weak h fun σ H Q ⟨G, T, os, i, q⟩ => ⟨G, T, os, i, fun v H' os' t s n => q d k ρ' v H' os' ⟨rfl, rfl, rfl⟩ t s n⟩
theorem EP.q (h : EK X e ρ d k) : EP X e ρ (Po1.is d k ρ) := pe_weak h fun σ H Q ⟨G, T, os, i, q⟩ => ⟨G, T, os, i, fun v H' t s n => q d k ρ v H' os ⟨rfl, rfl, rfl⟩ t (.of s) n⟩
theorem EV.p (h : EP X e ρ (Po1.is d k ρ')) : EV X e ρ d k ρ' := pe_weak h fun σ H Q ⟨G, T, os, i, q⟩ => ⟨G, T, os, i, fun d1 k1 ρ1 v H' os' ⟨e1, e2, e3⟩ t s n => by subst e1 e2 e3; exact q v H' os' t s n⟩
theorem EP.mono {R' : Po1} (h : EP X e ρ R) (m : ∀ d k ρ', R d k ρ' → R' d k ρ') : EP X e ρ R' := pe_weak h fun σ H Q ⟨G, T, os, i, q⟩ => ⟨G, T, os, i, fun d1 k1 ρ1 v H' os' r t s n => q d1 k1 ρ1 v H' os' (m _ _ _ r) t s n⟩

/-! ### names, constants, displays -/
def kdOf (i : Nat) : Fl → Kd
  | .sh => .sh
  | _ => .ow i
theorem EK.name {i : Nat} {x : Str} {f : Fl} (hN : X.N[i]? = some x) (hv : Vis X.env.scope x) (h : ρ[i]? = some (some (f, d))) (hd : (x == ("__debug__" : Str)) = false := by decide) (hcd : (x == ("__classdict__" : Str)) = false := by decide) :
    EK X (.Name x pos) ρ d (kdOf i f) := pe_weak (pe_var hN hv hd hcd) fun σ H Q ⟨G, T, os, j, q⟩ => by
  cases f with
  | sh =>
    obtain ⟨v, h1, h2⟩ := j.sh i d h
    exact ⟨v, h1, q v H ⟨j, h2⟩ (Same.refl H) .sh⟩
  | own =>
    obtain ⟨a, h1, h2, h3⟩ := j.ow i _ d h (by decide)
    exact ⟨.ref a, h2, q _ H ⟨j, a, .own, rfl, h1, by decide, h⟩ (Same.refl H) .ow⟩
  | io =>
    obtain ⟨a, h1, h2, h3⟩ := j.ow i _ d h (by decide)
    exact ⟨.ref a, h2, q _ H ⟨j, a, .io, rfl, h1, by decide, h⟩ (Same.refl H) .ow⟩
theorem EK.cst {te : TE} {w : V} (h : PE X e (tC w)) (hd : ∀ O H, Rp X.K O H d w) : EK X e ρ d .sh := pe_weak h fun σ H Q ⟨G, T, os, i, q⟩ => q w H ⟨i, hd _ _⟩ (Same.refl H) .sh
theorem EK.int {i : Int} {j} : EK X (.Constant (.int i) j pos) ρ (.int i) .sh := EK.cst (te := tC .non) pe_int fun _ _ => by simp only [Rp]
theorem EK.bl {i : Bool} {j} : EK X (.Constant (.bool i) j pos) ρ (.bl i) .sh := EK.cst (te := tC .non) pe_bl fun _ _ => by simp only [Rp]
theorem EK.str {s : Str} {j} : EK X (.Constant (.str s) j pos) ρ (.str s) .sh := EK.cst (te := tC .non) pe_str fun _ _ => by simp only [Rp]
theorem EK.non {j} : EK X (.Constant .none j pos) ρ .non .sh := EK.cst (te := tC .non) pe_non fun _ _ => by simp only [Rp]
theorem EK.tup {x1} (h : EFA X es ρ ds) (hl : ds.length ≤ 1000000 := by simp) : EK X (.Tuple es x1 pos) ρ (.tup ds) .sh :=
  pe_weak (pe_tup h) fun σ H Q ⟨G, T, os, i, q⟩ => ⟨G, T, os, i, fun vs H1 i1 w s => ⟨by rw [w.length]; exact sz hl, fun p n => by
    obtain ⟨t1, t2⟩ := (Outp.newT n ((show Trk _ _ from i1.tr).new n) w).tm i1
    exact q _ _ t1 (s.trans t2) .sh⟩⟩
theorem EK.lst (h : EFA X es ρ ds) (hl : ds.length ≤ 1000000 := by simp) : EK X (.List es pos) ρ (.lst ds) .fr :=
  pe_weak (pe_lst h) fun σ H Q ⟨G, T, os, i, q⟩ => ⟨G, T, os, i, fun vs H1 i1 w s => ⟨by rw [w.length]; exact sz hl, fun p n => by
    obtain ⟨t1, t2⟩ := (Outp.newL n w).tm i1
    exact q _ _ t1 (s.trans t2) ((Outp.newL n w).nw.back fun a h => Same.free s h)⟩⟩
theorem EV.tup {x1} (h : EVA X es ρ ds ρ') (hl : ds.length ≤ 1000000 := by simp) : EV X (.Tuple es x1 pos) ρ (.tup ds) .sh ρ' :=
  pe_weak (pe_tup h) fun σ H Q ⟨G, T, os, i, q⟩ => ⟨G, T, os, i, fun vs H1 os' i1 w s => ⟨by rw [w.length]; exact sz hl, fun p n => by
    obtain ⟨t1, t2⟩ := (Outp.newT n ((show Trk _ _ from i1.tr).new n) w).tm i1
    exact q _ _ os' t1 (s.trans (.of t2)) .sh⟩⟩
theorem EV.lst (h : EVA X es ρ ds ρ') (hl : ds.length ≤ 1000000 := by simp) : EV X (.List es pos) ρ (.lst ds) .fr ρ' :=
  pe_weak (pe_lst h) fun σ H Q ⟨G, T, os, i, q⟩ => ⟨G, T, os, i, fun vs H1 os' i1 w s => ⟨by rw [w.length]; exact sz hl, fun p n => by
    obtain ⟨t1, t2⟩ := (Outp.newL n w).tm i1
    exact q _ _ os' t1 (s.trans (.of t2)) ((Outp.newL n w).nw.back fun a h => s.fre a h)⟩⟩

/-! ### choices -/
theorem tB_if {K : Fr} {σ : L2.St} {H : Hp} {Q : Bool → Hp → Prop} {x : Bool} (h : tB K ρ x σ H Q) : tB K ρ x σ H Q := h
theorem pe_cond {p : Prop} {t : TE} (hp : p → PE X e t) : PE X e (fun σ H Q => p ∧ t σ H Q) := ⟨fun pins s σ H Q I q => (hp q.1).run pins s σ H Q I q.2⟩
theorem pt_cond {p : Prop} {t : TT} (hp : p → PT X e t) : PT X e (fun σ H Q => p ∧ t σ H Q) := ⟨fun pins s σ H Q I q => (hp q.1).run pins s σ H Q I q.2⟩
theorem pw_cond {p : Prop} {t : TT} (hp : p → PW X e t) : PW X e (fun σ H Q => p ∧ t σ H Q) := ⟨fun wh pins s σ H Q I q => (hp q.1).run wh pins s σ H Q I q.2⟩
theorem EK.ifx {x : Bool} (hc : ET X c ρ x) (h1 : x = true → EK X a ρ d k) (h2 : x = false → EK X b ρ d k) : EK X (.IfExp c a b pos) ρ d k :=
  pe_weak (pe_ifExp hc (pe_cond h1) (pe_cond h2)) fun σ H Q ⟨G, T, os, i, q⟩ => ⟨G, T, os, i, fun H1 i1 s1 => by
    cases x with
    | true => rw [if_pos rfl]; exact ⟨rfl, G, T, os, i1, fun v H2 t s2 n => q v H2 t (s1.trans s2) (n.back fun a h => Same.free s1 h)⟩
    | false => rw [if_neg Bool.false_ne_true]; exact ⟨rfl, G, T, os, i1, fun v H2 t s2 n => q v H2 t (s1.trans s2) (n.back fun a h => Same.free s1 h)⟩⟩
def EW (X : Cx) (e : Expr) (ρ : Env) (b : Bool) : Prop := PW X e (tB X.K ρ b)
theorem ET.w {x : Bool} (h : EW X e ρ x) : ET X e ρ x := h.pt
theorem EW.and1 {x : Bool} (h : ET X a ρ x) : EW X (.BoolOp .And [a] pos) ρ x := pw_and1 h
theorem EW.or1 {x : Bool} (h : ET X a ρ x) : EW X (.BoolOp .Or [a] pos) ρ x := pw_or1 h
theorem EW.and {x y : Bool} (h : ET X a ρ x) (hb : x = true → EW X (.BoolOp .And (b :: es) pos) ρ y) : EW X (.BoolOp .And (a :: b :: es) pos) ρ (x && y) :=
  pw_weak (pw_and h (pw_cond hb)) fun σ H Q ⟨G, T, os, i, q⟩ => ⟨G, T, os, i, fun H1 i1 s1 => by
    cases x with
    | true => rw [if_pos rfl]; exact ⟨rfl, G, T, os, i1, fun H2 i2 s2 => q H2 i2 (s1.trans s2)⟩
    | false => rw [if_neg Bool.false_ne_true]; exact q H1 i1 s1⟩
theorem EW.or {x y : Bool} (h : ET X a ρ x) (hb : x = false → EW X (.BoolOp .Or (b :: es) pos) ρ y) : EW X (.BoolOp .Or (a :: b :: es) pos) ρ (x || y) :=
  pw_weak (pw_or h (pw_cond hb)) fun σ H Q ⟨G, T, os, i, q⟩ => ⟨G, T, os, i, fun H1 i1 s1 => by
    cases x with
    | true => rw [if_pos rfl]; exact q H1 i1 s1
    | false => rw [if_neg Bool.false_ne_true]; exact ⟨rfl, G, T, os, i1, fun H2 i2 s2 => q H2 i2 (s1.trans s2)⟩⟩
theorem ET.not {x : Bool} (h : ET X a ρ x) : ET X (.UnaryOp .Not a pos) ρ (!x) := pt_weak (pt_not h) fun σ H Q ⟨G, T, os, i, q⟩ => ⟨G, T, os, i, fun H1 i1 s1 => q H1 i1 s1⟩
theorem blRw {K : Fr} {O : Addr → Prop} {H : Hp} {x : Bool} {v : V} (h : Rw K O H (.bl x) v) : v = .bl x := by simpa only [Rw, Rp] using h
theorem EK.one {op} (h : EK X a ρ d k) : EK X (.BoolOp op [a] pos) ρ d k := pe_one h
theorem EK.andB {x y : Bool} (h : ER X a ρ (.bl x)) (hb : x = true → EK X (.BoolOp .And (b :: es) pos) ρ (.bl y) .sh) : EK X (.BoolOp .And (a :: b :: es) pos) ρ (.bl (x && y)) .sh :=
  pe_weak (pe_and h (pe_cond hb)) fun σ H Q ⟨G, T, os, i, q⟩ => ⟨G, T, os, i, fun v H1 i1 w s1 => ⟨x, blRw w, by
    cases x with
    | true => rw [if_pos rfl]; exact ⟨rfl, G, T, os, i1, fun v H2 t s2 _ => q v H2 t (s1.trans s2) .sh⟩
    | false => rw [if_neg Bool.false_ne_true]; exact q _ H1 ⟨i1, by simp only [Rp, Bool.false_and]⟩ s1 .sh⟩⟩
theorem EK.orB {x y : Bool} (h : ER X a ρ (.bl x)) (hb : x = false → EK X (.BoolOp .Or (b :: es) pos) ρ (.bl y) .sh) : EK X (.BoolOp .Or (a :: b :: es) pos) ρ (.bl (x || y)) .sh :=
  pe_weak (pe_or h (pe_cond hb)) fun σ H Q ⟨G, T, os, i, q⟩ => ⟨G, T, os, i, fun v H1 i1 w s1 => ⟨x, blRw w, by
    cases x with
    | true => rw [if_pos rfl]; exact q _ H1 ⟨i1, by simp only [Rp, Bool.true_or]⟩ s1 .sh
    | false => rw [if_neg Bool.false_ne_true]; exact ⟨rfl, G, T, os, i1, fun v H2 t s2 _ => q v H2 t (s1.trans s2) .sh⟩⟩⟩
theorem EK.notB {x : Bool} (h : ER X a ρ (.bl x)) : EK X (.UnaryOp .Not a pos) ρ (.bl (!x)) .sh :=
  pe_weak (pe_not h) fun σ H Q ⟨G, T, os, i, q⟩ => ⟨G, T, os, i, fun v H1 i1 w s1 => ⟨x, blRw w, q _ H1 ⟨i1, by simp only [Rp]⟩ s1 .sh⟩⟩

/-! ### truth -/
def tru : D → Option Bool
  | .non => some false | .bl b => some b | .int i => some (i != 0) | .lst ds => some (!ds.isEmpty) | .tup ds => some (!ds.isEmpty) | .dic ks _ => some (!ks.isEmpty) | _ => none
theorem isE {α β : Type} {l : List α} {m : List β} (h : l.length = m.length) : l.isEmpty = m.isEmpty := by
  cases l <;> cases m <;> simp_all
theorem ET.tru {x : Bool} (h : ER X e ρ d) (ht : tru d = some x) (he : ∀ whole, isTrue e X.env whole = (do let v ← whole; standAt e.pos; holding [v] (truthy v)) := by intro _; rfl) : ET X e ρ x :=
  pt_weak (pt_truth h he) fun σ H Q ⟨G, T, os, i, q⟩ => ⟨G, T, os, i, fun v H1 i1 w s1 => ⟨x, by
    cases d <;> simp only [Pv.tru, Option.some.injEq, reduceCtorEq] at ht <;> subst ht
    case non => simp only [Rw, Rp] at w; subst w; rfl
    case bl b => simp only [Rw, Rp] at w; subst w; rfl
    case int b => simp only [Rw, Rp] at w; subst w; rfl
    case tup ds => obtain ⟨a, xs, rfl, h1, h2⟩ := tupW w; exact .inr (.inl ⟨xs, h1, by rw [isE h2.length]⟩)
    case lst ds => obtain ⟨a, xs, rfl, h1, h2⟩ := w; exact .inl ⟨xs, h1, by rw [isE h2.length]⟩
    case dic ks ds =>
      obtain ⟨a, ys, rfl, h1, h3, h2⟩ := w
      exact .inr (.inr ⟨ys, h1, by rw [← h3, isE (List.length_map _)]⟩), q H1 i1 s1⟩⟩
end
end Pv
namespace Pv
open PySem L2 PyProof.Rows

/-! ### equality, membership -/
/-- a value that is no object -/
def toV : D → V
  | .non => .non | .bl b => .bl b | .int i => .int i | .str s => .str s | .ref a => .ref a | _ => .ty "none"
def isS : D → Bool
  | .non => true | .bl _ => true | .int _ => true | .str _ => true | _ => false
theorem isS_rw {K : Fr} {O : Addr → Prop} {H : Hp} {d : D} {v : V} (h : isS d = true) (w : Rw K O H d v) : v = toV d := by
  cases d <;> simp only [isS, Bool.false_eq_true] at h <;> (simp only [Rw, Rp] at w; exact w)
theorem isS_rp {K : Fr} {O : Addr → Prop} {H : Hp} {d : D} (h : isS d = true) : Rp K O H d (toV d) := by
  cases d <;> simp only [isS, Bool.false_eq_true] at h <;> simp only [Rp, toV]
def flD (d : D) : Bool := isS d
def eqD : D → D → Bool
  | .non, .non => true
  | .bl a, .bl b => a == b
  | .bl a, .int b => (if a then 1 else 0) == b
  | .int a, .bl b => a == (if b then 1 else 0)
  | .int a, .int b => a == b
  | .str a, .str b => a == b
  | _, _ => false
theorem eqD_V {a b : D} (ha : isS a = true) (hb : isS b = true) : eqV (toV a) (toV b) = eqD a b := by
  cases a <;> simp only [isS, Bool.false_eq_true] at ha <;> (cases b <;> simp only [isS, Bool.false_eq_true] at hb <;> rfl)
theorem flat_V {d : D} (h : isS d = true) : flatV (toV d) = true := by cases d <;> simp only [isS, Bool.false_eq_true] at h <;> rfl
theorem flat_all {K : Fr} {O : Addr → Prop} {H : Hp} : ∀ {ds : List D} {xs : List V}, (∀ d ∈ ds, isS d = true) → RpL K O H ds xs → xs = ds.map toV
  | [], xs, _, h => by simpa only [RpL, List.map] using h
  | d :: ds, xs, hd, h => by
    simp only [RpL] at h
    obtain ⟨x, r, rfl, h1, h2⟩ := h
    rw [isS_rw (hd d (List.mem_cons_self ..)) h1.rw, flat_all (fun e he => hd e (List.mem_cons_of_mem _ he)) h2]
    rfl
theorem inV_map {x : D} (hx : isS x = true) : ∀ {ds : List D}, (∀ d ∈ ds, isS d = true) → inV (toV x) (ds.map toV) = ds.any fun y => eqD y x
  | [], _ => rfl
  | d :: ds, hd => by
    have ih := inV_map hx (ds := ds) fun e he => hd e (List.mem_cons_of_mem _ he)
    unfold inV at ih ⊢
    rw [List.map_cons, List.any_cons, List.any_cons, ih, eqD_V (hd d (List.mem_cons_self ..)) hx]
section
variable {X : Cx} {a b : Expr} {ρ : Env} {d d1 d2 : D} {k : Kd} {pos : Pos}
theorem Op2.eqV (h1 : isS d1 = true) (h2 : isS d2 = true) (h : L2.scal (toV d1) (toV d2) = true) : Op2 X (compareOp .Eq) d1 d2 (.bl (decide (toV d1 = toV d2))) .sh :=
  ⟨_, op_eq, fun O H v1 v2 Q _ w1 w2 q => by
    rw [isS_rw h1 w1, isS_rw h2 w2]
    exact ⟨h, q _ H (.scal (by simp only [Rp]))⟩⟩
theorem Op2.neV (h1 : isS d1 = true) (h2 : isS d2 = true) (h : L2.scal (toV d1) (toV d2) = true) : Op2 X (compareOp .NotEq) d1 d2 (.bl (!decide (toV d1 = toV d2))) .sh :=
  ⟨_, op_ne, fun O H v1 v2 Q _ w1 w2 q => by
    rw [isS_rw h1 w1, isS_rw h2 w2]
    exact ⟨h, q _ H (.scal (by simp only [Rp]))⟩⟩
theorem Op2.is {f : Value → Value → Sem Value} {d' : D} (h : Op2 X f d1 d2 d k) (e : d = d') : Op2 X f d1 d2 d' k := e ▸ h
theorem Op2.eqI {i j : Int} : Op2 X (compareOp .Eq) (.int i) (.int j) (.bl (decide (i = j))) .sh := (Op2.eqV rfl rfl rfl).is (by simp [toV])
theorem Op2.neI {i j : Int} : Op2 X (compareOp .NotEq) (.int i) (.int j) (.bl (!decide (i = j))) .sh := (Op2.neV rfl rfl rfl).is (by simp [toV])
theorem Op2.eqS {i j : Str} : Op2 X (compareOp .Eq) (.str i) (.str j) (.bl (decide (i = j))) .sh := (Op2.eqV rfl rfl rfl).is (by simp [toV])
theorem Op2.neS {i j : Str} : Op2 X (compareOp .NotEq) (.str i) (.str j) (.bl (!decide (i = j))) .sh := (Op2.neV rfl rfl rfl).is (by simp [toV])
theorem Op2.eqB {i j : Bool} : Op2 X (compareOp .Eq) (.bl i) (.bl j) (.bl (decide (i = j))) .sh := (Op2.eqV rfl rfl rfl).is (by simp [toV])
theorem Op2.neIN {i : Int} : Op2 X (compareOp .NotEq) (.int i) .non (.bl true) .sh := (Op2.neV rfl rfl rfl).is (by simp [toV])
theorem Op2.eqIN {i : Int} : Op2 X (compareOp .Eq) (.int i) .non (.bl false) .sh := (Op2.eqV rfl rfl rfl).is (by simp [toV])
theorem Op2.eqSI {s : Str} {i : Int} : Op2 X (compareOp .Eq) (.str s) (.int i) (.bl false) .sh := (Op2.eqV rfl rfl rfl).is (by simp [toV])
theorem Op2.eqIS {s : Str} {i : Int} : Op2 X (compareOp .Eq) (.int i) (.str s) (.bl false) .sh := (Op2.eqV rfl rfl rfl).is (by simp [toV])
theorem Op2.isN (h : isS d1 = true) : Op2 X (compareOp .Is) d1 .non (.bl (decide (toV d1 = .non))) .sh :=
  ⟨_, op_isN, fun O H v1 v2 Q _ w1 w2 q => by
    rw [isS_rw h w1]
    simp only [Rw, Rp] at w2
    exact ⟨w2, q _ H (.scal (by simp only [Rp]))⟩⟩
theorem Op2.isnN (h : isS d1 = true) : Op2 X (compareOp .IsNot) d1 .non (.bl (!decide (toV d1 = .non))) .sh :=
  ⟨_, op_notN, fun O H v1 v2 Q _ w1 w2 q => by
    rw [isS_rw h w1]
    simp only [Rw, Rp] at w2
    exact ⟨w2, q _ H (.scal (by simp only [Rp]))⟩⟩
theorem not_non {K : Fr} {O : Addr → Prop} {H : Hp} {v : V} (h : ∀ x, Rw K O H d v → v = x → x ≠ .non) (w : Rw K O H d v) : decide (v = .non) = false := decide_eq_false (h v w rfl)
def isTy : D → Bool
  | .ty _ => true
  | _ => false
theorem rw_ref {K : Fr} {O : Addr → Prop} {H : Hp} {v : V} (hs : isS d = false) (hty : isTy d = false) (w : Rw K O H d v) : ∃ a, v = .ref a := by
  cases d <;> try cases hs
  case ref a => simp only [Rw, Rp] at w; exact ⟨a, w⟩
  case ty n => exact absurd hty (by simp [isTy])
  case tup ds => obtain ⟨a, xs, e, _⟩ := tupW w; exact ⟨a, e⟩
  case lst ds => obtain ⟨a, xs, e, _⟩ := w; exact ⟨a, e⟩
  case dic ks ds => obtain ⟨a, ys, e, _⟩ := w; exact ⟨a, e⟩
  case dit ks ds => obtain ⟨a, ys, e, _⟩ := w; exact ⟨a, e⟩
  case key ks => simp only [Rw, Rp] at w; obtain ⟨a, e, _⟩ := w; exact ⟨a, e⟩
  case obj C fs ds => obtain ⟨a, dx, ys, e, _⟩ := w; exact ⟨a, e⟩
  case exc C fs ds => simp only [Rw, Rp] at w; obtain ⟨a, od, ys, e, _⟩ := w; exact ⟨a, e⟩
  case ftup ds => simp only [Rw, Rp] at w; obtain ⟨a, xs, e, _⟩ := w; exact ⟨a, e⟩
theorem Op2.isO (h : isS d1 = false) (ht : isTy d1 = false := by rfl) : Op2 X (compareOp .Is) d1 .non (.bl false) .sh :=
  ⟨_, op_isN, fun O H v1 v2 Q _ w1 w2 q => by
    obtain ⟨a, rfl⟩ := rw_ref h ht w1
    simp only [Rw, Rp] at w2
    exact ⟨w2, q _ H (.scal (by simp [Rp]))⟩⟩
theorem Op2.isnO (h : isS d1 = false) (ht : isTy d1 = false := by rfl) : Op2 X (compareOp .IsNot) d1 .non (.bl true) .sh :=
  ⟨_, op_notN, fun O H v1 v2 Q _ w1 w2 q => by
    obtain ⟨a, rfl⟩ := rw_ref h ht w1
    simp only [Rw, Rp] at w2
    exact ⟨w2, q _ H (.scal (by simp [Rp]))⟩⟩
theorem seqW {K : Fr} {O : Addr → Prop} {H : Hp} {ds : List D} {v : V} (h : Rw K O H (.lst ds) v ∨ Rw K O H (.tup ds) v) : ∃ a xs, v = .ref a ∧ (SqL K H a xs ∨ SqT K H a xs) ∧ RpL K O H ds xs := by
  rcases h with ⟨a, xs, e, h1, h2⟩ | h
  · exact ⟨a, xs, e, .inl h1, h2⟩
  · obtain ⟨a, xs, e, h1, h2⟩ := tupW h
    exact ⟨a, xs, e, .inr h1, h2⟩
theorem all_flat {ds : List D} (h : ∀ d ∈ ds, isS d = true) : (ds.map toV).all flatV = true := List.all_eq_true.mpr fun x hx => by
  obtain ⟨d, hd, rfl⟩ := List.mem_map.mp hx
  exact flat_V (h d hd)
theorem inF {neg : Bool} {op : CmpOp} {ds : List D} (ho : OpR X (compareOp op) (rIn X.K neg)) (hx : isS d1 = true) (hd : ∀ d ∈ ds, isS d = true) (hs : d2 = .lst ds ∨ d2 = .tup ds) :
    Op2 X (compareOp op) d1 d2 (.bl (if neg then !(ds.any fun y => eqD y d1) else ds.any fun y => eqD y d1)) .sh :=
  ⟨_, ho, fun O H v1 v2 Q _ w1 w2 q => by
    rw [isS_rw hx w1]
    have w3 : Rw X.K O H (.lst ds) v2 ∨ Rw X.K O H (.tup ds) v2 := by
      rcases hs with e | e
      · left; rw [← e]; exact w2
      · right; rw [← e]; exact w2
    obtain ⟨a, xs, rfl, h1, h2⟩ := seqW w3
    have e := flat_all hd h2
    subst e
    refine ⟨a, _, rfl, h1, flat_V hx, all_flat hd, ?_⟩
    rw [inV_map hx hd]
    exact q _ H (.scal (by simp only [Rp]))⟩
theorem Op2.inL {ds : List D} (hx : isS d1 = true) (hd : ∀ d ∈ ds, isS d = true) : Op2 X (compareOp .In) d1 (.lst ds) (.bl (ds.any fun y => eqD y d1)) .sh := inF (neg := false) op_in_seq hx hd (.inl rfl)
theorem Op2.inT {ds : List D} (hx : isS d1 = true) (hd : ∀ d ∈ ds, isS d = true) : Op2 X (compareOp .In) d1 (.tup ds) (.bl (ds.any fun y => eqD y d1)) .sh := inF (neg := false) op_in_seq hx hd (.inr rfl)
theorem Op2.niL {ds : List D} (hx : isS d1 = true) (hd : ∀ d ∈ ds, isS d = true) : Op2 X (compareOp .NotIn) d1 (.lst ds) (.bl (!(ds.any fun y => eqD y d1))) .sh := inF (neg := true) op_notIn_seq hx hd (.inl rfl)
theorem Op2.niT {ds : List D} (hx : isS d1 = true) (hd : ∀ d ∈ ds, isS d = true) : Op2 X (compareOp .NotIn) d1 (.tup ds) (.bl (!(ds.any fun y => eqD y d1))) .sh := inF (neg := true) op_notIn_seq hx hd (.inr rfl)
theorem isS_ints {ns : List Int} : ∀ d ∈ ns.map D.int, isS d = true := fun d hd => by obtain ⟨n, _, rfl⟩ := List.mem_map.mp hd; rfl
theorem isS_strs {ns : List Str} : ∀ d ∈ ns.map D.str, isS d = true := fun d hd => by obtain ⟨n, _, rfl⟩ := List.mem_map.mp hd; rfl
theorem any_int {i : Int} : ∀ {ns : List Int}, ((ns.map D.int).any fun y => eqD y (.int i)) = decide (i ∈ ns)
  | [] => by simp
  | n :: ns => by
    rw [List.map_cons, List.any_cons, any_int (ns := ns)]
    show (n == i || decide (i ∈ ns)) = decide (i ∈ n :: ns)
    by_cases q : n = i
    · subst q; simp
    · rw [beq_false_of_ne q, Bool.false_or]
      refine decide_eq_decide.mpr ⟨fun z => List.mem_cons_of_mem _ z, fun z => ?_⟩
      rcases List.mem_cons.mp z with z | z
      · exact absurd z.symm q
      · exact z
theorem any_str {i : Str} : ∀ {ns : List Str}, ((ns.map D.str).any fun y => eqD y (.str i)) = decide (i ∈ ns)
  | [] => by simp
  | n :: ns => by
    rw [List.map_cons, List.any_cons, any_str (ns := ns)]
    show (n == i || decide (i ∈ ns)) = decide (i ∈ n :: ns)
    by_cases q : n = i
    · subst q; simp
    · rw [beq_false_of_ne q, Bool.false_or]
      refine decide_eq_decide.mpr ⟨fun z => List.mem_cons_of_mem _ z, fun z => ?_⟩
      rcases List.mem_cons.mp z with z | z
      · exact absurd z.symm q
      · exact z
theorem Op2.inI {i : Int} {ns : List Int} : Op2 X (compareOp .In) (.int i) (.lst (ns.map .int)) (.bl (decide (i ∈ ns))) .sh := (Op2.inL rfl isS_ints).is (by rw [any_int])
theorem Op2.niI {i : Int} {ns : List Int} : Op2 X (compareOp .NotIn) (.int i) (.lst (ns.map .int)) (.bl (!decide (i ∈ ns))) .sh := (Op2.niL rfl isS_ints).is (by rw [any_int])
theorem Op2.inS {i : Str} {ns : List Str} : Op2 X (compareOp .In) (.str i) (.lst (ns.map .str)) (.bl (decide (i ∈ ns))) .sh := (Op2.inL rfl isS_strs).is (by rw [any_str])
theorem Op2.niS {i : Str} {ns : List Str} : Op2 X (compareOp .NotIn) (.str i) (.lst (ns.map .str)) (.bl (!decide (i ∈ ns))) .sh := (Op2.niL rfl isS_strs).is (by rw [any_str])

/-! ### subscripts -/
def Ix2 (X : Cx) (d1 d2 d : D) : Prop :=
  ∃ r, IxR X r ∧ ∀ O H v1 v2 Q, Trk O H → Rw X.K O H d1 v1 → Rw X.K O H d2 v2 → (∀ v H', Outp X.K O H H' .sh d v → Q v H') → r v1 v2 H Q
theorem EK.ix (ha : ER X a ρ d1) (hb : ER X b ρ d2) (h : Ix2 X d1 d2 d) (hp : PlainIx b := by exact fun _ _ => rfl) : EK X (.Subscript a b pos) ρ d .sh := by
  obtain ⟨r, ho, hq⟩ := h
  refine pe_weak (pe_ix ho ha hb hp) fun σ H Q ⟨G, T, os, i, q⟩ => ⟨G, T, os, i, fun v1 H1 i1 w1 s1 => ⟨G, T, os, i1, fun v2 H2 i2 w2 s2 => ?_⟩⟩
  refine hq (Od G T os) H2 v1 v2 Q i2.tr (w1.mono s2 fun _ _ _ n => n) w2 fun v H' o => ?_
  obtain ⟨t1, t2⟩ := o.tm i2
  exact q v H' t1 ((s1.trans s2).trans t2) .sh
theorem atI_rp {K : Fr} {O : Addr → Prop} {H : Hp} {ds : List D} {xs : List V} {i : Int} (h : RpL K O H ds xs) (e : atI ds i = some d) : ∃ v, atI xs i = some v ∧ Rp K O H d v := by
  unfold atI at e ⊢
  rw [h.length]
  cases q : ixN ds.length i with
  | none => rw [q] at e; cases e
  | some j =>
    rw [q] at e
    exact h.get (i := j) e
theorem Ix2.l {ds : List D} {i : Int} (e : atI ds i = some d) : Ix2 X (.lst ds) (.int i) d :=
  ⟨_, ix_list, fun O H v1 v2 Q _ w1 w2 q => by
    obtain ⟨a, xs, rfl, h1, h2⟩ := w1
    simp only [Rw, Rp] at w2
    obtain ⟨v, e1, e2⟩ := atI_rp h2 e
    exact ⟨a, xs, i, v, rfl, w2, h1, e1, q v H (.scal e2)⟩⟩
theorem Ix2.t {ds : List D} {i : Int} (e : atI ds i = some d) : Ix2 X (.tup ds) (.int i) d :=
  ⟨_, ix_tup, fun O H v1 v2 Q _ w1 w2 q => by
    obtain ⟨a, xs, rfl, h1, h2⟩ := tupW w1
    simp only [Rw, Rp] at w2
    obtain ⟨v, e1, e2⟩ := atI_rp h2 e
    exact ⟨a, xs, i, v, rfl, w2, h1, e1, q v H (.scal e2)⟩⟩
theorem Ix2.s {z : Str} {i : Int} {c : Nat} (hz : z.length ≤ 1000000) (e : atI z.cps.toList i = some c) : Ix2 X (.str z) (.int i) (.str ⟨#[c]⟩) :=
  ⟨_, ix_str, fun O H v1 v2 Q _ w1 w2 q => by
    simp only [Rw, Rp] at w1 w2
    exact ⟨z, i, c, w1, w2, sz hz, e, q _ H (.scal (by simp only [Rp]))⟩⟩
theorem atI_of {α : Type} {xs : List α} {i : Int} {x : α} (h0 : 0 ≤ i) (h : xs[i.toNat]? = some x) : atI xs i = some x := by
  have q : atI xs ((i.toNat : Nat) : Int) = some x := atI_nat h
  rwa [Int.toNat_of_nonneg h0] at q
theorem atI_lt {α : Type} {xs : List α} {i : Int} (h0 : 0 ≤ i) (h : i < xs.length) : ∃ x, atI xs i = some x ∧ xs[i.toNat]? = some x := by
  have hi : i.toNat < xs.length := by omega
  exact ⟨xs[i.toNat], atI_of h0 (List.getElem?_eq_getElem hi), List.getElem?_eq_getElem hi⟩
/-! ### dicts -/
def kyD : D → Option Key
  | .int i => some (.inl i) | .str s => some (.inr s) | _ => none
def lkD : List Key → List D → Key → Option D
  | k :: ks, d :: ds, x => if k = x then some d else lkD ks ds x
  | _, _, _ => none
theorem ky_v {K : Fr} {O : Addr → Prop} {H : Hp} {v : V} {x : Key} (e : kyD d = some x) (w : Rw K O H d v) : v = kV x := by
  cases d <;> simp only [kyD, Option.some.injEq, reduceCtorEq] at e <;> subst e <;> simp only [Rw, Rp] at w <;> exact w
theorem lk_get {K : Fr} {O : Addr → Prop} {H : Hp} {x : Key} : ∀ {ys : List (Key × V)} {ds : List D}, RpL K O H ds (ys.map (·.2)) → (∀ d, lkD (ys.map (·.1)) ds x = some d → ∃ v, valV ys x = some v ∧ Rp K O H d v) ∧ (lkD (ys.map (·.1)) ds x = none → valV ys x = none)
  | [], ds, h => ⟨fun d e => by simp [lkD] at e, fun _ => rfl⟩
  | y :: ys, [], h => by simp only [List.map, RpL] at h; cases h
  | y :: ys, d :: ds, h => by
    simp only [List.map, RpL] at h
    obtain ⟨v, r, e, h1, h2⟩ := h
    cases e
    have ih := lk_get (x := x) h2
    constructor
    · intro d' e
      simp only [List.map, lkD] at e
      by_cases q : y.1 = x
      · rw [if_pos q] at e; cases e
        exact ⟨_, valV_pos q, h1⟩
      · rw [if_neg q] at e
        rw [valV_neg q]
        exact ih.1 d' e
    · intro e
      simp only [List.map, lkD] at e
      by_cases q : y.1 = x
      · rw [if_pos q] at e; cases e
      · rw [if_neg q] at e
        rw [valV_neg q]
        exact ih.2 e
theorem EK.dget {ks : List Key} {ds : List D} {x : Key} (hu : X.A.units + 1 < cLine) (ha : ER X a ρ (.dic ks ds)) (hb : ER X b ρ d2) (hk : kyD d2 = some x) (h : lkD ks ds x = some d) (hs : NoSl b := by exact fun _ _ => rfl) : EK X (.Subscript a b pos) ρ d .sh :=
  pe_weak (pe_dget hu ha hb hs) fun σ H Q ⟨G, T, os, i, q⟩ => ⟨G, T, os, i, fun v1 H1 i1 w1 s1 => ⟨G, T, os, i1, fun v2 H2 i2 w2 s2 => by
    obtain ⟨p, ys, rfl, h1, h3, h2⟩ := w1.mono s2 fun _ _ _ n => n
    subst h3
    obtain ⟨v, e1, e2⟩ := (lk_get h2).1 d h
    refine ⟨p, v, rfl, ?_, q v H2 ⟨i2, e2⟩ (s1.trans s2) .sh⟩
    rw [ky_v hk w2, ← e1]
    exact DGet.k h1⟩⟩
theorem EK.din {ks : List Key} {ds : List D} {x : Key} (hu : X.A.units + 1 < cLine) (ha : ER X a ρ d1) (hb : ER X b ρ (.dic ks ds)) (hk : kyD d1 = some x) (hm : behindInMarks .In b = false := by rfl) : EK X (.Compare a [.In] [b] pos) ρ (.bl (lkD ks ds x).isSome) .sh :=
  pe_weak (pe_cmp (pc_din hu ha hb) hm) fun σ H Q ⟨G, T, os, i, q⟩ => ⟨G, T, os, i, fun v1 H1 i1 w1 s1 => ⟨G, T, os, i1, fun v2 H2 i2 w2 s2 => by
    obtain ⟨p, ys, rfl, h1, h3, h2⟩ := w2
    subst h3
    refine ⟨p, valV ys x, rfl, by rw [ky_v hk w1]; exact DGet.k h1, ?_⟩
    have e : (valV ys x).isSome = (lkD (ys.map (·.1)) ds x).isSome := by
      cases z : lkD (ys.map (·.1)) ds x with
      | none => rw [(lk_get h2).2 z] <;> rfl
      | some d => obtain ⟨v, e1, _⟩ := (lk_get h2).1 d z; rw [e1]; rfl
    rw [e]
    exact q _ H2 ⟨i2, by simp only [Rp]⟩ (s1.trans s2) .sh⟩⟩
theorem EK.dni {ks : List Key} {ds : List D} {x : Key} (hu : X.A.units + 1 < cLine) (ha : ER X a ρ d1) (hb : ER X b ρ (.dic ks ds)) (hk : kyD d1 = some x) (hm : behindInMarks .NotIn b = false := by rfl) : EK X (.Compare a [.NotIn] [b] pos) ρ (.bl (!(lkD ks ds x).isSome)) .sh :=
  pe_weak (pe_cmp (pc_dnotin hu ha hb) hm) fun σ H Q ⟨G, T, os, i, q⟩ => ⟨G, T, os, i, fun v1 H1 i1 w1 s1 => ⟨G, T, os, i1, fun v2 H2 i2 w2 s2 => by
    obtain ⟨p, ys, rfl, h1, h3, h2⟩ := w2
    subst h3
    refine ⟨p, valV ys x, rfl, by rw [ky_v hk w1]; exact DGet.k h1, ?_⟩
    have e : (valV ys x).isSome = (lkD (ys.map (·.1)) ds x).isSome := by
      cases z : lkD (ys.map (·.1)) ds x with
      | none => rw [(lk_get h2).2 z] <;> rfl
      | some d => obtain ⟨v, e1, _⟩ := (lk_get h2).1 d z; rw [e1]; rfl
    rw [e]
    exact q _ H2 ⟨i2, by simp only [Rp]⟩ (s1.trans s2) .sh⟩⟩
end
end Pv
namespace Pv
open PySem L2 PyProof.Rows

/-! ### storing into a slot -/
section
variable {K : Fr} {G : Gx} {T : List Addr} {os os' os'' : List (Option Addr)} {ρ ρ' ρ'' : Env} {σ σ' : L2.St} {H H' H'' : Hp} {a p : Addr} {d : D} {v : V}
/-- what a statement may do -/
structure StS (os : List (Option Addr)) (H : Hp) (os' : List (Option Addr)) (H' : Hp) : Prop where
  keep : ∀ a o, H a = some o → some a ∉ os → H' a = some o
  own : ∀ a, some a ∈ os' → some a ∈ os ∨ H a = none
  fre : ∀ a, H' a = none → H a = none
theorem StS.refl : StS os H os H := ⟨fun _ _ h _ => h, fun _ h => .inl h, fun _ h => h⟩
theorem Stp.s (s : Stp os H os' H') : StS os H os' H' := ⟨s.keep, fun _ h => .inl (s.mem h), s.fre⟩
theorem StS.trans (s : StS os H os' H') (t : StS os' H' os'' H'') : StS os H os'' H'' := by
  refine ⟨fun a o h n => t.keep a o (s.keep a o h n) fun q => ?_, fun a h => ?_, fun a h => s.fre a (t.fre a h)⟩
  · rcases s.own a q with q | q
    · exact n q
    · rw [q] at h; cases h
  · rcases t.own a h with q | q
    · exact s.own a q
    · exact .inr (s.fre a q)
theorem StS.gd (s : StS os H os' H') : Gd (Od G T os) H (Od G T os') H' := fun a o h n =>
  ⟨s.keep a o h fun q => n (.inr (.inr q)), fun q => n (by
    rcases q with q | q | q
    · exact .inl q
    · exact .inr (.inl q)
    · rcases s.own a q with q | q
      · exact .inr (.inr q)
      · rw [q] at h; cases h)⟩
theorem set_len {α : Type} {l : List α} {i : Nat} {x : α} (h : ¬ i < l.length) : l.set i x = l := List.set_eq_of_length_le (Nat.le_of_not_lt h)
/-- a value that anybody may hold -/
theorem I.put {i : Nat} (h : I K G T os ρ σ H) (w : Rp K (Od G T os) H d v) : I K G T (os.set i none) (ρ.set i (some (.sh, d))) (σ.set i (some v)) H := by
  by_cases hn : ¬ i < ρ.length
  · rw [set_len hn, set_len (by rw [h.lo]; exact hn), set_len (by rw [h.ls]; exact hn)]; exact h
  have hi : i < ρ.length := Decidable.not_not.mp hn
  have hs : i < σ.length := by rw [h.ls]; exact hi
  have g : Gd (Od G T os) H (Od G T (os.set i none)) H := Stp.gd (show Stp os H (os.set i none) H from ⟨fun _ _ h _ => h, fun j b q => (get_set_none q).1, fun _ h => h⟩)
  refine ⟨?_, ?_, h.nT, fun b hb q => h.nO b hb (mem_set_none q), fun j k b q1 q2 => h.inj j k b (get_set_none q1).1 (get_set_none q2).1, fun b hb => h.tr b ?_, fun b hb => ⟨(h.ex b hb).1, fun q => (h.ex b hb).2 (mem_set_none q)⟩, fun j d' q => ?_, fun j f' d' q n' => ?_, fun j b q => ?_, fun j d' q => ?_, h.h0, h.f0, fun j b d' q1 q2 => ?_⟩
  · rw [List.length_set, List.length_set]; exact h.lo
  · rw [List.length_set, List.length_set]; exact h.ls
  · rcases hb with q | q | q
    · exact .inl q
    · exact .inr (.inl q)
    · exact .inr (.inr (mem_set_none q))
  · by_cases e : i = j
    · subst e
      rw [List.getElem?_set_self hi] at q
      cases q
      exact ⟨v, List.getElem?_set_self hs, Rp.mono g _ _ w⟩
    · rw [List.getElem?_set_ne e] at q
      obtain ⟨u, q1, q2⟩ := h.sh j d' q
      exact ⟨u, by rw [List.getElem?_set_ne e]; exact q1, Rp.mono g _ _ q2⟩
  · by_cases e : i = j
    · subst e
      rw [List.getElem?_set_self hi] at q
      cases q
      exact absurd rfl n'
    · rw [List.getElem?_set_ne e] at q
      obtain ⟨b, q1, q2, q3⟩ := h.ow j f' d' q n'
      exact ⟨b, by rw [List.getElem?_set_ne e]; exact q1, by rw [List.getElem?_set_ne e]; exact q2, q3.mono g rfl⟩
  · obtain ⟨q1, q2⟩ := get_set_none q
    obtain ⟨f', d', q3, q4⟩ := h.no j b q1
    exact ⟨f', d', q3, by rw [List.getElem?_set_ne (fun z => q2 z.symm)]; exact q4⟩
  · by_cases e : i = j
    · subst e
      rw [List.getElem?_set_self hi] at q
      cases q
    · rw [List.getElem?_set_ne e] at q
      obtain ⟨b, q1, q2⟩ := h.io j d' q
      exact ⟨b, q1, by rw [List.getElem?_set_ne e]; exact q2⟩
  · obtain ⟨q3, q4⟩ := get_set_none q1
    rw [List.getElem?_set_ne (fun z => q4 z.symm)] at q2
    exact h.g0 j b d' q3 q2
theorem StS.put {i : Nat} : StS os H (os.set i none) H := ⟨fun _ _ h _ => h, fun a h => .inl (mem_set_none h), fun _ h => h⟩
theorem get_set_some {l : List (Option Addr)} {i j : Nat} {a b : Addr} (h : (l.set i (some a))[j]? = some (some b)) : (j = i ∧ b = a) ∨ (j ≠ i ∧ l[j]? = some (some b)) := by
  by_cases e : i = j
  · subst e
    by_cases q : i < l.length
    · rw [List.getElem?_set_self q] at h; cases h; exact .inl ⟨rfl, rfl⟩
    · rw [List.getElem?_eq_none (by simpa using q)] at h; cases h
  · rw [List.getElem?_set_ne e] at h; exact .inr ⟨fun z => e z.symm, h⟩
theorem mem_set_some {l : List (Option Addr)} {i : Nat} {a b : Addr} (h : some b ∈ l.set i (some a)) : b = a ∨ some b ∈ l := by
  obtain ⟨j, h⟩ := mem_get h
  rcases get_set_some h with ⟨_, q⟩ | ⟨_, q⟩
  · exact .inl q
  · exact .inr (mem_of_get q)
/-- a new container becomes the frame's own -/
theorem I.own {i : Nat} (h : I K G (a :: T) os ρ σ H) (w : Ow K (Od G (a :: T) os) H a d) : I K G T (os.set i (some a)) (ρ.set i (some (.own, d))) (σ.set i (some (.ref a))) H := by
  by_cases hn : ¬ i < ρ.length
  · rw [set_len hn, set_len (by rw [h.lo]; exact hn), set_len (by rw [h.ls]; exact hn)]; exact h.drop
  have hi : i < ρ.length := Decidable.not_not.mp hn
  have hs : i < σ.length := by rw [h.ls]; exact hi
  have ho : i < os.length := by rw [h.lo]; exact hi
  have na := h.ndrop
  have od : ∀ b, Od G T (os.set i (some a)) b → Od G (a :: T) os b := fun b q => by
    rcases q with q | q | q
    · exact .inl q
    · exact .inr (.inl (List.mem_cons_of_mem _ q))
    · rcases mem_set_some q with q | q
      · exact .inr (.inl (by rw [q]; exact List.mem_cons_self ..))
      · exact .inr (.inr q)
  have g : Gd (Od G (a :: T) os) H (Od G T (os.set i (some a))) H := fun b o q n => ⟨q, fun z => n (od b z)⟩
  have nO : some a ∉ os := fun q => h.nO a (List.mem_cons_self ..) q
  refine ⟨?_, ?_, (List.nodup_cons.mp h.nT).2, fun b hb q => ?_, fun j k b q1 q2 => ?_, fun b hb => h.tr b (od b hb), fun b hb => ⟨fun q => (h.ex b hb).1 (List.mem_cons_of_mem _ q), fun q => ?_⟩, fun j d' q => ?_, fun j f' d' q n' => ?_, fun j b q => ?_, fun j d' q => ?_, h.h0, fun b hb => h.f0 b (List.mem_cons_of_mem _ hb), fun j b d' q1 q2 => ?_⟩
  · rw [List.length_set, List.length_set]; exact h.lo
  · rw [List.length_set, List.length_set]; exact h.ls
  · rcases mem_set_some q with q | q
    · rw [q] at hb; exact (List.nodup_cons.mp h.nT).1 hb
    · exact h.nO b (List.mem_cons_of_mem _ hb) q
  · rcases get_set_some q1 with ⟨z1, z2⟩ | ⟨z1, z2⟩ <;> rcases get_set_some q2 with ⟨y1, y2⟩ | ⟨y1, y2⟩
    · rw [z1, y1]
    · rw [z2] at y2; exact absurd (mem_of_get y2) nO
    · rw [y2] at z2; exact absurd (mem_of_get z2) nO
    · exact h.inj j k b z2 y2
  · rcases mem_set_some q with q | q
    · rw [q] at hb; exact (h.ex a hb).1 (List.mem_cons_self ..)
    · exact (h.ex b hb).2 q
  · by_cases e : i = j
    · subst e
      rw [List.getElem?_set_self hi] at q
      cases q
    · rw [List.getElem?_set_ne e] at q
      obtain ⟨u, q1, q2⟩ := h.sh j d' q
      exact ⟨u, by rw [List.getElem?_set_ne e]; exact q1, Rp.mono g _ _ q2⟩
  · by_cases e : i = j
    · subst e
      rw [List.getElem?_set_self hi] at q
      cases q
      exact ⟨a, List.getElem?_set_self ho, List.getElem?_set_self hs, w.mono g rfl⟩
    · rw [List.getElem?_set_ne e] at q
      obtain ⟨b, q1, q2, q3⟩ := h.ow j f' d' q n'
      exact ⟨b, by rw [List.getElem?_set_ne e]; exact q1, by rw [List.getElem?_set_ne e]; exact q2, q3.mono g rfl⟩
  · rcases get_set_some q with ⟨q1, q2⟩ | ⟨q1, q2⟩
    · subst q1
      exact ⟨.own, d, by decide, List.getElem?_set_self hi⟩
    · obtain ⟨f', d', q3, q4⟩ := h.no j b q2
      exact ⟨f', d', q3, by rw [List.getElem?_set_ne (fun z => q1 z.symm)]; exact q4⟩
  · by_cases e : i = j
    · subst e
      rw [List.getElem?_set_self hi] at q
      cases q
    · rw [List.getElem?_set_ne e] at q
      obtain ⟨b, q1, q2⟩ := h.io j d' q
      exact ⟨b, q1, by rw [List.getElem?_set_ne e]; exact q2⟩
  · rcases get_set_some q1 with ⟨z1, z2⟩ | ⟨z1, z2⟩
    · rw [z2]; exact h.f0 a (List.mem_cons_self ..)
    · rw [List.getElem?_set_ne (fun z => z1 z.symm)] at q2
      exact h.g0 j b d' z2 q2
/-- the frame's own container handed out -/
theorem I.move {i : Nat} (h : I K G T os ρ σ H) (r : ρ[i]? = some (some (.own, d))) :
    ∃ a, os[i]? = some (some a) ∧ I K G (a :: T) (os.set i none) (ρ.set i none) σ H ∧ Ow K (Od G (a :: T) (os.set i none)) H a d := by
  obtain ⟨a, h1, h2, h3⟩ := h.ow i _ d r (by decide)
  have hi : i < ρ.length := (List.getElem?_eq_some_iff.mp r).1
  have hm := mem_of_get h1
  have od : ∀ b, Od G (a :: T) (os.set i none) b → Od G T os b := fun b q => by
    rcases q with q | q | q
    · exact .inl q
    · rcases List.mem_cons.mp q with q | q
      · rw [q]; exact .inr (.inr hm)
      · exact .inr (.inl q)
    · exact .inr (.inr (mem_set_none q))
  have g : Gd (Od G T os) H (Od G (a :: T) (os.set i none)) H := fun b o q n => ⟨q, fun z => n (od b z)⟩
  refine ⟨a, h1, ⟨?_, ?_, List.nodup_cons.mpr ⟨fun q => h.nO a q hm, h.nT⟩, fun b hb q => ?_, fun j k b q1 q2 => h.inj j k b (get_set_none q1).1 (get_set_none q2).1, fun b hb => h.tr b (od b hb), fun b hb => ⟨fun q => ?_, fun q => (h.ex b hb).2 (mem_set_none q)⟩, fun j d' q => ?_, fun j f' d' q n' => ?_, fun j b q => ?_, fun j d' q => ?_, h.h0, fun b hb => ?_, fun j b d' q1 q2 => ?_⟩, h3.mono g rfl⟩
  · rw [List.length_set, List.length_set]; exact h.lo
  · rw [List.length_set]; exact h.ls
  · rcases List.mem_cons.mp hb with e | e
    · obtain ⟨j, z⟩ := mem_get q
      obtain ⟨z1, z2⟩ := get_set_none z
      rw [e] at z1
      exact z2 (h.inj j i a z1 h1)
    · exact h.nO b e (mem_set_none q)
  · rcases List.mem_cons.mp q with e | e
    · rw [e] at hb; exact (h.ex a hb).2 hm
    · exact (h.ex b hb).1 e
  · by_cases e : i = j
    · subst e
      rw [List.getElem?_set_self hi] at q
      cases q
    · rw [List.getElem?_set_ne e] at q
      obtain ⟨u, q1, q2⟩ := h.sh j d' q
      exact ⟨u, q1, Rp.mono g _ _ q2⟩
  · by_cases e : i = j
    · subst e
      rw [List.getElem?_set_self hi] at q
      cases q
    · rw [List.getElem?_set_ne e] at q
      obtain ⟨b, q1, q2, q3⟩ := h.ow j f' d' q n'
      exact ⟨b, by rw [List.getElem?_set_ne e]; exact q1, q2, q3.mono g rfl⟩
  · obtain ⟨q1, q2⟩ := get_set_none q
    obtain ⟨f', d', q3, q4⟩ := h.no j b q1
    exact ⟨f', d', q3, by rw [List.getElem?_set_ne (fun z => q2 z.symm)]; exact q4⟩
  · by_cases e : i = j
    · subst e
      rw [List.getElem?_set_self hi] at q
      cases q
    · rw [List.getElem?_set_ne e] at q
      obtain ⟨b, q1, q2⟩ := h.io j d' q
      exact ⟨b, q1, by rw [List.getElem?_set_ne e]; exact q2⟩
  · rcases List.mem_cons.mp hb with e | e
    · rw [e]; exact h.g0 i a d h1 r
    · exact h.f0 b e
  · obtain ⟨q3, q4⟩ := get_set_none q1
    rw [List.getElem?_set_ne (fun z => q4 z.symm)] at q2
    exact h.g0 j b d' q3 q2
end

/-! ### statements -/
structure Po where
  nx : Env → Prop
  rt : D → Kd → Env → Prop
  bk : Env → Prop := fun _ => False
  ct : Env → Prop := fun _ => False
def tW (K : Fr) (ρ : Env) (P : Po) : TS := fun E σ H => ∃ G T os, I K G T os ρ σ H ∧
  (∀ ρ' σ' H' os', P.nx ρ' → I K G T os' ρ' σ' H' → StS os H os' H' → E.nx σ' H') ∧
  (∀ d k ρ' v σ' H' os', P.rt d k ρ' → Tm K G T os' ρ' σ' H' k d v → StS os H os' H' → E.rt v H') ∧
  (∀ ρ' σ' H' os', P.bk ρ' → I K G T os' ρ' σ' H' → StS os H os' H' → E.bk σ' H') ∧
  (∀ ρ' σ' H' os', P.ct ρ' → I K G T os' ρ' σ' H' → StS os H os' H' → E.ct σ' H')
def WS (X : Cx) (st : Stmt) (ρ : Env) (P : Po) : Prop := PS X st (tW X.K ρ P)
def W (X : Cx) (sts : List Stmt) (ρ : Env) (P : Po) : Prop := PSs X sts (tW X.K ρ P)
theorem ps_weak {X : Cx} {st : Stmt} {t t' : TS} (h : PS X st t) (w : ∀ D σ H, t' D σ H → t D σ H) : PS X st t' := ⟨fun pins s σ H D I q => h.run pins s σ H D I (w D σ H q)⟩
theorem pss_weak {X : Cx} {st : List Stmt} {t t' : TS} (h : PSs X st t) (w : ∀ D σ H, t' D σ H → t D σ H) : PSs X st t' := ⟨fun pins s σ H D I q => h.run pins s σ H D I (w D σ H q)⟩
theorem pss_cond {X : Cx} {st : List Stmt} {p : Prop} {t : TS} (hp : p → PSs X st t) : PSs X st (fun D σ H => p ∧ t D σ H) := ⟨fun pins s σ H D I q => (hp q.1).run pins s σ H D I q.2⟩

/-- a state reached by a statement that had begun elsewhere -/
theorem tW.from {K : Fr} {G : Gx} {T : List Addr} {os os1 : List (Option Addr)} {ρ1 : Env} {σ1 : L2.St} {H H1 : Hp} {P : Po} {E : Ends} (i : I K G T os1 ρ1 σ1 H1) (s : StS os H os1 H1)
    (h1 : ∀ ρ' σ' H' os', P.nx ρ' → I K G T os' ρ' σ' H' → StS os H os' H' → E.nx σ' H')
    (h2 : ∀ d k ρ' v σ' H' os', P.rt d k ρ' → Tm K G T os' ρ' σ' H' k d v → StS os H os' H' → E.rt v H')
    (h3 : ∀ ρ' σ' H' os', P.bk ρ' → I K G T os' ρ' σ' H' → StS os H os' H' → E.bk σ' H')
    (h4 : ∀ ρ' σ' H' os', P.ct ρ' → I K G T os' ρ' σ' H' → StS os H os' H' → E.ct σ' H') : tW K ρ1 P E σ1 H1 :=
  ⟨G, T, os1, i, fun ρ' σ' H' os' p j t => h1 ρ' σ' H' os' p j (s.trans t), fun d k ρ' v σ' H' os' p j t => h2 d k ρ' v σ' H' os' p j (s.trans t), fun ρ' σ' H' os' p j t => h3 ρ' σ' H' os' p j (s.trans t), fun ρ' σ' H' os' p j t => h4 ρ' σ' H' os' p j (s.trans t)⟩

section
variable {X : Cx} {e : Expr} {st : Stmt} {sts rest A B : List Stmt} {ρ ρ' ρ1 : Env} {d : D} {ds : List D} {k : Kd} {pos : Pos} {P : Po}
theorem W.nil (h : P.nx ρ) : W X [] ρ P := pss_weak pss_nil fun E σ H ⟨G, T, os, i, q1, q2, q3, q4⟩ => q1 ρ σ H os h i .refl
theorem W.cons {R : Env → Prop} (h : WS X st ρ { P with nx := R }) (r : ∀ ρ', R ρ' → W X rest ρ' P) : W X (st :: rest) ρ P := by
  refine pss_weak (pss_cons h (u := fun E σ H => ∃ ρ', R ρ' ∧ tW X.K ρ' P E σ H) ⟨fun pins s σ H E I ⟨ρ', q1, q2⟩ => (r ρ' q1).run pins s σ H E I q2⟩) fun E σ H ⟨G, T, os, i, q1, q2, q3, q4⟩ => ?_
  exact ⟨G, T, os, i, fun ρ' σ' H' os' p j s => ⟨ρ', p, tW.from j s q1 q2 q3 q4⟩, q2, q3, q4⟩
theorem W.cons' (h : WS X st ρ { P with nx := fun ρ' => W X rest ρ' P }) : W X (st :: rest) ρ P := W.cons h fun _ h => h
theorem W.one (h : WS X st ρ P) : W X [st] ρ P := pss_one h
theorem WS.pass (h : P.nx ρ) : WS X (.Pass pos) ρ P := ps_weak ps_pass fun E σ H ⟨G, T, os, i, q1, q2, q3, q4⟩ => q1 ρ σ H os h i .refl
theorem WS.brk (h : P.bk ρ) : WS X (.Break pos) ρ P := ps_weak ps_break fun E σ H ⟨G, T, os, i, q1, q2, q3, q4⟩ => q3 ρ σ H os h i .refl
theorem WS.cont (h : P.ct ρ) : WS X (.Continue pos) ρ P := ps_weak ps_continue fun E σ H ⟨G, T, os, i, q1, q2, q3, q4⟩ => q4 ρ σ H os h i .refl
/-- the statement e -/
theorem WS.expr {R : Po1} (h : EP X e ρ R) (k : ∀ d k ρ', R d k ρ' → P.nx ρ') (hs : swapsWith e none pos.line X.env = pure false := by rfl) : WS X (.Expr e pos) ρ P :=
  ps_weak (ps_expr h hs) fun E σ H ⟨G, T, os, i, q1, q2, q3, q4⟩ => ⟨G, T, os, i, fun d k' ρ' v H' os' r t s _ => q1 ρ' σ H' os' (k d k' ρ' r) t.i s.s⟩
theorem WS.ret {R : Po1} (h : EP X e ρ R) (k : ∀ d k ρ', R d k ρ' → P.rt d k ρ') : WS X (.Return (some e) pos) ρ P :=
  ps_weak (ps_ret h) fun E σ H ⟨G, T, os, i, q1, q2, q3, q4⟩ => ⟨G, T, os, i, fun d k' ρ' v H' os' r t s _ => q2 d k' ρ' v σ H' os' (k d k' ρ' r) t s.s⟩
theorem WS.retN (h : P.rt .non .sh ρ) : WS X (.Return none pos) ρ P := ps_weak ps_retN fun E σ H ⟨G, T, os, i, q1, q2, q3, q4⟩ => q2 .non .sh ρ .non σ H os h ⟨i, by simp only [Rp]⟩ .refl
/-- return of an own container: it is the caller's then -/
theorem WS.retO {i : Nat} (h : EK X e ρ d (.ow i)) (ho : ρ[i]? = some (some (.own, d))) (k : P.rt d .fr (ρ.set i none)) : WS X (.Return (some e) pos) ρ P :=
  ps_weak (ps_ret h) fun E σ H ⟨G, T, os, j, q1, q2, q3, q4⟩ => ⟨G, T, os, j, fun v H' t s _ => by
    obtain ⟨t1, a, f, rfl, h1, h2, h3⟩ := t
    obtain ⟨b, y1, y2, y3⟩ := t1.move ho
    rw [h1] at y1
    cases y1
    exact q2 d .fr _ _ σ H' _ k ⟨a, rfl, y2, y3⟩ ((Stp.of s).s.trans .put)⟩
/-- x = e -/
def slotOf : Kd → D → Option (Fl × D)
  | .fr, d => some (.own, d)
  | _, d => some (.sh, d)
theorem StS.new {os os' : List (Option Addr)} {H : Hp} (h : ∀ b, some b ∈ os' → some b ∈ os ∨ H b = none) : StS os H os' H := ⟨fun _ _ q _ => q, h, fun _ q => q⟩
theorem set_tm {K : Fr} {G : Gx} {T : List Addr} {os : List (Option Addr)} {ρ : Env} {σ : L2.St} {H : Hp} {v : V} {i : Nat} (hk : k.free = true) (t : Tm K G T os ρ σ H k d v) :
    ∃ os', I K G T os' (ρ.set i (slotOf k d)) (σ.set i (some v)) H ∧ ∀ b, some b ∈ os' → some b ∈ os ∨ (k = .fr ∧ v = .ref b) := by
  cases k with
  | sh => exact ⟨_, t.1.put t.2, fun b hb => .inl (mem_set_none hb)⟩
  | fr =>
    obtain ⟨a, rfl, t1, t2⟩ := t
    exact ⟨_, t1.own t2, fun b hb => (mem_set_some hb).elim (fun e => .inr ⟨rfl, by rw [e]⟩) .inl⟩
  | ow i => cases hk
theorem asg_end {K : Fr} {G : Gx} {T : List Addr} {os os1 : List (Option Addr)} {ρ' : Env} {σ : L2.St} {H H' : Hp} {v : V} {i : Nat} {E : Ends} (hk : k.free = true) (t : Tm K G T os1 ρ' σ H' k d v) (s : Stp os H os1 H') (n : Nw H k v)
    (hp : P.nx (ρ'.set i (slotOf k d))) (q1 : ∀ ρ' σ' H' os', P.nx ρ' → I K G T os' ρ' σ' H' → StS os H os' H' → E.nx σ' H') : E.nx (σ.set i (some v)) H' := by
  obtain ⟨o2, j, m⟩ := set_tm (i := i) hk t
  refine q1 _ _ H' o2 hp j ⟨s.keep, fun b hb => ?_, s.fre⟩
  rcases m b hb with z | ⟨z1, z2⟩
  · exact .inl (s.mem z)
  · exact .inr (n z1 b z2)
theorem WS.asg {i : Nat} {x : Str} {px : Pos} {R : Po1} (hN : X.N.Nodup) (hi : X.N[i]? = some x) (hx : Loc X.env.scope x) (h : EP X e ρ R) (hk : ∀ d k ρ', R d k ρ' → k.free = true ∧ P.nx (ρ'.set i (slotOf k d)))
    (hf : X.fn x = true ∨ X.env.scope.names.lookup x = some .local := by first | exact .inl rfl | exact .inr rfl) (hs : swapsWithSole [.Name x px] e pos.line X.env = pure false := by rfl) (hw : swappedStores [.Name x px] e X.env = pure none := by rfl) : WS X (.Assign [.Name x px] e pos) ρ P :=
  ps_weak (ps_asg h (pg_name hN hi hx hf) hs hw) fun E σ H ⟨G, T, os, j, q1, q2, q3, q4⟩ => ⟨G, T, os, j, fun d k ρ' v H' os' r t s n => asg_end (hk d k ρ' r).1 t s n (hk d k ρ' r).2 q1⟩
theorem WS.ifS {b : Bool} (hc : ET X e ρ b) (h1 : b = true → W X A ρ P) (h2 : b = false → W X B ρ P) : WS X (.If e A B pos) ρ P :=
  ps_weak (ps_if hc (pss_cond h1) (pss_cond h2)) fun E σ H ⟨G, T, os, i, q1, q2, q3, q4⟩ => ⟨G, T, os, i, fun H1 i1 s1 => by
    have s := (Stp.of s1).s (os := os)
    cases b with
    | true => exact iteT ⟨rfl, tW.from i1 s q1 q2 q3 q4⟩
    | false => exact iteF ⟨rfl, tW.from i1 s q1 q2 q3 q4⟩⟩
/-- a statement that is not reached -/
theorem WS.never (h : False) : WS X st ρ P := h.elim
end
end Pv
namespace Pv
open PySem L2 PyProof.Rows

section
variable {K : Fr} {G : Gx} {T T1 : List Addr} {os os' os'' : List (Option Addr)} {ρ ρ' ρ'' : Env} {σ σ' : L2.St} {H H' H'' : Hp} {a p : Addr} {d : D} {v : V}
theorem Gd.sub (hs : ∀ a ∈ T1, a ∈ T) : Gd (Od G T os) H (Od G T1 os) H := fun a o h n => ⟨h, fun q => n (by
  rcases q with q | q | q
  · exact .inl q
  · exact .inr (.inl (hs a q))
  · exact .inr (.inr q))⟩
theorem I.sub (h : I K G T os ρ σ H) (hn : T1.Nodup) (hs : ∀ a ∈ T1, a ∈ T) : I K G T1 os ρ σ H := by
  have g := Gd.sub (G := G) (os := os) (H := H) hs
  refine ⟨h.lo, h.ls, hn, fun a ha => h.nO a (hs a ha), h.inj, fun a ha => h.tr a ?_, fun a ha => ⟨fun q => (h.ex a ha).1 (hs a q), (h.ex a ha).2⟩, fun i d r => ?_, fun i f d r n => ?_, h.no, h.io, h.h0, fun a ha => h.f0 a (hs a ha), h.g0⟩
  · rcases ha with q | q | q
    · exact .inl q
    · exact .inr (.inl (hs a q))
    · exact .inr (.inr q)
  · obtain ⟨v, h1, h2⟩ := h.sh i d r; exact ⟨v, h1, Rp.mono g _ _ h2⟩
  · obtain ⟨a, h1, h2, h3⟩ := h.ow i f d r n
    exact ⟨a, h1, h2, h3.mono g rfl⟩
theorem Tm.sub {k : Kd} (h : Tm K G T os ρ σ H k d v) (hn : T1.Nodup) (hs : ∀ a ∈ T1, a ∈ T) : Tm K G T1 os ρ σ H k d v := by
  cases k with
  | sh => exact ⟨h.1.sub hn hs, Rp.mono (Gd.sub hs) _ _ h.2⟩
  | fr =>
    obtain ⟨a, rfl, h1, h2⟩ := h
    have s2 : ∀ b ∈ a :: T1, b ∈ a :: T := fun b hb => by
      rcases List.mem_cons.mp hb with e | e
      · rw [e]; exact List.mem_cons_self ..
      · exact List.mem_cons_of_mem _ (hs b e)
    have n2 : (a :: T1).Nodup := List.nodup_cons.mpr ⟨fun q => (List.nodup_cons.mp h1.nT).1 (hs a q), hn⟩
    exact ⟨a, rfl, h1.sub n2 s2, h2.mono (Gd.sub s2) rfl⟩
  | ow i => exact ⟨h.1.sub hn hs, h.2⟩
end

/-! ### targets -/
def gB (K : Fr) (d : D) (ρ ρ' : Env) (ws : List Nat) : TG := fun v σ H Q => ∃ G T os, I K G T os ρ σ H ∧ Rp K (Od G T os) H d v ∧ ∀ σ' os', I K G T os' ρ' σ' H → StS os H os' H → (σ'.length = σ.length ∧ ∀ i : Nat, i ∉ ws → σ'[i]? = σ[i]? ∧ os'[i]? = os[i]?) → Q σ' H
def gBs (K : Fr) (ds : List D) (ρ ρ' : Env) (ws : List Nat) : TGs := fun vs σ H Q => ∃ G T os, I K G T os ρ σ H ∧ RpL K (Od G T os) H ds vs ∧ ∀ σ' os', I K G T os' ρ' σ' H → StS os H os' H → (σ'.length = σ.length ∧ ∀ i : Nat, i ∉ ws → σ'[i]? = σ[i]? ∧ os'[i]? = os[i]?) → Q σ' H
def GB (X : Cx) (tg : Expr) (d : D) (ρ ρ' : Env) (ws : List Nat) : Prop := PG X tg (gB X.K d ρ ρ' ws)
def GBs (X : Cx) (tgs : List Expr) (ds : List D) (ρ ρ' : Env) (ws : List Nat) : Prop := PGs X tgs (gBs X.K ds ρ ρ' ws)
theorem pg_weak {X : Cx} {tg : Expr} {t t' : TG} (h : PG X tg t) (w : ∀ v σ H Q, t' v σ H Q → t v σ H Q) : PG X tg t' := ⟨fun pins s σ H v u Q I r q => h.run pins s σ H v u Q I r (w v σ H Q q)⟩
theorem pgs_weak {X : Cx} {tg : List Expr} {t t' : TGs} (h : PGs X tg t) (w : ∀ v σ H Q, t' v σ H Q → t v σ H Q) : PGs X tg t' := ⟨fun pins s σ H v u Q I r q => h.run pins s σ H v u Q I r (w v σ H Q q)⟩
theorem pi_weak {X : Cx} {tg it : Expr} {t t' : TI} (h : PI X tg it t) (w : ∀ σ H Q, t' σ H Q → t σ H Q) : PI X tg it t' := ⟨fun pins s σ H R I q => h.run pins s σ H R I (w σ H R q)⟩
section
variable {X : Cx} {tg e : Expr} {tgs : List Expr} {ρ ρ' ρ'' : Env} {d : D} {ds : List D} {pos : Pos}
theorem GB.name {i : Nat} {x : Str} (hN : X.N.Nodup) (hi : X.N[i]? = some x) (hx : Loc X.env.scope x) (hf : X.fn x = true ∨ X.env.scope.names.lookup x = some .local := by first | exact .inl rfl | exact .inr rfl) : GB X (.Name x pos) d ρ (ρ.set i (some (.sh, d))) [i] :=
  pg_weak (pg_name hN hi hx hf) fun v σ H Q ⟨G, T, os, j, w, q⟩ => q _ _ (j.put w) .put ⟨List.length_set .., fun n hn => ⟨List.getElem?_set_ne fun e => hn (by rw [e]; exact List.mem_singleton_self _), List.getElem?_set_ne fun e => hn (by rw [e]; exact List.mem_singleton_self _)⟩⟩
theorem GBs.nil : GBs X [] [] ρ ρ [] := pgs_weak pgs_nil fun vs σ H Q ⟨G, T, os, j, w, q⟩ => ⟨by simpa only [RpL] using w, q σ os j .refl ⟨rfl, fun _ _ => ⟨rfl, rfl⟩⟩⟩
theorem GBs.cons {ws us : List Nat} (h : GB X tg d ρ ρ' ws) (r : GBs X tgs ds ρ' ρ'' us) (hs : (assignEach (tg :: tgs) X.env).map (·.2) = assign tg X.env :: (assignEach tgs X.env).map (·.2) := by rfl) : GBs X (tg :: tgs) (d :: ds) ρ ρ'' (ws ++ us) := pgs_weak (pgs_cons h r hs) fun vs σ H Q ⟨G, T, os, j, w, q⟩ => by
  simp only [RpL] at w
  obtain ⟨x, r, rfl, w1, w2⟩ := w
  exact ⟨x, r, rfl, G, T, os, j, w1, fun σ1 o1 j1 s1 a1 => ⟨G, T, o1, j1, w2.mono s1.gd, fun σ2 o2 j2 s2 a2 => q σ2 o2 j2 (s1.trans s2) ⟨a2.1.trans a1.1, fun n hn => ⟨(a2.2 n fun z => hn (List.mem_append_right _ z)).1.trans (a1.2 n fun z => hn (List.mem_append_left _ z)).1, (a2.2 n fun z => hn (List.mem_append_right _ z)).2.trans (a1.2 n fun z => hn (List.mem_append_left _ z)).2⟩⟩⟩⟩
theorem GB.tup {k : Nat} {ws : List Nat} (hc : X.calm = true) (h : GBs X tgs ds ρ ρ' ws) (hn : (assignEach tgs X.env).length = ds.length := by rfl) (hst : (assignEach tgs X.env).findIdx? (·.1) = none := by rfl) : GB X (.Tuple tgs k pos) (.tup ds) ρ ρ' ws :=
  pg_weak (pg_tup hc h hn hst) fun v σ H Q ⟨G, T, os, j, w, q⟩ => by
    obtain ⟨a, xs, rfl, h1, h2⟩ := tupW w.rw
    exact ⟨a, xs, rfl, h1, h2.length, G, T, os, j, h2, q⟩
/-- a, b = e -/
theorem WS.asgT {k : Nat} {tpos : Pos} {P : Po} {R : Po1} (h : EP X e ρ R) (hk : ∀ d k ρ', R d k ρ' → k.free = true ∧ ∃ ρ1 ws, GB X (.Tuple tgs k' tpos) d ρ' ρ1 ws ∧ P.nx ρ1)
    (hs : swapsWithSole [.Tuple tgs k' tpos] e pos.line X.env = pure false := by rfl) (hw : swappedStores [.Tuple tgs k' tpos] e X.env = pure none := by rfl) : WS X (.Assign [.Tuple tgs k' tpos] e pos) ρ P :=
  ps_weak (ps_asg (g := fun v σ H Q => ∃ d ρ' ρ1 ws, GB X (.Tuple tgs k' tpos) d ρ' ρ1 ws ∧ gB X.K d ρ' ρ1 ws v σ H Q) h ⟨fun pins s σ H v u Q I r ⟨d, ρ', ρ1, ws, q1, q2⟩ => q1.run pins s σ H v u Q I r q2⟩ hs hw)
    fun E σ H ⟨G, T, os, j, q1, q2, q3, q4⟩ => ⟨G, T, os, j, fun d k ρ' v H' os' r t s n => by
      obtain ⟨hf, ρ1, ws, hg, hp⟩ := hk d k ρ' r
      exact ⟨d, ρ', ρ1, ws, hg, G, T, os', t.i, t.rp hf, fun σ1 o1 j1 s1 _ => q1 ρ1 σ1 H' o1 hp j1 (s.s.trans s1)⟩⟩
end

/-! ### what is walked -/
abbrev ScT0 := (Addr → Prop) → Hp → Prop
structure Src (K : Fr) (J : It) (ds : List D) (Sc : ScT0) : Prop where
  goes : ∀ i O H, i < ds.length → Sc O H → J.go i H
  stops : ∀ O H, Sc O H → J.stop ds.length H
  yields : ∀ i O H x H', i < ds.length → Trk O H → Sc O H → J.yld i H x H' → Same H H' ∧ ∃ d, ds[i]? = some d ∧ Rp K O H' d x
def StabS (Sc : ScT0) : Prop := ∀ O H O' H', Sc O H → Gd O H O' H' → Sc O' H'
def StabQ (Sc : ScT0) : Prop := ∀ O H O' H', Sc O H → Gd O H O' H' → Same H H' → Sc O' H'
/-- while statements run | while nothing changes -/
def tI (K : Fr) (ρ : Env) (ds : List D) (ρ' : Env) : TI := fun σ H R => ∃ G T os, I K G T os ρ σ H ∧ ∀ J T' os' H' Sc, I K G T' os' ρ' σ H' → (∀ a ∈ T, a ∈ T') → Stp os H os' H' → Src K J ds Sc → StabS Sc → Sc (Od G T' os') H' → R J H'
def tIQ (K : Fr) (ρ : Env) (ds : List D) : TI := fun σ H R => ∃ G T os, I K G T os ρ σ H ∧ ∀ J H' Sc, I K G T os ρ σ H' → Same H H' → Src K J ds Sc → StabQ Sc → Sc (Od G T os) H' → R J H'
def IT (X : Cx) (tg iter : Expr) (ρ : Env) (ds : List D) (ρ' : Env) : Prop := PI X tg iter (tI X.K ρ ds ρ')
def IQ (X : Cx) (tg iter : Expr) (ρ : Env) (ds : List D) : Prop := PI X tg iter (tIQ X.K ρ ds)
section
variable {K : Fr} {O O' : Addr → Prop} {H H' H'' : Hp} {a p : Addr} {d : D} {v : V} {ds : List D}
def ScL (K : Fr) (a : Addr) (ds : List D) : ScT0 := fun O H => ∃ xs, ((Rd H a (.lst xs) ∧ ¬ O a) ∨ StL K a xs) ∧ RpL K O H ds xs
def ScLq (K : Fr) (a : Addr) (ds : List D) : ScT0 := fun O H => ∃ xs, SqL K H a xs ∧ RpL K O H ds xs
def ScT (K : Fr) (a : Addr) (ds : List D) : ScT0 := fun O H => ∃ xs, ((Rd H a (.tup xs) ∧ ¬ O a) ∨ StT K a xs) ∧ RpL K O H ds xs
theorem ScL.stab : StabS (ScL K a ds) := fun O H O' H' ⟨xs, h1, h2⟩ g => ⟨xs, h1.imp g.rd id, h2.mono g⟩
theorem ScT.stab : StabS (ScT K a ds) := fun O H O' H' ⟨xs, h1, h2⟩ g => ⟨xs, h1.imp g.rd id, h2.mono g⟩
theorem ScLq.stab : StabQ (ScLq K a ds) := fun O H O' H' ⟨xs, h1, h2⟩ g s => ⟨xs, s.seq h1, h2.mono g⟩
theorem ScT.stabQ : StabQ (ScT K a ds) := fun O H O' H' h g s => ScT.stab O H O' H' h g
theorem ScL.q (h : ScL K a ds O H) : ScLq K a ds O H := by obtain ⟨xs, h1, h2⟩ := h; exact ⟨xs, h1.imp (·.1) id, h2⟩
theorem src_lq : Src K (Itl K a) ds (ScLq K a ds) where
  goes := fun i O H hi ⟨xs, h1, h2⟩ => ⟨xs, xs[i]'(by rw [h2.length]; exact hi), h1, List.getElem?_eq_getElem _⟩
  stops := fun O H ⟨xs, h1, h2⟩ => ⟨xs, h1, by rw [h2.length]; exact Nat.le_refl _⟩
  yields := fun i O H x H' hi tk ⟨xs, h1, h2⟩ y => by
    obtain ⟨e, y⟩ := y
    subst e
    exact ⟨Same.refl _, h2.get' (y xs h1)⟩
theorem src_l : Src K (Itl K a) ds (ScL K a ds) :=
  ⟨fun i O H hi h => src_lq.goes i O H hi h.q, fun O H h => src_lq.stops O H h.q, fun i O H x H' hi tk h y => src_lq.yields i O H x H' hi tk h.q y⟩
theorem src_t : Src K (Itt K a) ds (ScT K a ds) where
  goes := fun i O H hi ⟨xs, h1, h2⟩ => ⟨xs, xs[i]'(by rw [h2.length]; exact hi), h1.imp (·.1) id, List.getElem?_eq_getElem _⟩
  stops := fun O H ⟨xs, h1, h2⟩ => ⟨xs, h1.imp (·.1) id, by rw [h2.length]; exact Nat.le_refl _⟩
  yields := fun i O H x H' hi tk ⟨xs, h1, h2⟩ y => by
    obtain ⟨e, y⟩ := y
    subst e
    exact ⟨Same.refl _, h2.get' (y xs (h1.imp (·.1) id))⟩
def intsD (lo : Int) (n : Nat) : List D := (List.range n).map fun i => D.int (lo + (i : Nat))
theorem ints_len {lo : Int} {n : Nat} : (intsD lo n).length = n := by unfold intsD; rw [List.length_map, List.length_range]
theorem ints_at {lo : Int} {n i : Nat} (h : i < n) : (intsD lo n)[i]? = some (.int (lo + (i : Nat))) := by
  unfold intsD
  rw [List.getElem?_map, List.getElem?_range h]
  rfl
theorem src_r {lo : Int} {n : Nat} : Src K (Itr lo n) (intsD lo n) (fun _ _ => True) where
  goes := fun i os H hi _ => by rw [ints_len] at hi; exact hi
  stops := fun os H _ => by rw [ints_len]; exact Nat.le_refl _
  yields := fun i os H x H' hi tk _ y => by
    rw [ints_len] at hi
    obtain ⟨e1, e2⟩ := y
    subst e1 e2
    exact ⟨Same.refl _, _, ints_at hi, by simp only [Rp]⟩
def chars (z : Str) : List D := z.cps.toList.map fun c => D.str ⟨#[c]⟩
theorem src_s {z : Str} : Src K (Its z) (chars z) (fun _ _ => True) where
  goes := fun i os H hi _ => by unfold chars at hi; rw [List.length_map, Array.length_toList] at hi; exact hi
  stops := fun os H _ => by unfold chars; rw [List.length_map, Array.length_toList]; exact Nat.le_refl _
  yields := fun i os H x H' hi tk _ y => by
    obtain ⟨e1, c, e2, e3⟩ := y
    subst e1 e3
    refine ⟨Same.refl _, .str ⟨#[c]⟩, ?_, by simp only [Rp]⟩
    unfold chars
    rw [List.getElem?_map, Array.getElem?_toList, e2]
    rfl
end
section
variable {X : Cx} {tg e : Expr} {tgs : List Expr} {ρ ρ' ρ'' : Env} {d : D} {ds : List D} {pos p : Pos} {k : Kd}
theorem IT.lstS (h : EK X e ρ (.lst ds) .sh) : IT X tg e ρ ds ρ := pi_weak (pi_list h) fun σ H R ⟨G, T, os, i, q⟩ => ⟨G, T, os, i, fun v H' t s n => by
  obtain ⟨t1, t2⟩ := t
  simp only [Rp] at t2
  obtain ⟨a, xs, rfl, h1, h2⟩ := t2
  exact ⟨a, rfl, ⟨xs, h1.imp (·.1) id⟩, q _ T os H' (ScL X.K a ds) t1 (fun _ q => q) (.of s) src_l ScL.stab ⟨xs, h1, h2⟩⟩⟩
theorem od_mem {G : Gx} {T : List Addr} {os : List (Option Addr)} {a : Addr} : Od G (a :: T) os a := .inr (.inl (List.mem_cons_self ..))
theorem IT.lstF (h : EK X e ρ (.lst ds) .fr) : IT X tg e ρ ds ρ := pi_weak (pi_list h) fun σ H R ⟨G, T, os, i, q⟩ => ⟨G, T, os, i, fun v H' t s n => by
  obtain ⟨a, rfl, t1, t2⟩ := t
  have t3 := (t2.mono (Gd.drop (H := H')) rfl).rp t1.ndrop
  simp only [Rp] at t3
  obtain ⟨b, xs, e, h1, h2⟩ := t3
  cases e
  exact ⟨a, rfl, ⟨xs, h1.imp (·.1) id⟩, q _ T os H' (ScL X.K a ds) t1.drop (fun _ q => q) (.of s) src_l ScL.stab ⟨xs, h1, h2⟩⟩⟩
theorem IT.lstO {i : Nat} (h : EK X e ρ (.lst ds) (.ow i)) : IT X tg e ρ ds (ρ.set i (some (.sh, .lst ds))) := pi_weak (pi_list (EV.esc h)) fun σ H R ⟨G, T, os, j, q⟩ => ⟨G, T, os, j, fun v H' o' t s n => by
  obtain ⟨t1, t2⟩ := t
  simp only [Rp] at t2
  obtain ⟨a, xs, rfl, h1, h2⟩ := t2
  exact ⟨a, rfl, ⟨xs, h1.imp (·.1) id⟩, q _ T o' H' (ScL X.K a ds) t1 (fun _ q => q) s src_l ScL.stab ⟨xs, h1, h2⟩⟩⟩
theorem tupS {K : Fr} {O : Addr → Prop} {H : Hp} {v : V} (h : Rw K O H (.tup ds) v) : ∃ a xs, v = .ref a ∧ ((Rd H a (.tup xs) ∧ ¬ O a) ∨ StT K a xs) ∧ RpL K O H ds xs := by
  simpa only [Rw, Rp] using h
theorem IT.tup (h : ER X e ρ (.tup ds)) : IT X tg e ρ ds ρ := pi_weak (pi_tup h) fun σ H R ⟨G, T, os, i, q⟩ => ⟨G, T, os, i, fun v H' t w s => by
  obtain ⟨a, xs, rfl, h1, h2⟩ := tupS w
  exact ⟨a, rfl, ⟨xs, h1.imp (·.1) id⟩, q _ T os H' (ScT X.K a ds) t (fun _ q => q) (.of s) src_t ScT.stab ⟨xs, h1, h2⟩⟩⟩
theorem IQ.lst (h : ER X e ρ (.lst ds)) : IQ X tg e ρ ds := pi_weak (pi_list h) fun σ H R ⟨G, T, os, i, q⟩ => ⟨G, T, os, i, fun v H' t w s => by
  obtain ⟨a, xs, rfl, h1, h2⟩ := w
  exact ⟨a, rfl, ⟨xs, h1⟩, q _ H' (ScLq X.K a ds) t s src_lq ScLq.stab ⟨xs, h1, h2⟩⟩⟩
theorem IQ.tup (h : ER X e ρ (.tup ds)) : IQ X tg e ρ ds := pi_weak (pi_tup h) fun σ H R ⟨G, T, os, i, q⟩ => ⟨G, T, os, i, fun v H' t w s => by
  obtain ⟨a, xs, rfl, h1, h2⟩ := tupS w
  exact ⟨a, rfl, ⟨xs, h1.imp (·.1) id⟩, q _ H' (ScT X.K a ds) t s src_t ScT.stabQ ⟨xs, h1, h2⟩⟩⟩
theorem rwL1 {K : Fr} {O : Addr → Prop} {H : Hp} {vs : List V} (h : RwL K O H [d] vs) : ∃ v, vs = [v] ∧ Rw K O H d v := by
  obtain ⟨x, r, rfl, h1, h2⟩ := h
  have h2 : r = [] := h2
  subst h2
  exact ⟨x, rfl, h1⟩
theorem rwL2 {K : Fr} {O : Addr → Prop} {H : Hp} {vs : List V} {d1 d2 : D} (h : RwL K O H [d1, d2] vs) : ∃ v w, vs = [v, w] ∧ Rw K O H d1 v ∧ Rw K O H d2 w := by
  obtain ⟨x, r, rfl, h1, h2⟩ := h
  obtain ⟨y, e, h3⟩ := rwL1 h2
  subst e
  exact ⟨x, y, rfl, h1, h3⟩
theorem StabS.triv : StabS fun _ _ => True := fun _ _ _ _ _ _ => trivial
theorem StabQ.triv : StabQ fun _ _ => True := fun _ _ _ _ _ _ _ => trivial
theorem intW {K : Fr} {O : Addr → Prop} {H : Hp} {n : Int} {v : V} (h : Rw K O H (.int n) v) : v = .int n := by simpa only [Rw, Rp] using h
theorem strW {K : Fr} {O : Addr → Prop} {H : Hp} {n : Str} {v : V} (h : Rw K O H (.str n) v) : v = .str n := by simpa only [Rw, Rp] using h
theorem IT.rng {n : Int} (hg : Gl X "range") (hm : X.mg "range" = none) (h : ERA X [e] ρ [.int n]) (hn : -(2 ^ 62) ≤ n ∧ n < 2 ^ 62) (hs : starEach [e] X.env = [(false, eval e X.env)] := by rfl) : IT X tg (.Call (.Name "range" p) [e] [] pos) ρ (intsD 0 n.toNat) ρ :=
  pi_weak (pi_range1 hg hm h hs) fun σ H R ⟨G, T, os, i, q⟩ => ⟨G, T, os, i, fun vs H' t w s => by
    obtain ⟨v, rfl, w1⟩ := rwL1 w
    rw [intW w1]
    exact ⟨n, rfl, hn.1, hn.2, q _ T os H' _ t (fun _ q => q) (.of s) src_r StabS.triv trivial⟩⟩
theorem IQ.rng {n : Int} (hg : Gl X "range") (hm : X.mg "range" = none) (h : ERA X [e] ρ [.int n]) (hn : -(2 ^ 62) ≤ n ∧ n < 2 ^ 62) (hs : starEach [e] X.env = [(false, eval e X.env)] := by rfl) : IQ X tg (.Call (.Name "range" p) [e] [] pos) ρ (intsD 0 n.toNat) :=
  pi_weak (pi_range1 hg hm h hs) fun σ H R ⟨G, T, os, i, q⟩ => ⟨G, T, os, i, fun vs H' t w s => by
    obtain ⟨v, rfl, w1⟩ := rwL1 w
    rw [intW w1]
    exact ⟨n, rfl, hn.1, hn.2, q _ H' _ t s src_r StabQ.triv trivial⟩⟩
theorem IT.rng2 {e2 : Expr} {m n : Int} (hg : Gl X "range") (hm : X.mg "range" = none) (h : ERA X [e, e2] ρ [.int m, .int n]) (hn : -(2 ^ 62) ≤ m ∧ m < 2 ^ 62 ∧ -(2 ^ 62) ≤ n ∧ n < 2 ^ 62)
    (hs : starEach [e, e2] X.env = [(false, eval e X.env), (false, eval e2 X.env)] := by rfl) (hs2 : starEach [e2] X.env = [(false, eval e2 X.env)] := by rfl) : IT X tg (.Call (.Name "range" p) [e, e2] [] pos) ρ (intsD m (n - m).toNat) ρ :=
  pi_weak (pi_range2 hg hm h hs hs2) fun σ H R ⟨G, T, os, i, q⟩ => ⟨G, T, os, i, fun vs H' t w s => by
    obtain ⟨v, v2, rfl, w1, w2⟩ := rwL2 w
    rw [intW w1, intW w2]
    exact ⟨m, n, rfl, hn, q _ T os H' _ t (fun _ q => q) (.of s) src_r StabS.triv trivial⟩⟩
theorem IQ.rng2 {e2 : Expr} {m n : Int} (hg : Gl X "range") (hm : X.mg "range" = none) (h : ERA X [e, e2] ρ [.int m, .int n]) (hn : -(2 ^ 62) ≤ m ∧ m < 2 ^ 62 ∧ -(2 ^ 62) ≤ n ∧ n < 2 ^ 62)
    (hs : starEach [e, e2] X.env = [(false, eval e X.env), (false, eval e2 X.env)] := by rfl) (hs2 : starEach [e2] X.env = [(false, eval e2 X.env)] := by rfl) : IQ X tg (.Call (.Name "range" p) [e, e2] [] pos) ρ (intsD m (n - m).toNat) :=
  pi_weak (pi_range2 hg hm h hs hs2) fun σ H R ⟨G, T, os, i, q⟩ => ⟨G, T, os, i, fun vs H' t w s => by
    obtain ⟨v, v2, rfl, w1, w2⟩ := rwL2 w
    rw [intW w1, intW w2]
    exact ⟨m, n, rfl, hn, q _ H' _ t s src_r StabQ.triv trivial⟩⟩
theorem IT.str {z : Str} (h : ER X e ρ (.str z)) : IT X tg e ρ (chars z) ρ := pi_weak (pi_str h) fun σ H R ⟨G, T, os, i, q⟩ => ⟨G, T, os, i, fun v H' t w s => by
  rw [strW w]
  exact ⟨z, rfl, q _ T os H' _ t (fun _ q => q) (.of s) src_s StabS.triv trivial⟩⟩
theorem IQ.str {z : Str} (h : ER X e ρ (.str z)) : IQ X tg e ρ (chars z) := pi_weak (pi_str h) fun σ H R ⟨G, T, os, i, q⟩ => ⟨G, T, os, i, fun v H' t w s => by
  rw [strW w]
  exact ⟨z, rfl, q _ H' _ t s src_s StabQ.triv trivial⟩⟩
end

/-! ### for, while -/
section
variable {X : Cx} {tg e c : Expr} {body : List Stmt} {ρ ρ1 : Env} {ds : List D} {pos : Pos} {P : Po}
theorem pss_any (X : Cx) (sts : List Stmt) : PSs X sts (fun E σ H => ∃ ρ P, W X sts ρ P ∧ tW X.K ρ P E σ H) := ⟨fun pins s σ H E I ⟨ρ, P, q1, q2⟩ => q1.run pins s σ H E I q2⟩
theorem pg_any (X : Cx) (tg : Expr) : PG X tg (fun v σ H Q => ∃ d ρ ρ' ws, GB X tg d ρ ρ' ws ∧ gB X.K d ρ ρ' ws v σ H Q) := ⟨fun pins s σ H v u Q I r ⟨d, ρ, ρ', ws, q1, q2⟩ => q1.run pins s σ H v u Q I r q2⟩
theorem pt_any (X : Cx) (c : Expr) : PT X c (fun σ H Q => ∃ ρ b, ET X c ρ b ∧ tB X.K ρ b σ H Q) := ⟨fun pins s σ H Q I ⟨ρ, b, q1, q2⟩ => q1.run pins s σ H Q I q2⟩
theorem WS.forI (hp : PassesOwn (model X.prog X.w) X.A X.env X.xe) (hc : X.calm = true) (hi : IT X tg e ρ ds ρ1) (J : Nat → Env → Prop) (h0 : J 0 ρ1)
    (hs : ∀ i d ρk, ds[i]? = some d → J i ρk → ∃ ρ2 ws, GB X tg d ρk ρ2 ws ∧ W X body ρ2 { nx := J (i + 1), rt := P.rt, bk := P.nx, ct := J (i + 1) }) (hd : ∀ ρk, J ds.length ρk → P.nx ρk)
    (hf : ∀ x, foldedSetIterable e X.env x = pure x := by intro _; rfl) : WS X (.For tg e body [] pos) ρ P := by
  refine ps_weak (ps_for hp hc hi (pg_any X tg) (pss_any X body) hf) fun E σ H ⟨G, T, os, i, q1, q2, q3, q4⟩ => ⟨G, T, os, i, fun J' T' os' H' Sc j sub s src stab sc => ?_⟩
  refine ⟨fun n m σk Hk => m = ds.length - n ∧ n ≤ ds.length ∧ ∃ ρk osk, J n ρk ∧ I X.K G T' osk ρk σk Hk ∧ StS os H osk Hk ∧ Sc (Od G T' osk) Hk, ⟨_, rfl, Nat.zero_le _, ρ1, os', h0, j, s.s, sc⟩, ?_⟩
  rintro n m σk Hk ⟨rfl, hn, ρk, osk, jk, ik, sk, sck⟩
  by_cases hlt : n < ds.length
  · refine .inr ⟨src.goes n _ Hk hlt sck, fun σ' H' => ∃ ρk osk, J (n + 1) ρk ∧ I X.K G T' osk ρk σ' H' ∧ StS os H osk H' ∧ Sc (Od G T' osk) H', fun σ' H' w => ⟨ds.length - (n + 1), by omega, rfl, hlt, w⟩, fun x Hx y => ?_⟩
    obtain ⟨e1, d, e2, e3⟩ := src.yields n _ Hk x Hx hlt ik.tr sck y
    obtain ⟨ρ2, ws, g2, w2⟩ := hs n d ρk e2 jk
    have s1 : StS os H osk Hx := sk.trans (Stp.of e1).s
    refine ⟨d, ρk, ρ2, ws, g2, G, T', osk, ik.ext e1, e3, fun σ2 o2 i2 s2 _ => ⟨ρ2, _, w2, ?_⟩⟩
    have s3 := s1.trans s2
    have sc3 : Sc (Od G T' o2) Hx := stab _ _ _ _ sck (((Stp.of e1).s.trans s2).gd)
    refine ⟨G, T', o2, i2, fun ρ' σ' H' o' p j t => ⟨ρ', o', p, j, s3.trans t, stab _ _ _ _ sc3 t.gd⟩, fun d k ρ' v σ' H' o' p j t => q2 d k ρ' v σ' H' o' p (j.sub i.nT sub) (s3.trans t), fun ρ' σ' H' o' p j t => q1 ρ' σ' H' o' p (j.sub i.nT sub) (s3.trans t), fun ρ' σ' H' o' p j t => ⟨ρ', o', p, j, s3.trans t, stab _ _ _ _ sc3 t.gd⟩⟩
  · have en : n = ds.length := by omega
    subst en
    exact .inl ⟨src.stops _ Hk sck, q1 ρk σk Hk osk (hd ρk jk) (ik.sub i.nT sub) sk⟩
/-- J tells of what has been taken -/
theorem WS.for {α : Type} {xs : List α} {f : α → D} (hp : PassesOwn (model X.prog X.w) X.A X.env X.xe) (hc : X.calm = true) (hi : IT X tg e ρ (xs.map f) ρ1) (J : List α → Env → Prop) (h0 : J [] ρ1)
    (hs : ∀ pre x post ρk, xs = pre ++ x :: post → J pre ρk → ∃ ρ2 ws, GB X tg (f x) ρk ρ2 ws ∧ W X body ρ2 { nx := J (pre ++ [x]), rt := P.rt, bk := P.nx, ct := J (pre ++ [x]) }) (hd : ∀ ρk, J xs ρk → P.nx ρk)
    (hf : ∀ x, foldedSetIterable e X.env x = pure x := by intro _; rfl) : WS X (.For tg e body [] pos) ρ P := by
  refine WS.forI hp hc hi (fun i ρk => J (xs.take i) ρk) h0 (fun i d ρk e j => ?_) (fun ρk j => hd ρk ?_) hf
  · rw [List.getElem?_map] at e
    cases q : xs[i]? with
    | none => rw [q] at e; cases e
    | some x =>
      rw [q] at e
      cases e
      have hi := (List.getElem?_eq_some_iff.mp q).1
      have e1 : xs = xs.take i ++ x :: xs.drop (i + 1) := by
        have z := List.take_append_drop i xs
        rw [List.drop_eq_getElem_cons hi] at z
        rw [(List.getElem?_eq_some_iff.mp q).2] at z
        exact z.symm
      have e2 : xs.take (i + 1) = xs.take i ++ [x] := by
        rw [List.take_add_one, q]; rfl
      rw [e2]
      exact hs _ x _ ρk e1 j
  · rw [List.length_map, List.take_length] at j
    exact j
theorem WS.while (hp : PassesOwn (model X.prog X.w) X.A X.env X.xe) (J : Nat → Env → Prop) (h0 : ∃ m, J m ρ)
    (hs : ∀ m ρk, J m ρk → ∃ b, ET X c ρk b ∧ (b = true → W X body ρk { nx := fun ρ' => ∃ m', m' < m ∧ J m' ρ', rt := P.rt, bk := P.nx, ct := fun ρ' => ∃ m', m' < m ∧ J m' ρ' }) ∧ (b = false → P.nx ρk)) : WS X (.While c body [] pos) ρ P := by
  refine ps_weak (ps_while hp (pt_any X c) (pss_any X body)) fun E σ H ⟨G, T, os, i, q1, q2, q3, q4⟩ => ?_
  obtain ⟨m0, h0⟩ := h0
  refine ⟨fun m σk Hk => ∃ ρk osk, J m ρk ∧ I X.K G T osk ρk σk Hk ∧ StS os H osk Hk, ⟨m0, ρ, os, h0, i, .refl⟩, ?_⟩
  rintro m σk Hk ⟨ρk, osk, jk, ik, sk⟩
  obtain ⟨b, t, w1, w2⟩ := hs m ρk jk
  refine ⟨ρk, b, t, G, T, osk, ik, fun H1 i1 s1 => ?_⟩
  have s2 : StS os H osk H1 := sk.trans (Stp.of s1).s
  cases b with
  | true =>
    refine iteT ⟨fun σ' H' => ∃ m', m' < m ∧ ∃ ρk osk, J m' ρk ∧ I X.K G T osk ρk σ' H' ∧ StS os H osk H', fun σ' H' h => h, ρk, _, w1 rfl, ?_⟩
    exact ⟨G, T, osk, i1, fun ρ' σ' H' o' ⟨m', l, p⟩ j t => ⟨m', l, ρ', o', p, j, s2.trans t⟩, fun d k ρ' v σ' H' o' p j t => q2 d k ρ' v σ' H' o' p j (s2.trans t), fun ρ' σ' H' o' p j t => q1 ρ' σ' H' o' p j (s2.trans t), fun ρ' σ' H' o' ⟨m', l, p⟩ j t => ⟨m', l, ρ', o', p, j, s2.trans t⟩⟩
  | false => exact iteF (q1 ρk σk H1 osk (w2 rfl) i1 s2)
end
end Pv
namespace Pv
open PySem L2 PyProof.Rows

/-! ### trees without a container that changes -/
mutual
def flatT : D → Bool
  | .tup ds => flatTs ds
  | .lst _ => false
  | .dic _ _ => false
  | .dit _ _ => false
  | .obj _ _ _ => false
  | .exc _ _ ds => flatTs ds
  | .ftup ds => flatTs ds
  | _ => true
def flatTs : List D → Bool
  | [] => true
  | d :: ds => flatT d && flatTs ds
end
section
variable {K : Fr} {O O' : Addr → Prop} {H H' : Hp}
mutual
theorem Rp.flat (t : ∀ a o, O' a → H a = some o → mutO o = true) : ∀ (d : D) (v : V), flatT d = true → Rp K O H d v → Rp K O' H d v
  | .non, v, _, h => by simpa only [Rp] using h
  | .bl b, v, _, h => by simpa only [Rp] using h
  | .int i, v, _, h => by simpa only [Rp] using h
  | .str s, v, _, h => by simpa only [Rp] using h
  | .ref a, v, _, h => by simpa only [Rp] using h
  | .ty n, v, _, h => by simpa only [Rp] using h
  | .tup ds, v, hf, h => by
    simp only [Rp] at h ⊢
    simp only [flatT] at hf
    obtain ⟨a, xs, e, h1, h2⟩ := h
    refine ⟨a, xs, e, h1.imp (fun z => ⟨z.1, fun q => ?_⟩) id, RpL.flat t ds xs hf h2⟩
    rcases z.1 with y | ⟨o, y⟩
    · exact nomatch t a _ q y
    · exact nomatch t a _ q y
  | .lst ds, v, hf, h => by simp only [flatT] at hf; cases hf
  | .dic ks ds, v, hf, h => by simp only [flatT] at hf; cases hf
  | .dit ks ds, v, hf, h => by simp only [flatT] at hf; cases hf
  | .key ks, v, _, h => by
    simp only [Rp] at h ⊢
    obtain ⟨a, e, h1, h2⟩ := h
    exact ⟨a, e, h1, fun q => nomatch t a _ q h1⟩
  | .obj C fs ds, v, hf, h => by simp only [flatT] at hf; cases hf
  | .exc C fs ds, v, hf, h => by
    simp only [Rp] at h ⊢
    simp only [flatT] at hf
    obtain ⟨a, od, ys, e, h1, h4, h3, h2⟩ := h
    refine ⟨a, od, ys, e, ⟨h1.1, fun q => (nomatch t a _ q h1.1)⟩, ?_, h3, RpL.flat t ds _ hf h2⟩
    cases od with
    | none => exact h4
    | some dx => exact ⟨h4.1, fun q => (nomatch t dx _ q h4.1)⟩
  | .ftup ds, v, hf, h => by
    simp only [Rp] at h ⊢
    simp only [flatT] at hf
    obtain ⟨a, xs, e, ⟨⟨o, h1, h3⟩, h4⟩, h2⟩ := h
    exact ⟨a, xs, e, ⟨⟨o, h1, h3⟩, fun q => (nomatch t a _ q h1)⟩, RpL.flat t ds xs hf h2⟩
theorem RpL.flat (t : ∀ a o, O' a → H a = some o → mutO o = true) : ∀ (ds : List D) (xs : List V), flatTs ds = true → RpL K O H ds xs → RpL K O' H ds xs
  | [], xs, _, h => by simpa only [RpL] using h
  | d :: ds, xs, hf, h => by
    simp only [RpL] at h ⊢
    simp only [flatTs, Bool.and_eq_true] at hf
    obtain ⟨x, r, e, h1, h2⟩ := h
    exact ⟨x, r, e, Rp.flat t d x hf.1 h1, RpL.flat t ds r hf.2 h2⟩
end
theorem flatTs_all : ∀ {ds : List D}, (∀ d ∈ ds, flatT d = true) → flatTs ds = true
  | [], _ => rfl
  | d :: ds, h => by
    simp only [flatTs, Bool.and_eq_true]
    exact ⟨h d (List.mem_cons_self ..), flatTs_all fun e he => h e (List.mem_cons_of_mem _ he)⟩
theorem flatTs_map {α : Type} {f : α → D} {xs : List α} (h : ∀ x, flatT (f x) = true) : flatTs (xs.map f) = true := flatTs_all fun d hd => by
  obtain ⟨x, _, rfl⟩ := List.mem_map.mp hd
  exact h x
/-- a result that keeps none of what was passed -/
def flatR : D → Bool → Bool
  | .lst ds, true => flatTs ds
  | d, _ => flatT d
def kdB : Bool → Kd
  | false => .sh
  | true => .fr
theorem Outp.flat {d : D} {f : Bool} {v : V} (t : Trk O' H) (hf : flatR d f = true) (h : Outp K O H H' (kdB f) d v) : Outp K O' H H' (kdB f) d v := by
  have tk : ∀ (e : Same H H') a o, O' a → H' a = some o → mutO o = true := fun e a o q y => by
    obtain ⟨o', q1, q2⟩ := t a q
    rw [e a o' q1] at y
    cases y
    exact q2
  cases f with
  | false =>
    have hf' : flatT d = true := by cases d <;> exact hf
    exact ⟨h.1, Rp.flat (tk h.1) d v hf' h.2⟩
  | true =>
    obtain ⟨e, a, rfl, n, w⟩ := h
    cases d with
    | lst ds =>
      obtain ⟨xs, w1, w2⟩ := w
      refine ⟨e, a, rfl, n, xs, w1, RpL.flat (O' := fun b => O' b ∨ b = a) (fun b o q y => ?_) ds xs hf w2⟩
      rcases q with q | q
      · exact tk e b o q y
      · rw [q, w1] at y; cases y; rfl
    | dic ks ds => cases hf
    | dit ks ds => cases hf
    | obj C fs ds => cases hf
    | _ => exact w.elim
theorem Rw.rp0 {d : D} {v : V} (h : Rw K O H d v) : Rp K (fun _ => False) H d v := by
  have g : Gd O H (fun _ => False) H := fun a o q n => ⟨q, fun z => z⟩
  cases d <;> try exact Rp.mono g _ _ h
  case lst ds => obtain ⟨a, xs, e, h1, h2⟩ := h; simp only [Rp]; exact ⟨a, xs, e, h1.imp (fun z => ⟨z, fun q => q⟩) id, h2.mono g⟩
  case dic ks ds => obtain ⟨a, ys, e, h1, h3, h2⟩ := h; simp only [Rp]; exact ⟨a, ys, e, ⟨h1, fun q => q⟩, h3, h2.mono g⟩
  case dit ks ds => obtain ⟨a, ys, e, h1, h3, h2⟩ := h; simp only [Rp]; exact ⟨a, ys, e, ⟨h1, fun q => q⟩, h3, h2.mono g⟩
  case obj C fs ds => obtain ⟨a, dx, ys, e, h1, h3, h2⟩ := h; simp only [Rp]; exact ⟨a, dx, ys, e, ⟨h1, fun q => q⟩, h3, h2.mono g⟩
theorem RwL.rp0 : ∀ {ds : List D} {vs : List V}, RwL K O H ds vs → RpL K (fun _ => False) H ds vs
  | [], vs, h => by simp only [RpL]; exact h
  | d :: ds, vs, ⟨x, r, e, h1, h2⟩ => by simp only [RpL]; exact ⟨x, r, e, h1.rp0, h2.rp0⟩
end

/-! ### what a def promises, in trees -/
/-- the arguments; what holds of every result (true: a new container) -/
abbrev Ct := List D → (D → Bool → Prop) → Prop
def spP (K : Fr) (c : Ct) : Sp := fun vs H Q _ => ∃ O ds R, Trk O H ∧ RpL K O H ds vs ∧ c ds R ∧ ∀ v H' d f, R d f → Outp K O H H' (kdB f) d v → Q v H'
/-- the module's name x is a def that keeps it -/
structure Df (P : Program) (w : World) (K : Fr) (mg : Str → Option Value) (base : Heap) (x : Str) (ps : List Str) (n : Nat) (c : Ct) : Prop where
  ex : ∃ f fd, mg x = some (.ref f) ∧ PySem.W.keepIn K (.ref f) = true ∧ Binds K fd ps [] ∧ FnOk P w K mg base CX0 n f fd ps (spP K c)
def rtR (R : D → Bool → Prop) : D → Kd → Env → Prop := fun d k _ => match k with
  | .sh => R d false
  | .fr => R d true
  | .ow _ => False
section
variable {K : Fr} {G : Gx} {O : Addr → Prop} {os os' : List (Option Addr)} {ρ : Env} {σ : L2.St} {H H' : Hp} {d : D} {v : V} {k : Kd} {ds : List D} {vs : List V}
theorem none_mem {n : Nat} {a : Addr} : some a ∉ List.replicate n (none : Option Addr) := fun h => by
  have := List.eq_of_mem_replicate h
  cases this
theorem I.start (O : Addr → Prop) (H : Hp) (t : Trk O H) (h : RpL K O H ds vs) (N : List Str) (n : Nat) (hN : N.length - ds.length = n) : I K ⟨O, [], H⟩ [] (List.replicate (ds.length + n) none) (ds.map (fun d => some (Fl.sh, d)) ++ List.replicate n none) (L2.start N vs) H := by
  have hv := h.length
  have od : ∀ a, Od ⟨O, [], H⟩ [] (List.replicate (ds.length + n) none) a ↔ O a := fun a => ⟨fun q => by
    rcases q with q | q | q
    · exact q
    · cases q
    · exact absurd q none_mem, fun q => .inl q⟩
  have g : Gd O H (Od ⟨O, [], H⟩ [] (List.replicate (ds.length + n) none)) H := fun a o q z => ⟨q, fun w => z ((od a).mp w)⟩
  have hs : ∀ (i : Nat) d f, (ds.map (fun d => some (Fl.sh, d)) ++ List.replicate n none)[i]? = some (some (f, d)) → f = .sh ∧ ds[i]? = some d := fun i d f e => by
    rcases Nat.lt_or_ge i ds.length with hi | hi
    · rw [List.getElem?_append_left (by simpa using hi), List.getElem?_map, List.getElem?_eq_getElem hi] at e
      cases e
      exact ⟨rfl, List.getElem?_eq_getElem hi⟩
    · rw [List.getElem?_append_right (by simpa using hi)] at e
      have := List.eq_of_mem_replicate (mem_of_get e)
      cases this
  refine ⟨by simp, ?_, List.nodup_nil, fun a q => (nomatch q), fun i j a e => absurd (mem_of_get e) none_mem, fun a q => t a ((od a).mp q), fun a q => ⟨fun z => (nomatch z), none_mem⟩, fun i d e => ?_, fun i f d e n => absurd (hs i d f e).1 n, fun i a e => absurd (mem_of_get e) none_mem, fun i d e => absurd (hs i d .io e).1 (by decide), fun a q => q, fun a q => (nomatch q), fun i a d e => absurd (mem_of_get e) none_mem⟩
  · unfold L2.start
    rw [List.length_append, List.length_append, List.length_map, List.length_map, List.length_replicate, List.length_replicate, hv]
    omega
  · obtain ⟨x, q1, q2⟩ := h.get (hs i d .sh e).2
    refine ⟨x, ?_, Rp.mono g _ _ q2⟩
    unfold L2.start
    have hi := (List.getElem?_eq_some_iff.mp q1).1
    rw [List.getElem?_append_left (by simpa using hi), List.getElem?_map, q1]
    rfl
theorem Tm.exit {n : Nat} (t : Tm K ⟨O, [], H⟩ [] os' ρ σ H' k d v) (s : StS (List.replicate n none) H os' H') : Outp K O H H' k d v ∨ ∃ i, k = .ow i := by
  have e : Same H H' := fun a o q => s.keep a o q none_mem
  cases k with
  | sh => exact .inl ⟨e, Rp.mono (fun a o q n => ⟨q, fun z => n (.inl z)⟩) _ _ t.2⟩
  | fr =>
    obtain ⟨a, rfl, t1, t2⟩ := t
    refine .inl ⟨e, a, rfl, t1.f0 a (List.mem_cons_self ..), t2.mono (fun b o q n => ⟨q, fun z => n ?_⟩) rfl⟩
    rcases z with z | z
    · exact .inl z
    · exact .inr (.inl (by rw [z]; exact List.mem_cons_self ..))
  | ow i => exact .inr ⟨i, rfl⟩
end
section
variable {P : Program} {w : World} {K : Fr} {mg : Str → Option Value} {base : Heap} {x qual : Str} {params : Arguments} {body : List Stmt} {scope : Scope} {f : Addr} {fd : FuncData} {N ps : List Str} {k : Nat} {c : Ct}
/-- THE RULE for a def that raises nothing -/
theorem fnP (F : FunD K x qual params body scope [] [] f fd) (S : FnScope N ps scope) (hl : ∀ ds R, c ds R → ds.length = ps.length)
    (hb : ∀ (cdv : Value) (A : Around) (outer : List PySem.Env) (s : Shared) (H : Hp) (E : XK) (ds : List D) (R : D → Bool → Prop), Room k (A.deeper (envOfC qual scope s.heap.objs.size f cdv)) → c ds R →
      W (cxOf CX0 P w K mg base N qual scope f cdv A outer s H E).nox body (ds.map (fun d => some (Fl.sh, d)) ++ List.replicate (N.length - ps.length) none) { nx := fun _ => R .non false, rt := rtR R }) :
    FnOk P w K mg base CX0 (k + 1) f fd ps (spP K c) := by
  refine F.ok S (fun vs H Q E h => ?_) (fun cdv A outer s H vs Q E hr h => ?_)
  · obtain ⟨O, ds, R, t, h1, h2, _⟩ := h
    rw [h1.length]
    exact hl ds R h2
  · obtain ⟨O, ds, R, t, h1, h2, h3⟩ := h
    refine ⟨_, PSs.nox (hb cdv A outer s H E ds R hr h2), ?_⟩
    have hl' := hl ds R h2
    refine ⟨⟨O, [], H⟩, [], _, I.start O H t h1 N (N.length - ps.length) (by rw [hl']), fun ρ' σ' H' os' p j s => ?_, fun d k ρ' v σ' H' os' p j s => ?_, fun _ _ _ _ p => p.elim, fun _ _ _ _ p => p.elim⟩
    · exact h3 .non H' .non false p (show Outp K O H H' .sh .non .non from ⟨fun a o q => s.keep a o q none_mem, by simp only [Rp]⟩)
    · rcases j.exit s with o | ⟨i, rfl⟩
      · cases k with
        | sh => exact h3 v H' d false p o
        | fr => exact h3 v H' d true p o
        | ow i => exact o.elim
      · exact p.elim
end
section
variable {X : Cx} {e : Expr} {es : List Expr} {ρ : Env} {ds : List D} {d : D} {x : Str} {ps : List Str} {n k : Nat} {c : Ct} {p pos : Pos} {f : Bool}
theorem EP.call {R : D → Bool → Prop} (h : Df X.prog X.w X.K X.mg X.base x ps n c) (hr : Room k X.A) (hk : n ≤ k) (hg : Gl X x) (ha : EFA X (e :: es) ρ ds) (hc : c ds R) (hdb : (x == ("__debug__" : Str)) = false := by decide)
    (he : starEach (e :: es) X.env = (false, eval e X.env) :: starEach es X.env := by rfl) (hpl : (backTo pos (starEach es X.env)).any (·.1) = false := by rfl) : EP X (.Call (.Name x p) (e :: es) [] pos) ρ (fun d k ρ' => ρ' = ρ ∧ rtR R d k ρ') := by
  obtain ⟨a, fd, hm, hkp, hb, F⟩ := h.ex
  refine pe_weak (pe_call F (hr.mono hk) hg hm hkp hb .nil pass0 ha hdb he hpl) fun σ H Q ⟨G, T, os, i, q⟩ => ⟨G, T, os, i, fun vs H1 i1 w1 s1 => ?_⟩
  show spP X.K c (vs ++ []) H1 Q E0
  rw [List.append_nil]
  refine ⟨Od G T os, ds, R, i1.tr, w1, hc, fun v H' d f r o => ?_⟩
  obtain ⟨t1, t2⟩ := o.tm i1
  refine q d (kdB f) ρ v H' os ⟨rfl, ?_⟩ t1 (.of (s1.trans t2)) (o.nw.back fun a z => Same.free s1 z)
  cases f <;> exact r
theorem EK.call (h : Df X.prog X.w X.K X.mg X.base x ps n c) (hr : Room k X.A) (hk : n ≤ k) (hg : Gl X x) (ha : EFA X (e :: es) ρ ds) (hc : c ds (fun d' f' => d' = d ∧ f' = f)) (hdb : (x == ("__debug__" : Str)) = false := by decide)
    (he : starEach (e :: es) X.env = (false, eval e X.env) :: starEach es X.env := by rfl) (hpl : (backTo pos (starEach es X.env)).any (·.1) = false := by rfl) : EK X (.Call (.Name x p) (e :: es) [] pos) ρ d (kdB f) := by
  obtain ⟨a, fd, hm, hkp, hb, F⟩ := h.ex
  refine pe_weak (pe_call F (hr.mono hk) hg hm hkp hb .nil pass0 ha hdb he hpl) fun σ H Q ⟨G, T, os, i, q⟩ => ⟨G, T, os, i, fun vs H1 i1 w1 s1 => ?_⟩
  show spP X.K c (vs ++ []) H1 Q E0
  rw [List.append_nil]
  refine ⟨Od G T os, ds, _, i1.tr, w1, hc, fun v H' d' f' ⟨e1, e2⟩ o => ?_⟩
  subst e1 e2
  obtain ⟨t1, t2⟩ := o.tm i1
  exact q v H' t1 (s1.trans t2) (o.nw.back fun a z => Same.free s1 z)
/-- own containers may be passed to be read, if nothing of them comes back -/
theorem EK.callF (h : Df X.prog X.w X.K X.mg X.base x ps n c) (hr : Room k X.A) (hk : n ≤ k) (hg : Gl X x) (ha : ERA X (e :: es) ρ ds) (hc : c ds (fun d' f' => d' = d ∧ f' = f)) (hfl : flatR d f = true) (hdb : (x == ("__debug__" : Str)) = false := by decide)
    (he : starEach (e :: es) X.env = (false, eval e X.env) :: starEach es X.env := by rfl) (hpl : (backTo pos (starEach es X.env)).any (·.1) = false := by rfl) : EK X (.Call (.Name x p) (e :: es) [] pos) ρ d (kdB f) := by
  obtain ⟨a, fd, hm, hkp, hb, F⟩ := h.ex
  refine pe_weak (pe_call F (hr.mono hk) hg hm hkp hb .nil pass0 ha hdb he hpl) fun σ H Q ⟨G, T, os, i, q⟩ => ⟨G, T, os, i, fun vs H1 i1 w1 s1 => ?_⟩
  show spP X.K c (vs ++ []) H1 Q E0
  rw [List.append_nil]
  refine ⟨fun _ => False, ds, _, fun _ z => z.elim, w1.rp0, hc, fun v H' d' f' ⟨e1, e2⟩ o => ?_⟩
  subst e1 e2
  have o2 := o.flat (O' := Od G T os) i1.tr hfl
  obtain ⟨t1, t2⟩ := o2.tm i1
  exact q v H' t1 (s1.trans t2) (o.nw.back fun a z => Same.free s1 z)
theorem EP.callF {R : D → Bool → Prop} (h : Df X.prog X.w X.K X.mg X.base x ps n c) (hr : Room k X.A) (hk : n ≤ k) (hg : Gl X x) (ha : ERA X (e :: es) ρ ds) (hc : c ds R) (hfl : ∀ d f, R d f → flatR d f = true) (hdb : (x == ("__debug__" : Str)) = false := by decide)
    (he : starEach (e :: es) X.env = (false, eval e X.env) :: starEach es X.env := by rfl) (hpl : (backTo pos (starEach es X.env)).any (·.1) = false := by rfl) : EP X (.Call (.Name x p) (e :: es) [] pos) ρ (fun d k ρ' => ρ' = ρ ∧ rtR R d k ρ') := by
  obtain ⟨a, fd, hm, hkp, hb, F⟩ := h.ex
  refine pe_weak (pe_call F (hr.mono hk) hg hm hkp hb .nil pass0 ha hdb he hpl) fun σ H Q ⟨G, T, os, i, q⟩ => ⟨G, T, os, i, fun vs H1 i1 w1 s1 => ?_⟩
  show spP X.K c (vs ++ []) H1 Q E0
  rw [List.append_nil]
  refine ⟨fun _ => False, ds, R, fun _ z => z.elim, w1.rp0, hc, fun v H' d f r o => ?_⟩
  have o2 := o.flat (O' := Od G T os) i1.tr (hfl d f r)
  obtain ⟨t1, t2⟩ := o2.tm i1
  refine q d (kdB f) ρ v H' os ⟨rfl, ?_⟩ t1 (.of (s1.trans t2)) (o.nw.back fun a z => Same.free s1 z)
  cases f <;> exact r
end
end Pv
namespace Pv
open PySem L2 PyProof.Rows

/-! ### comprehensions that change nothing -/
def wipeE (ρ : Env) : List Nat → Env
  | [] => ρ
  | v :: vs => (wipeE ρ vs).set v none
section
variable {K : Fr} {G : Gx} {T T1 : List Addr} {os os' os'' : List (Option Addr)} {ρ ρ' ρ'' : Env} {σ σ' : L2.St} {H H' H'' : Hp} {a p : Addr} {d : D} {v : V}
/-- a slot forgotten; what was its own is met by nobody -/
theorem I.forget {i : Nat} (h : I K G T os ρ σ H) : I K ⟨fun b => G.E b ∨ os[i]? = some (some b), G.ps, G.H0⟩ T (os.set i none) (ρ.set i none) (σ.set i none) H ∧
    (∀ a, Od ⟨fun b => G.E b ∨ os[i]? = some (some b), G.ps, G.H0⟩ T (os.set i none) a ↔ Od G T os a) := by
  have od : ∀ a, Od ⟨fun b => G.E b ∨ os[i]? = some (some b), G.ps, G.H0⟩ T (os.set i none) a ↔ Od G T os a := fun a => ⟨fun q => by
    rcases q with (q | q) | q | q
    · exact .inl q
    · exact .inr (.inr (mem_of_get q))
    · exact .inr (.inl q)
    · exact .inr (.inr (mem_set_none q)), fun q => by
    rcases q with q | q | q
    · exact .inl (.inl q)
    · exact .inr (.inl q)
    · obtain ⟨j, q⟩ := mem_get q
      by_cases e : i = j
      · subst e; exact .inl (.inr q)
      · exact .inr (.inr (mem_of_get (i := j) (by rw [List.getElem?_set_ne e]; exact q)))⟩
  refine ⟨?_, od⟩
  have g : Gd (Od G T os) H (Od ⟨fun b => G.E b ∨ os[i]? = some (some b), G.ps, G.H0⟩ T (os.set i none)) H := fun a o q n => ⟨q, fun z => n ((od a).mp z)⟩
  refine ⟨?_, ?_, h.nT, fun b hb q => h.nO b hb (mem_set_none q), fun j k b q1 q2 => h.inj j k b (get_set_none q1).1 (get_set_none q2).1, fun b hb => h.tr b ((od b).mp hb), fun b hb => ?_, fun j d' q => ?_, fun j f' d' q n' => ?_, fun j b q => ?_, fun j d' q => ?_, h.h0, h.f0, fun j b d' q1 q2 => ?_⟩
  · rw [List.length_set, List.length_set]; exact h.lo
  · rw [List.length_set, List.length_set]; exact h.ls
  · rcases hb with hb | hb
    · exact ⟨(h.ex b hb).1, fun q => (h.ex b hb).2 (mem_set_none q)⟩
    · refine ⟨fun q => h.nO b q (mem_of_get hb), fun q => ?_⟩
      obtain ⟨j, z⟩ := mem_get q
      obtain ⟨z1, z2⟩ := get_set_none z
      exact z2 (h.inj j i b z1 hb)
  · by_cases e : i = j
    · subst e
      by_cases hi : i < ρ.length
      · rw [List.getElem?_set_self hi] at q; cases q
      · rw [List.getElem?_eq_none (by simpa using hi)] at q; cases q
    · rw [List.getElem?_set_ne e] at q
      obtain ⟨u, q1, q2⟩ := h.sh j d' q
      exact ⟨u, by rw [List.getElem?_set_ne e]; exact q1, Rp.mono g _ _ q2⟩
  · by_cases e : i = j
    · subst e
      by_cases hi : i < ρ.length
      · rw [List.getElem?_set_self hi] at q; cases q
      · rw [List.getElem?_eq_none (by simpa using hi)] at q; cases q
    · rw [List.getElem?_set_ne e] at q
      obtain ⟨b, q1, q2, q3⟩ := h.ow j f' d' q n'
      exact ⟨b, by rw [List.getElem?_set_ne e]; exact q1, by rw [List.getElem?_set_ne e]; exact q2, q3.mono g rfl⟩
  · obtain ⟨q1, q2⟩ := get_set_none q
    obtain ⟨f', d', q3, q4⟩ := h.no j b q1
    exact ⟨f', d', q3, by rw [List.getElem?_set_ne (fun z => q2 z.symm)]; exact q4⟩
  · by_cases e : i = j
    · subst e
      by_cases hi : i < ρ.length
      · rw [List.getElem?_set_self hi] at q; cases q
      · rw [List.getElem?_eq_none (by simpa using hi)] at q; cases q
    · rw [List.getElem?_set_ne e] at q
      obtain ⟨b, q1, q2⟩ := h.io j d' q
      exact ⟨b, q1, by rw [List.getElem?_set_ne e]; exact q2⟩
  · obtain ⟨q3, q4⟩ := get_set_none q1
    rw [List.getElem?_set_ne (fun z => q4 z.symm)] at q2
    exact h.g0 j b d' q3 q2
/-- a temporary container changed -/
theorem I.ownT {h' : Hp} (h : I K G (p :: T) os ρ σ H) (k : ∀ a o, a ≠ p → H a = some o → h' a = some o) (m : ∃ o, h' p = some o ∧ mutO o = true) : I K G (p :: T) os ρ σ h' := by
  have g : Gd (Od G (p :: T) os) H (Od G (p :: T) os) h' := fun a o q n => ⟨k a o (fun z => n (by rw [z]; exact od_mem)) q, n⟩
  refine ⟨h.lo, h.ls, h.nT, h.nO, h.inj, fun a ha => ?_, h.ex, fun i d r => ?_, fun i f d r n => ?_, h.no, h.io, fun a q => ?_, h.f0, h.g0⟩
  · by_cases z : a = p
    · rw [z]; exact m
    · obtain ⟨o, h1, h2⟩ := h.tr a ha; exact ⟨o, k a o z h1, h2⟩
  · obtain ⟨v, h1, h2⟩ := h.sh i d r; exact ⟨v, h1, Rp.mono g _ _ h2⟩
  · obtain ⟨a, h1, h2, h3⟩ := h.ow i f d r n
    obtain ⟨o, q, _⟩ := h3.tr
    have z : a ≠ p := fun z => h.nO p (List.mem_cons_self ..) (by rw [← z]; exact mem_of_get h1)
    exact ⟨a, h1, h2, h3.mono g ((k a o z q).trans q.symm)⟩
  · by_cases z : a = p
    · obtain ⟨o, q1, _⟩ := m
      rw [z, q1] at q; cases q
    · cases w : H a with
      | none => exact h.h0 a w
      | some o => rw [k a o z w] at q; cases q
theorem I.wipe (h : I K G T os ρ σ H) : ∀ vs : List Nat, ∃ G' os', I K G' T os' (wipeE ρ vs) (wipe σ vs) H ∧ (∀ a, Od G' T os' a ↔ Od G T os a) ∧ ∀ i ∈ vs, ∀ a, os'[i]? ≠ some (some a)
  | [] => ⟨G, os, h, fun _ => Iff.rfl, fun i hi => by cases hi⟩
  | i :: vs => by
    obtain ⟨G1, o1, h1, h2, h3⟩ := I.wipe h vs
    obtain ⟨f1, f2⟩ := h1.forget (i := i)
    refine ⟨_, _, f1, fun a => (f2 a).trans (h2 a), fun j hj a e => ?_⟩
    obtain ⟨e1, e2⟩ := get_set_none e
    rcases List.mem_cons.mp hj with z | z
    · exact e2 z
    · exact h3 j z a e1
end
/-- the tests of a comprehension -/
def EIf (X : Cx) (ifs : List Expr) (ρ : Env) (b : Bool) : Prop := PTs X ifs (tB X.K ρ b)
theorem pts_weak {X : Cx} {e : List Expr} {t t' : TT} (h : PTs X e t) (w : ∀ σ H Q, t' σ H Q → t σ H Q) : PTs X e t' := ⟨fun pins s σ H Q I q => h.run pins s σ H Q I (w σ H Q q)⟩
theorem EIf.nil {X : Cx} {ρ : Env} : EIf X [] ρ true := pts_weak pts_nil fun σ H Q ⟨G, T, os, i, q⟩ => q H i (Same.refl H)
theorem EIf.one {X : Cx} {ρ : Env} {c : Expr} {b : Bool} (h : ET X c ρ b) : EIf X [c] ρ b := pts_one h
/-- the contexts of a comprehension's block -/
def Blk (X : Cx) (scope : Scope) (F : Cx → Prop) : Prop := ∀ (s : Shared) (H : Hp) (C : Addr) (cl : List (Str × Addr)) (fp : List Addr), F (X.blk s H scope (compEnvC scope cl C X.env) fp)
/-- one turn: the target takes d; the tests say b; if so the element is y -/
def Turn1 (X : Cx) (scope : Scope) (tg elt : Expr) (ifs : List Expr) (vs : List Nat) (ρ : Env) (d : D) (o : Option D) : Prop :=
  ∃ ρ2 ws b, Blk X scope (fun X' => GB X' tg d (wipeE ρ vs) ρ2 ws) ∧ (∀ i ∈ ws, i ∈ vs) ∧ Blk X scope (fun X' => EIf X' ifs ρ2 b) ∧ (b = true → ∃ y k, Blk X scope (fun X' => EK X' elt ρ2 y k) ∧ k.free = true ∧ o = some y) ∧ (b = false → o = none)
/-- a comprehension whose reading is t -/
structure LcP (X : Cx) (elt tg iter : Expr) (ifs : List Expr) (scope : Scope) (t : TE) : Prop where
  ex : ∃ (own : List (Str × Nat)) (wi : TI) (g : TG) (tt : TT) (te : TE), PI X tg iter wi ∧ BlkOk X.N X.env.scope scope own ∧
    (∀ (s : Shared) (H : Hp) (C : Addr) (cl : List (Str × Addr)) (fp : List Addr), PG (X.blk s H scope (compEnvC scope cl C X.env) fp) tg g) ∧
    (∀ (s : Shared) (H : Hp) (C : Addr) (cl : List (Str × Addr)) (fp : List Addr), PTs (X.blk s H scope (compEnvC scope cl C X.env) fp) ifs tt) ∧
    (∀ (s : Shared) (H : Hp) (C : Addr) (cl : List (Str × Addr)) (fp : List Addr), PE (X.blk s H scope (compEnvC scope cl C X.env) fp) elt te) ∧
    ∀ σ H Q, t σ H Q → tLc wi g tt te (own.map (·.2)) σ H Q
section
variable {X : Cx} {elt tg iter : Expr} {ifs : List Expr} {scope : Scope} {t t' : TE} {ρ ρ' : Env} {d : D} {k : Kd} {R : Po1} {P : Po} {pos spos : Pos}
theorem LcP.weak (h : LcP X elt tg iter ifs scope t) (w : ∀ σ H Q, t' σ H Q → t σ H Q) : LcP X elt tg iter ifs scope t' := by
  obtain ⟨own, wi, g, tt, te, h1, h2, h3, h4, h5, h6⟩ := h.ex
  exact ⟨own, wi, g, tt, te, h1, h2, h3, h4, h5, fun σ H Q q => h6 σ H Q (w σ H Q q)⟩
theorem LcP.pe (h : LcP X elt tg iter ifs scope t) (hc : X.calm = true) (hN : X.N.Nodup) (hs : ∀ x, foldedSetIterable iter X.env x = pure x := by intro _; rfl) : PE X (.ListComp elt [⟨tg, iter, ifs, 0⟩] scope pos) t := by
  obtain ⟨own, wi, g, tt, te, h1, h2, h3, h4, h5, h6⟩ := h.ex
  exact pe_weak (pe_lc hc hN h1 h2 h3 h4 h5 hs) h6
abbrev LcK (X : Cx) (elt tg iter : Expr) (ifs : List Expr) (scope : Scope) (ρ : Env) (d : D) : Prop := LcP X elt tg iter ifs scope (tK X.K ρ d .fr)
theorem EK.lc (h : LcK X elt tg iter ifs scope ρ d) (hc : X.calm = true) (hN : X.N.Nodup) (hs : ∀ x, foldedSetIterable iter X.env x = pure x := by intro _; rfl) : EK X (.ListComp elt [⟨tg, iter, ifs, 0⟩] scope pos) ρ d .fr := h.pe hc hN hs
/-- name = [..] where the model stores within the comprehension's frame -/
theorem WS.asgLc {i : Nat} {y : Str} {py : Pos} (hc : X.calm = true) (hN : X.N.Nodup) (hy : X.N[i]? = some y) (hyl : X.env.scope.names.lookup y = some .local)
    (hsw : swapsWith (.ListComp elt [⟨tg, iter, ifs, 0⟩] scope pos) (some (.Name y py)) spos.line X.env = pure true) (h : LcP X elt tg iter ifs scope (tP X.K ρ R)) (hk : ∀ d k ρ', R d k ρ' → k.free = true ∧ P.nx (ρ'.set i (slotOf k d)))
    (hs : ∀ x, foldedSetIterable iter X.env x = pure x := by intro _; rfl) : WS X (.Assign [.Name y py] (.ListComp elt [⟨tg, iter, ifs, 0⟩] scope pos) spos) ρ P := by
  obtain ⟨own, wi, g, tt, te, h1, h2, h3, h4, h5, h6⟩ := h.ex
  refine ps_weak (ps_setLc hc hN hy hyl hsw h1 h2 h3 h4 h5 hs) fun E σ H ⟨G, T, os, j, q1, q2, q3, q4⟩ => ?_
  refine h6 σ H _ ⟨G, T, os, j, fun d k ρ' v H' os' r t s n => asg_end (hk d k ρ' r).1 t s n (hk d k ρ' r).2 q1⟩
theorem LcP.q (h : LcK X elt tg iter ifs scope ρ d) : LcP X elt tg iter ifs scope (tP X.K ρ (Po1.is d .fr ρ)) :=
  h.weak fun σ H Q ⟨G, T, os, i, q⟩ => ⟨G, T, os, i, fun v H' t s n => q d .fr ρ v H' os ⟨rfl, rfl, rfl⟩ t (.of s) n⟩

theorem pe_any (X : Cx) (e : Expr) : PE X e (fun σ H Q => ∃ ρ d k, EK X e ρ d k ∧ tK X.K ρ d k σ H Q) := ⟨fun pins s σ H Q I ⟨ρ, d, k, q1, q2⟩ => q1.run pins s σ H Q I q2⟩
theorem wipe_eq {σ τ : L2.St} {ws vs : List Nat} (hl : σ.length = τ.length) (h : ∀ i : Nat, i ∉ ws → σ[i]? = (L2.wipe τ vs)[i]?) (hs : ∀ i ∈ ws, i ∈ vs) : L2.wipe σ vs = L2.wipe τ vs := by
  have wn : ∀ (τ : L2.St) (vs : List Nat) (i : Nat), i ∈ vs → i < τ.length → (L2.wipe τ vs)[i]? = some none := by
    intro τ vs
    induction vs with
    | nil => intro i h; cases h
    | cons v vs ih =>
      intro i hi hl
      show ((L2.wipe τ vs).set v none)[i]? = some none
      by_cases e : v = i
      · subst e
        exact List.getElem?_set_self (by rw [wipe_length]; exact hl)
      · rw [List.getElem?_set_ne e]
        rcases List.mem_cons.mp hi with q | q
        · exact absurd q.symm e
        · exact ih i q hl
  have wo : ∀ (τ : L2.St) (vs : List Nat) (i : Nat), i ∉ vs → (L2.wipe τ vs)[i]? = τ[i]? := by
    intro τ vs
    induction vs with
    | nil => intro i _; rfl
    | cons v vs ih =>
      intro i hi
      show ((L2.wipe τ vs).set v none)[i]? = τ[i]?
      rw [List.getElem?_set_ne fun e => hi (by rw [e]; exact List.mem_cons_self ..)]
      exact ih i fun q => hi (List.mem_cons_of_mem _ q)
  apply List.ext_getElem?
  intro i
  by_cases hi : i ∈ vs
  · by_cases hl2 : i < τ.length
    · rw [wn σ vs i hi (by rw [hl]; exact hl2), wn τ vs i hi hl2]
    · rw [List.getElem?_eq_none (by rw [wipe_length, hl]; omega), List.getElem?_eq_none (by rw [wipe_length]; omega)]
  · rw [wo σ vs i hi, h i fun q => hi (hs i q)]
theorem LcK.mk {α : Type} {xs : List α} {f : α → D} {g : α → Option D} {own : List (Str × Nat)} (hi : IQ X tg iter ρ (xs.map f)) (ok : BlkOk X.N X.env.scope scope own) (hlen : xs.length ≤ 1000000)
    (ht : ∀ x ∈ xs, Turn1 X scope tg elt ifs (own.map (·.2)) ρ (f x) (g x)) :
    LcK X elt tg iter ifs scope ρ (.lst (xs.filterMap g)) := by
  refine ⟨own, _, fun v σ H Q => ∃ d ρ ρ' ws, Blk X scope (fun X' => GB X' tg d ρ ρ' ws) ∧ gB X.K d ρ ρ' ws v σ H Q, fun σ H Q => ∃ ρ b, Blk X scope (fun X' => EIf X' ifs ρ b) ∧ tB X.K ρ b σ H Q,
    fun σ H Q => ∃ ρ d k, Blk X scope (fun X' => EK X' elt ρ d k) ∧ tK X.K ρ d k σ H Q, hi, ok,
    fun s H1 C cl fp => ⟨fun pins s' σ H v u Q I r q => ?_⟩, fun s H1 C cl fp => ⟨fun pins s' σ H Q I q => ?_⟩, fun s H1 C cl fp => ⟨fun pins s' σ H Q I q => ?_⟩, fun σ H Q ⟨G, T, os, i, q⟩ => ⟨G, T, os, i, fun J H1 Sc i1 s1 src stab sc => fun Dl hD => ?_⟩⟩
  · obtain ⟨d, ρ, ρ', ws, q1, q2⟩ := q
    exact (q1 s H1 C cl fp).run pins s' σ H v u Q I r q2
  · obtain ⟨ρ, b, q1, q2⟩ := q
    exact (q1 s H1 C cl fp).run pins s' σ H Q I q2
  · obtain ⟨ρ, d, k, q1, q2⟩ := q
    exact (q1 s H1 C cl fp).run pins s' σ H Q I q2
  · have hl : (xs.map f).length = xs.length := List.length_map _
    have glen : ∀ n, ((xs.take n).filterMap g).length ≤ n := fun n => Nat.le_trans (List.length_filterMap_le ..) (List.length_take_le ..)
    have up : ∀ {Hk : Hp} {o}, Same H1 Hk → Same H1 (upd Hk Dl o) := fun {Hk o} e b u qb => by
      rw [upd_ne (ne_of_none qb hD)]; exact e b u qb
    let St (n : Nat) (Hk : Hp) : Prop := Same H1 Hk ∧ ∃ ys, I X.K G (Dl :: T) os ρ σ Hk ∧ Hk Dl = some (.lst ys) ∧ RpL X.K (Od G (Dl :: T) os) Hk ((xs.take n).filterMap g) ys
    have i2 : I X.K G (Dl :: T) os ρ σ (upd H1 Dl (.lst [])) := i1.temp (same_new hD) hD ⟨_, upd_same, rfl⟩
    have gD : ∀ {Hk : Hp}, Same H1 Hk → Gd (Od G T os) H1 (Od G (Dl :: T) os) Hk := fun {Hk} e a o q1 q2 => ⟨e a o q1, fun z => (Od.cons.mp z).elim q2 fun e => by rw [e, hD] at q1; cases q1⟩
    refine ⟨fun n m Hk => m = (xs.map f).length - n ∧ n ≤ (xs.map f).length ∧ St n Hk, ⟨_, rfl, Nat.zero_le _, up (Same.refl H1), [], i2, upd_same, RpL.nil⟩, ?_⟩
    rintro n m Hk ⟨rfl, hn, e1, ys, ik, hys, rys⟩
    have sck : Sc (Od G (Dl :: T) os) Hk := stab _ _ _ _ sc (gD e1) e1
    by_cases hlt : n < (xs.map f).length
    · refine .inr ⟨src.goes n _ Hk hlt sck, St (n + 1), fun H' w => ⟨(xs.map f).length - (n + 1), by omega, rfl, hlt, w⟩, fun x Hx y => ?_⟩
      obtain ⟨e2, d, ed, rd⟩ := src.yields n _ Hk x Hx hlt ik.tr sck y
      have hlt' : n < xs.length := by rw [← hl]; exact hlt
      have ed' : d = f xs[n] := by
        rw [List.getElem?_map, List.getElem?_eq_getElem hlt'] at ed
        exact (Option.some.inj ed).symm
      subst ed'
      have tk : xs.take (n + 1) = xs.take n ++ [xs[n]] := by rw [List.take_add_one, List.getElem?_eq_getElem hlt']; rfl
      have ix := ik.ext e2
      obtain ⟨G1, o1, iw, mw, mn⟩ := ix.wipe (own.map (·.2))
      have gw : Gd (Od G (Dl :: T) os) Hx (Od G1 (Dl :: T) o1) Hx := fun a o q1 q2 => ⟨q1, fun z => q2 ((mw a).mp z)⟩
      obtain ⟨ρ2, ws, b, g2, gv, t2, y1, y2⟩ := ht xs[n] (List.getElem_mem hlt')
      refine ⟨f xs[n], _, ρ2, ws, g2, G1, Dl :: T, o1, iw, Rp.mono gw _ _ rd, fun σ2 o2 i2 s2 ag => ⟨wipe_eq (by rw [ag.1, wipe_length]) (fun i hi => (ag.2 i hi).1) gv, ρ2, b, t2, G1, Dl :: T, o2, i2, fun H3 i3 s3 => ?_⟩⟩
      have e3 : Same Hk H3 := e2.trans s3
      have d3 : H3 Dl = some (.lst ys) := e3 _ _ hys
      have g3 : Gd (Od G (Dl :: T) os) Hk (Od G (Dl :: T) os) H3 := same_gd e3 fun _ _ _ n => n
      cases b with
      | false =>
        refine iteF ⟨e1.trans e3, ys, ik.ext e3, d3, ?_⟩
        rw [tk, List.filterMap_append, List.filterMap_cons, y2 rfl]
        show RpL _ _ _ (_ ++ []) _
        rw [List.append_nil]
        exact rys.mono g3
      | true =>
        obtain ⟨yd, k, ye, kf, go⟩ := y1 rfl
        refine iteT ⟨ρ2, yd, k, ye, G1, Dl :: T, o2, i3, fun v H4 t4 s4 _ => ⟨ys, s4 _ _ d3, ?_, up ((e1.trans e3).trans s4), ys ++ [v], ?_⟩⟩
        · rw [rys.length]
          have := glen n
          exact szl (by omega)
        · have e4 : Same Hk H4 := e3.trans s4
          have up2 : ∀ {o}, ∀ a u, a ≠ Dl → H4 a = some u → upd H4 Dl o a = some u := fun a u z q => by rw [upd_ne z]; exact q
          have g4 : Gd (Od G (Dl :: T) os) H4 (Od G (Dl :: T) os) (upd H4 Dl (.lst (ys ++ [v]))) := fun a o q1 q2 => ⟨up2 a o (fun z => q2 (by rw [z]; exact od_mem)) q1, q2⟩
          have g5 : Gd (Od G1 (Dl :: T) o2) H4 (Od G (Dl :: T) os) (upd H4 Dl (.lst (ys ++ [v]))) := fun a o q1 q2 => by
            have q3 : ¬ Od G (Dl :: T) os a := fun z => q2 (by
              rcases (mw a).mpr z with z | z | z
              · exact .inl z
              · exact .inr (.inl z)
              · obtain ⟨j, z⟩ := mem_get z
                by_cases hj : j ∈ ws
                · exact absurd z (mn j (gv j hj) a)
                · exact .inr (.inr (mem_of_get (i := j) ((ag.2 j hj).2.trans z))))
            exact g4 a o q1 q3
          have i4 := ik.ext e4
          have gk : Gd (Od G (Dl :: T) os) Hk (Od G (Dl :: T) os) H4 := same_gd e4 fun _ _ _ n => n
          refine ⟨i4.ownT (fun a o z q => up2 a o z q) ⟨_, upd_same, rfl⟩, upd_same, ?_⟩
          rw [tk, List.filterMap_append, List.filterMap_cons, go]
          exact ((rys.mono gk).mono g4).append (RpL.cons (Rp.mono g5 _ _ (t4.rp kf)) RpL.nil)
    · have en : n = (xs.map f).length := by omega
      subst en
      refine .inl ⟨src.stops _ Hk sck, q _ Hk ⟨Dl, rfl, ik, ys, hys, ?_⟩ (s1.trans e1) fun _ a e => ?_⟩
      · rw [hl, List.take_length] at rys; exact rys
      · cases e; exact Same.free s1 hD
end
end Pv
namespace Pv
open PySem L2 PyProof.Rows

/-! ### calls of what is built in -/
def Cl (X : Cx) (f : Value) (ds : List D) (d : D) (k : Kd) : Prop :=
  ∃ r, CallR X f r ∧ ∀ O H vs Q, Trk O H → RwL X.K O H ds vs → (∀ v H', Outp X.K O H H' k d v → Q v H') → r vs H Q
def Mt (X : Cx) (id : String) (T : String) (d0 : D) (ds : List D) (d : D) (k : Kd) : Prop :=
  ∃ r, MtR X id r ∧ (∀ O H v, Rw X.K O H d0 v → tyV X.K T v H) ∧ ∀ O H v vs Q, Trk O H → Rw X.K O H d0 v → RwL X.K O H ds vs → (∀ v H', Outp X.K O H H' k d v → Q v H') → r v vs H Q
section
variable {X : Cx} {e o : Expr} {es : List Expr} {ρ ρ' : Env} {d d0 : D} {ds es' : List D} {k : Kd} {x name : Str} {id T : String} {p pos apos : Pos}
theorem EK.callB (h : Cl X (.builtin id) ds d k) (hg : Gl X x) (hm : X.mg x = none) (hv : bootBuiltins x = some (.builtin id)) (ha : ERA X (e :: es) ρ ds) (hn : x ≠ "__name__" := by decide) (hdb : (x == ("__debug__" : Str)) = false := by decide)
    (he : starEach (e :: es) X.env = (false, eval e X.env) :: starEach es X.env := by rfl) (hpl : (backTo pos (starEach es X.env)).any (·.1) = false := by rfl) : EK X (.Call (.Name x p) (e :: es) [] pos) ρ d k := by
  obtain ⟨r, hr, hq⟩ := h
  refine pe_weak (pe_callB hr hg hm hv ha hn hdb he hpl) fun σ H Q ⟨G, T, os, i, q⟩ => ⟨G, T, os, i, fun vs H1 i1 w1 s1 => hq _ H1 vs Q i1.tr w1 fun v H' o => ?_⟩
  obtain ⟨t1, t2⟩ := o.tm i1
  exact q v H' t1 (s1.trans t2) (o.nw.back fun a h => Same.free s1 h)
theorem EK.callT (h : Cl X (.type T) ds d k) (hg : Gl X x) (hm : X.mg x = none) (hv : bootBuiltins x = some (.type T)) (ha : ERA X (e :: es) ρ ds) (hn : x ≠ "__name__" := by decide) (hdb : (x == ("__debug__" : Str)) = false := by decide)
    (he : starEach (e :: es) X.env = (false, eval e X.env) :: starEach es X.env := by rfl) (hpl : (backTo pos (starEach es X.env)).any (·.1) = false := by rfl) : EK X (.Call (.Name x p) (e :: es) [] pos) ρ d k := by
  obtain ⟨r, hr, hq⟩ := h
  refine pe_weak (pe_callTy hr hg hm hv ha hn hdb he hpl) fun σ H Q ⟨G, T, os, i, q⟩ => ⟨G, T, os, i, fun vs H1 i1 w1 s1 => hq _ H1 vs Q i1.tr w1 fun v H' o => ?_⟩
  obtain ⟨t1, t2⟩ := o.tm i1
  exact q v H' t1 (s1.trans t2) (o.nw.back fun a h => Same.free s1 h)
theorem EK.tyN {n : String} (hg : Gl X x) (hm : X.mg x = none) (hv : bootBuiltins x = some (.type n)) (hn : x ≠ "__name__" := by decide) (hd : (x == ("__debug__" : Str)) = false := by decide) : EK X (.Name x pos) ρ (.ty n) .sh :=
  EK.cst (te := tC .non) (pe_bltn (v := .ty n) hg hm hv (show Value.type n = Value.type n from rfl) hn hd) fun _ _ => by simp only [Rp]
/-- a method that changes nothing -/
theorem EK.mt (pa : PlainAttrs T) (slot : Slot T name id) (hty : typeOf (.builtin id) = pure (.type "method_descriptor")) (h : Mt X id T d0 ds d k) (ho : ER X o ρ d0) (ha : ERA X (e :: es) ρ ds)
    (hbase : attributeBase o name X.env (eval o X.env) = eval o X.env := by rfl)
    (hfew : ((backTo pos (starEach (e :: es) X.env)).all (fun x => !x.1) && (backToKw pos (keywordEach [] X.env)).all (fun x => x.1.isSome)
      && decide ((e :: es).length + ([] : List Keyword).length + (if ([] : List Keyword).isEmpty then 0 else 1) < 30)) = true := by rfl)
    (hline : (apos.endLine == pos.line) = true := by rfl) (hs : starEach (e :: es) X.env = (false, eval e X.env) :: starEach es X.env := by rfl) (hplain : (backTo pos (starEach es X.env)).any (·.1) = false := by rfl) :
    EK X (.Call (.Attribute o name apos) (e :: es) [] pos) ρ d k := by
  obtain ⟨r, hr, ht, hq⟩ := h
  refine pe_weak (pe_bm pa slot hty hr ho ha hbase hfew hline hs hplain) fun σ H Q ⟨G, T, os, i, q⟩ => ⟨G, T, os, i, fun v0 H0 i0 w0 s0 => ⟨ht _ H0 v0 w0, G, T, os, i0, fun vs H1 i1 w1 s1 => ?_⟩⟩
  refine hq _ H1 v0 vs Q i1.tr (w0.mono s1 fun _ _ _ n => n) w1 fun v H' o => ?_
  obtain ⟨t1, t2⟩ := o.tm i1
  exact q v H' t1 ((s0.trans s1).trans t2) (o.nw.back fun a h => Same.free (s0.trans s1) h)

/-! ### the calls -/
def lenD : D → Option Nat
  | .tup ds => some ds.length | .lst ds => some ds.length | _ => none
theorem Cl.len {n : Nat} (h : lenD d0 = some n) : Cl X (.builtin "len") [d0] (.int n) .sh :=
  ⟨_, call_len, fun O H vs Q _ w q => by
    obtain ⟨v, rfl, w1⟩ := rwL1 w
    refine ⟨v, n, rfl, ?_, q _ H (.scal (by simp only [Rp]))⟩
    cases d0 <;> simp only [lenD, Option.some.injEq, reduceCtorEq] at h <;> subst h
    case tup ds => obtain ⟨a, xs, rfl, h1, h2⟩ := tupW w1; exact .inr ⟨xs, h1, h2.length.symm⟩
    case lst ds => obtain ⟨a, xs, rfl, h1, h2⟩ := w1; exact .inl ⟨xs, h1, h2.length.symm⟩⟩
theorem Cl.lenS {s : Str} (h : s.length ≤ 1000000) : Cl X (.builtin "len") [.str s] (.int s.length) .sh :=
  ⟨_, call_len, fun O H vs Q _ w q => by
    obtain ⟨v, rfl, w1⟩ := rwL1 w
    rw [strW w1]
    exact ⟨_, s.length, rfl, ⟨sz h, rfl⟩, q _ H (.scal (by simp only [Rp]))⟩⟩
theorem Cl.int {i : Int} : Cl X (.type "int") [.int i] (.int i) .sh :=
  ⟨_, call_int1, fun O H vs Q _ w q => by
    obtain ⟨v, rfl, w1⟩ := rwL1 w
    rw [intW w1]
    exact .inl ⟨i, rfl, q _ H (.scal (by simp only [Rp]))⟩⟩
theorem Cl.intB {b : Bool} : Cl X (.type "int") [.bl b] (.int (if b then 1 else 0)) .sh :=
  ⟨_, call_int1, fun O H vs Q _ w q => by
    obtain ⟨v, rfl, w1⟩ := rwL1 w
    rw [blRw w1]
    exact .inr ⟨b, rfl, q _ H (.scal (by simp only [Rp]))⟩⟩
theorem Cl.max2 {i j : Int} (hc : X.calm = true) : Cl X (.builtin "max") [.int i, .int j] (.int (if j > i then j else i)) .sh :=
  ⟨_, call_max2 hc, fun O H vs Q _ w q => by
    obtain ⟨v, v2, rfl, w1, w2⟩ := rwL2 w
    rw [intW w1, intW w2]
    exact ⟨i, j, rfl, q _ H (.scal (by simp only [Rp]))⟩⟩
theorem Cl.min2 {i j : Int} (hc : X.calm = true) : Cl X (.builtin "min") [.int i, .int j] (.int (if j < i then j else i)) .sh :=
  ⟨_, call_min2 hc, fun O H vs Q _ w q => by
    obtain ⟨v, v2, rfl, w1, w2⟩ := rwL2 w
    rw [intW w1, intW w2]
    exact ⟨i, j, rfl, q _ H (.scal (by simp only [Rp]))⟩⟩
theorem Cl.tupL {ds : List D} : Cl X (.type "tuple") [.lst ds] (.tup ds) .sh :=
  ⟨_, call_tuple_of, fun O H vs Q tk w q => by
    obtain ⟨v, rfl, w1⟩ := rwL1 w
    obtain ⟨a, xs, rfl, h1, h2⟩ := w1
    exact ⟨a, xs, rfl, .inl ⟨h1, fun p n => q _ _ (.newT n (tk.new n) h2)⟩⟩⟩
theorem Cl.tupT {ds : List D} : Cl X (.type "tuple") [.tup ds] (.tup ds) .sh :=
  ⟨_, call_tuple_of, fun O H vs Q tk w q => by
    obtain ⟨v, rfl, w1⟩ := rwL1 w
    have w2 : Rp X.K O H (.tup ds) v := w1
    obtain ⟨a, xs, rfl, h1, h2⟩ := tupW w1
    exact ⟨a, xs, rfl, .inr ⟨h1, q _ H (.scal w2)⟩⟩⟩
theorem Cl.list {ds : List D} (h : d0 = .lst ds ∨ d0 = .tup ds) : Cl X (.type "list") [d0] (.lst ds) .fr :=
  ⟨_, call_list_of, fun O H vs Q tk w q => by
    obtain ⟨v, rfl, w1⟩ := rwL1 w
    have w3 : Rw X.K O H (.lst ds) v ∨ Rw X.K O H (.tup ds) v := by
      rcases h with e | e
      · left; rw [← e]; exact w1
      · right; rw [← e]; exact w1
    obtain ⟨a, xs, rfl, h1, h2⟩ := seqW w3
    exact ⟨a, xs, rfl, h1, fun p n => q _ _ (.newL n h2)⟩⟩
def tyD : D → String
  | .non => "NoneType" | .bl _ => "bool" | .int _ => "int" | .str _ => "str" | .tup _ => "tuple" | .lst _ => "list" | .dic _ _ => "dict" | _ => "?"
theorem tyx {K : Fr} {O : Addr → Prop} {H : Hp} {v : V} (w : Rw K O H d v) (h : tyD d ≠ "?") : TyX K H v (.type (tyD d)) := by
  cases d <;> try exact absurd rfl h
  case non => simp only [Rw, Rp] at w; subst w; exact .base .non
  case bl b => simp only [Rw, Rp] at w; subst w; exact .base (.bl b)
  case int b => simp only [Rw, Rp] at w; subst w; exact .base (.int b)
  case str b => simp only [Rw, Rp] at w; subst w; exact .base (.str b)
  case tup ds =>
    obtain ⟨a, xs, rfl, h1, h2⟩ := tupW w
    rcases h1 with (h1 | ⟨o, h1⟩) | ⟨o, its, n, h1, h3, _⟩
    · exact .base (.tup h1)
    · exact .fTuple h1
    · exact .kTuple h1 h3
  case lst ds =>
    obtain ⟨a, xs, rfl, h1, h2⟩ := w
    rcases h1 with (h1 | ⟨o, h1⟩) | ⟨o, its, n, h1, h3, _⟩
    · exact .base (.lst h1)
    · exact .base (.frz h1)
    · exact .kList h1 h3
  case dic ks ds => obtain ⟨a, ys, rfl, h1, h2⟩ := w; exact .base (.dK h1)
theorem Cl.isi {n : String} {b : Bool} (h : kitB (tyD d0) n = some b) (hn : tyD d0 ≠ "?") : Cl X (.builtin "isinstance") [d0, .ty n] (.bl b) .sh :=
  ⟨_, call_isi, fun O H vs Q tk w q => by
    obtain ⟨v, v2, rfl, w1, w2⟩ := rwL2 w
    simp only [Rw, Rp] at w2
    subst w2
    exact ⟨v, .ty n, _, _, b, rfl, .ty n, tyx w1 hn, kit_ty h, q _ H (.scal (by simp only [Rp]))⟩⟩

/-! ### methods that read -/
theorem Mt.split {s t : Str} (h1 : t.length ≠ 0) (h2 : s.length ≤ 1000000) : Mt X "str.split" "str" (.str s) [.str t] (.lst ((Txt.split s t).map .str)) .fr :=
  ⟨_, mt_split, fun O H v w => by rw [strW w]; rfl, fun O H v vs Q tk w ws q => by
    obtain ⟨u, rfl, w1⟩ := rwL1 ws
    rw [strW w, strW w1]
    refine ⟨s, t, rfl, rfl, beq_false_of_ne h1, Nat.le_trans (Nat.add_le_add_right h2 2) (by decide), fun p n => q _ _ (.newL n ?_)⟩
    exact ofStrs⟩
where ofStrs {K : Fr} {O : Addr → Prop} {H : Hp} : ∀ {ns : List Str}, RpL K O H (ns.map D.str) (ns.map V.str)
  | [] => RpL.nil
  | n :: ns => RpL.cons (by simp only [Rp]) ofStrs
theorem strL {K : Fr} {O : Addr → Prop} {H : Hp} : ∀ {ns : List Str} {xs : List V}, RpL K O H (ns.map D.str) xs → xs = ns.map V.str
  | [], xs, h => by simpa only [List.map, RpL] using h
  | n :: ns, xs, h => by
    simp only [List.map, RpL, Rp] at h
    obtain ⟨x, r, rfl, rfl, h2⟩ := h
    rw [strL h2]; rfl
theorem Mt.join {s : Str} {ns : List Str} (h : d0 = .lst (ns.map .str) ∨ d0 = .tup (ns.map .str)) (hz : (ns.map (·.length)).sum + ns.length * s.length ≤ 16777216) : Mt X "str.join" "str" (.str s) [d0] (.str (Txt.join s ns)) .sh :=
  ⟨_, mt_join, fun O H v w => by rw [strW w]; rfl, fun O H v vs Q tk w ws q => by
    obtain ⟨u, rfl, w1⟩ := rwL1 ws
    have w3 : Rw X.K O H (.lst (ns.map .str)) u ∨ Rw X.K O H (.tup (ns.map .str)) u := by
      rcases h with e | e
      · left; rw [← e]; exact w1
      · right; rw [← e]; exact w1
    obtain ⟨a, xs, rfl, h1, h2⟩ := seqW w3
    rw [strW w]
    rw [strL h2] at h1
    exact ⟨s, a, ns, rfl, rfl, h1, hz, q _ H (.scal (by simp only [Rp]))⟩⟩
theorem Mt.countI {ns : List Int} {i : Int} : Mt X "list.count" "list" (.lst (ns.map .int)) [.int i] (.int (ns.count i)) .sh :=
  ⟨_, mt_lcount, fun O H v w => by obtain ⟨a, xs, rfl, h1, h2⟩ := w; exact .inl ⟨rfl, xs, h1⟩, fun O H v vs Q tk w ws q => by
    obtain ⟨u, rfl, w1⟩ := rwL1 ws
    obtain ⟨a, xs, rfl, h1, h2⟩ := w
    rw [intW w1]
    rw [Rp.intL h2] at h1
    exact ⟨a, ns, i, rfl, rfl, h1, q _ H (.scal (by simp only [Rp]))⟩⟩
theorem Mt.index {ds : List D} {y : D} {j : Nat} {z : D} (hy : isS y = true) (hd : ∀ d ∈ ds, isS d = true) (hj : ds[j]? = some z) (hz : eqD z y = true) (hm : ∀ (m : Nat) z', m < j → ds[m]? = some z' → eqD z' y = false) : Mt X "list.index" "list" (.lst ds) [y] (.int j) .sh :=
  ⟨_, mt_index, fun O H v w => by obtain ⟨a, xs, rfl, h1, h2⟩ := w; exact .inl ⟨rfl, xs, h1⟩, fun O H v vs Q tk w ws q => by
    obtain ⟨u, rfl, w1⟩ := rwL1 ws
    obtain ⟨a, xs, rfl, h1, h2⟩ := w
    rw [isS_rw hy w1]
    have e := flat_all hd h2
    subst e
    have zs : isS z = true := hd z (mem_of_get hj)
    refine ⟨a, _, toV y, j, toV z, rfl, rfl, h1, flat_V hy, all_flat hd, by rw [List.getElem?_map, hj]; rfl, by rw [eqD_V zs hy]; exact hz, fun m z' hmj e => ?_, q _ H (.scal (by simp only [Rp]))⟩
    rw [List.getElem?_map] at e
    cases q1 : ds[m]? with
    | none => rw [q1] at e; cases e
    | some d1 =>
      rw [q1] at e
      cases e
      rw [eqD_V (hd d1 (mem_of_get q1)) hy]
      exact hm m d1 hmj q1⟩
end

/-! ### methods that change an own list -/
section
variable {X : Cx} {e o : Expr} {es : List Expr} {ρ ρ' : Env} {d : D} {ds ds' das : List D} {k : Kd} {x name : Str} {id : String} {p pos apos : Pos} {i : Nat} {f f0 : Fl}
/-- what a method does to the list at a -/
def Chg (X : Cx) (id : String) (ds das : List D) (d : D) (ds' : List D) : Prop :=
  ∃ r, MtR X id r ∧ ∀ O H a xs vs Q, H a = some (.lst xs) → RpL X.K O H ds xs → RpL X.K O H das vs → (∀ v xs', RpL X.K O H ds' xs' → Rp X.K O H d v → Q v (upd H a (.lst xs'))) → r (.ref a) vs H Q
theorem chg_end {K : Fr} {G : Gx} {T : List Addr} {os : List (Option Addr)} {σ : L2.St} {H : Hp} {a : Addr} {v : V} {xs' : List V} (j : I K G T os ρ σ H) (r : ρ[i]? = some (some (f, .lst ds))) (hf : f ≠ .sh) (ha : os[i]? = some (some a))
    (h1 : RpL K (Od G T os) H ds' xs') (h2 : Rp K (Od G T os) H d v) : Tm K G T os (ρ.set i (some (f, .lst ds'))) σ (upd H a (.lst xs')) .sh d v ∧ Stp os H os (upd H a (.lst xs')) := by
  have g : Gd (Od G T os) H (Od G T os) (upd H a (.lst xs')) := fun b o q n => ⟨by rw [upd_ne fun z => n (by rw [z]; exact .inr (.inr (mem_of_get ha)))]; exact q, n⟩
  obtain ⟨q1, q2⟩ := j.chg (H' := upd H a (.lst xs')) (d' := .lst ds') r hf ha (fun b o z q => by rw [upd_ne z]; exact q) ⟨xs', upd_same, h1.mono g⟩
  exact ⟨⟨q1, Rp.mono g _ _ h2⟩, q2⟩
theorem EV.chg (slot : Slot "list" name id) (hty : typeOf (.builtin id) = pure (.type "method_descriptor")) (h : Chg X id ds das d ds') (hN : X.N[i]? = some x) (hv : Vis X.env.scope x) (r0 : ρ[i]? = some (some (f0, .lst ds0))) (hf0 : f0 ≠ .sh)
    (ha : EVA X (e :: es) ρ das ρ') (r1 : ρ'[i]? = some (some (f, .lst ds))) (hf : f ≠ .sh) (hd : (x == ("__debug__" : Str)) = false := by decide) (hcd : (x == ("__classdict__" : Str)) = false := by decide)
    (hbase : attributeBase (.Name x p) name X.env (eval (.Name x p) X.env) = eval (.Name x p) X.env := by rfl)
    (hfew : ((backTo pos (starEach (e :: es) X.env)).all (fun x => !x.1) && (backToKw pos (keywordEach [] X.env)).all (fun x => x.1.isSome)
      && decide ((e :: es).length + ([] : List Keyword).length + (if ([] : List Keyword).isEmpty then 0 else 1) < 30)) = true := by rfl)
    (hline : (apos.endLine == pos.line) = true := by rfl) (hs : starEach (e :: es) X.env = (false, eval e X.env) :: starEach es X.env := by rfl) (hplain : (backTo pos (starEach es X.env)).any (·.1) = false := by rfl) :
    EV X (.Call (.Attribute (.Name x p) name apos) (e :: es) [] pos) ρ d .sh (ρ'.set i (some (f, .lst ds'))) := by
  obtain ⟨r, hr, hq⟩ := h
  refine pe_weak (pe_bm PySem.F.plainAttrs_list slot hty hr (pe_var hN hv hd hcd) ha hbase hfew hline hs hplain) fun σ H Q ⟨G, T, os, j, q⟩ => ?_
  obtain ⟨a, q1, q2, xs0, q3, q4⟩ := j.ow i f0 _ r0 hf0
  refine ⟨.ref a, q2, .inl ⟨rfl, xs0, .of q3⟩, G, T, os, j, fun vs H1 os1 j1 w1 s1 => ?_⟩
  obtain ⟨b, y1, y2, xs, y3, y4⟩ := j1.ow i f _ r1 hf
  have ea := s1.own i b y1
  rw [q1] at ea
  cases ea
  refine hq (Od G T os1) H1 a xs vs Q y3 y4 w1 fun v xs' z1 z2 => ?_
  obtain ⟨t1, t2⟩ := chg_end j1 r1 hf y1 z1 z2
  exact q v _ os1 t1 (s1.trans t2) .sh
theorem Chg.append {y : D} (h : ds.length < 1000000) : Chg X "list.append" ds [y] .non (ds ++ [y]) :=
  ⟨_, mt_append, fun O H a xs vs Q h1 h2 h3 q => by
    simp only [RpL] at h3
    obtain ⟨v, r, rfl, h3, rfl⟩ := h3
    exact ⟨a, xs, v, rfl, rfl, h1, by rw [h2.length]; exact szl h, q _ _ (h2.append (RpL.cons h3 RpL.nil)) (by simp only [Rp])⟩⟩
theorem sIx {n k : Nat} (h : k < n) : seqIndex? (k : Int) n = some k := by
  unfold seqIndex?
  have h1 : ¬ ((k : Int) < 0) := by omega
  simp only [h1, if_false]
  rw [if_pos (by simp; omega)]
  simp
theorem Chg.pop {i : Int} {y : D} {n : Nat} (hi : i = n) (h : ds[n]? = some y) (hz : ds.length ≤ 1000000) : Chg X "list.pop" ds [.int i] y (ds.eraseIdx n) :=
  ⟨_, mt_popAt, fun O H a xs vs Q h1 h2 h3 q => by
    subst hi
    simp only [RpL, Rp] at h3
    obtain ⟨v, r, rfl, rfl, rfl⟩ := h3
    obtain ⟨w, w1, w2⟩ := h2.get h
    have hn : n < ds.length := (List.getElem?_eq_some_iff.mp h).1
    exact ⟨a, xs, n, n, w, rfl, rfl, h1, by omega, by omega, sIx (by rw [h2.length]; exact hn), w1, q _ _ (h2.eraseIdx n) w2⟩⟩
end
end Pv
namespace Pv
open PySem L2 PyProof.Rows
section
variable {X : Cx} {e a b : Expr} {rest A B : List Stmt} {ρ ρ' : Env} {d : D} {ds : List D} {k : Kd} {P : Po} {pos px : Pos} {x : Str}
/-- a name by its slot -/
theorem nm (i : Nat) {f : Fl} (h : ρ[i]? = some (some (f, d))) (hN : X.N[i]? = some x := by rfl) (hv : Vis X.env.scope x := by first | exact Or.inl rfl | exact Or.inr (Or.inl rfl) | exact Or.inr (Or.inr rfl))
    (hd : (x == ("__debug__" : Str)) = false := by decide) (hcd : (x == ("__classdict__" : Str)) = false := by decide) : EK X (.Name x pos) ρ d (kdOf i f) := EK.name hN hv h hd hcd
theorem W.asg {R : Po1} (i : Nat) (hN : X.N.Nodup) (h : EP X e ρ R) (hk : ∀ d k ρ', R d k ρ' → k.free = true ∧ W X rest (ρ'.set i (slotOf k d)) P) (hi : X.N[i]? = some x := by rfl) (hx : Loc X.env.scope x := by first | exact .inl rfl | exact .inr rfl)
    (hf : X.fn x = true ∨ X.env.scope.names.lookup x = some .local := by first | exact .inl rfl | exact .inr rfl) (hs : swapsWithSole [.Name x px] e pos.line X.env = pure false := by rfl) (hw : swappedStores [.Name x px] e X.env = pure none := by rfl) : W X (.Assign [.Name x px] e pos :: rest) ρ P :=
  W.cons' (WS.asg hN hi hx h hk hf hs hw)
theorem W.asgK (i : Nat) (hN : X.N.Nodup) (h : EK X e ρ d k) (r : W X rest (ρ.set i (slotOf k d)) P) (hk : k.free = true := by rfl) (hi : X.N[i]? = some x := by rfl) (hx : Loc X.env.scope x := by first | exact .inl rfl | exact .inr rfl)
    (hf : X.fn x = true ∨ X.env.scope.names.lookup x = some .local := by first | exact .inl rfl | exact .inr rfl) (hs : swapsWithSole [.Name x px] e pos.line X.env = pure false := by rfl) (hw : swappedStores [.Name x px] e X.env = pure none := by rfl) : W X (.Assign [.Name x px] e pos :: rest) ρ P :=
  W.asg i hN (EP.q h) (fun d' k' ρ' ⟨e1, e2, e3⟩ => by subst e1 e2 e3; exact ⟨hk, r⟩) hi hx hf hs hw
theorem W.asgV (i : Nat) (hN : X.N.Nodup) (h : EV X e ρ d k ρ') (r : W X rest (ρ'.set i (slotOf k d)) P) (hk : k.free = true := by rfl) (hi : X.N[i]? = some x := by rfl) (hx : Loc X.env.scope x := by first | exact .inl rfl | exact .inr rfl)
    (hf : X.fn x = true ∨ X.env.scope.names.lookup x = some .local := by first | exact .inl rfl | exact .inr rfl) (hs : swapsWithSole [.Name x px] e pos.line X.env = pure false := by rfl) (hw : swappedStores [.Name x px] e X.env = pure none := by rfl) : W X (.Assign [.Name x px] e pos :: rest) ρ P :=
  W.asg i hN (EP.v h) (fun d' k' ρ' ⟨e1, e2, e3⟩ => by subst e1 e2 e3; exact ⟨hk, r⟩) hi hx hf hs hw
theorem W.asgLc {elt tg iter : Expr} {ifs : List Expr} {scope : Scope} {lpos : Pos} (i : Nat) (hN : X.N.Nodup) (h : LcK X elt tg iter ifs scope ρ d) (r : W X rest (ρ.set i (some (.own, d))) P) (hc : X.calm = true := by rfl) (hi : X.N[i]? = some x := by rfl) (hyl : X.env.scope.names.lookup x = some .local := by rfl)
    (hsw : swapsWith (.ListComp elt [⟨tg, iter, ifs, 0⟩] scope lpos) (some (.Name x px)) pos.line X.env = pure true := by exact sw_true rfl rfl rfl (by decide +kernel))
    (hs : ∀ x, foldedSetIterable iter X.env x = pure x := by intro _; rfl) : W X (.Assign [.Name x px] (.ListComp elt [⟨tg, iter, ifs, 0⟩] scope lpos) pos :: rest) ρ P :=
  W.cons' (WS.asgLc hc hN hi hyl hsw h.q (fun d' k' ρ' ⟨e1, e2, e3⟩ => by subst e1 e2 e3; exact ⟨rfl, r⟩) hs)
theorem W.ifS {b : Bool} (hc : ET X e ρ b) (h1 : b = true → W X A ρ { P with nx := fun ρ' => W X rest ρ' P }) (h2 : b = false → W X B ρ { P with nx := fun ρ' => W X rest ρ' P }) : W X (.If e A B pos :: rest) ρ P := W.cons' (WS.ifS hc h1 h2)
theorem W.ret {R : Po1} (h : EP X e ρ R) (k : ∀ d k ρ', R d k ρ' → P.rt d k ρ') : W X (.Return (some e) pos :: rest) ρ P := W.cons (R := fun _ => False) (WS.ret h k) fun _ h => h.elim
theorem W.retK (h : EK X e ρ d k) (r : P.rt d k ρ) : W X (.Return (some e) pos :: rest) ρ P := W.ret (EP.q h) fun d' k' ρ' ⟨e1, e2, e3⟩ => by subst e1 e2 e3; exact r
theorem W.retV (h : EV X e ρ d k ρ') (r : P.rt d k ρ') : W X (.Return (some e) pos :: rest) ρ P := W.ret (EP.v h) fun d' k' ρ' ⟨e1, e2, e3⟩ => by subst e1 e2 e3; exact r
theorem W.retO {i : Nat} (h : EK X e ρ d (.ow i)) (r : P.rt d .fr (ρ.set i none)) (ho : ρ[i]? = some (some (.own, d)) := by rfl) : W X (.Return (some e) pos :: rest) ρ P := W.cons (R := fun _ => False) (WS.retO h ho r) fun _ h => h.elim
theorem W.retN (r : P.rt .non .sh ρ) : W X (.Return none pos :: rest) ρ P := W.cons (R := fun _ => False) (WS.retN r) fun _ h => h.elim
theorem W.expr {R : Po1} (h : EP X e ρ R) (k : ∀ d k ρ', R d k ρ' → W X rest ρ' P) (hs : swapsWith e none pos.line X.env = pure false := by rfl) : W X (.Expr e pos :: rest) ρ P := W.cons' (WS.expr h k hs)
theorem W.exprV (h : EV X e ρ d k ρ') (r : W X rest ρ' P) (hs : swapsWith e none pos.line X.env = pure false := by rfl) : W X (.Expr e pos :: rest) ρ P := W.expr (EP.v h) (fun d' k' ρ1 ⟨e1, e2, e3⟩ => by subst e1 e2 e3; exact r) hs
theorem EK.neg {i : Int} (h : ER X a ρ (.int i)) : EK X (.UnaryOp .USub a pos) ρ (.int (-i)) .sh :=
  pe_weak (pe_un un_neg h) fun σ H Q ⟨G, T, os, j, q⟩ => ⟨G, T, os, j, fun v H1 i1 w1 s1 => by
    rw [intW w1]
    exact ⟨i, rfl, q _ H1 ⟨i1, by simp only [Rp]⟩ s1 .sh⟩⟩
/-! ### slices -/
def tO (K : Fr) (ρ : Env) (o : Option Int) : TO := fun σ H Q => ∃ G T os, I K G T os ρ σ H ∧ ∀ H', I K G T os ρ σ H' → Same H H' → Q o H'
def EO (X : Cx) (e : Option Expr) (ρ : Env) (o : Option Int) : Prop := PO X e (tO X.K ρ o)
theorem po_weak {e : Option Expr} {t t' : TO} (h : PO X e t) (w : ∀ σ H Q, t' σ H Q → t σ H Q) : PO X e t' := ⟨fun pins s σ H Q I q => h.run pins s σ H Q I (w σ H Q q)⟩
theorem EO.none : EO X none ρ none := po_weak po_none fun σ H Q ⟨G, T, os, j, q⟩ => q H j (Same.refl H)
theorem EO.some {i : Int} (h : ER X a ρ (.int i)) : EO X (some a) ρ (some i) := po_weak (po_some h) fun σ H Q ⟨G, T, os, j, q⟩ => ⟨G, T, os, j, fun v H1 i1 w1 s1 => ⟨i, intW w1, q H1 i1 s1⟩⟩
def Sl2 (X : Cx) (d : D) (lo hi : Option Int) (d' : D) (k : Kd) : Prop :=
  ∃ r, SlR X r ∧ ∀ O H v Q, Trk O H → Rw X.K O H d v → (∀ v' H', Outp X.K O H H' k d' v' → Q v' H') → r v lo hi H Q
theorem EK.sl {d' : D} {lo hi : Option Expr} {l h : Option Int} {p2 : Pos} (ha : ER X a ρ d) (hl : EO X lo ρ l) (hh : EO X hi ρ h) (hs : Sl2 X d l h d' k) : EK X (.Subscript a (.Slice lo hi none p2) pos) ρ d' k := by
  obtain ⟨r, hr, hq⟩ := hs
  refine pe_weak (pe_slice hr ha hl hh) fun σ H Q ⟨G, T, os, j, q⟩ => ⟨G, T, os, j, fun v H1 i1 w1 s1 => ⟨G, T, os, i1, fun H2 i2 s2 => ⟨G, T, os, i2, fun H3 i3 s3 => hq _ H3 v Q i3.tr (w1.mono (s2.trans s3) fun _ _ _ n => n) fun v' H' o => ?_⟩⟩⟩
  obtain ⟨t1, t2⟩ := o.tm i3
  exact q v' H' t1 (((s1.trans s2).trans s3).trans t2) (o.nw.back fun a h => Same.free ((s1.trans s2).trans s3) h)
def cutD (ds : List D) (lo hi : Option Int) : List D := (ds.drop (HT.sIx ds.length 0 lo)).take (HT.sIx ds.length ds.length hi - HT.sIx ds.length 0 lo)
theorem cut_rp {K : Fr} {O : Addr → Prop} {H : Hp} {xs : List V} {l h : Option Int} (r : RpL K O H ds xs) : RpL K O H (cutD ds l h) (cutV xs l h) := by
  unfold cutD cutV
  rw [r.length]
  exact (r.drop _).take _
theorem Sl2.l {l h : Option Int} : Sl2 X (.lst ds) l h (.lst (cutD ds l h)) .fr :=
  ⟨_, sl_list, fun O H v Q tk w q => by
    obtain ⟨a, xs, rfl, h1, h2⟩ := w
    exact ⟨a, xs, rfl, h1, fun p n => q _ _ (.newL n (cut_rp h2))⟩⟩
theorem Sl2.t {l h : Option Int} (hn : ¬ (HT.sIx ds.length 0 l = 0 ∧ HT.sIx ds.length ds.length h = ds.length)) : Sl2 X (.tup ds) l h (.tup (cutD ds l h)) .sh :=
  ⟨_, sl_tup, fun O H v Q tk w q => by
    obtain ⟨a, xs, rfl, h1, h2⟩ := tupW w
    exact ⟨a, xs, rfl, h1, by rw [h2.length]; exact hn, fun p n => q _ _ (.newT n (tk.new n) (cut_rp h2))⟩⟩
end
/-- names that the module does not bind -/
structure Bt (mg : Str → Option Value) : Prop where
  len : mg "len" = none
  int : mg "int" = none
  range : mg "range" = none
  max : mg "max" = none
  min : mg "min" = none
  tuple : mg "tuple" = none
  list : mg "list" = none
  isinstance : mg "isinstance" = none
  str : mg "str" = none
  bool : mg "bool" = none
end Pv
namespace Pv
open PySem L2 PyProof.Rows
theorem Op2.divW {X : Cx} {i j : Int} (h : 0 < j) (h2 : j < 2 ^ 1000) : Op2 X (binaryOp .FloorDiv) (.int i) (.int j) (.int (i / j)) .sh := rI_op op_fdivW ⟨h, by
  have h3 : j.natAbs < 2 ^ 1000 := by
    have : (j.natAbs : Int) = j := Int.natAbs_of_nonneg (Int.le_of_lt h)
    have h4 : ((j.natAbs : Nat) : Int) < ((2 ^ 1000 : Nat) : Int) := by rw [this]; exact h2
    exact Int.ofNat_lt.mp h4
  rcases Nat.eq_zero_or_pos j.natAbs with q | q
  · rw [q]; decide
  · exact Nat.lt_of_lt_of_le ((Nat.log2_lt (Nat.ne_of_gt q)).mpr h3) (by decide)⟩ fun _ _ => by simp only [Rp]
abbrev Fd (K : PySem.W.Frag) (x : Str) (st : Stmt) (f : Addr) (fd : FuncData) : Prop := FunD K x x (defArgs st) (defBody st) (defScope st) [] [] f fd
end Pv
namespace Pv
open PySem L2 PyProof PyProof.Rows

/-! ### list.count of flat things -/
def rCntF (K : PySem.W.Frag) : V → List V → Hp → VK → Prop := fun x xs H Q => ∃ (p : Addr) (ys : List V) (y : V), x = .ref p ∧ xs = [y] ∧ SqL K H p ys ∧ flatV y = true ∧ ys.all flatV = true ∧ Q (.int (ys.countP fun z => eqV z y : Nat)) H
theorem countP_eqU {y : V} : ∀ {ys : List V} {us : List Value}, Vals ys us → ys.all flatV = true → us.countP (eqU y) = ys.countP fun z => eqV z y
  | _, _, .nil, _ => rfl
  | z :: ys, u :: us, .cons r t, f => by
    rw [List.all_cons, Bool.and_eq_true] at f
    rw [List.countP_cons, List.countP_cons, countP_eqU t f.2, eqU_of r f.1]
theorem mt_countF {X : Cx} : MtR X "list.count" (rCntF X.K) := by
  intro pins s σ H x xs v us Q I rx rxs h
  obtain ⟨p, ys, y, rfl, rfl, hs, fy, fys, q⟩ := h
  cases rx
  obtain ⟨u, rfl, ru⟩ := rxs.one
  obtain ⟨its, rv, ⟨⟨cls, dd, data, sl⟩, n, ho, hc, hdn, hd⟩, hlen⟩ := I.list hs
  simp only at hc hd
  subst hc hd
  refine call_meets PySem.F.slot_list_count ⟨_, ho, rfl⟩ PySem.F.entry_list_count (PySem.F.args_list_count_2 _ _)
    (SeqAt.list_countAt p its.toArray n dd sl u (eqU y)) ⟨ho, fun u' hu' => mem_eqAt ru fy rv fys u' (by simpa using hu'), ?_⟩
  have ec : its.toArray.toList.countP (eqU y) = ys.countP fun z => eqV z y := countP_eqU rv fys
  refine ⟨.int (ys.countP fun z => eqV z y : Nat), H, I.tok _, ⟨s.toks, ?_⟩, q⟩
  show Value.int ((its.toArray.toList.countP (eqU y) : Nat) : Int) s.toks = Value.int ((ys.countP fun z => eqV z y : Nat) : Int) s.toks
  rw [ec]
theorem Mt.count {X : Cx} {ds : List D} {y : D} (hy : isS y = true) (hd : ∀ d ∈ ds, isS d = true) : Mt X "list.count" "list" (.lst ds) [y] (.int (ds.countP fun z => eqD z y : Nat)) .sh :=
  ⟨_, mt_countF, fun O H v w => by obtain ⟨a, xs, rfl, h1, h2⟩ := w; exact .inl ⟨rfl, xs, h1⟩, fun O H v vs Q tk w ws q => by
    obtain ⟨u, rfl, w1⟩ := rwL1 ws
    obtain ⟨a, xs, rfl, h1, h2⟩ := w
    rw [isS_rw hy w1]
    have e := flat_all hd h2
    subst e
    refine ⟨a, _, toV y, rfl, rfl, h1, flat_V hy, all_flat hd, ?_⟩
    have ec : (ds.map toV).countP (fun z => eqV z (toV y)) = ds.countP fun z => eqD z y := by
      rw [List.countP_map]
      exact List.countP_congr fun z hz => by simp only [Function.comp, eqD_V (hd z hz) hy]
    rw [ec]
    exact q _ H (.scal (by simp only [Rp]))⟩

/-! ### extend by any list or tuple -/
theorem list_extendW (l : Addr) (items : Array Value) (n : Nat) (b : Addr) (items2 : Array Value) (n2 : Nat) (dd2 : Option Addr) (sl2 : Array (Option Value)) (hs0 : ¬(!items.isEmpty && Builtin.List.listTooLong (items.size + items2.size)) = true) (hs1 : items.size ≤ sizeLine) (hs2 : items.size + items2.size ≤ sizeLine + 1 := by seq_fits) :
    Meets (Builtin.«list.extend» ⟨[.ref l, .ref b], []⟩) (fun _ R s => s.heap.get? l = some { cls := .type "list", dict := none, data := .seq items n, slots := #[] } ∧ s.heap.get? b = some { cls := .type "list", dict := dd2, data := .seq items2 n2, slots := sl2 } ∧ R (.ok (.ret Value.none)) { s with heap := s.heap.update l (Obj.mapSeq fun x => x ++ items2), toks := s.toks }) :=
  .of_wp fun prog w A R s h => by
    obtain ⟨hp, g, d, tk, os⟩ := s; obtain ⟨hl, hb, h⟩ := h; have f1 := AutoSeq1.idx_int; have f2 := AutoSeq1.sub_tuple_tuple; have f3 := AutoSeq1.sub_list_list; have f4 := AutoSeq1.sub_tuple_list; have f5 := AutoSeq1.sub_list_tuple;
    have hz' : (items ++ items2).size ≤ sizeLine + 1 := by rw [Array.size_append]; exact hs2
    wp_walk using (wpAny_updateSeq hl rfl (hz := hs1) (_hz' := hz')), wpAny_loadPart' hl, wpAny_loadPart' hb; exact ⟨_, rfl, h⟩
theorem list_extendT (l : Addr) (items : Array Value) (n : Nat) (b : Addr) (items2 : Array Value) (n2 : Nat) (dd2 : Option Addr) (sl2 : Array (Option Value)) (hs0 : ¬(!items.isEmpty && Builtin.List.listTooLong (items.size + items2.size)) = true) (hs1 : items.size ≤ sizeLine) (hs2 : items.size + items2.size ≤ sizeLine + 1 := by seq_fits) :
    Meets (Builtin.«list.extend» ⟨[.ref l, .ref b], []⟩) (fun _ R s => s.heap.get? l = some { cls := .type "list", dict := none, data := .seq items n, slots := #[] } ∧ s.heap.get? b = some { cls := .type "tuple", dict := dd2, data := .seq items2 n2, slots := sl2 } ∧ R (.ok (.ret Value.none)) { s with heap := s.heap.update l (Obj.mapSeq fun x => x ++ items2), toks := s.toks }) :=
  .of_wp fun prog w A R s h => by
    obtain ⟨hp, g, d, tk, os⟩ := s; obtain ⟨hl, hb, h⟩ := h; have f1 := AutoSeq1.idx_int; have f2 := AutoSeq1.sub_tuple_tuple; have f3 := AutoSeq1.sub_list_list; have f4 := AutoSeq1.sub_tuple_list; have f5 := AutoSeq1.sub_list_tuple;
    have hz' : (items ++ items2).size ≤ sizeLine + 1 := by rw [Array.size_append]; exact hs2
    wp_walk using (wpAny_updateSeq hl rfl (hz := hs1) (_hz' := hz')), wpAny_loadPart' hl, wpAny_loadPart' hb; exact ⟨_, rfl, h⟩
def rExt (K : PySem.W.Frag) : V → List V → Hp → VK → Prop := fun x vs H Q => ∃ l b xs zs, x = .ref l ∧ vs = [.ref b] ∧ H l = some (.lst xs) ∧ (SqL K H b zs ∨ SqT K H b zs) ∧ xs.length + zs.length ≤ sizeLine ∧ Q .non (upd H l (.lst (xs ++ zs)))
theorem mt_ext {X : Cx} : MtR X "list.extend" (rExt X.K) := by
  intro pins s σ H x vs v us Q I rx rv h
  obtain ⟨l, b, xs, zs, rfl, rfl, hH, hB, hz, q⟩ := h
  cases rx
  obtain ⟨u, rfl, ru⟩ := rv.one
  cases ru
  obtain ⟨z, its, n, r, hl, e⟩ := I.lstM hH
  rcases hB with hB | hB
  · obtain ⟨its2, r2, ⟨⟨cls, dd, data, sl⟩, n2, e2, hc, hdn, hd⟩, hl2⟩ := I.list hB
    simp only at hc hd
    subst hc hd
    have h2 := r2.length
    have hsz : its.toArray.size + its2.toArray.size ≤ sizeLine := by rw [List.size_toArray, List.size_toArray]; omega
    have hlong : ¬ (!its.toArray.isEmpty && Builtin.List.listTooLong (its.toArray.size + its2.toArray.size)) = true := by
      rw [notLongL hsz, Bool.and_false]
      exact Bool.false_ne_true
    refine call_meets PySem.F.slot_list_extend ⟨_, e, rfl⟩ PySem.F.entry_list_extend (PySem.F.args_list_extend_2 _ _)
      (list_extendW l its.toArray n b its2.toArray n2 dd sl hlong (by rw [List.size_toArray]; omega) (by omega)) ⟨e, e2, ?_⟩
    refine ⟨.non, _, I.lset (its' := its ++ its2) hH e (by simp) (r.append r2) ?_, rfl, q⟩
    rw [List.length_append]
    omega
  · obtain ⟨its2, r2, ⟨⟨cls, dd, data, sl⟩, e2, hc, n2, hd⟩, hl2⟩ := I.tuple hB
    simp only at hc hd
    subst hc hd
    have h2 := r2.length
    have hsz : its.toArray.size + its2.toArray.size ≤ sizeLine := by rw [List.size_toArray, List.size_toArray]; omega
    have hlong : ¬ (!its.toArray.isEmpty && Builtin.List.listTooLong (its.toArray.size + its2.toArray.size)) = true := by
      rw [notLongL hsz, Bool.and_false]
      exact Bool.false_ne_true
    refine call_meets PySem.F.slot_list_extend ⟨_, e, rfl⟩ PySem.F.entry_list_extend (PySem.F.args_list_extend_2 _ _)
      (list_extendT l its.toArray n b its2.toArray n2 dd sl hlong (by rw [List.size_toArray]; omega) (by omega)) ⟨e, e2, ?_⟩
    refine ⟨.non, _, I.lset (its' := its ++ its2) hH e (by simp) (r.append r2) ?_, rfl, q⟩
    rw [List.length_append]
    omega
theorem Chg.extend {X : Cx} {ds es : List D} {y : D} (hy : y = .lst es ∨ y = .tup es) (h : ds.length + es.length ≤ 1000000) : Chg X "list.extend" ds [y] .non (ds ++ es) :=
  ⟨_, mt_ext, fun O H a xs vs Q h1 h2 h3 q => by
    simp only [RpL] at h3
    obtain ⟨v, r, rfl, h3, rfl⟩ := h3
    have w3 : Rw X.K O H (.lst es) v ∨ Rw X.K O H (.tup es) v := by
      rcases hy with e | e
      · left; rw [← e]; exact h3.rw
      · right; rw [← e]; exact h3.rw
    obtain ⟨b, zs, rfl, h4, h5⟩ := seqW w3
    exact ⟨a, b, xs, zs, rfl, rfl, h1, h4, by rw [h2.length, h5.length]; exact sz h, q _ _ (h2.append h5) (by simp only [Rp])⟩⟩
theorem Chg.insert {X : Cx} {ds : List D} {y : D} {i : Int} (h0 : 0 ≤ i) (h1 : i < 2 ^ 63) (h : ds.length < 1000000) : Chg X "list.insert" ds [.int i, y] .non (ds.take i.toNat ++ [y] ++ ds.drop i.toNat) :=
  ⟨_, mt_insert, fun O H a xs vs Q q1 q2 q3 q => by
    simp only [RpL, Rp] at q3
    obtain ⟨v, r, rfl, rfl, u, r', rfl, q3, rfl⟩ := q3
    exact ⟨a, xs, i, u, rfl, rfl, q1, by rw [q2.length]; exact szl h, h0, h1, q _ _ (((q2.take _).append (RpL.cons q3 RpL.nil)).append (q2.drop _)) (by simp only [Rp])⟩⟩
end Pv
namespace Pv
open PySem L2 PyProof PyProof.Rows

/-! ### calls that change lists that are handed in -/
section
variable {K : Fr} {G : Gx} {T T1 : List Addr} {os os' os'' : List (Option Addr)} {ρ ρ' ρ'' : Env} {σ σ' : L2.St} {H H' H'' : Hp} {a p : Addr} {d : D} {v : V}
/-- several own containers changed in their places -/
theorem I.many (h : I K G T os ρ σ H) {as : List Addr} (hl : ρ''.length = ρ.length) (k : ∀ b o, H b = some o → b ∉ as → H' b = some o) (fr : ∀ b, H' b = none → H b = none) (ha : ∀ b ∈ as, some b ∈ os)
    (hρ : ∀ i : Nat, (ρ''[i]? = ρ[i]? ∧ ∀ b, os[i]? = some (some b) → b ∉ as) ∨ ∃ b f d d', os[i]? = some (some b) ∧ b ∈ as ∧ f ≠ .sh ∧ ρ[i]? = some (some (f, d)) ∧ ρ''[i]? = some (some (f, d')) ∧ Ow K (Od G T os) H' b d') :
    I K G T os ρ'' σ H' ∧ Stp os H os H' := by
  have g : Gd (Od G T os) H (Od G T os) H' := fun b o q n => ⟨k b o q (fun z => n (.inr (.inr (ha b z)))), n⟩
  refine ⟨⟨h.lo.trans hl.symm, h.ls.trans hl.symm, h.nT, h.nO, h.inj, fun b hb => ?_, h.ex, fun i d q => ?_, fun i f d q n => ?_, fun i b q => ?_, fun i d q => ?_, fun b q => h.h0 b (fr b q), h.f0, fun i b d q1 q2 => ?_⟩, ⟨fun b o q1 q2 => k b o q1 fun z => q2 (ha b z), fun _ _ q => q, fr⟩⟩
  · by_cases z : b ∈ as
    · obtain ⟨i, q⟩ := mem_get (ha b z)
      rcases hρ i with ⟨_, w⟩ | ⟨b', f, d, d', w1, _, _, _, _, w2⟩
      · exact absurd z (w b q)
      · rw [q] at w1; cases w1; exact w2.tr
    · obtain ⟨o, q1, q2⟩ := h.tr b hb; exact ⟨o, k b o q1 z, q2⟩
  · rcases hρ i with ⟨w, _⟩ | ⟨b', f, d1, d', _, _, w1, _, w3, _⟩
    · rw [w] at q
      obtain ⟨v, q1, q2⟩ := h.sh i d q
      exact ⟨v, q1, Rp.mono g _ _ q2⟩
    · rw [w3] at q; cases q; exact absurd rfl w1
  · rcases hρ i with ⟨w, wa⟩ | ⟨b', f', d1, d', w0, _, w1, w2, w3, w4⟩
    · rw [w] at q
      obtain ⟨b, q1, q2, q3⟩ := h.ow i f d q n
      obtain ⟨o, q4, _⟩ := q3.tr
      exact ⟨b, q1, q2, q3.mono g ((k b o q4 (wa b q1)).trans q4.symm)⟩
    · rw [w3] at q
      cases q
      obtain ⟨b, q1, q2, q3⟩ := h.ow i _ d1 w2 n
      rw [w0] at q1
      cases q1
      exact ⟨b', w0, q2, w4⟩
  · rcases hρ i with ⟨w, _⟩ | ⟨b', f, d1, d', w0, _, w1, w2, w3, _⟩
    · rw [w]; exact h.no i b q
    · exact ⟨f, d', w1, w3⟩
  · rcases hρ i with ⟨w, _⟩ | ⟨b', f, d1, d', w0, _, w1, w2, w3, _⟩
    · rw [w] at q; exact h.io i d q
    · rw [w3] at q; cases q; exact h.io i d1 w2
  · rcases hρ i with ⟨w, _⟩ | ⟨b', f, d1, d', w0, _, w1, w2, w3, _⟩
    · rw [w] at q2; exact h.g0 i b d q1 q2
    · rw [w3] at q2; cases q2; exact h.g0 i b d1 q1 w2
end
/-- an argument: a value, or the slot of a list that is handed in to be changed -/
abbrev Arg := D × Option Nat
def AL (K : Fr) (O : Addr → Prop) (os : List (Option Addr)) (ρ : Env) (H : Hp) : List Arg → List V → List Addr → Prop
  | [], vs, as => vs = [] ∧ as = []
  | (d, none) :: r, vs, as => ∃ v vs', vs = v :: vs' ∧ Rp K O H d v ∧ AL K O os ρ H r vs' as
  | (d, some i) :: r, vs, as => ∃ a f vs' as', vs = .ref a :: vs' ∧ as = a :: as' ∧ os[i]? = some (some a) ∧ f ≠ .sh ∧ ρ[i]? = some (some (f, d)) ∧ Ow K O H a d ∧ AL K O os ρ H r vs' as'
def tIO (K : Fr) (ρ : Env) (items : List Arg) : TA := fun σ H Q => ∃ G T os, I K G T os ρ σ H ∧ ∀ vs as H', I K G T os ρ σ H' → AL K (Od G T os) os ρ H' items vs as → Same H H' → Q vs H'
def EIO (X : Cx) (es : List Expr) (ρ : Env) (items : List Arg) : Prop := PA X es (tIO X.K ρ items)
theorem AL.mono {K : Fr} {O : Addr → Prop} {os : List (Option Addr)} {ρ : Env} {H H' : Hp} (e : Same H H') : ∀ {items : List Arg} {vs : List V} {as : List Addr}, AL K O os ρ H items vs as → AL K O os ρ H' items vs as
  | [], _, _, h => h
  | (d, none) :: r, _, _, ⟨v, vs', e1, h1, h2⟩ => ⟨v, vs', e1, Rp.mono (same_gd e fun _ _ _ n => n) _ _ h1, h2.mono e⟩
  | (d, some i) :: r, _, _, ⟨a, f, vs', as', e1, e2, h1, h2, h3, h4, h5⟩ => ⟨a, f, vs', as', e1, e2, h1, h2, h3, by
      obtain ⟨o, q, _⟩ := h4.tr
      exact h4.mono (same_gd e fun _ _ _ n => n) ((e _ _ q).trans q.symm), h5.mono e⟩
section
variable {X : Cx} {e : Expr} {es : List Expr} {ρ ρ' : Env} {d : D} {ds : List D} {k : Kd} {items : List Arg}
theorem EIO.nil : EIO X [] ρ [] := pa_weak pa_nil fun σ H Q ⟨G, T, os, i, q⟩ => q [] [] H i ⟨rfl, rfl⟩ (Same.refl H)
theorem EIO.cons (h : EK X e ρ d k) (hk : k.free = true) (r : EIO X es ρ items) (hs : starEach (e :: es) X.env = (false, eval e X.env) :: starEach es X.env := by rfl) : EIO X (e :: es) ρ ((d, none) :: items) :=
  pa_weak (pa_cons h r hs) fun σ H Q ⟨G, T, os, i, q⟩ => ⟨G, T, os, i, fun v H1 t1 s1 _ => ⟨G, T, os, t1.i, fun vs as H2 i2 w2 s2 => q _ as H2 i2 ⟨v, vs, rfl, Rp.mono (same_gd s2 fun _ _ _ n => n) _ _ (t1.rp hk), w2⟩ (s1.trans s2)⟩⟩
theorem EIO.io {i : Nat} (h : EK X e ρ d (.ow i)) (r : EIO X es ρ items) (hs : starEach (e :: es) X.env = (false, eval e X.env) :: starEach es X.env := by rfl) : EIO X (e :: es) ρ ((d, some i) :: items) :=
  pa_weak (pa_cons h r hs) fun σ H Q ⟨G, T, os, j, q⟩ => ⟨G, T, os, j, fun v H1 t1 s1 _ => by
    obtain ⟨t1, a, f, rfl, q1, q2, q3⟩ := t1
    refine ⟨G, T, os, t1, fun vs as H2 i2 w2 s2 => ?_⟩
    obtain ⟨b, y1, y2, y3⟩ := i2.ow i f d q3 q2
    rw [q1] at y1
    cases y1
    exact q _ (a :: as) H2 i2 ⟨a, f, vs, as, rfl, rfl, q1, q2, q3, y3, w2⟩ (s1.trans s2)⟩
end
/-- the slots after the call -/
def flAt (ρ : Env) (i : Nat) : Fl := match ρ[i]? with
  | some (some (f, _)) => f
  | _ => .own
def setIO (ρ : Env) : List Arg → List D → Env
  | [], _ => ρ
  | (_, none) :: r, outs => setIO ρ r outs
  | (_, some i) :: r, o :: outs => (setIO ρ r outs).set i (some (flAt ρ i, o))
  | (_, some i) :: r, [] => setIO ρ r []
/-- the arguments; what holds of every result, its kind and the lists handed in -/
abbrev CtIO := List D → (D → Bool → List D → Prop) → Prop
/-- the arguments in their places: those at which io says true are handed in -/
def ArgsIO (K : Fr) (O : Addr → Prop) (H : Hp) : List Bool → List D → List V → List Addr → Prop
  | [], ds, vs, as => ds = [] ∧ vs = [] ∧ as = []
  | false :: io, ds, vs, as => ∃ d ds' v vs', ds = d :: ds' ∧ vs = v :: vs' ∧ Rp K O H d v ∧ ArgsIO K O H io ds' vs' as
  | true :: io, ds, vs, as => ∃ d ds' a vs' as', ds = d :: ds' ∧ vs = .ref a :: vs' ∧ as = a :: as' ∧ Ow K O H a d ∧ ArgsIO K O H io ds' vs' as'
def OwL (K : Fr) (O : Addr → Prop) (H : Hp) : List Addr → List D → Prop
  | [], ds => ds = []
  | a :: as, ds => ∃ d ds', ds = d :: ds' ∧ Ow K O H a d ∧ OwL K O H as ds'
def OutIO (K : Fr) (O : Addr → Prop) (as : List Addr) (H H' : Hp) (outs : List D) : Bool → D → V → Prop
  | false, d, v => OwL K O H' as outs ∧ Rp K O H' d v
  | true, d, v => ∃ a, v = .ref a ∧ H a = none ∧ OwL K (fun b => O b ∨ b = a) H' as outs ∧ Ow K (fun b => O b ∨ b = a) H' a d
def spIO (K : Fr) (io : List Bool) (c : CtIO) : Sp := fun vs H Q _ => ∃ O ds as R, Trk O H ∧ ArgsIO K O H io ds vs as ∧ as.Nodup ∧ (∀ a ∈ as, O a) ∧ c ds R ∧
  ∀ v H' d f outs, R d f outs → (∀ a o, H a = some o → a ∉ as → H' a = some o) → (∀ a, H' a = none → H a = none) → OutIO K O as H H' outs f d v → Q v H'
structure DfIO (P : Program) (w : World) (K : Fr) (mg : Str → Option Value) (base : Heap) (x : Str) (ps : List Str) (io : List Bool) (n : Nat) (c : CtIO) : Prop where
  ex : ∃ f fd, mg x = some (.ref f) ∧ PySem.W.keepIn K (.ref f) = true ∧ Binds K fd ps [] ∧ FnOk P w K mg base CX0 n f fd ps (spIO K io c)
def ioOf (items : List Arg) : List Bool := items.map fun x => x.2.isSome
def ixs (items : List Arg) : List Nat := items.filterMap (·.2)
section
variable {K : Fr} {G : Gx} {T : List Addr} {os : List (Option Addr)} {ρ : Env} {σ : L2.St} {H H' : Hp} {O O' : Addr → Prop}
theorem AL.args : ∀ {items : List Arg} {vs : List V} {as : List Addr}, AL K O os ρ H items vs as → ArgsIO K O H (ioOf items) (items.map (·.1)) vs as
  | [], vs, as, ⟨e1, e2⟩ => ⟨rfl, e1, e2⟩
  | (d, none) :: r, vs, as, ⟨v, vs', e1, h1, h2⟩ => ⟨d, _, v, vs', rfl, e1, h1, h2.args⟩
  | (d, some i) :: r, vs, as, ⟨a, f, vs', as', e1, e2, h1, h2, h3, h4, h5⟩ => ⟨d, _, a, vs', as', rfl, e1, e2, h4, h5.args⟩
/-- the addresses are those of the slots -/
theorem AL.at : ∀ {items : List Arg} {vs : List V} {as : List Addr}, AL K O os ρ H items vs as → ∀ a, a ∈ as ↔ ∃ i ∈ ixs items, os[i]? = some (some a)
  | [], vs, as, ⟨e1, e2⟩ => fun a => by rw [e2]; simp [ixs]
  | (d, none) :: r, vs, as, ⟨v, vs', e1, h1, h2⟩ => fun a => by
    have := h2.at a
    simpa [ixs] using this
  | (d, some i) :: r, vs, as, ⟨b, f, vs', as', e1, e2, h1, h2, h3, h4, h5⟩ => fun a => by
    have ih := h5.at a
    rw [e2, List.mem_cons]
    constructor
    · rintro (e | e)
      · exact ⟨i, by simp [ixs], by rw [e]; exact h1⟩
      · obtain ⟨j, q1, q2⟩ := ih.mp e
        exact ⟨j, by simp only [ixs, List.filterMap_cons]; exact List.mem_cons_of_mem _ q1, q2⟩
    · rintro ⟨j, q1, q2⟩
      simp only [ixs, List.filterMap_cons, List.mem_cons] at q1
      rcases q1 with q1 | q1
      · subst q1; rw [h1] at q2; cases q2; exact .inl rfl
      · exact .inr (ih.mpr ⟨j, q1, q2⟩)
theorem AL.nodup (j : I K G T os ρ σ H') : ∀ {items : List Arg} {vs : List V} {as : List Addr}, AL K O os ρ H items vs as → (ixs items).Nodup → as.Nodup
  | [], vs, as, ⟨e1, e2⟩, _ => by rw [e2]; exact List.nodup_nil
  | (d, none) :: r, vs, as, ⟨v, vs', e1, h1, h2⟩, n => AL.nodup j h2 (by simpa [ixs] using n)
  | (d, some i) :: r, vs, as, ⟨b, f, vs', as', e1, e2, h1, h2, h3, h4, h5⟩, n => by
    have n' : (i :: ixs r).Nodup := by simpa [ixs] using n
    rw [e2]
    refine List.nodup_cons.mpr ⟨fun q => ?_, AL.nodup j h5 (List.nodup_cons.mp n').2⟩
    obtain ⟨m, q1, q2⟩ := (h5.at b).mp q
    have := j.inj m i b q2 h1
    rw [this] at q1
    exact (List.nodup_cons.mp n').1 q1
theorem setIO_len : ∀ {items : List Arg} {outs : List D}, (setIO ρ items outs).length = ρ.length
  | [], _ => rfl
  | (_, none) :: r, outs => setIO_len (items := r)
  | (_, some i) :: r, o :: outs => by
    show ((setIO ρ r outs).set i _).length = _
    rw [List.length_set]; exact setIO_len (items := r)
  | (_, some i) :: r, [] => setIO_len (items := r) (outs := [])
theorem setIO_out {n : Nat} : ∀ {items : List Arg} {outs : List D}, n ∉ ixs items → (setIO ρ items outs)[n]? = ρ[n]?
  | [], _, _ => rfl
  | (_, none) :: r, outs, h => setIO_out (items := r) (by simpa [ixs] using h)
  | (_, some i) :: r, o :: outs, h => by
    have h' : n ≠ i ∧ n ∉ ixs r := by simpa [ixs] using h
    show ((setIO ρ r outs).set i _)[n]? = _
    rw [List.getElem?_set_ne fun e => h'.1 e.symm]
    exact setIO_out (items := r) h'.2
  | (_, some i) :: r, [], h => setIO_out (items := r) (outs := []) (by
    have h' : n ≠ i ∧ n ∉ ixs r := by simpa [ixs] using h
    exact h'.2)
theorem setIO_in {n : Nat} (w : ∀ a ds, Ow K O H' a ds → Ow K O' H' a ds) : ∀ {items : List Arg} {outs : List D} {vs : List V} {as : List Addr}, AL K (fun b => O b) os ρ H items vs as → OwL K O H' as outs → (ixs items).Nodup → n ∈ ixs items →
    ∃ b f d d', os[n]? = some (some b) ∧ b ∈ as ∧ f ≠ .sh ∧ ρ[n]? = some (some (f, d)) ∧ (setIO ρ items outs)[n]? = some (some (f, d')) ∧ Ow K O' H' b d'
  | [], _, _, _, _, _, _, h => by simp [ixs] at h
  | (_, none) :: r, outs, _, _, ⟨v, vs', e1, h1, h2⟩, hw, nd, h => setIO_in w (items := r) h2 hw (by simpa [ixs] using nd) (by simpa [ixs] using h)
  | (d, some i) :: r, outs, vs, as, ⟨b, f, vs', as', e1, e2, h1, h2, h3, h4, h5⟩, hw, nd, h => by
    subst e2
    obtain ⟨o, outs', rfl, w1, w2⟩ := hw
    have nd' : (i :: ixs r).Nodup := by simpa [ixs] using nd
    have h' : n = i ∨ n ∈ ixs r := by simpa [ixs] using h
    by_cases e : n = i
    · subst e
      refine ⟨b, f, d, o, h1, List.mem_cons_self .., h2, h3, ?_, w _ _ w1⟩
      show ((setIO ρ r outs').set n (some (flAt ρ n, o)))[n]? = _
      have hn : n < (setIO ρ r outs').length := by rw [setIO_len]; exact (List.getElem?_eq_some_iff.mp h3).1
      rw [List.getElem?_set_self hn]
      unfold flAt
      rw [h3]
    · obtain ⟨b', f', d1, d', q1, q2, q3, q4, q5, q6⟩ := setIO_in w (items := r) h5 w2 (List.nodup_cons.mp nd').2 (h'.resolve_left e)
      refine ⟨b', f', d1, d', q1, List.mem_cons_of_mem _ q2, q3, q4, ?_, q6⟩
      show ((setIO ρ r outs').set i (some (flAt ρ i, o)))[n]? = _
      rw [List.getElem?_set_ne fun z => e z.symm]
      exact q5
end
theorem alm {K : Fr} {O : Addr → Prop} {os : List (Option Addr)} {ρ : Env} {H : Hp} {b : Addr} {items : List Arg} : ∀ {vs : List V} {as : List Addr}, AL K O os ρ H items vs as → H b = none → AL K (fun c => O c ∨ c = b) os ρ H items vs as := by
  induction items with
  | nil => intro vs as h _; exact h
  | cons x r ih =>
    intro vs as h nb
    have g : Gd O H (fun c => O c ∨ c = b) H := fun c o q n => ⟨q, fun z => z.elim n fun e => by rw [e, nb] at q; cases q⟩
    obtain ⟨d, o⟩ := x
    cases o with
    | none =>
      obtain ⟨v, vs', e1, h1, h2⟩ := h
      exact ⟨v, vs', e1, Rp.mono g _ _ h1, ih h2 nb⟩
    | some i =>
      obtain ⟨a, f, vs', as', e1, e2, h1, h2, h3, h4, h5⟩ := h
      exact ⟨a, f, vs', as', e1, e2, h1, h2, h3, h4.mono g rfl, ih h5 nb⟩
section
variable {X : Cx} {e : Expr} {es : List Expr} {ρ : Env} {x : Str} {ps : List Str} {n k : Nat} {c : CtIO} {p pos : Pos} {items : List Arg}
theorem EP.callIO {R : D → Bool → List D → Prop} (h : DfIO X.prog X.w X.K X.mg X.base x ps (ioOf items) n c) (hr : Room k X.A) (hk : n ≤ k) (hg : Gl X x) (ha : EIO X (e :: es) ρ items) (hc : c (items.map (·.1)) R) (hn : (ixs items).Nodup := by decide) (hdb : (x == ("__debug__" : Str)) = false := by decide)
    (he : starEach (e :: es) X.env = (false, eval e X.env) :: starEach es X.env := by rfl) (hpl : (backTo pos (starEach es X.env)).any (·.1) = false := by rfl) :
    EP X (.Call (.Name x p) (e :: es) [] pos) ρ (fun d k ρ' => ∃ f outs, R d f outs ∧ k = kdB f ∧ ρ' = setIO ρ items outs) := by
  obtain ⟨a, fd, hm, hkp, hb, F⟩ := h.ex
  refine pe_weak (pe_call F (hr.mono hk) hg hm hkp hb .nil pass0 ha hdb he hpl) fun σ H Q ⟨G, T, os, i, q⟩ => ⟨G, T, os, i, fun vs as H1 i1 w1 s1 => ?_⟩
  show spIO X.K (ioOf items) c (vs ++ []) H1 Q E0
  rw [List.append_nil]
  have hat := w1.at
  have has : ∀ b ∈ as, some b ∈ os := fun b hb => by
    obtain ⟨i, _, q⟩ := (hat b).mp hb
    exact mem_of_get q
  refine ⟨Od G T os, _, as, R, i1.tr, w1.args, w1.nodup i1 hn, fun b hb => .inr (.inr (has b hb)), hc, fun v H' d f outs r fr1 fr2 o => ?_⟩
  have wk : ∀ b ds, Ow X.K (Od G T os) H' b ds → Ow X.K (Od G T os) H' b ds := fun _ _ h => h
  have mkI : OwL X.K (Od G T os) H' as outs → I X.K G T os (setIO ρ items outs) σ H' ∧ Stp os H1 os H' := fun ow => by
    refine i1.many setIO_len fr1 fr2 has fun n => ?_
    by_cases hn' : n ∈ ixs items
    · exact .inr (setIO_in wk w1 ow hn hn')
    · refine .inl ⟨setIO_out hn', fun b hb q => ?_⟩
      obtain ⟨m, q1, q2⟩ := (hat b).mp q
      have := i1.inj m n b q2 hb
      rw [this] at q1
      exact hn' q1
  cases f with
  | false =>
    obtain ⟨ow, rp⟩ := o
    obtain ⟨j, st⟩ := mkI ow
    exact q d .sh _ v H' os ⟨false, outs, r, rfl, rfl⟩ ⟨j, rp⟩ ((Stp.of s1).trans st) .sh
  | true =>
    obtain ⟨b, rfl, nb, ow, w⟩ := o
    have nOd : ¬ Od G T os b := (show Trk _ _ from i1.tr).new nb
    have owm : ∀ {as : List Addr} {outs : List D}, OwL X.K (fun c => Od G T os c ∨ c = b) H' as outs → OwL X.K (Od G T os) H' as outs := by
      intro as
      induction as with
      | nil => intro outs h; exact h
      | cons a as ih =>
        rintro outs ⟨d, ds', e, h1, h2⟩
        exact ⟨d, ds', e, h1.mono (fun c o q n => ⟨q, fun z => n (.inl z)⟩) rfl, ih h2⟩
    obtain ⟨j, st⟩ := mkI (owm ow)
    -- everything avoids the new one, too
    have g : Gd (Od G T os) H1 (Od G (b :: T) os) H' := fun c o q n => ⟨fr1 c o q (fun z => n (.inr (.inr (has c z)))), fun z => (Od.cons.mp z).elim n fun e => by rw [e, nb] at q; cases q⟩
    have j2 : I X.K G (b :: T) os (setIO ρ items outs) σ H' := by
      refine ⟨j.lo, j.ls, List.nodup_cons.mpr ⟨fun z => nOd (.inr (.inl z)), j.nT⟩, fun c hc z => ?_, j.inj, fun c hc => ?_, fun c hc => ⟨fun z => ?_, (j.ex c hc).2⟩, fun n d' q1 => ?_, fun n f' d' q1 q2 => ?_, j.no, j.io, j.h0, fun c hc => ?_, j.g0⟩
      · rcases List.mem_cons.mp hc with e | e
        · exact nOd (by rw [← e]; exact .inr (.inr z))
        · exact j.nO c e z
      · rcases Od.cons.mp hc with e | e
        · exact j.tr c e
        · rw [e]; exact w.tr
      · rcases List.mem_cons.mp z with e | e
        · exact nOd (by rw [← e]; exact .inl hc)
        · exact (j.ex c hc).1 e
      · by_cases hn' : n ∈ ixs items
        · obtain ⟨b', f', d1, d'', y1, y2, y3, y4, y5, y6⟩ := setIO_in wk w1 (owm ow) hn hn'
          rw [y5] at q1; cases q1; exact absurd rfl y3
        · rw [setIO_out hn'] at q1
          obtain ⟨u, z1, z2⟩ := i1.sh n d' q1
          exact ⟨u, z1, Rp.mono g _ _ z2⟩
      · by_cases hn' : n ∈ ixs items
        · obtain ⟨b', f2, d1, d'', y1, y2, y3, y4, y5, y6⟩ := setIO_in (O := fun c => Od G T os c ∨ c = b) (O' := Od G (b :: T) os) (fun a ds h => h.mono (fun c o q n => ⟨q, fun z => n (Od.cons.mp z)⟩) rfl) (show AL X.K (fun c => Od G T os c ∨ c = b) os ρ H1 items vs as from alm w1 nb) ow hn hn'
          rw [y5] at q1
          cases q1
          obtain ⟨c, z1, z2, z3⟩ := i1.ow n _ d1 y4 q2
          rw [y1] at z1
          cases z1
          exact ⟨b', y1, z2, y6⟩
        · rw [setIO_out hn'] at q1
          obtain ⟨c, z1, z2, z3⟩ := i1.ow n f' d' q1 q2
          obtain ⟨o, z4, _⟩ := z3.tr
          refine ⟨c, z1, z2, z3.mono g ((fr1 c o z4 fun y => ?_).trans z4.symm)⟩
          obtain ⟨m, y1, y2⟩ := (hat c).mp y
          rw [i1.inj m n c y2 z1] at y1
          exact hn' y1
      · rcases List.mem_cons.mp hc with e | e
        · rw [e]; exact i1.h0 b nb
        · exact j.f0 c e
    exact q d .fr _ (.ref b) H' os ⟨true, outs, r, rfl, rfl⟩ ⟨b, rfl, j2, w.mono (fun c o q n => ⟨q, fun z => n (Od.cons.mp z)⟩) rfl⟩ ((Stp.of s1).trans st) fun _ c e => by cases e; exact Same.free s1 nb
end
end Pv
namespace Pv
open PySem L2 PyProof PyProof.Rows

/-! ### a def that changes lists that are handed in -/
/-- the slots and owners at the entry -/
def env0 : List Bool → List D → Env
  | b :: io, d :: ds => some (if b then .io else .sh, d) :: env0 io ds
  | _, _ => []
def own0 : List Bool → List Addr → List (Option Addr)
  | [], _ => []
  | true :: io, a :: as => some a :: own0 io as
  | true :: io, [] => none :: own0 io []
  | false :: io, as => none :: own0 io as
def rtIO (R : D → Bool → List D → Prop) (io : List Nat) : D → Kd → Env → Prop := fun d k ρ => ∃ outs, (∀ j, j < io.length → ∃ i o, io[j]? = some i ∧ outs[j]? = some o ∧ ρ[i]? = some (some (.io, o))) ∧ outs.length = io.length ∧ match k with
  | .sh => R d false outs
  | .fr => R d true outs
  | .ow _ => False
/-- the places of the lists that are handed in -/
def ioIx : Nat → List Bool → List Nat
  | _, [] => []
  | n, true :: io => n :: ioIx (n + 1) io
  | n, false :: io => ioIx (n + 1) io
section
variable {K : Fr} {O : Addr → Prop} {H H' : Hp}
theorem args_len : ∀ {io : List Bool} {ds : List D} {vs : List V} {as : List Addr}, ArgsIO K O H io ds vs as → ds.length = io.length ∧ vs.length = io.length
  | [], _, _, _, ⟨e1, e2, _⟩ => by rw [e1, e2]; exact ⟨rfl, rfl⟩
  | false :: io, _, _, _, ⟨d, ds', v, vs', e1, e2, _, h⟩ => by
    obtain ⟨h1, h2⟩ := args_len h
    rw [e1, e2, List.length_cons, List.length_cons, List.length_cons, h1, h2]; exact ⟨rfl, rfl⟩
  | true :: io, _, _, _, ⟨d, ds', a, vs', as', e1, e2, _, _, h⟩ => by
    obtain ⟨h1, h2⟩ := args_len h
    rw [e1, e2, List.length_cons, List.length_cons, List.length_cons, h1, h2]; exact ⟨rfl, rfl⟩
theorem own0_len : ∀ {io : List Bool} {as : List Addr}, (own0 io as).length = io.length
  | [], _ => rfl
  | true :: io, a :: as => congrArg Nat.succ own0_len
  | true :: io, [] => congrArg Nat.succ own0_len
  | false :: io, as => congrArg Nat.succ own0_len
theorem env0_len : ∀ {io : List Bool} {ds : List D}, ds.length = io.length → (env0 io ds).length = io.length
  | [], _, _ => rfl
  | b :: io, d :: ds, h => congrArg Nat.succ (env0_len (Nat.succ.inj h))
  | b :: io, [], h => by cases h
theorem own0_mem : ∀ {io : List Bool} {ds : List D} {vs : List V} {as : List Addr}, ArgsIO K O H io ds vs as → ∀ a, some a ∈ own0 io as ↔ a ∈ as
  | [], _, _, _, ⟨_, _, e⟩ => fun a => by rw [e]; simp [own0]
  | false :: io, _, _, _, ⟨d, ds', v, vs', e1, e2, _, h⟩ => fun a => by
    show some a ∈ none :: own0 io _ ↔ _
    rw [List.mem_cons]
    simpa using own0_mem h a
  | true :: io, _, _, _, ⟨d, ds', b, vs', as', e1, e2, e3, _, h⟩ => fun a => by
    rw [e3]
    show some a ∈ some b :: own0 io as' ↔ _
    rw [List.mem_cons, List.mem_cons, own0_mem h a]
    simp
/-- each slot at the entry -/
theorem slots0 : ∀ {io : List Bool} {ds : List D} {vs : List V} {as : List Addr}, ArgsIO K O H io ds vs as → ∀ (i : Nat) f d, (env0 io ds)[i]? = some (some (f, d)) →
    (f = .sh ∧ (own0 io as)[i]? = some none ∧ ∃ v, vs[i]? = some v ∧ Rp K O H d v) ∨ (f = .io ∧ ∃ a, (own0 io as)[i]? = some (some a) ∧ vs[i]? = some (.ref a) ∧ Ow K O H a d)
  | [], _, _, _, _, i, f, d, h => by simp [env0] at h
  | false :: io, _, _, _, ⟨d0, ds', v, vs', e1, e2, h1, h2⟩, 0, f, d, h => by
    rw [e1] at h
    have h : some (Fl.sh, d0) = some (f, d) := Option.some.inj h
    cases h
    rw [e2]
    exact .inl ⟨rfl, rfl, v, rfl, h1⟩
  | false :: io, _, _, _, ⟨d0, ds', v, vs', e1, e2, h1, h2⟩, i + 1, f, d, h => by
    rw [e1] at h
    rw [e2]
    exact slots0 h2 i f d h
  | true :: io, _, _, _, ⟨d0, ds', a, vs', as', e1, e2, e3, h1, h2⟩, 0, f, d, h => by
    rw [e1] at h
    have h : some (Fl.io, d0) = some (f, d) := Option.some.inj h
    cases h
    rw [e2, e3]
    exact .inr ⟨rfl, a, rfl, rfl, h1⟩
  | true :: io, _, _, _, ⟨d0, ds', a, vs', as', e1, e2, e3, h1, h2⟩, i + 1, f, d, h => by
    rw [e1] at h
    rw [e2, e3]
    exact slots0 h2 i f d h
theorem owners0 : ∀ {io : List Bool} {ds : List D} {vs : List V} {as : List Addr}, ArgsIO K O H io ds vs as → ∀ (i : Nat) a, (own0 io as)[i]? = some (some a) → ∃ d, (env0 io ds)[i]? = some (some (.io, d))
  | [], _, _, _, _, i, a, h => by simp [own0] at h
  | false :: io, _, _, _, ⟨d0, ds', v, vs', e1, e2, h1, h2⟩, 0, a, h => by
    have h : (none : Option Addr) = some a := Option.some.inj h
    cases h
  | false :: io, _, _, _, ⟨d0, ds', v, vs', e1, e2, h1, h2⟩, i + 1, a, h => by
    rw [e1]
    exact owners0 h2 i a h
  | true :: io, _, _, _, ⟨d0, ds', b, vs', as', e1, e2, e3, h1, h2⟩, 0, a, h => by
    rw [e1]; exact ⟨d0, rfl⟩
  | true :: io, _, _, _, ⟨d0, ds', b, vs', as', e1, e2, e3, h1, h2⟩, i + 1, a, h => by
    rw [e3] at h
    rw [e1]
    exact owners0 h2 i a h
theorem own0_inj : ∀ {io : List Bool} {ds : List D} {vs : List V} {as : List Addr}, ArgsIO K O H io ds vs as → as.Nodup → ∀ (i j : Nat) a, (own0 io as)[i]? = some (some a) → (own0 io as)[j]? = some (some a) → i = j
  | [], _, _, _, _, _, i, j, a, h, _ => by simp [own0] at h
  | false :: io, _, _, _, ⟨d0, ds', v, vs', e1, e2, h1, h2⟩, nd, i, j, a, hi, hj => by
    cases i with
    | zero => have hi : (none : Option Addr) = some a := Option.some.inj hi; cases hi
    | succ i =>
      cases j with
      | zero => have hj : (none : Option Addr) = some a := Option.some.inj hj; cases hj
      | succ j => exact congrArg Nat.succ (own0_inj h2 nd i j a hi hj)
  | true :: io, _, _, _, ⟨d0, ds', b, vs', as', e1, e2, e3, h1, h2⟩, nd, i, j, a, hi, hj => by
    rw [e3] at nd hi hj
    have nb : ∀ n, (own0 io as')[n]? ≠ some (some b) := fun n z => (List.nodup_cons.mp nd).1 ((own0_mem h2 b).mp (mem_of_get z))
    cases i with
    | zero =>
      have hi : some b = some a := Option.some.inj hi
      cases hi
      cases j with
      | zero => rfl
      | succ j => exact absurd hj (nb j)
    | succ i =>
      cases j with
      | zero =>
        have hj : some b = some a := Option.some.inj hj
        cases hj
        exact absurd hi (nb i)
      | succ j => exact congrArg Nat.succ (own0_inj h2 (List.nodup_cons.mp nd).2 i j a hi hj)
theorem append_none {α : Type} {l : List (Option α)} {n i : Nat} {x : α} (h : (l ++ List.replicate n none)[i]? = some (some x)) : l[i]? = some (some x) := by
  rcases Nat.lt_or_ge i l.length with hi | hi
  · rwa [List.getElem?_append_left hi] at h
  · rw [List.getElem?_append_right hi] at h
    have := List.eq_of_mem_replicate (mem_of_get h)
    cases this
theorem I.startIO {io : List Bool} {ds : List D} {vs : List V} {as : List Addr} (t : Trk O H) (h : ArgsIO K O H io ds vs as) (nd : as.Nodup) (ho : ∀ a ∈ as, O a) (N : List Str) (n : Nat) (hN : N.length - io.length = n) :
    I K ⟨fun b => O b ∧ b ∉ as, own0 io as, H⟩ [] (own0 io as ++ List.replicate n none) (env0 io ds ++ List.replicate n none) (L2.start N vs) H ∧ ∀ b, Od ⟨fun b => O b ∧ b ∉ as, own0 io as, H⟩ [] (own0 io as ++ List.replicate n none) b ↔ O b := by
  obtain ⟨l1, l2⟩ := args_len h
  have el := env0_len l1
  have om := own0_mem h
  have mem : ∀ b, some b ∈ own0 io as ++ List.replicate n none ↔ b ∈ as := fun b => by
    rw [List.mem_append, om b]
    constructor
    · rintro (q | q)
      · exact q
      · exact absurd q none_mem
    · exact .inl
  have od : ∀ b, Od ⟨fun b => O b ∧ b ∉ as, own0 io as, H⟩ [] (own0 io as ++ List.replicate n none) b ↔ O b := fun b => by
    constructor
    · rintro (q | q | q)
      · exact q.1
      · cases q
      · exact ho b ((mem b).mp q)
    · intro q
      by_cases z : b ∈ as
      · exact .inr (.inr ((mem b).mpr z))
      · exact .inl ⟨q, z⟩
  have g : Gd O H (Od ⟨fun b => O b ∧ b ∉ as, own0 io as, H⟩ [] (own0 io as ++ List.replicate n none)) H := fun a o q z => ⟨q, fun w => z ((od a).mp w)⟩
  have sg : ∀ (i : Nat) x, vs[i]? = some x → (L2.start N vs)[i]? = some (some x) := fun i x e => by
    unfold L2.start
    have hi := (List.getElem?_eq_some_iff.mp e).1
    rw [List.getElem?_append_left (by simpa using hi), List.getElem?_map, e]
    rfl
  have ogt : ∀ (i : Nat) b, (own0 io as ++ List.replicate n none)[i]? = some (some b) → (own0 io as)[i]? = some (some b) := fun i b e => append_none e
  have oput : ∀ (i : Nat) b, (own0 io as)[i]? = some (some b) → (own0 io as ++ List.replicate n none)[i]? = some (some b) := fun i b e => by
    rw [List.getElem?_append_left (List.getElem?_eq_some_iff.mp e).1]; exact e
  refine ⟨⟨?_, ?_, List.nodup_nil, fun a q => (nomatch q), fun i j a e1 e2 => own0_inj h nd i j a (ogt i a e1) (ogt j a e2), fun a q => t a ((od a).mp q), fun a q => ⟨fun z => (nomatch z), fun z => q.2 ((mem a).mp z)⟩, fun i d e => ?_, fun i f d e ne => ?_, fun i a e => ?_, fun i d e => ?_, fun a q => q, fun a q => (nomatch q), fun i a d e1 e2 => ?_⟩, od⟩
  · rw [List.length_append, List.length_append, own0_len, el, List.length_replicate, List.length_replicate]
  · unfold L2.start
    rw [List.length_append, List.length_append, List.length_map, List.length_replicate, List.length_replicate, el, l2]
    omega
  · rcases slots0 h i _ d (append_none e) with ⟨_, _, v, q1, q2⟩ | ⟨q, _⟩
    · exact ⟨v, sg i v q1, Rp.mono g _ _ q2⟩
    · cases q
  · rcases slots0 h i f d (append_none e) with ⟨q, _⟩ | ⟨_, a, q1, q2, q3⟩
    · exact absurd q ne
    · exact ⟨a, oput i a q1, sg i _ q2, q3.mono g rfl⟩
  · obtain ⟨d, q⟩ := owners0 h i a (ogt i a e)
    exact ⟨.io, d, by decide, by rw [List.getElem?_append_left (List.getElem?_eq_some_iff.mp q).1]; exact q⟩
  · rcases slots0 h i _ d (append_none e) with ⟨q, _⟩ | ⟨_, a, q1, q2, q3⟩
    · cases q
    · exact ⟨a, q1, oput i a q1⟩
  · obtain ⟨d', q⟩ := owners0 h i a (ogt i a e1)
    have e3 := append_none e2
    rw [q] at e3
    cases e3
/-- the lists as they stand at the exit -/
theorem owl_exit {G : Gx} {os' : List (Option Addr)} {ρ' : Env} {σ' : L2.St} {T : List Addr} (j : I K G T os' ρ' σ' H') : ∀ {io : List Bool} {as : List Addr} (m : Nat) {outs : List D}, (∀ a, a ∈ as → True) →
    (∀ (i : Nat) a, (own0 io as)[i]? = some (some a) → G.ps[m + i]? = some (some a)) → as.length = (ioIx m io).length →
    (∀ n, n < (ioIx m io).length → ∃ i o, (ioIx m io)[n]? = some i ∧ outs[n]? = some o ∧ ρ'[i]? = some (some (.io, o))) → outs.length = (ioIx m io).length → OwL K (Od G T os') H' as outs
  | [], as, m, outs, _, _, hl, _, ho => by
    have e1 : as = [] := List.length_eq_zero_iff.mp hl
    have e2 : outs = [] := List.length_eq_zero_iff.mp ho
    rw [e1, e2]; rfl
  | false :: io, as, m, outs, _, hp, hl, hr, ho => owl_exit j (io := io) (m + 1) (fun _ _ => trivial) (fun i a q => by
      have := hp (i + 1) a q
      rwa [show m + (i + 1) = m + 1 + i by omega] at this) hl hr ho
  | true :: io, [], m, outs, _, hp, hl, hr, ho => by cases hl
  | true :: io, a :: as, m, [], _, hp, hl, hr, ho => by cases ho
  | true :: io, a :: as, m, o :: outs, _, hp, hl, hr, ho => by
    obtain ⟨i, o', e1, e2, e3⟩ := hr 0 (Nat.succ_pos _)
    cases e1
    cases e2
    obtain ⟨b, q1, q2⟩ := j.io m o e3
    have q3 := hp 0 a rfl
    rw [Nat.add_zero, q1] at q3
    cases q3
    obtain ⟨c, y1, y2, y3⟩ := j.ow m .io o e3 (by decide)
    rw [q2] at y1
    cases y1
    refine ⟨o, outs, rfl, y3, owl_exit j (io := io) (m + 1) (fun _ _ => trivial) (fun i a q => by
      have := hp (i + 1) a q
      rwa [show m + (i + 1) = m + 1 + i by omega] at this) (Nat.succ.inj hl) (fun n hn => ?_) (Nat.succ.inj ho)⟩
    obtain ⟨i, o', e1, e2, e3⟩ := hr (n + 1) (Nat.succ_lt_succ hn)
    exact ⟨i, o', e1, e2, e3⟩
theorem args_as : ∀ {io : List Bool} {ds : List D} {vs : List V} {as : List Addr} (m : Nat), ArgsIO K O H io ds vs as → as.length = (ioIx m io).length
  | [], _, _, _, _, ⟨_, _, e⟩ => by rw [e]; rfl
  | false :: io, _, _, _, m, ⟨d, ds', v, vs', e1, e2, _, h⟩ => args_as (m + 1) h
  | true :: io, _, _, _, m, ⟨d, ds', a, vs', as', e1, e2, e3, _, h⟩ => by rw [e3]; exact congrArg Nat.succ (args_as (m + 1) h)
theorem OwL.mono {O' : Addr → Prop} (g : Gd O H O' H) : ∀ {as : List Addr} {outs : List D}, OwL K O H as outs → OwL K O' H as outs
  | [], _, h => h
  | _ :: _, _, ⟨d, ds', e, h1, h2⟩ => ⟨d, ds', e, h1.mono g rfl, OwL.mono g h2⟩
end
section
variable {P : Program} {w : World} {K : Fr} {mg : Str → Option Value} {base : Heap} {x qual : Str} {params : Arguments} {body : List Stmt} {scope : Scope} {f : Addr} {fd : FuncData} {N ps : List Str} {k : Nat} {c : CtIO} {io : List Bool}
theorem fnIO (F : FunD K x qual params body scope [] [] f fd) (S : FnScope N ps scope) (hio : io.length = ps.length)
    (hb : ∀ (cdv : Value) (A : Around) (outer : List PySem.Env) (s : Shared) (H : Hp) (E : XK) (ds : List D) (R : D → Bool → List D → Prop), Room k (A.deeper (envOfC qual scope s.heap.objs.size f cdv)) → c ds R →
      W (cxOf CX0 P w K mg base N qual scope f cdv A outer s H E).nox body (env0 io ds ++ List.replicate (N.length - ps.length) none) { nx := fun ρ => rtIO R (ioIx 0 io) .non .sh ρ, rt := rtIO R (ioIx 0 io) }) :
    FnOk P w K mg base CX0 (k + 1) f fd ps (spIO K io c) := by
  refine F.ok S (fun vs H Q E h => ?_) (fun cdv A outer s H vs Q E hr h => ?_)
  · obtain ⟨O, ds, as, R, t, h1, _⟩ := h
    rw [(args_len h1).2]
    exact hio
  · obtain ⟨O, ds, as, R, t, h1, nd, ho, h2, h3⟩ := h
    refine ⟨_, PSs.nox (hb cdv A outer s H E ds R hr h2), ?_⟩
    obtain ⟨i0, od⟩ := I.startIO t h1 nd ho N (N.length - ps.length) (by rw [hio])
    have om := own0_mem h1
    have ex : ∀ {d k ρ' v σ' H' os'}, rtIO R (ioIx 0 io) d k ρ' → Tm K ⟨fun b => O b ∧ b ∉ as, own0 io as, H⟩ [] os' ρ' σ' H' k d v → StS (own0 io as ++ List.replicate (N.length - ps.length) none) H os' H' → Q v H' := by
      intro d k ρ' v σ' H' os' ⟨outs, r1, r2, r3⟩ t s
      have fr1 : ∀ a o, H a = some o → a ∉ as → H' a = some o := fun a o q n => s.keep a o q fun z => by
        rcases List.mem_append.mp z with z | z
        · exact n ((om a).mp z)
        · exact none_mem z
      have ow : ∀ {T}, I K ⟨fun b => O b ∧ b ∉ as, own0 io as, H⟩ T os' ρ' σ' H' → OwL K (Od ⟨fun b => O b ∧ b ∉ as, own0 io as, H⟩ T os') H' as outs := fun j =>
        owl_exit j (io := io) 0 (fun _ _ => trivial) (fun i a q => by rw [Nat.zero_add]; exact q) (args_as 0 h1) r1 r2
      -- the handed-in ones are still the frame's own
      have oin : ∀ {T}, I K ⟨fun b => O b ∧ b ∉ as, own0 io as, H⟩ T os' ρ' σ' H' → ∀ b, O b → Od ⟨fun b => O b ∧ b ∉ as, own0 io as, H⟩ T os' b := fun {T} j b hb => by
        by_cases z : b ∈ as
        · refine .inr (.inr ?_)
          have z' := (om b).mpr z
          obtain ⟨i, q⟩ := mem_get z'
          obtain ⟨d0, q0⟩ := owners0 h1 i b q
          -- its place is one of ioIx
          have key : ∀ (io : List Bool) (as : List Addr) (m i : Nat) b, (own0 io as)[i]? = some (some b) → m + i ∈ ioIx m io := by
            intro io
            induction io with
            | nil => intro as m i b q; simp [own0] at q
            | cons c io ih =>
              intro as m i b q
              cases c with
              | false =>
                cases i with
                | zero => have q : (none : Option Addr) = some b := Option.some.inj q; cases q
                | succ i =>
                  have := ih as (m + 1) i b q
                  rwa [show m + 1 + i = m + (i + 1) by omega] at this
              | true =>
                cases i with
                | zero => exact List.mem_cons_self ..
                | succ i =>
                  cases as with
                  | nil =>
                    have := ih [] (m + 1) i b q
                    rw [show m + 1 + i = m + (i + 1) by omega] at this
                    exact List.mem_cons_of_mem _ this
                  | cons a as =>
                    have := ih as (m + 1) i b q
                    rw [show m + 1 + i = m + (i + 1) by omega] at this
                    exact List.mem_cons_of_mem _ this
          have k1 := key io as 0 i b q
          rw [Nat.zero_add] at k1
          obtain ⟨n, k2⟩ := mem_get k1
          obtain ⟨i', o, e1, e2, e3⟩ := r1 n (List.getElem?_eq_some_iff.mp k2).1
          rw [k2] at e1
          cases e1
          obtain ⟨b', y1, y2⟩ := j.io i o e3
          have y1 : (own0 io as)[i]? = some (some b') := y1
          rw [q] at y1
          cases y1
          exact mem_of_get y2
        · exact .inl ⟨hb, z⟩
      have gd : ∀ {T}, I K ⟨fun b => O b ∧ b ∉ as, own0 io as, H⟩ T os' ρ' σ' H' → Gd (Od ⟨fun b => O b ∧ b ∉ as, own0 io as, H⟩ T os') H' O H' := fun j b o q n => ⟨q, fun z => n (oin j b z)⟩
      cases k with
      | sh => exact h3 v H' d false outs r3 fr1 s.fre ⟨(ow t.1).mono (gd t.1), Rp.mono (gd t.1) _ _ t.2⟩
      | fr =>
        obtain ⟨a, rfl, t1, t2⟩ := t
        have g2 : Gd (Od ⟨fun b => O b ∧ b ∉ as, own0 io as, H⟩ [a] os') H' (fun b => O b ∨ b = a) H' := fun b o q n => ⟨q, fun z => n (z.elim (oin t1 b) fun e => by rw [e]; exact od_mem)⟩
        exact h3 (.ref a) H' d true outs r3 fr1 s.fre ⟨a, rfl, t1.f0 a (List.mem_cons_self ..), (ow t1).mono g2, t2.mono g2 rfl⟩
      | ow i => exact r3.elim
    exact ⟨_, [], _, i0, fun ρ' σ' H' os' p j s => ex (d := .non) (k := .sh) (ρ' := ρ') (v := .non) (σ' := σ') (os' := os') p ⟨j, by simp only [Rp]⟩ s, fun d k ρ' v σ' H' os' p j s => ex p j s, fun _ _ _ _ p => p.elim, fun _ _ _ _ p => p.elim⟩
end
end Pv
namespace Pv
open PySem L2 PyProof PyProof.Rows

/-! ### comprehensions whose elements change own lists -/
section
variable {K : Fr} {G : Gx} {T T1 : List Addr} {os os' os'' : List (Option Addr)} {ρ ρ' ρ'' : Env} {σ τ : L2.St} {H H' H'' : Hp} {a p : Addr} {d : D} {v : V}
theorem I.sig (h : I K G T os ρ σ H) (hl : τ.length = σ.length) (e : ∀ (i : Nat) fd, ρ[i]? = some (some fd) → τ[i]? = σ[i]?) : I K G T os ρ τ H := by
  refine ⟨h.lo, hl.trans h.ls, h.nT, h.nO, h.inj, h.tr, h.ex, fun i d r => ?_, fun i f d r n => ?_, h.no, h.io, h.h0, h.f0, h.g0⟩
  · obtain ⟨v, h1, h2⟩ := h.sh i d r; exact ⟨v, (e i _ r).trans h1, h2⟩
  · obtain ⟨a, h1, h2, h3⟩ := h.ow i f d r n; exact ⟨a, h1, (e i _ r).trans h2, h3⟩
theorem wipeE_len : ∀ {vs : List Nat}, (wipeE ρ vs).length = ρ.length
  | [] => rfl
  | v :: vs => by show ((wipeE ρ vs).set v none).length = _; rw [List.length_set]; exact wipeE_len
theorem wipeE_in : ∀ {vs : List Nat} {i : Nat} {x}, i ∈ vs → (wipeE ρ vs)[i]? ≠ some (some x)
  | v :: vs, i, x, h, e => by
    have e : ((wipeE ρ vs).set v none)[i]? = some (some x) := e
    by_cases z : v = i
    · subst z
      by_cases q : v < (wipeE ρ vs).length
      · rw [List.getElem?_set_self q] at e; cases e
      · rw [List.getElem?_eq_none (by simpa using q)] at e; cases e
    · rw [List.getElem?_set_ne z] at e
      rcases List.mem_cons.mp h with q | q
      · exact z q.symm
      · exact wipeE_in q e
theorem wipeE_out : ∀ {vs : List Nat} {i : Nat}, i ∉ vs → (wipeE ρ vs)[i]? = ρ[i]?
  | [], _, _ => rfl
  | v :: vs, i, h => by
    show ((wipeE ρ vs).set v none)[i]? = _
    rw [List.getElem?_set_ne fun e => h (by rw [e]; exact List.mem_cons_self ..)]
    exact wipeE_out fun q => h (List.mem_cons_of_mem _ q)
theorem wipe_out : ∀ {σ : L2.St} {vs : List Nat} {i : Nat}, i ∉ vs → (L2.wipe σ vs)[i]? = σ[i]?
  | _, [], _, _ => rfl
  | σ, v :: vs, i, h => by
    show ((L2.wipe σ vs).set v none)[i]? = _
    rw [List.getElem?_set_ne fun e => h (by rw [e]; exact List.mem_cons_self ..)]
    exact wipe_out fun q => h (List.mem_cons_of_mem _ q)
/-- slots that hold what anybody may hold are forgotten -/
theorem I.unput {vs : List Nat} (h : I K G T os ρ τ H) (hl : σ.length = τ.length) (e : ∀ i : Nat, i ∉ vs → σ[i]? = τ[i]?) (hs : ∀ i ∈ vs, ∀ f d, ρ[i]? = some (some (f, d)) → f = .sh) : I K G T os (wipeE ρ vs) σ H := by
  have key : ∀ (i : Nat) x, (wipeE ρ vs)[i]? = some (some x) → i ∉ vs ∧ ρ[i]? = some (some x) := fun i x q => by
    by_cases z : i ∈ vs
    · exact absurd q (wipeE_in z)
    · rw [wipeE_out z] at q; exact ⟨z, q⟩
  refine ⟨h.lo.trans wipeE_len.symm, (hl.trans h.ls).trans wipeE_len.symm, h.nT, h.nO, h.inj, h.tr, h.ex, fun i d r => ?_, fun i f d r n => ?_, fun i b q => ?_, fun i d r => h.io i d (key i _ r).2, h.h0, h.f0, fun i b d q r => h.g0 i b d q (key i _ r).2⟩
  · obtain ⟨k1, k2⟩ := key i _ r
    obtain ⟨v, h1, h2⟩ := h.sh i d k2; exact ⟨v, (e i k1).trans h1, h2⟩
  · obtain ⟨k1, k2⟩ := key i _ r
    obtain ⟨a, h1, h2, h3⟩ := h.ow i f d k2 n; exact ⟨a, h1, (e i k1).trans h2, h3⟩
  · obtain ⟨f, d, h1, h2⟩ := h.no i b q
    have z : i ∉ vs := fun z => h1 (hs i z f d h2)
    exact ⟨f, d, h1, by rw [wipeE_out z]; exact h2⟩
theorem Stp.of_sts (s : StS os H os' H') (h : ∀ (i : Nat) a, os'[i]? = some (some a) → os[i]? = some (some a)) : Stp os H os' H' := ⟨s.keep, h, s.fre⟩
end
section
variable {X : Cx} {elt tg iter : Expr} {scope : Scope} {ρ ρ1 : Env}
theorem LcV.mk {α : Type} {xs : List α} {f : α → D} {own : List (Str × Nat)} (hi : IT X tg iter ρ (xs.map f) ρ1) (ok : BlkOk X.N X.env.scope scope own) (hlen : xs.length ≤ 1000000) (J : List α → List D → Env → Prop) (h0 : J [] [] ρ1)
    (hw : ∀ pre out ρk, J pre out ρk → ∀ i ∈ own.map (·.2), ∀ x, ρk[i]? ≠ some (some x))
    (ht : ∀ pre x post out ρk, xs = pre ++ x :: post → J pre out ρk → ∃ ρ2 ws R, Blk X scope (fun X' => GB X' tg (f x) ρk ρ2 ws) ∧ (∀ i ∈ ws, i ∈ own.map (·.2)) ∧ (∀ i ∈ own.map (·.2), ∀ f d, ρ2[i]? = some (some (f, d)) → f = .sh) ∧
      Blk X scope (fun X' => EP X' elt ρ2 R) ∧ ∀ d k ρ3, R d k ρ3 → k.free = true ∧ (∀ i ∈ own.map (·.2), ∀ f d, ρ3[i]? = some (some (f, d)) → f = .sh) ∧ J (pre ++ [x]) (out ++ [d]) (wipeE ρ3 (own.map (·.2)))) :
    LcP X elt tg iter [] scope (tP X.K ρ (fun d k ρ' => k = .fr ∧ ∃ out, d = .lst out ∧ J xs out ρ')) := by
  refine ⟨own, _, fun v σ H Q => ∃ d ρ ρ' ws, Blk X scope (fun X' => GB X' tg d ρ ρ' ws) ∧ gB X.K d ρ ρ' ws v σ H Q, tYes,
    fun σ H Q => ∃ ρ R, Blk X scope (fun X' => EP X' elt ρ R) ∧ tP X.K ρ R σ H Q, hi, ok,
    fun s H1 C cl fp => ⟨fun pins s' σ H v u Q I r q => ?_⟩, fun s H1 C cl fp => pts_nil, fun s H1 C cl fp => ⟨fun pins s' σ H Q I q => ?_⟩, fun σ H Q ⟨G, T0, os0, i0, q⟩ => ⟨G, T0, os0, i0, fun J' T os H1 Sc i1 sub s1 src stab sc => fun Dl hD => ?_⟩⟩
  · obtain ⟨d, ρ, ρ', ws, q1, q2⟩ := q
    exact (q1 s H1 C cl fp).run pins s' σ H v u Q I r q2
  · obtain ⟨ρ, R, q1, q2⟩ := q
    exact (q1 s H1 C cl fp).run pins s' σ H Q I q2
  · have hl : (xs.map f).length = xs.length := List.length_map _
    let St (n : Nat) (Hk : Hp) : Prop := ∃ out ys ρk osk, J (xs.take n) out ρk ∧ I X.K G (Dl :: T) osk ρk σ Hk ∧ Stp os H1 osk Hk ∧ Sc (Od G (Dl :: T) osk) Hk ∧ Hk Dl = some (.lst ys) ∧ RpL X.K (Od G (Dl :: T) osk) Hk out ys ∧ out.length = n
    have i2 : I X.K G (Dl :: T) os ρ1 σ (upd H1 Dl (.lst [])) := i1.temp (same_new hD) hD ⟨_, upd_same, rfl⟩
    have g0 : Gd (Od G T os) H1 (Od G (Dl :: T) os) (upd H1 Dl (.lst [])) := fun a o q1 q2 => ⟨same_new hD a o q1, fun z => (Od.cons.mp z).elim q2 fun e => by rw [e, hD] at q1; cases q1⟩
    have ndl : some Dl ∉ os := fun z => by
      obtain ⟨o, q1, _⟩ := i1.tr Dl (.inr (.inr z))
      rw [hD] at q1; cases q1
    refine ⟨fun n m Hk => m = (xs.map f).length - n ∧ n ≤ (xs.map f).length ∧ St n Hk, ⟨_, rfl, Nat.zero_le _, [], [], ρ1, os, h0, i2, .of (same_new hD), stab _ _ _ _ sc g0, upd_same, RpL.nil, rfl⟩, ?_⟩
    rintro n m Hk ⟨rfl, hn, out, ys, ρk, osk, jk, ik, sk, sck, hys, rys, ol⟩
    by_cases hlt : n < (xs.map f).length
    · refine .inr ⟨src.goes n _ Hk hlt sck, St (n + 1), fun H' w => ⟨(xs.map f).length - (n + 1), by omega, rfl, hlt, w⟩, fun x Hx y => ?_⟩
      obtain ⟨e2, d, ed, rd⟩ := src.yields n _ Hk x Hx hlt ik.tr sck y
      have hlt' : n < xs.length := by rw [← hl]; exact hlt
      have ed' : d = f xs[n] := by
        rw [List.getElem?_map, List.getElem?_eq_getElem hlt'] at ed
        exact (Option.some.inj ed).symm
      subst ed'
      have tk : xs.take (n + 1) = xs.take n ++ [xs[n]] := by rw [List.take_add_one, List.getElem?_eq_getElem hlt']; rfl
      have cut : xs = xs.take n ++ xs[n] :: xs.drop (n + 1) := by
        have z := List.take_append_drop n xs
        rw [List.drop_eq_getElem_cons hlt'] at z
        exact z.symm
      obtain ⟨ρ2, ws, R, g2, gv, gs, er, k3⟩ := ht _ xs[n] _ out ρk cut jk
      have ix := ik.ext e2
      have iw : I X.K G (Dl :: T) osk ρk (L2.wipe σ (own.map (·.2))) Hx := ix.sig (wipe_length _ _) fun i fd q => wipe_out fun z => hw _ _ _ jk i z fd q
      refine ⟨f xs[n], ρk, ρ2, ws, g2, G, Dl :: T, osk, iw, rd, fun σ2 o2 j2 s2 ag => ⟨wipe_eq (by rw [ag.1, wipe_length]) (fun i hi => (ag.2 i hi).1) gv, ?_⟩⟩
      show if true = true then _ else St (n + 1) Hx
      refine iteT ⟨ρ2, R, er, G, Dl :: T, o2, j2, fun yd k ρ3 v H4 o4 r4 t4 s4 n4 => ?_⟩
      obtain ⟨kf, ks, j4⟩ := k3 yd k ρ3 r4
      -- the target gave no owner
      have own2 : ∀ (i : Nat) a, o2[i]? = some (some a) → osk[i]? = some (some a) := fun i a e => by
        by_cases z : i ∈ ws
        · obtain ⟨f', d', q1, q2⟩ := j2.no i a e
          exact absurd (gs i (gv i z) f' d' q2) q1
        · rw [(ag.2 i z).2] at e; exact e
      have sx : Stp osk Hk o2 Hx := (Stp.of e2).trans (Stp.of_sts s2 own2)
      have sy : Stp osk Hk o4 H4 := sx.trans s4
      have ndk : some Dl ∉ o4 := fun z => t4.i.nO Dl (List.mem_cons_self ..) z
      have ndk0 : some Dl ∉ osk := fun z => ik.nO Dl (List.mem_cons_self ..) z
      have d4 : H4 Dl = some (.lst ys) := sy.keep Dl _ hys ndk0
      have up4 : ∀ a o, a ≠ Dl → H4 a = some o → upd H4 Dl (.lst (ys ++ [v])) a = some o := fun a o z q => by rw [upd_ne z]; exact q
      have g4 : Gd (Od G (Dl :: T) o4) H4 (Od G (Dl :: T) o4) (upd H4 Dl (.lst (ys ++ [v]))) := fun a o q1 q2 => ⟨up4 a o (fun z => q2 (by rw [z]; exact od_mem)) q1, q2⟩
      have gk : Gd (Od G (Dl :: T) osk) Hk (Od G (Dl :: T) o4) H4 := sy.gd
      -- back to the def's own slots
      have hl2 : σ.length = σ2.length := by rw [ag.1, wipe_length]
      have es : ∀ i : Nat, i ∉ own.map (·.2) → σ[i]? = σ2[i]? := fun i z => by
        rw [(ag.2 i fun q => z (gv i q)).1, wipe_out z]
      have i5 : I X.K G (Dl :: T) o4 (wipeE ρ3 (own.map (·.2))) σ H4 := t4.i.unput hl2 es ks
      refine ⟨ys, d4, ?_, out ++ [yd], ys ++ [v], _, o4, ?_, i5.ownT (fun a o z q => up4 a o z q) ⟨_, upd_same, rfl⟩, ?_, stab _ _ _ _ (stab _ _ _ _ sck gk) g4, upd_same, ((rys.mono gk).mono g4).append (RpL.cons (Rp.mono g4 _ _ (t4.rp kf)) RpL.nil), ?_⟩
      · rw [rys.length, ol]
        exact szl (by omega)
      · rw [tk]; exact j4
      · have sz := sk.trans sy
        refine ⟨fun a o q1 q2 => up4 a o (ne_of_none q1 hD) (sz.keep a o q1 q2), sz.own, fun a q => ?_⟩
        by_cases z : a = Dl
        · rw [z, upd_same] at q; cases q
        · rw [upd_ne z] at q; exact sz.fre a q
      · rw [List.length_append, ol]; rfl
    · have en : n = (xs.map f).length := by omega
      subst en
      refine .inl ⟨src.stops _ Hk sck, q (.lst out) .fr ρk (.ref Dl) Hk osk ⟨rfl, out, rfl, ?_⟩ (Tm.sub (T := T) ⟨Dl, rfl, ik, ys, hys, rys⟩ i0.nT sub) (s1.trans sk) fun _ a e => ?_⟩
      · rw [hl, List.take_length] at jk; exact jk
      · cases e; exact s1.fre Dl hD
end
end Pv
namespace Pv
open PySem L2 PyProof PyProof.Rows

/-! ### arguments whose values are not told exactly -/
def tPA (K : Fr) (ρ : Env) (R : List D → Env → Prop) : TA := fun σ H Q => ∃ G T os, I K G T os ρ σ H ∧ ∀ ds ρ' vs H' os', R ds ρ' → I K G T os' ρ' σ H' → RpL K (Od G T os') H' ds vs → Stp os H os' H' → Q vs H'
def EPA (X : Cx) (es : List Expr) (ρ : Env) (R : List D → Env → Prop) : Prop := PA X es (tPA X.K ρ R)
theorem pa_any (X : Cx) (es : List Expr) : PA X es (fun σ H Q => ∃ ρ R, EPA X es ρ R ∧ tPA X.K ρ R σ H Q) := ⟨fun pos pins s σ H Q I ⟨ρ, R, q1, q2⟩ => q1.run pos pins s σ H Q I q2⟩
section
variable {X : Cx} {e : Expr} {es : List Expr} {ρ ρ' : Env} {d : D} {ds das : List D} {k : Kd} {x name : Str} {R1 R : Po1} {p pos apos : Pos} {ps : List Str} {n j : Nat} {c : Ct} {id T : String}
theorem EPA.nil {S : List D → Env → Prop} (h : S [] ρ) : EPA X [] ρ S := pa_weak pa_nil fun σ H Q ⟨G, T, os, i, q⟩ => q [] ρ [] H os h i RpL.nil .refl
theorem EPA.cons {S : List D → Env → Prop} (h : EP X e ρ R1) (r : ∀ d k ρ1, R1 d k ρ1 → k.free = true ∧ EPA X es ρ1 fun ds ρ' => S (d :: ds) ρ') (hs : starEach (e :: es) X.env = (false, eval e X.env) :: starEach es X.env := by rfl) : EPA X (e :: es) ρ S :=
  pa_weak (pa_cons h (pa_any X es) hs) fun σ H Q ⟨G, T, os, i, q⟩ => ⟨G, T, os, i, fun d k ρ1 v H1 o1 r1 t1 s1 _ => by
    obtain ⟨kf, er⟩ := r d k ρ1 r1
    exact ⟨ρ1, _, er, G, T, o1, t1.i, fun ds ρ' vs H2 o2 s i2 w2 s2 => q (d :: ds) ρ' (v :: vs) H2 o2 s i2 (RpL.cons (Rp.mono s2.gd _ _ (t1.rp kf)) w2) (s1.trans s2)⟩⟩
/-- an exact argument -/
theorem EPA.consK {S : List D → Env → Prop} (h : EK X e ρ d k) (kf : k.free = true) (r : EPA X es ρ fun ds ρ' => S (d :: ds) ρ') (hs : starEach (e :: es) X.env = (false, eval e X.env) :: starEach es X.env := by rfl) : EPA X (e :: es) ρ S :=
  EPA.cons (EP.q h) (fun d' k' ρ1 ⟨e1, e2, e3⟩ => by subst e1 e2 e3; exact ⟨kf, r⟩) hs
theorem EPA.mono {S S' : List D → Env → Prop} (h : EPA X es ρ S) (m : ∀ ds ρ', S ds ρ' → S' ds ρ') : EPA X es ρ S' := pa_weak h fun σ H Q ⟨G, T, os, i, q⟩ => ⟨G, T, os, i, fun ds ρ' vs H' o' s => q ds ρ' vs H' o' (m _ _ s)⟩
theorem EP.tup {x1} (h : EPA X es ρ fun ds ρ' => ds.length ≤ 1000000 ∧ R (.tup ds) .sh ρ') : EP X (.Tuple es x1 pos) ρ R :=
  pe_weak (pe_tup h) fun σ H Q ⟨G, T, os, i, q⟩ => ⟨G, T, os, i, fun ds ρ' vs H1 os' ⟨hl, r⟩ i1 w s => ⟨by rw [w.length]; exact sz hl, fun p n => by
    obtain ⟨t1, t2⟩ := (Outp.newT n ((show Trk _ _ from i1.tr).new n) w).tm i1
    exact q _ _ ρ' _ _ os' r t1 (s.trans (.of t2)) .sh⟩⟩
theorem EP.lst (h : EPA X es ρ fun ds ρ' => ds.length ≤ 1000000 ∧ R (.lst ds) .fr ρ') : EP X (.List es pos) ρ R :=
  pe_weak (pe_lst h) fun σ H Q ⟨G, T, os, i, q⟩ => ⟨G, T, os, i, fun ds ρ' vs H1 os' ⟨hl, r⟩ i1 w s => ⟨by rw [w.length]; exact sz hl, fun p n => by
    obtain ⟨t1, t2⟩ := (Outp.newL n w).tm i1
    exact q _ _ ρ' _ _ os' r t1 (s.trans (.of t2)) ((Outp.newL n w).nw.back fun a h => s.fre a h)⟩⟩
theorem cl_any {f : Value} {r : List V → Hp → VK → Prop} : CallR X f (fun vs H Q => ∃ r, CallR X f r ∧ r vs H Q) := fun pins s σ H xs us Q I rv ⟨r, h1, h2⟩ => h1 pins s σ H xs us Q I rv h2
theorem EP.callT (hg : Gl X x) (hm : X.mg x = none) (hv : bootBuiltins x = some (.type T)) (ha : EPA X (e :: es) ρ fun ds ρ' => ∃ d k, Cl X (.type T) ds d k ∧ R d k ρ') (hn : x ≠ "__name__" := by decide) (hdb : (x == ("__debug__" : Str)) = false := by decide)
    (he : starEach (e :: es) X.env = (false, eval e X.env) :: starEach es X.env := by rfl) (hpl : (backTo pos (starEach es X.env)).any (·.1) = false := by rfl) : EP X (.Call (.Name x p) (e :: es) [] pos) ρ R :=
  pe_weak (pe_callTy (cl_any (r := fun _ _ _ => True)) hg hm hv ha hn hdb he hpl) fun σ H Q ⟨G, T, os, i, q⟩ => ⟨G, T, os, i, fun ds ρ' vs H1 os' ⟨d, k, ⟨r, hr, hq⟩, rr⟩ i1 w s => ⟨r, hr, hq _ H1 vs Q i1.tr w.rwL fun v H' o => by
    obtain ⟨t1, t2⟩ := o.tm i1
    exact q d k ρ' v H' os' rr t1 (s.trans (.of t2)) (o.nw.back fun a h => s.fre a h)⟩⟩
theorem EP.callB (hg : Gl X x) (hm : X.mg x = none) (hv : bootBuiltins x = some (.builtin id)) (ha : EPA X (e :: es) ρ fun ds ρ' => ∃ d k, Cl X (.builtin id) ds d k ∧ R d k ρ') (hn : x ≠ "__name__" := by decide) (hdb : (x == ("__debug__" : Str)) = false := by decide)
    (he : starEach (e :: es) X.env = (false, eval e X.env) :: starEach es X.env := by rfl) (hpl : (backTo pos (starEach es X.env)).any (·.1) = false := by rfl) : EP X (.Call (.Name x p) (e :: es) [] pos) ρ R :=
  pe_weak (pe_callB (cl_any (r := fun _ _ _ => True)) hg hm hv ha hn hdb he hpl) fun σ H Q ⟨G, T, os, i, q⟩ => ⟨G, T, os, i, fun ds ρ' vs H1 os' ⟨d, k, ⟨r, hr, hq⟩, rr⟩ i1 w s => ⟨r, hr, hq _ H1 vs Q i1.tr w.rwL fun v H' o => by
    obtain ⟨t1, t2⟩ := o.tm i1
    exact q d k ρ' v H' os' rr t1 (s.trans (.of t2)) (o.nw.back fun a h => s.fre a h)⟩⟩
theorem EP.callD (h : Df X.prog X.w X.K X.mg X.base x ps n c) (hr : Room j X.A) (hk : n ≤ j) (hg : Gl X x) (ha : EPA X (e :: es) ρ fun ds ρ' => c ds fun d f => R d (kdB f) ρ') (hdb : (x == ("__debug__" : Str)) = false := by decide)
    (he : starEach (e :: es) X.env = (false, eval e X.env) :: starEach es X.env := by rfl) (hpl : (backTo pos (starEach es X.env)).any (·.1) = false := by rfl) : EP X (.Call (.Name x p) (e :: es) [] pos) ρ R := by
  obtain ⟨a, fd, hm, hkp, hb, F⟩ := h.ex
  refine pe_weak (pe_call F (hr.mono hk) hg hm hkp hb .nil pass0 ha hdb he hpl) fun σ H Q ⟨G, T, os, i, q⟩ => ⟨G, T, os, i, fun ds ρ' vs H1 os' hc i1 w1 s1 => ?_⟩
  show spP X.K c (vs ++ []) H1 Q E0
  rw [List.append_nil]
  refine ⟨Od G T os', ds, _, i1.tr, w1, hc, fun v H' d f r o => ?_⟩
  obtain ⟨t1, t2⟩ := o.tm i1
  exact q d (kdB f) ρ' v H' os' r t1 (s1.trans (.of t2)) (o.nw.back fun a z => s1.fre a z)
theorem EP.chg {i : Nat} {f0 : Fl} {ds0 : List D} (slot : Slot "list" name id) (hty : typeOf (.builtin id) = pure (.type "method_descriptor")) (hN : X.N[i]? = some x) (hv : Vis X.env.scope x) (r0 : ρ[i]? = some (some (f0, .lst ds0))) (hf0 : f0 ≠ .sh)
    (ha : EPA X (e :: es) ρ fun das ρ' => ∃ f ds d ds', ρ'[i]? = some (some (f, .lst ds)) ∧ f ≠ .sh ∧ Chg X id ds das d ds' ∧ R d .sh (ρ'.set i (some (f, .lst ds')))) (hd : (x == ("__debug__" : Str)) = false := by decide) (hcd : (x == ("__classdict__" : Str)) = false := by decide)
    (hbase : attributeBase (.Name x p) name X.env (eval (.Name x p) X.env) = eval (.Name x p) X.env := by rfl)
    (hfew : ((backTo pos (starEach (e :: es) X.env)).all (fun x => !x.1) && (backToKw pos (keywordEach [] X.env)).all (fun x => x.1.isSome)
      && decide ((e :: es).length + ([] : List Keyword).length + (if ([] : List Keyword).isEmpty then 0 else 1) < 30)) = true := by rfl)
    (hline : (apos.endLine == pos.line) = true := by rfl) (hs : starEach (e :: es) X.env = (false, eval e X.env) :: starEach es X.env := by rfl) (hplain : (backTo pos (starEach es X.env)).any (·.1) = false := by rfl) :
    EP X (.Call (.Attribute (.Name x p) name apos) (e :: es) [] pos) ρ R := by
  have any : MtR X id (fun v vs H Q => ∃ r, MtR X id r ∧ r v vs H Q) := fun pins s σ H x xs v us Q I r1 r2 ⟨r, h1, h2⟩ => h1 pins s σ H x xs v us Q I r1 r2 h2
  refine pe_weak (pe_bm PySem.F.plainAttrs_list slot hty any (pe_var hN hv hd hcd) ha hbase hfew hline hs hplain) fun σ H Q ⟨G, T, os, j, q⟩ => ?_
  obtain ⟨a, q1, q2, xs0, q3, q4⟩ := j.ow i f0 _ r0 hf0
  refine ⟨.ref a, q2, .inl ⟨rfl, xs0, .of q3⟩, G, T, os, j, fun das ρ' vs H1 os1 ⟨f, ds, d, ds', r1, hf, ⟨r, hr, hq⟩, rr⟩ j1 w1 s1 => ⟨r, hr, ?_⟩⟩
  obtain ⟨b, y1, y2, xs, y3, y4⟩ := j1.ow i f _ r1 hf
  have ea := s1.own i b y1
  rw [q1] at ea
  cases ea
  refine hq (Od G T os1) H1 a xs vs Q y3 y4 w1 fun v xs' z1 z2 => ?_
  obtain ⟨t1, t2⟩ := chg_end j1 r1 hf y1 z1 z2
  exact q d .sh _ v _ os1 rr t1 (s1.trans t2) .sh
theorem EP.lc {elt tg iter : Expr} {ifs : List Expr} {scope : Scope} (h : LcP X elt tg iter ifs scope (tP X.K ρ R)) (hc : X.calm = true) (hN : X.N.Nodup) (hs : ∀ x, foldedSetIterable iter X.env x = pure x := by intro _; rfl) : EP X (.ListComp elt [⟨tg, iter, ifs, 0⟩] scope pos) ρ R := h.pe hc hN hs
/-- what is known of a value may be used -/
theorem EP.bind {e2 : Expr} (h : EP X e ρ R1) (m : ∀ d k ρ', R1 d k ρ' → R d k ρ') : EP X e ρ R := h.mono m
theorem W.asgP {P : Po} {rest : List Stmt} {px : Pos} (i : Nat) (hN : X.N.Nodup) (h : EP X e ρ fun d k ρ' => k.free = true ∧ W X rest (ρ'.set i (slotOf k d)) P) (hi : X.N[i]? = some x := by rfl) (hx : Loc X.env.scope x := by first | exact .inl rfl | exact .inr rfl)
    (hf : X.fn x = true ∨ X.env.scope.names.lookup x = some .local := by first | exact .inl rfl | exact .inr rfl) (hs : swapsWithSole [.Name x px] e pos.line X.env = pure false := by rfl) (hw : swappedStores [.Name x px] e X.env = pure none := by rfl) : W X (.Assign [.Name x px] e pos :: rest) ρ P :=
  W.asg i hN h (fun _ _ _ h => h) hi hx hf hs hw
theorem W.retP {P : Po} {rest : List Stmt} (h : EP X e ρ P.rt) : W X (.Return (some e) pos :: rest) ρ P := W.ret h fun _ _ _ h => h
theorem W.exprP {P : Po} {rest : List Stmt} (h : EP X e ρ fun _ _ ρ' => W X rest ρ' P) (hs : swapsWith e none pos.line X.env = pure false := by rfl) : W X (.Expr e pos :: rest) ρ P := W.expr h (fun _ _ _ h => h) hs
end
end Pv
namespace Pv
open PySem L2 PyProof PyProof.Rows

/-! ### comparisons as tests -/
section
variable {X : Cx} {a b : Expr} {ρ : Env} {d d1 d2 : D} {k : Kd} {pos : Pos} {x : Bool}
theorem blTm {K : Fr} {G : Gx} {T : List Addr} {os : List (Option Addr)} {σ : L2.St} {H : Hp} {v : V} (t : Tm K G T os ρ σ H k (.bl x) v) : v = .bl x := by
  have w := t.rw
  simp only [Rw, Rp] at w
  exact w
theorem ET.cmp {op : CmpOp} (ha : ER X a ρ d1) (hb : ER X b ρ d2) (h : Op2 X (compareOp op) d1 d2 (.bl x) k) (hm : behindInMarks op b = false := by rfl) : ET X (.Compare a [op] [b] pos) ρ x := by
  obtain ⟨r, ho, hq⟩ := h
  refine pt_weak (pt_cmpR ho ha hb hm) fun σ H Q ⟨G, T, os, i, q⟩ => ⟨G, T, os, i, fun v1 H1 i1 w1 s1 => ⟨G, T, os, i1, fun v2 H2 i2 w2 s2 => ?_⟩⟩
  refine hq (Od G T os) H2 v1 v2 _ i2.tr (w1.mono s2 fun _ _ _ n => n) w2 fun v H' o => ?_
  obtain ⟨t1, t2⟩ := o.tm i2
  exact ⟨x, blTm t1, q H' t1.i ((s1.trans s2).trans t2)⟩
theorem ET.din {ks : List Key} {ds : List D} {y : Key} (hu : X.A.units + 1 < cLine) (ha : ER X a ρ d1) (hb : ER X b ρ (.dic ks ds)) (hk : kyD d1 = some y) (hm : behindInMarks .In b = false := by rfl) : ET X (.Compare a [.In] [b] pos) ρ (lkD ks ds y).isSome :=
  pt_weak (pt_cmp (pc_din hu ha hb) hm) fun σ H Q ⟨G, T, os, i, q⟩ => ⟨G, T, os, i, fun v1 H1 i1 w1 s1 => ⟨G, T, os, i1, fun v2 H2 i2 w2 s2 => by
    obtain ⟨p, ys, rfl, h1, h3, h2⟩ := w2
    subst h3
    refine ⟨p, valV ys y, rfl, by rw [ky_v hk w1]; exact DGet.k h1, ?_⟩
    have e : (valV ys y).isSome = (lkD (ys.map (·.1)) ds y).isSome := by
      cases z : lkD (ys.map (·.1)) ds y with
      | none => rw [(lk_get h2).2 z] <;> rfl
      | some d => obtain ⟨v, e1, _⟩ := (lk_get h2).1 d z; rw [e1]; rfl
    rw [e]
    exact ⟨_, rfl, q H2 i2 (s1.trans s2)⟩⟩⟩
theorem ET.dni {ks : List Key} {ds : List D} {y : Key} (hu : X.A.units + 1 < cLine) (ha : ER X a ρ d1) (hb : ER X b ρ (.dic ks ds)) (hk : kyD d1 = some y) (hm : behindInMarks .NotIn b = false := by rfl) : ET X (.Compare a [.NotIn] [b] pos) ρ (!(lkD ks ds y).isSome) :=
  pt_weak (pt_cmp (pc_dnotin hu ha hb) hm) fun σ H Q ⟨G, T, os, i, q⟩ => ⟨G, T, os, i, fun v1 H1 i1 w1 s1 => ⟨G, T, os, i1, fun v2 H2 i2 w2 s2 => by
    obtain ⟨p, ys, rfl, h1, h3, h2⟩ := w2
    subst h3
    refine ⟨p, valV ys y, rfl, by rw [ky_v hk w1]; exact DGet.k h1, ?_⟩
    have e : (valV ys y).isSome = (lkD (ys.map (·.1)) ds y).isSome := by
      cases z : lkD (ys.map (·.1)) ds y with
      | none => rw [(lk_get h2).2 z] <;> rfl
      | some d => obtain ⟨v, e1, _⟩ := (lk_get h2).1 d z; rw [e1]; rfl
    rw [e]
    exact ⟨_, rfl, q H2 i2 (s1.trans s2)⟩⟩⟩
end

/-! ### the same with the arguments ahead -/
section
variable {X : Cx} {e o : Expr} {es : List Expr} {ρ ρ' : Env} {d d0 : D} {ds ds0 ds' das : List D} {k : Kd} {x name : Str} {id T : String} {p pos apos : Pos} {i : Nat} {f f0 : Fl}
theorem EK.cB (ha : ERA X (e :: es) ρ ds) (h : Cl X (.builtin id) ds d k) (hg : Gl X x) (hm : X.mg x = none) (hv : bootBuiltins x = some (.builtin id)) (hn : x ≠ "__name__" := by decide) (hdb : (x == ("__debug__" : Str)) = false := by decide)
    (he : starEach (e :: es) X.env = (false, eval e X.env) :: starEach es X.env := by rfl) (hpl : (backTo pos (starEach es X.env)).any (·.1) = false := by rfl) : EK X (.Call (.Name x p) (e :: es) [] pos) ρ d k := EK.callB h hg hm hv ha hn hdb he hpl
theorem EK.cT (ha : ERA X (e :: es) ρ ds) (h : Cl X (.type T) ds d k) (hg : Gl X x) (hm : X.mg x = none) (hv : bootBuiltins x = some (.type T)) (hn : x ≠ "__name__" := by decide) (hdb : (x == ("__debug__" : Str)) = false := by decide)
    (he : starEach (e :: es) X.env = (false, eval e X.env) :: starEach es X.env := by rfl) (hpl : (backTo pos (starEach es X.env)).any (·.1) = false := by rfl) : EK X (.Call (.Name x p) (e :: es) [] pos) ρ d k := EK.callT h hg hm hv ha hn hdb he hpl
theorem EK.cm (pa : PlainAttrs T) (slot : Slot T name id) (hty : typeOf (.builtin id) = pure (.type "method_descriptor")) (ho : ER X o ρ d0) (ha : ERA X (e :: es) ρ ds) (h : Mt X id T d0 ds d k)
    (hbase : attributeBase o name X.env (eval o X.env) = eval o X.env := by rfl)
    (hfew : ((backTo pos (starEach (e :: es) X.env)).all (fun x => !x.1) && (backToKw pos (keywordEach [] X.env)).all (fun x => x.1.isSome)
      && decide ((e :: es).length + ([] : List Keyword).length + (if ([] : List Keyword).isEmpty then 0 else 1) < 30)) = true := by rfl)
    (hline : (apos.endLine == pos.line) = true := by rfl) (hs : starEach (e :: es) X.env = (false, eval e X.env) :: starEach es X.env := by rfl) (hplain : (backTo pos (starEach es X.env)).any (·.1) = false := by rfl) :
    EK X (.Call (.Attribute o name apos) (e :: es) [] pos) ρ d k := EK.mt pa slot hty h ho ha hbase hfew hline hs hplain
theorem EV.cg (i : Nat) (slot : Slot "list" name id) (hty : typeOf (.builtin id) = pure (.type "method_descriptor")) (hN : X.N[i]? = some x) (hv : Vis X.env.scope x) (r0 : ρ[i]? = some (some (f0, .lst ds0))) (hf0 : f0 ≠ .sh)
    (ha : EVA X (e :: es) ρ das ρ') (r1 : ρ'[i]? = some (some (f, .lst ds))) (h : Chg X id ds das d ds') (hf : f ≠ .sh) (hd : (x == ("__debug__" : Str)) = false := by decide) (hcd : (x == ("__classdict__" : Str)) = false := by decide)
    (hbase : attributeBase (.Name x p) name X.env (eval (.Name x p) X.env) = eval (.Name x p) X.env := by rfl)
    (hfew : ((backTo pos (starEach (e :: es) X.env)).all (fun x => !x.1) && (backToKw pos (keywordEach [] X.env)).all (fun x => x.1.isSome)
      && decide ((e :: es).length + ([] : List Keyword).length + (if ([] : List Keyword).isEmpty then 0 else 1) < 30)) = true := by rfl)
    (hline : (apos.endLine == pos.line) = true := by rfl) (hs : starEach (e :: es) X.env = (false, eval e X.env) :: starEach es X.env := by rfl) (hplain : (backTo pos (starEach es X.env)).any (·.1) = false := by rfl) :
    EV X (.Call (.Attribute (.Name x p) name apos) (e :: es) [] pos) ρ d .sh (ρ'.set i (some (f, .lst ds'))) := EV.chg slot hty h hN hv r0 hf0 ha r1 hf hd hcd hbase hfew hline hs hplain
end

theorem W.retS {X : Cx} {ρ : Env} {d : D} {x : Str} {px pos : Pos} {rest : List Stmt} {P : Po} (i : Nat) (ho : ρ[i]? = some (some (.own, d))) (r : P.rt d .fr (ρ.set i none)) (hN : X.N[i]? = some x := by rfl) (hv : Vis X.env.scope x := by first | exact Or.inl rfl | exact Or.inr (Or.inl rfl) | exact Or.inr (Or.inr rfl))
    (hd : (x == ("__debug__" : Str)) = false := by decide) (hcd : (x == ("__classdict__" : Str)) = false := by decide) : W X (.Return (some (.Name x px)) pos :: rest) ρ P := W.retO (EK.name hN hv ho hd hcd) r ho

section
variable {X : Cx} {α : Type} {xs : List α} {f : α → D}
theorem Cl.lenM : Cl X (.builtin "len") [.lst (xs.map f)] (.int xs.length) .sh := by
  have h := Cl.len (X := X) (d0 := .lst (xs.map f)) rfl
  rwa [List.length_map] at h
theorem Cl.lenMT : Cl X (.builtin "len") [.tup (xs.map f)] (.int xs.length) .sh := by
  have h := Cl.len (X := X) (d0 := .tup (xs.map f)) rfl
  rwa [List.length_map] at h
theorem map_erase {f : α → D} : ∀ {xs : List α} {n : Nat}, (xs.map f).eraseIdx n = (xs.eraseIdx n).map f
  | [], _ => by simp
  | x :: xs, 0 => rfl
  | x :: xs, n + 1 => by
    show f x :: (xs.map f).eraseIdx n = f x :: (xs.eraseIdx n).map f
    rw [map_erase]
theorem Chg.popM [Inhabited α] {i : Int} (h0 : 0 ≤ i) (h1 : i < xs.length) (hz : xs.length ≤ 1000000) : Chg X "list.pop" (xs.map f) [.int i] (f (xs.getD i.toNat default)) ((xs.eraseIdx i.toNat).map f) := by
  rw [← map_erase]
  have hl : i.toNat < xs.length := by omega
  refine Chg.pop (by omega) ?_ (by rw [List.length_map]; exact hz)
  rw [List.getElem?_map, List.getElem?_eq_getElem hl, List.getD_eq_getElem?_getD, List.getElem?_eq_getElem hl]
  rfl
instance : Inhabited Str := ⟨""⟩
end

section
variable {X : Cx} {tg : Expr} {ρ : Env} {ds : List D} {x : Str} {pos : Pos}
theorem IT.nmL (i : Nat) (h : ρ[i]? = some (some (.sh, .lst ds))) (hN : X.N[i]? = some x := by rfl) (hv : Vis X.env.scope x := by first | exact Or.inl rfl | exact Or.inr (Or.inl rfl) | exact Or.inr (Or.inr rfl))
    (hd : (x == ("__debug__" : Str)) = false := by decide) (hcd : (x == ("__classdict__" : Str)) = false := by decide) : IT X tg (.Name x pos) ρ ds ρ := IT.lstS (EK.name hN hv h hd hcd)
theorem IT.nmO (i : Nat) (h : ρ[i]? = some (some (.own, .lst ds))) (hN : X.N[i]? = some x := by rfl) (hv : Vis X.env.scope x := by first | exact Or.inl rfl | exact Or.inr (Or.inl rfl) | exact Or.inr (Or.inr rfl))
    (hd : (x == ("__debug__" : Str)) = false := by decide) (hcd : (x == ("__classdict__" : Str)) = false := by decide) : IT X tg (.Name x pos) ρ ds (ρ.set i (some (.sh, .lst ds))) := IT.lstO (EK.name hN hv h hd hcd)
end

theorem EV.escN {X : Cx} {ρ : Env} {d : D} {x : Str} {pos : Pos} (i : Nat) (h : ρ[i]? = some (some (.own, d))) (hN : X.N[i]? = some x := by rfl) (hv : Vis X.env.scope x := by first | exact Or.inl rfl | exact Or.inr (Or.inl rfl) | exact Or.inr (Or.inr rfl))
    (hd : (x == ("__debug__" : Str)) = false := by decide) (hcd : (x == ("__classdict__" : Str)) = false := by decide) : EV X (.Name x pos) ρ d .sh (ρ.set i (some (.sh, d))) := EV.esc (EK.name hN hv h hd hcd)

theorem flatR_f {d : D} (h : flatT d = true) : flatR d false = true := by cases d <;> exact h
end Pv
namespace Pv
open PySem L2 PyProof PyProof.Rows
section
variable {X : Cx} {elt tg iter : Expr} {ifs : List Expr} {scope : Scope} {ρ : Env} {d : D} {ds : List D}
theorem LcK.mkD {g : D → Option D} {own : List (Str × Nat)} (hi : IQ X tg iter ρ ds) (ok : BlkOk X.N X.env.scope scope own) (hlen : ds.length ≤ 1000000)
    (ht : ∀ x ∈ ds, Turn1 X scope tg elt ifs (own.map (·.2)) ρ x (g x)) : LcK X elt tg iter ifs scope ρ (.lst (ds.filterMap g)) :=
  LcK.mk (f := id) (by rw [List.map_id]; exact hi) ok hlen ht
theorem Sl2.t1 : Sl2 X (.tup (d :: ds)) (some 1) none (.tup ds) .sh := by
  have h := Sl2.t (X := X) (ds := d :: ds) (l := some 1) (h := none) (by
    rintro ⟨h, _⟩
    have e := HT.sIx_nat (d :: ds).length 0 1
    rw [show ((1 : Nat) : Int) = 1 from rfl] at e
    rw [e] at h
    simp only [List.length_cons] at h
    omega)
  have e := HT.sIx_nat (d :: ds).length 0 1
  rw [show ((1 : Nat) : Int) = 1 from rfl] at e
  have e2 : cutD (d :: ds) (some 1) none = ds := by
    unfold cutD
    rw [e, HT.sIx_none, show min 1 (d :: ds).length = 1 by simp only [List.length_cons]; omega]
    show ds.take (ds.length + 1 - 1) = ds
    rw [Nat.add_sub_cancel, List.take_length]
  rwa [e2] at h
theorem atI0 {α : Type} {d : α} {ds : List α} : atI (d :: ds) 0 = some d := atI_of (by omega) rfl
theorem atI1 {α : Type} {d e : α} {ds : List α} : atI (d :: e :: ds) 1 = some e := atI_of (by omega) rfl
theorem atI2 {α : Type} {d e f : α} {ds : List α} : atI (d :: e :: f :: ds) 2 = some f := atI_of (by omega) rfl
theorem Ix2.t0 : Ix2 X (.tup (d :: ds)) (.int 0) d := Ix2.t atI0
end
end Pv
namespace Pv
open PySem L2 PyProof PyProof.Rows
section
variable {X : Cx} {e : Expr} {es : List Expr} {ρ ρ' : Env} {d : D} {ds : List D} {k : Kd} {x : Str} {pos : Pos} {items : List Arg}
theorem EK.shr (h : EK X e ρ d .fr) : EK X e ρ d .sh := pe_weak h fun σ H Q ⟨G, T, os, i, q⟩ => ⟨G, T, os, i, fun v H' t s n => q v H' ⟨t.i, t.rp rfl⟩ s .sh⟩
/-- the same of a told set of values -/
theorem EP.shr {R : Po1} (h : EP X e ρ R) (hk : ∀ d k ρ', R d k ρ' → k.free = true) : EP X e ρ (fun d k ρ' => k = .sh ∧ ∃ k', R d k' ρ') :=
  pe_weak h fun σ H Q ⟨G, T, os, i, q⟩ => ⟨G, T, os, i, fun d k ρ' v H' os' r t s n => q d .sh ρ' v H' os' ⟨rfl, k, r⟩ ⟨t.i, t.rp (hk d k ρ' r)⟩ s .sh⟩
theorem EIO.ioN (i : Nat) {f : Fl} (h : ρ[i]? = some (some (f, d))) (hf : f ≠ .sh) (r : EIO X es ρ items) (hN : X.N[i]? = some x := by rfl) (hv : Vis X.env.scope x := by first | exact Or.inl rfl | exact Or.inr (Or.inl rfl) | exact Or.inr (Or.inr rfl))
    (hd : (x == ("__debug__" : Str)) = false := by decide) (hcd : (x == ("__classdict__" : Str)) = false := by decide) (hs : starEach (.Name x pos :: es) X.env = (false, eval (.Name x pos) X.env) :: starEach es X.env := by rfl) : EIO X (.Name x pos :: es) ρ ((d, some i) :: items) := by
  refine EIO.io ?_ r hs
  have h2 := EK.name (pos := pos) hN hv h hd hcd
  cases f with
  | sh => exact absurd rfl hf
  | own => exact h2
  | io => exact h2
theorem rtIO2 {R : D → Bool → List D → Prop} {i j : Nat} {o1 o2 : D} (h1 : ρ[i]? = some (some (.io, o1))) (h2 : ρ[j]? = some (some (.io, o2))) (hr : R d false [o1, o2]) : rtIO R [i, j] d .sh ρ := by
  refine ⟨[o1, o2], fun n hn => ?_, rfl, hr⟩
  match n, hn with
  | 0, _ => exact ⟨i, o1, rfl, rfl, h1⟩
  | 1, _ => exact ⟨j, o2, rfl, rfl, h2⟩
  | n + 2, h => exact absurd h (by simp)
end

theorem Chg.pop0 {X : Cx} {d : D} {ds : List D} (h : ds.length < 1000000) : Chg X "list.pop" (d :: ds) [.int 0] d ds := Chg.pop (n := 0) rfl rfl h

theorem LcV.mkJ {X : Cx} {elt tg iter : Expr} {scope : Scope} {ρ ρ1 : Env} {α : Type} {xs : List α} {f : α → D} {own : List (Str × Nat)} {J : List α → List D → Env → Prop} (hi : IT X tg iter ρ (xs.map f) ρ1) (ok : BlkOk X.N X.env.scope scope own) (hlen : xs.length ≤ 1000000) (h0 : J [] [] ρ1)
    (hw : ∀ pre out ρk, J pre out ρk → ∀ i ∈ own.map (·.2), ∀ x, ρk[i]? ≠ some (some x))
    (ht : ∀ pre x post out ρk, xs = pre ++ x :: post → J pre out ρk → ∃ ρ2 ws R, Blk X scope (fun X' => GB X' tg (f x) ρk ρ2 ws) ∧ (∀ i ∈ ws, i ∈ own.map (·.2)) ∧ (∀ i ∈ own.map (·.2), ∀ f d, ρ2[i]? = some (some (f, d)) → f = .sh) ∧
      Blk X scope (fun X' => EP X' elt ρ2 R) ∧ ∀ d k ρ3, R d k ρ3 → k.free = true ∧ (∀ i ∈ own.map (·.2), ∀ f d, ρ3[i]? = some (some (f, d)) → f = .sh) ∧ J (pre ++ [x]) (out ++ [d]) (wipeE ρ3 (own.map (·.2)))) :
    LcP X elt tg iter [] scope (tP X.K ρ (fun d k ρ' => k = .fr ∧ ∃ out, d = .lst out ∧ J xs out ρ')) := LcV.mk hi ok hlen J h0 hw ht

section
variable {X : Cx} {e : Expr} {tgs : List Expr} {rest : List Stmt} {ρ ρ' ρ1 : Env} {d : D} {k : Kd} {pos tpos : Pos} {P : Po} {ws : List Nat} {k' : Nat}
/-- a, b = e -/
theorem W.asgT (h : EK X e ρ d k) (hk : k.free = true) (g : GB X (.Tuple tgs k' tpos) d ρ ρ1 ws) (r : W X rest ρ1 P)
    (hs : swapsWithSole [.Tuple tgs k' tpos] e pos.line X.env = pure false := by rfl) (hw : swappedStores [.Tuple tgs k' tpos] e X.env = pure none := by rfl) : W X (.Assign [.Tuple tgs k' tpos] e pos :: rest) ρ P :=
  W.cons' (WS.asgT (k := 0) (EP.q h) (fun d' k'' ρ2 ⟨e1, e2, e3⟩ => by subst e1 e2 e3; exact ⟨hk, ρ1, ws, g, r⟩) hs hw)
end

section
variable {X : Cx} {e : Expr} {es : List Expr} {ρ : Env} {ds : List D} {d : D} {x : Str} {ps : List Str} {n k : Nat} {c : Ct} {p pos : Pos}
theorem EK.callS (h : Df X.prog X.w X.K X.mg X.base x ps n c) (hr : Room k X.A) (hk : n ≤ k) (hg : Gl X x) (ha : EFA X (e :: es) ρ ds) (hc : c ds (fun d' f' => d' = d ∧ f' = true)) (hdb : (x == ("__debug__" : Str)) = false := by decide)
    (he : starEach (e :: es) X.env = (false, eval e X.env) :: starEach es X.env := by rfl) (hpl : (backTo pos (starEach es X.env)).any (·.1) = false := by rfl) : EK X (.Call (.Name x p) (e :: es) [] pos) ρ d .sh := EK.shr (EK.call (f := true) h hr hk hg ha hc hdb he hpl)
end
end Pv
/-! Errors as values: made by their own __init__, asked by isinstance, read by their attributes. -/
namespace Pv
open PySem L2 PyProof.Rows

/-! ### over the hand layer -/
section
variable {X : Cx} {pins : List (Addr × Obj)} {σ : L2.St} {H : Hp} {s : Shared} {C a : Addr}
theorem run_oex {CX : CXT} {E : XK} {k : Nat} {fI : Addr} {fd : FuncData} {ps : List Str} {sp : Sp} {Q : VK} {us : List Value} {vs : List V} (T : OexC X.K C) (iC : PySem.W.findIn X.K (.ref C) "__init__" = some (some (.ref fI))) (tI : PySem.W.typeIn X.K (.ref fI) = some (.type "function"))
    (F1 : FnOk X.prog X.w X.K X.mg X.base CX k fI fd ps sp) (hr : Room (k + 1) X.A) (hb : Binds X.K fd ps []) (hx : Passes CX X E) (I : Inv X pins σ H s) (r : Vals vs us) (hz : vs.length ≤ 1000)
    (h : ∀ a, H a = none → sp (.ref a :: vs) (upd H a (exo a C none)) (fun v H2 => v = .non ∧ Q (.ref a) H2) E) : wpAny (model X.prog X.w) X.A (call (.ref C) us) (L2.EP X pins σ Q) X.xe s := by
  obtain ⟨nm, q, N, bs, bm, sn, sub, ab, col, dd, k0, k1, k2, k3, k5, hC, hbm⟩ := T.cls
  obtain ⟨hp, g, dr, tk, os⟩ := s
  have hsz : hp.objs.size ≤ hp.objs.size + 1 := Nat.le_succ _
  have hn : H (hp.objs.size + 1) = none := I.hok.fresh hsz
  have hq := h (hp.objs.size + 1) hn
  have kk : ∀ b o, hp.get? b = some o → ((hp.push (PySem.W.kdv_tup us)).push (PySem.HandSPX.excO C hp.objs.size)).get? b = some o := fun b o e => Heap.get?_push_of_some _ (Heap.get?_push_of_some _ e)
  have hget : ((hp.push (PySem.W.kdv_tup us)).push (PySem.HandSPX.excO C hp.objs.size)).get? (hp.objs.size + 1) = some (PySem.HandSPX.excO C hp.objs.size) := by heap_get
  have I2 : Inv X pins σ (upd H (hp.objs.size + 1) (exo (hp.objs.size + 1) C none)) ⟨(hp.push (PySem.W.kdv_tup us)).push (PySem.HandSPX.excO C hp.objs.size), g, dr, tk, os⟩ :=
    I.laid (t' := tk) (a := hp.objs.size + 1) (o := exo (hp.objs.size + 1) C none) (h' := (hp.push (PySem.W.kdv_tup us)).push (PySem.HandSPX.excO C hp.objs.size)) kk hsz (exo_ok hget)
  have r2 : Vals (V.ref (hp.objs.size + 1) :: vs) (Value.ref (hp.objs.size + 1) :: (us ++ [])) := .cons rfl (by rw [List.append_nil]; exact r)
  have hl : (Value.ref (hp.objs.size + 1) :: us ++ []).length = ps.length := by
    have e := r2.length
    rw [F1.len _ _ _ _ hq] at e
    exact e.symm
  have hus : us.length ≤ sizeLine := by
    rw [← Paired.length r, sizeLine_eq]
    omega
  refine wpAny_call (PySem.HandSPX.call_own F.excBase_ValueError (fun Y => PySem.HandSPX.refsVE_contains Y bm hbm) (I.kIn _ _ hC) (PySem.W.looks_findIn I.kIn iC) (fun self => PySem.W.bind_fn I.kIn self tI) hus
    (codeAny_mono (F1.run _ X.stack _ _ ⟨Value.ref (hp.objs.size + 1) :: us, []⟩ (Value.ref (hp.objs.size + 1) :: (us ++ [])) _ _ E (hr.make C us []) (I2.env0.make C us []) (by have q := hb _ (Value.ref (hp.objs.size + 1) :: us) I2.kIn hl; rw [List.cons_append] at q; exact q) r2 hq) fun r s' hq' => ?_))
  cases r with
  | error er => exact hx pins σ _ _ er s' I2 hq'
  | ok fl =>
    cases fl with
    | ret u =>
      obtain ⟨v, H', I3, rv, ev, q3⟩ := I2.after hq'
      subst ev
      exact ⟨rv, ⟨V.ref (hp.objs.size + 1), H', I3, rfl, q3⟩⟩
    | next => exact False.elim hq'
    | brk => exact False.elim hq'
    | cont => exact False.elim hq'
def tMkX (C : Addr) (sp : Sp) (E : XK) (ta : TA) : TE := fun σ H Q => ta σ H fun vs H1 => vs.length ≤ 1000 ∧ ∀ a, H1 a = none → sp (.ref a :: vs) (upd H1 a (exo a C none)) (fun v H2 => v = .non ∧ Q (.ref a) H2) E
theorem pe_oex {CX : CXT} {E : XK} {k : Nat} {fI : Addr} {fd : FuncData} {ps : List Str} {sp : Sp} {x : Str} {e : Expr} {es : List Expr} {ta : TA} {p pos : Pos} (T : OexC X.K C) (iC : PySem.W.findIn X.K (.ref C) "__init__" = some (some (.ref fI))) (tI : PySem.W.typeIn X.K (.ref fI) = some (.type "function"))
    (F1 : FnOk X.prog X.w X.K X.mg X.base CX k fI fd ps sp) (hr : Room (k + 1) X.A) (hb : Binds X.K fd ps []) (hx : Passes CX X E) (hg : Gl X x) (hm : X.mg x = some (.ref C)) (ha : PA X (e :: es) ta)
    (hdb : (x == ("__debug__" : Str)) = false := by decide) (he : starEach (e :: es) X.env = (false, eval e X.env) :: starEach es X.env := by rfl) (hpl : (backTo pos (starEach es X.env)).any (·.1) = false := by rfl) :
    PE X (.Call (.Name x p) (e :: es) [] pos) (tMkX C sp E ta) := by
  refine ⟨fun pins s σ H Q I h => ?_⟩
  refine wpAny_Call_Name_kw (ld_glob I hg hm ?_ hdb)
  refine PySem.W.callWith_K (h₀ := X.base) I.ok.mod.kin T.kC (thn (ha.run pos pins s σ H _ I h) fun us s1 ⟨vs, H1, I1, r, hz, q⟩ => ⟨I1.kIn, ?_⟩) he hpl
  exact run_oex T iC tI F1 hr hb hx I1 r hz q
theorem pe_oex0 {CX : CXT} {E : XK} {k : Nat} {fI : Addr} {fd : FuncData} {ps : List Str} {sp : Sp} {x : Str} {p pos : Pos} (T : OexC X.K C) (iC : PySem.W.findIn X.K (.ref C) "__init__" = some (some (.ref fI))) (tI : PySem.W.typeIn X.K (.ref fI) = some (.type "function"))
    (F1 : FnOk X.prog X.w X.K X.mg X.base CX k fI fd ps sp) (hr : Room (k + 1) X.A) (hb : Binds X.K fd ps []) (hx : Passes CX X E) (hg : Gl X x) (hm : X.mg x = some (.ref C))
    (hdb : (x == ("__debug__" : Str)) = false := by decide) :
    PE X (.Call (.Name x p) [] [] pos) (tMkX C sp E tNil) := by
  refine ⟨fun pins s σ H Q I h => ?_⟩
  refine wpAny_Call_Name_kw (ld_glob I hg hm ?_ hdb)
  exact PySem.W.callWith_K0 I.kIn T.kC (run_oex (us := []) T iC tI F1 hr hb hx I .nil h.1 h.2)
def HasD (H : Hp) (od : Option Addr) : Prop := od = none ∨ ∃ dx fs, od = some dx ∧ H dx = some (exd dx fs)
theorem inst_exo {od : Option Addr} (I : Inv X pins σ H s) (e : H a = some (exo a C od)) (x : HasD H od) :
    ∃ (t1 : Addr) (ob : Option Obj), PySem.W.InstAt s.heap a { cls := .ref C, dict := od, data := .fields #[.ref t1, .none, .none, .none, .bool false, .none] } C ob := by
  obtain ⟨t1, ho⟩ := exo_at I.hok e
  rcases x with rfl | ⟨dx, fs, rfl, ed⟩
  · exact ⟨t1, none, ho, rfl, rfl, trivial⟩
  · obtain ⟨mA, hns, rel⟩ := exd_at I.hok ed
    obtain ⟨oD, hoD, _⟩ := lookIn_ns hns
    exact ⟨t1, some oD, ho, rfl, rfl, hoD⟩
def rIsX (K : Fr) : List V → Hp → VK → Prop := fun xs H Q => ∃ (a C : Addr) (od : Option Addr) (c : V) (cv : Value) (b : Bool), xs = [.ref a, c] ∧ H a = some (exo a C od) ∧ HasD H od ∧ ExcC K C ∧ ClsV c cv ∧ PySem.W.kitOne K (.ref C) cv = some b ∧ Q (.bl b) H
theorem call_isX : CallR X (.builtin "isinstance") (rIsX X.K) := by
  intro pins s σ H xs us Q I r h
  obtain ⟨a, C, od, c, cv, b, rfl, e, x, hC, hcv, hk, q⟩ := h
  obtain ⟨u1, u2, rfl, r1, r2⟩ := vals2 r
  cases (show u1 = Value.ref a from r1)
  have ec := hcv.eq r2
  subst ec
  obtain ⟨t1, ob, J⟩ := inst_exo I e x
  have hcl : (PySem.W.clsIn X.K C).isSome = true := by
    obtain ⟨cd, hc, _⟩ := PySem.W.any_some hC.hd
    rw [hc]; rfl
  exact PySem.W.kia_one (PySem.W.kitx_exc hcl hC.hg hC.hk hC.hs hC.ha hC.hn hC.ht hC.hm) I.kIn J hk (fun z => nomatch z) fun tk => ⟨.bl b, H, I.tok tk, rfl, q⟩
def tXf (K : Fr) (f : Str) (te : TE) : TE := fun σ H Q => te σ H fun x H1 => ∃ a C dx fs v, x = .ref a ∧ H1 a = some (exo a C (some dx)) ∧ H1 dx = some (exd dx fs) ∧ ExcC K C ∧ PySem.W.findIn K (.ref C) f = some none ∧ fs.lookup f = some v ∧ Q v H1
theorem pe_xf {e : Expr} {te : TE} {f : Str} {pos : Pos} (he : PE X e te) (hb : attributeBase e f X.env (eval e X.env) = eval e X.env) : PE X (.Attribute e f pos) (tXf X.K f te) := by
  refine ⟨fun pins s σ H Q I h => ?_⟩
  refine attr_of hb (thn (he.run pins s σ H _ I h) fun u s1 hh => ?_)
  obtain ⟨x, H1, I1, rx, a, C, dx, fs, v, rfl, ea, ed, hC, no, l, q⟩ := hh
  obtain rfl : u = Value.ref a := rx
  obtain ⟨t1, ho⟩ := exo_at I1.hok ea
  obtain ⟨mA, hns, rel⟩ := exd_at I1.hok ed
  obtain ⟨od, hod, hl⟩ := lookIn_ns hns
  obtain ⟨u, hu, ru⟩ := RelO.some_of (v := v) (o := mA f) (by rw [← l]; exact rel f)
  have J : PySem.W.InstAt s1.heap a { cls := .ref C, dict := some dx, data := .fields #[.ref t1, .none, .none, .none, .bool false, .none] } C (some od) := ⟨ho, rfl, rfl, hod⟩
  exact HandSPX.exc_get I1.kIn J hC.hg hC.hk hC.hs (PySem.W.findObj_own hC.hd no rfl (by rw [hl, hu])) (handed_of ru) ⟨v, H1, I1.tok _, ru, q⟩
end

/-! ### in trees -/
def kitBs (a : String) : List String → Option Bool
  | [] => some false
  | n :: ns => match kitB a n with
    | some true => some true
    | some false => kitBs a ns
    | none => none
/-- scalars and tuples of them -/
def inT : D → Bool
  | .tup ds => ds.all isS && decide (ds.length ≤ 1000)
  | d => isS d
theorem inT_flat {d : D} (h : inT d = true) : flatT d = true := by
  cases d <;> simp only [inT, isS, Bool.false_eq_true] at h <;> try rfl
  case tup ds =>
    simp only [flatT]
    refine flatTs_all fun d hd => ?_
    have := List.all_eq_true.mp (Bool.and_eq_true_iff.mp h).1 d hd
    cases d <;> simp only [isS, Bool.false_eq_true] at this <;> rfl
theorem inT_flats {ds : List D} (h : ds.all inT = true) : flatTs ds = true := flatTs_all fun d hd => inT_flat (List.all_eq_true.mp h d hd)
section
variable {K : Fr} {O O' : Addr → Prop} {H H' : Hp} {C a : Addr}
/-- what is flat stays where only errors change -/
theorem Rp.but {d : D} {v : V} (hd : inT d = true) (e : H a = some (exo a C none)) (k : ∀ b o, b ≠ a → H b = some o → H' b = some o) (h : Rp K O H d v) : Rp K O H' d v := by
  have sc : ∀ (d : D) (v : V), isS d = true → Rp K O H d v → Rp K O H' d v := fun d v hs h => by
    cases d <;> simp only [isS, Bool.false_eq_true] at hs <;> simpa only [Rp] using h
  cases d <;> try exact sc _ _ hd h
  case tup ds =>
    simp only [Rp] at h ⊢
    obtain ⟨b, xs, e1, h1, h2⟩ := h
    refine ⟨b, xs, e1, h1.imp (fun z => ⟨?_, z.2⟩) id, ?_⟩
    · rcases z.1 with y | ⟨o, y⟩
      · exact .inl (k _ _ (fun q => by rw [q, e] at y; exact exo_tup (Option.some.inj y)) y)
      · exact .inr ⟨o, k _ _ (fun q => by rw [q, e] at y; exact exo_frz (Option.some.inj y)) y⟩
    · have : ∀ (ds : List D) (xs : List V), ds.all isS = true → RpL K O H ds xs → RpL K O H' ds xs := by
        intro ds
        induction ds with
        | nil => intro xs _ h; simpa only [RpL] using h
        | cons d ds ih =>
          intro xs hs h
          simp only [RpL] at h ⊢
          simp only [List.all_cons, Bool.and_eq_true] at hs
          obtain ⟨x, r, e, q1, q2⟩ := h
          exact ⟨x, r, e, sc d x hs.1 q1, ih r hs.2 q2⟩
      exact this ds xs (Bool.and_eq_true_iff.mp hd).1 h2
theorem RpL.but : ∀ {ds : List D} {xs : List V}, ds.all inT = true → H a = some (exo a C none) → (∀ b o, b ≠ a → H b = some o → H' b = some o) → RpL K O H ds xs → RpL K O H' ds xs
  | [], xs, _, _, _, h => by simpa only [RpL] using h
  | d :: ds, xs, hs, e, k, h => by
    simp only [RpL] at h ⊢
    simp only [List.all_cons, Bool.and_eq_true] at hs
    obtain ⟨x, r, e1, q1, q2⟩ := h
    exact ⟨x, r, e1, Rp.but hs.1 e k q1, RpL.but hs.2 e k q2⟩
theorem Trk.but (t : Trk O H) (e : H a = some (exo a C none)) (k : ∀ b o, b ≠ a → H b = some o → H' b = some o) : Trk O H' := fun b hb => by
  obtain ⟨o, h1, h2⟩ := t b hb
  exact ⟨o, k b o (fun q => by rw [q, e] at h1; cases h1; cases h2) h1, h2⟩
end
/-- __init__ of an error: the attributes get the values -/
def spX (K : Fr) (C : Addr) (fs : List Str) : Sp := fun vs H Q _ => ∃ a xs O ds, vs = .ref a :: xs ∧ H a = some (exo a C none) ∧ Trk O H ∧ RpL K O H ds xs ∧ ds.all inT = true ∧ ds.length = fs.length ∧
  ∀ H2 od ys, (∀ b o, b ≠ a → H b = some o → H2 b = some o) → H2 a = some (exo a C od) → XD O H2 od ys → ys.map (·.1) = fs.reverse → RpL K O H2 ds.reverse (ys.map (·.2)) → Q .non H2
structure XC (K : Fr) (C : Addr) : Prop where
  o : OexC K C
  e : ExcC K C
/-- the module's name x is an error's class -/
structure Xd (P : Program) (w : World) (K : Fr) (mg : Str → Option Value) (base : Heap) (x : Str) (C : Addr) (fs : List Str) (n : Nat) : Prop where
  mg_ : mg x = some (.ref C)
  xc : XC K C
  ex : ∃ fI fd ps, PySem.W.findIn K (.ref C) "__init__" = some (some (.ref fI)) ∧ PySem.W.typeIn K (.ref fI) = some (.type "function") ∧ Binds K fd ps [] ∧ FnOk P w K mg base CX0 n fI fd ps (spX K C fs)
section
variable {X : Cx} {e : Expr} {es : List Expr} {ρ : Env} {ds : List D} {d : D} {x : Str} {fs : List Str} {n k : Nat} {C : Addr} {p pos : Pos}
theorem mk_tm {G : Gx} {T : List Addr} {os : List (Option Addr)} {σ : L2.St} {H1 : Hp} {a : Addr} {Q : VK} {vs : List V} (i1 : I X.K G T os ρ σ H1) (w1 : RpL X.K (Od G T os) H1 ds vs) (hn : H1 a = none) (ht : ds.all inT = true) (hl : ds.length = fs.length)
    (q : ∀ v H', Tm X.K G T os ρ σ H' .sh (.exc C fs.reverse ds.reverse) v → Same H1 H' → Q v H') : spX X.K C fs (.ref a :: vs) (upd H1 a (exo a C none)) (fun v H2 => v = .non ∧ Q (.ref a) H2) E0 := by
  have na : ∀ b o, H1 b = some o → b ≠ a := fun b o h z => by rw [z, hn] at h; cases h
  have k0 : Same H1 (upd H1 a (exo a C none)) := fun b o h => by rw [upd_ne (na b o h)]; exact h
  have nO : ∀ b, Od G T os b → b ≠ a := fun b hb => by
    obtain ⟨o, h1, _⟩ := i1.tr b hb
    exact na b o h1
  refine ⟨a, vs, Od G T os, ds, rfl, upd_same, fun b hb => ?_, w1.mono (same_gd k0 fun _ _ _ n => n), ht, hl, fun H2 od ys k1 e2 xd m r => ⟨rfl, ?_⟩⟩
  · obtain ⟨o, h1, h2⟩ := i1.tr b hb
    exact ⟨o, k0 b o h1, h2⟩
  · have S : Same H1 H2 := fun b o h => k1 b o (na b o h) (k0 b o h)
    refine q _ H2 ⟨i1.ext S, ?_⟩ S
    simp only [Rp]
    exact ⟨a, od, ys, rfl, ⟨e2, fun z => nO a z rfl⟩, xd, m, r⟩
theorem EK.exc (h : Xd X.prog X.w X.K X.mg X.base x C fs n) (hr : Room k X.A) (hk : n + 1 ≤ k) (hg : Gl X x) (ha : EFA X (e :: es) ρ ds) (ht : ds.all inT = true) (hl : ds.length = fs.length) (hs : ds.length ≤ 1000) (hdb : (x == ("__debug__" : Str)) = false := by decide)
    (he : starEach (e :: es) X.env = (false, eval e X.env) :: starEach es X.env := by rfl) (hpl : (backTo pos (starEach es X.env)).any (·.1) = false := by rfl) : EK X (.Call (.Name x p) (e :: es) [] pos) ρ (.exc C fs.reverse ds.reverse) .sh := by
  obtain ⟨fI, fd, ps, h1, h2, h3, h4⟩ := h.ex
  refine pe_weak (pe_oex h.xc.o h1 h2 h4 (hr.mono hk) h3 pass0 hg h.mg_ ha hdb he hpl) fun σ H Q ⟨G, T, os, i, q⟩ => ⟨G, T, os, i, fun vs H1 i1 w1 s1 => ⟨by rw [w1.length]; exact hs, fun a hn => ?_⟩⟩
  exact mk_tm i1 w1 hn ht hl fun v H' t S => q v H' t (s1.trans S) .sh
theorem EK.exc0 (h : Xd X.prog X.w X.K X.mg X.base x C [] n) (hr : Room k X.A) (hk : n + 1 ≤ k) (hg : Gl X x) (hdb : (x == ("__debug__" : Str)) = false := by decide) : EK X (.Call (.Name x p) [] [] pos) ρ (.exc C [] []) .sh := by
  obtain ⟨fI, fd, ps, h1, h2, h3, h4⟩ := h.ex
  refine pe_weak (pe_oex0 h.xc.o h1 h2 h4 (hr.mono hk) h3 pass0 hg h.mg_ hdb) fun σ H Q ⟨G, T, os, i, q⟩ => ⟨by simp, fun a hn => ?_⟩
  exact mk_tm (ds := []) (fs := []) i RpL.nil hn rfl rfl fun v H' t S => q v H' t S .sh
theorem EK.glo {u : Addr} (hg : Gl X x) (hm : X.mg x = some (.ref u)) (hd : (x == ("__debug__" : Str)) = false := by decide) : EK X (.Name x pos) ρ (.ref u) .sh :=
  EK.cst (te := tC .non) (pe_glob (v := .ref u) hg hm rfl hd) fun _ _ => by simp only [Rp]
theorem excW {K : Fr} {O : Addr → Prop} {H : Hp} {v : V} (w : Rw K O H (.exc C fs ds) v) : ∃ a od ys, v = .ref a ∧ H a = some (exo a C od) ∧ XD O H od ys ∧ ys.map (·.1) = fs ∧ RpL K O H ds (ys.map (·.2)) := by
  simp only [Rw, Rp] at w
  obtain ⟨a, od, ys, e, h1, h2, h3, h4⟩ := w
  exact ⟨a, od, ys, e, h1.1, h2, h3, h4⟩
theorem XD.has {O : Addr → Prop} {H : Hp} : ∀ {od : Option Addr} {ys : List (Str × V)}, XD O H od ys → HasD H od
  | none, _, _ => .inl rfl
  | some _, _, h => .inr ⟨_, _, rfl, h.1⟩
theorem Cl.isX {C' : Addr} {b : Bool} (hC : XC X.K C) (h : PySem.W.kitOne X.K (.ref C) (.ref C') = some b) : Cl X (.builtin "isinstance") [.exc C fs ds, .ref C'] (.bl b) .sh :=
  ⟨_, call_isX, fun O H vs Q tk w q => by
    obtain ⟨v1, r1, rfl, w1, v2, r2, rfl, w2, rfl⟩ := w
    obtain ⟨a, od, ys, rfl, h1, h2, h3, h4⟩ := excW w1
    simp only [Rw, Rp] at w2
    exact ⟨a, C, od, _, _, b, by rw [w2], h1, h2.has, hC.e, .own C', h, q _ H (.scal (by simp only [Rp]))⟩⟩
theorem Cl.isXt {T : String} {b : Bool} (hC : XC X.K C) (h : PySem.W.kitOne X.K (.ref C) (.type T) = some b) : Cl X (.builtin "isinstance") [.exc C fs ds, .ty T] (.bl b) .sh :=
  ⟨_, call_isX, fun O H vs Q tk w q => by
    obtain ⟨v1, r1, rfl, w1, v2, r2, rfl, w2, rfl⟩ := w
    obtain ⟨a, od, ys, rfl, h1, h2, h3, h4⟩ := excW w1
    simp only [Rw, Rp] at w2
    exact ⟨a, C, od, _, _, b, by rw [w2], h1, h2.has, hC.e, .ty T, h, q _ H (.scal (by simp only [Rp]))⟩⟩
/-- the attribute f -/
def lkF (f : Str) : List Str → List D → Option D
  | g :: gs, d :: ds => if f = g then some d else lkF f gs ds
  | _, _ => none
theorem lkF_ok {K : Fr} {O : Addr → Prop} {H : Hp} {f : Str} : ∀ {ys : List (Str × V)} {ds : List D}, RpL K O H ds (ys.map (·.2)) → lkF f (ys.map (·.1)) ds = some d → ∃ v, ys.lookup f = some v ∧ Rp K O H d v
  | [], ds, h, e => by cases ds <;> cases e
  | (g, v) :: ys, [], h, e => by cases e
  | (g, v) :: ys, c :: ds, h, e => by
    simp only [List.map, RpL] at h
    obtain ⟨x, r, e1, h1, h2⟩ := h
    cases e1
    have e : (if f = g then some c else lkF f (ys.map (·.1)) ds) = some d := e
    rw [lookup_put]
    by_cases z : f = g
    · rw [if_pos z] at e ⊢
      cases e
      exact ⟨_, rfl, h1⟩
    · rw [if_neg z] at e ⊢
      exact lkF_ok h2 e
theorem EK.xf {f : Str} (ho : ER X e ρ (.exc C fs ds)) (hC : XC X.K C) (hno : PySem.W.findIn X.K (.ref C) f = some none) (hl : lkF f fs ds = some d) 
    (hb : attributeBase e f X.env (eval e X.env) = eval e X.env := by rfl) : EK X (.Attribute e f pos) ρ d .sh :=
  pe_weak (pe_xf ho hb) fun σ H Q ⟨G, T, os, i, q⟩ => ⟨G, T, os, i, fun v H1 i1 w s => by
    obtain ⟨a, od, ys, rfl, h1, h2, h3, h4⟩ := excW w
    subst h3
    obtain ⟨u, l, r⟩ := lkF_ok h4 hl
    cases od with
    | none =>
      have h2 : ys = [] := h2
      subst h2
      cases l
    | some dx => exact ⟨a, C, dx, ys, u, rfl, h1, h2.1, hC.e, hno, l, q u H1 ⟨i1, r⟩ s .sh⟩⟩
end

/-! ### __init__ -/
/-! ### isinstance(x, (list, tuple)) -/
theorem any_ty {K : PySem.W.Frag} {a : String} : ∀ {ns : List String} {b : Bool}, kitBs a ns = some b → PySem.W.kitAny K (.type a) (ns.map Value.type) = some b
  | [], b, h => h
  | n :: ns, b, h => by
    unfold kitBs at h
    cases q : kitB a n with
    | none => rw [q] at h; cases h
    | some c =>
      rw [q] at h
      cases c with
      | true => exact kitAny_cons (kit_ty q) (fun z => nomatch z) fun _ => (Option.some.inj h).symm
      | false => exact kitAny_cons (kit_ty q) (fun _ => any_ty h) fun z => nomatch z
section
variable {X : Cx} {d0 : D}
def rIsU (K : Fr) : List V → Hp → VK → Prop := fun xs H Q => ∃ (x : V) (tp : Addr) (t : Value) (ns : List String) (b : Bool), xs = [x, .ref tp] ∧ SqT K H tp (ns.map V.ty) ∧ TyX K H x t ∧ PySem.W.kitAny K t (ns.map Value.type) = some b ∧ Q (.bl b) H
theorem paired_ty : ∀ (ns : List String), Paired ClsV (ns.map V.ty) (ns.map Value.type)
  | [] => .nil
  | n :: ns => .cons (.ty n) (paired_ty ns)
theorem call_isU : CallR X (.builtin "isinstance") (rIsU X.K) := by
  intro pins s σ H xs us Q I r h
  obtain ⟨x, tp, t, ns, b, rfl, hT, ty, e, q⟩ := h
  obtain ⟨u1, u2, rfl, r1, r2⟩ := vals2 r
  cases (show u2 = Value.ref tp from r2)
  obtain ⟨P, Z, p, hx⟩ := kit_of I r1 ty
  have fin : ∀ (o : Obj) (its : Array Value) (n : Nat), s.heap.get? tp = some o → o.cls = .type "tuple" → o.data = .seq its n → Vals (ns.map V.ty) its.toList → wpAny (model X.prog X.w) X.A (call (.builtin "isinstance") [u1, .ref tp]) (L2.EP X pins σ Q) X.xe s := fun o its n h1 h2 h3 rv => by
    have e3 := ClsV.all (paired_ty ns) rv
    obtain ⟨oc, od, dt, sl⟩ := o
    simp only at h2 h3
    subst h2 h3
    rw [show its = (ns.map Value.type).toArray by rw [← e3]] at h1
    exact PySem.W.kia_tup Z I.kIn p h1 e hx fun tk => ⟨.bl b, H, I.tok tk, rfl, q⟩
  rcases hT with (hT | ⟨ob, hT⟩) | ⟨o, its, n, hk, hc, hd, _, rv⟩
  · obtain ⟨_, its, rv, o, h1, h2, n, h3⟩ := (show ObjOk X.prog X.w H s.heap tp (.tup (ns.map V.ty)) from I.hok tp _ hT)
    exact fin o its.toArray n h1 h2 h3 rv
  · obtain ⟨_, _, its, rv, o, h1, h2, n, h3⟩ := (show ObjOk X.prog X.w H s.heap tp (.frz ob (.tup (ns.map V.ty))) from I.hok tp _ hT)
    exact fin o its.toArray n h1 h2 h3 rv
  · exact fin o its n (I.kIn _ _ hk) hc hd rv
theorem rp_tys {K : Fr} {O : Addr → Prop} {H : Hp} : ∀ {ns : List String} {xs : List V}, RpL K O H (ns.map D.ty) xs → xs = ns.map V.ty
  | [], xs, h => by simpa only [List.map, RpL] using h
  | n :: ns, xs, h => by
    simp only [List.map, RpL, Rp] at h
    obtain ⟨x, r, rfl, rfl, h2⟩ := h
    rw [rp_tys h2]; rfl
theorem Cl.isU {ns : List String} {b : Bool} (h : kitBs (tyD d0) ns = some b) (hn : tyD d0 ≠ "?") : Cl X (.builtin "isinstance") [d0, .tup (ns.map .ty)] (.bl b) .sh :=
  ⟨_, call_isU, fun O H vs Q tk w q => by
    obtain ⟨v1, r1, rfl, w1, v2, r2, rfl, w2, rfl⟩ := w
    obtain ⟨a, xs, rfl, h1, h2⟩ := tupW w2
    rw [rp_tys h2] at h1
    exact ⟨_, a, _, ns, b, rfl, h1, tyx w1 hn, any_ty h, q _ H (.scal (by simp only [Rp]))⟩⟩
theorem Cl.isU2 {n1 n2 : String} {b : Bool} (h : kitBs (tyD d0) [n1, n2] = some b) (hn : tyD d0 ≠ "?") : Cl X (.builtin "isinstance") [d0, .tup [.ty n1, .ty n2]] (.bl b) .sh := Cl.isU (ns := [n1, n2]) h hn
theorem kitS {d : D} (h : isS d = true) : kitBs (tyD d) ["list", "tuple"] = some false ∧ tyD d ≠ "?" := by
  cases d <;> simp only [isS, Bool.false_eq_true] at h
  case non => exact ⟨(by decide +kernel : kitBs "NoneType" ["list", "tuple"] = some false), (by decide : "NoneType" ≠ "?")⟩
  case bl b => exact ⟨(by decide +kernel : kitBs "bool" ["list", "tuple"] = some false), (by decide : "bool" ≠ "?")⟩
  case int b => exact ⟨(by decide +kernel : kitBs "int" ["list", "tuple"] = some false), (by decide : "int" ≠ "?")⟩
  case str b => exact ⟨(by decide +kernel : kitBs "str" ["list", "tuple"] = some false), (by decide : "str" ≠ "?")⟩
end
def c_in_tuples : Ct := fun ds R => ∃ d, ds = [d] ∧ inT d = true ∧ R d false
section
variable {P : Program} {w : World} {K : Fr} {mg : Str → Option Value} {base : Heap} {C fI : Addr} {fd : FuncData} {qual x y f g : Str} {params : Arguments} {scope : Scope} {n : Nat} {p1 p2 p3 p4 p5 p6 q1 q2 q3 q4 q5 q6 : Pos}
/-- self.f = in_tuples(x) in raw readings -/
theorem st_raw {H : Hp} {D0 : Ends} {σ : L2.St} {i : Nat} {a : Addr} {O : Addr → Prop} {d : D} {v : V} (T : OexC K C) (hno : PySem.W.findIn K (.ref C) f = some none) (h0 : σ[0]? = some (some (.ref a))) (hi : σ[i]? = some (some v)) (t : Trk O H) (r : Rp K O H d v) (hd : inT d = true)
    (h : ∀ y H1, Same H H1 → Rp K O H1 d y → ((H1 a = some (exo a C none) ∧ ∀ dx, H1 dx = none → dx ≠ a → D0.nx σ (upd (upd H1 dx (exd dx [(f, y)])) a (exo a C (some dx)))) ∨
      ∃ (dx : Addr) (fs : List (Str × V)), H1 a = some (exo a C (some dx)) ∧ H1 dx = some (exd dx fs) ∧ fs.length ≤ 900 ∧ D0.nx σ (upd H1 dx (exd dx ((f, y) :: fs))))) :
    tOst K f (tVar 0) (tCall (spP K c_in_tuples) [] E0 (tCons (tVar i) tNil)) D0 σ H := by
  refine ⟨v, hi, ?_⟩
  show spP K c_in_tuples ([v] ++ []) H _ E0
  rw [List.append_nil]
  refine ⟨O, [d], fun d' f' => d' = d ∧ f' = false, t, RpL.cons r RpL.nil, ⟨d, rfl, hd, rfl, rfl⟩, fun y H1 d' f' ⟨e1, e2⟩ o => ?_⟩
  subst e1 e2
  exact ⟨_, h0, a, C, rfl, T, hno, h y H1 o.1 o.2⟩
theorem ok_init1 (F : FunD K "__init__" qual params [.Assign [.Attribute (.Name "self" p1) f p2] (.Call (.Name "in_tuples" p3) [.Name x p4] [] p5) p6] scope [] [] fI fd) (S : FnScope ["self", x] ["self", x] scope) (T : OexC K C) (hno : PySem.W.findIn K (.ref C) f = some none)
    (hin : Df P w K mg base "in_tuples" ["value"] n c_in_tuples) (hg : ∀ cdv A outer s H E, Gl (cxOf CX0 P w K mg base ["self", x] qual scope fI cdv A outer s H E).nox "in_tuples") (v0 : Vis scope "self") (v1 : Vis scope x) (x1 : (x == ("__debug__" : Str)) = false) (x2 : (x == ("__classdict__" : Str)) = false) : FnOk P w K mg base CX0 (n + 1) fI fd ["self", x] (spX K C [f]) := by
  obtain ⟨a0, fd0, hm0, hkp0, hb0, F0⟩ := hin.ex
  refine F.ok S (fun vs H Q E h => ?_) (fun cdv A outer s H vs Q E hr h => ⟨tOst K f (tVar 0) (tCall (spP K c_in_tuples) [] E0 (tCons (tVar 1) tNil)), PSs.nox ?_, ?_⟩)
  · obtain ⟨a, xs, O, ds, rfl, _, _, r, _, hl, _⟩ := h
    show xs.length + 1 = 2
    rw [r.length, hl]; rfl
  · exact pss_one (ps_ost (pv 0 (hv := v0)) (pe_call F0 hr (hg _ _ _ _ _ _) hm0 hkp0 hb0 .nil pass0 (pa_cons (pv 1 (hv := v1) (hd := x1) (hcd := x2)) pa_nil)))
  · obtain ⟨a, xs, O, ds, rfl, e, t, r, hd, hl, k⟩ := h
    match ds, hl, r, hd with
    | [d], _, r, hd =>
      simp only [RpL] at r
      obtain ⟨v, _, rfl, r1, rfl⟩ := r
      simp only [List.all_cons, List.all_nil, Bool.and_true] at hd
      refine st_raw T hno rfl rfl t r1 hd fun y H1 s1 r2 => .inl ⟨s1 _ _ e, fun dx hn ne => ?_⟩
      have nb : ∀ b o, H1 b = some o → b ≠ dx := fun b o h z => by rw [z, hn] at h; cases h
      have kk : ∀ b o, b ≠ a → H1 b = some o → upd (upd H1 dx (exd dx [(f, y)])) a (exo a C (some dx)) b = some o := fun b o hb h => by rw [upd_ne hb, upd_ne (nb b o h)]; exact h
      refine k _ (some dx) [(f, y)] (fun b o hb h => kk b o hb (s1 b o h)) upd_same ⟨by rw [upd_ne ne, upd_same], fun z => ?_⟩ rfl (RpL.cons (Rp.but hd (s1 _ _ e) kk r2) RpL.nil)
      obtain ⟨o, z1, _⟩ := t dx z
      exact nb dx o (s1 _ _ z1) rfl
theorem ok_init2 (F : FunD K "__init__" qual params [.Assign [.Attribute (.Name "self" p1) f p2] (.Call (.Name "in_tuples" p3) [.Name x p4] [] p5) p6, .Assign [.Attribute (.Name "self" q1) g q2] (.Call (.Name "in_tuples" q3) [.Name y q4] [] q5) q6] scope [] [] fI fd) (S : FnScope ["self", x, y] ["self", x, y] scope) (T : OexC K C) (hno : PySem.W.findIn K (.ref C) f = some none) (hno2 : PySem.W.findIn K (.ref C) g = some none)
    (hin : Df P w K mg base "in_tuples" ["value"] n c_in_tuples) (hg : ∀ cdv A outer s H E, Gl (cxOf CX0 P w K mg base ["self", x, y] qual scope fI cdv A outer s H E).nox "in_tuples") (v0 : Vis scope "self") (v1 : Vis scope x) (x1 : (x == ("__debug__" : Str)) = false) (x2 : (x == ("__classdict__" : Str)) = false) (v2 : Vis scope y) (y1 : (y == ("__debug__" : Str)) = false) (y2 : (y == ("__classdict__" : Str)) = false) : FnOk P w K mg base CX0 (n + 1) fI fd ["self", x, y] (spX K C [f, g]) := by
  obtain ⟨a0, fd0, hm0, hkp0, hb0, F0⟩ := hin.ex
  refine F.ok S (fun vs H Q E h => ?_) (fun cdv A outer s H vs Q E hr h => ⟨tSeq (tOst K f (tVar 0) (tCall (spP K c_in_tuples) [] E0 (tCons (tVar 1) tNil))) (tOst K g (tVar 0) (tCall (spP K c_in_tuples) [] E0 (tCons (tVar 2) tNil))), PSs.nox ?_, ?_⟩)
  · obtain ⟨a, xs, O, ds, rfl, _, _, r, _, hl, _⟩ := h
    show xs.length + 1 = 3
    rw [r.length, hl]; rfl
  · exact pss_cons (ps_ost (pv 0 (hv := v0)) (pe_call F0 hr (hg _ _ _ _ _ _) hm0 hkp0 hb0 .nil pass0 (pa_cons (pv 1 (hv := v1) (hd := x1) (hcd := x2)) pa_nil))) (pss_one (ps_ost (pv 0 (hv := v0)) (pe_call F0 hr (hg _ _ _ _ _ _) hm0 hkp0 hb0 .nil pass0 (pa_cons (pv 2 (hv := v2) (hd := y1) (hcd := y2)) pa_nil))))
  · obtain ⟨a, xs, O, ds, rfl, e, t, r, hd, hl, k⟩ := h
    match ds, hl, r, hd with
    | [d, d2], _, r, hd =>
      simp only [RpL] at r
      obtain ⟨v, _, rfl, r1, v2, _, rfl, r2, rfl⟩ := r
      simp only [List.all_cons, List.all_nil, Bool.and_true, Bool.and_eq_true] at hd
      refine st_raw T hno rfl rfl t r1 hd.1 fun y1 H1 s1 u1 => .inl ⟨s1 _ _ e, fun dx hn ne => ?_⟩
      have nb : ∀ b o, H1 b = some o → b ≠ dx := fun b o h z => by rw [z, hn] at h; cases h
      have kk : ∀ b o, b ≠ a → H1 b = some o → upd (upd H1 dx (exd dx [(f, y1)])) a (exo a C (some dx)) b = some o := fun b o hb h => by rw [upd_ne hb, upd_ne (nb b o h)]; exact h
      have k0 : ∀ b o, b ≠ a → H b = some o → upd (upd H1 dx (exd dx [(f, y1)])) a (exo a C (some dx)) b = some o := fun b o hb h => kk b o hb (s1 b o h)
      have e1 : upd (upd H1 dx (exd dx [(f, y1)])) a (exo a C (some dx)) dx = some (exd dx [(f, y1)]) := by rw [upd_ne ne, upd_same]
      have nO : ¬ O dx := fun z => by
        obtain ⟨o, z1, _⟩ := t dx z
        exact nb dx o (s1 _ _ z1) rfl
      refine st_raw T hno2 rfl rfl (Trk.but t e k0) (Rp.but hd.2 e k0 r2) hd.2 fun y2 H2 s2 u2 => .inr ⟨dx, [(f, y1)], s2 _ _ upd_same, s2 _ _ e1, by simp, ?_⟩
      have dH : H dx = none := by
        cases z : H dx with
        | none => rfl
        | some o => exact absurd rfl (nb dx o (s1 _ _ z))
      have u1' : Rp K O H2 d y1 := Rp.mono (same_gd s2 fun _ _ _ n => n) _ _ (Rp.but hd.1 (s1 _ _ e) kk u1)
      have tb : ∀ (c : D) (z : V), inT c = true → Rp K O H2 c z → Rp K O (upd H2 dx (exd dx [(g, y2), (f, y1)])) c z := fun c z hc h => by
        have q := s2 _ _ e1
        have sc : ∀ (d : D) (v : V), isS d = true → Rp K O H2 d v → Rp K O (upd H2 dx (exd dx [(g, y2), (f, y1)])) d v := fun d v hs h => by
          cases d <;> simp only [isS, Bool.false_eq_true] at hs <;> simpa only [Rp] using h
        cases c <;> try exact sc _ _ hc h
        case tup ds =>
          simp only [Rp] at h ⊢
          obtain ⟨b, xs, e1, h1, h2⟩ := h
          refine ⟨b, xs, e1, h1.imp (fun z => ⟨?_, z.2⟩) id, ?_⟩
          · rcases z.1 with y | ⟨o, y⟩
            · exact .inl (by rw [upd_ne (fun w => by rw [w, q] at y; exact exd_tup (Option.some.inj y))]; exact y)
            · exact .inr ⟨o, by rw [upd_ne (fun w => by rw [w, q] at y; cases y)]; exact y⟩
          · have : ∀ (ds : List D) (xs : List V), ds.all isS = true → RpL K O H2 ds xs → RpL K O (upd H2 dx (exd dx [(g, y2), (f, y1)])) ds xs := by
              intro ds
              induction ds with
              | nil => intro xs _ h; simpa only [RpL] using h
              | cons d ds ih =>
                intro xs hs h
                simp only [RpL] at h ⊢
                simp only [List.all_cons, Bool.and_eq_true] at hs
                obtain ⟨x, r, e, q1, q2⟩ := h
                exact ⟨x, r, e, sc d x hs.1 q1, ih r hs.2 q2⟩
            exact this ds xs (Bool.and_eq_true_iff.mp hc).1 h2
      refine k _ (some dx) [(g, y2), (f, y1)] (fun b o hb h => ?_) ?_ ⟨upd_same, nO⟩ rfl (RpL.cons (tb _ _ hd.2 u2) (RpL.cons (tb _ _ hd.1 u1') RpL.nil))
      · rw [upd_ne (fun z => by rw [z, dH] at h; cases h)]
        exact s2 _ _ (k0 b o hb h)
      · rw [upd_ne (Ne.symm ne)]
        exact s2 _ _ upd_same
theorem ok_init0 (F : FunD K "__init__" qual params [.Pass p1] scope [] [] fI fd) (S : FnScope ["self"] ["self"] scope) : FnOk P w K mg base CX0 1 fI fd ["self"] (spX K C []) := by
  refine F.ok S (fun vs H Q E h => ?_) (fun cdv A outer s H vs Q E hr h => ⟨tNext, PSs.nox (pss_one ps_pass), ?_⟩)
  · obtain ⟨a, xs, O, ds, rfl, _, _, r, _, hl, _⟩ := h
    show xs.length + 1 = 1
    rw [r.length, hl]; rfl
  · obtain ⟨a, xs, O, ds, rfl, e, t, r, hd, hl, k⟩ := h
    match ds, hl with
    | [], _ => exact k H none [] (fun b o _ h => h) e rfl rfl RpL.nil
end
end Pv
namespace Pv
open PySem L2 PyProof.Rows
/-- a comprehension's own name by its slot -/
def ow (N : List Str) (i : Nat) : Str × Nat := (N.getD i "", i)
def top (i : Nat) : Stmt := PySem.Challenge.pw_registerways_k07_errors_of_their_own.main.body.getD i (.Pass ⟨0, 0, 0, 0⟩)
abbrev s_in_tuples : Stmt := top 1
abbrev N_in_tuples : List Str := ["value", "part"]
abbrev p_in_tuples : List Str := ["value"]
theorem sc_in_tuples : FnScope N_in_tuples p_in_tuples (defScope s_in_tuples) := ⟨rfl, rfl, rfl, by decide +kernel, rfl, by decide +kernel, by decide +kernel⟩
abbrev s_AssignedTwice_init : Stmt := inClass (top 4) 0
abbrev N_AssignedTwice_init : List Str := ["self", "name"]
abbrev p_AssignedTwice_init : List Str := ["self", "name"]
theorem sc_AssignedTwice_init : FnScope N_AssignedTwice_init p_AssignedTwice_init (defScope s_AssignedTwice_init) := ⟨rfl, rfl, rfl, by decide +kernel, rfl, by decide +kernel, by decide +kernel⟩
abbrev s_NoBlock_init : Stmt := inClass (top 5) 0
abbrev N_NoBlock_init : List Str := ["self", "number"]
abbrev p_NoBlock_init : List Str := ["self", "number"]
theorem sc_NoBlock_init : FnScope N_NoBlock_init p_NoBlock_init (defScope s_NoBlock_init) := ⟨rfl, rfl, rfl, by decide +kernel, rfl, by decide +kernel, by decide +kernel⟩
abbrev s_WrongCount_init : Stmt := inClass (top 6) 0
abbrev N_WrongCount_init : List Str := ["self", "block"]
abbrev p_WrongCount_init : List Str := ["self", "block"]
theorem sc_WrongCount_init : FnScope N_WrongCount_init p_WrongCount_init (defScope s_WrongCount_init) := ⟨rfl, rfl, rfl, by decide +kernel, rfl, by decide +kernel, by decide +kernel⟩
abbrev s_NotReached_init : Stmt := inClass (top 7) 0
abbrev N_NotReached_init : List Str := ["self", "block"]
abbrev p_NotReached_init : List Str := ["self", "block"]
theorem sc_NotReached_init : FnScope N_NotReached_init p_NotReached_init (defScope s_NotReached_init) := ⟨rfl, rfl, rfl, by decide +kernel, rfl, by decide +kernel, by decide +kernel⟩
abbrev s_NotAssigned_init : Stmt := inClass (top 8) 0
abbrev N_NotAssigned_init : List Str := ["self", "name"]
abbrev p_NotAssigned_init : List Str := ["self", "name"]
theorem sc_NotAssigned_init : FnScope N_NotAssigned_init p_NotAssigned_init (defScope s_NotAssigned_init) := ⟨rfl, rfl, rfl, by decide +kernel, rfl, by decide +kernel, by decide +kernel⟩
abbrev s_BadText_init : Stmt := inClass (top 9) 0
abbrev N_BadText_init : List Str := ["self", "line"]
abbrev p_BadText_init : List Str := ["self", "line"]
theorem sc_BadText_init : FnScope N_BadText_init p_BadText_init (defScope s_BadText_init) := ⟨rfl, rfl, rfl, by decide +kernel, rfl, by decide +kernel, by decide +kernel⟩
abbrev s_NoPoint_init : Stmt := inClass (top 10) 0
abbrev N_NoPoint_init : List Str := ["self", "point"]
abbrev p_NoPoint_init : List Str := ["self", "point"]
theorem sc_NoPoint_init : FnScope N_NoPoint_init p_NoPoint_init (defScope s_NoPoint_init) := ⟨rfl, rfl, rfl, by decide +kernel, rfl, by decide +kernel, by decide +kernel⟩
abbrev s_NoVariable_init : Stmt := inClass (top 11) 0
abbrev N_NoVariable_init : List Str := ["self", "name"]
abbrev p_NoVariable_init : List Str := ["self", "name"]
theorem sc_NoVariable_init : FnScope N_NoVariable_init p_NoVariable_init (defScope s_NoVariable_init) := ⟨rfl, rfl, rfl, by decide +kernel, rfl, by decide +kernel, by decide +kernel⟩
abbrev s_BadRegister_init : Stmt := inClass (top 12) 0
abbrev N_BadRegister_init : List Str := ["self", "name"]
abbrev p_BadRegister_init : List Str := ["self", "name"]
theorem sc_BadRegister_init : FnScope N_BadRegister_init p_BadRegister_init (defScope s_BadRegister_init) := ⟨rfl, rfl, rfl, by decide +kernel, rfl, by decide +kernel, by decide +kernel⟩
abbrev s_Conflict_init : Stmt := inClass (top 13) 0
abbrev N_Conflict_init : List Str := ["self", "first", "second"]
abbrev p_Conflict_init : List Str := ["self", "first", "second"]
theorem sc_Conflict_init : FnScope N_Conflict_init p_Conflict_init (defScope s_Conflict_init) := ⟨rfl, rfl, rfl, by decide +kernel, rfl, by decide +kernel, by decide +kernel⟩
abbrev s_NoNumber_init : Stmt := inClass (top 14) 0
abbrev N_NoNumber_init : List Str := ["self", "number"]
abbrev p_NoNumber_init : List Str := ["self", "number"]
theorem sc_NoNumber_init : FnScope N_NoNumber_init p_NoNumber_init (defScope s_NoNumber_init) := ⟨rfl, rfl, rfl, by decide +kernel, rfl, by decide +kernel, by decide +kernel⟩
abbrev s_TooFew_init : Stmt := inClass (top 15) 0
abbrev N_TooFew_init : List Str := ["self", "size"]
abbrev p_TooFew_init : List Str := ["self", "size"]
theorem sc_TooFew_init : FnScope N_TooFew_init p_TooFew_init (defScope s_TooFew_init) := ⟨rfl, rfl, rfl, by decide +kernel, rfl, by decide +kernel, by decide +kernel⟩
abbrev s_NoRegister_init : Stmt := inClass (top 16) 0
abbrev N_NoRegister_init : List Str := ["self", "reg"]
abbrev p_NoRegister_init : List Str := ["self", "reg"]
theorem sc_NoRegister_init : FnScope N_NoRegister_init p_NoRegister_init (defScope s_NoRegister_init) := ⟨rfl, rfl, rfl, by decide +kernel, rfl, by decide +kernel, by decide +kernel⟩
abbrev s_Taken_init : Stmt := inClass (top 17) 0
abbrev N_Taken_init : List Str := ["self", "other"]
abbrev p_Taken_init : List Str := ["self", "other"]
theorem sc_Taken_init : FnScope N_Taken_init p_Taken_init (defScope s_Taken_init) := ⟨rfl, rfl, rfl, by decide +kernel, rfl, by decide +kernel, by decide +kernel⟩
abbrev s_NotAkin_init : Stmt := inClass (top 18) 0
abbrev N_NotAkin_init : List Str := ["self"]
abbrev p_NotAkin_init : List Str := ["self"]
theorem sc_NotAkin_init : FnScope N_NotAkin_init p_NotAkin_init (defScope s_NotAkin_init) := ⟨rfl, rfl, rfl, by decide +kernel, rfl, by decide +kernel, by decide +kernel⟩
abbrev s_NoSpare_init : Stmt := inClass (top 19) 0
abbrev N_NoSpare_init : List Str := ["self", "size"]
abbrev p_NoSpare_init : List Str := ["self", "size"]
theorem sc_NoSpare_init : FnScope N_NoSpare_init p_NoSpare_init (defScope s_NoSpare_init) := ⟨rfl, rfl, rfl, by decide +kernel, rfl, by decide +kernel, by decide +kernel⟩
abbrev s_TooMany_init : Stmt := inClass (top 20) 0
abbrev N_TooMany_init : List Str := ["self", "number"]
abbrev p_TooMany_init : List Str := ["self", "number"]
theorem sc_TooMany_init : FnScope N_TooMany_init p_TooMany_init (defScope s_TooMany_init) := ⟨rfl, rfl, rfl, by decide +kernel, rfl, by decide +kernel, by decide +kernel⟩
abbrev s_Chordless_init : Stmt := inClass (top 21) 0
abbrev N_Chordless_init : List Str := ["self", "ring"]
abbrev p_Chordless_init : List Str := ["self", "ring"]
theorem sc_Chordless_init : FnScope N_Chordless_init p_Chordless_init (defScope s_Chordless_init) := ⟨rfl, rfl, rfl, by decide +kernel, rfl, by decide +kernel, by decide +kernel⟩
abbrev s_NoPlace_init : Stmt := inClass (top 22) 0
abbrev N_NoPlace_init : List Str := ["self", "block", "at"]
abbrev p_NoPlace_init : List Str := ["self", "block", "at"]
theorem sc_NoPlace_init : FnScope N_NoPlace_init p_NoPlace_init (defScope s_NoPlace_init) := ⟨rfl, rfl, rfl, by decide +kernel, rfl, by decide +kernel, by decide +kernel⟩
abbrev s_NothingBack_init : Stmt := inClass (top 23) 0
abbrev N_NothingBack_init : List Str := ["self"]
abbrev p_NothingBack_init : List Str := ["self"]
theorem sc_NothingBack_init : FnScope N_NothingBack_init p_NothingBack_init (defScope s_NothingBack_init) := ⟨rfl, rfl, rfl, by decide +kernel, rfl, by decide +kernel, by decide +kernel⟩
abbrev s_NothingAgain_init : Stmt := inClass (top 24) 0
abbrev N_NothingAgain_init : List Str := ["self"]
abbrev p_NothingAgain_init : List Str := ["self"]
theorem sc_NothingAgain_init : FnScope N_NothingAgain_init p_NothingAgain_init (defScope s_NothingAgain_init) := ⟨rfl, rfl, rfl, by decide +kernel, rfl, by decide +kernel, by decide +kernel⟩
abbrev s_law_cell : Stmt := top 26
abbrev N_law_cell : List Str := ["_law_script", "_law_k"]
abbrev p_law_cell : List Str := ["_law_script", "_law_k"]
theorem sc_law_cell : FnScope N_law_cell p_law_cell (defScope s_law_cell) := ⟨rfl, rfl, rfl, by decide +kernel, rfl, by decide +kernel, by decide +kernel⟩
abbrev s_law_mixed : Stmt := top 27
abbrev N_law_mixed : List Str := ["_law_cell_here", "_law_k", "_law_salt", "_law_first"]
abbrev p_law_mixed : List Str := ["_law_cell_here", "_law_k", "_law_salt"]
theorem sc_law_mixed : FnScope N_law_mixed p_law_mixed (defScope s_law_mixed) := ⟨rfl, rfl, rfl, by decide +kernel, rfl, by decide +kernel, by decide +kernel⟩
abbrev s_law_draws : Stmt := top 28
abbrev N_law_draws : List Str := ["_law_cell_here", "_law_many", "_law_base", "_law_salt", "_law_found", "_law_rest", "_law_k"]
abbrev p_law_draws : List Str := ["_law_cell_here", "_law_many", "_law_base", "_law_salt"]
theorem sc_law_draws : FnScope N_law_draws p_law_draws (defScope s_law_draws) := ⟨rfl, rfl, rfl, by decide +kernel, rfl, by decide +kernel, by decide +kernel⟩
abbrev s_law_names : Stmt := top 29
abbrev N_law_names : List Str := ["_law_draws_here", "_law_signs", "_law_rest", "_law_more", "_law_found", "_law_d", "_law_sign"]
abbrev p_law_names : List Str := ["_law_draws_here"]
theorem sc_law_names : FnScope N_law_names p_law_names (defScope s_law_names) := ⟨rfl, rfl, rfl, by decide +kernel, rfl, by decide +kernel, by decide +kernel⟩
abbrev s_law_same : Stmt := top 30
abbrev N_law_same : List Str := ["_law_found", "_law_due", "_law_k"]
abbrev p_law_same : List Str := ["_law_found", "_law_due"]
theorem sc_law_same : FnScope N_law_same p_law_same (defScope s_law_same) := ⟨rfl, rfl, rfl, by decide +kernel, rfl, by decide +kernel, by decide +kernel⟩
abbrev s_law_kinds : Stmt := top 31
abbrev N_law_kinds : List Str := ["_law_e"]
abbrev p_law_kinds : List Str := ["_law_e"]
theorem sc_law_kinds : FnScope N_law_kinds p_law_kinds (defScope s_law_kinds) := ⟨rfl, rfl, rfl, by decide +kernel, rfl, by decide +kernel, by decide +kernel⟩
abbrev s_law : Stmt := top 32
abbrev N_law : List Str := ["_law_script", "_law_names_here", "_law_row", "_law_spot", "_law_ring", "_law_some", "_law_made", "_law_k", "_law_kinds_here", "_law_told", "_law_due", "_law_d"]
abbrev p_law : List Str := ["_law_script"]
theorem sc_law : FnScope N_law p_law (defScope s_law) := ⟨rfl, rfl, rfl, by decide +kernel, rfl, by decide +kernel, by decide +kernel⟩
end Pv
/-! Programs as data. -/
namespace Pv
open PySem L2
inductive Opd where
  | w (n : Int) | v (s : Str)
inductive Ins where
  | tell (x : Opd) | op (nm o : Str) (x y : Opd)
inductive En where
  | give (xs : List Opd) | go (b : Int) (xs : List Opd) | cond (x : Opd) (b : Int) (xs : List Opd) (c : Int) (ys : List Opd)
structure Bl where
  ps : List Str
  is : List Ins
  en : En
def dO : Opd → D
  | .w n => .int n
  | .v s => .str s
def dI : Ins → D
  | .tell x => .tup [.str "tell", dO x]
  | .op nm o x y => .tup [.str nm, .str o, dO x, dO y]
def dOs (xs : List Opd) : D := .tup (xs.map dO)
def dE : En → D
  | .give xs => .tup [.str "give", dOs xs]
  | .go b xs => .tup [.str "go", .int b, dOs xs]
  | .cond x b xs c ys => .tup [.str "if", dO x, .int b, dOs xs, .int c, dOs ys]
def dB (b : Bl) : D := .tup [.tup (b.ps.map .str), .tup (b.is.map dI), dE b.en]
def dP (bs : List Bl) : D := .tup (bs.map dB)
theorem flat_dO (x : Opd) : flatT (dO x) = true := by cases x <;> rfl
theorem flat_dI (x : Ins) : flatT (dI x) = true := by cases x <;> simp [dI, flatT, flatTs, flat_dO]
theorem flat_dOs (x : List Opd) : flatT (dOs x) = true := by simp only [dOs, flatT]; exact flatTs_map flat_dO
theorem flat_dE (x : En) : flatT (dE x) = true := by cases x <;> simp [dE, flatT, flatTs, flat_dO, flat_dOs]
theorem flat_dB (b : Bl) : flatT (dB b) = true := by
  simp only [dB, flatT, flatTs, flat_dE, Bool.and_true, Bool.and_eq_true]
  exact ⟨flatTs_map fun _ => rfl, flatTs_map flat_dI⟩
theorem flat_dP (bs : List Bl) : flatT (dP bs) = true := by simp only [dP, flatT]; exact flatTs_map flat_dB
/-! ### where jumps lead -/
def tgs : En → List Int
  | .give _ => [] | .go b _ => [b] | .cond _ b _ c _ => [b, c]
/-- from 0, without the barred one -/
inductive Rch (ts : List (List Int)) (bar : Option Int) : Int → Prop
  | zero : bar ≠ some 0 → Rch ts bar 0
  | step {u v : Int} {l : List Int} : Rch ts bar u → 0 ≤ u → ts[u.toNat]? = some l → v ∈ l → bar ≠ some v → Rch ts bar v
theorem Rch.mono {ts : List (List Int)} {bar : Option Int} {v : Int} (h : Rch ts bar v) : Rch ts none v := by
  induction h with
  | zero _ => exact .zero (by simp)
  | step _ h0 h1 h2 _ ih => exact .step ih h0 h1 h2 (by simp)
theorem Rch.ne {ts : List (List Int)} {bar : Option Int} {v : Int} (h : Rch ts bar v) : bar ≠ some v := by
  cases h with
  | zero h => exact h
  | step _ _ _ _ h => exact h
/-- every target is the number of a block -/
def InR (ts : List (List Int)) : Prop := ∀ l ∈ ts, ∀ t ∈ l, 0 ≤ t ∧ t < ts.length
theorem Rch.lt {ts : List (List Int)} {bar : Option Int} {v : Int} (hn : 0 < ts.length) (r : InR ts) (h : Rch ts bar v) : 0 ≤ v ∧ v < ts.length := by
  cases h with
  | zero _ => exact ⟨Int.le_refl _, by omega⟩
  | step _ _ h1 h2 _ => exact r _ (List.mem_of_getElem? h1) _ h2
/-- u lies on all ways to l -/
def Dom (ts : List (List Int)) (u l : Int) : Prop := u = l ∨ ¬ Rch ts (some u) l
open scoped Classical in
noncomputable def upp (ts : List (List Int)) (l : Int) : List Int := ((List.range ts.length).map fun (i : Nat) => (i : Int)).filter fun u => decide (Dom ts u l)
noncomputable def uppers (ts : List (List Int)) : List (List Int) := (List.range ts.length).map fun (i : Nat) => upp ts i
open scoped Classical in
theorem mem_upp {ts : List (List Int)} {u l : Int} : u ∈ upp ts l ↔ (0 ≤ u ∧ u < ts.length) ∧ Dom ts u l := by
  unfold upp
  rw [List.mem_filter, List.mem_map]
  constructor
  · rintro ⟨⟨i, h1, rfl⟩, h2⟩
    rw [List.mem_range] at h1
    exact ⟨⟨by omega, by omega⟩, of_decide_eq_true h2⟩
  · rintro ⟨⟨h1, h2⟩, h3⟩
    exact ⟨⟨u.toNat, List.mem_range.mpr (by omega), by omega⟩, decide_eq_true h3⟩
def dLL (ts : List (List Int)) : D := .lst (ts.map fun l => .lst (l.map .int))
end Pv
/-! The generator's pure side: draws, names, words, parents, shapes. -/
namespace Pv
open PySem L2
def gi (ns : List Int) (i : Int) : Int := ns.getD i.toNat 0
theorem gi_get {ns : List Int} {i : Int} (h0 : 0 ≤ i) (h1 : i < ns.length) : ns[i.toNat]? = some (gi ns i) := by
  have h : i.toNat < ns.length := by omega
  unfold gi
  rw [List.getD_eq_getElem?_getD, List.getElem?_eq_getElem h]
  rfl
theorem gi_mem {ns : List Int} {i : Int} (h0 : 0 ≤ i) (h1 : i < ns.length) : gi ns i ∈ ns := List.mem_of_getElem? (gi_get h0 h1)
theorem ix_int {ns : List Int} {i : Int} (h0 : 0 ≤ i) (h1 : i < ns.length) : atI (ns.map D.int) i = some (.int (gi ns i)) := by
  refine atI_of h0 ?_
  rw [List.getElem?_map, gi_get h0 h1]
  rfl
theorem gi_nn {ns : List Int} (h : ∀ x ∈ ns, 0 ≤ x) (i : Int) : 0 ≤ gi ns i := by
  unfold gi
  rw [List.getD_eq_getElem?_getD]
  cases q : ns[i.toNat]? with
  | none => exact Int.le_refl _
  | some x => exact h x (List.mem_of_getElem? q)
theorem gi_nat {ns : List Int} {i : Nat} {x : Int} (h : ns[i]? = some x) : gi ns (i : Int) = x := by
  unfold gi
  rw [List.getD_eq_getElem?_getD, Int.toNat_natCast, h]
  rfl
/-- what a comprehension of integers gives -/
theorem fm_int {α : Type} {xs : List α} {p : α → Bool} {h : α → Int} : (xs.filterMap fun x => if p x = true then some (D.int (h x)) else none) = ((xs.filter p).map h).map D.int := by
  induction xs with
  | nil => rfl
  | cons x xs ih =>
    rw [List.filterMap_cons, List.filter_cons]
    cases q : p x with
    | true => simp only [if_pos]; rw [ih]; rfl
    | false => simp only [Bool.false_eq_true, if_neg, not_false_eq_true]; rw [ih]
theorem fm_all {α : Type} {xs : List α} {h : α → D} : (xs.filterMap fun x => some (h x)) = xs.map h := List.filterMap_eq_map ▸ rfl
/-! ### words, names -/
def wordZ (d : Int) : Int := d / 3 % gi [4, 300, 65536] (d % 3)
theorem wordZ_ok (d : Int) : 0 ≤ wordZ d ∧ wordZ d < 65536 := by
  have h1 := Int.emod_nonneg d (show (3 : Int) ≠ 0 by decide)
  have h2 := Int.emod_lt_of_pos d (show (0 : Int) < 3 by decide)
  have h3 : gi [4, 300, 65536] (d % 3) = 4 ∨ gi [4, 300, 65536] (d % 3) = 300 ∨ gi [4, 300, 65536] (d % 3) = 65536 := by
    rcases (show d % 3 = 0 ∨ d % 3 = 1 ∨ d % 3 = 2 by omega) with e | e | e <;> rw [e] <;> decide
  unfold wordZ
  rcases h3 with e | e | e <;> rw [e] <;> omega
def signs : List Str := (Str.ofString "abcdefghijklmnopqrstuvwxyz").cps.toList.map fun c => ⟨#[c]⟩
def pool : List Str := signs ++ signs.map (fun s => s ++ s) ++ Txt.split (Str.ofString "add sub mul less equal tells gives blocks goes ifs elses reg word set jump unless") (Str.ofString " ")
def popS (r : List Str) (ds : List Int) : List Str × List Str := ds.foldl (fun (fr : List Str × List Str) (d : Int) => (fr.1 ++ [fr.2.getD (d % (fr.2.length : Int)).toNat ""], fr.2.eraseIdx (d % (fr.2.length : Int)).toNat)) ([], r)
theorem erase_perm {α : Type} {l : List α} {i : Nat} (h : i < l.length) : (l[i] :: l.eraseIdx i).Perm l := by
  rw [List.eraseIdx_eq_take_drop_succ]
  refine List.Perm.trans List.perm_middle.symm ?_
  rw [← List.drop_eq_getElem_cons h, List.take_append_drop]
theorem popS_snoc {r : List Str} {ds : List Int} {d : Int} : popS r (ds ++ [d]) = ((popS r ds).1 ++ [(popS r ds).2.getD (d % ((popS r ds).2.length : Int)).toNat ""], (popS r ds).2.eraseIdx (d % ((popS r ds).2.length : Int)).toNat) := by
  unfold popS
  rw [List.foldl_append]
  rfl
theorem popS_ok {r : List Str} : ∀ n (ds : List Int), ds.length = n → n ≤ r.length → (popS r ds).1.length = n ∧ (popS r ds).2.length = r.length - n ∧ ((popS r ds).1 ++ (popS r ds).2).Perm r := by
  intro n
  induction n with
  | zero =>
    intro ds h _
    have := List.length_eq_zero_iff.mp h
    subst this
    exact ⟨rfl, rfl, List.Perm.refl r⟩
  | succ n ih =>
    intro ds h hr
    have hne : ds ≠ [] := fun e => by rw [e] at h; cases h
    have e := List.dropLast_concat_getLast hne
    rw [← e]
    rw [← e, List.length_append, List.length_singleton] at h
    obtain ⟨h1, h2, h3⟩ := ih ds.dropLast (by omega) (by omega)
    rw [popS_snoc]
    generalize popS r ds.dropLast = fr at *
    generalize ds.getLast hne = d
    have h5 := Int.emod_nonneg d (show (fr.2.length : Int) ≠ 0 by omega)
    have h6 := Int.emod_lt_of_pos d (show (0 : Int) < fr.2.length by omega)
    generalize hi : (d % (fr.2.length : Int)).toNat = i
    have hl : i < fr.2.length := by omega
    refine ⟨by simp [h1], by rw [List.length_eraseIdx_of_lt hl, h2]; omega, ?_⟩
    refine List.Perm.trans ?_ h3
    rw [List.append_assoc]
    refine List.Perm.append_left _ ?_
    rw [List.getD_eq_getElem?_getD, List.getElem?_eq_getElem hl]
    exact erase_perm hl
/-! ### parents -/
def fitP (ps : List Int) (j : Int) : List Int := ((List.range j.toNat).filter fun i => decide (((ps.count (0 + (i : Nat) : Int) : Nat) : Int) < 2)).map fun i => (0 + (i : Nat) : Int)
def parL (ds : List Int) : Nat → List Int
  | 0 => []
  | n + 1 => parL ds n ++ [gi (fitP (parL ds n) (1 + (n : Nat))) (gi ds (2 + 16 * (1 + (n : Nat))) % (fitP (parL ds n) (1 + (n : Nat))).length)]
theorem mem_fitP {ps : List Int} {j x : Int} : x ∈ fitP ps j ↔ 0 ≤ x ∧ x < j ∧ ps.count x < 2 := by
  unfold fitP
  rw [List.mem_map]
  constructor
  · rintro ⟨i, h, rfl⟩
    rw [List.mem_filter, List.mem_range] at h
    have := of_decide_eq_true h.2
    exact ⟨by omega, by omega, by omega⟩
  · rintro ⟨h1, h2, h3⟩
    refine ⟨x.toNat, List.mem_filter.mpr ⟨List.mem_range.mpr (by omega), decide_eq_true ?_⟩, by omega⟩
    rw [show (0 : Int) + (x.toNat : Nat) = x by omega]
    omega
theorem par_ok (ds : List Int) : ∀ n, (parL ds n).length = n ∧ (∀ (i : Nat) x, (parL ds n)[i]? = some x → 0 ≤ x ∧ x ≤ i) ∧ (∀ k, (parL ds n).count k ≤ 2) ∧ (fitP (parL ds n) (1 + (n : Nat))).length ≠ 0
  | 0 => ⟨rfl, fun i x h => by simp [parL] at h, fun k => by simp [parL], fun h => by
    have : (0 : Int) ∈ fitP (parL ds 0) (1 + ((0 : Nat) : Int)) := mem_fitP.mpr ⟨by omega, by omega, by simp [parL]⟩
    rw [List.length_eq_zero_iff.mp h] at this; cases this⟩
  | n + 1 => by
    obtain ⟨h1, h2, h3, h4⟩ := par_ok ds n
    have h5 := Int.emod_nonneg (gi ds (2 + 16 * (1 + (n : Nat)))) (show ((fitP (parL ds n) (1 + (n : Nat))).length : Int) ≠ 0 by omega)
    have h6 := Int.emod_lt_of_pos (gi ds (2 + 16 * (1 + (n : Nat)))) (show (0 : Int) < (fitP (parL ds n) (1 + (n : Nat))).length by omega)
    have hm := mem_fitP.mp (gi_mem h5 h6)
    have hd : parL ds (n + 1) = parL ds n ++ [gi (fitP (parL ds n) (1 + (n : Nat))) (gi ds (2 + 16 * (1 + (n : Nat))) % (fitP (parL ds n) (1 + (n : Nat))).length)] := rfl
    generalize gi (fitP (parL ds n) (1 + (n : Nat))) (gi ds (2 + 16 * (1 + (n : Nat))) % (fitP (parL ds n) (1 + (n : Nat))).length) = p at *
    have a1 : (parL ds (n + 1)).length = n + 1 := by rw [hd, List.length_append, h1]; rfl
    have a2 : ∀ (i : Nat) x, (parL ds (n + 1))[i]? = some x → 0 ≤ x ∧ x ≤ i := fun i x h => by
      rw [hd] at h
      rcases Nat.lt_or_ge i n with q | q
      · rw [List.getElem?_append_left (by omega)] at h; exact h2 i x h
      · rw [List.getElem?_append_right (by omega), h1] at h
        rcases Nat.lt_or_ge (i - n) 1 with z | z
        · rw [show i - n = 0 by omega] at h
          cases h
          omega
        · rw [List.getElem?_eq_none (by simpa using z)] at h; cases h
    refine ⟨a1, a2, fun k => ?_, fun h => ?_⟩
    · rw [hd, List.count_append]
      by_cases q : k = p
      · subst q
        have : List.count k [k] = 1 := by simp
        omega
      · have : List.count k [p] = 0 := List.count_eq_zero.mpr fun z => q (List.mem_singleton.mp z)
        have := h3 k
        omega
    · have : (1 + (n : Nat) : Int) ∈ fitP (parL ds (n + 1)) (1 + ((n + 1 : Nat) : Int)) := mem_fitP.mpr ⟨by omega, by omega, by
        rw [List.count_eq_zero.mpr fun z => ?_]; · decide
        obtain ⟨i, z⟩ := List.getElem?_of_mem z
        have := (List.getElem?_eq_some_iff.mp z).1
        have := a2 i _ z
        omega⟩
      rw [List.length_eq_zero_iff.mp h] at this; cases this
/-! ### shapes -/
inductive ES where
  | give (n : Int) | go (t : Int) | cond (s t : Int)
def tgE : ES → List Int
  | .give _ => [] | .go t => [t] | .cond s t => [s, t]
structure Sh where
  c : Int
  rs : List Int
  en : ES
def dES : ES → D
  | .give n => .tup [.str "give", .int n]
  | .go t => .tup [.str "go", .int t]
  | .cond s t => .tup [.str "if", .int s, .int t]
def dSh (s : Sh) : D := .tup [.int s.c, .lst (s.rs.map .int), dES s.en]
theorem flat_dES (e : ES) : flatT (dES e) = true := by cases e <;> rfl
def kidsL (ps : List Int) (many j : Int) : List Int := ((List.range many.toNat).filter fun (i : Nat) => decide (1 ≤ i ∧ gi ps ((i : Int) - 1) = j)).map fun i => (0 + (i : Nat) : Int)
theorem mem_kids {ps : List Int} {many j x : Int} : x ∈ kidsL ps many j ↔ 1 ≤ x ∧ x < many ∧ gi ps (x - 1) = j := by
  unfold kidsL
  rw [List.mem_map]
  constructor
  · rintro ⟨i, h, rfl⟩
    rw [List.mem_filter, List.mem_range] at h
    have h2 := of_decide_eq_true h.2
    refine ⟨by omega, by omega, ?_⟩
    rw [← h2.2, show (0 + (i : Nat) : Int) - 1 = (i : Int) - 1 by omega]
  · rintro ⟨h1, h2, h3⟩
    refine ⟨x.toNat, List.mem_filter.mpr ⟨List.mem_range.mpr (by omega), decide_eq_true ⟨by omega, ?_⟩⟩, by omega⟩
    rw [← h3, show ((x.toNat : Nat) : Int) - 1 = x - 1 by omega]
theorem range_eq_map {ps : List Int} : ps = (List.range ps.length).map fun i => gi ps (i : Nat) := by
  apply List.ext_getElem?
  intro i
  rw [List.getElem?_map]
  by_cases h : i < ps.length
  · rw [List.getElem?_range h, List.getElem?_eq_getElem h]
    show some _ = some (gi ps (i : Nat))
    rw [gi_nat (List.getElem?_eq_getElem h)]
  · rw [List.getElem?_eq_none (by omega), List.getElem?_eq_none (by simpa using h)]; rfl
theorem kids_len {ps : List Int} {many j : Int} (h : (ps.length : Int) = many - 1) (hm : 1 ≤ many) : (kidsL ps many j).length = ps.count j := by
  unfold kidsL
  rw [List.length_map, ← List.countP_eq_length_filter, show many.toNat = ps.length + 1 by omega, List.range_succ_eq_map, List.countP_cons, List.countP_map]
  have e1 : (decide (1 ≤ (0 : Nat) ∧ gi ps (((0 : Nat) : Int) - 1) = j)) = false := decide_eq_false fun h => absurd h.1 (by decide)
  rw [e1, List.count]
  conv => rhs; rw [range_eq_map (ps := ps), List.countP_map]
  simp only [Bool.false_eq_true, if_false, Nat.add_zero]
  refine List.countP_congr fun i _ => ?_
  simp only [Function.comp, decide_eq_true_eq, beq_iff_eq, Nat.succ_eq_add_one]
  rw [show ((i + 1 : Nat) : Int) - 1 = (i : Nat) by omega]
  exact ⟨fun h => h.2, fun h => ⟨by omega, h⟩⟩
def endS (ks : List Int) (many d e : Int) : ES :=
  if (ks.length : Int) = 2 then .cond (gi ks (d % 2)) (gi ks (1 - d % 2))
  else if (ks.length : Int) = 1 ∧ (many = 1 ∨ d % 2 = 0) then .go (gi ks 0)
  else if (ks.length : Int) = 1 then .cond (gi [gi ks 0, 1 + e % (many - 1)] (d / 2 % 2)) (gi [gi ks 0, 1 + e % (many - 1)] (1 - d / 2 % 2))
  else if many = 1 ∨ d % 4 < 2 then .give (e % 6)
  else if d % 4 = 2 then .go (1 + e % (many - 1))
  else .cond (1 + e % (many - 1)) (1 + e / 8 % (many - 1))
theorem two_of {x y : Int} {ks : List Int} (h : (ks.length : Int) = 2) (h0 : 0 ≤ x ∧ x < 2) (hy : y = 1 - x) : ∀ k ∈ ks, k = gi ks x ∨ k = gi ks y := by
  match ks, h with
  | [a, b], _ =>
    intro k hk
    rcases (show x = 0 ∨ x = 1 by omega) with e | e
    · subst e; subst hy
      rcases List.mem_cons.mp hk with q | q
      · exact .inl q
      · exact .inr (List.mem_singleton.mp q)
    · subst e; subst hy
      rcases List.mem_cons.mp hk with q | q
      · exact .inr q
      · exact .inl (List.mem_singleton.mp q)
  | [], h => simp at h
  | [_], h => simp at h
  | _ :: _ :: _ :: _, h => simp at h; omega
theorem endS_ok {ks : List Int} {many d e : Int} (hk : ∀ k ∈ ks, 1 ≤ k ∧ k < many) (h2 : ks.length ≤ 2) (hm : 1 ≤ many) :
    (∀ k ∈ ks, k ∈ tgE (endS ks many d e)) ∧ (∀ t ∈ tgE (endS ks many d e), 1 ≤ t ∧ t < many) ∧ ∀ n, endS ks many d e = .give n → 0 ≤ n ∧ n ≤ 5 := by
  have d2 := Int.emod_nonneg d (show (2 : Int) ≠ 0 by decide)
  have d2' := Int.emod_lt_of_pos d (show (0 : Int) < 2 by decide)
  have q2 := Int.emod_nonneg (d / 2) (show (2 : Int) ≠ 0 by decide)
  have q2' := Int.emod_lt_of_pos (d / 2) (show (0 : Int) < 2 by decide)
  unfold endS
  split
  · rename_i h
    refine ⟨fun k hk' => ?_, fun t ht => ?_, fun n hn => by cases hn⟩
    · rcases two_of h ⟨d2, d2'⟩ rfl k hk' with q | q
      · rw [q]; exact List.mem_cons_self ..
      · rw [q]; exact List.mem_cons_of_mem _ (List.mem_cons_self ..)
    · rcases List.mem_cons.mp ht with q | q
      · rw [q]; exact hk _ (gi_mem d2 (by omega))
      · rw [List.mem_singleton.mp q]; exact hk _ (gi_mem (by omega) (by omega))
  · split
    · rename_i h0 h
      refine ⟨fun k hk' => ?_, fun t ht => ?_, fun n hn => by cases hn⟩
      · match ks, h.1, hk' with
        | [a], _, hk' => rw [List.mem_singleton.mp hk']; exact List.mem_cons_self ..
        | [], h, _ => simp at h
        | _ :: _ :: _, h, _ => simp at h; omega
      · rw [List.mem_singleton.mp ht]; exact hk _ (gi_mem (by omega) (by omega))
    · split
      · rename_i h0 h1 h
        have hm2 : many - 1 > 0 := by
          have := hk _ (gi_mem (ns := ks) (i := 0) (by omega) (by omega))
          omega
        have e1 := Int.emod_nonneg e (show many - 1 ≠ 0 by omega)
        have e2 := Int.emod_lt_of_pos e hm2
        have hp : ∀ x ∈ [gi ks 0, 1 + e % (many - 1)], 1 ≤ x ∧ x < many := fun x hx => by
          rcases List.mem_cons.mp hx with q | q
          · rw [q]; exact hk _ (gi_mem (by omega) (by omega))
          · rw [List.mem_singleton.mp q]; omega
        refine ⟨fun k hk' => ?_, fun t ht => ?_, fun n hn => by cases hn⟩
        · have hk0 : k = gi ks 0 := by
            match ks, h, hk' with
            | [a], _, hk' => rw [List.mem_singleton.mp hk']; rfl
            | [], h, _ => simp at h
            | _ :: _ :: _, h, _ => simp at h; omega
          rcases two_of (ks := [gi ks 0, 1 + e % (many - 1)]) (x := d / 2 % 2) rfl ⟨q2, q2'⟩ rfl (gi ks 0) (List.mem_cons_self ..) with q | q
          · rw [hk0]; exact List.mem_cons.mpr (.inl q)
          · rw [hk0]; exact List.mem_cons_of_mem _ (List.mem_singleton.mpr q)
        · rcases List.mem_cons.mp ht with q | q
          · rw [q]; exact hp _ (gi_mem q2 (by simp; omega))
          · rw [List.mem_singleton.mp q]; exact hp _ (gi_mem (by omega) (by simp; omega))
      · have hks : ks = [] := by
          match ks, h2 with
          | [], _ => rfl
          | [_], _ => rename_i h; exact absurd rfl h
          | [_, _], _ => rename_i h _ _; exact absurd rfl h
          | _ :: _ :: _ :: _, h => simp at h
        subst hks
        have e1 := Int.emod_nonneg e (show (6 : Int) ≠ 0 by decide)
        have e2 := Int.emod_lt_of_pos e (show (0 : Int) < 6 by decide)
        split
        · refine ⟨fun k hk' => (nomatch hk'), fun t ht => (nomatch ht), fun n hn => by cases hn; omega⟩
        · rename_i hmd
          have hm2 : many - 1 > 0 := by omega
          have e1 := Int.emod_nonneg e (show many - 1 ≠ 0 by omega)
          have e2 := Int.emod_lt_of_pos e hm2
          have e3 := Int.emod_nonneg (e / 8) (show many - 1 ≠ 0 by omega)
          have e4 := Int.emod_lt_of_pos (e / 8) hm2
          split
          · refine ⟨fun k hk' => (nomatch hk'), fun t ht => ?_, fun n hn => by cases hn⟩
            rw [List.mem_singleton.mp ht]; omega
          · refine ⟨fun k hk' => (nomatch hk'), fun t ht => ?_, fun n hn => by cases hn⟩
            rcases List.mem_cons.mp ht with q | q
            · rw [q]; omega
            · rw [List.mem_singleton.mp q]; omega
end Pv
namespace Pv
open PySem L2
instance : Inhabited Sh := ⟨⟨0, [], .give 0⟩⟩
def sAt (sh : List Sh) (i : Int) : Sh := sh.getD i.toNat default
theorem sAt_get {sh : List Sh} {i : Int} (h0 : 0 ≤ i) (h1 : i < sh.length) : sh[i.toNat]? = some (sAt sh i) := by
  have h : i.toNat < sh.length := by omega
  unfold sAt
  rw [List.getD_eq_getElem?_getD, List.getElem?_eq_getElem h]
  rfl
theorem sAt_mem {sh : List Sh} {i : Int} (h0 : 0 ≤ i) (h1 : i < sh.length) : sAt sh i ∈ sh := List.mem_of_getElem? (sAt_get h0 h1)
theorem ix_sh {sh : List Sh} {i : Int} (h0 : 0 ≤ i) (h1 : i < sh.length) : atI (sh.map dSh) i = some (dSh (sAt sh i)) := by
  refine atI_of h0 ?_
  rw [List.getElem?_map, sAt_get h0 h1]
  rfl
def shAt (ds ps : List Int) (many few j : Int) : Sh where
  c := gi ds (1 + 16 * j) % (3 - few + (if decide (j = 0) = true then 1 else 0))
  rs := (List.range (gi ds (1 + 16 * j + 2) % (4 - 2 * few)).toNat).map fun i => gi ds (1 + 16 * j + 3 + (0 + (i : Nat)))
  en := endS (kidsL ps many j) many (gi ds (1 + 16 * j + 11)) (gi ds (1 + 16 * j + 12))
def manyZ (ds : List Int) (most : Int) : Int := 1 + gi ds 0 % most
def shapeL (ds : List Int) (most few : Int) : List Sh := (List.range (manyZ ds most).toNat).map fun (i : Nat) => shAt ds (parL ds (manyZ ds most - 1).toNat) (manyZ ds most) few (0 + (i : Int))
/-- places of the assignments, in their order -/
def posOf (j : Int) (s : Sh) : List (Int × Int) := ((List.range s.c.toNat).map fun _ => (j, 0)) ++ ((List.range s.rs.length).filter fun (i : Nat) => !decide (gi s.rs (0 + (i : Nat)) % 4 = 0)).map fun (i : Nat) => (j, 0 + (i : Int) + 1)
def posTo (sh : List Sh) : Nat → List (Int × Int)
  | 0 => []
  | n + 1 => posTo sh n ++ posOf (0 + (n : Int)) (sAt sh (0 + (n : Int)))
def needE (sh : List Sh) : ES → Nat
  | .give n => n.toNat
  | .go t => (sAt sh t).c.toNat
  | .cond s t => 1 + (sAt sh s).c.toNat + (sAt sh t).c.toNat
def tgS (sh : List Sh) : List (List Int) := sh.map fun s => tgE s.en
structure ShOk (sh : List Sh) : Prop where
  pos : 0 < sh.length
  le : sh.length ≤ 5
  tg : ∀ s ∈ sh, ∀ t ∈ tgE s.en, 1 ≤ t ∧ t < sh.length
  gv : ∀ s ∈ sh, ∀ n, s.en = .give n → 0 ≤ n ∧ n ≤ 5
  cn : ∀ s ∈ sh, 0 ≤ s.c ∧ s.c ≤ 5
  rl : ∀ s ∈ sh, s.rs.length ≤ 7
  rch : ∀ v : Nat, v < sh.length → Rch (tgS sh) none v
  cnt : (posTo sh sh.length).length ≤ 26
  need : ∃ B, B * sh.length ≤ 80 ∧ ∀ s ∈ sh, 2 * s.rs.length + needE sh s.en ≤ B
theorem posOf_len {j : Int} {s : Sh} (h : 0 ≤ s.c) : ((posOf j s).length : Int) ≤ s.c + s.rs.length := by
  unfold posOf
  rw [List.length_append, List.length_map, List.length_range, List.length_map]
  have := List.length_filter_le (fun (i : Nat) => !decide (gi s.rs (0 + (i : Nat)) % 4 = 0)) (List.range s.rs.length)
  rw [List.length_range] at this
  omega
theorem posTo_len {sh : List Sh} {a : Int} (ha : 0 ≤ a) (h : ∀ i : Nat, i < sh.length → 0 ≤ (sAt sh (0 + (i : Int))).c ∧ (sAt sh (0 + (i : Int))).c + (sAt sh (0 + (i : Int))).rs.length ≤ a + (if i = 0 then 1 else 0)) : ∀ n : Nat, n ≤ sh.length → ((posTo sh n).length : Int) ≤ a * n + 1
  | 0, _ => by simp [posTo]
  | n + 1, hn => by
    have ih := posTo_len ha h n (by omega)
    have h1 := h n (by omega)
    have h2 := posOf_len (j := 0 + (n : Int)) h1.1
    have hz : n = 0 → ((posTo sh n).length : Int) = 0 := fun e => by subst e; rfl
    show ((posTo sh n ++ posOf _ _).length : Int) ≤ _
    rw [List.length_append, Int.natCast_add, show a * ((n + 1 : Nat) : Int) = a * n + a by rw [Int.natCast_add, Int.mul_add]; simp]
    by_cases e : n = 0
    · rw [if_pos e] at h1
      have h3 := hz e
      have h4 : a * (n : Int) = 0 := by rw [e]; simp
      omega
    · rw [if_neg e] at h1
      omega
theorem shape_len {ds : List Int} {most few : Int} (hm : 0 < most) : (shapeL ds most few).length = (manyZ ds most).toNat := by unfold shapeL; rw [List.length_map, List.length_range]
theorem many_ok {ds : List Int} {most : Int} (hm : 0 < most) : 1 ≤ manyZ ds most ∧ manyZ ds most ≤ most := by
  have h1 := Int.emod_nonneg (gi ds 0) (show most ≠ 0 by omega)
  have h2 := Int.emod_lt_of_pos (gi ds 0) hm
  unfold manyZ
  omega
theorem shape_at {ds : List Int} {most few j : Int} (hm : 0 < most) (h0 : 0 ≤ j) (h1 : j < manyZ ds most) : sAt (shapeL ds most few) j = shAt ds (parL ds (manyZ ds most - 1).toNat) (manyZ ds most) few j := by
  have h2 : j.toNat < (manyZ ds most).toNat := by omega
  unfold sAt shapeL
  rw [List.getD_eq_getElem?_getD, List.getElem?_map, List.getElem?_range h2]
  show shAt ds _ _ few (0 + ((j.toNat : Nat) : Int)) = _
  rw [show (0 : Int) + (j.toNat : Nat) = j by omega]
theorem shape_mem {ds : List Int} {most few : Int} {s : Sh} (hm : 0 < most) (h : s ∈ shapeL ds most few) : ∃ j, 0 ≤ j ∧ j < manyZ ds most ∧ s = shAt ds (parL ds (manyZ ds most - 1).toNat) (manyZ ds most) few j := by
  unfold shapeL at h
  obtain ⟨i, h1, h2⟩ := List.mem_map.mp h
  rw [List.mem_range] at h1
  exact ⟨0 + (i : Int), by omega, by omega, h2.symm⟩
theorem sh_en {ds : List Int} {most few j : Int} (hm : 0 < most) (h0 : 0 ≤ j) (h1 : j < manyZ ds most) :
    (∀ k ∈ kidsL (parL ds (manyZ ds most - 1).toNat) (manyZ ds most) j, k ∈ tgE (shAt ds (parL ds (manyZ ds most - 1).toNat) (manyZ ds most) few j).en) ∧ (∀ t ∈ tgE (shAt ds (parL ds (manyZ ds most - 1).toNat) (manyZ ds most) few j).en, 1 ≤ t ∧ t < manyZ ds most) ∧
      ∀ n, (shAt ds (parL ds (manyZ ds most - 1).toNat) (manyZ ds most) few j).en = .give n → 0 ≤ n ∧ n ≤ 5 := by
  obtain ⟨m1, m2⟩ := many_ok (ds := ds) hm
  obtain ⟨p1, p2, p3, _⟩ := par_ok ds (manyZ ds most - 1).toNat
  refine endS_ok (fun k hk => ?_) ?_ m1
  · have := mem_kids.mp hk; exact ⟨this.1, this.2.1⟩
  · rw [kids_len (by rw [p1]; omega) m1]; exact p3 j
theorem shape_ok {ds : List Int} {most few : Int} (hp : (1 ≤ most ∧ most ≤ 5 ∧ 0 ≤ few ∧ few ≤ 1) ∨ (1 ≤ most ∧ most ≤ 2 ∧ few = -2)) : ShOk (shapeL ds most few) := by
  have hm : 0 < most := by omega
  obtain ⟨m1, m2⟩ := many_ok (ds := ds) hm
  obtain ⟨p1, p2, p3, _⟩ := par_ok ds (manyZ ds most - 1).toNat
  have hl := shape_len (ds := ds) (few := few) hm
  have cAt : ∀ j, 0 ≤ j → j < manyZ ds most → 0 ≤ (shAt ds (parL ds (manyZ ds most - 1).toNat) (manyZ ds most) few j).c ∧ (shAt ds (parL ds (manyZ ds most - 1).toNat) (manyZ ds most) few j).c ≤ 2 - few + (if j = 0 then 1 else 0) := fun j h0 h1 => by
    show 0 ≤ gi ds (1 + 16 * j) % (3 - few + (if decide (j = 0) = true then 1 else 0)) ∧ gi ds (1 + 16 * j) % (3 - few + (if decide (j = 0) = true then 1 else 0)) ≤ _
    simp only [decide_eq_true_eq]
    have e : (0 : Int) < 3 - few + (if j = 0 then 1 else 0) := by split <;> omega
    have e1 := Int.emod_nonneg (gi ds (1 + 16 * j)) (Int.ne_of_gt e)
    have e2 := Int.emod_lt_of_pos (gi ds (1 + 16 * j)) e
    omega
  have rAt : ∀ j, 0 ≤ j → j < manyZ ds most → ((shAt ds (parL ds (manyZ ds most - 1).toNat) (manyZ ds most) few j).rs.length : Int) ≤ 3 - 2 * few := fun j h0 h1 => by
    show ((((List.range (gi ds (1 + 16 * j + 2) % (4 - 2 * few)).toNat).map _).length : Nat) : Int) ≤ _
    rw [List.length_map, List.length_range]
    have e : (0 : Int) < 4 - 2 * few := by omega
    have e1 := Int.emod_nonneg (gi ds (1 + 16 * j + 2)) (Int.ne_of_gt e)
    have e2 := Int.emod_lt_of_pos (gi ds (1 + 16 * j + 2)) e
    omega
  refine ⟨by omega, by omega, fun s hs t ht => ?_, fun s hs n hn => ?_, fun s hs => ?_, fun s hs => ?_, fun v hv => ?_, ?_, ?_⟩
  · obtain ⟨j, h0, h1, rfl⟩ := shape_mem hm hs
    have := (sh_en hm h0 h1).2.1 t ht
    omega
  · obtain ⟨j, h0, h1, rfl⟩ := shape_mem hm hs
    exact (sh_en hm h0 h1).2.2 n hn
  · obtain ⟨j, h0, h1, rfl⟩ := shape_mem hm hs
    have := cAt j h0 h1
    split at this <;> omega
  · obtain ⟨j, h0, h1, rfl⟩ := shape_mem hm hs
    have := rAt j h0 h1
    omega
  · have key : ∀ n v : Nat, v ≤ n → v < (shapeL ds most few).length → Rch (tgS (shapeL ds most few)) none v := by
      intro n
      induction n with
      | zero => intro v h _; rw [show v = 0 by omega]; exact .zero (by simp)
      | succ n ih =>
        intro v h hv
        rcases Nat.lt_or_ge v (n + 1) with q | q
        · exact ih v (by omega) hv
        · have hq : v - 1 < (parL ds (manyZ ds most - 1).toNat).length := by rw [p1]; omega
          have hx := p2 (v - 1) _ (List.getElem?_eq_getElem hq)
          have hg : gi (parL ds (manyZ ds most - 1).toNat) ((v : Int) - 1) = (parL ds (manyZ ds most - 1).toNat)[v - 1] := by
            rw [show ((v : Int) - 1) = ((v - 1 : Nat) : Int) by omega]; exact gi_nat (List.getElem?_eq_getElem hq)
          generalize (parL ds (manyZ ds most - 1).toNat)[v - 1] = u at *
          have hu : Rch (tgS (shapeL ds most few)) none u := by
            have := ih u.toNat (by omega) (by omega)
            rwa [show ((u.toNat : Nat) : Int) = u by omega] at this
          have hk : (v : Int) ∈ kidsL (parL ds (manyZ ds most - 1).toNat) (manyZ ds most) u := mem_kids.mpr ⟨by omega, by omega, hg⟩
          refine .step hu hx.1 ?_ ((sh_en (few := few) hm hx.1 (by omega)).1 _ hk) (by simp)
          unfold tgS
          rw [List.getElem?_map, sAt_get hx.1 (by omega), shape_at hm hx.1 (by omega)]
          rfl
    exact key v v (Nat.le_refl _) hv
  · have hb : ∀ i : Nat, i < (shapeL ds most few).length → 0 ≤ (sAt (shapeL ds most few) (0 + (i : Int))).c ∧ (sAt (shapeL ds most few) (0 + (i : Int))).c + (sAt (shapeL ds most few) (0 + (i : Int))).rs.length ≤ (5 - 3 * few) + (if i = 0 then 1 else 0) := fun i hi => by
      rw [shape_at hm (by omega) (by omega)]
      have h1 := cAt (0 + (i : Int)) (by omega) (by omega)
      have h2 := rAt (0 + (i : Int)) (by omega) (by omega)
      by_cases e : i = 0
      · rw [if_pos e]
        rw [if_pos (by omega)] at h1
        omega
      · rw [if_neg e]
        rw [if_neg (by omega)] at h1
        omega
    have := posTo_len (a := 5 - 3 * few) (by omega) hb (shapeL ds most few).length (Nat.le_refl _)
    have : ((posTo (shapeL ds most few) (shapeL ds most few).length).length : Int) ≤ 26 := by
      refine Int.le_trans this ?_
      have hn : ((shapeL ds most few).length : Int) = manyZ ds most := by omega
      rw [hn]
      rcases hp with h | h
      · have : (5 - 3 * few) * manyZ ds most ≤ 5 * 5 := Int.le_trans (Int.mul_le_mul_of_nonneg_right (by omega) (by omega)) (Int.mul_le_mul_of_nonneg_left (by omega) (by omega))
        omega
      · obtain ⟨_, _, rfl⟩ := h
        omega
    omega
  · have hc : ∀ t, 1 ≤ t → t < manyZ ds most → ((sAt (shapeL ds most few) t).c.toNat : Int) ≤ 2 - few := fun t h0 h1 => by
      rw [shape_at hm (by omega) h1]
      have := cAt t (by omega) h1
      rw [if_neg (by omega)] at this
      omega
    have hne : ∀ s ∈ shapeL ds most few, (2 * s.rs.length + needE (shapeL ds most few) s.en : Int) ≤ (if few = -2 then 23 else 11) := fun s hs => by
      obtain ⟨j, h0, h1, rfl⟩ := shape_mem hm hs
      have h2 := rAt j h0 h1
      have hb : (2 * (3 - 2 * few) + 5 : Int) ≤ (if few = -2 then 23 else 11) ∧ 2 * (3 - 2 * few) + 1 + 2 * (2 - few) ≤ (if few = -2 then 23 else 11) := by split <;> omega
      obtain ⟨_, h3, h4⟩ := sh_en (few := few) hm h0 h1
      generalize shAt ds (parL ds (manyZ ds most - 1).toNat) (manyZ ds most) few j = s at *
      cases q : s.en with
      | give n => have := h4 n q; simp only [needE]; omega
      | go t =>
        rw [q] at h3
        have := h3 t (List.mem_singleton_self _)
        have := hc t this.1 this.2
        simp only [needE]; omega
      | cond u t =>
        rw [q] at h3
        have a1 := h3 u (List.mem_cons_self ..)
        have a2 := h3 t (List.mem_cons_of_mem _ (List.mem_cons_self ..))
        have := hc u a1.1 a1.2
        have := hc t a2.1 a2.2
        simp only [needE]; omega
    refine ⟨(if few = -2 then 23 else 11 : Int).toNat, ?_, fun s hs => by have := hne s hs; omega⟩
    have hn : ((shapeL ds most few).length : Int) = manyZ ds most := by omega
    rcases hp with h | h
    · rw [if_neg (by omega)]
      have : (11 : Int).toNat * (shapeL ds most few).length ≤ 11 * 5 := Nat.mul_le_mul (by decide) (by omega)
      omega
    · obtain ⟨_, _, rfl⟩ := h
      rw [if_pos rfl]
      have : (23 : Int).toNat * (shapeL ds most (-2)).length ≤ 23 * 2 := Nat.mul_le_mul (by decide) (by omega)
      omega
end Pv
namespace Pv
open PySem L2 PyProof.Rows
local macro_rules | `(tactic| walk_at "ar") => `(tactic| first | assumption | omega | decide)
local macro_rules | `(tactic| walk_at "len") => `(tactic| first | assumption | omega | (simp; done) | (simp; omega) | exact Nat.le_of_ble_eq_true rfl)
local macro_rules | `(tactic| walk_at "+") => `(tactic| first | exact Op2.addI | exact Op2.addL (by walk_at "len") | exact Op2.addS (by walk_at "len") | exact Op2.addT (by simp) (by walk_at "len"))
local macro_rules | `(tactic| walk_at "-") => `(tactic| exact Op2.subI)
local macro_rules | `(tactic| walk_at "%") => `(tactic| exact Op2.modI (by walk_at "ar"))
local macro_rules | `(tactic| walk_at "//") => `(tactic| exact Op2.divW (by walk_at "ar") (by walk_at "ar"))
local macro_rules | `(tactic| walk_at "*") => `(tactic| exact Op2.mulI (by first | exact .inl ⟨by omega, by omega⟩ | exact .inr ⟨by omega, by omega⟩))
local macro_rules | `(tactic| walk_at "**") => `(tactic| exact Op2.powI (by refine ⟨?_, ?_, ?_⟩ <;> omega))
local macro_rules | `(tactic| walk_at "<") => `(tactic| exact Op2.ltI)
local macro_rules | `(tactic| walk_at "<=") => `(tactic| exact Op2.leI)
local macro_rules | `(tactic| walk_at ">") => `(tactic| exact Op2.gtI)
local macro_rules | `(tactic| walk_at ">=") => `(tactic| exact Op2.geI)
local macro_rules | `(tactic| walk_at "==") => `(tactic| first | exact Op2.eqI | exact Op2.eqS | exact Op2.eqB | exact Op2.eqIN | exact Op2.eqSI | exact Op2.eqIS)
local macro_rules | `(tactic| walk_at "!=") => `(tactic| first | exact Op2.neI | exact Op2.neS | exact Op2.neIN)
local macro_rules | `(tactic| walk_at "in") => `(tactic| first | exact Op2.inI | exact Op2.inS)
local macro_rules | `(tactic| walk_at "not in") => `(tactic| first | exact Op2.niI | exact Op2.niS)
local macro_rules | `(tactic| walk_at "is") => `(tactic| first | exact Op2.isN rfl | exact Op2.isO rfl)
local macro_rules | `(tactic| walk_at "is not") => `(tactic| first | exact Op2.isnN rfl | exact Op2.isnO rfl)
local macro_rules | `(tactic| walk_at "c len") => `(tactic| first | exact Cl.lenM | exact Cl.lenMT | exact Cl.len rfl | exact Cl.lenS (by walk_at "len"))
local macro_rules | `(tactic| walk_at "c int") => `(tactic| first | exact Cl.int | exact Cl.intB)
local macro_rules | `(tactic| walk_at "c max") => `(tactic| exact Cl.max2 rfl)
local macro_rules | `(tactic| walk_at "c min") => `(tactic| exact Cl.min2 rfl)
local macro_rules | `(tactic| walk_at "c tuple") => `(tactic| first | exact Cl.tupL | exact Cl.tupT)
local macro_rules | `(tactic| walk_at "c list") => `(tactic| first | exact Cl.list (.inl rfl) | exact Cl.list (.inr rfl))
local macro_rules | `(tactic| walk_at "c isinstance") => `(tactic| exact Cl.isi (by decide +kernel) (by decide))
local macro_rules | `(tactic| walk_at "rg") => `(tactic| first | (constructor <;> omega) | (refine ⟨?_, ?_, ?_, ?_⟩ <;> omega))
local macro_rules | `(tactic| walk_at "nz") => `(tactic| try simp only [List.map_cons, List.map_nil, List.set_cons_zero, List.set_cons_succ, slotOf, kdOf, kdB])
local macro_rules | `(tactic| walk_at "m append") => `(tactic| exact Chg.append (by walk_at "len"))
local macro_rules | `(tactic| walk_at "m split") => `(tactic| exact Mt.split (by decide) (by decide))
local macro_rules | `(tactic| walk_at "m count") => `(tactic| exact Mt.countI)
local macro_rules | `(tactic| walk_at "ix") => `(tactic| first | exact Ix2.l (by assumption) | exact Ix2.t (by assumption) | exact Ix2.t rfl | exact Ix2.l rfl)
local macro_rules | `(tactic| walk_at "m extend") => `(tactic| first | exact Chg.extend (.inl rfl) (by walk_at "len") | exact Chg.extend (.inr rfl) (by walk_at "len"))
local macro_rules | `(tactic| walk_at "m pop") => `(tactic| exact Chg.popM (by walk_at "ar") (by walk_at "ar") (by walk_at "ar"))
local macro_rules | `(tactic| walk_at "vis") => `(tactic| first | exact Or.inl rfl | exact Or.inr (Or.inl rfl) | exact Or.inr (Or.inr rfl))
local macro_rules | `(tactic| walk_at "loc") => `(tactic| first | exact Or.inl rfl | exact Or.inr rfl)
local macro_rules | `(tactic| walk_at "flat") => `(tactic| rfl)
local macro_rules | `(tactic| walk_at "lrg") => `(tactic| exact RgOk.of_le (by omega) (by omega) (by omega) (by omega))

section
variable {P : Program} {w : World} {K : PySem.W.Frag} {mg : Str → Option Value} {base : Heap} {f : Addr} {fd : FuncData}
/-! ### drawing -/
def cellZ (ns : List Int) (k : Int) : Int := (ns ++ [0]).getD (k % (if (ns.length : Int) > 1 then (ns.length : Int) else 1)).toNat 0
def c_law_cell : Ct := fun ds R => ∃ (ns : List Int) (k : Int), ds = [.lst (ns.map .int), .int k] ∧ ns.length ≤ 63 ∧ R (.int (cellZ ns k)) false
theorem cell_at (ns : List Int) (k : Int) : atI (ns.map D.int ++ [D.int 0]) (k % (if (ns.length : Int) > 1 then (ns.length : Int) else 1)) = some (.int (cellZ ns k)) := by
  unfold cellZ
  generalize hm : (if (ns.length : Int) > 1 then (ns.length : Int) else 1) = m
  have h1 : 0 < m := by split at hm <;> omega
  have h2 := Int.emod_nonneg k (Int.ne_of_gt h1)
  have h3 := Int.emod_lt_of_pos k h1
  have h4 : (k % m).toNat < (ns ++ [0]).length := by rw [List.length_append]; simp only [List.length_cons, List.length_nil]; split at hm <;> omega
  refine atI_of h2 ?_
  have e : ns.map D.int ++ [D.int 0] = (ns ++ [0]).map D.int := by rw [List.map_append]; rfl
  rw [e, List.getElem?_map, List.getD_eq_getElem?_getD, List.getElem?_eq_getElem h4]
  rfl
theorem ok_law_cell (F : Fd K "_law_cell" s_law_cell f fd) (hb : Bt mg)  : FnOk P w K mg base CX0 (1 + 1) f fd p_law_cell (spP K c_law_cell) := by
  have sc := sc_law_cell
  refine fnP F sc (fun ds R h => ?_) (fun cdv A outer s H E ds R hr h => ?_)
  · obtain ⟨ns, k, rfl, _⟩ := h; rfl
  obtain ⟨ns, k, rfl, h1, h⟩ := h
  show W _ _ [some (.sh, _), some (.sh, _)] _
  have hx := cell_at ns k
  have hl : (ns.map D.int).length ≤ 63 := by rw [List.length_map]; exact h1
  have hm : 0 < (if (ns.length : Int) > 1 then (ns.length : Int) else 1) := by split <;> omega
  refine W.retK (EK.ix (EK.r (EK.bin (EK.r (nm 0 rfl)) (EK.r (EK.lst (EFA.cons EK.int rfl EFA.nil))) (by walk_at "+"))) (EK.r (EK.bin (EK.r (nm 1 rfl)) (EK.r (EK.cB (ERA.cons (EK.r EK.int) (ERA.cons (EK.r (EK.cB (ERA.cons (EK.r (nm 0 rfl)) ERA.nil) (by walk_at "c len") rfl hb.len boot_len)) ERA.nil)) (by walk_at "c max") rfl hb.max boot_max)) (by walk_at "%"))) (by walk_at "ix")) ?_  -- 1
  exact h
def mixZ (c k z : Int) : Int := (((c % 2147483647 + 7919 * k + z) ^ (5 : Int).toNat % 2147483647) + 31 * k + z) * 40692 % 2147483629
def c_law_mixed : Ct := fun ds R => ∃ c k z : Int, ds = [.int c, .int k, .int z] ∧ 0 ≤ k ∧ k ≤ 1000 ∧ 0 ≤ z ∧ z ≤ 1000000 ∧ R (.int (mixZ c k z)) false
theorem mixZ_nn (c k z : Int) : 0 ≤ mixZ c k z := Int.emod_nonneg _ (by decide)
theorem ok_law_mixed (F : Fd K "_law_mixed" s_law_mixed f fd) (hb : Bt mg)  : FnOk P w K mg base CX0 (1 + 1) f fd p_law_mixed (spP K c_law_mixed) := by
  have sc := sc_law_mixed
  refine fnP F sc (fun ds R h => ?_) (fun cdv A outer s H E ds R hr h => ?_)
  · obtain ⟨c, k, z, rfl, _⟩ := h; rfl
  obtain ⟨c, k, z, rfl, h1, h2, h3, h4, h⟩ := h
  show W _ _ [some (.sh, _), some (.sh, _), some (.sh, _), none] _
  refine W.asgK 3 sc.nd (EK.bin (EK.r (EK.bin (EK.r (EK.bin (EK.r (EK.bin (EK.r (EK.bin (EK.r (EK.cT (ERA.cons (EK.r (nm 0 rfl)) ERA.nil) (by walk_at "c int") rfl hb.int boot_int)) (EK.r EK.int) (by walk_at "%"))) (EK.r (EK.bin (EK.r EK.int) (EK.r (nm 1 rfl)) (by walk_at "*"))) (by walk_at "+"))) (EK.r (nm 2 rfl)) (by walk_at "+"))) (EK.r EK.int) (by walk_at "**"))) (EK.r EK.int) (by walk_at "%")) ?_  -- 1
  walk_at "nz"
  refine W.retK (EK.bin (EK.r (EK.bin (EK.r (EK.bin (EK.r (EK.bin (EK.r (nm 3 rfl)) (EK.r (EK.bin (EK.r EK.int) (EK.r (nm 1 rfl)) (by walk_at "*"))) (by walk_at "+"))) (EK.r (nm 2 rfl)) (by walk_at "+"))) (EK.r EK.int) (by walk_at "*"))) (EK.r EK.int) (by walk_at "%")) ?_  -- 2
  exact h
def drawsL (c base z : Int) : Nat → Int × List Int
  | 0 => (if c ≥ 10 ^ 18 then c else 0, [])
  | n + 1 => if (drawsL c base z n).1 > 0 then ((drawsL c base z n).1 / base, (drawsL c base z n).2 ++ [(drawsL c base z n).1 % base]) else ((drawsL c base z n).1, (drawsL c base z n).2 ++ [mixZ c n z / 7])
def draws (c many base z : Int) : List Int := (drawsL c base z many.toNat).2
theorem drawsL_len (c base z : Int) : ∀ n, (drawsL c base z n).2.length = n
  | 0 => rfl
  | n + 1 => by unfold drawsL; split <;> simp [drawsL_len c base z n]
theorem draws_len (c many base z : Int) : (draws c many base z).length = many.toNat := drawsL_len ..
theorem drawsL_nn {c base z : Int} (hb : 0 < base) : ∀ n, ∀ x ∈ (drawsL c base z n).2, 0 ≤ x
  | 0 => fun x hx => by cases hx
  | n + 1 => fun x hx => by
    unfold drawsL at hx
    split at hx
    · rcases List.mem_append.mp hx with h | h
      · exact drawsL_nn hb n x h
      · rw [List.mem_singleton.mp h]; exact Int.emod_nonneg _ (Int.ne_of_gt hb)
    · rcases List.mem_append.mp hx with h | h
      · exact drawsL_nn hb n x h
      · rw [List.mem_singleton.mp h]; exact Int.ediv_nonneg (mixZ_nn ..) (by decide)
theorem draws_nn {c many base z : Int} (hb : 0 < base) : ∀ x ∈ draws c many base z, 0 ≤ x := drawsL_nn hb _
theorem range_cut {n : Nat} {pre post : List Nat} {x : Nat} (e : List.range n = pre ++ x :: post) : x = pre.length ∧ x < n := by
  have h1 : (List.range n)[pre.length]? = some x := by rw [e, List.getElem?_append_right (Nat.le_refl _), Nat.sub_self]; rfl
  obtain ⟨h2, h3⟩ := List.getElem?_eq_some_iff.mp h1
  rw [List.getElem_range] at h3
  rw [List.length_range] at h2
  exact ⟨h3.symm, by omega⟩
local macro_rules | `(tactic| walk_at "ct law_mixed") => `(tactic| exact ⟨_, _, _, rfl, by omega, by omega, by omega, by omega, rfl, rfl⟩)
def c_law_draws : Ct := fun ds R => ∃ c n b z : Int, ds = [.int c, .int n, .int b, .int z] ∧ 0 ≤ n ∧ n ≤ 1000 ∧ 0 < b ∧ b < 10 ^ 100 ∧ 0 ≤ z ∧ z ≤ 1000000 ∧ R (.lst ((draws c n b z).map .int)) true
theorem ok_law_draws (F : Fd K "_law_draws" s_law_draws f fd) (hb : Bt mg) (D_law_mixed : Df P w K mg base "_law_mixed" p_law_mixed 2 c_law_mixed) : FnOk P w K mg base CX0 (2 + 1) f fd p_law_draws (spP K c_law_draws) := by
  have sc := sc_law_draws
  refine fnP F sc (fun ds R h => ?_) (fun cdv A outer s H E ds R hr h => ?_)
  · obtain ⟨c, n, b, z, rfl, _⟩ := h; rfl
  obtain ⟨c, n, b, z, rfl, h1, h2, h3, h4, h5, h6, h⟩ := h
  show W _ _ [some (.sh, _), some (.sh, _), some (.sh, _), some (.sh, _), none, none, none] _
  refine W.asgK 4 sc.nd (EK.lst EFA.nil) ?_  -- 1
  walk_at "nz"
  refine W.asgK 5 sc.nd EK.int ?_  -- 2
  walk_at "nz"
  refine W.cons (R := fun ρ => ρ = [some (.sh, .int c), some (.sh, .int n), some (.sh, .int b), some (.sh, .int z), some (.own, .lst ((drawsL c b z 0).2.map .int)), some (.sh, .int (drawsL c b z 0).1), none]) (WS.ifS (ET.cmp (EK.r (nm 0 rfl)) (EK.r (EK.bin (EK.r EK.int) (EK.r EK.int) (by walk_at "**"))) (by walk_at ">=")) (fun hc => ?_) (fun hc => ?_)) ?_  -- 3
  ·
    refine W.asgK 5 sc.nd (nm 0 rfl) ?_  -- 4
    walk_at "nz"
    refine W.nil ?_
    have hc : 10 ^ (18 : Int).toNat ≤ c := of_decide_eq_true hc
    unfold drawsL
    rw [if_pos (show c ≥ 10 ^ 18 from hc)]
    rfl
  ·
    refine W.nil ?_
    have hc : ¬ 10 ^ (18 : Int).toNat ≤ c := of_decide_eq_false hc
    unfold drawsL
    rw [if_neg (show ¬ c ≥ 10 ^ 18 from hc)]
    rfl
  rintro _ rfl
  refine W.cons' (WS.for (xs := List.range n.toNat) (f := fun i => D.int (0 + (i : Nat))) .never rfl (IT.rng rfl hb.range (ERA.cons (EK.r (nm 1 rfl)) ERA.nil) (by walk_at "rg")) (fun pre ρ => ∃ o, ρ = [some (.sh, .int c), some (.sh, .int n), some (.sh, .int b), some (.sh, .int z), some (.own, .lst ((drawsL c b z pre.length).2.map .int)), some (.sh, .int (drawsL c b z pre.length).1), o]) ?h0 (fun pre x post ρ e j => ?_) (fun ρ j => ?_))  -- 5
  case h0 =>
    exact ⟨_, rfl⟩
  ·
    obtain ⟨o, rfl⟩ := j
    obtain ⟨rfl, hx⟩ := range_cut e
    have hl : ((drawsL c b z pre.length).2.map D.int).length = pre.length := by rw [List.length_map, drawsL_len]
    have hn : (pre ++ [pre.length]).length = pre.length + 1 := by simp
    refine ⟨_, _, (GB.name (i := 6) sc.nd rfl (by walk_at "loc")), ?_⟩
    walk_at "nz"
    refine W.cons (R := fun ρ => ∃ o, ρ = [some (.sh, .int c), some (.sh, .int n), some (.sh, .int b), some (.sh, .int z), some (.own, .lst ((drawsL c b z (pre.length + 1)).2.map .int)), some (.sh, .int (drawsL c b z (pre.length + 1)).1), o]) (WS.ifS (ET.cmp (EK.r (nm 5 rfl)) (EK.r EK.int) (by walk_at ">")) (fun hc => ?_) (fun hc => ?_)) ?_  -- 6
    ·
      have hc : 0 < (drawsL c b z pre.length).1 := of_decide_eq_true hc
      refine W.exprV (EV.cg 4 PySem.F.slot_list_append PySem.F.type_list_append rfl (by walk_at "vis") rfl (by decide) (EVA.cons (EV.q (EK.bin (EK.r (EK.cT (ERA.cons (EK.r (nm 5 rfl)) ERA.nil) (by walk_at "c int") rfl hb.int boot_int)) (EK.r (nm 2 rfl)) (by walk_at "%")) rfl) rfl EVA.nil) rfl (by walk_at "m append") (by decide)) ?_  -- 7
      walk_at "nz"
      refine W.asgK 5 sc.nd (EK.bin (EK.r (nm 5 rfl)) (EK.r (nm 2 rfl)) (by walk_at "//")) ?_  -- 8
      walk_at "nz"
      refine W.nil ?_
      refine ⟨some (.sh, .int (0 + (pre.length : Nat))), ?_⟩
      rw [drawsL, if_pos hc, List.map_append]
      rfl
    ·
      have hc : ¬ 0 < (drawsL c b z pre.length).1 := of_decide_eq_false hc
      refine W.exprV (EV.cg 4 PySem.F.slot_list_append PySem.F.type_list_append rfl (by walk_at "vis") rfl (by decide) (EVA.cons (EV.q (EK.bin (EK.r (EK.call D_law_mixed hr (by first | decide | omega) rfl (EFA.cons (nm 0 rfl) rfl (EFA.cons (nm 6 rfl) rfl (EFA.cons (nm 3 rfl) rfl EFA.nil))) (by walk_at "ct law_mixed"))) (EK.r EK.int) (by walk_at "//")) rfl) rfl EVA.nil) rfl (by walk_at "m append") (by decide)) ?_  -- 9
      walk_at "nz"
      refine W.nil ?_
      refine ⟨some (.sh, .int (0 + (pre.length : Nat))), ?_⟩
      rw [drawsL, if_neg hc, List.map_append, show mixZ c (pre.length : Nat) z = mixZ c (0 + (pre.length : Nat)) z by rw [Int.zero_add]]
      rfl
    rintro _ ⟨o, rfl⟩
    refine W.nil ?_
    show ∃ o', _ = _
    rw [hn]
    exact ⟨o, rfl⟩
  obtain ⟨o, rfl⟩ := j
  rw [List.length_range]
  show W _ _ _ _
  refine W.retS 4 rfl ?_  -- 10
  exact h

end
end Pv
namespace Pv
open PySem L2 PyProof.Rows
local macro_rules | `(tactic| walk_at "ar") => `(tactic| first | assumption | omega | decide)
local macro_rules | `(tactic| walk_at "len") => `(tactic| first | assumption | omega | (simp; done) | (simp; omega) | exact Nat.le_of_ble_eq_true rfl)
local macro_rules | `(tactic| walk_at "+") => `(tactic| first | exact Op2.addI | exact Op2.addL (by walk_at "len") | exact Op2.addS (by walk_at "len") | exact Op2.addT (by simp) (by walk_at "len"))
local macro_rules | `(tactic| walk_at "-") => `(tactic| exact Op2.subI)
local macro_rules | `(tactic| walk_at "%") => `(tactic| exact Op2.modI (by walk_at "ar"))
local macro_rules | `(tactic| walk_at "//") => `(tactic| exact Op2.divW (by walk_at "ar") (by walk_at "ar"))
local macro_rules | `(tactic| walk_at "*") => `(tactic| exact Op2.mulI (by first | exact .inl ⟨by omega, by omega⟩ | exact .inr ⟨by omega, by omega⟩))
local macro_rules | `(tactic| walk_at "**") => `(tactic| exact Op2.powI (by refine ⟨?_, ?_, ?_⟩ <;> omega))
local macro_rules | `(tactic| walk_at "<") => `(tactic| exact Op2.ltI)
local macro_rules | `(tactic| walk_at "<=") => `(tactic| exact Op2.leI)
local macro_rules | `(tactic| walk_at ">") => `(tactic| exact Op2.gtI)
local macro_rules | `(tactic| walk_at ">=") => `(tactic| exact Op2.geI)
local macro_rules | `(tactic| walk_at "==") => `(tactic| first | exact Op2.eqI | exact Op2.eqS | exact Op2.eqB | exact Op2.eqIN | exact Op2.eqSI | exact Op2.eqIS)
local macro_rules | `(tactic| walk_at "!=") => `(tactic| first | exact Op2.neI | exact Op2.neS | exact Op2.neIN)
local macro_rules | `(tactic| walk_at "in") => `(tactic| first | exact Op2.inI | exact Op2.inS)
local macro_rules | `(tactic| walk_at "not in") => `(tactic| first | exact Op2.niI | exact Op2.niS)
local macro_rules | `(tactic| walk_at "is") => `(tactic| first | exact Op2.isN rfl | exact Op2.isO rfl)
local macro_rules | `(tactic| walk_at "is not") => `(tactic| first | exact Op2.isnN rfl | exact Op2.isnO rfl)
local macro_rules | `(tactic| walk_at "c len") => `(tactic| first | exact Cl.lenM | exact Cl.lenMT | exact Cl.len rfl | exact Cl.lenS (by walk_at "len"))
local macro_rules | `(tactic| walk_at "c int") => `(tactic| first | exact Cl.int | exact Cl.intB)
local macro_rules | `(tactic| walk_at "c max") => `(tactic| exact Cl.max2 rfl)
local macro_rules | `(tactic| walk_at "c min") => `(tactic| exact Cl.min2 rfl)
local macro_rules | `(tactic| walk_at "c tuple") => `(tactic| first | exact Cl.tupL | exact Cl.tupT)
local macro_rules | `(tactic| walk_at "c list") => `(tactic| first | exact Cl.list (.inl rfl) | exact Cl.list (.inr rfl))
local macro_rules | `(tactic| walk_at "c isinstance") => `(tactic| exact Cl.isi (by decide +kernel) (by decide))
local macro_rules | `(tactic| walk_at "rg") => `(tactic| first | (constructor <;> omega) | (refine ⟨?_, ?_, ?_, ?_⟩ <;> omega))
local macro_rules | `(tactic| walk_at "nz") => `(tactic| try simp only [List.map_cons, List.map_nil, List.set_cons_zero, List.set_cons_succ, slotOf, kdOf, kdB])
local macro_rules | `(tactic| walk_at "m append") => `(tactic| exact Chg.append (by walk_at "len"))
local macro_rules | `(tactic| walk_at "m split") => `(tactic| exact Mt.split (by decide) (by decide))
local macro_rules | `(tactic| walk_at "m count") => `(tactic| exact Mt.countI)
local macro_rules | `(tactic| walk_at "ix") => `(tactic| first | exact Ix2.l (by assumption) | exact Ix2.t (by assumption) | exact Ix2.t rfl | exact Ix2.l rfl)
local macro_rules | `(tactic| walk_at "m extend") => `(tactic| first | exact Chg.extend (.inl rfl) (by walk_at "len") | exact Chg.extend (.inr rfl) (by walk_at "len"))
local macro_rules | `(tactic| walk_at "m pop") => `(tactic| exact Chg.popM (by walk_at "ar") (by walk_at "ar") (by walk_at "ar"))
local macro_rules | `(tactic| walk_at "vis") => `(tactic| first | exact Or.inl rfl | exact Or.inr (Or.inl rfl) | exact Or.inr (Or.inr rfl))
local macro_rules | `(tactic| walk_at "loc") => `(tactic| first | exact Or.inl rfl | exact Or.inr rfl)
local macro_rules | `(tactic| walk_at "flat") => `(tactic| rfl)
local macro_rules | `(tactic| walk_at "lrg") => `(tactic| exact RgOk.of_le (by omega) (by omega) (by omega) (by omega))

section
variable {P : Program} {w : World} {K : PySem.W.Frag} {mg : Str → Option Value} {base : Heap} {f : Addr} {fd : FuncData}
theorem pool_len : pool.length = 68 := by decide +kernel
theorem pool_nd : pool.Nodup := by decide +kernel
def c_law_names : Ct := fun ds R => ∃ xs : List Int, ds = [.lst (xs.map .int)] ∧ xs.length ≤ 60 ∧ R (.lst ((popS pool xs).1.map .str)) true
theorem signs_eq : ((Str.ofString "abcdefghijklmnopqrstuvwxyz").cps.toList.filterMap fun c => some (D.str ⟨#[c]⟩)) = signs.map D.str := by
  rw [fm_all]; unfold signs; rw [List.map_map]; rfl
theorem signs2_eq : ((Str.ofString "abcdefghijklmnopqrstuvwxyz").cps.toList.filterMap fun c => some (D.str ((⟨#[c]⟩ : Str) ++ ⟨#[c]⟩))) = (signs.map fun s => s ++ s).map D.str := by
  rw [fm_all]; unfold signs; rw [List.map_map, List.map_map]; rfl
theorem ok_law_names (F : Fd K "_law_names" s_law_names f fd) (hb : Bt mg)  : FnOk P w K mg base CX0 (1 + 1) f fd p_law_names (spP K c_law_names) := by
  have sc := sc_law_names
  refine fnP F sc (fun ds R h => ?_) (fun cdv A outer s H E ds R hr h => ?_)
  · obtain ⟨xs, rfl, _⟩ := h; rfl
  obtain ⟨xs, rfl, h1, h⟩ := h
  show W _ _ [some (.sh, _), none, none, none, none, none, none] _
  refine W.asgK 1 sc.nd EK.str ?_  -- 1
  walk_at "nz"
  refine W.asgK 2 sc.nd (EK.bin (EK.r (EK.lc (LcK.mk (xs := (Str.ofString "abcdefghijklmnopqrstuvwxyz").cps.toList) (f := fun c => D.str ⟨#[c]⟩) (g := fun c => some (D.str ⟨#[c]⟩)) (own := [ow N_law_names 6]) (IQ.str (EK.r (nm 1 rfl))) (blkOk_by (N := N_law_names) (sc := defScope s_law_names) (by decide +kernel)) (by decide +kernel) fun x hx => ⟨_, _, _, fun _ _ _ _ _ => (GB.name (i := 6) sc.nd rfl (by walk_at "loc")), (by decide), fun _ _ _ _ _ => EIf.nil, fun h => ⟨_, _, fun _ _ _ _ _ => (nm 6 rfl), rfl, rfl⟩, fun h => nomatch h⟩) rfl sc.nd)) (EK.r (EK.lc (LcK.mk (xs := (Str.ofString "abcdefghijklmnopqrstuvwxyz").cps.toList) (f := fun c => D.str ⟨#[c]⟩) (g := fun c => some (D.str ((⟨#[c]⟩ : Str) ++ ⟨#[c]⟩))) (own := [ow N_law_names 6]) (IQ.str (EK.r (nm 1 rfl))) (blkOk_by (N := N_law_names) (sc := defScope s_law_names) (by decide +kernel)) (by decide +kernel) fun x hx => ⟨_, _, _, fun _ _ _ _ _ => (GB.name (i := 6) sc.nd rfl (by walk_at "loc")), (by decide), fun _ _ _ _ _ => EIf.nil, fun h => ⟨_, _, fun _ _ _ _ _ => (EK.bin (EK.r (nm 6 rfl)) (EK.r (nm 6 rfl)) (by walk_at "+")), rfl, rfl⟩, fun h => nomatch h⟩) rfl sc.nd)) (by walk_at "+")) ?_  -- 2
  walk_at "nz"
  rw [signs_eq, signs2_eq, ← List.map_append]
  refine W.asgK 3 sc.nd EK.str ?_  -- 3
  walk_at "nz"
  have hL : ((signs ++ signs.map fun s => s ++ s).map D.str).length + ((Txt.split (Str.ofString "add sub mul less equal tells gives blocks goes ifs elses reg word set jump unless") (Str.ofString " ")).map D.str).length ≤ 1000000 := by
    rw [List.length_map, List.length_map]
    decide +kernel
  refine W.exprV (EV.cg 2 PySem.F.slot_list_extend PySem.F.type_list_extend rfl (by walk_at "vis") rfl (by decide) (EVA.cons (EV.q (EK.cm PySem.F.plainAttrs_str PySem.F.slot_str_split PySem.F.type_str_split (EK.r (nm 3 rfl)) (ERA.cons (EK.r EK.str) ERA.nil) (by walk_at "m split")) rfl) rfl EVA.nil) rfl (by walk_at "m extend") (by decide)) ?_  -- 4
  walk_at "nz"
  rw [← List.map_append]
  show W _ _ [_, _, some (.own, .lst (pool.map .str)), _, _, _, _] _
  refine W.asgK 4 sc.nd (EK.lst EFA.nil) ?_  -- 5
  walk_at "nz"
  refine W.cons' (WS.for (xs := xs) (f := D.int) .never rfl (IT.nmL 0 rfl) (fun pre ρ => ∃ o, ρ = [some (.sh, .lst (xs.map .int)), some (.sh, .str "abcdefghijklmnopqrstuvwxyz"), some (.own, .lst ((popS pool pre).2.map .str)), some (.sh, .str "add sub mul less equal tells gives blocks goes ifs elses reg word set jump unless"), some (.own, .lst ((popS pool pre).1.map .str)), o, none]) ?h0 (fun pre x post ρ e j => ?_) (fun ρ j => ?_))  -- 6
  case h0 =>
    exact ⟨_, rfl⟩
  ·
    obtain ⟨o, rfl⟩ := j
    have hp : pre.length < xs.length := by rw [e, List.length_append, List.length_cons]; omega
    obtain ⟨p1, p2, _⟩ := popS_ok (r := pool) pre.length pre rfl (by rw [pool_len]; omega)
    rw [pool_len] at p2
    have m1 := Int.emod_nonneg x (show ((popS pool pre).2.length : Int) ≠ 0 by omega)
    have m2 := Int.emod_lt_of_pos x (show (0 : Int) < ((popS pool pre).2.length : Int) by omega)
    have hl : ((popS pool pre).1.map D.str).length = pre.length := by rw [List.length_map, p1]
    refine ⟨_, _, (GB.name (i := 5) sc.nd rfl (by walk_at "loc")), ?_⟩
    walk_at "nz"
    refine W.exprV (EV.cg 4 PySem.F.slot_list_append PySem.F.type_list_append rfl (by walk_at "vis") rfl (by decide) (EVA.cons (EV.cg 2 PySem.F.slot_list_pop PySem.F.type_list_pop rfl (by walk_at "vis") rfl (by decide) (EVA.cons (EV.q (EK.bin (EK.r (EK.cT (ERA.cons (EK.r (nm 5 rfl)) ERA.nil) (by walk_at "c int") rfl hb.int boot_int)) (EK.r (EK.cB (ERA.cons (EK.r (nm 2 rfl)) ERA.nil) (by walk_at "c len") rfl hb.len boot_len)) (by walk_at "%")) rfl) rfl EVA.nil) rfl (by walk_at "m pop") (by decide)) rfl EVA.nil) rfl (by walk_at "m append") (by decide)) ?_  -- 7
    walk_at "nz"
    refine W.nil ?_
    show ∃ o', _ = _
    rw [popS_snoc, List.map_append]
    exact ⟨_, rfl⟩
  obtain ⟨o, rfl⟩ := j
  show W _ _ _ _
  refine W.retS 4 rfl ?_  -- 8
  exact h

end
end Pv
namespace Pv
open PySem L2 PyProof.Rows
local macro_rules | `(tactic| walk_at "ar") => `(tactic| first | assumption | omega | decide)
local macro_rules | `(tactic| walk_at "len") => `(tactic| first | assumption | omega | (simp; done) | (simp; omega) | exact Nat.le_of_ble_eq_true rfl)
local macro_rules | `(tactic| walk_at "+") => `(tactic| first | exact Op2.addI | exact Op2.addL (by walk_at "len") | exact Op2.addS (by walk_at "len") | exact Op2.addT (by simp) (by walk_at "len"))
local macro_rules | `(tactic| walk_at "-") => `(tactic| exact Op2.subI)
local macro_rules | `(tactic| walk_at "%") => `(tactic| exact Op2.modI (by walk_at "ar"))
local macro_rules | `(tactic| walk_at "//") => `(tactic| exact Op2.divW (by walk_at "ar") (by walk_at "ar"))
local macro_rules | `(tactic| walk_at "*") => `(tactic| exact Op2.mulI (by first | exact .inl ⟨by omega, by omega⟩ | exact .inr ⟨by omega, by omega⟩))
local macro_rules | `(tactic| walk_at "**") => `(tactic| exact Op2.powI (by refine ⟨?_, ?_, ?_⟩ <;> omega))
local macro_rules | `(tactic| walk_at "<") => `(tactic| exact Op2.ltI)
local macro_rules | `(tactic| walk_at "<=") => `(tactic| exact Op2.leI)
local macro_rules | `(tactic| walk_at ">") => `(tactic| exact Op2.gtI)
local macro_rules | `(tactic| walk_at ">=") => `(tactic| exact Op2.geI)
local macro_rules | `(tactic| walk_at "==") => `(tactic| first | exact Op2.eqI | exact Op2.eqS | exact Op2.eqB | exact Op2.eqIN | exact Op2.eqSI | exact Op2.eqIS)
local macro_rules | `(tactic| walk_at "!=") => `(tactic| first | exact Op2.neI | exact Op2.neS | exact Op2.neIN)
local macro_rules | `(tactic| walk_at "in") => `(tactic| first | exact Op2.inI | exact Op2.inS)
local macro_rules | `(tactic| walk_at "not in") => `(tactic| first | exact Op2.niI | exact Op2.niS)
local macro_rules | `(tactic| walk_at "is") => `(tactic| first | exact Op2.isN rfl | exact Op2.isO rfl)
local macro_rules | `(tactic| walk_at "is not") => `(tactic| first | exact Op2.isnN rfl | exact Op2.isnO rfl)
local macro_rules | `(tactic| walk_at "c len") => `(tactic| first | exact Cl.lenM | exact Cl.lenMT | exact Cl.len rfl | exact Cl.lenS (by walk_at "len"))
local macro_rules | `(tactic| walk_at "c int") => `(tactic| first | exact Cl.int | exact Cl.intB)
local macro_rules | `(tactic| walk_at "c max") => `(tactic| exact Cl.max2 rfl)
local macro_rules | `(tactic| walk_at "c min") => `(tactic| exact Cl.min2 rfl)
local macro_rules | `(tactic| walk_at "c tuple") => `(tactic| first | exact Cl.tupL | exact Cl.tupT)
local macro_rules | `(tactic| walk_at "c list") => `(tactic| first | exact Cl.list (.inl rfl) | exact Cl.list (.inr rfl))
local macro_rules | `(tactic| walk_at "c isinstance") => `(tactic| exact Cl.isi (by decide +kernel) (by decide))
local macro_rules | `(tactic| walk_at "rg") => `(tactic| first | (constructor <;> omega) | (refine ⟨?_, ?_, ?_, ?_⟩ <;> omega))
local macro_rules | `(tactic| walk_at "nz") => `(tactic| try simp only [List.map_cons, List.map_nil, List.set_cons_zero, List.set_cons_succ, slotOf, kdOf, kdB])
local macro_rules | `(tactic| walk_at "m append") => `(tactic| exact Chg.append (by walk_at "len"))
local macro_rules | `(tactic| walk_at "m split") => `(tactic| exact Mt.split (by decide) (by decide))
local macro_rules | `(tactic| walk_at "m count") => `(tactic| exact Mt.countI)
local macro_rules | `(tactic| walk_at "ix") => `(tactic| first | exact Ix2.l (by assumption) | exact Ix2.t (by assumption) | exact Ix2.t rfl | exact Ix2.l rfl)
local macro_rules | `(tactic| walk_at "m extend") => `(tactic| first | exact Chg.extend (.inl rfl) (by walk_at "len") | exact Chg.extend (.inr rfl) (by walk_at "len"))
local macro_rules | `(tactic| walk_at "m pop") => `(tactic| exact Chg.popM (by walk_at "ar") (by walk_at "ar") (by walk_at "ar"))
local macro_rules | `(tactic| walk_at "vis") => `(tactic| first | exact Or.inl rfl | exact Or.inr (Or.inl rfl) | exact Or.inr (Or.inr rfl))
local macro_rules | `(tactic| walk_at "loc") => `(tactic| first | exact Or.inl rfl | exact Or.inr rfl)
local macro_rules | `(tactic| walk_at "flat") => `(tactic| rfl)
local macro_rules | `(tactic| walk_at "lrg") => `(tactic| exact RgOk.of_le (by omega) (by omega) (by omega) (by omega))

section
variable {P : Program} {w : World} {K : PySem.W.Frag} {mg : Str → Option Value} {base : Heap} {f : Addr} {fd : FuncData}
/-! ### in_tuples -/
theorem IQ.idm {X : Cx} {tg e : Expr} {ρ : Env} {es : List D} (h : IQ X tg e ρ es) : IQ X tg e ρ (es.map fun d => d) := by rw [show es.map (fun d => d) = es from List.map_id' es]; exact h
def c_in_tuplesT : Ct := fun ds R => ∃ es : List D, ds = [.tup es] ∧ es.all isS = true ∧ es.length ≤ 1000 ∧ R (.tup es) false
def c_in_tuples0 : Ct := fun ds R => ∃ d, ds = [d] ∧ isS d = true ∧ R d false
local macro_rules | `(tactic| walk_at "ct in_tuples") => `(tactic| exact ⟨_, rfl, List.all_eq_true.mp (by assumption) _ (by assumption), rfl, rfl⟩)
local macro_rules | `(tactic| walk_at "c isinstance") => `(tactic| exact Cl.isU2 (by assumption) (by assumption))
theorem ok_in_tuples0 (F : Fd K "in_tuples" s_in_tuples f fd) (hb : Bt mg)  : FnOk P w K mg base CX0 (1 + 1) f fd p_in_tuples (spP K c_in_tuples0) := by
  have sc := sc_in_tuples
  refine fnP F sc (fun ds R h => ?_) (fun cdv A outer s H E ds R hr h => ?_)
  · obtain ⟨d, rfl, _⟩ := h; rfl
  obtain ⟨d, rfl, hd, h⟩ := h
  show W _ _ [some (.sh, _), none] _
  obtain ⟨hk1, hk2⟩ := kitS hd
  refine W.ifS (ET.val (EK.cB (ERA.cons (EK.r (nm 0 rfl)) (ERA.cons (EK.r (EK.tup (EFA.cons (EK.tyN rfl hb.list boot_list) rfl (EFA.cons (EK.tyN rfl hb.tuple boot_tuple) rfl EFA.nil)))) ERA.nil)) (by walk_at "c isinstance") rfl hb.isinstance boot_isinstance)) (fun hc => ?_) (fun hc => ?_)  -- 1
  ·
    cases hc
  refine W.nil ?_
  show W _ _ _ _
  refine W.retK (nm 0 rfl) ?_  -- 3
  exact h
theorem fm_some {α : Type} (xs : List α) : xs.filterMap (fun x => some x) = xs := by induction xs with
  | nil => rfl
  | cons x xs ih => rw [List.filterMap_cons_some rfl, ih]
theorem ok_in_tuplesT (F : Fd K "in_tuples" s_in_tuples f fd) (hb : Bt mg) (Din_tuples : Df P w K mg base "in_tuples" p_in_tuples 2 c_in_tuples0)  : FnOk P w K mg base CX0 (2 + 1) f fd p_in_tuples (spP K c_in_tuplesT) := by
  have sc := sc_in_tuples
  refine fnP F sc (fun ds R h => ?_) (fun cdv A outer s H E ds R hr h => ?_)
  · obtain ⟨es, rfl, _⟩ := h; rfl
  obtain ⟨es, rfl, hd, hl, h⟩ := h
  show W _ _ [some (.sh, _), none] _
  have hk1 : kitBs (tyD (.tup es)) ["list", "tuple"] = some true := (by decide +kernel : kitBs "tuple" ["list", "tuple"] = some true)
  have hk2 : tyD (.tup es) ≠ "?" := (by decide : "tuple" ≠ "?")
  refine W.ifS (ET.val (EK.cB (ERA.cons (EK.r (nm 0 rfl)) (ERA.cons (EK.r (EK.tup (EFA.cons (EK.tyN rfl hb.list boot_list) rfl (EFA.cons (EK.tyN rfl hb.tuple boot_tuple) rfl EFA.nil)))) ERA.nil)) (by walk_at "c isinstance") rfl hb.isinstance boot_isinstance)) (fun hc => ?_) (fun hc => ?_)  -- 1
  ·
    refine W.retK (EK.cT (ERA.cons (EK.r (EK.lc (LcK.mk (xs := es) (f := fun d => d) (g := fun d => some d) (own := [ow N_in_tuples 1]) (IQ.idm (IQ.tup (EK.r (nm 0 rfl)))) (blkOk_by (N := N_in_tuples) (sc := defScope s_in_tuples) (by decide +kernel)) (by walk_at "len") fun x hx => ⟨_, _, _, fun _ _ _ _ _ => (GB.name (i := 1) sc.nd rfl (by walk_at "loc")), (by decide), fun _ _ _ _ _ => EIf.nil, fun h => ⟨_, _, fun _ _ _ _ _ => (EK.call Din_tuples hr (by first | decide | omega) rfl (EFA.cons (nm 1 rfl) rfl EFA.nil) (by walk_at "ct in_tuples")), rfl, rfl⟩, fun h => nomatch h⟩) rfl sc.nd)) ERA.nil) (by walk_at "c tuple") rfl hb.tuple boot_tuple) ?_  -- 2
    rw [fm_some]
    exact h
  cases hc

end
end Pv
namespace Pv
open PySem L2 PyProof.Rows
section
variable {P : Program} {w : World} {K : Fr} {mg : Str → Option Value} {base : Heap} {f : Addr} {fd : FuncData} {ps : List Str} {k : Nat} {c c1 c2 : Ct}
theorem FnOk.orP (F1 : FnOk P w K mg base CX0 k f fd ps (spP K c1)) (F2 : FnOk P w K mg base CX0 k f fd ps (spP K c2)) (h : ∀ ds R, c ds R → c1 ds R ∨ c2 ds R) : FnOk P w K mg base CX0 k f fd ps (spP K c) where
  len := fun vs H Q E ⟨O, ds, R, t, h1, h2, h3⟩ => (h ds R h2).elim (fun q => F1.len vs H Q E ⟨O, ds, R, t, h1, q, h3⟩) fun q => F2.len vs H Q E ⟨O, ds, R, t, h1, q, h3⟩
  run := fun A outer s H args us vs Q E a b c d ⟨O, ds, R, t, h1, h2, h3⟩ => (h ds R h2).elim (fun q => F1.run A outer s H args us vs Q E a b c d ⟨O, ds, R, t, h1, q, h3⟩) fun q => F2.run A outer s H args us vs Q E a b c d ⟨O, ds, R, t, h1, q, h3⟩
theorem FnOk.impP (F1 : FnOk P w K mg base CX0 k f fd ps (spP K c1)) (h : ∀ ds R, c ds R → c1 ds R) : FnOk P w K mg base CX0 k f fd ps (spP K c) :=
  F1.imp fun vs H Q E ⟨O, ds, R, t, h1, h2, h3⟩ => ⟨O, ds, R, t, h1, h ds R h2, h3⟩
theorem Df.of {x : Str} {st : Stmt} (F : Fd K x st f fd) (hm : mg x = some (.ref f)) (ok : FnOk P w K mg base CX0 k f fd ps (spP K c))
    (h : ∀ (kV doc pm : Value) (an : Option Addr) (cdv ct : Value) (us : List Value), us.length = ps.length → bindArgs (PySem.W.fnOf x x (defArgs st) (defBody st) (defScope st) .none kV doc pm an cdv ct) ⟨us, []⟩ = pure (ps.zip us)) : Df P w K mg base x ps k c :=
  ⟨f, fd, hm, F.kp, F.bindsN h, ok⟩
end
/-! ### isinstance of built-in types -/
section
variable {X : Cx} {es : List D} {i : Int} {z : Str} {b0 : Bool}
theorem Cl.isiA {d0 : D} {T n : String} {b : Bool} (hT : tyD d0 = T) (h : kitB T n = some b) (hn : T ≠ "?") : Cl X (.builtin "isinstance") [d0, .ty n] (.bl b) .sh := Cl.isi (by rw [hT]; exact h) (by rw [hT]; exact hn)
theorem isi_tt : Cl X (.builtin "isinstance") [.tup es, .ty "tuple"] (.bl true) .sh := Cl.isiA (T := "tuple") rfl (by decide +kernel) (by decide)
theorem isi_it : Cl X (.builtin "isinstance") [.int i, .ty "tuple"] (.bl false) .sh := Cl.isiA (T := "int") rfl (by decide +kernel) (by decide)
theorem isi_st : Cl X (.builtin "isinstance") [.str z, .ty "tuple"] (.bl false) .sh := Cl.isiA (T := "str") rfl (by decide +kernel) (by decide)
theorem isi_bt : Cl X (.builtin "isinstance") [.bl b0, .ty "tuple"] (.bl false) .sh := Cl.isiA (T := "bool") rfl (by decide +kernel) (by decide)
theorem isi_nt : Cl X (.builtin "isinstance") [.non, .ty "tuple"] (.bl false) .sh := Cl.isiA (T := "NoneType") rfl (by decide +kernel) (by decide)
theorem isi_ib : Cl X (.builtin "isinstance") [.int i, .ty "bool"] (.bl false) .sh := Cl.isiA (T := "int") rfl (by decide +kernel) (by decide)
theorem isi_bb : Cl X (.builtin "isinstance") [.bl b0, .ty "bool"] (.bl true) .sh := Cl.isiA (T := "bool") rfl (by decide +kernel) (by decide)
theorem isi_sb : Cl X (.builtin "isinstance") [.str z, .ty "bool"] (.bl false) .sh := Cl.isiA (T := "str") rfl (by decide +kernel) (by decide)
theorem isi_ii : Cl X (.builtin "isinstance") [.int i, .ty "int"] (.bl true) .sh := Cl.isiA (T := "int") rfl (by decide +kernel) (by decide)
theorem isi_si : Cl X (.builtin "isinstance") [.str z, .ty "int"] (.bl false) .sh := Cl.isiA (T := "str") rfl (by decide +kernel) (by decide)
theorem isi_ss : Cl X (.builtin "isinstance") [.str z, .ty "str"] (.bl true) .sh := Cl.isiA (T := "str") rfl (by decide +kernel) (by decide)
theorem isi_is : Cl X (.builtin "isinstance") [.int i, .ty "str"] (.bl false) .sh := Cl.isiA (T := "int") rfl (by decide +kernel) (by decide)
end
end Pv
namespace Pv
open PySem L2 PyProof.Rows
local macro_rules | `(tactic| walk_at "ar") => `(tactic| first | assumption | omega | decide)
local macro_rules | `(tactic| walk_at "len") => `(tactic| first | assumption | omega | (simp; done) | (simp; omega) | exact Nat.le_of_ble_eq_true rfl)
local macro_rules | `(tactic| walk_at "+") => `(tactic| first | exact Op2.addI | exact Op2.addL (by walk_at "len") | exact Op2.addS (by walk_at "len") | exact Op2.addT (by simp) (by walk_at "len"))
local macro_rules | `(tactic| walk_at "-") => `(tactic| exact Op2.subI)
local macro_rules | `(tactic| walk_at "%") => `(tactic| exact Op2.modI (by walk_at "ar"))
local macro_rules | `(tactic| walk_at "//") => `(tactic| exact Op2.divW (by walk_at "ar") (by walk_at "ar"))
local macro_rules | `(tactic| walk_at "*") => `(tactic| exact Op2.mulI (by first | exact .inl ⟨by omega, by omega⟩ | exact .inr ⟨by omega, by omega⟩))
local macro_rules | `(tactic| walk_at "**") => `(tactic| exact Op2.powI (by refine ⟨?_, ?_, ?_⟩ <;> omega))
local macro_rules | `(tactic| walk_at "<") => `(tactic| exact Op2.ltI)
local macro_rules | `(tactic| walk_at "<=") => `(tactic| exact Op2.leI)
local macro_rules | `(tactic| walk_at ">") => `(tactic| exact Op2.gtI)
local macro_rules | `(tactic| walk_at ">=") => `(tactic| exact Op2.geI)
local macro_rules | `(tactic| walk_at "==") => `(tactic| first | exact Op2.eqI | exact Op2.eqS | exact Op2.eqB | exact Op2.eqIN | exact Op2.eqSI | exact Op2.eqIS)
local macro_rules | `(tactic| walk_at "!=") => `(tactic| first | exact Op2.neI | exact Op2.neS | exact Op2.neIN)
local macro_rules | `(tactic| walk_at "in") => `(tactic| first | exact Op2.inI | exact Op2.inS)
local macro_rules | `(tactic| walk_at "not in") => `(tactic| first | exact Op2.niI | exact Op2.niS)
local macro_rules | `(tactic| walk_at "is") => `(tactic| first | exact Op2.isN rfl | exact Op2.isO rfl)
local macro_rules | `(tactic| walk_at "is not") => `(tactic| first | exact Op2.isnN rfl | exact Op2.isnO rfl)
local macro_rules | `(tactic| walk_at "c len") => `(tactic| first | exact Cl.lenM | exact Cl.lenMT | exact Cl.len rfl | exact Cl.lenS (by walk_at "len"))
local macro_rules | `(tactic| walk_at "c int") => `(tactic| first | exact Cl.int | exact Cl.intB)
local macro_rules | `(tactic| walk_at "c max") => `(tactic| exact Cl.max2 rfl)
local macro_rules | `(tactic| walk_at "c min") => `(tactic| exact Cl.min2 rfl)
local macro_rules | `(tactic| walk_at "c tuple") => `(tactic| first | exact Cl.tupL | exact Cl.tupT)
local macro_rules | `(tactic| walk_at "c list") => `(tactic| first | exact Cl.list (.inl rfl) | exact Cl.list (.inr rfl))
local macro_rules | `(tactic| walk_at "c isinstance") => `(tactic| exact Cl.isi (by decide +kernel) (by decide))
local macro_rules | `(tactic| walk_at "rg") => `(tactic| first | (constructor <;> omega) | (refine ⟨?_, ?_, ?_, ?_⟩ <;> omega))
local macro_rules | `(tactic| walk_at "nz") => `(tactic| try simp only [List.map_cons, List.map_nil, List.set_cons_zero, List.set_cons_succ, slotOf, kdOf, kdB])
local macro_rules | `(tactic| walk_at "m append") => `(tactic| exact Chg.append (by walk_at "len"))
local macro_rules | `(tactic| walk_at "m split") => `(tactic| exact Mt.split (by decide) (by decide))
local macro_rules | `(tactic| walk_at "m count") => `(tactic| exact Mt.countI)
local macro_rules | `(tactic| walk_at "ix") => `(tactic| first | exact Ix2.l (by assumption) | exact Ix2.t (by assumption) | exact Ix2.t rfl | exact Ix2.l rfl)
local macro_rules | `(tactic| walk_at "m extend") => `(tactic| first | exact Chg.extend (.inl rfl) (by walk_at "len") | exact Chg.extend (.inr rfl) (by walk_at "len"))
local macro_rules | `(tactic| walk_at "m pop") => `(tactic| exact Chg.popM (by walk_at "ar") (by walk_at "ar") (by walk_at "ar"))
local macro_rules | `(tactic| walk_at "vis") => `(tactic| first | exact Or.inl rfl | exact Or.inr (Or.inl rfl) | exact Or.inr (Or.inr rfl))
local macro_rules | `(tactic| walk_at "loc") => `(tactic| first | exact Or.inl rfl | exact Or.inr rfl)
local macro_rules | `(tactic| walk_at "flat") => `(tactic| rfl)
local macro_rules | `(tactic| walk_at "lrg") => `(tactic| exact RgOk.of_le (by omega) (by omega) (by omega) (by omega))

section
variable {P : Program} {w : World} {K : PySem.W.Frag} {mg : Str → Option Value} {base : Heap} {f : Addr} {fd : FuncData}
/-! ### _law_same -/
def sS : D → Bool
  | .non => true | .int _ => true | .str _ => true | _ => false
def samT : Nat → D → Bool
  | 0, d => sS d
  | n + 1, .tup ds => decide (ds.length ≤ 1000) && ds.all (samT n)
  | _ + 1, d => sS d
def c_same (n : Nat) : Ct := fun ds R => ∃ d, ds = [d, d] ∧ samT n d = true ∧ R (.bl true) false
def c_sameN : Ct := fun ds R => ds = [.non, .non] ∧ R (.bl true) false
def c_sameI : Ct := fun ds R => ∃ i : Int, ds = [.int i, .int i] ∧ R (.bl true) false
def c_sameS : Ct := fun ds R => ∃ s : Str, ds = [.str s, .str s] ∧ R (.bl true) false
def c_sameT (n : Nat) : Ct := fun ds R => ∃ es : List D, ds = [.tup es, .tup es] ∧ es.length ≤ 1000 ∧ (∀ d ∈ es, samT n d = true) ∧ R (.bl true) false
local macro_rules | `(tactic| walk_at "c isinstance") => `(tactic| first | exact isi_tt | exact isi_it | exact isi_st | exact isi_nt | exact isi_ib | exact isi_sb | exact isi_ii | exact isi_si | exact isi_ss)
theorem ok_law_sameN (F : Fd K "_law_same" s_law_same f fd) (hb : Bt mg)  : FnOk P w K mg base CX0 (1 + 1) f fd p_law_same (spP K c_sameN) := by
  have sc := sc_law_same
  refine fnP F sc (fun ds R h => ?_) (fun cdv A outer s H E ds R hr h => ?_)
  · obtain ⟨rfl, _⟩ := h; rfl
  obtain ⟨rfl, h⟩ := h
  show W _ _ [some (.sh, _), some (.sh, _), none] _
  refine W.ifS (ET.val (EK.cB (ERA.cons (EK.r (nm 1 rfl)) (ERA.cons (EK.r (EK.tyN rfl hb.tuple boot_tuple)) ERA.nil)) (by walk_at "c isinstance") rfl hb.isinstance boot_isinstance)) (fun hc => ?_) (fun hc => ?_)  -- 1
  ·
    cases hc
  refine W.nil ?_
  show W _ _ _ _
  refine W.ifS (ET.cmp (EK.r (nm 1 rfl)) (EK.r EK.non) (by walk_at "is")) (fun hc => ?_) (fun hc => ?_)  -- 8
  ·
    refine W.retK (EK.cmp (EK.r (nm 0 rfl)) (EK.r EK.non) (by walk_at "is")) ?_  -- 9
    exact h
  simp [toV] at hc
theorem ok_law_sameI (F : Fd K "_law_same" s_law_same f fd) (hb : Bt mg)  : FnOk P w K mg base CX0 (1 + 1) f fd p_law_same (spP K c_sameI) := by
  have sc := sc_law_same
  refine fnP F sc (fun ds R h => ?_) (fun cdv A outer s H E ds R hr h => ?_)
  · obtain ⟨i, rfl, _⟩ := h; rfl
  obtain ⟨i, rfl, h⟩ := h
  show W _ _ [some (.sh, _), some (.sh, _), none] _
  refine W.ifS (ET.val (EK.cB (ERA.cons (EK.r (nm 1 rfl)) (ERA.cons (EK.r (EK.tyN rfl hb.tuple boot_tuple)) ERA.nil)) (by walk_at "c isinstance") rfl hb.isinstance boot_isinstance)) (fun hc => ?_) (fun hc => ?_)  -- 1
  ·
    cases hc
  refine W.nil ?_
  show W _ _ _ _
  refine W.ifS (ET.cmp (EK.r (nm 1 rfl)) (EK.r EK.non) (by walk_at "is")) (fun hc => ?_) (fun hc => ?_)  -- 8
  ·
    simp [toV] at hc
  refine W.nil ?_
  show W _ _ _ _
  refine W.ifS (ET.val (EK.cB (ERA.cons (EK.r (nm 1 rfl)) (ERA.cons (EK.r (EK.tyN rfl hb.bool boot_bool)) ERA.nil)) (by walk_at "c isinstance") rfl hb.isinstance boot_isinstance)) (fun hc => ?_) (fun hc => ?_)  -- 10
  ·
    cases hc
  refine W.nil ?_
  show W _ _ _ _
  refine W.ifS (ET.val (EK.cB (ERA.cons (EK.r (nm 1 rfl)) (ERA.cons (EK.r (EK.tyN rfl hb.int boot_int)) ERA.nil)) (by walk_at "c isinstance") rfl hb.isinstance boot_isinstance)) (fun hc => ?_) (fun hc => ?_)  -- 12
  ·
    refine W.retK (EK.andB (EK.r (EK.cB (ERA.cons (EK.r (nm 0 rfl)) (ERA.cons (EK.r (EK.tyN rfl hb.int boot_int)) ERA.nil)) (by walk_at "c isinstance") rfl hb.isinstance boot_isinstance)) fun h => (EK.andB (EK.r (EK.notB (EK.r (EK.cB (ERA.cons (EK.r (nm 0 rfl)) (ERA.cons (EK.r (EK.tyN rfl hb.bool boot_bool)) ERA.nil)) (by walk_at "c isinstance") rfl hb.isinstance boot_isinstance)))) fun h => (EK.one (EK.cmp (EK.r (nm 0 rfl)) (EK.r (nm 1 rfl)) (by walk_at "=="))))) ?_  -- 13
    rw [show (true && (!false && decide (i = i))) = true by simp]
    exact h
  cases hc
theorem ok_law_sameS (F : Fd K "_law_same" s_law_same f fd) (hb : Bt mg)  : FnOk P w K mg base CX0 (1 + 1) f fd p_law_same (spP K c_sameS) := by
  have sc := sc_law_same
  refine fnP F sc (fun ds R h => ?_) (fun cdv A outer s H E ds R hr h => ?_)
  · obtain ⟨z, rfl, _⟩ := h; rfl
  obtain ⟨z, rfl, h⟩ := h
  show W _ _ [some (.sh, _), some (.sh, _), none] _
  refine W.ifS (ET.val (EK.cB (ERA.cons (EK.r (nm 1 rfl)) (ERA.cons (EK.r (EK.tyN rfl hb.tuple boot_tuple)) ERA.nil)) (by walk_at "c isinstance") rfl hb.isinstance boot_isinstance)) (fun hc => ?_) (fun hc => ?_)  -- 1
  ·
    cases hc
  refine W.nil ?_
  show W _ _ _ _
  refine W.ifS (ET.cmp (EK.r (nm 1 rfl)) (EK.r EK.non) (by walk_at "is")) (fun hc => ?_) (fun hc => ?_)  -- 8
  ·
    simp [toV] at hc
  refine W.nil ?_
  show W _ _ _ _
  refine W.ifS (ET.val (EK.cB (ERA.cons (EK.r (nm 1 rfl)) (ERA.cons (EK.r (EK.tyN rfl hb.bool boot_bool)) ERA.nil)) (by walk_at "c isinstance") rfl hb.isinstance boot_isinstance)) (fun hc => ?_) (fun hc => ?_)  -- 10
  ·
    cases hc
  refine W.nil ?_
  show W _ _ _ _
  refine W.ifS (ET.val (EK.cB (ERA.cons (EK.r (nm 1 rfl)) (ERA.cons (EK.r (EK.tyN rfl hb.int boot_int)) ERA.nil)) (by walk_at "c isinstance") rfl hb.isinstance boot_isinstance)) (fun hc => ?_) (fun hc => ?_)  -- 12
  ·
    cases hc
  refine W.nil ?_
  show W _ _ _ _
  refine W.retK (EK.andB (EK.r (EK.cB (ERA.cons (EK.r (nm 0 rfl)) (ERA.cons (EK.r (EK.tyN rfl hb.str boot_str)) ERA.nil)) (by walk_at "c isinstance") rfl hb.isinstance boot_isinstance)) fun h => (EK.one (EK.cmp (EK.r (nm 0 rfl)) (EK.r (nm 1 rfl)) (by walk_at "==")))) ?_  -- 14
  rw [show (true && decide (z = z)) = true by simp]
  exact h
local macro_rules | `(tactic| walk_at "ct law_same") => `(tactic| exact ⟨_, rfl, by assumption, rfl, rfl⟩)
theorem ok_law_sameT (F : Fd K "_law_same" s_law_same f fd) (hb : Bt mg) {m n : Nat} (D_law_same : Df P w K mg base "_law_same" p_law_same m (c_same n))  : FnOk P w K mg base CX0 (m + 1) f fd p_law_same (spP K (c_sameT n)) := by
  have sc := sc_law_same
  refine fnP F sc (fun ds R h => ?_) (fun cdv A outer s H E ds R hr h => ?_)
  · obtain ⟨es, rfl, _⟩ := h; rfl
  obtain ⟨es, rfl, hl, hs, h⟩ := h
  show W _ _ [some (.sh, _), some (.sh, _), none] _
  refine W.ifS (ET.val (EK.cB (ERA.cons (EK.r (nm 1 rfl)) (ERA.cons (EK.r (EK.tyN rfl hb.tuple boot_tuple)) ERA.nil)) (by walk_at "c isinstance") rfl hb.isinstance boot_isinstance)) (fun hc => ?_) (fun hc => ?_)  -- 1
  ·
    refine W.ifS (ET.w (EW.or (ET.not (ET.val (EK.cB (ERA.cons (EK.r (nm 0 rfl)) (ERA.cons (EK.r (EK.tyN rfl hb.tuple boot_tuple)) ERA.nil)) (by walk_at "c isinstance") rfl hb.isinstance boot_isinstance))) fun h => (EW.or1 (ET.cmp (EK.r (EK.cB (ERA.cons (EK.r (nm 0 rfl)) ERA.nil) (by walk_at "c len") rfl hb.len boot_len)) (EK.r (EK.cB (ERA.cons (EK.r (nm 1 rfl)) ERA.nil) (by walk_at "c len") rfl hb.len boot_len)) (by walk_at "!="))))) (fun hc => ?_) (fun hc => ?_)  -- 2
    ·
      simp at hc
    refine W.nil ?_
    show W _ _ _ _
    refine W.cons' (WS.for (xs := List.range (es.length : Int).toNat) (f := fun i => D.int (0 + (i : Nat))) .never rfl (IT.rng rfl hb.range (ERA.cons (EK.r (EK.cB (ERA.cons (EK.r (nm 1 rfl)) ERA.nil) (by walk_at "c len") rfl hb.len boot_len)) ERA.nil) (by walk_at "rg")) (fun pre ρ => ∃ o, ρ = [some (.sh, .tup es), some (.sh, .tup es), o]) ?h0 (fun pre x post ρ e j => ?_) (fun ρ j => ?_))  -- 4
    case h0 =>
      exact ⟨_, rfl⟩
    ·
      obtain ⟨o, rfl⟩ := j
      obtain ⟨rfl, hx⟩ := range_cut e
      have h1 : pre.length < es.length := by omega
      have hi : atI es (0 + (pre.length : Nat)) = some es[pre.length] := atI_of (by omega) (by rw [show ((0 : Int) + (pre.length : Nat)).toNat = pre.length by omega]; exact List.getElem?_eq_getElem h1)
      have hsm : samT n es[pre.length] = true := hs _ (List.getElem_mem h1)
      refine ⟨_, _, (GB.name (i := 2) sc.nd rfl (by walk_at "loc")), ?_⟩
      walk_at "nz"
      refine W.ifS (ET.not (ET.tru (EK.r (EK.call D_law_same hr (by first | decide | omega) rfl (EFA.cons (EK.ix (EK.r (nm 0 rfl)) (EK.r (nm 2 rfl)) (by walk_at "ix")) rfl (EFA.cons (EK.ix (EK.r (nm 1 rfl)) (EK.r (nm 2 rfl)) (by walk_at "ix")) rfl EFA.nil)) (by walk_at "ct law_same"))) rfl)) (fun hc => ?_) (fun hc => ?_)  -- 5
      ·
        cases hc
      refine W.nil ?_
      show W _ _ _ _
      refine W.nil ?_
      exact ⟨_, rfl⟩
    obtain ⟨o, rfl⟩ := j
    show W _ _ _ _
    refine W.retK EK.bl ?_  -- 7
    exact h
  cases hc
theorem same_case {n : Nat} {d : D} {R : D → Bool → Prop} (h : c_same n [d, d] R) : c_sameN [d, d] R ∨ c_sameI [d, d] R ∨ c_sameS [d, d] R ∨ ∃ m, n = m + 1 ∧ c_sameT m [d, d] R := by
  obtain ⟨d', e, hd, hr⟩ := h
  cases e
  cases d with
  | non => exact .inl ⟨rfl, hr⟩
  | int i => exact .inr (.inl ⟨i, rfl, hr⟩)
  | str s => exact .inr (.inr (.inl ⟨s, rfl, hr⟩))
  | tup ds =>
    cases n with
    | zero => cases hd
    | succ m =>
      simp only [samT, Bool.and_eq_true] at hd
      exact .inr (.inr (.inr ⟨m, rfl, ds, rfl, of_decide_eq_true hd.1, List.all_eq_true.mp hd.2, hr⟩))
  | _ => cases n <;> cases hd
theorem ok_same0 (F : Fd K "_law_same" s_law_same f fd) (hb : Bt mg) : FnOk P w K mg base CX0 2 f fd p_law_same (spP K (c_same 0)) :=
  FnOk.orP (c2 := fun ds R => c_sameI ds R ∨ c_sameS ds R) (ok_law_sameN F hb) (FnOk.orP (ok_law_sameI F hb) (ok_law_sameS F hb) fun _ _ h => h) fun ds R h => by
    obtain ⟨d, rfl, hd, hr⟩ := h
    rcases same_case ⟨d, rfl, hd, hr⟩ with q | q | q | ⟨m, q, _⟩
    · exact .inl q
    · exact .inr (.inl q)
    · exact .inr (.inr q)
    · cases q
theorem ok_sameS {m n : Nat} (F : Fd K "_law_same" s_law_same f fd) (hb : Bt mg) (D : Df P w K mg base "_law_same" p_law_same m (c_same n)) (hm : 1 ≤ m) : FnOk P w K mg base CX0 (m + 1) f fd p_law_same (spP K (c_same (n + 1))) :=
  FnOk.orP (c2 := fun ds R => c_sameI ds R ∨ c_sameS ds R ∨ c_sameT n ds R) ((ok_law_sameN F hb).mono (by omega)) (FnOk.orP (c2 := fun ds R => c_sameS ds R ∨ c_sameT n ds R) ((ok_law_sameI F hb).mono (by omega)) (FnOk.orP ((ok_law_sameS F hb).mono (by omega)) (ok_law_sameT F hb D) fun _ _ h => h) fun _ _ h => h) fun ds R h => by
    obtain ⟨d, rfl, hd, hr⟩ := h
    rcases same_case ⟨d, rfl, hd, hr⟩ with q | q | q | ⟨k, q, z⟩
    · exact .inl q
    · exact .inr (.inl q)
    · exact .inr (.inr (.inl q))
    · cases q; exact .inr (.inr (.inr z))

end
end Pv
namespace Pv
open PySem L2 PyProof.Rows
local macro_rules | `(tactic| walk_at "ar") => `(tactic| first | assumption | omega | decide)
local macro_rules | `(tactic| walk_at "len") => `(tactic| first | assumption | omega | (simp; done) | (simp; omega) | exact Nat.le_of_ble_eq_true rfl)
local macro_rules | `(tactic| walk_at "+") => `(tactic| first | exact Op2.addI | exact Op2.addL (by walk_at "len") | exact Op2.addS (by walk_at "len") | exact Op2.addT (by simp) (by walk_at "len"))
local macro_rules | `(tactic| walk_at "-") => `(tactic| exact Op2.subI)
local macro_rules | `(tactic| walk_at "%") => `(tactic| exact Op2.modI (by walk_at "ar"))
local macro_rules | `(tactic| walk_at "//") => `(tactic| exact Op2.divW (by walk_at "ar") (by walk_at "ar"))
local macro_rules | `(tactic| walk_at "*") => `(tactic| exact Op2.mulI (by first | exact .inl ⟨by omega, by omega⟩ | exact .inr ⟨by omega, by omega⟩))
local macro_rules | `(tactic| walk_at "**") => `(tactic| exact Op2.powI (by refine ⟨?_, ?_, ?_⟩ <;> omega))
local macro_rules | `(tactic| walk_at "<") => `(tactic| exact Op2.ltI)
local macro_rules | `(tactic| walk_at "<=") => `(tactic| exact Op2.leI)
local macro_rules | `(tactic| walk_at ">") => `(tactic| exact Op2.gtI)
local macro_rules | `(tactic| walk_at ">=") => `(tactic| exact Op2.geI)
local macro_rules | `(tactic| walk_at "==") => `(tactic| first | exact Op2.eqI | exact Op2.eqS | exact Op2.eqB | exact Op2.eqIN | exact Op2.eqSI | exact Op2.eqIS)
local macro_rules | `(tactic| walk_at "!=") => `(tactic| first | exact Op2.neI | exact Op2.neS | exact Op2.neIN)
local macro_rules | `(tactic| walk_at "in") => `(tactic| first | exact Op2.inI | exact Op2.inS)
local macro_rules | `(tactic| walk_at "not in") => `(tactic| first | exact Op2.niI | exact Op2.niS)
local macro_rules | `(tactic| walk_at "is") => `(tactic| first | exact Op2.isN rfl | exact Op2.isO rfl)
local macro_rules | `(tactic| walk_at "is not") => `(tactic| first | exact Op2.isnN rfl | exact Op2.isnO rfl)
local macro_rules | `(tactic| walk_at "c len") => `(tactic| first | exact Cl.lenM | exact Cl.lenMT | exact Cl.len rfl | exact Cl.lenS (by walk_at "len"))
local macro_rules | `(tactic| walk_at "c int") => `(tactic| first | exact Cl.int | exact Cl.intB)
local macro_rules | `(tactic| walk_at "c max") => `(tactic| exact Cl.max2 rfl)
local macro_rules | `(tactic| walk_at "c min") => `(tactic| exact Cl.min2 rfl)
local macro_rules | `(tactic| walk_at "c tuple") => `(tactic| first | exact Cl.tupL | exact Cl.tupT)
local macro_rules | `(tactic| walk_at "c list") => `(tactic| first | exact Cl.list (.inl rfl) | exact Cl.list (.inr rfl))
local macro_rules | `(tactic| walk_at "c isinstance") => `(tactic| exact Cl.isi (by decide +kernel) (by decide))
local macro_rules | `(tactic| walk_at "rg") => `(tactic| first | (constructor <;> omega) | (refine ⟨?_, ?_, ?_, ?_⟩ <;> omega))
local macro_rules | `(tactic| walk_at "nz") => `(tactic| try simp only [List.map_cons, List.map_nil, List.set_cons_zero, List.set_cons_succ, slotOf, kdOf, kdB])
local macro_rules | `(tactic| walk_at "m append") => `(tactic| exact Chg.append (by walk_at "len"))
local macro_rules | `(tactic| walk_at "m split") => `(tactic| exact Mt.split (by decide) (by decide))
local macro_rules | `(tactic| walk_at "m count") => `(tactic| exact Mt.countI)
local macro_rules | `(tactic| walk_at "ix") => `(tactic| first | exact Ix2.l (by assumption) | exact Ix2.t (by assumption) | exact Ix2.t rfl | exact Ix2.l rfl)
local macro_rules | `(tactic| walk_at "m extend") => `(tactic| first | exact Chg.extend (.inl rfl) (by walk_at "len") | exact Chg.extend (.inr rfl) (by walk_at "len"))
local macro_rules | `(tactic| walk_at "m pop") => `(tactic| exact Chg.popM (by walk_at "ar") (by walk_at "ar") (by walk_at "ar"))
local macro_rules | `(tactic| walk_at "vis") => `(tactic| first | exact Or.inl rfl | exact Or.inr (Or.inl rfl) | exact Or.inr (Or.inr rfl))
local macro_rules | `(tactic| walk_at "loc") => `(tactic| first | exact Or.inl rfl | exact Or.inr rfl)
local macro_rules | `(tactic| walk_at "flat") => `(tactic| rfl)
local macro_rules | `(tactic| walk_at "lrg") => `(tactic| exact RgOk.of_le (by omega) (by omega) (by omega) (by omega))

section
variable {P : Program} {w : World} {K : PySem.W.Frag} {mg : Str → Option Value} {base : Heap} {f : Addr} {fd : FuncData}
/-! ### the errors -/
def exTab : List (Str × List Str) := [("AssignedTwice", ["name"]), ("NoBlock", ["number"]), ("WrongCount", ["block"]), ("NotReached", ["block"]), ("NotAssigned", ["name"]), ("BadText", ["line"]), ("NoPoint", ["point"]), ("NoVariable", ["name"]), ("BadRegister", ["name"]), ("Conflict", ["first", "second"]), ("NoNumber", ["number"]), ("TooFew", ["size"]), ("NoRegister", ["reg"]), ("Taken", ["other"]), ("NotAkin", []), ("NoSpare", ["size"]), ("TooMany", ["number"]), ("Chordless", ["ring"]), ("NoPlace", ["block", "at"]), ("NothingBack", []), ("NothingAgain", [])]
def atTab : List (Str × Str) := [("AssignedTwice", "name"), ("NoBlock", "number"), ("WrongCount", "block"), ("NotReached", "block"), ("NotAssigned", "name"), ("BadText", "line"), ("NoPoint", "point"), ("NoVariable", "name"), ("BadRegister", "name"), ("Conflict", "first"), ("Conflict", "second"), ("NoNumber", "number"), ("TooFew", "size"), ("NoRegister", "reg"), ("Taken", "other"), ("NoSpare", "size"), ("TooMany", "number"), ("Chordless", "ring"), ("NoPlace", "block"), ("NoPlace", "at")]
def exNames : List Str := ["AssignedTwice", "NoBlock", "WrongCount", "NotReached", "NotAssigned", "BadText", "NoPoint", "NoVariable", "BadRegister", "Conflict", "NoNumber", "TooFew", "NoRegister", "Taken", "NotAkin", "NoSpare", "TooMany", "Chordless", "NoPlace", "NothingBack", "NothingAgain"]
def clNames : List Str := "RegisterError" :: exNames
/-- what the top has written of the errors -/
structure ExF (K : PySem.W.Frag) (mg : Str → Option Value) : Prop where
  gC : ∀ m ∈ clNames, mg m = some (.ref (He.ga K m))
  hx : ∀ n ∈ exNames, XC K (He.ga K n)
  hk : ∀ n ∈ exNames, ∀ m ∈ exNames, PySem.W.kitOne K (.ref (He.ga K n)) (.ref (He.ga K m)) = some (n == m)
  hr : ∀ n ∈ exNames, PySem.W.kitOne K (.ref (He.ga K n)) (.ref (He.ga K "RegisterError")) = some true
  hv : ∀ n ∈ exNames, PySem.W.kitOne K (.ref (He.ga K n)) (.type "ValueError") = some true
  hn : ∀ q ∈ atTab, PySem.W.findIn K (.ref (He.ga K q.1)) q.2 = some none
def c_law_kinds (K : PySem.W.Frag) : Ct := fun ds R => ∃ (n : Str) (fs : List Str) (es : List D), ds = [.exc (He.ga K n) fs es] ∧ n ∈ exNames ∧ R (.lst (exNames.map fun m => .bl (n == m))) true
theorem ok_law_kinds (F : Fd K "_law_kinds" s_law_kinds f fd) (hb : Bt mg) (hF : ExF K mg)  : FnOk P w K mg base CX0 (1 + 1) f fd p_law_kinds (spP K (c_law_kinds K)) := by
  have sc := sc_law_kinds
  refine fnP F sc (fun ds R h => ?_) (fun cdv A outer s H E ds R hr h => ?_)
  · obtain ⟨n, fs, es, rfl, _⟩ := h; rfl
  obtain ⟨n, fs, es, rfl, hn, h⟩ := h
  show W _ _ [some (.sh, _)] _
  refine W.retK (EK.lst (EFA.cons (EK.cB (ERA.cons (EK.r (nm 0 rfl)) (ERA.cons (EK.r (EK.glo rfl (hF.gC "AssignedTwice" (by decide +kernel)))) ERA.nil)) (Cl.isX (hF.hx _ hn) (hF.hk _ hn _ (by decide +kernel))) rfl hb.isinstance boot_isinstance) rfl (EFA.cons (EK.cB (ERA.cons (EK.r (nm 0 rfl)) (ERA.cons (EK.r (EK.glo rfl (hF.gC "NoBlock" (by decide +kernel)))) ERA.nil)) (Cl.isX (hF.hx _ hn) (hF.hk _ hn _ (by decide +kernel))) rfl hb.isinstance boot_isinstance) rfl (EFA.cons (EK.cB (ERA.cons (EK.r (nm 0 rfl)) (ERA.cons (EK.r (EK.glo rfl (hF.gC "WrongCount" (by decide +kernel)))) ERA.nil)) (Cl.isX (hF.hx _ hn) (hF.hk _ hn _ (by decide +kernel))) rfl hb.isinstance boot_isinstance) rfl (EFA.cons (EK.cB (ERA.cons (EK.r (nm 0 rfl)) (ERA.cons (EK.r (EK.glo rfl (hF.gC "NotReached" (by decide +kernel)))) ERA.nil)) (Cl.isX (hF.hx _ hn) (hF.hk _ hn _ (by decide +kernel))) rfl hb.isinstance boot_isinstance) rfl (EFA.cons (EK.cB (ERA.cons (EK.r (nm 0 rfl)) (ERA.cons (EK.r (EK.glo rfl (hF.gC "NotAssigned" (by decide +kernel)))) ERA.nil)) (Cl.isX (hF.hx _ hn) (hF.hk _ hn _ (by decide +kernel))) rfl hb.isinstance boot_isinstance) rfl (EFA.cons (EK.cB (ERA.cons (EK.r (nm 0 rfl)) (ERA.cons (EK.r (EK.glo rfl (hF.gC "BadText" (by decide +kernel)))) ERA.nil)) (Cl.isX (hF.hx _ hn) (hF.hk _ hn _ (by decide +kernel))) rfl hb.isinstance boot_isinstance) rfl (EFA.cons (EK.cB (ERA.cons (EK.r (nm 0 rfl)) (ERA.cons (EK.r (EK.glo rfl (hF.gC "NoPoint" (by decide +kernel)))) ERA.nil)) (Cl.isX (hF.hx _ hn) (hF.hk _ hn _ (by decide +kernel))) rfl hb.isinstance boot_isinstance) rfl (EFA.cons (EK.cB (ERA.cons (EK.r (nm 0 rfl)) (ERA.cons (EK.r (EK.glo rfl (hF.gC "NoVariable" (by decide +kernel)))) ERA.nil)) (Cl.isX (hF.hx _ hn) (hF.hk _ hn _ (by decide +kernel))) rfl hb.isinstance boot_isinstance) rfl (EFA.cons (EK.cB (ERA.cons (EK.r (nm 0 rfl)) (ERA.cons (EK.r (EK.glo rfl (hF.gC "BadRegister" (by decide +kernel)))) ERA.nil)) (Cl.isX (hF.hx _ hn) (hF.hk _ hn _ (by decide +kernel))) rfl hb.isinstance boot_isinstance) rfl (EFA.cons (EK.cB (ERA.cons (EK.r (nm 0 rfl)) (ERA.cons (EK.r (EK.glo rfl (hF.gC "Conflict" (by decide +kernel)))) ERA.nil)) (Cl.isX (hF.hx _ hn) (hF.hk _ hn _ (by decide +kernel))) rfl hb.isinstance boot_isinstance) rfl (EFA.cons (EK.cB (ERA.cons (EK.r (nm 0 rfl)) (ERA.cons (EK.r (EK.glo rfl (hF.gC "NoNumber" (by decide +kernel)))) ERA.nil)) (Cl.isX (hF.hx _ hn) (hF.hk _ hn _ (by decide +kernel))) rfl hb.isinstance boot_isinstance) rfl (EFA.cons (EK.cB (ERA.cons (EK.r (nm 0 rfl)) (ERA.cons (EK.r (EK.glo rfl (hF.gC "TooFew" (by decide +kernel)))) ERA.nil)) (Cl.isX (hF.hx _ hn) (hF.hk _ hn _ (by decide +kernel))) rfl hb.isinstance boot_isinstance) rfl (EFA.cons (EK.cB (ERA.cons (EK.r (nm 0 rfl)) (ERA.cons (EK.r (EK.glo rfl (hF.gC "NoRegister" (by decide +kernel)))) ERA.nil)) (Cl.isX (hF.hx _ hn) (hF.hk _ hn _ (by decide +kernel))) rfl hb.isinstance boot_isinstance) rfl (EFA.cons (EK.cB (ERA.cons (EK.r (nm 0 rfl)) (ERA.cons (EK.r (EK.glo rfl (hF.gC "Taken" (by decide +kernel)))) ERA.nil)) (Cl.isX (hF.hx _ hn) (hF.hk _ hn _ (by decide +kernel))) rfl hb.isinstance boot_isinstance) rfl (EFA.cons (EK.cB (ERA.cons (EK.r (nm 0 rfl)) (ERA.cons (EK.r (EK.glo rfl (hF.gC "NotAkin" (by decide +kernel)))) ERA.nil)) (Cl.isX (hF.hx _ hn) (hF.hk _ hn _ (by decide +kernel))) rfl hb.isinstance boot_isinstance) rfl (EFA.cons (EK.cB (ERA.cons (EK.r (nm 0 rfl)) (ERA.cons (EK.r (EK.glo rfl (hF.gC "NoSpare" (by decide +kernel)))) ERA.nil)) (Cl.isX (hF.hx _ hn) (hF.hk _ hn _ (by decide +kernel))) rfl hb.isinstance boot_isinstance) rfl (EFA.cons (EK.cB (ERA.cons (EK.r (nm 0 rfl)) (ERA.cons (EK.r (EK.glo rfl (hF.gC "TooMany" (by decide +kernel)))) ERA.nil)) (Cl.isX (hF.hx _ hn) (hF.hk _ hn _ (by decide +kernel))) rfl hb.isinstance boot_isinstance) rfl (EFA.cons (EK.cB (ERA.cons (EK.r (nm 0 rfl)) (ERA.cons (EK.r (EK.glo rfl (hF.gC "Chordless" (by decide +kernel)))) ERA.nil)) (Cl.isX (hF.hx _ hn) (hF.hk _ hn _ (by decide +kernel))) rfl hb.isinstance boot_isinstance) rfl (EFA.cons (EK.cB (ERA.cons (EK.r (nm 0 rfl)) (ERA.cons (EK.r (EK.glo rfl (hF.gC "NoPlace" (by decide +kernel)))) ERA.nil)) (Cl.isX (hF.hx _ hn) (hF.hk _ hn _ (by decide +kernel))) rfl hb.isinstance boot_isinstance) rfl (EFA.cons (EK.cB (ERA.cons (EK.r (nm 0 rfl)) (ERA.cons (EK.r (EK.glo rfl (hF.gC "NothingBack" (by decide +kernel)))) ERA.nil)) (Cl.isX (hF.hx _ hn) (hF.hk _ hn _ (by decide +kernel))) rfl hb.isinstance boot_isinstance) rfl (EFA.cons (EK.cB (ERA.cons (EK.r (nm 0 rfl)) (ERA.cons (EK.r (EK.glo rfl (hF.gC "NothingAgain" (by decide +kernel)))) ERA.nil)) (Cl.isX (hF.hx _ hn) (hF.hk _ hn _ (by decide +kernel))) rfl hb.isinstance boot_isinstance) rfl EFA.nil)))))))))))))))))))))) ?_  -- 1
  exact h

end
end Pv
namespace Pv
open PySem L2 PyProof.Rows
local macro_rules | `(tactic| walk_at "ar") => `(tactic| first | assumption | omega | decide)
local macro_rules | `(tactic| walk_at "len") => `(tactic| first | assumption | omega | (simp; done) | (simp; omega) | exact Nat.le_of_ble_eq_true rfl)
local macro_rules | `(tactic| walk_at "+") => `(tactic| first | exact Op2.addI | exact Op2.addL (by walk_at "len") | exact Op2.addS (by walk_at "len") | exact Op2.addT (by simp) (by walk_at "len"))
local macro_rules | `(tactic| walk_at "-") => `(tactic| exact Op2.subI)
local macro_rules | `(tactic| walk_at "%") => `(tactic| exact Op2.modI (by walk_at "ar"))
local macro_rules | `(tactic| walk_at "//") => `(tactic| exact Op2.divW (by walk_at "ar") (by walk_at "ar"))
local macro_rules | `(tactic| walk_at "*") => `(tactic| exact Op2.mulI (by first | exact .inl ⟨by omega, by omega⟩ | exact .inr ⟨by omega, by omega⟩))
local macro_rules | `(tactic| walk_at "**") => `(tactic| exact Op2.powI (by refine ⟨?_, ?_, ?_⟩ <;> omega))
local macro_rules | `(tactic| walk_at "<") => `(tactic| exact Op2.ltI)
local macro_rules | `(tactic| walk_at "<=") => `(tactic| exact Op2.leI)
local macro_rules | `(tactic| walk_at ">") => `(tactic| exact Op2.gtI)
local macro_rules | `(tactic| walk_at ">=") => `(tactic| exact Op2.geI)
local macro_rules | `(tactic| walk_at "==") => `(tactic| first | exact Op2.eqI | exact Op2.eqS | exact Op2.eqB | exact Op2.eqIN | exact Op2.eqSI | exact Op2.eqIS)
local macro_rules | `(tactic| walk_at "!=") => `(tactic| first | exact Op2.neI | exact Op2.neS | exact Op2.neIN)
local macro_rules | `(tactic| walk_at "in") => `(tactic| first | exact Op2.inI | exact Op2.inS)
local macro_rules | `(tactic| walk_at "not in") => `(tactic| first | exact Op2.niI | exact Op2.niS)
local macro_rules | `(tactic| walk_at "is") => `(tactic| first | exact Op2.isN rfl | exact Op2.isO rfl)
local macro_rules | `(tactic| walk_at "is not") => `(tactic| first | exact Op2.isnN rfl | exact Op2.isnO rfl)
local macro_rules | `(tactic| walk_at "c len") => `(tactic| first | exact Cl.lenM | exact Cl.lenMT | exact Cl.len rfl | exact Cl.lenS (by walk_at "len"))
local macro_rules | `(tactic| walk_at "c int") => `(tactic| first | exact Cl.int | exact Cl.intB)
local macro_rules | `(tactic| walk_at "c max") => `(tactic| exact Cl.max2 rfl)
local macro_rules | `(tactic| walk_at "c min") => `(tactic| exact Cl.min2 rfl)
local macro_rules | `(tactic| walk_at "c tuple") => `(tactic| first | exact Cl.tupL | exact Cl.tupT)
local macro_rules | `(tactic| walk_at "c list") => `(tactic| first | exact Cl.list (.inl rfl) | exact Cl.list (.inr rfl))
local macro_rules | `(tactic| walk_at "c isinstance") => `(tactic| exact Cl.isi (by decide +kernel) (by decide))
local macro_rules | `(tactic| walk_at "rg") => `(tactic| first | (constructor <;> omega) | (refine ⟨?_, ?_, ?_, ?_⟩ <;> omega))
local macro_rules | `(tactic| walk_at "nz") => `(tactic| try simp only [List.map_cons, List.map_nil, List.set_cons_zero, List.set_cons_succ, slotOf, kdOf, kdB])
local macro_rules | `(tactic| walk_at "m append") => `(tactic| exact Chg.append (by walk_at "len"))
local macro_rules | `(tactic| walk_at "m split") => `(tactic| exact Mt.split (by decide) (by decide))
local macro_rules | `(tactic| walk_at "m count") => `(tactic| exact Mt.countI)
local macro_rules | `(tactic| walk_at "ix") => `(tactic| first | exact Ix2.l (by assumption) | exact Ix2.t (by assumption) | exact Ix2.t rfl | exact Ix2.l rfl)
local macro_rules | `(tactic| walk_at "m extend") => `(tactic| first | exact Chg.extend (.inl rfl) (by walk_at "len") | exact Chg.extend (.inr rfl) (by walk_at "len"))
local macro_rules | `(tactic| walk_at "m pop") => `(tactic| exact Chg.popM (by walk_at "ar") (by walk_at "ar") (by walk_at "ar"))
local macro_rules | `(tactic| walk_at "vis") => `(tactic| first | exact Or.inl rfl | exact Or.inr (Or.inl rfl) | exact Or.inr (Or.inr rfl))
local macro_rules | `(tactic| walk_at "loc") => `(tactic| first | exact Or.inl rfl | exact Or.inr rfl)
local macro_rules | `(tactic| walk_at "flat") => `(tactic| rfl)
local macro_rules | `(tactic| walk_at "lrg") => `(tactic| exact RgOk.of_le (by omega) (by omega) (by omega) (by omega))

section
variable {P : Program} {w : World} {K : PySem.W.Frag} {mg : Str → Option Value} {base : Heap} {f : Addr} {fd : FuncData}
/-! ### the law -/
def sn (N : List Str) (i : Int) : Str := N.getD i.toNat ""
theorem ix_sn {N : List Str} {i : Int} (h0 : 0 ≤ i) (h1 : i < N.length) : atI (N.map D.str) i = some (.str (sn N i)) := by
  refine atI_of h0 ?_
  have h : i.toNat < N.length := by omega
  rw [List.getElem?_map, List.getElem?_eq_getElem h]
  unfold sn
  rw [List.getD_eq_getElem?_getD, List.getElem?_eq_getElem h]
  rfl
def so (N : List Str) (Z : List Int) : D := if gi Z 5 % 2 = 0 then .str (sn N 7) else .non
theorem so_or (N : List Str) (Z : List Int) : so N Z = .str (sn N 7) ∨ so N Z = .non := by unfold so; split <;> simp
theorem so_at (N : List Str) (Z : List Int) : atI [D.str (sn N 7), D.non] (gi Z 5 % 2) = some (so N Z) := by
  unfold so
  rcases (show gi Z 5 % 2 = 0 ∨ gi Z 5 % 2 = 1 by omega) with e | e <;> rw [e] <;> rfl
def madeD (K : PySem.W.Frag) (N : List Str) (Z : List Int) : List D := [.exc (He.ga K "AssignedTwice") ["name"] [.str (sn N 4)], .exc (He.ga K "NoBlock") ["number"] [.int (gi Z 2)], .exc (He.ga K "WrongCount") ["block"] [.int (gi Z 3)], .exc (He.ga K "NotReached") ["block"] [.int (gi Z 4)], .exc (He.ga K "NotAssigned") ["name"] [.str (sn N 5)], .exc (He.ga K "BadText") ["line"] [.int (gi Z 5)], .exc (He.ga K "NoPoint") ["point"] [.tup [.int (gi Z 0), .int (gi Z 1)]], .exc (He.ga K "NoVariable") ["name"] [.str (sn N 6)], .exc (He.ga K "BadRegister") ["name"] [so N Z], .exc (He.ga K "Conflict") ["second", "first"] [.str (sn N 9), .str (sn N 8)], .exc (He.ga K "NoNumber") ["number"] [.int (gi Z 6)], .exc (He.ga K "TooFew") ["size"] [.int (gi Z 7)], .exc (He.ga K "NoRegister") ["reg"] [.int (gi Z 8)], .exc (He.ga K "Taken") ["other"] [.str (sn N 10)], .exc (He.ga K "NotAkin") [] [], .exc (He.ga K "NoSpare") ["size"] [.int (gi Z 9)], .exc (He.ga K "TooMany") ["number"] [.int (gi Z 10)], .exc (He.ga K "Chordless") ["ring"] [.tup [.str (sn N 0), .str (sn N 1), .str (sn N 2), .str (sn N 3)]], .exc (He.ga K "NoPlace") ["at", "block"] [.int (gi Z 0), .int (gi Z 11)], .exc (He.ga K "NothingBack") [] [], .exc (He.ga K "NothingAgain") [] []]
def toldD (N : List Str) (Z : List Int) : List D := [.str (sn N 4), .int (gi Z 2), .int (gi Z 3), .int (gi Z 4), .str (sn N 5), .int (gi Z 5), .tup [.int (gi Z 0), .int (gi Z 1)], .str (sn N 6), so N Z, .str (sn N 8), .str (sn N 9), .int (gi Z 6), .int (gi Z 7), .int (gi Z 8), .str (sn N 10), .int (gi Z 9), .int (gi Z 10), .tup [.str (sn N 0), .str (sn N 1), .str (sn N 2), .str (sn N 3)], .int (gi Z 11), .int (gi Z 0)]
theorem told_ok (N : List Str) (Z : List Int) : samT 2 (.tup (toldD N Z)) = true := by
  rcases so_or N Z with e | e <;> (unfold toldD; rw [e]; rfl)
theorem made_at (K : PySem.W.Frag) (N : List Str) (Z : List Int) : ∀ x : Nat, x < 21 → ∃ (n : Str) (fs : List Str) (es : List D), atI (madeD K N Z) (0 + (x : Nat)) = some (.exc (He.ga K n) fs es) ∧ exNames[x]? = some n
  | 0, _ => ⟨_, _, _, rfl, rfl⟩
  | 1, _ => ⟨_, _, _, rfl, rfl⟩
  | 2, _ => ⟨_, _, _, rfl, rfl⟩
  | 3, _ => ⟨_, _, _, rfl, rfl⟩
  | 4, _ => ⟨_, _, _, rfl, rfl⟩
  | 5, _ => ⟨_, _, _, rfl, rfl⟩
  | 6, _ => ⟨_, _, _, rfl, rfl⟩
  | 7, _ => ⟨_, _, _, rfl, rfl⟩
  | 8, _ => ⟨_, _, _, rfl, rfl⟩
  | 9, _ => ⟨_, _, _, rfl, rfl⟩
  | 10, _ => ⟨_, _, _, rfl, rfl⟩
  | 11, _ => ⟨_, _, _, rfl, rfl⟩
  | 12, _ => ⟨_, _, _, rfl, rfl⟩
  | 13, _ => ⟨_, _, _, rfl, rfl⟩
  | 14, _ => ⟨_, _, _, rfl, rfl⟩
  | 15, _ => ⟨_, _, _, rfl, rfl⟩
  | 16, _ => ⟨_, _, _, rfl, rfl⟩
  | 17, _ => ⟨_, _, _, rfl, rfl⟩
  | 18, _ => ⟨_, _, _, rfl, rfl⟩
  | 19, _ => ⟨_, _, _, rfl, rfl⟩
  | 20, _ => ⟨_, _, _, rfl, rfl⟩
  | x + 21, h => absurd h (by omega)
theorem cnt1 {X : Cx} {n : Str} (hn : n ∈ exNames) : Mt X "list.count" "list" (.lst (exNames.map fun m => .bl (n == m))) [.bl true] (.int 1) .sh := by
  have h := Mt.count (X := X) (ds := exNames.map fun m => .bl (n == m)) (y := .bl true) rfl (fun d hd => by
    obtain ⟨m, _, rfl⟩ := List.mem_map.mp hd
    rfl)
  have e : ∀ n ∈ exNames, ((exNames.map fun m => D.bl (n == m)).countP fun z => eqD z (.bl true)) = 1 := by decide +kernel
  rwa [e n hn] at h
theorem lkF_hit {f : Str} {fs : List Str} {ds : List D} {d : D} : lkF f (f :: fs) (d :: ds) = some d := if_pos rfl
theorem lkF_skip {f g : Str} {fs : List Str} {ds : List D} {d e : D} (h : f ≠ g) (k : lkF f fs ds = some e) : lkF f (g :: fs) (d :: ds) = some e := (if_neg h).trans k
local macro_rules | `(tactic| walk_at "xl") => `(tactic| first | exact lkF_hit | exact lkF_skip (by decide +kernel) lkF_hit)
local macro_rules | `(tactic| walk_at "inT") => `(tactic| first | rfl | assumption)
local macro_rules | `(tactic| walk_at "ix") => `(tactic| first | exact Ix2.l (ix_int (by decide) (by omega)) | exact Ix2.l (ix_sn (by decide) (by omega)) | exact Ix2.l (by assumption) | exact Ix2.l rfl)
local macro_rules | `(tactic| walk_at "m count") => `(tactic| exact cnt1 (by assumption))
local macro_rules | `(tactic| walk_at "c isinstance") => `(tactic| first | exact Cl.isX (by assumption) (by assumption) | exact Cl.isXt (by assumption) (by assumption))
local macro_rules | `(tactic| walk_at "ct law_cell") => `(tactic| exact ⟨_, _, rfl, by assumption, rfl, rfl⟩)
local macro_rules | `(tactic| walk_at "ct law_draws") => `(tactic| exact ⟨_, _, _, _, rfl, by decide +kernel, by decide +kernel, by decide +kernel, by decide +kernel, by decide +kernel, by decide +kernel, rfl, rfl⟩)
local macro_rules | `(tactic| walk_at "ct law_names") => `(tactic| exact ⟨_, rfl, by rw [draws_len]; decide +kernel, rfl, rfl⟩)
local macro_rules | `(tactic| walk_at "ct law_kinds") => `(tactic| exact ⟨_, _, _, rfl, by assumption, rfl, rfl⟩)
local macro_rules | `(tactic| walk_at "ct law_same") => `(tactic| exact ⟨_, rfl, told_ok _ _, rfl, rfl⟩)
def c_law : Ct := fun ds R => ∃ ns : List Int, ds = [.lst (ns.map .int)] ∧ ns.length ≤ 63 ∧ R (.bl true) false
theorem ok_law (F : Fd K "law" s_law f fd) (hb : Bt mg) (hF : ExF K mg) (hVE : mg "ValueError" = none) (XAssignedTwice : Xd P w K mg base "AssignedTwice" (He.ga K "AssignedTwice") ["name"] 4) (XNoBlock : Xd P w K mg base "NoBlock" (He.ga K "NoBlock") ["number"] 4) (XWrongCount : Xd P w K mg base "WrongCount" (He.ga K "WrongCount") ["block"] 4) (XNotReached : Xd P w K mg base "NotReached" (He.ga K "NotReached") ["block"] 4) (XNotAssigned : Xd P w K mg base "NotAssigned" (He.ga K "NotAssigned") ["name"] 4) (XBadText : Xd P w K mg base "BadText" (He.ga K "BadText") ["line"] 4) (XNoPoint : Xd P w K mg base "NoPoint" (He.ga K "NoPoint") ["point"] 4) (XNoVariable : Xd P w K mg base "NoVariable" (He.ga K "NoVariable") ["name"] 4) (XBadRegister : Xd P w K mg base "BadRegister" (He.ga K "BadRegister") ["name"] 4) (XConflict : Xd P w K mg base "Conflict" (He.ga K "Conflict") ["first", "second"] 4) (XNoNumber : Xd P w K mg base "NoNumber" (He.ga K "NoNumber") ["number"] 4) (XTooFew : Xd P w K mg base "TooFew" (He.ga K "TooFew") ["size"] 4) (XNoRegister : Xd P w K mg base "NoRegister" (He.ga K "NoRegister") ["reg"] 4) (XTaken : Xd P w K mg base "Taken" (He.ga K "Taken") ["other"] 4) (XNotAkin : Xd P w K mg base "NotAkin" (He.ga K "NotAkin") [] 4) (XNoSpare : Xd P w K mg base "NoSpare" (He.ga K "NoSpare") ["size"] 4) (XTooMany : Xd P w K mg base "TooMany" (He.ga K "TooMany") ["number"] 4) (XChordless : Xd P w K mg base "Chordless" (He.ga K "Chordless") ["ring"] 4) (XNoPlace : Xd P w K mg base "NoPlace" (He.ga K "NoPlace") ["block", "at"] 4) (XNothingBack : Xd P w K mg base "NothingBack" (He.ga K "NothingBack") [] 4) (XNothingAgain : Xd P w K mg base "NothingAgain" (He.ga K "NothingAgain") [] 4) (D_law_kinds : Df P w K mg base "_law_kinds" p_law_kinds 2 (c_law_kinds K)) (D_law_same : Df P w K mg base "_law_same" p_law_same 4 (c_same 2)) (D_law_cell : Df P w K mg base "_law_cell" p_law_cell 2 c_law_cell) (D_law_draws : Df P w K mg base "_law_draws" p_law_draws 3 c_law_draws) (D_law_names : Df P w K mg base "_law_names" p_law_names 2 c_law_names) : FnOk P w K mg base CX0 (5 + 1) f fd p_law (spP K c_law) := by
  have sc := sc_law
  refine fnP F sc (fun ds R h => ?_) (fun cdv A outer s H E ds R hr h => ?_)
  · obtain ⟨ns, rfl, _⟩ := h; rfl
  obtain ⟨ns, rfl, hl, h⟩ := h
  show W _ _ [some (.sh, _), none, none, none, none, none, none, none, none, none, none, none] _
  refine W.asgK 1 sc.nd (EK.call D_law_names hr (by first | decide | omega) rfl (EFA.cons (EK.call D_law_draws hr (by first | decide | omega) rfl (EFA.cons (EK.call D_law_cell hr (by first | decide | omega) rfl (EFA.cons (nm 0 rfl) rfl (EFA.cons EK.int rfl EFA.nil)) (by walk_at "ct law_cell")) rfl (EFA.cons EK.int rfl (EFA.cons EK.int rfl (EFA.cons EK.int rfl EFA.nil)))) (by walk_at "ct law_draws")) rfl EFA.nil) (by walk_at "ct law_names")) ?_  -- 1
  walk_at "nz"
  have hN : (popS pool (draws (cellZ ns 0) 12 128 100003)).1.length = 12 := (popS_ok 12 _ (draws_len ..) (by rw [pool_len]; decide)).1
  generalize (popS pool (draws (cellZ ns 0) 12 128 100003)).1 = N at hN ⊢
  refine W.asgLc 2 sc.nd (LcK.mk (xs := draws (cellZ ns 1) 12 (10 ^ (30 : Int).toNat) 200017) (f := D.int) (g := fun d => some (D.int (d - 5))) (own := [ow N_law 11]) (IQ.lst (EK.r (EK.call D_law_draws hr (by first | decide | omega) rfl (EFA.cons (EK.call D_law_cell hr (by first | decide | omega) rfl (EFA.cons (nm 0 rfl) rfl (EFA.cons EK.int rfl EFA.nil)) (by walk_at "ct law_cell")) rfl (EFA.cons EK.int rfl (EFA.cons (EK.bin (EK.r EK.int) (EK.r EK.int) (by walk_at "**")) rfl (EFA.cons EK.int rfl EFA.nil)))) (by walk_at "ct law_draws")))) (blkOk_by (N := N_law) (sc := defScope s_law) (by decide +kernel)) (by rw [draws_len]; decide +kernel) fun x hx => ⟨_, _, _, fun _ _ _ _ _ => (GB.name (i := 11) sc.nd rfl (by walk_at "loc")), (by decide), fun _ _ _ _ _ => EIf.nil, fun h => ⟨_, _, fun _ _ _ _ _ => (EK.bin (EK.r (nm 11 rfl)) (EK.r EK.int) (by walk_at "-")), rfl, rfl⟩, fun h => nomatch h⟩) ?_  -- 2
  walk_at "nz"
  rw [fm_all, show ((draws (cellZ ns 1) 12 (10 ^ (30 : Int).toNat) 200017).map fun d => D.int (d - 5)) = ((draws (cellZ ns 1) 12 (10 ^ (30 : Int).toNat) 200017).map fun d => d - 5).map D.int by rw [List.map_map]; rfl]
  have hZ : ((draws (cellZ ns 1) 12 (10 ^ (30 : Int).toNat) 200017).map fun d => d - 5).length = 12 := by rw [List.length_map, draws_len]; rfl
  generalize ((draws (cellZ ns 1) 12 (10 ^ (30 : Int).toNat) 200017).map fun d => d - 5) = Z at hZ ⊢
  refine W.asgK 3 sc.nd (EK.tup (EFA.cons (EK.ix (EK.r (nm 2 rfl)) (EK.r EK.int) (by walk_at "ix")) rfl (EFA.cons (EK.ix (EK.r (nm 2 rfl)) (EK.r EK.int) (by walk_at "ix")) rfl EFA.nil))) ?_  -- 3
  walk_at "nz"
  refine W.asgK 4 sc.nd (EK.tup (EFA.cons (EK.ix (EK.r (nm 1 rfl)) (EK.r EK.int) (by walk_at "ix")) rfl (EFA.cons (EK.ix (EK.r (nm 1 rfl)) (EK.r EK.int) (by walk_at "ix")) rfl (EFA.cons (EK.ix (EK.r (nm 1 rfl)) (EK.r EK.int) (by walk_at "ix")) rfl (EFA.cons (EK.ix (EK.r (nm 1 rfl)) (EK.r EK.int) (by walk_at "ix")) rfl EFA.nil))))) ?_  -- 4
  walk_at "nz"
  have hso := so_at N Z
  have hsi : [so N Z].all inT = true := by rcases so_or N Z with e | e <;> rw [e] <;> rfl
  refine W.asgK 5 sc.nd (EK.ix (EK.r (EK.lst (EFA.cons (EK.ix (EK.r (nm 1 rfl)) (EK.r EK.int) (by walk_at "ix")) rfl (EFA.cons EK.non rfl EFA.nil)))) (EK.r (EK.bin (EK.r (EK.cT (ERA.cons (EK.r (EK.ix (EK.r (nm 2 rfl)) (EK.r EK.int) (by walk_at "ix"))) ERA.nil) (by walk_at "c int") rfl hb.int boot_int)) (EK.r EK.int) (by walk_at "%"))) (by walk_at "ix")) ?_  -- 5
  walk_at "nz"
  refine W.asgK 6 sc.nd (EK.lst (EFA.cons (EK.exc XAssignedTwice hr (by decide) rfl (EFA.cons (EK.ix (EK.r (nm 1 rfl)) (EK.r EK.int) (by walk_at "ix")) rfl EFA.nil) (by walk_at "inT") rfl (by walk_at "len")) rfl (EFA.cons (EK.exc XNoBlock hr (by decide) rfl (EFA.cons (EK.ix (EK.r (nm 2 rfl)) (EK.r EK.int) (by walk_at "ix")) rfl EFA.nil) (by walk_at "inT") rfl (by walk_at "len")) rfl EFA.nil))) ?_  -- 6
  walk_at "nz"
  refine W.exprV (EV.cg 6 PySem.F.slot_list_extend PySem.F.type_list_extend rfl (by walk_at "vis") rfl (by decide) (EVA.cons (EV.q (EK.lst (EFA.cons (EK.exc XWrongCount hr (by decide) rfl (EFA.cons (EK.ix (EK.r (nm 2 rfl)) (EK.r EK.int) (by walk_at "ix")) rfl EFA.nil) (by walk_at "inT") rfl (by walk_at "len")) rfl (EFA.cons (EK.exc XNotReached hr (by decide) rfl (EFA.cons (EK.ix (EK.r (nm 2 rfl)) (EK.r EK.int) (by walk_at "ix")) rfl EFA.nil) (by walk_at "inT") rfl (by walk_at "len")) rfl EFA.nil))) rfl) rfl EVA.nil) rfl (by walk_at "m extend") (by decide)) ?_  -- 7
  walk_at "nz"
  refine W.exprV (EV.cg 6 PySem.F.slot_list_extend PySem.F.type_list_extend rfl (by walk_at "vis") rfl (by decide) (EVA.cons (EV.q (EK.lst (EFA.cons (EK.exc XNotAssigned hr (by decide) rfl (EFA.cons (EK.ix (EK.r (nm 1 rfl)) (EK.r EK.int) (by walk_at "ix")) rfl EFA.nil) (by walk_at "inT") rfl (by walk_at "len")) rfl (EFA.cons (EK.exc XBadText hr (by decide) rfl (EFA.cons (EK.ix (EK.r (nm 2 rfl)) (EK.r EK.int) (by walk_at "ix")) rfl EFA.nil) (by walk_at "inT") rfl (by walk_at "len")) rfl EFA.nil))) rfl) rfl EVA.nil) rfl (by walk_at "m extend") (by decide)) ?_  -- 8
  walk_at "nz"
  refine W.exprV (EV.cg 6 PySem.F.slot_list_extend PySem.F.type_list_extend rfl (by walk_at "vis") rfl (by decide) (EVA.cons (EV.q (EK.lst (EFA.cons (EK.exc XNoPoint hr (by decide) rfl (EFA.cons (nm 3 rfl) rfl EFA.nil) (by walk_at "inT") rfl (by walk_at "len")) rfl (EFA.cons (EK.exc XNoVariable hr (by decide) rfl (EFA.cons (EK.ix (EK.r (nm 1 rfl)) (EK.r EK.int) (by walk_at "ix")) rfl EFA.nil) (by walk_at "inT") rfl (by walk_at "len")) rfl EFA.nil))) rfl) rfl EVA.nil) rfl (by walk_at "m extend") (by decide)) ?_  -- 9
  walk_at "nz"
  refine W.exprV (EV.cg 6 PySem.F.slot_list_extend PySem.F.type_list_extend rfl (by walk_at "vis") rfl (by decide) (EVA.cons (EV.q (EK.lst (EFA.cons (EK.exc XBadRegister hr (by decide) rfl (EFA.cons (nm 5 rfl) rfl EFA.nil) (by walk_at "inT") rfl (by walk_at "len")) rfl (EFA.cons (EK.exc XConflict hr (by decide) rfl (EFA.cons (EK.ix (EK.r (nm 1 rfl)) (EK.r EK.int) (by walk_at "ix")) rfl (EFA.cons (EK.ix (EK.r (nm 1 rfl)) (EK.r EK.int) (by walk_at "ix")) rfl EFA.nil)) (by walk_at "inT") rfl (by walk_at "len")) rfl EFA.nil))) rfl) rfl EVA.nil) rfl (by walk_at "m extend") (by decide)) ?_  -- 10
  walk_at "nz"
  refine W.exprV (EV.cg 6 PySem.F.slot_list_extend PySem.F.type_list_extend rfl (by walk_at "vis") rfl (by decide) (EVA.cons (EV.q (EK.lst (EFA.cons (EK.exc XNoNumber hr (by decide) rfl (EFA.cons (EK.ix (EK.r (nm 2 rfl)) (EK.r EK.int) (by walk_at "ix")) rfl EFA.nil) (by walk_at "inT") rfl (by walk_at "len")) rfl (EFA.cons (EK.exc XTooFew hr (by decide) rfl (EFA.cons (EK.ix (EK.r (nm 2 rfl)) (EK.r EK.int) (by walk_at "ix")) rfl EFA.nil) (by walk_at "inT") rfl (by walk_at "len")) rfl EFA.nil))) rfl) rfl EVA.nil) rfl (by walk_at "m extend") (by decide)) ?_  -- 11
  walk_at "nz"
  refine W.exprV (EV.cg 6 PySem.F.slot_list_extend PySem.F.type_list_extend rfl (by walk_at "vis") rfl (by decide) (EVA.cons (EV.q (EK.lst (EFA.cons (EK.exc XNoRegister hr (by decide) rfl (EFA.cons (EK.ix (EK.r (nm 2 rfl)) (EK.r EK.int) (by walk_at "ix")) rfl EFA.nil) (by walk_at "inT") rfl (by walk_at "len")) rfl (EFA.cons (EK.exc XTaken hr (by decide) rfl (EFA.cons (EK.ix (EK.r (nm 1 rfl)) (EK.r EK.int) (by walk_at "ix")) rfl EFA.nil) (by walk_at "inT") rfl (by walk_at "len")) rfl EFA.nil))) rfl) rfl EVA.nil) rfl (by walk_at "m extend") (by decide)) ?_  -- 12
  walk_at "nz"
  refine W.exprV (EV.cg 6 PySem.F.slot_list_extend PySem.F.type_list_extend rfl (by walk_at "vis") rfl (by decide) (EVA.cons (EV.q (EK.lst (EFA.cons (EK.exc0 XNotAkin hr (by decide) rfl) rfl (EFA.cons (EK.exc XNoSpare hr (by decide) rfl (EFA.cons (EK.ix (EK.r (nm 2 rfl)) (EK.r EK.int) (by walk_at "ix")) rfl EFA.nil) (by walk_at "inT") rfl (by walk_at "len")) rfl (EFA.cons (EK.exc XTooMany hr (by decide) rfl (EFA.cons (EK.ix (EK.r (nm 2 rfl)) (EK.r EK.int) (by walk_at "ix")) rfl EFA.nil) (by walk_at "inT") rfl (by walk_at "len")) rfl EFA.nil)))) rfl) rfl EVA.nil) rfl (by walk_at "m extend") (by decide)) ?_  -- 13
  walk_at "nz"
  refine W.exprV (EV.cg 6 PySem.F.slot_list_extend PySem.F.type_list_extend rfl (by walk_at "vis") rfl (by decide) (EVA.cons (EV.q (EK.lst (EFA.cons (EK.exc XChordless hr (by decide) rfl (EFA.cons (nm 4 rfl) rfl EFA.nil) (by walk_at "inT") rfl (by walk_at "len")) rfl (EFA.cons (EK.exc XNoPlace hr (by decide) rfl (EFA.cons (EK.ix (EK.r (nm 2 rfl)) (EK.r EK.int) (by walk_at "ix")) rfl (EFA.cons (EK.ix (EK.r (nm 2 rfl)) (EK.r EK.int) (by walk_at "ix")) rfl EFA.nil)) (by walk_at "inT") rfl (by walk_at "len")) rfl EFA.nil))) rfl) rfl EVA.nil) rfl (by walk_at "m extend") (by decide)) ?_  -- 14
  walk_at "nz"
  refine W.exprV (EV.cg 6 PySem.F.slot_list_extend PySem.F.type_list_extend rfl (by walk_at "vis") rfl (by decide) (EVA.cons (EV.q (EK.lst (EFA.cons (EK.exc0 XNothingBack hr (by decide) rfl) rfl (EFA.cons (EK.exc0 XNothingAgain hr (by decide) rfl) rfl EFA.nil))) rfl) rfl EVA.nil) rfl (by walk_at "m extend") (by decide)) ?_  -- 15
  walk_at "nz"
  show W _ _ [some (.sh, .lst (ns.map .int)), some (.own, .lst (N.map .str)), some (.own, .lst (Z.map .int)), some (.sh, .tup [.int (gi Z 0), .int (gi Z 1)]), some (.sh, .tup [.str (sn N 0), .str (sn N 1), .str (sn N 2), .str (sn N 3)]), some (.sh, so N Z), some (.own, .lst (madeD K N Z)), none, none, none, none, none] _
  have h21 : (madeD K N Z).length = 21 := rfl
  refine W.cons' (WS.for (xs := List.range ((madeD K N Z).length : Int).toNat) (f := fun i => D.int (0 + (i : Nat))) .never rfl (IT.rng rfl hb.range (ERA.cons (EK.r (EK.cB (ERA.cons (EK.r (nm 6 rfl)) ERA.nil) (by walk_at "c len") rfl hb.len boot_len)) ERA.nil) (by walk_at "rg")) (fun pre ρ => ∃ o1 o2, ρ = [some (.sh, .lst (ns.map .int)), some (.own, .lst (N.map .str)), some (.own, .lst (Z.map .int)), some (.sh, .tup [.int (gi Z 0), .int (gi Z 1)]), some (.sh, .tup [.str (sn N 0), .str (sn N 1), .str (sn N 2), .str (sn N 3)]), some (.sh, so N Z), some (.own, .lst (madeD K N Z)), o1, o2, none, none, none]) ?h0 (fun pre x post ρ e j => ?_) (fun ρ j => ?_))  -- 16
  case h0 =>
    exact ⟨_, _, rfl⟩
  ·
    obtain ⟨o1, o2, rfl⟩ := j
    obtain ⟨rfl, hx⟩ := range_cut e
    have hx : pre.length < 21 := by omega
    obtain ⟨n, fs, es, hi, hni⟩ := made_at K N Z pre.length hx
    have hn : n ∈ exNames := List.mem_of_getElem? hni
    have hxn := hF.hx n hn
    have hrn := hF.hr n hn
    have hvn := hF.hv n hn
    have hki : atI (exNames.map fun m => D.bl (n == m)) (0 + (pre.length : Nat)) = some (.bl true) := atI_of (by omega) (by rw [show ((0 : Int) + (pre.length : Nat)).toNat = pre.length by omega, List.getElem?_map, hni]; show some (D.bl (n == n)) = _; rw [beq_self_eq_true])
    refine ⟨_, _, (GB.name (i := 7) sc.nd rfl (by walk_at "loc")), ?_⟩
    walk_at "nz"
    refine W.asgK 8 sc.nd (EK.call D_law_kinds hr (by first | decide | omega) rfl (EFA.cons (EK.ix (EK.r (nm 6 rfl)) (EK.r (nm 7 rfl)) (by walk_at "ix")) rfl EFA.nil) (by walk_at "ct law_kinds")) ?_  -- 17
    walk_at "nz"
    refine W.ifS (ET.w (EW.or (ET.cmp (EK.r (EK.cm PySem.F.plainAttrs_list PySem.F.slot_list_count PySem.F.type_list_count (EK.r (nm 8 rfl)) (ERA.cons (EK.r EK.bl) ERA.nil) (by walk_at "m count"))) (EK.r EK.int) (by walk_at "!=")) fun h => (EW.or1 (ET.not (ET.tru (EK.r (EK.ix (EK.r (nm 8 rfl)) (EK.r (nm 7 rfl)) (by walk_at "ix"))) rfl))))) (fun hc => ?_) (fun hc => ?_)  -- 18
    ·
      simp at hc
    refine W.nil ?_
    show W _ _ _ _
    refine W.ifS (ET.not (ET.val (EK.cB (ERA.cons (EK.r (EK.ix (EK.r (nm 6 rfl)) (EK.r (nm 7 rfl)) (by walk_at "ix"))) (ERA.cons (EK.r (EK.glo rfl (hF.gC "RegisterError" (by decide +kernel)))) ERA.nil)) (by walk_at "c isinstance") rfl hb.isinstance boot_isinstance))) (fun hc => ?_) (fun hc => ?_)  -- 20
    ·
      cases hc
    refine W.nil ?_
    show W _ _ _ _
    refine W.ifS (ET.not (ET.val (EK.cB (ERA.cons (EK.r (EK.ix (EK.r (nm 6 rfl)) (EK.r (nm 7 rfl)) (by walk_at "ix"))) (ERA.cons (EK.r (EK.tyN (n := "ValueError") rfl hVE PyProof.Rows.Boot.«ValueError»)) ERA.nil)) (by walk_at "c isinstance") rfl hb.isinstance boot_isinstance))) (fun hc => ?_) (fun hc => ?_)  -- 22
    ·
      cases hc
    refine W.nil ?_
    show W _ _ _ _
    refine W.nil ?_
    exact ⟨_, _, rfl⟩
  obtain ⟨o1, o2, rfl⟩ := j
  show W _ _ _ _
  refine W.asgK 9 sc.nd (EK.lst (EFA.cons (EK.xf (EK.r (EK.ix (EK.r (nm 6 rfl)) (EK.r EK.int) (by walk_at "ix"))) (hF.hx _ (by decide +kernel)) (hF.hn (_, _) (by decide +kernel)) (by walk_at "xl")) rfl (EFA.cons (EK.xf (EK.r (EK.ix (EK.r (nm 6 rfl)) (EK.r EK.int) (by walk_at "ix"))) (hF.hx _ (by decide +kernel)) (hF.hn (_, _) (by decide +kernel)) (by walk_at "xl")) rfl (EFA.cons (EK.xf (EK.r (EK.ix (EK.r (nm 6 rfl)) (EK.r EK.int) (by walk_at "ix"))) (hF.hx _ (by decide +kernel)) (hF.hn (_, _) (by decide +kernel)) (by walk_at "xl")) rfl EFA.nil)))) ?_  -- 24
  walk_at "nz"
  refine W.exprV (EV.cg 9 PySem.F.slot_list_extend PySem.F.type_list_extend rfl (by walk_at "vis") rfl (by decide) (EVA.cons (EV.q (EK.lst (EFA.cons (EK.xf (EK.r (EK.ix (EK.r (nm 6 rfl)) (EK.r EK.int) (by walk_at "ix"))) (hF.hx _ (by decide +kernel)) (hF.hn (_, _) (by decide +kernel)) (by walk_at "xl")) rfl (EFA.cons (EK.xf (EK.r (EK.ix (EK.r (nm 6 rfl)) (EK.r EK.int) (by walk_at "ix"))) (hF.hx _ (by decide +kernel)) (hF.hn (_, _) (by decide +kernel)) (by walk_at "xl")) rfl (EFA.cons (EK.xf (EK.r (EK.ix (EK.r (nm 6 rfl)) (EK.r EK.int) (by walk_at "ix"))) (hF.hx _ (by decide +kernel)) (hF.hn (_, _) (by decide +kernel)) (by walk_at "xl")) rfl EFA.nil)))) rfl) rfl EVA.nil) rfl (by walk_at "m extend") (by decide)) ?_  -- 25
  walk_at "nz"
  refine W.exprV (EV.cg 9 PySem.F.slot_list_extend PySem.F.type_list_extend rfl (by walk_at "vis") rfl (by decide) (EVA.cons (EV.q (EK.lst (EFA.cons (EK.xf (EK.r (EK.ix (EK.r (nm 6 rfl)) (EK.r EK.int) (by walk_at "ix"))) (hF.hx _ (by decide +kernel)) (hF.hn (_, _) (by decide +kernel)) (by walk_at "xl")) rfl (EFA.cons (EK.xf (EK.r (EK.ix (EK.r (nm 6 rfl)) (EK.r EK.int) (by walk_at "ix"))) (hF.hx _ (by decide +kernel)) (hF.hn (_, _) (by decide +kernel)) (by walk_at "xl")) rfl (EFA.cons (EK.xf (EK.r (EK.ix (EK.r (nm 6 rfl)) (EK.r EK.int) (by walk_at "ix"))) (hF.hx _ (by decide +kernel)) (hF.hn (_, _) (by decide +kernel)) (by walk_at "xl")) rfl EFA.nil)))) rfl) rfl EVA.nil) rfl (by walk_at "m extend") (by decide)) ?_  -- 26
  walk_at "nz"
  refine W.exprV (EV.cg 9 PySem.F.slot_list_extend PySem.F.type_list_extend rfl (by walk_at "vis") rfl (by decide) (EVA.cons (EV.q (EK.lst (EFA.cons (EK.xf (EK.r (EK.ix (EK.r (nm 6 rfl)) (EK.r EK.int) (by walk_at "ix"))) (hF.hx _ (by decide +kernel)) (hF.hn (_, _) (by decide +kernel)) (by walk_at "xl")) rfl (EFA.cons (EK.xf (EK.r (EK.ix (EK.r (nm 6 rfl)) (EK.r EK.int) (by walk_at "ix"))) (hF.hx _ (by decide +kernel)) (hF.hn (_, _) (by decide +kernel)) (by walk_at "xl")) rfl EFA.nil))) rfl) rfl EVA.nil) rfl (by walk_at "m extend") (by decide)) ?_  -- 27
  walk_at "nz"
  refine W.exprV (EV.cg 9 PySem.F.slot_list_extend PySem.F.type_list_extend rfl (by walk_at "vis") rfl (by decide) (EVA.cons (EV.q (EK.lst (EFA.cons (EK.xf (EK.r (EK.ix (EK.r (nm 6 rfl)) (EK.r EK.int) (by walk_at "ix"))) (hF.hx _ (by decide +kernel)) (hF.hn (_, _) (by decide +kernel)) (by walk_at "xl")) rfl (EFA.cons (EK.xf (EK.r (EK.ix (EK.r (nm 6 rfl)) (EK.r EK.int) (by walk_at "ix"))) (hF.hx _ (by decide +kernel)) (hF.hn (_, _) (by decide +kernel)) (by walk_at "xl")) rfl (EFA.cons (EK.xf (EK.r (EK.ix (EK.r (nm 6 rfl)) (EK.r EK.int) (by walk_at "ix"))) (hF.hx _ (by decide +kernel)) (hF.hn (_, _) (by decide +kernel)) (by walk_at "xl")) rfl EFA.nil)))) rfl) rfl EVA.nil) rfl (by walk_at "m extend") (by decide)) ?_  -- 28
  walk_at "nz"
  refine W.exprV (EV.cg 9 PySem.F.slot_list_extend PySem.F.type_list_extend rfl (by walk_at "vis") rfl (by decide) (EVA.cons (EV.q (EK.lst (EFA.cons (EK.xf (EK.r (EK.ix (EK.r (nm 6 rfl)) (EK.r EK.int) (by walk_at "ix"))) (hF.hx _ (by decide +kernel)) (hF.hn (_, _) (by decide +kernel)) (by walk_at "xl")) rfl (EFA.cons (EK.xf (EK.r (EK.ix (EK.r (nm 6 rfl)) (EK.r EK.int) (by walk_at "ix"))) (hF.hx _ (by decide +kernel)) (hF.hn (_, _) (by decide +kernel)) (by walk_at "xl")) rfl (EFA.cons (EK.xf (EK.r (EK.ix (EK.r (nm 6 rfl)) (EK.r EK.int) (by walk_at "ix"))) (hF.hx _ (by decide +kernel)) (hF.hn (_, _) (by decide +kernel)) (by walk_at "xl")) rfl EFA.nil)))) rfl) rfl EVA.nil) rfl (by walk_at "m extend") (by decide)) ?_  -- 29
  walk_at "nz"
  refine W.exprV (EV.cg 9 PySem.F.slot_list_extend PySem.F.type_list_extend rfl (by walk_at "vis") rfl (by decide) (EVA.cons (EV.q (EK.lst (EFA.cons (EK.xf (EK.r (EK.ix (EK.r (nm 6 rfl)) (EK.r EK.int) (by walk_at "ix"))) (hF.hx _ (by decide +kernel)) (hF.hn (_, _) (by decide +kernel)) (by walk_at "xl")) rfl (EFA.cons (EK.xf (EK.r (EK.ix (EK.r (nm 6 rfl)) (EK.r EK.int) (by walk_at "ix"))) (hF.hx _ (by decide +kernel)) (hF.hn (_, _) (by decide +kernel)) (by walk_at "xl")) rfl (EFA.cons (EK.xf (EK.r (EK.ix (EK.r (nm 6 rfl)) (EK.r EK.int) (by walk_at "ix"))) (hF.hx _ (by decide +kernel)) (hF.hn (_, _) (by decide +kernel)) (by walk_at "xl")) rfl EFA.nil)))) rfl) rfl EVA.nil) rfl (by walk_at "m extend") (by decide)) ?_  -- 30
  walk_at "nz"
  show W _ _ [some (.sh, .lst (ns.map .int)), some (.own, .lst (N.map .str)), some (.own, .lst (Z.map .int)), some (.sh, .tup [.int (gi Z 0), .int (gi Z 1)]), some (.sh, .tup [.str (sn N 0), .str (sn N 1), .str (sn N 2), .str (sn N 3)]), some (.sh, so N Z), some (.own, .lst (madeD K N Z)), _, _, some (.own, .lst (toldD N Z)), none, none] _
  refine W.asgK 10 sc.nd (EK.lst (EFA.cons (EK.ix (EK.r (nm 1 rfl)) (EK.r EK.int) (by walk_at "ix")) rfl (EFA.cons (EK.ix (EK.r (nm 2 rfl)) (EK.r EK.int) (by walk_at "ix")) rfl (EFA.cons (EK.ix (EK.r (nm 2 rfl)) (EK.r EK.int) (by walk_at "ix")) rfl (EFA.cons (EK.ix (EK.r (nm 2 rfl)) (EK.r EK.int) (by walk_at "ix")) rfl (EFA.cons (EK.ix (EK.r (nm 1 rfl)) (EK.r EK.int) (by walk_at "ix")) rfl (EFA.cons (EK.ix (EK.r (nm 2 rfl)) (EK.r EK.int) (by walk_at "ix")) rfl EFA.nil))))))) ?_  -- 31
  walk_at "nz"
  refine W.exprV (EV.cg 10 PySem.F.slot_list_extend PySem.F.type_list_extend rfl (by walk_at "vis") rfl (by decide) (EVA.cons (EV.q (EK.lst (EFA.cons (nm 3 rfl) rfl (EFA.cons (EK.ix (EK.r (nm 1 rfl)) (EK.r EK.int) (by walk_at "ix")) rfl (EFA.cons (nm 5 rfl) rfl (EFA.cons (EK.ix (EK.r (nm 1 rfl)) (EK.r EK.int) (by walk_at "ix")) rfl (EFA.cons (EK.ix (EK.r (nm 1 rfl)) (EK.r EK.int) (by walk_at "ix")) rfl EFA.nil)))))) rfl) rfl EVA.nil) rfl (by walk_at "m extend") (by decide)) ?_  -- 32
  walk_at "nz"
  refine W.exprV (EV.cg 10 PySem.F.slot_list_extend PySem.F.type_list_extend rfl (by walk_at "vis") rfl (by decide) (EVA.cons (EV.q (EK.lst (EFA.cons (EK.ix (EK.r (nm 2 rfl)) (EK.r EK.int) (by walk_at "ix")) rfl (EFA.cons (EK.ix (EK.r (nm 2 rfl)) (EK.r EK.int) (by walk_at "ix")) rfl (EFA.cons (EK.ix (EK.r (nm 2 rfl)) (EK.r EK.int) (by walk_at "ix")) rfl (EFA.cons (EK.ix (EK.r (nm 1 rfl)) (EK.r EK.int) (by walk_at "ix")) rfl (EFA.cons (EK.ix (EK.r (nm 2 rfl)) (EK.r EK.int) (by walk_at "ix")) rfl EFA.nil)))))) rfl) rfl EVA.nil) rfl (by walk_at "m extend") (by decide)) ?_  -- 33
  walk_at "nz"
  refine W.exprV (EV.cg 10 PySem.F.slot_list_extend PySem.F.type_list_extend rfl (by walk_at "vis") rfl (by decide) (EVA.cons (EV.q (EK.lst (EFA.cons (EK.ix (EK.r (nm 2 rfl)) (EK.r EK.int) (by walk_at "ix")) rfl (EFA.cons (nm 4 rfl) rfl (EFA.cons (EK.ix (EK.r (nm 2 rfl)) (EK.r EK.int) (by walk_at "ix")) rfl (EFA.cons (EK.ix (EK.r (nm 2 rfl)) (EK.r EK.int) (by walk_at "ix")) rfl EFA.nil))))) rfl) rfl EVA.nil) rfl (by walk_at "m extend") (by decide)) ?_  -- 34
  walk_at "nz"
  show W _ _ [some (.sh, .lst (ns.map .int)), some (.own, .lst (N.map .str)), some (.own, .lst (Z.map .int)), some (.sh, .tup [.int (gi Z 0), .int (gi Z 1)]), some (.sh, .tup [.str (sn N 0), .str (sn N 1), .str (sn N 2), .str (sn N 3)]), some (.sh, so N Z), some (.own, .lst (madeD K N Z)), _, _, some (.own, .lst (toldD N Z)), some (.own, .lst (toldD N Z)), none] _
  refine W.retK (EK.call D_law_same hr (by first | decide | omega) rfl (EFA.cons (EK.cT (ERA.cons (EK.r (nm 9 rfl)) ERA.nil) (by walk_at "c tuple") rfl hb.tuple boot_tuple) rfl (EFA.cons (EK.cT (ERA.cons (EK.r (nm 10 rfl)) ERA.nil) (by walk_at "c tuple") rfl hb.tuple boot_tuple) rfl EFA.nil)) (by walk_at "ct law_same")) ?_  -- 35
  exact h

end
end Pv
/-! What the head must tell of errors' classes; a hook with a test of one's own. -/
namespace Pv
open PySem PySem.Spec PySem.W L2 PyProof.Rows He
section
variable {K : Fr} {C : Addr}
def xcB (K : Fr) (C : Addr) : Bool := match K.lookup C with
  | some ⟨.type "type", _, .cls cd, sl⟩ => (match cd.mro, sl.toList with
    | .ref C' :: bm, [_, _, _, _, some (.builtin n), _] => C' == C && n == "ValueError.__new__" && !cd.hasDel && cd.hasDict && PySem.HandSPX.refsVE bm
    | _, _ => false)
  | _ => false
theorem xc_of (q : xcB K C = true) : ∃ nm q N bs bm sn sub ab col dd k0 k1 k2 k3 k5, K.lookup C = some (excClassObj nm q C N bs bm true sn sub ab col dd k0 k1 k2 k3 k5 "ValueError.__new__") ∧ PySem.HandSPX.refsVE bm = true := by
  unfold xcB at q
  split at q
  · rename_i dd cd sl ho
    split at q
    · rename_i C' bm k0 k1 k2 k3 n k5 hm hs
      simp only [Bool.and_eq_true, beq_iff_eq, Bool.not_eq_true'] at q
      obtain ⟨⟨⟨⟨rfl, rfl⟩, hdel⟩, hdc⟩, ht⟩ := q
      obtain ⟨nm, bs, mro, ns, qn, hd, sn, sub, ab, col, del⟩ := cd
      dsimp only at hm hdel hdc
      subst hm hdel hdc
      have hsl : sl = #[k0, k1, k2, k3, some (.builtin "ValueError.__new__"), k5] := by
        obtain ⟨l⟩ := sl
        simp only at hs
        rw [hs]
      subst hsl
      exact ⟨nm, qn, ns, bs, bm, sn, sub, ab, col, dd, k0, k1, k2, k3, k5, ho, ht⟩
    · cases q
  · cases q
def exB (K : Fr) (C : Addr) : Bool := xcB K C && (eqO (findIn K (.ref C) "__setattr__") (some (some (.builtin "object.__setattr__"))) && (decide (subIn K (.ref C) (.type "BaseException") = some true) && (decide (typeIn K (.ref C) = some (.type "type")) && (keepIn K (.ref C) &&
  (eqO (findIn K (.ref C) "__getattribute__") (some (some (.builtin "BaseException.__getattribute__"))) && (eqO (findIn K (.ref C) "__getattr__") (some none) && (hasDictIn K C && (eqO (findIn K (.ref C) "__class__") (some (some (.builtin "object.__class__"))) &&
  (eqO (specialIn K (.builtin "object.__class__") "__get__") (some (some (.builtin "getset_descriptor.__get__"))) && (decide (takesIn K (.builtin "object.__class__") = some true) && decide (mroIn K C (.type "object") = some true)))))))))))
theorem ex_ok (c : exB K C = true) : XC K C := by
  obtain ⟨c1, c⟩ := ba c
  obtain ⟨c2, c⟩ := ba c
  obtain ⟨c3, c⟩ := ba c
  obtain ⟨c4, c⟩ := ba c
  obtain ⟨c5, c⟩ := ba c
  obtain ⟨c6, c⟩ := ba c
  obtain ⟨c7, c⟩ := ba c
  obtain ⟨c8, c⟩ := ba c
  obtain ⟨c9, c⟩ := ba c
  obtain ⟨c10, c⟩ := ba c
  obtain ⟨c11, c12⟩ := ba c
  exact ⟨⟨xc_of c1, eqO_ok c2, of_decide_eq_true c3, of_decide_eq_true c4, c5⟩, ⟨eqO_ok c6, eqO_ok c7, of_decide_eq_true c3, c8, eqO_ok c9, eqO_ok c10, of_decide_eq_true c11, of_decide_eq_true c12⟩⟩
end
/-! ### a hook -/
abbrev AlX : Type := AlD × Bool
def obsXK (fa : List Fa) (fn : List DefD) (B : Fr → Bool) (K : Fr) : AlX := (obsD fa fn K, B K)
def obsX (n : Nat) (fa : List Fa) (fn : List DefD) (B : Fr → Bool) (g : Addr → Option Obj) : AlX := obsXK fa fn B (frG g (asD g n))
def hookX (n : Nat) (fa : List Fa) (fn : List DefD) (B : Fr → Bool) : PySem.W.Hook where
  α := AlX
  obs := fun s => obsX n fa fn B s.heap.get?
  val := fun _ => (valD fn, true)
  says := fun _ h => ∃ K : PySem.W.Frag, K.In h ∧ SaysD fa fn K ∧ B K = true
  of := fun _ _ e => ⟨_, frG_in, congrArg (fun z : AlX => z.1) e, congrArg (fun z : AlX => z.2) e⟩
  keeps := fun _ _ _ ⟨K, hK, c⟩ k => ⟨K, PySem.W.Frag.In.keeps hK k, c⟩
theorem obsX_eq {n : Nat} {fa : List Fa} {fn : List DefD} {B : Fr → Bool} {g : Addr → Option Obj} {s : Shared} (h : ∀ a, g a = s.heap.get? a) : obsX n fa fn B g = (hookX n fa fn B).obs s := by
  have e : g = s.heap.get? := funext h
  rw [e] <;> rfl
theorem all_of {α : Type} {l : List α} {p : α → Bool} (h : l.all p = true) : ∀ x ∈ l, p x = true := List.all_eq_true.mp h
/-- the spec that walk_ofE wants -/
def spLaw (K : Fr) : Sp := fun vs H Q _ => ∃ (a : Addr) (ns : List Int), vs = [.ref a] ∧ ns.length ≤ 63 ∧ SqL K H a (ns.map V.int) ∧ ∀ H', Q (.bl true) H'
theorem ofInts' {K : Fr} {O : Addr → Prop} {H : Hp} : ∀ {ns : List Int}, RpL K O H (ns.map D.int) (ns.map V.int) := Rp.ofInts
def c_lawG : Ct := fun ds R => ∃ ns : List Int, ds = [.lst (ns.map .int)] ∧ ns.length ≤ 63 ∧ R (.bl true) false
theorem law_ok {P : Program} {w : World} {K : Fr} {mg : Str → Option Value} {base : Heap} {f : Addr} {fd : FuncData} {ps : List Str} {k : Nat} (F : FnOk P w K mg base CX0 k f fd ps (spP K c_lawG)) : FnOk P w K mg base CX0 k f fd ps (spLaw K) :=
  F.imp fun vs H Q E ⟨a, ns, e, hl, hs, q⟩ => ⟨fun _ => False, [.lst (ns.map .int)], fun d f => d = .bl true ∧ f = false, fun _ z => z.elim, by
    subst e
    refine RpL.cons ?_ RpL.nil
    simp only [Rp]
    exact ⟨a, _, rfl, hs.imp (fun z => ⟨z, fun q => q⟩) id, Rp.ofInts⟩, ⟨ns, rfl, hl, rfl, rfl⟩, fun v H' d f ⟨e1, e2⟩ o => by
    subst e1 e2
    have := o.2
    simp only [Rp] at this
    subst this
    exact q H'⟩
end Pv
namespace Pv
open PySem PySem.Spec PyProof.Rows L2
def dd7 (at_ : Str × Option Str) (nm qn : Str) (st : Stmt) : He.DefD := ⟨at_, nm, qn, defArgs st, defBody st, defScope st, [], []⟩
def fn7 : List He.DefD := [dd7 ("in_tuples", none) "in_tuples" "in_tuples" s_in_tuples, dd7 ("_law_cell", none) "_law_cell" "_law_cell" s_law_cell, dd7 ("_law_mixed", none) "_law_mixed" "_law_mixed" s_law_mixed, dd7 ("_law_draws", none) "_law_draws" "_law_draws" s_law_draws, dd7 ("_law_names", none) "_law_names" "_law_names" s_law_names, dd7 ("_law_same", none) "_law_same" "_law_same" s_law_same, dd7 ("_law_kinds", none) "_law_kinds" "_law_kinds" s_law_kinds, dd7 ("law", none) "law" "law" s_law, dd7 ("AssignedTwice", some "__init__") "__init__" "AssignedTwice.__init__" s_AssignedTwice_init, dd7 ("NoBlock", some "__init__") "__init__" "NoBlock.__init__" s_NoBlock_init, dd7 ("WrongCount", some "__init__") "__init__" "WrongCount.__init__" s_WrongCount_init, dd7 ("NotReached", some "__init__") "__init__" "NotReached.__init__" s_NotReached_init, dd7 ("NotAssigned", some "__init__") "__init__" "NotAssigned.__init__" s_NotAssigned_init, dd7 ("BadText", some "__init__") "__init__" "BadText.__init__" s_BadText_init, dd7 ("NoPoint", some "__init__") "__init__" "NoPoint.__init__" s_NoPoint_init, dd7 ("NoVariable", some "__init__") "__init__" "NoVariable.__init__" s_NoVariable_init, dd7 ("BadRegister", some "__init__") "__init__" "BadRegister.__init__" s_BadRegister_init, dd7 ("Conflict", some "__init__") "__init__" "Conflict.__init__" s_Conflict_init, dd7 ("NoNumber", some "__init__") "__init__" "NoNumber.__init__" s_NoNumber_init, dd7 ("TooFew", some "__init__") "__init__" "TooFew.__init__" s_TooFew_init, dd7 ("NoRegister", some "__init__") "__init__" "NoRegister.__init__" s_NoRegister_init, dd7 ("Taken", some "__init__") "__init__" "Taken.__init__" s_Taken_init, dd7 ("NotAkin", some "__init__") "__init__" "NotAkin.__init__" s_NotAkin_init, dd7 ("NoSpare", some "__init__") "__init__" "NoSpare.__init__" s_NoSpare_init, dd7 ("TooMany", some "__init__") "__init__" "TooMany.__init__" s_TooMany_init, dd7 ("Chordless", some "__init__") "__init__" "Chordless.__init__" s_Chordless_init, dd7 ("NoPlace", some "__init__") "__init__" "NoPlace.__init__" s_NoPlace_init, dd7 ("NothingBack", some "__init__") "__init__" "NothingBack.__init__" s_NothingBack_init, dd7 ("NothingAgain", some "__init__") "__init__" "NothingAgain.__init__" s_NothingAgain_init]
def fa7 : List He.Fa := [.glo "in_tuples", .glo "_law_cell", .glo "_law_mixed", .glo "_law_draws", .glo "_law_names", .glo "_law_same", .glo "_law_kinds", .glo "law", .free "len", .free "int", .free "range", .free "max", .free "min", .free "tuple", .free "list", .free "isinstance", .free "str", .free "bool", .free "ValueError", .meth "AssignedTwice" "__init__", .meth "NoBlock" "__init__", .meth "WrongCount" "__init__", .meth "NotReached" "__init__", .meth "NotAssigned" "__init__", .meth "BadText" "__init__", .meth "NoPoint" "__init__", .meth "NoVariable" "__init__", .meth "BadRegister" "__init__", .meth "Conflict" "__init__", .meth "NoNumber" "__init__", .meth "TooFew" "__init__", .meth "NoRegister" "__init__", .meth "Taken" "__init__", .meth "NotAkin" "__init__", .meth "NoSpare" "__init__", .meth "TooMany" "__init__", .meth "Chordless" "__init__", .meth "NoPlace" "__init__", .meth "NothingBack" "__init__", .meth "NothingAgain" "__init__"]
def B7 (K : Fr) : Bool := clNames.all (fun m => He.eqO (PySem.W.nsIn K mainGlobals m) (some (some (.ref (He.ga K m))))) && (exNames.all (fun n => exB K (He.ga K n)) && (exNames.all (fun n => exNames.all fun m => decide (PySem.W.kitOne K (.ref (He.ga K n)) (.ref (He.ga K m)) = some (n == m))) &&
  (exNames.all (fun n => decide (PySem.W.kitOne K (.ref (He.ga K n)) (.ref (He.ga K "RegisterError")) = some true)) && (exNames.all (fun n => decide (PySem.W.kitOne K (.ref (He.ga K n)) (.type "ValueError") = some true)) && atTab.all fun q => He.eqO (PySem.W.findIn K (.ref (He.ga K q.1)) q.2) (some none)))))
abbrev R7 : PySem.W.OpenRow := PySem.W.OpenLaw.row PySem.Challenge.rw_registerways_k07_errors_of_their_own
abbrev hk7 : PySem.W.Hook := hookX 5 fa7 fn7 B7
def ob7 (s : PySem.W.SharedT) : AlX := obsX 5 fa7 fn7 B7 (HandSHeadRun.getT s)
theorem ob7_eq (s : PySem.W.SharedT) : ob7 s = hk7.obs s.abs := obsX_eq (HandSHeadRun.getT_eq s)
def names7 : List PySem.Str := ["in_tuples", "RegisterError", "AssignedTwice", "NoBlock", "WrongCount", "NotReached", "NotAssigned", "BadText", "NoPoint", "NoVariable", "BadRegister", "Conflict", "NoNumber", "TooFew", "NoRegister", "Taken", "NotAkin", "NoSpare", "TooMany", "Chordless", "NoPlace", "NothingBack", "NothingAgain", "_law_cell", "_law_mixed", "_law_draws", "_law_names", "_law_same", "_law_kinds"]
theorem run7 (w : World) : HandSHeadRun.RunEq R7 (PySem.W.view R7.prog [32]) hk7 ob7 6000 names7 w := by
  intro os
  kernel_rfl
theorem exf7 {K : Fr} {h : Heap} {mg : Str → Option Value} (X : K.In h) (G : h.Ns mainGlobals mg) (c : B7 K = true) : ExF K mg := by
  obtain ⟨c1, c⟩ := He.ba c
  obtain ⟨c2, c⟩ := He.ba c
  obtain ⟨c3, c⟩ := He.ba c
  obtain ⟨c4, c⟩ := He.ba c
  obtain ⟨c5, c6⟩ := He.ba c
  exact ⟨fun m hm => PySem.W.mg_of X G (He.eqO_ok (all_of c1 m hm)), fun n hn => ex_ok (all_of c2 n hn), fun n hn m hm => of_decide_eq_true (all_of (all_of c3 n hn) m hm), fun n hn => of_decide_eq_true (all_of c4 n hn), fun n hn => of_decide_eq_true (all_of c5 n hn), fun q hq => He.eqO_ok (all_of c6 q hq)⟩
section
variable {P : Program} {w : World} {K : PySem.W.Frag} {h base : Heap} {mg : Str → Option Value}

theorem in7 {f : Addr} {fd : FuncData} (F : Fd K "in_tuples" s_in_tuples f fd) (hb : Bt mg) (hm : mg "in_tuples" = some (.ref f)) : Df P w K mg base "in_tuples" ["value"] 3 c_in_tuples := by
  have b : ∀ (kV doc pm : Value) (an : Option Addr) (cdv ct : Value) (us : List Value), us.length = ["value"].length → bindArgs (PySem.W.fnOf "in_tuples" "in_tuples" (defArgs s_in_tuples) (defBody s_in_tuples) (defScope s_in_tuples) .none kV doc pm an cdv ct) ⟨us, []⟩ = pure ((["value"] : List Str).zip us) := fun _ _ _ _ _ _ us hl => match us, hl with | [_], _ => rfl
  refine Df.of F hm (FnOk.orP ((ok_in_tuples0 F hb).mono (by decide)) (ok_in_tuplesT F hb (Df.of F hm (ok_in_tuples0 F hb) b)) fun ds R ⟨d, e, hd, hr⟩ => ?_) b
  cases d with
  | tup es =>
    obtain ⟨q1, q2⟩ := Bool.and_eq_true_iff.mp hd
    exact .inr ⟨es, e, q1, of_decide_eq_true q2, hr⟩
  | _ => exact .inl ⟨_, e, hd, hr⟩
theorem same7 {f : Addr} {fd : FuncData} (F : Fd K "_law_same" s_law_same f fd) (hb : Bt mg) (hm : mg "_law_same" = some (.ref f)) : Df P w K mg base "_law_same" p_law_same 4 (c_same 2) := by
  have b : ∀ (kV doc pm : Value) (an : Option Addr) (cdv ct : Value) (us : List Value), us.length = p_law_same.length → bindArgs (PySem.W.fnOf "_law_same" "_law_same" (defArgs s_law_same) (defBody s_law_same) (defScope s_law_same) .none kV doc pm an cdv ct) ⟨us, []⟩ = pure (p_law_same.zip us) := fun _ _ _ _ _ _ us hl => match us, hl with | [_, _], _ => rfl
  exact Df.of F hm (ok_sameS F hb (Df.of F hm (ok_sameS F hb (Df.of F hm (ok_same0 F hb) b) (by decide)) b) (by decide)) b

theorem xd7_AssignedTwice {fd : FuncData} (hF : ExF K mg) (hin : Df P w K mg base "in_tuples" ["value"] 3 c_in_tuples) (F : FunD K "__init__" "AssignedTwice.__init__" (defArgs s_AssignedTwice_init) (defBody s_AssignedTwice_init) (defScope s_AssignedTwice_init) [] [] (He.ma K (He.ga K "AssignedTwice") "__init__") fd) (M : Meth K (He.ga K "AssignedTwice") "__init__" (He.ma K (He.ga K "AssignedTwice") "__init__")) : Xd P w K mg base "AssignedTwice" (He.ga K "AssignedTwice") ["name"] 4 :=
  ⟨hF.gC "AssignedTwice" (by decide +kernel), hF.hx "AssignedTwice" (by decide +kernel), _, fd, ["self", "name"], M.at_, beq_iff_eq.mp M.fn, F.bindsN (fun _ _ _ _ _ _ us hl => match us, hl with | [_, _], _ => rfl), (ok_init1 F sc_AssignedTwice_init (hF.hx "AssignedTwice" (by decide +kernel)).o (hF.hn ("AssignedTwice", "name") (by decide +kernel)) hin (fun _ _ _ _ _ _ => rfl) (.inl rfl) (.inl rfl) (by decide) (by decide))⟩
theorem xd7_NoBlock {fd : FuncData} (hF : ExF K mg) (hin : Df P w K mg base "in_tuples" ["value"] 3 c_in_tuples) (F : FunD K "__init__" "NoBlock.__init__" (defArgs s_NoBlock_init) (defBody s_NoBlock_init) (defScope s_NoBlock_init) [] [] (He.ma K (He.ga K "NoBlock") "__init__") fd) (M : Meth K (He.ga K "NoBlock") "__init__" (He.ma K (He.ga K "NoBlock") "__init__")) : Xd P w K mg base "NoBlock" (He.ga K "NoBlock") ["number"] 4 :=
  ⟨hF.gC "NoBlock" (by decide +kernel), hF.hx "NoBlock" (by decide +kernel), _, fd, ["self", "number"], M.at_, beq_iff_eq.mp M.fn, F.bindsN (fun _ _ _ _ _ _ us hl => match us, hl with | [_, _], _ => rfl), (ok_init1 F sc_NoBlock_init (hF.hx "NoBlock" (by decide +kernel)).o (hF.hn ("NoBlock", "number") (by decide +kernel)) hin (fun _ _ _ _ _ _ => rfl) (.inl rfl) (.inl rfl) (by decide) (by decide))⟩
theorem xd7_WrongCount {fd : FuncData} (hF : ExF K mg) (hin : Df P w K mg base "in_tuples" ["value"] 3 c_in_tuples) (F : FunD K "__init__" "WrongCount.__init__" (defArgs s_WrongCount_init) (defBody s_WrongCount_init) (defScope s_WrongCount_init) [] [] (He.ma K (He.ga K "WrongCount") "__init__") fd) (M : Meth K (He.ga K "WrongCount") "__init__" (He.ma K (He.ga K "WrongCount") "__init__")) : Xd P w K mg base "WrongCount" (He.ga K "WrongCount") ["block"] 4 :=
  ⟨hF.gC "WrongCount" (by decide +kernel), hF.hx "WrongCount" (by decide +kernel), _, fd, ["self", "block"], M.at_, beq_iff_eq.mp M.fn, F.bindsN (fun _ _ _ _ _ _ us hl => match us, hl with | [_, _], _ => rfl), (ok_init1 F sc_WrongCount_init (hF.hx "WrongCount" (by decide +kernel)).o (hF.hn ("WrongCount", "block") (by decide +kernel)) hin (fun _ _ _ _ _ _ => rfl) (.inl rfl) (.inl rfl) (by decide) (by decide))⟩
theorem xd7_NotReached {fd : FuncData} (hF : ExF K mg) (hin : Df P w K mg base "in_tuples" ["value"] 3 c_in_tuples) (F : FunD K "__init__" "NotReached.__init__" (defArgs s_NotReached_init) (defBody s_NotReached_init) (defScope s_NotReached_init) [] [] (He.ma K (He.ga K "NotReached") "__init__") fd) (M : Meth K (He.ga K "NotReached") "__init__" (He.ma K (He.ga K "NotReached") "__init__")) : Xd P w K mg base "NotReached" (He.ga K "NotReached") ["block"] 4 :=
  ⟨hF.gC "NotReached" (by decide +kernel), hF.hx "NotReached" (by decide +kernel), _, fd, ["self", "block"], M.at_, beq_iff_eq.mp M.fn, F.bindsN (fun _ _ _ _ _ _ us hl => match us, hl with | [_, _], _ => rfl), (ok_init1 F sc_NotReached_init (hF.hx "NotReached" (by decide +kernel)).o (hF.hn ("NotReached", "block") (by decide +kernel)) hin (fun _ _ _ _ _ _ => rfl) (.inl rfl) (.inl rfl) (by decide) (by decide))⟩
theorem xd7_NotAssigned {fd : FuncData} (hF : ExF K mg) (hin : Df P w K mg base "in_tuples" ["value"] 3 c_in_tuples) (F : FunD K "__init__" "NotAssigned.__init__" (defArgs s_NotAssigned_init) (defBody s_NotAssigned_init) (defScope s_NotAssigned_init) [] [] (He.ma K (He.ga K "NotAssigned") "__init__") fd) (M : Meth K (He.ga K "NotAssigned") "__init__" (He.ma K (He.ga K "NotAssigned") "__init__")) : Xd P w K mg base "NotAssigned" (He.ga K "NotAssigned") ["name"] 4 :=
  ⟨hF.gC "NotAssigned" (by decide +kernel), hF.hx "NotAssigned" (by decide +kernel), _, fd, ["self", "name"], M.at_, beq_iff_eq.mp M.fn, F.bindsN (fun _ _ _ _ _ _ us hl => match us, hl with | [_, _], _ => rfl), (ok_init1 F sc_NotAssigned_init (hF.hx "NotAssigned" (by decide +kernel)).o (hF.hn ("NotAssigned", "name") (by decide +kernel)) hin (fun _ _ _ _ _ _ => rfl) (.inl rfl) (.inl rfl) (by decide) (by decide))⟩
theorem xd7_BadText {fd : FuncData} (hF : ExF K mg) (hin : Df P w K mg base "in_tuples" ["value"] 3 c_in_tuples) (F : FunD K "__init__" "BadText.__init__" (defArgs s_BadText_init) (defBody s_BadText_init) (defScope s_BadText_init) [] [] (He.ma K (He.ga K "BadText") "__init__") fd) (M : Meth K (He.ga K "BadText") "__init__" (He.ma K (He.ga K "BadText") "__init__")) : Xd P w K mg base "BadText" (He.ga K "BadText") ["line"] 4 :=
  ⟨hF.gC "BadText" (by decide +kernel), hF.hx "BadText" (by decide +kernel), _, fd, ["self", "line"], M.at_, beq_iff_eq.mp M.fn, F.bindsN (fun _ _ _ _ _ _ us hl => match us, hl with | [_, _], _ => rfl), (ok_init1 F sc_BadText_init (hF.hx "BadText" (by decide +kernel)).o (hF.hn ("BadText", "line") (by decide +kernel)) hin (fun _ _ _ _ _ _ => rfl) (.inl rfl) (.inl rfl) (by decide) (by decide))⟩
theorem xd7_NoPoint {fd : FuncData} (hF : ExF K mg) (hin : Df P w K mg base "in_tuples" ["value"] 3 c_in_tuples) (F : FunD K "__init__" "NoPoint.__init__" (defArgs s_NoPoint_init) (defBody s_NoPoint_init) (defScope s_NoPoint_init) [] [] (He.ma K (He.ga K "NoPoint") "__init__") fd) (M : Meth K (He.ga K "NoPoint") "__init__" (He.ma K (He.ga K "NoPoint") "__init__")) : Xd P w K mg base "NoPoint" (He.ga K "NoPoint") ["point"] 4 :=
  ⟨hF.gC "NoPoint" (by decide +kernel), hF.hx "NoPoint" (by decide +kernel), _, fd, ["self", "point"], M.at_, beq_iff_eq.mp M.fn, F.bindsN (fun _ _ _ _ _ _ us hl => match us, hl with | [_, _], _ => rfl), (ok_init1 F sc_NoPoint_init (hF.hx "NoPoint" (by decide +kernel)).o (hF.hn ("NoPoint", "point") (by decide +kernel)) hin (fun _ _ _ _ _ _ => rfl) (.inl rfl) (.inl rfl) (by decide) (by decide))⟩
theorem xd7_NoVariable {fd : FuncData} (hF : ExF K mg) (hin : Df P w K mg base "in_tuples" ["value"] 3 c_in_tuples) (F : FunD K "__init__" "NoVariable.__init__" (defArgs s_NoVariable_init) (defBody s_NoVariable_init) (defScope s_NoVariable_init) [] [] (He.ma K (He.ga K "NoVariable") "__init__") fd) (M : Meth K (He.ga K "NoVariable") "__init__" (He.ma K (He.ga K "NoVariable") "__init__")) : Xd P w K mg base "NoVariable" (He.ga K "NoVariable") ["name"] 4 :=
  ⟨hF.gC "NoVariable" (by decide +kernel), hF.hx "NoVariable" (by decide +kernel), _, fd, ["self", "name"], M.at_, beq_iff_eq.mp M.fn, F.bindsN (fun _ _ _ _ _ _ us hl => match us, hl with | [_, _], _ => rfl), (ok_init1 F sc_NoVariable_init (hF.hx "NoVariable" (by decide +kernel)).o (hF.hn ("NoVariable", "name") (by decide +kernel)) hin (fun _ _ _ _ _ _ => rfl) (.inl rfl) (.inl rfl) (by decide) (by decide))⟩
theorem xd7_BadRegister {fd : FuncData} (hF : ExF K mg) (hin : Df P w K mg base "in_tuples" ["value"] 3 c_in_tuples) (F : FunD K "__init__" "BadRegister.__init__" (defArgs s_BadRegister_init) (defBody s_BadRegister_init) (defScope s_BadRegister_init) [] [] (He.ma K (He.ga K "BadRegister") "__init__") fd) (M : Meth K (He.ga K "BadRegister") "__init__" (He.ma K (He.ga K "BadRegister") "__init__")) : Xd P w K mg base "BadRegister" (He.ga K "BadRegister") ["name"] 4 :=
  ⟨hF.gC "BadRegister" (by decide +kernel), hF.hx "BadRegister" (by decide +kernel), _, fd, ["self", "name"], M.at_, beq_iff_eq.mp M.fn, F.bindsN (fun _ _ _ _ _ _ us hl => match us, hl with | [_, _], _ => rfl), (ok_init1 F sc_BadRegister_init (hF.hx "BadRegister" (by decide +kernel)).o (hF.hn ("BadRegister", "name") (by decide +kernel)) hin (fun _ _ _ _ _ _ => rfl) (.inl rfl) (.inl rfl) (by decide) (by decide))⟩
theorem xd7_Conflict {fd : FuncData} (hF : ExF K mg) (hin : Df P w K mg base "in_tuples" ["value"] 3 c_in_tuples) (F : FunD K "__init__" "Conflict.__init__" (defArgs s_Conflict_init) (defBody s_Conflict_init) (defScope s_Conflict_init) [] [] (He.ma K (He.ga K "Conflict") "__init__") fd) (M : Meth K (He.ga K "Conflict") "__init__" (He.ma K (He.ga K "Conflict") "__init__")) : Xd P w K mg base "Conflict" (He.ga K "Conflict") ["first", "second"] 4 :=
  ⟨hF.gC "Conflict" (by decide +kernel), hF.hx "Conflict" (by decide +kernel), _, fd, ["self", "first", "second"], M.at_, beq_iff_eq.mp M.fn, F.bindsN (fun _ _ _ _ _ _ us hl => match us, hl with | [_, _, _], _ => rfl), (ok_init2 F sc_Conflict_init (hF.hx "Conflict" (by decide +kernel)).o (hF.hn ("Conflict", "first") (by decide +kernel)) (hF.hn ("Conflict", "second") (by decide +kernel)) hin (fun _ _ _ _ _ _ => rfl) (.inl rfl) (.inl rfl) (by decide) (by decide) (.inl rfl) (by decide) (by decide))⟩
theorem xd7_NoNumber {fd : FuncData} (hF : ExF K mg) (hin : Df P w K mg base "in_tuples" ["value"] 3 c_in_tuples) (F : FunD K "__init__" "NoNumber.__init__" (defArgs s_NoNumber_init) (defBody s_NoNumber_init) (defScope s_NoNumber_init) [] [] (He.ma K (He.ga K "NoNumber") "__init__") fd) (M : Meth K (He.ga K "NoNumber") "__init__" (He.ma K (He.ga K "NoNumber") "__init__")) : Xd P w K mg base "NoNumber" (He.ga K "NoNumber") ["number"] 4 :=
  ⟨hF.gC "NoNumber" (by decide +kernel), hF.hx "NoNumber" (by decide +kernel), _, fd, ["self", "number"], M.at_, beq_iff_eq.mp M.fn, F.bindsN (fun _ _ _ _ _ _ us hl => match us, hl with | [_, _], _ => rfl), (ok_init1 F sc_NoNumber_init (hF.hx "NoNumber" (by decide +kernel)).o (hF.hn ("NoNumber", "number") (by decide +kernel)) hin (fun _ _ _ _ _ _ => rfl) (.inl rfl) (.inl rfl) (by decide) (by decide))⟩
theorem xd7_TooFew {fd : FuncData} (hF : ExF K mg) (hin : Df P w K mg base "in_tuples" ["value"] 3 c_in_tuples) (F : FunD K "__init__" "TooFew.__init__" (defArgs s_TooFew_init) (defBody s_TooFew_init) (defScope s_TooFew_init) [] [] (He.ma K (He.ga K "TooFew") "__init__") fd) (M : Meth K (He.ga K "TooFew") "__init__" (He.ma K (He.ga K "TooFew") "__init__")) : Xd P w K mg base "TooFew" (He.ga K "TooFew") ["size"] 4 :=
  ⟨hF.gC "TooFew" (by decide +kernel), hF.hx "TooFew" (by decide +kernel), _, fd, ["self", "size"], M.at_, beq_iff_eq.mp M.fn, F.bindsN (fun _ _ _ _ _ _ us hl => match us, hl with | [_, _], _ => rfl), (ok_init1 F sc_TooFew_init (hF.hx "TooFew" (by decide +kernel)).o (hF.hn ("TooFew", "size") (by decide +kernel)) hin (fun _ _ _ _ _ _ => rfl) (.inl rfl) (.inl rfl) (by decide) (by decide))⟩
theorem xd7_NoRegister {fd : FuncData} (hF : ExF K mg) (hin : Df P w K mg base "in_tuples" ["value"] 3 c_in_tuples) (F : FunD K "__init__" "NoRegister.__init__" (defArgs s_NoRegister_init) (defBody s_NoRegister_init) (defScope s_NoRegister_init) [] [] (He.ma K (He.ga K "NoRegister") "__init__") fd) (M : Meth K (He.ga K "NoRegister") "__init__" (He.ma K (He.ga K "NoRegister") "__init__")) : Xd P w K mg base "NoRegister" (He.ga K "NoRegister") ["reg"] 4 :=
  ⟨hF.gC "NoRegister" (by decide +kernel), hF.hx "NoRegister" (by decide +kernel), _, fd, ["self", "reg"], M.at_, beq_iff_eq.mp M.fn, F.bindsN (fun _ _ _ _ _ _ us hl => match us, hl with | [_, _], _ => rfl), (ok_init1 F sc_NoRegister_init (hF.hx "NoRegister" (by decide +kernel)).o (hF.hn ("NoRegister", "reg") (by decide +kernel)) hin (fun _ _ _ _ _ _ => rfl) (.inl rfl) (.inl rfl) (by decide) (by decide))⟩
theorem xd7_Taken {fd : FuncData} (hF : ExF K mg) (hin : Df P w K mg base "in_tuples" ["value"] 3 c_in_tuples) (F : FunD K "__init__" "Taken.__init__" (defArgs s_Taken_init) (defBody s_Taken_init) (defScope s_Taken_init) [] [] (He.ma K (He.ga K "Taken") "__init__") fd) (M : Meth K (He.ga K "Taken") "__init__" (He.ma K (He.ga K "Taken") "__init__")) : Xd P w K mg base "Taken" (He.ga K "Taken") ["other"] 4 :=
  ⟨hF.gC "Taken" (by decide +kernel), hF.hx "Taken" (by decide +kernel), _, fd, ["self", "other"], M.at_, beq_iff_eq.mp M.fn, F.bindsN (fun _ _ _ _ _ _ us hl => match us, hl with | [_, _], _ => rfl), (ok_init1 F sc_Taken_init (hF.hx "Taken" (by decide +kernel)).o (hF.hn ("Taken", "other") (by decide +kernel)) hin (fun _ _ _ _ _ _ => rfl) (.inl rfl) (.inl rfl) (by decide) (by decide))⟩
theorem xd7_NotAkin {fd : FuncData} (hF : ExF K mg) (hin : Df P w K mg base "in_tuples" ["value"] 3 c_in_tuples) (F : FunD K "__init__" "NotAkin.__init__" (defArgs s_NotAkin_init) (defBody s_NotAkin_init) (defScope s_NotAkin_init) [] [] (He.ma K (He.ga K "NotAkin") "__init__") fd) (M : Meth K (He.ga K "NotAkin") "__init__" (He.ma K (He.ga K "NotAkin") "__init__")) : Xd P w K mg base "NotAkin" (He.ga K "NotAkin") [] 4 :=
  ⟨hF.gC "NotAkin" (by decide +kernel), hF.hx "NotAkin" (by decide +kernel), _, fd, ["self"], M.at_, beq_iff_eq.mp M.fn, F.bindsN (fun _ _ _ _ _ _ us hl => match us, hl with | [_], _ => rfl), ((ok_init0 F sc_NotAkin_init).mono (by decide))⟩
theorem xd7_NoSpare {fd : FuncData} (hF : ExF K mg) (hin : Df P w K mg base "in_tuples" ["value"] 3 c_in_tuples) (F : FunD K "__init__" "NoSpare.__init__" (defArgs s_NoSpare_init) (defBody s_NoSpare_init) (defScope s_NoSpare_init) [] [] (He.ma K (He.ga K "NoSpare") "__init__") fd) (M : Meth K (He.ga K "NoSpare") "__init__" (He.ma K (He.ga K "NoSpare") "__init__")) : Xd P w K mg base "NoSpare" (He.ga K "NoSpare") ["size"] 4 :=
  ⟨hF.gC "NoSpare" (by decide +kernel), hF.hx "NoSpare" (by decide +kernel), _, fd, ["self", "size"], M.at_, beq_iff_eq.mp M.fn, F.bindsN (fun _ _ _ _ _ _ us hl => match us, hl with | [_, _], _ => rfl), (ok_init1 F sc_NoSpare_init (hF.hx "NoSpare" (by decide +kernel)).o (hF.hn ("NoSpare", "size") (by decide +kernel)) hin (fun _ _ _ _ _ _ => rfl) (.inl rfl) (.inl rfl) (by decide) (by decide))⟩
theorem xd7_TooMany {fd : FuncData} (hF : ExF K mg) (hin : Df P w K mg base "in_tuples" ["value"] 3 c_in_tuples) (F : FunD K "__init__" "TooMany.__init__" (defArgs s_TooMany_init) (defBody s_TooMany_init) (defScope s_TooMany_init) [] [] (He.ma K (He.ga K "TooMany") "__init__") fd) (M : Meth K (He.ga K "TooMany") "__init__" (He.ma K (He.ga K "TooMany") "__init__")) : Xd P w K mg base "TooMany" (He.ga K "TooMany") ["number"] 4 :=
  ⟨hF.gC "TooMany" (by decide +kernel), hF.hx "TooMany" (by decide +kernel), _, fd, ["self", "number"], M.at_, beq_iff_eq.mp M.fn, F.bindsN (fun _ _ _ _ _ _ us hl => match us, hl with | [_, _], _ => rfl), (ok_init1 F sc_TooMany_init (hF.hx "TooMany" (by decide +kernel)).o (hF.hn ("TooMany", "number") (by decide +kernel)) hin (fun _ _ _ _ _ _ => rfl) (.inl rfl) (.inl rfl) (by decide) (by decide))⟩
theorem xd7_Chordless {fd : FuncData} (hF : ExF K mg) (hin : Df P w K mg base "in_tuples" ["value"] 3 c_in_tuples) (F : FunD K "__init__" "Chordless.__init__" (defArgs s_Chordless_init) (defBody s_Chordless_init) (defScope s_Chordless_init) [] [] (He.ma K (He.ga K "Chordless") "__init__") fd) (M : Meth K (He.ga K "Chordless") "__init__" (He.ma K (He.ga K "Chordless") "__init__")) : Xd P w K mg base "Chordless" (He.ga K "Chordless") ["ring"] 4 :=
  ⟨hF.gC "Chordless" (by decide +kernel), hF.hx "Chordless" (by decide +kernel), _, fd, ["self", "ring"], M.at_, beq_iff_eq.mp M.fn, F.bindsN (fun _ _ _ _ _ _ us hl => match us, hl with | [_, _], _ => rfl), (ok_init1 F sc_Chordless_init (hF.hx "Chordless" (by decide +kernel)).o (hF.hn ("Chordless", "ring") (by decide +kernel)) hin (fun _ _ _ _ _ _ => rfl) (.inl rfl) (.inl rfl) (by decide) (by decide))⟩
theorem xd7_NoPlace {fd : FuncData} (hF : ExF K mg) (hin : Df P w K mg base "in_tuples" ["value"] 3 c_in_tuples) (F : FunD K "__init__" "NoPlace.__init__" (defArgs s_NoPlace_init) (defBody s_NoPlace_init) (defScope s_NoPlace_init) [] [] (He.ma K (He.ga K "NoPlace") "__init__") fd) (M : Meth K (He.ga K "NoPlace") "__init__" (He.ma K (He.ga K "NoPlace") "__init__")) : Xd P w K mg base "NoPlace" (He.ga K "NoPlace") ["block", "at"] 4 :=
  ⟨hF.gC "NoPlace" (by decide +kernel), hF.hx "NoPlace" (by decide +kernel), _, fd, ["self", "block", "at"], M.at_, beq_iff_eq.mp M.fn, F.bindsN (fun _ _ _ _ _ _ us hl => match us, hl with | [_, _, _], _ => rfl), (ok_init2 F sc_NoPlace_init (hF.hx "NoPlace" (by decide +kernel)).o (hF.hn ("NoPlace", "block") (by decide +kernel)) (hF.hn ("NoPlace", "at") (by decide +kernel)) hin (fun _ _ _ _ _ _ => rfl) (.inl rfl) (.inl rfl) (by decide) (by decide) (.inl rfl) (by decide) (by decide))⟩
theorem xd7_NothingBack {fd : FuncData} (hF : ExF K mg) (hin : Df P w K mg base "in_tuples" ["value"] 3 c_in_tuples) (F : FunD K "__init__" "NothingBack.__init__" (defArgs s_NothingBack_init) (defBody s_NothingBack_init) (defScope s_NothingBack_init) [] [] (He.ma K (He.ga K "NothingBack") "__init__") fd) (M : Meth K (He.ga K "NothingBack") "__init__" (He.ma K (He.ga K "NothingBack") "__init__")) : Xd P w K mg base "NothingBack" (He.ga K "NothingBack") [] 4 :=
  ⟨hF.gC "NothingBack" (by decide +kernel), hF.hx "NothingBack" (by decide +kernel), _, fd, ["self"], M.at_, beq_iff_eq.mp M.fn, F.bindsN (fun _ _ _ _ _ _ us hl => match us, hl with | [_], _ => rfl), ((ok_init0 F sc_NothingBack_init).mono (by decide))⟩
theorem xd7_NothingAgain {fd : FuncData} (hF : ExF K mg) (hin : Df P w K mg base "in_tuples" ["value"] 3 c_in_tuples) (F : FunD K "__init__" "NothingAgain.__init__" (defArgs s_NothingAgain_init) (defBody s_NothingAgain_init) (defScope s_NothingAgain_init) [] [] (He.ma K (He.ga K "NothingAgain") "__init__") fd) (M : Meth K (He.ga K "NothingAgain") "__init__" (He.ma K (He.ga K "NothingAgain") "__init__")) : Xd P w K mg base "NothingAgain" (He.ga K "NothingAgain") [] 4 :=
  ⟨hF.gC "NothingAgain" (by decide +kernel), hF.hx "NothingAgain" (by decide +kernel), _, fd, ["self"], M.at_, beq_iff_eq.mp M.fn, F.bindsN (fun _ _ _ _ _ _ us hl => match us, hl with | [_], _ => rfl), ((ok_init0 F sc_NothingAgain_init).mono (by decide))⟩
theorem facts7 {f : Addr} (X : K.In h) (G : h.Ns mainGlobals mg) (hfa : mg ("law" : Str) = some (.ref f)) (c : He.SaysD fa7 fn7 K) (cB : B7 K = true) :
    ∃ fd : FuncData, (∀ (s : Shared) (v : Value), BindsTo s fd ⟨[v], []⟩ [("_law_script", v)]) ∧ ∀ base : Heap, K.In base → base.Ns mainGlobals mg → FnOk P w K mg base CX0 6 f fd ["_law_script"] (spLaw K) := by
  have hF : ExF K mg := exf7 X G cB
  obtain ⟨fd0, F0⟩ := c.def_ 0 (d := dd7 ("in_tuples", none) "in_tuples" "in_tuples" s_in_tuples) rfl
  have m0 := He.glo_ok X G (c.fact 0 (f := .glo "in_tuples") rfl)
  obtain ⟨fd1, F1⟩ := c.def_ 1 (d := dd7 ("_law_cell", none) "_law_cell" "_law_cell" s_law_cell) rfl
  have m1 := He.glo_ok X G (c.fact 1 (f := .glo "_law_cell") rfl)
  obtain ⟨fd2, F2⟩ := c.def_ 2 (d := dd7 ("_law_mixed", none) "_law_mixed" "_law_mixed" s_law_mixed) rfl
  have m2 := He.glo_ok X G (c.fact 2 (f := .glo "_law_mixed") rfl)
  obtain ⟨fd3, F3⟩ := c.def_ 3 (d := dd7 ("_law_draws", none) "_law_draws" "_law_draws" s_law_draws) rfl
  have m3 := He.glo_ok X G (c.fact 3 (f := .glo "_law_draws") rfl)
  obtain ⟨fd4, F4⟩ := c.def_ 4 (d := dd7 ("_law_names", none) "_law_names" "_law_names" s_law_names) rfl
  have m4 := He.glo_ok X G (c.fact 4 (f := .glo "_law_names") rfl)
  obtain ⟨fd5, F5⟩ := c.def_ 5 (d := dd7 ("_law_same", none) "_law_same" "_law_same" s_law_same) rfl
  have m5 := He.glo_ok X G (c.fact 5 (f := .glo "_law_same") rfl)
  obtain ⟨fd6, F6⟩ := c.def_ 6 (d := dd7 ("_law_kinds", none) "_law_kinds" "_law_kinds" s_law_kinds) rfl
  have m6 := He.glo_ok X G (c.fact 6 (f := .glo "_law_kinds") rfl)
  obtain ⟨fd7, F7⟩ := c.def_ 7 (d := dd7 ("law", none) "law" "law" s_law) rfl
  have m7 := He.glo_ok X G (c.fact 7 (f := .glo "law") rfl)
  have n_len := He.free_ok X G (c.fact 8 (f := .free "len") rfl)
  have n_int := He.free_ok X G (c.fact 9 (f := .free "int") rfl)
  have n_range := He.free_ok X G (c.fact 10 (f := .free "range") rfl)
  have n_max := He.free_ok X G (c.fact 11 (f := .free "max") rfl)
  have n_min := He.free_ok X G (c.fact 12 (f := .free "min") rfl)
  have n_tuple := He.free_ok X G (c.fact 13 (f := .free "tuple") rfl)
  have n_list := He.free_ok X G (c.fact 14 (f := .free "list") rfl)
  have n_isinstance := He.free_ok X G (c.fact 15 (f := .free "isinstance") rfl)
  have n_str := He.free_ok X G (c.fact 16 (f := .free "str") rfl)
  have n_bool := He.free_ok X G (c.fact 17 (f := .free "bool") rfl)
  have n_ValueError := He.free_ok X G (c.fact 18 (f := .free "ValueError") rfl)
  have hb : Bt mg := ⟨n_len, n_int, n_range, n_max, n_min, n_tuple, n_list, n_isinstance, n_str, n_bool⟩
  obtain ⟨fe0, E0⟩ := c.def_ 8 (d := dd7 ("AssignedTwice", some "__init__") "__init__" "AssignedTwice.__init__" s_AssignedTwice_init) rfl
  have M0 := He.meth_ok (c.fact 19 (f := .meth "AssignedTwice" "__init__") rfl)
  obtain ⟨fe1, E1⟩ := c.def_ 9 (d := dd7 ("NoBlock", some "__init__") "__init__" "NoBlock.__init__" s_NoBlock_init) rfl
  have M1 := He.meth_ok (c.fact 20 (f := .meth "NoBlock" "__init__") rfl)
  obtain ⟨fe2, E2⟩ := c.def_ 10 (d := dd7 ("WrongCount", some "__init__") "__init__" "WrongCount.__init__" s_WrongCount_init) rfl
  have M2 := He.meth_ok (c.fact 21 (f := .meth "WrongCount" "__init__") rfl)
  obtain ⟨fe3, E3⟩ := c.def_ 11 (d := dd7 ("NotReached", some "__init__") "__init__" "NotReached.__init__" s_NotReached_init) rfl
  have M3 := He.meth_ok (c.fact 22 (f := .meth "NotReached" "__init__") rfl)
  obtain ⟨fe4, E4⟩ := c.def_ 12 (d := dd7 ("NotAssigned", some "__init__") "__init__" "NotAssigned.__init__" s_NotAssigned_init) rfl
  have M4 := He.meth_ok (c.fact 23 (f := .meth "NotAssigned" "__init__") rfl)
  obtain ⟨fe5, E5⟩ := c.def_ 13 (d := dd7 ("BadText", some "__init__") "__init__" "BadText.__init__" s_BadText_init) rfl
  have M5 := He.meth_ok (c.fact 24 (f := .meth "BadText" "__init__") rfl)
  obtain ⟨fe6, E6⟩ := c.def_ 14 (d := dd7 ("NoPoint", some "__init__") "__init__" "NoPoint.__init__" s_NoPoint_init) rfl
  have M6 := He.meth_ok (c.fact 25 (f := .meth "NoPoint" "__init__") rfl)
  obtain ⟨fe7, E7⟩ := c.def_ 15 (d := dd7 ("NoVariable", some "__init__") "__init__" "NoVariable.__init__" s_NoVariable_init) rfl
  have M7 := He.meth_ok (c.fact 26 (f := .meth "NoVariable" "__init__") rfl)
  obtain ⟨fe8, E8⟩ := c.def_ 16 (d := dd7 ("BadRegister", some "__init__") "__init__" "BadRegister.__init__" s_BadRegister_init) rfl
  have M8 := He.meth_ok (c.fact 27 (f := .meth "BadRegister" "__init__") rfl)
  obtain ⟨fe9, E9⟩ := c.def_ 17 (d := dd7 ("Conflict", some "__init__") "__init__" "Conflict.__init__" s_Conflict_init) rfl
  have M9 := He.meth_ok (c.fact 28 (f := .meth "Conflict" "__init__") rfl)
  obtain ⟨fe10, E10⟩ := c.def_ 18 (d := dd7 ("NoNumber", some "__init__") "__init__" "NoNumber.__init__" s_NoNumber_init) rfl
  have M10 := He.meth_ok (c.fact 29 (f := .meth "NoNumber" "__init__") rfl)
  obtain ⟨fe11, E11⟩ := c.def_ 19 (d := dd7 ("TooFew", some "__init__") "__init__" "TooFew.__init__" s_TooFew_init) rfl
  have M11 := He.meth_ok (c.fact 30 (f := .meth "TooFew" "__init__") rfl)
  obtain ⟨fe12, E12⟩ := c.def_ 20 (d := dd7 ("NoRegister", some "__init__") "__init__" "NoRegister.__init__" s_NoRegister_init) rfl
  have M12 := He.meth_ok (c.fact 31 (f := .meth "NoRegister" "__init__") rfl)
  obtain ⟨fe13, E13⟩ := c.def_ 21 (d := dd7 ("Taken", some "__init__") "__init__" "Taken.__init__" s_Taken_init) rfl
  have M13 := He.meth_ok (c.fact 32 (f := .meth "Taken" "__init__") rfl)
  obtain ⟨fe14, E14⟩ := c.def_ 22 (d := dd7 ("NotAkin", some "__init__") "__init__" "NotAkin.__init__" s_NotAkin_init) rfl
  have M14 := He.meth_ok (c.fact 33 (f := .meth "NotAkin" "__init__") rfl)
  obtain ⟨fe15, E15⟩ := c.def_ 23 (d := dd7 ("NoSpare", some "__init__") "__init__" "NoSpare.__init__" s_NoSpare_init) rfl
  have M15 := He.meth_ok (c.fact 34 (f := .meth "NoSpare" "__init__") rfl)
  obtain ⟨fe16, E16⟩ := c.def_ 24 (d := dd7 ("TooMany", some "__init__") "__init__" "TooMany.__init__" s_TooMany_init) rfl
  have M16 := He.meth_ok (c.fact 35 (f := .meth "TooMany" "__init__") rfl)
  obtain ⟨fe17, E17⟩ := c.def_ 25 (d := dd7 ("Chordless", some "__init__") "__init__" "Chordless.__init__" s_Chordless_init) rfl
  have M17 := He.meth_ok (c.fact 36 (f := .meth "Chordless" "__init__") rfl)
  obtain ⟨fe18, E18⟩ := c.def_ 26 (d := dd7 ("NoPlace", some "__init__") "__init__" "NoPlace.__init__" s_NoPlace_init) rfl
  have M18 := He.meth_ok (c.fact 37 (f := .meth "NoPlace" "__init__") rfl)
  obtain ⟨fe19, E19⟩ := c.def_ 27 (d := dd7 ("NothingBack", some "__init__") "__init__" "NothingBack.__init__" s_NothingBack_init) rfl
  have M19 := He.meth_ok (c.fact 38 (f := .meth "NothingBack" "__init__") rfl)
  obtain ⟨fe20, E20⟩ := c.def_ 28 (d := dd7 ("NothingAgain", some "__init__") "__init__" "NothingAgain.__init__" s_NothingAgain_init) rfl
  have M20 := He.meth_ok (c.fact 39 (f := .meth "NothingAgain" "__init__") rfl)
  have e := hfa.symm.trans m7
  cases e
  have bL := FunD.bindsA (ps := ["_law_script"]) F7 fun _ _ _ _ _ _ us hl => match us, hl with | [_], _ => rfl
  refine ⟨fd7, fun s v => bL s [v] rfl, fun base _ _ => law_ok ?_⟩
  have hin : Df P w K mg base "in_tuples" ["value"] 3 c_in_tuples := in7 F0 hb m0
  have Dcell : Df P w K mg base "_law_cell" p_law_cell 2 c_law_cell := Df.of (st := s_law_cell) F1 m1 (ok_law_cell F1 hb) (fun _ _ _ _ _ _ us hl => match us, hl with | [_, _], _ => rfl)
  have Dmixed : Df P w K mg base "_law_mixed" p_law_mixed 2 c_law_mixed := Df.of (st := s_law_mixed) F2 m2 (ok_law_mixed F2 hb) (fun _ _ _ _ _ _ us hl => match us, hl with | [_, _, _], _ => rfl)
  have Ddraws : Df P w K mg base "_law_draws" p_law_draws 3 c_law_draws := Df.of (st := s_law_draws) F3 m3 (ok_law_draws F3 hb Dmixed) (fun _ _ _ _ _ _ us hl => match us, hl with | [_, _, _, _], _ => rfl)
  have Dnames : Df P w K mg base "_law_names" p_law_names 2 c_law_names := Df.of (st := s_law_names) F4 m4 (ok_law_names F4 hb) (fun _ _ _ _ _ _ us hl => match us, hl with | [_], _ => rfl)
  have Dkinds : Df P w K mg base "_law_kinds" p_law_kinds 2 (c_law_kinds K) := Df.of (st := s_law_kinds) F6 m6 (ok_law_kinds F6 hb hF) (fun _ _ _ _ _ _ us hl => match us, hl with | [_], _ => rfl)
  have Dsame : Df P w K mg base "_law_same" p_law_same 4 (c_same 2) := same7 F5 hb m5
  exact ok_law F7 hb hF n_ValueError (xd7_AssignedTwice hF hin E0 M0) (xd7_NoBlock hF hin E1 M1) (xd7_WrongCount hF hin E2 M2) (xd7_NotReached hF hin E3 M3) (xd7_NotAssigned hF hin E4 M4) (xd7_BadText hF hin E5 M5) (xd7_NoPoint hF hin E6 M6) (xd7_NoVariable hF hin E7 M7) (xd7_BadRegister hF hin E8 M8) (xd7_Conflict hF hin E9 M9) (xd7_NoNumber hF hin E10 M10) (xd7_TooFew hF hin E11 M11) (xd7_NoRegister hF hin E12 M12) (xd7_Taken hF hin E13 M13) (xd7_NotAkin hF hin E14 M14) (xd7_NoSpare hF hin E15 M15) (xd7_TooMany hF hin E16 M16) (xd7_Chordless hF hin E17 M17) (xd7_NoPlace hF hin E18 M18) (xd7_NothingBack hF hin E19 M19) (xd7_NothingAgain hF hin E20 M20) Dkinds Dsame Dcell Ddraws Dnames
end
end Pv
open PySem PySem.W PySem.Calls PyProof.Rows
theorem PySem.Challenge.cw_registerways_k07_errors_of_their_own_holds : PySem.Challenge.rw_registerways_k07_errors_of_their_own.Holds := by
  w_on; o_law
  refine HandSHeadRun.head_any (r := OpenLaw.row PySem.Challenge.rw_registerways_k07_errors_of_their_own) (q := view (OpenLaw.row PySem.Challenge.rw_registerways_k07_errors_of_their_own).prog [32]) (H := Pv.hk7) (ob := Pv.ob7) (M := 6000) (loose := Pv.names7) (d := HandSHeadRun.topDef (OpenLaw.row PySem.Challenge.rw_registerways_k07_errors_of_their_own).prog 32) (kwd := []) Pv.ob7_eq
    (by kernel_rfl) (fun s => by kernel_rfl) Pv.run7 (by kernel_rfl) (by kernel_rfl) (by kernel_rfl) (by rfl) (by first | assumption | decide +kernel) (by decide +kernel) ⟨rfl, rfl, rfl, rfl, rfl, by decide +kernel⟩ ?hw ?hc
  case hw => w_witness2
  case hc =>
    refine L2.walk_ofE (l := PySem.Challenge.rw_registerways_k07_errors_of_their_own) (n := 63) (k := 6) (x := "_law_script") (CX := L2.CX0) rfl (by decide) (by kernel_rfl) ⟨rfl, by decide, by decide⟩ ?F (fun _ _ _ _ z => z)
    intro w mg fa h Y G hmg0
    obtain ⟨K, KX, c, cB⟩ := Y
    have hmg : mg ("law" : PySem.Str) = some (.ref fa) := by
      have e : (HandSHeadRun.topDef (OpenLaw.row PySem.Challenge.rw_registerways_k07_errors_of_their_own).prog 32).name = ("law" : PySem.Str) := by kernel_rfl
      rw [← e]
      exact hmg0
    obtain ⟨fd, hb, hF⟩ := Pv.facts7 (P := (PySem.Challenge.rw_registerways_k07_errors_of_their_own).prog) (w := w) KX G hmg c cB
    exact ⟨K, fd, Pv.spLaw K, KX, hb, fun H a ns hl _ hS => ⟨a, ns, rfl, hl, hS, fun _ => rfl⟩, hF⟩
