import PyProof.Rows.All
import Wide.All
import OpenK.AllK
import Wide.FinOn
import HandS.ForMost
import HandS.Wide
import HandS.WideBits
import HandS.IsInst
import HandS.Deep
import HandS.Flow
import HandS.StrMore
import HandS.TupAny
import HandS.TupLe
import HandS.EndBits
import HandS.CallLocal
import HandS.Star
import HandS.More
import PyProof.WalkInts
import HandS.Iter
import HandS.Zip
import KE.DataMinMax
import KE.GoesZip
import HandS.Zip0
import PyProof.AutoSeq1
import KE.LtSeq
import KE.DataEq
import KE.SortKeyHeap
import HandS.SortKw
import HandS.ExcValue
import KE.DataFind
import HandS.ReplaceLit
import HandS.ReplaceDef
import HandS.Text
import HandS.ExcInit
import HandS.ForExc
import HandS.ExcIs
import HandS.ExcField
import KE.KExcIs
import KE.KIsAll
import PyProof.ReprRoads
import PyProof.ReprBulk
import HandS.Style
import HandS.Strs
import HandS.TupSets
import HandS.SetFor
import HandS.DictComp
import HandS.TupMul
import KE.GoesRaise
import KE.KDictCopyH
import KE.KDictSum
import HandS.NoneIn
import HandS.WordsDict
import HandS.HotCalls
import KE.KDictList
import KE.SortData
import HandS.SetBool
import KE.KMinBuiltin
import KE.OsRunLaw
import PySem.Challenge.RW_peristyle_k13_best_packing
set_option Elab.async false
set_option linter.all false
set_option maxRecDepth 100000
set_option maxHeartbeats 4000000
namespace Dm
open PySem PySem.Spec L2
abbrev D := PyData
def fnD (x : Str) : D := .dict [(.none, .str x)]
/-- a dict's key as a datum -/
def kD : Key → D
  | .inl i => .int i
  | .inr x => .str x
def zipK : List Key → List D → List (D × D)
  | k :: ks, d :: ds => (kD k, d) :: zipK ks ds
  | _, _ => []
def zipF : List Str → List D → List (D × D)
  | f :: fs, d :: ds => (.str f, d) :: zipF fs ds
  | _, _ => []

mutual
inductive Rp (K : PySem.W.Frag) (mg : Str → Option Value) (F : Hp) : V → D → Prop
  | non : Rp K mg F .non .none
  | bl (b : Bool) : Rp K mg F (.bl b) (.bool b)
  | int (i : Int) : Rp K mg F (.int i) (.int i)
  | str (x : Str) : Rp K mg F (.str x) (.str x)
  | lst {a : Addr} {xs : List V} {ds : List D} : SqL K F a xs → RpA K mg F xs ds → Rp K mg F (.ref a) (.list ds)
  | tup {a : Addr} {xs : List V} {ds : List D} : SqT K F a xs → RpA K mg F xs ds → Rp K mg F (.ref a) (.tuple ds)
  | fn {a : Addr} {x : Str} : mg x = some (.ref a) → Rp K mg F (.ref a) (fnD x)
  | emp {a : Addr} : F a = some (.dK []) → Rp K mg F (.ref a) (.dict [])
  | dct {a : Addr} {k : Key} {ks : List Key} {xs : List V} {d : D} {ds : List D} : F a = some (.dK ((k :: ks).zip xs)) → RpA K mg F xs (d :: ds) → ks.length = ds.length → Rp K mg F (.ref a) (.dict ((kD k, d) :: zipK ks ds))
  | ins {a C dx : Addr} {c : Str} {fs : List Str} {xs : List V} {ds : List D} : mg c = some (.ref C) → F a = some (.ins C dx (fs.zip xs)) → RpA K mg F xs ds → fs.length = ds.length → Rp K mg F (.ref a) (.dict ((.bool true, .str c) :: zipF fs ds))
inductive RpA (K : PySem.W.Frag) (mg : Str → Option Value) (F : Hp) : List V → List D → Prop
  | nil : RpA K mg F [] []
  | cons {v : V} {vs : List V} {d : D} {ds : List D} : Rp K mg F v d → RpA K mg F vs ds → RpA K mg F (v :: vs) (d :: ds)
end

section
variable {K : PySem.W.Frag} {mg : Str → Option Value} {F F' H H' : Hp}
theorem sqL_mono {a : Addr} {xs : List V} (e : Same F F') (h : SqL K F a xs) : SqL K F' a xs := e.seq h
theorem sqT_mono {a : Addr} {xs : List V} (e : Same F F') (h : SqT K F a xs) : SqT K F' a xs := by
  rcases h with (h | ⟨o, h⟩) | h
  · exact .inl (.inl (e _ _ h))
  · exact .inl (.inr ⟨o, e _ _ h⟩)
  · exact .inr h
mutual
theorem Rp.mono (e : Same F F') : ∀ {v : V} {d : D}, Rp K mg F v d → Rp K mg F' v d
  | _, _, .non => .non
  | _, _, .bl b => .bl b
  | _, _, .int i => .int i
  | _, _, .str x => .str x
  | _, _, .lst h a => .lst (sqL_mono e h) (RpA.mono e a)
  | _, _, .tup h a => .tup (sqT_mono e h) (RpA.mono e a)
  | _, _, .fn h => .fn h
  | _, _, .emp h => .emp (e _ _ h)
  | _, _, .dct h a l => .dct (e _ _ h) (RpA.mono e a) l
  | _, _, .ins m h a l => .ins m (e _ _ h) (RpA.mono e a) l
theorem RpA.mono (e : Same F F') : ∀ {vs : List V} {ds : List D}, RpA K mg F vs ds → RpA K mg F' vs ds
  | _, _, .nil => .nil
  | _, _, .cons h t => .cons (Rp.mono e h) (RpA.mono e t)
end
theorem RpA.length : ∀ {vs : List V} {ds : List D}, RpA K mg F vs ds → vs.length = ds.length
  | _, _, .nil => rfl
  | _, _, .cons _ t => congrArg (· + 1) (RpA.length t)
theorem RpA.get : ∀ {vs : List V} {ds : List D} {i : Nat} {d : D}, RpA K mg F vs ds → ds[i]? = some d → ∃ v, vs[i]? = some v ∧ Rp K mg F v d
  | _, _, _, _, .nil, e => by simp at e
  | _, _, 0, _, .cons h _, e => by
    simp at e
    subst e
    exact ⟨_, rfl, h⟩
  | _, _, i + 1, d, .cons _ t, e => by
    obtain ⟨v, h1, h2⟩ := RpA.get (i := i) (d := d) t (by simpa using e)
    exact ⟨v, by simpa using h1, h2⟩
theorem RpA.append : ∀ {vs ws : List V} {ds es : List D}, RpA K mg F vs ds → RpA K mg F ws es → RpA K mg F (vs ++ ws) (ds ++ es)
  | _, _, _, _, .nil, s => s
  | _, _, _, _, .cons h t, s => .cons h (RpA.append t s)
theorem RpA.take : ∀ {vs : List V} {ds : List D} (n : Nat), RpA K mg F vs ds → RpA K mg F (vs.take n) (ds.take n)
  | _, _, 0, _ => .nil
  | _, _, _ + 1, .nil => .nil
  | _, _, n + 1, .cons h t => .cons h (RpA.take n t)
theorem RpA.drop : ∀ {vs : List V} {ds : List D} (n : Nat), RpA K mg F vs ds → RpA K mg F (vs.drop n) (ds.drop n)
  | _, _, 0, h => h
  | _, _, _ + 1, .nil => .nil
  | _, _, n + 1, .cons _ t => RpA.drop n t
theorem RpA.ints : ∀ {vs : List V} {ns : List Int}, RpA K mg F vs (ns.map PyData.int) → vs = ns.map V.int
  | _, [], h => by
    cases h
    rfl
  | _, n :: ns, h => by
    cases h with
    | cons h t =>
      cases h
      rw [RpA.ints t]
      rfl
theorem RpA.bools : ∀ {vs : List V} {ns : List Bool}, RpA K mg F vs (ns.map PyData.bool) → vs = ns.map V.bl
  | _, [], h => by
    cases h
    rfl
  | _, n :: ns, h => by
    cases h with
    | cons h t =>
      cases h
      rw [RpA.bools t]
      rfl
theorem RpA.strs : ∀ {vs : List V} {ns : List Str}, RpA K mg F vs (ns.map PyData.str) → vs = ns.map V.str
  | _, [], h => by
    cases h
    rfl
  | _, n :: ns, h => by
    cases h with
    | cons h t =>
      cases h
      rw [RpA.strs t]
      rfl
theorem RpA.of_ints : ∀ {ns : List Int}, RpA K mg F (ns.map V.int) (ns.map PyData.int)
  | [] => .nil
  | _ :: _ => .cons (.int _) RpA.of_ints
mutual
theorem Rp.dp : ∀ {d : D} {v : V}, Rp K mg F v d → d.canLay0 = true → Dp K F v d
  | _, _, .non, _ => .non
  | _, _, .bl b, _ => .bl b
  | _, _, .int b, _ => .int b
  | _, _, .str b, _ => .str b
  | _, _, .lst h a, e => .lst h (RpA.dp a (by simpa only [PyData.canLay0] using e))
  | _, _, .tup h a, e => .tup h (RpA.dp a (by simpa only [PyData.canLay0] using e))
  | _, _, .fn h, e => by simp [fnD, PyData.canLay0] at e
  | _, _, .emp h, e => by simp [PyData.canLay0] at e
  | _, _, .dct _ _ _, e => by simp [PyData.canLay0] at e
  | _, _, .ins _ _ _ _, e => by simp [PyData.canLay0] at e
theorem RpA.dp : ∀ {ds : List D} {vs : List V}, RpA K mg F vs ds → PyData.canLayAll0 ds = true → DpAll K F vs ds
  | _, _, .nil, _ => .nil
  | _, _, .cons h t, e => .cons (Rp.dp h (by simp only [PyData.canLayAll0, Bool.and_eq_true] at e; exact e.1)) (RpA.dp t (by simp only [PyData.canLayAll0, Bool.and_eq_true] at e; exact e.2))
end

structure Stp (F H F' H' : Hp) : Prop where
  f : Same F F'
  h : Same H H'
  s : Same F' H'
  n : ∀ a o, F a = none → H a = some o → F' a = none
theorem Stp.refl (h : Same F H) : Stp F H F H := ⟨Same.refl _, Same.refl _, h, fun _ _ e _ => e⟩
theorem Stp.trans {F1 H1 F2 H2 : Hp} (a : Stp F H F1 H1) (b : Stp F1 H1 F2 H2) : Stp F H F2 H2 := ⟨a.f.trans b.f, a.h.trans b.h, b.s, fun c o e1 e2 => b.n c o (a.n c o e1 e2) (a.h c o e2)⟩
theorem same_free (s : Same F H) {p : Addr} (h : H p = none) : F p = none := s.free h
theorem same_upd2 (s : Same F H) {p : Addr} {o : HO} : Same (upd F p o) (upd H p o) := fun b x e => by
  by_cases hb : b = p
  · subst hb
    rw [upd_same] at e ⊢
    exact e
  · rw [upd_ne hb] at e ⊢
    exact s b x e
theorem same_new {p : Addr} {o : HO} (h : H p = none) : Same H (upd H p o) := fun b x e => by
  rw [upd_ne (ne_of_none e h)]
  exact e
theorem Stp.new (s : Same F H) {p : Addr} {o : HO} (h : H p = none) : Stp F H (upd F p o) (upd H p o) :=
  ⟨same_new (same_free s h), same_new h, same_upd2 s, fun a u e1 e2 => by rw [upd_ne (ne_of_none e2 h)]; exact e1⟩
/-- an object that stands, new since H, comes to the frozen part -/
theorem Stp.ice (t : Stp F H F' H') {p : Addr} {o : HO} (h : H p = none) (h' : H' p = some o) (hf : F' p = none) : Stp F H (upd F' p o) H' :=
  ⟨fun b x e => by
      rw [upd_ne (ne_of_none (t.f b x e) hf)]
      exact t.f b x e, t.h, fun b x e => by
      by_cases hb : b = p
      · subst hb
        rw [upd_same] at e
        rw [h', e]
      · rw [upd_ne hb] at e
        exact t.s b x e, fun a u e1 e2 => by
      rw [upd_ne (ne_of_none e2 h)]
      exact t.n a u e1 e2⟩

/-- what an object is that may still change, lists aside: a dict, an instance -/
inductive Sh where | dct (ks : List Key) | ins (c : Str) (fs : List Str)
def ShOk (mg : Str → Option Value) : Sh → List V → HO → Prop
  | .dct ks, xs, o => ks.length = xs.length ∧ o = .dK (ks.zip xs)
  | .ins c fs, xs, o => fs.length = xs.length ∧ ∃ C dx, mg c = some (.ref C) ∧ o = .ins C dx (fs.zip xs)
inductive L where | dat (d : D) | own (ds : List D) | arg (ds : List D) | obj (sh : Sh) (ds : List D) | abj (sh : Sh) (ds : List D)
/-- a list that may still change -/
def isL : L → Bool
  | .dat _ => false
  | _ => true
abbrev Ev := List (Option L)
/-- the older frozen part, and where the list stands that was handed in to be changed -/
abbrev Fz := Hp × Addr
def SlotOk (K : PySem.W.Frag) (mg : Str → Option Value) (AR : Addr) (H0 F H : Hp) (v : Option (Option V)) : L → Prop
  | .dat d => ∃ x, v = some (some x) ∧ Rp K mg F x d
  | .own ds => ∃ a xs, v = some (some (.ref a)) ∧ F a = none ∧ H0 a = none ∧ H a = some (.lst xs) ∧ RpA K mg F xs ds
  | .arg ds => ∃ xs, v = some (some (.ref AR)) ∧ F AR = none ∧ H0 AR = none ∧ H AR = some (.lst xs) ∧ RpA K mg F xs ds
  | .obj sh ds => ∃ a xs o, v = some (some (.ref a)) ∧ F a = none ∧ H0 a = none ∧ H a = some o ∧ ShOk mg sh xs o ∧ RpA K mg F xs ds
  | .abj sh ds => ∃ xs o, v = some (some (.ref AR)) ∧ F AR = none ∧ H0 AR = none ∧ H AR = some o ∧ ShOk mg sh xs o ∧ RpA K mg F xs ds
theorem SlotOk.lst {K : PySem.W.Frag} {mg : Str → Option Value} {AR : Addr} {H0 F H : Hp} {v : Option (Option V)} {l : L} (h : SlotOk K mg AR H0 F H v l) (e : isL l = true) : ∃ a o, v = some (some (.ref a)) ∧ F a = none ∧ H0 a = none ∧ H a = some o := by
  cases l with
  | dat d => cases e
  | own ds =>
    obtain ⟨a, xs, h1, h2, h3, h4, _⟩ := h
    exact ⟨a, _, h1, h2, h3, h4⟩
  | arg ds =>
    obtain ⟨xs, h1, h2, h3, h4, _⟩ := h
    exact ⟨AR, _, h1, h2, h3, h4⟩
  | obj sh ds =>
    obtain ⟨a, xs, o, h1, h2, h3, h4, _⟩ := h
    exact ⟨a, o, h1, h2, h3, h4⟩
  | abj sh ds =>
    obtain ⟨xs, o, h1, h2, h3, h4, _⟩ := h
    exact ⟨AR, o, h1, h2, h3, h4⟩
theorem at_dat {ρ : Ev} {i j : Nat} {d : D} {l : L} (e : (ρ.set i (some (.dat d)))[j]? = some (some l)) (h : isL l = true) : i ≠ j ∧ ρ[j]? = some (some l) := by
  by_cases hj : i = j
  · subst hj
    rw [List.getElem?_set] at e
    split at e
    · split at e
      · cases e
        cases h
      · cases e
    · exact absurd rfl ‹_›
  · rw [List.getElem?_set_ne hj] at e
    exact ⟨hj, e⟩
theorem at_none {ρ : Ev} {i j : Nat} {l : L} (e : (ρ.set i none)[j]? = some (some l)) : i ≠ j ∧ ρ[j]? = some (some l) := by
  by_cases hj : i = j
  · subst hj
    rw [List.getElem?_set] at e
    split at e
    · split at e <;> cases e
    · exact absurd rfl ‹_›
  · rw [List.getElem?_set_ne hj] at e
    exact ⟨hj, e⟩
theorem at_any {ρ : Ev} {i j : Nat} {u l : L} (e : (ρ.set i (some u))[j]? = some (some l)) : (i = j ∧ j < ρ.length) ∨ (i ≠ j ∧ ρ[j]? = some (some l)) := by
  by_cases hj : i = j
  · have := (List.getElem?_eq_some_iff.mp e).1
    exact .inl ⟨hj, by simpa using this⟩
  · rw [List.getElem?_set_ne hj] at e
    exact .inr ⟨hj, e⟩
structure Ok (K : PySem.W.Frag) (mg : Str → Option Value) (F0 : Fz) (H0 F H : Hp) (σ : St) (ρ : Ev) : Prop where
  s : Same F H
  st : Stp F0.1 H0 F H
  len : ρ.length = σ.length
  rel : ∀ (i : Nat) (l : L), ρ[i]? = some (some l) → SlotOk K mg F0.2 H0 F H σ[i]? l
  disL : ∀ (i j : Nat) (l m : L) (a : Addr), i ≠ j → ρ[i]? = some (some l) → isL l = true → ρ[j]? = some (some m) → isL m = true → σ[i]? = some (some (.ref a)) → σ[j]? ≠ some (some (.ref a))
variable {F0 : Fz} {H0 : Hp} {σ : St} {ρ : Ev}
theorem Ok.step (k : Ok K mg F0 H0 F H σ ρ) (t : Stp F H F' H') : Ok K mg F0 H0 F' H' σ ρ where
  s := t.s
  st := k.st.trans t
  len := k.len
  rel := fun i l e => by
    have q := k.rel i l e
    cases l with
    | dat d =>
      obtain ⟨x, e1, r⟩ := q
      exact ⟨x, e1, r.mono t.f⟩
    | own ds =>
      obtain ⟨a, xs, e1, fa, h0, ha, r⟩ := q
      exact ⟨a, xs, e1, t.n a _ fa ha, h0, t.h a _ ha, r.mono t.f⟩
    | arg ds =>
      obtain ⟨xs, e1, fa, h0, ha, r⟩ := q
      exact ⟨xs, e1, t.n _ _ fa ha, h0, t.h _ _ ha, r.mono t.f⟩
    | obj sh ds =>
      obtain ⟨a, xs, o, e1, fa, h0, ha, so, r⟩ := q
      exact ⟨a, xs, o, e1, t.n a _ fa ha, h0, t.h a _ ha, so, r.mono t.f⟩
    | abj sh ds =>
      obtain ⟨xs, o, e1, fa, h0, ha, so, r⟩ := q
      exact ⟨xs, o, e1, t.n _ _ fa ha, h0, t.h _ _ ha, so, r.mono t.f⟩
  disL := k.disL
/-- a slot gets data -/
theorem Ok.set (k : Ok K mg F0 H0 F H σ ρ) {x : V} {d : D} (r : Rp K mg F x d) (i : Nat) : Ok K mg F0 H0 F H (σ.set i (some x)) (ρ.set i (some (.dat d))) where
  s := k.s
  st := k.st
  len := by simp [k.len]
  rel := fun j l e => by
    by_cases hj : i = j
    · subst hj
      have hl : i < ρ.length := by
        have := (List.getElem?_eq_some_iff.mp e).1
        simpa using this
      rw [List.getElem?_set_self hl] at e
      cases e
      exact ⟨x, List.getElem?_set_self (by rw [← k.len]; exact hl), r⟩
    · rw [List.getElem?_set_ne hj] at e ⊢
      exact k.rel j l e
  disL := fun a b l m c ne e1 h1 e2 h2 e3 => by
    obtain ⟨n1, q1⟩ := at_dat e1 h1
    obtain ⟨n2, q2⟩ := at_dat e2 h2
    rw [List.getElem?_set_ne n1] at e3
    rw [List.getElem?_set_ne n2]
    exact k.disL a b l m c ne q1 h1 q2 h2 e3
/-- a slot gets a list of its own, new since this heap's older one -/
theorem Ok.setOwn (k : Ok K mg F0 H0 F H σ ρ) {p : Addr} {xs : List V} {ds : List D} (t : Stp F H F' H') (h : H p = none) (hf : F' p = none) (h' : H' p = some (.lst xs)) (r : RpA K mg F' xs ds) (i : Nat) :
    Ok K mg F0 H0 F' H' (σ.set i (some (.ref p))) (ρ.set i (some (.own ds))) where
  s := t.s
  st := k.st.trans t
  len := by simp [k.len]
  rel := fun j l e => by
    by_cases hj : i = j
    · subst hj
      have hl : i < ρ.length := by
        have := (List.getElem?_eq_some_iff.mp e).1
        simpa using this
      rw [List.getElem?_set_self hl] at e
      cases e
      exact ⟨p, xs, List.getElem?_set_self (by rw [← k.len]; exact hl), hf, k.st.h.free h, h', r⟩
    · rw [List.getElem?_set_ne hj] at e ⊢
      exact (k.step t).rel j l e
  disL := by
    have old : ∀ (j : Nat) (l : L), ρ[j]? = some (some l) → isL l = true → σ[j]? ≠ some (some (.ref p)) := fun j l e1 hl e2 => by
      obtain ⟨a, ys, e3, _, _, ha⟩ := (k.rel j _ e1).lst hl
      rw [e2] at e3
      cases e3
      rw [h] at ha
      cases ha
    intro a b l m c ne e1 h1 e2 h2 e3
    rcases at_any e1 with ⟨ha, la⟩ | ⟨ha, q1⟩
    · subst ha
      have hb : i ≠ b := ne
      rw [List.getElem?_set_self (by rw [← k.len]; exact la)] at e3
      cases e3
      rw [List.getElem?_set_ne hb] at e2 ⊢
      exact old b _ e2 h2
    · rw [List.getElem?_set_ne ha] at e3
      rcases at_any e2 with ⟨hb, lb⟩ | ⟨hb, q2⟩
      · subst hb
        rw [List.getElem?_set_self (by rw [← k.len]; exact lb)]
        intro z
        cases z
        exact old a _ q1 h1 e3
      · rw [List.getElem?_set_ne hb]
        exact k.disL a b l m c ne q1 h1 q2 h2 e3
/-- a slot is forgotten -/
theorem Ok.wipe (k : Ok K mg F0 H0 F H σ ρ) (i : Nat) : Ok K mg F0 H0 F H (σ.set i none) (ρ.set i none) where
  s := k.s
  st := k.st
  len := by simp [k.len]
  rel := fun j l e => by
    by_cases hj : i = j
    · subst hj
      rw [List.getElem?_set] at e
      split at e
      · split at e <;> cases e
      · exact absurd rfl ‹_›
    · rw [List.getElem?_set_ne hj] at e ⊢
      exact k.rel j l e
  disL := fun a b l m c ne e1 h1 e2 h2 e3 => by
    obtain ⟨n1, q1⟩ := at_none e1
    obtain ⟨n2, q2⟩ := at_none e2
    rw [List.getElem?_set_ne n1] at e3
    rw [List.getElem?_set_ne n2]
    exact k.disL a b l m c ne q1 h1 q2 h2 e3
/-- a slot's own list becomes data -/
def ice (ρ : Ev) (i : Nat) : Ev := match ρ[i]? with
  | some (some (.own ds)) => ρ.set i (some (.dat (.list ds)))
  | _ => ρ
theorem Ok.ice (k : Ok K mg F0 H0 F H σ ρ) (i : Nat) : ∃ F', Ok K mg F0 H0 F' H σ (Dm.ice ρ i) ∧ Same F F' := by
  unfold Dm.ice
  split
  · rename_i ds e
    obtain ⟨a, xs, e1, fa, h0, ha, r⟩ := k.rel i _ e
    have hi : i < σ.length := (List.getElem?_eq_some_iff.mp e1).1
    have es : σ.set i (some (.ref a)) = σ := by
      apply List.ext_getElem?
      intro j
      by_cases hj : i = j
      · subst hj
        rw [List.getElem?_set_self hi, e1]
      · rw [List.getElem?_set_ne hj]
    have nd : ∀ {b o}, H b = some o → F b = none → b ≠ a → upd F a (.lst xs) b = none := fun _ fb ne => by
      rw [upd_ne ne]
      exact fb
    refine ⟨upd F a (.lst xs), ?_⟩
    have mono : Same F (upd F a (.lst xs)) := same_new fa
    have sH : Same (upd F a (.lst xs)) H := fun b x e => by
      by_cases hb : b = a
      · subst hb
        rw [upd_same] at e
        rw [ha, e]
      · rw [upd_ne hb] at e
        exact k.s b x e
    refine ⟨⟨sH, ⟨k.st.f.trans mono, k.st.h, sH, fun b o e1 e2 => ?_⟩, by simp [k.len], fun j l ej => ?_, fun u v l m c ne e1' g1 e2' g2 e3' => ?_⟩, mono⟩
    · have hb : b ≠ a := fun z => by
        rw [z, h0] at e2
        cases e2
      rw [upd_ne hb]
      exact k.st.n b o e1 e2
    · by_cases hj : i = j
      · subst hj
        rw [List.getElem?_set_self (by rw [k.len]; exact hi)] at ej
        cases ej
        exact ⟨.ref a, e1, .lst (.inl (.inl upd_same)) (r.mono mono)⟩
      · rw [List.getElem?_set_ne hj] at ej
        have q := k.rel j l ej
        cases l with
        | dat d =>
          obtain ⟨x, e2, r2⟩ := q
          exact ⟨x, e2, r2.mono mono⟩
        | own es' =>
          obtain ⟨b, ys, e2, fb, b0, hb, r2⟩ := q
          have ne : b ≠ a := fun z => by
            rw [z] at e2
            exact k.disL i j _ _ a hj e rfl ej rfl e1 e2
          exact ⟨b, ys, e2, nd hb fb ne, b0, hb, r2.mono mono⟩
        | arg es' =>
          obtain ⟨ys, e2, fb, b0, hb, r2⟩ := q
          have ne : F0.2 ≠ a := fun z => by
            rw [z] at e2
            exact k.disL i j _ _ a hj e rfl ej rfl e1 e2
          exact ⟨ys, e2, nd hb fb ne, b0, hb, r2.mono mono⟩
        | obj sh es' =>
          obtain ⟨b, ys, o, e2, fb, b0, hb, so, r2⟩ := q
          have ne : b ≠ a := fun z => by
            rw [z] at e2
            exact k.disL i j _ _ a hj e rfl ej rfl e1 e2
          exact ⟨b, ys, o, e2, nd hb fb ne, b0, hb, so, r2.mono mono⟩
        | abj sh es' =>
          obtain ⟨ys, o, e2, fb, b0, hb, so, r2⟩ := q
          have ne : F0.2 ≠ a := fun z => by
            rw [z] at e2
            exact k.disL i j _ _ a hj e rfl ej rfl e1 e2
          exact ⟨ys, o, e2, nd hb fb ne, b0, hb, so, r2.mono mono⟩
    · obtain ⟨n1, q1⟩ := at_dat e1' g1
      obtain ⟨n2, q2⟩ := at_dat e2' g2
      exact k.disL u v l m c ne q1 g1 q2 g2 e3'
  · exact ⟨F, k, Same.refl _⟩
def ices (is : List Nat) (ρ : Ev) : Ev := is.foldl Dm.ice ρ
theorem Ok.ices : ∀ (is : List Nat) {F : Hp} {ρ : Ev}, Ok K mg F0 H0 F H σ ρ → ∃ F', Ok K mg F0 H0 F' H σ (Dm.ices is ρ) ∧ Same F F'
  | [], F, _, k => ⟨F, k, Same.refl _⟩
  | i :: is, _, _, k => by
    obtain ⟨F1, k1, s1⟩ := k.ice i
    obtain ⟨F2, k2, s2⟩ := Ok.ices is k1
    exact ⟨F2, k2, s1.trans s2⟩
/-- an own list changes -/
theorem Ok.mut (k : Ok K mg F0 H0 F H σ ρ) {i : Nat} {a : Addr} {es ds : List D} {xs : List V} (e : ρ[i]? = some (some (.own es))) (e1 : σ[i]? = some (some (.ref a))) (r : RpA K mg F xs ds) :
    Ok K mg F0 H0 F (upd H a (.lst xs)) σ (ρ.set i (some (.own ds))) := by
  obtain ⟨a', ys, e2, fa, h0, ha, _⟩ := k.rel i _ e
  rw [e1] at e2
  cases e2
  have hi : i < σ.length := (List.getElem?_eq_some_iff.mp e1).1
  have sH : Same F (upd H a (.lst xs)) := fun b x q => by
    rw [upd_ne (ne_of_none q fa)]
    exact k.s b x q
  refine ⟨sH, ⟨k.st.f, fun b x q => ?_, sH, k.st.n⟩, by simp [k.len], fun j l ej => ?_, fun u v l m c ne e1' g1 e2' g2 e3' => ?_⟩
  · rw [upd_ne (ne_of_none q h0)]
    exact k.st.h b x q
  · by_cases hj : i = j
    · subst hj
      rw [List.getElem?_set_self (by rw [k.len]; exact hi)] at ej
      cases ej
      exact ⟨a, xs, e1, fa, h0, upd_same, r⟩
    · rw [List.getElem?_set_ne hj] at ej
      have q := k.rel j l ej
      cases l with
      | dat d => exact q
      | own es' =>
        obtain ⟨b, zs, e2, fb, b0, hb, r2⟩ := q
        have ne : b ≠ a := fun z => by
          rw [z] at e2
          exact k.disL i j _ _ a hj e rfl ej rfl e1 e2
        exact ⟨b, zs, e2, fb, b0, by rw [upd_ne ne]; exact hb, r2⟩
      | arg es' =>
        obtain ⟨zs, e2, fb, b0, hb, r2⟩ := q
        have ne : F0.2 ≠ a := fun z => by
          rw [z] at e2
          exact k.disL i j _ _ a hj e rfl ej rfl e1 e2
        exact ⟨zs, e2, fb, b0, by rw [upd_ne ne]; exact hb, r2⟩
      | obj sh es' =>
        obtain ⟨b, zs, o, e2, fb, b0, hb, so, r2⟩ := q
        have ne : b ≠ a := fun z => by
          rw [z] at e2
          exact k.disL i j _ _ a hj e rfl ej rfl e1 e2
        exact ⟨b, zs, o, e2, fb, b0, by rw [upd_ne ne]; exact hb, so, r2⟩
      | abj sh es' =>
        obtain ⟨zs, o, e2, fb, b0, hb, so, r2⟩ := q
        have ne : F0.2 ≠ a := fun z => by
          rw [z] at e2
          exact k.disL i j _ _ a hj e rfl ej rfl e1 e2
        exact ⟨zs, o, e2, fb, b0, by rw [upd_ne ne]; exact hb, so, r2⟩
  · have un : ∀ (j : Nat) (l : L), (ρ.set i (some (L.own ds)))[j]? = some (some l) → isL l = true → ∃ l', ρ[j]? = some (some l') ∧ isL l' = true := fun j l e' h' => by
      rcases at_any e' with ⟨hj, _⟩ | ⟨hj, q⟩
      · subst hj
        exact ⟨_, e, rfl⟩
      · exact ⟨_, q, h'⟩
    obtain ⟨l1, q1, p1⟩ := un _ _ e1' g1
    obtain ⟨l2, q2, p2⟩ := un _ _ e2' g2
    exact k.disL u v l1 l2 c ne q1 p1 q2 p2 e3'
end
end Dm


namespace Dm
open PySem PySem.Spec L2
section
variable (K : PySem.W.Frag) (mg : Str → Option Value)
def tD (m : Ev → Option D) : TE := fun σ H Q => ∃ F0 H0 F ρ d, Ok K mg F0 H0 F H σ ρ ∧ m ρ = some d ∧ ∀ v F' H', Stp F H F' H' → Rp K mg F' v d → Q v H'
/-- a new list -/
def tF (m : Ev → Option (List D)) : TE := fun σ H Q => ∃ F0 H0 F ρ ds, Ok K mg F0 H0 F H σ ρ ∧ m ρ = some ds ∧ ∀ p xs F' H', Stp F H F' H' → H p = none → F' p = none → H' p = some (.lst xs) → RpA K mg F' xs ds → Q (.ref p) H'
def tA (m : Ev → Option (List D)) : TA := fun σ H Q => ∃ F0 H0 F ρ ds, Ok K mg F0 H0 F H σ ρ ∧ m ρ = some ds ∧ ∀ vs F' H', Stp F H F' H' → RpA K mg F' vs ds → Q vs H'
def tT (m : Ev → Option Bool) : TT := fun σ H Q => ∃ F0 H0 F ρ b, Ok K mg F0 H0 F H σ ρ ∧ m ρ = some b ∧ ∀ F' H', Stp F H F' H' → Q b H'
def tO (m : Ev → Option (Option Int)) : TO := fun σ H Q => ∃ F0 H0 F ρ o, Ok K mg F0 H0 F H σ ρ ∧ m ρ = some o ∧ ∀ F' H', Stp F H F' H' → Q o H'
/-- operations on values -/
def R2D (r : R2) (f : D → D → Option D) : Prop := ∀ (F H : Hp) (x y : V) (d1 d2 d : D) (Q : VK), Same F H → Rp K mg F x d1 → Rp K mg F y d2 → f d1 d2 = some d → (∀ v F' H', Stp F H F' H' → Rp K mg F' v d → Q v H') → r x y H Q
def R1D (r : V → Hp → VK → Prop) (f : D → Option D) : Prop := ∀ (F H : Hp) (x : V) (d1 d : D) (Q : VK), Same F H → Rp K mg F x d1 → f d1 = some d → (∀ v F' H', Stp F H F' H' → Rp K mg F' v d → Q v H') → r x H Q
def RCD (r : List V → Hp → VK → Prop) (f : List D → Option D) : Prop := ∀ (F H : Hp) (xs : List V) (ds : List D) (d : D) (Q : VK), Same F H → RpA K mg F xs ds → f ds = some d → (∀ v F' H', Stp F H F' H' → Rp K mg F' v d → Q v H') → r xs H Q
def RMD (r : V → List V → Hp → VK → Prop) (f : D → List D → Option D) : Prop := ∀ (F H : Hp) (x : V) (xs : List V) (d1 : D) (ds : List D) (d : D) (Q : VK), Same F H → Rp K mg F x d1 → RpA K mg F xs ds → f d1 ds = some d → (∀ v F' H', Stp F H F' H' → Rp K mg F' v d → Q v H') → r x xs H Q
end
abbrev DE (X : Cx) (e : Expr) (m : Ev → Option D) : Prop := PE X e (tD X.K X.mg m)
abbrev DF (X : Cx) (e : Expr) (m : Ev → Option (List D)) : Prop := PE X e (tF X.K X.mg m)
abbrev DA (X : Cx) (es : List Expr) (m : Ev → Option (List D)) : Prop := PA X es (tA X.K X.mg m)
abbrev DT (X : Cx) (e : Expr) (m : Ev → Option Bool) : Prop := PT X e (tT X.K X.mg m)
abbrev DW (X : Cx) (e : Expr) (m : Ev → Option Bool) : Prop := PW X e (tT X.K X.mg m)
abbrev DO (X : Cx) (o : Option Expr) (m : Ev → Option (Option Int)) : Prop := PO X o (tO X.K X.mg m)

def okN (n : Nat) : Bool := decide (n.log2 ≤ 16)
theorem okN_le {n : Nat} (h : okN n = true) : n ≤ 131071 := by
  have h1 : n.log2 ≤ 16 := of_decide_eq_true h
  by_cases h0 : n = 0
  · omega
  · have := (Nat.log2_lt h0 (k := 17)).mp (by omega)
    omega
theorem okN_of {n : Nat} (h : n ≤ 100000) : okN n = true := by
  unfold okN
  by_cases h0 : n = 0
  · rw [h0]
    decide
  · have := (Nat.log2_lt h0 (k := 17)).mpr (by omega)
    exact decide_eq_true (by omega)
def okM (i j : Int) : Bool := decide ((Builtin.Int.intBits i + Builtin.Int.intBits j).log2 ≤ 26)
theorem okM_le {i j : Int} (h : okM i j = true) : Builtin.Int.intBits i + Builtin.Int.intBits j ≤ 134217728 := by
  have h1 : (Builtin.Int.intBits i + Builtin.Int.intBits j).log2 ≤ 26 := of_decide_eq_true h
  by_cases h0 : Builtin.Int.intBits i + Builtin.Int.intBits j = 0
  · omega
  · have := (Nat.log2_lt h0 (k := 27)).mp (by omega)
    omega
theorem okM_of {i j : Int} (h : Builtin.Int.intBits i + Builtin.Int.intBits j ≤ 134217727) : okM i j = true := by
  unfold okM
  by_cases h0 : Builtin.Int.intBits i + Builtin.Int.intBits j = 0
  · rw [h0]
    decide
  · have := (Nat.log2_lt h0 (k := 27)).mpr (by omega)
    exact decide_eq_true (by omega)
def eV (i : Nat) : Ev → Option D := fun ρ => match ρ[i]? with
  | some (some (.dat d)) => some d
  | _ => none
def eC (d : D) : Ev → Option D := fun _ => some d
def e1 (f : D → Option D) (a : Ev → Option D) : Ev → Option D := fun ρ => (a ρ).bind f
def e2 (f : D → D → Option D) (a b : Ev → Option D) : Ev → Option D := fun ρ => (a ρ).bind fun x => (b ρ).bind fun y => f x y
def aN  : Ev → Option (List D) := fun _ => some []
def aC (a : Ev → Option D) (b : Ev → Option (List D)) : Ev → Option (List D) := fun ρ => (a ρ).bind fun x => (b ρ).bind fun y => some (x :: y)
def eB (f : List D → Option D) (a : Ev → Option (List D)) : Ev → Option D := fun ρ => (a ρ).bind f
def eM (f : D → List D → Option D) (a : Ev → Option D) (as : Ev → Option (List D)) : Ev → Option D := fun ρ => (a ρ).bind fun x => (as ρ).bind fun y => f x y
def eCall (n : Nat) (f : List D → Option D) (a : Ev → Option (List D)) : Ev → Option D := fun ρ => (a ρ).bind fun ds => if ds.length = n then f ds else none
def eIf (c : Ev → Option Bool) (a b : Ev → Option D) : Ev → Option D := fun ρ => (c ρ).bind fun k => if k = true then a ρ else b ρ
def eTup (a : Ev → Option (List D)) : Ev → Option D := fun ρ => (a ρ).bind fun ds => if okN (ds.length) = true then some (.tuple ds) else none
def fLst (a : Ev → Option (List D)) : Ev → Option (List D) := fun ρ => (a ρ).bind fun ds => if okN (ds.length) = true then some ds else none
def eF (a : Ev → Option (List D)) : Ev → Option D := fun ρ => (a ρ).bind fun ds => some (.list ds)
def toB : D → Option Bool
  | .bool b => some b
  | _ => none
def tB (a : Ev → Option D) : Ev → Option Bool := fun ρ => (a ρ).bind toB
def truD : D → Option Bool
  | .none => some false
  | .bool b => some b
  | .int i => some (i != 0)
  | .str x => if okN (x.length) = true then some ((x.length : Int) != 0) else none
  | .list ds => some (!ds.isEmpty)
  | .tuple ds => some (!ds.isEmpty)
  | _ => none
def tTru (a : Ev → Option D) : Ev → Option Bool := fun ρ => (a ρ).bind truD
def tAnd (a b : Ev → Option Bool) : Ev → Option Bool := fun ρ => (a ρ).bind fun k => if k = true then b ρ else some false
def tOr (a b : Ev → Option Bool) : Ev → Option Bool := fun ρ => (a ρ).bind fun k => if k = true then some true else b ρ
def tNot (a : Ev → Option Bool) : Ev → Option Bool := fun ρ => (a ρ).bind fun k => some (!k)
def eAnd (a b : Ev → Option D) : Ev → Option D := fun ρ => (a ρ).bind fun x => (toB x).bind fun k => if k = true then b ρ else some (.bool false)
def eOr (a b : Ev → Option D) : Ev → Option D := fun ρ => (a ρ).bind fun x => (toB x).bind fun k => if k = true then some (.bool true) else b ρ
def eNot (a : Ev → Option D) : Ev → Option D := fun ρ => (a ρ).bind fun x => (truD x).bind fun k => some (.bool (!k))
def eChain (f g : D → D → Option D) (a b c : Ev → Option D) : Ev → Option D := fun ρ => (a ρ).bind fun x => (b ρ).bind fun y => (f x y).bind fun z => (toB z).bind fun k =>
  if k = true then (c ρ).bind fun u => g y u else some (.bool false)
def oN  : Ev → Option (Option Int) := fun _ => some none
def toI : D → Option Int
  | .int i => some i
  | _ => none
def oS (a : Ev → Option D) : Ev → Option (Option Int) := fun ρ => (a ρ).bind fun x => (toI x).bind fun i => some (some i)
def cutD (ds : List D) (lo hi : Option Int) : List D := (ds.drop (HT.sIx ds.length 0 lo)).take (HT.sIx ds.length ds.length hi - HT.sIx ds.length 0 lo)
def sliceD (x : D) (lo hi : Option Int) : Option D := match x with
  | .list ds => some (.list (cutD ds lo hi))
  | .tuple ds => some (.tuple (cutD ds lo hi))
  | .str z => if okN (z.length) = true then some (.str (cutS z lo hi)) else none
  | _ => none
def eSl (a : Ev → Option D) (lo hi : Ev → Option (Option Int)) : Ev → Option D := fun ρ => (a ρ).bind fun x => (lo ρ).bind fun l => (hi ρ).bind fun h => sliceD x l h
/-- an own list read: its item, its length -/
def ownOf (i : Nat) : Ev → Option (List D) := fun ρ => match ρ[i]? with
  | some (some (.own ds)) => some ds
  | some (some (.dat (.list ds))) => some ds
  | _ => none
def eIxO (i : Nat) (k : Ev → Option D) : Ev → Option D := fun ρ => (ownOf i ρ).bind fun ds => (k ρ).bind fun x => (toI x).bind fun j => atI ds j
def eLenO (i : Nat) : Ev → Option D := fun ρ => (ownOf i ρ).bind fun ds => some (.int ds.length)

def opAdd : D → D → Option D
  | .int i, .int j => some (.int (i + j))
  | .str a, .str b => if okN (a.length + b.length) = true then some (.str (a ++ b)) else none
  | .list a, .list b => if okN (a.length + b.length) = true then some (.list (a ++ b)) else none
  | _, _ => none
def opSub : D → D → Option D
  | .int i, .int j => some (.int (i - j))
  | _, _ => none
def opMul : D → D → Option D
  | .int i, .int j => if okM i j = true then some (.int (i * j)) else none
  | _, _ => none
def opDiv : D → D → Option D
  | .int i, .int j => if j ≠ 0 ∧ j.natAbs.log2.log2 < 13 then some (.int (i.fdiv j)) else none
  | _, _ => none
def opMod : D → D → Option D
  | .int i, .int j => if j ≠ 0 then some (.int (i.fmod j)) else none
  | _, _ => none
def opPow : D → D → Option D
  | .int i, .int j => if 0 ≤ j ∧ j ≤ 1000000 ∧ i.natAbs < 2 ^ 64 then some (.int (i ^ j.toNat)) else none
  | _, _ => none
def opNeg : D → Option D
  | .int i => some (.int (-i))
  | _ => none
def scalD : D → D → Bool
  | .none, .none => true
  | .none, .int _ => true
  | .int _, .none => true
  | .none, .bool _ => true
  | .bool _, .none => true
  | .none, .str _ => true
  | .str _, .none => true
  | .int _, .int _ => true
  | .bool _, .bool _ => true
  | .str _, .str _ => true
  | .int _, .str _ => true
  | .str _, .int _ => true
  | .bool _, .str _ => true
  | .str _, .bool _ => true
  | _, _ => false
/-- whether two data are equal -/
def eqD (a b : D) : Option Bool := if scalD a b = true then some (PyData.eqv a b) else if SeqAt.shaped a = true ∧ SeqAt.shaped b = true then some (PyData.eqv a b) else none
def cEq (a b : D) : Option D := (eqD a b).bind fun k => some (.bool k)
def cNe (a b : D) : Option D := (eqD a b).bind fun k => some (.bool (!k))
def cLt : D → D → Option D
  | .int i, .int j => some (.bool (decide (i < j)))
  | .str a, .str b => some (.bool (decide (a.cps.toList < b.cps.toList)))
  | .bool a, .bool b => some (.bool (!a && b))
  | _, _ => none
def cGt : D → D → Option D
  | .int i, .int j => some (.bool (decide (j < i)))
  | .str a, .str b => some (.bool (decide (b.cps.toList < a.cps.toList)))
  | .bool a, .bool b => some (.bool (a && !b))
  | _, _ => none
def cLe : D → D → Option D
  | .int i, .int j => some (.bool (decide (i ≤ j)))
  | .str a, .str b => some (.bool (!decide (b.cps.toList < a.cps.toList)))
  | _, _ => none
def cGe : D → D → Option D
  | .int i, .int j => some (.bool (decide (j ≤ i)))
  | .str a, .str b => some (.bool (!decide (a.cps.toList < b.cps.toList)))
  | _, _ => none
def isNon : D → Bool
  | .none => true
  | _ => false
def cIsN (a b : D) : Option D := if isNon b then some (.bool (isNon a)) else none
def cNotN (a b : D) : Option D := if isNon b then some (.bool (!isNon a)) else none
def flatD : D → Bool
  | .none => true
  | .bool _ => true
  | .int _ => true
  | .str _ => true
  | _ => false
def inDs (x : D) (ds : List D) : Bool := ds.any fun z => PyData.eqv z x
def inG (x : D) (ds : List D) : Option D := if flatD x = true ∧ ds.all flatD = true then some (.bool (inDs x ds)) else if SeqAt.shaped x = true ∧ SeqAt.shaped (.list ds) = true then some (.bool (inDs x ds)) else none
def oneCp : D → Option Nat
  | .str z => match z.cps.toList with
    | [c] => some c
    | _ => none
  | _ => none
def cIn (x y : D) : Option D := match y with
  | .list ds => inG x ds
  | .tuple ds => inG x ds
  | .str z => (oneCp x).bind fun c => some (.bool (decide (c ∈ z.cps.toList)))
  | _ => none
def notD : D → Option D
  | .bool b => some (.bool (!b))
  | _ => none
def cNotIn (a b : D) : Option D := (cIn a b).bind notD
def ixD : D → D → Option D
  | .list ds, .int i => atI ds i
  | .tuple ds, .int i => atI ds i
  | .str z, .int i => if okN (z.length) = true then (atI z.cps.toList i).bind fun c => some (.str ⟨#[c]⟩) else none
  | _, _ => none

theorem PE.weak {X : Cx} {e : Expr} {t t' : TE} (h : PE X e t) (w : ∀ σ H Q, t' σ H Q → t σ H Q) : PE X e t' := ⟨fun pins s σ H Q I q => h.run pins s σ H Q I (w σ H Q q)⟩
theorem PT.weak {X : Cx} {e : Expr} {t t' : TT} (h : PT X e t) (w : ∀ σ H Q, t' σ H Q → t σ H Q) : PT X e t' := ⟨fun pins s σ H Q I q => h.run pins s σ H Q I (w σ H Q q)⟩
theorem PW.weak {X : Cx} {e : Expr} {t t' : TT} (h : PW X e t) (w : ∀ σ H Q, t' σ H Q → t σ H Q) : PW X e t' := ⟨fun wh pins s σ H Q I q => h.run wh pins s σ H Q I (w σ H Q q)⟩
theorem PA.weak {X : Cx} {es : List Expr} {t t' : TA} (h : PA X es t) (w : ∀ σ H Q, t' σ H Q → t σ H Q) : PA X es t' := ⟨fun p pins s σ H Q I q => h.run p pins s σ H Q I (w σ H Q q)⟩
theorem bind_some {α β : Type} {x : Option α} {f : α → Option β} {y : β} (h : x.bind f = some y) : ∃ a, x = some a ∧ f a = some y := by
  cases x with
  | none => cases h
  | some a => exact ⟨a, rfl, h⟩
theorem toB_some {d : D} {k : Bool} (h : toB d = some k) : d = .bool k := by
  cases d <;> simp [toB] at h
  rw [h]
theorem toI_some {d : D} {k : Int} (h : toI d = some k) : d = .int k := by
  cases d <;> simp [toI] at h
  rw [h]
section
variable {X : Cx} {pos : Pos} {a b c : Expr} {m m1 m2 m3 : Ev → Option D}
theorem eV_some {i : Nat} {ρ : Ev} {d : D} (h : eV i ρ = some d) : ρ[i]? = some (some (.dat d)) := by
  unfold eV at h
  split at h
  · rename_i e
    cases h
    exact e
  · cases h
theorem dv (i : Nat) {x : Str} (hN : X.N[i]? = some x := by rfl) (hv : Vis X.env.scope x := by first | exact Or.inl rfl | exact Or.inr (Or.inl rfl) | exact Or.inr (Or.inr rfl)) (hd : (x == ("__debug__" : Str)) = false := by decide)
    (hcd : (x == ("__classdict__" : Str)) = false := by decide) : DE X (.Name x pos) (eV i) := PE.weak (pe_var hN hv hd hcd) fun σ H Q ⟨F0, H0, F, ρ, d, k, e, q⟩ => by
  obtain ⟨x, e1, r⟩ := k.rel i _ (eV_some e)
  exact ⟨x, e1, q x F H (Stp.refl k.s) r⟩
theorem dconst {e : Expr} {v : V} {d : D} (h : PE X e (tC v)) (r : ∀ F, Rp X.K X.mg F v d) : DE X e (eC d) := PE.weak h fun σ H Q ⟨F0, H0, F, ρ, d', k, e, q⟩ => by
  cases e
  exact q v F H (Stp.refl k.s) (r F)
theorem d_int {i : Int} {j : Nat} : DE X (.Constant (.int i) j pos) (eC (.int i)) := dconst pe_int fun _ => .int i
theorem d_bl {i : Bool} {j : Nat} : DE X (.Constant (.bool i) j pos) (eC (.bool i)) := dconst pe_bl fun _ => .bl i
theorem d_str {i : Str} {j : Nat} : DE X (.Constant (.str i) j pos) (eC (.str i)) := dconst pe_str fun _ => .str i
theorem d_non {j : Nat} : DE X (.Constant .none j pos) (eC .none) := dconst pe_non fun _ => .non
theorem d_glob {x : Str} {u : Value} {v : V} {d : D} (hm : X.mg x = some u) (r : RelV v u) (hd : ∀ F, Rp X.K X.mg F v d) (hg : Gl X x := by rfl) (hb : (x == ("__debug__" : Str)) = false := by decide) : DE X (.Name x pos) (eC d) := dconst (pe_glob hg hm r hb) hd
theorem tD_op {K : PySem.W.Frag} {mg : Str → Option Value} {r : R2} {f : D → D → Option D} (h : R2D K mg r f) : ∀ σ H Q, tD K mg (e2 f m1 m2) σ H Q → tOp r (tD K mg m1) (tD K mg m2) σ H Q := fun σ H Q ⟨F0, H0, F, ρ, d, k, e, q⟩ => by
  obtain ⟨d1, h1, e⟩ := bind_some e
  obtain ⟨d2, h2, e⟩ := bind_some e
  exact ⟨F0, H0, F, ρ, d1, k, h1, fun v1 F1 H1 t1 r1 => ⟨F0, H0, F1, ρ, d2, k.step t1, h2, fun v2 F2 H2 t2 r2 => h F2 H2 v1 v2 d1 d2 d _ t2.s (r1.mono t2.f) r2 e fun v F3 H3 t3 r3 => q v F3 H3 (t1.trans (t2.trans t3)) r3⟩⟩
theorem d_op {op : Operator} {r : R2} {f : D → D → Option D} (ho : OpR X (binaryOp op) r) (h : R2D X.K X.mg r f) (ha : DE X a m1) (hb : DE X b m2) : DE X (.BinOp a op b pos) (e2 f m1 m2) := PE.weak (pe_op ho ha hb) (tD_op h)
theorem d_cmp {op : CmpOp} {r : R2} {f : D → D → Option D} (ho : OpR X (compareOp op) r) (h : R2D X.K X.mg r f) (ha : DE X a m1) (hb : DE X b m2) (hm : behindInMarks op b = false := by rfl) : DE X (.Compare a [op] [b] pos) (e2 f m1 m2) := PE.weak (pe_cmpR ho ha hb hm) (tD_op h)
theorem d_ix {r : R2} {f : D → D → Option D} (ho : IxR X r) (h : R2D X.K X.mg r f) (ha : DE X a m1) (hb : DE X b m2) (hs : PlainIx b := by intro _ _; rfl) : DE X (.Subscript a b pos) (e2 f m1 m2) := PE.weak (pe_ix ho ha hb hs) (tD_op h)
theorem d_un {op : UnaryOp} {r : V → Hp → VK → Prop} {f : D → Option D} (ho : UnR X (unaryOp op) r) (h : R1D X.K X.mg r f) (ha : DE X a m1) : DE X (.UnaryOp op a pos) (e1 f m1) := PE.weak (pe_un ho ha) fun σ H Q ⟨F0, H0, F, ρ, d, k, e, q⟩ => by
  obtain ⟨d1, h1, e⟩ := bind_some e
  exact ⟨F0, H0, F, ρ, d1, k, h1, fun v1 F1 H1 t1 r1 => h F1 H1 v1 d1 d _ t1.s r1 e fun v F3 H3 t3 r3 => q v F3 H3 (t1.trans t3) r3⟩
theorem d_chain {op op' : CmpOp} {r r' : R2} {f g : D → D → Option D} (ho : OpR X (compareOp op) r) (h : R2D X.K X.mg r f) (ho' : OpR X (compareOp op') r') (h' : R2D X.K X.mg r' g) (ha : DE X a m1) (hb : DE X b m2) (hc : DE X c m3)
    (hm : lastMarks [op, op'] [b, c] = false := by with_unfolding_all rfl) : DE X (.Compare a [op, op'] [b, c] pos) (eChain f g m1 m2 m3) := PE.weak (pe_chain ho ho' ha hb hc hm) fun σ H Q ⟨F0, H0, F, ρ, d, k, e, q⟩ => by
  obtain ⟨d1, h1, e⟩ := bind_some e
  obtain ⟨d2, h2, e⟩ := bind_some e
  obtain ⟨d3, h3, e⟩ := bind_some e
  obtain ⟨kk, h4, e6⟩ := bind_some e
  refine ⟨F0, H0, F, ρ, d1, k, h1, fun v1 F1 H1 t1 r1 => ⟨F0, H0, F1, ρ, d2, k.step t1, h2, fun v2 F2 H2 t2 r2 => h F2 H2 v1 v2 d1 d2 d3 _ t2.s (r1.mono t2.f) r2 h3 fun v F3 H3 t3 r3 => ?_⟩⟩
  have e7 := toB_some h4
  subst e7
  cases r3
  refine ⟨_, rfl, ?_⟩
  cases kk with
  | false =>
    simp only [Bool.false_eq_true, if_false] at e6 ⊢
    cases e6
    exact q _ F3 H3 (t1.trans (t2.trans t3)) (.bl false)
  | true =>
    simp only [if_true] at e6 ⊢
    obtain ⟨d4, h5, e⟩ := bind_some e6
    exact ⟨F0, H0, F3, ρ, d4, ((k.step t1).step t2).step t3, h5, fun v4 F4 H4 t4 r4 => h' F4 H4 v2 v4 d2 d4 d _ t4.s (r2.mono (t3.f.trans t4.f)) r4 e fun v5 F5 H5 t5 r5 => q v5 F5 H5 (t1.trans (t2.trans (t3.trans (t4.trans t5)))) r5⟩
theorem a_nil : DA X [] aN := PA.weak pa_nil fun σ H Q ⟨F0, H0, F, ρ, d, k, e, q⟩ => by
  cases e
  exact q [] F H (Stp.refl k.s) .nil
theorem a_cons {e : Expr} {es : List Expr} {ms : Ev → Option (List D)} (ha : DE X e m) (hr : DA X es ms) (hs : starEach (e :: es) X.env = (false, eval e X.env) :: starEach es X.env := by rfl) : DA X (e :: es) (aC m ms) := PA.weak (pa_cons ha hr hs) fun σ H Q ⟨F0, H0, F, ρ, d, k, e, q⟩ => by
  obtain ⟨d1, h1, e⟩ := bind_some e
  obtain ⟨d2, h2, e⟩ := bind_some e
  cases e
  exact ⟨F0, H0, F, ρ, d1, k, h1, fun v1 F1 H1 t1 r1 => ⟨F0, H0, F1, ρ, d2, k.step t1, h2, fun v2 F2 H2 t2 r2 => q _ F2 H2 (t1.trans t2) (.cons (r1.mono t2.f) r2)⟩⟩
theorem small_of {n : Nat} (h : okN n = true) : n ≤ sizeLine := Nat.le_trans (okN_le h) (by decide)
theorem d_tup {es : List Expr} {ms : Ev → Option (List D)} {x1 : Nat} (h : DA X es ms) : DE X (.Tuple es x1 pos) (eTup ms) := PE.weak (pe_tup h) fun σ H Q ⟨F0, H0, F, ρ, d, k, e, q⟩ => by
  obtain ⟨ds, h1, e⟩ := bind_some e
  split at e
  · rename_i hl
    cases e
    refine ⟨F0, H0, F, ρ, ds, k, h1, fun vs F1 H1 t1 r1 => ⟨small_of (by rw [r1.length]; exact hl), fun p hp => ?_⟩⟩
    exact q (.ref p) _ _ (t1.trans (Stp.new t1.s hp)) (.tup (.inl (.inl upd_same)) (r1.mono (same_new (same_free t1.s hp))))
  · cases e
theorem f_lst {es : List Expr} {ms : Ev → Option (List D)} (h : DA X es ms) : DF X (.List es pos) (fLst ms) := PE.weak (pe_lst h) fun σ H Q ⟨F0, H0, F, ρ, d, k, e, q⟩ => by
  obtain ⟨ds, h1, e⟩ := bind_some e
  split at e
  · rename_i hl
    cases e
    refine ⟨F0, H0, F, ρ, d, k, h1, fun vs F1 H1 t1 r1 => ⟨small_of (by rw [r1.length]; exact hl), fun p hp => ?_⟩⟩
    exact q p vs F1 _ (t1.trans ⟨Same.refl _, same_new hp, t1.s.trans (same_new hp), fun a o e1 e2 => e1⟩) (t1.h.free hp) (same_free t1.s hp) upd_same r1
  · cases e
theorem d_f {e : Expr} {ms : Ev → Option (List D)} (h : DF X e ms) : DE X e (eF ms) := PE.weak h fun σ H Q ⟨F0, H0, F, ρ, d, k, e, q⟩ => by
  obtain ⟨ds, h1, e⟩ := bind_some e
  cases e
  refine ⟨F0, H0, F, ρ, ds, k, h1, fun p xs F1 H1 t1 hp fp hp1 r1 => ?_⟩
  exact q _ _ _ (t1.ice hp hp1 fp) (.lst (.inl (.inl upd_same)) (r1.mono (same_new fp)))
theorem d_if {mc : Ev → Option Bool} (hc : DT X c mc) (ha : DE X a m1) (hb : DE X b m2) : DE X (.IfExp c a b pos) (eIf mc m1 m2) := PE.weak (pe_ifExp hc ha hb) fun σ H Q ⟨F0, H0, F, ρ, d, k, e, q⟩ => by
  obtain ⟨kk, h1, e⟩ := bind_some e
  refine ⟨F0, H0, F, ρ, kk, k, h1, fun F1 H1 t1 => ?_⟩
  cases kk with
  | true =>
    simp only [if_true] at e ⊢
    exact ⟨F0, H0, F1, ρ, d, k.step t1, e, fun v F2 H2 t2 r2 => q v F2 H2 (t1.trans t2) r2⟩
  | false =>
    simp only [Bool.false_eq_true, if_false] at e ⊢
    exact ⟨F0, H0, F1, ρ, d, k.step t1, e, fun v F2 H2 t2 r2 => q v F2 H2 (t1.trans t2) r2⟩
theorem d_cb {id : String} {x : Str} {p : Pos} {e : Expr} {es : List Expr} {r : List V → Hp → VK → Prop} {f : List D → Option D} {ms : Ev → Option (List D)} (hc : CallR X (.builtin id) r) (h : RCD X.K X.mg r f) (hm : X.mg x = none) (ha : DA X (e :: es) ms)
    (hv : bootBuiltins x = some (.builtin id) := by decide +kernel) (hg : Gl X x := by rfl) (hn : x ≠ "__name__" := by decide) (hd : (x == ("__debug__" : Str)) = false := by decide) (he : starEach (e :: es) X.env = (false, eval e X.env) :: starEach es X.env := by rfl) (hpl : (backTo pos (starEach es X.env)).any (·.1) = false := by rfl) : DE X (.Call (.Name x p) (e :: es) [] pos) (eB f ms) :=
  PE.weak (pe_callB hc hg hm hv ha hn hd he hpl) fun σ H Q ⟨F0, H0, F, ρ, d, k, e, q⟩ => by
  obtain ⟨ds, h1, e⟩ := bind_some e
  exact ⟨F0, H0, F, ρ, ds, k, h1, fun vs F1 H1 t1 r1 => h F1 H1 vs ds d _ t1.s r1 e fun v F2 H2 t2 r2 => q v F2 H2 (t1.trans t2) r2⟩
theorem d_ct {T : String} {x : Str} {p : Pos} {e : Expr} {es : List Expr} {r : List V → Hp → VK → Prop} {f : List D → Option D} {ms : Ev → Option (List D)} (hc : CallR X (.type T) r) (h : RCD X.K X.mg r f) (hm : X.mg x = none) (ha : DA X (e :: es) ms)
    (hv : bootBuiltins x = some (.type T) := by decide +kernel) (hg : Gl X x := by rfl) (hn : x ≠ "__name__" := by decide) (hd : (x == ("__debug__" : Str)) = false := by decide) (he : starEach (e :: es) X.env = (false, eval e X.env) :: starEach es X.env := by rfl) (hpl : (backTo pos (starEach es X.env)).any (·.1) = false := by rfl) : DE X (.Call (.Name x p) (e :: es) [] pos) (eB f ms) :=
  PE.weak (pe_callTy hc hg hm hv ha hn hd he hpl) fun σ H Q ⟨F0, H0, F, ρ, d, k, e, q⟩ => by
  obtain ⟨ds, h1, e⟩ := bind_some e
  exact ⟨F0, H0, F, ρ, ds, k, h1, fun vs F1 H1 t1 r1 => h F1 H1 vs ds d _ t1.s r1 e fun v F2 H2 t2 r2 => q v F2 H2 (t1.trans t2) r2⟩
end
end Dm


namespace Dm
open PySem PySem.Spec L2
section
variable {K : PySem.W.Frag} {mg : Str → Option Value} {F H : Hp}
theorem Rp.tru {x : V} {d : D} {k : Bool} (s : Same F H) (r : Rp K mg F x d) (h : truD d = some k) : TruV K x H k := by
  cases r with
  | non => cases h; rfl
  | bl b => cases h; rfl
  | int i => cases h; rfl
  | str z =>
    simp only [truD] at h
    split at h
    · rename_i hl
      cases h
      exact ⟨small_of hl, rfl⟩
    · cases h
  | lst hs a =>
    cases h
    refine .inl ⟨_, sqL_mono s hs, ?_⟩
    have := a.length
    rename_i xs ds
    cases xs <;> cases ds <;> first | rfl | (simp at this)
  | tup hs a =>
    cases h
    refine .inr (.inl ⟨_, sqT_mono s hs, ?_⟩)
    have := a.length
    rename_i xs ds
    cases xs <;> cases ds <;> first | rfl | (simp at this)
  | fn => cases h
  | emp => cases h
  | dct => cases h
  | ins => cases h
end
section
variable {X : Cx} {pos : Pos} {a b c : Expr} {m m1 m2 m3 : Ev → Option D} {t t1 t2 : Ev → Option Bool} {rest : List Expr}
theorem t_tru (h : DE X a m) (he : ∀ whole, isTrue a X.env whole = (do let v ← whole; standAt a.pos; holding [v] (truthy v)) := by intro _; rfl) : DT X a (tTru m) := PT.weak (pt_truth h he) fun σ H Q ⟨F0, H0, F, ρ, d, k, e, q⟩ => by
  obtain ⟨d1, h1, e⟩ := bind_some e
  exact ⟨F0, H0, F, ρ, d1, k, h1, fun v F1 H1 t1 r1 => ⟨d, r1.tru t1.s e, q F1 H1 t1⟩⟩
theorem t_cmp {op : CmpOp} {r : R2} {f : D → D → Option D} (ho : OpR X (compareOp op) r) (h : R2D X.K X.mg r f) (ha : DE X a m1) (hb : DE X b m2) (hm : behindInMarks op b = false := by rfl) : DT X (.Compare a [op] [b] pos) (tB (e2 f m1 m2)) := PT.weak (pt_cmpR ho ha hb hm) fun σ H Q ⟨F0, H0, F, ρ, d, k, e, q⟩ => by
  obtain ⟨d1, h1, e⟩ := bind_some e
  have e2' := toB_some e
  subst e2'
  refine tD_op h σ H _ ⟨F0, H0, F, ρ, _, k, h1, fun v F1 H1 t1 r1 => ?_⟩
  cases r1
  exact ⟨_, rfl, q F1 H1 t1⟩
theorem t_not (ha : DT X a t) : DT X (.UnaryOp .Not a pos) (tNot t) := PT.weak (pt_not ha) fun σ H Q ⟨F0, H0, F, ρ, d, k, e, q⟩ => by
  obtain ⟨kk, h1, e⟩ := bind_some e
  cases e
  exact ⟨F0, H0, F, ρ, kk, k, h1, q⟩
theorem w_and1 (ha : DT X a t) : DW X (.BoolOp .And [a] pos) t := pw_and1 ha
theorem w_or1 (ha : DT X a t) : DW X (.BoolOp .Or [a] pos) t := pw_or1 ha
theorem w_and (ha : DT X a t1) (hb : DW X (.BoolOp .And (b :: rest) pos) t2) : DW X (.BoolOp .And (a :: b :: rest) pos) (tAnd t1 t2) := PW.weak (pw_and ha hb) fun σ H Q ⟨F0, H0, F, ρ, d, k, e, q⟩ => by
  obtain ⟨kk, h1, e⟩ := bind_some e
  refine ⟨F0, H0, F, ρ, kk, k, h1, fun F1 H1 t1 => ?_⟩
  cases kk with
  | true =>
    simp only [if_true] at e ⊢
    exact ⟨F0, H0, F1, ρ, d, k.step t1, e, fun F2 H2 t2 => q F2 H2 (t1.trans t2)⟩
  | false =>
    simp only [Bool.false_eq_true, if_false] at e ⊢
    cases e
    exact q F1 H1 t1
theorem w_or (ha : DT X a t1) (hb : DW X (.BoolOp .Or (b :: rest) pos) t2) : DW X (.BoolOp .Or (a :: b :: rest) pos) (tOr t1 t2) := PW.weak (pw_or ha hb) fun σ H Q ⟨F0, H0, F, ρ, d, k, e, q⟩ => by
  obtain ⟨kk, h1, e⟩ := bind_some e
  refine ⟨F0, H0, F, ρ, kk, k, h1, fun F1 H1 t1 => ?_⟩
  cases kk with
  | true =>
    simp only [if_true] at e ⊢
    cases e
    exact q F1 H1 t1
  | false =>
    simp only [Bool.false_eq_true, if_false] at e ⊢
    exact ⟨F0, H0, F1, ρ, d, k.step t1, e, fun F2 H2 t2 => q F2 H2 (t1.trans t2)⟩
theorem t_w (h : DW X a t) : DT X a t := h.pt
theorem d_one {op : BoolOp} (h : DE X a m) : DE X (.BoolOp op [a] pos) m := pe_one h
theorem d_and (ha : DE X a m1) (hb : DE X (.BoolOp .And (b :: rest) pos) m2) : DE X (.BoolOp .And (a :: b :: rest) pos) (eAnd m1 m2) := PE.weak (pe_and ha hb) fun σ H Q ⟨F0, H0, F, ρ, d, k, e, q⟩ => by
  obtain ⟨d1, h1, e⟩ := bind_some e
  obtain ⟨kk, h2, e⟩ := bind_some e
  have e2' := toB_some h2
  subst e2'
  refine ⟨F0, H0, F, ρ, _, k, h1, fun v F1 H1 t1 r1 => ?_⟩
  cases r1
  refine ⟨_, rfl, ?_⟩
  cases kk with
  | true =>
    simp only [if_true] at e ⊢
    exact ⟨F0, H0, F1, ρ, d, k.step t1, e, fun v F2 H2 t2 => q v F2 H2 (t1.trans t2)⟩
  | false =>
    simp only [Bool.false_eq_true, if_false] at e ⊢
    cases e
    exact q _ F1 H1 t1 (.bl _)
theorem d_not (ha : DE X a m1) : DE X (.UnaryOp .Not a pos) (eNot m1) := PE.weak (pe_notT ha) fun σ H Q ⟨F0, H0, F, ρ, d, k, e, q⟩ => by
  obtain ⟨d1, h1, e⟩ := bind_some e
  obtain ⟨kk, h2, e⟩ := bind_some e
  cases e
  exact ⟨F0, H0, F, ρ, d1, k, h1, fun v F1 H1 t1 r1 => ⟨kk, r1.tru t1.s h2, q _ F1 H1 t1 (.bl _)⟩⟩
theorem PO.weak {o : Option Expr} {t t' : TO} (h : PO X o t) (w : ∀ σ H Q, t' σ H Q → t σ H Q) : PO X o t' := ⟨fun pins s σ H Q I q => h.run pins s σ H Q I (w σ H Q q)⟩
theorem o_none : DO X none oN := PO.weak po_none fun σ H Q ⟨F0, H0, F, ρ, d, k, e, q⟩ => by
  cases e
  exact q F H (Stp.refl k.s)
theorem o_some (h : DE X a m) : DO X (some a) (oS m) := PO.weak (po_some h) fun σ H Q ⟨F0, H0, F, ρ, d, k, e, q⟩ => by
  obtain ⟨d1, h1, e⟩ := bind_some e
  obtain ⟨i, h2, e⟩ := bind_some e
  cases e
  have e2' := toI_some h2
  subst e2'
  exact ⟨F0, H0, F, ρ, _, k, h1, fun v F1 H1 t1 r1 => by
    cases r1
    exact ⟨i, rfl, q F1 H1 t1⟩⟩
theorem RpA.cut {K : PySem.W.Frag} {mg : Str → Option Value} {F : Hp} {xs : List V} {ds : List D} (h : RpA K mg F xs ds) (lo hi : Option Int) : RpA K mg F (cutV xs lo hi) (cutD ds lo hi) := by
  unfold cutV cutD
  rw [h.length]
  exact (h.drop _).take _
theorem HT_whole {n : Nat} {lo hi : Option Int} (h : HT.sIx n 0 lo = 0 ∧ HT.sIx n n hi = n) {ds : List D} (e : ds.length = n) : cutD ds lo hi = ds := by
  unfold cutD
  rw [e, h.1, h.2]
  simp [← e]
theorem d_sl {o1 o2 : Ev → Option (Option Int)} {lo hi : Option Expr} {p2 : Pos} (he : DE X a m) (hl : DO X lo o1) (hh : DO X hi o2) : DE X (.Subscript a (.Slice lo hi none p2) pos) (eSl m o1 o2) :=
  PE.weak (pe_slice ((sl_list.or sl_tupA).or sl_str) he hl hh) fun σ H Q ⟨F0, H0, F, ρ, d, k, e, q⟩ => by
  obtain ⟨d1, h1, e⟩ := bind_some e
  obtain ⟨l, h2, e⟩ := bind_some e
  obtain ⟨h, h3, e⟩ := bind_some e
  refine ⟨F0, H0, F, ρ, d1, k, h1, fun v F1 H1 t1 r1 => ⟨F0, H0, F1, ρ, l, k.step t1, h2, fun F2 H2 t2 => ⟨F0, H0, F2, ρ, h, (k.step t1).step t2, h3, fun F3 H3 t3 => ?_⟩⟩⟩
  have r3 := r1.mono (t2.f.trans t3.f)
  have tt := t1.trans (t2.trans t3)
  cases r3 with
  | lst hs ha =>
    cases e
    refine .inl (.inl ⟨_, _, rfl, sqL_mono t3.s hs, fun p hp => ?_⟩)
    exact q _ _ _ (tt.trans (Stp.new t3.s hp)) (.lst (.inl (.inl upd_same)) ((ha.mono (same_new (same_free t3.s hp))).cut l h))
  | tup hs ha =>
    cases e
    refine .inl (.inr ⟨_, _, rfl, sqT_mono t3.s hs, fun w => ?_, fun w p hp => ?_⟩)
    · refine q _ _ _ tt ?_
      rw [HT_whole w ha.length.symm]
      exact .tup hs ha
    · exact q _ _ _ (tt.trans (Stp.new t3.s hp)) (.tup (.inl (.inl upd_same)) ((ha.mono (same_new (same_free t3.s hp))).cut l h))
  | str z =>
    simp only [sliceD] at e
    split at e
    · rename_i hl
      cases e
      exact .inr ⟨z, rfl, small_of hl, q _ _ _ tt (.str _)⟩
    · cases e
  | non => cases e
  | bl => cases e
  | int => cases e
  | fn => cases e
  | emp => cases e
  | dct => cases e
  | ins => cases e
theorem ownOf_some {K : PySem.W.Frag} {mg : Str → Option Value} {F0 : Fz} {H0 F H : Hp} {σ : L2.St} {ρ : Ev} {i : Nat} {ds : List D} (k : Ok K mg F0 H0 F H σ ρ) (h : ownOf i ρ = some ds) : ∃ a xs, σ[i]? = some (some (.ref a)) ∧ SqL K H a xs ∧ RpA K mg F xs ds := by
  unfold ownOf at h
  split at h
  · rename_i e
    cases h
    obtain ⟨a, xs, e1, _, _, ha, r⟩ := k.rel i _ e
    exact ⟨a, xs, e1, .inl (.inl ha), r⟩
  · rename_i e
    cases h
    obtain ⟨x, e1, r⟩ := k.rel i _ e
    cases r with
    | lst hs ha => exact ⟨_, _, e1, sqL_mono k.s hs, ha⟩
  · cases h
theorem RpA.at {K : PySem.W.Frag} {mg : Str → Option Value} {F : Hp} {xs : List V} {ds : List D} (h : RpA K mg F xs ds) {i : Int} {d : D} (e : atI ds i = some d) : ∃ v, atI xs i = some v ∧ Rp K mg F v d := by
  unfold atI at e ⊢
  rw [h.length]
  obtain ⟨j, h1, h2⟩ := bind_some e
  rw [h1]
  exact h.get h2
theorem d_ixO (i : Nat) {x : Str} {p1 : Pos} (hb : DE X b m) (hs : PlainIx b := by intro _ _; rfl) (hN : X.N[i]? = some x := by rfl) (hv : Vis X.env.scope x := by first | exact Or.inl rfl | exact Or.inr (Or.inl rfl) | exact Or.inr (Or.inr rfl)) (hd : (x == ("__debug__" : Str)) = false := by decide)
    (hcd : (x == ("__classdict__" : Str)) = false := by decide) : DE X (.Subscript (.Name x p1) b pos) (eIxO i m) := PE.weak (pe_ix ix_list (pe_var hN hv hd hcd) hb hs) fun σ H Q ⟨F0, H0, F, ρ, d, k, e, q⟩ => by
  obtain ⟨ds, h1, e⟩ := bind_some e
  obtain ⟨d2, h2, e⟩ := bind_some e
  obtain ⟨j, h3, e⟩ := bind_some e
  have e3 := toI_some h3
  subst e3
  obtain ⟨a', xs, e1, hs', ha⟩ := ownOf_some k h1
  refine ⟨_, e1, F0, H0, F, ρ, _, k, h2, fun v F1 H1 t1 r1 => ?_⟩
  cases r1
  obtain ⟨v, hv1, hv2⟩ := ha.at e
  exact ⟨a', xs, j, v, rfl, rfl, t1.h.seq hs', hv1, q v F1 H1 t1 (hv2.mono t1.f)⟩
theorem d_lenO (i : Nat) {x : Str} {p p1 : Pos} (hm : X.mg "len" = none) (hs : starEach [Expr.Name x p1] X.env = (false, eval (.Name x p1) X.env) :: starEach [] X.env := by rfl) (hg : Gl X "len" := by rfl) (hN : X.N[i]? = some x := by rfl) (hv : Vis X.env.scope x := by first | exact Or.inl rfl | exact Or.inr (Or.inl rfl) | exact Or.inr (Or.inr rfl)) (hd : (x == ("__debug__" : Str)) = false := by decide)
    (hcd : (x == ("__classdict__" : Str)) = false := by decide) : DE X (.Call (.Name "len" p) [.Name x p1] [] pos) (eLenO i) := PE.weak (pe_callB call_len_seq hg hm PySem.boot_len (pa_cons (pe_var hN hv hd hcd) pa_nil hs) (by decide) (by decide) hs) fun σ H Q ⟨F0, H0, F, ρ, d, k, e, q⟩ => by
  obtain ⟨ds, h1, e⟩ := bind_some e
  cases e
  obtain ⟨a', xs, e1, hs', ha⟩ := ownOf_some k h1
  refine ⟨_, e1, a', xs, rfl, .inl hs', ?_⟩
  rw [ha.length]
  exact q _ F H (Stp.refl k.s) (.int _)
def spD (K : PySem.W.Frag) (mg : Str → Option Value) (n : Nat) (f : List D → Option D) : Sp := fun vs H Q _ => ∃ F ds d, Same F H ∧ RpA K mg F vs ds ∧ ds.length = n ∧ f ds = some d ∧ ∀ v F' H', Stp F H F' H' → Rp K mg F' v d → Q v H'
theorem d_call {CX : CXT} {k n : Nat} {f : Addr} {fd : FuncData} {ps : List Str} {g : List D → Option D} {x : Str} {p : Pos} {e : Expr} {es : List Expr} {ms : Ev → Option (List D)} {E : XK} {j : Nat} (G : FnOk X.prog X.w X.K X.mg X.base CX k f fd ps (spD X.K X.mg n g)) (hr : Room j X.A) (hj : k ≤ j) (hm : X.mg x = some (.ref f)) (hk : PySem.W.keepIn X.K (.ref f) = true) (hb : Binds X.K fd ps []) (hx : Passes CX X E)
    (ha : DA X (e :: es) ms) (hg : Gl X x := by rfl) (hdb : (x == ("__debug__" : Str)) = false := by decide) (he : starEach (e :: es) X.env = (false, eval e X.env) :: starEach es X.env := by rfl) (hpl : (backTo pos (starEach es X.env)).any (·.1) = false := by rfl) :
    DE X (.Call (.Name x p) (e :: es) [] pos) (eCall n g ms) := PE.weak (pe_call G (hr.mono hj) hg hm hk hb .nil hx ha hdb he hpl) fun σ H Q ⟨F0, H0, F, ρ, d, k, e, q⟩ => by
  obtain ⟨ds, h1, e⟩ := bind_some e
  split at e
  · rename_i hl
    refine ⟨F0, H0, F, ρ, ds, k, h1, fun vs F1 H1 t1 r1 => ?_⟩
    show spD X.K X.mg n g (vs ++ []) H1 Q E
    rw [List.append_nil]
    exact ⟨F1, ds, d, t1.s, r1, hl, e, fun v F2 H2 t2 r2 => q v F2 H2 (t1.trans t2) r2⟩
  · cases e
theorem d_call0 {CX : CXT} {k n : Nat} {f : Addr} {fd : FuncData} {ps : List Str} {g : List D → Option D} {x : Str} {p : Pos} {E : XK} {j : Nat} (G : FnOk X.prog X.w X.K X.mg X.base CX k f fd ps (spD X.K X.mg n g)) (hr : Room j X.A) (hj : k ≤ j) (hm : X.mg x = some (.ref f)) (hk : PySem.W.keepIn X.K (.ref f) = true) (hb : Binds X.K fd ps []) (hx : Passes CX X E)
    (hg : Gl X x := by rfl) (hdb : (x == ("__debug__" : Str)) = false := by decide) : DE X (.Call (.Name x p) [] [] pos) (eCall n g aN) := PE.weak (pe_call0 G (hr.mono hj) hg hm hk hb .nil hx hdb) fun σ H Q ⟨F0, H0, F, ρ, d, k, e, q⟩ => by
  obtain ⟨ds, h1, e⟩ := bind_some e
  cases h1
  split at e
  · rename_i hl
    show spD X.K X.mg n g [] H Q E
    exact ⟨F, [], d, k.s, .nil, hl, e, q⟩
  · cases e
end
end Dm


namespace Dm
open PySem PySem.Spec L2
theorem Room.u65 {k : Nat} {A : Around} (r : Room k A) : A.units + 65 < cLine := by have := r.un; omega
theorem Room.u64 {k : Nat} {A : Around} (r : Room k A) : A.units + 64 < cLine := by have := r.un; omega
def rCatG (K : PySem.W.Frag) : R2 := fun x y H Q => ∃ a b xs ys, x = .ref a ∧ y = .ref b ∧ SqL K H a xs ∧ SqL K H b ys ∧ xs.length + ys.length ≤ sizeLine ∧ ∀ p, H p = none → Q (.ref p) (upd H p (.lst (xs ++ ys)))
section
variable {X : Cx}
theorem op_catG : OpR X (binaryOp .Add) (rCatG X.K) := by
  intro pins s σ H x y v u Q I rx ry h
  obtain ⟨l, b, xs, zs, rfl, rfl, hH, hB, hz, q⟩ := h
  cases rx
  cases ry
  obtain ⟨its, r, hl, z1⟩ := I.list hH
  obtain ⟨its2, r2, hb, z2⟩ := I.list hB
  obtain ⟨⟨cls, dd, data, sl⟩, ho, hc, n, hd⟩ := id hl.isList
  obtain ⟨⟨cls2, dd2, data2, sl2⟩, ho2, hc2, n2, hd2⟩ := id hb.isList
  simp only at hc hd hc2 hd2
  subst hc hd hc2 hd2
  have e : its.toArray ++ its2.toArray = (its ++ its2).toArray := by simp
  have hs : its.toArray.size + its2.toArray.size ≤ sizeLine := by
    rw [List.size_toArray, List.size_toArray, ← r.length, ← r2.length]
    exact hz
  refine concat_meets ⟨_, ho, rfl⟩ ⟨_, ho2, rfl⟩ noFill_list_add seq_list_add PySem.F.slot_list_add PySem.F.entry_list_add (PySem.F.args_list_add_2 _ _) (PyProof.Rows.list_addW l b its.toArray its2.toArray n n2 dd dd2 sl sl2 hs) ⟨ho, ho2, ?_⟩
  simp only [e]
  exact ⟨.ref _, _, I.lnew (t' := s.toks) (r.append r2) (by rw [List.length_append]; omega), rfl, q _ I.fresh⟩
def rDiv : R2 := fun x y H Q => ∃ i j, x = .int i ∧ y = .int j ∧ (j ≠ 0 ∧ j.natAbs.log2 < 9000) ∧ Q (.int (i.fdiv j)) H
theorem op_divG : OpR X (binaryOp .FloorDiv) rDiv := opI fun i j _ _ _ _ _ hc q => PyProof.Rows.floordiv_int hc.1 q (.inl (PyProof.noPylong_of_log2 hc.2))
theorem op_ltB : OpR X (compareOp .Lt) (fun x y H Q => ∃ i j : Bool, x = .bl i ∧ y = .bl j ∧ Q (.bl (!i && j)) H) := by
  intro pins s σ H x y v u Q I rx ry h
  obtain ⟨i, j, rfl, rfl, q⟩ := h
  cases rx
  cases ry
  refine PyProof.Rows.lt_bool ?_
  have e : decide (PyProof.Rows.b2i i < PyProof.Rows.b2i j) = (!i && j) := by cases i <;> cases j <;> decide
  rw [e]
  exact ⟨.bl _, H, I, rfl, q⟩
theorem op_gtB : OpR X (compareOp .Gt) (fun x y H Q => ∃ i j : Bool, x = .bl i ∧ y = .bl j ∧ Q (.bl (i && !j)) H) := by
  intro pins s σ H x y v u Q I rx ry h
  obtain ⟨i, j, rfl, rfl, q⟩ := h
  cases rx
  cases ry
  refine PyProof.Rows.gt_bool ?_
  have e : decide (PyProof.Rows.b2i i > PyProof.Rows.b2i j) = (i && !j) := by cases i <;> cases j <;> decide
  rw [e]
  exact ⟨.bl _, H, I, rfl, q⟩
def rInG (K : PySem.W.Frag) (neg : Bool) : R2 := fun x y H Q => ∃ d ds, Dp K H x d ∧ (Dp K H y (.list ds) ∨ Dp K H y (.tuple ds)) ∧ SeqAt.shaped d = true ∧ SeqAt.shaped (.list ds) = true ∧ Q (.bl (if neg then !(ds.any fun z => PyData.eqv z d) else ds.any fun z => PyData.eqv z d)) H
theorem op_inG (hu : X.A.units + 65 < cLine) : OpR X (compareOp .In) (rInG X.K false) := by
  intro pins s σ H x y v u Q I rx ry h
  obtain ⟨d, ds, hd, he, sd, se, q⟩ := h
  obtain ⟨as, r1⟩ := Dp.reads I d x v hd rx
  rcases he with he | he
  · obtain ⟨bs, r2⟩ := Dp.reads I (.list ds) y u he ry
    exact SeqAt.in_list_reads r2 r1 (SeqAt.canLay_of_shaped se) (SeqAt.canLay_of_shaped sd) (PyProof.Rows.room_in_shaped sd hu) ⟨.bl _, H, I, rfl, q⟩
  · obtain ⟨bs, r2⟩ := Dp.reads I (.tuple ds) y u he ry
    exact SeqAt.in_tuple_reads r2 r1 (SeqAt.canLay_of_shaped se) (SeqAt.canLay_of_shaped sd) (PyProof.Rows.room_in_shaped sd hu) ⟨.bl _, H, I, rfl, q⟩
theorem op_notInG (hu : X.A.units + 65 < cLine) : OpR X (compareOp .NotIn) (rInG X.K true) := by
  intro pins s σ H x y v u Q I rx ry h
  obtain ⟨d, ds, hd, he, sd, se, q⟩ := h
  obtain ⟨as, r1⟩ := Dp.reads I d x v hd rx
  rcases he with he | he
  · obtain ⟨bs, r2⟩ := Dp.reads I (.list ds) y u he ry
    exact SeqAt.notIn_list_reads r2 r1 (SeqAt.canLay_of_shaped se) (SeqAt.canLay_of_shaped sd) (PyProof.Rows.room_in_shaped sd hu) ⟨.bl _, H, I, rfl, q⟩
  · obtain ⟨bs, r2⟩ := Dp.reads I (.tuple ds) y u he ry
    exact SeqAt.notIn_tuple_reads r2 r1 (SeqAt.canLay_of_shaped se) (SeqAt.canLay_of_shaped sd) (PyProof.Rows.room_in_shaped sd hu) ⟨.bl _, H, I, rfl, q⟩
end
section
variable {K : PySem.W.Frag} {mg : Str → Option Value}
theorem R2D.or {r r' : R2} {f g : D → D → Option D} (h : R2D K mg r f) (h' : R2D K mg r' g) {k : D → D → Option D} (hk : ∀ a b d, k a b = some d → f a b = some d ∨ g a b = some d) : R2D K mg (fun x y H Q => r x y H Q ∨ r' x y H Q) k := fun F H x y d1 d2 d Q s r1 r2 e q => by
  rcases hk d1 d2 d e with e | e
  · exact .inl (h F H x y d1 d2 d Q s r1 r2 e q)
  · exact .inr (h' F H x y d1 d2 d Q s r1 r2 e q)
theorem dp_of {F H : Hp} {v : V} {d : D} (s : Same F H) (r : Rp K mg F v d) (h : SeqAt.shaped d = true) : Dp K H v d := (r.mono s).dp (SeqAt.canLay_of_shaped h)
theorem loglog {n : Nat} (h : n.log2 < 13) : n < 9000 := by
  by_cases h0 : n = 0
  · omega
  · have := (Nat.log2_lt h0).mp h
    omega
theorem r_add : R2D K mg (fun x y H Q => rI0 (fun i j => .int (i + j)) x y H Q ∨ (fun x y H Q => (∃ i j, x = .str i ∧ y = .str j ∧ i.length + j.length ≤ sizeLine ∧ Q (.str (i ++ j)) H) ∨ rCatG K x y H Q) x y H Q) opAdd := fun F H x y d1 d2 d Q s r1 r2 e q => by
  cases r1 <;> cases r2 <;> try cases e
  · exact .inl ⟨_, _, rfl, rfl, q _ F H (Stp.refl s) (.int _)⟩
  · simp only [opAdd] at e
    split at e
    · rename_i hl
      cases e
      exact .inr (.inl ⟨_, _, rfl, rfl, small_of hl, q _ F H (Stp.refl s) (.str _)⟩)
    · cases e
  · rename_i h1 a1 _ _ _ h2 a2
    simp only [opAdd] at e
    split at e
    · rename_i hl
      cases e
      refine .inr (.inr ⟨_, _, _, _, rfl, rfl, sqL_mono s h1, sqL_mono s h2, small_of (by rw [a1.length, a2.length]; exact hl), fun p hp => ?_⟩)
      exact q _ _ _ (Stp.new s hp) (.lst (.inl (.inl upd_same)) ((a1.mono (same_new (same_free s hp))).append (a2.mono (same_new (same_free s hp)))))
    · cases e
theorem r_sub : R2D K mg (rI0 fun i j => .int (i - j)) opSub := fun F H x y d1 d2 d Q s r1 r2 e q => by
  cases r1 <;> cases r2 <;> try cases e
  exact ⟨_, _, rfl, rfl, q _ F H (Stp.refl s) (.int _)⟩
theorem r_mul : R2D K mg (rI CMulX fun i j => .int (i * j)) opMul := fun F H x y d1 d2 d Q s r1 r2 e q => by
  cases r1 <;> cases r2 <;> try cases e
  simp only [opMul] at e
  split at e
  · rename_i hl
    cases e
    have := okM_le hl
    exact ⟨_, _, rfl, rfl, by show ((Builtin.Int.intBits _ : Int) + _ ≤ _); omega, q _ F H (Stp.refl s) (.int _)⟩
  · cases e
theorem r_div : R2D K mg rDiv opDiv := fun F H x y d1 d2 d Q s r1 r2 e q => by
  cases r1 <;> cases r2 <;> try cases e
  simp only [opDiv] at e
  split at e
  · rename_i hl
    cases e
    exact ⟨_, _, rfl, rfl, ⟨hl.1, loglog hl.2⟩, q _ F H (Stp.refl s) (.int _)⟩
  · cases e
theorem r_mod : R2D K mg (rI (fun _ j => j ≠ 0) fun i j => .int (i.fmod j)) opMod := fun F H x y d1 d2 d Q s r1 r2 e q => by
  cases r1 <;> cases r2 <;> try cases e
  simp only [opMod] at e
  split at e
  · rename_i hl
    cases e
    exact ⟨_, _, rfl, rfl, hl, q _ F H (Stp.refl s) (.int _)⟩
  · cases e
theorem r_pow : R2D K mg (rI CPow fun i j => .int (i ^ j.toNat)) opPow := fun F H x y d1 d2 d Q s r1 r2 e q => by
  cases r1 <;> cases r2 <;> try cases e
  simp only [opPow] at e
  split at e
  · rename_i hl
    cases e
    exact ⟨_, _, rfl, rfl, hl, q _ F H (Stp.refl s) (.int _)⟩
  · cases e
theorem r_neg : R1D K mg (rU fun i => .int (-i)) opNeg := fun F H x d1 d Q s r1 e q => by
  cases r1 <;> try cases e
  exact ⟨_, rfl, q _ F H (Stp.refl s) (.int _)⟩
theorem scal_eq {F : Hp} {x y : V} {a b : D} (r1 : Rp K mg F x a) (r2 : Rp K mg F y b) (h : scalD a b = true) : scal x y = true ∧ decide (x = y) = PyData.eqv a b := by
  cases r1 <;> cases r2 <;> (try simp [scalD, fnD] at h) <;> refine ⟨rfl, ?_⟩
  all_goals first
    | rfl
    | (simp [PyData.eqv]; done)
    | (simp only [PyData.eqv]; rw [Bool.eq_iff_iff]; simp)
theorem r_eq : R2D K mg (fun x y H Q => rEq x y H Q ∨ rEqD K x y H Q) cEq := fun F H x y d1 d2 d Q s r1 r2 e q => by
  obtain ⟨k, h1, e⟩ := bind_some e
  cases e
  unfold eqD at h1
  split at h1
  · rename_i hs
    cases h1
    obtain ⟨z1, z2⟩ := scal_eq r1 r2 hs
    exact .inl ⟨z1, by rw [z2]; exact q _ F H (Stp.refl s) (.bl _)⟩
  · split at h1
    · rename_i hs
      cases h1
      exact .inr ⟨d1, d2, dp_of s r1 hs.1, dp_of s r2 hs.2, hs.1, hs.2, q _ F H (Stp.refl s) (.bl _)⟩
    · cases h1
theorem r_ne : R2D K mg (fun x y H Q => rNe x y H Q ∨ rNeD K x y H Q) cNe := fun F H x y d1 d2 d Q s r1 r2 e q => by
  obtain ⟨k, h1, e⟩ := bind_some e
  cases e
  unfold eqD at h1
  split at h1
  · rename_i hs
    cases h1
    obtain ⟨z1, z2⟩ := scal_eq r1 r2 hs
    exact .inl ⟨z1, by rw [z2]; exact q _ F H (Stp.refl s) (.bl _)⟩
  · split at h1
    · rename_i hs
      cases h1
      exact .inr ⟨d1, d2, dp_of s r1 hs.1, dp_of s r2 hs.2, hs.1, hs.2, q _ F H (Stp.refl s) (.bl _)⟩
    · cases h1
theorem r_lt : R2D K mg (fun x y H Q => rI0 (fun i j => .bl (decide (i < j))) x y H Q ∨ (fun x y H Q => (∃ i j, x = .str i ∧ y = .str j ∧ Q (.bl (decide (i.cps.toList < j.cps.toList))) H) ∨ (∃ i j : Bool, x = .bl i ∧ y = .bl j ∧ Q (.bl (!i && j)) H)) x y H Q) cLt := fun F H x y d1 d2 d Q s r1 r2 e q => by
  cases r1 <;> cases r2 <;> try cases e
  · exact .inr (.inr ⟨_, _, rfl, rfl, q _ F H (Stp.refl s) (.bl _)⟩)
  · exact .inl ⟨_, _, rfl, rfl, q _ F H (Stp.refl s) (.bl _)⟩
  · exact .inr (.inl ⟨_, _, rfl, rfl, q _ F H (Stp.refl s) (.bl _)⟩)
theorem r_gt : R2D K mg (fun x y H Q => rI0 (fun i j => .bl (decide (j < i))) x y H Q ∨ (fun x y H Q => (∃ i j, x = .str i ∧ y = .str j ∧ Q (.bl (decide (j.cps.toList < i.cps.toList))) H) ∨ (∃ i j : Bool, x = .bl i ∧ y = .bl j ∧ Q (.bl (i && !j)) H)) x y H Q) cGt := fun F H x y d1 d2 d Q s r1 r2 e q => by
  cases r1 <;> cases r2 <;> try cases e
  · exact .inr (.inr ⟨_, _, rfl, rfl, q _ F H (Stp.refl s) (.bl _)⟩)
  · exact .inl ⟨_, _, rfl, rfl, q _ F H (Stp.refl s) (.bl _)⟩
  · exact .inr (.inl ⟨_, _, rfl, rfl, q _ F H (Stp.refl s) (.bl _)⟩)
theorem r_le : R2D K mg (fun x y H Q => rI0 (fun i j => .bl (decide (i ≤ j))) x y H Q ∨ (∃ i j, x = .str i ∧ y = .str j ∧ Q (.bl (!decide (j.cps.toList < i.cps.toList))) H)) cLe := fun F H x y d1 d2 d Q s r1 r2 e q => by
  cases r1 <;> cases r2 <;> try cases e
  · exact .inl ⟨_, _, rfl, rfl, q _ F H (Stp.refl s) (.bl _)⟩
  · exact .inr ⟨_, _, rfl, rfl, q _ F H (Stp.refl s) (.bl _)⟩
theorem r_ge : R2D K mg (fun x y H Q => rI0 (fun i j => .bl (decide (j ≤ i))) x y H Q ∨ (∃ i j, x = .str i ∧ y = .str j ∧ Q (.bl (!decide (i.cps.toList < j.cps.toList))) H)) cGe := fun F H x y d1 d2 d Q s r1 r2 e q => by
  cases r1 <;> cases r2 <;> try cases e
  · exact .inl ⟨_, _, rfl, rfl, q _ F H (Stp.refl s) (.bl _)⟩
  · exact .inr ⟨_, _, rfl, rfl, q _ F H (Stp.refl s) (.bl _)⟩
theorem isNon_iff {F : Hp} {x : V} {d : D} (r : Rp K mg F x d) : decide (x = .non) = isNon d := by
  cases r <;> first | rfl | simp [isNon, fnD]
theorem r_isN : R2D K mg (fun x y H Q => y = .non ∧ Q (.bl (decide (x = .non))) H) cIsN := fun F H x y d1 d2 d Q s r1 r2 e q => by
  unfold cIsN at e
  split at e
  · rename_i h
    cases e
    have h2 := isNon_iff r2
    rw [h] at h2
    exact ⟨of_decide_eq_true h2, by rw [isNon_iff r1]; exact q _ F H (Stp.refl s) (.bl _)⟩
  · cases e
theorem r_notN : R2D K mg (fun x y H Q => y = .non ∧ Q (.bl (!decide (x = .non))) H) cNotN := fun F H x y d1 d2 d Q s r1 r2 e q => by
  unfold cNotN at e
  split at e
  · rename_i h
    cases e
    have h2 := isNon_iff r2
    rw [h] at h2
    exact ⟨of_decide_eq_true h2, by rw [isNon_iff r1]; exact q _ F H (Stp.refl s) (.bl _)⟩
  · cases e
end
end Dm


namespace Dm
open PySem PySem.Spec L2
section
variable {K : PySem.W.Frag} {mg : Str → Option Value}
theorem flat_v {F : Hp} {v : V} {d : D} (r : Rp K mg F v d) (h : flatD d = true) : flatV v = true := by
  cases r <;> first | rfl | (simp [flatD, fnD] at h)
theorem flat_vs {F : Hp} : ∀ {vs : List V} {ds : List D}, RpA K mg F vs ds → ds.all flatD = true → vs.all flatV = true
  | _, _, .nil, _ => rfl
  | _, _, .cons h t, e => by
    simp only [List.all_cons, Bool.and_eq_true] at e ⊢
    exact ⟨flat_v h e.1, flat_vs t e.2⟩
theorem eqv_v {F : Hp} {v w : V} {d e : D} (r : Rp K mg F v d) (q : Rp K mg F w e) (h : flatD d = true) (h' : flatD e = true) : eqV v w = PyData.eqv d e := by
  cases r <;> cases q <;> first | rfl | (simp [flatD, fnD] at h h'; done) | (simp only [eqV, PyData.eqv])
theorem inV_d {F : Hp} {v : V} {d : D} (r : Rp K mg F v d) (h : flatD d = true) : ∀ {vs : List V} {ds : List D}, RpA K mg F vs ds → ds.all flatD = true → inV v vs = inDs d ds
  | _, _, .nil, _ => rfl
  | _, _, .cons q t, e => by
    simp only [List.all_cons, Bool.and_eq_true] at e
    have := inV_d r h t e.2
    unfold inV inDs at this ⊢
    rw [List.any_cons, List.any_cons, this, eqv_v q r e.1 h]
def rInA (K : PySem.W.Frag) (neg : Bool) : R2 := fun x y H Q => (∃ (c : Nat) (z : Str), x = .str ⟨#[c]⟩ ∧ y = .str z ∧ Q (.bl (if neg then !decide (c ∈ z.cps.toList) else decide (c ∈ z.cps.toList))) H) ∨ (rIn K neg x y H Q ∨ rInG K neg x y H Q)
theorem op_inA {X : Cx} (hu : X.A.units + 65 < cLine) : OpR X (compareOp .In) (rInA X.K false) := by
  intro pins s σ H x y v u Q I rx ry h
  rcases h with h | h | h
  · exact op_in_sign pins s σ H x y v u Q I rx ry h
  · exact op_in_seq pins s σ H x y v u Q I rx ry h
  · exact op_inG hu pins s σ H x y v u Q I rx ry h
theorem op_notInA {X : Cx} (hu : X.A.units + 65 < cLine) : OpR X (compareOp .NotIn) (rInA X.K true) := by
  intro pins s σ H x y v u Q I rx ry h
  rcases h with h | h | h
  · exact op_notIn_sign pins s σ H x y v u Q I rx ry h
  · exact op_notIn_seq pins s σ H x y v u Q I rx ry h
  · exact op_notInG hu pins s σ H x y v u Q I rx ry h
theorem oneCp_some {x : D} {c : Nat} (h : oneCp x = some c) : x = .str ⟨#[c]⟩ := by
  unfold oneCp at h
  split at h
  · rename_i z
    split at h
    · rename_i e
      cases h
      obtain ⟨⟨l⟩⟩ := z
      simp at e
      subst e
      rfl
    · cases h
  · cases h
theorem inG_some {x : D} {ds : List D} {d : D} (h : inG x ds = some d) : d = .bool (inDs x ds) ∧ ((flatD x = true ∧ ds.all flatD = true) ∨ (SeqAt.shaped x = true ∧ SeqAt.shaped (.list ds) = true)) := by
  unfold inG at h
  split at h
  · cases h
    exact ⟨rfl, .inl ‹_›⟩
  · split at h
    · cases h
      exact ⟨rfl, .inr ‹_›⟩
    · cases h
theorem rInA_of {neg : Bool} {F H : Hp} {x y : V} {d1 d2 d : D} {Q : VK} (s : Same F H) (r1 : Rp K mg F x d1) (r2 : Rp K mg F y d2) (e : cIn d1 d2 = some d) (q : ∀ b, d = .bool b → Q (.bl (if neg then !b else b)) H) : rInA K neg x y H Q := by
  cases r2 with
  | lst h a =>
    obtain ⟨e1, e2⟩ := inG_some e
    rcases e2 with e2 | e2
    · refine .inr (.inl ⟨_, _, rfl, .inl (sqL_mono s h), flat_v r1 e2.1, flat_vs a e2.2, ?_⟩)
      rw [inV_d r1 e2.1 a e2.2]
      exact q _ e1
    · exact .inr (.inr ⟨_, _, dp_of s r1 e2.1, .inl (dp_of s (.lst h a) e2.2), e2.1, e2.2, q _ e1⟩)
  | @tup b ys es h a =>
    obtain ⟨e1, e2⟩ := inG_some e
    rcases e2 with e2 | e2
    · refine .inr (.inl ⟨_, _, rfl, .inr (sqT_mono s h), flat_v r1 e2.1, flat_vs a e2.2, ?_⟩)
      rw [inV_d r1 e2.1 a e2.2]
      exact q _ e1
    · have e3 : SeqAt.shaped (.tuple es) = true := by
        have := e2.2
        simp only [SeqAt.shaped, PyData.canLay0, PyData.depth] at this ⊢
        exact this
      exact .inr (.inr ⟨_, _, dp_of s r1 e2.1, .inr (dp_of s (.tup h a) e3), e2.1, e2.2, q _ e1⟩)
  | str z =>
    obtain ⟨c, h1, e⟩ := bind_some e
    have h2 := oneCp_some h1
    subst h2
    cases e
    cases r1
    exact .inl ⟨c, z, rfl, rfl, q _ rfl⟩
  | non => cases e
  | bl => cases e
  | int => cases e
  | fn => cases e
  | emp => cases e
  | dct => cases e
  | ins => cases e
theorem r_in : R2D K mg (rInA K false) cIn := fun F H x y d1 d2 d Q s r1 r2 e q => rInA_of s r1 r2 e fun b h => by
  subst h
  exact q _ F H (Stp.refl s) (.bl _)
theorem r_notIn : R2D K mg (rInA K true) cNotIn := fun F H x y d1 d2 d Q s r1 r2 e q => by
  obtain ⟨d', h1, e⟩ := bind_some e
  refine rInA_of s r1 r2 h1 fun b h => ?_
  subst h
  cases e
  exact q _ F H (Stp.refl s) (.bl _)
theorem r_ix : R2D K mg (rIx K) ixD := fun F H x y d1 d2 d Q s r1 r2 e q => by
  cases r2 with
  | int i =>
    cases r1 with
    | lst h a =>
      obtain ⟨v, h1, h2⟩ := a.at (show atI _ i = some d from e)
      exact .inl ⟨_, _, i, v, rfl, rfl, sqL_mono s h, h1, q v F H (Stp.refl s) h2⟩
    | tup h a =>
      obtain ⟨v, h1, h2⟩ := a.at (show atI _ i = some d from e)
      exact .inr (.inl ⟨_, _, i, v, rfl, rfl, sqT_mono s h, h1, q v F H (Stp.refl s) h2⟩)
    | str z =>
      simp only [ixD] at e
      split at e
      · rename_i hl
        obtain ⟨c, h1, e⟩ := bind_some e
        cases e
        exact .inr (.inr ⟨z, i, c, rfl, rfl, small_of hl, h1, q _ F H (Stp.refl s) (.str _)⟩)
      · cases e
    | _ => simp [ixD, fnD] at e
  | _ => cases r1 <;> simp [ixD, fnD] at e
def fLen : List D → Option D
  | [.list ds] => some (.int ds.length)
  | [.tuple ds] => some (.int ds.length)
  | [.str z] => if okN (z.length) = true then some (.int z.length) else none
  | _ => none
def fAbs : List D → Option D
  | [.int i] => some (.int (if i < 0 then -i else i))
  | _ => none
def intTxt (a : Str) : Option D := (PySem.intText? a).bind fun n => if a.length.log2 < 9 then some (.int n) else none
def fInt : List D → Option D
  | [.int i] => some (.int i)
  | [.bool k] => some (.int (if k then 1 else 0))
  | [.str a] => intTxt a
  | _ => none
def fMax2 : List D → Option D
  | [.int i, .int j] => some (.int (if j > i then j else i))
  | _ => none
def fMin2 : List D → Option D
  | [.int i, .int j] => some (.int (if j < i then j else i))
  | _ => none
def intsOf : List D → Option (List Int)
  | [] => some []
  | .int i :: ds => (intsOf ds).bind fun ns => some (i :: ns)
  | _ => none
theorem intsOf_map : ∀ {ds : List D} {ns : List Int}, intsOf ds = some ns → ds = ns.map PyData.int
  | [], ns, h => by
    cases h
    rfl
  | d :: ds, ns, h => by
    cases d with
    | int i =>
      obtain ⟨ms, h1, h2⟩ := bind_some (show (intsOf ds).bind _ = some ns from h)
      cases h2
      rw [intsOf_map h1]
      rfl
    | _ => simp [intsOf] at h
def boolsOf : List D → Option (List Bool)
  | [] => some []
  | .bool i :: ds => (boolsOf ds).bind fun ns => some (i :: ns)
  | _ => none
theorem boolsOf_map : ∀ {ds : List D} {ns : List Bool}, boolsOf ds = some ns → ds = ns.map PyData.bool
  | [], ns, h => by
    cases h
    rfl
  | d :: ds, ns, h => by
    cases d with
    | bool i =>
      obtain ⟨ms, h1, h2⟩ := bind_some (show (boolsOf ds).bind _ = some ns from h)
      cases h2
      rw [boolsOf_map h1]
      rfl
    | _ => simp [boolsOf] at h
def strsOf : List D → Option (List Str)
  | [] => some []
  | .str i :: ds => (strsOf ds).bind fun ns => some (i :: ns)
  | _ => none
theorem strsOf_map : ∀ {ds : List D} {ns : List Str}, strsOf ds = some ns → ds = ns.map PyData.str
  | [], ns, h => by
    cases h
    rfl
  | d :: ds, ns, h => by
    cases d with
    | str i =>
      obtain ⟨ms, h1, h2⟩ := bind_some (show (strsOf ds).bind _ = some ns from h)
      cases h2
      rw [strsOf_map h1]
      rfl
    | _ => simp [strsOf] at h
def minL : List Int → Int
  | [] => 0
  | [a] => a
  | a :: r => min a (minL r)
theorem minL_mem : ∀ {ns : List Int}, ns ≠ [] → minL ns ∈ ns ∧ ∀ y ∈ ns, minL ns ≤ y
  | [], h => absurd rfl h
  | [a], _ => by simp [minL]
  | a :: b :: r, _ => by
    obtain ⟨h1, h2⟩ := minL_mem (ns := b :: r) (by simp)
    show min a (minL (b :: r)) ∈ a :: b :: r ∧ ∀ y ∈ a :: b :: r, min a (minL (b :: r)) ≤ y
    refine ⟨?_, fun y hy => ?_⟩
    · by_cases h : a ≤ minL (b :: r)
      · rw [Int.min_eq_left h]
        exact List.mem_cons_self
      · rw [Int.min_eq_right (by omega)]
        exact List.mem_cons_of_mem _ h1
    · rcases List.mem_cons.mp hy with e | hy
      · subst e
        omega
      · have := h2 y hy
        omega
def fMinL : List D → Option D
  | [.list ds] => (intsOf ds).bind fun ns => if ns = [] then none else some (.int (minL ns))
  | _ => none
def fAll : List D → Option D
  | [.list ds] => (boolsOf ds).bind fun ns => some (.bool (ns.all id))
  | _ => none
def fTuple : List D → Option D
  | [.list ds] => some (.tuple ds)
  | [.tuple ds] => some (.tuple ds)
  | _ => none
def fList : List D → Option D
  | [.list ds] => some (.list ds)
  | [.tuple ds] => some (.list ds)
  | _ => none
theorem log9 {n : Nat} (h : n.log2 < 9) : n ≤ 640 := by
  by_cases h0 : n = 0
  · omega
  · have := (Nat.log2_lt h0).mp h
    omega
theorem rc_len : RCD K mg (fun xs H Q => ∃ x n, xs = [x] ∧ LenV K x H n ∧ Q (.int n) H) fLen := fun F H xs ds d Q s r e q => by
  match ds, r, e with
  | [.list es], .cons (.lst h a) .nil, e =>
    cases e
    exact ⟨_, _, rfl, .inl ⟨_, sqL_mono s h, rfl⟩, by rw [a.length]; exact q _ F H (Stp.refl s) (.int _)⟩
  | [.tuple es], .cons (.tup h a) .nil, e =>
    cases e
    exact ⟨_, _, rfl, .inr ⟨_, sqT_mono s h, rfl⟩, by rw [a.length]; exact q _ F H (Stp.refl s) (.int _)⟩
  | [.str z], .cons (.str _) .nil, e =>
    simp only [fLen] at e
    split at e
    · rename_i hl
      cases e
      exact ⟨_, _, rfl, ⟨small_of hl, rfl⟩, q _ F H (Stp.refl s) (.int _)⟩
    · cases e
theorem rc_abs : RCD K mg (fun xs H Q => ∃ i, xs = [.int i] ∧ Q (.int (if i < 0 then -i else i)) H) fAbs := fun F H xs ds d Q s r e q => by
  match ds, r, e with
  | [.int i], .cons (.int _) .nil, e =>
    cases e
    exact ⟨_, rfl, q _ F H (Stp.refl s) (.int _)⟩
theorem rc_int : RCD K mg (fun xs H Q => ((∃ i, xs = [.int i] ∧ Q (.int i) H) ∨ ∃ k, xs = [.bl k] ∧ Q (.int (if k then 1 else 0)) H) ∨ ∃ a n, xs = [.str a] ∧ PySem.intText? a = some n ∧ a.length ≤ 640 ∧ Q (.int n) H) fInt := fun F H xs ds d Q s r e q => by
  match ds, r, e with
  | [.int i], .cons (.int _) .nil, e =>
    cases e
    exact .inl (.inl ⟨_, rfl, q _ F H (Stp.refl s) (.int _)⟩)
  | [.bool i], .cons (.bl _) .nil, e =>
    cases e
    exact .inl (.inr ⟨_, rfl, q _ F H (Stp.refl s) (.int _)⟩)
  | [.str a], .cons (.str _) .nil, e =>
    obtain ⟨n, h1, e⟩ := bind_some (show (PySem.intText? a).bind _ = some d from e)
    split at e
    · cases e
      exact .inr ⟨a, n, rfl, h1, log9 ‹a.length.log2 < 9›, q _ F H (Stp.refl s) (.int _)⟩
    · cases e
theorem rc_minL : RCD K mg (rMin K) fMinL := fun F H xs ds d Q s r e q => by
  match ds, r, e with
  | [.list es], .cons (.lst h a) .nil, e =>
    obtain ⟨ns, h1, e⟩ := bind_some (show (intsOf es).bind _ = some d from e)
    split at e
    · cases e
    · rename_i hn
      cases e
      have e1 := intsOf_map h1
      subst e1
      have e2 := a.ints
      subst e2
      obtain ⟨z1, z2⟩ := minL_mem hn
      have hp : 0 < ns.length := List.length_pos_iff.mpr hn
      refine ⟨_, ns, rfl, sqL_mono s h, hp, fun m hm hle => ?_⟩
      have : m = minL ns := by
        have h3 := z2 m hm
        have h4 := hle _ z1
        omega
      rw [this]
      exact q _ F H (Stp.refl s) (.int _)
theorem rc_all : RCD K mg (rAll K) fAll := fun F H xs ds d Q s r e q => by
  match ds, r, e with
  | [.list es], .cons (.lst h a) .nil, e =>
    obtain ⟨ns, h1, e⟩ := bind_some (show (boolsOf es).bind _ = some d from e)
    cases e
    have e1 := boolsOf_map h1
    subst e1
    have e2 := a.bools
    subst e2
    exact ⟨_, ns, rfl, sqL_mono s h, q _ F H (Stp.refl s) (.bl _)⟩
theorem rc_list : RCD K mg (fun xs H Q => ∃ p ys, xs = [.ref p] ∧ (SqL K H p ys ∨ SqT K H p ys) ∧ ∀ l, H l = none → Q (.ref l) (upd H l (.lst ys))) fList := fun F H xs ds d Q s r e q => by
  match ds, r, e with
  | [.list es], .cons (.lst h a) .nil, e =>
    cases e
    refine ⟨_, _, rfl, .inl (sqL_mono s h), fun p hp => ?_⟩
    exact q _ _ _ (Stp.new s hp) (.lst (.inl (.inl upd_same)) (a.mono (same_new (same_free s hp))))
  | [.tuple es], .cons (.tup h a) .nil, e =>
    cases e
    refine ⟨_, _, rfl, .inr (sqT_mono s h), fun p hp => ?_⟩
    exact q _ _ _ (Stp.new s hp) (.lst (.inl (.inl upd_same)) (a.mono (same_new (same_free s hp))))
def tyD : D → Option String
  | .none => some "NoneType"
  | .bool _ => some "bool"
  | .int _ => some "int"
  | .str _ => some "str"
  | .list _ => some "list"
  | .tuple _ => some "tuple"
  | .dict [] => some "dict"
  | _ => none
@[simp] def isTy (t T : String) : Bool := t == T || (t == "bool" && T == "int")
def isD (T : String) (d : D) : Option D := (tyD d).bind fun t => some (.bool (isTy t T))
theorem tyX_of {F H : Hp} {v : V} {d : D} {t : String} (s : Same F H) (r : Rp K mg F v d) (h : tyD d = some t) : TyX K H v (.type t) := by
  cases r with
  | non => cases h; exact .base .non
  | bl => cases h; exact .base (.bl _)
  | int => cases h; exact .base (.int _)
  | str => cases h; exact .base (.str _)
  | lst hs a =>
    cases h
    rcases sqL_mono s hs with (h | ⟨o, h⟩) | ⟨o, its, n, h1, h2, _⟩
    · exact .base (.lst h)
    · exact .base (.frz h)
    · exact .kList h1 h2
  | tup hs a =>
    cases h
    rcases sqT_mono s hs with (h | ⟨o, h⟩) | ⟨o, its, n, h1, h2, _⟩
    · exact .base (.tup h)
    · exact .fTuple h
    · exact .kTuple h1 h2
  | fn => simp [tyD, fnD] at h
  | emp hh => cases h; exact .base (.dK (s _ _ hh))
  | dct => simp [tyD] at h
  | ins => simp [tyD] at h
def isTs : List String := ["NoneType", "bool", "int", "str", "list", "tuple", "dict"]
theorem isK_NoneType_int : kitB "NoneType" "int" = some false := by decide +kernel
theorem isK_bool_int : kitB "bool" "int" = some true := by decide +kernel
theorem isK_int_int : kitB "int" "int" = some true := by decide +kernel
theorem isK_str_int : kitB "str" "int" = some false := by decide +kernel
theorem isK_list_int : kitB "list" "int" = some false := by decide +kernel
theorem isK_tuple_int : kitB "tuple" "int" = some false := by decide +kernel
theorem isK_dict_int : kitB "dict" "int" = some false := by decide +kernel
theorem isK_NoneType_bool : kitB "NoneType" "bool" = some false := by decide +kernel
theorem isK_bool_bool : kitB "bool" "bool" = some true := by decide +kernel
theorem isK_int_bool : kitB "int" "bool" = some false := by decide +kernel
theorem isK_str_bool : kitB "str" "bool" = some false := by decide +kernel
theorem isK_list_bool : kitB "list" "bool" = some false := by decide +kernel
theorem isK_tuple_bool : kitB "tuple" "bool" = some false := by decide +kernel
theorem isK_dict_bool : kitB "dict" "bool" = some false := by decide +kernel
theorem isK_NoneType_str : kitB "NoneType" "str" = some false := by decide +kernel
theorem isK_bool_str : kitB "bool" "str" = some false := by decide +kernel
theorem isK_int_str : kitB "int" "str" = some false := by decide +kernel
theorem isK_str_str : kitB "str" "str" = some true := by decide +kernel
theorem isK_list_str : kitB "list" "str" = some false := by decide +kernel
theorem isK_tuple_str : kitB "tuple" "str" = some false := by decide +kernel
theorem isK_dict_str : kitB "dict" "str" = some false := by decide +kernel
theorem isK_NoneType_list : kitB "NoneType" "list" = some false := by decide +kernel
theorem isK_bool_list : kitB "bool" "list" = some false := by decide +kernel
theorem isK_int_list : kitB "int" "list" = some false := by decide +kernel
theorem isK_str_list : kitB "str" "list" = some false := by decide +kernel
theorem isK_list_list : kitB "list" "list" = some true := by decide +kernel
theorem isK_tuple_list : kitB "tuple" "list" = some false := by decide +kernel
theorem isK_dict_list : kitB "dict" "list" = some false := by decide +kernel
theorem isK_NoneType_tuple : kitB "NoneType" "tuple" = some false := by decide +kernel
theorem isK_bool_tuple : kitB "bool" "tuple" = some false := by decide +kernel
theorem isK_int_tuple : kitB "int" "tuple" = some false := by decide +kernel
theorem isK_str_tuple : kitB "str" "tuple" = some false := by decide +kernel
theorem isK_list_tuple : kitB "list" "tuple" = some false := by decide +kernel
theorem isK_tuple_tuple : kitB "tuple" "tuple" = some true := by decide +kernel
theorem isK_dict_tuple : kitB "dict" "tuple" = some false := by decide +kernel
theorem isK : ∀ t ∈ isTs, ∀ T ∈ ["int", "bool", "str", "list", "tuple"], kitB t T = some (isTy t T) := by
  intro t ht T hT
  simp only [isTs, List.mem_cons, List.not_mem_nil, or_false] at ht hT
  rcases hT with rfl | rfl | rfl | rfl | rfl <;> rcases ht with rfl | rfl | rfl | rfl | rfl | rfl | rfl
  · exact isK_NoneType_int
  · exact isK_bool_int
  · exact isK_int_int
  · exact isK_str_int
  · exact isK_list_int
  · exact isK_tuple_int
  · exact isK_dict_int
  · exact isK_NoneType_bool
  · exact isK_bool_bool
  · exact isK_int_bool
  · exact isK_str_bool
  · exact isK_list_bool
  · exact isK_tuple_bool
  · exact isK_dict_bool
  · exact isK_NoneType_str
  · exact isK_bool_str
  · exact isK_int_str
  · exact isK_str_str
  · exact isK_list_str
  · exact isK_tuple_str
  · exact isK_dict_str
  · exact isK_NoneType_list
  · exact isK_bool_list
  · exact isK_int_list
  · exact isK_str_list
  · exact isK_list_list
  · exact isK_tuple_list
  · exact isK_dict_list
  · exact isK_NoneType_tuple
  · exact isK_bool_tuple
  · exact isK_int_tuple
  · exact isK_str_tuple
  · exact isK_list_tuple
  · exact isK_tuple_tuple
  · exact isK_dict_tuple
theorem tyD_mem {d : D} {t : String} (h : tyD d = some t) : t ∈ isTs := by
  unfold tyD at h
  split at h <;> cases h <;> decide
end
section
variable {X : Cx} {pos : Pos} {a : Expr} {m : Ev → Option D}
theorem d_isi (T : String) {x : Str} {p p1 : Pos} (ha : DE X a m) (hm : X.mg "isinstance" = none) (hm1 : X.mg x = none) (hT : T ∈ ["int", "bool", "str", "list", "tuple"] := by decide) (hv1 : bootBuiltins x = some (.type T) := by decide +kernel) (hg : Gl X "isinstance" := by rfl) (hg1 : Gl X x := by rfl) (hn1 : x ≠ "__name__" := by decide) (hd1 : (x == ("__debug__" : Str)) = false := by decide)
    (he : starEach [a, .Name x p1] X.env = (false, eval a X.env) :: starEach [.Name x p1] X.env := by rfl) (he1 : starEach [Expr.Name x p1] X.env = (false, eval (.Name x p1) X.env) :: starEach [] X.env := by rfl) (hpl : (backTo pos (starEach [Expr.Name x p1] X.env)).any (·.1) = false := by rfl) :
    DE X (.Call (.Name "isinstance" p) [a, .Name x p1] [] pos) (e1 (isD T) m) :=
  PE.weak (pe_callB call_isi hg hm (by decide +kernel) (pa_cons ha (pa_cons (pe_bltn (v := .ty T) hg1 hm1 hv1 rfl hn1 hd1) pa_nil he1) he) (by decide) (by decide) he hpl) fun σ H Q ⟨F0, H0, F, ρ, d, k, e, q⟩ => by
  obtain ⟨d1, h1, e⟩ := bind_some e
  obtain ⟨t, h2, e⟩ := bind_some e
  cases e
  exact ⟨F0, H0, F, ρ, d1, k, h1, fun v F1 H1 t1 r1 => ⟨v, .ty T, .type t, .type T, isTy t T, rfl, .ty T, tyX_of t1.s r1 h2, kit_ty (isK t (tyD_mem h2) T hT), q _ F1 H1 t1 (.bl _)⟩⟩
end
end Dm


namespace Dm
open PySem PySem.Spec L2
inductive Out where | nx (ρ : Ev) | rt (d : D) | bk (ρ : Ev) | ct (ρ : Ev)
section
variable (K : PySem.W.Frag) (mg : Str → Option Value)
def Post (D : Ends) (F0 : Fz) (H0 Fe : Hp) : Out → Prop
  | .nx ρ => ∀ σ F H, Ok K mg F0 H0 F H σ ρ → Same Fe F → D.nx σ H
  | .rt d => ∀ v F H, Stp F0.1 H0 F H → Rp K mg F v d → D.rt v H
  | .bk ρ => ∀ σ F H, Ok K mg F0 H0 F H σ ρ → Same Fe F → D.bk σ H
  | .ct ρ => ∀ σ F H, Ok K mg F0 H0 F H σ ρ → Same Fe F → D.ct σ H
theorem Post.mono {K : PySem.W.Frag} {mg : Str → Option Value} {D : Ends} {F0 : Fz} {H0 Fe Fe' : Hp} (s : Same Fe Fe') : ∀ {o : Out}, Post K mg D F0 H0 Fe o → Post K mg D F0 H0 Fe' o
  | .nx _, h => fun σ F H k s' => h σ F H k (s.trans s')
  | .rt _, h => h
  | .bk _, h => fun σ F H k s' => h σ F H k (s.trans s')
  | .ct _, h => fun σ F H k s' => h σ F H k (s.trans s')
def tS (m : Ev → Option Out) : TS := fun D σ H => ∃ F0 H0 F ρ o, Ok K mg F0 H0 F H σ ρ ∧ m ρ = some o ∧ Post K mg D F0 H0 F o
def tG (g : D → Ev → Option Ev) : TG := fun v σ H Q => ∃ F0 H0 F ρ d ρ', Ok K mg F0 H0 F H σ ρ ∧ Rp K mg F v d ∧ g d ρ = some ρ' ∧ ∀ σ' F' H', Ok K mg F0 H0 F' H' σ' ρ' → Same F F' → Q σ' H'
def tGs (g : List D → Ev → Option Ev) : TGs := fun vs σ H Q => ∃ F0 H0 F ρ ds ρ', Ok K mg F0 H0 F H σ ρ ∧ RpA K mg F vs ds ∧ g ds ρ = some ρ' ∧ ∀ σ' F' H', Ok K mg F0 H0 F' H' σ' ρ' → Same F F' → Q σ' H'
/-- an iterator walks these data -/
structure Walks (J : It) (F : Hp) (ds : List D) : Prop where
  go : ∀ i H, Same F H → i < ds.length → J.go i H
  stop : ∀ i H, Same F H → ds.length ≤ i → J.stop i H
  yld : ∀ (i : Nat) (H : Hp) (x : V) (H' F1 : Hp) (d : D), Same F F1 → Same F1 H → ds[i]? = some d → J.yld i H x H' → ∃ F2, Stp F1 H F2 H' ∧ Rp K mg F2 x d
def tI (m : Ev → Option (List D)) : TI := fun σ H R => ∃ F0 H0 F ρ ds, Ok K mg F0 H0 F H σ ρ ∧ m ρ = some ds ∧ ∀ J F' H', Stp F H F' H' → Walks K mg J F' ds → R J H'
end
abbrev DS (X : Cx) (s : Stmt) (m : Ev → Option Out) : Prop := PS X s (tS X.K X.mg m)
abbrev DSs (X : Cx) (s : List Stmt) (m : Ev → Option Out) : Prop := PSs X s (tS X.K X.mg m)
abbrev DG (X : Cx) (e : Expr) (g : D → Ev → Option Ev) : Prop := PG X e (tG X.K X.mg g)
abbrev DGs (X : Cx) (es : List Expr) (g : List D → Ev → Option Ev) : Prop := PGs X es (tGs X.K X.mg g)
abbrev DI (X : Cx) (tg it : Expr) (m : Ev → Option (List D)) : Prop := PI X tg it (tI X.K X.mg m)
theorem PS.weak {X : Cx} {s : Stmt} {t t' : TS} (h : PS X s t) (w : ∀ D σ H, t' D σ H → t D σ H) : PS X s t' := ⟨fun pins s σ H D I q => h.run pins s σ H D I (w D σ H q)⟩
theorem PSs.weak {X : Cx} {s : List Stmt} {t t' : TS} (h : PSs X s t) (w : ∀ D σ H, t' D σ H → t D σ H) : PSs X s t' := ⟨fun pins s σ H D I q => h.run pins s σ H D I (w D σ H q)⟩
theorem PG.weak {X : Cx} {e : Expr} {t t' : TG} (h : PG X e t) (w : ∀ v σ H Q, t' v σ H Q → t v σ H Q) : PG X e t' := ⟨fun pins s σ H v u Q I r q => h.run pins s σ H v u Q I r (w v σ H Q q)⟩
theorem PGs.weak {X : Cx} {e : List Expr} {t t' : TGs} (h : PGs X e t) (w : ∀ v σ H Q, t' v σ H Q → t v σ H Q) : PGs X e t' := ⟨fun pins s σ H v u Q I r q => h.run pins s σ H v u Q I r (w v σ H Q q)⟩
theorem PI.weak {X : Cx} {g e : Expr} {t t' : TI} (h : PI X g e t) (w : ∀ σ H R, t' σ H R → t σ H R) : PI X g e t' := ⟨fun pins s σ H R I q => h.run pins s σ H R I (w σ H R q)⟩
def sNop  : Ev → Option Out := fun ρ => some (.nx ρ)
def sSeq (a b : Ev → Option Out) : Ev → Option Out := fun ρ => (a ρ).bind fun o => match o with
  | .nx ρ' => b ρ'
  | o => some o
def sSet (i : Nat) (m : Ev → Option D) : Ev → Option Out := fun ρ => (m ρ).bind fun d => some (.nx (ρ.set i (some (.dat d))))
def sOwn (i : Nat) (m : Ev → Option (List D)) : Ev → Option Out := fun ρ => (m ρ).bind fun ds => some (.nx (ρ.set i (some (.own ds))))
def sRet (m : Ev → Option D) : Ev → Option Out := fun ρ => (m ρ).bind fun d => some (.rt d)
def sRetN  : Ev → Option Out := fun _ => some (.rt .none)
def sBreak  : Ev → Option Out := fun ρ => some (.bk ρ)
def sCont  : Ev → Option Out := fun ρ => some (.ct ρ)
def sIf (t : Ev → Option Bool) (a b : Ev → Option Out) : Ev → Option Out := fun ρ => (t ρ).bind fun k => if k = true then a ρ else b ρ
def sIce (is : List Nat) (m : Ev → Option Out) : Ev → Option Out := fun ρ => m (ices is ρ)
@[simp] def ownAt (i : Nat) (ρ : Ev) : Option (List D) := match ρ[i]? with
  | some (some (.own ds)) => some ds
  | _ => none
def sApp (i : Nat) (m : Ev → Option D) : Ev → Option Out := fun ρ => (ownAt i ρ).bind fun ds => (m ρ).bind fun d => if okN ds.length = true then some (.nx (ρ.set i (some (.own (ds ++ [d]))))) else none
def sAug (i : Nat) (f : D → D → Option D) (m : Ev → Option D) : Ev → Option Out := fun ρ => (eV i ρ).bind fun x => (m ρ).bind fun y => (f x y).bind fun z => some (.nx (ρ.set i (some (.dat z))))
def sAsg (g : D → Ev → Option Ev) (m : Ev → Option D) : Ev → Option Out := fun ρ => (m ρ).bind fun d => (g d ρ).bind fun ρ' => some (.nx ρ')
def gN (i : Nat) : D → Ev → Option Ev := fun d ρ => some (ρ.set i (some (.dat d)))
def gT (n : Nat) (g : List D → Ev → Option Ev) : D → Ev → Option Ev := fun d ρ => match d with
  | .tuple ds => if ds.length = n then g ds ρ else none
  | _ => none
def gs0 : List D → Ev → Option Ev := fun ds ρ => if ds = [] then some ρ else none
def gsC (g : D → Ev → Option Ev) (k : List D → Ev → Option Ev) : List D → Ev → Option Ev := fun ds ρ => match ds with
  | d :: r => (g d ρ).bind fun ρ' => k r ρ'
  | [] => none
def forL (g : D → Ev → Option Ev) (b : Ev → Option Out) : List D → Ev → Option Out
  | [], ρ => some (.nx ρ)
  | d :: ds, ρ => (g d ρ).bind fun ρ1 => (b ρ1).bind fun o => match o with
    | .nx ρ2 => forL g b ds ρ2
    | .ct ρ2 => forL g b ds ρ2
    | .bk ρ2 => some (.nx ρ2)
    | .rt v => some (.rt v)
def sFor (g : D → Ev → Option Ev) (m : Ev → Option (List D)) (b : Ev → Option Out) : Ev → Option Out := fun ρ => (m ρ).bind fun ds => forL g b ds ρ
def whileL (t : Ev → Option Bool) (b : Ev → Option Out) : Nat → Ev → Option Out
  | 0, _ => none
  | n + 1, ρ => (t ρ).bind fun k => if k = true then (b ρ).bind fun o => match o with
    | .nx ρ2 => whileL t b n ρ2
    | .ct ρ2 => whileL t b n ρ2
    | .bk ρ2 => some (.nx ρ2)
    | .rt v => some (.rt v)
    else some (.nx ρ)
def sWhile (n : Nat) (t : Ev → Option Bool) (b : Ev → Option Out) : Ev → Option Out := fun ρ => whileL t b n ρ
def seqD : D → Option (List D)
  | .list ds => some ds
  | .tuple ds => some ds
  | _ => none
def iSq (m : Ev → Option D) : Ev → Option (List D) := fun ρ => (m ρ).bind seqD
def rangeD (lo hi : Int) : List D := (List.range (hi - lo).toNat).map fun (k : Nat) => PyData.int (lo + (k : Int))
/-- small numbers, told by their size alone: no great numeral stands in a test (the kernel would count it down) -/
def midI (i : Int) : Bool := decide (i.natAbs.log2 < 60)
theorem midI_ok {i : Int} (h : midI i = true) : -(2 ^ 62) ≤ i ∧ i < 2 ^ 62 := by
  have h1 : i.natAbs.log2 < 60 := of_decide_eq_true h
  by_cases h0 : i.natAbs = 0
  · omega
  · have := (Nat.log2_lt h0).mp h1
    omega
theorem midI_of {i : Int} (h : -1000000 ≤ i) (h2 : i ≤ 1000000) : midI i = true := by
  unfold midI
  by_cases h0 : i.natAbs = 0
  · rw [h0]
    decide
  · exact decide_eq_true ((Nat.log2_lt h0).mpr (by omega))
def rng1 (n : Int) : Option (List D) := if midI n = true then some (rangeD 0 n) else none
def rng2 (i j : Int) : Option (List D) := if midI i = true ∧ midI j = true then some (rangeD i j) else none
theorem rng1_ok {n : Int} (h : -1000000 ≤ n) (h2 : n ≤ 1000000) : rng1 n = some (rangeD 0 n) := if_pos (midI_of h h2)
theorem rng2_ok {i j : Int} (h : -1000000 ≤ i) (h2 : i ≤ 1000000) (h3 : -1000000 ≤ j) (h4 : j ≤ 1000000) : rng2 i j = some (rangeD i j) := if_pos ⟨midI_of h h2, midI_of h3 h4⟩
def iR1 (m : Ev → Option D) : Ev → Option (List D) := fun ρ => (m ρ).bind fun x => (toI x).bind fun n => rng1 n
def iR2 (a b : Ev → Option D) : Ev → Option (List D) := fun ρ => (a ρ).bind fun x => (toI x).bind fun i => (b ρ).bind fun y => (toI y).bind fun j => rng2 i j
def signsD (z : Str) : List D := z.cps.toList.map fun c => PyData.str ⟨#[c]⟩
def iStr (m : Ev → Option D) : Ev → Option (List D) := fun ρ => (m ρ).bind fun x => match x with
  | .str z => if okN (z.length) = true then some (signsD z) else none
  | _ => none
/-- [e for x in .. if t]: the items -/
def lcL (i : Nat) (t : Ev → Option Bool) (e : Ev → Option D) (ρ : Ev) : List D → Option (List D)
  | [] => some []
  | d :: ds => (t ((ρ.set i none).set i (some (.dat d)))).bind fun k => if k = true then (e ((ρ.set i none).set i (some (.dat d)))).bind fun y => (lcL i t e ρ ds).bind fun r => some (y :: r) else lcL i t e ρ ds
def fLc (i : Nat) (m : Ev → Option (List D)) (t : Ev → Option Bool) (e : Ev → Option D) : Ev → Option (List D) := fun ρ => (m ρ).bind fun ds => if okN (ds.length) = true then lcL i t e ρ ds else none
def tYs  : Ev → Option Bool := fun _ => some true
/-- a def's worth -/
@[simp] def init (s : Nat) (ds : List D) : Ev := ds.map (fun d => some (L.dat d)) ++ List.replicate (s - ds.length) none
def outD : Out → Option D
  | .rt d => some d
  | .nx _ => some .none
  | _ => none
@[simp] def run (s : Nat) (b : Ev → Option Out) : List D → Option D := fun ds => (b (init s ds)).bind outD
section
variable {K : PySem.W.Frag} {mg : Str → Option Value} {F0 : Fz} {H0 F H : Hp} {σ : L2.St} {ρ : Ev}
theorem RpA.somes {AR : Addr} {H0 : Hp} : ∀ {vs : List V} {ds : List D} (i : Nat) (l : L), RpA K mg F vs ds → (ds.map (fun d => some (L.dat d)))[i]? = some (some l) → SlotOk K mg AR H0 F H ((vs.map some)[i]?) l
  | _, _, _, _, .nil, e => by simp at e
  | _, _, 0, _, .cons h t, e => by
    simp at e
    subst e
    exact ⟨_, rfl, h⟩
  | _, _, i + 1, l, .cons h t, e => by
    have := RpA.somes (AR := AR) (H0 := H0) i l t (by simpa using e)
    simpa using this
theorem Ok.start {N : List Str} {vs : List V} {ds : List D} (s : Same F H) (r : RpA K mg F vs ds) : Ok K mg (F, 0) H F H (L2.start N vs) (init N.length ds) where
  s := s
  st := Stp.refl s
  len := by
    unfold init L2.start
    rw [List.length_append, List.length_append, List.length_map, List.length_map, List.length_replicate, List.length_replicate, r.length]
  rel := fun i l e => by
    unfold init at e
    unfold L2.start
    by_cases h : i < ds.length
    · rw [List.getElem?_append_left (by simpa using h)] at e
      rw [List.getElem?_append_left (by simpa [r.length] using h)]
      exact RpA.somes i l r e
    · rw [List.getElem?_append_right (by simpa using h)] at e
      rw [List.getElem?_replicate] at e
      split at e <;> cases e
  disL := fun i j l m a ne e1 h1 e2 h2 e3 => by
    unfold init at e1
    by_cases h : i < ds.length
    · rw [List.getElem?_append_left (by simpa using h)] at e1
      rw [List.getElem?_map] at e1
      cases hq : ds[i]? with
      | none =>
        rw [hq] at e1
        cases e1
      | some d =>
        rw [hq] at e1
        cases e1
        cases h1
    · rw [List.getElem?_append_right (by simpa using h)] at e1
      rw [List.getElem?_replicate] at e1
      split at e1 <;> cases e1
theorem ownAt_some {i : Nat} {ds : List D} (h : ownAt i ρ = some ds) : ρ[i]? = some (some (.own ds)) := by
  unfold ownAt at h
  split at h
  · rename_i e
    cases h
    exact e
  · cases h
end
section
variable {X : Cx} {pos : Pos} {st : Stmt} {rest : List Stmt} {m : Ev → Option D} {a b : Ev → Option Out} {e : Expr}
theorem s_nil : DSs X [] sNop := PSs.weak pss_nil fun D σ H ⟨F0, H0, F, ρ, o, k, e, q⟩ => by
  cases e
  exact q σ F H k (Same.refl _)
theorem s_one (h : DS X st a) : DSs X [st] a := pss_one h
theorem s_cons (h : DS X st a) (hr : DSs X rest b) : DSs X (st :: rest) (sSeq a b) := PSs.weak (pss_cons h hr) fun D σ H ⟨F0, H0, F, ρ, o, k, e, q⟩ => by
  obtain ⟨o1, h1, e⟩ := bind_some e
  refine ⟨F0, H0, F, ρ, o1, k, h1, ?_⟩
  cases o1 with
  | nx ρ1 => exact fun σ1 F1 H1 k1 s1 => ⟨F0, H0, F1, ρ1, o, k1, e, q.mono s1⟩
  | rt d =>
    cases e
    exact q
  | bk d =>
    cases e
    exact q
  | ct d =>
    cases e
    exact q
theorem s_break : DS X (.Break pos) sBreak := PS.weak ps_break fun D σ H ⟨F0, H0, F, ρ, o, k, e, q⟩ => by
  cases e
  exact q σ F H k (Same.refl _)
theorem s_ice (is : List Nat) (h : DS X st a) : DS X st (sIce is a) := PS.weak h fun D σ H ⟨F0, H0, F, ρ, o, k, e, q⟩ => by
  obtain ⟨F', k', s'⟩ := k.ices is
  exact ⟨F0, H0, F', _, o, k', e, q.mono s'⟩
theorem s_set {i : Nat} {x : Str} {pos' : Pos} (hN : X.N.Nodup) (he : DE X e m) (hi : X.N[i]? = some x := by rfl) (hx : Loc X.env.scope x := by first | exact Or.inl rfl | exact Or.inr rfl) (hs : swapsWith e (some (.Name x pos')) pos.line X.env = pure false := by rfl) (hf : X.fn x = true ∨ X.env.scope.names.lookup x = some .local := by first | exact .inl rfl | exact .inr rfl | assumption) :
    DS X (.Assign [.Name x pos'] e pos) (sSet i m) := PS.weak (ps_set hN hi hx he hs hf) fun D σ H ⟨F0, H0, F, ρ, o, k, e, q⟩ => by
  obtain ⟨d, h1, e⟩ := bind_some e
  cases e
  exact ⟨F0, H0, F, ρ, d, k, h1, fun v F1 H1 t1 r1 => q _ _ _ ((k.step t1).set r1 i) t1.f⟩
theorem s_own {i : Nat} {x : Str} {pos' : Pos} {mf : Ev → Option (List D)} (hN : X.N.Nodup) (he : DF X e mf) (hi : X.N[i]? = some x := by rfl) (hx : Loc X.env.scope x := by first | exact Or.inl rfl | exact Or.inr rfl) (hs : swapsWith e (some (.Name x pos')) pos.line X.env = pure false := by rfl) (hf : X.fn x = true ∨ X.env.scope.names.lookup x = some .local := by first | exact .inl rfl | exact .inr rfl | assumption) :
    DS X (.Assign [.Name x pos'] e pos) (sOwn i mf) := PS.weak (ps_set hN hi hx he hs hf) fun D σ H ⟨F0, H0, F, ρ, o, k, e, q⟩ => by
  obtain ⟨ds, h1, e⟩ := bind_some e
  cases e
  exact ⟨F0, H0, F, ρ, ds, k, h1, fun p xs F1 H1 t1 hp fp hp1 r1 => q _ _ _ (k.setOwn t1 hp fp hp1 r1 i) t1.f⟩
theorem s_ret (he : DE X e m) : DS X (.Return (some e) pos) (sRet m) := PS.weak (ps_ret he) fun D σ H ⟨F0, H0, F, ρ, o, k, e, q⟩ => by
  obtain ⟨d, h1, e⟩ := bind_some e
  cases e
  exact ⟨F0, H0, F, ρ, d, k, h1, fun v F1 H1 t1 r1 => q v F1 H1 (k.st.trans t1) r1⟩
theorem s_if {c : Expr} {p q' : List Stmt} {t : Ev → Option Bool} (hc : DT X c t) (ha : DSs X p a) (hb : DSs X q' b) : DS X (.If c p q' pos) (sIf t a b) := PS.weak (ps_if hc ha hb) fun D σ H ⟨F0, H0, F, ρ, o, k, e, q⟩ => by
  obtain ⟨kk, h1, e⟩ := bind_some e
  refine ⟨F0, H0, F, ρ, kk, k, h1, fun F1 H1 t1 => ?_⟩
  cases kk with
  | true =>
    simp only [if_true] at e ⊢
    exact ⟨F0, H0, F1, ρ, o, k.step t1, e, q.mono t1.f⟩
  | false =>
    simp only [Bool.false_eq_true, if_false] at e ⊢
    exact ⟨F0, H0, F1, ρ, o, k.step t1, e, q.mono t1.f⟩
/-- x.append(e) of an own list -/
theorem s_app {i : Nat} {x : Str} {p1 apos cpos : Pos} (he : DE X e m) (hs0 : swapsWith (.Call (.Attribute (.Name x p1) "append" apos) [e] [] cpos) none pos.line X.env = pure false := by rfl) (hN : X.N[i]? = some x := by rfl) (hv : Vis X.env.scope x := by first | exact Or.inl rfl | exact Or.inr (Or.inl rfl) | exact Or.inr (Or.inr rfl)) (hd : (x == ("__debug__" : Str)) = false := by decide)
    (hcd : (x == ("__classdict__" : Str)) = false := by decide) (hbase : attributeBase (.Name x p1) "append" X.env (eval (.Name x p1) X.env) = eval (.Name x p1) X.env := by rfl)
    (hfew : ((backTo cpos (starEach [e] X.env)).all (fun x => !x.1) && (backToKw cpos (keywordEach [] X.env)).all (fun x => x.1.isSome)
      && decide (([e] : List Expr).length + ([] : List Keyword).length + (if ([] : List Keyword).isEmpty then 0 else 1) < 30)) = true := by rfl)
    (hline : (apos.endLine == cpos.line) = true := by rfl) (hs : starEach [e] X.env = (false, eval e X.env) :: starEach [] X.env := by rfl) (hplain : (backTo cpos (starEach [] X.env)).any (·.1) = false := by rfl) :
    DS X (.Expr (.Call (.Attribute (.Name x p1) "append" apos) [e] [] cpos) pos) (sApp i m) :=
  PS.weak (ps_expr (pe_bm PySem.F.plainAttrs_list PySem.F.slot_list_append PySem.F.type_list_append mt_append (pe_var hN hv hd hcd) (pa_cons he pa_nil hs) hbase hfew hline hs hplain) hs0) fun D σ H ⟨F0, H0, F, ρ, o, k, e, q⟩ => by
  obtain ⟨ds, h1, e⟩ := bind_some e
  obtain ⟨d, h2, e⟩ := bind_some e
  split at e
  · rename_i hl
    cases e
    have ho := ownAt_some h1
    obtain ⟨a', xs, e1, fa, h0, ha, r⟩ := k.rel i _ ho
    refine ⟨_, e1, .inl ⟨rfl, xs, .inl (.inl ha)⟩, F0, H0, F, ρ, d, k, h2, fun v F1 H1 t1 r1 => ?_⟩
    refine ⟨a', xs, v, rfl, rfl, t1.h a' _ ha, Nat.lt_of_le_of_lt (by rw [r.length]; exact okN_le hl) (by decide), ?_⟩
    exact q _ _ _ ((k.step t1).mut ho e1 ((r.mono t1.f).append (.cons r1 .nil))) t1.f
  · cases e
theorem g_name {i : Nat} {x : Str} (hN : X.N.Nodup) (hi : X.N[i]? = some x := by rfl) (hx : Loc X.env.scope x := by first | exact Or.inl rfl | exact Or.inr rfl) (hf : X.fn x = true ∨ X.env.scope.names.lookup x = some .local := by first | exact .inl rfl | exact .inr rfl | assumption) : DG X (.Name x pos) (gN i) :=
  PG.weak (pg_name hN hi hx hf) fun v σ H Q ⟨F0, H0, F, ρ, d, ρ', k, r, e, q⟩ => by
  cases e
  exact q _ F H (k.set r i) (Same.refl _)
theorem gs_nil : DGs X [] gs0 := PGs.weak pgs_nil fun vs σ H Q ⟨F0, H0, F, ρ, ds, ρ', k, r, e, q⟩ => by
  unfold gs0 at e
  split at e
  · rename_i hd
    subst hd
    cases e
    cases r
    exact ⟨rfl, q _ F H k (Same.refl _)⟩
  · cases e
theorem gs_cons {es : List Expr} {g : D → Ev → Option Ev} {gk : List D → Ev → Option Ev} (h1 : DG X e g) (h2 : DGs X es gk) (hs : (assignEach (e :: es) X.env).map (·.2) = assign e X.env :: (assignEach es X.env).map (·.2) := by rfl) : DGs X (e :: es) (gsC g gk) :=
  PGs.weak (pgs_cons h1 h2 hs) fun vs σ H Q ⟨F0, H0, F, ρ, ds, ρ', k, r, e, q⟩ => by
  cases r with
  | nil => cases e
  | @cons v0 vr d0 dr r rr =>
    obtain ⟨ρ1, e1, e⟩ := bind_some e
    exact ⟨_, _, rfl, F0, H0, F, ρ, _, ρ1, k, r, e1, fun σ1 F1 H1 k1 s1 => ⟨F0, H0, F1, ρ1, _, ρ', k1, rr.mono s1, e, fun σ2 F2 H2 k2 s2 => q σ2 F2 H2 k2 (s1.trans s2)⟩⟩
theorem g_tup {es : List Expr} {kk n : Nat} {g : List D → Ev → Option Ev} (hc : X.calm = true) (h : DGs X es g) (hn : (assignEach es X.env).length = n := by rfl) (hst : (assignEach es X.env).findIdx? (·.1) = none := by rfl) : DG X (.Tuple es kk pos) (gT n g) :=
  PG.weak (pg_tup hc h hn hst) fun v σ H Q ⟨F0, H0, F, ρ, d, ρ', k, r, e, q⟩ => by
  cases r with
  | tup hs ha =>
    simp only [gT] at e
    split at e
    · rename_i hl
      exact ⟨_, _, rfl, sqT_mono k.s hs, by rw [ha.length]; exact hl, F0, H0, F, ρ, _, ρ', k, ha, e, q⟩
    · cases e
  | _ => simp [gT, fnD] at e
theorem getElem?_len {α : Type} {xs : List α} {i : Nat} {x : α} (h : xs[i]? = some x) : i < xs.length := (List.getElem?_eq_some_iff.mp h).1
theorem rangeD_len (lo hi : Int) : (rangeD lo hi).length = (hi - lo).toNat := by simp [rangeD]
theorem rangeD_get {lo hi : Int} {i : Nat} {d : D} (h : (rangeD lo hi)[i]? = some d) : i < (hi - lo).toNat ∧ d = .int (lo + (i : Int)) := by
  unfold rangeD at h
  rw [List.getElem?_map] at h
  by_cases hi' : i < (hi - lo).toNat
  · rw [List.getElem?_range hi'] at h
    cases h
    exact ⟨hi', rfl⟩
  · rw [List.getElem?_eq_none (by simpa using hi')] at h
    cases h
theorem walks_range {K : PySem.W.Frag} {mg : Str → Option Value} {F : Hp} {lo hi : Int} : Walks K mg (Itr lo (hi - lo).toNat) F (rangeD lo hi) := ⟨fun i H s hi => by rw [rangeD_len] at hi; exact hi, fun i H s hi => by rw [rangeD_len] at hi; exact hi, fun i H2 x H3 F2 d s1 s2 hd y => by
  obtain ⟨e1, e2⟩ := y
  subst e1
  subst e2
  obtain ⟨_, rfl⟩ := rangeD_get hd
  exact ⟨F2, Stp.refl s2, .int _⟩⟩
theorem i_range1 {tg : Expr} {p pos : Pos} (hm : X.mg "range" = none) (ha : DE X e m) (hg : Gl X "range" := by rfl) (hs : starEach [e] X.env = [(false, eval e X.env)] := by rfl) : DI X tg (.Call (.Name "range" p) [e] [] pos) (iR1 m) :=
  PI.weak (pi_range1 hg hm (pa_cons ha pa_nil hs) hs) fun σ H R ⟨F0, H0, F, ρ, ds, k, e, q⟩ => by
  obtain ⟨d, h1, e⟩ := bind_some e
  obtain ⟨n, h2, e9⟩ := bind_some e
  have e3 := toI_some h2
  subst e3
  have e9 : (if midI n = true then some (rangeD 0 n) else none) = some ds := e9
  split at e9
  · rename_i hn
    cases e9
    refine ⟨F0, H0, F, ρ, _, k, h1, fun v F1 H1 t1 r1 => ?_⟩
    cases r1
    refine ⟨n, rfl, (midI_ok hn).1, (midI_ok hn).2, q _ F1 H1 t1 ?_⟩
    have := walks_range (K := X.K) (mg := X.mg) (F := F1) (lo := 0) (hi := n)
    simpa using this
  · cases e9
theorem i_range2 {tg c : Expr} {m2 : Ev → Option D} {p pos : Pos} (hm : X.mg "range" = none) (ha : DE X e m) (hb : DE X c m2) (hg : Gl X "range" := by rfl) (hs : starEach [e, c] X.env = [(false, eval e X.env), (false, eval c X.env)] := by rfl) (hs2 : starEach [c] X.env = [(false, eval c X.env)] := by rfl) : DI X tg (.Call (.Name "range" p) [e, c] [] pos) (iR2 m m2) :=
  PI.weak (pi_range2 hg hm (pa_cons ha (pa_cons hb pa_nil hs2) (by rw [hs, hs2])) hs hs2) fun σ H R ⟨F0, H0, F, ρ, ds, k, e, q⟩ => by
  obtain ⟨d, h1, e⟩ := bind_some e
  obtain ⟨i, h2, e⟩ := bind_some e
  obtain ⟨d', h3, e⟩ := bind_some e
  obtain ⟨j, h4, e9⟩ := bind_some e
  have e3 := toI_some h2
  subst e3
  have e4 := toI_some h4
  subst e4
  have e9 : (if midI i = true ∧ midI j = true then some (rangeD i j) else none) = some ds := e9
  split at e9
  · rename_i hn
    cases e9
    refine ⟨F0, H0, F, ρ, _, k, h1, fun v F1 H1 t1 r1 => ⟨F0, H0, F1, ρ, _, k.step t1, h3, fun v2 F2 H2 t2 r2 => ?_⟩⟩
    cases r1
    cases r2
    exact ⟨i, j, rfl, ⟨(midI_ok hn.1).1, (midI_ok hn.1).2, (midI_ok hn.2).1, (midI_ok hn.2).2⟩, q _ F2 H2 (t1.trans t2) walks_range⟩
  · cases e9
theorem s_for {tg it : Expr} {body : List Stmt} {g : D → Ev → Option Ev} {mi : Ev → Option (List D)} (hp : PassesOwn (model X.prog X.w) X.A X.env X.xe) (hc : X.calm = true) (hi : DI X tg it mi) (hg : DG X tg g) (hb : DSs X body b)
    (hs : ∀ x, foldedSetIterable it X.env x = pure x := by intro _; rfl) : DS X (.For tg it body [] pos) (sFor g mi b) := PS.weak (ps_for hp hc hi hg hb hs) fun D σ H ⟨F0, H0, F, ρ, o, k, e, q⟩ => by
  obtain ⟨ds, h1, e⟩ := bind_some e
  refine ⟨F0, H0, F, ρ, ds, k, h1, fun J Fi Hi t1 W => ?_⟩
  refine ⟨fun i n σ H => ∃ F ρ, Ok X.K X.mg F0 H0 F H σ ρ ∧ Same Fi F ∧ i ≤ ds.length ∧ n = ds.length - i ∧ forL g b (ds.drop i) ρ = some o, ⟨_, Fi, ρ, k.step t1, Same.refl _, Nat.zero_le _, rfl, e⟩, ?_⟩
  rintro i n σ2 H2 ⟨F2, ρ2, k2, s2, hi, rfl, e2⟩
  by_cases hlt : i < ds.length
  · refine .inr ⟨W.go i H2 (s2.trans k2.s) hlt, ?_⟩
    rw [List.drop_eq_getElem_cons hlt] at e2
    obtain ⟨ρ3, e3, e2⟩ := bind_some e2
    obtain ⟨o2, e4, e2⟩ := bind_some e2
    refine ⟨fun σ' H' => ∃ F ρ, Ok X.K X.mg F0 H0 F H' σ' ρ ∧ Same Fi F ∧ forL g b (ds.drop (i + 1)) ρ = some o, fun σ' H' ⟨F', ρ', k', s', e'⟩ => ⟨ds.length - (i + 1), by omega, F', ρ', k', s', hlt, rfl, e'⟩, fun x H' y => ?_⟩
    obtain ⟨F3, t3, r3⟩ := W.yld i H2 x H' F2 _ s2 k2.s (List.getElem?_eq_getElem hlt) y
    refine ⟨F0, H0, F3, ρ2, _, ρ3, k2.step t3, r3, e3, fun σ4 F4 H4 k4 s4 => ⟨F0, H0, F4, ρ3, o2, k4, e4, ?_⟩⟩
    have s24 : Same Fi F4 := s2.trans (t3.f.trans s4)
    cases o2 with
    | nx ρ5 => exact fun σ5 F5 H5 k5 s5 => ⟨F5, ρ5, k5, s24.trans s5, e2⟩
    | ct ρ5 => exact fun σ5 F5 H5 k5 s5 => ⟨F5, ρ5, k5, s24.trans s5, e2⟩
    | bk ρ5 =>
      cases e2
      exact fun σ5 F5 H5 k5 s5 => q σ5 F5 H5 k5 (t1.f.trans (s24.trans s5))
    | rt v5 =>
      cases e2
      exact q
  · have ei : i = ds.length := by omega
    subst ei
    rw [List.drop_length] at e2
    cases e2
    exact .inl ⟨W.stop _ H2 (s2.trans k2.s) (Nat.le_refl _), q σ2 F2 H2 k2 (t1.f.trans s2)⟩
end
end Dm


namespace Dm
open PySem PySem.Spec L2
section
variable {X : Cx} {pos : Pos} {st : Stmt} {rest : List Stmt} {m : Ev → Option D} {a b : Ev → Option Out} {e : Expr}
theorem signsD_get {z : Str} {i : Nat} {d : D} (h : (signsD z)[i]? = some d) : ∃ c, z.cps[i]? = some c ∧ d = .str ⟨#[c]⟩ := by
  unfold signsD at h
  rw [List.getElem?_map] at h
  cases hq : z.cps.toList[i]? with
  | none =>
    rw [hq] at h
    cases h
  | some c =>
    rw [hq] at h
    cases h
    exact ⟨c, by simpa using hq, rfl⟩
theorem s_while {c : Expr} {body : List Stmt} {t : Ev → Option Bool} (n : Nat) (hp : PassesOwn (model X.prog X.w) X.A X.env X.xe) (hc : DT X c t) (hb : DSs X body b) : DS X (.While c body [] pos) (sWhile n t b) := PS.weak (ps_while hp hc hb) fun D σ H ⟨F0, H0, F, ρ, o, k, e, q⟩ => by
  refine ⟨fun n σ H => ∃ F' ρ, Ok X.K X.mg F0 H0 F' H σ ρ ∧ Same F F' ∧ whileL t b n ρ = some o, ⟨n, F, ρ, k, Same.refl _, e⟩, ?_⟩
  rintro n σ2 H2 ⟨F2, ρ2, k2, s2, e2⟩
  cases n with
  | zero => cases e2
  | succ n =>
    obtain ⟨kk, h1, e2⟩ := bind_some e2
    refine ⟨F0, H0, F2, ρ2, kk, k2, h1, fun F3 H3 t3 => ?_⟩
    cases kk with
    | true =>
      simp only [if_true] at e2 ⊢
      obtain ⟨o2, h2, e2⟩ := bind_some e2
      refine ⟨fun σ' H' => ∃ F' ρ, Ok X.K X.mg F0 H0 F' H' σ' ρ ∧ Same F F' ∧ whileL t b n ρ = some o, fun σ' H' z => ⟨n, Nat.lt_succ_self n, z⟩, F0, H0, F3, ρ2, o2, k2.step t3, h2, ?_⟩
      have s3 := s2.trans t3.f
      cases o2 with
      | nx ρ5 => exact fun σ5 F5 H5 k5 s5 => ⟨F5, ρ5, k5, s3.trans s5, e2⟩
      | ct ρ5 => exact fun σ5 F5 H5 k5 s5 => ⟨F5, ρ5, k5, s3.trans s5, e2⟩
      | bk ρ5 =>
        cases e2
        exact fun σ5 F5 H5 k5 s5 => q σ5 F5 H5 k5 (s3.trans s5)
      | rt v5 =>
        cases e2
        exact q
    | false =>
      simp only [Bool.false_eq_true, if_false] at e2 ⊢
      cases e2
      exact q σ2 F3 H3 (k2.step t3) (s2.trans t3.f)
/-- a list that is being made lies beside -/
theorem Ok.beside {K : PySem.W.Frag} {mg : Str → Option Value} {F0 : Fz} {H0 F H : Hp} {σ : L2.St} {ρ : Ev} {p : Addr} {xs : List V} (k : Ok K mg F0 H0 F H σ ρ) (hf : F p = none) (h0 : H0 p = none) (k1 : ∀ (i : Nat) (l : L), ρ[i]? = some (some l) → isL l = true → σ[i]? ≠ some (some (.ref p))) : Ok K mg F0 H0 F (upd H p (.lst xs)) σ ρ where
  s := fun b x q => by
    rw [upd_ne (ne_of_none q hf)]
    exact k.s b x q
  st := ⟨k.st.f, fun b x q => by
    rw [upd_ne (ne_of_none q h0)]
    exact k.st.h b x q, fun b x q => by
    rw [upd_ne (ne_of_none q hf)]
    exact k.s b x q, k.st.n⟩
  len := k.len
  rel := fun i l e => by
    have q := k.rel i l e
    cases l with
    | dat d => exact q
    | own ds =>
      obtain ⟨a, ys, e1, fa, h0', ha, r⟩ := q
      have ne : a ≠ p := fun z => k1 i _ e rfl (by rw [← z]; exact e1)
      exact ⟨a, ys, e1, fa, h0', by rw [upd_ne ne]; exact ha, r⟩
    | arg ds =>
      obtain ⟨ys, e1, fa, h0', ha, r⟩ := q
      have ne : F0.2 ≠ p := fun z => k1 i _ e rfl (by rw [← z]; exact e1)
      exact ⟨ys, e1, fa, h0', by rw [upd_ne ne]; exact ha, r⟩
    | obj sh ds =>
      obtain ⟨a, ys, oo, e1, fa, h0', ha, so, r⟩ := q
      have ne : a ≠ p := fun z => k1 i _ e rfl (by rw [← z]; exact e1)
      exact ⟨a, ys, oo, e1, fa, h0', by rw [upd_ne ne]; exact ha, so, r⟩
    | abj sh ds =>
      obtain ⟨ys, oo, e1, fa, h0', ha, so, r⟩ := q
      have ne : F0.2 ≠ p := fun z => k1 i _ e rfl (by rw [← z]; exact e1)
      exact ⟨ys, oo, e1, fa, h0', by rw [upd_ne ne]; exact ha, so, r⟩
  disL := k.disL
theorem tF_lc {K : PySem.W.Frag} {mg : Str → Option Value} {i : Nat} {mi : Ev → Option (List D)} {t : Ev → Option Bool} {f : Ev → Option D} {tt : TT} {te : TE} (htt : ∀ σ H Q, tT K mg t σ H Q → tt σ H Q) (hte : ∀ σ H Q, tD K mg f σ H Q → te σ H Q) :
    ∀ σ H Q, tF K mg (fLc i mi t f) σ H Q → tLc (tI K mg mi) (gName i) tt te [i] σ H Q := fun σ H Q ⟨F0, H0, F, ρ, tot, k, e, q⟩ => by
  obtain ⟨ds, h1, e⟩ := bind_some e
  split at e
  · rename_i hl
    refine ⟨F0, H0, F, ρ, ds, k, h1, fun J Fi Hi t1 W D hD => ?_⟩
    have ki := k.step t1
    have fD : Fi D = none := same_free t1.s hD
    have h0D : H0 D = none := ki.st.h.free hD
    have apart : ∀ (j : Nat) (l : L), ρ[j]? = some (some l) → isL l = true → σ[j]? ≠ some (some (.ref D)) := fun j l e1 hl e2 => by
      obtain ⟨a, ys, e3, _, _, ha⟩ := (ki.rel j _ e1).lst hl
      rw [e2] at e3
      cases e3
      rw [hD] at ha
      cases ha
    have t1D : ∀ {o}, Stp Fi Hi Fi (upd Hi D o) := fun {o} => ⟨Same.refl _, same_new hD, t1.s.trans (same_new hD), fun a u e1 e2 => e1⟩
    have grow : ∀ {F2 H2 : Hp} {o}, Stp Fi Hi F2 H2 → F2 D = none → Stp Fi Hi F2 (upd H2 D o) := fun {F2 H2 o} t2 f2 => ⟨t2.f, fun b x q => by
      rw [upd_ne (ne_of_none q hD)]
      exact t2.h b x q, fun b x q => by
      rw [upd_ne (ne_of_none q f2)]
      exact t2.s b x q, t2.n⟩
    refine ⟨fun j n H => ∃ F acc xs rem, Ok K mg F0 H0 F H σ ρ ∧ Stp Fi Hi F H ∧ F D = none ∧ H D = some (.lst xs) ∧ RpA K mg F xs acc ∧ lcL i t f ρ (ds.drop j) = some rem ∧ acc ++ rem = tot ∧ acc.length ≤ j ∧ j ≤ ds.length ∧ n = ds.length - j,
      ⟨_, Fi, [], [], tot, ki.beside fD h0D apart, t1D, fD, upd_same, .nil, e, rfl, Nat.le_refl _, Nat.zero_le _, rfl⟩, ?_⟩
    rintro j n H2 ⟨F2, acc, xs, rem, k2, t2, f2, hx, ra, e2, ea, la, hj, rfl⟩
    by_cases hlt : j < ds.length
    · refine .inr ⟨W.go j H2 (t2.f.trans k2.s) hlt, ?_⟩
      rw [List.drop_eq_getElem_cons hlt] at e2
      obtain ⟨kk, h2, e2⟩ := bind_some e2
      refine ⟨fun H' => ∃ F acc xs rem, Ok K mg F0 H0 F H' σ ρ ∧ Stp Fi Hi F H' ∧ F D = none ∧ H' D = some (.lst xs) ∧ RpA K mg F xs acc ∧ lcL i t f ρ (ds.drop (j + 1)) = some rem ∧ acc ++ rem = tot ∧ acc.length ≤ j + 1, fun H' ⟨F', acc', xs', rem', a1, a2, a3, a4, a5, a6, a7, a8⟩ => ⟨ds.length - (j + 1), by omega, F', acc', xs', rem', a1, a2, a3, a4, a5, a6, a7, a8, hlt, rfl⟩, fun x H' y => ?_⟩
      obtain ⟨F3, t3, r3⟩ := W.yld j H2 x H' F2 _ t2.f k2.s (List.getElem?_eq_getElem hlt) y
      have k3 := ((k2.step t3).wipe i).set r3 i
      refine ⟨by simp [L2.wipe], htt _ _ _ ⟨F0, H0, F3, _, kk, k3, h2, fun F4 H4 t4 => ?_⟩⟩
      have t24 := t3.trans t4
      have f4 : F4 D = none := t24.n D _ f2 hx
      have hx4 := t24.h D _ hx
      cases kk with
      | true =>
        simp only [if_true] at e2 ⊢
        obtain ⟨y', h3, e2⟩ := bind_some e2
        obtain ⟨rem', h4, e2⟩ := bind_some e2
        cases e2
        refine hte _ _ _ ⟨F0, H0, F4, _, y', k3.step t4, h3, fun v F5 H5 t5 r5 => ?_⟩
        have t25 := t24.trans t5
        have f5 : F5 D = none := t25.n D _ f2 hx
        have hx5 := t25.h D _ hx
        refine ⟨xs, hx5, Nat.lt_of_le_of_lt (show xs.length ≤ 131071 by rw [ra.length]; have := okN_le hl; omega) (by decide), F5, acc ++ [y'], xs ++ [v], rem', (k2.step t25).beside f5 h0D apart, grow (t2.trans t25) f5, f5, upd_same, (ra.mono t25.f).append (.cons r5 .nil), h4, by rw [List.append_assoc]; exact ea, by rw [List.length_append]; simp; omega⟩
      | false =>
        simp only [Bool.false_eq_true, if_false] at e2 ⊢
        exact ⟨F4, acc, xs, rem, k2.step t24, t2.trans t24, f4, hx4, ra.mono t24.f, e2, ea, by omega⟩
    · have ej : j = ds.length := by omega
      subst ej
      rw [List.drop_length] at e2
      cases e2
      rw [List.append_nil] at ea
      subst ea
      exact .inl ⟨W.stop _ H2 (t2.f.trans k2.s) (Nat.le_refl _), q D xs F2 H2 (t1.trans t2) (t1.h.free hD) f2 hx ra⟩
  · cases e
theorem ts_yes {ifs : List Expr} (h : ifs = []) : PTs X ifs (tT X.K X.mg tYs) := by
  subst h
  exact ⟨fun pins s σ H Q I ⟨F0, H0, F, ρ, b, k, e, q⟩ => by
    cases e
    exact pts_nil.run pins s σ H Q I (q F H (Stp.refl k.s))⟩
theorem ts_one {c : Expr} {t : Ev → Option Bool} (h : DT X c t) : PTs X [c] (tT X.K X.mg t) := pts_one h
theorem f_lc {elt it : Expr} {ifs : List Expr} {scope : Scope} {i : Nat} {x : Str} {px : Pos} {mi : Ev → Option (List D)} {t : Ev → Option Bool} {f : Ev → Option D} (hc : X.calm = true) (hN : X.N.Nodup) (hi : DI X (.Name x px) it mi) (ok : BlkOk X.N X.env.scope scope [(x, i)])
    (hg : ∀ (s : Shared) (H : Hp) (C : Addr) (cl : List (Str × Addr)) (fp : List Addr), PG (X.blk s H scope (compEnvC scope cl C X.env) fp) (.Name x px) (gName i))
    (ht : ∀ (s : Shared) (H : Hp) (C : Addr) (cl : List (Str × Addr)) (fp : List Addr), PTs (X.blk s H scope (compEnvC scope cl C X.env) fp) ifs (tT X.K X.mg t))
    (he : ∀ (s : Shared) (H : Hp) (C : Addr) (cl : List (Str × Addr)) (fp : List Addr), DE (X.blk s H scope (compEnvC scope cl C X.env) fp) elt f) (hs : ∀ x, foldedSetIterable it X.env x = pure x := by intro _; rfl) :
    DF X (.ListComp elt [⟨.Name x px, it, ifs, 0⟩] scope pos) (fLc i mi t f) := PE.weak (pe_lc hc hN hi ok hg ht he hs) (tF_lc (fun _ _ _ h => h) (fun _ _ _ h => h))
/-- y = [..], data | a list of its own -/
theorem s_setLc {elt it : Expr} {ifs : List Expr} {scope : Scope} {i j : Nat} {x y : Str} {px py spos : Pos} {mi : Ev → Option (List D)} {t : Ev → Option Bool} {f : Ev → Option D} (hc : X.calm = true) (hN : X.N.Nodup) (hy : X.N[j]? = some y) (hyl : X.env.scope.names.lookup y = some .local)
    (hsw : swapsWith (.ListComp elt [⟨.Name x px, it, ifs, 0⟩] scope pos) (some (.Name y py)) spos.line X.env = pure true) (hi : DI X (.Name x px) it mi) (ok : BlkOk X.N X.env.scope scope [(x, i)])
    (hg : ∀ (s : Shared) (H : Hp) (C : Addr) (cl : List (Str × Addr)) (fp : List Addr), PG (X.blk s H scope (compEnvC scope cl C X.env) fp) (.Name x px) (gName i))
    (ht : ∀ (s : Shared) (H : Hp) (C : Addr) (cl : List (Str × Addr)) (fp : List Addr), PTs (X.blk s H scope (compEnvC scope cl C X.env) fp) ifs (tT X.K X.mg t))
    (he : ∀ (s : Shared) (H : Hp) (C : Addr) (cl : List (Str × Addr)) (fp : List Addr), DE (X.blk s H scope (compEnvC scope cl C X.env) fp) elt f) (hs : ∀ x, foldedSetIterable it X.env x = pure x := by intro _; rfl) :
    DS X (.Assign [.Name y py] (.ListComp elt [⟨.Name x px, it, ifs, 0⟩] scope pos) spos) (sOwn j (fLc i mi t f)) := PS.weak (ps_setLc hc hN hy hyl hsw hi ok hg ht he hs) fun D σ H ⟨F0, H0, F, ρ, o, k, e, q⟩ => by
  obtain ⟨ds, h1, e⟩ := bind_some e
  cases e
  exact tF_lc (fun _ _ _ h => h) (fun _ _ _ h => h) σ H _ ⟨F0, H0, F, ρ, ds, k, h1, fun p xs F1 H1 t1 hp fp hp1 r1 => q _ _ _ (k.setOwn t1 hp fp hp1 r1 j) t1.f⟩
theorem d_m1 {id : String} {o : Expr} {name : Str} {apos : Pos} {r : V → List V → Hp → VK → Prop} {f : D → List D → Option D} {mo : Ev → Option D} (slot : Slot "str" name id) (ty : typeOf (.builtin id) = pure (.type "method_descriptor")) (rule : MtR X id r) (h : RMD X.K X.mg r f) (hs : ∀ d ds z, f d ds = some z → ∃ w, d = .str w) (ho : DE X o mo) (he : DE X e m)
    (hse : starEach [e] X.env = [(false, eval e X.env)] := by rfl) (hbase : attributeBase o name X.env (eval o X.env) = eval o X.env := by rfl) (hline : (apos.endLine == pos.line) = true := by rfl) : DE X (.Call (.Attribute o name apos) [e] [] pos) (eM f mo (aC m aN)) := PE.weak (pe_m1 slot ty rule ho he hse hbase hline) fun σ H Q ⟨F0, H0, F, ρ, d, k, e, q⟩ => by
  obtain ⟨d1, h1, e⟩ := bind_some e
  obtain ⟨ds, h2, e⟩ := bind_some e
  obtain ⟨d2, h3, h2⟩ := bind_some h2
  obtain ⟨dn, h4, h2⟩ := bind_some h2
  cases h4
  cases h2
  refine ⟨F0, H0, F, ρ, d1, k, h1, fun v F1 H1 t1 r1 => ⟨?_, F0, H0, F1, ρ, d2, k.step t1, h3, fun v2 F2 H2 t2 r2 => h F2 H2 v [v2] d1 [d2] d _ t2.s (r1.mono t2.f) (.cons r2 .nil) e fun v F3 H3 t3 r3 => q v F3 H3 (t1.trans (t2.trans t3)) r3⟩⟩
  obtain ⟨w, rfl⟩ := hs _ _ _ e
  cases r1
  exact ⟨w, rfl⟩
def mJoin : D → List D → Option D
  | .str a, [.list ds] => (strsOf ds).bind fun ys => if okN ((ys.map (·.length)).sum + ys.length * a.length) = true then some (.str (Txt.join a ys)) else none
  | _, _ => none
theorem rm_join {K : PySem.W.Frag} {mg : Str → Option Value} : RMD K mg (fun x xs H Q => ∃ a p, ∃ ys : List Str, x = .str a ∧ xs = [.ref p] ∧ (SqL K H p (ys.map V.str) ∨ SqT K H p (ys.map V.str)) ∧
    (ys.map (·.length)).sum + ys.length * a.length ≤ 16777216 ∧ Q (.str (Txt.join a ys)) H) mJoin := fun F H x xs d1 ds d Q s r1 r2 e q => by
  match d1, ds, r1, r2, e with
  | .str a, [.list es], .str _, .cons (.lst h ha) .nil, e =>
    obtain ⟨ys, h1, e⟩ := bind_some (show (strsOf es).bind _ = some d from e)
    split at e
    · rename_i hl
      cases e
      have e1 := strsOf_map h1
      subst e1
      have e2 := ha.strs
      subst e2
      exact ⟨a, _, ys, rfl, rfl, .inl (sqL_mono s h), Nat.le_trans (okN_le hl) (by decide), q _ F H (Stp.refl s) (.str _)⟩
    · cases e
theorem mJoin_str : ∀ d ds z, mJoin d ds = some z → ∃ w, d = .str w := fun d ds z h => by
  unfold mJoin at h
  split at h
  · exact ⟨_, rfl⟩
  · cases h
theorem def_ok {P : Program} {w : World} {K : PySem.W.Frag} {mg : Str → Option Value} {base : Heap} {x : Str} {st : Stmt} {f : Addr} {fd : FuncData} {N ps : List Str} {k n s : Nat} {b : Ev → Option Out} (F : Fun K x x st f fd) (S : FnScope N ps (defScope st)) (hn : ps.length = n) (hs : N.length = s)
    (hb : ∀ (cdv : Value) (A : Around) (outer : List Env) (sh : Shared) (H : Hp) (E : XK), Room k (A.deeper (PyProof.Rows.envOfC x (defScope st) sh.heap.objs.size f cdv)) → DSs (cxOf CX0 P w K mg base N x (defScope st) f cdv A outer sh H E).nox (defBody st) b) : FnOk P w K mg base CX0 (k + 1) f fd ps (spD K mg n (run s b)) := by
  refine F.ok S (fun vs H Q E h => ?_) (fun cdv A outer sh H vs Q E hr h => ?_)
  · obtain ⟨F, ds, d, _, r, hl, _⟩ := h
    rw [r.length, hl, hn]
  · refine ⟨_, hb cdv A outer sh H E hr, ?_⟩
    obtain ⟨F, ds, d, s1, r, hl, e, q⟩ := h
    obtain ⟨o, h1, e⟩ := bind_some e
    refine ⟨(F, 0), H, F, init s ds, o, ?_, h1, ?_⟩
    · rw [← hs]
      exact Ok.start s1 r
    · cases o with
      | nx ρ =>
        cases e
        exact fun σ F1 H1 k1 s1 => q .non F1 H1 k1.st .non
      | rt d' =>
        cases e
        exact fun v F1 H1 t1 r1 => q v F1 H1 t1 r1
      | bk _ => cases e
      | ct _ => cases e
def spLaw (K : PySem.W.Frag) : Sp := fun vs H Q _ => ∃ (a : Addr) (ns : List Int), vs = [.ref a] ∧ SqL K H a (ns.map V.int) ∧ ns.length ≤ 63 ∧ (∀ z ∈ ns, Builtin.Int.intBits z ≤ 1048576) ∧ ∀ H', Q (.bl true) H'
theorem law_imp {P : Program} {w : World} {K : PySem.W.Frag} {mg : Str → Option Value} {base : Heap} {k : Nat} {f : Addr} {fd : FuncData} {ps : List Str} {g : List D → Option D} (G : FnOk P w K mg base CX0 k f fd ps (spD K mg 1 g))
    (h : ∀ ns : List Int, ns.length ≤ 63 → (∀ z ∈ ns, Builtin.Int.intBits z ≤ 1048576) → g [.list (ns.map PyData.int)] = some (.bool true)) : FnOk P w K mg base CX0 k f fd ps (spLaw K) :=
  G.imp fun vs H Q E ⟨a, ns, e, hs, hl, hb, q⟩ => by
  subst e
  exact ⟨H, [.list (ns.map PyData.int)], .bool true, Same.refl _, .cons (.lst hs RpA.of_ints) .nil, rfl, h ns hl hb, fun v F' H' t r => by
    cases r
    exact q H'⟩
end
end Dm


namespace Dm
open PySem PySem.Spec L2
section
variable {X : Cx} {pos : Pos} {a b c e : Expr} {m m1 m2 m3 : Ev → Option D} {k : Nat}
theorem oAdd : OpR X (binaryOp .Add) (fun x y H Q => rI0 (fun i j => .int (i + j)) x y H Q ∨ (fun x y H Q => (∃ i j, x = .str i ∧ y = .str j ∧ i.length + j.length ≤ sizeLine ∧ Q (.str (i ++ j)) H) ∨ rCatG X.K x y H Q) x y H Q) := op_add.or (op_add_str.or op_catG)
theorem oEq (hr : Room k X.A) : OpR X (compareOp .Eq) (fun x y H Q => rEq x y H Q ∨ rEqD X.K x y H Q) := op_eq.or (op_eqD (Room.u64 hr))
theorem oNe (hr : Room k X.A) : OpR X (compareOp .NotEq) (fun x y H Q => rNe x y H Q ∨ rNeD X.K x y H Q) := op_ne.or (op_neD (Room.u64 hr))
theorem oLt : OpR X (compareOp .Lt) (fun x y H Q => rI0 (fun i j => .bl (decide (i < j))) x y H Q ∨ (fun x y H Q => (∃ i j, x = .str i ∧ y = .str j ∧ Q (.bl (decide (i.cps.toList < j.cps.toList))) H) ∨ (∃ i j : Bool, x = .bl i ∧ y = .bl j ∧ Q (.bl (!i && j)) H)) x y H Q) := op_lt.or (op_lt_str.or op_ltB)
theorem oGt : OpR X (compareOp .Gt) (fun x y H Q => rI0 (fun i j => .bl (decide (j < i))) x y H Q ∨ (fun x y H Q => (∃ i j, x = .str i ∧ y = .str j ∧ Q (.bl (decide (j.cps.toList < i.cps.toList))) H) ∨ (∃ i j : Bool, x = .bl i ∧ y = .bl j ∧ Q (.bl (i && !j)) H)) x y H Q) := op_gt.or (op_gt_str.or op_gtB)
theorem oLe : OpR X (compareOp .LtE) (fun x y H Q => rI0 (fun i j => .bl (decide (i ≤ j))) x y H Q ∨ (∃ i j, x = .str i ∧ y = .str j ∧ Q (.bl (!decide (j.cps.toList < i.cps.toList))) H)) := op_le.or op_le_str
theorem oGe : OpR X (compareOp .GtE) (fun x y H Q => rI0 (fun i j => .bl (decide (j ≤ i))) x y H Q ∨ (∃ i j, x = .str i ∧ y = .str j ∧ Q (.bl (!decide (i.cps.toList < j.cps.toList))) H)) := op_ge.or op_ge_str
theorem oIn (hr : Room k X.A) : OpR X (compareOp .In) (rInA X.K false) := op_inA (Room.u65 hr)
theorem oNotIn (hr : Room k X.A) : OpR X (compareOp .NotIn) (rInA X.K true) := op_notInA (Room.u65 hr)
theorem d_add (ha : DE X a m1) (hb : DE X b m2) : DE X (.BinOp a .Add b pos) (e2 opAdd m1 m2) := d_op oAdd r_add ha hb
theorem d_sub (ha : DE X a m1) (hb : DE X b m2) : DE X (.BinOp a .Sub b pos) (e2 opSub m1 m2) := d_op op_sub r_sub ha hb
theorem d_mul (ha : DE X a m1) (hb : DE X b m2) : DE X (.BinOp a .Mult b pos) (e2 opMul m1 m2) := d_op op_mulX r_mul ha hb
theorem d_div (ha : DE X a m1) (hb : DE X b m2) : DE X (.BinOp a .FloorDiv b pos) (e2 opDiv m1 m2) := d_op op_divG r_div ha hb
theorem d_mod (ha : DE X a m1) (hb : DE X b m2) : DE X (.BinOp a .Mod b pos) (e2 opMod m1 m2) := d_op op_modN r_mod ha hb
theorem d_pow (ha : DE X a m1) (hb : DE X b m2) : DE X (.BinOp a .Pow b pos) (e2 opPow m1 m2) := d_op op_pow r_pow ha hb
theorem d_neg (ha : DE X a m1) : DE X (.UnaryOp .USub a pos) (e1 opNeg m1) := d_un un_neg r_neg ha
theorem d_idx (ha : DE X a m1) (hb : DE X b m2) (hs : PlainIx b := by intro _ _; rfl) : DE X (.Subscript a b pos) (e2 ixD m1 m2) := d_ix ix_seq r_ix ha hb hs
theorem d_len {p : Pos} {es : List Expr} {ms : Ev → Option (List D)} (hm : X.mg "len" = none) (ha : DA X (e :: es) ms) (hg : Gl X "len" := by rfl) (he : starEach (e :: es) X.env = (false, eval e X.env) :: starEach es X.env := by rfl) (hpl : (backTo pos (starEach es X.env)).any (·.1) = false := by rfl) : DE X (.Call (.Name "len" p) (e :: es) [] pos) (eB fLen ms) := d_cb call_len rc_len hm ha PySem.boot_len hg (by decide) (by decide) he hpl
theorem d_abs {p : Pos} {es : List Expr} {ms : Ev → Option (List D)} (hm : X.mg "abs" = none) (ha : DA X (e :: es) ms) (hg : Gl X "abs" := by rfl) (he : starEach (e :: es) X.env = (false, eval e X.env) :: starEach es X.env := by rfl) (hpl : (backTo pos (starEach es X.env)).any (·.1) = false := by rfl) : DE X (.Call (.Name "abs" p) (e :: es) [] pos) (eB fAbs ms) := d_cb call_abs rc_abs hm ha (by decide +kernel) hg (by decide) (by decide) he hpl
theorem d_intf {p : Pos} {es : List Expr} {ms : Ev → Option (List D)} (hm : X.mg "int" = none) (ha : DA X (e :: es) ms) (hg : Gl X "int" := by rfl) (he : starEach (e :: es) X.env = (false, eval e X.env) :: starEach es X.env := by rfl) (hpl : (backTo pos (starEach es X.env)).any (·.1) = false := by rfl) : DE X (.Call (.Name "int" p) (e :: es) [] pos) (eB fInt ms) := d_ct (call_int1.or call_int_str) rc_int hm ha (by decide +kernel) hg (by decide) (by decide) he hpl
theorem d_minL {p : Pos} {es : List Expr} {ms : Ev → Option (List D)} (hc : X.calm = true) (hm : X.mg "min" = none) (ha : DA X (e :: es) ms) (hg : Gl X "min" := by rfl) (he : starEach (e :: es) X.env = (false, eval e X.env) :: starEach es X.env := by rfl) (hpl : (backTo pos (starEach es X.env)).any (·.1) = false := by rfl) : DE X (.Call (.Name "min" p) (e :: es) [] pos) (eB fMinL ms) := d_cb (cr_min hc) rc_minL hm ha (by decide +kernel) hg (by decide) (by decide) he hpl
theorem d_all {p : Pos} {es : List Expr} {ms : Ev → Option (List D)} (hc : X.calm = true) (hm : X.mg "all" = none) (ha : DA X (e :: es) ms) (hg : Gl X "all" := by rfl) (he : starEach (e :: es) X.env = (false, eval e X.env) :: starEach es X.env := by rfl) (hpl : (backTo pos (starEach es X.env)).any (·.1) = false := by rfl) : DE X (.Call (.Name "all" p) (e :: es) [] pos) (eB fAll ms) := d_cb (cr_all hc) rc_all hm ha (by decide +kernel) hg (by decide) (by decide) he hpl
theorem d_listf {p : Pos} {es : List Expr} {ms : Ev → Option (List D)} (hm : X.mg "list" = none) (ha : DA X (e :: es) ms) (hg : Gl X "list" := by rfl) (he : starEach (e :: es) X.env = (false, eval e X.env) :: starEach es X.env := by rfl) (hpl : (backTo pos (starEach es X.env)).any (·.1) = false := by rfl) : DE X (.Call (.Name "list" p) (e :: es) [] pos) (eB fList ms) := d_ct call_list_of rc_list hm ha (by decide +kernel) hg (by decide) (by decide) he hpl
theorem d_join {o : Expr} {apos : Pos} {mo : Ev → Option D} (ho : DE X o mo) (he : DE X e m) (hse : starEach [e] X.env = [(false, eval e X.env)] := by rfl) (hbase : attributeBase o "join" X.env (eval o X.env) = eval o X.env := by rfl) (hline : (apos.endLine == pos.line) = true := by rfl) : DE X (.Call (.Attribute o "join" apos) [e] [] pos) (eM mJoin mo (aC m aN)) := d_m1 PySem.F.slot_str_join PySem.F.type_str_join mt_join rm_join mJoin_str ho he hse hbase hline
theorem d_gi {x : Str} {i : Int} {t : Tok} (hm : X.mg x = some (.int i t)) (hg : Gl X x := by rfl) (hb : (x == ("__debug__" : Str)) = false := by decide) : DE X (.Name x pos) (eC (.int i)) := d_glob (v := .int i) hm ⟨t, rfl⟩ (fun _ => .int i) hg hb
theorem d_gs {x : Str} {i : Str} {t : Tok} (hm : X.mg x = some (.str i t)) (hg : Gl X x := by rfl) (hb : (x == ("__debug__" : Str)) = false := by decide) : DE X (.Name x pos) (eC (.str i)) := d_glob (v := .str i) hm ⟨t, rfl⟩ (fun _ => .str i) hg hb
theorem d_gt {x : Str} {a' : Addr} {d : D} (hm : X.mg x = some (.ref a')) (h : ∀ F, Rp X.K X.mg F (.ref a') d) (hg : Gl X x := by rfl) (hb : (x == ("__debug__" : Str)) = false := by decide) : DE X (.Name x pos) (eC d) := d_glob (v := .ref a') hm rfl h hg hb
/-- name += e -/
def opAddI : D → D → Option D
  | .int i, .int j => some (.int (i + j))
  | .str a, .str b => if okN (a.length + b.length) = true then some (.str (a ++ b)) else none
  | _, _ => none
def walkD : D → Option (List D)
  | .list ds => some ds
  | .tuple ds => some ds
  | .str z => if okN (z.length) = true then some (signsD z) else none
  | _ => none
def iA (m : Ev → Option D) : Ev → Option (List D) := fun ρ => (m ρ).bind walkD
def iAny (K : PySem.W.Frag) (tl : TE) : TI := fun σ H R => tl σ H fun x H1 => (∃ z, x = .str z ∧ R (Its z) H1) ∨ ∃ a, x = .ref a ∧ (((∃ xs, SqL K H1 a xs) ∧ R (Itl K a) H1) ∨ ((∃ xs, SqT K H1 a xs) ∧ R (Itt K a) H1))
theorem pi_any {tg l : Expr} {tl : TE} (hl : PE X l tl) : PI X tg l (iAny X.K tl) := by
  refine ⟨fun pins s σ H R I h => ?_⟩
  refine thn (hl.run pins s σ H _ I h) fun v s1 ⟨x, H1, I1, r1, q1⟩ => ?_
  rcases q1 with ⟨z, e, q⟩ | ⟨a, e, q⟩
  · subst e
    obtain ⟨t, rfl⟩ := r1
    cases ha : z.cps.all (· < 128)
    · exact wpAny_pyIter_wide ha (pi_one (tk := s1.toks) I1 _ (turn_str _ z t "str_iterator" (.inr rfl)) ⟨_, Heap.get?_push_size _ rfl, rfl, rfl⟩ q)
    · exact wpAny_pyIter_ascii ha (pi_one (tk := s1.toks) I1 _ (turn_str _ z t "str_ascii_iterator" (.inl rfl)) ⟨_, Heap.get?_push_size _ rfl, rfl, rfl⟩ q)
  · subst e
    cases r1
    rcases q with ⟨⟨xs, hq⟩, q⟩ | ⟨⟨xs, hq⟩, q⟩
    · obtain ⟨its, rv, p, hz⟩ := I1.list hq
      refine wpAny_pyIter_list p.isList ?_
      refine ⟨s1.heap.objs.size, [s1.heap.objs.size], _, _, H1, rfl, I1.kept (t' := s1.toks) fun b o e => Heap.get?_push_of_some _ e, turn_list a _, ⟨_, Heap.get?_push_size _ rfl, rfl, rfl⟩, fun b hb => ?_, q⟩
      have e : b = s1.heap.objs.size := by simpa using hb
      subst e
      exact I1.fpOk (Nat.le_refl _) (I1.hok.fresh (Nat.le_refl _))
    · obtain ⟨its, rv, p, hz⟩ := I1.tuple hq
      refine wpAny_pyIter_tuple (show s1.heap.IsTuple a its.toArray from p) ?_
      refine ⟨s1.heap.objs.size, [s1.heap.objs.size], _, _, H1, rfl, I1.kept (t' := s1.toks) fun b o e => Heap.get?_push_of_some _ e, turn_tuple a _, ⟨_, Heap.get?_push_size _ rfl, rfl, rfl⟩, fun b hb => ?_, q⟩
      have e : b = s1.heap.objs.size := by simpa using hb
      subst e
      exact I1.fpOk (Nat.le_refl _) (I1.hok.fresh (Nat.le_refl _))
theorem i_any {tg : Expr} (he : DE X e m) : DI X tg e (iA m) := PI.weak (pi_any he) fun σ H R ⟨F0, H0, F, ρ, ds, k, e, q⟩ => by
  obtain ⟨d, h1, e⟩ := bind_some e
  refine ⟨F0, H0, F, ρ, d, k, h1, fun v F1 H1 t1 r1 => ?_⟩
  cases r1 with
  | @lst a xs es hs ha =>
    cases e
    refine .inr ⟨a, rfl, .inl ⟨⟨xs, sqL_mono t1.s hs⟩, q _ F1 H1 t1 ⟨fun i H2 s2 hi => ⟨xs, _, sqL_mono s2 hs, List.getElem?_eq_getElem (by rw [ha.length]; exact hi)⟩, fun i H2 s2 hi => ⟨xs, sqL_mono s2 hs, by rw [ha.length]; exact hi⟩, fun i H2 x H3 F2 d s1 s2 hd y => ?_⟩⟩⟩
    obtain ⟨e1, y⟩ := y
    subst e1
    obtain ⟨v, hv1, hv2⟩ := ha.get hd
    have := y xs (sqL_mono (s1.trans s2) hs)
    rw [hv1] at this
    cases this
    exact ⟨F2, Stp.refl s2, hv2.mono s1⟩
  | @tup a xs es hs ha =>
    cases e
    refine .inr ⟨a, rfl, .inr ⟨⟨xs, sqT_mono t1.s hs⟩, q _ F1 H1 t1 ⟨fun i H2 s2 hi => ⟨xs, _, sqT_mono s2 hs, List.getElem?_eq_getElem (by rw [ha.length]; exact hi)⟩, fun i H2 s2 hi => ⟨xs, sqT_mono s2 hs, by rw [ha.length]; exact hi⟩, fun i H2 x H3 F2 d s1 s2 hd y => ?_⟩⟩⟩
    obtain ⟨e1, y⟩ := y
    subst e1
    obtain ⟨v, hv1, hv2⟩ := ha.get hd
    have := y xs (sqT_mono (s1.trans s2) hs)
    rw [hv1] at this
    cases this
    exact ⟨F2, Stp.refl s2, hv2.mono s1⟩
  | str z =>
    simp only [walkD] at e
    split at e
    · cases e
      have hl : (signsD z).length = z.cps.size := by simp [signsD]
      refine .inl ⟨z, rfl, q _ F1 H1 t1 ⟨fun i H s hi => by rw [hl] at hi; exact hi, fun i H s hi => by rw [hl] at hi; exact hi, fun i H2 x H3 F2 d s1 s2 hd y => ?_⟩⟩
      obtain ⟨e1, c, e2, e3⟩ := y
      subst e1
      subst e3
      obtain ⟨c', h3, rfl⟩ := signsD_get hd
      rw [e2] at h3
      cases h3
      exact ⟨F2, Stp.refl s2, .str _⟩
    · cases e
  | _ => simp [walkD, fnD] at e
end
/-- a def of the text as callers know it -/
structure DefOk (P : Program) (w : World) (K : PySem.W.Frag) (mg : Str → Option Value) (base : Heap) (k n : Nat) (x : Str) (ps : List Str) (m : List D → Option D) : Prop where
  ex : ∃ (f : Addr) (fd : FuncData), FnOk P w K mg base CX0 k f fd ps (spD K mg n m) ∧ mg x = some (.ref f) ∧ PySem.W.keepIn K (.ref f) = true ∧ Binds K fd ps []
end Dm


namespace Dm
open PySem PySem.Spec L2
def absI (i : Int) : Int := if i < 0 then -i else i
theorem absI_nn (i : Int) : 0 ≤ absI i := by
  unfold absI
  split <;> omega
section
variable {i j : Int} {a b : Str} {ds es : List D} {d e : D} {p q : Bool} {ρ : Ev}
@[simp] theorem okN_small {n : Nat} (h : n ≤ 1000) : okN n = true := okN_of (by omega)
-- APS
@[simp] theorem eV_ap (i : Nat) (ρ : Ev) : eV i ρ = match ρ[i]? with
  | some (some (.dat d)) => some d
  | _ => none := rfl
@[simp] theorem eC_ap (d : D) (z0 : Ev) : eC d z0 = some d := rfl
@[simp] theorem e1_ap (f : D → Option D) (a : Ev → Option D) (ρ : Ev) : e1 f a ρ = (a ρ).bind f := rfl
@[simp] theorem e2_ap (f : D → D → Option D) (a b : Ev → Option D) (ρ : Ev) : e2 f a b ρ = (a ρ).bind fun x => (b ρ).bind fun y => f x y := rfl
@[simp] theorem aN_ap  (z0 : Ev) : aN  z0 = some [] := rfl
@[simp] theorem aC_ap (a : Ev → Option D) (b : Ev → Option (List D)) (ρ : Ev) : aC a b ρ = (a ρ).bind fun x => (b ρ).bind fun y => some (x :: y) := rfl
@[simp] theorem eB_ap (f : List D → Option D) (a : Ev → Option (List D)) (ρ : Ev) : eB f a ρ = (a ρ).bind f := rfl
@[simp] theorem eM_ap (f : D → List D → Option D) (a : Ev → Option D) (as : Ev → Option (List D)) (ρ : Ev) : eM f a as ρ = (a ρ).bind fun x => (as ρ).bind fun y => f x y := rfl
@[simp] theorem eCall_ap (n : Nat) (f : List D → Option D) (a : Ev → Option (List D)) (ρ : Ev) : eCall n f a ρ = (a ρ).bind fun ds => if ds.length = n then f ds else none := rfl
@[simp] theorem eIf_ap (c : Ev → Option Bool) (a b : Ev → Option D) (ρ : Ev) : eIf c a b ρ = (c ρ).bind fun k => if k = true then a ρ else b ρ := rfl
@[simp] theorem eTup_ap (a : Ev → Option (List D)) (ρ : Ev) : eTup a ρ = (a ρ).bind fun ds => if okN (ds.length) = true then some (.tuple ds) else none := rfl
@[simp] theorem fLst_ap (a : Ev → Option (List D)) (ρ : Ev) : fLst a ρ = (a ρ).bind fun ds => if okN (ds.length) = true then some ds else none := rfl
@[simp] theorem eF_ap (a : Ev → Option (List D)) (ρ : Ev) : eF a ρ = (a ρ).bind fun ds => some (.list ds) := rfl
@[simp] theorem tB_ap (a : Ev → Option D) (ρ : Ev) : tB a ρ = (a ρ).bind toB := rfl
@[simp] theorem tTru_ap (a : Ev → Option D) (ρ : Ev) : tTru a ρ = (a ρ).bind truD := rfl
@[simp] theorem tAnd_ap (a b : Ev → Option Bool) (ρ : Ev) : tAnd a b ρ = (a ρ).bind fun k => if k = true then b ρ else some false := rfl
@[simp] theorem tOr_ap (a b : Ev → Option Bool) (ρ : Ev) : tOr a b ρ = (a ρ).bind fun k => if k = true then some true else b ρ := rfl
@[simp] theorem tNot_ap (a : Ev → Option Bool) (ρ : Ev) : tNot a ρ = (a ρ).bind fun k => some (!k) := rfl
@[simp] theorem eAnd_ap (a b : Ev → Option D) (ρ : Ev) : eAnd a b ρ = (a ρ).bind fun x => (toB x).bind fun k => if k = true then b ρ else some (.bool false) := rfl
@[simp] theorem eOr_ap (a b : Ev → Option D) (ρ : Ev) : eOr a b ρ = (a ρ).bind fun x => (toB x).bind fun k => if k = true then some (.bool true) else b ρ := rfl
@[simp] theorem eNot_ap (a : Ev → Option D) (ρ : Ev) : eNot a ρ = (a ρ).bind fun x => (truD x).bind fun k => some (.bool (!k)) := rfl
@[simp] theorem eChain_ap (f g : D → D → Option D) (a b c : Ev → Option D) (ρ : Ev) : eChain f g a b c ρ = (a ρ).bind fun x => (b ρ).bind fun y => (f x y).bind fun z => (toB z).bind fun k =>
  if k = true then (c ρ).bind fun u => g y u else some (.bool false) := rfl
@[simp] theorem oN_ap  (z0 : Ev) : oN  z0 = some none := rfl
@[simp] theorem oS_ap (a : Ev → Option D) (ρ : Ev) : oS a ρ = (a ρ).bind fun x => (toI x).bind fun i => some (some i) := rfl
@[simp] theorem eSl_ap (a : Ev → Option D) (lo hi : Ev → Option (Option Int)) (ρ : Ev) : eSl a lo hi ρ = (a ρ).bind fun x => (lo ρ).bind fun l => (hi ρ).bind fun h => sliceD x l h := rfl
@[simp] theorem ownOf_ap (i : Nat) (ρ : Ev) : ownOf i ρ = match ρ[i]? with
  | some (some (.own ds)) => some ds
  | some (some (.dat (.list ds))) => some ds
  | _ => none := rfl
@[simp] theorem eIxO_ap (i : Nat) (k : Ev → Option D) (ρ : Ev) : eIxO i k ρ = (ownOf i ρ).bind fun ds => (k ρ).bind fun x => (toI x).bind fun j => atI ds j := rfl
@[simp] theorem eLenO_ap (i : Nat) (ρ : Ev) : eLenO i ρ = (ownOf i ρ).bind fun ds => some (.int ds.length) := rfl
@[simp] theorem sNop_ap  (ρ : Ev) : sNop  ρ = some (.nx ρ) := rfl
@[simp] theorem sSeq_ap (a b : Ev → Option Out) (ρ : Ev) : sSeq a b ρ = (a ρ).bind fun o => match o with
  | .nx ρ' => b ρ'
  | o => some o := rfl
@[simp] theorem sSet_ap (i : Nat) (m : Ev → Option D) (ρ : Ev) : sSet i m ρ = (m ρ).bind fun d => some (.nx (ρ.set i (some (.dat d)))) := rfl
@[simp] theorem sOwn_ap (i : Nat) (m : Ev → Option (List D)) (ρ : Ev) : sOwn i m ρ = (m ρ).bind fun ds => some (.nx (ρ.set i (some (.own ds)))) := rfl
@[simp] theorem sRet_ap (m : Ev → Option D) (ρ : Ev) : sRet m ρ = (m ρ).bind fun d => some (.rt d) := rfl
@[simp] theorem sRetN_ap  (z0 : Ev) : sRetN  z0 = some (.rt .none) := rfl
@[simp] theorem sBreak_ap  (ρ : Ev) : sBreak  ρ = some (.bk ρ) := rfl
@[simp] theorem sCont_ap  (ρ : Ev) : sCont  ρ = some (.ct ρ) := rfl
@[simp] theorem sIf_ap (t : Ev → Option Bool) (a b : Ev → Option Out) (ρ : Ev) : sIf t a b ρ = (t ρ).bind fun k => if k = true then a ρ else b ρ := rfl
@[simp] theorem sIce_ap (is : List Nat) (m : Ev → Option Out) (ρ : Ev) : sIce is m ρ = m (ices is ρ) := rfl
@[simp] theorem sApp_ap (i : Nat) (m : Ev → Option D) (ρ : Ev) : sApp i m ρ = (ownAt i ρ).bind fun ds => (m ρ).bind fun d => if okN ds.length = true then some (.nx (ρ.set i (some (.own (ds ++ [d]))))) else none := rfl
@[simp] theorem sAug_ap (i : Nat) (f : D → D → Option D) (m : Ev → Option D) (ρ : Ev) : sAug i f m ρ = (eV i ρ).bind fun x => (m ρ).bind fun y => (f x y).bind fun z => some (.nx (ρ.set i (some (.dat z)))) := rfl
@[simp] theorem sAsg_ap (g : D → Ev → Option Ev) (m : Ev → Option D) (ρ : Ev) : sAsg g m ρ = (m ρ).bind fun d => (g d ρ).bind fun ρ' => some (.nx ρ') := rfl
@[simp] theorem gN_ap (i : Nat) (d : D) (ρ : Ev) : gN i d ρ = some (ρ.set i (some (.dat d))) := rfl
@[simp] theorem sFor_ap (g : D → Ev → Option Ev) (m : Ev → Option (List D)) (b : Ev → Option Out) (ρ : Ev) : sFor g m b ρ = (m ρ).bind fun ds => forL g b ds ρ := rfl
@[simp] theorem iSq_ap (m : Ev → Option D) (ρ : Ev) : iSq m ρ = (m ρ).bind seqD := rfl
@[simp] theorem iR1_ap (m : Ev → Option D) (ρ : Ev) : iR1 m ρ = (m ρ).bind fun x => (toI x).bind fun n => rng1 n := rfl
@[simp] theorem iR2_ap (a b : Ev → Option D) (ρ : Ev) : iR2 a b ρ = (a ρ).bind fun x => (toI x).bind fun i => (b ρ).bind fun y => (toI y).bind fun j => rng2 i j := rfl
@[simp] theorem iStr_ap (m : Ev → Option D) (ρ : Ev) : iStr m ρ = (m ρ).bind fun x => match x with
  | .str z => if okN (z.length) = true then some (signsD z) else none
  | _ => none := rfl
@[simp] theorem fLc_ap (i : Nat) (m : Ev → Option (List D)) (t : Ev → Option Bool) (e : Ev → Option D) (ρ : Ev) : fLc i m t e ρ = (m ρ).bind fun ds => if okN (ds.length) = true then lcL i t e ρ ds else none := rfl
@[simp] theorem tYs_ap  (z0 : Ev) : tYs  z0 = some true := rfl
@[simp] theorem iA_ap (m : Ev → Option D) (ρ : Ev) : iA m ρ = (m ρ).bind walkD := rfl
@[simp] theorem outD_rt : outD (.rt d) = some d := rfl
@[simp] theorem outD_nx : outD (.nx ρ) = some .none := rfl
@[simp] theorem toB_bool : toB (.bool p) = some p := rfl
@[simp] theorem toI_int : toI (.int i) = some i := rfl
@[simp] theorem truD_none : truD .none = some false := rfl
@[simp] theorem truD_bool : truD (.bool p) = some p := rfl
@[simp] theorem truD_int : truD (.int i) = some (i != 0) := rfl
@[simp] theorem truD_list : truD (.list ds) = some (!ds.isEmpty) := rfl
@[simp] theorem truD_tuple : truD (.tuple ds) = some (!ds.isEmpty) := rfl
@[simp] theorem opAdd_int : opAdd (.int i) (.int j) = some (.int (i + j)) := rfl
@[simp] theorem opAdd_list : opAdd (.list ds) (.list es) = if okN (ds.length + es.length) = true then some (.list (ds ++ es)) else none := rfl
theorem opAdd_str : opAdd (.str a) (.str b) = if okN (a.length + b.length) = true then some (.str (a ++ b)) else none := rfl
@[simp] theorem opSub_int : opSub (.int i) (.int j) = some (.int (i - j)) := rfl
@[simp] theorem opNeg_int : opNeg (.int i) = some (.int (-i)) := rfl
@[simp] theorem opMod_pos (h : 0 < j) : opMod (.int i) (.int j) = some (.int (i % j)) := by
  have h0 : j ≠ 0 := by omega
  simp [opMod, h0, Int.fmod_eq_emod_of_nonneg i (by omega : 0 ≤ j)]
@[simp] theorem opDiv_pos (h : 0 < j) (h2 : j < 18446744073709551616) : opDiv (.int i) (.int j) = some (.int (i / j)) := by
  have h0 : j ≠ 0 := by omega
  have h3 : j.natAbs.log2.log2 < 13 := by
    have : j.natAbs < 2 ^ 64 := by omega
    have := (Nat.log2_lt (by omega)).mpr this
    by_cases h5 : j.natAbs.log2 = 0
    · rw [h5]
      decide
    · exact (Nat.log2_lt h5).mpr (by omega)
  simp [opDiv, h0, h3, Int.fdiv_eq_ediv_of_nonneg i (by omega : 0 ≤ j)]
theorem pow_7 : (10 : Int) ^ 7 = 10000000 := by decide
@[simp] theorem opPow_7 : opPow (.int 10) (.int 7) = some (.int 10000000) := by
  show (if (0 : Int) ≤ 7 ∧ (7 : Int) ≤ 1000000 ∧ (10 : Int).natAbs < 2 ^ 64 then some (PyData.int ((10 : Int) ^ (7 : Int).toNat)) else none) = _
  rw [if_pos (by decide), show (10 : Int) ^ (7 : Int).toNat = 10000000 from pow_7]
theorem pow_9 : (10 : Int) ^ 9 = 1000000000 := by decide
@[simp] theorem opPow_9 : opPow (.int 10) (.int 9) = some (.int 1000000000) := by
  show (if (0 : Int) ≤ 9 ∧ (9 : Int) ≤ 1000000 ∧ (10 : Int).natAbs < 2 ^ 64 then some (PyData.int ((10 : Int) ^ (9 : Int).toNat)) else none) = _
  rw [if_pos (by decide), show (10 : Int) ^ (9 : Int).toNat = 1000000000 from pow_9]
theorem pow_14 : (10 : Int) ^ 14 = 100000000000000 := by decide
@[simp] theorem opPow_14 : opPow (.int 10) (.int 14) = some (.int 100000000000000) := by
  show (if (0 : Int) ≤ 14 ∧ (14 : Int) ≤ 1000000 ∧ (10 : Int).natAbs < 2 ^ 64 then some (PyData.int ((10 : Int) ^ (14 : Int).toNat)) else none) = _
  rw [if_pos (by decide), show (10 : Int) ^ (14 : Int).toNat = 100000000000000 from pow_14]
theorem pow_18 : (10 : Int) ^ 18 = 1000000000000000000 := by decide
@[simp] theorem opPow_18 : opPow (.int 10) (.int 18) = some (.int 1000000000000000000) := by
  show (if (0 : Int) ≤ 18 ∧ (18 : Int) ≤ 1000000 ∧ (10 : Int).natAbs < 2 ^ 64 then some (PyData.int ((10 : Int) ^ (18 : Int).toNat)) else none) = _
  rw [if_pos (by decide), show (10 : Int) ^ (18 : Int).toNat = 1000000000000000000 from pow_18]
theorem pow_21 : (10 : Int) ^ 21 = 1000000000000000000000 := by decide
@[simp] theorem opPow_21 : opPow (.int 10) (.int 21) = some (.int 1000000000000000000000) := by
  show (if (0 : Int) ≤ 21 ∧ (21 : Int) ≤ 1000000 ∧ (10 : Int).natAbs < 2 ^ 64 then some (PyData.int ((10 : Int) ^ (21 : Int).toNat)) else none) = _
  rw [if_pos (by decide), show (10 : Int) ^ (21 : Int).toNat = 1000000000000000000000 from pow_21]
theorem opMul_ok (h : Builtin.Int.intBits i + Builtin.Int.intBits j ≤ 134217727) : opMul (.int i) (.int j) = some (.int (i * j)) := by
  simp [opMul, okM_of h]
theorem bits_le (i : Int) : Builtin.Int.intBits i ≤ i.natAbs.log2 + 1 := by
  unfold Builtin.Int.intBits
  split <;> omega
theorem bits_small {k : Nat} (h : i.natAbs < 2 ^ k) : Builtin.Int.intBits i ≤ k + 1 := by
  by_cases h0 : i.natAbs = 0
  · have := bits_le i
    rw [h0] at this
    have e : Nat.log2 0 = 0 := by decide
    omega
  · have := bits_le i
    have h2 := (Nat.log2_lt h0).mpr h
    omega
@[simp] theorem opMul_small (h1 : i.natAbs < 2 ^ 1000) (h2 : j.natAbs < 2 ^ 1000) : opMul (.int i) (.int j) = some (.int (i * j)) := by
  have := bits_small h1
  have := bits_small h2
  exact opMul_ok (by omega)
theorem eqv_int : PyData.eqv (.int i) (.int j) = decide (i = j) := by
  rw [Bool.eq_iff_iff]
  simp [PyData.eqv]
theorem eqv_str : PyData.eqv (.str a) (.str b) = decide (a = b) := by
  rw [Bool.eq_iff_iff]
  simp [PyData.eqv]
theorem eqv_bool : PyData.eqv (.bool p) (.bool q) = decide (p = q) := by
  rw [Bool.eq_iff_iff]
  simp [PyData.eqv]
@[simp] theorem cEq_int : cEq (.int i) (.int j) = some (.bool (decide (i = j))) := by simp [cEq, eqD, scalD, eqv_int]
@[simp] theorem cNe_int : cNe (.int i) (.int j) = some (.bool (!decide (i = j))) := by simp [cNe, eqD, scalD, eqv_int]
@[simp] theorem cEq_str : cEq (.str a) (.str b) = some (.bool (decide (a = b))) := by simp [cEq, eqD, scalD, eqv_str]
@[simp] theorem cNe_str : cNe (.str a) (.str b) = some (.bool (!decide (a = b))) := by simp [cNe, eqD, scalD, eqv_str]
@[simp] theorem cEq_bool : cEq (.bool p) (.bool q) = some (.bool (decide (p = q))) := by simp [cEq, eqD, scalD, eqv_bool]
@[simp] theorem cNe_bool : cNe (.bool p) (.bool q) = some (.bool (!decide (p = q))) := by simp [cNe, eqD, scalD, eqv_bool]
@[simp] theorem cEq_is : cEq (.int i) (.str a) = some (.bool false) := by simp [cEq, eqD, scalD, PyData.eqv]
@[simp] theorem cNe_is : cNe (.int i) (.str a) = some (.bool true) := by simp [cNe, eqD, scalD, PyData.eqv]
@[simp] theorem cLt_int : cLt (.int i) (.int j) = some (.bool (decide (i < j))) := rfl
@[simp] theorem cLe_int : cLe (.int i) (.int j) = some (.bool (decide (i ≤ j))) := rfl
@[simp] theorem cGt_int : cGt (.int i) (.int j) = some (.bool (decide (j < i))) := rfl
@[simp] theorem cGe_int : cGe (.int i) (.int j) = some (.bool (decide (j ≤ i))) := rfl
@[simp] theorem cLt_str : cLt (.str a) (.str b) = some (.bool (decide (a.cps.toList < b.cps.toList))) := rfl
@[simp] theorem cGt_str : cGt (.str a) (.str b) = some (.bool (decide (b.cps.toList < a.cps.toList))) := rfl
@[simp] theorem cLt_bool : cLt (.bool p) (.bool q) = some (.bool (!p && q)) := rfl
@[simp] theorem cGt_bool : cGt (.bool p) (.bool q) = some (.bool (p && !q)) := rfl
@[simp] theorem isNon_none : isNon .none = true := rfl
@[simp] theorem isNon_bool : isNon (.bool p) = false := rfl
@[simp] theorem isNon_int : isNon (.int i) = false := rfl
@[simp] theorem isNon_str : isNon (.str a) = false := rfl
@[simp] theorem isNon_list : isNon (.list ds) = false := rfl
@[simp] theorem isNon_tuple : isNon (.tuple ds) = false := rfl
@[simp] theorem isNon_dict {kvs : List (D × D)} : isNon (.dict kvs) = false := rfl
@[simp] theorem cIsN_none : cIsN d .none = some (.bool (isNon d)) := rfl
@[simp] theorem cNotN_none : cNotN d .none = some (.bool (!isNon d)) := rfl
@[simp] theorem ixD_list : ixD (.list ds) (.int i) = atI ds i := rfl
@[simp] theorem ixD_tuple : ixD (.tuple ds) (.int i) = atI ds i := rfl
@[simp] theorem fLen_list : fLen [.list ds] = some (.int ds.length) := rfl
@[simp] theorem fLen_tuple : fLen [.tuple ds] = some (.int ds.length) := rfl
theorem fLen_str : fLen [.str a] = if okN (a.length) = true then some (.int a.length) else none := rfl
@[simp] theorem fAbs_int : fAbs [.int i] = some (.int (absI i)) := rfl
@[simp] theorem fInt_int : fInt [.int i] = some (.int i) := rfl
@[simp] theorem fInt_bool : fInt [.bool p] = some (.int (if p then 1 else 0)) := rfl
@[simp] theorem fMax2_int : fMax2 [.int i, .int j] = some (.int (if j > i then j else i)) := rfl
@[simp] theorem fMin2_int : fMin2 [.int i, .int j] = some (.int (if j < i then j else i)) := rfl
@[simp] theorem fTuple_list : fTuple [.list ds] = some (.tuple ds) := rfl
@[simp] theorem fTuple_tuple : fTuple [.tuple ds] = some (.tuple ds) := rfl
@[simp] theorem fList_list : fList [.list ds] = some (.list ds) := rfl
@[simp] theorem fList_tuple : fList [.tuple ds] = some (.list ds) := rfl
@[simp] theorem isD_none {T : String} : isD T .none = some (.bool (isTy "NoneType" T)) := rfl
@[simp] theorem isD_bool {T : String} : isD T (.bool p) = some (.bool (isTy "bool" T)) := rfl
@[simp] theorem isD_int {T : String} : isD T (.int i) = some (.bool (isTy "int" T)) := rfl
@[simp] theorem isD_str {T : String} : isD T (.str a) = some (.bool (isTy "str" T)) := rfl
@[simp] theorem isD_list {T : String} : isD T (.list ds) = some (.bool (isTy "list" T)) := rfl
@[simp] theorem isD_tuple {T : String} : isD T (.tuple ds) = some (.bool (isTy "tuple" T)) := rfl
@[simp] theorem isD_emp {T : String} : isD T (.dict []) = some (.bool (isTy "dict" T)) := rfl
@[simp] theorem sliceD_list {lo hi : Option Int} : sliceD (.list ds) lo hi = some (.list (cutD ds lo hi)) := rfl
@[simp] theorem sliceD_tuple {lo hi : Option Int} : sliceD (.tuple ds) lo hi = some (.tuple (cutD ds lo hi)) := rfl
@[simp] theorem opAddI_int : opAddI (.int i) (.int j) = some (.int (i + j)) := rfl
@[simp] theorem walkD_list : walkD (.list ds) = some ds := rfl
@[simp] theorem walkD_tuple : walkD (.tuple ds) = some ds := rfl
@[simp] theorem notD_bool : notD (.bool p) = some (.bool (!p)) := rfl
@[simp] theorem flatD_none : flatD .none = true := rfl
@[simp] theorem flatD_bool : flatD (.bool p) = true := rfl
@[simp] theorem flatD_int : flatD (.int i) = true := rfl
@[simp] theorem flatD_str : flatD (.str a) = true := rfl
@[simp] theorem cIn_list : cIn d (.list ds) = inG d ds := rfl
@[simp] theorem cIn_tuple : cIn d (.tuple ds) = inG d ds := rfl
@[simp] theorem forL_nil {g : D → Ev → Option Ev} {b : Ev → Option Out} : forL g b [] ρ = some (.nx ρ) := rfl
theorem forL_cons {g : D → Ev → Option Ev} {b : Ev → Option Out} : forL g b (d :: ds) ρ = (g d ρ).bind fun ρ1 => (b ρ1).bind fun o => match o with
    | .nx ρ2 => forL g b ds ρ2
    | .ct ρ2 => forL g b ds ρ2
    | .bk ρ2 => some (.nx ρ2)
    | .rt v => some (.rt v) := rfl
/-- a turn that goes on -/
theorem forL_nx {g : D → Ev → Option Ev} {b : Ev → Option Out} {ρ1 ρ2 : Ev} (h1 : g d ρ = some ρ1) (h2 : b ρ1 = some (.nx ρ2)) : forL g b (d :: ds) ρ = forL g b ds ρ2 := by simp [forL_cons, h1, h2]
/-- a loop by its invariant: every turn goes on -/
theorem forL_inv {g : D → Ev → Option Ev} {b : Ev → Option Out} (I : Nat → Ev → Prop) : ∀ (es : List D) (n : Nat) (ρ : Ev), (∀ (i : Nat) (d : D) (ρ : Ev), es[i]? = some d → I (n + i) ρ → ∃ ρ1 ρ2, g d ρ = some ρ1 ∧ b ρ1 = some (.nx ρ2) ∧ I (n + i + 1) ρ2) → I n ρ → ∃ ρ', forL g b es ρ = some (.nx ρ') ∧ I (n + es.length) ρ'
  | [], n, ρ, _, h => ⟨ρ, rfl, h⟩
  | d :: es, n, ρ, hs, h => by
    obtain ⟨ρ1, ρ2, h1, h2, h3⟩ := hs 0 d ρ rfl h
    obtain ⟨ρ', h4, h5⟩ := forL_inv I es (n + 1) ρ2 (fun i d ρ e q => by
      have := hs (i + 1) d ρ (by simpa using e) (by rw [show n + (i + 1) = n + 1 + i by omega]; exact q)
      rw [show n + 1 + i + 1 = n + (i + 1) + 1 by omega]
      exact this) h3
    refine ⟨ρ', by rw [forL_nx h1 h2]; exact h4, ?_⟩
    rw [show n + (d :: es).length = n + 1 + es.length by simp; omega]
    exact h5
theorem forR_inv {g : D → Ev → Option Ev} {b : Ev → Option Out} (I : Nat → Ev → Prop) {n : Nat} {ρ : Ev} (hs : ∀ (k : Nat) (ρ : Ev), k < n → I k ρ → ∃ ρ1 ρ2, g (.int (k : Int)) ρ = some ρ1 ∧ b ρ1 = some (.nx ρ2) ∧ I (k + 1) ρ2) (h : I 0 ρ) : ∃ ρ', forL g b (rangeD 0 (n : Int)) ρ = some (.nx ρ') ∧ I n ρ' := by
  obtain ⟨ρ', h1, h2⟩ := forL_inv I (rangeD 0 (n : Int)) 0 ρ (fun i d ρ e q => by
    obtain ⟨h3, rfl⟩ := rangeD_get e
    rw [Nat.zero_add] at q ⊢
    have := hs i ρ (by omega) q
    rw [Int.zero_add]
    exact this) h
  refine ⟨ρ', h1, ?_⟩
  rw [rangeD_len] at h2
  have e : 0 + ((n : Int) - 0).toNat = n := by omega
  rw [e] at h2
  exact h2
@[simp] theorem lcL_nil {k : Nat} {t : Ev → Option Bool} {f : Ev → Option D} : lcL k t f ρ [] = some [] := rfl
theorem boolsOf_of (ns : List Bool) : boolsOf (ns.map PyData.bool) = some ns := by
  induction ns with
  | nil => rfl
  | cons n ns ih =>
    show (boolsOf (ns.map PyData.bool)).bind _ = _
    rw [ih]
    rfl
theorem strsOf_of (ns : List Str) : strsOf (ns.map PyData.str) = some ns := by
  induction ns with
  | nil => rfl
  | cons n ns ih =>
    show (strsOf (ns.map PyData.str)).bind _ = _
    rw [ih]
    rfl
theorem shaped_nil : SeqAt.shaped (.list []) = true := by decide
/-- a list of data that are shaped, none deep -/
theorem shaped_all {ds : List D} (h : ∀ d ∈ ds, PyData.canLay0 d = true ∧ PyData.depth d ≤ 60) : SeqAt.shaped (.list ds) = true := by
  have h1 : PyData.canLayAll0 ds = true ∧ PyData.depthAll ds ≤ 60 := by
    induction ds with
    | nil => exact ⟨rfl, by simp [PyData.depthAll]⟩
    | cons d ds ih =>
      obtain ⟨a, b⟩ := h d List.mem_cons_self
      obtain ⟨c, e⟩ := ih fun x hx => h x (List.mem_cons_of_mem _ hx)
      refine ⟨by simp [PyData.canLayAll0, a, c], ?_⟩
      simp only [PyData.depthAll]
      omega
  have h2 := h1.2
  show (PyData.canLay0 (.list ds) && decide (PyData.depth (.list ds) ≤ 64)) = true
  rw [Bool.and_eq_true]
  refine ⟨by simp only [PyData.canLay0]; exact h1.1, decide_eq_true ?_⟩
  simp only [PyData.depth]
  omega
theorem cEq_self {d : D} (h : SeqAt.shaped d = true) : cEq d d = some (.bool true) := by
  have h1 := SeqAt.eqv_refl d (SeqAt.canLay_of_shaped h)
  simp [cEq, eqD, h, h1]
theorem cEq_nil_nil : cEq (.list []) (.list []) = some (.bool true) := cEq_self shaped_nil
theorem atI_nat {α : Type} {xs : List α} {k : Nat} : atI xs (k : Int) = xs[k]? := by
  unfold atI ixN
  by_cases h : k < xs.length
  · have : (k : Int) < xs.length := by omega
    simp [this]
  · have h2 : ¬ (k : Int) < xs.length := by omega
    simp [h2, List.getElem?_eq_none (by omega : xs.length ≤ k)]
theorem atI_pos {α : Type} {xs : List α} {i : Int} (h : 0 ≤ i) : atI xs i = xs[i.toNat]? := by
  obtain ⟨k, rfl⟩ := Int.eq_ofNat_of_zero_le h
  rw [atI_nat]
  rfl
@[simp] theorem atI_0 {α : Type} {x : α} {xs : List α} : atI (x :: xs) 0 = some x := by rw [atI_pos (by omega)]; rfl
@[simp] theorem ices_nil : ices [] ρ = ρ := rfl
@[simp] theorem ices_cons {k : Nat} {ks : List Nat} : ices (k :: ks) ρ = ices ks (ice ρ k) := rfl
@[simp] theorem ice_def {k : Nat} : ice ρ k = match ρ[k]? with
  | some (some (.own ds)) => ρ.set k (some (.dat (.list ds)))
  | _ => ρ := rfl
@[simp] theorem atI_1 {α : Type} {xs : List α} : atI xs 1 = xs[1]? := atI_nat (k := 1)
@[simp] theorem atI_2 {α : Type} {xs : List α} : atI xs 2 = xs[2]? := atI_nat (k := 2)
@[simp] theorem atI_3 {α : Type} {xs : List α} : atI xs 3 = xs[3]? := atI_nat (k := 3)
@[simp] theorem atI_4 {α : Type} {xs : List α} : atI xs 4 = xs[4]? := atI_nat (k := 4)
@[simp] theorem atI_5 {α : Type} {xs : List α} : atI xs 5 = xs[5]? := atI_nat (k := 5)
@[simp] theorem atI_6 {α : Type} {xs : List α} : atI xs 6 = xs[6]? := atI_nat (k := 6)
@[simp] theorem atI_7 {α : Type} {xs : List α} : atI xs 7 = xs[7]? := atI_nat (k := 7)
@[simp] theorem atI_8 {α : Type} {xs : List α} : atI xs 8 = xs[8]? := atI_nat (k := 8)
@[simp] theorem atI_9 {α : Type} {xs : List α} : atI xs 9 = xs[9]? := atI_nat (k := 9)
@[simp] theorem atI_10 {α : Type} {xs : List α} : atI xs 10 = xs[10]? := atI_nat (k := 10)
@[simp] theorem atI_11 {α : Type} {xs : List α} : atI xs 11 = xs[11]? := atI_nat (k := 11)
@[simp] theorem atI_12 {α : Type} {xs : List α} : atI xs 12 = xs[12]? := atI_nat (k := 12)
@[simp] theorem atI_13 {α : Type} {xs : List α} : atI xs 13 = xs[13]? := atI_nat (k := 13)
@[simp] theorem atI_14 {α : Type} {xs : List α} : atI xs 14 = xs[14]? := atI_nat (k := 14)
@[simp] theorem atI_15 {α : Type} {xs : List α} : atI xs 15 = xs[15]? := atI_nat (k := 15)
@[simp] theorem atI_16 {α : Type} {xs : List α} : atI xs 16 = xs[16]? := atI_nat (k := 16)
@[simp] theorem atI_17 {α : Type} {xs : List α} : atI xs 17 = xs[17]? := atI_nat (k := 17)
@[simp] theorem atI_18 {α : Type} {xs : List α} : atI xs 18 = xs[18]? := atI_nat (k := 18)
@[simp] theorem atI_19 {α : Type} {xs : List α} : atI xs 19 = xs[19]? := atI_nat (k := 19)
@[simp] theorem atI_20 {α : Type} {xs : List α} : atI xs 20 = xs[20]? := atI_nat (k := 20)
@[simp] theorem atI_21 {α : Type} {xs : List α} : atI xs 21 = xs[21]? := atI_nat (k := 21)
@[simp] theorem atI_22 {α : Type} {xs : List α} : atI xs 22 = xs[22]? := atI_nat (k := 22)
@[simp] theorem atI_23 {α : Type} {xs : List α} : atI xs 23 = xs[23]? := atI_nat (k := 23)
@[simp] theorem atI_24 {α : Type} {xs : List α} : atI xs 24 = xs[24]? := atI_nat (k := 24)
@[simp] theorem atI_25 {α : Type} {xs : List α} : atI xs 25 = xs[25]? := atI_nat (k := 25)
@[simp] theorem atI_26 {α : Type} {xs : List α} : atI xs 26 = xs[26]? := atI_nat (k := 26)
@[simp] theorem atI_27 {α : Type} {xs : List α} : atI xs 27 = xs[27]? := atI_nat (k := 27)
@[simp] theorem atI_28 {α : Type} {xs : List α} : atI xs 28 = xs[28]? := atI_nat (k := 28)
@[simp] theorem atI_29 {α : Type} {xs : List α} : atI xs 29 = xs[29]? := atI_nat (k := 29)
@[simp] theorem atI_30 {α : Type} {xs : List α} : atI xs 30 = xs[30]? := atI_nat (k := 30)
@[simp] theorem atI_31 {α : Type} {xs : List α} : atI xs 31 = xs[31]? := atI_nat (k := 31)
@[simp] theorem atI_32 {α : Type} {xs : List α} : atI xs 32 = xs[32]? := atI_nat (k := 32)
@[simp] theorem atI_33 {α : Type} {xs : List α} : atI xs 33 = xs[33]? := atI_nat (k := 33)
@[simp] theorem atI_34 {α : Type} {xs : List α} : atI xs 34 = xs[34]? := atI_nat (k := 34)
@[simp] theorem atI_35 {α : Type} {xs : List α} : atI xs 35 = xs[35]? := atI_nat (k := 35)
@[simp] theorem atI_36 {α : Type} {xs : List α} : atI xs 36 = xs[36]? := atI_nat (k := 36)
@[simp] theorem atI_37 {α : Type} {xs : List α} : atI xs 37 = xs[37]? := atI_nat (k := 37)
@[simp] theorem atI_38 {α : Type} {xs : List α} : atI xs 38 = xs[38]? := atI_nat (k := 38)
@[simp] theorem atI_39 {α : Type} {xs : List α} : atI xs 39 = xs[39]? := atI_nat (k := 39)
@[simp] theorem atI_40 {α : Type} {xs : List α} : atI xs 40 = xs[40]? := atI_nat (k := 40)
/-- an item at a literal place -/
@[simp] theorem atI_lit {α : Type} {xs : List α} {n : Nat} : atI xs (OfNat.ofNat n : Int) = xs[n]? := by
  have : (OfNat.ofNat n : Int) = (n : Int) := rfl
  rw [this, atI_nat]
end
end Dm


namespace Dm
open PySem PySem.Spec L2 PySem.SeqAt
open PySem.AutoSeq1 (wpAny_loadPart')
open PySem.MeetsSeq PySem.MeetsSeq2 PySem.MeetsSeq3
inductive scLt : V → V → Bool → Prop
  | int (i j : Int) : scLt (.int i) (.int j) (decide (i < j))
  | str (a b : Str) : scLt (.str a) (.str b) (decide (a.cps.toList < b.cps.toList))
  | bl (p q : Bool) : scLt (.bl p) (.bl q) (!p && q)
inductive scGt : V → V → Bool → Prop
  | int (i j : Int) : scGt (.int i) (.int j) (decide (j < i))
  | str (a b : Str) : scGt (.str a) (.str b) (decide (b.cps.toList < a.cps.toList))
  | bl (p q : Bool) : scGt (.bl p) (.bl q) (p && !q)
theorem scLt.rc {A : Around} {s : Shared} {x y : V} {r : Bool} {v u : Value} (h : scLt x y r) (rx : RelV x v) (ry : RelV y u) : Ob.RcOp .Lt A s v u r := by
  cases h with
  | int i j =>
    obtain ⟨t, rfl⟩ := rx
    obtain ⟨t', rfl⟩ := ry
    exact fun prog w E Q q => PyProof.Rows.lt_int q
  | str a b =>
    obtain ⟨t, rfl⟩ := rx
    obtain ⟨t', rfl⟩ := ry
    exact fun prog w E Q q => PyProof.Rows.lt_str q
  | bl p q' =>
    cases rx
    cases ry
    have e : decide (PyProof.Rows.b2i p < PyProof.Rows.b2i q') = (!p && q') := by cases p <;> cases q' <;> decide
    exact fun prog w E Q q => PyProof.Rows.lt_bool (by rw [e]; exact q)
theorem scGt.rc {A : Around} {s : Shared} {x y : V} {r : Bool} {v u : Value} (h : scGt x y r) (rx : RelV x v) (ry : RelV y u) : Ob.RcOp .Gt A s v u r := by
  cases h with
  | int i j =>
    obtain ⟨t, rfl⟩ := rx
    obtain ⟨t', rfl⟩ := ry
    exact fun prog w E Q q => PyProof.Rows.gt_int q
  | str a b =>
    obtain ⟨t, rfl⟩ := rx
    obtain ⟨t', rfl⟩ := ry
    exact fun prog w E Q q => PySem.P.gt_str q
  | bl p q' =>
    cases rx
    cases ry
    have e : decide (PyProof.Rows.b2i p > PyProof.Rows.b2i q') = (p && !q') := by cases p <;> cases q' <;> decide
    exact fun prog w E Q q => PyProof.Rows.gt_bool (by rw [e]; exact q)
variable {K : PySem.W.Frag} {mg : Str → Option Value}
def cLtT (a b : D) : Option D := match a, b with
  | .tuple [a0, a1], .tuple [b0, b1] => if flatD a0 = true ∧ flatD a1 = true ∧ flatD b0 = true ∧ flatD b1 = true then (if PyData.eqv a0 b0 = true then (if PyData.eqv a1 b1 = true then some (.bool false) else cLt a1 b1) else cLt a0 b0) else none
  | a, b => cLt a b
section
variable {X : Cx} {k : Nat}
end
end Dm


namespace Dm
open PySem PySem.Spec L2 PyProof.Rows
def fnOf? : D → Option Str
  | .dict [(.none, .str y)] => some y
  | _ => none
theorem fnOf_some {d : D} {y : Str} (h : fnOf? d = some y) : d = fnD y := by
  unfold fnOf? at h
  split at h
  · cases h
    rfl
  · cases h
@[simp] theorem fnOf_fnD (y : Str) : fnOf? (fnD y) = some y := rfl
def look {α : Type} (z : Str) : List (Str × α) → Option α
  | [] => none
  | (k, a) :: r => if k = z then some a else look z r
theorem look_mem {α : Type} {z : Str} {a : α} : ∀ {ks : List (Str × α)}, look z ks = some a → (z, a) ∈ ks
  | [], h => by cases h
  | (k, b) :: r, h => by
    unfold look at h
    split at h
    · rename_i e
      cases h
      subst e
      exact List.mem_cons_self
    · exact List.mem_cons_of_mem _ (look_mem h)
def inTab (x : Str) (ks : List (Str × Bool)) (d t : D) : Option D := match d with
  | .str z => (fnOf? t).bind fun y => if y = x then (look z ks).bind fun b => some (.bool b) else none
  | _ => none
theorem rp_fn {K : PySem.W.Frag} {mg : Str → Option Value} {F : Hp} {v : V} {y : Str} {a : Addr} (r : Rp K mg F v (fnD y)) (h : mg y = some (.ref a)) : v = .ref a := by
  generalize hd : fnD y = d at r
  cases r with
  | fn hm =>
    simp only [fnD, PyData.dict.injEq, List.cons.injEq, Prod.mk.injEq, PyData.str.injEq, true_and, and_true] at hd
    subst hd
    rw [h] at hm
    cases hm
    rfl
  | @dct _ k' => cases k' <;> simp [fnD, kD] at hd
  | _ => simp [fnD] at hd
/-- a written dict: its place, what the keys hold -/
structure Tab (K : PySem.W.Frag) (w : World) (mg : Str → Option Value) (x : Str) (ga : Addr) (es : Array DictEntry) (n : Nat) : Prop where
  m : mg x = some (.ref ga)
  d : KDict K w ga es n
structure HasK (K : PySem.W.Frag) (ga : Addr) (z : Str) (b : Bool) : Prop where
  h : ∃ r, PySem.W.nsIn K ga z = some r ∧ r.isSome = b
structure HasF (K : PySem.W.Frag) (mg : Str → Option Value) (ga : Addr) (z g : Str) : Prop where
  h : ∃ f, PySem.W.nsIn K ga z = some (some (.ref f)) ∧ mg g = some (.ref f)
section
variable {X : Cx} {K : PySem.W.Frag} {w : World} {mg : Str → Option Value} {x : Str} {ga : Addr} {es : Array DictEntry} {n : Nat}
end
def eStar (i : Nat) (fs : List (Str × Nat × (List D → Option D))) (a : Ev → Option D) : Ev → Option D := fun ρ => (eV i ρ).bind fun g => (a ρ).bind fun t => (fnOf? g).bind fun y => (seqD t).bind fun ds => (look y fs).bind fun nm => if ds.length = nm.1 then nm.2 ds else none
@[simp] theorem eStar_ap (i : Nat) (fs : List (Str × Nat × (List D → Option D))) (a : Ev → Option D) (ρ : Ev) : eStar i fs a ρ = (eV i ρ).bind fun g => (a ρ).bind fun t => (fnOf? g).bind fun y => (seqD t).bind fun ds => (look y fs).bind fun nm => if ds.length = nm.1 then nm.2 ds else none := rfl
structure Wk (P : Program) (w : World) (K : PySem.W.Frag) (mg : Str → Option Value) (base : Heap) (k : Nat) (y : Str) (n : Nat) (m : List D → Option D) : Prop where
  ex : ∃ (k' : Nat) (ps : List Str), k' ≤ k ∧ DefOk P w K mg base k' n y ps m
section
variable {X : Cx} {pos p sp_ : Pos} {m : Ev → Option D} {e : Expr} {x : Str}
end
end Dm


namespace Dm
open PySem PySem.Spec L2 PySem.SeqAt
def sameD : D → D → Bool
  | .int _, .int _ => true
  | .str _, .str _ => true
  | .bool _, .bool _ => true
  | _, _ => false
def sgtD : D → D → Bool
  | .int i, .int j => decide (j < i)
  | .str a, .str b => decide (b.cps.toList < a.cps.toList)
  | .bool p, .bool q => p && !q
  | _, _ => false
def sltD : D → D → Bool
  | .int i, .int j => decide (i < j)
  | .str a, .str b => decide (a.cps.toList < b.cps.toList)
  | .bool p, .bool q => !p && q
  | _, _ => false
section
variable {K : PySem.W.Frag} {mg : Str → Option Value}
end
section
variable {X : Cx} {pos : Pos} {e : Expr}
end
def cLeU (a b : D) : Option D := match a, b with
  | .bool p, .bool q => some (.bool (!p || q))
  | a, b => cLe a b
def cGeU (a b : D) : Option D := match a, b with
  | .bool p, .bool q => some (.bool (p || !q))
  | a, b => cGe a b
section
variable {K : PySem.W.Frag} {mg : Str → Option Value}
end
section
variable {X : Cx}
end
end Dm


namespace Dm
open PySem PySem.Spec L2 RZ
def zipD : List D → List D → List D
  | d :: ds, e :: es => .tuple [d, e] :: zipD ds es
  | _, _ => []
def zipOf : List D → Option (List D)
  | [.list ds, .list es] => some (zipD ds es)
  | [.tuple ds, .tuple es] => some (zipD ds es)
  | _ => none
def iZp (m : Ev → Option (List D)) : Ev → Option (List D) := fun ρ => (m ρ).bind zipOf
@[simp] theorem iZp_ap (m : Ev → Option (List D)) (ρ : Ev) : iZp m ρ = (m ρ).bind zipOf := rfl
section
variable {K : PySem.W.Frag} {mg : Str → Option Value} {F : Hp} {a b : Addr} {xs ys : List V} {ds es : List D}
end
section
variable {X : Cx} {e e2 : Expr} {p pos tpos : Pos} {elts : List Expr} {kk : Nat} {m : Ev → Option (List D)}
end
end Dm


namespace Dm
open PySem PySem.Spec L2 PyProof.Rows
def ixTabD (x : Str) (vs : List (Str × D)) (t d : D) : Option D := match d with
  | .str z => (fnOf? t).bind fun y => if y = x then look z vs else none
  | _ => none
structure HasD (K : PySem.W.Frag) (mg : Str → Option Value) (ga : Addr) (z : Str) (d : D) : Prop where
  h : ∃ (v : Value) (r : V), PySem.W.nsIn K ga z = some (some v) ∧ RelV r v ∧ ∀ F, Rp K mg F r d
section
variable {X : Cx} {K : PySem.W.Frag} {w : World} {mg : Str → Option Value} {x : Str} {ga : Addr} {es : Array DictEntry} {n : Nat}
theorem r_ixTabD {vs : List (Str × D)} (T : Tab K w mg x ga es n) (hk : ∀ p ∈ vs, HasD K mg ga p.1 p.2) : R2D K mg (rIxD K w) (ixTabD x vs) := fun F H x0 y0 d1 d2 d Q s r1 r2 e q => by
  unfold ixTabD at e
  split at e
  · rename_i z
    obtain ⟨y, h1, e⟩ := bind_some e
    by_cases hy : y = x
    · subst hy
      simp only [if_true] at e
      obtain ⟨v, r, h3, h4, h5⟩ := (hk _ (look_mem e)).h
      have e2 := fnOf_some h1
      subst e2
      cases r2
      exact ⟨ga, z, r, rp_fn r1 T.m, rfl, ⟨es, n, v, T.d.at_, T.d.lit, h3, h4⟩, q _ F H (Stp.refl s) (h5 F)⟩
    · rw [if_neg hy] at e
      cases e
  · cases e
end
end Dm


namespace Dm
open PySem PySem.Spec L2
def mFind : D → List D → Option D
  | .str a, [.str b] => some (.int (Txt.find a b))
  | _, _ => none
theorem mFind_str : ∀ d ds z, mFind d ds = some z → ∃ w, d = .str w := fun d ds z h => by
  unfold mFind at h
  split at h
  · exact ⟨_, rfl⟩
  · cases h
section
variable {K : PySem.W.Frag} {mg : Str → Option Value}
theorem rm_find : RMD K mg (fun x xs H Q => ∃ a b, x = .str a ∧ xs = [.str b] ∧ Q (.int (Txt.find a b)) H) mFind := fun F H x xs d1 ds d Q s r1 r2 e q => by
  match d1, ds, r1, r2, e with
  | .str a, [.str b], .str _, .cons (.str _) .nil, e =>
    cases e
    exact ⟨a, b, rfl, rfl, q _ F H (Stp.refl s) (.int _)⟩
end
section
variable {X : Cx} {pos : Pos} {e : Expr} {m : Ev → Option D}
theorem d_find {o : Expr} {apos : Pos} {mo : Ev → Option D} (ho : DE X o mo) (he : DE X e m) (hse : starEach [e] X.env = [(false, eval e X.env)] := by rfl) (hbase : attributeBase o "find" X.env (eval o X.env) = eval o X.env := by rfl) (hline : (apos.endLine == pos.line) = true := by rfl) : DE X (.Call (.Attribute o "find" apos) [e] [] pos) (eM mFind mo (aC m aN)) := d_m1 PySem.F.slot_str_find PySem.F.type_str_find mt_find rm_find mFind_str ho he hse hbase hline
end
end Dm


namespace Dm
open PySem PySem.Spec L2 PySem.SeqAt
def minFD (x : D) (xs : List D) : D := xs.foldl (fun a y => if sltD y a then y else a) x
def maxFD (x : D) (xs : List D) : D := xs.foldl (fun a y => if sgtD y a then y else a) x
def allSame (ds : List D) : Bool := ds.all fun x => ds.all fun y => sameD x y
def fMinA : List D → Option D
  | [.list (d :: ds)] => if allSame (d :: ds) = true then some (minFD d ds) else none
  | _ => none
def fMaxA : List D → Option D
  | [.list (d :: ds)] => if allSame (d :: ds) = true then some (maxFD d ds) else none
  | _ => none
section
variable {K : PySem.W.Frag} {mg : Str → Option Value}
end
section
variable {X : Cx} {pos : Pos} {e : Expr}
end
end Dm


namespace Dm
open PySem PySem.Spec L2 RZ
abbrev zh1 (g : Heap) (t : Addr) : Heap := g.push { cls := .type "tuple_iterator", data := .fields #[.ref t, .int 0 0] }
abbrev zh2 (g : Heap) (t l : Addr) : Heap := (zh1 g t).push { cls := .type "list_iterator", data := .fields #[.ref l, .int 0 0] }
abbrev zh3 (g : Heap) (t l : Addr) : Heap := (zh2 g t l).push { cls := .type "tuple", data := .seq #[.ref g.objs.size, .ref (zh1 g t).objs.size] }
abbrev zh4 (g : Heap) (t l : Addr) : Heap := (zh3 g t l).push { cls := .type "tuple", data := .seq #[.none, .none] }
abbrev zh5 (g : Heap) (t l : Addr) : Heap := (zh4 g t l).push { cls := .type "zip", data := .fields #[.none, .bool false, .bool false, .ref (zh2 g t l).objs.size, .ref (zh3 g t l).objs.size] }
def zipOf2 : List D → Option (List D)
  | [.list ds, .list es] => some (zipD ds es)
  | [.tuple ds, .tuple es] => some (zipD ds es)
  | [.tuple ds, .list es] => some (zipD ds es)
  | _ => none
def iZp2 (m : Ev → Option (List D)) : Ev → Option (List D) := fun ρ => (m ρ).bind zipOf2
@[simp] theorem iZp2_ap (m : Ev → Option (List D)) (ρ : Ev) : iZp2 m ρ = (m ρ).bind zipOf2 := rfl
section
variable {X : Cx} {e e2 : Expr} {p pos tpos : Pos} {elts : List Expr} {kk : Nat} {m : Ev → Option (List D)}
end
def lcL2 (i j : Nat) (f : Ev → Option D) (ρ : Ev) : List D → Option (List D)
  | [] => some []
  | d :: ds => match d with
    | .tuple [a, b] => (f ((((ρ.set i none).set j none).set i (some (.dat a))).set j (some (.dat b)))).bind fun y => (lcL2 i j f ρ ds).bind fun r => some (y :: r)
    | _ => none
def fLc2 (i j : Nat) (m : Ev → Option (List D)) (f : Ev → Option D) : Ev → Option (List D) := fun ρ => (m ρ).bind fun ds => if okN ds.length = true ∧ i ≠ j then lcL2 i j f ρ ds else none
@[simp] theorem fLc2_ap (i j : Nat) (m : Ev → Option (List D)) (f : Ev → Option D) (ρ : Ev) : fLc2 i j m f ρ = (m ρ).bind fun ds => if okN ds.length = true ∧ i ≠ j then lcL2 i j f ρ ds else none := rfl
section
variable {K : PySem.W.Frag} {mg : Str → Option Value}
end
section
variable {X : Cx} {pos : Pos}
end

section
variable {K : PySem.W.Frag} {mg : Str → Option Value}
end
section
variable {X : Cx} {pos : Pos} {a b e : Expr} {m m1 m2 : Ev → Option D}
end
def isDTL (d : D) : Option D := (tyD d).bind fun t => some (.bool (t == "tuple" || t == "list"))
section
variable {X : Cx} {pos : Pos} {a e : Expr} {m : Ev → Option D}
/-- where a text stands first -/
def ixStr (z : Str) : List Str → Option Nat
  | [] => none
  | y :: ys => if y = z then some 0 else (ixStr z ys).bind fun n => some (n + 1)
theorem ixStr_at {z : Str} : ∀ {ys : List Str} {n : Nat}, ixStr z ys = some n → ys[n]? = some z ∧ ∀ k, k < n → ∀ y, ys[k]? = some y → y ≠ z
  | [], n, h => by cases h
  | y :: ys, n, h => by
    unfold ixStr at h
    split at h
    · rename_i e
      cases h
      subst e
      exact ⟨rfl, fun k hk => by omega⟩
    · rename_i e
      obtain ⟨n', h1, h2⟩ := bind_some h
      cases h2
      obtain ⟨a, b⟩ := ixStr_at h1
      refine ⟨by simpa using a, fun k hk y' hy => ?_⟩
      cases k with
      | zero =>
        simp at hy
        rw [← hy]
        exact e
      | succ k => exact b k (by omega) y' (by simpa using hy)
def mIndex : D → List D → Option D
  | .list ds, [.str z] => (strsOf ds).bind fun zs => (ixStr z zs).bind fun n => some (.int (n : Int))
  | _, _ => none
theorem d_index {o : Expr} {apos : Pos} {mo : Ev → Option D} (ho : DE X o mo) (he : DE X e m) (hbase : attributeBase o "index" X.env (eval o X.env) = eval o X.env := by rfl)
    (hfew : ((backTo pos (starEach [e] X.env)).all (fun x => !x.1) && (backToKw pos (keywordEach [] X.env)).all (fun x => x.1.isSome)
      && decide ([e].length + ([] : List Keyword).length + (if ([] : List Keyword).isEmpty then 0 else 1) < 30)) = true := by rfl)
    (hline : (apos.endLine == pos.line) = true := by rfl) (hs : starEach [e] X.env = (false, eval e X.env) :: starEach [] X.env := by rfl) (hplain : (backTo pos (starEach [] X.env)).any (·.1) = false := by rfl) :
    DE X (.Call (.Attribute o "index" apos) [e] [] pos) (eM mIndex mo (aC m aN)) := PE.weak (pe_bm PySem.F.plainAttrs_list PySem.F.slot_list_index PySem.F.type_list_index mt_index ho (pa_cons he pa_nil hs) hbase hfew hline hs hplain) fun σ H Q ⟨F0, H0, F, ρ, d, k, e, q⟩ => by
  obtain ⟨d1, h1, e⟩ := bind_some e
  obtain ⟨ds, h2, e⟩ := bind_some e
  obtain ⟨d2, h3, h2⟩ := bind_some h2
  obtain ⟨dn, h4, h2⟩ := bind_some h2
  cases h4
  cases h2
  refine ⟨F0, H0, F, ρ, d1, k, h1, fun v F1 H1 t1 r1 => ?_⟩
  match d1, d2, e with
  | .list es, .str z, e =>
    obtain ⟨zs, h5, e⟩ := bind_some (show (strsOf es).bind _ = some d from e)
    obtain ⟨n, h6, e⟩ := bind_some e
    cases e
    have h7 := strsOf_map h5
    subst h7
    cases r1 with
    | lst hl ra =>
      have h8 := ra.strs
      subst h8
      refine ⟨.inl ⟨rfl, _, sqL_mono t1.s hl⟩, F0, H0, F1, ρ, .str z, k.step t1, h3, fun v2 F2 H2 t2 r2 => ?_⟩
      cases r2
      obtain ⟨i1, i2⟩ := ixStr_at h6
      refine ⟨_, zs.map V.str, .str z, n, .str z, rfl, rfl, sqL_mono (t1.s.trans t2.h) hl, rfl, ?_, by rw [List.getElem?_map, i1]; rfl, by show (z == z) = true; exact beq_self_eq_true z, fun k' z' hk hz => ?_, q _ F2 H2 (t1.trans t2) (.int _)⟩
      · rw [List.all_eq_true]
        intro x hx
        obtain ⟨y, _, rfl⟩ := List.mem_map.mp hx
        rfl
      · rw [List.getElem?_map] at hz
        cases hy : zs[k']? with
        | none =>
          rw [hy] at hz
          cases hz
        | some y =>
          rw [hy] at hz
          cases hz
          show (y == z) = false
          exact beq_eq_false_iff_ne.mpr (i2 k' hk y hy)
end
end Dm


namespace Dm
open PySem PySem.Spec L2
def sNever : Ev → Option Out := fun _ => none
def eNever : Ev → Option D := fun _ => none
@[simp] theorem sNever_ap (ρ : Ev) : sNever ρ = none := rfl
@[simp] theorem eNever_ap (ρ : Ev) : eNever ρ = none := rfl
theorem s_never {X : Cx} {s : Stmt} : DS X s sNever := ⟨fun pins st σ H D I ⟨_, _, _, _, _, _, e, _⟩ => by cases e⟩
def fOrd : List D → Option D
  | [.str x] => if x.length = 1 then some (.int ((x.cps.getD 0 0 : Nat) : Int)) else none
  | _ => none
def opShl : D → D → Option D
  | .int i, .int j => if 0 ≤ j ∧ j ≤ 1000000 ∧ i.natAbs < 2 ^ 64 then some (.int (i * 2 ^ j.toNat)) else none
  | _, _ => none
section
variable {K : PySem.W.Frag} {mg : Str → Option Value}
theorem rc_ord : RCD K mg (fun xs H Q => ∃ x, xs = [.str x] ∧ x.length = 1 ∧ Q (.int (x.cps.getD 0 0 : Nat)) H) fOrd := fun F H xs ds d Q s r e q => by
  match ds, r, e with
  | [.str x], .cons (.str _) .nil, e =>
    simp only [fOrd] at e
    split at e
    · cases e
      exact ⟨_, rfl, ‹_›, q _ F H (Stp.refl s) (.int _)⟩
    · cases e
theorem r_shl : R2D K mg (rI CPow fun i j => .int (i * 2 ^ j.toNat)) opShl := fun F H x y d1 d2 d Q s r1 r2 e q => by
  cases r1 <;> cases r2 <;> try cases e
  simp only [opShl] at e
  split at e
  · rename_i hl
    cases e
    exact ⟨_, _, rfl, rfl, hl, q _ F H (Stp.refl s) (.int _)⟩
  · cases e
end
section
variable {X : Cx} {pos : Pos} {a b e : Expr} {m m1 m2 : Ev → Option D}
theorem d_ord {p : Pos} {es : List Expr} {ms : Ev → Option (List D)} (hm : X.mg "ord" = none) (ha : DA X (e :: es) ms) (hg : Gl X "ord" := by rfl) (he : starEach (e :: es) X.env = (false, eval e X.env) :: starEach es X.env := by rfl) (hpl : (backTo pos (starEach es X.env)).any (·.1) = false := by rfl) : DE X (.Call (.Name "ord" p) (e :: es) [] pos) (eB fOrd ms) := d_cb call_ord rc_ord hm ha (by decide +kernel) hg (by decide) (by decide) he hpl
theorem d_shl (ha : DE X a m1) (hb : DE X b m2) : DE X (.BinOp a .LShift b pos) (e2 opShl m1 m2) := d_op op_shl r_shl ha hb
end
def fRep (ms : Ev → Option (List D)) (m : Ev → Option D) : Ev → Option (List D) := fun ρ => (ms ρ).bind fun ds => (m ρ).bind fun x => match x with
  | .int k => if midI k = true ∧ okN ds.length = true ∧ okN (ds.length * k.toNat) = true then some (List.replicate k.toNat ds).flatten else none
  | _ => none
@[simp] theorem fRep_ap (ms : Ev → Option (List D)) (m : Ev → Option D) (ρ : Ev) : fRep ms m ρ = (ms ρ).bind fun ds => (m ρ).bind fun x => match x with
  | .int k => if midI k = true ∧ okN ds.length = true ∧ okN (ds.length * k.toNat) = true then some (List.replicate k.toNat ds).flatten else none
  | _ => none := rfl
theorem RpA.repA {K : PySem.W.Frag} {mg : Str → Option Value} {F : Hp} {xs : List V} {ds : List D} (h : RpA K mg F xs ds) : ∀ n : Nat, RpA K mg F (List.replicate n xs).flatten (List.replicate n ds).flatten
  | 0 => .nil
  | n + 1 => by
    rw [List.replicate_succ, List.replicate_succ, List.flatten_cons, List.flatten_cons]
    exact h.append (RpA.repA h n)
open PySem.AutoSeq1 in
theorem extend_plain (l : Addr) (items : Array Value) (n : Nat) (b : Addr) (items2 : Array Value) (hc0 : ¬(!items.isEmpty && Builtin.List.listTooLong (items.size + items2.size)) = true) (hc1 : items.size ≤ sizeLine) (hs2 : items.size + items2.size ≤ sizeLine + 1) :
    Meets (Builtin.«list.extend» ⟨[.ref l, .ref b], []⟩) (fun _ R s => s.heap.get? l = some { cls := .type "list", dict := none, data := .seq items n, slots := #[] } ∧ PlainL s.heap b items2 ∧ R (.ok (.ret Value.none)) { s with heap := s.heap.update l (Obj.mapSeq fun x => x ++ items2), toks := s.toks }) :=
  .of_wp fun prog w A R s h => by
    obtain ⟨hp, g, d, tk, os⟩ := s
    obtain ⟨hl, hb0, h⟩ := h
    obtain ⟨⟨oc, od, oda, osl⟩, n2, hb, h1, h2, h3⟩ := hb0
    simp only at h1 h2 h3
    subst h1 h2 h3
    have f1 := idx_int
    have f2 := sub_tuple_tuple
    have f3 := sub_list_list
    have f4 := sub_tuple_list
    have f5 := sub_list_tuple
    have hz' : (items ++ items2).size ≤ sizeLine + 1 := by rw [Array.size_append]; exact hs2
    wp_walk using (wpAny_updateSeq hl rfl (hz := hc1) (_hz' := hz')), wpAny_loadPart' hl, wpAny_loadPart' hb
    exact ⟨_, rfl, h⟩

def rExtendA (K : PySem.W.Frag) : V → List V → Hp → VK → Prop := fun x vs H Q => ∃ l b xs zs, x = .ref l ∧ vs = [.ref b] ∧ H l = some (.lst xs) ∧ SqL K H b zs ∧ xs.length + zs.length ≤ sizeLine ∧ Q .non (upd H l (.lst (xs ++ zs)))
theorem mt_extendA {X : Cx} : MtM X "list.extend" (rExtendA X.K) := by
  intro pins s σ H x vs v us Q I rx rv h
  obtain ⟨l, b, xs, zs, rfl, rfl, hH, hB, hz, q⟩ := h
  cases rx
  obtain ⟨u, rfl, ru⟩ := rv.one
  cases ru
  obtain ⟨z, its, n, r, hl, e⟩ := I.lstM hH
  obtain ⟨its2, r2, e2, hl2⟩ := I.list hB
  have hlen2 := r2.length
  have hsz : its.toArray.size + its2.toArray.size ≤ sizeLine := by rw [List.size_toArray, List.size_toArray]; omega
  have hlong : ¬ (!its.toArray.isEmpty && Builtin.List.listTooLong (its.toArray.size + its2.toArray.size)) = true := by
    rw [notLongL hsz, Bool.and_false]
    exact Bool.false_ne_true
  refine call_meets F.slot_list_extend ⟨_, e, rfl⟩ F.entry_list_extend (F.args_list_extend_2 _ _)
    (extend_plain l its.toArray n b its2.toArray hlong (by rw [List.size_toArray]; omega) (by omega)) ⟨e, e2, ?_⟩
  refine ⟨.non, _, I.lset (its' := its ++ its2) hH e (by simp) (r.append r2) ?_, rfl, q⟩
  rw [List.length_append]
  omega
def sExt (i : Nat) (m : Ev → Option D) : Ev → Option Out := fun ρ => (ownAt i ρ).bind fun ds => (m ρ).bind fun d => match d with
  | .list es => if okN (ds.length + es.length) = true then some (.nx (ρ.set i (some (.own (ds ++ es))))) else none
  | _ => none
@[simp] theorem sExt_ap (i : Nat) (m : Ev → Option D) (ρ : Ev) : sExt i m ρ = (ownAt i ρ).bind fun ds => (m ρ).bind fun d => match d with
  | .list es => if okN (ds.length + es.length) = true then some (.nx (ρ.set i (some (.own (ds ++ es))))) else none
  | _ => none := rfl
section
variable {X : Cx} {pos : Pos} {a b e : Expr} {m m1 m2 : Ev → Option D}
theorem s_ext {i : Nat} {x : Str} {p1 apos cpos : Pos} (he : DE X e m) (hs0 : swapsWith (.Call (.Attribute (.Name x p1) "extend" apos) [e] [] cpos) none pos.line X.env = pure false := by rfl) (hN : X.N[i]? = some x := by rfl) (hv : Vis X.env.scope x := by first | exact Or.inl rfl | exact Or.inr (Or.inl rfl) | exact Or.inr (Or.inr rfl)) (hd : (x == ("__debug__" : Str)) = false := by decide)
    (hcd : (x == ("__classdict__" : Str)) = false := by decide) (hbase : attributeBase (.Name x p1) "extend" X.env (eval (.Name x p1) X.env) = eval (.Name x p1) X.env := by rfl)
    (hfew : ((backTo cpos (starEach [e] X.env)).all (fun x => !x.1) && (backToKw cpos (keywordEach [] X.env)).all (fun x => x.1.isSome)
      && decide (([e] : List Expr).length + ([] : List Keyword).length + (if ([] : List Keyword).isEmpty then 0 else 1) < 30)) = true := by rfl)
    (hline : (apos.endLine == cpos.line) = true := by rfl) (hs : starEach [e] X.env = (false, eval e X.env) :: starEach [] X.env := by rfl) (hplain : (backTo cpos (starEach [] X.env)).any (·.1) = false := by rfl) :
    DS X (.Expr (.Call (.Attribute (.Name x p1) "extend" apos) [e] [] cpos) pos) (sExt i m) :=
  PS.weak (ps_expr (pe_bm PySem.F.plainAttrs_list PySem.F.slot_list_extend PySem.F.type_list_extend mt_extendA (pe_var hN hv hd hcd) (pa_cons he pa_nil hs) hbase hfew hline hs hplain) hs0) fun D σ H ⟨F0, H0, F, ρ, o, k, e, q⟩ => by
  obtain ⟨ds, h1, e⟩ := bind_some e
  obtain ⟨d, h2, e⟩ := bind_some e
  match d, h2, e with
  | .list es, h2, e =>
    simp only at e
    split at e
    · rename_i hl
      cases e
      have ho := ownAt_some h1
      obtain ⟨a', xs, e1, fa, h0, ha, r⟩ := k.rel i _ ho
      refine ⟨_, e1, .inl ⟨rfl, xs, .inl (.inl ha)⟩, F0, H0, F, ρ, .list es, k, h2, fun v F1 H1 t1 r1 => ?_⟩
      cases r1 with
      | lst hs1 ra1 =>
        have hsm := small_of hl
        refine ⟨a', _, xs, _, rfl, rfl, t1.h a' _ ha, sqL_mono t1.s hs1, by rw [r.length, ra1.length]; exact hsm, ?_⟩
        exact q _ _ _ ((k.step t1).mut ho e1 ((r.mono t1.f).append ra1)) t1.f
    · cases e
def sPut (i : Nat) (mk m : Ev → Option D) : Ev → Option Out := fun ρ => (ownAt i ρ).bind fun ds => (m ρ).bind fun d => (mk ρ).bind fun x => match x with
  | .int j => (ixN ds.length j).bind fun n => some (.nx (ρ.set i (some (.own (ds.set n d)))))
  | _ => none
@[simp] theorem sPut_ap (i : Nat) (mk m : Ev → Option D) (ρ : Ev) : sPut i mk m ρ = (ownAt i ρ).bind fun ds => (m ρ).bind fun d => (mk ρ).bind fun x => match x with
  | .int j => (ixN ds.length j).bind fun n => some (.nx (ρ.set i (some (.own (ds.set n d)))))
  | _ => none := rfl
theorem RpA.setAt {K : PySem.W.Frag} {mg : Str → Option Value} {F : Hp} {v : V} {d : D} (h : Rp K mg F v d) : ∀ {xs : List V} {ds : List D} (n : Nat), RpA K mg F xs ds → RpA K mg F (xs.set n v) (ds.set n d)
  | _, _, _, .nil => .nil
  | _, _, 0, .cons _ t => .cons h t
  | _, _, n + 1, .cons h1 t => .cons h1 (RpA.setAt h n t)
theorem s_put {ix : Expr} {mk : Ev → Option D} {i : Nat} {x : Str} {p1 tpos : Pos} (he : DE X e m) (hk : DE X ix mk) (hN : X.N[i]? = some x := by rfl) (hv : Vis X.env.scope x := by first | exact Or.inl rfl | exact Or.inr (Or.inl rfl) | exact Or.inr (Or.inr rfl)) (hd : (x == ("__debug__" : Str)) = false := by decide)
    (hcd : (x == ("__classdict__" : Str)) = false := by decide)
    (ha : ∀ v, assign (.Subscript (.Name x p1) ix tpos) X.env v = (do
      let ov ← holding [v] (eval (.Name x p1) X.env)
      let iv ← holding [v, ov] (eval ix X.env)
      standAt tpos
      holding [v, ov, iv] (setItem ov iv v)
      release [v, ov, iv] []) := by intro _; rfl)
    (hs : swapsWithSole [.Subscript (.Name x p1) ix tpos] e pos.line X.env = pure false := by rfl) (hw : swappedStores [.Subscript (.Name x p1) ix tpos] e X.env = pure none := by rfl)
    (h1 : (assignEach [.Subscript (.Name x p1) ix tpos] X.env).map (·.2) = [assign (.Subscript (.Name x p1) ix tpos) X.env] := by rfl) : DS X (.Assign [.Subscript (.Name x p1) ix tpos] e pos) (sPut i mk m) :=
  PS.weak (ps_asg he (pg_sub (pe_var hN hv hd hcd) hk set_list ha) hs hw h1) fun D σ H ⟨F0, H0, F, ρ, o, k, e, q⟩ => by
  obtain ⟨ds, h1, e⟩ := bind_some e
  obtain ⟨d, h2, e⟩ := bind_some e
  obtain ⟨x, h3, e⟩ := bind_some e
  match x, h3, e with
  | .int j, h3, e =>
    obtain ⟨n, h4, e⟩ := bind_some e
    cases e
    have ho := ownAt_some h1
    refine ⟨F0, H0, F, ρ, d, k, h2, fun v F1 H1 t1 r1 => ?_⟩
    have k1 := k.step t1
    obtain ⟨a', xs, e1, fa, h0, ha, r⟩ := k1.rel i _ ho
    refine ⟨_, e1, F0, H0, F1, ρ, .int j, k1, h3, fun v2 F2 H2 t2 r2 => ?_⟩
    cases r2
    refine ⟨a', xs, j, n, rfl, rfl, t2.h a' _ ha, by rw [r.length]; exact h4, ?_⟩
    exact q _ _ _ ((k1.step t2).mut ho e1 (RpA.setAt (r1.mono t2.f) n (r.mono t2.f))) (t1.f.trans t2.f)
end
def rGetLi (K : PySem.W.Frag) : V → V → Hp → VK → Prop := fun o i H Q => ∃ p xs k v, o = .ref p ∧ i = .int k ∧ SqL K H p xs ∧ atI xs k = some v ∧ Q v H
theorem get_list {X : Cx} : PGet X (rGetLi X.K) := by
  intro pins s σ H o i ov iv Q I ro ri h
  obtain ⟨p, xs, i, z, rfl, rfl, hq, he, q⟩ := h
  cases ro
  obtain ⟨t, rfl⟩ := ri
  obtain ⟨its, r, pl, hz⟩ := I.list hq
  obtain ⟨j, h1, h2, h3, h4, h5⟩ := atI_get he
  obtain ⟨w, ew, rw'⟩ := r.get h2
  have hl := r.length
  have hn := line63
  have fin : EP X pins σ Q w s := ⟨z, H, I, rw', q⟩
  by_cases h0 : 0 ≤ i
  · have hj : i.toNat = j := by
      rw [seqIndex_of h0 h5] at h1
      exact Option.some.inj h1
    exact PySem.wpAny_getItem_list (x := w) pl.isList h0 (by omega) (by rw [hj]; simpa using ew) fin
  · have hj : (i + (its.toArray.size : Int)).toNat = j := by
      rw [seqIndex_neg (by omega) h4] at h1
      rw [List.size_toArray, ← hl]
      exact Option.some.inj h1
    exact PySem.wpAny_getItem_list_neg (x := w) pl.isList (by omega) (by rw [List.size_toArray] <;> omega) (by omega) (by rw [hj]; simpa using ew) fin
def sPutAdd (i : Nat) (mk m : Ev → Option D) : Ev → Option Out := fun ρ => (ownAt i ρ).bind fun ds => (mk ρ).bind fun x => match x with
  | .int j => (atI ds j).bind fun y => (m ρ).bind fun z => match y, z with
    | .int a, .int b => (ixN ds.length j).bind fun n => some (.nx (ρ.set i (some (.own (ds.set n (.int (a + b)))))))
    | _, _ => none
  | _ => none
@[simp] theorem sPutAdd_ap (i : Nat) (mk m : Ev → Option D) (ρ : Ev) : sPutAdd i mk m ρ = (ownAt i ρ).bind fun ds => (mk ρ).bind fun x => match x with
  | .int j => (atI ds j).bind fun y => (m ρ).bind fun z => match y, z with
    | .int a, .int b => (ixN ds.length j).bind fun n => some (.nx (ρ.set i (some (.own (ds.set n (.int (a + b)))))))
    | _, _ => none
  | _ => none := rfl
section
variable {X : Cx} {pos : Pos} {a b e : Expr} {m m1 m2 : Ev → Option D}
theorem s_putAdd {ix : Expr} {mk : Ev → Option D} {i : Nat} {x : Str} {p1 tpos : Pos} (hk : DE X ix mk) (he : DE X e m) (hN : X.N[i]? = some x := by rfl) (hv : Vis X.env.scope x := by first | exact Or.inl rfl | exact Or.inr (Or.inl rfl) | exact Or.inr (Or.inr rfl)) (hd : (x == ("__debug__" : Str)) = false := by decide)
    (hcd : (x == ("__classdict__" : Str)) = false := by decide)
    (ha : ∀ ov iv new, augStore ix ov iv new = (do holding [new, ov, iv] (setItem ov iv new); release [new, ov, iv] []; pure .next) := by intros; rfl) : DS X (.AugAssign (.Subscript (.Name x p1) ix tpos) .Add e pos) (sPutAdd i mk m) := by
  refine PS.weak (ps_augS (pe_var hN hv hd hcd) hk get_list he ip_add set_list ha) fun D σ H ⟨F0, H0, F, ρ, o, k, e, q⟩ => ?_
  obtain ⟨ds, h1, e⟩ := bind_some e
  obtain ⟨x, h2, e⟩ := bind_some e
  match x, h2, e with
  | .int j, h2, e =>
    obtain ⟨y, h3, e⟩ := bind_some e
    obtain ⟨z, h4, e⟩ := bind_some e
    match y, z, h3, h4, e with
    | .int a, .int b, h3, h4, e =>
      obtain ⟨n, h5, e⟩ := bind_some e
      cases e
      have ho := ownAt_some h1
      obtain ⟨a', xs, e1, fa, h0, ha, r⟩ := k.rel i _ ho
      refine ⟨_, e1, F0, H0, F, ρ, .int j, k, h2, fun v F1 H1 t1 r1 => ?_⟩
      cases r1
      obtain ⟨w, hw1, hw2⟩ := r.at h3
      cases hw2
      refine ⟨a', xs, j, _, rfl, rfl, .inl (.inl (t1.h a' _ ha)), hw1, F0, H0, F1, ρ, .int b, k.step t1, h4, fun v2 F2 H2 t2 r2 => ?_⟩
      cases r2
      refine ⟨a, b, rfl, rfl, a', xs, j, n, rfl, rfl, t2.h a' _ (t1.h a' _ ha), by rw [r.length]; exact h5, ?_⟩
      exact q _ _ _ (((k.step t1).step t2).mut ho e1 (RpA.setAt (.int _) n ((r.mono t1.f).mono t2.f))) (t1.f.trans t2.f)
theorem f_rep {es : List Expr} {ms : Ev → Option (List D)} {p : Pos} (h : DA X es ms) (hb : DE X b m2) : DF X (.BinOp (.List es p) .Mult b pos) (fRep ms m2) := PE.weak (pe_op op_rep (pe_lst h) hb) fun σ H Q ⟨F0, H0, F, ρ, d, k, e, q⟩ => by
  obtain ⟨ds, h1, e⟩ := bind_some e
  obtain ⟨x, h2, e⟩ := bind_some e
  match x, h2, e with
  | .int n, h2, e =>
    simp only at e
    split at e
    · rename_i hh
      obtain ⟨hm, hl0, hl⟩ := hh
      cases e
      refine ⟨F0, H0, F, ρ, ds, k, h1, fun vs F1 H1 t1 r1 => ⟨small_of (by rw [r1.length]; exact hl0), fun p hp => ?_⟩⟩
      have tp : Stp F1 H1 F1 (upd H1 p (.lst vs)) := ⟨Same.refl _, same_new hp, t1.s.trans (same_new hp), fun a o e1 e2 => e1⟩
      have tt := t1.trans tp
      refine ⟨F0, H0, F1, ρ, .int n, k.step tt, h2, fun v2 F2 H2 t2 r2 => ?_⟩
      cases r2
      have hb := midI_ok hm
      have e62 : (2 : Int) ^ 62 = 4611686018427387904 := by decide
      have e63 : (2 : Int) ^ 63 = 9223372036854775808 := by decide
      rw [e62] at hb
      refine ⟨p, n, vs, rfl, rfl, t2.h p _ upd_same, by rw [e63]; omega, by rw [e63]; omega, by rw [r1.length]; exact small_of hl, fun p2 hp2 => ?_⟩
      have t3 := tt.trans t2
      exact q p2 _ F2 _ (t3.trans ⟨Same.refl _, same_new hp2, t3.s.trans (same_new hp2), fun a o e1 e2 => e1⟩) (t3.h.free hp2) (same_free t3.s hp2) upd_same (RpA.repA (r1.mono t2.f) n.toNat)
    · cases e
def tTruO (i : Nat) : Ev → Option Bool := fun ρ => (ownOf i ρ).bind fun ds => some (!ds.isEmpty)
@[simp] theorem tTruO_ap (i : Nat) (ρ : Ev) : tTruO i ρ = (ownOf i ρ).bind fun ds => some (!ds.isEmpty) := rfl
theorem t_truO (i : Nat) {x : Str} {p1 : Pos} (hN : X.N[i]? = some x := by rfl) (hv : Vis X.env.scope x := by first | exact Or.inl rfl | exact Or.inr (Or.inl rfl) | exact Or.inr (Or.inr rfl)) (hd : (x == ("__debug__" : Str)) = false := by decide)
    (hcd : (x == ("__classdict__" : Str)) = false := by decide) (he : ∀ whole, isTrue (.Name x p1) X.env whole = (do let v ← whole; standAt (Expr.Name x p1).pos; holding [v] (truthy v)) := by intro _; rfl) : DT X (.Name x p1) (tTruO i) := PT.weak (pt_truth (pe_var hN hv hd hcd) he) fun σ H Q ⟨F0, H0, F, ρ, d, k, e, q⟩ => by
  obtain ⟨ds, h1, e⟩ := bind_some e
  cases e
  obtain ⟨a', xs, e1, hs', ha⟩ := ownOf_some k h1
  refine ⟨_, e1, !ds.isEmpty, .inl ⟨_, hs', ?_⟩, q F H (Stp.refl k.s)⟩
  have := ha.length
  cases xs <;> cases ds <;> first
    | rfl
    | simp at this
end
end Dm


namespace Dm
open PySem PySem.Spec L2 PySem.SeqAt
def ltS : D → D → Option Bool
  | .int i, .int j => some (decide (i < j))
  | .str a, .str b => some (decide (a.cps.toList < b.cps.toList))
  | .bool p, .bool q => some (!p && q)
  | _, _ => none
def ltP : D → D → Option Bool
  | .tuple [a0, a1], .tuple [b0, b1] => if flatD a0 = true ∧ flatD a1 = true ∧ flatD b0 = true ∧ flatD b1 = true then (if PyData.eqv a0 b0 = true then (if PyData.eqv a1 b1 = true then some false else ltS a1 b1) else ltS a0 b0) else none
  | _, _ => none
def ltRow : List D → List D → Option Bool
  | [], [] => some false
  | [], _ :: _ => some true
  | _ :: _, [] => some false
  | p :: ps, q :: qs => (ltP p q).bind fun r => (ltRow ps qs).bind fun z => some (if PyData.eqv p q = true then z else r)
section
variable {A : Around} {s : Shared}
end
end Dm


namespace Dm
open PySem PySem.Spec L2 PySem.SeqAt PySem.W PyProof.Rows
/-- lists of pairs, each two of which can be compared -/
structure RowKeys (ds : List D) : Prop where
  plain : ∀ d ∈ ds, d.plain = true ∧ d.depth ≤ 2
  rows : ∀ d ∈ ds, ∃ P, d = .list P
  cmp : ∀ P Q, PyData.list P ∈ ds → PyData.list Q ∈ ds → ∃ z, ltRow P Q = some z
section
variable {prog : Program} {w : World} {A : Around} {s : Shared}
end
end Dm


namespace Dm
open PySem PySem.Spec L2 PySem.SeqAt PySem.W PyProof.Rows
/-- the same def, two calls of built-ins further in; nothing is raised -/
abbrev in2 (X : Cx) : Cx := { X with A := X.A.in1.in1, xe := fun _ _ => False }
/-- the keys, one for each -/
def keysD (m : List D → Option D) : List D → Option (List D)
  | [] => some []
  | d :: ds => (m [d]).bind fun k => (keysD m ds).bind fun ks => some (k :: ks)
theorem vals_at : ∀ {xs : List V} {vs : List Value}, Vals xs vs → ∀ {j : Nat} {v : Value}, vs[j]? = some v → ∃ x, xs[j]? = some x ∧ RelV x v
  | _, _, .nil, j, v, e => by simp at e
  | _, _, .cons r t, 0, v, e => by
    simp at e
    subst e
    exact ⟨_, rfl, r⟩
  | _, _, .cons r t, j + 1, v, e => by
    obtain ⟨x, e1, e2⟩ := vals_at t (j := j) (by simpa using e)
    exact ⟨x, by simpa using e1, e2⟩
theorem rpA_at {K : PySem.W.Frag} {mg : Str → Option Value} {F : Hp} : ∀ {xs : List V} {ds : List D}, RpA K mg F xs ds → ∀ {j : Nat} {x : V}, xs[j]? = some x → ∃ d, ds[j]? = some d ∧ Rp K mg F x d
  | _, _, .nil, j, v, e => by simp at e
  | _, _, .cons r t, 0, v, e => by
    simp at e
    subst e
    exact ⟨_, rfl, r⟩
  | _, _, .cons r t, j + 1, v, e => by
    obtain ⟨x, e1, e2⟩ := rpA_at t (j := j) (by simpa using e)
    exact ⟨x, by simpa using e1, e2⟩
section
variable {X : Cx} {pins : List (Addr × Obj)} {σ : L2.St} {F H : Hp} {s : Shared}
end
def sortedD (ds ks : List D) : List D := ((ds.zip ks).mergeSort (sortLe (listOrd itemOrd) false fun b : D × D => keyToks b.2)).map Prod.fst
theorem each_rel {K : PySem.W.Frag} {mg : Str → Option Value} {F : Hp} : ∀ {xs : List V} {vs : List Value} {ds : List D}, Vals xs vs → RpA K mg F xs ds → EachIs (fun v d => ∃ x, RelV x v ∧ Rp K mg F x d) vs ds
  | _, _, _, .nil, .nil => .nil
  | _, _, _, .cons r t, .cons p q => .cons ⟨_, r, p⟩ (each_rel t q)
section
variable {X : Cx} {pins : List (Addr × Obj)} {σ : L2.St} {F H : Hp} {s : Shared}
end
section
variable {X : Cx} {pins : List (Addr × Obj)} {σ : L2.St} {F H : Hp} {s : Shared}
end
def isRow : D → Bool
  | .list _ => true
  | _ => false
def cmpRow : D → D → Bool
  | .list P, .list Q => (ltRow P Q).isSome
  | _, _ => false
def rowKeysB (ks : List D) : Bool := (ks.all fun d => d.plain && decide (d.depth ≤ 2) && isRow d) && (ks.all fun p => ks.all fun q => cmpRow p q)
def fSortK (m : List D → Option D) (me : Ev → Option D) : Ev → Option (List D) := fun ρ => (me ρ).bind fun x => match x with
  | .list ds => (keysD m ds).bind fun ks => if rowKeysB ks = true ∧ PyData.canLayAll0 ks = true ∧ okN ds.length = true then some (sortedD ds ks) else none
  | _ => none
@[simp] theorem fSortK_ap (m : List D → Option D) (me : Ev → Option D) (ρ : Ev) : fSortK m me ρ = (me ρ).bind fun x => match x with
  | .list ds => (keysD m ds).bind fun ks => if rowKeysB ks = true ∧ PyData.canLayAll0 ks = true ∧ okN ds.length = true then some (sortedD ds ks) else none
  | _ => none := rfl
section
variable {X : Cx}
end
end Dm


namespace Dm
open PySem PySem.Spec L2 PySem.SeqAt
def fCopy (m : Ev → Option D) : Ev → Option (List D) := fun ρ => (m ρ).bind fun x => match x with
  | .list ds => some ds
  | .tuple ds => some ds
  | _ => none
@[simp] theorem fCopy_ap (m : Ev → Option D) (ρ : Ev) : fCopy m ρ = (m ρ).bind fun x => match x with
  | .list ds => some ds
  | .tuple ds => some ds
  | _ => none := rfl
section
variable {X : Cx} {pos : Pos} {a b e : Expr} {m m1 m2 : Ev → Option D}
def tNotInO (i : Nat) (m : Ev → Option D) : Ev → Option Bool := fun ρ => (m ρ).bind fun d => (ownOf i ρ).bind fun ds => if SeqAt.shaped d = true ∧ SeqAt.shaped (.list ds) = true then some (!inDs d ds) else none
@[simp] theorem tNotInO_ap (i : Nat) (m : Ev → Option D) (ρ : Ev) : tNotInO i m ρ = (m ρ).bind fun d => (ownOf i ρ).bind fun ds => if SeqAt.shaped d = true ∧ SeqAt.shaped (.list ds) = true then some (!inDs d ds) else none := rfl
def sRem (i : Nat) (m : Ev → Option D) : Ev → Option Out := fun ρ => (ownAt i ρ).bind fun ds => (m ρ).bind fun d => if SeqAt.shaped d = true ∧ SeqAt.shaped (.list ds) = true ∧ PyData.plainAll ds = true ∧ d.plain = true ∧ d.depth ≤ 8 then (PySem.SeqAt.dataPlace ds d).bind fun j => some (.nx (ρ.set i (some (.own (ds.eraseIdx j))))) else none
@[simp] theorem sRem_ap (i : Nat) (m : Ev → Option D) (ρ : Ev) : sRem i m ρ = (ownAt i ρ).bind fun ds => (m ρ).bind fun d => if SeqAt.shaped d = true ∧ SeqAt.shaped (.list ds) = true ∧ PyData.plainAll ds = true ∧ d.plain = true ∧ d.depth ≤ 8 then (PySem.SeqAt.dataPlace ds d).bind fun j => some (.nx (ρ.set i (some (.own (ds.eraseIdx j))))) else none := rfl
end
end Dm


namespace Dm
open PySem PySem.Spec L2
def spO (K : PySem.W.Frag) (mg : Str → Option Value) (n : Nat) (f : List D → Option (List D)) : Sp := fun vs H Q _ => ∃ F ds rs, Same F H ∧ RpA K mg F vs ds ∧ ds.length = n ∧ f ds = some rs ∧ ∀ p xs F' H', Stp F H F' H' → H p = none → F' p = none → H' p = some (.lst xs) → RpA K mg F' xs rs → Q (.ref p) H'
def tSO (K : PySem.W.Frag) (mg : Str → Option Value) (m : Ev → Option (List D)) : TS := fun D σ H => ∃ F0 H0 F ρ rs, Ok K mg F0 H0 F H σ ρ ∧ m ρ = some rs ∧ ∀ p xs F' H', Stp F0.1 H0 F' H' → H0 p = none → F' p = none → H' p = some (.lst xs) → RpA K mg F' xs rs → D.rt (.ref p) H'
abbrev DSO (X : Cx) (s : List Stmt) (m : Ev → Option (List D)) : Prop := PSs X s (tSO X.K X.mg m)
def retO (i : Nat) : Ev → Option (List D) := fun ρ => ownAt i ρ
def seqO (a : Ev → Option Out) (b : Ev → Option (List D)) : Ev → Option (List D) := fun ρ => (a ρ).bind fun o => match o with
  | .nx ρ' => b ρ'
  | _ => none
def runO (s : Nat) (b : Ev → Option (List D)) : List D → Option (List D) := fun ds => b (init s ds)
def fCallO (n : Nat) (f : List D → Option (List D)) (a : Ev → Option (List D)) : Ev → Option (List D) := fun ρ => (a ρ).bind fun ds => if ds.length = n then f ds else none
@[simp] theorem retO_ap (i : Nat) (ρ : Ev) : retO i ρ = ownAt i ρ := rfl
@[simp] theorem seqO_ap (a : Ev → Option Out) (b : Ev → Option (List D)) (ρ : Ev) : seqO a b ρ = (a ρ).bind fun o => match o with
  | .nx ρ' => b ρ'
  | _ => none := rfl
@[simp] theorem runO_ap (s : Nat) (b : Ev → Option (List D)) (ds : List D) : runO s b ds = b (init s ds) := rfl
@[simp] theorem fCallO_ap (n : Nat) (f : List D → Option (List D)) (a : Ev → Option (List D)) (ρ : Ev) : fCallO n f a ρ = (a ρ).bind fun ds => if ds.length = n then f ds else none := rfl
section
variable {X : Cx} {pos : Pos} {st : Stmt} {rest : List Stmt} {m : Ev → Option D} {e : Expr}
theorem s_retO (i : Nat) {x : Str} {p1 : Pos} (hN : X.N[i]? = some x := by rfl) (hv : Vis X.env.scope x := by first | exact Or.inl rfl | exact Or.inr (Or.inl rfl) | exact Or.inr (Or.inr rfl)) (hd : (x == ("__debug__" : Str)) = false := by decide)
    (hcd : (x == ("__classdict__" : Str)) = false := by decide) : DSO X [.Return (some (.Name x p1)) pos] (retO i) := PSs.weak (pss_one (ps_ret (pe_var hN hv hd hcd))) fun D σ H ⟨F0, H0, F, ρ, rs, k, e, q⟩ => by
  have ho := ownAt_some e
  obtain ⟨a, xs, e1, fa, h0, ha, r⟩ := k.rel i _ ho
  exact ⟨_, e1, q a xs F H k.st h0 fa ha r⟩
theorem s_consO {a : Ev → Option Out} {b : Ev → Option (List D)} (h : DS X st a) (hr : DSO X rest b) : DSO X (st :: rest) (seqO a b) := PSs.weak (pss_cons h hr) fun D σ H ⟨F0, H0, F, ρ, rs, k, e, q⟩ => by
  obtain ⟨o, h1, e⟩ := bind_some e
  cases o with
  | nx ρ1 => exact ⟨F0, H0, F, ρ, .nx ρ1, k, h1, fun σ1 F1 H1 k1 s1 => ⟨F0, H0, F1, ρ1, rs, k1, e, q⟩⟩
  | rt d => cases e
  | bk d => cases e
  | ct d => cases e
theorem f_callO {CX : CXT} {k n : Nat} {f : Addr} {fd : FuncData} {ps : List Str} {g : List D → Option (List D)} {x : Str} {p : Pos} {e : Expr} {es : List Expr} {ms : Ev → Option (List D)} {E : XK} {j : Nat} (G : FnOk X.prog X.w X.K X.mg X.base CX k f fd ps (spO X.K X.mg n g)) (hr : Room j X.A) (hj : k ≤ j) (hm : X.mg x = some (.ref f)) (hk : PySem.W.keepIn X.K (.ref f) = true) (hb : Binds X.K fd ps []) (hx : Passes CX X E)
    (ha : DA X (e :: es) ms) (hg : Gl X x := by rfl) (hdb : (x == ("__debug__" : Str)) = false := by decide) (he : starEach (e :: es) X.env = (false, eval e X.env) :: starEach es X.env := by rfl) (hpl : (backTo pos (starEach es X.env)).any (·.1) = false := by rfl) :
    DF X (.Call (.Name x p) (e :: es) [] pos) (fCallO n g ms) := PE.weak (pe_call G (hr.mono hj) hg hm hk hb .nil hx ha hdb he hpl) fun σ H Q ⟨F0, H0, F, ρ, rs, k, e, q⟩ => by
  obtain ⟨ds, h1, e⟩ := bind_some e
  split at e
  · rename_i hl
    refine ⟨F0, H0, F, ρ, ds, k, h1, fun vs F1 H1 t1 r1 => ?_⟩
    show spO X.K X.mg n g (vs ++ []) H1 Q E
    rw [List.append_nil]
    exact ⟨F1, ds, rs, t1.s, r1, hl, e, fun p xs F2 H2 t2 hp fp hh rr => q p xs F2 H2 (t1.trans t2) (t1.h.free hp) fp hh rr⟩
  · cases e
end
theorem def_okO {P : Program} {w : World} {K : PySem.W.Frag} {mg : Str → Option Value} {base : Heap} {x : Str} {st : Stmt} {f : Addr} {fd : FuncData} {N ps : List Str} {k n s : Nat} {b : Ev → Option (List D)} (F : Fun K x x st f fd) (S : FnScope N ps (defScope st)) (hn : ps.length = n) (hs : N.length = s)
    (hb : ∀ (cdv : Value) (A : Around) (outer : List Env) (sh : Shared) (H : Hp) (E : XK), Room k (A.deeper (PyProof.Rows.envOfC x (defScope st) sh.heap.objs.size f cdv)) → DSO (cxOf CX0 P w K mg base N x (defScope st) f cdv A outer sh H E).nox (defBody st) b) : FnOk P w K mg base CX0 (k + 1) f fd ps (spO K mg n (runO s b)) := by
  refine F.ok S (fun vs H Q E h => ?_) (fun cdv A outer sh H vs Q E hr h => ?_)
  · obtain ⟨F, ds, d, _, r, hl, _⟩ := h
    rw [r.length, hl, hn]
  · refine ⟨_, hb cdv A outer sh H E hr, ?_⟩
    obtain ⟨F, ds, rs, s1, r, hl, e, q⟩ := h
    refine ⟨(F, 0), H, F, init s ds, rs, ?_, e, q⟩
    rw [← hs]
    exact Ok.start s1 r
structure DefOkO (P : Program) (w : World) (K : PySem.W.Frag) (mg : Str → Option Value) (base : Heap) (k n : Nat) (x : Str) (ps : List Str) (m : List D → Option (List D)) : Prop where
  ex : ∃ (f : Addr) (fd : FuncData), FnOk P w K mg base CX0 k f fd ps (spO K mg n m) ∧ mg x = some (.ref f) ∧ PySem.W.keepIn K (.ref f) = true ∧ Binds K fd ps []
def hole (H : Hp) (a : Addr) : Hp := fun b => if b = a then none else H b
theorem hole_ne {H : Hp} {a b : Addr} (h : b ≠ a) : hole H a b = H b := if_neg h
def spM (K : PySem.W.Frag) (mg : Str → Option Value) (n : Nat) (f : List D → List D → Option (List D)) : Sp := fun vs H Q _ => ∃ F ws ds a xs es rs, vs = ws ++ [.ref a] ∧ Same F H ∧ RpA K mg F ws ds ∧ ds.length = n ∧ F a = none ∧ H a = some (.lst xs) ∧ RpA K mg F xs es ∧ f ds es = some rs ∧
  ∀ F' H' xs', Stp F (hole H a) F' H' → F' a = none → H' a = some (.lst xs') → RpA K mg F' xs' rs → Q .non H'
@[simp] def argAt (i : Nat) (ρ : Ev) : Option (List D) := match ρ[i]? with
  | some (some (.arg ds)) => some ds
  | _ => none
def initM (s : Nat) (ds es : List D) : Ev := ds.map (fun d => some (L.dat d)) ++ (some (L.arg es) :: List.replicate (s - (ds.length + 1)) none)
def runM (s : Nat) (b : Ev → Option Out) : List D → List D → Option (List D) := fun ds es => (b (initM s ds es)).bind fun o => match o with
  | .nx ρ => argAt ds.length ρ
  | _ => none
@[simp] theorem runM_ap (s : Nat) (b : Ev → Option Out) (ds es : List D) : runM s b ds es = (b (initM s ds es)).bind fun o => match o with
  | .nx ρ => argAt ds.length ρ
  | _ => none := rfl
def sCallM (i : Nat) (g : List D → List D → Option (List D)) (m : Ev → Option D) : Ev → Option Out := fun ρ => (m ρ).bind fun d => (ownAt i ρ).bind fun es => (g [d] es).bind fun rs => some (.nx (ρ.set i (some (.own rs))))
@[simp] theorem sCallM_ap (i : Nat) (g : List D → List D → Option (List D)) (m : Ev → Option D) (ρ : Ev) : sCallM i g m ρ = (m ρ).bind fun d => (ownAt i ρ).bind fun es => (g [d] es).bind fun rs => some (.nx (ρ.set i (some (.own rs)))) := rfl
section
variable {K : PySem.W.Frag} {mg : Str → Option Value} {F0 : Fz} {H0 F H F' H' : Hp} {σ : L2.St} {ρ : Ev}
end
structure DefOkM (P : Program) (w : World) (K : PySem.W.Frag) (mg : Str → Option Value) (base : Heap) (k n : Nat) (x : Str) (ps : List Str) (m : List D → List D → Option (List D)) : Prop where
  ex : ∃ (f : Addr) (fd : FuncData), FnOk P w K mg base CX0 k f fd ps (spM K mg n m) ∧ mg x = some (.ref f) ∧ PySem.W.keepIn K (.ref f) = true ∧ Binds K fd ps []
/-- x.append(e) of the list that was handed in -/
def sAppA (i : Nat) (m : Ev → Option D) : Ev → Option Out := fun ρ => (argAt i ρ).bind fun ds => (m ρ).bind fun d => if okN ds.length = true then some (.nx (ρ.set i (some (.arg (ds ++ [d]))))) else none
@[simp] theorem sAppA_ap (i : Nat) (m : Ev → Option D) (ρ : Ev) : sAppA i m ρ = (argAt i ρ).bind fun ds => (m ρ).bind fun d => if okN ds.length = true then some (.nx (ρ.set i (some (.arg (ds ++ [d]))))) else none := rfl
section
variable {X : Cx} {pos : Pos} {m : Ev → Option D} {e : Expr}
def eIsLO (i : Nat) : Ev → Option D := fun ρ => (ownOf i ρ).bind fun _ => some (.bool true)
@[simp] theorem eIsLO_ap (i : Nat) (ρ : Ev) : eIsLO i ρ = (ownOf i ρ).bind fun _ => some (.bool true) := rfl
end
end Dm


namespace Dm
open PySem PySem.Spec L2
abbrev DET (X : Cx) (e : Expr) (m : Ev → Option D) : Prop := PET X e (tD X.K X.mg m)
abbrev DAT (X : Cx) (es : List Expr) (m : Ev → Option (List D)) : Prop := PAT X es (tA X.K X.mg m)
abbrev DST (X : Cx) (s : Stmt) (m : Ev → Option Out) : Prop := PST X s (tS X.K X.mg m)
abbrev DSsT (X : Cx) (s : List Stmt) (m : Ev → Option Out) : Prop := PSsT X s (tS X.K X.mg m)
def eRepl (y z : Str) (m : Ev → Option D) : Ev → Option D := fun ρ => (m ρ).bind fun x => match x with
  | .str a => if okN (a.length + (a.length + 1) * z.length) = true then some (.str (Txt.replace a y z)) else none
  | _ => none
@[simp] theorem eRepl_ap (y z : Str) (m : Ev → Option D) (ρ : Ev) : eRepl y z m ρ = (m ρ).bind fun x => match x with
  | .str a => if okN (a.length + (a.length + 1) * z.length) = true then some (.str (Txt.replace a y z)) else none
  | _ => none := rfl
section
variable {X : Cx} {pos : Pos} {o a b e : Expr} {m m1 m2 : Ev → Option D} {st : Stmt} {rest : List Stmt}
end
end Dm


namespace Dm
open PySem PySem.Spec L2
inductive Res where | ok (d : D) | ex (c : Str) (fs : List (Str × D))
inductive RpX (K : PySem.W.Frag) (mg : Str → Option Value) (F : Hp) : List (Str × V) → List (Str × D) → Prop
  | nil : RpX K mg F [] []
  | cons {x : Str} {v : V} {d : D} {ws : List (Str × V)} {fs : List (Str × D)} : Rp K mg F v d → RpX K mg F ws fs → RpX K mg F ((x, v) :: ws) ((x, d) :: fs)
/-- an error that leaves: its class, its fields -/
def ExP (K : PySem.W.Frag) (mg : Str → Option Value) (E : XK) (F0 H0 : Hp) (c : Str) (fs : List (Str × D)) : Prop :=
  ∀ (C : Addr) (dd : Option Addr) (F H : Hp), mg c = some (.ref C) → Stp F0 H0 F H → ((fs = [] ∧ dd = none) ∨ ∃ a ws, dd = some a ∧ H0 a = none ∧ F a = none ∧ H a = some (.xd ws) ∧ RpX K mg F ws fs) → E (.ref C) dd H
section
variable {K : PySem.W.Frag} {mg : Str → Option Value} {E : XK} {F0 H0 F H : Hp} {c : Str} {fs : List (Str × D)}
theorem ExP.step (h : ExP K mg E F0 H0 c fs) (t : Stp F0 H0 F H) : ExP K mg E F H c fs := fun C dd F1 H1 hc t1 hh =>
  h C dd F1 H1 hc (t.trans t1) (hh.imp id fun ⟨a, ws, e1, e2, e3, e4, e5⟩ => ⟨a, ws, e1, t.h.free e2, e3, e4, e5⟩)
end
def spX (K : PySem.W.Frag) (mg : Str → Option Value) (n : Nat) (f : List D → Option Res) : Sp := fun vs H Q E => ∃ F ds r, Same F H ∧ RpA K mg F vs ds ∧ ds.length = n ∧ f ds = some r ∧ match r with
  | .ok d => ∀ v F' H', Stp F H F' H' → Rp K mg F' v d → Q v H'
  | .ex c fs => ExP K mg E F H c fs
/-- an expression that may raise -/
def tDX (K : PySem.W.Frag) (mg : Str → Option Value) (E : XK) (m : Ev → Option Res) : TE := fun σ H Q => ∃ F0 H0 F ρ r, Ok K mg F0 H0 F H σ ρ ∧ m ρ = some r ∧ match r with
  | .ok d => ∀ v F' H', Stp F H F' H' → Rp K mg F' v d → Q v H'
  | .ex c fs => ExP K mg E F0.1 H0 c fs
abbrev DEX (X : Cx) (E : XK) (e : Expr) (m : Ev → Option Res) : Prop := PE X e (tDX X.K X.mg E m)
/-- the errors of a def leave it -/
abbrev Lets (X : Cx) (E : XK) : Prop := Takes X fun cls d _ H => E cls d H
def eCallX (n : Nat) (f : List D → Option Res) (a : Ev → Option (List D)) : Ev → Option Res := fun ρ => (a ρ).bind fun ds => if ds.length = n then f ds else none
@[simp] theorem eCallX_ap (n : Nat) (f : List D → Option Res) (a : Ev → Option (List D)) (ρ : Ev) : eCallX n f a ρ = (a ρ).bind fun ds => if ds.length = n then f ds else none := rfl
inductive OutX where | o (o : Out) | ex (c : Str) (fs : List (Str × D))
def PostX (K : PySem.W.Frag) (mg : Str → Option Value) (E : XK) (D : Ends) (F0 : Fz) (H0 Fe : Hp) : OutX → Prop
  | .o o => Post K mg D F0 H0 Fe o
  | .ex c fs => ExP K mg E F0.1 H0 c fs
def tSX (K : PySem.W.Frag) (mg : Str → Option Value) (E : XK) (m : Ev → Option OutX) : TS := fun D σ H => ∃ F0 H0 F ρ o, Ok K mg F0 H0 F H σ ρ ∧ m ρ = some o ∧ PostX K mg E D F0 H0 F o
abbrev DSX (X : Cx) (E : XK) (s : Stmt) (m : Ev → Option OutX) : Prop := PS X s (tSX X.K X.mg E m)
abbrev DSsX (X : Cx) (E : XK) (s : List Stmt) (m : Ev → Option OutX) : Prop := PSs X s (tSX X.K X.mg E m)
def xOf (m : Ev → Option Out) : Ev → Option OutX := fun ρ => (m ρ).bind fun o => some (.o o)
def xSeq (a b : Ev → Option OutX) : Ev → Option OutX := fun ρ => (a ρ).bind fun o => match o with
  | .o (.nx ρ') => b ρ'
  | o => some o
def xIf (t : Ev → Option Bool) (a b : Ev → Option OutX) : Ev → Option OutX := fun ρ => (t ρ).bind fun k => if k = true then a ρ else b ρ
def xIce (is : List Nat) (m : Ev → Option OutX) : Ev → Option OutX := fun ρ => m (ices is ρ)
def xRet (m : Ev → Option Res) : Ev → Option OutX := fun ρ => (m ρ).bind fun r => match r with
  | .ok d => some (.o (.rt d))
  | .ex c fs => some (.ex c fs)
def xAsg (g : D → Ev → Option Ev) (m : Ev → Option Res) : Ev → Option OutX := fun ρ => (m ρ).bind fun r => match r with
  | .ok d => (g d ρ).bind fun ρ' => some (.o (.nx ρ'))
  | .ex c fs => some (.ex c fs)
def xRaise (c f : Str) (m : Ev → Option D) : Ev → Option OutX := fun ρ => (m ρ).bind fun d => some (.ex c [(f, d)])
@[simp] theorem xOf_ap (m : Ev → Option Out) (ρ : Ev) : xOf m ρ = (m ρ).bind fun o => some (.o o) := rfl
@[simp] theorem xSeq_ap (a b : Ev → Option OutX) (ρ : Ev) : xSeq a b ρ = (a ρ).bind fun o => match o with
  | .o (.nx ρ') => b ρ'
  | o => some o := rfl
@[simp] theorem xIf_ap (t : Ev → Option Bool) (a b : Ev → Option OutX) (ρ : Ev) : xIf t a b ρ = (t ρ).bind fun k => if k = true then a ρ else b ρ := rfl
@[simp] theorem xIce_ap (is : List Nat) (m : Ev → Option OutX) (ρ : Ev) : xIce is m ρ = m (ices is ρ) := rfl
@[simp] theorem xRet_ap (m : Ev → Option Res) (ρ : Ev) : xRet m ρ = (m ρ).bind fun r => match r with
  | .ok d => some (.o (.rt d))
  | .ex c fs => some (.ex c fs) := rfl
@[simp] theorem xAsg_ap (g : D → Ev → Option Ev) (m : Ev → Option Res) (ρ : Ev) : xAsg g m ρ = (m ρ).bind fun r => match r with
  | .ok d => (g d ρ).bind fun ρ' => some (.o (.nx ρ'))
  | .ex c fs => some (.ex c fs) := rfl
@[simp] theorem xRaise_ap (c f : Str) (m : Ev → Option D) (ρ : Ev) : xRaise c f m ρ = (m ρ).bind fun d => some (.ex c [(f, d)]) := rfl
def outX : OutX → Option Res
  | .o (.rt d) => some (.ok d)
  | .o (.nx _) => some (.ok .none)
  | .ex c fs => some (.ex c fs)
  | _ => none
def runX (s : Nat) (b : Ev → Option OutX) : List D → Option Res := fun ds => (b (init s ds)).bind outX
@[simp] theorem runX_ap (s : Nat) (b : Ev → Option OutX) (ds : List D) : runX s b ds = (b (init s ds)).bind outX := rfl
section
variable {X : Cx} {E : XK} {pos : Pos} {st : Stmt} {rest : List Stmt} {e : Expr} {m : Ev → Option D} {mx : Ev → Option Res} {a b : Ev → Option OutX}
theorem PostX.mono {K : PySem.W.Frag} {mg : Str → Option Value} {D : Ends} {F0 : Fz} {H0 F F' : Hp} {o : OutX} (s : Same F F') (q : PostX K mg E D F0 H0 F o) : PostX K mg E D F0 H0 F' o := by
  cases o with
  | o o => exact Post.mono s q
  | ex c fs => exact q
end
structure DefOkX (P : Program) (w : World) (K : PySem.W.Frag) (mg : Str → Option Value) (base : Heap) (k n : Nat) (x : Str) (ps : List Str) (m : List D → Option Res) : Prop where
  ex : ∃ (f : Addr) (fd : FuncData), FnOk P w K mg base (CX P w) k f fd ps (spX K mg n m) ∧ mg x = some (.ref f) ∧ PySem.W.keepIn K (.ref f) = true ∧ Binds K fd ps []
def spI (K : PySem.W.Frag) (f : Str) : Sp := fun vs H Q _ => ∃ (a C : Addr) (v : V), vs = [.ref a, v] ∧ H a = some (exo a C none) ∧ OexC K C ∧ PySem.W.findIn K (.ref C) f = some none ∧ ∀ dx, H dx = none → dx ≠ a → Q .non (upd (upd H dx (exd dx [(f, v)])) a (exo a C (some dx)))
/-- what the written part says of an error's class -/
structure ErrTxt (P : Program) (w : World) (K : PySem.W.Frag) (mg : Str → Option Value) (base : Heap) (c f : Str) : Prop where
  ex : ∃ (C fI : Addr) (k : Nat) (fd : FuncData) (ps : List Str), mg c = some (.ref C) ∧ OexC K C ∧ PySem.W.findIn K (.ref C) f = some none ∧ PySem.W.findIn K (.ref C) "__init__" = some (some (.ref fI)) ∧ PySem.W.typeIn K (.ref fI) = some (.type "function") ∧ k ≤ 1 ∧ FnOk P w K mg base CX0 k fI fd ps (spI K f) ∧ Binds K fd ps []
section
variable {X : Cx} {E : XK} {pos : Pos} {e : Expr} {m : Ev → Option D}
def okD : Res → Option D
  | .ok d => some d
  | .ex _ _ => none
@[simp] theorem okD_ok (d : D) : okD (.ok d) = some d := rfl
def eCallN (n : Nat) (f : List D → Option Res) (a : Ev → Option (List D)) : Ev → Option D := fun ρ => (a ρ).bind fun ds => if ds.length = n then (f ds).bind okD else none
@[simp] theorem eCallN_ap (n : Nat) (f : List D → Option Res) (a : Ev → Option (List D)) (ρ : Ev) : eCallN n f a ρ = (a ρ).bind fun ds => if ds.length = n then (f ds).bind okD else none := rfl
end
inductive ResL where | ok (ds : List D) | ex (c : Str) (fs : List (Str × D))
def spOX (K : PySem.W.Frag) (mg : Str → Option Value) (n : Nat) (f : List D → Option ResL) : Sp := fun vs H Q E => ∃ F ds r, Same F H ∧ RpA K mg F vs ds ∧ ds.length = n ∧ f ds = some r ∧ match r with
  | .ok rs => ∀ p xs F' H', Stp F H F' H' → H p = none → F' p = none → H' p = some (.lst xs) → RpA K mg F' xs rs → Q (.ref p) H'
  | .ex c fs => ExP K mg E F H c fs
def spMX (K : PySem.W.Frag) (mg : Str → Option Value) (n : Nat) (f : List D → List D → Option ResL) : Sp := fun vs H Q E => ∃ F ws ds a xs es r, vs = ws ++ [.ref a] ∧ Same F H ∧ RpA K mg F ws ds ∧ ds.length = n ∧ F a = none ∧ H a = some (.lst xs) ∧ RpA K mg F xs es ∧ f ds es = some r ∧ match r with
  | .ok rs => ∀ F' H' xs', Stp F (hole H a) F' H' → F' a = none → H' a = some (.lst xs') → RpA K mg F' xs' rs → Q .non H'
  | .ex c fs => ExP K mg E F (hole H a) c fs
def runMX (s : Nat) (b : Ev → Option OutX) : List D → List D → Option ResL := fun ds es => (b (initM s ds es)).bind fun o => match o with
  | .o (.nx ρ) => (argAt ds.length ρ).bind fun rs => some (.ok rs)
  | .ex c fs => some (.ex c fs)
  | _ => none
@[simp] theorem runMX_ap (s : Nat) (b : Ev → Option OutX) (ds es : List D) : runMX s b ds es = (b (initM s ds es)).bind fun o => match o with
  | .o (.nx ρ) => (argAt ds.length ρ).bind fun rs => some (.ok rs)
  | .ex c fs => some (.ex c fs)
  | _ => none := rfl
structure DefOkMX (P : Program) (w : World) (K : PySem.W.Frag) (mg : Str → Option Value) (base : Heap) (k n : Nat) (x : Str) (ps : List Str) (m : List D → List D → Option ResL) : Prop where
  ex : ∃ (f : Addr) (fd : FuncData), FnOk P w K mg base (CX P w) k f fd ps (spMX K mg n m) ∧ mg x = some (.ref f) ∧ PySem.W.keepIn K (.ref f) = true ∧ Binds K fd ps []
def tSOX (K : PySem.W.Frag) (mg : Str → Option Value) (E : XK) (m : Ev → Option ResL) : TS := fun D σ H => ∃ F0 H0 F ρ r, Ok K mg F0 H0 F H σ ρ ∧ m ρ = some r ∧ match r with
  | .ok rs => ∀ p xs F' H', Stp F0.1 H0 F' H' → H0 p = none → F' p = none → H' p = some (.lst xs) → RpA K mg F' xs rs → D.rt (.ref p) H'
  | .ex c fs => ExP K mg E F0.1 H0 c fs
abbrev DSOX (X : Cx) (E : XK) (s : List Stmt) (m : Ev → Option ResL) : Prop := PSs X s (tSOX X.K X.mg E m)
def xRetO (i : Nat) : Ev → Option ResL := fun ρ => (ownAt i ρ).bind fun rs => some (.ok rs)
def xSeqO (a : Ev → Option OutX) (b : Ev → Option ResL) : Ev → Option ResL := fun ρ => (a ρ).bind fun o => match o with
  | .o (.nx ρ') => b ρ'
  | .ex c fs => some (.ex c fs)
  | _ => none
def xCallM (i : Nat) (g : List D → List D → Option ResL) (m : Ev → Option D) : Ev → Option OutX := fun ρ => (m ρ).bind fun d => (ownAt i ρ).bind fun es => (g [d] es).bind fun r => match r with
  | .ok rs => some (.o (.nx (ρ.set i (some (.own rs)))))
  | .ex c fs => some (.ex c fs)
@[simp] theorem xRetO_ap (i : Nat) (ρ : Ev) : xRetO i ρ = (ownAt i ρ).bind fun rs => some (.ok rs) := rfl
@[simp] theorem xSeqO_ap (a : Ev → Option OutX) (b : Ev → Option ResL) (ρ : Ev) : xSeqO a b ρ = (a ρ).bind fun o => match o with
  | .o (.nx ρ') => b ρ'
  | .ex c fs => some (.ex c fs)
  | _ => none := rfl
@[simp] theorem xCallM_ap (i : Nat) (g : List D → List D → Option ResL) (m : Ev → Option D) (ρ : Ev) : xCallM i g m ρ = (m ρ).bind fun d => (ownAt i ρ).bind fun es => (g [d] es).bind fun r => match r with
  | .ok rs => some (.o (.nx (ρ.set i (some (.own rs)))))
  | .ex c fs => some (.ex c fs) := rfl
def runOX (s : Nat) (b : Ev → Option ResL) : List D → Option ResL := fun ds => b (init s ds)
@[simp] theorem runOX_ap (s : Nat) (b : Ev → Option ResL) (ds : List D) : runOX s b ds = b (init s ds) := rfl
section
variable {X : Cx} {E : XK} {pos : Pos} {st : Stmt} {rest : List Stmt} {e : Expr} {m : Ev → Option D}
end
structure DefOkOX (P : Program) (w : World) (K : PySem.W.Frag) (mg : Str → Option Value) (base : Heap) (k n : Nat) (x : Str) (ps : List Str) (m : List D → Option ResL) : Prop where
  ex : ∃ (f : Addr) (fd : FuncData), FnOk P w K mg base (CX P w) k f fd ps (spOX K mg n m) ∧ mg x = some (.ref f) ∧ PySem.W.keepIn K (.ref f) = true ∧ Binds K fd ps []
def fCallON (n : Nat) (f : List D → Option ResL) (a : Ev → Option (List D)) : Ev → Option (List D) := fun ρ => (a ρ).bind fun ds => if ds.length = n then (f ds).bind fun r => match r with
  | .ok rs => some rs
  | .ex _ _ => none
  else none
@[simp] theorem fCallON_ap (n : Nat) (f : List D → Option ResL) (a : Ev → Option (List D)) (ρ : Ev) : fCallON n f a ρ = (a ρ).bind fun ds => if ds.length = n then (f ds).bind fun r => match r with
  | .ok rs => some rs
  | .ex _ _ => none
  else none := rfl
end Dm


namespace Dm
open PySem PySem.Spec L2
end Dm


namespace Dm
open PySem PySem.Spec L2
/-- the error that the suite holds, in slot i -/
def ErAt (K : PySem.W.Frag) (mg : Str → Option Value) (a : Addr) (cls : Value) (dd : Option Addr) (i : Nat) (σ : L2.St) (F H : Hp) (c : Str) (fs : List (Str × D)) : Prop :=
  σ[i]? = some (some (.ref a)) ∧ ∃ C, cls = .ref C ∧ mg c = some (.ref C) ∧ ((fs = [] ∧ dd = none) ∨ ∃ b ws, dd = some b ∧ H b = some (.xd ws) ∧ RpX K mg F ws fs)
section
variable {K : PySem.W.Frag} {mg : Str → Option Value} {a : Addr} {cls : Value} {dd : Option Addr} {i : Nat} {σ : L2.St} {F H F' H' : Hp} {c : Str} {fs : List (Str × D)}
theorem RpX.mono {ws : List (Str × V)} (s : Same F F') (r : RpX K mg F ws fs) : RpX K mg F' ws fs := by
  induction r with
  | nil => exact .nil
  | cons h _ ih => exact .cons (h.mono s) ih
theorem RpX.find {ws : List (Str × V)} (r : RpX K mg F ws fs) {f : Str} {d : D} (h : fs.lookup f = some d) : ∃ v, ws.lookup f = some v ∧ Rp K mg F v d := by
  induction r with
  | nil => cases h
  | @cons x v d' ws fs hr _ ih =>
    rw [List.lookup_cons] at h ⊢
    cases e : f == x with
    | true =>
      rw [e] at h
      cases h
      exact ⟨v, rfl, hr⟩
    | false =>
      rw [e] at h
      exact ih h
theorem ErAt.step (h : ErAt K mg a cls dd i σ F H c fs) (t : Stp F H F' H') : ErAt K mg a cls dd i σ F' H' c fs := by
  obtain ⟨h1, C, h2, h3, h4⟩ := h
  exact ⟨h1, C, h2, h3, h4.imp id fun ⟨b, ws, e1, e2, e3⟩ => ⟨b, ws, e1, t.h b _ e2, e3.mono t.f⟩⟩
end
abbrev Em := Str → List (Str × D) → Ev → Option D
abbrev Et := Str → List (Str × D) → Ev → Option Bool
def tDE (K : PySem.W.Frag) (mg : Str → Option Value) (a : Addr) (cls : Value) (dd : Option Addr) (i : Nat) (m : Em) : TE := fun σ H Q => ∃ F0 H0 F ρ c fs x, Ok K mg F0 H0 F H σ ρ ∧ ErAt K mg a cls dd i σ F H c fs ∧ m c fs ρ = some x ∧ ∀ v F' H', Stp F H F' H' → Rp K mg F' v x → Q v H'
def tTE (K : PySem.W.Frag) (mg : Str → Option Value) (a : Addr) (cls : Value) (dd : Option Addr) (i : Nat) (m : Et) : TT := fun σ H Q => ∃ F0 H0 F ρ c fs x, Ok K mg F0 H0 F H σ ρ ∧ ErAt K mg a cls dd i σ F H c fs ∧ m c fs ρ = some x ∧ ∀ F' H', Stp F H F' H' → Q x H'
def tRE (K : PySem.W.Frag) (mg : Str → Option Value) (a : Addr) (cls : Value) (dd : Option Addr) (i : Nat) (m : Em) : TS := fun D σ H => tDE K mg a cls dd i m σ H D.rt
/-- what isinstance says of a class's instances: by the classes' names -/
def IsT (K : PySem.W.Frag) (mg : Str → Option Value) (T : V) (tbl : List (Str × Bool)) : Prop := ∀ (c : Str) (b : Bool) (C : Addr), tbl.lookup c = some b → mg c = some (.ref C) → ExcC K C ∧ (PySem.W.clsIn K C).isSome = true ∧ ∃ cv, (∀ u, RelV T u → u = cv) ∧ PySem.W.kitOne K (.ref C) cv = some b
def FldT (K : PySem.W.Frag) (mg : Str → Option Value) (f : Str) (cs : List Str) : Prop := ∀ (c : Str) (C : Addr), cs.contains c = true → mg c = some (.ref C) → XfC K C ∧ PySem.W.findIn K (.ref C) f = some none
/-- which classes the clause takes -/
def ExT (K : PySem.W.Frag) (mg : Str → Option Value) (cc : Value) (tbl : List (Str × Bool)) : Prop := ∀ (c : Str) (b : Bool) (C : Addr), tbl.lookup c = some b → mg c = some (.ref C) → PySem.W.exmOne K (.ref C) cc = some b
section
variable {X : Cx} {a : Addr} {oe : Obj} {cls : Value} {dd : Option Addr} {pn : List (Addr × Obj)} {i : Nat} {pos : Pos} {e e' : Expr} {m m' : Em} {t t' : Et} {rest : List Expr}
abbrev DEE (X : Cx) (a : Addr) (oe : Obj) (cls : Value) (dd : Option Addr) (pn : List (Addr × Obj)) (i : Nat) (e : Expr) (m : Em) : Prop := PE (X.suite a ((a, oe) :: pn)) e (tDE X.K X.mg a cls dd i m)
abbrev DTE (X : Cx) (a : Addr) (oe : Obj) (cls : Value) (dd : Option Addr) (pn : List (Addr × Obj)) (i : Nat) (e : Expr) (m : Et) : Prop := PT (X.suite a ((a, oe) :: pn)) e (tTE X.K X.mg a cls dd i m)
abbrev DWE (X : Cx) (a : Addr) (oe : Obj) (cls : Value) (dd : Option Addr) (pn : List (Addr × Obj)) (i : Nat) (e : Expr) (m : Et) : Prop := PW (X.suite a ((a, oe) :: pn)) e (tTE X.K X.mg a cls dd i m)
abbrev DRE (X : Cx) (a : Addr) (oe : Obj) (cls : Value) (dd : Option Addr) (pn : List (Addr × Obj)) (i : Nat) (ss : List Stmt) (m : Em) : Prop := PSs (X.suite a ((a, oe) :: pn)) ss (tRE X.K X.mg a cls dd i m)
def mOf (m : Ev → Option D) : Em := fun _ _ ρ => m ρ
def mIs (tbl : List (Str × Bool)) : Em := fun c _ _ => (tbl.lookup c).bind fun b => some (.bool b)
def mFld (f : Str) (cs : List Str) : Em := fun c fs _ => if cs.contains c = true then fs.lookup f else none
def m1 (f : D → Option D) (m : Em) : Em := fun c fs ρ => (m c fs ρ).bind f
def m2 (f : D → D → Option D) (a b : Em) : Em := fun c fs ρ => (a c fs ρ).bind fun x => (b c fs ρ).bind fun y => f x y
def mB (m : Em) : Et := fun c fs ρ => (m c fs ρ).bind toB
def mNot (t : Et) : Et := fun c fs ρ => (t c fs ρ).bind fun b => some (!b)
def mOr (s t : Et) : Et := fun c fs ρ => (s c fs ρ).bind fun b => if b = true then some true else t c fs ρ
def mAnd (s t : Em) : Em := fun c fs ρ => (s c fs ρ).bind fun x => (toB x).bind fun b => if b = true then t c fs ρ else some (.bool false)
def mNotV (s : Em) : Em := fun c fs ρ => (s c fs ρ).bind fun x => (toB x).bind fun b => some (.bool (!b))
def mIf (t : Et) (a b : Em) : Em := fun c fs ρ => (t c fs ρ).bind fun k => if k = true then a c fs ρ else b c fs ρ
@[simp] theorem mOf_ap (m : Ev → Option D) (c : Str) (fs : List (Str × D)) (ρ : Ev) : mOf m c fs ρ = m ρ := rfl
@[simp] theorem mIs_ap (tbl : List (Str × Bool)) (c : Str) (fs : List (Str × D)) (ρ : Ev) : mIs tbl c fs ρ = (tbl.lookup c).bind fun b => some (.bool b) := rfl
@[simp] theorem mFld_ap (f : Str) (cs : List Str) (c : Str) (fs : List (Str × D)) (ρ : Ev) : mFld f cs c fs ρ = if cs.contains c = true then fs.lookup f else none := rfl
@[simp] theorem m1_ap (f : D → Option D) (m : Em) (c : Str) (fs : List (Str × D)) (ρ : Ev) : m1 f m c fs ρ = (m c fs ρ).bind f := rfl
@[simp] theorem m2_ap (f : D → D → Option D) (a b : Em) (c : Str) (fs : List (Str × D)) (ρ : Ev) : m2 f a b c fs ρ = (a c fs ρ).bind fun x => (b c fs ρ).bind fun y => f x y := rfl
@[simp] theorem mB_ap (m : Em) (c : Str) (fs : List (Str × D)) (ρ : Ev) : mB m c fs ρ = (m c fs ρ).bind toB := rfl
@[simp] theorem mNot_ap (t : Et) (c : Str) (fs : List (Str × D)) (ρ : Ev) : mNot t c fs ρ = (t c fs ρ).bind fun b => some (!b) := rfl
@[simp] theorem mOr_ap (s t : Et) (c : Str) (fs : List (Str × D)) (ρ : Ev) : mOr s t c fs ρ = (s c fs ρ).bind fun b => if b = true then some true else t c fs ρ := rfl
@[simp] theorem mAnd_ap (s t : Em) (c : Str) (fs : List (Str × D)) (ρ : Ev) : mAnd s t c fs ρ = (s c fs ρ).bind fun x => (toB x).bind fun b => if b = true then t c fs ρ else some (.bool false) := rfl
@[simp] theorem mNotV_ap (s : Em) (c : Str) (fs : List (Str × D)) (ρ : Ev) : mNotV s c fs ρ = (s c fs ρ).bind fun x => (toB x).bind fun b => some (.bool (!b)) := rfl
@[simp] theorem mIf_ap (t : Et) (a b : Em) (c : Str) (fs : List (Str × D)) (ρ : Ev) : mIf t a b c fs ρ = (t c fs ρ).bind fun k => if k = true then a c fs ρ else b c fs ρ := rfl
end
/-- slot i holds what no mirror sees -/
theorem Ok.other {K : PySem.W.Frag} {mg : Str → Option Value} {F0 : Fz} {H0 F H : Hp} {σ : L2.St} {ρ : Ev} (k : Ok K mg F0 H0 F H σ ρ) (i : Nat) (v : Option V) : Ok K mg F0 H0 F H (σ.set i v) (ρ.set i none) where
  s := k.s
  st := k.st
  len := by simp [k.len]
  rel := fun j l e => by
    obtain ⟨n, q⟩ := at_none e
    rw [List.getElem?_set_ne n]
    exact k.rel j l q
  disL := fun a b l m c ne e1 h1 e2 h2 e3 => by
    obtain ⟨n1, q1⟩ := at_none e1
    obtain ⟨n2, q2⟩ := at_none e2
    rw [List.getElem?_set_ne n1] at e3
    rw [List.getElem?_set_ne n2]
    exact k.disL a b l m c ne q1 h1 q2 h2 e3
def sTryO (n : Nat) (f : List D → Option ResL) (ms : Ev → Option (List D)) (i : Nat) (ct : List (Str × Bool)) (g : Em) : Ev → Option Out := fun ρ => (ms ρ).bind fun ds => if ds.length = n then (f ds).bind fun r => match r with
  | .ok _ => some (.nx ρ)
  | .ex c fs => if i < ρ.length then (if ct.lookup c = some true then (g c fs (ρ.set i none)).bind fun x => some (.rt x) else none) else none
  else none
@[simp] theorem sTryO_ap (n : Nat) (f : List D → Option ResL) (ms : Ev → Option (List D)) (i : Nat) (ct : List (Str × Bool)) (g : Em) (ρ : Ev) : sTryO n f ms i ct g ρ = (ms ρ).bind fun ds => if ds.length = n then (f ds).bind fun r => match r with
  | .ok _ => some (.nx ρ)
  | .ex c fs => if i < ρ.length then (if ct.lookup c = some true then (g c fs (ρ.set i none)).bind fun x => some (.rt x) else none) else none
  else none := rfl
section
variable {X : Cx} {k : Nat} {a : Addr} {pn : List (Addr × Obj)}
end
end Dm


namespace Dm
open PySem PySem.Spec L2
section
variable {K : PySem.W.Frag} {mg : Str → Option Value} {T : V} {cc : Value} {c f : Str} {b : Bool} {C A : Addr} {l : List (Str × Bool)} {cs : List Str}
structure ClsT (K : PySem.W.Frag) (C : Addr) : Prop where
  ex : ExcC K C
  ci : (PySem.W.clsIn K C).isSome = true
theorem IsT.nil : IsT K mg T [] := fun _ _ _ h => by cases h
theorem IsT.cons {cv : Value} (hm : mg c = some (.ref C)) (h : ClsT K C) (hT : ∀ u, RelV T u → u = cv) (hk : PySem.W.kitOne K (.ref C) cv = some b) (r : IsT K mg T l) : IsT K mg T ((c, b) :: l) := fun c' b' C' hl hm' => by
  rw [List.lookup_cons] at hl
  cases e : c' == c with
  | true =>
    rw [e] at hl
    cases hl
    have ec : c' = c := beq_iff_eq.mp e
    rw [ec, hm] at hm'
    cases hm'
    exact ⟨h.ex, h.ci, cv, hT, hk⟩
  | false =>
    rw [e] at hl
    exact r c' b' C' hl hm'
theorem ExT.nil : ExT K mg cc [] := fun _ _ _ h => by cases h
theorem ExT.cons (hm : mg c = some (.ref C)) (hk : PySem.W.exmOne K (.ref C) cc = some b) (r : ExT K mg cc l) : ExT K mg cc ((c, b) :: l) := fun c' b' C' hl hm' => by
  rw [List.lookup_cons] at hl
  cases e : c' == c with
  | true =>
    rw [e] at hl
    cases hl
    have ec : c' = c := beq_iff_eq.mp e
    rw [ec, hm] at hm'
    cases hm'
    exact hk
  | false =>
    rw [e] at hl
    exact r c' b' C' hl hm'
theorem FldT.nil : FldT K mg f [] := fun _ _ h => by cases h
theorem FldT.cons (hm : mg c = some (.ref C)) (h : XfC K C) (hn : PySem.W.findIn K (.ref C) f = some none) (r : FldT K mg f cs) : FldT K mg f (c :: cs) := fun c' C' hl hm' => by
  rw [List.contains_cons] at hl
  cases e : c' == c with
  | true =>
    have ec : c' = c := beq_iff_eq.mp e
    rw [ec, hm] at hm'
    cases hm'
    exact ⟨h, hn⟩
  | false =>
    rw [e] at hl
    exact r c' C' hl hm'
end
end Dm


namespace Dm
open PySem PySem.Spec L2
/-- no list slot holds it -/
def Free (ρ : Ev) (σ : L2.St) (b : Addr) : Prop := ∀ (i : Nat) (l : L), ρ[i]? = some (some l) → isL l = true → σ[i]? ≠ some (some (.ref b))
/-- what stands and is in no list slot stays -/
structure Kp (σ : L2.St) (ρ ρ' : Ev) (F H F' H' : Hp) : Prop where
  s : Same F F'
  fr : ∀ b, Free ρ σ b → Free ρ' σ b
  k : ∀ b o, H b = some o → Free ρ σ b → H' b = some o
  n : ∀ b o, F b = none → H b = some o → Free ρ σ b → F' b = none
  ls : ∀ (i : Nat) (l : L), ρ[i]? = some (some l) → isL l = true → ∃ l', ρ'[i]? = some (some l') ∧ isL l' = true
section
variable {σ : L2.St} {ρ ρ1 ρ2 : Ev} {F H F1 H1 F2 H2 : Hp}
theorem Kp.of (t : Stp F H F1 H1) : Kp σ ρ ρ F H F1 H1 := ⟨t.f, fun _ h => h, fun b o e _ => t.h b o e, fun b o e1 e2 _ => t.n b o e1 e2, fun i l e h => ⟨l, e, h⟩⟩
theorem Kp.trans (a : Kp σ ρ ρ1 F H F1 H1) (b : Kp σ ρ1 ρ2 F1 H1 F2 H2) : Kp σ ρ ρ2 F H F2 H2 :=
  ⟨a.s.trans b.s, fun c h => b.fr c (a.fr c h), fun c o e h => b.k c o (a.k c o e h) (a.fr c h), fun c o e1 e2 h => b.n c o (a.n c o e1 e2 h) (a.k c o e2 h) (a.fr c h), fun i l e h => by
    obtain ⟨l1, e1, h1⟩ := a.ls i l e h
    exact b.ls i l1 e1 h1⟩
end
def tDB (K : PySem.W.Frag) (mg : Str → Option Value) (m : Ev → Option (D × Ev)) : TE := fun σ H Q => ∃ F0 H0 F ρ d ρ', Ok K mg F0 H0 F H σ ρ ∧ m ρ = some (d, ρ') ∧ ∀ v F' H', Ok K mg F0 H0 F' H' σ ρ' → Kp σ ρ ρ' F H F' H' → Rp K mg F' v d → Q v H'
def tAB (K : PySem.W.Frag) (mg : Str → Option Value) (m : Ev → Option (List D × Ev)) : TA := fun σ H Q => ∃ F0 H0 F ρ ds ρ', Ok K mg F0 H0 F H σ ρ ∧ m ρ = some (ds, ρ') ∧ ∀ vs F' H', Ok K mg F0 H0 F' H' σ ρ' → Kp σ ρ ρ' F H F' H' → RpA K mg F' vs ds → Q vs H'
def tTB (K : PySem.W.Frag) (mg : Str → Option Value) (m : Ev → Option (Bool × Ev)) : TT := fun σ H Q => ∃ F0 H0 F ρ b ρ', Ok K mg F0 H0 F H σ ρ ∧ m ρ = some (b, ρ') ∧ ∀ F' H', Ok K mg F0 H0 F' H' σ ρ' → Kp σ ρ ρ' F H F' H' → Q b H'
abbrev DB (X : Cx) (e : Expr) (m : Ev → Option (D × Ev)) : Prop := PE X e (tDB X.K X.mg m)
abbrev DBA (X : Cx) (es : List Expr) (m : Ev → Option (List D × Ev)) : Prop := PA X es (tAB X.K X.mg m)
abbrev DBT (X : Cx) (e : Expr) (m : Ev → Option (Bool × Ev)) : Prop := PT X e (tTB X.K X.mg m)
abbrev DBW (X : Cx) (e : Expr) (m : Ev → Option (Bool × Ev)) : Prop := PW X e (tTB X.K X.mg m)
def kOf {α : Type} (m : Ev → Option α) : Ev → Option (α × Ev) := fun ρ => (m ρ).bind fun x => some (x, ρ)
def k1 (f : D → Option D) (a : Ev → Option (D × Ev)) : Ev → Option (D × Ev) := fun ρ => (a ρ).bind fun p => (f p.1).bind fun d => some (d, p.2)
def k2 (f : D → D → Option D) (a b : Ev → Option (D × Ev)) : Ev → Option (D × Ev) := fun ρ => (a ρ).bind fun p => (b p.2).bind fun q => (f p.1 q.1).bind fun d => some (d, q.2)
def kC (a : Ev → Option (D × Ev)) (b : Ev → Option (List D × Ev)) : Ev → Option (List D × Ev) := fun ρ => (a ρ).bind fun p => (b p.2).bind fun q => some (p.1 :: q.1, q.2)
def kB (a : Ev → Option (D × Ev)) : Ev → Option (Bool × Ev) := fun ρ => (a ρ).bind fun p => (toB p.1).bind fun b => some (b, p.2)
def kNot (a : Ev → Option (Bool × Ev)) : Ev → Option (Bool × Ev) := fun ρ => (a ρ).bind fun p => some (!p.1, p.2)
def kAnd (a b : Ev → Option (Bool × Ev)) : Ev → Option (Bool × Ev) := fun ρ => (a ρ).bind fun p => if p.1 = true then b p.2 else some (false, p.2)
def kOr (a b : Ev → Option (Bool × Ev)) : Ev → Option (Bool × Ev) := fun ρ => (a ρ).bind fun p => if p.1 = true then some (true, p.2) else b p.2
def kIf (t : Ev → Option (Bool × Ev)) (a b : Ev → Option (D × Ev)) : Ev → Option (D × Ev) := fun ρ => (t ρ).bind fun p => if p.1 = true then a p.2 else b p.2
def kTup (a : Ev → Option (List D × Ev)) : Ev → Option (D × Ev) := fun ρ => (a ρ).bind fun p => if okN p.1.length = true then some (.tuple p.1, p.2) else none
section
variable {X : Cx} {pos : Pos} {a b c : Expr} {es rest : List Expr} {m m' m2 : Ev → Option (D × Ev)} {ms : Ev → Option (List D × Ev)} {t t' : Ev → Option (Bool × Ev)}
end
end Dm


namespace Dm
open PySem PySem.Spec L2
def spB (K : PySem.W.Frag) (mg : Str → Option Value) (n : Nat) (f : List D → List D → Option (D × List D)) : Sp := fun vs H Q _ => ∃ F ws ds a xs es d rs, vs = V.ref a :: ws ∧ Same F H ∧ RpA K mg F ws ds ∧ ds.length = n ∧ F a = none ∧ H a = some (.lst xs) ∧ RpA K mg F xs es ∧ f ds es = some (d, rs) ∧
  ∀ v F' H' xs', Stp F (hole H a) F' H' → F' a = none → H' a = some (.lst xs') → RpA K mg F' xs' rs → Rp K mg F' v d → Q v H'
def initB (s : Nat) (ds es : List D) : Ev := some (L.arg es) :: (ds.map (fun d => some (L.dat d)) ++ List.replicate (s - (ds.length + 1)) none)
section
variable {K : PySem.W.Frag} {mg : Str → Option Value} {F0 : Fz} {H0 F H F' H' : Hp} {σ : L2.St} {ρ : Ev}
end
section
variable {K : PySem.W.Frag} {mg : Str → Option Value} {F0 : Fz} {H0 F H F' H' : Hp} {σ : L2.St} {ρ : Ev}
theorem free_set {i : Nat} {l0 l1 : L} (e : ρ[i]? = some (some l0)) (h0 : isL l0 = true) {b : Addr} (h : Free ρ σ b) : Free (ρ.set i (some l1)) σ b := fun j l ej hl => by
  rcases at_any ej with ⟨hj, _⟩ | ⟨_, q⟩
  · subst hj
    exact h _ _ e h0
  · exact h _ _ q hl
theorem Kp.hole {a : Addr} {i : Nat} {l0 l1 : L} (e : ρ[i]? = some (some l0)) (h0 : isL l0 = true) (h1 : isL l1 = true) (e1 : σ[i]? = some (some (.ref a))) (t : Stp F (Dm.hole H a) F' H') : Kp σ ρ (ρ.set i (some l1)) F H F' H' := by
  have ne : ∀ {b : Addr}, Free ρ σ b → b ≠ a := fun h z => h _ _ e h0 (by rw [z]; exact e1)
  exact ⟨t.f, fun b h => free_set e h0 h, fun b o q h => t.h b o (by rw [hole_ne (ne h)]; exact q), fun b o q1 q2 h => t.n b o q1 (by rw [hole_ne (ne h)]; exact q2), fun j l q hl => by
    by_cases hj : i = j
    · subst hj
      exact ⟨l1, by rw [List.getElem?_set_self (getElem?_len e)], h1⟩
    · exact ⟨l, by rw [List.getElem?_set_ne hj]; exact q, hl⟩⟩
end
/-- f(box, ..), box in slot i: one that was handed in -/
def kCallA (n i : Nat) (f : List D → List D → Option (D × List D)) (a : Ev → Option (List D × Ev)) : Ev → Option (D × Ev) := fun ρ => (argAt i ρ).bind fun _ => (a ρ).bind fun p => if p.1.length = n then (argAt i p.2).bind fun es => (f p.1 es).bind fun r => some (r.1, p.2.set i (some (.arg r.2))) else none
/-- the same, box the def's own -/
def kCallO (n i : Nat) (f : List D → List D → Option (D × List D)) (a : Ev → Option (List D × Ev)) : Ev → Option (D × Ev) := fun ρ => (ownAt i ρ).bind fun _ => (a ρ).bind fun p => if p.1.length = n then (ownAt i p.2).bind fun es => (f p.1 es).bind fun r => some (r.1, p.2.set i (some (.own r.2))) else none
section
variable {X : Cx} {pos : Pos} {es : List Expr} {ms : Ev → Option (List D × Ev)}
end
inductive OutB where | nx (ρ : Ev) | rt (d : D) (ρ : Ev) | bk (ρ : Ev) | ct (ρ : Ev)
def PostB (K : PySem.W.Frag) (mg : Str → Option Value) (D : Ends) (F0 : Fz) (H0 Fe : Hp) : OutB → Prop
  | .nx ρ => ∀ σ F' H', Ok K mg F0 H0 F' H' σ ρ → Same Fe F' → D.nx σ H'
  | .rt d ρ => ∀ v σ F' H', Ok K mg F0 H0 F' H' σ ρ → Same Fe F' → Rp K mg F' v d → D.rt v H'
  | .bk ρ => ∀ σ F' H', Ok K mg F0 H0 F' H' σ ρ → Same Fe F' → D.bk σ H'
  | .ct ρ => ∀ σ F' H', Ok K mg F0 H0 F' H' σ ρ → Same Fe F' → D.ct σ H'
def tSB (K : PySem.W.Frag) (mg : Str → Option Value) (m : Ev → Option OutB) : TS := fun D σ H => ∃ F0 H0 F ρ o, Ok K mg F0 H0 F H σ ρ ∧ m ρ = some o ∧ PostB K mg D F0 H0 F o
abbrev DSB (X : Cx) (s : Stmt) (m : Ev → Option OutB) : Prop := PS X s (tSB X.K X.mg m)
abbrev DSsB (X : Cx) (s : List Stmt) (m : Ev → Option OutB) : Prop := PSs X s (tSB X.K X.mg m)
theorem PostB.mono {K : PySem.W.Frag} {mg : Str → Option Value} {D : Ends} {F0 : Fz} {H0 F F' : Hp} {o : OutB} (s : Same F F') (q : PostB K mg D F0 H0 F o) : PostB K mg D F0 H0 F' o := by
  cases o with
  | nx ρ => exact fun σ F2 H2 k2 s2 => q σ F2 H2 k2 (s.trans s2)
  | rt d ρ => exact fun v σ F2 H2 k2 s2 r => q v σ F2 H2 k2 (s.trans s2) r
  | bk ρ => exact fun σ F2 H2 k2 s2 => q σ F2 H2 k2 (s.trans s2)
  | ct ρ => exact fun σ F2 H2 k2 s2 => q σ F2 H2 k2 (s.trans s2)
def zOf (m : Ev → Option Out) : Ev → Option OutB := fun ρ => (m ρ).bind fun o => match o with
  | .nx ρ' => some (.nx ρ')
  | .bk ρ' => some (.bk ρ')
  | .ct ρ' => some (.ct ρ')
  | .rt _ => none
def zSeq (a b : Ev → Option OutB) : Ev → Option OutB := fun ρ => (a ρ).bind fun o => match o with
  | .nx ρ' => b ρ'
  | o => some o
def zIf (t : Ev → Option (Bool × Ev)) (a b : Ev → Option OutB) : Ev → Option OutB := fun ρ => (t ρ).bind fun p => if p.1 = true then a p.2 else b p.2
def zRet (m : Ev → Option (D × Ev)) : Ev → Option OutB := fun ρ => (m ρ).bind fun p => some (.rt p.1 p.2)
def zAsg (g : D → Ev → Option Ev) (m : Ev → Option (D × Ev)) : Ev → Option OutB := fun ρ => (m ρ).bind fun p => (g p.1 p.2).bind fun ρ' => some (.nx ρ')
section
variable {X : Cx} {pos : Pos} {st : Stmt} {rest : List Stmt} {e : Expr} {m : Ev → Option (D × Ev)} {a b : Ev → Option OutB} {t : Ev → Option (Bool × Ev)}
theorem z_asg {tg : Expr} {g : D → Ev → Option Ev} (he : DB X e m) (hg : DG X tg g) (hs : swapsWithSole [tg] e pos.line X.env = pure false := by rfl) (hw : swappedStores [tg] e X.env = pure none := by rfl)
    (h1 : (assignEach [tg] X.env).map (·.2) = [assign tg X.env] := by rfl) : DSB X (.Assign [tg] e pos) (zAsg g m) := PS.weak (ps_asg he hg hs hw h1) fun D σ H ⟨F0, H0, F, ρ, o, k, e, q⟩ => by
  obtain ⟨pr, h1, e⟩ := bind_some e
  obtain ⟨ρ', h2, e⟩ := bind_some e
  cases e
  exact ⟨F0, H0, F, ρ, pr.1, pr.2, k, h1, fun v F1 H1 k1 s1 r1 => ⟨F0, H0, F1, pr.2, pr.1, ρ', k1, r1, h2, fun σ' F' H' k' s' => q σ' F' H' k' (s1.s.trans s')⟩⟩
end
def runB (s : Nat) (b : Ev → Option OutB) : List D → List D → Option (D × List D) := fun ds es => (b (initB s ds es)).bind fun o => match o with
  | .rt d ρ => (argAt 0 ρ).bind fun rs => some (d, rs)
  | .nx ρ => (argAt 0 ρ).bind fun rs => some (.none, rs)
  | _ => none
structure DefOkB (P : Program) (w : World) (K : PySem.W.Frag) (mg : Str → Option Value) (base : Heap) (k n : Nat) (x : Str) (ps : List Str) (m : List D → List D → Option (D × List D)) : Prop where
  ex : ∃ (f : Addr) (fd : FuncData), FnOk P w K mg base CX0 k f fd ps (spB K mg n m) ∧ mg x = some (.ref f) ∧ PySem.W.keepIn K (.ref f) = true ∧ Binds K fd ps []
end Dm


namespace Dm
open PySem PySem.Spec L2
def eIxA (i : Nat) (k : Ev → Option D) : Ev → Option D := fun ρ => (argAt i ρ).bind fun ds => (k ρ).bind fun x => (toI x).bind fun j => atI ds j
@[simp] theorem eIxA_ap (i : Nat) (k : Ev → Option D) (ρ : Ev) : eIxA i k ρ = (argAt i ρ).bind fun ds => (k ρ).bind fun x => (toI x).bind fun j => atI ds j := rfl
def eLenA (i : Nat) : Ev → Option D := fun ρ => (argAt i ρ).bind fun ds => some (.int ds.length)
@[simp] theorem eLenA_ap (i : Nat) (ρ : Ev) : eLenA i ρ = (argAt i ρ).bind fun ds => some (.int ds.length) := rfl
def sPutA (i : Nat) (mk m : Ev → Option D) : Ev → Option Out := fun ρ => (argAt i ρ).bind fun ds => (m ρ).bind fun d => (mk ρ).bind fun x => match x with
  | .int j => (ixN ds.length j).bind fun n => some (.nx (ρ.set i (some (.arg (ds.set n d)))))
  | _ => none
@[simp] theorem sPutA_ap (i : Nat) (mk m : Ev → Option D) (ρ : Ev) : sPutA i mk m ρ = (argAt i ρ).bind fun ds => (m ρ).bind fun d => (mk ρ).bind fun x => match x with
  | .int j => (ixN ds.length j).bind fun n => some (.nx (ρ.set i (some (.arg (ds.set n d)))))
  | _ => none := rfl
section
variable {X : Cx} {pos : Pos} {a b e : Expr} {m m1 m2 : Ev → Option D}
end
end Dm


namespace Dm
open PySem PySem.Spec L2
def tIB (K : PySem.W.Frag) (mg : Str → Option Value) (m : Ev → Option (List D × Ev)) : TI := fun σ H R => ∃ F0 H0 F ρ ds ρ', Ok K mg F0 H0 F H σ ρ ∧ m ρ = some (ds, ρ') ∧ ∀ J F' H', Ok K mg F0 H0 F' H' σ ρ' → Kp σ ρ ρ' F H F' H' → Walks K mg J F' ds → R J H'
abbrev DIB (X : Cx) (tg it : Expr) (m : Ev → Option (List D × Ev)) : Prop := PI X tg it (tIB X.K X.mg m)
def kR1 (m : Ev → Option (D × Ev)) : Ev → Option (List D × Ev) := fun ρ => (m ρ).bind fun p => (toI p.1).bind fun n => (rng1 n).bind fun ds => some (ds, p.2)
section
variable {X : Cx} {pos : Pos} {e : Expr} {m : Ev → Option (D × Ev)}
end
def forB (g : D → Ev → Option Ev) (b : Ev → Option OutB) : List D → Ev → Option OutB
  | [], ρ => some (.nx ρ)
  | d :: ds, ρ => (g d ρ).bind fun ρ1 => (b ρ1).bind fun o => match o with
    | .nx ρ2 => forB g b ds ρ2
    | .ct ρ2 => forB g b ds ρ2
    | .bk ρ2 => some (.nx ρ2)
    | .rt v ρ2 => some (.rt v ρ2)
def zFor (g : D → Ev → Option Ev) (mi : Ev → Option (List D × Ev)) (b : Ev → Option OutB) : Ev → Option OutB := fun ρ => (mi ρ).bind fun p => forB g b p.1 p.2
section
variable {K : PySem.W.Frag} {mg : Str → Option Value} {F0 : Fz} {H0 F H F' H' : Hp} {σ : L2.St} {ρ ρ' : Ev} {p : Addr} {xs : List V}
end
def tFB (K : PySem.W.Frag) (mg : Str → Option Value) (m : Ev → Option (List D × Ev)) : TE := fun σ H Q => ∃ F0 H0 F ρ ds ρ', Ok K mg F0 H0 F H σ ρ ∧ m ρ = some (ds, ρ') ∧ ∀ p xs F' H', Ok K mg F0 H0 F' H' σ ρ' → Kp σ ρ ρ' F H F' H' → H p = none → F' p = none → H' p = some (.lst xs) → Free ρ' σ p → RpA K mg F' xs ds → Q (.ref p) H'
abbrev DFB (X : Cx) (e : Expr) (m : Ev → Option (List D × Ev)) : Prop := PE X e (tFB X.K X.mg m)
def kF (m : Ev → Option (List D × Ev)) : Ev → Option (D × Ev) := fun ρ => (m ρ).bind fun p => some (.list p.1, p.2)
def lcB (i : Nat) (e : Ev → Option (D × Ev)) : List D → Ev → Option (List D × Ev)
  | [], ρ => some ([], ρ)
  | d :: ds, ρ => (e ((ρ.set i none).set i (some (.dat d)))).bind fun y => (lcB i e ds (y.2.set i none)).bind fun r => some (y.1 :: r.1, r.2)
/-- no list stands in slot i -/
def noL (i : Nat) (ρ : Ev) : Bool := match ρ[i]? with
  | some (some l) => !isL l
  | _ => true
def kLc (i : Nat) (m : Ev → Option (List D × Ev)) (e : Ev → Option (D × Ev)) : Ev → Option (List D × Ev) := fun ρ => (m ρ).bind fun p => if okN p.1.length = true ∧ noL i p.2 = true then lcB i e p.1 p.2 else none
section
variable {K : PySem.W.Frag} {mg : Str → Option Value}
end
end Dm


namespace Dm
open PySem PySem.Spec L2
section
variable {X : Cx} {pos : Pos} {e o : Expr} {es : List Expr} {m mo : Ev → Option (D × Ev)} {ms : Ev → Option (List D × Ev)}
def kBi (f : List D → Option D) (a : Ev → Option (List D × Ev)) : Ev → Option (D × Ev) := fun ρ => (a ρ).bind fun p => (f p.1).bind fun d => some (d, p.2)
def kMt (f : D → List D → Option D) (a b : Ev → Option (D × Ev)) : Ev → Option (D × Ev) := fun ρ => (a ρ).bind fun p => (b p.2).bind fun q => (f p.1 [q.1]).bind fun d => some (d, q.2)
end
section
variable {K : PySem.W.Frag} {mg : Str → Option Value} {F0 : Fz} {H0 F H F1 H1 : Hp} {σ : L2.St} {ρ ρ1 : Ev} {p : Addr}
theorem free_new (k : Ok K mg F0 H0 F H σ ρ) (hp : H p = none) : Free ρ σ p := fun j l e1 hl e2 => by
  obtain ⟨a, ys, e3, _, _, ha⟩ := (k.rel j _ e1).lst hl
  rw [e2] at e3
  cases e3
  rw [hp] at ha
  cases ha
theorem Kp.new (k1 : Ok K mg F0 H0 F1 H1 σ ρ1) (s : Kp σ ρ ρ1 F H F1 H1) (hp : H1 p = none) : H p = none := by
  cases hz : H p with
  | none => rfl
  | some u =>
    have fz : Free ρ σ p := fun j l e1 hl e2 => by
      obtain ⟨l', e', h'⟩ := s.ls j l e1 hl
      exact free_new k1 hp j l' e' h' e2
    have := s.k p u hz fz
    rw [hp] at this
    cases this
end
def kLst (a : Ev → Option (List D × Ev)) : Ev → Option (List D × Ev) := fun ρ => (a ρ).bind fun p => if okN p.1.length = true then some p else none
end Dm


namespace Dm
open PySem PySem.Spec L2
section
variable {P : Program} {w : World} {K : PySem.W.Frag} {mg : Str → Option Value} {base : Heap} {x : Str} {st : Stmt} {f : Addr} {fd : FuncData} {N ps : List Str} {n : Nat}
end
end Dm


namespace Dm
open PySem PySem.Spec L2
def kTru (a : Ev → Option (D × Ev)) : Ev → Option (Bool × Ev) := fun ρ => (a ρ).bind fun p => (truD p.1).bind fun b => some (b, p.2)
def kFn (n : Nat) (f : List D → Option D) (a : Ev → Option (List D × Ev)) : Ev → Option (D × Ev) := fun ρ => (a ρ).bind fun p => if p.1.length = n then (f p.1).bind fun d => some (d, p.2) else none
section
variable {X : Cx} {pos : Pos} {a b e o : Expr} {es : List Expr} {m m1 m2 mo : Ev → Option (D × Ev)} {ms : Ev → Option (List D × Ev)} {k : Nat}
theorem z_set {i : Nat} {x : Str} {p1 : Pos} (nd : X.N.Nodup) (he : DB X e m) (hg : DG X (.Name x p1) (gN i)) (hs : swapsWithSole [.Name x p1] e pos.line X.env = pure false := by rfl) (hw : swappedStores [.Name x p1] e X.env = pure none := by rfl)
    (h1 : (assignEach [.Name x p1] X.env).map (·.2) = [assign (.Name x p1) X.env] := by rfl) : DSB X (.Assign [.Name x p1] e pos) (zAsg (gN i) m) := z_asg he hg hs hw h1
end
section
variable {α : Type} (ρ : Ev)
@[simp] theorem kOf_ap (m : Ev → Option α) : kOf m ρ = (m ρ).bind fun x => some (x, ρ) := rfl
@[simp] theorem k2_ap (f : D → D → Option D) (a b : Ev → Option (D × Ev)) : k2 f a b ρ = (a ρ).bind fun p => (b p.2).bind fun q => (f p.1 q.1).bind fun d => some (d, q.2) := rfl
@[simp] theorem kC_ap (a : Ev → Option (D × Ev)) (b : Ev → Option (List D × Ev)) : kC a b ρ = (a ρ).bind fun p => (b p.2).bind fun q => some (p.1 :: q.1, q.2) := rfl
@[simp] theorem kB_ap (a : Ev → Option (D × Ev)) : kB a ρ = (a ρ).bind fun p => (toB p.1).bind fun b => some (b, p.2) := rfl
@[simp] theorem kTru_ap (a : Ev → Option (D × Ev)) : kTru a ρ = (a ρ).bind fun p => (truD p.1).bind fun b => some (b, p.2) := rfl
@[simp] theorem kNot_ap (a : Ev → Option (Bool × Ev)) : kNot a ρ = (a ρ).bind fun p => some (!p.1, p.2) := rfl
@[simp] theorem kAnd_ap (a b : Ev → Option (Bool × Ev)) : kAnd a b ρ = (a ρ).bind fun p => if p.1 = true then b p.2 else some (false, p.2) := rfl
@[simp] theorem kOr_ap (a b : Ev → Option (Bool × Ev)) : kOr a b ρ = (a ρ).bind fun p => if p.1 = true then some (true, p.2) else b p.2 := rfl
@[simp] theorem kIf_ap (t : Ev → Option (Bool × Ev)) (a b : Ev → Option (D × Ev)) : kIf t a b ρ = (t ρ).bind fun p => if p.1 = true then a p.2 else b p.2 := rfl
@[simp] theorem kTup_ap (a : Ev → Option (List D × Ev)) : kTup a ρ = (a ρ).bind fun p => if okN p.1.length = true then some (.tuple p.1, p.2) else none := rfl
@[simp] theorem kLst_ap (a : Ev → Option (List D × Ev)) : kLst a ρ = (a ρ).bind fun p => if okN p.1.length = true then some p else none := rfl
@[simp] theorem kF_ap (a : Ev → Option (List D × Ev)) : kF a ρ = (a ρ).bind fun p => some (.list p.1, p.2) := rfl
@[simp] theorem kBi_ap (f : List D → Option D) (a : Ev → Option (List D × Ev)) : kBi f a ρ = (a ρ).bind fun p => (f p.1).bind fun d => some (d, p.2) := rfl
@[simp] theorem kFn_ap (n : Nat) (f : List D → Option D) (a : Ev → Option (List D × Ev)) : kFn n f a ρ = (a ρ).bind fun p => if p.1.length = n then (f p.1).bind fun d => some (d, p.2) else none := rfl
@[simp] theorem kMt_ap (f : D → List D → Option D) (a b : Ev → Option (D × Ev)) : kMt f a b ρ = (a ρ).bind fun p => (b p.2).bind fun q => (f p.1 [q.1]).bind fun d => some (d, q.2) := rfl
@[simp] theorem kCallA_ap (n i : Nat) (f : List D → List D → Option (D × List D)) (a : Ev → Option (List D × Ev)) : kCallA n i f a ρ = (argAt i ρ).bind fun _ => (a ρ).bind fun p => if p.1.length = n then (argAt i p.2).bind fun es => (f p.1 es).bind fun r => some (r.1, p.2.set i (some (.arg r.2))) else none := rfl
@[simp] theorem kCallO_ap (n i : Nat) (f : List D → List D → Option (D × List D)) (a : Ev → Option (List D × Ev)) : kCallO n i f a ρ = (ownAt i ρ).bind fun _ => (a ρ).bind fun p => if p.1.length = n then (ownAt i p.2).bind fun es => (f p.1 es).bind fun r => some (r.1, p.2.set i (some (.own r.2))) else none := rfl
@[simp] theorem kR1_ap (m : Ev → Option (D × Ev)) : kR1 m ρ = (m ρ).bind fun p => (toI p.1).bind fun n => (rng1 n).bind fun ds => some (ds, p.2) := rfl
@[simp] theorem zOf_ap (m : Ev → Option Out) : zOf m ρ = (m ρ).bind fun o => match o with
  | .nx ρ' => some (.nx ρ')
  | .bk ρ' => some (.bk ρ')
  | .ct ρ' => some (.ct ρ')
  | .rt _ => none := rfl
@[simp] theorem zSeq_ap (a b : Ev → Option OutB) : zSeq a b ρ = (a ρ).bind fun o => match o with
  | .nx ρ' => b ρ'
  | o => some o := rfl
@[simp] theorem zIf_ap (t : Ev → Option (Bool × Ev)) (a b : Ev → Option OutB) : zIf t a b ρ = (t ρ).bind fun p => if p.1 = true then a p.2 else b p.2 := rfl
@[simp] theorem zRet_ap (m : Ev → Option (D × Ev)) : zRet m ρ = (m ρ).bind fun p => some (.rt p.1 p.2) := rfl
@[simp] theorem zAsg_ap (g : D → Ev → Option Ev) (m : Ev → Option (D × Ev)) : zAsg g m ρ = (m ρ).bind fun p => (g p.1 p.2).bind fun ρ' => some (.nx ρ') := rfl
@[simp] theorem zFor_ap (g : D → Ev → Option Ev) (mi : Ev → Option (List D × Ev)) (b : Ev → Option OutB) : zFor g mi b ρ = (mi ρ).bind fun p => forB g b p.1 p.2 := rfl
@[simp] theorem kLc_ap (i : Nat) (m : Ev → Option (List D × Ev)) (e : Ev → Option (D × Ev)) : kLc i m e ρ = (m ρ).bind fun p => if okN p.1.length = true ∧ noL i p.2 = true then lcB i e p.1 p.2 else none := rfl
end
@[simp] theorem runB_ap (s : Nat) (b : Ev → Option OutB) (ds es : List D) : runB s b ds es = (b (initB s ds es)).bind fun o => match o with
  | .rt d ρ => (argAt 0 ρ).bind fun rs => some (d, rs)
  | .nx ρ => (argAt 0 ρ).bind fun rs => some (.none, rs)
  | _ => none := rfl
end Dm


namespace Dm
open PySem PySem.Spec L2
def zIce (is : List Nat) (m : Ev → Option OutB) : Ev → Option OutB := fun ρ => m (ices is ρ)
@[simp] theorem zIce_ap (is : List Nat) (m : Ev → Option OutB) (ρ : Ev) : zIce is m ρ = m (ices is ρ) := rfl
def zApp (i : Nat) (m : Ev → Option (D × Ev)) : Ev → Option OutB := fun ρ => (ownAt i ρ).bind fun _ => (m ρ).bind fun p => (ownAt i p.2).bind fun ds => if okN ds.length = true then some (.nx (p.2.set i (some (.own (ds ++ [p.1]))))) else none
@[simp] theorem zApp_ap (i : Nat) (m : Ev → Option (D × Ev)) (ρ : Ev) : zApp i m ρ = (ownAt i ρ).bind fun _ => (m ρ).bind fun p => (ownAt i p.2).bind fun ds => if okN ds.length = true then some (.nx (p.2.set i (some (.own (ds ++ [p.1]))))) else none := rfl
section
variable {X : Cx} {pos : Pos} {st : Stmt} {e : Expr} {m : Ev → Option (D × Ev)} {a : Ev → Option OutB}
end
end Dm


namespace Dm
open PySem PySem.Spec L2
def zOwn (j : Nat) (m : Ev → Option (List D × Ev)) : Ev → Option OutB := fun ρ => (m ρ).bind fun p => some (.nx (p.2.set j (some (.own p.1))))
@[simp] theorem zOwn_ap (j : Nat) (m : Ev → Option (List D × Ev)) (ρ : Ev) : zOwn j m ρ = (m ρ).bind fun p => some (.nx (p.2.set j (some (.own p.1)))) := rfl
def zPar (i j : Nat) (m : Ev → Option (List D × Ev)) : Ev → Option OutB := fun ρ => (m ρ).bind fun p => match p.1 with
  | [a, b] => some (.nx ((p.2.set i (some (.dat a))).set j (some (.dat b))))
  | _ => none
@[simp] theorem zPar_ap (i j : Nat) (m : Ev → Option (List D × Ev)) (ρ : Ev) : zPar i j m ρ = (m ρ).bind fun p => match p.1 with
  | [a, b] => some (.nx ((p.2.set i (some (.dat a))).set j (some (.dat b))))
  | _ => none := rfl
section
variable {X : Cx} {pos : Pos}
end
end Dm


namespace Dm
open PySem PySem.Spec L2
def runZ (s : Nat) (b : Ev → Option OutB) : List D → Option D := fun ds => (b (init s ds)).bind fun o => match o with
  | .rt d _ => some d
  | .nx _ => some .none
  | _ => none
@[simp] theorem runZ_ap (s : Nat) (b : Ev → Option OutB) (ds : List D) : runZ s b ds = (b (init s ds)).bind fun o => match o with
  | .rt d _ => some d
  | .nx _ => some .none
  | _ => none := rfl
/-- a def that gives back a new list as it is written -/
theorem s_retF {X : Cx} {pos : Pos} {e : Expr} {ms : Ev → Option (List D)} (h : DF X e ms) : DSO X [.Return (some e) pos] ms := PSs.weak (pss_one (ps_ret h)) fun D σ H ⟨F0, H0, F, ρ, rs, k, e, q⟩ =>
  ⟨F0, H0, F, ρ, rs, k, e, fun p xs F1 H1 t hp fp hh r => q p xs F1 H1 (k.st.trans t) (k.st.h.free hp) fp hh r⟩
end Dm


namespace Dm
open PySem PySem.Spec L2
def kAndV (a b : Ev → Option (D × Ev)) : Ev → Option (D × Ev) := fun ρ => (a ρ).bind fun p => (toB p.1).bind fun c => if c = true then b p.2 else some (.bool false, p.2)
def kOrV (a b : Ev → Option (D × Ev)) : Ev → Option (D × Ev) := fun ρ => (a ρ).bind fun p => (toB p.1).bind fun c => if c = true then some (.bool true, p.2) else b p.2
def kNotV (a : Ev → Option (D × Ev)) : Ev → Option (D × Ev) := fun ρ => (a ρ).bind fun p => (toB p.1).bind fun c => some (.bool (!c), p.2)
def zExpr (a : Ev → Option (D × Ev)) : Ev → Option OutB := fun ρ => (a ρ).bind fun p => some (.nx p.2)
section
variable (ρ : Ev) (a b : Ev → Option (D × Ev))
@[simp] theorem kAndV_ap : kAndV a b ρ = (a ρ).bind fun p => (toB p.1).bind fun c => if c = true then b p.2 else some (.bool false, p.2) := rfl
@[simp] theorem kOrV_ap : kOrV a b ρ = (a ρ).bind fun p => (toB p.1).bind fun c => if c = true then some (.bool true, p.2) else b p.2 := rfl
@[simp] theorem kNotV_ap : kNotV a ρ = (a ρ).bind fun p => (toB p.1).bind fun c => some (.bool (!c), p.2) := rfl
@[simp] theorem zExpr_ap : zExpr a ρ = (a ρ).bind fun p => some (.nx p.2) := rfl
end
section
variable {X : Cx} {pos : Pos} {a b e : Expr} {rest : List Expr} {m m' : Ev → Option (D × Ev)}
end
end Dm


namespace Dm
open PySem PySem.Spec L2 PyProof.Rows
def aS (a : Ev → Option D) (b : Ev → Option (List D)) : Ev → Option (List D) := fun ρ => (a ρ).bind fun x => (seqD x).bind fun ds => (b ρ).bind fun es => some (ds ++ es)
@[simp] theorem aS_ap (a : Ev → Option D) (b : Ev → Option (List D)) (ρ : Ev) : aS a b ρ = (a ρ).bind fun x => (seqD x).bind fun ds => (b ρ).bind fun es => some (ds ++ es) := rfl
section
variable {X : Cx} {pos p : Pos} {e : Expr} {es : List Expr} {m : Ev → Option D} {ms : Ev → Option (List D)}
end
section
variable {X : Cx} {K : PySem.W.Frag} {mg : Str → Option Value}
end
section
variable {X : Cx} {pos p : Pos} {es : List Expr} {e : Expr} {ms : Ev → Option (List D)}
end
end Dm
namespace Dm
open PySem PySem.Spec L2 PyProof.Rows
def e3 (f : D → D → D → Option D) (a b c : Ev → Option D) : Ev → Option D := fun ρ => (a ρ).bind fun x => (b ρ).bind fun y => (c ρ).bind fun z => f x y z
@[simp] theorem e3_ap (f : D → D → D → Option D) (a b c : Ev → Option D) (ρ : Ev) : e3 f a b c ρ = (a ρ).bind fun x => (b ρ).bind fun y => (c ρ).bind fun z => f x y z := rfl
structure HasG (K : PySem.W.Frag) (mg : Str → Option Value) (ga : Addr) (z : Str) (o : Option D) : Prop where
  h : ∃ r, PySem.W.nsIn K ga z = some r ∧ match o with
    | none => r = none
    | some d => ∃ (v : Value) (x : V), r = some v ∧ RelV x v ∧ ∀ F, Rp K mg F x d
section
variable {X : Cx} {x : Str} {ga : Addr} {es : Array DictEntry} {n : Nat} {p apos cpos : Pos} {e f : Expr} {m1 m2 : Ev → Option D}
end
end Dm
theorem L2.Room.u200 {k : Nat} {A : PySem.Around} (r : L2.Room k A) : A.units + 200 < PySem.cLine := by have := r.un; omega


namespace Dm
open PySem PySem.Spec L2 PyProof.Rows
/-- a def's promise where no guard lies around the call -/
structure FnOkG (P : Program) (w : World) (K : PySem.W.Frag) (mg : Str → Option Value) (base : Heap) (k : Nat) (f : Addr) (fd : FuncData) (ps : List Str) (sp : Sp) : Prop where
  run : ∀ (A : Around) (outer : List Env) (s : Shared) (H : Hp) (args : Args) (us : List Value) (vs : List V) (Q : VK) (E : XK), A.guards = some [] → Room k A → Env0 P w K mg base A outer s H → BindsTo s fd args (ps.zip us) → Vals vs us → sp vs H Q E →
    codeAny (model P w) A (.call (.ref f) args) (CR CX0 outer P w H s Q E) s
section
variable {P : Program} {w : World} {K : PySem.W.Frag} {mg : Str → Option Value} {base : Heap}
theorem FnOkG.imp {k : Nat} {f : Addr} {fd : FuncData} {ps : List Str} {sp sp' : Sp} (F : FnOkG P w K mg base k f fd ps sp) (h : ∀ vs H Q E, sp' vs H Q E → sp vs H Q E) : FnOkG P w K mg base k f fd ps sp' :=
  ⟨fun A outer s H args us vs Q E hg hr he hb hv hs => F.run A outer s H args us vs Q E hg hr he hb hv (h _ _ _ _ hs)⟩
end
end Dm


namespace Dm
open PySem PySem.Spec L2 PyProof.Rows
theorem t_lend {X : Cx} {e : Expr} {m : Ev → Option Bool} (is : List Nat) (h : DT X e m) : DT X e (fun ρ => m (ices is ρ)) := PT.weak h fun σ H Q ⟨F0, H0, F, ρ, b, k, e, q⟩ => by
  obtain ⟨F', k', s'⟩ := k.ices is
  refine ⟨F0, H0, F', _, b, k', e, fun F1 H1 t1 => ?_⟩
  classical
  refine q (fun a => if F a = none ∧ H a ≠ none then none else F1 a) H1 ⟨fun a o z => ?_, t1.h, fun a o z => ?_, fun a o z1 z2 => ?_⟩
  · have : ¬ (F a = none ∧ H a ≠ none) := fun w => by rw [z] at w; cases w.1
    show (if F a = none ∧ H a ≠ none then none else F1 a) = some o
    rw [if_neg this]
    exact t1.f a o (s' a o z)
  · have z : (if F a = none ∧ H a ≠ none then none else F1 a) = some o := z
    split at z
    · cases z
    · exact t1.s a o z
  · show (if F a = none ∧ H a ≠ none then none else F1 a) = none
    rw [if_pos ⟨z1, by rw [z2]; simp⟩]
def tLend (is : List Nat) (m : Ev → Option Bool) : Ev → Option Bool := fun ρ => m (ices is ρ)
@[simp] theorem tLend_ap (is : List Nat) (m : Ev → Option Bool) (ρ : Ev) : tLend is m ρ = m (ices is ρ) := rfl
def cIsB : D → D → Option D
  | .bool a, .bool b => some (.bool (decide (a = b)))
  | .none, .bool _ => some (.bool false)
  | _, _ => none
@[simp] theorem cIsB_bool {a b : Bool} : cIsB (.bool a) (.bool b) = some (.bool (decide (a = b))) := rfl
@[simp] theorem cIsB_none {b : Bool} : cIsB .none (.bool b) = some (.bool false) := rfl
section
variable {X : Cx} {K : PySem.W.Frag} {mg : Str → Option Value}
end
section
variable {K : PySem.W.Frag} {mg : Str → Option Value} {F0 : Fz} {H0 F H F' H' : Hp} {σ : L2.St} {ρ : Ev}
def objAt (i : Nat) (ρ : Ev) : Option (Sh × List D) := match ρ[i]? with
  | some (some (.obj sh ds)) => some (sh, ds)
  | _ => none
theorem objAt_some {i : Nat} {sh : Sh} {ds : List D} (h : objAt i ρ = some (sh, ds)) : ρ[i]? = some (some (.obj sh ds)) := by
  unfold objAt at h
  split at h
  · rename_i e
    cases h
    exact e
  · cases h
/-- what an object is as data -/
def shD : Sh → List D → D
  | .dct (k :: ks), d :: ds => .dict ((kD k, d) :: zipK ks ds)
  | .dct _, _ => .dict []
  | .ins c fs, ds => .dict ((.bool true, .str c) :: zipF fs ds)
theorem sh_rp {sh : Sh} {xs : List V} {ds : List D} {o : HO} {a : Addr} (so : ShOk mg sh xs o) (r : RpA K mg F xs ds) (ha : F a = some o) : Rp K mg F (.ref a) (shD sh ds) := by
  have hl := r.length
  match sh, so with
  | .dct [], ⟨h1, h2⟩ =>
    subst h2
    cases r with
    | nil => exact .emp ha
    | cons _ _ => simp at h1
  | .dct (k :: ks), ⟨h1, h2⟩ =>
    subst h2
    cases r with
    | nil => simp at h1
    | cons r1 r2 =>
      refine .dct ha (.cons r1 r2) ?_
      simp at h1 hl
      omega
  | .ins c fs, ⟨h1, C, dx, hc, h2⟩ =>
    subst h2
    exact .ins hc ha r (h1.trans hl)
def iceO (i : Nat) (ρ : Ev) : Ev := match objAt i ρ with
  | some (sh, ds) => ρ.set i (some (.dat (shD sh ds)))
  | none => ρ
theorem Ok.iceO (k : Ok K mg F0 H0 F H σ ρ) (i : Nat) : ∃ F', Ok K mg F0 H0 F' H σ (Dm.iceO i ρ) ∧ Same F F' := by
  unfold Dm.iceO
  split
  · rename_i sh ds e0
    have e := objAt_some e0
    obtain ⟨a, xs, o, e1, fa, h0, ha, so, r⟩ := k.rel i _ e
    have hi : i < σ.length := (List.getElem?_eq_some_iff.mp e1).1
    have nd : ∀ {b oo}, H b = some oo → F b = none → b ≠ a → upd F a o b = none := fun _ fb ne => by
      rw [upd_ne ne]
      exact fb
    refine ⟨upd F a o, ?_⟩
    have mono : Same F (upd F a o) := same_new fa
    have sH : Same (upd F a o) H := fun b x e => by
      by_cases hb : b = a
      · subst hb
        rw [upd_same] at e
        rw [ha, e]
      · rw [upd_ne hb] at e
        exact k.s b x e
    refine ⟨⟨sH, ⟨k.st.f.trans mono, k.st.h, sH, fun b o e1 e2 => ?_⟩, by simp [k.len], fun j l ej => ?_, fun u v l m c ne e1' g1 e2' g2 e3' => ?_⟩, mono⟩
    · have hb : b ≠ a := fun z => by
        rw [z, h0] at e2
        cases e2
      rw [upd_ne hb]
      exact k.st.n b _ e1 e2
    · by_cases hj : i = j
      · subst hj
        rw [List.getElem?_set_self (by rw [k.len]; exact hi)] at ej
        cases ej
        exact ⟨.ref a, e1, sh_rp so (r.mono mono) upd_same⟩
      · rw [List.getElem?_set_ne hj] at ej
        have q := k.rel j l ej
        have apart : isL l = true → ∀ b, σ[j]? = some (some (.ref b)) → b ≠ a := fun hl b e2 z => by
          rw [z] at e2
          exact k.disL i j _ _ a hj e rfl ej hl e1 e2
        cases l with
        | dat d =>
          obtain ⟨x, e2, r2⟩ := q
          exact ⟨x, e2, r2.mono mono⟩
        | own es' =>
          obtain ⟨b, ys, e2, fb, b0, hb, r2⟩ := q
          exact ⟨b, ys, e2, nd hb fb (apart rfl b e2), b0, hb, r2.mono mono⟩
        | arg es' =>
          obtain ⟨ys, e2, fb, b0, hb, r2⟩ := q
          exact ⟨ys, e2, nd hb fb (apart rfl _ e2), b0, hb, r2.mono mono⟩
        | obj sh es' =>
          obtain ⟨b, ys, oo, e2, fb, b0, hb, so, r2⟩ := q
          exact ⟨b, ys, oo, e2, nd hb fb (apart rfl b e2), b0, hb, so, r2.mono mono⟩
        | abj sh es' =>
          obtain ⟨ys, oo, e2, fb, b0, hb, so, r2⟩ := q
          exact ⟨ys, oo, e2, nd hb fb (apart rfl _ e2), b0, hb, so, r2.mono mono⟩
    · obtain ⟨n1, q1⟩ := at_dat e1' g1
      obtain ⟨n2, q2⟩ := at_dat e2' g2
      exact k.disL u v l m c ne q1 g1 q2 g2 e3'
  · exact ⟨F, k, Same.refl _⟩
end
def zIceO (i : Nat) (m : Ev → Option OutB) : Ev → Option OutB := fun ρ => m (iceO i ρ)
@[simp] theorem zIceO_ap (i : Nat) (m : Ev → Option OutB) (ρ : Ev) : zIceO i m ρ = m (iceO i ρ) := rfl
def dKey : D → Option Key
  | .int i => some (.inl i)
  | .str x => some (.inr x)
  | _ => none
def zDict (i : Nat) : Ev → Option OutB := fun ρ => some (.nx (ρ.set i (some (.obj (.dct []) []))))
@[simp] theorem zDict_ap (i : Nat) (ρ : Ev) : zDict i ρ = some (.nx (ρ.set i (some (.obj (.dct []) [])))) := rfl
def putSh (k : Key) (d : D) : Sh × List D → Option (Sh × List D)
  | (.dct ks, ds) => if (ks.any fun x => decide (x = k)) = false ∧ okN ks.length = true then some (.dct (ks ++ [k]), ds ++ [d]) else none
  | _ => none
def zPutD (i : Nat) (mk : Ev → Option D) (m : Ev → Option (D × Ev)) : Ev → Option OutB := fun ρ => (m ρ).bind fun p => (mk p.2).bind fun kd => (dKey kd).bind fun k => (objAt i p.2).bind fun s => (putSh k p.1 s).bind fun s' => some (.nx (p.2.set i (some (.obj s'.1 s'.2))))
@[simp] theorem zPutD_ap (i : Nat) (mk : Ev → Option D) (m : Ev → Option (D × Ev)) (ρ : Ev) : zPutD i mk m ρ = (m ρ).bind fun p => (mk p.2).bind fun kd => (dKey kd).bind fun k => (objAt i p.2).bind fun s => (putSh k p.1 s).bind fun s' => some (.nx (p.2.set i (some (.obj s'.1 s'.2)))) := rfl
section
variable {X : Cx} {pos : Pos} {e ix : Expr} {m : Ev → Option (D × Ev)} {mk : Ev → Option D}
end
end Dm
namespace Dm
open PySem PySem.Spec L2 PyProof.Rows
def lcN (i j : Nat) (m2 : Ev → Option (List D)) (e : Ev → Option D) (ρ : Ev) : List D → Option (List D)
  | [] => some []
  | d :: ds => (m2 (((ρ.set j none).set i none).set i (some (.dat d)))).bind fun es => (lcL j tYs e (((ρ.set j none).set i none).set i (some (.dat d))) es).bind fun ys => (lcN i j m2 e ρ ds).bind fun r => some (ys ++ r)
def fLcN (i j : Nat) (m m2 : Ev → Option (List D)) (e : Ev → Option D) : Ev → Option (List D) := fun ρ => (m ρ).bind fun ds => if i ≠ j then (lcN i j m2 e ρ ds).bind fun r => if okN r.length = true then some r else none else none
@[simp] theorem fLcN_ap (i j : Nat) (m m2 : Ev → Option (List D)) (e : Ev → Option D) (ρ : Ev) : fLcN i j m m2 e ρ = (m ρ).bind fun ds => if i ≠ j then (lcN i j m2 e ρ ds).bind fun r => if okN r.length = true then some r else none else none := rfl
end Dm
namespace Dm
open PySem PySem.Spec L2 PyProof.Rows
def zPut (i : Nat) (mk : Ev → Option D) (m : Ev → Option (D × Ev)) : Ev → Option OutB := fun ρ => (m ρ).bind fun p => (mk p.2).bind fun x => (toI x).bind fun j => (ownAt i p.2).bind fun ds => (ixN ds.length j).bind fun n => some (.nx (p.2.set i (some (.own (ds.set n p.1)))))
@[simp] theorem zPut_ap (i : Nat) (mk : Ev → Option D) (m : Ev → Option (D × Ev)) (ρ : Ev) : zPut i mk m ρ = (m ρ).bind fun p => (mk p.2).bind fun x => (toI x).bind fun j => (ownAt i p.2).bind fun ds => (ixN ds.length j).bind fun n => some (.nx (p.2.set i (some (.own (ds.set n p.1))))) := rfl
end Dm
namespace Dm
open PySem PySem.Spec L2 PyProof.Rows
end Dm


namespace Dm
open PySem PySem.Spec L2
def Wo {α : Type} (m : Option α) (P : α → Prop) : Prop := ∃ a, m = some a ∧ P a
section
variable {α β : Type} {a b m : Option α} {P Q : α → Prop} {f : α → Option β} {R : β → Prop} {x : α}
@[simp] theorem Wo_some : Wo (some x) P ↔ P x := ⟨fun ⟨y, e, h⟩ => by cases e; exact h, fun h => ⟨x, rfl, h⟩⟩
@[simp] theorem Wo_none : Wo (none : Option α) P ↔ False := ⟨fun ⟨y, e, h⟩ => (by cases e), False.elim⟩
@[simp] theorem Wo_bind : Wo (m.bind f) R ↔ Wo m fun a => Wo (f a) R := by
  constructor
  · rintro ⟨y, e, h⟩
    obtain ⟨z, h1, h2⟩ := bind_some e
    exact ⟨z, h1, y, h2, h⟩
  · rintro ⟨z, h1, y, h2, h⟩
    exact ⟨y, by rw [h1]; exact h2, h⟩
@[simp] theorem Wo_ite {c : Prop} [Decidable c] : Wo (if c then a else b) P ↔ (c → Wo a P) ∧ (¬c → Wo b P) := by
  by_cases h : c <;> simp [h]
theorem Wo.mono (h : Wo m P) (k : ∀ x, P x → Q x) : Wo m Q := by
  obtain ⟨y, e, h⟩ := h
  exact ⟨y, e, k y h⟩
theorem Wo.of (e : m = some x) (h : P x) : Wo m P := ⟨x, e, h⟩
end
section
variable {a b : Ev → Option OutB} {P : OutB → Prop} {ρ : Ev}
end
section
variable {a b : Ev → Option Out} {P : Out → Prop} {ρ : Ev}
end
section
variable {ρ : Ev}
end
structure Ft (n m : Nat) (d : D) : Prop where
  lay : d.canLay0 = true
  sho : d.showable = true
  lea : d.leavesShort 20 = true
  dep : d.depth ≤ n
  blk : d.bulk ≤ m
structure FtA (n m : Nat) (ds : List D) : Prop where
  lay : PyData.canLayAll0 ds = true
  sho : PyData.showableAll ds = true
  lea : PyData.leavesShortAll 20 ds = true
  dep : PyData.depthAll ds ≤ n
  blk : PyData.bulkAll ds ≤ m
theorem Ft.mono {n m n' m' : Nat} {d : D} (h : Ft n m d) (h1 : n ≤ n') (h2 : m ≤ m') : Ft n' m' d := ⟨h.lay, h.sho, h.lea, Nat.le_trans h.dep h1, Nat.le_trans h.blk h2⟩
theorem FtA.mono {n m n' m' : Nat} {ds : List D} (h : FtA n m ds) (h1 : n ≤ n') (h2 : m ≤ m') : FtA n' m' ds := ⟨h.lay, h.sho, h.lea, Nat.le_trans h.dep h1, Nat.le_trans h.blk h2⟩
theorem FtA.nil {n m : Nat} : FtA n m [] := ⟨rfl, rfl, rfl, by simp [PyData.depthAll], by simp [PyData.bulkAll]⟩
theorem FtA.cons {n m k j : Nat} {d : D} {ds : List D} (h : Ft n m d) (t : FtA n k ds) (e : m + 1 + k ≤ j) : FtA n j (d :: ds) := by
  refine ⟨?_, ?_, ?_, ?_, ?_⟩
  · simp [PyData.canLayAll0, h.lay, t.lay]
  · simp [PyData.showableAll, h.sho, t.sho]
  · simp [PyData.leavesShortAll, h.lea, t.lea]
  · simp only [PyData.depthAll]
    have := h.dep
    have := t.dep
    omega
  · simp only [PyData.bulkAll]
    have := h.blk
    have := t.blk
    omega
theorem FtA.append {n m k j : Nat} : ∀ {ds es : List D}, FtA n m ds → FtA n k es → m + k ≤ j → FtA n j (ds ++ es)
  | [], es, _, t, e => t.mono (Nat.le_refl _) (by omega)
  | d :: ds, es, h, t, e => by
    have hl := h.lay
    have hs := h.sho
    have hf := h.lea
    have hd := h.dep
    have hb := h.blk
    simp only [PyData.canLayAll0, PyData.showableAll, PyData.leavesShortAll, Bool.and_eq_true, PyData.depthAll, PyData.bulkAll] at hl hs hf hd hb
    have h1 : Ft n d.bulk d := ⟨hl.1, hs.1, hf.1, by omega, Nat.le_refl _⟩
    have h2 : FtA n (PyData.bulkAll ds) ds := ⟨hl.2, hs.2, hf.2, by omega, Nat.le_refl _⟩
    exact .cons h1 (h2.append t (Nat.le_refl _)) (by omega)
theorem FtA.all {n m : Nat} : ∀ {ds : List D}, (∀ d ∈ ds, Ft n m d) → FtA n (ds.length * (m + 1)) ds
  | [], _ => .nil
  | d :: ds, h => .cons (h d (.head _)) (FtA.all fun x hx => h x (.tail _ hx)) (by rw [List.length_cons, Nat.add_mul]; omega)
theorem Ft.tup {n m : Nat} {ds : List D} (h : FtA n m ds) : Ft (n + 1) m (.tuple ds) := by
  refine ⟨?_, ?_, ?_, ?_, ?_⟩
  · simp [PyData.canLay0, h.lay]
  · simp [PyData.showable, h.sho]
  · simp [PyData.leavesShort, h.lea]
  · simp only [PyData.depth]
    have := h.dep
    omega
  · simp only [PyData.bulk]
    exact h.blk
theorem Ft.none {n m : Nat} : Ft n m .none := ⟨rfl, rfl, rfl, by simp [PyData.depth], by simp [PyData.bulk]⟩
theorem Ft.bool {n m : Nat} {b : Bool} : Ft n m (.bool b) := ⟨rfl, rfl, rfl, by simp [PyData.depth], by simp [PyData.bulk]⟩
theorem Ft.int {n m : Nat} {i : Int} (h : i.natAbs < 10 ^ 19) : Ft n m (.int i) := by
  have h2 : i.natAbs.log2 < 1920 := by
    by_cases z : i.natAbs = 0
    · rw [z]
      decide
    · exact Nat.lt_of_lt_of_le ((Nat.log2_lt z).mpr (Nat.lt_trans h (by decide : 10 ^ 19 < 2 ^ 64))) (by decide)
  refine ⟨rfl, ?_, ?_, by simp [PyData.depth], by simp [PyData.bulk]⟩
  · simp only [PyData.showable, decide_eq_true_eq]
    exact h2
  · have e : (PyData.shown (.int i)).length ≤ 20 := by
      simp only [PyData.shown]
      rw [ofString_length]
      exact int_text_length_le10 (by decide) h
    unfold PyData.leavesShort
    exact decide_eq_true e
theorem Ft.str {n m : Nat} {x : Str} (h : x.cps.size ≤ m) (hx : ∀ c ∈ x.cps.toList, c < 1114112) : Ft n m (.str x) := by
  refine ⟨by
    simp only [PyData.canLay0, PyData.strOk, Array.all_eq_true_iff_forall_mem, decide_eq_true_eq]
    exact fun c hc => hx c (Array.mem_toList_iff.mpr hc), by unfold PyData.showable; rfl, ?_, by simp [PyData.depth], by simp only [PyData.bulk]; exact h⟩
  simp only [PyData.leavesShort, List.all_eq_true, decide_eq_true_eq]
  exact fun c hc => Nat.lt_trans (hx c hc) (by decide)
/-- a text that is written -/
theorem Ft.lit {n m : Nat} {x : Str} (h : (decide (x.cps.size ≤ m) && x.cps.toList.all fun c => decide (c < 1114112)) = true) : Ft n m (.str x) := by
  simp only [Bool.and_eq_true, decide_eq_true_eq, List.all_eq_true] at h
  exact .str h.1 h.2
end Dm


namespace Dm
open PySem PySem.Spec L2 PyProof.Rows
def lookF (f : Str) : List (D × D) → Option D
  | (.str g, d) :: r => if f = g then some d else lookF f r
  | _ => none
structure ClsF (K : PySem.W.Frag) (mg : Str → Option Value) (c : Str) (fl : List Str) : Prop where
  ex : ∃ C, mg c = some (.ref C) ∧ Cls K C ∧ ∀ f ∈ fl, NoAttr K C f
section
variable {K : PySem.W.Frag} {mg : Str → Option Value} {F0 : Fz} {H0 F H F' H' : Hp} {σ : L2.St} {ρ : Ev}
end
section
variable {X : Cx} {pos : Pos} {e : Expr} {m : Ev → Option D} {c f : Str} {fl : List Str}
end
structure MetF (K : PySem.W.Frag) (mg : Str → Option Value) (c m : Str) (g : Addr) : Prop where
  ex : ∃ C, mg c = some (.ref C) ∧ Cls K C ∧ Meth K C m g
/-- the attributes of an object of the class c hide no method m -/
def metD (c m : Str) : D → Bool
  | .dict ((.bool true, .str c') :: kvs) => decide (c' = c) && (lookF m kvs).isNone
  | _ => false
def eMeth (c m : Str) (n : Nat) (g : List D → Option D) (mo : Ev → Option D) (ms : Ev → Option (List D)) : Ev → Option D := fun ρ => (mo ρ).bind fun o => if metD c m o = true then (ms ρ).bind fun ds => if ds.length + 1 = n then g (o :: ds) else none else none
@[simp] theorem eMeth_ap (c m : Str) (n : Nat) (g : List D → Option D) (mo : Ev → Option D) (ms : Ev → Option (List D)) (ρ : Ev) : eMeth c m n g mo ms ρ = (mo ρ).bind fun o => if metD c m o = true then (ms ρ).bind fun ds => if ds.length + 1 = n then g (o :: ds) else none else none := rfl
section
variable {X : Cx} {pos apos : Pos} {o e : Expr} {es : List Expr} {mo : Ev → Option D} {ms : Ev → Option (List D)} {c mm : Str}
end
end Dm


namespace Dm
open PySem PySem.Spec L2 PyProof.Rows
def sPop (i : Nat) (g : D → Ev → Option Ev) : Ev → Option Out := fun ρ => (ownAt i ρ).bind fun ds => (ds.getLast?).bind fun d => (g d (ρ.set i (some (.own ds.dropLast)))).bind fun ρ' => some (.nx ρ')
@[simp] theorem sPop_ap (i : Nat) (g : D → Ev → Option Ev) (ρ : Ev) : sPop i g ρ = (ownAt i ρ).bind fun ds => (ds.getLast?).bind fun d => (g d (ρ.set i (some (.own ds.dropLast)))).bind fun ρ' => some (.nx ρ') := rfl
theorem RpA.dropLast {K : PySem.W.Frag} {mg : Str → Option Value} {F : Hp} : ∀ {xs : List V} {ds : List D}, RpA K mg F xs ds → RpA K mg F xs.dropLast ds.dropLast
  | _, _, .nil => .nil
  | _, _, .cons h .nil => .nil
  | _, _, .cons h (.cons h2 t) => .cons h (RpA.dropLast (.cons h2 t))
section
variable {X : Cx} {pos : Pos} {a b e : Expr} {m m1 m2 : Ev → Option D}
end
def abjAt (i : Nat) (ρ : Ev) : Option (Sh × List D) := match ρ[i]? with
  | some (some (.abj sh ds)) => some (sh, ds)
  | _ => none
def putFD (f : Str) (d : D) : List Str → List D → List Str × List D
  | g :: fs, e :: ds => if g = f then (g :: fs, d :: ds) else (g :: (putFD f d fs ds).1, e :: (putFD f d fs ds).2)
  | _, _ => ([f], [d])
section
variable {K : PySem.W.Frag} {mg : Str → Option Value} {F0 : Fz} {H0 F H F' H' : Hp} {σ : L2.St} {ρ : Ev}
def initA (s : Nat) (sh : Sh) (ds es : List D) : Ev := some (L.abj sh es) :: (ds.map (fun d => some (L.dat d)) ++ List.replicate (s - (ds.length + 1)) none)
end
/-- self.f, self handed in -/
def eFldA (i : Nat) (c f : Str) : Ev → Option D := fun ρ => (abjAt i ρ).bind fun s => match s.1 with
  | .ins c' fs => if c' = c then lookF f (zipF fs s.2) else none
  | _ => none
@[simp] theorem eFldA_ap (i : Nat) (c f : Str) (ρ : Ev) : eFldA i c f ρ = (abjAt i ρ).bind fun s => match s.1 with
  | .ins c' fs => if c' = c then lookF f (zipF fs s.2) else none
  | _ => none := rfl
/-- self.f = e -/
def sFldA (i : Nat) (c f : Str) (m : Ev → Option D) : Ev → Option Out := fun ρ => (m ρ).bind fun d => (abjAt i ρ).bind fun s => match s.1 with
  | .ins c' fs => if c' = c ∧ fs.length = s.2.length ∧ fs.length ≤ 100 then some (.nx (ρ.set i (some (.abj (.ins c (putFD f d fs s.2).1) (putFD f d fs s.2).2)))) else none
  | _ => none
@[simp] theorem sFldA_ap (i : Nat) (c f : Str) (m : Ev → Option D) (ρ : Ev) : sFldA i c f m ρ = (m ρ).bind fun d => (abjAt i ρ).bind fun s => match s.1 with
  | .ins c' fs => if c' = c ∧ fs.length = s.2.length ∧ fs.length ≤ 100 then some (.nx (ρ.set i (some (.abj (.ins c (putFD f d fs s.2).1) (putFD f d fs s.2).2)))) else none
  | _ => none := rfl
section
variable {X : Cx} {pos p1 pos' : Pos} {e : Expr} {m : Ev → Option D} {c f x : Str} {fl : List Str} {i : Nat}
end
/-- what __init__ leaves in self -/
def spN (K : PySem.W.Frag) (mg : Str → Option Value) (n : Nat) (c : Str) (g : List D → Option (List Str × List D)) : Sp := fun vs H Q _ => ∃ F ws ds a C dx r, vs = .ref a :: ws ∧ Same F H ∧ RpA K mg F ws ds ∧ ds.length = n ∧ F a = none ∧ mg c = some (.ref C) ∧ H a = some (.ins C dx []) ∧ g ds = some r ∧
  ∀ F' H' xs' C' dx', Stp F (hole H a) F' H' → F' a = none → mg c = some (.ref C') → H' a = some (.ins C' dx' (r.1.zip xs')) → r.1.length = xs'.length → RpA K mg F' xs' r.2 → Q .non H'
def runN (s : Nat) (c : Str) (b : Ev → Option Out) : List D → Option (List Str × List D) := fun ds => (b (initA s (.ins c []) ds [])).bind fun o => match o with
  | .nx ρ => (abjAt 0 ρ).bind fun p => match p.1 with
    | .ins c' fs => if c' = c then some (fs, p.2) else none
    | _ => none
  | _ => none
@[simp] theorem runN_ap (s : Nat) (c : Str) (b : Ev → Option Out) (ds : List D) : runN s c b ds = (b (initA s (.ins c []) ds [])).bind fun o => match o with
  | .nx ρ => (abjAt 0 ρ).bind fun p => match p.1 with
    | .ins c' fs => if c' = c then some (fs, p.2) else none
    | _ => none
  | _ => none := rfl
end Dm


namespace Dm
open PySem PySem.Spec L2 PyProof.Rows
structure MkF (P : Program) (w : World) (K : PySem.W.Frag) (mg : Str → Option Value) (base : Heap) (k n : Nat) (c : Str) (ps : List Str) (g : List D → Option (List Str × List D)) : Prop where
  ex : ∃ (C f : Addr) (fd : FuncData), mg c = some (.ref C) ∧ Mk K C f ∧ FnOk P w K mg base CX0 k f fd ps (spN K mg n c g) ∧ Binds K fd ps []
def eMake (c : Str) (n : Nat) (g : List D → Option (List Str × List D)) (ms : Ev → Option (List D)) : Ev → Option D := fun ρ => (ms ρ).bind fun ds => if ds.length = n then (g ds).bind fun r => if r.1.length = r.2.length then some (.dict ((.bool true, .str c) :: zipF r.1 r.2)) else none else none
@[simp] theorem eMake_ap (c : Str) (n : Nat) (g : List D → Option (List Str × List D)) (ms : Ev → Option (List D)) (ρ : Ev) : eMake c n g ms ρ = (ms ρ).bind fun ds => if ds.length = n then (g ds).bind fun r => if r.1.length = r.2.length then some (.dict ((.bool true, .str c) :: zipF r.1 r.2)) else none else none := rfl
section
variable {X : Cx} {pos p : Pos} {e : Expr} {es : List Expr} {ms : Ev → Option (List D)} {c : Str}
end
end Dm


namespace Dm
open PySem PySem.Spec L2 PyProof.Rows
inductive ResT where | ok (b : Bool) | ex (c : Str) (fs : List (Str × D))
def tAX (K : PySem.W.Frag) (mg : Str → Option Value) (E : XK) (m : Ev → Option ResL) : TA := fun σ H Q => ∃ F0 H0 F ρ r, Ok K mg F0 H0 F H σ ρ ∧ m ρ = some r ∧ match r with
  | .ok ds => ∀ vs F' H', Stp F H F' H' → RpA K mg F' vs ds → Q vs H'
  | .ex c fs => ExP K mg E F0.1 H0 c fs
def tTX (K : PySem.W.Frag) (mg : Str → Option Value) (E : XK) (m : Ev → Option ResT) : TT := fun σ H Q => ∃ F0 H0 F ρ r, Ok K mg F0 H0 F H σ ρ ∧ m ρ = some r ∧ match r with
  | .ok b => ∀ F' H', Stp F H F' H' → Q b H'
  | .ex c fs => ExP K mg E F0.1 H0 c fs
abbrev DAX (X : Cx) (E : XK) (es : List Expr) (m : Ev → Option ResL) : Prop := PA X es (tAX X.K X.mg E m)
abbrev DTX (X : Cx) (E : XK) (e : Expr) (m : Ev → Option ResT) : Prop := PT X e (tTX X.K X.mg E m)
abbrev DWX (X : Cx) (E : XK) (e : Expr) (m : Ev → Option ResT) : Prop := PW X e (tTX X.K X.mg E m)
def rD {α : Type} (x : Option Res) (k : D → Option α) (z : Str → List (Str × D) → α) : Option α := x.bind fun r => match r with
  | .ok d => k d
  | .ex c fs => some (z c fs)
def rL {α : Type} (x : Option ResL) (k : List D → Option α) (z : Str → List (Str × D) → α) : Option α := x.bind fun r => match r with
  | .ok d => k d
  | .ex c fs => some (z c fs)
def rT {α : Type} (x : Option ResT) (k : Bool → Option α) (z : Str → List (Str × D) → α) : Option α := x.bind fun r => match r with
  | .ok d => k d
  | .ex c fs => some (z c fs)
@[simp] theorem rD_ok {α : Type} {d : D} {k : D → Option α} {z : Str → List (Str × D) → α} : rD (some (.ok d)) k z = k d := rfl
@[simp] theorem rD_ex {α : Type} {c : Str} {fs : List (Str × D)} {k : D → Option α} {z : Str → List (Str × D) → α} : rD (some (.ex c fs)) k z = some (z c fs) := rfl
@[simp] theorem rL_ok {α : Type} {d : List D} {k : List D → Option α} {z : Str → List (Str × D) → α} : rL (some (.ok d)) k z = k d := rfl
@[simp] theorem rL_ex {α : Type} {c : Str} {fs : List (Str × D)} {k : List D → Option α} {z : Str → List (Str × D) → α} : rL (some (.ex c fs)) k z = some (z c fs) := rfl
@[simp] theorem rT_ok {α : Type} {d : Bool} {k : Bool → Option α} {z : Str → List (Str × D) → α} : rT (some (.ok d)) k z = k d := rfl
@[simp] theorem rT_ex {α : Type} {c : Str} {fs : List (Str × D)} {k : Bool → Option α} {z : Str → List (Str × D) → α} : rT (some (.ex c fs)) k z = some (z c fs) := rfl
def uOf (m : Ev → Option D) : Ev → Option Res := fun ρ => (m ρ).bind fun d => some (.ok d)
def uaOf (m : Ev → Option (List D)) : Ev → Option ResL := fun ρ => (m ρ).bind fun d => some (.ok d)
def utOf (m : Ev → Option Bool) : Ev → Option ResT := fun ρ => (m ρ).bind fun d => some (.ok d)
def u1 (f : D → Option D) (a : Ev → Option Res) : Ev → Option Res := fun ρ => rD (a ρ) (fun d => (f d).bind fun x => some (.ok x)) .ex
def u2 (f : D → D → Option D) (a b : Ev → Option Res) : Ev → Option Res := fun ρ => rD (a ρ) (fun d => rD (b ρ) (fun e => (f d e).bind fun x => some (.ok x)) .ex) .ex
def uC (a : Ev → Option Res) (b : Ev → Option ResL) : Ev → Option ResL := fun ρ => rD (a ρ) (fun d => rL (b ρ) (fun ds => some (.ok (d :: ds))) .ex) .ex
def uCall (n : Nat) (f : List D → Option Res) (a : Ev → Option ResL) : Ev → Option Res := fun ρ => rL (a ρ) (fun ds => if ds.length = n then f ds else none) .ex
def uMeth (c m : Str) (n : Nat) (g : List D → Option Res) (mo : Ev → Option D) (ms : Ev → Option ResL) : Ev → Option Res := fun ρ => (mo ρ).bind fun o => if metD c m o = true then rL (ms ρ) (fun ds => if ds.length + 1 = n then g (o :: ds) else none) .ex else none
def uTup (a : Ev → Option ResL) : Ev → Option Res := fun ρ => rL (a ρ) (fun ds => if okN ds.length = true then some (.ok (.tuple ds)) else none) .ex
def uBi (f : List D → Option D) (a : Ev → Option ResL) : Ev → Option Res := fun ρ => rL (a ρ) (fun ds => (f ds).bind fun x => some (.ok x)) .ex
def uV (a : Ev → Option Res) : Ev → Option ResT := fun ρ => rD (a ρ) (fun d => (truD d).bind fun b => some (.ok b)) .ex
def uNot (a : Ev → Option ResT) : Ev → Option ResT := fun ρ => rT (a ρ) (fun b => some (.ok (!b))) .ex
def uAnd (a b : Ev → Option ResT) : Ev → Option ResT := fun ρ => rT (a ρ) (fun k => if k = true then b ρ else some (.ok false)) .ex
def uOr (a b : Ev → Option ResT) : Ev → Option ResT := fun ρ => rT (a ρ) (fun k => if k = true then some (.ok true) else b ρ) .ex
def uIf (t : Ev → Option ResT) (a b : Ev → Option Res) : Ev → Option Res := fun ρ => rT (t ρ) (fun k => if k = true then a ρ else b ρ) .ex
section
variable (ρ : Ev)
@[simp] theorem uOf_ap (m : Ev → Option D) : uOf m ρ = (m ρ).bind fun d => some (.ok d) := rfl
@[simp] theorem uaOf_ap (m : Ev → Option (List D)) : uaOf m ρ = (m ρ).bind fun d => some (.ok d) := rfl
@[simp] theorem utOf_ap (m : Ev → Option Bool) : utOf m ρ = (m ρ).bind fun d => some (.ok d) := rfl
@[simp] theorem u1_ap (f : D → Option D) (a : Ev → Option Res) : u1 f a ρ = rD (a ρ) (fun d => (f d).bind fun x => some (.ok x)) .ex := rfl
@[simp] theorem u2_ap (f : D → D → Option D) (a b : Ev → Option Res) : u2 f a b ρ = rD (a ρ) (fun d => rD (b ρ) (fun e => (f d e).bind fun x => some (.ok x)) .ex) .ex := rfl
@[simp] theorem uC_ap (a : Ev → Option Res) (b : Ev → Option ResL) : uC a b ρ = rD (a ρ) (fun d => rL (b ρ) (fun ds => some (.ok (d :: ds))) .ex) .ex := rfl
@[simp] theorem uCall_ap (n : Nat) (f : List D → Option Res) (a : Ev → Option ResL) : uCall n f a ρ = rL (a ρ) (fun ds => if ds.length = n then f ds else none) .ex := rfl
@[simp] theorem uMeth_ap (c m : Str) (n : Nat) (g : List D → Option Res) (mo : Ev → Option D) (ms : Ev → Option ResL) : uMeth c m n g mo ms ρ = (mo ρ).bind fun o => if metD c m o = true then rL (ms ρ) (fun ds => if ds.length + 1 = n then g (o :: ds) else none) .ex else none := rfl
@[simp] theorem uTup_ap (a : Ev → Option ResL) : uTup a ρ = rL (a ρ) (fun ds => if okN ds.length = true then some (.ok (.tuple ds)) else none) .ex := rfl
@[simp] theorem uBi_ap (f : List D → Option D) (a : Ev → Option ResL) : uBi f a ρ = rL (a ρ) (fun ds => (f ds).bind fun x => some (.ok x)) .ex := rfl
@[simp] theorem uV_ap (a : Ev → Option Res) : uV a ρ = rD (a ρ) (fun d => (truD d).bind fun b => some (.ok b)) .ex := rfl
@[simp] theorem uNot_ap (a : Ev → Option ResT) : uNot a ρ = rT (a ρ) (fun b => some (.ok (!b))) .ex := rfl
@[simp] theorem uAnd_ap (a b : Ev → Option ResT) : uAnd a b ρ = rT (a ρ) (fun k => if k = true then b ρ else some (.ok false)) .ex := rfl
@[simp] theorem uOr_ap (a b : Ev → Option ResT) : uOr a b ρ = rT (a ρ) (fun k => if k = true then some (.ok true) else b ρ) .ex := rfl
@[simp] theorem uIf_ap (t : Ev → Option ResT) (a b : Ev → Option Res) : uIf t a b ρ = rT (t ρ) (fun k => if k = true then a ρ else b ρ) .ex := rfl
end
section
variable {X : Cx} {E : XK} {pos : Pos} {a b c : Expr} {es rest : List Expr} {m m' : Ev → Option Res} {ms : Ev → Option ResL} {t t' : Ev → Option ResT}
end
end Dm


namespace Dm
open PySem PySem.Spec L2 PyProof.Rows
section
variable {X : Cx} {CX : CXT} {k : Nat} {f C : Addr} {fd : FuncData} {ps : List Str} {sp : Sp} {E : L2.St → XK} {x m : Str} {p pos apos : Pos} {e o : Expr} {es : List Expr} {ta : TE} {t : TA}
end
section
variable {X : Cx} {E : XK} {pos apos : Pos} {a b c e o : Expr} {es : List Expr} {m m' : Ev → Option Res} {mo : Ev → Option D} {ms : Ev → Option ResL} {cn mm : Str}
end
def uB (a : Ev → Option Res) : Ev → Option ResT := fun ρ => rD (a ρ) (fun d => (toB d).bind fun b => some (.ok b)) .ex
@[simp] theorem uB_ap (a : Ev → Option Res) (ρ : Ev) : uB a ρ = rD (a ρ) (fun d => (toB d).bind fun b => some (.ok b)) .ex := rfl
section
variable {X : Cx} {E : XK} {pos : Pos} {a c : Expr} {m : Ev → Option Res} {t : Ev → Option ResT} {st : Stmt} {s1 s2 : Ev → Option OutX}
def xIfX (t : Ev → Option ResT) (a b : Ev → Option OutX) : Ev → Option OutX := fun ρ => rT (t ρ) (fun k => if k = true then a ρ else b ρ) .ex
@[simp] theorem xIfX_ap (t : Ev → Option ResT) (a b : Ev → Option OutX) (ρ : Ev) : xIfX t a b ρ = rT (t ρ) (fun k => if k = true then a ρ else b ρ) .ex := rfl
def xExpr (m : Ev → Option Res) : Ev → Option OutX := fun ρ => rD (m ρ) (fun _ => some (.o (.nx ρ))) .ex
@[simp] theorem xExpr_ap (m : Ev → Option Res) (ρ : Ev) : xExpr m ρ = rD (m ρ) (fun _ => some (.o (.nx ρ))) .ex := rfl
def forX (g : D → Ev → Option Ev) (b : Ev → Option OutX) : List D → Ev → Option OutX
  | [], ρ => some (.o (.nx ρ))
  | d :: ds, ρ => (g d ρ).bind fun ρ1 => (b ρ1).bind fun o => match o with
    | .o (.nx ρ2) => forX g b ds ρ2
    | .o (.ct ρ2) => forX g b ds ρ2
    | .o (.bk ρ2) => some (.o (.nx ρ2))
    | .o (.rt v) => some (.o (.rt v))
    | .ex c fs => some (.ex c fs)
def xFor (g : D → Ev → Option Ev) (mi : Ev → Option (List D)) (b : Ev → Option OutX) : Ev → Option OutX := fun ρ => (mi ρ).bind fun ds => forX g b ds ρ
@[simp] theorem xFor_ap (g : D → Ev → Option Ev) (mi : Ev → Option (List D)) (b : Ev → Option OutX) (ρ : Ev) : xFor g mi b ρ = (mi ρ).bind fun ds => forX g b ds ρ := rfl
end
structure Err0 (K : PySem.W.Frag) (mg : Str → Option Value) (c : Str) : Prop where
  ex : ∃ (C : Addr) (bmB : List Value) (B newId initId : String), mg c = some (.ref C) ∧ ExcBaseFacts B newId initId bmB ∧ PySem.W.excIn K C bmB newId = true ∧ PySem.W.keepIn K (.ref C) = true ∧ PySem.W.subIn K (.ref C) (.type "BaseException") = some true ∧ PySem.W.typeIn K (.ref C) = some (.type "type")
def xRaise0 (c : Str) : Ev → Option OutX := fun _ => some (.ex c [])
@[simp] theorem xRaise0_ap (c : Str) (ρ : Ev) : xRaise0 c ρ = some (.ex c []) := rfl
section
variable {P : Program} {w : World} {K : PySem.W.Frag} {mg : Str → Option Value} {base : Heap} {x qn : Str} {st : Stmt} {f : Addr} {fd : FuncData} {N ps : List Str} {n : Nat}
end
end Dm


namespace Dm
open PySem PySem.Spec PyProof.Rows
section
variable {prog : Program} {w : World} {A : Around} {E : Value → Shared → Prop} {s : Shared}
/-- a fresh set, as this world makes it -/
abbrev set0 (w : World) : Obj := { cls := .type "set", dict := none, data := .set #[] 0 (.fresh 0 0 (!w.params.followText "set-order")) }
/-- a list, a tuple: their names and their iterators' -/
inductive Row : String → String → Prop
  | l : Row "list" "list_iterator"
  | t : Row "tuple" "tuple_iterator"
theorem row_iter {c it : String} (k : Row c it) {l : Addr} {o : Obj} {n : Nat} {items : Array Value} {Q : Value → Shared → Prop} (ho : s.heap.get? l = some o) (hc : o.cls = .type c) (hd : o.data = .seq items n)
    (hQ : Q (.ref s.heap.objs.size) { s with heap := s.heap.push { cls := .type it, data := .fields #[.ref l, .int 0 0] } }) : wpAny (model prog w) A (pyIter (.ref l)) Q E s := by
  cases k
  · exact wpAny_pyIter_list ⟨o, ho, hc, n, hd⟩ hQ
  · exact wpAny_pyIter_tuple ⟨o, ho, hc, n, hd⟩ hQ
theorem row_not {c it : String} (k : Row c it) : isSubtype (.type c) (.type "set") = pure false ∧ isSubtype (.type c) (.type "frozenset") = pure false ∧ (Value.type c == Value.type "dict") = false := by
  cases k
  · exact ⟨PySem.F.sub_list_set, PySem.F.sub_list_frozenset, by decide⟩
  · exact ⟨PySem.F.sub_tuple_set, PySem.F.sub_tuple_frozenset, by decide⟩
theorem set_body {c it : String} (k : Row c it) {l S : Addr} {o : Obj} {n : Nat} {items : Array Value} {Q : Shared → Prop}
    (hS : s.heap.get? S = some (set0 w)) (ho : s.heap.get? l = some o) (hc : o.cls = .type c) (hd : o.data = .seq items n)
    (loop : codeAny (model prog w) A (.builtin "set.update.loop" ⟨[.ref S, .ref s.heap.objs.size], []⟩) (wants (fun r s' => r = .none ∧ Q s') E) { s with heap := s.heap.push { cls := .type it, data := .fields #[.ref l, .int 0 0] } }) :
    wpAny (model prog w) A (Builtin.«set.__init__» ⟨[.ref S, .ref l], []⟩) (fun fin s' => fin = .done (.ret .none) ∧ Q s') E s := by
  obtain ⟨n1, n2, n3⟩ := row_not k
  obtain ⟨oc, od, oD, os⟩ := o
  simp only at hc hd
  subst hc; subst hd
  have hT : Shared.TypeIs s (.ref S) "set" := ⟨_, hS, rfl⟩
  have hT2 : Shared.TypeIs s (.ref l) c := ⟨_, ho, rfl⟩
  unfold Builtin.«set.__init__» noKeywords Builtin.Frozenset.updateFrom
  generalize hP : pyIter = PI
  wp_walk
  subst hP
  refine row_iter k ho rfl rfl ?_
  refine wpAny_bind (wpAny_runValue (codeAny_mono loop fun r s' h => ?_))
  cases r with
  | error e => exact h
  | ok f =>
    cases f with
    | ret v =>
      obtain ⟨rfl, hq⟩ := h
      exact wpAny_pure (wpAny_pure ⟨rfl, hq⟩)
    | _ => exact h.elim
/-- set(v), told by what set.__init__ does with a fresh set -/
theorem set_call {v : Value} {Q : Value → Shared → Prop}
    (body : wpAny (model prog w) A.in1.in1 (Builtin.«set.__init__» ⟨[.ref s.heap.objs.size, v], []⟩) (fun fin s' => fin = .done (.ret .none) ∧ Q (.ref s.heap.objs.size) s') E { s with heap := s.heap.push (set0 w) }) :
    wpAny (model prog w) A (call (.type "set") [v]) Q E s := by
  have T := PySem.F.called_set
  obtain ⟨t0, ts, order⟩ := T.mro
  have maker := T.made
  have self := T.sub
  have plain := T.notType
  have can := T.canCreate
  have asked := PySem.F.typeCall_set_1 v
  refine wpAny_call (codeAny_of_tree (show wpAny _ _ (callAny (.type "set") _) _ _ _ from wpAny_pure ⟨Code.quiet_builtin _ (by decide +kernel), codeAny_builtin PySem.F.entry_type_call ?_⟩))
  rw [Around.under_plain (weight_type_call_type "set" [v] []) rfl]
  repeat (any_goals (first | assumption | wp_step))
  refine codeAny_mono (L2.code_set_led1 v (E := E) (Q₁ := fun x s1 => x = .ref s.heap.objs.size ∧ s1 = { s with heap := s.heap.push (set0 w) }) ⟨rfl, rfl⟩) fun r s1 got => ?_
  match r, got with
  | .error e, got => exact got
  | .ok (.ret x), got =>
    obtain ⟨rfl, rfl⟩ := got
    have isSet : Shared.TypeIs { s with heap := s.heap.push (set0 w) } (.ref s.heap.objs.size) "set" := ⟨_, Heap.get?_push_size _ rfl, rfl⟩
    have look := T.init.lookup
    have bound := T.init.bind (.ref s.heap.objs.size)
    repeat (any_goals (first | assumption | wp_step))
    refine codeAny_mono (R := wants (fun u s2 => u = .none ∧ Q (.ref s.heap.objs.size) s2) E) (codeAny_call_builtin T.init.plain PySem.F.entry_set_init (check_set_init_1 isSet (wpAny_mono body (fun fin s2 q => ?_) fun _ _ q => q))) fun u s2 q => ?_
    · obtain ⟨rfl, q⟩ := q
      exact ⟨rfl, q⟩
    · match u, q with
      | .error e, q => exact q
      | .ok (.ret y), q =>
        obtain ⟨rfl, q⟩ := q
        repeat (any_goals (first | assumption | wp_step))
/-- set(xs), xs a list or a tuple, told by its loop -/
theorem set_row {c it : String} (k : Row c it) {l : Addr} {o : Obj} {n : Nat} {items : Array Value} {Q : Value → Shared → Prop} (ho : s.heap.get? l = some o) (hc : o.cls = .type c) (hd : o.data = .seq items n)
    (loop : codeAny (model prog w) A.in1.in1 (.builtin "set.update.loop" ⟨[.ref s.heap.objs.size, .ref (s.heap.objs.size + 1)], []⟩) (wants (fun r s' => r = .none ∧ Q (.ref s.heap.objs.size) s') E)
      { s with heap := (s.heap.push (set0 w)).push { cls := .type it, data := .fields #[.ref l, .int 0 0] } }) : wpAny (model prog w) A (call (.type "set") [.ref l]) Q E s := by
  refine set_call (set_body k (Q := fun s' => Q (.ref s.heap.objs.size) s') (Heap.get?_push_size _ rfl) (Heap.get?_push_of_some _ ho) hc hd ?_)
  rw [Heap.size_push]
  exact loop
/-- what stands behind a fresh set and an iterator -/
theorem two_new {h : Heap} {x y : Obj} (hy : y.isFreed = false) (hx : x.isFreed = false) : ((h.push x).push y).get? h.objs.size = some x ∧ ((h.push x).push y).get? (h.objs.size + 1) = some y ∧ ∀ b o, h.get? b = some o → ((h.push x).push y).get? b = some o := by
  refine ⟨Heap.get?_push_of_some _ (Heap.get?_push_size _ hx), ?_, fun b o e => Heap.get?_push_of_some _ (Heap.get?_push_of_some _ e)⟩
  have := Heap.get?_push_size (h.push x) hy
  rwa [Heap.size_push] at this
end
section
variable {prog : Program} {w : World} {A : Around} {R : Result → Shared → Prop} {I : Addr} {fp wr : List Addr} {G : Array GenState → Array GenState → Prop} {n : Nat} {P : Nat → Value → Prop} {St : Nat → Shared → Prop}
/-- an item after the other: what is so of the set behind i of them is J i -/
theorem set_items (W : WalksS prog w A.in1 I fp wr G n P St) {S : Addr} (hS : S ∉ fp) (J : Nat → Heap → Prop) (keep : ∀ i h h', J i h → (∀ o, h.get? S = some o → h'.get? S = some o) → J i h')
    (put : ∀ i v (s : Shared) (Q : Bool → Shared → Prop) (E : Value → Shared → Prop), i < n → P i v → J i s.heap → (∀ b h' tk, s.toks ≤ tk → J (i + 1) h' → (∀ a, a ≠ S → h'.get? a = s.heap.get? a) → Q b { s with heap := h', toks := tk }) → wpAny (model prog w) A.in1 (setAdd S v) Q E s) :
    ∀ (m i : Nat) (s : Shared), i + m = n → St i s → J i s.heap → (∀ s', Moved (S :: wr) G s s' → J n s'.heap → R (.ok (.ret .none)) s') → codeAny (model prog w) A (.builtin "set.update.loop" ⟨[.ref S, .ref I], []⟩) R s
  | 0, i, s, hi, st, j, fin => by
    obtain rfl : i = n := hi
    have away : ∀ {s'}, Moved wr G s s' → ∀ o, s.heap.get? S = some o → s'.heap.get? S = some o := fun mv o e => mv.heap S o (fun z => hS (W.sub _ z)) e
    refine codeAny_builtin PyProof.Rows.F.entry_set_update_loop ?_
    rw [Around.under_plainId PyProof.Rows.F.plain_set_update_loop _]
    exact wpAny_bind (show wpAny _ A.in1 (pyNext (.ref I)) _ _ s from W.done s _ _ st fun s' mv => wpAny_pure (fin s' (mv.mono fun b h => List.mem_cons_of_mem _ h) (keep _ _ _ j (away mv))))
  | m + 1, i, s, hi, st, j, fin => by
    have away : ∀ {s'}, Moved wr G s s' → ∀ o, s.heap.get? S = some o → s'.heap.get? S = some o := fun mv o e => mv.heap S o (fun z => hS (W.sub _ z)) e
    refine codeAny_builtin PyProof.Rows.F.entry_set_update_loop ?_
    rw [Around.under_plainId PyProof.Rows.F.plain_set_update_loop _]
    refine wpAny_bind (show wpAny _ A.in1 (pyNext (.ref I)) _ _ s from W.item i s _ _ (by omega) st fun v s' pv st' mv => ?_)
    refine wpAny_bind (show wpAny _ A.in1 (holding [v] (setAdd S v)) _ _ s' from wpAny_holding (put i v s' _ _ (by omega) pv (keep _ _ _ j (away mv)) fun b h' tk le j' same => ?_))
    refine wpAny_pure ⟨plainId_quiet PyProof.Rows.F.plain_set_update_loop _, set_items W hS J keep put m (i + 1) _ (by omega) (W.frame _ s' _ _ st' le fun a ha o e => ?_) j' fun s2 mv2 j2 => fin s2 (Moved.trans W.gtrans (Moved.then_heap (mv.mono fun b h => List.mem_cons_of_mem _ h) le fun a o ha e => ?_) mv2) j2⟩
    · rw [same a fun z => hS (z ▸ ha)]
      exact e
    · rw [same a fun z => ha (z ▸ List.mem_cons_self)]
      exact e
end
/-- how many texts, each once; the last one written first -/
def dnR : List Str → Nat
  | [] => 0
  | x :: r => if r.any (· == x) = true then dnR r else dnR r + 1
def dn (xs : List Str) : Nat := dnR xs.reverse
theorem far {l n : Nat} (h : l < n) : l ≠ n + 1 ∧ n ∉ [n + 1, l] ∧ l ∉ [n, n + 1] := by
  simp only [List.mem_cons, List.not_mem_nil, or_false, not_or]
  omega
section
variable {prog : Program} {w : World} {A : Around} {E : Value → Shared → Prop} {s : Shared}
/-- the set at S has these texts -/
def Txs (prog : Program) (w : World) (S : Addr) (xs : List Str) (h : Heap) : Prop := h.SetOf (PySem.strKind prog w) S (fun k => xs.any (· == k)) (dn xs)
theorem Txs.keep {S : Addr} {xs : List Str} {h h' : Heap} (j : Txs prog w S xs h) (k : ∀ o, h.get? S = some o → h'.get? S = some o) : Txs prog w S xs h' := by
  obtain ⟨o, es, ep, t, ho, r⟩ := j
  exact ⟨o, es, ep, t, k o ho, r⟩
theorem Txs.nil {S : Addr} {h : Heap} (e : h.get? S = some (set0 w)) : Txs prog w S [] h :=
  SetOf_congr ((setObjOf_fresh (knd := PySem.strKind prog w) _).setOf e (by decide)) (fun _ => rfl) rfl
end
end Dm


namespace Dm
open PySem PySem.Spec L2 PyProof.Rows
end Dm


namespace Dm
open PySem PySem.Spec L2 PyProof.Rows
section
variable {X : Cx}
end
end Dm


namespace Dm
open PySem PySem.Spec L2 PyProof.Rows
end Dm


namespace Dm
open PySem PySem.Spec L2 PyProof.Rows
end Dm


namespace Dm
open PySem PySem.Spec L2 PyProof.Rows
end Dm


namespace Dm
open PySem PySem.Spec L2 PyProof.Rows
end Dm


namespace Dm
open PySem PySem.Spec L2
def sTryX (n : Nat) (f : List D → Option Res) (ms : Ev → Option (List D)) (i : Nat) (ct : List (Str × Bool)) (g : Em) : Ev → Option Out := fun ρ => (ms ρ).bind fun ds => if ds.length = n then (f ds).bind fun r => match r with
  | .ok _ => some (.nx ρ)
  | .ex c fs => if i < ρ.length then (if ct.lookup c = some true then (g c fs (ρ.set i none)).bind fun x => some (.rt x) else none) else none
  else none
@[simp] theorem sTryX_ap (n : Nat) (f : List D → Option Res) (ms : Ev → Option (List D)) (i : Nat) (ct : List (Str × Bool)) (g : Em) (ρ : Ev) : sTryX n f ms i ct g ρ = (ms ρ).bind fun ds => if ds.length = n then (f ds).bind fun r => match r with
  | .ok _ => some (.nx ρ)
  | .ex c fs => if i < ρ.length then (if ct.lookup c = some true then (g c fs (ρ.set i none)).bind fun x => some (.rt x) else none) else none
  else none := rfl
end Dm


namespace Dm
open PySem PySem.Spec L2 PyProof.Rows
section
variable {X : Cx} {E : XK} {e : Expr} {s : Stmt}
end
def eMethN (c m : Str) (n : Nat) (g : List D → Option Res) (mo : Ev → Option D) (ms : Ev → Option (List D)) : Ev → Option D := fun ρ => (mo ρ).bind fun o => if metD c m o = true then (ms ρ).bind fun ds => if ds.length + 1 = n then (g (o :: ds)).bind okD else none else none
@[simp] theorem eMethN_ap (c m : Str) (n : Nat) (g : List D → Option Res) (mo : Ev → Option D) (ms : Ev → Option (List D)) (ρ : Ev) : eMethN c m n g mo ms ρ = (mo ρ).bind fun o => if metD c m o = true then (ms ρ).bind fun ds => if ds.length + 1 = n then (g (o :: ds)).bind okD else none else none := rfl
section
variable {X : Cx} {pos apos : Pos} {o e : Expr} {es : List Expr} {mo : Ev → Option D} {ms : Ev → Option (List D)} {c mm : Str}
end
def eWork (i : Nat) (fs : List (Str × Nat × (List D → Option D))) (a : Ev → Option (List D)) : Ev → Option D := fun ρ => (eV i ρ).bind fun g => (a ρ).bind fun ds => (fnOf? g).bind fun y => (look y fs).bind fun nm => if ds.length = nm.1 then nm.2 ds else none
@[simp] theorem eWork_ap (i : Nat) (fs : List (Str × Nat × (List D → Option D))) (a : Ev → Option (List D)) (ρ : Ev) : eWork i fs a ρ = (eV i ρ).bind fun g => (a ρ).bind fun ds => (fnOf? g).bind fun y => (look y fs).bind fun nm => if ds.length = nm.1 then nm.2 ds else none := rfl
section
variable {X : Cx} {pos p : Pos} {ms : Ev → Option (List D)} {e : Expr} {es : List Expr} {x : Str}
theorem d_work {fs : List (Str × Nat × (List D → Option D))} {k j : Nat} (i : Nat) (W : ∀ q ∈ fs, Wk X.prog X.w X.K X.mg X.base k q.1 q.2.1 q.2.2) (hr : Room j X.A) (hj : k ≤ j) (ha : DA X (e :: es) ms)
    (hN : X.N[i]? = some x := by rfl) (hv : Vis X.env.scope x := by first | exact Or.inl rfl | exact Or.inr (Or.inl rfl) | exact Or.inr (Or.inr rfl)) (hd : (x == ("__debug__" : Str)) = false := by decide)
    (hcd : (x == ("__classdict__" : Str)) = false := by decide) (hst : starEach (e :: es) X.env = (false, eval e X.env) :: starEach es X.env := by rfl) (hpl : (backTo pos (starEach es X.env)).any (·.1) = false := by rfl) :
    DE X (.Call (.Name x p) (e :: es) [] pos) (eWork i fs ms) := by
  refine ⟨fun pins s σ H Q I ⟨F0, H0, F, ρ, d, k0, e0, q⟩ => ?_⟩
  obtain ⟨g, h1, e0⟩ := bind_some e0
  obtain ⟨ds, h2, e0⟩ := bind_some e0
  obtain ⟨y, h3, e0⟩ := bind_some e0
  obtain ⟨nm, h5, e9⟩ := bind_some e0
  split at e9
  · rename_i hl
    obtain ⟨k', ps, hk', hD⟩ := (W _ (look_mem h5)).ex
    obtain ⟨f, fd, G, hm, hk, hb⟩ := hD.ex
    have e3 := fnOf_some h3
    subst e3
    obtain ⟨v0, e1, rv⟩ := k0.rel i _ (eV_some h1)
    have ev := rp_fn rv hm
    subst ev
    refine wpAny_Call_Name_kw (thn ((pe_var (X := X) (pos := p) hN hv hd hcd).run pins s σ H (fun v H1 => v = .ref f ∧ H1 = H) I ⟨.ref f, e1, rfl, rfl⟩) fun u s1 ⟨v, H1, I1, r1, q1⟩ => ?_)
    obtain ⟨rfl, rfl⟩ := q1
    cases r1
    refine PySem.W.callWith_K (first := []) (h₀ := X.base) I.ok.mod.kin hk (thn (ha.run pos pins s1 σ _ (fun vs H2 => ∃ F2, RpA X.K X.mg F2 vs ds ∧ Stp F H1 F2 H2) I1 ⟨F0, H0, F, ρ, ds, k0, h2, fun vs F2 H2 t2 r2 => ⟨F2, r2, t2⟩⟩) fun us s2 ⟨vs, H2, I2, r, F2, r2, t2⟩ => ⟨I2.kIn, ?_⟩) hst hpl
    refine run_fn (dvs := []) (ds := []) G (hr.mono (Nat.le_trans hk' hj)) hb .nil (E := fun _ _ _ => False) (fun _ _ _ _ _ _ _ z => z.elim) I2 r ?_
    show spD X.K X.mg nm.1 nm.2 (vs ++ []) H2 Q _
    rw [List.append_nil]
    exact ⟨F2, ds, d, t2.s, r2, hl, e9, fun v F3 H3 t3 r3 => q v F3 H3 (t2.trans t3) r3⟩
  · cases e9
end
end Dm


namespace Dm
open PySem PySem.Spec L2 PyProof.Rows
/-- what stands at a key -/
def findK (k : Key) : List (D × D) → Option D
  | [] => none
  | (q, d) :: r => match dKey q with
    | some k' => if k' = k then some d else findK k r
    | none => none
/-- a dict by keys, as data -/
def dctOf : D → Option (List (D × D))
  | .dict [] => some []
  | .dict ((.int i, d) :: r) => some ((.int i, d) :: r)
  | .dict ((.str x, d) :: r) => some ((.str x, d) :: r)
  | _ => none
theorem dKey_kD (k : Key) : dKey (kD k) = some k := by cases k <;> rfl
section
variable {K : PySem.W.Frag} {mg : Str → Option Value} {F : Hp}
theorem rp_dct {v : V} {d : D} {kvs : List (D × D)} (r : Rp K mg F v d) (h : dctOf d = some kvs) : ∃ (a : Addr) (ks : List Key) (xs : List V) (ds : List D), v = .ref a ∧ F a = some (.dK (ks.zip xs)) ∧ RpA K mg F xs ds ∧ ks.length = ds.length ∧ kvs = zipK ks ds := by
  cases r with
  | emp ha =>
    cases h
    exact ⟨_, [], [], [], rfl, ha, .nil, rfl, rfl⟩
  | dct ha r hl =>
    rename_i k ks xs d ds
    have : dctOf (.dict ((kD k, d) :: zipK ks ds)) = some ((kD k, d) :: zipK ks ds) := by cases k <;> rfl
    rw [this] at h
    cases h
    exact ⟨_, k :: ks, xs, d :: ds, rfl, ha, r, by simp [hl], rfl⟩
  | _ => cases h
end
section
variable {X : Cx} {pos : Pos} {a b c : Expr} {m m1 m2 m3 : Ev → Option D}
/-- d.get(k, e) -/
def eGetD (m1 m2 m3 : Ev → Option D) : Ev → Option D := fun ρ => (m1 ρ).bind fun x => (m2 ρ).bind fun y => (m3 ρ).bind fun z => (dctOf x).bind fun kvs => (dKey y).bind fun k => some ((findK k kvs).getD z)
@[simp] theorem eGetD_ap (m1 m2 m3 : Ev → Option D) (ρ : Ev) : eGetD m1 m2 m3 ρ = (m1 ρ).bind fun x => (m2 ρ).bind fun y => (m3 ρ).bind fun z => (dctOf x).bind fun kvs => (dKey y).bind fun k => some ((findK k kvs).getD z) := rfl
end
/-- each key new -/
def dcL (i : Nat) (mk mv : Ev → Option D) (ρ : Ev) : List D → List Key → List D → Option (List Key × List D)
  | [], ks, vs => some (ks, vs)
  | d :: ds, ks, vs => (mk ((ρ.set i none).set i (some (.dat d)))).bind fun kd => (dKey kd).bind fun k => (mv ((ρ.set i none).set i (some (.dat d)))).bind fun v => if (ks.any fun x => decide (x = k)) = false then dcL i mk mv ρ ds (ks ++ [k]) (vs ++ [v]) else none
def eDc (i : Nat) (mi : Ev → Option (List D)) (mk mv : Ev → Option D) : Ev → Option D := fun ρ => (mi ρ).bind fun ds => if okN ds.length = true then (dcL i mk mv ρ ds [] []).bind fun r => some (shD (.dct r.1) r.2) else none
@[simp] theorem eDc_ap (i : Nat) (mi : Ev → Option (List D)) (mk mv : Ev → Option D) (ρ : Ev) : eDc i mi mk mv ρ = (mi ρ).bind fun ds => if okN ds.length = true then (dcL i mk mv ρ ds [] []).bind fun r => some (shD (.dct r.1) r.2) else none := rfl
end Dm


namespace Dm
open PySem PySem.Spec L2 PyProof.Rows
structure MetOkX (P : Program) (w : World) (K : PySem.W.Frag) (mg : Str → Option Value) (base : Heap) (k n : Nat) (c m : Str) (ps : List Str) (g : List D → Option Res) : Prop where
  ex : ∃ (f : Addr) (fd : FuncData), FnOk P w K mg base (CX P w) k f fd ps (spX K mg n g) ∧ MetF K mg c m f ∧ Binds K fd ps []
structure MetOk (P : Program) (w : World) (K : PySem.W.Frag) (mg : Str → Option Value) (base : Heap) (k n : Nat) (c m : Str) (ps : List Str) (g : List D → Option D) : Prop where
  ex : ∃ (f : Addr) (fd : FuncData), FnOk P w K mg base CX0 k f fd ps (spD K mg n g) ∧ MetF K mg c m f ∧ Binds K fd ps []
end Dm


namespace Dm
open PySem PySem.Spec L2 PyProof.Rows
def setE : List Nat → List D → Ev → Ev
  | i :: is, d :: ds, ρ => setE is ds (ρ.set i (some (.dat d)))
  | _, _, ρ => ρ
def wipeE (ρ : Ev) : List Nat → Ev
  | [] => ρ
  | v :: vs => (wipeE ρ vs).set v none
theorem at_wipe {own : List Nat} {σ : L2.St} {n : Nat} : (L2.wipe σ own)[n]? = if n ∈ own ∧ n < σ.length then some none else σ[n]? := by
  induction own with
  | nil => simp [L2.wipe]
  | cons v vs ih =>
    rw [L2.wipe, List.getElem?_set, L2.wipe_length, ih]
    by_cases h : v = n
    · subst h
      by_cases h2 : v < σ.length
      · simp [h2]
      · simp [h2]
    · simp [h, Ne.symm h]
theorem wipe_two' {own : List Nat} {σ : L2.St} : L2.wipe (L2.wipe σ own) own = L2.wipe σ own := by
  apply List.ext_getElem?
  intro n
  rw [at_wipe, at_wipe, L2.wipe_length]
  split <;> rfl
section
variable {K : PySem.W.Frag} {mg : Str → Option Value} {F0 : Fz} {H0 F H : Hp}
theorem Ok.wipes {σ : L2.St} {ρ : Ev} (k : Ok K mg F0 H0 F H σ ρ) : ∀ own : List Nat, Ok K mg F0 H0 F H (L2.wipe σ own) (wipeE ρ own)
  | [] => k
  | v :: vs => (Ok.wipes k vs).wipe v
end
def lcT (own is : List Nat) (t : Ev → Option Bool) (f : Ev → Option D) (ρ : Ev) : List D → Option (List D)
  | [] => some []
  | d :: ds => match d with
    | .tuple xs => if is.length = xs.length then (t (setE is xs (wipeE ρ own))).bind fun b => if b = true then (f (setE is xs (wipeE ρ own))).bind fun y => (lcT own is t f ρ ds).bind fun r => some (y :: r) else lcT own is t f ρ ds else none
    | _ => none
def fLcT (own is : List Nat) (m : Ev → Option (List D)) (t : Ev → Option Bool) (f : Ev → Option D) : Ev → Option (List D) := fun ρ => (m ρ).bind fun ds => if okN ds.length = true then lcT own is t f ρ ds else none
@[simp] theorem fLcT_ap (own is : List Nat) (m : Ev → Option (List D)) (t : Ev → Option Bool) (f : Ev → Option D) (ρ : Ev) : fLcT own is m t f ρ = (m ρ).bind fun ds => if okN ds.length = true then lcT own is t f ρ ds else none := rfl
section
variable {K : PySem.W.Frag} {mg : Str → Option Value}
end
end Dm


namespace Dm
open PySem PySem.Spec L2 PyProof.Rows
section
variable {X : Cx} {a : Addr} {oe : Obj} {cls : Value} {dd : Option Addr} {pn : List (Addr × Obj)} {i : Nat} {pos : Pos} {e e' : Expr} {m m' : Em}
end
def sTryA (n : Nat) (gt : D → Ev → Option Ev) (f : List D → Option Res) (ms : Ev → Option (List D)) (i : Nat) (ct : List (Str × Bool)) (g : Em) : Ev → Option Out := fun ρ => (ms ρ).bind fun ds => if ds.length = n then (f ds).bind fun r => match r with
  | .ok d => (gt d ρ).bind fun ρ' => some (.nx ρ')
  | .ex c fs => if i < ρ.length then (if ct.lookup c = some true then (g c fs (ρ.set i none)).bind fun x => some (.rt x) else none) else none
  else none
@[simp] theorem sTryA_ap (n : Nat) (gt : D → Ev → Option Ev) (f : List D → Option Res) (ms : Ev → Option (List D)) (i : Nat) (ct : List (Str × Bool)) (g : Em) (ρ : Ev) : sTryA n gt f ms i ct g ρ = (ms ρ).bind fun ds => if ds.length = n then (f ds).bind fun r => match r with
  | .ok d => (gt d ρ).bind fun ρ' => some (.nx ρ')
  | .ex c fs => if i < ρ.length then (if ct.lookup c = some true then (g c fs (ρ.set i none)).bind fun x => some (.rt x) else none) else none
  else none := rfl
structure WkB (P : Program) (w : World) (K : PySem.W.Frag) (mg : Str → Option Value) (base : Heap) (k : Nat) (y : Str) (n : Nat) (m : List D → List D → Option (D × List D)) : Prop where
  ex : ∃ (k' : Nat) (ps : List Str), k' ≤ k ∧ DefOkB P w K mg base k' n y ps m
def kWorkO (i : Nat) (fs : List (Str × Nat × (List D → List D → Option (D × List D)))) (mo : Ev → Option (D × Ev)) (ms : Ev → Option (List D × Ev)) : Ev → Option (D × Ev) := fun ρ => (mo ρ).bind fun g => (ownAt i g.2).bind fun _ => (ms g.2).bind fun p => (fnOf? g.1).bind fun y => (look y fs).bind fun nm => if p.1.length = nm.1 then (ownAt i p.2).bind fun es => (nm.2 p.1 es).bind fun r => some (r.1, p.2.set i (some (.own r.2))) else none
@[simp] theorem kWorkO_ap (i : Nat) (fs : List (Str × Nat × (List D → List D → Option (D × List D)))) (mo : Ev → Option (D × Ev)) (ms : Ev → Option (List D × Ev)) (ρ : Ev) : kWorkO i fs mo ms ρ = (mo ρ).bind fun g => (ownAt i g.2).bind fun _ => (ms g.2).bind fun p => (fnOf? g.1).bind fun y => (look y fs).bind fun nm => if p.1.length = nm.1 then (ownAt i p.2).bind fun es => (nm.2 p.1 es).bind fun r => some (r.1, p.2.set i (some (.own r.2))) else none := rfl
end Dm


namespace Dm
open PySem PySem.Spec L2 PyProof.Rows
end Dm


namespace Dm
open PySem PySem.Spec L2 PyProof.Rows
def zPar3 (i j l : Nat) (m : Ev → Option (List D × Ev)) : Ev → Option OutB := fun ρ => (m ρ).bind fun p => match p.1 with
  | [a, b, c] => some (.nx (((p.2.set i (some (.dat a))).set j (some (.dat b))).set l (some (.dat c))))
  | _ => none
@[simp] theorem zPar3_ap (i j l : Nat) (m : Ev → Option (List D × Ev)) (ρ : Ev) : zPar3 i j l m ρ = (m ρ).bind fun p => match p.1 with
  | [a, b, c] => some (.nx (((p.2.set i (some (.dat a))).set j (some (.dat b))).set l (some (.dat c))))
  | _ => none := rfl
end Dm


namespace Dm
open PySem PySem.Spec L2 PyProof.Rows
/-- what a call lets out is taken -/
abbrev LetsC (X : Cx) (E : XK) : Prop := ∀ σ, PassesAt (CX X.prog X.w) X σ E
/-- the block of a comprehension whose item may raise -/
abbrev blkX (X : Cx) (E : XK) (s : Shared) (H : Hp) (scope : Scope) (cenv : Env) (fp : List Addr) : Cx :=
  { X.blk s H scope cenv fp with xe := fun u s' => ∃ pins σ H' s1, Inv (X.blk s H scope cenv fp) pins σ H' s1 ∧ CX X.prog X.w X.stack H' s1 E u s' }
section
variable {X : Cx} {E : XK} {pins : List (Addr × Obj)} {σ : L2.St} {H : Hp} {s : Shared} {scope : Scope} {cenv : Env} {fp : List Addr}
theorem inv_blkX {s0 : Shared} {H0 : Hp} (I : Inv (X.blk s0 H0 scope cenv fp) pins σ H s) : Inv (blkX X E s0 H0 scope cenv fp) pins σ H s :=
  ⟨⟨I.ok.mod, I.ok.kind, I.ok.glob, I.ok.blt, I.ok.above, I.ok.inj, I.ok.has, I.ok.cab, I.ok.hd, I.ok.frames, I.ok.stk, I.ok.exf, I.ok.bs, I.ok.bsz, I.ok.noex, I.ok.exfs, I.ok.funs, I.ok.frf⟩, I.os, I.bare, I.base, I.loc, I.cell, I.free, I.freeC, I.pin, I.hok, I.len⟩
theorem inv_blk {s0 : Shared} {H0 : Hp} (I : Inv (blkX X E s0 H0 scope cenv fp) pins σ H s) : Inv (X.blk s0 H0 scope cenv fp) pins σ H s :=
  ⟨⟨I.ok.mod, I.ok.kind, I.ok.glob, I.ok.blt, I.ok.above, I.ok.inj, I.ok.has, I.ok.cab, I.ok.hd, I.ok.frames, I.ok.stk, I.ok.exf, I.ok.bs, I.ok.bsz, I.ok.noex, I.ok.exfs, I.ok.funs, I.ok.frf⟩, I.os, I.bare, I.base, I.loc, I.cell, I.free, I.freeC, I.pin, I.hok, I.len⟩
/-- an error that this frame has noted is in our air -/
theorem XE_held {B : Heap} {H' : Hp} {a : Addr} {cls : Value} {d : Option Addr} {W : WX} {s' : Shared} (I : Inv X pins σ H s) (fl : HandSPX.HeldZ B X.stack a (Zc cls d) X.env.locals s'.heap) (hok : HOk X.prog X.w H' B) (ub : UB (frs X.stack) H H' s.heap B s'.heap)
    (na : H' a = none) (os : s'.os = s.os) (ag : AllBare s'.gens) (hW : W cls d σ H') : XE X W (.ref a) s' := by
  obtain ⟨G, g1, g2⟩ := restrict s'.heap fun b => (B.get? b).isSome || decide (b ∈ frs X.stack)
  have st : B.StaysIn s'.heap := fl.1
  have gB : ∀ b o, B.get? b = some o → G.get? b = some o := fun b o e => by
    rw [g1 b (by simp [e])]
    exact st b o e
  have gF : ∀ b, b ∈ frs X.stack → G.get? b = s'.heap.get? b := fun b hb => g1 b (by simp [hb])
  have og : ∀ b o, G.get? b = some o → s'.heap.get? b = some o ∧ ((B.get? b).isSome = true ∨ b ∈ frs X.stack) := fun b o e => by
    cases q : ((B.get? b).isSome || decide (b ∈ frs X.stack)) with
    | false => rw [g2 b q] at e; cases e
    | true =>
      rw [g1 b q] at e
      exact ⟨e, by simpa [Bool.or_eq_true] using q⟩
  refine ⟨a, B, { s with heap := G, gens := s'.gens, drawn := s'.drawn, toks := s'.toks }, pins, σ, H', cls, d, rfl, ?_, fun b o e hb => ?_, Heap.UpToSlots.of_keeps fun b o e => (og b o e).1, .inr (.inr fl), na, os, ag, hW⟩
  · refine I.call (ch := []) ⟨fun b o e n hb _ => gB b o (ub.keep b o e n hb), fun b o e n hb _ => ?_, fun b o e n _ => ub.free b o e n, fun b o e _ => ?_, ub.tups, ub.frzs, ub.tbls⟩ (hok.kept gB) ag (fun _ z => nomatch z)
    · obtain ⟨sl, q⟩ := ub.slot b o e hb
      exact ⟨sl, by rw [gF b hb]; exact q⟩
    · by_cases hb : b ∈ frs X.stack
      · obtain ⟨sl, q⟩ := ub.slot b o e hb
        exact ⟨_, by rw [gF b hb]; exact q⟩
      · obtain ⟨o', q⟩ := ub.there b o e hb
        exact ⟨o', gB b o' q⟩
  · obtain ⟨e', h⟩ := og b o e
    rcases h with h | h
    · obtain ⟨o', q⟩ := Option.isSome_iff_exists.mp h
      have z := st b o' q
      rw [e'] at z; cases z
      exact q
    · exact absurd h hb
theorem hok_less {P : Program} {w : World} {H : Hp} {h G : Heap} {C : Addr} (x : HOk P w H h) (nC : H C = none) (k : ∀ b o, b ≠ C → h.get? b = some o → G.get? b = some o) : HOk P w H G := fun b o q =>
  (x b o q).stay (fun c u hc r => k c u (fun hm => by
    rcases hc with hc | hc
    · rw [← hc, hm, nC] at q
      cases q
    · rw [hm, nC] at hc
      cases hc) r) (fun _ q => q) fun _ _ q => q
/-- the block's error goes on in the def -/
theorem blk_fails {W : WX} {s3 : Shared} {H3 : Hp} {σ0 : L2.St} {pins0 : List (Addr × Obj)} {ce : Env} (tk : Takes X W) (hW : ∀ cls d H', E cls d H' → W cls d σ0 H') (hs : X.stack = X.env :: X.outer) (hf : X.env.frame = some X.env.locals)
    (I3 : Inv X pins0 σ0 H3 s3) (hC : ce.locals = s3.heap.objs.size) (hcf : ce.frame = X.env.frame) (f3 : ∀ b ∈ fp, FpOk X pins0 H3 b ∧ b < s3.heap.objs.size) {u : Value} {s' : Shared}
    (h : ∃ pins σ H' s1, Inv (X.blk s3 H3 scope ce fp) pins σ H' s1 ∧ CX X.prog X.w X.stack H' s1 E u s') : notedBy (model X.prog X.w) X.A ce (CompFails (model X.prog X.w) X.A X.xe ce) u s' := by
  obtain ⟨pins', σ', H', s1, I6, a, B, H'', cls, d, rfl, fl, hok, ub, na, os, ag, hE⟩ := h
  have s3C : ∀ b o, s3.heap.get? b = some o → b ≠ s3.heap.objs.size := fun b o e z => absurd (Heap.lt_size e) (by rw [z]; exact Nat.lt_irrefl _)
  generalize s3.heap.objs.size = C at hC s3C
  have nC : H' C = none := by
    have z : H' ce.locals = none := I6.free
    rw [hC] at z
    exact z
  obtain ⟨m, hn, _⟩ := I6.loc
  have hn : s1.heap.Ns ce.locals m := hn
  rw [hC] at hn
  obtain ⟨oL, es, ep, hoL, hdL, hr⟩ := hn
  have cfs : C ∉ frs X.stack := fun hm => by
    obtain ⟨_, o, e, _⟩ := I3.stack.mem hm
    exact s3C _ _ e rfl
  have nC2 : H'' C = none := ub.free C oL hoL nC
  -- without the block's names
  obtain ⟨G1, g1, g2⟩ := restrict s1.heap fun b => decide (b ≠ C)
  have G1k : ∀ b o, b ≠ C → s1.heap.get? b = some o → G1.get? b = some o := fun b o hb e => by
    rw [g1 b (by simpa using hb)]
    exact e
  have oG1 : ∀ b o, G1.get? b = some o → b ≠ C ∧ s1.heap.get? b = some o := fun b o e => by
    by_cases hb : b = C
    · rw [g2 b (by simpa using hb)] at e
      cases e
    · rw [g1 b (by simpa using hb)] at e
      exact ⟨hb, e⟩
  have I7 : Inv X pins0 σ0 H' { s1 with heap := G1 } := I3.call' (ch := fp) I6.os ⟨fun b o e n hb hx => G1k b o (s3C b o e) (I6.base.keep b o e n hb hx), fun b o e n hb hx => by
      obtain ⟨sl, q⟩ := I6.base.slot b o e n hb hx
      exact ⟨sl, G1k _ _ (s3C b o e) q⟩, I6.base.free, fun b o e hx => by
      obtain ⟨o', q⟩ := I6.base.there b o e hx
      exact ⟨o', G1k _ _ (s3C b o e) q⟩, I6.base.tups, I6.base.frzs, I6.base.tbls⟩ (hok_less I6.hok nC G1k) I6.bare fun b hb => ⟨(f3 b hb).1.2.2.2.1, (f3 b hb).1.2.1, (f3 b hb).1.2.2.2.2.1, (f3 b hb).1.2.2.2.2.2⟩
  have hfr : X.A.frames = some (X.env :: X.outer) := by rw [I3.ok.frames, hs]
  have stk := I7.stack
  show wpAny _ X.A (noteFrame (.ref a) ce) _ _ s'
  rw [noteFrame_env _ hcf]
  rw [hs] at fl
  refine HandSPX.looks_onZ Zc.steady hfr hf fl fun h1 hH up1 => ?_
  obtain ⟨b1, b0, f1, t1⟩ := hH
  have hL1 : h1.get? C = some oL := b1 _ _ (ub.keep C oL hoL nC cfs)
  have hn1 : h1.Ns C m := ⟨oL, es, ep, hL1, hdL, hr⟩
  refine ⟨m, by rw [hC]; exact hn1, fun h2 m2 hn2 hs2 => ?_⟩
  rw [hC] at hn2 hs2
  obtain ⟨BC, c1, c2⟩ := restrict B fun b => decide (b ≠ C)
  have BCk : ∀ b o, b ≠ C → B.get? b = some o → BC.get? b = some o := fun b o hb e => by
    rw [c1 b (by simpa using hb)]
    exact e
  have oBC : ∀ b o, BC.get? b = some o → b ≠ C ∧ B.get? b = some o := fun b o e => by
    by_cases hb : b = C
    · rw [c2 b (by simpa using hb)] at e
      cases e
    · rw [c1 b (by simpa using hb)] at e
      exact ⟨hb, e⟩
  have nBC : ∀ b, B.get? b = none → BC.get? b = none := fun b e => by
    cases q : BC.get? b with
    | none => rfl
    | some o =>
      have z := (oBC b o q).2
      rw [e] at z
      cases z
  have b2 : BC.StaysIn h2 := fun b o e => (hs2.2 b (oBC _ _ e).1).trans (b1 b o (oBC _ _ e).2)
  have f2 : h2.FunFrames BC (X.env :: X.outer) := funFrames_none (Heap.FunFrames.sameBut hs2 hn2 f1) fun L hL => nBC L (Heap.FunFrames.mem f1 hL).1
  obtain ⟨oe, vs, T, oT, ts, he, hz, hd, h1', hnT, hTe, hT, hdT, h3'⟩ := t1
  have aC : a ≠ C := fun z => by
    rw [z, hL1] at he
    cases he
    rw [hdL] at hd
    cases hd
  have TC : T ≠ C := fun z => by
    rw [z, hL1] at hT
    cases hT
    rw [hdL] at hdT
    cases hdT
  have he2 : h2.get? a = some oe := (hs2.2 a aC).trans he
  have hH2 : HandSPX.HeldZ BC (X.env :: X.outer) a (Zc cls d) X.env.locals h2 := ⟨b2, nBC a b0, f2, oe, vs, T, oT, ts, he2, hz, hd, h1', nBC T hnT, hTe, (hs2.2 T TC).trans hT, hdT, h3'⟩
  unfold PySem.passOn
  refine wpAny_bind (wpAny_field he2 hd h1' ?_)
  rw [if_neg (show ¬ ((Value.ref T == Value.none) = true) from by simp)]
  rw [hcf, hf]
  refine wpAny_bind (HandSPX.setFlight_onZ hH2 fun h3 hH3 up3 => ?_)
  refine wpAny_throw ?_
  refine tk _ _ (XE_held (B := BC) (s := { s1 with heap := G1 }) I7 (by rw [hs]; exact hH3) (hok_less hok nC2 BCk) ⟨fun b o e n hb => BCk _ _ (oG1 b o e).1 (ub.keep b o (oG1 b o e).2 n hb), fun b o e hb => ?_, fun b o e n => ub.free b o (oG1 b o e).2 n, fun b o e hb => ?_, ub.tups, ub.frzs, ub.tbls⟩ na os ag (hW _ _ _ hE))
  · obtain ⟨bC, e⟩ := oG1 b o e
    obtain ⟨sl, q⟩ := ub.slot b o e hb
    have nf : ∀ vs, o.data ≠ .fields vs := by
      obtain ⟨_, o', e', hnf⟩ := stk.mem hb
      have e'' := (oG1 b o' e').2
      rw [e] at e''
      cases e''
      exact hnf
    obtain ⟨sl1, q1⟩ := up1 b _ q nf
    obtain ⟨sl3, q3⟩ := up3 b _ ((hs2.2 b bC).trans q1) nf
    exact ⟨sl3, q3⟩
  · obtain ⟨bC, e⟩ := oG1 b o e
    obtain ⟨o', q⟩ := ub.there b o e hb
    by_cases hb2 : b = C
    · exact absurd hb2 bC
    · exact ⟨o', BCk _ _ hb2 q⟩
end
end Dm


namespace Dm
open PySem PySem.Spec L2 PyProof.Rows
section
variable {X : Cx} {E : XK}
end
def lcX (i : Nat) (e : Ev → Option Res) (ρ : Ev) : List D → Option ResL
  | [] => some (.ok [])
  | d :: ds => rD (e ((ρ.set i none).set i (some (.dat d)))) (fun y => rL (lcX i e ρ ds) (fun r => some (.ok (y :: r))) .ex) .ex
def uLc (i : Nat) (m : Ev → Option (List D)) (e : Ev → Option Res) : Ev → Option ResL := fun ρ => (m ρ).bind fun ds => if okN ds.length = true then lcX i e ρ ds else none
@[simp] theorem uLc_ap (i : Nat) (m : Ev → Option (List D)) (e : Ev → Option Res) (ρ : Ev) : uLc i m e ρ = (m ρ).bind fun ds => if okN ds.length = true then lcX i e ρ ds else none := rfl
/-- a new list, or an error -/
def tFX (K : PySem.W.Frag) (mg : Str → Option Value) (E : XK) (m : Ev → Option ResL) : TE := fun σ H Q => ∃ F0 H0 F ρ r, Ok K mg F0 H0 F H σ ρ ∧ m ρ = some r ∧ match r with
  | .ok ds => ∀ p xs F' H', Stp F H F' H' → H p = none → F' p = none → H' p = some (.lst xs) → RpA K mg F' xs ds → Q (.ref p) H'
  | .ex c fs => ExP K mg E F0.1 H0 c fs
abbrev DFX (X : Cx) (E : XK) (e : Expr) (m : Ev → Option ResL) : Prop := PE X e (tFX X.K X.mg E m)
def uF (m : Ev → Option ResL) : Ev → Option Res := fun ρ => rL (m ρ) (fun ds => some (.ok (.list ds))) .ex
@[simp] theorem uF_ap (m : Ev → Option ResL) (ρ : Ev) : uF m ρ = rL (m ρ) (fun ds => some (.ok (.list ds))) .ex := rfl
section
variable {K : PySem.W.Frag} {mg : Str → Option Value} {E : XK}
end
end Dm


namespace Dm
open PySem PySem.Spec L2 PyProof.Rows
section
variable {X : Cx} {E : XK} {pos apos : Pos} {a b o e : Expr} {es rest : List Expr} {m m' : Ev → Option Res} {mo : Ev → Option D} {ms : Ev → Option ResL} {cn mm : Str}
def uAndV (a b : Ev → Option Res) : Ev → Option Res := fun ρ => rD (a ρ) (fun x => (toB x).bind fun k => if k = true then b ρ else some (.ok (.bool false))) .ex
def uOrV (a b : Ev → Option Res) : Ev → Option Res := fun ρ => rD (a ρ) (fun x => (toB x).bind fun k => if k = true then some (.ok (.bool true)) else b ρ) .ex
@[simp] theorem uAndV_ap (a b : Ev → Option Res) (ρ : Ev) : uAndV a b ρ = rD (a ρ) (fun x => (toB x).bind fun k => if k = true then b ρ else some (.ok (.bool false))) .ex := rfl
@[simp] theorem uOrV_ap (a b : Ev → Option Res) (ρ : Ev) : uOrV a b ρ = rD (a ρ) (fun x => (toB x).bind fun k => if k = true then some (.ok (.bool true)) else b ρ) .ex := rfl
end
section
variable {X : Cx} {pos : Pos} {a b : Expr} {m m' : Ev → Option (D × Ev)}
def kSl (m m' : Ev → Option (D × Ev)) : Ev → Option (D × Ev) := fun ρ => (m ρ).bind fun p => (m' p.2).bind fun q => (toI q.1).bind fun i => (sliceD p.1 none (some i)).bind fun d => some (d, q.2)
@[simp] theorem kSl_ap (m m' : Ev → Option (D × Ev)) (ρ : Ev) : kSl m m' ρ = (m ρ).bind fun p => (m' p.2).bind fun q => (toI q.1).bind fun i => (sliceD p.1 none (some i)).bind fun d => some (d, q.2) := rfl
end
def anyT (c : Str) : List (List (Str × Bool)) → Option Bool
  | [] => some false
  | t :: r => (t.lookup c).bind fun b => if b = true then some true else anyT c r
inductive IsTs (K : PySem.W.Frag) (mg : Str → Option Value) : List V → List (List (Str × Bool)) → Prop
  | nil : IsTs K mg [] []
  | cons {T : V} {Ts : List V} {t : List (Str × Bool)} {ts : List (List (Str × Bool))} : IsT K mg T t → IsTs K mg Ts ts → IsTs K mg (T :: Ts) (t :: ts)
/-- the classes' values, and what they say -/
theorem IsTs.any {K : PySem.W.Frag} {mg : Str → Option Value} {c : Str} {C : Addr} (hC : mg c = some (.ref C)) : ∀ {Ts : List V} {ts : List (List (Str × Bool))} {b : Bool}, IsTs K mg Ts ts → anyT c ts = some b → ∀ us : List Value, Vals Ts us → ∃ b', PySem.W.kitAny K (.ref C) us = some b' ∧ b' = b
  | _, _, _, .nil, h, _, .nil => by
    cases h
    exact ⟨_, kitAny_nil, rfl⟩
  | _, _, b, .cons hT hs, h, _, .cons r rs => by
    rename_i us'
    obtain ⟨b1, h1, h⟩ := bind_some h
    obtain ⟨_, _, cv, T3, T4⟩ := hT c b1 C h1 hC
    have ev := T3 _ r
    subst ev
    cases b1 with
    | true =>
      simp only [if_true] at h
      cases h
      refine ⟨true, ?_, rfl⟩
      unfold PySem.W.kitAny
      rw [T4]
    | false =>
      simp only [Bool.false_eq_true, if_false] at h
      obtain ⟨b', h2, rfl⟩ := IsTs.any hC hs h us' rs
      refine ⟨_, ?_, rfl⟩
      unfold PySem.W.kitAny
      rw [T4]
      exact h2
section
variable {X : Cx} {pos : Pos} {e : Expr} {es : List Expr}
end
section
variable {X : Cx} {a : Addr} {oe : Obj} {cls : Value} {dd : Option Addr} {pn : List (Addr × Obj)} {i : Nat} {pos : Pos} {e : Expr} {m m' : Em} {rest : List Stmt}
def mIsT (tbls : List (List (Str × Bool))) : Em := fun c _ _ => (anyT c tbls).bind fun b => some (.bool b)
@[simp] theorem mIsT_ap (tbls : List (List (Str × Bool))) (c : Str) (fs : List (Str × D)) (ρ : Ev) : mIsT tbls c fs ρ = (anyT c tbls).bind fun b => some (.bool b) := rfl
def mSet (j : Nat) (a b : Em) : Em := fun c fs ρ => (a c fs ρ).bind fun x => b c fs (ρ.set j (some (.dat x)))
@[simp] theorem mSet_ap (j : Nat) (a b : Em) (c : Str) (fs : List (Str × D)) (ρ : Ev) : mSet j a b c fs ρ = (a c fs ρ).bind fun x => b c fs (ρ.set j (some (.dat x))) := rfl
end
end Dm


namespace Dm
open PySem PySem.Spec L2 PyProof.Rows
section
variable {X : Cx}
end
end Dm


namespace Dm
open PySem PySem.Spec L2
section
variable {K : PySem.W.Frag} {mg : Str → Option Value}
end
section
variable {X : Cx} {e : Expr} {pos : Pos}
end
def mAndT (s t : Et) : Et := fun c fs ρ => (s c fs ρ).bind fun b => if b = true then t c fs ρ else some false
@[simp] theorem mAndT_ap (s t : Et) (c : Str) (fs : List (Str × D)) (ρ : Ev) : mAndT s t c fs ρ = (s c fs ρ).bind fun b => if b = true then t c fs ρ else some false := rfl
section
variable {X : Cx} {a : Addr} {oe : Obj} {cls : Value} {dd : Option Addr} {pn : List (Addr × Obj)} {i : Nat} {pos : Pos} {e e' e2 : Expr} {m m' : Em} {t t' : Et} {rest : List Expr}
end
end Dm


namespace Dm
open PySem PySem.Spec L2
section
variable {X : Cx}
end
section
variable {X : Cx} {pos : Pos} {e : Expr} {m : Ev → Option D}
end
def tAE (K : PySem.W.Frag) (mg : Str → Option Value) (a : Addr) (cls : Value) (dd : Option Addr) (i : Nat) (ms : Str → List (Str × D) → Ev → Option (List D)) : L2.St → Hp → (List V → Hp → Prop) → Prop := fun σ H Q => ∃ F0 H0 F ρ c fs xs, Ok K mg F0 H0 F H σ ρ ∧ ErAt K mg a cls dd i σ F H c fs ∧ ms c fs ρ = some xs ∧ ∀ vs F' H', Stp F H F' H' → RpA K mg F' vs xs → Q vs H'
abbrev DAE (X : Cx) (a : Addr) (oe : Obj) (cls : Value) (dd : Option Addr) (pn : List (Addr × Obj)) (i : Nat) (es : List Expr) (ms : Str → List (Str × D) → Ev → Option (List D)) : Prop := PA (X.suite a ((a, oe) :: pn)) es (tAE X.K X.mg a cls dd i ms)
def mN : Str → List (Str × D) → Ev → Option (List D) := fun _ _ _ => some []
def mC (m : Em) (ms : Str → List (Str × D) → Ev → Option (List D)) : Str → List (Str × D) → Ev → Option (List D) := fun c fs ρ => (m c fs ρ).bind fun x => (ms c fs ρ).bind fun y => some (x :: y)
def mLst (ms : Str → List (Str × D) → Ev → Option (List D)) : Em := fun c fs ρ => (ms c fs ρ).bind fun ds => if okN (ds.length) = true then some (.list ds) else none
@[simp] theorem mN_ap (c : Str) (fs : List (Str × D)) (ρ : Ev) : mN c fs ρ = some [] := rfl
@[simp] theorem mC_ap (m : Em) (ms : Str → List (Str × D) → Ev → Option (List D)) (c : Str) (fs : List (Str × D)) (ρ : Ev) : mC m ms c fs ρ = (m c fs ρ).bind fun x => (ms c fs ρ).bind fun y => some (x :: y) := rfl
@[simp] theorem mLst_ap (ms : Str → List (Str × D) → Ev → Option (List D)) (c : Str) (fs : List (Str × D)) (ρ : Ev) : mLst ms c fs ρ = (ms c fs ρ).bind fun ds => if okN (ds.length) = true then some (.list ds) else none := rfl
section
variable {X : Cx} {a : Addr} {oe : Obj} {cls : Value} {dd : Option Addr} {pn : List (Addr × Obj)} {i : Nat} {pos : Pos} {e e' : Expr} {es : List Expr} {m m' : Em} {ms : Str → List (Str × D) → Ev → Option (List D)}
end
end Dm


namespace Dm
open PySem PySem.Spec L2 PyProof.Rows
section
variable {X : Cx} {K : PySem.W.Frag} {mg : Str → Option Value}
end
section
variable {X : Cx} {pos p : Pos} {es : List Expr} {e : Expr} {ms : Ev → Option (List D)}
end
end Dm


namespace Dm
open PySem PySem.Spec L2 PyProof.Rows PySem.SeqAt
def bitsD : D → Option D
  | .int i => some (.int (Builtin.Int.intBits i : Nat))
  | _ => none
@[simp] theorem bitsD_int {i : Int} : bitsD (.int i) = some (.int (Builtin.Int.intBits i : Nat)) := rfl
section
variable {X : Cx} {pos apos p : Pos} {a e : Expr} {m m1 : Ev → Option D}
end
def dnRL : List Leaf → Nat
  | [] => 0
  | x :: r => if r.any (fun y => decide (y = x)) = true then dnRL r else dnRL r + 1
def dnL (xs : List Leaf) : Nat := dnRL xs.reverse
section
variable {prog : Program} {w : World} {A : Around} {E : Value → Shared → Prop} {s : Shared}
/-- the set at S has these values -/
def Lfs (prog : Program) (w : World) (S : Addr) (xs : List Leaf) (h : Heap) : Prop := h.SetOf (leafKind prog w) S (fun k => xs.any fun y => decide (y = k)) (dnL xs)
theorem Lfs.keep {S : Addr} {xs : List Leaf} {h h' : Heap} (j : Lfs prog w S xs h) (k : ∀ o, h.get? S = some o → h'.get? S = some o) : Lfs prog w S xs h' := by
  obtain ⟨o, es, ep, t, ho, r⟩ := j
  exact ⟨o, es, ep, t, k o ho, r⟩
theorem Lfs.nil {S : Addr} {h : Heap} (e : h.get? S = some (set0 w)) : Lfs prog w S [] h :=
  SetOf_congr ((setObjOf_fresh (knd := leafKind prog w) _).setOf e (by decide)) (fun _ => rfl) rfl
inductive LeafsAre : List Value → List Leaf → Prop
  | nil : LeafsAre [] []
  | cons {v : Value} {vs : List Value} {k : Leaf} {ks : List Leaf} : Leaf.isOf k v = true → LeafsAre vs ks → LeafsAre (v :: vs) (k :: ks)
theorem LeafsAre.len {vs : List Value} {ks : List Leaf} (h : LeafsAre vs ks) : vs.length = ks.length := by
  induction h with
  | nil => rfl
  | cons _ _ ih => simp [ih]
theorem LeafsAre.get {vs : List Value} {ks : List Leaf} (h : LeafsAre vs ks) : ∀ {i : Nat} {v : Value}, vs[i]? = some v → ∃ k, ks[i]? = some k ∧ Leaf.isOf k v = true := by
  induction h with
  | nil =>
    intro i v e
    cases e
  | cons q _ ih =>
    intro i v e
    cases i with
    | zero =>
      cases e
      exact ⟨_, rfl, q⟩
    | succ i => exact ih e
end
/-- a plain value, by what it is alike to -/
def leafV : V → Option Leaf
  | .non => some .none
  | .int i => some (.num i)
  | .bl b => some (.num (if b = true then 1 else 0))
  | .str x => some (.text x)
  | _ => none
theorem leaf_is {x : V} {v : Value} {k : Leaf} (r : RelV x v) (h : leafV x = some k) : Leaf.isOf k v = true := by
  cases x with
  | non =>
    cases h
    cases r
    rfl
  | int i =>
    cases h
    obtain ⟨t, rfl⟩ := r
    exact (decide_eq_true rfl : decide (i = i) = true)
  | bl b =>
    cases h
    cases r
    exact (decide_eq_true rfl : decide ((if b = true then (1 : Int) else 0) = (if b = true then 1 else 0)) = true)
  | str y =>
    cases h
    obtain ⟨t, rfl⟩ := r
    simp [Leaf.isOf, Value.isStrOf]
  | _ => cases h
def leafD : D → Option Leaf
  | .none => some .none
  | .int i => some (.num i)
  | .bool b => some (.num (if b = true then 1 else 0))
  | .str x => some (.text x)
  | _ => none
end Dm


namespace Dm
open PySem PySem.Spec L2 PyProof.Rows
section
variable {X : Cx} {pos : Pos}
def eDisp (ks : List Str) (ms : Ev → Option (List D)) : Ev → Option D := fun ρ => (ms ρ).bind fun ds => if ds.length = ks.length then some (shD (.dct (ks.map .inr)) ds) else none
@[simp] theorem eDisp_ap (ks : List Str) (ms : Ev → Option (List D)) (ρ : Ev) : eDisp ks ms ρ = (ms ρ).bind fun ds => if ds.length = ks.length then some (shD (.dct (ks.map .inr)) ds) else none := rfl
end
end Dm


namespace L2
open PySem PySem.Spec PyProof.Rows
section
variable {prog : Program} {w : World} {A : Around} {E : Value → Shared → Prop} {s : Shared} {T : String} {r d : Addr} {n : Nat} {P : Nat → Value → Prop} {OK : Heap → Prop}
end
end L2
namespace Dm
open PySem PySem.Spec L2 PyProof.Rows
section
variable {X : Cx} {pos p p1 : Pos} {e ix : Expr} {m mk : Ev → Option D} {i : Nat} {x : Str}
def sDict (i : Nat) : Ev → Option Out := fun ρ => some (.nx (ρ.set i (some (.obj (.dct []) []))))
@[simp] theorem sDict_ap (i : Nat) (ρ : Ev) : sDict i ρ = some (.nx (ρ.set i (some (.obj (.dct []) [])))) := rfl
def isTru : D → Bool
  | .bool true => true
  | _ => false
/-- a key that is there may be written again if all that stands, and stands then, is True -/
def putSh2 (k : Key) (d : D) : Sh × List D → Option (Sh × List D)
  | (.dct ks, ds) => if okN ks.length = true then if (ks.any fun x => decide (x = k)) = false then some (.dct (ks ++ [k]), ds ++ [d]) else if isTru d = true ∧ ds.all isTru = true then some (.dct ks, ds) else none else none
  | _ => none
def sPutD (i : Nat) (mk m : Ev → Option D) : Ev → Option Out := fun ρ => (m ρ).bind fun d => (mk ρ).bind fun kd => (dKey kd).bind fun k => (objAt i ρ).bind fun s => (putSh2 k d s).bind fun s' => some (.nx (ρ.set i (some (.obj s'.1 s'.2))))
@[simp] theorem sPutD_ap (i : Nat) (mk m : Ev → Option D) (ρ : Ev) : sPutD i mk m ρ = (m ρ).bind fun d => (mk ρ).bind fun kd => (dKey kd).bind fun k => (objAt i ρ).bind fun s => (putSh2 k d s).bind fun s' => some (.nx (ρ.set i (some (.obj s'.1 s'.2)))) := rfl
end
end Dm


namespace Dm
open PySem PySem.Spec L2 PyProof.Rows
section
variable {P : Program} {w : World} {h : Heap}
end
section
variable {X : Cx} {pins : List (Addr × Obj)} {σ : L2.St} {H F : Hp} {s : Shared}
end
section
variable {X : Cx} {K : PySem.W.Frag} {mg : Str → Option Value}
end
section
variable {X : Cx} {pos p : Pos} {es : List Expr} {e : Expr} {ms : Ev → Option (List D)}
end
end Dm


namespace Dm
open PySem PySem.Spec L2 PyProof.Rows
inductive W where | d (x : D) | rf (n : Nat) | tup (ws : List W)
inductive GS where | lst | dct (ks : List Key) | ins (c : Str) (fs : List Str) | out (ks : List Key) | dlf (ks : List Leaf)
/-- the program and the world that the dicts' hashes are of -/
class WdI where
  prog : Program
  w : World
variable [WdI]
abbrev GO := GS × List W
structure Gv where
  sl : List (Option W)
  g : List GO
abbrev Ph := List Addr
def Px (φ φ' : Ph) : Prop := ∀ (n : Nat) (a : Addr), φ[n]? = some a → φ'[n]? = some a
theorem Px.refl (φ : Ph) : Px φ φ := fun _ _ h => h
theorem Px.trans {φ φ1 φ2 : Ph} (h : Px φ φ1) (h' : Px φ1 φ2) : Px φ φ2 := fun n a e => h' n a (h n a e)
theorem Px.app (φ : Ph) (a : Addr) : Px φ (φ ++ [a]) := fun n b h => by
  rw [List.getElem?_append_left (getElem?_len h)]
  exact h
mutual
inductive Rw (K : PySem.W.Frag) (mg : Str → Option Value) (F : Hp) (φ : Ph) : V → W → Prop
  | d {v : V} {x : D} : Rp K mg F v x → Rw K mg F φ v (.d x)
  | rf {a : Addr} {n : Nat} : φ[n]? = some a → Rw K mg F φ (.ref a) (.rf n)
  | tup {a : Addr} {xs : List V} {ws : List W} : SqT K F a xs → RwA K mg F φ xs ws → Rw K mg F φ (.ref a) (.tup ws)
inductive RwA (K : PySem.W.Frag) (mg : Str → Option Value) (F : Hp) (φ : Ph) : List V → List W → Prop
  | nil : RwA K mg F φ [] []
  | cons {v : V} {vs : List V} {w : W} {ws : List W} : Rw K mg F φ v w → RwA K mg F φ vs ws → RwA K mg F φ (v :: vs) (w :: ws)
end
section
variable {K : PySem.W.Frag} {mg : Str → Option Value} {F F' H H' : Hp} {φ φ' : Ph}
mutual
theorem Rw.mono (e : Same F F') (p : Px φ φ') : ∀ {v : V} {w : W}, Rw K mg F φ v w → Rw K mg F' φ' v w
  | _, _, .d h => .d (h.mono e)
  | _, _, .rf h => .rf (p _ _ h)
  | _, _, .tup h a => .tup (sqT_mono e h) (RwA.mono e p a)
theorem RwA.mono (e : Same F F') (p : Px φ φ') : ∀ {vs : List V} {ws : List W}, RwA K mg F φ vs ws → RwA K mg F' φ' vs ws
  | _, _, .nil => .nil
  | _, _, .cons h t => .cons (Rw.mono e p h) (RwA.mono e p t)
end
theorem RwA.length : ∀ {vs : List V} {ws : List W}, RwA K mg F φ vs ws → vs.length = ws.length
  | _, _, .nil => rfl
  | _, _, .cons _ t => congrArg (· + 1) (RwA.length t)
theorem RwA.get : ∀ {vs : List V} {ws : List W} {i : Nat} {w : W}, RwA K mg F φ vs ws → ws[i]? = some w → ∃ v, vs[i]? = some v ∧ Rw K mg F φ v w
  | _, _, _, _, .nil, e => by simp at e
  | _, _, 0, _, .cons h _, e => by
    simp at e
    subst e
    exact ⟨_, rfl, h⟩
  | _, _, i + 1, w, .cons _ t, e => by
    obtain ⟨v, h1, h2⟩ := RwA.get (i := i) (w := w) t (by simpa using e)
    exact ⟨v, by simpa using h1, h2⟩
theorem RwA.append : ∀ {vs us : List V} {ws zs : List W}, RwA K mg F φ vs ws → RwA K mg F φ us zs → RwA K mg F φ (vs ++ us) (ws ++ zs)
  | _, _, _, _, .nil, s => s
  | _, _, _, _, .cons h t, s => .cons h (RwA.append t s)
theorem RwA.take : ∀ {vs : List V} {ws : List W} (n : Nat), RwA K mg F φ vs ws → RwA K mg F φ (vs.take n) (ws.take n)
  | _, _, 0, _ => .nil
  | _, _, _ + 1, .nil => .nil
  | _, _, n + 1, .cons h t => .cons h (RwA.take n t)
theorem RwA.drop : ∀ {vs : List V} {ws : List W} (n : Nat), RwA K mg F φ vs ws → RwA K mg F φ (vs.drop n) (ws.drop n)
  | _, _, 0, h => h
  | _, _, _ + 1, .nil => .nil
  | _, _, n + 1, .cons _ t => RwA.drop n t
theorem RwA.set : ∀ {vs : List V} {ws : List W} (n : Nat) {v : V} {w : W}, RwA K mg F φ vs ws → Rw K mg F φ v w → RwA K mg F φ (vs.set n v) (ws.set n w)
  | _, _, _, _, _, .nil, _ => .nil
  | _, _, 0, _, _, .cons h t, r => .cons r t
  | _, _, n + 1, _, _, .cons h t, r => .cons h (RwA.set n t r)
theorem RwA.of : ∀ {vs : List V} {ds : List D}, RpA K mg F vs ds → RwA K mg F φ vs (ds.map .d)
  | _, _, .nil => .nil
  | _, _, .cons h t => .cons (.d h) (RwA.of t)
/-- all of them data -/
def pures : List W → Option (List D)
  | [] => some []
  | .d x :: r => (pures r).bind fun xs => some (x :: xs)
  | _ => none
theorem RwA.pure : ∀ {vs : List V} {ws : List W} {ds : List D}, RwA K mg F φ vs ws → pures ws = some ds → RpA K mg F vs ds
  | _, _, _, .nil, e => by
    cases e
    exact .nil
  | _, _, _, .cons (.d h) t, e => by
    obtain ⟨xs, h1, e⟩ := bind_some e
    cases e
    exact .cons h (RwA.pure t h1)
  | _, _, _, .cons (.rf _) _, e => by cases e
  | _, _, _, .cons (.tup _ _) _, e => by cases e
theorem pures_map : ∀ ds : List D, pures (ds.map .d) = some ds
  | [] => rfl
  | d :: ds => by
    show (pures (ds.map .d)).bind _ = _
    rw [pures_map ds]
    rfl
theorem pures_of : ∀ {ws : List W} {ds : List D}, pures ws = some ds → ws = ds.map .d
  | [], ds, e => by
    cases e
    rfl
  | .d x :: r, ds, e => by
    obtain ⟨xs, h1, e⟩ := bind_some e
    cases e
    rw [pures_of h1]
    rfl
  | .rf _ :: _, _, e => by cases e
  | .tup _ :: _, _, e => by cases e
end
/-- the heap without the live objects -/
def hols (φ : Ph) (H : Hp) : Hp := fun a => if a ∈ φ then none else H a
theorem hols_in {φ : Ph} {H : Hp} {a : Addr} (h : a ∈ φ) : hols φ H a = none := if_pos h
theorem hols_out {φ : Ph} {H : Hp} {a : Addr} (h : a ∉ φ) : hols φ H a = H a := if_neg h
theorem hols_same {φ : Ph} {H : Hp} : Same (hols φ H) H := fun b o e => by
  unfold hols at e
  split at e
  · cases e
  · exact e
/-- a dict by plain values -/
def dlfO (a : Addr) (kvs : List (Leaf × V)) : HO := .ext fun h => kvs.length ≤ sizeLine ∧ (a == sysModules) = false ∧ ∃ vs, Paired (fun p q => p.1 = q.1 ∧ RelV p.2 q.2) kvs vs ∧ Heap.DictOf (leafKind WdI.prog WdI.w) h a vs
def GsOk (mg : Str → Option Value) (a : Addr) : GS → List V → HO → Prop
  | .lst, xs, o => o = .lst xs
  | .dct ks, xs, o => ks.length = xs.length ∧ o = .dK (ks.zip xs)
  | .ins c fs, xs, o => fs.length = xs.length ∧ ∃ C dx, mg c = some (.ref C) ∧ o = .ins C dx (fs.zip xs)
  | .out _, _, _ => False
  | .dlf ks, xs, o => ks.length = xs.length ∧ o = dlfO a (ks.zip xs)
/-- lent: read alone -/
def OutOk (K : PySem.W.Frag) (mg : Str → Option Value) (F : Hp) (φ : Ph) (a : Addr) (sh : GS) (xs : List V) (ws : List W) (o : HO) : Prop := ∃ ks od, sh = .out ks ∧ o = .frz od (.dK (ks.zip xs)) ∧ ks.length = xs.length ∧ F a = some o ∧ RwA K mg F φ xs ws
theorem OutOk.step {K : PySem.W.Frag} {mg : Str → Option Value} {F F' : Hp} {φ φ' : Ph} {a : Addr} {sh : GS} {xs : List V} {ws : List W} {o : HO} (s : Same F F') (p : Px φ φ') (h : OutOk K mg F φ a sh xs ws o) : OutOk K mg F' φ' a sh xs ws o := by
  obtain ⟨ks, od, h1, h2, h3, h4, h5⟩ := h
  exact ⟨ks, od, h1, h2, h3, s a o h4, h5.mono s p⟩
/-- the live objects stand -/
structure GOk (K : PySem.W.Frag) (mg : Str → Option Value) (F : Hp) (φ : Ph) (H0 H : Hp) (g : List GO) : Prop where
  len : φ.length = g.length
  nd : φ.Nodup
  at_ : ∀ (n : Nat) (sh : GS) (ws : List W), g[n]? = some (sh, ws) → ∃ a xs o, φ[n]? = some a ∧ H0 a = none ∧ H a = some o ∧ (OutOk K mg F φ a sh xs ws o ∨ (F a = none ∧ GsOk mg a sh xs o ∧ RwA K mg F φ xs ws))
structure EOk (K : PySem.W.Frag) (mg : Str → Option Value) (F0 H0 F H : Hp) (φ : Ph) (σ : L2.St) (γ : Gv) : Prop where
  s : Same F H
  st : Stp F0 H0 F H
  len : γ.sl.length = σ.length
  rel : ∀ (i : Nat) (w : W), γ.sl[i]? = some (some w) → ∃ v, σ[i]? = some (some v) ∧ Rw K mg F φ v w
  live : GOk K mg F φ H0 H γ.g
section
variable {K : PySem.W.Frag} {mg : Str → Option Value} {F0 H0 F H F' H' : Hp} {φ φ' : Ph} {σ : L2.St} {γ : Gv} {g : List GO}
theorem GOk.mem (k : GOk K mg F φ H0 H g) {a : Addr} (h : a ∈ φ) : ∃ (n : Nat) (sh : GS) (ws : List W) (xs : List V) (o : HO), g[n]? = some (sh, ws) ∧ φ[n]? = some a ∧ ((∃ ks, sh = .out ks) ∨ F a = none) ∧ H0 a = none ∧ H a = some o := by
  obtain ⟨n, hn⟩ := List.mem_iff_getElem?.mp h
  have hl : n < g.length := by rw [← k.len]; exact getElem?_len hn
  obtain ⟨a', xs, o, h1, h3, h4, h2⟩ := k.at_ n g[n].1 g[n].2 (List.getElem?_eq_getElem hl)
  rw [hn] at h1
  cases h1
  exact ⟨n, _, _, xs, o, List.getElem?_eq_getElem hl, hn, h2.imp (fun ⟨ks, _, e, _⟩ => ⟨ks, e⟩) (·.1), h3, h4⟩
theorem GOk.step (k : GOk K mg F φ H0 H g) (t : Stp F H F' H') : GOk K mg F' φ H0 H' g := ⟨k.len, k.nd, fun n sh ws e => by
  obtain ⟨a, xs, o, h1, h3, h4, h2⟩ := k.at_ n sh ws e
  exact ⟨a, xs, o, h1, h3, t.h a o h4, h2.imp (OutOk.step t.f (Px.refl _)) fun ⟨h2, h5, h6⟩ => ⟨t.n a o h2 h4, h5, h6.mono t.f (Px.refl _)⟩⟩⟩
theorem EOk.step (k : EOk K mg F0 H0 F H φ σ γ) (t : Stp F H F' H') : EOk K mg F0 H0 F' H' φ σ γ := ⟨t.s, k.st.trans t, k.len, fun i w e => by
  obtain ⟨v, h1, h2⟩ := k.rel i w e
  exact ⟨v, h1, h2.mono t.f (Px.refl _)⟩, k.live.step t⟩
/-- a slot gets a value -/
theorem EOk.set (k : EOk K mg F0 H0 F H φ σ γ) {v : V} {w : W} (r : Rw K mg F φ v w) (i : Nat) : EOk K mg F0 H0 F H φ (σ.set i (some v)) ⟨γ.sl.set i (some w), γ.g⟩ := ⟨k.s, k.st, by simp [k.len], fun j w' e => by
  by_cases hj : i = j
  · subst hj
    have hl : i < γ.sl.length := by
      have := (List.getElem?_eq_some_iff.mp e).1
      simpa using this
    rw [List.getElem?_set_self hl] at e
    cases e
    exact ⟨v, List.getElem?_set_self (by rw [← k.len]; exact hl), r⟩
  · rw [List.getElem?_set_ne hj] at e ⊢
    exact k.rel j w' e, k.live⟩
theorem EOk.wipe (k : EOk K mg F0 H0 F H φ σ γ) (i : Nat) (u : Option V) : EOk K mg F0 H0 F H φ (σ.set i u) ⟨γ.sl.set i none, γ.g⟩ := ⟨k.s, k.st, by simp [k.len], fun j w' e => by
  by_cases hj : i = j
  · subst hj
    rw [List.getElem?_set] at e
    split at e
    · split at e <;> cases e
    · exact absurd rfl ‹_›
  · rw [List.getElem?_set_ne hj] at e ⊢
    exact k.rel j w' e, k.live⟩
/-- a new live object -/
theorem GOk.alloc (k : GOk K mg F φ H0 H g) (t : Stp F H F' H') {p : Addr} {o : HO} {sh : GS} {ws : List W} {xs : List V} (hp : H p = none) (h0 : H0 p = none) (hf : F' p = none) (h' : H' p = some o) (so : GsOk mg p sh xs o) (r : RwA K mg F' (φ ++ [p]) xs ws) : GOk K mg F' (φ ++ [p]) H0 H' (g ++ [(sh, ws)]) where
  len := by simp [k.len]
  nd := List.nodup_append.mpr ⟨k.nd, by simp, fun a ha b hb => by
    simp at hb
    subst hb
    intro z
    subst z
    obtain ⟨_, _, _, _, _, _, _, _, _, e⟩ := k.mem ha
    rw [hp] at e
    cases e⟩
  at_ := fun n sh' ws' e => by
    by_cases hn : n < g.length
    · rw [List.getElem?_append_left hn] at e
      obtain ⟨a, xs', o', h1, h3, h4, h2⟩ := (k.step t).at_ n sh' ws' e
      exact ⟨a, xs', o', Px.app _ _ _ _ h1, h3, h4, h2.imp (OutOk.step (Same.refl _) (Px.app _ _)) fun ⟨h2, h5, h6⟩ => ⟨h2, h5, h6.mono (Same.refl _) (Px.app _ _)⟩⟩
    · have e0 := getElem?_len e
      have hn' : n = g.length := by simp at e0; omega
      subst hn'
      rw [List.getElem?_append_right (Nat.le_refl _), Nat.sub_self] at e
      cases e
      exact ⟨p, xs, o, by rw [← k.len, List.getElem?_append_right (Nat.le_refl _), Nat.sub_self]; rfl, h0, h', .inr ⟨hf, so, r⟩⟩
theorem EOk.alloc (k : EOk K mg F0 H0 F H φ σ γ) (t : Stp F H F' H') {p : Addr} {o : HO} {sh : GS} {ws : List W} {xs : List V} (hp : H p = none) (hf : F' p = none) (h' : H' p = some o) (so : GsOk mg p sh xs o) (r : RwA K mg F' (φ ++ [p]) xs ws) : EOk K mg F0 H0 F' H' (φ ++ [p]) σ ⟨γ.sl, γ.g ++ [(sh, ws)]⟩ := ⟨t.s, k.st.trans t, k.len, fun i w e => by
  obtain ⟨v, h1, h2⟩ := k.rel i w e
  exact ⟨v, h1, h2.mono t.f (Px.app _ _)⟩, k.live.alloc t hp (k.st.h.free hp) hf h' so r⟩
/-- a live object changes -/
theorem GOk.mut (k : GOk K mg F φ H0 H g) {n : Nat} {a : Addr} {o : HO} {sh : GS} {ws : List W} {xs : List V} (fa : F a = none) (hn : φ[n]? = some a) (so : GsOk mg a sh xs o) (r : RwA K mg F φ xs ws) : GOk K mg F φ H0 (upd H a o) (g.set n (sh, ws)) where
  len := by simp [k.len]
  nd := k.nd
  at_ := fun m sh' ws' e => by
    by_cases hm : n = m
    · subst hm
      have hl : n < g.length := by rw [← k.len]; exact getElem?_len hn
      rw [List.getElem?_set_self hl] at e
      cases e
      obtain ⟨a', _, _, h1, h3, _⟩ := k.at_ n g[n].1 g[n].2 (List.getElem?_eq_getElem hl)
      rw [hn] at h1
      cases h1
      exact ⟨a, xs, o, hn, h3, upd_same, .inr ⟨fa, so, r⟩⟩
    · rw [List.getElem?_set_ne hm] at e
      obtain ⟨b, xs', o', h1, h3, h4, h5⟩ := k.at_ m sh' ws' e
      have ne : b ≠ a := fun z => by
        subst z
        exact hm ((List.getElem?_inj (getElem?_len hn) k.nd).mp (hn.trans h1.symm))
      exact ⟨b, xs', o', h1, h3, by rw [upd_ne ne]; exact h4, h5⟩
theorem EOk.mut (k : EOk K mg F0 H0 F H φ σ γ) {n : Nat} {a : Addr} {o : HO} {sh : GS} {ws : List W} {xs : List V} (fa : F a = none) (hn : φ[n]? = some a) (so : GsOk mg a sh xs o) (r : RwA K mg F φ xs ws) : EOk K mg F0 H0 F (upd H a o) φ σ ⟨γ.sl, γ.g.set n (sh, ws)⟩ := by
  have hm : a ∈ φ := List.mem_iff_getElem?.mpr ⟨n, hn⟩
  obtain ⟨_, _, _, _, _, _, _, _, h0, ha⟩ := k.live.mem hm
  have sH : Same F (upd H a o) := fun b x q => by
    rw [upd_ne (ne_of_none q fa)]
    exact k.s b x q
  exact ⟨sH, ⟨k.st.f, fun b x q => by rw [upd_ne (ne_of_none q h0)]; exact k.st.h b x q, sH, k.st.n⟩, k.len, k.rel, k.live.mut fa hn so r⟩
/-- where what is live is reached -/
theorem EOk.obj (k : EOk K mg F0 H0 F H φ σ γ) {n : Nat} {a : Addr} {sh : GS} {ws : List W} (e : γ.g[n]? = some (sh, ws)) (hn : φ[n]? = some a) (hs : ∀ ks, sh ≠ .out ks := by intro _ z; cases z) : ∃ xs o, F a = none ∧ H a = some o ∧ GsOk mg a sh xs o ∧ RwA K mg F φ xs ws := by
  obtain ⟨a', xs, o, h1, h3, h4, h2⟩ := k.live.at_ n sh ws e
  rw [hn] at h1
  cases h1
  rcases h2 with ⟨ks, _, z, _⟩ | ⟨h2, h5, h6⟩
  · exact absurd z (hs ks)
  · exact ⟨xs, o, h2, h4, h5, h6⟩
/-- the state as the pure rules see it -/
def toL : Option W → Option L
  | some (.d x) => some (.dat x)
  | _ => none
def pur (sl : List (Option W)) : Ev := sl.map toL
theorem EOk.pure (k : EOk K mg F0 H0 F H φ σ γ) : Ok K mg (F, 0) H F H σ (pur γ.sl) where
  s := k.s
  st := Stp.refl k.s
  len := by simp [pur, k.len]
  rel := fun i l e => by
    unfold pur at e
    rw [List.getElem?_map] at e
    cases hq : γ.sl[i]? with
    | none =>
      rw [hq] at e
      cases e
    | some o =>
      rw [hq] at e
      match o, hq, e with
      | some (.d x), hq, e =>
        cases e
        obtain ⟨v, h1, h2⟩ := k.rel i _ hq
        cases h2 with
        | d h2 => exact ⟨v, h1, h2⟩
      | some (.rf _), hq, e => cases e
      | some (.tup _), hq, e => cases e
      | none, hq, e => cases e
  disL := fun i j l m a ne e1 h1 e2 h2 e3 => by
    unfold pur at e1
    rw [List.getElem?_map] at e1
    cases hq : γ.sl[i]? with
    | none =>
      rw [hq] at e1
      cases e1
    | some o =>
      rw [hq] at e1
      match o, hq, e1 with
      | some (.d x), hq, e1 =>
        cases e1
        cases h1
      | some (.rf _), hq, e1 => cases e1
      | some (.tup _), hq, e1 => cases e1
      | none, hq, e1 => cases e1
/-- a call comes back -/
theorem EOk.back (k : EOk K mg F0 H0 F H φ σ γ) {g' : List GO} (t : Stp F (hols φ H) F' H') (l : GOk K mg F' φ' (hols φ H) H' g') (p : Px φ φ') : EOk K mg F0 H0 F' H' φ' σ ⟨γ.sl, g'⟩ where
  s := t.s
  st := ⟨k.st.f.trans t.f, fun b o e => by
      have hb : b ∉ φ := fun z => by
        obtain ⟨_, _, _, _, _, _, _, _, h0, _⟩ := k.live.mem z
        rw [h0] at e
        cases e
      exact t.h b o (by rw [hols_out hb]; exact k.st.h b o e), t.s, fun b o e1 e2 => by
      have hb : b ∉ φ := fun z => by
        obtain ⟨_, _, _, _, _, _, _, _, h0, _⟩ := k.live.mem z
        rw [h0] at e2
        cases e2
      exact t.n b o (k.st.n b o e1 e2) (by rw [hols_out hb]; exact k.st.h b o e2)⟩
  len := k.len
  rel := fun i w e => by
    obtain ⟨v, h1, h2⟩ := k.rel i w e
    exact ⟨v, h1, h2.mono t.f p⟩
  live := ⟨l.len, l.nd, fun n sh ws e => by
    obtain ⟨a, xs, o, h1, h3, h4, h5⟩ := l.at_ n sh ws e
    refine ⟨a, xs, o, h1, ?_, h4, h5⟩
    by_cases ha : a ∈ φ
    · obtain ⟨_, _, _, _, _, _, _, _, h0, _⟩ := k.live.mem ha
      exact h0
    · rw [hols_out ha] at h3
      exact k.st.h.free h3⟩
/-- a call begins -/
theorem EOk.go (k : EOk K mg F0 H0 F H φ σ γ) : GOk K mg F φ (hols φ H) H γ.g := ⟨k.live.len, k.live.nd, fun n sh ws e => by
  obtain ⟨a, xs, o, h1, h3, h4, h5⟩ := k.live.at_ n sh ws e
  exact ⟨a, xs, o, h1, hols_in (List.mem_iff_getElem?.mpr ⟨n, h1⟩), h4, h5⟩⟩
end
end Dm


namespace Dm
open PySem PySem.Spec L2 PyProof.Rows
variable [WdI]
inductive RG (α : Type) where | ok (x : α) (g : List GO) | ex (c : Str) (fs : List (Str × D)) (g : List GO)
def gB {α β : Type} (x : Option (RG α)) (k : α → List GO → Option (RG β)) : Option (RG β) := match x with
  | some (.ok a g) => k a g
  | some (.ex c fs g) => some (.ex c fs g)
  | none => none
@[simp] theorem gB_ok {α β : Type} {a : α} {g : List GO} {k : α → List GO → Option (RG β)} : gB (some (.ok a g)) k = k a g := rfl
@[simp] theorem gB_ex {α β : Type} {c : Str} {fs : List (Str × D)} {g : List GO} {k : α → List GO → Option (RG β)} : gB (some (.ex c fs g)) k = some (.ex c fs g) := rfl
theorem gB_some {α β : Type} {x : Option (RG α)} {k : α → List GO → Option (RG β)} {y : RG β} (h : gB x k = some y) : (∃ a g, x = some (.ok a g) ∧ k a g = some y) ∨ ∃ c fs g, x = some (.ex c fs g) ∧ y = .ex c fs g := by
  cases x with
  | none => cases h
  | some r =>
    cases r with
    | ok a g => exact .inl ⟨a, g, rfl, h⟩
    | ex c fs g =>
      cases h
      exact .inr ⟨c, fs, g, rfl, rfl⟩
/-- an error that leaves -/
def ExG (K : PySem.W.Frag) (mg : Str → Option Value) (E : XK) (F0 H0 Fe : Hp) (φ0 : Ph) (c : Str) (fs : List (Str × D)) (g : List GO) : Prop :=
  ∀ (C : Addr) (dd : Option Addr) (F H : Hp) (φ : Ph), mg c = some (.ref C) → Stp F0 H0 F H → Same Fe F → GOk K mg F φ H0 H g → Px φ0 φ → ((fs = [] ∧ dd = none) ∨ ∃ a ws, dd = some a ∧ H0 a = none ∧ F a = none ∧ a ∉ φ ∧ H a = some (.xd ws) ∧ RpX K mg F ws fs) → E (.ref C) dd H
theorem ExG.px {K : PySem.W.Frag} {mg : Str → Option Value} {E : XK} {F0 H0 F F' : Hp} {φ φ' : Ph} {c : Str} {fs : List (Str × D)} {g : List GO} (h : ExG K mg E F0 H0 F φ c fs g) (s : Same F F') (p : Px φ φ') : ExG K mg E F0 H0 F' φ' c fs g := fun C dd F H ψ h1 h2 h3 h4 h5 h6 => h C dd F H ψ h1 h2 (s.trans h3) h4 (p.trans h5) h6
section
variable (K : PySem.W.Frag) (mg : Str → Option Value) (W' : WX)
def tGE (m : Gv → Option (RG W)) : TE := fun σ H Q => ∃ F0 H0 F φ γ r, EOk K mg F0 H0 F H φ σ γ ∧ m γ = some r ∧ match r with
  | .ok w g' => ∀ v F' H' φ', EOk K mg F0 H0 F' H' φ' σ ⟨γ.sl, g'⟩ → Px φ φ' → Same F F' → Rw K mg F' φ' v w → Q v H'
  | .ex c fs g' => ExG K mg (WE W' σ) F0 H0 F φ c fs g'
def tGA (m : Gv → Option (RG (List W))) : TA := fun σ H Q => ∃ F0 H0 F φ γ r, EOk K mg F0 H0 F H φ σ γ ∧ m γ = some r ∧ match r with
  | .ok ws g' => ∀ vs F' H' φ', EOk K mg F0 H0 F' H' φ' σ ⟨γ.sl, g'⟩ → Px φ φ' → Same F F' → RwA K mg F' φ' vs ws → Q vs H'
  | .ex c fs g' => ExG K mg (WE W' σ) F0 H0 F φ c fs g'
def tGT (m : Gv → Option (RG Bool)) : TT := fun σ H Q => ∃ F0 H0 F φ γ r, EOk K mg F0 H0 F H φ σ γ ∧ m γ = some r ∧ match r with
  | .ok b g' => ∀ F' H' φ', EOk K mg F0 H0 F' H' φ' σ ⟨γ.sl, g'⟩ → Px φ φ' → Same F F' → Q b H'
  | .ex c fs g' => ExG K mg (WE W' σ) F0 H0 F φ c fs g'
end
abbrev GE (X : Cx) (U : WX) (e : Expr) (m : Gv → Option (RG W)) : Prop := PE X e (tGE X.K X.mg U m)
abbrev GA (X : Cx) (U : WX) (es : List Expr) (m : Gv → Option (RG (List W))) : Prop := PA X es (tGA X.K X.mg U m)
abbrev GT (X : Cx) (U : WX) (e : Expr) (m : Gv → Option (RG Bool)) : Prop := PT X e (tGT X.K X.mg U m)
abbrev GW (X : Cx) (U : WX) (e : Expr) (m : Gv → Option (RG Bool)) : Prop := PW X e (tGT X.K X.mg U m)
/-- the errors of calls are taken -/
abbrev TkG (X : Cx) (U : WX) : Prop := ∀ σ, PassesAt (CX X.prog X.w) X σ (WE U σ)
def gOf (m : Ev → Option D) : Gv → Option (RG W) := fun γ => (m (pur γ.sl)).bind fun d => some (.ok (.d d) γ.g)
def gaOf (m : Ev → Option (List D)) : Gv → Option (RG (List W)) := fun γ => (m (pur γ.sl)).bind fun ds => some (.ok (ds.map .d) γ.g)
def gtOf (m : Ev → Option Bool) : Gv → Option (RG Bool) := fun γ => (m (pur γ.sl)).bind fun b => some (.ok b γ.g)
def gNew (m : Ev → Option (List D)) : Gv → Option (RG W) := fun γ => (m (pur γ.sl)).bind fun ds => some (.ok (.rf γ.g.length) (γ.g ++ [(.lst, ds.map .d)]))
def gV (i : Nat) : Gv → Option (RG W) := fun γ => match γ.sl[i]? with
  | some (some w) => some (.ok w γ.g)
  | _ => none
def gaN : Gv → Option (RG (List W)) := fun γ => some (.ok [] γ.g)
def gaC (a : Gv → Option (RG W)) (b : Gv → Option (RG (List W))) : Gv → Option (RG (List W)) := fun γ => gB (a γ) fun w g => gB (b ⟨γ.sl, g⟩) fun ws g2 => some (.ok (w :: ws) g2)
def g1 (f : W → List GO → Option (W × List GO)) (a : Gv → Option (RG W)) : Gv → Option (RG W) := fun γ => gB (a γ) fun w g => (f w g).bind fun z => some (.ok z.1 z.2)
def g2 (f : W → W → List GO → Option (W × List GO)) (a b : Gv → Option (RG W)) : Gv → Option (RG W) := fun γ => gB (a γ) fun w g => gB (b ⟨γ.sl, g⟩) fun u g2 => (f w u g2).bind fun z => some (.ok z.1 z.2)
def gBi (f : List W → List GO → Option (W × List GO)) (a : Gv → Option (RG (List W))) : Gv → Option (RG W) := fun γ => gB (a γ) fun ws g => (f ws g).bind fun z => some (.ok z.1 z.2)
section
variable (K : PySem.W.Frag) (mg : Str → Option Value)
/-- what an operation does to values and live objects -/
def R1W (r : V → Hp → VK → Prop) (f : W → List GO → Option (W × List GO)) : Prop := ∀ (F0 H0 F H : Hp) (φ : Ph) (σ : L2.St) (γ : Gv) (x : V) (w : W) (z : W × List GO) (Q : VK), EOk K mg F0 H0 F H φ σ γ → Rw K mg F φ x w → f w γ.g = some z → (∀ v F' H' φ', EOk K mg F0 H0 F' H' φ' σ ⟨γ.sl, z.2⟩ → Px φ φ' → Same F F' → Rw K mg F' φ' v z.1 → Q v H') → r x H Q
def R2W (r : R2) (f : W → W → List GO → Option (W × List GO)) : Prop := ∀ (F0 H0 F H : Hp) (φ : Ph) (σ : L2.St) (γ : Gv) (x y : V) (w u : W) (z : W × List GO) (Q : VK), EOk K mg F0 H0 F H φ σ γ → Rw K mg F φ x w → Rw K mg F φ y u → f w u γ.g = some z → (∀ v F' H' φ', EOk K mg F0 H0 F' H' φ' σ ⟨γ.sl, z.2⟩ → Px φ φ' → Same F F' → Rw K mg F' φ' v z.1 → Q v H') → r x y H Q
def RCW (r : List V → Hp → VK → Prop) (f : List W → List GO → Option (W × List GO)) : Prop := ∀ (F0 H0 F H : Hp) (φ : Ph) (σ : L2.St) (γ : Gv) (xs : List V) (ws : List W) (z : W × List GO) (Q : VK), EOk K mg F0 H0 F H φ σ γ → RwA K mg F φ xs ws → f ws γ.g = some z → (∀ v F' H' φ', EOk K mg F0 H0 F' H' φ' σ ⟨γ.sl, z.2⟩ → Px φ φ' → Same F F' → Rw K mg F' φ' v z.1 → Q v H') → r xs H Q
def RMW (r : V → List V → Hp → VK → Prop) (f : W → List W → List GO → Option (W × List GO)) : Prop := ∀ (F0 H0 F H : Hp) (φ : Ph) (σ : L2.St) (γ : Gv) (x : V) (xs : List V) (w : W) (ws : List W) (z : W × List GO) (Q : VK), EOk K mg F0 H0 F H φ σ γ → Rw K mg F φ x w → RwA K mg F φ xs ws → f w ws γ.g = some z → (∀ v F' H' φ', EOk K mg F0 H0 F' H' φ' σ ⟨γ.sl, z.2⟩ → Px φ φ' → Same F F' → Rw K mg F' φ' v z.1 → Q v H') → r x xs H Q
end
def l1 (f : D → Option D) : W → List GO → Option (W × List GO) := fun w g => match w with
  | .d x => (f x).bind fun z => some (.d z, g)
  | _ => none
def l2 (f : D → D → Option D) : W → W → List GO → Option (W × List GO) := fun w u g => match w, u with
  | .d x, .d y => (f x y).bind fun z => some (.d z, g)
  | _, _ => none
def lC (f : List D → Option D) : List W → List GO → Option (W × List GO) := fun ws g => (pures ws).bind fun ds => (f ds).bind fun z => some (.d z, g)
def lM (f : D → List D → Option D) : W → List W → List GO → Option (W × List GO) := fun w ws g => match w with
  | .d x => (pures ws).bind fun ds => (f x ds).bind fun z => some (.d z, g)
  | _ => none
section
variable {K : PySem.W.Frag} {mg : Str → Option Value}
theorem R1D.w {r : V → Hp → VK → Prop} {f : D → Option D} (h : R1D K mg r f) : R1W K mg r (l1 f) := fun F0 H0 F H φ σ γ x w z Q k r1 e q => by
  match w, e with
  | .d a, e =>
    obtain ⟨y, h2, e⟩ := bind_some e
    cases e
    cases r1 with
    | d r1 => exact h F H x a y Q k.s r1 h2 fun v F1 H1 t1 r => q v F1 H1 φ (k.step t1) (Px.refl _) t1.f (.d r)
theorem R2D.w {r : R2} {f : D → D → Option D} (h : R2D K mg r f) : R2W K mg r (l2 f) := fun F0 H0 F H φ σ γ x y w u z Q k r1 r2 e q => by
  match w, u, e with
  | .d a, .d b, e =>
    obtain ⟨c, h2, e⟩ := bind_some e
    cases e
    cases r1 with
    | d r1 =>
      cases r2 with
      | d r2 => exact h F H x y a b c Q k.s r1 r2 h2 fun v F1 H1 t1 r => q v F1 H1 φ (k.step t1) (Px.refl _) t1.f (.d r)
theorem RCD.w {r : List V → Hp → VK → Prop} {f : List D → Option D} (h : RCD K mg r f) : RCW K mg r (lC f) := fun F0 H0 F H φ σ γ xs ws z Q k r1 e q => by
  obtain ⟨ds, h1, e⟩ := bind_some e
  obtain ⟨c, h2, e⟩ := bind_some e
  cases e
  exact h F H xs ds c Q k.s (r1.pure h1) h2 fun v F1 H1 t1 r => q v F1 H1 φ (k.step t1) (Px.refl _) t1.f (.d r)
theorem RMD.w {r : V → List V → Hp → VK → Prop} {f : D → List D → Option D} (h : RMD K mg r f) : RMW K mg r (lM f) := fun F0 H0 F H φ σ γ x xs w ws z Q k r1 r2 e q => by
  match w, e with
  | .d a, e =>
    obtain ⟨ds, h1, e⟩ := bind_some e
    obtain ⟨c, h2, e⟩ := bind_some e
    cases e
    cases r1 with
    | d r1 => exact h F H x xs a ds c Q k.s r1 (r2.pure h1) h2 fun v F1 H1 t1 r => q v F1 H1 φ (k.step t1) (Px.refl _) t1.f (.d r)
end
def mkTup (ws : List W) : W := match pures ws with
  | some ds => .d (.tuple ds)
  | none => .tup ws
def gTup (a : Gv → Option (RG (List W))) : Gv → Option (RG W) := fun γ => gB (a γ) fun ws g => if okN ws.length = true then some (.ok (mkTup ws) g) else none
def gLst (a : Gv → Option (RG (List W))) : Gv → Option (RG W) := fun γ => gB (a γ) fun ws g => if okN ws.length = true then some (.ok (.rf g.length) (g ++ [(.lst, ws)])) else none
def gtB (a : Gv → Option (RG W)) : Gv → Option (RG Bool) := fun γ => gB (a γ) fun w g => match w with
  | .d (.bool b) => some (.ok b g)
  | _ => none
def gtV (a : Gv → Option (RG W)) : Gv → Option (RG Bool) := fun γ => gB (a γ) fun w g => match w with
  | .d x => (truD x).bind fun b => some (.ok b g)
  | .rf n => match g[n]? with
    | some (.lst, ws) => some (.ok (!ws.isEmpty) g)
    | some (.dct _, ws) => some (.ok (!ws.isEmpty) g)
    | _ => none
  | .tup ws => some (.ok (!ws.isEmpty) g)
def gtNot (t : Gv → Option (RG Bool)) : Gv → Option (RG Bool) := fun γ => gB (t γ) fun b g => some (.ok (!b) g)
def gtAnd (s t : Gv → Option (RG Bool)) : Gv → Option (RG Bool) := fun γ => gB (s γ) fun b g => if b = true then t ⟨γ.sl, g⟩ else some (.ok false g)
def gtOr (s t : Gv → Option (RG Bool)) : Gv → Option (RG Bool) := fun γ => gB (s γ) fun b g => if b = true then some (.ok true g) else t ⟨γ.sl, g⟩
/-- f(..) -/
def gCall (n : Nat) (f : List W → List GO → Option (RG W)) (a : Gv → Option (RG (List W))) : Gv → Option (RG W) := fun γ => gB (a γ) fun ws g => if ws.length = n then f ws g else none
def spG (K : PySem.W.Frag) (mg : Str → Option Value) (n : Nat) (f : List W → List GO → Option (RG W)) : Sp := fun vs H Q E => ∃ F φ ws g r, Same F H ∧ RwA K mg F φ vs ws ∧ GOk K mg F φ (hols φ H) H g ∧ ws.length = n ∧ f ws g = some r ∧ match r with
  | .ok w g' => ∀ v F' H' φ', Stp F (hols φ H) F' H' → GOk K mg F' φ' (hols φ H) H' g' → Px φ φ' → Rw K mg F' φ' v w → Q v H'
  | .ex c fs g' => ExG K mg E F (hols φ H) F φ c fs g'
section
variable {K : PySem.W.Frag} {mg : Str → Option Value} {F0 H0 F H F' H' : Hp} {φ φ' : Ph} {σ : L2.St} {γ : Gv} {g : List GO} {E : XK}
/-- an error that leaves a call leaves the caller -/
theorem ExG.back {c : Str} {fs : List (Str × D)} {g' : List GO} (k : EOk K mg F0 H0 F H φ σ γ) (h : ExG K mg E F0 H0 F φ c fs g') : ExG K mg E F (hols φ H) F φ c fs g' := fun C dd F' H' ψ h1 t hs l p h5 => by
  have kb := k.back t l p
  refine h C dd F' H' ψ h1 kb.st hs kb.live p (h5.imp id fun ⟨a, ws, e1, e2, e3, e4, e5, e6⟩ => ⟨a, ws, e1, ?_, e3, e4, e5, e6⟩)
  have ha : a ∉ φ := fun z => by
    obtain ⟨n, hn⟩ := List.mem_iff_getElem?.mp z
    exact e4 (List.mem_iff_getElem?.mpr ⟨n, p _ _ hn⟩)
  rw [hols_out ha] at e2
  exact k.st.h.free e2
end
section
variable {X : Cx} {U : WX} {pos apos : Pos} {a b c e : Expr} {es rest : List Expr} {m m' : Gv → Option (RG W)} {ms : Gv → Option (RG (List W))} {t t' : Gv → Option (RG Bool)}
theorem g_of {m : Ev → Option D} (h : DE X a m) : GE X U a (gOf m) := PE.weak h fun σ H Q ⟨F0, H0, F, φ, γ, r, k, e, q⟩ => by
  obtain ⟨d, h1, e⟩ := bind_some e
  cases e
  exact ⟨(F, 0), H, F, pur γ.sl, d, k.pure, h1, fun v F1 H1 t1 r1 => q v F1 H1 φ (k.step t1) (Px.refl _) t1.f (.d r1)⟩
theorem ga_of {m : Ev → Option (List D)} (h : DA X es m) : GA X U es (gaOf m) := PA.weak h fun σ H Q ⟨F0, H0, F, φ, γ, r, k, e, q⟩ => by
  obtain ⟨d, h1, e⟩ := bind_some e
  cases e
  exact ⟨(F, 0), H, F, pur γ.sl, d, k.pure, h1, fun v F1 H1 t1 r1 => q v F1 H1 φ (k.step t1) (Px.refl _) t1.f (RwA.of r1)⟩
theorem gt_of {m : Ev → Option Bool} (h : DT X a m) : GT X U a (gtOf m) := PT.weak h fun σ H Q ⟨F0, H0, F, φ, γ, r, k, e, q⟩ => by
  obtain ⟨d, h1, e⟩ := bind_some e
  cases e
  exact ⟨(F, 0), H, F, pur γ.sl, d, k.pure, h1, fun F1 H1 t1 => q F1 H1 φ (k.step t1) (Px.refl _) t1.f⟩
theorem EOk.newLst {K : PySem.W.Frag} {mg : Str → Option Value} {F0 H0 F H F' H' : Hp} {φ : Ph} {σ : L2.St} {γ : Gv} (k : EOk K mg F0 H0 F H φ σ γ) (t : Stp F H F' H') {p : Addr} {xs : List V} {ws : List W} (hp : H p = none) (hf : F' p = none) (h' : H' p = some (.lst xs)) (r : RwA K mg F' φ xs ws) : EOk K mg F0 H0 F' H' (φ ++ [p]) σ ⟨γ.sl, γ.g ++ [(.lst, ws)]⟩ ∧ Rw K mg F' (φ ++ [p]) (.ref p) (.rf γ.g.length) :=
  ⟨k.alloc t hp hf h' rfl (r.mono (Same.refl _) (Px.app _ _)), .rf (by rw [← k.live.len, List.getElem?_append_right (Nat.le_refl _), Nat.sub_self]; rfl)⟩
/-- a new list of data is live -/
theorem g_new {m : Ev → Option (List D)} (h : DF X a m) : GE X U a (gNew m) := PE.weak h fun σ H Q ⟨F0, H0, F, φ, γ, r, k, e, q⟩ => by
  obtain ⟨ds, h1, e⟩ := bind_some e
  cases e
  refine ⟨(F, 0), H, F, pur γ.sl, ds, k.pure, h1, fun p xs F1 H1 t1 hp hf h' r1 => ?_⟩
  obtain ⟨k1, r2⟩ := k.newLst t1 hp hf h' (RwA.of r1)
  exact q _ F1 H1 _ k1 (Px.app _ _) t1.f r2
theorem g_var (i : Nat) {x : Str} (hN : X.N[i]? = some x := by rfl) (hv : Vis X.env.scope x := by first | exact Or.inl rfl | exact Or.inr (Or.inl rfl) | exact Or.inr (Or.inr rfl)) (hd : (x == ("__debug__" : Str)) = false := by decide)
    (hcd : (x == ("__classdict__" : Str)) = false := by decide) : GE X U (.Name x pos) (gV i) := PE.weak (pe_var hN hv hd hcd) fun σ H Q ⟨F0, H0, F, φ, γ, r, k, e, q⟩ => by
  unfold gV at e
  split at e
  · rename_i w hw
    cases e
    obtain ⟨v, h1, h2⟩ := k.rel i w hw
    exact ⟨v, h1, q v F H φ k (Px.refl _) (Same.refl _) h2⟩
  · cases e
theorem ga_nil : GA X U [] gaN := PA.weak pa_nil fun σ H Q ⟨F0, H0, F, φ, γ, r, k, e, q⟩ => by
  cases e
  exact q [] F H φ k (Px.refl _) (Same.refl _) .nil
theorem ga_cons (ha : GE X U a m) (hr : GA X U es ms) (hs : starEach (a :: es) X.env = (false, eval a X.env) :: starEach es X.env := by rfl) : GA X U (a :: es) (gaC m ms) := PA.weak (pa_cons ha hr hs) fun σ H Q ⟨F0, H0, F, φ, γ, r, k, e, q⟩ => by
  rcases gB_some e with ⟨w, g, h1, e⟩ | ⟨c, fs, g, h1, rfl⟩
  · refine ⟨F0, H0, F, φ, γ, _, k, h1, fun v F1 H1 φ1 k1 p1 s1 r1 => ?_⟩
    rcases gB_some e with ⟨ws, g2, h2, e⟩ | ⟨c, fs, g2, h2, rfl⟩
    · cases e
      exact ⟨F0, H0, F1, φ1, _, _, k1, h2, fun vs F2 H2 φ2 k2 p2 s2 r2 => q (v :: vs) F2 H2 φ2 k2 (p1.trans p2) (s1.trans s2) (.cons (r1.mono s2 p2) r2)⟩
    · exact ⟨F0, H0, F1, φ1, _, _, k1, h2, ExG.px q s1 p1⟩
  · exact ⟨F0, H0, F, φ, γ, _, k, h1, q⟩
theorem two_of {K : PySem.W.Frag} {mg : Str → Option Value} {r : R2} {f : W → W → List GO → Option (W × List GO)} (h : R2W K mg r f) {ta tb : TE} (hta : ∀ σ H Q, tGE K mg U m σ H Q → ta σ H Q) (htb : ∀ σ H Q, tGE K mg U m' σ H Q → tb σ H Q) :
    ∀ σ H Q, tGE K mg U (g2 f m m') σ H Q → ta σ H fun x H1 => tb σ H1 fun y H2 => r x y H2 Q := fun σ H Q ⟨F0, H0, F, φ, γ, r, k, e, q⟩ => by
  rcases gB_some e with ⟨w, g, h1, e⟩ | ⟨c, fs, g, h1, rfl⟩
  · refine hta σ H _ ⟨F0, H0, F, φ, γ, _, k, h1, fun v F1 H1 φ1 k1 p1 s1 r1 => htb σ H1 _ ?_⟩
    rcases gB_some e with ⟨u, g2, h2, e⟩ | ⟨c, fs, g2, h2, rfl⟩
    · obtain ⟨z, h3, e⟩ := bind_some e
      cases e
      exact ⟨F0, H0, F1, φ1, _, _, k1, h2, fun v2 F2 H2 φ2 k2 p2 s2 r2 => h F0 H0 F2 H2 φ2 σ ⟨γ.sl, g2⟩ v v2 w u z Q k2 (r1.mono s2 p2) r2 h3 fun v3 F3 H3 φ3 k3 p3 s3 r3 => q v3 F3 H3 φ3 k3 ((p1.trans p2).trans p3) ((s1.trans s2).trans s3) r3⟩
    · exact ⟨F0, H0, F1, φ1, _, _, k1, h2, ExG.px q s1 p1⟩
  · exact hta σ H _ ⟨F0, H0, F, φ, γ, _, k, h1, q⟩
theorem g_op {op : Operator} {r : R2} {f : W → W → List GO → Option (W × List GO)} (ho : OpR X (binaryOp op) r) (h : R2W X.K X.mg r f) (ha : GE X U a m) (hb : GE X U b m') : GE X U (.BinOp a op b pos) (g2 f m m') := PE.weak (pe_op ho ha hb) (two_of h (fun _ _ _ z => z) (fun _ _ _ z => z))
theorem RwA.mk {K : PySem.W.Frag} {mg : Str → Option Value} {F : Hp} {φ : Ph} {a : Addr} {xs : List V} {ws : List W} (h : SqT K F a xs) (r : RwA K mg F φ xs ws) : Rw K mg F φ (.ref a) (mkTup ws) := by
  unfold mkTup
  split
  · rename_i ds hd
    exact .d (.tup h (r.pure hd))
  · exact .tup h r
theorem g_call {k n : Nat} {f : Addr} {fd : FuncData} {ps : List Str} {fn : List W → List GO → Option (RG W)} {x : Str} {p : Pos} {j : Nat} (tk : TkG X U) (G : FnOk X.prog X.w X.K X.mg X.base (CX X.prog X.w) k f fd ps (spG X.K X.mg n fn)) (hr : Room j X.A) (hj : k ≤ j) (hm : X.mg x = some (.ref f)) (hk : PySem.W.keepIn X.K (.ref f) = true) (hb : Binds X.K fd ps [])
    (ha : GA X U (e :: es) ms) (hg : Gl X x := by rfl) (hdb : (x == ("__debug__" : Str)) = false := by decide) (he : starEach (e :: es) X.env = (false, eval e X.env) :: starEach es X.env := by rfl) (hpl : (backTo pos (starEach es X.env)).any (·.1) = false := by rfl) :
    GE X U (.Call (.Name x p) (e :: es) [] pos) (gCall n fn ms) := PE.weak (pe_callS G (hr.mono hj) hg hm hk hb tk ha hdb he hpl) fun σ H Q ⟨F0, H0, F, φ, γ, r, k, e, q⟩ => by
  rcases gB_some e with ⟨ws, g, h1, e⟩ | ⟨c, fs, g, h1, rfl⟩
  · split at e
    · rename_i hl
      refine ⟨F0, H0, F, φ, γ, _, k, h1, fun vs F1 H1 φ1 k1 p1 s1 r1 => ?_⟩
      refine ⟨F1, φ1, ws, g, r, k1.s, r1, k1.go, hl, e, ?_⟩
      cases r with
      | ok w g' => exact fun v F2 H2 φ2 t2 l2 p2 r2 => q v F2 H2 φ2 (k1.back t2 l2 p2) (p1.trans p2) (s1.trans t2.f) r2
      | ex c fs g' => exact (ExG.px q s1 p1).back k1
    · cases e
  · exact ⟨F0, H0, F, φ, γ, _, k, h1, q⟩
end
end Dm


namespace Dm
open PySem PySem.Spec L2 PyProof.Rows
variable [WdI]
def thw : W → List GO → Option D
  | .d x, _ => some x
  | .rf n, g => match g[n]? with
    | some (.lst, ws) => (pures ws).bind fun ds => some (.list ds)
    | some (.dct ks, ws) => (pures ws).bind fun ds => if ks.length = ds.length then some (.dict (zipK ks ds)) else none
    | _ => none
  | .tup _, _ => none
def thws : List W → List GO → Option (List D)
  | [], _ => some []
  | w :: r, g => (thw w g).bind fun x => (thws r g).bind fun xs => some (x :: xs)
def scl : D → Bool
  | .none => true
  | .bool _ => true
  | .int _ => true
  | .str _ => true
  | _ => false
section
variable {K : PySem.W.Frag} {mg : Str → Option Value} {F0 H0 F H F' H' : Hp} {φ φ' : Ph} {σ : L2.St} {γ : Gv} {g : List GO}
def unfz (φ : Ph) (F0 F : Hp) : Hp := fun a => if a ∈ φ ∧ (F0 a).isNone = true then none else F a
def allF (φ : Ph) (F H : Hp) : Hp := fun a => if a ∈ φ then H a else F a
theorem EOk.fall (k : EOk K mg F0 H0 F H φ σ γ) : Same F (allF φ F H) := fun b o e => by
  unfold allF
  split
  · exact k.s b o e
  · exact e
theorem EOk.allh (k : EOk K mg F0 H0 F H φ σ γ) : Same (allF φ F H) H := fun b o e => by
  unfold allF at e
  split at e
  · exact e
  · exact k.s b o e
theorem EOk.unstep (k : EOk K mg F0 H0 F H φ σ γ) (t : Stp (allF φ F H) H F' H') : Stp F H (unfz φ F F') H' := ⟨fun b o e => by
    unfold unfz
    rw [if_neg (fun z => by rw [e] at z; exact absurd z.2 (by simp))]
    exact t.f b o (k.fall b o e), t.h, fun b o e => by
    unfold unfz at e
    split at e
    · cases e
    · exact t.s b o e, fun b o e1 e2 => by
    unfold unfz
    split
    · rfl
    · rename_i hb
      have hb' : b ∉ φ := fun z => hb ⟨z, by rw [e1]; rfl⟩
      exact t.n b o (by unfold allF; rw [if_neg hb']; exact e1) e2⟩
theorem EOk.allx (k : EOk K mg F0 H0 F H φ σ γ) {a : Addr} (h : a ∈ φ) : allF φ F H a = H a := if_pos h
theorem rp_dctZ {a : Addr} {ks : List Key} {xs : List V} {ds : List D} (h : F a = some (.dK (ks.zip xs))) (r : RpA K mg F xs ds) (hl : ks.length = ds.length) : Rp K mg F (.ref a) (.dict (zipK ks ds)) := by
  cases ks with
  | nil =>
    cases ds with
    | nil => exact .emp (by simpa using h)
    | cons _ _ => cases hl
  | cons k0 ks =>
    cases ds with
    | nil => cases hl
    | cons d0 ds => exact .dct h r (by simpa using hl)
theorem EOk.thaw (k : EOk K mg F0 H0 F H φ σ γ) {v : V} {w : W} {x : D} (r : Rw K mg F φ v w) (e : thw w γ.g = some x) : Rp K mg (allF φ F H) v x := by
  cases r with
  | d r =>
    cases e
    exact r.mono k.fall
  | @rf a n hn =>
    have hm : a ∈ φ := List.mem_iff_getElem?.mpr ⟨n, hn⟩
    simp only [thw] at e
    split at e
    · rename_i ws hw
      obtain ⟨ds, h1, e⟩ := bind_some e
      cases e
      obtain ⟨xs, o, _, h2, rfl, h3⟩ := k.obj hw hn
      exact .lst (.inl (.inl (by rw [k.allx hm]; exact h2))) ((h3.pure h1).mono k.fall)
    · rename_i ks ws hw
      obtain ⟨ds, h1, e⟩ := bind_some e
      split at e
      · rename_i hl
        cases e
        obtain ⟨xs, o, _, h2, ⟨_, rfl⟩, h3⟩ := k.obj hw hn
        exact rp_dctZ (by rw [k.allx hm]; exact h2) ((h3.pure h1).mono k.fall) hl
      · cases e
    · cases e
  | tup _ _ => cases e
theorem EOk.thaws (k : EOk K mg F0 H0 F H φ σ γ) : ∀ {vs : List V} {ws : List W} {xs : List D}, RwA K mg F φ vs ws → thws ws γ.g = some xs → RpA K mg (allF φ F H) vs xs
  | _, _, _, .nil, e => by
    cases e
    exact .nil
  | _, _, _, .cons r t, e => by
    obtain ⟨x, h1, e⟩ := bind_some e
    obtain ⟨xs', h2, e⟩ := bind_some e
    cases e
    exact .cons (k.thaw r h1) (EOk.thaws k t h2)
theorem scl_rp {v : V} {d : D} (r : Rp K mg F v d) (h : scl d = true) : Rp K mg F' v d := by
  cases r with
  | non => exact .non
  | bl => exact .bl _
  | int => exact .int _
  | str => exact .str _
  | _ => cases h
end
section
variable {X : Cx} {U : WX} {pos apos : Pos} {a b c e o : Expr} {es rest : List Expr} {m m' mo : Gv → Option (RG W)} {ms : Gv → Option (RG (List W))} {t t' : Gv → Option (RG Bool)}
end
def s1 (f : D → Option D) : W → List GO → Option (W × List GO) := fun w g => (thw w g).bind fun x => (f x).bind fun z => if scl z = true then some (.d z, g) else none
def s2 (f : D → D → Option D) : W → W → List GO → Option (W × List GO) := fun w u g => (thw w g).bind fun x => (thw u g).bind fun y => (f x y).bind fun z => if scl z = true then some (.d z, g) else none
def sC (f : List D → Option D) : List W → List GO → Option (W × List GO) := fun ws g => (thws ws g).bind fun xs => (f xs).bind fun z => if scl z = true then some (.d z, g) else none
def sM (f : D → List D → Option D) : W → List W → List GO → Option (W × List GO) := fun w ws g => (thw w g).bind fun x => (thws ws g).bind fun xs => (f x xs).bind fun z => if scl z = true then some (.d z, g) else none
section
variable {K : PySem.W.Frag} {mg : Str → Option Value}
theorem R1D.s {r : V → Hp → VK → Prop} {f : D → Option D} (h : R1D K mg r f) : R1W K mg r (s1 f) := fun F0 H0 F H φ σ γ x w z Q k r1 e q => by
  obtain ⟨a, h1, e⟩ := bind_some e
  obtain ⟨c, h3, e⟩ := bind_some e
  split at e
  · rename_i hs
    cases e
    exact h _ H x a c Q k.allh (k.thaw r1 h1) h3 fun v F1 H1 t1 r => q v _ H1 φ (k.step (k.unstep t1)) (Px.refl _) (k.unstep t1).f (.d (scl_rp r hs))
  · cases e
theorem R2D.s {r : R2} {f : D → D → Option D} (h : R2D K mg r f) : R2W K mg r (s2 f) := fun F0 H0 F H φ σ γ x y w u z Q k r1 r2 e q => by
  obtain ⟨a, h1, e⟩ := bind_some e
  obtain ⟨b, h2, e⟩ := bind_some e
  obtain ⟨c, h3, e⟩ := bind_some e
  split at e
  · rename_i hs
    cases e
    exact h _ H x y a b c Q k.allh (k.thaw r1 h1) (k.thaw r2 h2) h3 fun v F1 H1 t1 r => q v _ H1 φ (k.step (k.unstep t1)) (Px.refl _) (k.unstep t1).f (.d (scl_rp r hs))
  · cases e
theorem RCD.s {r : List V → Hp → VK → Prop} {f : List D → Option D} (h : RCD K mg r f) : RCW K mg r (sC f) := fun F0 H0 F H φ σ γ xs ws z Q k r1 e q => by
  obtain ⟨ds, h1, e⟩ := bind_some e
  obtain ⟨c, h3, e⟩ := bind_some e
  split at e
  · rename_i hs
    cases e
    exact h _ H xs ds c Q k.allh (k.thaws r1 h1) h3 fun v F1 H1 t1 r => q v _ H1 φ (k.step (k.unstep t1)) (Px.refl _) (k.unstep t1).f (.d (scl_rp r hs))
  · cases e
theorem RMD.s {r : V → List V → Hp → VK → Prop} {f : D → List D → Option D} (h : RMD K mg r f) : RMW K mg r (sM f) := fun F0 H0 F H φ σ γ x xs w ws z Q k r1 r2 e q => by
  obtain ⟨a, h1, e⟩ := bind_some e
  obtain ⟨ds, h2, e⟩ := bind_some e
  obtain ⟨c, h3, e⟩ := bind_some e
  split at e
  · rename_i hs
    cases e
    exact h _ H x xs a ds c Q k.allh (k.thaw r1 h1) (k.thaws r2 h2) h3 fun v F1 H1 t1 r => q v _ H1 φ (k.step (k.unstep t1)) (Px.refl _) (k.unstep t1).f (.d (scl_rp r hs))
  · cases e
theorem RwA.at {F : Hp} {φ : Ph} {xs : List V} {ws : List W} (h : RwA K mg F φ xs ws) {i : Int} {w : W} (e : atI ws i = some w) : ∃ v, atI xs i = some v ∧ Rw K mg F φ v w := by
  unfold atI at e ⊢
  rw [h.length]
  obtain ⟨j, h1, h2⟩ := bind_some e
  rw [h1]
  exact h.get h2
/-- the items of a list or a tuple -/
def itemsW : W → List GO → Option (List W)
  | .rf n, g => match g[n]? with
    | some (.lst, ws) => some ws
    | _ => none
  | .tup ws, _ => some ws
  | .d (.list ds), _ => some (ds.map .d)
  | .d (.tuple ds), _ => some (ds.map .d)
  | _, _ => none
theorem EOk.items {F0 H0 F H : Hp} {φ : Ph} {σ : L2.St} {γ : Gv} (k : EOk K mg F0 H0 F H φ σ γ) {v : V} {w : W} {ws : List W} (r : Rw K mg F φ v w) (e : itemsW w γ.g = some ws) : ∃ a xs, v = .ref a ∧ (SqL K H a xs ∨ SqT K H a xs) ∧ RwA K mg F φ xs ws := by
  cases r with
  | d r =>
    match r, e with
    | .lst hs ra, e =>
      cases e
      exact ⟨_, _, rfl, .inl (sqL_mono k.s hs), RwA.of ra⟩
    | .tup hs ra, e =>
      cases e
      exact ⟨_, _, rfl, .inr (sqT_mono k.s hs), RwA.of ra⟩
  | @rf a n hn =>
    simp only [itemsW] at e
    split at e
    · rename_i us hw
      cases e
      obtain ⟨xs, o, _, h2, rfl, h3⟩ := k.obj hw hn
      exact ⟨a, xs, rfl, .inl (.inl (.inl h2)), h3⟩
    · cases e
  | tup hs ra =>
    cases e
    exact ⟨_, _, rfl, .inr (sqT_mono k.s hs), ra⟩
end
end Dm


namespace Dm
open PySem PySem.Spec L2 PyProof.Rows
variable [WdI]
def lookW (f : Str) : List Str → List W → Option W
  | g :: fs, w :: ws => if f = g then some w else lookW f fs ws
  | _, _ => none
/-- what the written part says of the classes that have an attribute -/
def FlC (K : PySem.W.Frag) (mg : Str → Option Value) (f : Str) (cs : List Str) : Prop := ∀ c ∈ cs, ∃ C, mg c = some (.ref C) ∧ Cls K C ∧ NoAttr K C f
theorem FlC.nil {K : PySem.W.Frag} {mg : Str → Option Value} {f : Str} : FlC K mg f [] := fun c h => nomatch h
theorem FlC.cons {K : PySem.W.Frag} {mg : Str → Option Value} {f c : Str} {cs fl : List Str} (T : ClsF K mg c fl) (hf : f ∈ fl) (h : FlC K mg f cs) : FlC K mg f (c :: cs) := fun c' h' => by
  rcases List.mem_cons.mp h' with e | e
  · subst e
    obtain ⟨C, h1, h2, h3⟩ := T.ex
    exact ⟨C, h1, h2, h3 f hf⟩
  · exact h c' e
section
variable {K : PySem.W.Frag} {mg : Str → Option Value} {F0 H0 F H : Hp} {φ : Ph} {σ : L2.St} {γ : Gv}
end
def gFld (f : Str) (cs : List Str) (a : Gv → Option (RG W)) : Gv → Option (RG W) := fun γ => gB (a γ) fun w g => match w with
  | .rf n => match g[n]? with
    | some (.ins c fs, ws) => if c ∈ cs then (lookW f fs ws).bind fun x => some (.ok x g) else none
    | _ => none
  | _ => none
section
variable {X : Cx} {U : WX} {pos apos : Pos} {a b c e o : Expr} {es rest : List Expr} {m m' mo : Gv → Option (RG W)} {ms : Gv → Option (RG (List W))} {t t' : Gv → Option (RG Bool)}
theorem EOk.tru {K : PySem.W.Frag} {mg : Str → Option Value} {F0 H0 F H : Hp} {φ : Ph} {σ : L2.St} {γ : Gv} (k : EOk K mg F0 H0 F H φ σ γ) {v : V} {w : W} {b : Bool} (r : Rw K mg F φ v w) (h : (match w with
    | .d x => truD x
    | .rf n => match γ.g[n]? with
      | some (.lst, ws) => some (!ws.isEmpty)
      | some (.dct _, ws) => some (!ws.isEmpty)
      | _ => none
    | .tup ws => some (!ws.isEmpty)) = some b) : TruV K v H b := by
  have em : ∀ {xs : List V} {ws : List W}, RwA K mg F φ xs ws → (!ws.isEmpty) = (!xs.isEmpty) := fun r => by
    cases r <;> rfl
  cases r with
  | d r => exact r.tru k.s h
  | @rf a n hn =>
    simp only at h
    split at h
    · rename_i ws hw
      cases h
      obtain ⟨xs, o, _, h2, rfl, h3⟩ := k.obj hw hn
      exact .inl ⟨xs, .inl (.inl h2), em h3⟩
    · rename_i ks ws hw
      cases h
      obtain ⟨xs, o, _, h2, ⟨hl, rfl⟩, h3⟩ := k.obj hw hn
      refine .inr (.inr ⟨_, h2, ?_⟩)
      rw [em h3]
      cases ks <;> cases xs <;> first | rfl | cases hl
    · cases h
  | tup hs ra =>
    cases h
    exact .inr (.inl ⟨_, sqT_mono k.s hs, em ra⟩)
def gMeth (c m : Str) (n : Nat) (fn : List W → List GO → Option (RG W)) (a : Gv → Option (RG W)) (b : Gv → Option (RG (List W))) : Gv → Option (RG W) := fun γ => gB (a γ) fun w g => match w with
  | .rf i => match g[i]? with
    | some (.ins c' fs, _) => if c' = c ∧ m ∉ fs then gB (b ⟨γ.sl, g⟩) fun us g2 => if us.length + 1 = n then fn (w :: us) g2 else none else none
    | _ => none
  | _ => none
end
end Dm


namespace L2
open PySem PySem.Spec PyProof.Rows
section
variable {X : Cx} {CX : CXT} {k : Nat} {f C : Addr} {fd : FuncData} {ps : List Str} {sp : Sp} {E : L2.St → XK} {x m : Str} {p pos apos : Pos} {e o : Expr} {es : List Expr} {ta : TE} {t : TA}
end
end L2
namespace Dm
open PySem PySem.Spec L2 PyProof.Rows
variable [WdI]
def gMake (c : Str) (n : Nat) (fn : List W → List GO → Option (RG W)) (a : Gv → Option (RG (List W))) : Gv → Option (RG W) := fun γ => gB (a γ) fun us g => if us.length + 1 = n then gB (fn (.rf g.length :: us) (g ++ [(.ins c [], [])])) fun w g2 => match w with
  | .d .none => some (.ok (.rf g.length) g2)
  | _ => none
  else none
structure MkG (P : Program) (w : World) (K : PySem.W.Frag) (mg : Str → Option Value) (base : Heap) (k n : Nat) (c : Str) (ps : List Str) (fn : List W → List GO → Option (RG W)) : Prop where
  ex : ∃ (C f : Addr) (fd : FuncData), mg c = some (.ref C) ∧ Mk K C f ∧ FnOk P w K mg base (CX P w) k f fd ps (spG K mg n fn) ∧ Binds K fd ps []
section
variable {X : Cx} {U : WX} {pos apos p : Pos} {a b c e o : Expr} {es rest : List Expr} {m m' mo : Gv → Option (RG W)} {ms : Gv → Option (RG (List W))} {t t' : Gv → Option (RG Bool)}
def TyW (K : PySem.W.Frag) (mg : Str → Option Value) (T : String) (ty : W → List GO → Bool) : Prop := ∀ (F0 H0 F H : Hp) (φ : Ph) (σ : L2.St) (γ : Gv) (v : V) (w : W), EOk K mg F0 H0 F H φ σ γ → Rw K mg F φ v w → ty w γ.g = true → tyV K T v H
def isLw : W → List GO → Bool
  | .rf n, g => match g[n]? with
    | some (.lst, _) => true
    | _ => false
  | .d (.list _), _ => true
  | _, _ => false
theorem ty_list {K : PySem.W.Frag} {mg : Str → Option Value} : TyW K mg "list" isLw := fun F0 H0 F H φ σ γ v w k r h => by
  cases r with
  | d r =>
    cases r with
    | lst hs ra => exact .inl ⟨rfl, _, sqL_mono k.s hs⟩
    | _ => cases h
  | @rf a n hn =>
    simp only [isLw] at h
    split at h
    · rename_i ws hw
      obtain ⟨xs, o, _, h2, rfl, h3⟩ := k.obj hw hn
      exact .inl ⟨rfl, xs, .inl (.inl h2)⟩
    · cases h
  | tup _ _ => cases h
def gBm (ty : W → List GO → Bool) (f : W → List W → List GO → Option (W × List GO)) (a : Gv → Option (RG W)) (b : Gv → Option (RG (List W))) : Gv → Option (RG W) := fun γ => gB (a γ) fun w g => if ty w g = true then gB (b ⟨γ.sl, g⟩) fun us g2 => (f w us g2).bind fun z => some (.ok z.1 z.2) else none
theorem g_bm {T : String} {name : Str} {id : String} {r : V → List V → Hp → VK → Prop} {ty : W → List GO → Bool} {f : W → List W → List GO → Option (W × List GO)} {cpos : Pos} (hty0 : TyW X.K X.mg T ty) (h : RMW X.K X.mg r f) (pa : PlainAttrs T) (slot : Slot T name id) (hty : typeOf (.builtin id) = pure (.type "method_descriptor")) (hm : MtR X id r) (ho : GE X U o mo) (ha : GA X U (e :: es) ms)
    (hbase : attributeBase o name X.env (eval o X.env) = eval o X.env := by rfl)
    (hfew : ((backTo cpos (starEach (e :: es) X.env)).all (fun x => !x.1) && (backToKw cpos (keywordEach [] X.env)).all (fun x => x.1.isSome)
      && decide ((e :: es).length + ([] : List Keyword).length + (if ([] : List Keyword).isEmpty then 0 else 1) < 30)) = true := by rfl)
    (hline : (apos.endLine == cpos.line) = true := by rfl) (hs : starEach (e :: es) X.env = (false, eval e X.env) :: starEach es X.env := by rfl) (hplain : (backTo cpos (starEach es X.env)).any (·.1) = false := by rfl) :
    GE X U (.Call (.Attribute o name apos) (e :: es) [] cpos) (gBm ty f mo ms) := PE.weak (pe_bm pa slot hty hm ho ha hbase hfew hline hs hplain) fun σ H Q ⟨F0, H0, F, φ, γ, r, k, e, q⟩ => by
  rcases gB_some e with ⟨w, g, h1, e⟩ | ⟨c, fs, g, h1, rfl⟩
  · split at e
    · rename_i ht
      refine ⟨F0, H0, F, φ, γ, _, k, h1, fun v F1 H1 φ1 k1 p1 s1 r1 => ⟨hty0 _ _ _ _ _ _ _ _ _ k1 r1 ht, ?_⟩⟩
      rcases gB_some e with ⟨us, g2, h2, e⟩ | ⟨c, fs, g2, h2, rfl⟩
      · obtain ⟨z, h3, e⟩ := bind_some e
        cases e
        exact ⟨F0, H0, F1, φ1, _, _, k1, h2, fun vs F2 H2 φ2 k2 p2 s2 r2 => h F0 H0 F2 H2 φ2 σ ⟨γ.sl, g2⟩ v vs w us z Q k2 (r1.mono s2 p2) r2 h3 fun v3 F3 H3 φ3 k3 p3 s3 r3 => q v3 F3 H3 φ3 k3 ((p1.trans p2).trans p3) ((s1.trans s2).trans s3) r3⟩
      · exact ⟨F0, H0, F1, φ1, _, _, k1, h2, ExG.px q s1 p1⟩
    · cases e
  · exact ⟨F0, H0, F, φ, γ, _, k, h1, q⟩
end
def appW : W → List W → List GO → Option (W × List GO) := fun w us g => match w, us with
  | .rf n, [u] => match g[n]? with
    | some (.lst, ws) => if okN ws.length = true then some (.d .none, g.set n (.lst, ws ++ [u])) else none
    | _ => none
  | _, _ => none
def extW : W → List W → List GO → Option (W × List GO) := fun w us g => match w, us with
  | .rf n, [u] => match g[n]? with
    | some (.lst, ws) => if isLw u g = true then (itemsW u g).bind fun zs => if okN (ws.length + zs.length) = true then some (.d .none, g.set n (.lst, ws ++ zs)) else none else none
    | _ => none
  | _, _ => none
section
variable {K : PySem.W.Frag} {mg : Str → Option Value} {F : Hp} {φ : Ph}
theorem RwA.dropLast : ∀ {xs : List V} {ws : List W}, RwA K mg F φ xs ws → RwA K mg F φ xs.dropLast ws.dropLast
  | _, _, .nil => .nil
  | _, _, .cons h .nil => .nil
  | _, _, .cons h (.cons h2 t) => .cons h (RwA.dropLast (.cons h2 t))
theorem _root_.Dm.EOk.itemsL {F0 H0 F H : Hp} {φ : Ph} {σ : L2.St} {γ : Gv} (k : EOk K mg F0 H0 F H φ σ γ) {v : V} {w : W} {ws : List W} (r : Rw K mg F φ v w) (hl : isLw w γ.g = true) (e : itemsW w γ.g = some ws) : ∃ a xs, v = .ref a ∧ SqL K H a xs ∧ RwA K mg F φ xs ws := by
  cases r with
  | d r =>
    cases r with
    | lst hs ra =>
      cases e
      exact ⟨_, _, rfl, sqL_mono k.s hs, RwA.of ra⟩
    | _ => cases hl
  | @rf a n hn =>
    simp only [itemsW] at e
    split at e
    · rename_i us hw
      cases e
      obtain ⟨xs, o, _, h2, rfl, h3⟩ := k.obj hw hn
      exact ⟨a, xs, rfl, .inl (.inl h2), h3⟩
    · cases e
  | tup _ _ => cases hl
theorem rm_append : RMW K mg rAppend appW := fun F0 H0 F H φ σ γ x xs w ws z Q k r1 r2 e q => by
  match w, ws, e with
  | .rf n, [u], e =>
    simp only [appW] at e
    split at e
    · rename_i us hw
      split at e
      · rename_i hl
        cases e
        cases r1 with
        | @rf a _ hn =>
          cases r2 with
          | cons r2 r0 =>
            cases r0
            obtain ⟨ys, o, fa, h2, rfl, h3⟩ := k.obj hw hn
            refine ⟨a, ys, _, rfl, rfl, h2, Nat.lt_of_le_of_lt (by rw [h3.length]; exact okN_le hl) (by decide), ?_⟩
            exact q .non F _ φ (k.mut fa hn rfl (h3.append (.cons r2 .nil))) (Px.refl _) (Same.refl _) (.d .non)
      · cases e
    · cases e
theorem rm_extend : RMW K mg (rExtendA K) extW := fun F0 H0 F H φ σ γ x xs w ws z Q k r1 r2 e q => by
  match w, ws, e with
  | .rf n, [u], e =>
    simp only [extW] at e
    split at e
    · rename_i us hw
      split at e
      · rename_i hlw
        obtain ⟨zs, h1, e⟩ := bind_some e
        split at e
        · rename_i hl
          cases e
          cases r1 with
          | @rf a _ hn =>
            cases r2 with
            | cons r2 r0 =>
              cases r0
              obtain ⟨ys, o, fa, h2, rfl, h3⟩ := k.obj hw hn
              obtain ⟨b, vs, rfl, h4', h5⟩ := k.itemsL r2 hlw h1
              refine ⟨a, b, ys, vs, rfl, rfl, h2, h4', Nat.le_trans (by rw [h3.length, h5.length]; exact okN_le hl) (by decide), ?_⟩
              exact q .non F _ φ (k.mut fa hn rfl (h3.append h5)) (Px.refl _) (Same.refl _) (.d .non)
        · cases e
      · cases e
    · cases e
end
end Dm


namespace Dm
open PySem PySem.Spec L2 PyProof.Rows
variable [WdI]
def valW : List Key → List W → Key → Option W
  | q :: ks, w :: ws, k => if q = k then some w else valW ks ws k
  | _, _, _ => none
def keysZ : List (D × D) → Option (List Key × List D)
  | [] => some ([], [])
  | (q, d) :: r => (dKey q).bind fun k => (keysZ r).bind fun p => some (k :: p.1, d :: p.2)
theorem keysZ_zip : ∀ {ks : List Key} {ds : List D}, ks.length = ds.length → keysZ (zipK ks ds) = some (ks, ds)
  | [], [], _ => rfl
  | [], _ :: _, h => by cases h
  | _ :: _, [], h => by cases h
  | k :: ks, d :: ds, h => by
    simp only [zipK, keysZ, dKey_kD, Option.bind_some, keysZ_zip (ks := ks) (ds := ds) (by simpa using h)]
/-- keys and worths of a dict -/
def dictW : W → List GO → Option (List Key × List W)
  | .rf n, g => match g[n]? with
    | some (.dct ks, ws) => some (ks, ws)
    | _ => none
  | .d x, _ => (dctOf x).bind fun kvs => (keysZ kvs).bind fun p => some (p.1, p.2.map .d)
  | .tup _, _ => none
section
variable {K : PySem.W.Frag} {mg : Str → Option Value}
theorem EOk.dict {F0 H0 F H : Hp} {φ : Ph} {σ : L2.St} {γ : Gv} (k : EOk K mg F0 H0 F H φ σ γ) {v : V} {w : W} {p : List Key × List W} (r : Rw K mg F φ v w) (e : dictW w γ.g = some p) : ∃ a xs, v = .ref a ∧ H a = some (.dK (p.1.zip xs)) ∧ p.1.length = xs.length ∧ RwA K mg F φ xs p.2 := by
  cases r with
  | d r =>
    obtain ⟨kvs, h1, e⟩ := bind_some e
    obtain ⟨q, h2, e⟩ := bind_some e
    cases e
    obtain ⟨a, ks, xs, ds, rfl, hF, ra, hl, rfl⟩ := rp_dct r h1
    rw [keysZ_zip hl] at h2
    cases h2
    exact ⟨a, xs, rfl, k.s a _ hF, by rw [hl, ra.length], RwA.of ra⟩
  | @rf a n hn =>
    simp only [dictW] at e
    split at e
    · rename_i ks ws hw
      cases e
      obtain ⟨xs, o, _, h2, ⟨hl, rfl⟩, h3⟩ := k.obj hw hn
      exact ⟨a, xs, rfl, h2, hl, h3⟩
    · cases e
  | tup _ _ => cases e
def keyW : W → Option Key
  | .d x => dKey x
  | _ => none
end
section
variable {X : Cx} {U : WX} {pos apos p : Pos} {a b c e o : Expr} {es rest : List Expr} {m m' m'' mo : Gv → Option (RG W)} {ms : Gv → Option (RG (List W))} {t t' : Gv → Option (RG Bool)}
def gChain (f f' : W → W → List GO → Option (W × List GO)) (a b c : Gv → Option (RG W)) : Gv → Option (RG W) := fun γ => gB (a γ) fun w g => gB (b ⟨γ.sl, g⟩) fun u g2 => (f w u g2).bind fun z => match z.1 with
  | .d (.bool k) => if k = true then gB (c ⟨γ.sl, z.2⟩) fun x g3 => (f' u x g3).bind fun y => some (.ok y.1 y.2) else some (.ok (.d (.bool false)) z.2)
  | _ => none
end
def addLW : W → W → List GO → Option (W × List GO) := fun w u g => if isLw w g = true ∧ isLw u g = true then (itemsW w g).bind fun ws => (itemsW u g).bind fun us => if okN (ws.length + us.length) = true then some (.rf g.length, g ++ [(.lst, ws ++ us)]) else none else none
section
variable {K : PySem.W.Frag} {mg : Str → Option Value}
theorem EOk.items2 {F0 H0 F H : Hp} {φ : Ph} {σ : L2.St} {γ : Gv} (k : EOk K mg F0 H0 F H φ σ γ) {v : V} {w : W} {ws : List W} (r : Rw K mg F φ v w) (e : itemsW w γ.g = some ws) : ∃ a xs, v = .ref a ∧ RwA K mg F φ xs ws ∧ (SqL K H a xs ∨ (SqT K H a xs ∧ Rw K mg F φ (.ref a) (mkTup ws))) := by
  cases r with
  | d r =>
    match r, e with
    | .lst hs ra, e =>
      cases e
      exact ⟨_, _, rfl, RwA.of ra, .inl (sqL_mono k.s hs)⟩
    | .tup hs ra, e =>
      cases e
      refine ⟨_, _, rfl, RwA.of ra, .inr ⟨sqT_mono k.s hs, ?_⟩⟩
      unfold mkTup
      rw [pures_map]
      exact .d (.tup hs ra)
  | @rf a n hn =>
    simp only [itemsW] at e
    split at e
    · rename_i us hw
      cases e
      obtain ⟨xs, o, _, h2, rfl, h3⟩ := k.obj hw hn
      exact ⟨a, xs, rfl, h3, .inl (.inl (.inl h2))⟩
    · cases e
  | tup hs ra =>
    cases e
    exact ⟨_, _, rfl, ra, .inr ⟨sqT_mono k.s hs, RwA.mk hs ra⟩⟩
theorem r_addLW : R2W K mg (rCatG K) addLW := fun F0 H0 F H φ σ γ x y w u z Q k r1 r2 e q => by
  unfold addLW at e
  split at e
  · rename_i hc
    obtain ⟨ws, h1, e⟩ := bind_some e
    obtain ⟨us, h2, e⟩ := bind_some e
    split at e
    · rename_i hl
      cases e
      obtain ⟨a, xs, rfl, hs, ra⟩ := k.itemsL r1 hc.1 h1
      obtain ⟨b, ys, rfl, hs2, rb⟩ := k.itemsL r2 hc.2 h2
      refine ⟨a, b, xs, ys, rfl, rfl, hs, hs2, Nat.le_trans (by rw [ra.length, rb.length]; exact okN_le hl) (by decide), fun p hp => ?_⟩
      obtain ⟨k2, r3⟩ := k.newLst (F' := F) (H' := upd H p (.lst (xs ++ ys))) ⟨Same.refl _, same_new hp, k.s.trans (same_new hp), fun a u e1 e2 => e1⟩ hp (k.s.free hp) upd_same (ra.append rb)
      exact q _ _ _ _ k2 (Px.app _ _) (Same.refl _) r3
    · cases e
  · cases e
end
end Dm


namespace Dm
open PySem PySem.Spec L2 PyProof.Rows
variable [WdI]
inductive OutG where | nx (γ : Gv) | rt (w : W) (g : List GO) | bk (γ : Gv) | ct (γ : Gv) | ex (c : Str) (fs : List (Str × D)) (γ : Gv)
def ExAt (K : PySem.W.Frag) (mg : Str → Option Value) (F H0 H : Hp) (φ : Ph) (fs : List (Str × D)) (dd : Option Addr) : Prop := (fs = [] ∧ dd = none) ∨ ∃ a ws, dd = some a ∧ H0 a = none ∧ F a = none ∧ a ∉ φ ∧ H a = some (.xd ws) ∧ RpX K mg F ws fs
section
variable (K : PySem.W.Frag) (mg : Str → Option Value) (U : WX)
def PostG (Dn : Ends) (F0 H0 Fe : Hp) (φe : Ph) : OutG → Prop
  | .nx γ => ∀ σ F H φ, EOk K mg F0 H0 F H φ σ γ → Px φe φ → Same Fe F → Dn.nx σ H
  | .rt w g => ∀ v F H φ, Stp F0 H0 F H → GOk K mg F φ H0 H g → Px φe φ → Same Fe F → Rw K mg F φ v w → Dn.rt v H
  | .bk γ => ∀ σ F H φ, EOk K mg F0 H0 F H φ σ γ → Px φe φ → Same Fe F → Dn.bk σ H
  | .ct γ => ∀ σ F H φ, EOk K mg F0 H0 F H φ σ γ → Px φe φ → Same Fe F → Dn.ct σ H
  | .ex c fs γ => ∀ σ C dd F H φ, EOk K mg F0 H0 F H φ σ γ → Px φe φ → Same Fe F → mg c = some (.ref C) → ExAt K mg F H0 H φ fs dd → U (.ref C) dd σ H
theorem PostG.mono {K : PySem.W.Frag} {mg : Str → Option Value} {U : WX} {Dn : Ends} {F0 H0 Fe Fe' : Hp} {φe φe' : Ph} (p : Px φe φe') (s : Same Fe Fe') {o : OutG} (h : PostG K mg U Dn F0 H0 Fe φe o) : PostG K mg U Dn F0 H0 Fe' φe' o := by
  cases o with
  | nx γ => exact fun σ F H φ k p' s' => h σ F H φ k (p.trans p') (s.trans s')
  | rt w g => exact fun v F H φ t l p' s' r => h v F H φ t l (p.trans p') (s.trans s') r
  | bk γ => exact fun σ F H φ k p' s' => h σ F H φ k (p.trans p') (s.trans s')
  | ct γ => exact fun σ F H φ k p' s' => h σ F H φ k (p.trans p') (s.trans s')
  | ex c fs γ => exact fun σ C dd F H φ k p' s' => h σ C dd F H φ k (p.trans p') (s.trans s')
/-- an error of an expression is one of the statement -/
theorem PostG.ex {K : PySem.W.Frag} {mg : Str → Option Value} {U : WX} {Dn : Ends} {F0 H0 F H : Hp} {φ : Ph} {σ : L2.St} {γ : Gv} {c : Str} {fs : List (Str × D)} {g : List GO} (k : EOk K mg F0 H0 F H φ σ γ) (q : PostG K mg U Dn F0 H0 F φ (.ex c fs ⟨γ.sl, g⟩)) : ExG K mg (WE U σ) F0 H0 F φ c fs g := fun C dd F' H' ψ h1 t s l p h5 => q σ C dd F' H' ψ ⟨t.s, t, k.len, fun i w e => by
  obtain ⟨v, h1, h2⟩ := k.rel i w e
  exact ⟨v, h1, h2.mono s p⟩, l⟩ p s h1 h5
def tGS (m : Gv → Option OutG) : TS := fun D σ H => ∃ F0 H0 F φ γ o, EOk K mg F0 H0 F H φ σ γ ∧ m γ = some o ∧ PostG K mg U D F0 H0 F φ o
def tGG (g : W → Gv → Option Gv) : TG := fun v σ H Q => ∃ F0 H0 F φ γ w γ', EOk K mg F0 H0 F H φ σ γ ∧ Rw K mg F φ v w ∧ g w γ = some γ' ∧ ∀ σ' F' H' φ', EOk K mg F0 H0 F' H' φ' σ' γ' → Px φ φ' → Same F F' → Q σ' H'
def tGGs (g : List W → Gv → Option Gv) : TGs := fun vs σ H Q => ∃ F0 H0 F φ γ ws γ', EOk K mg F0 H0 F H φ σ γ ∧ RwA K mg F φ vs ws ∧ g ws γ = some γ' ∧ ∀ σ' F' H' φ', EOk K mg F0 H0 F' H' φ' σ' γ' → Px φ φ' → Same F F' → Q σ' H'
/-- what is walked: at each turn an item, or the end -/
abbrev Src := List GO → Nat → Option (Option W)
structure WkG (J : It) (src : Src) (F : Hp) (φ : Ph) : Prop where
  stop : ∀ (i : Nat) (F0 H0 F1 H1 : Hp) (φ1 : Ph) (σ : L2.St) (γ : Gv), EOk K mg F0 H0 F1 H1 φ1 σ γ → Px φ φ1 → Same F F1 → src γ.g i = some none → J.stop i H1
  go : ∀ (i : Nat) (F0 H0 F1 H1 : Hp) (φ1 : Ph) (σ : L2.St) (γ : Gv) (w : W), EOk K mg F0 H0 F1 H1 φ1 σ γ → Px φ φ1 → Same F F1 → src γ.g i = some (some w) → J.go i H1 ∧ ∀ x H', J.yld i H1 x H' → ∃ F2, Stp F1 H1 F2 H' ∧ Rw K mg F2 φ1 x w
def tGI (m : Gv → Option (RG Src)) : TI := fun σ H R => ∃ F0 H0 F φ γ r, EOk K mg F0 H0 F H φ σ γ ∧ m γ = some r ∧ match r with
  | .ok src g' => ∀ J F' H' φ', EOk K mg F0 H0 F' H' φ' σ ⟨γ.sl, g'⟩ → Px φ φ' → Same F F' → WkG K mg J src F' φ' → R J H'
  | .ex c fs g' => ExG K mg (WE U σ) F0 H0 F φ c fs g'
end
abbrev DGS (X : Cx) (U : WX) (s : Stmt) (m : Gv → Option OutG) : Prop := PS X s (tGS X.K X.mg U m)
abbrev DGSs (X : Cx) (U : WX) (s : List Stmt) (m : Gv → Option OutG) : Prop := PSs X s (tGS X.K X.mg U m)
abbrev DGG (X : Cx) (e : Expr) (g : W → Gv → Option Gv) : Prop := PG X e (tGG X.K X.mg g)
abbrev DGGs (X : Cx) (es : List Expr) (g : List W → Gv → Option Gv) : Prop := PGs X es (tGGs X.K X.mg g)
abbrev DGI (X : Cx) (U : WX) (tg it : Expr) (m : Gv → Option (RG Src)) : Prop := PI X tg it (tGI X.K X.mg U m)
def hB {α : Type} (γ : Gv) (x : Option (RG α)) (k : α → List GO → Option OutG) : Option OutG := match x with
  | some (.ok a g) => k a g
  | some (.ex c fs g) => some (.ex c fs ⟨γ.sl, g⟩)
  | none => none
@[simp] theorem hB_ok {α : Type} {γ : Gv} {a : α} {g : List GO} {k : α → List GO → Option OutG} : hB γ (some (.ok a g)) k = k a g := rfl
@[simp] theorem hB_ex {α : Type} {γ : Gv} {c : Str} {fs : List (Str × D)} {g : List GO} {k : α → List GO → Option OutG} : hB γ (some (.ex c fs g)) k = some (.ex c fs ⟨γ.sl, g⟩) := rfl
theorem hB_some {α : Type} {γ : Gv} {x : Option (RG α)} {k : α → List GO → Option OutG} {y : OutG} (h : hB γ x k = some y) : (∃ a g, x = some (.ok a g) ∧ k a g = some y) ∨ ∃ c fs g, x = some (.ex c fs g) ∧ y = .ex c fs ⟨γ.sl, g⟩ := by
  cases x with
  | none => cases h
  | some r =>
    cases r with
    | ok a g => exact .inl ⟨a, g, rfl, h⟩
    | ex c fs g =>
      cases h
      exact .inr ⟨c, fs, g, rfl, rfl⟩
def hNop : Gv → Option OutG := fun γ => some (.nx γ)
def hSeq (a b : Gv → Option OutG) : Gv → Option OutG := fun γ => (a γ).bind fun o => match o with
  | .nx γ' => b γ'
  | o => some o
def hIf (t : Gv → Option (RG Bool)) (a b : Gv → Option OutG) : Gv → Option OutG := fun γ => hB γ (t γ) fun k g => if k = true then a ⟨γ.sl, g⟩ else b ⟨γ.sl, g⟩
def hRet (m : Gv → Option (RG W)) : Gv → Option OutG := fun γ => hB γ (m γ) fun w g => some (.rt w g)
def hRetN : Gv → Option OutG := fun γ => some (.rt (.d .none) γ.g)
def hAsg (t : W → Gv → Option Gv) (m : Gv → Option (RG W)) : Gv → Option OutG := fun γ => hB γ (m γ) fun w g => (t w ⟨γ.sl, g⟩).bind fun γ' => some (.nx γ')
def hExpr (m : Gv → Option (RG W)) : Gv → Option OutG := fun γ => hB γ (m γ) fun _ g => some (.nx ⟨γ.sl, g⟩)
def hgN (i : Nat) : W → Gv → Option Gv := fun w γ => some ⟨γ.sl.set i (some w), γ.g⟩
def hgT (n : Nat) (t : List W → Gv → Option Gv) : W → Gv → Option Gv := fun w γ => match w with
  | .tup ws => if ws.length = n then t ws γ else none
  | .d (.tuple ds) => if ds.length = n then t (ds.map .d) γ else none
  | _ => none
def hg0 : List W → Gv → Option Gv := fun ws γ => match ws with
  | [] => some γ
  | _ => none
def hgC (t : W → Gv → Option Gv) (k : List W → Gv → Option Gv) : List W → Gv → Option Gv := fun ws γ => match ws with
  | w :: r => (t w γ).bind fun γ' => k r γ'
  | [] => none
def forG (t : W → Gv → Option Gv) (b : Gv → Option OutG) (src : Src) : Nat → Nat → Gv → Option OutG
  | 0, _, _ => none
  | n + 1, i, γ => match src γ.g i with
    | none => none
    | some none => some (.nx γ)
    | some (some w) => (t w γ).bind fun γ1 => (b γ1).bind fun o => match o with
      | .nx γ2 => forG t b src n (i + 1) γ2
      | .ct γ2 => forG t b src n (i + 1) γ2
      | .bk γ2 => some (.nx γ2)
      | o => some o
def hFor (n : Nat) (t : W → Gv → Option Gv) (m : Gv → Option (RG Src)) (b : Gv → Option OutG) : Gv → Option OutG := fun γ => hB γ (m γ) fun src g => forG t b src n 0 ⟨γ.sl, g⟩
section
variable {X : Cx} {U : WX} {pos : Pos} {st : Stmt} {rest : List Stmt} {e c : Expr} {m : Gv → Option (RG W)} {a b : Gv → Option OutG} {t : Gv → Option (RG Bool)}
theorem h_nil : DGSs X U [] hNop := PSs.weak pss_nil fun D σ H ⟨F0, H0, F, φ, γ, o, k, e, q⟩ => by
  cases e
  exact q σ F H φ k (Px.refl _) (Same.refl _)
theorem h_one (h : DGS X U st a) : DGSs X U [st] a := pss_one h
theorem h_cons (h : DGS X U st a) (hr : DGSs X U rest b) : DGSs X U (st :: rest) (hSeq a b) := PSs.weak (pss_cons h hr) fun D σ H ⟨F0, H0, F, φ, γ, o, k, e, q⟩ => by
  obtain ⟨o1, h1, e⟩ := bind_some e
  refine ⟨F0, H0, F, φ, γ, o1, k, h1, ?_⟩
  cases o1 with
  | nx γ1 => exact fun σ1 F1 H1 φ1 k1 p1 s1 => ⟨F0, H0, F1, φ1, γ1, o, k1, e, q.mono p1 s1⟩
  | rt w g =>
    cases e
    exact q
  | bk g =>
    cases e
    exact q
  | ct g =>
    cases e
    exact q
  | ex c fs g =>
    cases e
    exact q
theorem h_if {p q' : List Stmt} (hc : GT X U c t) (ha : DGSs X U p a) (hb : DGSs X U q' b) : DGS X U (.If c p q' pos) (hIf t a b) := PS.weak (ps_if hc ha hb) fun D σ H ⟨F0, H0, F, φ, γ, o, k, e, q⟩ => by
  rcases hB_some e with ⟨kk, g, h1, e⟩ | ⟨c, fs, g, h1, rfl⟩
  · refine ⟨F0, H0, F, φ, γ, _, k, h1, fun F1 H1 φ1 k1 p1 s1 => ?_⟩
    cases kk with
    | true =>
      simp only [if_true] at e ⊢
      exact ⟨F0, H0, F1, φ1, _, o, k1, e, q.mono p1 s1⟩
    | false =>
      simp only [Bool.false_eq_true, if_false] at e ⊢
      exact ⟨F0, H0, F1, φ1, _, o, k1, e, q.mono p1 s1⟩
  · exact ⟨F0, H0, F, φ, γ, _, k, h1, PostG.ex k q⟩
theorem h_ret (he : GE X U e m) : DGS X U (.Return (some e) pos) (hRet m) := PS.weak (ps_ret he) fun D σ H ⟨F0, H0, F, φ, γ, o, k, e, q⟩ => by
  rcases hB_some e with ⟨w, g, h1, e⟩ | ⟨c, fs, g, h1, rfl⟩
  · cases e
    exact ⟨F0, H0, F, φ, γ, _, k, h1, fun v F1 H1 φ1 k1 p1 s1 r1 => q v F1 H1 φ1 k1.st k1.live p1 s1 r1⟩
  · exact ⟨F0, H0, F, φ, γ, _, k, h1, PostG.ex k q⟩
theorem h_expr (he : GE X U e m) (hs0 : swapsWith e none pos.line X.env = pure false := by rfl) : DGS X U (.Expr e pos) (hExpr m) := PS.weak (ps_expr he hs0) fun D σ H ⟨F0, H0, F, φ, γ, o, k, e, q⟩ => by
  rcases hB_some e with ⟨w, g, h1, e⟩ | ⟨c, fs, g, h1, rfl⟩
  · cases e
    exact ⟨F0, H0, F, φ, γ, _, k, h1, fun v F1 H1 φ1 k1 p1 s1 r1 => q σ F1 H1 φ1 k1 p1 s1⟩
  · exact ⟨F0, H0, F, φ, γ, _, k, h1, PostG.ex k q⟩
theorem hg_name {i : Nat} {x : Str} (hN : X.N.Nodup) (hi : X.N[i]? = some x := by rfl) (hx : Loc X.env.scope x := by first | exact Or.inl rfl | exact Or.inr rfl) (hf : X.fn x = true ∨ X.env.scope.names.lookup x = some .local := by first | exact .inl rfl | exact .inr rfl | assumption) : DGG X (.Name x pos) (hgN i) :=
  PG.weak (pg_name hN hi hx hf) fun v σ H Q ⟨F0, H0, F, φ, γ, w, γ', k, r, e, q⟩ => by
  cases e
  exact q _ F H φ (k.set r i) (Px.refl _) (Same.refl _)
theorem h_asg {tg : Expr} {g : W → Gv → Option Gv} (he : GE X U e m) (hg : DGG X tg g) (hs : swapsWithSole [tg] e pos.line X.env = pure false := by rfl) (hw : swappedStores [tg] e X.env = pure none := by rfl)
    (h1 : (assignEach [tg] X.env).map (·.2) = [assign tg X.env] := by rfl) : DGS X U (.Assign [tg] e pos) (hAsg g m) := PS.weak (ps_asg he hg hs hw h1) fun D σ H ⟨F0, H0, F, φ, γ, o, k, e, q⟩ => by
  rcases hB_some e with ⟨w, g', h1, e⟩ | ⟨c, fs, g', h1, rfl⟩
  · obtain ⟨γ', h2, e⟩ := bind_some e
    cases e
    exact ⟨F0, H0, F, φ, γ, _, k, h1, fun v F1 H1 φ1 k1 p1 s1 r1 => ⟨F0, H0, F1, φ1, _, w, γ', k1, r1, h2, fun σ' F' H' φ' k' p' s' => q σ' F' H' φ' k' (p1.trans p') (s1.trans s')⟩⟩
  · exact ⟨F0, H0, F, φ, γ, _, k, h1, PostG.ex k q⟩
theorem h_for {tg it : Expr} {body : List Stmt} {g : W → Gv → Option Gv} {mi : Gv → Option (RG Src)} (n : Nat) (hp : PassesOwn (model X.prog X.w) X.A X.env X.xe) (hc : X.calm = true) (hi : DGI X U tg it mi) (hg : DGG X tg g) (hb : DGSs X U body b)
    (hs : ∀ x, foldedSetIterable it X.env x = pure x := by intro _; rfl) : DGS X U (.For tg it body [] pos) (hFor n g mi b) := PS.weak (ps_for hp hc hi hg hb hs) fun D σ H ⟨F0, H0, F, φ, γ, o, k, e, q⟩ => by
  rcases hB_some e with ⟨src, g0, h1, e⟩ | ⟨c, fs, g0, h1, rfl⟩
  · refine ⟨F0, H0, F, φ, γ, _, k, h1, fun J Fi Hi φi ki pi si Wk => ?_⟩
    refine ⟨fun i m σ H => ∃ F' φ' γ, EOk X.K X.mg F0 H0 F' H φ' σ γ ∧ Px φi φ' ∧ Same Fi F' ∧ forG g b src m i γ = some o, ⟨n, Fi, φi, _, ki, Px.refl _, Same.refl _, e⟩, ?_⟩
    rintro i m σ2 H2 ⟨F2, φ2, γ2, k2, p2, s2, e2⟩
    cases m with
    | zero => cases e2
    | succ m =>
      simp only [forG] at e2
      split at e2
      · cases e2
      · rename_i hs0
        cases e2
        exact .inl ⟨Wk.stop i _ _ _ _ _ _ _ k2 p2 s2 hs0, q σ2 F2 H2 φ2 k2 (pi.trans p2) (si.trans s2)⟩
      · rename_i w hs0
        obtain ⟨hgo, hy⟩ := Wk.go i _ _ _ _ _ _ _ w k2 p2 s2 hs0
        refine .inr ⟨hgo, ?_⟩
        obtain ⟨γ3, e3, e2⟩ := bind_some e2
        obtain ⟨o2, e4, e2⟩ := bind_some e2
        refine ⟨fun σ' H' => ∃ F' φ' γ, EOk X.K X.mg F0 H0 F' H' φ' σ' γ ∧ Px φi φ' ∧ Same Fi F' ∧ forG g b src m (i + 1) γ = some o, fun σ' H' z => ⟨m, Nat.lt_succ_self m, z⟩, fun x H' y => ?_⟩
        obtain ⟨F3, t3, r3⟩ := hy x H' y
        refine ⟨F0, H0, F3, φ2, γ2, w, γ3, k2.step t3, r3, e3, fun σ4 F4 H4 φ4 k4 p4 s4 => ⟨F0, H0, F4, φ4, γ3, o2, k4, e4, ?_⟩⟩
        have s24 : Same Fi F4 := s2.trans (t3.f.trans s4)
        have p24 : Px φi φ4 := p2.trans p4
        cases o2 with
        | nx γ5 => exact fun σ5 F5 H5 φ5 k5 p5 s5 => ⟨F5, φ5, γ5, k5, p24.trans p5, s24.trans s5, e2⟩
        | ct γ5 => exact fun σ5 F5 H5 φ5 k5 p5 s5 => ⟨F5, φ5, γ5, k5, p24.trans p5, s24.trans s5, e2⟩
        | bk γ5 =>
          cases e2
          exact fun σ5 F5 H5 φ5 k5 p5 s5 => q σ5 F5 H5 φ5 k5 (pi.trans (p24.trans p5)) (si.trans (s24.trans s5))
        | rt w5 g5 =>
          cases e2
          exact q.mono (pi.trans p24) (si.trans s24)
        | ex c fs g5 =>
          cases e2
          exact q.mono (pi.trans p24) (si.trans s24)
  · exact ⟨F0, H0, F, φ, γ, _, k, h1, PostG.ex k q⟩
def srcOf (ws : List W) : Src := fun _ i => some ws[i]?
def giOf (m : Ev → Option (List D)) : Gv → Option (RG Src) := fun γ => (m (pur γ.sl)).bind fun ds => some (.ok (srcOf (ds.map .d)) γ.g)
theorem gi_of {tg it : Expr} {m : Ev → Option (List D)} (h : DI X tg it m) : DGI X U tg it (giOf m) := PI.weak h fun σ H R ⟨F0, H0, F, φ, γ, r, k, e, q⟩ => by
  obtain ⟨ds, h1, e⟩ := bind_some e
  cases e
  refine ⟨(F, 0), H, F, pur γ.sl, ds, k.pure, h1, fun J F1 H1 t1 Wk => q J F1 H1 φ (k.step t1) (Px.refl _) t1.f ⟨fun i F0' H0' F2 H2 φ2 σ2 γ2 k2 p2 s2 hs => ?_, fun i F0' H0' F2 H2 φ2 σ2 γ2 w k2 p2 s2 hs => ?_⟩⟩
  · have hs := Option.some.inj hs
    rw [List.getElem?_eq_none_iff, List.length_map] at hs
    exact Wk.stop i H2 (s2.trans k2.s) hs
  · have hs := Option.some.inj hs
    rw [List.getElem?_map] at hs
    cases hd : ds[i]? with
    | none =>
      rw [hd] at hs
      cases hs
    | some d =>
      rw [hd] at hs
      cases hs
      refine ⟨Wk.go i H2 (s2.trans k2.s) (getElem?_len hd), fun x H' y => ?_⟩
      obtain ⟨F3, t3, r3⟩ := Wk.yld i H2 x H' F2 d s2 k2.s hd y
      exact ⟨F3, t3, .d r3⟩
/-- a list or a tuple, live or not -/
def srcW (w : W) : Src := fun g i => (itemsW w g).bind fun ws => some ws[i]?
def giW (m : Gv → Option (RG W)) : Gv → Option (RG Src) := fun γ => gB (m γ) fun w g => (itemsW w g).bind fun _ => some (.ok (srcW w) g)
end
end Dm


namespace Dm
open PySem PySem.Spec L2 PyProof.Rows
variable [WdI]
def putFW (f : Str) (w : W) : List Str → List W → List Str × List W
  | g :: fs, u :: ws => if g = f then (g :: fs, w :: ws) else (g :: (putFW f w fs ws).1, u :: (putFW f w fs ws).2)
  | _, _ => ([f], [w])
section
variable {K : PySem.W.Frag} {mg : Str → Option Value} {F : Hp} {φ : Ph}
end
def hFld (f : Str) (cs : List Str) (o e : Gv → Option (RG W)) : Gv → Option OutG := fun γ => hB γ (e γ) fun w g => hB γ (o ⟨γ.sl, g⟩) fun u g2 => match u with
  | .rf n => match g2[n]? with
    | some (.ins c fs, ws) => if c ∈ cs ∧ fs.length < 900 then some (.nx ⟨γ.sl, g2.set n (.ins c (putFW f w fs ws).1, (putFW f w fs ws).2)⟩) else none
    | _ => none
  | _ => none
def hFldAug (f : Str) (cs : List Str) (op : W → W → List GO → Option (W × List GO)) (o e : Gv → Option (RG W)) : Gv → Option OutG := fun γ => hB γ (o γ) fun u g => match u with
  | .rf n => match g[n]? with
    | some (.ins c fs, ws) => if c ∈ cs then (lookW f fs ws).bind fun x => hB γ (e ⟨γ.sl, g⟩) fun y g2 => (op x y g2).bind fun z => match z.2[n]? with
      | some (.ins c2 fs2, ws2) => if c2 = c ∧ fs2.length < 900 then some (.nx ⟨γ.sl, z.2.set n (.ins c2 (putFW f z.1 fs2 ws2).1, (putFW f z.1 fs2 ws2).2)⟩) else none
      | _ => none
      else none
    | _ => none
  | _ => none
section
variable {X : Cx} {U : WX} {pos pos' tpos apos : Pos} {st : Stmt} {rest : List Stmt} {e c o i : Expr} {es : List Expr} {m mo mi : Gv → Option (RG W)} {ms : Gv → Option (RG (List W))} {a b : Gv → Option OutG} {t : Gv → Option (RG Bool)}
def hasK (ks : List Key) (k : Key) : Bool := ks.any fun q => decide (q = k)
def putKW (ks : List Key) (ws : List W) (k : Key) (w : W) : List Key × List W := if hasK ks k = true then (ks, put ks ws) else (ks ++ [k], ws ++ [w])
where put : List Key → List W → List W
  | q :: ks, u :: ws => (if q = k then w else u) :: put ks ws
  | _, _ => []
def dropKW (k : Key) : List Key → List W → List Key × List W
  | q :: ks, u :: ws => if q = k then dropKW k ks ws else (q :: (dropKW k ks ws).1, u :: (dropKW k ks ws).2)
  | _, _ => ([], [])
section
variable {K : PySem.W.Frag} {mg : Str → Option Value} {F : Hp} {φ : Ph}
end
def hDput (d kx e : Gv → Option (RG W)) : Gv → Option OutG := fun γ => hB γ (e γ) fun w g => hB γ (d ⟨γ.sl, g⟩) fun u g2 => hB γ (kx ⟨γ.sl, g2⟩) fun y g3 => match u with
  | .rf n => match g3[n]? with
    | some (.dct ks, ws) => (keyW y).bind fun k => if okN ks.length = true then some (.nx ⟨γ.sl, g3.set n (.dct (putKW ks ws k w).1, (putKW ks ws k w).2)⟩) else none
    | _ => none
  | _ => none
def hDdel (d kx : Gv → Option (RG W)) : Gv → Option OutG := fun γ => hB γ (d γ) fun u g => hB γ (kx ⟨γ.sl, g⟩) fun y g2 => match u with
  | .rf n => match g2[n]? with
    | some (.dct ks, ws) => (keyW y).bind fun k => (valW ks ws k).bind fun _ => some (.nx ⟨γ.sl, g2.set n (.dct (dropKW k ks ws).1, (dropKW k ks ws).2)⟩)
    | _ => none
  | _ => none
end
end Dm


namespace Dm
open PySem PySem.Spec L2 PyProof.Rows
variable [WdI]
def hRaise (c f : Str) (m : Gv → Option (RG W)) : Gv → Option OutG := fun γ => hB γ (m γ) fun w g => match w with
  | .d x => some (.ex c [(f, x)] ⟨γ.sl, g⟩)
  | _ => none
def hRaise0 (c : Str) : Gv → Option OutG := fun γ => some (.ex c [] γ)
section
variable {X : Cx} {U : WX} {pos : Pos} {e : Expr} {m : Gv → Option (RG W)}
end
def initG (s : Nat) (ws : List W) : List (Option W) := ws.map some ++ List.replicate (s - ws.length) none
def outG : OutG → Option (RG W)
  | .nx γ => some (.ok (.d .none) γ.g)
  | .rt w g => some (.ok w g)
  | .ex c fs γ => some (.ex c fs γ.g)
  | .bk _ => none
  | .ct _ => none
def runG (s : Nat) (b : Gv → Option OutG) : List W → List GO → Option (RG W) := fun ws g => (b ⟨initG s ws, g⟩).bind outG
theorem EOk.start {K : PySem.W.Frag} {mg : Str → Option Value} {F H : Hp} {φ : Ph} {N : List Str} {vs : List V} {ws : List W} {g : List GO} (s : Same F H) (r : RwA K mg F φ vs ws) (l : GOk K mg F φ (hols φ H) H g) : EOk K mg F (hols φ H) F H φ (L2.start N vs) ⟨initG N.length ws, g⟩ where
  s := s
  st := ⟨Same.refl _, hols_same, s, fun _ _ e _ => e⟩
  len := by
    unfold L2.start initG
    simp [r.length]
  rel := fun i w e => by
    have hi : i < ws.length := by
      by_cases hi : i < ws.length
      · exact hi
      · unfold initG at e
        simp only at e
        rw [List.getElem?_append_right (by simpa using hi), List.getElem?_replicate] at e
        split at e <;> cases e
    unfold initG at e
    simp only at e
    rw [List.getElem?_append_left (by simpa using hi), List.getElem?_map] at e
    obtain ⟨w', h1, h2⟩ := Option.map_eq_some_iff.mp e
    cases h2
    obtain ⟨v, h3, h4⟩ := r.get h1
    refine ⟨v, ?_, h4⟩
    unfold L2.start
    rw [List.getElem?_append_left (by rw [List.length_map, r.length]; exact hi), List.getElem?_map, h3]
    rfl
  live := l
section
variable {P : Program} {w : World} {K : PySem.W.Frag} {mg : Str → Option Value} {base : Heap} {x qn : Str} {st : Stmt} {f : Addr} {fd : FuncData} {N ps : List Str} {n : Nat}
theorem def_okG {k s : Nat} {b : Gv → Option OutG} (F : Fun K x qn st f fd) (S : FnScope N ps (defScope st)) (hn : ps.length = n) (hs : N.length = s)
    (hb : ∀ (cdv : Value) (A : Around) (outer : List Env) (sh : Shared) (H : Hp) (E : XK) (U : WX), Room k (A.deeper (PyProof.Rows.envOfC qn (defScope st) sh.heap.objs.size f cdv)) → Takes (cxOf (CX P w) P w K mg base N qn (defScope st) f cdv A outer sh H E) U → DGSs (cxOf (CX P w) P w K mg base N qn (defScope st) f cdv A outer sh H E) U (defBody st) b) : FnOk P w K mg base (CX P w) (k + 1) f fd ps (spG K mg n (runG s b)) := by
  refine F.okX S (fun vs H Q E h => ?_) (fun cdv A outer sh H vs Q E hr h => ?_)
  · obtain ⟨F, φ, ws, g, r, _, ra, _, hl, _⟩ := h
    rw [ra.length, hl, hn]
  · refine ⟨_, hb cdv A outer sh H E (fun cls d _ H => E cls d H) hr (takes_of rfl rfl rfl rfl), ?_⟩
    obtain ⟨F, φ, ws, g, r, s1, ra, l, hl, e, q⟩ := h
    obtain ⟨o, h1, e⟩ := bind_some e
    refine ⟨F, hols φ H, F, φ, ⟨initG s ws, g⟩, o, ?_, h1, ?_⟩
    · rw [← hs]
      exact EOk.start s1 ra l
    · cases o with
      | nx γ =>
        cases e
        exact fun σ F1 H1 φ1 k1 p1 s1 => q .non F1 H1 φ1 k1.st k1.live p1 (.d .non)
      | rt w' g' =>
        cases e
        exact fun v F1 H1 φ1 t1 l1 p1 s1 r1 => q v F1 H1 φ1 t1 l1 p1 r1
      | bk _ => cases e
      | ct _ => cases e
      | ex c fs γ =>
        cases e
        exact fun σ C dd F1 H1 φ1 k1 p1 s1 mc ea => q C dd F1 H1 φ1 mc k1.st s1 k1.live p1 ea
/-- what is known of sp is known of what asks more -/
theorem FnOk.less {k : Nat} {sp sp' : Sp} (G : FnOk P w K mg base (CX P w) k f fd ps sp) (h : ∀ vs H Q E, sp' vs H Q E → sp vs H Q E) : FnOk P w K mg base (CX P w) k f fd ps sp' := by
  obtain ⟨a, b⟩ := G
  exact ⟨fun vs H Q E z => a vs H Q E (h _ _ _ _ z), fun A outer s H args us vs Q E hr e0 hb r z => b A outer s H args us vs Q E hr e0 hb r (h _ _ _ _ z)⟩
end
structure DefOkG (P : Program) (w : World) (K : PySem.W.Frag) (mg : Str → Option Value) (base : Heap) (k n : Nat) (x : Str) (ps : List Str) (m : List W → List GO → Option (RG W)) : Prop where
  ex : ∃ (f : Addr) (fd : FuncData), FnOk P w K mg base (CX P w) k f fd ps (spG K mg n m) ∧ mg x = some (.ref f) ∧ PySem.W.keepIn K (.ref f) = true ∧ Binds K fd ps []
def fD (f : List D → Option D) : List W → List GO → Option (RG W) := fun ws g => (pures ws).bind fun ds => (f ds).bind fun d => some (.ok (.d d) g)
def fX (f : List D → Option Res) : List W → List GO → Option (RG W) := fun ws g => (pures ws).bind fun ds => (f ds).bind fun r => match r with
  | .ok d => some (.ok (.d d) g)
  | .ex c fs => some (.ex c fs g)
section
variable {K : PySem.W.Frag} {mg : Str → Option Value} {F H F' H' : Hp} {φ : Ph} {g : List GO}
theorem Stp.hols (t : Stp F H F' H') : Stp F (hols φ H) F' H' := ⟨t.f, hols_same.trans t.h, t.s, fun a o e1 e2 => t.n a o e1 (hols_same _ _ e2)⟩
theorem pures_len : ∀ {ws : List W} {ds : List D}, pures ws = some ds → ds.length = ws.length := fun {ws ds} h => by
  rw [pures_of h, List.length_map]
theorem spG_D {n : Nat} {f : List D → Option D} (vs : List V) (H : Hp) (Q : VK) (E : XK) (h : spG K mg n (fD f) vs H Q E) : spD K mg n f vs H Q E := by
  obtain ⟨F, φ, ws, g, r, s1, ra, l, hl, e, q⟩ := h
  obtain ⟨ds, h1, e⟩ := bind_some e
  obtain ⟨d, h2, e⟩ := bind_some e
  cases e
  exact ⟨F, ds, d, s1, ra.pure h1, (pures_len h1).trans hl, h2, fun v F1 H1 t1 r1 => q v F1 H1 φ t1.hols (l.step t1) (Px.refl _) (.d r1)⟩
theorem spG_X {n : Nat} {f : List D → Option Res} (vs : List V) (H : Hp) (Q : VK) (E : XK) (h : spG K mg n (fX f) vs H Q E) : spX K mg n f vs H Q E := by
  obtain ⟨F, φ, ws, g, r, s1, ra, l, hl, e, q⟩ := h
  obtain ⟨ds, h1, e⟩ := bind_some e
  obtain ⟨d, h2, e⟩ := bind_some e
  cases d with
  | ok d =>
    cases e
    exact ⟨F, ds, .ok d, s1, ra.pure h1, (pures_len h1).trans hl, h2, fun v F1 H1 t1 r1 => q v F1 H1 φ t1.hols (l.step t1) (Px.refl _) (.d r1)⟩
  | ex c fs =>
    cases e
    refine ⟨F, ds, .ex c fs, s1, ra.pure h1, (pures_len h1).trans hl, h2, fun C dd F1 H1 mc t1 hh => ?_⟩
    refine q C dd F1 H1 φ mc t1.hols t1.f (l.step t1) (Px.refl _) (hh.imp id fun ⟨a, ws', e1, e2, e3, e4, e5⟩ => ⟨a, ws', e1, ?_, e3, fun z => ?_, e4, e5⟩)
    · unfold Dm.hols
      split
      · rfl
      · exact e2
    · obtain ⟨_, _, _, _, o, _, _, _, _, h5⟩ := l.mem z
      rw [e2] at h5
      cases h5
/-- a def over live objects that is handed data and gives data back, as what it is for its callers of data -/
def dG (f : List W → List GO → Option (RG W)) : List D → Option Res := fun ds => (f (ds.map .d) []).bind fun r => match r with
  | .ok (.d d) _ => some (.ok d)
  | .ok _ _ => none
  | .ex c fs _ => some (.ex c fs)
theorem hols_nil (H : Hp) : hols [] H = H := by
  funext a
  unfold hols
  simp
theorem spX_G {n : Nat} {f : List W → List GO → Option (RG W)} (vs : List V) (H : Hp) (Q : VK) (E : XK) (h : spX K mg n (dG f) vs H Q E) : spG K mg n f vs H Q E := by
  obtain ⟨F, ds, r, s1, ra, hl, e, q⟩ := h
  obtain ⟨r0, h1, e⟩ := bind_some e
  have l0 : GOk K mg F [] (hols [] H) H [] := ⟨rfl, List.nodup_nil, fun n sh ws e => by simp at e⟩
  refine ⟨F, [], ds.map .d, [], r0, s1, .of ra, l0, by rw [List.length_map]; exact hl, h1, ?_⟩
  match r0, e with
  | .ok (.d d) g', e =>
    cases e
    rintro v F1 H1 φ1 t1 l1 p1 r1
    rw [hols_nil] at t1
    cases r1 with
    | d r1 => exact q v F1 H1 t1 r1
  | .ex c fs g', e =>
    cases e
    intro C dd F1 H1 φ1 mc t1 s1 l1 p1 ea
    rw [hols_nil] at t1 ea
    exact q C dd F1 H1 mc t1 (ea.imp id fun ⟨a, ws', e1, e2, e3, e4, e5, e6⟩ => ⟨a, ws', e1, e2, e3, e5, e6⟩)
end
section
variable {P : Program} {w : World} {K : PySem.W.Frag} {mg : Str → Option Value} {base : Heap} {k n : Nat} {x : Str} {ps : List Str}
theorem FnOk.up {f : Addr} {fd : FuncData} {sp : Sp} {C0 : CXT} (G : FnOk P w K mg base CX0 k f fd ps sp) : FnOk P w K mg base C0 k f fd ps sp :=
  ⟨G.len, fun A outer s H args us vs Q E hr e0 hb r h => codeAny_mono (G.run A outer s H args us vs Q E hr e0 hb r h) fun r s' hq => by
    cases r with
    | error e => exact False.elim hq
    | ok fl =>
      cases fl with
      | ret u => exact hq
      | next => exact hq
      | brk => exact hq
      | cont => exact hq⟩
theorem DefOk.g {f : List D → Option D} (h : DefOk P w K mg base k n x ps f) : DefOkG P w K mg base k n x ps (fD f) := by
  obtain ⟨a, fd, G, h1, h2, h3⟩ := h.ex
  exact ⟨a, fd, FnOk.less (FnOk.up G) spG_D, h1, h2, h3⟩
theorem DefOkX.g {f : List D → Option Res} (h : DefOkX P w K mg base k n x ps f) : DefOkG P w K mg base k n x ps (fX f) := by
  obtain ⟨a, fd, G, h1, h2, h3⟩ := h.ex
  exact ⟨a, fd, FnOk.less G spG_X, h1, h2, h3⟩
end
end Dm


namespace Dm
open PySem PySem.Spec L2 PyProof.Rows
variable [WdI]
section
variable {X : Cx} {U : WX}
end
def tGW (K : PySem.W.Frag) (mg : Str → Option Value) (vs : List Nat) (g : W → Gv → Option Gv) : TG := fun v σ H Q => ∃ F0 H0 F φ γ w γ', EOk K mg F0 H0 F H φ σ γ ∧ Rw K mg F φ v w ∧ g w γ = some γ' ∧ ∀ σ' F' H' φ', EOk K mg F0 H0 F' H' φ' σ' γ' → Px φ φ' → Same F F' → L2.wipe σ' vs = L2.wipe σ vs → Q σ' H'
def tGWs (K : PySem.W.Frag) (mg : Str → Option Value) (vs : List Nat) (g : List W → Gv → Option Gv) : TGs := fun us σ H Q => ∃ F0 H0 F φ γ ws γ', EOk K mg F0 H0 F H φ σ γ ∧ RwA K mg F φ us ws ∧ g ws γ = some γ' ∧ ∀ σ' F' H' φ', EOk K mg F0 H0 F' H' φ' σ' γ' → Px φ φ' → Same F F' → L2.wipe σ' vs = L2.wipe σ vs → Q σ' H'
theorem wipe_set1 {own : List Nat} {i : Nat} {u : Option V} {σ : L2.St} (h : i ∈ own) : L2.wipe (σ.set i u) own = L2.wipe σ own := by
  apply List.ext_getElem?
  intro n
  rw [at_wipe, at_wipe, List.length_set]
  by_cases hn : n ∈ own ∧ n < σ.length
  · rw [if_pos hn, if_pos hn]
  · rw [if_neg hn, if_neg hn, List.getElem?_set]
    split
    · rename_i e
      subst e
      split
      · rename_i hl
        exact absurd ⟨h, hl⟩ hn
      · rename_i hl
        exact (List.getElem?_eq_none (Nat.le_of_not_lt hl)).symm
    · rfl
section
variable {X : Cx} {pos : Pos} {e : Expr} {vs : List Nat}
theorem gw_name {i : Nat} {x : Str} (hv : i ∈ vs) (hN : X.N.Nodup) (hi : X.N[i]? = some x := by rfl) (hx : Loc X.env.scope x := by first | exact Or.inl rfl | exact Or.inr rfl) (hf : X.fn x = true ∨ X.env.scope.names.lookup x = some .local := by first | exact .inl rfl | exact .inr rfl | assumption) : PG X (.Name x pos) (tGW X.K X.mg vs (hgN i)) :=
  PG.weak (pg_name hN hi hx hf) fun v σ H Q ⟨F0, H0, F, φ, γ, w, γ', k, r, e, q⟩ => by
  cases e
  exact q _ F H φ (k.set r i) (Px.refl _) (Same.refl _) (wipe_set1 hv)
theorem gw_nil : PGs X [] (tGWs X.K X.mg vs hg0) := PGs.weak pgs_nil fun us σ H Q ⟨F0, H0, F, φ, γ, ws, γ', k, r, e, q⟩ => by
  match ws, e with
  | [], e =>
    cases e
    cases r
    exact ⟨rfl, q σ F H φ k (Px.refl _) (Same.refl _) rfl⟩
theorem gw_cons {es : List Expr} {g : W → Gv → Option Gv} {gk : List W → Gv → Option Gv} (h1 : PG X e (tGW X.K X.mg vs g)) (h2 : PGs X es (tGWs X.K X.mg vs gk)) (hs : (assignEach (e :: es) X.env).map (·.2) = assign e X.env :: (assignEach es X.env).map (·.2) := by rfl) : PGs X (e :: es) (tGWs X.K X.mg vs (hgC g gk)) :=
  PGs.weak (pgs_cons h1 h2 hs) fun us σ H Q ⟨F0, H0, F, φ, γ, ws, γ', k, r, e, q⟩ => by
  match ws, e with
  | w :: wr, e =>
    obtain ⟨γ1, e1, e⟩ := bind_some e
    cases r with
    | cons r rr => exact ⟨_, _, rfl, F0, H0, F, φ, γ, _, γ1, k, r, e1, fun σ1 F1 H1 φ1 k1 p1 s1 w1 => ⟨F0, H0, F1, φ1, γ1, _, γ', k1, rr.mono s1 p1, e, fun σ2 F2 H2 φ2 k2 p2 s2 w2 => q σ2 F2 H2 φ2 k2 (p1.trans p2) (s1.trans s2) (w2.trans w1)⟩⟩
theorem gw_tup {es : List Expr} {kk n : Nat} {g : List W → Gv → Option Gv} (hc : X.calm = true) (h : PGs X es (tGWs X.K X.mg vs g)) (hn : (assignEach es X.env).length = n := by rfl) (hst : (assignEach es X.env).findIdx? (·.1) = none := by rfl) : PG X (.Tuple es kk pos) (tGW X.K X.mg vs (hgT n g)) :=
  PG.weak (pg_tup hc h hn hst) fun v σ H Q ⟨F0, H0, F, φ, γ, w, γ', k, r, e, q⟩ => by
  match w, e with
  | .tup ws, e =>
    simp only [hgT] at e
    split at e
    · rename_i hl
      cases r with
      | tup hs ra => exact ⟨_, _, rfl, sqT_mono k.s hs, by rw [ra.length]; exact hl, F0, H0, F, φ, γ, _, γ', k, ra, e, q⟩
    · cases e
  | .d (.tuple ds), e =>
    simp only [hgT] at e
    split at e
    · rename_i hl
      cases r with
      | d r =>
        cases r with
        | tup hs ra => exact ⟨_, _, rfl, sqT_mono k.s hs, by rw [ra.length]; exact hl, F0, H0, F, φ, γ, _, γ', k, RwA.of ra, e, q⟩
    · cases e
end
def wipeG (sl : List (Option W)) : List Nat → List (Option W)
  | [] => sl
  | v :: vs => (wipeG sl vs).set v none
def pushG (me : Nat) (y : W) (g : List GO) : Option (List GO) := match g[me]? with
  | some (.lst, ws) => if okN ws.length = true then some (g.set me (.lst, ws ++ [y])) else none
  | _ => none
def lcG (t : W → Gv → Option Gv) (c : Gv → Option (RG Bool)) (e : Gv → Option (RG W)) (src : Src) (sl : List (Option W)) (me : Nat) : Nat → Nat → List GO → Option (RG W)
  | 0, _, _ => none
  | n + 1, i, g => match src g i with
    | none => none
    | some none => some (.ok (.rf me) g)
    | some (some w) => (t w ⟨sl, g⟩).bind fun γ1 => gB (c γ1) fun b g1 => if b = true then gB (e ⟨γ1.sl, g1⟩) fun y g2 => (pushG me y g2).bind fun g3 => lcG t c e src sl me n (i + 1) g3 else lcG t c e src sl me n (i + 1) g1
def gLc (n : Nat) (own : List Nat) (t : W → Gv → Option Gv) (m : Gv → Option (RG Src)) (c : Gv → Option (RG Bool)) (e : Gv → Option (RG W)) : Gv → Option (RG W) := fun γ => gB (m γ) fun src g => lcG t c e src (wipeG γ.sl own) g.length n 0 (g ++ [(.lst, [])])
def gtYes : Gv → Option (RG Bool) := fun γ => some (.ok true γ.g)
theorem EOk.wipes {K : PySem.W.Frag} {mg : Str → Option Value} {F0 H0 F H : Hp} {φ : Ph} {σ : L2.St} {γ : Gv} (k : EOk K mg F0 H0 F H φ σ γ) : ∀ own : List Nat, EOk K mg F0 H0 F H φ (L2.wipe σ own) ⟨wipeG γ.sl own, γ.g⟩
  | [] => k
  | v :: vs => (EOk.wipes k vs).wipe v _
section
variable {X : Cx} {U : WX} {pos : Pos}
theorem gts_nil : PTs X [] (tGT X.K X.mg U gtYes) := ⟨fun pins s σ H Q I ⟨F0, H0, F, φ, γ, r, k, e, q⟩ => by
  cases e
  exact pts_nil.run pins s σ H Q I (q F H φ k (Px.refl _) (Same.refl _))⟩
end
end Dm


namespace Dm
open PySem PySem.Spec L2 PyProof.Rows
variable [WdI]
/-- an error's class and fields -/
def ErC (K : PySem.W.Frag) (mg : Str → Option Value) (cls : Value) (dd : Option Addr) (F H : Hp) (c : Str) (fs : List (Str × D)) : Prop :=
  ∃ C, cls = .ref C ∧ mg c = some (.ref C) ∧ ((fs = [] ∧ dd = none) ∨ ∃ b ws, dd = some b ∧ H b = some (.xd ws) ∧ RpX K mg F ws fs)
abbrev Er := Str → List (Str × D) → Option D
structure FnE (P : Program) (w : World) (K : PySem.W.Frag) (mg : Str → Option Value) (base : Heap) (k : Nat) (f : Addr) (fd : FuncData) (ps : List Str) (m : Er) : Prop where
  one : ps.length = 1
  run : ∀ (A : Around) (outer : List Env) (s : Shared) (H : Hp) (args : Args) (Q : VK) (E : XK) (a : Addr) (oe : Obj) (cls : Value) (dd : Option Addr) (F : Hp) (c : Str) (fs : List (Str × D)) (x : D), L2H.RoomH k A → A.handled = some (.ref a) → L2H.PinOk outer H s (a, oe) → Zc cls dd oe → (∃ vs, oe.data = .fields vs) → Env0 P w K mg base A outer s H →
    BindsTo s fd args (ps.zip [.ref a]) → Same F H → ErC K mg cls dd F H c fs → m c fs = some x → (∀ v F' H', Stp F H F' H' → Rp K mg F' v x → Q v H') → codeAny (model P w) A (.call (.ref f) args) (CR CX0 outer P w H s Q E) s
structure DefOkE (P : Program) (w : World) (K : PySem.W.Frag) (mg : Str → Option Value) (base : Heap) (k : Nat) (x : Str) (m : Er) : Prop where
  ex : ∃ (f : Addr) (fd : FuncData) (ps : List Str), FnE P w K mg base k f fd ps m ∧ mg x = some (.ref f) ∧ PySem.W.keepIn K (.ref f) = true ∧ Binds K fd ps []
section
variable {P : Program} {w : World} {K : PySem.W.Frag} {mg : Str → Option Value} {base : Heap} {x qn : Str} {st : Stmt} {f : Addr} {fd : FuncData} {N ps : List Str}
end
section
variable {X : Cx} {a : Addr} {oe : Obj} {cls : Value} {dd : Option Addr} {pn : List (Addr × Obj)} {i : Nat} {pos : Pos}
end
end Dm


namespace Dm
open PySem PySem.Spec L2 PyProof.Rows
variable [WdI]
inductive HdsA (X : Cx) : List ExceptHandler → List (Value × Option Nat × (Addr → Value → Option Addr → TS)) → Prop
  | nil : HdsA X [] []
  | cons {x : Str} {c : Value} {ts : Addr → Value → Option Addr → TS} {b₀ : Stmt} {suite : List Stmt} {np pos' : Pos} {hds : List ExceptHandler} {l : List (Value × Option Nat × (Addr → Value → Option Addr → TS))} (hc : Names X x c)
      (hsu : ∀ (a : Addr) (oe : Obj) (cls : Value) (d : Option Addr) (pn : List (Addr × Obj)), Zc cls d oe → (∃ vs, oe.data = .fields vs) → PSs (X.suite a ((a, oe) :: pn)) (b₀ :: suite) (ts a cls d)) (r : HdsA X hds l) :
      HdsA X (.ExceptHandler (some (.Name x np)) none (b₀ :: suite) pos' :: hds) ((c, none, ts) :: l)
  | consA {x n : Str} {c : Value} {i : Nat} {ts : Addr → Value → Option Addr → TS} {b₀ : Stmt} {suite : List Stmt} {np pos' : Pos} {hds : List ExceptHandler} {l : List (Value × Option Nat × (Addr → Value → Option Addr → TS))} (hi : X.N[i]? = some n) (hln : X.env.kindOf n = some .local) (hc : Names X x c)
      (hsu : ∀ (a : Addr) (oe : Obj) (cls : Value) (d : Option Addr) (pn : List (Addr × Obj)), Zc cls d oe → (∃ vs, oe.data = .fields vs) → PSs (X.suite a ((a, oe) :: pn)) (b₀ :: suite) (ts a cls d)) (r : HdsA X hds l) :
      HdsA X (.ExceptHandler (some (.Name x np)) (some n) (b₀ :: suite) pos' :: hds) ((c, some i, ts) :: l)
section
variable {X : Cx} {body : List Stmt} {h₀ : ExceptHandler} {hds : List ExceptHandler} {l : List (Value × Option Nat × (Addr → Value → Option Addr → TS))} {pos : Pos} {tb : WX → TS} {Wout : WX}
end
end Dm


namespace Dm
open PySem PySem.Spec L2 PyProof.Rows
variable [WdI]
abbrev Gm := Str → List (Str × D) → Gv → Option OutG
abbrev UF : WX := fun _ _ _ _ => False
def ErIn (K : PySem.W.Frag) (mg : Str → Option Value) (a : Addr) (cls : Value) (dd : Option Addr) (io : Option Nat) (σ : L2.St) (F H : Hp) (c : Str) (fs : List (Str × D)) : Prop :=
  ErC K mg cls dd F H c fs ∧ ∀ i, io = some i → σ[i]? = some (some (.ref a))
def tGSE (K : PySem.W.Frag) (mg : Str → Option Value) (a : Addr) (cls : Value) (dd : Option Addr) (io : Option Nat) (m : Gm) : TS := fun D σ H => ∃ F0 H0 F φ γ c fs o, EOk K mg F0 H0 F H φ σ γ ∧ ErIn K mg a cls dd io σ F H c fs ∧ m c fs γ = some o ∧ PostG K mg UF D F0 H0 F φ o
abbrev GSE (X : Cx) (a : Addr) (oe : Obj) (cls : Value) (dd : Option Addr) (pn : List (Addr × Obj)) (io : Option Nat) (ss : List Stmt) (m : Gm) : Prop := PSs (X.suite a ((a, oe) :: pn)) ss (tGSE X.K X.mg a cls dd io m)
def smOf (m : Gv → Option OutG) : Gm := fun _ _ γ => m γ
def smRet (m : Em) : Gm := fun c fs γ => (m c fs (pur γ.sl)).bind fun d => some (.rt (.d d) γ.g)
section
variable {X : Cx} {a : Addr} {oe : Obj} {cls : Value} {dd : Option Addr} {pn : List (Addr × Obj)} {i : Nat} {pos : Pos} {e : Expr} {m : Em} {io : Option Nat}
theorem ErIn.at_ {K : PySem.W.Frag} {mg : Str → Option Value} {σ : L2.St} {F H : Hp} {c : Str} {fs : List (Str × D)} (h : ErIn K mg a cls dd (some i) σ F H c fs) : ErAt K mg a cls dd i σ F H c fs := ⟨h.2 i rfl, h.1⟩
end
def clrG (io : Option Nat) (sl : List (Option W)) : List (Option W) := match io with
  | some i => sl.set i none
  | none => sl
def outS (io : Option Nat) : OutG → Option OutG
  | .nx γ => some (.nx ⟨clrG io γ.sl, γ.g⟩)
  | .bk γ => some (.bk ⟨clrG io γ.sl, γ.g⟩)
  | .ct γ => some (.ct ⟨clrG io γ.sl, γ.g⟩)
  | .rt w g => some (.rt w g)
  | .ex _ _ _ => none
def inSl (io : Option Nat) (n : Nat) : Bool := match io with
  | some i => decide (i < n)
  | none => true
def hHds : List (List (Str × Bool) × Option Nat × Gm) → Str → List (Str × D) → Gv → Option OutG
  | [], c, fs, γ => some (.ex c fs γ)
  | (tbl, io, m) :: r, c, fs, γ => match tbl.lookup c with
    | some true => if inSl io γ.sl.length = true then (m c fs ⟨clrG io γ.sl, γ.g⟩).bind (outS io) else none
    | some false => hHds r c fs γ
    | none => none
def hTry (b : Gv → Option OutG) (hs : List (List (Str × Bool) × Option Nat × Gm)) : Gv → Option OutG := fun γ => (b γ).bind fun o => match o with
  | .ex c fs γ' => hHds hs c fs γ'
  | o => some o
inductive HdsG (X : Cx) : List ExceptHandler → List (List (Str × Bool) × Option Nat × Gm) → Prop
  | nil : HdsG X [] []
  | cons {x : Str} {cc : Value} {tbl : List (Str × Bool)} {m : Gm} {b₀ : Stmt} {suite : List Stmt} {np pos' : Pos} {hds : List ExceptHandler} {l : List (List (Str × Bool) × Option Nat × Gm)} (hc : Names X x cc) (CT : ExT X.K X.mg cc tbl)
      (hsu : ∀ (a : Addr) (oe : Obj) (cls : Value) (dd : Option Addr) (pn : List (Addr × Obj)), Zc cls dd oe → (∃ vs, oe.data = .fields vs) → GSE X a oe cls dd pn none (b₀ :: suite) m) (r : HdsG X hds l) :
      HdsG X (.ExceptHandler (some (.Name x np)) none (b₀ :: suite) pos' :: hds) ((tbl, none, m) :: l)
  | consA {x n : Str} {i : Nat} {cc : Value} {tbl : List (Str × Bool)} {m : Gm} {b₀ : Stmt} {suite : List Stmt} {np pos' : Pos} {hds : List ExceptHandler} {l : List (List (Str × Bool) × Option Nat × Gm)} (hi : X.N[i]? = some n) (hln : X.env.kindOf n = some .local) (hc : Names X x cc) (CT : ExT X.K X.mg cc tbl)
      (hsu : ∀ (a : Addr) (oe : Obj) (cls : Value) (dd : Option Addr) (pn : List (Addr × Obj)), Zc cls dd oe → (∃ vs, oe.data = .fields vs) → GSE X a oe cls dd pn (some i) (b₀ :: suite) m) (r : HdsG X hds l) :
      HdsG X (.ExceptHandler (some (.Name x np)) (some n) (b₀ :: suite) pos' :: hds) ((tbl, some i, m) :: l)
section
variable {X : Cx} {U : WX} {pos : Pos}
end
end Dm


namespace L2
open PySem PySem.Spec PyProof.Rows
section
variable {X : Cx} {e : Expr} {td : TE} {apos cpos pos : Pos}
end
end L2
namespace Dm
open PySem PySem.Spec L2 PyProof.Rows
variable [WdI]
section
variable {K : PySem.W.Frag} {mg : Str → Option Value} {F0 H0 F H F' H' : Hp} {φ φ' : Ph} {σ : L2.St} {γ : Gv}
section
variable {a : Addr} {od : Obj} {kvs : List (Key × V)} (hf : F a = some (.frz od (.dK kvs)))
include hf
end
end
def giveBack (n : Nat) (ks : List Key) (ws : List W) (g : List GO) : Option (List GO) := match g[n]? with
  | some (.out _, _) => some (g.set n (.dct ks, ws))
  | _ => none
def backG (n : Nat) (ks : List Key) (ws : List W) : OutG → Option OutG
  | .nx γ => (giveBack n ks ws γ.g).bind fun g => some (.nx ⟨γ.sl, g⟩)
  | .bk γ => (giveBack n ks ws γ.g).bind fun g => some (.bk ⟨γ.sl, g⟩)
  | .ct γ => (giveBack n ks ws γ.g).bind fun g => some (.ct ⟨γ.sl, g⟩)
  | .rt w g => (giveBack n ks ws g).bind fun g => some (.rt w g)
  | .ex _ _ _ => none
def hLock (f : Gv → Option Nat) (b : Gv → Option OutG) : Gv → Option OutG := fun γ => (f γ).bind fun n => match γ.g[n]? with
  | some (.dct ks, ws) => (b ⟨γ.sl, γ.g.set n (.out ks, ws)⟩).bind (backG n ks ws)
  | _ => none
/-- the number that an expression gives -/
def numOf (m : Gv → Option (RG W)) : Gv → Option Nat := fun γ => match m γ with
  | some (.ok (.rf n) _) => some n
  | _ => none
section
variable {X : Cx} {U : WX} {pos apos cpos : Pos} {st : Stmt} {e : Expr} {m : Gv → Option (RG W)} {b : Gv → Option OutG}
def srcV (n : Nat) : Src := fun g i => match g[n]? with
  | some (.out _, ws) => some ws[i]?
  | _ => none
def giVals (m : Gv → Option (RG W)) : Gv → Option (RG Src) := fun γ => gB (m γ) fun w g => match w with
  | .rf n => match g[n]? with
    | some (.out _, _) => some (.ok (srcV n) g)
    | _ => none
  | _ => none
def gDict0 : Gv → Option (RG W) := fun γ => some (.ok (.rf γ.g.length) (γ.g ++ [(.dct [], [])]))
def gLVals (m : Gv → Option (RG W)) : Gv → Option (RG W) := fun γ => gB (m γ) fun w g => match w with
  | .rf n => match g[n]? with
    | some (.dct _, ws) => some (.ok (.rf g.length) (g ++ [(.lst, ws)]))
    | _ => none
  | _ => none
end
end Dm


namespace Dm
open PySem PySem.Spec L2 PyProof.Rows
variable [WdI]
section
variable {K : PySem.W.Frag} {mg : Str → Option Value} {F0 H0 F H F' H' : Hp} {φ φ' : Ph} {σ : L2.St} {γ : Gv} {g : List GO}
end
section
variable {X : Cx} {U : WX} {pos : Pos} {a b e : Expr} {rest : List Expr} {m m' : Gv → Option (RG W)}
def toBW : W → Option Bool
  | .d (.bool k) => some k
  | _ => none
def gAndV (a b : Gv → Option (RG W)) : Gv → Option (RG W) := fun γ => gB (a γ) fun w g => (toBW w).bind fun k => if k = true then b ⟨γ.sl, g⟩ else some (.ok (.d (.bool false)) g)
def truW : W → List GO → Option Bool := fun w g => match w with
    | .d x => truD x
    | .rf n => match g[n]? with
      | some (.lst, ws) => some (!ws.isEmpty)
      | some (.dct _, ws) => some (!ws.isEmpty)
      | _ => none
    | .tup ws => some (!ws.isEmpty)
def gNotV (a : Gv → Option (RG W)) : Gv → Option (RG W) := fun γ => gB (a γ) fun w g => (truW w g).bind fun k => some (.ok (.d (.bool (!k))) g)
end
section
variable {P : Program} {w : World} {K : PySem.W.Frag} {mg : Str → Option Value} {base : Heap} {k n : Nat} {ps : List Str} {f : Addr} {fd : FuncData}
theorem FnOk.d0 {g : List D → Option Res} (G : FnOk P w K mg base (CX P w) k f fd ps (spX K mg n g)) : FnOk P w K mg base CX0 k f fd ps (spD K mg n fun ds => (g ds).bind okD) := by
  have h : ∀ {vs : List V} {H : Hp} {Q : VK} {E : XK}, spD K mg n (fun ds => (g ds).bind okD) vs H Q E → spX K mg n g vs H Q fun _ _ _ => False := fun {vs H Q E} ⟨F, ds, d, s1, ra, hl, e, q⟩ => by
    obtain ⟨r, h1, e⟩ := bind_some e
    cases r with
    | ok d' =>
      cases e
      exact ⟨F, ds, .ok d, s1, ra, hl, h1, q⟩
    | ex c fs => cases e
  refine ⟨fun vs H Q E z => G.len vs H Q (fun _ _ _ => False) (h z), fun A outer s H args us vs Q E hr e0 hb r z => codeAny_mono (G.run A outer s H args us vs Q (fun _ _ _ => False) hr e0 hb r (h z)) fun r s' hq => ?_⟩
  cases r with
  | error e =>
    obtain ⟨a, B, H', cls, d, _, _, _, _, _, _, _, z⟩ := hq
    exact z.elim
  | ok fl =>
    cases fl with
    | ret u => exact hq
    | next => exact hq
    | brk => exact hq
    | cont => exact hq
/-- a law over live objects -/
def lawG (f : List W → List GO → Option (RG W)) : List D → Option D := fun ds => (dG f ds).bind okD
theorem FnOk.law {m : List W → List GO → Option (RG W)} (G : FnOk P w K mg base (CX P w) k f fd ps (spG K mg n m)) : FnOk P w K mg base CX0 k f fd ps (spD K mg n (lawG m)) := FnOk.d0 (FnOk.less G spX_G)
end
end Dm


namespace Dm
open PySem PySem.Spec L2 PyProof.Rows
variable [WdI]
structure MetOkG (P : Program) (w : World) (K : PySem.W.Frag) (mg : Str → Option Value) (base : Heap) (k n : Nat) (c m : Str) (ps : List Str) (g : List W → List GO → Option (RG W)) : Prop where
  ex : ∃ (f : Addr) (fd : FuncData), FnOk P w K mg base (CX P w) k f fd ps (spG K mg n g) ∧ MetF K mg c m f ∧ Binds K fd ps []
section
variable {X : Cx} {U : WX}
end
section
variable {X : Cx} {U : WX} {pos apos p : Pos} {a b o e : Expr} {es : List Expr} {m m' mo : Gv → Option (RG W)} {ms : Gv → Option (RG (List W))}
theorem g_append (ho : GE X U o mo) (ha : GA X U [e] ms) (hbase : attributeBase o "append" X.env (eval o X.env) = eval o X.env := by rfl) (hline : (apos.endLine == pos.line) = true := by rfl) (hs : starEach [e] X.env = (false, eval e X.env) :: starEach [] X.env := by rfl) (hfew : ((backTo pos (starEach [e] X.env)).all (fun x => !x.1) && (backToKw pos (keywordEach [] X.env)).all (fun x => x.1.isSome) && decide (([e] : List Expr).length + ([] : List Keyword).length + (if ([] : List Keyword).isEmpty then 0 else 1) < 30)) = true := by rfl) (hpl : (backTo pos (starEach ([] : List Expr) X.env)).any (·.1) = false := by rfl) :
    GE X U (.Call (.Attribute o "append" apos) [e] [] pos) (gBm isLw appW mo ms) := g_bm ty_list rm_append PySem.F.plainAttrs_list PySem.F.slot_list_append PySem.F.type_list_append mt_append ho ha hbase hfew hline hs hpl
theorem g_extend (ho : GE X U o mo) (ha : GA X U [e] ms) (hbase : attributeBase o "extend" X.env (eval o X.env) = eval o X.env := by rfl) (hline : (apos.endLine == pos.line) = true := by rfl) (hs : starEach [e] X.env = (false, eval e X.env) :: starEach [] X.env := by rfl) (hfew : ((backTo pos (starEach [e] X.env)).all (fun x => !x.1) && (backToKw pos (keywordEach [] X.env)).all (fun x => x.1.isSome) && decide (([e] : List Expr).length + ([] : List Keyword).length + (if ([] : List Keyword).isEmpty then 0 else 1) < 30)) = true := by rfl) (hpl : (backTo pos (starEach ([] : List Expr) X.env)).any (·.1) = false := by rfl) :
    GE X U (.Call (.Attribute o "extend" apos) [e] [] pos) (gBm isLw extW mo ms) := g_bm ty_list rm_extend PySem.F.plainAttrs_list PySem.F.slot_list_extend PySem.F.type_list_extend mt_extendA ho ha hbase hfew hline hs hpl
theorem g_addL (ha : GE X U a m) (hb : GE X U b m') : GE X U (.BinOp a .Add b pos) (g2 addLW m m') := g_op op_catG r_addLW ha hb
end
end Dm


namespace Dm
open PySem PySem.Spec L2 PyProof.Rows
def sortA (ds : List D) : List D := ds.mergeSort (PySem.W.dataLe false (fun d : D => d))
theorem alike_same {a b : D} (h : sameD a b = true) : PySem.W.alike a b = true := by
  cases a <;> cases b <;> first
    | rfl
    | (exact absurd h (by simp [sameD]))
theorem same_self {ds : List D} (h : allSame ds = true) {d : D} (hd : d ∈ ds) : sameD d d = true := by
  unfold allSame at h
  rw [List.all_eq_true] at h
  exact List.all_eq_true.mp (h d hd) d hd
theorem alike_all {ds : List D} (h : allSame ds = true) : PySem.W.AllAlike ds := fun d hd e he => by
  unfold allSame at h
  rw [List.all_eq_true] at h
  exact alike_same (List.all_eq_true.mp (h d hd) e he)
theorem sortable_all {ds : List D} (h : allSame ds = true) : PySem.W.Sortable ds := .inr fun d hd => by
  have := same_self h hd
  cases d <;> first
    | (simp [sameD] at this; done)
    | exact ⟨by simp, by simp⟩
theorem same_depth {d : D} (h : sameD d d = true) : d.depth = 0 := by
  cases d <;> first
    | rfl
    | (exact absurd h (by simp [sameD]))
section
variable {K : PySem.W.Frag} {mg : Str → Option Value} {F : Hp} {h : Heap}
theorem reads_flat {x : V} {v : Value} {d : D} (r : RelV x v) (p : Rp K mg F x d) (hd : sameD d d = true) : ∃ as, Reads h v d as := by
  cases d with
  | int i =>
    cases p
    obtain ⟨t, rfl⟩ := r
    exact ⟨_, .int _ _⟩
  | str s =>
    cases p
    obtain ⟨t, rfl⟩ := r
    exact ⟨_, .str _ _⟩
  | bool b =>
    cases p
    cases r
    exact ⟨_, .bool _⟩
  | _ => exact absurd hd (by simp [sameD])
theorem each_flat : ∀ {vs : List Value} {ds : List D} {xs : List V}, Vals xs vs → RpA K mg F xs ds → (∀ d ∈ ds, sameD d d = true) → PySem.W.EachIs (fun v d => ∃ as, Reads h v d as) vs ds
  | _, _, _, .nil, .nil, _ => .nil
  | _, _, _, .cons r t, .cons p q, hd => .cons (reads_flat r p (hd _ List.mem_cons_self)) (each_flat t q fun d hm => hd d (List.mem_cons_of_mem _ hm))
theorem each_back1 : ∀ {vs : List Value} {bs : List D}, PySem.W.EachIs (fun v (b : D) => ∃ x, RelV x v ∧ Rp K mg F x b) vs bs → ∃ xs : List V, Vals xs vs ∧ RpA K mg F xs bs
  | _, _, .nil => ⟨[], .nil, .nil⟩
  | _, _, .cons ⟨x, r, p⟩ t => by
    obtain ⟨xs, h1, h2⟩ := each_back1 t
    exact ⟨x :: xs, .cons r h1, .cons p h2⟩
end
theorem sortA_len (ds : List D) : (sortA ds).length = ds.length := List.length_mergeSort ..
theorem map_id' {α : Type} (l : List α) : l.map (fun d : α => d) = l := List.map_id' l
/-- what sorted of a list asks, over data -/
def rSortA (X : Cx) : List V → Hp → VK → Prop := fun vs H Q => ∃ (F : Hp) (l : Addr) (xs : List V) (ds : List D), vs = [V.ref l] ∧ Same F H ∧ SqL X.K H l xs ∧ RpA X.K X.mg F xs ds ∧ allSame ds = true ∧
  ∀ (p : Addr) (ys : List V), H p = none → RpA X.K X.mg F ys (sortA ds) → Q (.ref p) (upd H p (.lst ys))
theorem cr_sortA {X : Cx} (hu : X.A.units + 2 < cLine) : CallR X (.builtin "sorted") (rSortA X) := by
  intro pins s σ H vs us Q I r h
  obtain ⟨F, l, xs, ds, rfl, hs, hl, ra, hk, q⟩ := h
  obtain rfl := Vals.ref1 r
  obtain ⟨its, rv, pl, hz⟩ := I.list hl
  have hdl : ds.length ≤ sizeLine := by rw [← ra.length]; exact hz
  have hself : ∀ d ∈ ds, sameD d d = true := fun d hd => same_self hk hd
  refine PySem.W.sorted_data (enc := fun d : D => d) (bs := ds) (R := fun v d => ∃ x, RelV x v ∧ Rp X.K X.mg F x d) pl.isList (each_rel rv ra) (each_flat rv ra hself) (by rw [map_id']; exact alike_all hk) (by rw [map_id']; exact sortable_all hk) hdl (fun b hb => by rw [same_depth (hself b hb)]; exact hu) fun out hlen ho => ?_
  obtain ⟨ys, hv, hy⟩ := each_back1 ho
  obtain ⟨ep, he⟩ := sortedAll_at s.heap its out.toArray
  have hl2 : ys.length ≤ sizeLine := by
    rw [hv.length, hlen]
    exact hdl
  exact ⟨.ref (s.heap.objs.size + 1), _, I.laid (t' := s.toks) (o := .lst ys) (fun b o e => sortedAll_old e) (Nat.le_succ _) ⟨hl2, out, ep, hv, he⟩, rfl, q _ ys (I.hok.fresh (Nat.le_succ _)) hy⟩
def fSortA : List D → Option D
  | [.list ds] => if allSame ds = true then some (.list (sortA ds)) else none
  | _ => none
theorem rc_sortA {X : Cx} : RCD X.K X.mg (rSortA X) fSortA := fun F H vs ds d Q s r e q => by
  unfold fSortA at e
  split at e
  · rename_i es
    split at e
    · rename_i hk
      cases e
      cases r with
      | cons r1 r0 =>
        cases r0
        cases r1 with
        | lst hs ra =>
          refine ⟨F, _, _, es, rfl, s, sqL_mono s hs, ra, hk, fun p ys hn ry => ?_⟩
          exact q _ _ _ (Stp.new s hn) (.lst (.inl (.inl upd_same)) (ry.mono (same_new (same_free s hn))))
    · cases e
  · cases e
theorem d_sortA {X : Cx} {pos : Pos} {e : Expr} {p : Pos} {es : List Expr} {ms : Ev → Option (List D)} (hu : X.A.units + 2 < cLine) (hm : X.mg "sorted" = none) (ha : DA X (e :: es) ms) (hg : Gl X "sorted" := by rfl) (he : starEach (e :: es) X.env = (false, eval e X.env) :: starEach es X.env := by rfl) (hpl : (backTo pos (starEach es X.env)).any (·.1) = false := by rfl) :
    DE X (.Call (.Name "sorted" p) (e :: es) [] pos) (eB fSortA ms) := d_cb (cr_sortA hu) rc_sortA hm ha (by decide +kernel) hg (by decide) (by decide) he hpl
end Dm


namespace Dm
open PySem PySem.Spec L2 PyProof.Rows
section
variable {prog : Program} {w : World} {A : Around} {E : Value → Shared → Prop} {s : Shared}
structure Lgood (prog : Program) (w : World) (es : List (Int × Value)) (vs : List Value) (ks : List Leaf) : Prop where
  el : ElemsOf (leafKind prog w) es
  src : ∀ e ∈ es, e.2 ∈ vs
  nd : es.Pairwise fun e e' => ∀ k, Leaf.isOf k e.2 = true → Leaf.isOf k e'.2 = true → False
  mem : ∀ k, k ∈ ks ↔ ∃ e, e ∈ es ∧ Leaf.isOf k e.2 = true
  few : es.length ≤ vs.length
theorem Lgood.perm {es es' : List (Int × Value)} {vs : List Value} {ks : List Leaf} (g : Lgood prog w es vs ks) (p : es'.Perm es) : Lgood prog w es' vs ks where
  el := fun e he => g.el e (p.mem_iff.mp he)
  src := fun e he => g.src e (p.mem_iff.mp he)
  nd := (p.pairwise_iff fun {x y} h k h1 h2 => h k h2 h1).mpr g.nd
  mem := fun k => (g.mem k).trans ⟨fun ⟨e, h1, h2⟩ => ⟨e, p.mem_iff.mpr h1, h2⟩, fun ⟨e, h1, h2⟩ => ⟨e, p.mem_iff.mp h1, h2⟩⟩
  few := by rw [p.length_eq]; exact g.few
/-- the set at a holds of vs each value once; in an order that can be walked -/
def LfR (prog : Program) (w : World) (h : Heap) (a : Addr) (vs : List Value) (ks : List Leaf) : Prop := ∃ (o : Obj) (es : Array (Int × Value)) (ep : Nat) (t : SetTable), h.get? a = some o ∧ o.ExactSet ∧ o.data = Data.set es ep t ∧ Lgood prog w es.toList vs ks ∧ es.size < scanBound ∧ t.fits es.size = true ∧ Ris t.place.toList ∧ (w.params.followText "set-order" = true ∨ t.led = true)
theorem LfR.keep {S : Addr} {vs : List Value} {ks : List Leaf} {h h' : Heap} (j : LfR prog w h S vs ks) (k : ∀ o, h.get? S = some o → h'.get? S = some o) : LfR prog w h' S vs ks := by
  obtain ⟨o, es, ep, t, ho, r⟩ := j
  exact ⟨o, es, ep, t, k o ho, r⟩
theorem LfR.nil {S : Addr} {h : Heap} (e : h.get? S = some (set0 w)) : LfR prog w h S [] [] := by
  refine ⟨_, #[], 0, .fresh 0 0 (!w.params.followText "set-order"), e, ⟨rfl, rfl, rfl⟩, rfl, ⟨fun e he => by simp at he, fun e he => by simp at he, .nil, fun k => ⟨fun h => by simp at h, fun ⟨e, h, _⟩ => by simp at h⟩, Nat.le_refl _⟩, by decide, rfl, .nil, ?_⟩
  cases w.params.followText "set-order"
  · exact .inr rfl
  · exact .inl rfl
theorem lf_tail {a : Addr} {g : Bool → Sem Unit} (hg : ∀ (b : Bool) (s₁ : Shared) (Q' : Unit → Shared → Prop), Q' () s₁ → wpAny (model prog w) A (g b) Q' E s₁)
    {o : Obj} {es : Array (Int × Value)} {ep : Nat} {t : SetTable} (ho : s.heap.get? a = some o) (hex : o.ExactSet) (hd : o.data = Data.set es ep t)
    {es1 : Array (Int × Value)} {t2 : SetTable} {vs : List Value} {ks : List Leaf} (g1 : Lgood prog w es1.toList vs ks) (hb1 : es1.size < scanBound) (hf2 : t2.fits es1.size = true) (hr : Ris t2.place.toList) (hl : w.params.followText "set-order" = true ∨ t2.led = true)
    {wasDummy : Bool} {R : Option Bool → Shared → Prop}
    (hR : ∀ h' : Heap, Heap.SameBut a s.heap h' → LfR prog w h' a vs ks → R (some true) { heap := h', gens := s.gens, drawn := s.drawn, toks := s.toks, os := s.os }) :
    wpAny (model prog w) A (do
      storeSet a es1 t2
      if (!wasDummy && t2.tooFull) = true then do
        g (relayAll t2 es1 (SetTable.grown es1.size)).snd.snd
        storeSet a (relayAll t2 es1 (SetTable.grown es1.size)).fst (relayAll t2 es1 (SetTable.grown es1.size)).snd.fst
        pure (some true)
      else pure (some true)) R E s := by
  refine wpAny_bind (wpAny_storeSet_of ho hd ?_ (fits_of_scanBound hb1))
  have ho1 := PpSet.storeB_at (es' := es1) (t' := t2) ho hd
  have sb1 := Heap.SameBut.update s.heap a (Obj.putSet es1 t2)
  by_cases h : (!wasDummy && t2.tooFull) = true
  · rw [if_pos h]
    have pm := relayAll_perm t2 es1 (SetTable.grown es1.size)
    have hf3 := relayAll_fits t2 es1 (SetTable.grown es1.size)
    have hr3 := relayAll_ris t2 es1 (SetTable.grown es1.size)
    have hl3 := relayAll_led t2 es1 (SetTable.grown es1.size)
    generalize relayAll t2 es1 (SetTable.grown es1.size) = x at pm hf3 hr3 hl3
    obtain ⟨es2, t3, gave⟩ := x
    simp only at pm hf3 hr3 hl3 ⊢
    have hsz : es2.size = es1.size := by
      have := pm.length_eq
      rw [Array.length_toList, Array.length_toList] at this
      exact this
    refine wpAny_bind (hg gave _ _ (wpAny_bind (wpAny_storeSet_of ho1 rfl ?_ (fits_of_scanBound (by rw [hsz]; exact hb1)))))
    refine wpAny_pure (hR _ (sb1.trans (Heap.SameBut.update _ a (Obj.putSet es2 t3))) ⟨_, es2, _, t3, PpSet.storeB_at ho1 rfl, hex, rfl, g1.perm pm, by rw [hsz]; exact hb1, hf3, hr3, hl.imp id fun z => by rw [hl3]; exact z⟩)
  · rw [if_neg h]
    exact wpAny_pure (hR _ sb1 ⟨_, es1, _, t2, ho1, hex, rfl, g1, hb1, hf2, hr, hl⟩)
theorem lf_add {a : Addr} {vs : List Value} {ks : List Leaf} {x : Value} {k : Leaf} {Q : Bool → Shared → Prop} (hk : Leaf.isOf k x = true) (hsc : x.scannable = true) (R : LfR prog w s.heap a vs ks) (few : vs.length + 1 < scanBound)
    (hQ : ∀ (b : Bool) (h' : Heap), Heap.SameBut a s.heap h' → LfR prog w h' a (vs ++ [x]) (ks ++ [k]) → Q b { heap := h', gens := s.gens, drawn := s.drawn, toks := s.toks, os := s.os }) :
    wpAny (model prog w) A (setAddHashed a x ((leafKind prog w).hash k)) Q E s := by
  obtain ⟨o, es, ep, t, ho, hex, hd, g, hb, hf, hr, hl⟩ := R
  have hkey : (leafKind prog w).is k x = true := hk
  have hel := g.el
  have hfw := g.few
  rw [Array.length_toList] at hfw
  show wpAny (model prog w) A (holding [x] (setAddHashedIn a x ((leafKind prog w).hash k) 100000)) Q E s
  rw [setAddHashedIn.eq_def]
  refine wpAny_holding (wpAny_bind (wpAny_setState_of ho hd hf ?_))
  show wpAny (model prog w) A (if byScan x es = true then _ else _) Q E s
  rw [byScan_of hsc hb hel, if_pos rfl]
  unfold setAddByScan
  refine wpAny_bind (wpAny_bind (wpAny_rule (wpAny_bind (wpAny_setScan_of hkey ho hd hf hel ?_))))
  have fin : ∀ (h' : Heap), Heap.SameBut a s.heap h' → LfR prog w h' a (vs ++ [x]) (ks ++ [k]) → Q true { heap := h', gens := s.gens, drawn := s.drawn, toks := s.toks, os := s.os } := fun h' sb r => hQ true h' sb r
  cases hfi : es.toList.findIdx? (fun e => (leafKind prog w).is k e.snd) with
  | some j =>
    have hin : ∃ e, e ∈ es.toList ∧ Leaf.isOf k e.2 = true := by
      obtain ⟨hj, pj, _⟩ := List.findIdx?_eq_some_iff_getElem.mp hfi
      exact ⟨es.toList[j], List.getElem_mem hj, pj⟩
    refine wpAny_pure (wpAny_pure (hQ false s.heap (Heap.SameBut.refl a s.heap) ⟨o, es, ep, t, ho, hex, hd, ⟨g.el, fun e he => List.mem_append_left _ (g.src e he), g.nd, fun k' => ?_, by rw [List.length_append]; exact Nat.le_trans g.few (Nat.le_add_right _ _)⟩, hb, hf, hr, hl⟩))
    rw [List.mem_append, List.mem_singleton]
    exact ⟨fun h => h.elim (g.mem k').mp (fun e => e ▸ hin), fun h => .inl ((g.mem k').mpr h)⟩
  | none =>
    have g0 := layNew_perm t es ((leafKind prog w).hash k) x
    have f0 := layNew_fits t es ((leafKind prog w).hash k) x
    have r0 := layNew_ris t es ((leafKind prog w).hash k) x hr
    have l0 := layNew_led t es ((leafKind prog w).hash k) x
    have hno : ∀ e ∈ es.toList, (leafKind prog w).is k e.2 = false := fun e he => by
      have := List.findIdx?_eq_none_iff.mp hfi e he
      simpa using this
    have hb1 : (layNew t es ((leafKind prog w).hash k) x).1.size < scanBound := by
      have := g0.length_eq
      rw [Array.length_toList, Array.length_toList, Array.size_push] at this
      omega
    have g1 : Lgood prog w (layNew t es ((leafKind prog w).hash k) x).1.toList (vs ++ [x]) (ks ++ [k]) := by
      refine Lgood.perm ?_ g0
      rw [Array.toList_push]
      refine ⟨fun e he => ?_, fun e he => ?_, ?_, fun k' => ?_, ?_⟩
      · rcases List.mem_append.mp he with h | h
        · exact hel e h
        · rw [List.mem_singleton.mp h]
          exact ⟨⟨k, hkey, rfl⟩, hsc⟩
      · rcases List.mem_append.mp he with h | h
        · exact List.mem_append_left _ (g.src e h)
        · rw [List.mem_singleton.mp h]
          exact List.mem_append_right _ (List.mem_singleton.mpr rfl)
      · rw [List.pairwise_append]
        refine ⟨g.nd, List.pairwise_singleton _ _, fun e he e' he' k' h1 h2 => ?_⟩
        rw [List.mem_singleton.mp he'] at h2
        have ek : k' = k := (leafKind prog w).inj x k' k h2 hkey
        rw [ek] at h1
        have := hno e he
        rw [show (leafKind prog w).is k e.2 = true from h1] at this
        cases this
      · rw [List.mem_append, List.mem_singleton]
        constructor
        · rintro (h | rfl)
          · obtain ⟨e, h1, h2⟩ := (g.mem k').mp h
            exact ⟨e, List.mem_append_left _ h1, h2⟩
          · exact ⟨_, List.mem_append_right _ (List.mem_singleton.mpr rfl), hk⟩
        · rintro ⟨e, h1, h2⟩
          rcases List.mem_append.mp h1 with h | h
          · exact .inl ((g.mem k').mpr ⟨e, h, h2⟩)
          · rw [List.mem_singleton.mp h] at h2
            exact .inr ((leafKind prog w).inj x k' k h2 hkey)
      · rw [List.length_append, List.length_append]
        exact Nat.add_le_add_right g.few 1
    have hL : w.params.followText "set-order" = true ∨ (layNew t es ((leafKind prog w).hash k) x).2.1.led = true := hl.imp id fun z => by rw [l0]; exact z
    simp only []
    generalize layNew t es ((leafKind prog w).hash k) x = y at g0 f0 r0 l0 hb1 g1 hL ⊢
    obtain ⟨es1, t1, wd, gv⟩ := y
    simp only at g0 f0 r0 l0 hb1 g1 hL ⊢
    have hbv : ∃ b, hashByValue 8 x = pure b := by
      cases x with
      | none => exact ⟨_, rfl⟩
      | bool b => exact ⟨_, rfl⟩
      | int i t => exact ⟨_, rfl⟩
      | str i t => exact ⟨_, rfl⟩
      | bytes i t => exact ⟨_, rfl⟩
      | _ => cases hsc
    obtain ⟨bv, ebv⟩ := hbv
    have hT : ∀ b : Bool, (if b = true then t1 else { t1 with plain := false }).fits es1.size = true ∧ Ris (if b = true then t1 else { t1 with plain := false }).place.toList ∧ (w.params.followText "set-order" = true ∨ (if b = true then t1 else { t1 with plain := false }).led = true) := fun b => by
      cases b
      · exact ⟨SetTable.fits_plain_off f0, r0, hL⟩
      · exact ⟨f0, r0, hL⟩
    refine wpAny_bind ?_
    cases gv <;> first
      | refine wpAny_pure ?_
      | refine wpAny_rule ?_
    all_goals
      by_cases hp : t1.plain = true
      · rw [if_pos hp, ebv]
        refine wpAny_bind (wpAny_pure ?_)
        refine lf_tail (fun b s₁ Q' q => by
          cases b
          · exact wpAny_pure q
          · exact wpAny_rule q) ho hex hd g1 hb1 (hT bv).1 (hT bv).2.1 (hT bv).2.2 fun h' sb r => wpAny_pure (fin h' sb r)
      · rw [if_neg hp]
        refine wpAny_bind (wpAny_pure ?_)
        refine lf_tail (fun b s₁ Q' q => by
          cases b
          · exact wpAny_pure q
          · exact wpAny_rule q) ho hex hd g1 hb1 (hT true).1 (hT true).2.1 (hT true).2.2 fun h' sb r => wpAny_pure (fin h' sb r)
end
section
variable {prog : Program} {w : World} {A : Around} {E : Value → Shared → Prop} {s : Shared}
theorem lf_put {S : Addr} {vs : List Value} {ks : List Leaf} {x : Value} {k : Leaf} {Q : Bool → Shared → Prop} (hk : Leaf.isOf k x = true) (hsc : x.scannable = true) (R : LfR prog w s.heap S vs ks) (few : vs.length + 1 < scanBound)
    (q : ∀ b h' tk, s.toks ≤ tk → LfR prog w h' S (vs ++ [x]) (ks ++ [k]) → (∀ a, a ≠ S → h'.get? a = s.heap.get? a) → Q b { s with heap := h', toks := tk }) : wpAny (model prog w) A (setAdd S x) Q E s := by
  unfold setAdd
  refine wpAny_holding (wpAny_bind ((leafKind prog w).pyHash (k := k) hk ?_))
  exact lf_add (s := { s with toks := s.toks + 1 }) hk hsc R few fun b h' sb r => q b h' _ (Nat.le_succ _) r sb.2
theorem leaf_scan {k : Leaf} {v : Value} (h : Leaf.isOf k v = true) : v.scannable = true := by
  cases k <;> cases v <;> first
    | rfl
    | exact absurd h Bool.false_ne_true
/-- set(xs), xs a list of plain values -/
theorem set_lf {l : Addr} {items : Array Value} {xs : List Leaf} {Q : Value → Shared → Prop} (calm : A.handled = none) (hl : s.heap.IsList l items) (hi : LeafsAre items.toList xs) (few : xs.length + 1 < scanBound)
    (q : ∀ h' tk, LfR prog w h' s.heap.objs.size items.toList xs → (∀ b o, s.heap.get? b = some o → h'.get? b = some o) → Q (.ref s.heap.objs.size) { s with heap := h', toks := tk }) : wpAny (model prog w) A (call (.type "set") [.ref l]) Q E s := by
  obtain ⟨o, ho, hc, n, hd⟩ := hl
  have len : items.size = xs.length := by rw [← hi.len, Array.length_toList]
  refine set_row .l ho hc hd ?_
  obtain ⟨n1, n2, n3⟩ := two_new (h := s.heap) (x := set0 w) (y := { cls := .type "list_iterator", data := .fields #[.ref l, .int 0 0] }) rfl rfl
  have lt := far (Heap.lt_size ho)
  have W := (Walks.list (prog := prog) (w := w) (A := A.in1.in1.in1) (by simp [calm]) (s.heap.objs.size + 1) l lt.1 items).toS
  refine set_items W (S := s.heap.objs.size) lt.2.1 (fun i h => LfR prog w h s.heap.objs.size (items.toList.take i) (xs.take i)) (fun i h h' => LfR.keep) (fun i v s' Q' E' hi' pv j q' => ?_) items.size 0 _ (Nat.zero_add _)
    ⟨⟨_, n2, rfl, rfl⟩, ⟨_, n3 _ _ ho, hc, n, hd⟩⟩ (LfR.nil n1) fun s' mv j => ?_
  · have hv0 : items.toList[i]? = some v := by rw [Array.getElem?_toList]; exact pv
    obtain ⟨k, hk, hv⟩ := hi.get (i := i) (v := v) hv0
    refine lf_put hv (leaf_scan hv) j (by rw [List.length_take]; omega) fun b h' tk le j' same => q' b h' tk le ?_ same
    rw [List.take_succ, hv0, List.take_succ, hk]
    exact j'
  · obtain ⟨h', g', d', tk', os'⟩ := s'
    obtain rfl : g' = s.gens := mv.gens
    obtain rfl : d' = s.drawn := mv.drawn
    obtain rfl : os' = s.os := mv.os
    refine ⟨rfl, q h' tk' (by
      have e1 : items.toList.take items.size = items.toList := by rw [← Array.length_toList, List.take_length]
      rw [e1, len, List.take_length] at j
      exact j) fun b o' e => mv.heap b o' (far (Heap.lt_size e)).2.2 (n3 b o' e)⟩
end
abbrev leA : D → D → Bool := PySem.W.dataLe false (fun d : D => d)
theorem leA_def (a b : D) : leA a b = !lexLt itemOrd (PySem.W.keyToks b) (PySem.W.keyToks a) := rfl
theorem leA_total : PySem.W.TotalLe leA := PySem.W.sortLe_total _ _ _
theorem tok_inj {a b : D} (h : sameD a b = true) (e : PySem.W.keyToks a = PySem.W.keyToks b) : a = b := by
  cases a <;> cases b <;> first
    | (simp [sameD] at h; done)
    | skip
  · rename_i p q
    cases p <;> cases q <;> first
      | rfl
      | (simp [PySem.W.keyToks] at e; done)
  · simp [PySem.W.keyToks] at e
    rw [e]
  · rename_i p q
    cases p
    cases q
    simp [PySem.W.keyToks] at e
    rw [e]
theorem leA_anti {a b : D} (h : sameD a b = true) (h1 : leA a b = true) (h2 : leA b a = true) : a = b := by
  rw [leA_def, Bool.not_eq_true'] at h1 h2
  exact tok_inj h ((listOrd itemOrd).total _ _ h2 h1)
theorem leaf_eq {a b : D} {k : Leaf} (h : sameD a b = true) (h1 : leafD a = some k) (h2 : leafD b = some k) : a = b := by
  cases a <;> cases b <;> first
    | (simp [sameD] at h; done)
    | skip
  · rename_i p q
    cases p <;> cases q <;> first
      | rfl
      | (simp [leafD] at h1 h2; rw [← h1] at h2; simp at h2; done)
  · simp [leafD] at h1 h2
    rw [← h1] at h2
    cases h2
    rfl
  · simp [leafD] at h1 h2
    rw [← h1] at h2
    cases h2
    rfl
theorem leafD_some {d : D} (h : sameD d d = true) : ∃ k, leafD d = some k := by
  cases d <;> first
    | exact ⟨_, rfl⟩
    | (simp [sameD] at h; done)
theorem eqv_same {a b : D} (h : sameD a b = true) : PyData.eqv a b = true ↔ a = b := by
  cases a <;> cases b <;> first
    | (simp [sameD] at h; done)
    | (simp [PyData.eqv]; done)
/-- each value once -/
def uqD : List D → List D
  | [] => []
  | d :: r => if r.any (fun e => PyData.eqv d e) = true then uqD r else d :: uqD r
theorem allSame_cons {d : D} {r : List D} (h : allSame (d :: r) = true) : allSame r = true ∧ ∀ e ∈ r, sameD d e = true := by
  unfold allSame at h ⊢
  rw [List.all_eq_true] at h
  refine ⟨List.all_eq_true.mpr fun x hx => List.all_eq_true.mpr fun y hy => ?_, fun e he => ?_⟩
  · exact List.all_eq_true.mp (h x (List.mem_cons_of_mem _ hx)) y (List.mem_cons_of_mem _ hy)
  · exact List.all_eq_true.mp (h d List.mem_cons_self) e (List.mem_cons_of_mem _ he)
theorem any_same {d : D} {r : List D} (h : ∀ e ∈ r, sameD d e = true) : r.any (fun e => PyData.eqv d e) = true ↔ d ∈ r := by
  rw [List.any_eq_true]
  exact ⟨fun ⟨e, he, q⟩ => (eqv_same (h e he)).mp q ▸ he, fun he => ⟨d, he, (eqv_same (h d he)).mpr rfl⟩⟩
theorem uqD_mem : ∀ {ds : List D}, allSame ds = true → ∀ {x : D}, x ∈ uqD ds ↔ x ∈ ds
  | [], _, x => Iff.rfl
  | d :: r, h, x => by
    obtain ⟨h1, h2⟩ := allSame_cons h
    have ih := uqD_mem h1 (x := x)
    unfold uqD
    split
    · rename_i hd
      rw [ih, List.mem_cons]
      exact ⟨.inr, fun z => z.elim (fun e => e ▸ (any_same h2).mp hd) id⟩
    · rw [List.mem_cons, List.mem_cons, ih]
theorem uqD_nodup : ∀ {ds : List D}, allSame ds = true → (uqD ds).Nodup
  | [], _ => .nil
  | d :: r, h => by
    obtain ⟨h1, h2⟩ := allSame_cons h
    unfold uqD
    split
    · exact uqD_nodup h1
    · rename_i hd
      exact List.nodup_cons.mpr ⟨fun z => hd ((any_same h2).mpr ((uqD_mem h1).mp z)), uqD_nodup h1⟩
theorem sortA_one {l m : List D} (h : ∀ a ∈ l, ∀ b ∈ l, sameD a b = true) (p : l.Perm m) : sortA l = sortA m := by
  have q1 := PySem.W.sort_pairwise leA_total l
  have q2 := PySem.W.sort_pairwise leA_total m
  have pl : (sortA l).Perm l := List.mergeSort_perm ..
  have pm : (sortA m).Perm m := List.mergeSort_perm ..
  refine List.Perm.eq_of_pairwise (fun a b ha hb h1 h2 => ?_) q1 q2 ((pl.trans p).trans pm.symm)
  exact leA_anti (h a (pl.mem_iff.mp ha) b (p.mem_iff.mpr (pm.mem_iff.mp hb))) h1 h2
theorem sortable_of {ds : List D} (h : ∀ d ∈ ds, sameD d d = true) : PySem.W.Sortable ds := .inr fun d hd => by
  have := h d hd
  cases d <;> first
    | (simp [sameD] at this; done)
    | exact ⟨by simp, by simp⟩
/-- sorted(set(ds)) -/
def sortS (ds : List D) : List D := sortA (uqD ds)
theorem allSame_all {ds : List D} (h : allSame ds = true) : ∀ a ∈ ds, ∀ b ∈ ds, sameD a b = true := fun a ha b hb => by
  unfold allSame at h
  rw [List.all_eq_true] at h
  exact List.all_eq_true.mp (h a ha) b hb
theorem leaf_of_rel {K : PySem.W.Frag} {mg : Str → Option Value} {F : Hp} {x : V} {v : Value} {d : D} (r : RelV x v) (p : Rp K mg F x d) (h : sameD d d = true) : ∃ k, leafD d = some k ∧ Leaf.isOf k v = true := by
  obtain ⟨k, hk⟩ := leafD_some h
  refine ⟨k, hk, leaf_is r ?_⟩
  cases d <;> cases p <;> first
    | exact hk
    | (simp [sameD] at h; done)
theorem leafs_alike {K : PySem.W.Frag} {mg : Str → Option Value} {F : Hp} : ∀ {vs : List Value} {ds : List D} {xs : List V}, Vals xs vs → RpA K mg F xs ds → (∀ d ∈ ds, sameD d d = true) → ∃ ks, LeafsAre vs ks ∧ ks.length = ds.length
  | _, _, _, .nil, .nil, _ => ⟨[], .nil, rfl⟩
  | _, _, _, .cons r t, .cons p q, h => by
    obtain ⟨ks, h1, h2⟩ := leafs_alike t q fun d hd => h d (List.mem_cons_of_mem _ hd)
    obtain ⟨k, h3, h4⟩ := leaf_of_rel r p (h _ List.mem_cons_self)
    exact ⟨k :: ks, .cons h4 h1, by rw [List.length_cons, List.length_cons, h2]⟩
section
variable {K : PySem.W.Frag} {mg : Str → Option Value} {F : Hp}
abbrev RvD (K : PySem.W.Frag) (mg : Str → Option Value) (F : Hp) (v : Value) (d : D) : Prop := ∃ x, RelV x v ∧ Rp K mg F x d
theorem each_mem_of : ∀ {vs : List Value} {ds : List D}, PySem.W.EachIs (RvD K mg F) vs ds → ∀ v ∈ vs, ∃ d ∈ ds, RvD K mg F v d
  | _, _, .cons r t, v, hv => by
    rcases List.mem_cons.mp hv with rfl | hv
    · exact ⟨_, List.mem_cons_self, r⟩
    · obtain ⟨d, h1, h2⟩ := each_mem_of t v hv
      exact ⟨d, List.mem_cons_of_mem _ h1, h2⟩
theorem each_mem_back : ∀ {vs : List Value} {ds : List D}, PySem.W.EachIs (RvD K mg F) vs ds → ∀ d ∈ ds, ∃ v ∈ vs, RvD K mg F v d
  | _, _, .cons r t, d, hd => by
    rcases List.mem_cons.mp hd with rfl | hd
    · exact ⟨_, List.mem_cons_self, r⟩
    · obtain ⟨v, h1, h2⟩ := each_mem_back t d hd
      exact ⟨v, List.mem_cons_of_mem _ h1, h2⟩
theorem each_pick {ds : List D} : ∀ {o : List Value}, (∀ v ∈ o, ∃ d ∈ ds, RvD K mg F v d) → ∃ bs, PySem.W.EachIs (RvD K mg F) o bs ∧ ∀ b ∈ bs, b ∈ ds
  | [], _ => ⟨[], .nil, fun b hb => by simp at hb⟩
  | v :: o, h => by
    obtain ⟨d, h1, h2⟩ := h v List.mem_cons_self
    obtain ⟨bs, h3, h4⟩ := each_pick fun v hv => h v (List.mem_cons_of_mem _ hv)
    refine ⟨d :: bs, .cons h2 h3, fun b hb => ?_⟩
    rcases List.mem_cons.mp hb with rfl | hb
    · exact h1
    · exact h4 b hb
theorem each_nodup : ∀ {o : List Value} {bs : List D}, PySem.W.EachIs (RvD K mg F) o bs → (∀ d ∈ bs, sameD d d = true) → o.Pairwise (fun v u => ∀ k, Leaf.isOf k v = true → Leaf.isOf k u = true → False) → bs.Nodup
  | _, _, .nil, _, _ => .nil
  | v :: o, b :: bs, .cons ⟨x, r, p⟩ t, h, hp => by
    rw [List.pairwise_cons] at hp
    refine List.nodup_cons.mpr ⟨fun hb => ?_, each_nodup t (fun d hd => h d (List.mem_cons_of_mem _ hd)) hp.2⟩
    obtain ⟨u, hu, y, r2, p2⟩ := each_mem_back t b hb
    obtain ⟨k, h1, h2⟩ := leaf_of_rel r p (h b List.mem_cons_self)
    obtain ⟨k2, h3, h4⟩ := leaf_of_rel r2 p2 (h b List.mem_cons_self)
    rw [h1] at h3
    cases h3
    exact hp.1 u hu k h2 h4
theorem each_all {h : Heap} {l : Addr} : ∀ {o : List Value} {bs : List D}, PySem.W.EachIs (RvD K mg F) o bs → (∀ d ∈ bs, sameD d d = true) → PySem.W.EachIs (fun v b => ∃ as, Reads h v b as ∧ ¬ l ∈ as) o bs
  | _, _, .nil, _ => .nil
  | _, b :: _, .cons ⟨x, r, p⟩ t, hs => by
    refine .cons ?_ (each_all t fun d hd => hs d (List.mem_cons_of_mem _ hd))
    have := hs b List.mem_cons_self
    cases b with
    | int i =>
      cases p
      obtain ⟨t, rfl⟩ := r
      exact ⟨_, .int _ _, by simp⟩
    | str s =>
      cases p
      obtain ⟨t, rfl⟩ := r
      exact ⟨_, .str _ _, by simp⟩
    | bool b =>
      cases p
      cases r
      exact ⟨_, .bool _, by simp⟩
    | _ => exact absurd this (by simp [sameD])
end
section
variable {prog : Program} {w : World} {A : Around} {E : Value → Shared → Prop} {s : Shared}
theorem sorted_lf {K : PySem.W.Frag} {mg : Str → Option Value} {F : Hp} {S : Addr} {vs : List Value} {ks : List Leaf} {ds : List D} {Q : Value → Shared → Prop} (calm : A.handled = none) (R : LfR prog w s.heap S vs ks) (er : PySem.W.EachIs (RvD K mg F) vs ds) (hls : LeafsAre vs ks) (hsm : allSame ds = true) (hz : ds.length < scanBound) (hu : A.units + 2 < cLine)
    (fin : ∀ (s' : Shared) (p : Addr) (out : List Value) (c : Nat), (∀ b o, s.heap.get? b = some o → s'.heap.get? b = some o) → s'.gens = s.gens → s'.os = s.os → s.heap.objs.size ≤ p → s'.heap.get? p = some (seqObj "list" out.toArray c) → PySem.W.EachIs (RvD K mg F) out (sortS ds) → Q (.ref p) s') :
    wpAny (model prog w) A (call (.builtin "sorted") [.ref S]) Q E s := by
  obtain ⟨o, es, ep, t, ho, hex, hd, g, hb, hf, hr, hl⟩ := R
  have hself : ∀ d ∈ ds, sameD d d = true := fun d hd => same_self hsm hd
  refine Calls.call_function_entry kind_sorted plain_sorted entry_sorted (args_sorted1 _) ?_
  unfold Builtin.«sorted»
  refine wpAny_bind (m := checkCount "sorted" 1 1 _) (wpAny_pure ?_)
  refine wpAny_bind (L2.collect_set (A := A.in1) calm ⟨o, ho, hex.1, hd⟩ hf hb hr hl fun s1 out k1 hz1 g1 o1 pm => ?_)
  have hsrc : ∀ v ∈ out, v ∈ vs := fun v hv => by
    obtain ⟨e, h1, rfl⟩ := List.mem_map.mp (pm.mem_iff.mp hv)
    exact g.src e h1
  obtain ⟨bs, e1, m1⟩ := each_pick (K := K) (mg := mg) (F := F) (ds := ds) (o := out) fun v hv => each_mem_of er v (hsrc v hv)
  have hbs : ∀ d ∈ bs, sameD d d = true := fun d hd => hself d (m1 d hd)
  have hnd : bs.Nodup := each_nodup e1 hbs ((pm.pairwise_iff fun {x y} h k h1 h2 => h k h2 h1).mpr (List.pairwise_map.mpr g.nd))
  have hmem : ∀ d, d ∈ bs ↔ d ∈ ds := fun d => ⟨m1 d, fun hd => by
    obtain ⟨v, hv, x, r, p⟩ := each_mem_back er d hd
    obtain ⟨k, h1, h2⟩ := leaf_of_rel r p (hself d hd)
    obtain ⟨i, hi⟩ := List.mem_iff_getElem?.mp hv
    obtain ⟨k', h3, h4⟩ := hls.get hi
    have : k' = k := (leafKind prog w).inj v k' k h4 h2
    subst this
    obtain ⟨e, h5, h6⟩ := (g.mem k').mp (List.mem_of_getElem? h3)
    have hu1 : e.2 ∈ out := pm.mem_iff.mpr (List.mem_map.mpr ⟨e, h5, rfl⟩)
    obtain ⟨d', h7, y, r', p'⟩ := each_mem_of e1 e.2 hu1
    obtain ⟨k2, h8, h9⟩ := leaf_of_rel r' p' (hbs d' h7)
    have : k2 = k' := (leafKind prog w).inj e.2 k2 k' h9 h6
    subst this
    rw [leaf_eq (allSame_all hsm d hd d' (m1 d' h7)) h1 h8]
    exact h7⟩
  have hperm : bs.Perm (uqD ds) := (List.perm_ext_iff_of_nodup hnd (uqD_nodup hsm)).mpr fun d => by rw [hmem d, uqD_mem hsm]
  have hab : ∀ a ∈ bs, ∀ b ∈ bs, sameD a b = true := fun a ha b hb => allSame_all hsm a (m1 a ha) b (m1 b hb)
  have hso : bs.mergeSort (PySem.W.dataLe false (fun d : D => d)) = sortS ds := sortA_one hab hperm
  have hlen : out.length = bs.length := e1.length
  have hbl : bs.length ≤ ds.length := by
    rw [hperm.length_eq]
    clear fin hso hperm hab hmem hnd hbs m1 e1 hlen
    clear er hls hself hz hsm
    induction ds with
    | nil => exact Nat.le_refl _
    | cons d r ih =>
      unfold uqD
      split
      · exact Nat.le_succ_of_le ih
      · exact Nat.succ_le_succ ih
  have hsl : out.length ≤ sizeLine := by
    rw [hlen]
    exact fits_of_scanBound (Nat.lt_of_le_of_lt hbl hz)
  refine wpAny_bind (wpAny_newList ?_ hsl)
  have hoL : (s1.heap.push (seqObj "list" out.toArray 0)).get? s1.heap.objs.size = some (seqObj "list" out.toArray 0) := Heap.get?_push_size _ rfl
  refine wpAny_bind (wpAny_holding (PySem.W.list_sort_data (enc := fun d : D => d) (bs := bs) (R := RvD K mg F) hoL e1 (each_all e1 hbs) (by rw [map_id']; exact fun a ha b hb => alike_same (hab a ha b hb)) (by rw [map_id']; exact sortable_of fun d hd => hbs d hd) (by rw [← hlen]; exact hsl) (fun b hb => by rw [same_depth (hbs b hb)]; exact hu) fun out2 hl2 ho2 => ?_))
  rw [hso] at ho2
  obtain ⟨c, hc⟩ := sortedHeap_at (vs := out) (out := out2.toArray) hoL
  refine wpAny_pure ⟨_, rfl, ?_⟩
  refine fin _ s1.heap.objs.size out2 c (fun b u e => ?_) g1 o1 hz1 hc ho2
  have q := k1 b u e
  have hlt := Heap.lt_size q
  show (sortedHeap (s1.heap.push (seqObj "list" out.toArray 0)) s1.heap.objs.size out out2.toArray).get? b = some u
  rw [sortedHeap_old (Nat.ne_of_lt hlt) (by rw [size_push']; exact Nat.lt_succ_of_lt hlt)]
  exact Heap.get?_push_of_some _ q
theorem sortS_len {ds : List D} : (sortS ds).length ≤ ds.length := by
  unfold sortS
  rw [sortA_len]
  induction ds with
  | nil => exact Nat.le_refl _
  | cons d r ih =>
    unfold uqD
    split
    · exact Nat.le_succ_of_le ih
    · exact Nat.succ_le_succ ih
end
/-- the set of a list, and what is sorted of it: as one -/
def tSortSet (X : Cx) (ta : TE) : TE := fun σ H Q => ta σ H fun x H1 => ∃ (F : Hp) (l : Addr) (ys : List V) (ds : List D), x = .ref l ∧ Same F H1 ∧ SqL X.K H1 l ys ∧ RpA X.K X.mg F ys ds ∧ allSame ds = true ∧ ds.length + 1 < scanBound ∧
  ∀ (p : Addr) (zs : List V), H1 p = none → RpA X.K X.mg F zs (sortS ds) → Q (.ref p) (upd H1 p (.lst zs))
theorem pe_sortSet {X : Cx} {a : Expr} {ta : TE} {p p2 q pos : Pos} (hc : X.calm = true) (hu : X.A.units + 2 < cLine) (hg : Gl X "sorted") (hm : X.mg "sorted" = none) (hg2 : Gl X "set") (hm2 : X.mg "set" = none) (ha : PE X a ta)
    (na : starEach [a] X.env = (false, eval a X.env) :: starEach [] X.env := by rfl) (na2 : starEach [.Call (.Name "set" p2) [a] [] q] X.env = (false, eval (.Call (.Name "set" p2) [a] [] q) X.env) :: starEach [] X.env := by rfl) : PE X (.Call (.Name "sorted" p) [.Call (.Name "set" p2) [a] [] q] [] pos) (tSortSet X ta) := by
  refine ⟨fun pins s σ H Q I h => ?_⟩
  refine Call_ (ld_blt I hg hm (show bootBuiltins (Str.ofString "sorted") = some (.builtin "sorted") by decide +kernel) ?_)
  refine PyProof.Rows.callWith_builtin1 (PyProof.Rows.args_cons ?_ na2) rfl rfl
  refine Call_ (ld_blt I hg2 hm2 boot_set ?_)
  refine PyProof.Rows.callWith_type1 (PyProof.Rows.args_cons (thn (ha.run pins s σ H _ I h) fun v s1 ⟨x, H1, I1, r1, q1⟩ => PyProof.Rows.args_nil ?_) na) na rfl
  obtain ⟨F, l, ys, ds, rfl, hs, hq, ra, hsm, few, q1⟩ := q1
  cases r1
  obtain ⟨its, r, pl, hz⟩ := I1.list hq
  have hself : ∀ d ∈ ds, sameD d d = true := fun d hd => same_self hsm hd
  obtain ⟨ks, hks, hkl⟩ := leafs_alike (K := X.K) (mg := X.mg) r ra hself
  refine set_lf (xs := ks) (I1.ok.hd hc) pl.isList (by simpa using hks) (by rw [hkl]; exact few) fun h' tk hS hk => PyProof.Rows.args_nil ?_
  refine sorted_lf (s := { s1 with heap := h', toks := tk }) (I1.ok.hd hc) hS (by simpa using each_rel r ra) (by simpa using hks) hsm (Nat.lt_of_succ_lt few) hu fun s' p' out c k g o hp hg he => ?_
  obtain ⟨zs, hv, hy⟩ := each_back1 he
  have hlen : zs.length ≤ sizeLine := by
    rw [hy.length]
    exact Nat.le_trans sortS_len (fits_of_scanBound (Nat.lt_of_succ_lt few))
  have I2 : Inv X pins σ H1 { s1 with heap := h', toks := tk } := I1.kept hk
  have hn := I2.hok.fresh hp
  have hok : ObjOk X.prog X.w (upd H1 p' (.lst zs)) s'.heap p' (.lst zs) := ⟨hlen, out, c, hv, hg⟩
  have hbare : AllBare s'.gens := by
    rw [g]
    exact I2.bare
  have J := Inv.call (g' := s'.gens) (t' := s'.toks) (d' := s'.drawn) (ch := []) I2 (Un.laid k hp hn) (HOk.laid I2.hok k hp hok) hbare (fun x z => nomatch z)
  refine ⟨.ref p', upd H1 p' (.lst zs), ?_, rfl, q1 p' zs hn hy⟩
  obtain ⟨heap, gens, drawn, toks, os⟩ := s'
  have o' : os = s1.os := o
  subst o'
  exact J
def eSortS (m : Ev → Option D) : Ev → Option D := fun ρ => (m ρ).bind fun d => match d with
  | .list ds => if allSame ds = true ∧ ds.length + 1 < 4096 then some (.list (sortS ds)) else none
  | _ => none
theorem d_sortS {X : Cx} {a : Expr} {m : Ev → Option D} {p p2 q pos : Pos} (hc : X.calm = true) (hu : X.A.units + 2 < cLine) (hm : X.mg "sorted" = none) (hm2 : X.mg "set" = none) (ha : DE X a m) (hg : Gl X "sorted" := by rfl) (hg2 : Gl X "set" := by rfl)
    (na : starEach [a] X.env = (false, eval a X.env) :: starEach [] X.env := by rfl) (na2 : starEach [.Call (.Name "set" p2) [a] [] q] X.env = (false, eval (.Call (.Name "set" p2) [a] [] q) X.env) :: starEach [] X.env := by rfl) : DE X (.Call (.Name "sorted" p) [.Call (.Name "set" p2) [a] [] q] [] pos) (eSortS m) :=
  PE.weak (pe_sortSet hc hu hg hm hg2 hm2 ha na na2) fun σ H Q ⟨F0, H0, F, ρ, d, k, e, q⟩ => by
  obtain ⟨d0, h1, e⟩ := bind_some e
  refine ⟨F0, H0, F, ρ, d0, k, h1, fun v F1 H1 t1 r1 => ?_⟩
  match d0, e with
  | .list ds, e =>
    simp only at e
    split at e
    · rename_i hl
      cases e
      cases r1 with
      | lst hs ra =>
        refine ⟨F1, _, _, ds, rfl, t1.s, sqL_mono t1.s hs, ra, hl.1, hl.2, fun p zs hn rz => ?_⟩
        exact q _ _ _ (t1.trans (Stp.new t1.s hn)) (.lst (.inl (.inl upd_same)) (rz.mono (same_new (same_free t1.s hn))))
    · cases e
@[simp] theorem eSortS_ap (m : Ev → Option D) (ρ : Ev) : eSortS m ρ = (m ρ).bind fun d => match d with
  | .list ds => if allSame ds = true ∧ ds.length + 1 < 4096 then some (.list (sortS ds)) else none
  | _ => none := rfl
end Dm


namespace Dm
open PySem PySem.Spec L2 PyProof.Rows
variable [WdI]
/-- what is stored in the dict that is being made -/
def DSet (X : Cx) (St : Addr → V → V → Hp → (Hp → Prop) → Prop) : Prop := ∀ {pins : List (Addr × Obj)} {σ : L2.St} {H : Hp} {s : Shared} {D : Addr} {y z : V} {u r : Value} {N : Hp → Prop} {E : Value → Shared → Prop},
  Inv X pins σ H s → St D y z H N → RelV y u → RelV z r → wpAny (model X.prog X.w) X.A (dictSet D u r) (fun _ s' => ∃ H', Inv X pins σ H' s' ∧ N H') E s
def tDcG (wi : TI) (g : TG) (tt : TT) (tk tv : TE) (o0 : Addr → HO) (St : Addr → V → V → Hp → (Hp → Prop) → Prop) (vs : List Nat) : TE := fun σ H Q => wi σ H fun J H1 => ∀ D, H1 D = none → ∃ W : Nat → Nat → Hp → Prop, (∃ m, W 0 m (upd H1 D (o0 D))) ∧ ∀ i m H, W i m H → J.stop i H ∧ Q (.ref D) H ∨ J.go i H ∧ ∃ Nx : Hp → Prop, (∀ H', Nx H' → ∃ m', m' < m ∧ W (i + 1) m' H') ∧ ∀ x H', J.yld i H x H' → g x (L2.wipe σ vs) H' fun σ2 H2 => L2.wipe σ2 vs = L2.wipe σ vs ∧ tt σ2 H2 fun b H3 => if b = true then tk σ2 H3 fun y H4 => tv σ2 H4 fun z H5 => St D y z H5 Nx else Nx H3
section
variable {X : Cx} {U : WX}
theorem dc_coreG {pins : List (Addr × Obj)} {s : Shared} {σ : L2.St} {H : Hp} {Q : VK} {kx vx tg iter : Expr} {scope : Scope} {own : List (Str × Nat)} {pos pos' : Pos} {wi : TI} {g : TG} {tk0 tv : TE} {o0 : Addr → HO} {St : Addr → V → V → Hp → (Hp → Prop) → Prop} {ifs : List Expr} {tt : TT} {use : Option (Value → Sem Unit)} {Qf : Value → Shared → Prop}
    (tk : Takes X U) (hst : X.stack = X.env :: X.outer) (hf : X.env.frame = some X.env.locals)
    (hc : X.calm = true) (hN : X.N.Nodup) (I : Inv X pins σ H s) (hi : PI X tg iter wi) (ok : BlkOk X.N X.env.scope scope own)
    (hg : ∀ (s : Shared) (H : Hp) (C : Addr) (cl : List (Str × Addr)) (fp : List Addr), PG (X.blk s H scope (compEnvC scope cl C X.env) fp) tg g)
    (ht : ∀ (s : Shared) (H : Hp) (C : Addr) (cl : List (Str × Addr)) (fp : List Addr), PTs (blkX X (WE U σ) s H scope (compEnvC scope cl C X.env) fp) ifs tt)
    (hk : ∀ (s : Shared) (H : Hp) (C : Addr) (cl : List (Str × Addr)) (fp : List Addr), PE (blkX X (WE U σ) s H scope (compEnvC scope cl C X.env) fp) kx tk0)
    (he : ∀ (s : Shared) (H : Hp) (C : Addr) (cl : List (Str × Addr)) (fp : List Addr), PE (blkX X (WE U σ) s H scope (compEnvC scope cl C X.env) fp) vx tv)
    (hO : ∀ (H : Hp) (h : Heap), sysModules < h.objs.size → ObjOk X.prog X.w H (h.push { cls := .type "dict", data := .dict #[] }) h.objs.size (o0 h.objs.size)) (hSt : ∀ X' : Cx, X'.prog = X.prog → X'.w = X.w → X'.A = X.A → DSet X' St) (hs : ∀ x, foldedSetIterable iter X.env x = pure x)
    (h : tDcG wi g tt tk0 tv o0 St (own.map (·.2)) σ H Q)
    (hRR : ∀ D C s' m H', Inv X pins σ H' s' → Q (.ref D) H' → s'.heap.Ns C m → FpOk X pins H' C → compPost (model X.prog X.w) X.A X.xe use Qf (.ref D) C (.ok .next) s') :
    wpAny (model X.prog X.w) X.A (comprehension (.DictComp kx vx [⟨tg, iter, ifs, 0⟩] scope pos) scope X.env pos' newDict false (eval iter X.env) use) Qf X.xe s := by
  have hfree : ∀ y ∈ scope.names, y.2 = .free → ∃ c, X.env.cells.lookup y.1 = some c := fun y hy e => by
    rcases ok.free y hy e with k | k
    · exact I.ok.has _ (.inl k)
    · exact I.ok.has _ (.inr k)
  refine comprehension_at (use := use) rfl hs (closure_ok hfree) ok.kind (fun y hy e => by rw [ok.uniq y hy, e])
    (thn (hi.run pins s σ H _ I h) fun xv s1 hx => thn hx fun itv s2 h2 => ?_)
  obtain ⟨it, fp, tn, J, H2, e, I2, T, st2, f2, q⟩ := h2
  subst e
  refine wpAny_newObj_type (newEnv_comp ?_) (by unfold sizeOk; simp [sizeLine])
  generalize hD : s2.heap.objs.size = D
  have hDn : H2 D = none := I2.hok.fresh (Nat.le_of_eq hD)
  obtain ⟨W, ⟨m0, w0⟩, turn⟩ := q D hDn
  generalize hs3 : ({ s2 with heap := s2.heap.push { cls := .type "dict", data := .dict #[] } } : Shared) = s3
  have I3 : Inv X pins σ (upd H2 D (o0 D)) s3 := by
    rw [← hs3]
    refine I2.laid (t' := s2.toks) (fun b o e => Heap.get?_push_of_some _ e) (Nat.le_of_eq hD) ?_
    rw [← hD]
    exact hO _ _ I2.big
  have h3 : s3.heap = s2.heap.push { cls := .type "dict", data := .dict #[] } := by rw [← hs3]
  have sz : ∀ b ∈ fp, b < s2.heap.objs.size := fun b hb => by
    obtain ⟨o, e, _⟩ := T.obj _ _ st2 b hb
    exact Heap.lt_size e
  have f3 : ∀ b ∈ fp, FpOk X pins (upd H2 D (o0 D)) b ∧ b < s3.heap.objs.size := fun b hb => by
    have hlt := sz b hb
    refine ⟨⟨?_, (f2 b hb).2⟩, by rw [h3, Heap.size_push]; exact Nat.lt_succ_of_lt hlt⟩
    rw [upd_ne (by rw [← hD]; exact Nat.ne_of_lt hlt)]
    exact (f2 b hb).1
  have st3 : tn 0 s3.heap := T.keep _ _ _ st2 fun b _ o e => by rw [h3]; exact Heap.get?_push_of_some _ e
  have I4 := block_start I3 ok hN f3
  have pg := hg s3 (upd H2 D (o0 D)) s3.heap.objs.size (cellsFrom (s3.heap.objs.size + 1) scope.names (cloFrom X.env.cells scope.names [])) fp
  have pk := hk s3 (upd H2 D (o0 D)) s3.heap.objs.size (cellsFrom (s3.heap.objs.size + 1) scope.names (cloFrom X.env.cells scope.names [])) fp
  have pe := he s3 (upd H2 D (o0 D)) s3.heap.objs.size (cellsFrom (s3.heap.objs.size + 1) scope.names (cloFrom X.env.cells scope.names [])) fp
  have pt := ht s3 (upd H2 D (o0 D)) s3.heap.objs.size (cellsFrom (s3.heap.objs.size + 1) scope.names (cloFrom X.env.cells scope.names [])) fp
  show codeAny _ _ (.compStart (.DictComp kx vx [⟨tg, iter, ifs, 0⟩] scope pos) 0 (.ref it) (.ref D) (compEnvC scope (cellsFrom (s3.heap.objs.size + 1) scope.names (cloFrom X.env.cells scope.names [])) s3.heap.objs.size X.env)) (compEnds (model X.prog X.w) X.A X.xe use Qf (.ref D) (compEnvC scope (cellsFrom (s3.heap.objs.size + 1) scope.names (cloFrom X.env.cells scope.names [])) s3.heap.objs.size X.env)) { s3 with heap := pushCells (s3.heap.push { cls := .type "dict", data := .dict #[] }) scope.names }
  have nfp : ∀ b ∈ fp, (upd H2 D (o0 D)) b = none := fun b hb => (f3 b hb).1.1
  generalize hce : compEnvC scope (cellsFrom (s3.heap.objs.size + 1) scope.names (cloFrom X.env.cells scope.names [])) s3.heap.objs.size X.env = ce at I4 pg pk pe pt ⊢
  have cL : ce.locals = s3.heap.objs.size := by subst hce; rfl
  have cF : ce.frame = X.env.frame := by subst hce; rfl
  generalize hH3 : upd H2 D (o0 D) = H3 at I3 I4 pg pk pe pt w0 nfp f3
  generalize hs4 : ({ s3 with heap := pushCells (s3.heap.push { cls := .type "dict", data := .dict #[] }) scope.names } : Shared) = s4 at I4 ⊢
  have st4 : tn 0 s4.heap := T.keep _ _ _ st3 fun b _ o e => by rw [← hs4]; exact pushCells_keeps _ _ _ _ (Heap.get?_push_of_some _ e)
  have stat : ∀ {σ' : L2.St} {H' : Hp} {s' : Shared}, Inv (X.blk s3 H3 scope ce fp) [] σ' H' s' → (∀ b ∈ fp, H' b = none) → ∀ b ∈ fp, FpOk (X.blk s3 H3 scope ce fp) [] H' b := fun {σ' H' s'} I' hn b hb =>
    ⟨hn b hb, (I'.ok.exf b hb).1, I'.ok.exfs b hb, .inl hb, fun x c e => (I'.ok.exf b hb).2 x c e, fun p hp => absurd (show p ∈ ([] : List (Addr × Obj)) ++ [] from hp) (by simp)⟩
  have errs : ∀ (u : Value) (s' : Shared), (blkX X (WE U σ) s3 H3 scope ce fp).xe u s' → notedBy (model X.prog X.w) X.A ce (fun e s' => compEnds (model X.prog X.w) X.A X.xe use Qf (.ref D) ce (.error e) s') u s' := fun u s' hx => by
    have z := blk_fails (W := U) tk (fun _ _ _ h => h) hst hf I3 cL cF f3 hx
    cases use <;> exact z
  have loop : codeAny (model X.prog X.w) X.A (.compLoop (.DictComp kx vx [⟨tg, iter, ifs, 0⟩] scope pos) 0 (.ref it) (.ref D) ce) (compEnds (model X.prog X.w) X.A X.xe use Qf (.ref D) ce) s4 := by
    refine compLoop_anyD (fun n s' => ∃ i H', Inv (X.blk s3 H3 scope ce fp) [] (wipe σ (own.map (·.2))) H' s' ∧ tn i s'.heap ∧ (∀ b ∈ fp, H' b = none) ∧ W i n H') ?_ m0 ⟨0, H3, I4, st4, nfp, w0⟩
    rintro n s5 ⟨i, H5, I5, st5, n5, w5⟩
    rcases turn i n H5 w5 with ⟨stop, qq⟩ | ⟨go, Nx, hNx, step⟩
    · have td := T.done (X.blk s3 H3 scope ce fp) rfl rfl rfl hc i [] s5 _ H5 (fun _ _ => False) I5 (stat I5 n5) st5 stop
      refine thnF td fun r s6 ⟨hr, I6⟩ => ?_
      subst hr
      have I7 : Inv X pins σ H5 s6 := I3.call' (ch := fp) I6.os I6.base I6.hok I6.bare fun b hb => ⟨(f3 b hb).1.2.2.2.1, (f3 b hb).1.2.1, (f3 b hb).1.2.2.2.2.1, (f3 b hb).1.2.2.2.2.2⟩
      have nC : H5 s3.heap.objs.size = none := by
        have z : H5 ce.locals = none := I6.free
        rw [cL] at z
        exact z
      obtain ⟨m, hn, _⟩ := I6.loc
      have hn : s6.heap.Ns ce.locals m := hn
      rw [cL] at hn
      have z := hRR D s3.heap.objs.size s6 m H5 I7 qq hn (I3.fpOk (Nat.le_refl _) nC)
      rw [← cL] at z
      cases use <;> exact z
    · have ti := T.item (X.blk s3 H3 scope ce fp) rfl rfl rfl hc i [] s5 _ H5 (fun _ _ => False) I5 (stat I5 n5) st5 go
      refine thnF ti fun r s6 ⟨u, hr, h6⟩ => ?_
      subst hr
      refine thnF h6 fun _ s7 ⟨x, H7, I7, r7, y7, st7, n7⟩ => ?_
      have I7' := I7.pinned (stat I7 n7) (T.obj _ _ st7)
      refine thnF (pg.run _ s7 _ H7 x u _ I7' r7 (step x H7 y7)) fun _ s8 ⟨σ8, H8, I8, hw8, q8⟩ => ?_
      have fin : ∀ {s' : Shared} {H' : Hp}, Inv (blkX X (WE U σ) s3 H3 scope ce fp) ([] ++ pinsAt fp s7.heap) σ8 H' s' → Nx H' → ∃ m, m < n ∧ ∃ i H', Inv (X.blk s3 H3 scope ce fp) [] (wipe σ (own.map (·.2))) H' s' ∧ tn i s'.heap ∧ (∀ b ∈ fp, H' b = none) ∧ W i m H' := fun {s' H'} I'' nx => by
        have I' := inv_blk I''
        obtain ⟨m', hm, w'⟩ := hNx H' nx
        have pin' : ∀ b ∈ fp, ∀ o, s7.heap.get? b = some o → s'.heap.get? b = some o ∧ H' b = none := fun b hb o e =>
          let z := I'.pin (b, o) (List.mem_append_right _ (List.mem_append_right _ (mem_pinsAt hb e)))
          ⟨z.1, z.2.1⟩
        have hl : (wipe σ (own.map (·.2))).length = σ8.length := by rw [← hw8, wipe_length]
        refine ⟨m', hm, i + 1, H', (I'.unpinned (pins := [])).weak hl (fun j v e => ?_), T.keep _ _ _ st7 fun b hb o e => (pin' b hb o e).1, fun b hb => ?_, w'⟩
        · rw [← hw8] at e
          exact (wipe_some e).1
        · obtain ⟨o, e, _⟩ := T.obj _ _ st7 b hb
          exact (pin' b hb o e).2
      refine wpAny_mono (pt.run _ s8 σ8 H8 _ (inv_blkX I8) q8) (fun b s9 ⟨H9, I9, q9⟩ => ?_) fun u s' hx => errs u s' hx
      cases b with
      | false =>
        simp only [Bool.false_eq_true, if_false] at q9 ⊢
        exact fin I9 q9
      | true =>
        simp only [if_true] at q9 ⊢
        refine wpAny_mono (pk.run _ s9 σ8 H9 _ I9 q9) (fun kv s10 ⟨yk, H10, I10, r10, q10⟩ => ?_) fun u s' hx => errs u s' hx
        refine wpAny_mono (pe.run _ s10 σ8 H10 _ I10 q10) (fun z s11 ⟨yv, H11, I11, r11, q11⟩ => ?_) fun u s' hx => errs u s' hx
        exact wpAny_mono (hSt (blkX X (WE U σ) s3 H3 scope ce fp) rfl rfl rfl I11 q11 r10 r11) (fun _ s12 ⟨H12, I12, nx⟩ => fin I12 nx) fun _ _ z => z
  exact codeAny_compStart_dict loop (T.self X.A 0 _ _ _ st4 loop)
theorem ps_setDcG {i : Nat} {y : Str} {py : Pos} {kx vx tg iter : Expr} {ifs : List Expr} {scope : Scope} {own : List (Str × Nat)} {pos spos : Pos} {wi : TI} {g : TG} {tt : XK → TT} {tk0 tv : XK → TE} {o0 : Addr → HO} {St : Addr → V → V → Hp → (Hp → Prop) → Prop} (tk : Takes X U) (hst : X.stack = X.env :: X.outer) (hf : X.env.frame = some X.env.locals) (hc : X.calm = true) (hN : X.N.Nodup) (hy : X.N[i]? = some y) (hyl : X.env.scope.names.lookup y = some .local)
    (hsw : swapsWith (.DictComp kx vx [⟨tg, iter, ifs, 0⟩] scope pos) (some (.Name y py)) spos.line X.env = pure true) (hi : PI X tg iter wi) (ok : BlkOk X.N X.env.scope scope own)
    (hg : ∀ (s : Shared) (H : Hp) (C : Addr) (cl : List (Str × Addr)) (fp : List Addr), PG (X.blk s H scope (compEnvC scope cl C X.env) fp) tg g)
    (ht : ∀ (E : XK) (s : Shared) (H : Hp) (C : Addr) (cl : List (Str × Addr)) (fp : List Addr), PTs (blkX X E s H scope (compEnvC scope cl C X.env) fp) ifs (tt E))
    (hk : ∀ (E : XK) (s : Shared) (H : Hp) (C : Addr) (cl : List (Str × Addr)) (fp : List Addr), PE (blkX X E s H scope (compEnvC scope cl C X.env) fp) kx (tk0 E))
    (he : ∀ (E : XK) (s : Shared) (H : Hp) (C : Addr) (cl : List (Str × Addr)) (fp : List Addr), PE (blkX X E s H scope (compEnvC scope cl C X.env) fp) vx (tv E))
    (hO : ∀ (H : Hp) (h : Heap), sysModules < h.objs.size → ObjOk X.prog X.w H (h.push { cls := .type "dict", data := .dict #[] }) h.objs.size (o0 h.objs.size)) (hSt : ∀ X' : Cx, X'.prog = X.prog → X'.w = X.w → X'.A = X.A → DSet X' St) (hs : ∀ x, foldedSetIterable iter X.env x = pure x := by intro _; rfl) :
    PS X (.Assign [.Name y py] (.DictComp kx vx [⟨tg, iter, ifs, 0⟩] scope pos) spos) (tAsg (fun σ H Q => tDcG wi g (tt (WE U σ)) (tk0 (WE U σ)) (tv (WE U σ)) o0 St (own.map (·.2)) σ H Q) (gName i)) := by
  refine ⟨fun pins s σ H D I h => ?_⟩
  rw [exec_Assign_Name_used _ _ _ _ hsw]
  refine wpAny_bind (wpAny_standAt (wpAny_bind ?_))
  show wpAny _ X.A (do let _ ← comprehension (.DictComp kx vx [⟨tg, iter, ifs, 0⟩] scope pos) scope X.env (firstIterPos [⟨tg, iter, ifs, 0⟩] pos) newDict false (eval iter X.env) (some (assign (.Name y py) X.env))) _ _ s
  have h : tDcG wi g (tt (WE U σ)) (tk0 (WE U σ)) (tv (WE U σ)) o0 St (own.map (·.2)) σ H (fun x H1 => gName i x σ H1 D.nx) := h
  refine wpAny_bind (thn (dc_coreG (Qf := fun _ s' => SP X pins D .next s') tk hst hf hc hN I hi ok hg (ht (WE U σ)) (hk (WE U σ)) (he (WE U σ)) hO hSt hs h fun L C s' m H' I' q hn f => ?_) fun _ s' hq => wpAny_pure (wpAny_pure hq))
  show wpAny _ _ (assign (.Name y py) X.env (.ref L)) _ _ _
  refine wpAny_assign_Name (store_ok2 (v := V.ref L) I' hN hy (.inl hyl) rfl (fun s2 I2 ⟨a, sb, ha⟩ => ?_) (.inr hyl))
  obtain ⟨f0, f1, f2, f3, f4, f5⟩ := f
  have haC : C ≠ a := by
    rcases ha with z | z
    · rw [z]; exact f1
    · exact fun e => f4 y a z e.symm
  exact ⟨m, hn.sameBut sb haC, fun h3 sb3 => ⟨_, H', I2.turned (t' := s2.toks) (fun b o hb e => (sb3.2 b hb).trans e) f0 f1 f3 f4 f5, q⟩⟩
theorem sw_trueD {kx vx : Expr} {gs : List Comprehension} {scope : Scope} {pos py : Pos} {y : Str} {l : Nat} {env : Env} (h1 : env.scope.kind = .function) (h2 : List.lookup y env.scope.names = some NameKind.local) (h3 : (py.line == pos.line) = true) (h4 : (scope.names.any fun x => match x with | (n, k) => n == y && (k == NameKind.local || k == NameKind.cell)) = false) :
    swapsWith (.DictComp kx vx gs scope pos) (some (.Name y py)) l env = pure true := sw_true (elt := kx) (gs := gs) (l := l) h1 h2 h3 h4
end
def stLf (D : Addr) (y z : V) (H : Hp) (N : Hp → Prop) : Prop := ∃ (kvs : List (Leaf × V)) (k : Leaf), H D = some (dlfO D kvs) ∧ leafV y = some k ∧ kvs.length < sizeLine ∧ N (upd H D (dlfO D (putK kvs k z)))
theorem dlf_of {X : Cx} {pins : List (Addr × Obj)} {σ : L2.St} {H : Hp} {s : Shared} {D : Addr} {kvs : List (Leaf × V)} (I : Inv X pins σ H s) (h : H D = some (dlfO D kvs)) : kvs.length ≤ sizeLine ∧ (D == sysModules) = false ∧ ∃ vs, KV kvs vs ∧ Heap.DictOf (leafKind WdI.prog WdI.w) s.heap D vs :=
  (I.hok D _ h).1
theorem dlf_new {P : Program} {w : World} {H' : Hp} {h' : Heap} {a : Addr} {kvs : List (Leaf × V)} {vs : List (Leaf × Value)} (hl : kvs.length ≤ sizeLine) (hd : (a == sysModules) = false) (kv : KV kvs vs) (d : Heap.DictOf (leafKind WdI.prog WdI.w) h' a vs) : ObjOk P w H' h' a (dlfO a kvs) := by
  refine ⟨⟨hl, hd, vs, kv, d⟩, ?_, fun h1 h2 ⟨a1, a2, vs', a3, a4⟩ k => ⟨a1, a2, vs', a3, a4.at k⟩⟩
  obtain ⟨o, _, _, ho, _⟩ := d
  exact ⟨o, ho⟩
theorem dset_lf {X : Cx} (hp : X.prog = WdI.prog) (hw : X.w = WdI.w) : DSet X stLf := fun {pins σ H s D y z u r N E} I ⟨kvs, k, hD, hk, hz, n⟩ ry rz => by
  obtain ⟨z1, hd, vs, rel, dd⟩ := dlf_of I hD
  have hzv : vs.length ≤ sizeLine := by
    have := Paired.length rel
    omega
  have hl : (putK kvs k z).length ≤ sizeLine := by
    have := length_putK kvs k z
    omega
  rw [hp, hw]
  refine wpAny_dictSet_pairs (knd := leafKind WdI.prog WdI.w) (leaf_is ry hk) dd (fun h' dd' hs => ?_) hzv
  refine ⟨_, ?_, n⟩
  refine d_write I (by rw [hD]; trivial) hs ?_ (dlf_new hl hd (KV.put rel k rz) dd')
  obtain ⟨q, _, _, hq, _⟩ := dd'
  exact ⟨q, hq⟩
theorem dlf_empty {P : Program} {w : World} (H : Hp) (h : Heap) (hs : sysModules < h.objs.size) : ObjOk P w H (h.push { cls := .type "dict", data := .dict #[] }) h.objs.size (dlfO h.objs.size []) := by
  obtain ⟨_, hd, vs, kv, _⟩ : ObjOk P w H (h.push { cls := .type "dict", data := .dict #[] }) h.objs.size (.dK []) := dk_empty h hs
  refine dlf_new (Nat.zero_le _) hd (.nil) ?_
  exact ⟨_, #[], 0, Heap.get?_push_size _ rfl, ⟨rfl, rfl, rfl⟩, rfl, fun e he => by simp at he, .nil, .nil⟩
def leafW : W → Option Leaf
  | .d x => leafD x
  | _ => none
def setK {α : Type} (k : Leaf) (y : α) : List Leaf → List α → List α
  | q :: ks, w :: ws => (if q = k then y else w) :: setK k y ks ws
  | _, _ => []
def putP (k : Leaf) (y : W) (ks : List Leaf) (ws : List W) : List Leaf × List W := if (ks.any fun q => decide (q = k)) = true then (ks, setK k y ks ws) else (ks ++ [k], ws ++ [y])
def putLf (me : Nat) (k : Leaf) (y : W) (g : List GO) : Option (List GO) := match g[me]? with
  | some (.dlf ks, ws) => if okN ks.length = true then some (g.set me (.dlf (putP k y ks ws).1, (putP k y ks ws).2)) else none
  | _ => none
def dcG (t : W → Gv → Option Gv) (c : Gv → Option (RG Bool)) (kf e : Gv → Option (RG W)) (src : Src) (sl : List (Option W)) (me : Nat) : Nat → Nat → List GO → Option (RG W)
  | 0, _, _ => none
  | n + 1, i, g => match src g i with
    | none => none
    | some none => some (.ok (.rf me) g)
    | some (some w) => (t w ⟨sl, g⟩).bind fun γ1 => gB (c γ1) fun b g1 => if b = true then gB (kf ⟨γ1.sl, g1⟩) fun kw g2 => gB (e ⟨γ1.sl, g2⟩) fun y g3 => (leafW kw).bind fun kk => (putLf me kk y g3).bind fun g4 => dcG t c kf e src sl me n (i + 1) g4 else dcG t c kf e src sl me n (i + 1) g1
def gDc (n : Nat) (own : List Nat) (t : W → Gv → Option Gv) (m : Gv → Option (RG Src)) (c : Gv → Option (RG Bool)) (kf e : Gv → Option (RG W)) : Gv → Option (RG W) := fun γ => gB (m γ) fun src g => dcG t c kf e src (wipeG γ.sl own) g.length n 0 (g ++ [(.dlf [], [])])
section
variable {X : Cx} {U : WX} {pos : Pos}
theorem leafW_v {K : PySem.W.Frag} {mg : Str → Option Value} {F : Hp} {φ : Ph} {v : V} {w : W} {k : Leaf} (r : Rw K mg F φ v w) (h : leafW w = some k) : leafV v = some k := by
  cases r with
  | d r =>
    rename_i x
    cases x <;> cases r <;> first
      | exact h
      | cases h
  | rf _ => cases h
  | tup _ _ => cases h
theorem setK_len {α : Type} (k : Leaf) (y : α) : ∀ {ks : List Leaf} {xs : List α}, ks.length = xs.length → (setK k y ks xs).length = ks.length
  | [], [], _ => rfl
  | [], _ :: _, h => by cases h
  | _ :: _, [], h => by cases h
  | q :: ks, x :: xs, h => by
    show (setK k y ks xs).length + 1 = ks.length + 1
    rw [setK_len k y (ks := ks) (xs := xs) (by simpa using h)]
theorem setK_rw {K : PySem.W.Frag} {mg : Str → Option Value} {F : Hp} {φ : Ph} (k : Leaf) {z : V} {y : W} (r : Rw K mg F φ z y) : ∀ {ks : List Leaf} {xs : List V} {ws : List W}, ks.length = xs.length → RwA K mg F φ xs ws → RwA K mg F φ (setK k z ks xs) (setK k y ks ws)
  | [], [], _, _, .nil => .nil
  | [], _ :: _, _, h, _ => by cases h
  | _ :: _, [], _, h, _ => by cases h
  | q :: ks, x :: xs, _, h, .cons (w := w) r1 r2 => by
    refine .cons ?_ (setK_rw k r (ks := ks) (by simpa using h) r2)
    by_cases e : q = k
    · rw [if_pos e, if_pos e]
      exact r
    · rw [if_neg e, if_neg e]
      exact r1
theorem setK_zip (k : Leaf) (z : V) : ∀ {ks : List Leaf} {xs : List V}, ks.length = xs.length → (ks.zip xs).map (fun kv => if kv.1 = k then (kv.1, z) else kv) = ks.zip (setK k z ks xs)
  | [], [], _ => rfl
  | [], _ :: _, h => by cases h
  | _ :: _, [], h => by cases h
  | q :: ks, x :: xs, h => by
    show (if q = k then (q, z) else (q, x)) :: (ks.zip xs).map _ = (q, if q = k then z else x) :: ks.zip (setK k z ks xs)
    rw [setK_zip k z (ks := ks) (xs := xs) (by simpa using h)]
    by_cases e : q = k
    · rw [if_pos e, if_pos e]
    · rw [if_neg e, if_neg e]
theorem any_zip (k : Leaf) : ∀ {ks : List Leaf} {xs : List V}, ks.length = xs.length → ((ks.zip xs).any fun kv => decide (kv.1 = k)) = ks.any fun q => decide (q = k)
  | [], [], _ => rfl
  | [], _ :: _, h => by cases h
  | _ :: _, [], h => by cases h
  | q :: ks, x :: xs, h => by
    rw [List.zip_cons_cons, List.any_cons, List.any_cons, any_zip k (ks := ks) (xs := xs) (by simpa using h)]
theorem putP_rw {K : PySem.W.Frag} {mg : Str → Option Value} {F : Hp} {φ : Ph} (k : Leaf) {z : V} {y : W} (r : Rw K mg F φ z y) {ks : List Leaf} {xs : List V} {ws : List W} (hl : ks.length = xs.length) (ra : RwA K mg F φ xs ws) : ∃ xs', (putP k y ks ws).1.length = xs'.length ∧ putK (ks.zip xs) k z = (putP k y ks ws).1.zip xs' ∧ RwA K mg F φ xs' (putP k y ks ws).2 := by
  unfold putP putK
  rw [any_zip k hl]
  by_cases h : (ks.any fun q => decide (q = k)) = true
  · rw [if_pos h, if_pos h]
    exact ⟨setK k z ks xs, (setK_len k z hl).symm, setK_zip k z hl, setK_rw k r hl ra⟩
  · rw [if_neg h, if_neg h]
    refine ⟨xs ++ [z], by simp [hl], ?_, ra.append (.cons r .nil)⟩
    show _ = (ks ++ [k]).zip (xs ++ [z])
    rw [List.zip_append hl]
    rfl
theorem dc_of {K : PySem.W.Frag} {mg : Str → Option Value} {kf : Gv → Option (RG W)} {own : List Nat} {t : W → Gv → Option Gv} {mi : Gv → Option (RG Src)} {c : Gv → Option (RG Bool)} {f : Gv → Option (RG W)} (n : Nat) : ∀ σ H Q, tGE K mg U (gDc n own t mi c kf f) σ H Q → tDcG (tGI K mg U mi) (tGW K mg own t) (tGT K mg (fun cls d _ H => WE U σ cls d H) c) (tGE K mg (fun cls d _ H => WE U σ cls d H) kf) (tGE K mg (fun cls d _ H => WE U σ cls d H) f) (fun D => dlfO D []) stLf own σ H Q := fun σ H Q ⟨F0, H0, F, φ, γ, r, k, e, q⟩ => by
  rcases gB_some e with ⟨src, g, h1, e⟩ | ⟨c', fs, g, h1, rfl⟩
  rotate_left
  · exact ⟨F0, H0, F, φ, γ, _, k, h1, q⟩
  refine ⟨F0, H0, F, φ, γ, _, k, h1, fun J Fi Hi φi ki pi si Wk D hD => ?_⟩
  have fD : Fi D = none := same_free ki.s hD
  have tD : Stp Fi Hi Fi (upd Hi D (dlfO D [])) := ⟨Same.refl _, same_new hD, ki.s.trans (same_new hD), fun a u e1 e2 => e1⟩
  have kD : EOk K mg F0 H0 Fi (upd Hi D (dlfO D [])) (φi ++ [D]) σ ⟨γ.sl, g ++ [(.dlf [], [])]⟩ := ki.alloc tD hD fD upd_same (sh := .dlf []) (xs := []) ⟨rfl, rfl⟩ .nil
  have pD : Px φi (φi ++ [D]) := Px.app φi D
  have me : (φi ++ [D])[g.length]? = some D := by
    have := ki.live.len
    simp only at this
    rw [← this]
    simp
  refine ⟨fun i m H => ∃ F' φ' g', EOk K mg F0 H0 F' H φ' σ ⟨γ.sl, g'⟩ ∧ Px (φi ++ [D]) φ' ∧ Same Fi F' ∧ dcG t c kf f src (wipeG γ.sl own) g.length m i g' = some r,
    ⟨n, Fi, _, _, kD, Px.refl _, Same.refl _, e⟩, ?_⟩
  rintro i m H2 ⟨F2, φ2, g2, k2, p2, s2, e2⟩
  cases m with
  | zero => cases e2
  | succ m =>
    simp only [dcG] at e2
    split at e2
    · cases e2
    · rename_i hs0
      cases e2
      exact .inl ⟨Wk.stop i _ _ _ _ _ _ _ k2 (pD.trans p2) s2 hs0, q (.ref D) F2 H2 φ2 k2 (pi.trans (pD.trans p2)) (si.trans s2) (.rf (p2 _ _ me))⟩
    · rename_i w hs0
      obtain ⟨hgo, hy⟩ := Wk.go i _ _ _ _ _ _ _ w k2 (pD.trans p2) s2 hs0
      refine .inr ⟨hgo, ?_⟩
      obtain ⟨γ3, e3, e2⟩ := bind_some e2
      refine ⟨fun H' => ∃ F' φ' g', EOk K mg F0 H0 F' H' φ' σ ⟨γ.sl, g'⟩ ∧ Px (φi ++ [D]) φ' ∧ Same Fi F' ∧ dcG t c kf f src (wipeG γ.sl own) g.length m (i + 1) g' = some r, fun H' z => ⟨m, Nat.lt_succ_self m, z⟩, fun x H' y => ?_⟩
      obtain ⟨F3, t3, r3⟩ := hy x H' y
      have kw := (k2.step t3).wipes own
      refine ⟨F0, H0, F3, φ2, _, w, γ3, kw, r3, e3, fun σ4 F4 H4 φ4 k4 p4 s4 w4 => ?_⟩
      have w4' : L2.wipe σ4 own = L2.wipe σ own := w4.trans wipe_two'
      have s24 : Same Fi F4 := s2.trans (t3.f.trans s4)
      have p24 : Px (φi ++ [D]) φ4 := p2.trans p4
      -- behind the item: the outer slots again
      have back : ∀ {F5 H5 : Hp} {φ5 : Ph} {σ5 : L2.St} {sl5 : List (Option W)} {g5 : List GO}, EOk K mg F0 H0 F5 H5 φ5 σ5 ⟨sl5, g5⟩ → Px φ2 φ5 → Same F3 F5 → EOk K mg F0 H0 F5 H5 φ5 σ ⟨γ.sl, g5⟩ := fun {F5 H5 φ5 σ5 sl5 g5} k5 p5 s5 =>
        ⟨k5.s, k5.st, k.len, fun j u ej => by
          obtain ⟨v, h1, h2⟩ := k2.rel j u ej
          exact ⟨v, h1, h2.mono (t3.f.trans s5) p5⟩, k5.live⟩
      refine ⟨w4', ?_⟩
      rcases gB_some e2 with ⟨b, g1, h3, e2⟩ | ⟨c', fs, g1, h3, rfl⟩
      · refine ⟨F0, H0, F4, φ4, γ3, _, k4, h3, fun F5 H5 φ5 k5 p5 s5 => ?_⟩
        cases b with
        | false =>
          simp only [Bool.false_eq_true, if_false] at e2 ⊢
          exact ⟨F5, φ5, g1, back k5 (p4.trans p5) (s4.trans s5), p24.trans p5, s24.trans s5, e2⟩
        | true =>
          simp only [if_true] at e2 ⊢
          rcases gB_some e2 with ⟨y', g6, h6, e2⟩ | ⟨c', fs, g6, h6, rfl⟩
          · refine ⟨F0, H0, F5, φ5, _, _, k5, h6, fun v F7 H7 φ7 k7 p7 s7 r7 => ?_⟩
            rcases gB_some e2 with ⟨y2, g9, h9, e2⟩ | ⟨c', fs, g9, h9, rfl⟩
            · refine ⟨F0, H0, F7, φ7, _, _, k7, h9, fun v2 F8 H8 φ8 k8 p8 s8 r8 => ?_⟩
              obtain ⟨kk, hk, e2⟩ := bind_some e2
              obtain ⟨g8, h8, e2⟩ := bind_some e2
              unfold putLf at h8
              split at h8
              · rename_i ks ws hw
                split at h8
                · rename_i hl
                  cases h8
                  have m8 : φ8[g.length]? = some D := p8 _ _ (p7 _ _ (p5 _ _ (p24 _ _ me)))
                  obtain ⟨xs, o, fa, h10, ⟨hx, rfl⟩, h11⟩ := k8.obj hw m8
                  have lz : (ks.zip xs).length < sizeLine := Nat.lt_of_le_of_lt (show (ks.zip xs).length ≤ 131071 by rw [List.length_zip]; have := okN_le hl; omega) (by decide)
                  obtain ⟨xs', hx', hz', hr'⟩ := putP_rw kk r8 hx h11
                  refine ⟨ks.zip xs, kk, h10, leafW_v (r7.mono s8 p8) hk, lz, F8, φ8, _, back (k8.mut fa m8 (sh := .dlf (putP kk y2 ks ws).1) (xs := xs') ⟨hx', by rw [hz']⟩ hr') (((p4.trans p5).trans p7).trans p8) (((s4.trans s5).trans s7).trans s8), ((p24.trans p5).trans p7).trans p8, ((s24.trans s5).trans s7).trans s8, e2⟩
                · cases h8
              · cases h8
            · exact ⟨F0, H0, F7, φ7, _, _, k7, h9, ExG.px q (si.trans ((s24.trans s5).trans s7)) (pi.trans (pD.trans ((p24.trans p5).trans p7)))⟩
          · exact ⟨F0, H0, F5, φ5, _, _, k5, h6, ExG.px q (si.trans (s24.trans s5)) (pi.trans (pD.trans (p24.trans p5)))⟩
      · exact ⟨F0, H0, F4, φ4, γ3, _, k4, h3, ExG.px q (si.trans s24) (pi.trans (pD.trans p24))⟩
theorem h_setDc {tg kx vx it : Expr} {scope : Scope} {ifs : List Expr} {own : List (Str × Nat)} {t : W → Gv → Option Gv} {mi : Gv → Option (RG Src)} {c : Gv → Option (RG Bool)} {kf f : Gv → Option (RG W)} {j : Nat} {y : Str} {py pos spos : Pos} (hp : X.prog = WdI.prog) (hw : X.w = WdI.w) (n : Nat) (tk : Takes X U) (hc : X.calm = true) (hN : X.N.Nodup) (hy : X.N[j]? = some y) (hyl : X.env.scope.names.lookup y = some .local) (hsw : swapsWith (.DictComp kx vx [⟨tg, it, ifs, 0⟩] scope pos) (some (.Name y py)) spos.line X.env = pure true) (hi : DGI X U tg it mi) (ok : BlkOk X.N X.env.scope scope own)
    (hg : ∀ (s : Shared) (H : Hp) (C : Addr) (cl : List (Str × Addr)) (fp : List Addr), PG (X.blk s H scope (compEnvC scope cl C X.env) fp) tg (tGW X.K X.mg (own.map (·.2)) t))
    (ht : ∀ (E : XK) (s : Shared) (H : Hp) (C : Addr) (cl : List (Str × Addr)) (fp : List Addr), PTs (blkX X E s H scope (compEnvC scope cl C X.env) fp) ifs (tGT X.K X.mg (fun cls d _ H => E cls d H) c))
    (hk : ∀ (E : XK) (s : Shared) (H : Hp) (C : Addr) (cl : List (Str × Addr)) (fp : List Addr), GE (blkX X E s H scope (compEnvC scope cl C X.env) fp) (fun cls d _ H => E cls d H) kx kf)
    (he : ∀ (E : XK) (s : Shared) (H : Hp) (C : Addr) (cl : List (Str × Addr)) (fp : List Addr), GE (blkX X E s H scope (compEnvC scope cl C X.env) fp) (fun cls d _ H => E cls d H) vx f)
    (hs : ∀ x, foldedSetIterable it X.env x = pure x := by intro _; rfl) (hst : X.stack = X.env :: X.outer := by rfl) (hf : X.env.frame = some X.env.locals := by rfl) :
    DGS X U (.Assign [.Name y py] (.DictComp kx vx [⟨tg, it, ifs, 0⟩] scope pos) spos) (hAsg (hgN j) (gDc n (own.map (·.2)) t mi c kf f)) :=
  PS.weak (ps_setDcG tk hst hf hc hN hy hyl hsw hi ok hg (tt := fun E => tGT X.K X.mg (fun cls d _ H => E cls d H) c) ht (tk0 := fun E => tGE X.K X.mg (fun cls d _ H => E cls d H) kf) hk (tv := fun E => tGE X.K X.mg (fun cls d _ H => E cls d H) f) he (o0 := fun D => dlfO D []) (St := stLf) (fun H h hs => dlf_empty H h hs) (fun X' e1 e2 _ => dset_lf (e1.trans hp) (e2.trans hw)) hs) fun D σ H ⟨F0, H0, F, φ, γ, o, k, e, q⟩ => by
  rcases hB_some e with ⟨w, g', h1, e⟩ | ⟨c', fs, g', h1, rfl⟩
  · cases e
    exact dc_of n (own := own.map (·.2)) σ H (fun x H1 => D.nx (σ.set j (some x)) H1) ⟨F0, H0, F, φ, γ, _, k, h1, fun v F1 H1 φ1 k1 p1 s1 r1 => q _ F1 H1 φ1 (k1.set r1 j) p1 s1⟩
  · exact dc_of n (own := own.map (·.2)) σ H (fun x H1 => D.nx (σ.set j (some x)) H1) ⟨F0, H0, F, φ, γ, _, k, h1, PostG.ex k q⟩
end
def rLfG : R2 := fun x y H Q => ∃ (a : Addr) (kvs : List (Leaf × V)) (k : Leaf) (v : V), x = .ref a ∧ H a = some (dlfO a kvs) ∧ leafV y = some k ∧ (kvs.find? fun kv => decide (kv.1 = k)).map (·.2) = some v ∧ Q v H
theorem kv_find {kvs : List (Leaf × V)} {vs : List (Leaf × Value)} {k : Leaf} {v : V} (h : KV kvs vs) (e : (kvs.find? fun kv => decide (kv.1 = k)).map (·.2) = some v) : ∃ u, valueAt vs k = some u ∧ RelV v u := by
  induction h with
  | nil => cases e
  | cons h _ ih =>
    rename_i a b l1 l2 _
    unfold valueAt at ih ⊢
    rw [List.find?_cons] at e ⊢
    rw [← h.1]
    cases hk : decide (a.1 = k) with
    | true =>
      rw [hk] at e
      cases e
      exact ⟨_, rfl, h.2⟩
    | false =>
      rw [hk] at e
      exact ih e
theorem pe_lfget {X : Cx} {o i : Expr} {pos : Pos} {td ty : TE} (hp : X.prog = WdI.prog) (hw : X.w = WdI.w) (ho : PE X o td) (hi : PE X i ty) (hs : NoSl i) : PE X (.Subscript o i pos) (tOp rLfG td ty) := by
  refine ⟨fun pins s σ H Q I h => subD_of PySem.F.slot_dict_getitem.lookup hs (thn (ho.run pins s σ H (fun x H1 => ty σ H1 fun y H2 => rLfG x y H2 Q) I h) fun u s1 ⟨x, H1, I1, rx, q1⟩ => thn (hi.run pins s1 σ H1 (fun y H2 => rLfG x y H2 Q) I1 q1) fun iv s2 ⟨y, H2, I2, ry, a, kvs, k, z, ex, ha, hk, hv, q2⟩ => ?_)⟩
  subst ex
  obtain rfl : u = Value.ref a := rx
  obtain ⟨hl, hd, vs, kv, d⟩ := dlf_of I2 ha
  obtain ⟨w, hw1, hw2⟩ := kv_find kv hv
  refine ⟨d.typeIs, ?_⟩
  rw [hp, hw]
  exact wpAny_getItem_of (knd := leafKind WdI.prog WdI.w) (leaf_is ry hk) d.mapOf hw1 ⟨z, H2, I2.tok _, hw2, q2⟩
def dlfW : W → List GO → Option (List Leaf × List W)
  | .rf n, g => match g[n]? with
    | some (.dlf ks, ws) => some (ks, ws)
    | _ => none
  | _, _ => none
def valL : List Leaf → List W → Leaf → Option W
  | q :: ks, w :: ws, k => if q = k then some w else valL ks ws k
  | _, _, _ => none
def lfgetW : W → W → List GO → Option (W × List GO) := fun w u g => (dlfW w g).bind fun p => (leafW u).bind fun k => (valL p.1 p.2 k).bind fun x => some (x, g)
section
variable {K : PySem.W.Frag} {mg : Str → Option Value}
theorem valL_rw {F : Hp} {φ : Ph} {k : Leaf} : ∀ {ks : List Leaf} {xs : List V} {ws : List W} {w : W}, ks.length = xs.length → RwA K mg F φ xs ws → valL ks ws k = some w → ∃ v, ((ks.zip xs).find? fun kv => decide (kv.1 = k)).map (·.2) = some v ∧ Rw K mg F φ v w
  | [], _, _, _, _, _, e => by cases e
  | _ :: _, [], _, _, h, _, _ => by cases h
  | q :: ks, x :: xs, _, w, h, .cons (w := w0) r1 r2, e => by
    unfold valL at e
    rw [List.zip_cons_cons, List.find?_cons]
    by_cases hk : q = k
    · rw [if_pos hk] at e
      cases e
      rw [show decide ((q, x).1 = k) = true from decide_eq_true hk]
      exact ⟨x, rfl, r1⟩
    · rw [if_neg hk] at e
      rw [show decide ((q, x).1 = k) = false from decide_eq_false hk]
      exact valL_rw (by simpa using h) r2 e
theorem r_lfget : R2W K mg rLfG lfgetW := fun F0 H0 F H φ σ γ x y w u z Q k r1 r2 e q => by
  obtain ⟨p, h1, e⟩ := bind_some e
  obtain ⟨kk, h2, e⟩ := bind_some e
  obtain ⟨z', h3, e⟩ := bind_some e
  cases e
  cases r1 with
  | @rf a n hn =>
    simp only [dlfW] at h1
    split at h1
    · rename_i ks ws hw
      cases h1
      obtain ⟨xs, o, _, h4, ⟨hl, rfl⟩, h5⟩ := k.obj hw hn
      obtain ⟨v, h6, h7⟩ := valL_rw hl h5 h3
      exact ⟨a, _, kk, v, rfl, h4, leafW_v r2 h2, h6, q v F H φ k (Px.refl _) (Same.refl _) h7⟩
    · cases h1
  | d _ => cases h1
  | tup _ _ => cases h1
end
theorem g_lfget {X : Cx} {U : WX} {pos : Pos} {a b : Expr} {m m' : Gv → Option (RG W)} (hp : X.prog = WdI.prog) (hw : X.w = WdI.w) (ha : GE X U a m) (hb : GE X U b m') (hs : NoSl b := by intro _ _; rfl) : GE X U (.Subscript a b pos) (g2 lfgetW m m') := PE.weak (pe_lfget hp hw ha hb hs) (two_of (r := rLfG) r_lfget (fun _ _ _ z => z) (fun _ _ _ z => z))
end Dm


namespace Dm
open PySem PySem.Spec L2 PyProof.Rows
variable [WdI]
def enumD : Nat → List D → List D
  | _, [] => []
  | n, d :: ds => .tuple [.int n, d] :: enumD (n + 1) ds
theorem enumD_len : ∀ (n : Nat) (ds : List D), (enumD n ds).length = ds.length
  | _, [] => rfl
  | n, d :: ds => by rw [enumD, List.length_cons, List.length_cons, enumD_len]
theorem enumD_get : ∀ {n : Nat} {ds : List D} {i : Nat} {z : D}, (enumD n ds)[i]? = some z → ∃ d, ds[i]? = some d ∧ z = .tuple [.int ((n + i : Nat) : Int), d]
  | n, d :: ds, 0, z, h => by
    cases h
    exact ⟨d, rfl, rfl⟩
  | n, d :: ds, i + 1, z, h => by
    obtain ⟨d', h1, h2⟩ := enumD_get (n := n + 1) (ds := ds) (i := i) h
    refine ⟨d', h1, ?_⟩
    rw [h2, show n + 1 + i = n + (i + 1) by omega]
  | n, [], i, z, h => by simp [enumD] at h
theorem walks_enum {K : PySem.W.Frag} {mg : Str → Option Value} {F : Hp} {a : Addr} {xs : List V} {ds : List D} (ha : SqL K F a xs) (ra : RpA K mg F xs ds) : Walks K mg (Ite K a) F (enumD 0 ds) where
  go := fun i H s hi => by
    rw [enumD_len] at hi
    have h1 : i < xs.length := by rw [ra.length]; omega
    exact ⟨xs, xs[i], sqL_mono s ha, List.getElem?_eq_getElem h1⟩
  stop := fun i H s hi => by
    rw [enumD_len] at hi
    exact ⟨xs, sqL_mono s ha, by rw [ra.length]; omega⟩
  yld := fun i H x H' F1 d s1 s2 hd y => by
    obtain ⟨T, u, rfl, hT, rfl, hx⟩ := y
    obtain ⟨d1, e1, rfl⟩ := enumD_get hd
    obtain ⟨u', g1, r1⟩ := ra.get e1
    have k1 := hx xs (sqL_mono (s1.trans s2) ha)
    have k1 : u' = u := Option.some.inj (g1.symm.trans k1)
    subst k1
    have sm := s1.trans (same_new (o := .tup [.int i, u']) (same_free s2 hT))
    rw [Nat.zero_add]
    exact ⟨_, Stp.new s2 hT, .tup (.inl (.inl upd_same)) (.cons (.int _) (.cons (r1.mono sm) .nil))⟩
def iEn (m : Ev → Option D) : Ev → Option (List D) := fun ρ => (m ρ).bind fun d => match d with
  | .list ds => some (enumD 0 ds)
  | _ => none
@[simp] theorem iEn_ap (m : Ev → Option D) (ρ : Ev) : iEn m ρ = (m ρ).bind fun d => match d with
  | .list ds => some (enumD 0 ds)
  | _ => none := rfl
section
variable {X : Cx} {pos : Pos} {e b : Expr} {m m2 m3 : Ev → Option D}
theorem i_enum {p tpos : Pos} {elts : List Expr} {kk : Nat} (hm : X.mg "enumerate" = none) (ha : DE X e m) (hg : Gl X "enumerate" := by rfl) (hs : starEach [e] X.env = [(false, eval e X.env)] := by rfl) : DI X (.Tuple elts kk tpos) (.Call (.Name "enumerate" p) [e] [] pos) (iEn m) :=
  PI.weak (pi_enum hg hm (pa_cons ha pa_nil hs) hs) fun σ H R ⟨F0, H0, F, ρ, ds, k, e, q⟩ => by
  obtain ⟨d, h1, e⟩ := bind_some e
  refine ⟨F0, H0, F, ρ, d, k, h1, fun v F1 H1 t1 r1 => ?_⟩
  match d, e with
  | .list es, e =>
    cases e
    cases r1 with
    | lst hs ra => exact ⟨_, _, rfl, sqL_mono t1.s hs, q _ F1 H1 t1 (walks_enum hs ra)⟩
def rangeC (lo c : Int) (n : Nat) : List D := (List.range n).map fun (i : Nat) => PyData.int (lo + (i : Int) * c)
theorem rangeC_get {lo c : Int} {n i : Nat} {d : D} (h : (rangeC lo c n)[i]? = some d) : i < n ∧ d = .int (lo + (i : Int) * c) := by
  unfold rangeC at h
  rw [List.getElem?_map] at h
  by_cases hi' : i < n
  · rw [List.getElem?_range hi'] at h
    cases h
    exact ⟨hi', rfl⟩
  · rw [List.getElem?_eq_none (by simpa using hi')] at h
    cases h
theorem walks_rangeC {K : PySem.W.Frag} {mg : Str → Option Value} {F : Hp} {lo c : Int} {n : Nat} : Walks K mg (Itc lo c n) F (rangeC lo c n) := ⟨fun i H s hi => (by simpa [rangeC] using hi : i < n), fun i H s hi => (by simpa [rangeC] using hi : n ≤ i), fun i H2 x H3 F2 d s1 s2 hd y => by
  obtain ⟨e1, e2⟩ := y
  subst e1
  subst e2
  obtain ⟨_, rfl⟩ := rangeC_get hd
  exact ⟨F2, Stp.refl s2, .int _⟩⟩
/-- a range with a positive step, small -/
def iR3 (m m2 m3 : Ev → Option D) : Ev → Option (List D) := fun ρ => (m ρ).bind fun x => (m2 ρ).bind fun y => (m3 ρ).bind fun z => match x, y, z with
  | .int i, .int j, .int c => if 0 < c ∧ c < 1000 ∧ Builtin.Range.small i j c = true ∧ 0 ≤ Builtin.Range.rangeSize i j c then some (rangeC i c (Builtin.Range.rangeSize i j c).toNat) else none
  | _, _, _ => none
@[simp] theorem iR3_ap (m m2 m3 : Ev → Option D) (ρ : Ev) : iR3 m m2 m3 ρ = (m ρ).bind fun x => (m2 ρ).bind fun y => (m3 ρ).bind fun z => match x, y, z with
  | .int i, .int j, .int c => if 0 < c ∧ c < 1000 ∧ Builtin.Range.small i j c = true ∧ 0 ≤ Builtin.Range.rangeSize i j c then some (rangeC i c (Builtin.Range.rangeSize i j c).toNat) else none
  | _, _, _ => none := rfl
theorem i_range3 {tg c d : Expr} {p : Pos} (hm : X.mg "range" = none) (ha : DE X e m) (hb : DE X c m2) (hd : DE X d m3) (hg : Gl X "range" := by rfl) (hs : starEach [e, c, d] X.env = (false, eval e X.env) :: starEach [c, d] X.env := by rfl) (hs2 : starEach [c, d] X.env = (false, eval c X.env) :: starEach [d] X.env := by rfl) (hs3 : starEach [d] X.env = [(false, eval d X.env)] := by rfl) (hpl : (backTo pos (starEach [c, d] X.env)).any (·.1) = false := by rfl) : DI X tg (.Call (.Name "range" p) [e, c, d] [] pos) (iR3 m m2 m3) :=
  PI.weak (pi_range3 hg hm (pa_cons ha (pa_cons hb (pa_cons hd pa_nil hs3) hs2) hs) hs hpl) fun σ H R ⟨F0, H0, F, ρ, ds, k, e, q⟩ => by
  obtain ⟨x, h1, e⟩ := bind_some e
  obtain ⟨y, h2, e⟩ := bind_some e
  obtain ⟨z, h3, e⟩ := bind_some e
  match x, y, z, h1, h2, h3, e with
  | .int i, .int j, .int c, h1, h2, h3, e =>
    simp only at e
    split at e
    · rename_i hh
      obtain ⟨c0, c1, c2, c3⟩ := hh
      cases e
      refine ⟨F0, H0, F, ρ, _, k, h1, fun v F1 H1 t1 r1 => ⟨F0, H0, F1, ρ, _, k.step t1, h2, fun v2 F2 H2 t2 r2 => ⟨F0, H0, F2, ρ, _, k.step (t1.trans t2), h3, fun v3 F3 H3 t3 r3 => ?_⟩⟩⟩
      cases r1
      cases r2
      cases r3
      exact ⟨i, j, c, (Builtin.Range.rangeSize i j c).toNat, rfl, ⟨by omega, by omega, c2, by omega⟩, q _ F3 H3 ((t1.trans t2).trans t3) walks_rangeC⟩
    · cases e
def fAddL (m m2 : Ev → Option D) : Ev → Option (List D) := fun ρ => (m ρ).bind fun x => (m2 ρ).bind fun y => match x, y with
  | .list a, .list b => if okN (a.length + b.length) = true then some (a ++ b) else none
  | _, _ => none
@[simp] theorem fAddL_ap (m m2 : Ev → Option D) (ρ : Ev) : fAddL m m2 ρ = (m ρ).bind fun x => (m2 ρ).bind fun y => match x, y with
  | .list a, .list b => if okN (a.length + b.length) = true then some (a ++ b) else none
  | _, _ => none := rfl
theorem f_addL (ha : DE X e m) (hb : DE X b m2) : DF X (.BinOp e .Add b pos) (fAddL m m2) := PE.weak (pe_op op_catG ha hb) fun σ H Q ⟨F0, H0, F, ρ, d, k, e, q⟩ => by
  obtain ⟨x, h1, e⟩ := bind_some e
  obtain ⟨y, h2, e⟩ := bind_some e
  match x, y, h1, h2, e with
  | .list a, .list b, h1, h2, e =>
    simp only at e
    split at e
    · rename_i hl
      cases e
      refine ⟨F0, H0, F, ρ, _, k, h1, fun v F1 H1 t1 r1 => ⟨F0, H0, F1, ρ, _, k.step t1, h2, fun v2 F2 H2 t2 r2 => ?_⟩⟩
      have r1 := r1.mono t2.f
      cases r1 with
      | lst s1 a1 =>
        cases r2 with
        | lst s2 a2 =>
          refine ⟨_, _, _, _, rfl, rfl, sqL_mono t2.s s1, sqL_mono t2.s s2, small_of (by rw [a1.length, a2.length]; exact hl), fun p hp => ?_⟩
          have t3 := t1.trans t2
          exact q p _ F2 (upd H2 p (.lst _)) ⟨t3.f, fun b o e => by
            rw [upd_ne (ne_of_none (t3.h b o e) hp)]
            exact t3.h b o e, fun b o e => by
            rw [upd_ne (ne_of_none e (same_free t2.s hp))]
            exact t2.s b o e, t3.n⟩ (by
            cases hq : H p with
            | none => rfl
            | some o =>
              have := t3.h p o hq
              rw [hp] at this
              cases this) (same_free t2.s hp) upd_same (a1.append a2)
    · cases e
end
theorem kitLT {K : PySem.W.Frag} {t : String} (ht : t ∈ isTs) : PySem.W.kitAny K (.type t) [.type "list", .type "tuple"] = some (t == "tuple" || t == "list") := by
  have h1 : PySem.W.kitOne K (.type t) (.type "tuple") = some (isTy t "tuple") := kit_ty (isK t ht "tuple" (by decide))
  have h2 : PySem.W.kitOne K (.type t) (.type "list") = some (isTy t "list") := kit_ty (isK t ht "list" (by decide))
  have e1 : isTy t "tuple" = (t == "tuple") := by
    simp only [isTs, List.mem_cons, List.not_mem_nil, or_false] at ht
    rcases ht with rfl | rfl | rfl | rfl | rfl | rfl | rfl <;> decide
  have e2 : isTy t "list" = (t == "list") := by
    simp only [isTs, List.mem_cons, List.not_mem_nil, or_false] at ht
    rcases ht with rfl | rfl | rfl | rfl | rfl | rfl | rfl <;> decide
  rw [e1] at h1
  rw [e2] at h2
  have : (t == "tuple" || t == "list") = (t == "list" || t == "tuple") := Bool.or_comm _ _
  rw [this]
  refine kitAny_cons h2 (fun z => ?_) (fun z => by rw [z]; rfl)
  rw [z, Bool.false_or]
  exact kitAny_cons h1 (fun z => by rw [z]; exact kitAny_nil) (fun z => z)
section
variable {X : Cx} {pos : Pos} {a : Expr} {m : Ev → Option D}
theorem d_isLT {p p1 p2 p3 : Pos} {kk : Nat} (ha : DE X a m) (hm : X.mg "isinstance" = none) (hm1 : X.mg "list" = none) (hm2 : X.mg "tuple" = none) (hg : Gl X "isinstance" := by rfl) (hg1 : Gl X "list" := by rfl) (hg2 : Gl X "tuple" := by rfl)
    (he : starEach [a, .Tuple [.Name "list" p1, .Name "tuple" p2] kk p3] X.env = (false, eval a X.env) :: starEach [.Tuple [.Name "list" p1, .Name "tuple" p2] kk p3] X.env := by rfl)
    (he1 : starEach [Expr.Tuple [.Name "list" p1, .Name "tuple" p2] kk p3] X.env = (false, eval (.Tuple [.Name "list" p1, .Name "tuple" p2] kk p3) X.env) :: starEach [] X.env := by rfl)
    (he2 : starEach [Expr.Name "list" p1, .Name "tuple" p2] X.env = (false, eval (.Name "list" p1) X.env) :: starEach [.Name "tuple" p2] X.env := by rfl) (he3 : starEach [Expr.Name "tuple" p2] X.env = (false, eval (.Name "tuple" p2) X.env) :: starEach [] X.env := by rfl)
    (hpl : (backTo pos (starEach [Expr.Tuple [.Name "list" p1, .Name "tuple" p2] kk p3] X.env)).any (·.1) = false := by rfl) :
    DE X (.Call (.Name "isinstance" p) [a, .Tuple [.Name "list" p1, .Name "tuple" p2] kk p3] [] pos) (e1 isDTL m) :=
  PE.weak (pe_callB call_isiT hg hm (by decide +kernel) (pa_cons ha (pa_cons (pe_tup (pa_cons (pe_bltn (v := .ty "list") hg1 hm1 (by decide +kernel) rfl (by decide) (by decide)) (pa_cons (pe_bltn (v := .ty "tuple") hg2 hm2 (by decide +kernel) rfl (by decide) (by decide)) pa_nil he3) he2)) pa_nil he1) he) (by decide) (by decide) he hpl) fun σ H Q ⟨F0, H0, F, ρ, d, k, e, q⟩ => by
  obtain ⟨d1, h1, e⟩ := bind_some e
  obtain ⟨t, h2, e⟩ := bind_some e
  cases e
  refine ⟨F0, H0, F, ρ, d1, k, h1, fun v F1 H1 t1 r1 => ?_⟩
  refine ⟨by show 2 ≤ sizeLine; decide, fun tp hp => ?_⟩
  have t2 : Stp F1 H1 F1 (upd H1 tp (.tup [.ty "list", .ty "tuple"])) := ⟨Same.refl _, same_new hp, t1.s.trans (same_new hp), fun c o e1 e2 => e1⟩
  exact ⟨v, tp, [.ty "list", .ty "tuple"], .type t, [.type "list", .type "tuple"], _, rfl, upd_same, .cons (.ty _) (.cons (.ty _) .nil), tyX_of t2.s r1 h2, kitLT (tyD_mem h2), q _ F1 _ (t1.trans t2) (.bl _)⟩
end
def mIndexT : D → List D → Option D
  | .tuple ds, [.str z] => (strsOf ds).bind fun zs => (ixStr z zs).bind fun n => some (.int (n : Int))
  | _, _ => none
section
variable {X : Cx} {pos : Pos} {e : Expr} {m : Ev → Option D}
theorem d_indexT {x : Str} {p apos : Pos} {ga : Addr} {c : D} (g : X.mg x = some (.ref ga)) (rc : ∀ F, Rp X.K X.mg F (.ref ga) c) (hkt : ∃ o, X.K.lookup ga = some o ∧ o.cls = .type "tuple" ∧ o.dict = none) (he : DE X e m) (hg : Gl X x := by rfl) (hd : (x == ("__debug__" : Str)) = false := by decide) (hbase : attributeBase (.Name x p) "index" X.env (eval (.Name x p) X.env) = eval (.Name x p) X.env := by rfl)
    (hfew : ((backTo pos (starEach [e] X.env)).all (fun x => !x.1) && (backToKw pos (keywordEach [] X.env)).all (fun x => x.1.isSome)
      && decide ([e].length + ([] : List Keyword).length + (if ([] : List Keyword).isEmpty then 0 else 1) < 30)) = true := by rfl)
    (hline : (apos.endLine == pos.line) = true := by rfl) (hs : starEach [e] X.env = (false, eval e X.env) :: starEach [] X.env := by rfl) (hplain : (backTo pos (starEach [] X.env)).any (·.1) = false := by rfl) :
    DE X (.Call (.Attribute (.Name x p) "index" apos) [e] [] pos) (eM mIndexT (eC c) (aC m aN)) := PE.weak (pe_bm PySem.F.plainAttrs_tuple PySem.F.slot_tuple_index PySem.F.type_tuple_index mt_tup_index (pe_glob (v := .ref ga) hg g rfl hd) (pa_cons he pa_nil hs) hbase hfew hline hs hplain) fun σ H Q ⟨F0, H0, F, ρ, d, k, e, q⟩ => by
  obtain ⟨d1, h1, e⟩ := bind_some e
  obtain ⟨ds, h2, e⟩ := bind_some e
  obtain ⟨d2, h3, h2⟩ := bind_some h2
  obtain ⟨dn, h4, h2⟩ := bind_some h2
  cases h4
  cases h2
  cases h1
  match c, d2, rc, e with
  | .tuple es, .str z, rc, e =>
    obtain ⟨zs, h5, e⟩ := bind_some (show (strsOf es).bind _ = some d from e)
    obtain ⟨n, h6, e⟩ := bind_some e
    cases e
    have h7 := strsOf_map h5
    subst h7
    cases rc (fun _ => none) with
    | tup hl ra =>
      have h8 := ra.strs
      subst h8
      obtain ⟨o, hk1, hk2, hk3⟩ := hkt
      have hl' : SqT X.K H ga (zs.map V.str) := by
        rcases hl with h | h
        · rcases h with h | ⟨_, h⟩ <;> exact nomatch h
        · exact .inr h
      refine ⟨.inr (.inl ⟨rfl, o, hk1, hk2, hk3⟩), F0, H0, F, ρ, .str z, k, h3, fun v2 F2 H2 t2 r2 => ?_⟩
      cases r2
      obtain ⟨i1, i2⟩ := ixStr_at h6
      refine ⟨_, zs, z, n, rfl, rfl, ?_, i1, fun k' hk hz' => i2 k' hk _ hz' rfl, q _ F2 H2 t2 (.int _)⟩
      exact sqT_mono t2.h hl'
end
section
variable {K : PySem.W.Frag} {mg : Str → Option Value}
end
section
variable {X : Cx} {pos : Pos} {a b : Expr} {m1 m2 : Ev → Option D}
end
end Dm


namespace Dm
open PySem PySem.Spec L2 PyProof.Rows
variable [WdI]
structure WkF (P : Program) (w : World) (K : PySem.W.Frag) (mg : Str → Option Value) (base : Heap) (k : Nat) (y : Str) (n : Nat) (m : List W → List GO → Option (RG W)) : Prop where
  ex : ∃ (k' : Nat) (ps : List Str), k' ≤ k ∧ DefOkG P w K mg base k' n y ps m
section
variable {X : Cx} {U : WX} {pos p : Pos} {ms : Gv → Option (RG (List W))} {e : Expr} {es : List Expr} {x : Str}
end
theorem min_loop {prog : Program} {w : World} {A : Around} {l I S : Addr} {kid : String} {vs : List Value} {h0 : Heap} {R : Result → Shared → Prop} (kf : Nat → Int) (hh : A.handled = none) (hlI : l ≠ I) (hSI : S ≠ I) (hSl : S ≠ l) (hl : h0.IsList l vs.toArray) (nI : h0.get? I = none) (nS : h0.get? S = none)
    (turn : ∀ (i : Nat) (v : Value) (s : Shared) (Q E : Value → Shared → Prop), vs[i]? = some v → (∀ b o, h0.get? b = some o → s.heap.get? b = some o) → (∀ t tk, Q (.int (kf i) t) { s with toks := tk }) → wpAny (model prog w) A.in1 (call (.builtin kid) [v]) Q E s) :
    ∀ (r j : Nat) (s : Shared) (ep : Nat) (sv : Array Value), vs.length - j = r → j ≤ vs.length → (∀ b o, h0.get? b = some o → s.heap.get? b = some o) → s.heap.get? S = some { cls := .type "list", data := .seq sv ep } → s.heap.IsListIter I l j →
      ((j = 0 ∧ sv = #[] ∧ 0 < vs.length) ∨ ∃ (i : Nat) (vb : Value) (tb : Tok), sv = #[vb, .int (kf i) tb] ∧ vs[i]? = some vb ∧ i < j ∧ ∀ j', j' < j → kf i ≤ kf j' ∧ (j' < i → kf i < kf j')) →
      (∀ (i : Nat) (v : Value) (h' : Heap) (tk : Nat), vs[i]? = some v → (∀ j', j' < vs.length → kf i ≤ kf j' ∧ (j' < i → kf i < kf j')) → (∀ b o, h0.get? b = some o → h'.get? b = some o) → R (.ok (.ret v)) { s with heap := h', toks := tk }) →
      codeAny (model prog w) A (Code.builtin "min.loop" { pos := [Value.ref I, Value.builtin kid, Value.ref S] }) R s
  | r, j, s, ep, sv, hr, hj, old, gS, gI, inv, fin => by
    have W := PySem.Walks.list (prog := prog) (w := w) (A := A.in1) (by simpa using hh) I l hlI vs.toArray
    have hls : s.heap.IsList l vs.toArray := by
      obtain ⟨o, ho, z⟩ := hl
      exact ⟨o, old _ _ ho, z⟩
    refine codeAny_builtin PySem.F.entry_min_loop ?_
    rw [Around.under_plainId PySem.F.plain_min_loop _]
    refine (show wpAny _ _ (Builtin.«min.loop» _) _ _ _ from wpAny_bind (wpAny_seqItems gS rfl ?_))
    refine wpAny_bind (wpAny_tryCatch ?_)
    by_cases hlt : j < vs.length
    · refine W.item j s _ _ (by simpa using hlt) ⟨gI, hls⟩ fun v h1 tk1 hv st1 k1 => ?_
      have hv' : vs[j]? = some v := by simpa using hv
      have old1 : ∀ b o, h0.get? b = some o → h1.get? b = some o := fun b o e => k1 b o (by simp; intro z; rw [z, nI] at e; cases e) (old b o e)
      have gS1 := k1 S _ (by simpa using hSI) gS
      simp only []
      refine wpAny_bind (wpAny_tryCatch (wpAny_holding (turn j v _ _ _ hv' old1 fun t tk2 => ?_)))
      have again : ∀ (i' : Nat) (vb' : Value) (tb' : Tok) (h2 : Heap) (tk2 : Nat) (ep2 : Nat), (∀ b o, h0.get? b = some o → h2.get? b = some o) → h2.get? S = some { cls := .type "list", data := .seq #[vb', .int (kf i') tb'] ep2 } → h2.IsListIter I l (j + 1) → vs[i']? = some vb' → i' < j + 1 → (∀ j', j' < j + 1 → kf i' ≤ kf j' ∧ (j' < i' → kf i' < kf j')) →
          codeAny (model prog w) A (Code.builtin "min.loop" { pos := [Value.ref I, Value.builtin kid, Value.ref S] }) R { s with heap := h2, toks := tk2 } := fun i' vb' tb' h2 tk2 ep2 o2 g2 it2 a1 a2 a3 =>
        min_loop kf hh hlI hSI hSl hl nI nS turn (r - 1) (j + 1) { s with heap := h2, toks := tk2 } ep2 _ (by rw [← hr]; rfl) hlt o2 g2 it2 (.inr ⟨i', vb', tb', rfl, a1, a2, a3⟩) fun i v h' tk b1 b2 b3 => fin i v h' tk b1 b2 b3
      have hq : (Code.builtin ("min" ++ ".loop") { pos := [Value.ref I, Value.builtin kid, Value.ref S] }).quiet = true := plainId_quiet PySem.F.plain_min_loop _
      have upd1 : ∀ (x y : Value) (h : Heap) (ep' : Nat) (sv' : Array Value), h.get? S = some { cls := .type "list", data := .seq sv' ep' } → ∃ ep2, (h.update S (Obj.mapSeq fun _ => #[x, y])).get? S = some { cls := .type "list", data := .seq #[x, y] ep2 } := fun x y h ep' sv' e => by
        have := get?_update_seq e fun _ => #[x, y]
        exact ⟨_, this⟩
      have updk : ∀ (x y : Value) (h : Heap) (b : Addr) (o : Obj), b ≠ S → h.get? b = some o → (h.update S (Obj.mapSeq fun _ => #[x, y])).get? b = some o := fun x y h b o hb e => (Heap.get?_update_ne _ _ _ _ hb).trans e
      have nSo : ∀ b o, h0.get? b = some o → b ≠ S := fun b o e z => by
        rw [z, nS] at e
        cases e
      have itk : ∀ h : Heap, (∀ b o, b ≠ S → h1.get? b = some o → h.get? b = some o) → h.IsListIter I l (j + 1) := fun h k => W.frame (j + 1) h1 h st1 (fun b hb o e => k b o (by
        simp only [List.mem_cons, List.not_mem_nil, or_false] at hb
        rcases hb with rfl | rfl
        · exact fun z => hSI z.symm
        · exact fun z => hSl z.symm) e) |>.1
      rcases inv with ⟨rfl, rfl, _⟩ | ⟨i, vb, tb, rfl, h2, h3, h4⟩
      · refine wpAny_bind (wpAny_updateSeq gS1 rfl ?_ (by simp) (by simp [sizeLine]))
        obtain ⟨ep2, g2⟩ := upd1 v (.int (kf 0) t) h1 _ _ gS1
        refine wpAny_pure ⟨hq, again 0 v t _ tk2 ep2 (fun b o e => updk _ _ _ _ _ (nSo b o e) (old1 b o e)) g2 (itk _ fun b o hb e => updk _ _ _ _ _ hb e) hv' (by omega) fun j' hj' => ⟨?_, fun z => absurd z (Nat.not_lt_zero _)⟩⟩
        have : j' = 0 := by omega
        rw [this]
        exact Int.le_refl _
      · refine wpAny_bind (wpAny_tryCatch (wpAny_holding ?_))
        refine wpAny_bind (HT.rcLt_int _ _ (kf j) t (kf i) tb prog w _ _ ?_)
        refine wpAny_bind (wpAny_holding (wpAny_truthy_bool ?_))
        refine wpAny_bind (wpAny_letGo (wpAny_pure ?_))
        by_cases hb : kf j < kf i
        · rw [show decide (kf j < kf i) = true from decide_eq_true hb]
          refine wpAny_bind (wpAny_updateSeq gS1 rfl ?_ (by simp [sizeLine]) (by simp [sizeLine]))
          obtain ⟨ep2, g2⟩ := upd1 v (.int (kf j) t) h1 _ _ gS1
          refine wpAny_bind (wpAny_letGo ?_)
          refine wpAny_pure ⟨hq, again j v t _ tk2 ep2 (fun b o e => updk _ _ _ _ _ (nSo b o e) (old1 b o e)) g2 (itk _ fun b o hb e => updk _ _ _ _ _ hb e) hv' (Nat.lt_succ_self j) fun j' hj' => ?_⟩
          by_cases hj2 : j' = j
          · rw [hj2]
            exact ⟨Int.le_refl _, fun z => absurd z (Nat.lt_irrefl _)⟩
          · have q := h4 j' (by omega)
            exact ⟨by omega, fun _ => by omega⟩
        · rw [show decide (kf j < kf i) = false from decide_eq_false hb]
          refine wpAny_bind (wpAny_letGo ?_)
          refine wpAny_pure ⟨hq, again i vb tb _ tk2 ep old1 gS1 (itk _ fun b o hb e => e) h2 (by omega) fun j' hj' => ?_⟩
          by_cases hj2 : j' = j
          · rw [hj2]
            exact ⟨by omega, fun z => by omega⟩
          · exact h4 j' (by omega)
    · have : j = vs.length := by omega
      subst this
      refine W.done s _ _ (by simpa using ⟨gI, hls⟩) fun h1 tk1 k1 => ?_
      have old1 : ∀ b o, h0.get? b = some o → h1.get? b = some o := fun b o e => k1 b o (by simp; intro z; rw [z, nI] at e; cases e) (old b o e)
      have gS1 := k1 S _ (by simpa using hSI) gS
      rcases inv with ⟨h1, _, h2⟩ | ⟨i, vb, tb, rfl, h2, h3, h4⟩
      · omega
      · refine wpAny_bind (wpAny_updateSeq gS1 rfl ?_ (by simp [sizeLine]) (by simp))
        refine wpAny_bind (wpAny_letGo ?_)
        refine wpAny_pure ?_
        refine fin i vb _ tk1 h2 h4 fun b o e => ?_
        have : b ≠ S := fun z => by
          rw [z, nS] at e
          cases e
        exact (Heap.get?_update_ne _ _ _ _ this).trans (old1 b o e)
  termination_by r => r
  decreasing_by
    have : 0 < r := by
      rw [← hr]
      exact Nat.sub_pos_of_lt hlt
    exact Nat.sub_lt this Nat.one_pos

theorem min_len {prog : Program} {w : World} {A : Around} {E : Value → Shared → Prop} {s : Shared} {l : Addr} {vs : List Value} {Q : Value → Shared → Prop} (kf : Nat → Nat) (hh : A.handled = none) (hl : s.heap.IsList l vs.toArray) (hne : 0 < vs.length)
    (items : ∀ (i : Nat) (v : Value), vs[i]? = some v → ∃ (a : Addr) (its : Array Value), v = .ref a ∧ s.heap.IsList a its ∧ its.size = kf i ∧ its.size ≤ sizeLine)
    (fin : ∀ (i : Nat) (v : Value) (h' : Heap) (tk : Nat), vs[i]? = some v → (∀ j', j' < vs.length → kf i ≤ kf j' ∧ (j' < i → kf i < kf j')) → (∀ b o, s.heap.get? b = some o → h'.get? b = some o) → Q v { s with heap := h', toks := tk }) :
    wpAny (model prog w) A (call (.builtin "min") [.ref l] [(Str.ofString "key", .builtin "len")]) Q E s := by
  have hll : l < s.heap.objs.size := by
    obtain ⟨o, ho, _⟩ := hl
    exact Heap.lt_size ho
  refine kmb_tree PySem.F.kind_min PySem.F.plain_min PySem.F.entry_min (kmb_min_key (.ref l) (.builtin "len")) ?_
  refine (show wpAny _ _ (Builtin.«min» _) _ _ _ from wpAny_bind (wpAny_of_eq (by rfl) (wpAny_bind (wpAny_pure (wpAny_bind (wpAny_pyIter_list hl (wpAny_bind (wpAny_newList ?_ (Nat.zero_le _)))))))))
  refine wpAny_pure ⟨plainId_quiet PySem.F.plain_min_loop _, ?_⟩
  have itx : ∀ h : Heap, h.get? s.heap.objs.size = some { cls := Value.type "list_iterator", data := Data.fields #[Value.ref l, Value.int 0 0] } → h.IsListIter s.heap.objs.size l 0 := fun h e => ⟨_, e, rfl, rfl⟩
  generalize hx : ({ cls := Value.type "list_iterator", data := Data.fields #[Value.ref l, Value.int 0 0] } : Obj) = X1 at itx ⊢
  have hfr : X1.isFreed = false := by rw [← hx]; rfl
  have nI : s.heap.get? s.heap.objs.size = none := Heap.get?_none_of_le (Nat.le_refl _)
  have hS : (s.heap.push X1).objs.size = s.heap.objs.size + 1 := size_push' _ _
  have nS : s.heap.get? (s.heap.push X1).objs.size = none := Heap.get?_none_of_le (by rw [hS]; exact Nat.le_succ _)
  refine min_loop (l := l) (I := s.heap.objs.size) (S := (s.heap.push X1).objs.size) (kid := "len") (vs := vs) (h0 := s.heap) (fun i => (kf i : Int)) hh (Nat.ne_of_lt hll) (by rw [hS]; exact Nat.succ_ne_self _) (by rw [hS]; exact Nat.ne_of_gt (Nat.lt_succ_of_lt hll)) hl nI nS (fun i v s' Q' E' hv old q => ?_) vs.length 0 _ 0 #[] rfl (Nat.zero_le _) (fun b o e => Heap.get?_push_of_some _ (Heap.get?_push_of_some _ e)) (Heap.get?_push_size _ rfl) (itx _ (Heap.get?_push_of_some _ (Heap.get?_push_size _ hfr))) (.inl ⟨rfl, rfl, hne⟩) fun i v h' tk b1 b2 b3 => ?_
  · obtain ⟨a, its, rfl, ⟨o, ho, z⟩, e1, e2⟩ := items i v hv
    refine Calls.call_len_list ⟨o, old a o ho, z⟩ ?_ ?_
    · have : its.size ≤ 16777216 := e2
      have e63 : (2 : Int) ^ 63 = 9223372036854775808 := by decide
      omega
    · rw [e1]
      exact q _ _
  · refine fin i v h' tk b1 (fun j' hj' => ?_) b3
    have := b2 j' hj'
    exact ⟨by omega, fun z => by have := this.2 z; omega⟩
def rMinLen (K : PySem.W.Frag) : List V → Hp → VK → Prop := fun vs H Q => ∃ (l : Addr) (xs : List V) (kf : Nat → Nat), vs = [V.ref l] ∧ SqL K H l xs ∧ 0 < xs.length ∧ (∀ (i : Nat) (x : V), xs[i]? = some x → ∃ (a : Addr) (ys : List V), x = V.ref a ∧ SqL K H a ys ∧ kf i = ys.length) ∧
  ∀ (i : Nat) (x : V), xs[i]? = some x → (∀ j', j' < xs.length → kf i ≤ kf j' ∧ (j' < i → kf i < kf j')) → Q x H
section
variable {X : Cx} {U : WX} {pos p : Pos} {e : Expr} {ms : Gv → Option (RG (List W))}
theorem pe_minLen {t : TA} {p2 kpos : Pos} (hc : X.calm = true) (hm : X.mg "min" = none) (hm2 : X.mg "len" = none) (ha : PA X [e] t) (hg : Gl X "min") (hg2 : Gl X "len")
    (he : backTo pos (starEach [e] X.env) = (false, eval e X.env) :: backTo pos (starEach [] X.env)) (hpl : (backTo pos (starEach [e] X.env)).any (·.1) = false)
    (hall : (backToKw pos (keywordEach [⟨some "key", .Name "len" p2, kpos⟩] X.env)).all (·.1.isSome) = true) (hnone : (backToKw pos (keywordEach [⟨some "key", .Name "len" p2, kpos⟩] X.env)).any (·.1.isNone) = false)
    (hks : (backToKw pos (keywordEach [⟨some "key", .Name "len" p2, kpos⟩] X.env)).filterMap (·.1) = [Str.ofString "key"]) :
    PE X (.Call (.Name "min" p) [e] [⟨some "key", .Name "len" p2, kpos⟩] pos) (fun σ H Q => t σ H fun vs H1 => rMinLen X.K vs H1 Q) := by
  refine ⟨fun pins s σ H Q I h => ?_⟩
  refine wpAny_Call_Name_kw (ld_blt I hg hm (show bootBuiltins (Str.ofString "min") = some (.builtin "min") by decide +kernel) (callWith_kw (thn (ha.run pos pins s σ H _ I h) fun us s1 ⟨vs, H1, I1, r1, q1⟩ => ?_) he hpl hall hnone))
  refine (show wpAny _ _ (evalAll (List.map (fun x => x.2) (backToKw pos (keywordEach [⟨some "key", .Name "len" p2, kpos⟩] X.env)))) _ _ _ from wpAny_evalAll_cons (wpAny_bind (ld_blt I1 hg2 hm2 (show bootBuiltins (Str.ofString "len") = some (.builtin "len") by decide +kernel) (wpAny_bind (wpAny_standAt (wpAny_pure (wpAny_evalAll_nil ?_)))))))
  rw [hks]
  obtain ⟨l, xs, kf, rfl, hs, h0, h1, h2⟩ := q1
  obtain rfl := Vals.ref1 r1
  obtain ⟨its, rv, pl, hz⟩ := I1.list hs
  have hlv := rv.length
  show wpAny _ _ (call (.builtin "min") [.ref l] [(Str.ofString "key", .builtin "len")]) _ _ s1
  refine min_len kf (I1.ok.hd hc) pl.isList (by omega) (fun i v hv => ?_) fun i v h' tk hv hmin old => ?_
  · obtain ⟨x, e1, e2⟩ := vals_at rv hv
    obtain ⟨a, ys, rfl, hy, hk⟩ := h1 i x e1
    obtain rfl : v = Value.ref a := e2
    obtain ⟨its2, rv2, pl2, hz2⟩ := I1.list hy
    refine ⟨a, its2.toArray, rfl, pl2.isList, ?_, ?_⟩
    · rw [hk, rv2.length]
      simp
    · have := rv2.length
      simp
      omega
  · obtain ⟨x, e1, e2⟩ := vals_at rv hv
    exact ⟨x, H1, I1.kept old, e2, h2 i x e1 fun j hj => hmin j (by omega)⟩
end
end Dm


namespace Dm
open PySem PySem.Spec L2 PyProof.Rows
variable [WdI]
class WdOk (P : Program) (w : World) : Prop where
  p : P = WdI.prog
  w : w = WdI.w
def iceW : W → List GO → Option D
  | .d d, _ => some d
  | .rf n, g => match g[n]? with
    | some (.lst, ws) => (pures ws).bind fun ds => some (.list ds)
    | _ => none
  | _, _ => none
def dGD (f : List W → List GO → Option (RG W)) : List D → Option D := fun ds => (f (ds.map .d) []).bind fun r => match r with
  | .ok w g => iceW w g
  | .ex _ _ _ => none
section
variable {K : PySem.W.Frag} {mg : Str → Option Value}
theorem spD_G {n : Nat} {f : List W → List GO → Option (RG W)} (vs : List V) (H : Hp) (Q : VK) (E : XK) (h : spD K mg n (dGD f) vs H Q E) : spG K mg n f vs H Q (fun _ _ _ => False) := by
  obtain ⟨F, ds, d, s1, ra, hl, e, q⟩ := h
  obtain ⟨r0, h1, e⟩ := bind_some e
  have l0 : GOk K mg F [] (hols [] H) H [] := ⟨rfl, List.nodup_nil, fun n sh ws e => by simp at e⟩
  refine ⟨F, [], ds.map .d, [], r0, s1, .of ra, l0, by rw [List.length_map]; exact hl, h1, ?_⟩
  match r0, e with
  | .ok w g', e =>
    rintro v F1 H1 φ1 t1 l1 p1 r1
    rw [hols_nil] at t1 l1
    cases r1 with
    | d r1 =>
      cases e
      exact q v F1 H1 t1 r1
    | @rf a n hn =>
      simp only [iceW] at e
      split at e
      · rename_i ws hw
        obtain ⟨es, h2, e⟩ := bind_some e
        cases e
        obtain ⟨a', xs, o, b1, b2, b3, b4⟩ := l1.at_ n _ _ hw
        rw [hn] at b1
        cases b1
        rcases b4 with ⟨ks, _, z, _⟩ | ⟨b5, b6, b7⟩
        · cases z
        · have b6 : o = .lst xs := b6
          subst b6
          exact q _ _ _ (t1.ice b2 b3 b5) (.lst (.inl (.inl upd_same)) ((b7.pure h2).mono (same_new b5)))
      · cases e
    | tup _ _ => cases e
end
section
variable {P : Program} {w : World} {K : PySem.W.Frag} {mg : Str → Option Value} {base : Heap} {k n : Nat} {x : Str} {ps : List Str}
theorem FnOk.calm {f : Addr} {fd : FuncData} {sp : Sp} (G : FnOk P w K mg base (CX P w) k f fd ps sp) : FnOk P w K mg base CX0 k f fd ps (fun vs H Q _ => sp vs H Q (fun _ _ _ => False)) :=
  ⟨fun vs H Q E h => G.len vs H Q _ h, fun A outer s H args us vs Q E hr e0 hb r h => codeAny_mono (G.run A outer s H args us vs Q (fun _ _ _ => False) hr e0 hb r h) fun r s' hq => by
    cases r with
    | error e =>
      obtain ⟨_, _, _, _, _, _, _, _, _, _, _, _, z⟩ := hq
      exact z
    | ok fl =>
      cases fl with
      | ret u => exact hq
      | next => exact hq
      | brk => exact hq
      | cont => exact hq⟩
theorem FnOk.less0 {f : Addr} {fd : FuncData} {sp sp' : Sp} (G : FnOk P w K mg base CX0 k f fd ps sp) (h : ∀ vs H Q E, sp' vs H Q E → sp vs H Q E) : FnOk P w K mg base CX0 k f fd ps sp' := by
  obtain ⟨a, b⟩ := G
  exact ⟨fun vs H Q E z => a vs H Q E (h _ _ _ _ z), fun A outer s H args us vs Q E hr e0 hb r z => b A outer s H args us vs Q E hr e0 hb r (h _ _ _ _ z)⟩
theorem DefOkG.toD {f : List W → List GO → Option (RG W)} (h : DefOkG P w K mg base k n x ps f) : DefOk P w K mg base k n x ps (dGD f) := by
  obtain ⟨a, fd, G, h1, h2, h3⟩ := h.ex
  exact ⟨a, fd, FnOk.less0 (FnOk.calm G) spD_G, h1, h2, h3⟩
end
def lensD : List D → Option (List Nat)
  | [] => some []
  | .list ds :: r => (lensD r).bind fun ns => some (ds.length :: ns)
  | _ => none
def pickD : List D → List Nat → List Nat → Option D
  | w :: ws, n :: ns, all => if (all.all fun m => decide (n ≤ m)) = true then some w else pickD ws ns all
  | _, _, _ => none
def fMinLen : List D → Option D
  | [.list ds] => (lensD ds).bind fun ns => pickD ds ns ns
  | _ => none
theorem pickD_at : ∀ {ws : List D} {ns all : List Nat} {z : D} {i : Nat} {n : Nat}, pickD ws ns all = some z → ns.length = ws.length → ns[i]? = some n → (∀ m ∈ all, n ≤ m) → (∀ j n', j < i → ns[j]? = some n' → n < n') → (∀ n' ∈ ns, n' ∈ all) → ws[i]? = some z
  | [], [], all, z, i, n, h, _, _, _, _, _ => by cases h
  | [], _ :: _, _, _, _, _, _, hl, _, _, _, _ => by cases hl
  | _ :: _, [], _, _, _, _, _, hl, _, _, _, _ => by cases hl
  | w :: ws, k :: ns, all, z, 0, n, h, hl, hn, h1, h2, h3 => by
    cases hn
    unfold pickD at h
    rw [if_pos (List.all_eq_true.mpr fun m hm => decide_eq_true (h1 m hm))] at h
    cases h
    rfl
  | w :: ws, k :: ns, all, z, i + 1, n, h, hl, hn, h1, h2, h3 => by
    unfold pickD at h
    have hk : n < k := h2 0 k (Nat.succ_pos i) rfl
    have hn' : ns[i]? = some n := hn
    have hna : n ∈ all := h3 n (List.mem_cons_of_mem _ (List.mem_of_getElem? hn'))
    rw [if_neg (fun z => by
      have := of_decide_eq_true (List.all_eq_true.mp z n hna)
      omega)] at h
    exact pickD_at (ws := ws) (ns := ns) h (by simpa using hl) hn' h1 (fun j n' hj e => h2 (j + 1) n' (Nat.succ_lt_succ hj) e) fun n' hm => h3 n' (List.mem_cons_of_mem _ hm)
theorem lensD_at {K : PySem.W.Frag} {mg : Str → Option Value} {F H : Hp} (s : Same F H) : ∀ {us : List D} {ns : List Nat} {xs : List V}, lensD us = some ns → RpA K mg F xs us → ns.length = us.length ∧ ∀ (i : Nat) (x : V), xs[i]? = some x → ∃ (a : Addr) (ys : List V), x = V.ref a ∧ SqL K H a ys ∧ ns[i]? = some ys.length
  | [], ns, xs, h, r => by
    cases r
    cases h
    exact ⟨rfl, fun i x e => by simp at e⟩
  | .list ds :: us, ns, _, h, .cons (.lst hs ra) t => by
    obtain ⟨ms, h1, h⟩ := bind_some h
    cases h
    obtain ⟨a1, a2⟩ := lensD_at s h1 t
    refine ⟨by simp [a1], fun i x e => ?_⟩
    cases i with
    | zero =>
      cases e
      exact ⟨_, _, rfl, sqL_mono s hs, by rw [ra.length]; rfl⟩
    | succ i => exact a2 i x e
theorem rc_minLen {K : PySem.W.Frag} {mg : Str → Option Value} : RCD K mg (rMinLen K) fMinLen := fun F H vs ds d Q s r e q => by
  match ds, r, e with
  | [.list us], .cons (.lst hs ra) .nil, e =>
    obtain ⟨ns, h2, h3⟩ := bind_some (show (lensD us).bind _ = some d from e)
    obtain ⟨l1, l2⟩ := lensD_at s h2 ra
    have hx := ra.length
    refine ⟨_, _, fun i => ns.getD i 0, rfl, sqL_mono s hs, ?_, fun i x e => ?_, fun i x e h => ?_⟩
    · cases us with
      | nil =>
        cases ns <;> cases h3
      | cons u us => rw [hx]; exact Nat.succ_pos _
    · obtain ⟨b, ys, c1, c2, c3⟩ := l2 i x e
      exact ⟨b, ys, c1, c2, by simp [List.getD_eq_getElem?_getD, c3]⟩
    · have hi : i < ns.length := by
        rw [l1, ← hx]
        exact getElem?_len e
      have gd : ∀ j (hj : j < ns.length), ns.getD j 0 = ns[j] := fun j hj => by simp [List.getD_eq_getElem?_getD, hj]
      have hz : us[i]? = some d := pickD_at h3 l1 (List.getElem?_eq_getElem hi) (fun m hm => by
        obtain ⟨j, hj, rfl⟩ := List.mem_iff_getElem.mp hm
        have this : ns.getD i 0 ≤ ns.getD j 0 := (h j (by rw [hx, ← l1]; exact hj)).1
        rw [gd i hi, gd j hj] at this
        exact this) (fun j n' hj hn => by
        have hj' : j < ns.length := getElem?_len hn
        have this : ns.getD i 0 < ns.getD j 0 := (h j (by rw [hx, ← l1]; exact hj')).2 hj
        rw [gd i hi, gd j hj'] at this
        rw [List.getElem?_eq_getElem hj'] at hn
        cases hn
        exact this) fun n' hn => hn
      obtain ⟨v, g1, g2⟩ := ra.get hz
      rw [e] at g1
      cases g1
      exact q x F H (Stp.refl s) g2
theorem d_minLen {X : Cx} {pos p p2 kpos : Pos} {e : Expr} {ms : Ev → Option (List D)} (hc : X.calm = true) (hm : X.mg "min" = none) (hm2 : X.mg "len" = none) (ha : DA X [e] ms) (hg : Gl X "min" := by rfl) (hg2 : Gl X "len" := by rfl)
    (he : backTo pos (starEach [e] X.env) = (false, eval e X.env) :: backTo pos (starEach [] X.env) := by rfl) (hpl : (backTo pos (starEach [e] X.env)).any (·.1) = false := by rfl)
    (hall : (backToKw pos (keywordEach [⟨some "key", .Name "len" p2, kpos⟩] X.env)).all (·.1.isSome) = true := by rfl) (hnone : (backToKw pos (keywordEach [⟨some "key", .Name "len" p2, kpos⟩] X.env)).any (·.1.isNone) = false := by rfl)
    (hks : (backToKw pos (keywordEach [⟨some "key", .Name "len" p2, kpos⟩] X.env)).filterMap (·.1) = [Str.ofString "key"] := by rfl) :
    DE X (.Call (.Name "min" p) [e] [⟨some "key", .Name "len" p2, kpos⟩] pos) (eB fMinLen ms) := PE.weak (pe_minLen hc hm hm2 ha hg hg2 he hpl hall hnone hks) fun σ H Q ⟨F0, H0, F, ρ, d, k, e, q⟩ => by
  obtain ⟨ds, h1, e⟩ := bind_some e
  exact ⟨F0, H0, F, ρ, ds, k, h1, fun vs F1 H1 t1 r1 => rc_minLen F1 H1 vs ds d Q t1.s r1 e fun v F2 H2 t2 r2 => q v F2 H2 (t1.trans t2) r2⟩
def fO (f : List D → Option (List D)) : List W → List GO → Option (RG W) := fun ws g => (pures ws).bind fun ds => (f ds).bind fun es => some (.ok (.d (.list es)) g)
theorem spG_O {K : PySem.W.Frag} {mg : Str → Option Value} {n : Nat} {f : List D → Option (List D)} (vs : List V) (H : Hp) (Q : VK) (E : XK) (h : spG K mg n (fO f) vs H Q E) : spO K mg n f vs H Q E := by
  obtain ⟨F, φ, ws, g, r, s1, ra, l, hl, e, q⟩ := h
  obtain ⟨ds, h1, e⟩ := bind_some e
  obtain ⟨es, h2, e⟩ := bind_some e
  cases e
  refine ⟨F, ds, es, s1, ra.pure h1, (pures_len h1).trans hl, h2, fun p xs F1 H1 t1 hp fp hp1 r1 => ?_⟩
  have t2 : Stp F H (upd F1 p (.lst xs)) H1 := t1.ice hp hp1 fp
  exact q (.ref p) _ H1 φ t2.hols (l.step t2) (Px.refl _) (.d (.lst (.inl (.inl upd_same)) (r1.mono (same_new fp))))
theorem DefOkO.g {P : Program} {w : World} {K : PySem.W.Frag} {mg : Str → Option Value} {base : Heap} {k n : Nat} {x : Str} {ps : List Str} {f : List D → Option (List D)} (h : DefOkO P w K mg base k n x ps f) : DefOkG P w K mg base k n x ps (fO f) := by
  obtain ⟨a, fd, G, h1, h2, h3⟩ := h.ex
  exact ⟨a, fd, FnOk.less (FnOk.up G) spG_O, h1, h2, h3⟩
def ixA (y : D) : List D → Option Nat
  | [] => none
  | d :: r => if PyData.eqv d y = true then some 0 else (ixA y r).bind fun n => some (n + 1)
def mIndexA : D → List D → Option D
  | .list ds, [y] => if allSame (y :: ds) = true then (ixA y ds).bind fun n => some (.int (n : Int)) else none
  | _, _ => none
theorem ixA_at {y : D} : ∀ {ds : List D} {n : Nat}, ixA y ds = some n → (∃ d, ds[n]? = some d ∧ PyData.eqv d y = true) ∧ ∀ (k : Nat) (d : D), k < n → ds[k]? = some d → PyData.eqv d y = false
  | [], n, h => by cases h
  | d :: r, n, h => by
    unfold ixA at h
    split at h
    · rename_i e
      cases h
      exact ⟨⟨d, rfl, e⟩, fun k _ hk => absurd hk (Nat.not_lt_zero _)⟩
    · rename_i e
      obtain ⟨m, h1, h⟩ := bind_some h
      cases h
      obtain ⟨⟨d', a, b⟩, c⟩ := ixA_at h1
      refine ⟨⟨d', by simpa using a, b⟩, fun k x hk hx => ?_⟩
      cases k with
      | zero =>
        simp at hx
        rw [← hx]
        simpa using e
      | succ k => exact c k x (by omega) (by simpa using hx)
theorem flat_of {K : PySem.W.Frag} {mg : Str → Option Value} {F : Hp} {v : V} {d : D} (r : Rp K mg F v d) (h : sameD d d = true) : flatV v = true := by
  cases d <;> cases r <;> first
    | rfl
    | (simp [sameD] at h; done)
theorem eqv_of {K : PySem.W.Frag} {mg : Str → Option Value} {F : Hp} {v u : V} {d e : D} (r : Rp K mg F v d) (r2 : Rp K mg F u e) (h : sameD d e = true) : eqV v u = PyData.eqv d e := by
  cases d <;> cases e <;> first
    | (simp [sameD] at h; done)
    | (cases r; cases r2; simp [eqV, PyData.eqv]; done)
    | (cases r; cases r2; rfl)
section
variable {X : Cx} {pos : Pos} {e : Expr} {m : Ev → Option D}
theorem d_indexA {o : Expr} {apos : Pos} {mo : Ev → Option D} (ho : DE X o mo) (he : DE X e m) (hbase : attributeBase o "index" X.env (eval o X.env) = eval o X.env := by rfl)
    (hfew : ((backTo pos (starEach [e] X.env)).all (fun x => !x.1) && (backToKw pos (keywordEach [] X.env)).all (fun x => x.1.isSome)
      && decide ([e].length + ([] : List Keyword).length + (if ([] : List Keyword).isEmpty then 0 else 1) < 30)) = true := by rfl)
    (hline : (apos.endLine == pos.line) = true := by rfl) (hs : starEach [e] X.env = (false, eval e X.env) :: starEach [] X.env := by rfl) (hplain : (backTo pos (starEach [] X.env)).any (·.1) = false := by rfl) :
    DE X (.Call (.Attribute o "index" apos) [e] [] pos) (eM mIndexA mo (aC m aN)) := PE.weak (pe_bm PySem.F.plainAttrs_list PySem.F.slot_list_index PySem.F.type_list_index mt_index ho (pa_cons he pa_nil hs) hbase hfew hline hs hplain) fun σ H Q ⟨F0, H0, F, ρ, d, k, e, q⟩ => by
  obtain ⟨d1, h1, e⟩ := bind_some e
  obtain ⟨ds, h2, e⟩ := bind_some e
  obtain ⟨d2, h3, h2⟩ := bind_some h2
  obtain ⟨dn, h4, h2⟩ := bind_some h2
  cases h4
  cases h2
  refine ⟨F0, H0, F, ρ, d1, k, h1, fun v F1 H1 t1 r1 => ?_⟩
  match d1, e with
  | .list es, e =>
    simp only [mIndexA] at e
    split at e
    · rename_i hsm
      obtain ⟨n, h6, e⟩ := bind_some e
      cases e
      obtain ⟨hs1, hs2⟩ := allSame_cons hsm
      cases r1 with
      | lst hl ra =>
        rename_i a xs
        refine ⟨.inl ⟨rfl, _, sqL_mono t1.s hl⟩, F0, H0, F1, ρ, d2, k.step t1, h3, fun v2 F2 H2 t2 r2 => ?_⟩
        obtain ⟨⟨d', i1, i2⟩, i3⟩ := ixA_at h6
        have ra2 := ra.mono t2.f
        obtain ⟨z, z1, z2⟩ := ra2.get i1
        have hy2 : sameD d2 d2 = true := same_self hsm List.mem_cons_self
        refine ⟨_, xs, v2, n, z, rfl, rfl, sqL_mono (t1.s.trans t2.h) hl, flat_of r2 hy2, List.all_eq_true.mpr fun x hx => ?_, z1, ?_, fun k' z' hk hz => ?_, q _ F2 H2 (t1.trans t2) (.int _)⟩
        · obtain ⟨j, hj⟩ := List.mem_iff_getElem?.mp hx
          obtain ⟨dj, e1, e2⟩ := rpA_at ra2 hj
          exact flat_of e2 (same_self hs1 (List.mem_of_getElem? e1))
        · rw [eqv_of z2 r2 (allSame_all hsm d' (List.mem_cons_of_mem _ (List.mem_of_getElem? i1)) d2 List.mem_cons_self)]
          exact i2
        · obtain ⟨dj, e1, e2⟩ := rpA_at ra2 hz
          rw [eqv_of e2 r2 (allSame_all hsm dj (List.mem_cons_of_mem _ (List.mem_of_getElem? e1)) d2 List.mem_cons_self)]
          exact i3 k' dj hk e1
    · cases e
end
end Dm


namespace Q
open PySem PySem.Spec L2 Dm
def b__law_cell : Ev → Option Out := (sSeq (sIf (tB (e2 cLt (eV 1) (eB fLen (aC (eV 0) aN)))) (sRet (e2 ixD (eV 0) (eV 1))) sNop)
    (sRet (eC (.int 0))))
def m__law_cell : List D → Option D := run 2 b__law_cell
def b__law_mixed : Ev → Option Out := (sSeq (sSet 2 (e2 opMod (eB fInt (aC (e2 opAdd (e2 opAdd (e2 opMul (eV 0) (eC (.int 48271))) (e2 opMul (eV 1) (eC (.int 69621)))) (eC (.int 11))) aN)) (eC (.int 2147483647))))
    (sRet (e2 opMod (eB fInt (aC (e2 opAdd (e2 opAdd (e2 opMul (eV 2) (eC (.int 16807))) (e2 opMul (eV 1) (eC (.int 7919)))) (e2 opDiv (eV 2) (eC (.int 127773)))) aN)) (eC (.int 2147483629)))))
def m__law_mixed : List D → Option D := run 3 b__law_mixed
def l__law_draws_0 : Ev → Option Out := (sIf (tAnd (tTru (eV 4)) (tB (e2 cGt (eV 3) (eC (.int 0))))) (sSeq (sApp 2 (e2 opMod (eB fInt (aC (eV 3) aN)) (e2 opPow (eC (.int 10)) (eC (.int 7)))))
    (sSet 3 (e2 opDiv (eV 3) (e2 opPow (eC (.int 10)) (eC (.int 7)))))) (sApp 2 (eCall 2 Q.m__law_mixed (aC (eV 0) (aC (eV 5) aN)))))
def b__law_draws : Ev → Option Out := (sSeq (sOwn 2 (fLst aN))
    (sSeq (sSet 3 (eB fAbs (aC (eV 0) aN)))
    (sSeq (sSet 4 (e2 cGe (eV 3) (e2 opPow (eC (.int 10)) (eC (.int 18)))))
    (sSeq (sFor (gN 5) (iR1 (eV 1)) Q.l__law_draws_0)
    (sIce [2] (sRet (eV 2)))))))
def m__law_draws : List D → Option D := run 6 b__law_draws
def b__law_number : Ev → Option Out := (sSeq (sSet 1 (e2 opMod (eB fInt (aC (e2 ixD (eV 0) (eC (.int 1))) aN)) (eC (.int 6))))
    (sSeq (sSet 2 (e2 opSub (e2 opMod (eB fInt (aC (e2 ixD (eV 0) (eC (.int 2))) aN)) (eC (.int 7))) (eC (.int 3))))
    (sSeq (sIf (tB (e2 cEq (eV 1) (eC (.int 0)))) (sRet (e2 opAdd (e2 opPow (eC (.int 10)) (eC (.int 18))) (eV 2))) sNop)
    (sSeq (sIf (tB (e2 cEq (eV 1) (eC (.int 1)))) (sRet (e2 opSub (eV 2) (e2 opPow (eC (.int 10)) (eC (.int 18))))) sNop)
    (sSeq (sIf (tB (e2 cEq (eV 1) (eC (.int 2)))) (sRet (eV 2)) sNop)
    (sSeq (sIf (tB (e2 cEq (eV 1) (eC (.int 3)))) (sRet (e2 opMod (eB fInt (aC (e2 opAdd (e2 opMul (e2 ixD (eV 0) (eC (.int 2))) (e2 opPow (eC (.int 10)) (eC (.int 14)))) (e2 ixD (eV 0) (eC (.int 3)))) aN)) (e2 opPow (eC (.int 10)) (eC (.int 21))))) sNop)
    (sRet (e2 opSub (e2 opMod (eB fInt (aC (e2 opAdd (e2 opMul (e2 ixD (eV 0) (eC (.int 2))) (e2 opPow (eC (.int 10)) (eC (.int 7)))) (e2 ixD (eV 0) (eC (.int 3)))) aN)) (e2 opMul (eC (.int 2)) (e2 opPow (eC (.int 10)) (eC (.int 18))))) (e2 opPow (eC (.int 10)) (eC (.int 18)))))))))))
def m__law_number : List D → Option D := run 3 b__law_number
def b__law_signs : Ev → Option Out := (sSeq (sSet 0 (eC (.str " !\"#$&'()*+,-./0123456789:;<=>?@ABCDEFGHIJKLMNOPQRSTUVWXYZ[\\]^_`")))
    (sRet (e2 opAdd (eV 0) (eC (.str "abcdefghijklmnopqrstuvwxyz{|}~")))))
def m__law_signs : List D → Option D := run 1 b__law_signs
def l__law_text_0 : Ev → Option D := (e2 ixD (eV 2) (e2 opMod (eB fInt (aC (e2 opAdd (e2 ixD (eV 0) (e2 opMod (eB fInt (aC (eV 4) aN)) (eV 3))) (e2 opMul (e2 opDiv (eV 4) (eV 3)) (eC (.int 31)))) aN)) (eC (.int 94))))
def b__law_text : Ev → Option Out := (sSeq (sSet 2 (eCall 0 Q.m__law_signs aN))
    (sSeq (sSet 3 (eB fLen (aC (eV 0) aN)))
    (sRet (eM mJoin (eC (.str "")) (aC (eF (fLc 4 (iR1 (eV 1)) tYs Q.l__law_text_0)) aN)))))
def m__law_text : List D → Option D := run 5 b__law_text
def b_is_whole : Ev → Option Out := (sRet (eAnd (e1 (isD "int") (eV 0)) (eNot (e1 (isD "bool") (eV 0)))))
def m_is_whole : List D → Option D := run 1 b_is_whole
def l__has_text_signs_0 : Ev → Option D := (e2 cIn (eV 1) (eC (.str " !\"#$&'()*+,-./0123456789:;<=>?@ABCDEFGHIJKLMNOPQRSTUVWXYZ[\\]^_`abcdefghijklmnopqrstuvwxyz{|}~")))
def b__has_text_signs : Ev → Option Out := (sRet (eAnd (e2 cLe (eB fLen (aC (eV 0) aN)) (eC (.int 200))) (eB fAll (aC (eF (fLc 1 (iA (eV 0)) tYs Q.l__has_text_signs_0)) aN))))
def m__has_text_signs : List D → Option D := run 2 b__has_text_signs
def b_is_value : Ev → Option Out := (sSeq (sIf (tB (e2 cIsN (eV 0) (eC .none))) (sRet (eC (.bool true))) sNop)
    (sSeq (sIf (tB (e2 cEq (eV 1) (eC (.str "int")))) (sRet (eAnd (eCall 1 Q.m_is_whole (aC (eV 0) aN)) (eChain cLt cLt (e1 opNeg (eC (.int 1000000000000000000))) (eV 0) (eC (.int 1000000000000000000))))) sNop)
    (sSeq (sIf (tB (e2 cEq (eV 1) (eC (.str "bool")))) (sRet (e1 (isD "bool") (eV 0))) sNop)
    (sRet (eAnd (e2 cEq (eV 1) (eC (.str "text"))) (eAnd (e1 (isD "str") (eV 0)) (eCall 1 Q.m__has_text_signs (aC (eV 0) aN))))))))
def m_is_value : List D → Option D := run 2 b_is_value
def b_fault : Ev → Option Out := (sRet (eTup (aC (eC (.str "fault")) (aC (eV 0) aN))))
def m_fault : List D → Option D := run 1 b_fault
def b__law_object_v1 : Ev → Option Out := (sSeq (sSet 1 (e2 opAdd (eC (.int 1)) (e2 opMod (eB fInt (aC (e2 ixD (eV 0) (eC (.int 1))) aN)) (eC (.int 4)))))
    (sSeq (sSet 2 (eF (fLst (aC (eTup (aC (eC (.str "fault")) (aC (eC (.int 0)) aN))) (aC (eTup (aC (eC (.str "fault")) (aC (eC (.int 5)) aN))) (aC (eTup (aC (eC (.str "fault")) (aC (e1 opNeg (eC (.int 1))) aN))) (aC (eTup (aC (eC (.str "flaw")) (aC (eV 1) aN))) (aC (eTup (aC (eC (.str "fault")) (aC (eV 1) (aC (eV 1) aN)))) (aC (eTup (aC (eC (.str "fault")) aN)) (aC (eTup (aC (eV 1) (aC (eC (.str "fault")) aN))) aN))))))))))
    (sSeq (sSet 2 (e2 opAdd (eV 2) (eF (fLst (aC (eF (fLst (aC (eC (.str "fault")) (aC (eV 1) aN)))) (aC (eC (.str "fault")) (aC (eV 1) (aC (eC .none) (aC (eC (.bool true)) (aC (eTup (aC (eC (.str "fault")) (aC (eC (.str "1")) aN))) (aC (eTup (aC (eC (.str "fault")) (aC (eC .none) aN))) (aC (eTup aN) aN))))))))))))
    (sSeq (sIf (tB (e2 cEq (e2 opMod (eB fInt (aC (e2 ixD (eV 0) (eC (.int 0))) aN)) (eC (.int 3))) (eC (.int 0)))) (sRet (eTup (aC (eC (.str "fault")) (aC (eV 1) aN)))) sNop)
    (sRet (e2 ixD (eV 2) (e2 opMod (eB fInt (aC (e2 ixD (eV 0) (eC (.int 2))) aN)) (eC (.int 15)))))))))
def m__law_object_v1 : List D → Option D := run 3 b__law_object_v1
def b__law_int : Ev → Option Out := (sSeq (sSet 2 (e2 opMod (eB fInt (aC (e2 ixD (eV 0) (eV 1)) aN)) (eC (.int 8))))
    (sSeq (sIf (tB (e2 cEq (eV 2) (eC (.int 0)))) (sRet (e2 opSub (e2 opMod (eB fInt (aC (e2 ixD (eV 0) (e2 opAdd (eV 1) (eC (.int 1)))) aN)) (eC (.int 21))) (eC (.int 10)))) sNop)
    (sSeq (sIf (tB (e2 cEq (eV 2) (eC (.int 1)))) (sRet (e2 opSub (e2 opSub (e2 opPow (eC (.int 10)) (eC (.int 18))) (eC (.int 1))) (e2 opMod (eB fInt (aC (e2 ixD (eV 0) (e2 opAdd (eV 1) (eC (.int 1)))) aN)) (eC (.int 5))))) sNop)
    (sSeq (sIf (tB (e2 cEq (eV 2) (eC (.int 2)))) (sRet (e2 opSub (e2 opAdd (e2 opMod (eB fInt (aC (e2 ixD (eV 0) (e2 opAdd (eV 1) (eC (.int 1)))) aN)) (eC (.int 5))) (eC (.int 1))) (e2 opPow (eC (.int 10)) (eC (.int 18))))) sNop)
    (sSeq (sIf (tB (e2 cLt (eV 2) (eC (.int 5)))) (sRet (e2 opSub (e2 opMod (eB fInt (aC (e2 ixD (eV 0) (e2 opAdd (eV 1) (eC (.int 1)))) aN)) (eC (.int 2000003))) (eC (.int 1000001)))) sNop)
    (sRet (e2 opSub (e2 opMod (eB fInt (aC (e2 opAdd (e2 opAdd (e2 opMul (e2 ixD (eV 0) (e2 opAdd (eV 1) (eC (.int 1)))) (e2 opPow (eC (.int 10)) (eC (.int 14)))) (e2 opMul (e2 ixD (eV 0) (e2 opAdd (eV 1) (eC (.int 2)))) (e2 opPow (eC (.int 10)) (eC (.int 7))))) (e2 ixD (eV 0) (e2 opAdd (eV 1) (eC (.int 3))))) aN)) (e2 opSub (e2 opMul (eC (.int 2)) (e2 opPow (eC (.int 10)) (eC (.int 18)))) (eC (.int 1)))) (e2 opSub (e2 opPow (eC (.int 10)) (eC (.int 18))) (eC (.int 1))))))))))
def m__law_int : List D → Option D := run 3 b__law_int
def k_NOT_STRICT : D := (.tuple [(.str "and"), (.str "or"), (.str "isnull"), (.str "same"), (.str "coalesce"), (.str "nullif")])
def b_is_strict : Ev → Option Out := (sRet (eAnd (e2 (inTab "SIGNATURES" [("not", true), ("and", true), ("or", true), ("isnull", true), ("same", true), ("coalesce", true), ("nullif", true)]) (eV 0) (eC (fnD "SIGNATURES"))) (e2 cNotIn (eV 0) (eC Q.k_NOT_STRICT))))
def m_is_strict : List D → Option D := run 1 b_is_strict
def b__law_worth_v1 : Ev → Option Out := (sSeq (sIf (tB (e2 cEq (e2 opMod (eB fInt (aC (e2 ixD (eV 1) (eC (.int 0))) aN)) (eC (.int 6))) (eC (.int 0)))) (sRet (eC .none)) sNop)
    (sSeq (sIf (tB (e2 cEq (eV 0) (eC (.str "bool")))) (sRet (e2 cEq (e2 opMod (eB fInt (aC (e2 ixD (eV 1) (eC (.int 1))) aN)) (eC (.int 2))) (eC (.int 1)))) sNop)
    (sSeq (sIf (tB (e2 cEq (eV 0) (eC (.str "int")))) (sSeq (sIf (tB (e2 cLt (e2 opMod (eB fInt (aC (e2 ixD (eV 1) (eC (.int 0))) aN)) (eC (.int 6))) (eC (.int 4)))) (sRet (e2 opSub (e2 opMod (eB fInt (aC (e2 ixD (eV 1) (eC (.int 1))) aN)) (eC (.int 5))) (eC (.int 2)))) sNop)
    (sRet (eCall 2 Q.m__law_int (aC (eV 1) (aC (eC (.int 1)) aN))))) sNop)
    (sSeq (sIf (tB (e2 cLt (e2 opMod (eB fInt (aC (e2 ixD (eV 1) (eC (.int 0))) aN)) (eC (.int 6))) (eC (.int 4)))) (sRet (e2 ixD (eF (fLst (aC (eC (.str "")) (aC (eC (.str "a")) (aC (eC (.str "ab")) (aC (eC (.str "b")) (aC (eC (.str "A")) (aC (eC (.str " ")) (aC (eC (.str "a ")) aN))))))))) (e2 opMod (eB fInt (aC (e2 ixD (eV 1) (eC (.int 1))) aN)) (eC (.int 7))))) sNop)
    (sRet (eCall 2 Q.m__law_text (aC (eSl (eV 1) (oS (eC (.int 5))) oN) (aC (e2 opMod (eB fInt (aC (e2 ixD (eV 1) (eC (.int 1))) aN)) (eC (.int 9))) aN))))))))
def m__law_worth_v1 : List D → Option D := run 2 b__law_worth_v1
def k_KINDS : D := (.tuple [(.str "int"), (.str "text"), (.str "bool")])
def l__law_turned_0 : Ev → Option Out := (sSeq (sSet 5 (eM mFind (eV 1) (aC (eV 4) aN)))
    (sIf (tB (e2 cLt (eV 5) (eC (.int 0)))) (sSet 3 (e2 opAdd (eV 3) (eV 4))) (sSet 3 (e2 opAdd (eV 3) (e2 ixD (eV 2) (eV 5))))))
def b__law_turned : Ev → Option Out := (sSeq (sSet 3 (eC (.str "")))
    (sSeq (sFor (gN 4) (iA (eV 0)) Q.l__law_turned_0)
    (sRet (eV 3))))
def m__law_turned : List D → Option D := run 6 b__law_turned
def b__law_size : Ev → Option Out := (sSeq (sSet 1 (e2 opMod (eB fInt (aC (eV 0) aN)) (eC (.int 12))))
    (sSeq (sIf (tB (e2 cEq (eV 1) (eC (.int 0)))) (sRet (e2 ixD (eF (fLst (aC (eC (.int 255)) (aC (eC (.int 256)) (aC (eC (.int 127)) (aC (eC (.int 128)) (aC (eC (.int 129)) (aC (eC (.int 64)) aN)))))))) (e2 opMod (e2 opDiv (eB fInt (aC (eV 0) aN)) (eC (.int 12))) (eC (.int 6))))) sNop)
    (sSeq (sIf (tB (e2 cLt (eV 1) (eC (.int 4)))) (sRet (e2 opMod (e2 opDiv (eB fInt (aC (eV 0) aN)) (eC (.int 12))) (eC (.int 33)))) sNop)
    (sRet (e2 opMod (e2 opDiv (eB fInt (aC (eV 0) aN)) (eC (.int 12))) (eC (.int 10)))))))
def m__law_size : List D → Option D := run 2 b__law_size
def l__law_column_0 : Ev → Option Out := (sSeq (sSet 6 (eCall 2 Q.m__law_draws (aC (e2 opAdd (eCall 2 Q.m__law_cell (aC (eV 0) (aC (e2 opAdd (eC (.int 1)) (e2 opMod (eV 5) (eC (.int 60)))) aN))) (e2 opMul (e2 opDiv (eV 5) (eC (.int 60))) (eC (.int 17)))) (aC (eC (.int 14)) aN))))
    (sIf (tAnd (tB (e2 cEq (e2 opMod (eB fInt (aC (e2 ixD (eV 6) (eC (.int 13))) aN)) (eC (.int 3))) (eC (.int 0)))) (tB (e2 cGt (eV 5) (eC (.int 0))))) (sApp 4 (eIxO 4 (e2 opSub (eV 5) (eC (.int 1))))) (sIf (tAnd (tB (e2 cGt (eV 3) (eC (.int 40)))) (tB (e2 cEq (e2 opMod (eB fInt (aC (e2 ixD (eV 6) (eC (.int 13))) aN)) (eC (.int 3))) (eC (.int 1))))) (sApp 4 (e2 ixD (eF (fLst (aC (e2 opMod (eB fInt (aC (e2 ixD (eV 6) (eC (.int 1))) aN)) (eC (.int 4))) (aC (eSl (eC (.str "ab")) oN (oS (e2 opMod (eB fInt (aC (e2 ixD (eV 6) (eC (.int 1))) aN)) (eC (.int 3))))) (aC (e2 cEq (e2 opMod (eB fInt (aC (e2 ixD (eV 6) (eC (.int 1))) aN)) (eC (.int 2))) (eC (.int 0))) aN))))) (e2 opMod (eB fInt (aC (e2 ixD (eV 1) (eC (.int 0))) aN)) (eC (.int 3))))) (sApp 4 (eCall 2 Q.m__law_worth_v1 (aC (eV 2) (aC (eV 6) aN)))))))
def b__law_column : Ev → Option Out := (sSeq (sSet 2 (e2 ixD (eF (fLst (aC (eC (.str "int")) (aC (eC (.str "text")) (aC (eC (.str "bool")) aN))))) (e2 opMod (eB fInt (aC (e2 ixD (eV 1) (eC (.int 0))) aN)) (eC (.int 3)))))
    (sSeq (sSet 3 (eCall 1 Q.m__law_size (aC (e2 ixD (eV 1) (eC (.int 1))) aN)))
    (sSeq (sOwn 4 (fLst aN))
    (sSeq (sFor (gN 5) (iR1 (eV 3)) Q.l__law_column_0)
    (sSeq (sIf (tB (e2 cEq (e2 opMod (eB fInt (aC (e2 ixD (eV 1) (eC (.int 2))) aN)) (eC (.int 12))) (eC (.int 0)))) (sIce [4] (sOwn 4 (fLc 7 (iA (eV 4)) tYs (eC .none)))) sNop)
    (sSeq (sIf (tB (e2 cEq (e2 opMod (eB fInt (aC (e2 ixD (eV 1) (eC (.int 2))) aN)) (eC (.int 12))) (eC (.int 1)))) (sIce [4] (sOwn 4 (fLc 7 (iA (eV 4)) (tB (e2 cNotN (eV 7) (eC .none))) (eV 7)))) sNop)
    (sIce [4] (sRet (eV 4)))))))))
def m__law_column : List D → Option D := run 8 b__law_column
def b_bound : Ev → Option Out := (sSeq (sOwn 1 (fLc 2 (iA (eV 0)) (tB (e2 cNotN (eV 2) (eC .none))) (eV 2)))
    (sSeq (sSet 3 (e2 opSub (eB fLen (aC (eV 0) aN)) (eLenO 1)))
    (sSeq (sIce [1] (sIf (tNot (tTru (eV 1))) (sRet (eTup (aC (eC .none) (aC (eC .none) (aC (eV 3) aN))))) sNop))
    (sIce [1] (sRet (eTup (aC (eB fMinA (aC (eV 1) aN)) (aC (eB fMaxA (aC (eV 1) aN)) (aC (eV 3) aN)))))))))
def m_bound : List D → Option D := run 4 b_bound
def l__law_sevens_0 : Gv → Option (OutG) := (hSeq (hIf (gtOf (tB (e2 cLt (eV 0) (eC (.int 128))))) (hRet (g2 addLW (gV 1) (gOf (eF (fLst (aC (eV 0) aN)))))) hNop)
    (hSeq (hExpr (gBm isLw appW (gV 1) (gaOf (aC (e2 opAdd (e2 opMod (eB fInt (aC (eV 0) aN)) (eC (.int 128))) (eC (.int 128))) aN))))
    (hAsg (hgN 0) (gOf (e2 opDiv (eV 0) (eC (.int 128)))))))
def b__law_sevens : Gv → Option OutG := (hSeq (hAsg (hgN 1) (gNew (fLst aN)))
    (hSeq (hFor 100000 (hgN 2) (giOf (iR1 (eC (.int 10)))) Q.l__law_sevens_0)
    (hRet (gV 1))))
def m__law_sevens : List W → List GO → Option (RG W) := runG 3 b__law_sevens
def b__law_signed : Ev → Option Out := (sSeq (sIf (tB (e2 cGe (eV 0) (eC (.int 0)))) (sRet (eCall 1 (dGD Q.m__law_sevens) (aC (e2 opMul (eC (.int 2)) (eV 0)) aN))) sNop)
    (sRet (eCall 1 (dGD Q.m__law_sevens) (aC (e2 opSub (e2 opMul (e1 opNeg (eC (.int 2))) (eV 0)) (eC (.int 1))) aN))))
def m__law_signed : List D → Option D := run 1 b__law_signed
def l__law_one_v1_0 : Gv → Option (OutG) := (hSeq (hAsg (hgN 4) (gOf (eM mFind (eV 2) (aC (eV 3) aN))))
    (hExpr (gBm isLw appW (gV 1) (gaOf (aC (e2 opAdd (e2 opAdd (eC (.int 32)) (eV 4)) (eB fInt (aC (e2 cGe (eV 4) (eC (.int 5))) aN))) aN)))))
def b__law_one_v1 : Gv → Option OutG := (hSeq (hIf (gtOf (tTru (e1 (isD "bool") (eV 0)))) (hRet (gOf (eF (fLst (aC (eB fInt (aC (eV 0) aN)) aN))))) hNop)
    (hSeq (hIf (gtOf (tTru (e1 (isD "int") (eV 0)))) (hRet (gOf (eCall 1 Q.m__law_signed (aC (eV 0) aN)))) hNop)
    (hSeq (hAsg (hgN 1) (gCall 1 Q.m__law_sevens (gaOf (aC (eB fLen (aC (eV 0) aN)) aN))))
    (hSeq (hAsg (hgN 2) (gOf (eCall 0 Q.m__law_signs aN)))
    (hSeq (hFor 100000 (hgN 3) (giOf (iA (eV 0))) Q.l__law_one_v1_0)
    (hRet (gV 1)))))))
def m__law_one_v1 : List W → List GO → Option (RG W) := runG 5 b__law_one_v1
def l__law_runs_0 : Ev → Option Out := (sSeq (sIf (tB (e2 cNe (e2 ixD (eV 0) (eV 5)) (e2 ixD (eV 0) (eV 3)))) sBreak sNop)
    (sSet 4 (e2 opAdd (eV 4) (eC (.int 1)))))
def l__law_runs_1 : Ev → Option Out := (sIf (tOr (tB (e2 cEq (eV 3) (eC (.int 0)))) (tB (e2 cNe (e2 ixD (eV 0) (eV 3)) (e2 ixD (eV 0) (e2 opSub (eV 3) (eC (.int 1))))))) (sSeq (sSet 2 (e2 opAdd (eV 2) (eC (.int 1))))
    (sSeq (sSet 4 (eC (.int 1)))
    (sSeq (sFor (gN 5) (iR2 (e2 opAdd (eV 3) (eC (.int 1))) (eB fLen (aC (eV 0) aN))) Q.l__law_runs_0)
    (sSet 1 (e2 opAdd (e2 opAdd (eV 1) (eCall 1 (dGD Q.m__law_sevens) (aC (eV 4) aN))) (eCall 1 (dGD Q.m__law_one_v1) (aC (e2 ixD (eV 0) (eV 3)) aN))))))) sNop)
def b__law_runs : Ev → Option Out := (sSeq (sSet 1 (eF (fLst aN)))
    (sSeq (sSet 2 (eC (.int 0)))
    (sSeq (sFor (gN 3) (iR1 (eB fLen (aC (eV 0) aN))) Q.l__law_runs_1)
    (sRet (e2 opAdd (eCall 1 (dGD Q.m__law_sevens) (aC (eV 2) aN)) (eV 1))))))
def m__law_runs : List D → Option D := run 6 b__law_runs
def l__law_all_0 : Ev → Option Out := (sSet 1 (e2 opAdd (eV 1) (eCall 1 (dGD Q.m__law_one_v1) (aC (eV 2) aN))))
def b__law_all : Ev → Option Out := (sSeq (sSet 1 (eF (fLst aN)))
    (sSeq (sFor (gN 2) (iA (eV 0)) Q.l__law_all_0)
    (sRet (eV 1))))
def m__law_all : List D → Option D := run 3 b__law_all
def l__law_book_0 : Ev → Option Out := (sIf (tLend [1] (tOr (tB (e2 cEq (eV 1) (eF (fLst aN)))) (tB (e2 cNe (eIxO 1 (e2 opSub (eLenO 1) (eC (.int 1)))) (eV 2))))) (sApp 1 (eV 2)) sNop)
def l__law_book_1 : Ev → Option Out := (sIce [1] (sSet 3 (e2 opAdd (eV 3) (eCall 1 (dGD Q.m__law_sevens) (aC (eM mIndexA (eV 1) (aC (eV 2) aN)) aN)))))
def b__law_book : Ev → Option Out := (sSeq (sOwn 1 (fLst aN))
    (sSeq (sFor (gN 2) (iA (eB fSortA (aC (eV 0) aN))) Q.l__law_book_0)
    (sSeq (sIce [1] (sSet 3 (e2 opAdd (eCall 1 (dGD Q.m__law_sevens) (aC (eLenO 1) aN)) (eCall 1 Q.m__law_all (aC (eV 1) aN)))))
    (sSeq (sFor (gN 2) (iA (eV 0)) Q.l__law_book_1)
    (sRet (eV 3))))))
def m__law_book : List D → Option D := run 4 b__law_book
def l__law_packed_0 : Ev → Option Out := (sIf (tAnd (tB (e2 cLt (e2 opAdd (eV 4) (eV 6)) (eB fLen (aC (eV 0) aN)))) (tB (e2 cIsN (e2 ixD (eV 0) (e2 opAdd (eV 4) (eV 6))) (eC .none)))) (sSet 5 (e2 opAdd (eV 5) (e2 ixD (eF (fLst (aC (eC (.int 1)) (aC (eC (.int 2)) (aC (eC (.int 4)) (aC (eC (.int 8)) (aC (eC (.int 16)) (aC (eC (.int 32)) (aC (eC (.int 64)) (aC (eC (.int 128)) aN)))))))))) (eV 6)))) sNop)
def l__law_packed_1 : Ev → Option Out := (sSeq (sSet 5 (eC (.int 0)))
    (sSeq (sFor (gN 6) (iR1 (eC (.int 8))) Q.l__law_packed_0)
    (sApp 3 (eV 5))))
def l__law_packed_2 : Ev → Option D := (e2 opSub (eIxO 7 (eV 6)) (eIxO 7 (e2 opSub (eV 6) (eC (.int 1)))))
def l__law_packed_3 : Ev → Option Out := (sIce [7] (sSet 9 (e2 opAdd (eV 9) (eCall 1 (dGD Q.m__law_sevens) (aC (e2 opSub (eV 8) (eB fMinL (aC (eV 7) aN))) aN)))))
def b__law_packed : Ev → Option Out := (sSeq (sOwn 3 (fAddL (eF (fLst (aC (eM mIndex (eF (fLst (aC (eC (.str "bool")) (aC (eC (.str "int")) (aC (eC (.str "text")) aN))))) (aC (eV 1) aN)) (aC (eV 2) aN)))) (eCall 1 (dGD Q.m__law_sevens) (aC (eB fLen (aC (eV 0) aN)) aN))))
    (sSeq (sFor (gN 4) (iR3 (eC (.int 0)) (eB fLen (aC (eV 0) aN)) (eC (.int 8))) Q.l__law_packed_1)
    (sSeq (sOwn 7 (fLc 8 (iA (eV 0)) (tB (e2 cNotN (eV 8) (eC .none))) (eV 8)))
    (sSeq (sIf (tB (e2 cEq (eV 2) (eC (.int 1)))) (sIce [3, 7] (sRet (e2 opAdd (eV 3) (eCall 1 Q.m__law_runs (aC (eV 7) aN))))) sNop)
    (sSeq (sIf (tB (e2 cEq (eV 2) (eC (.int 2)))) (sIce [3, 7] (sRet (e2 opAdd (eV 3) (eCall 1 Q.m__law_book (aC (eV 7) aN))))) sNop)
    (sSeq (sIce [7] (sIf (tOr (tB (e2 cEq (eV 2) (eC (.int 0)))) (tB (e2 cEq (eV 7) (eF (fLst aN))))) (sIce [3, 7] (sRet (e2 opAdd (eV 3) (eCall 1 Q.m__law_all (aC (eV 7) aN))))) sNop))
    (sSeq (sIf (tB (e2 cEq (eV 2) (eC (.int 3)))) (sIce [3] (sRet (e2 opAdd (eV 3) (eCall 1 Q.m__law_all (aC (e2 opAdd (eF (fLst (aC (eIxO 7 (eC (.int 0))) aN))) (eF (fLc 6 (iR2 (eC (.int 1)) (eLenO 7)) tYs Q.l__law_packed_2))) aN))))) sNop)
    (sSeq (sIce [3, 7] (sSet 9 (e2 opAdd (eV 3) (eCall 1 Q.m__law_signed (aC (eB fMinL (aC (eV 7) aN)) aN)))))
    (sSeq (sIce [7] (sFor (gN 8) (iA (eV 7)) Q.l__law_packed_3))
    (sRet (eV 9)))))))))))
def m__law_packed : List D → Option D := run 10 b__law_packed
def b_packings_of : Ev → Option Out := (sRet (e2 (ixTabD "PACKINGS" [("int", (.tuple [(.int 0), (.int 1), (.int 2), (.int 3), (.int 4)])), ("text", (.tuple [(.int 0), (.int 1), (.int 2)])), ("bool", (.tuple [(.int 0), (.int 1), (.int 2)]))]) (eC (fnD "PACKINGS")) (eV 0)))
def m_packings_of : List D → Option D := run 1 b_packings_of
def b__is_column_v1 : Ev → Option Out := (sSeq (sIf (tOr (tNot (tTru (e1 isDTL (eV 0)))) (tOr (tB (e2 cGt (eB fLen (aC (eV 0) aN)) (eC (.int 256)))) (tB (e2 cNotIn (eV 1) (eC Q.k_KINDS))))) (sRet (eC (.bool false))) sNop)
    (sRet (eB fAll (aC (eF (fLc 2 (iA (eV 0)) tYs (eCall 2 Q.m_is_value (aC (eV 2) (aC (eV 1) aN))))) aN))))
def m__is_column_v1 : List D → Option D := run 3 b__is_column_v1
def k_EVERY_PACKING : D := (.tuple [(.int 0), (.int 1), (.int 2), (.int 3), (.int 4)])
def b_is_packing : Ev → Option Out := (sRet (eAnd (eCall 1 Q.m_is_whole (aC (eV 0) aN)) (e2 cIn (eV 0) (eC Q.k_EVERY_PACKING))))
def m_is_packing : List D → Option D := run 1 b_is_packing
def k_KINDS_BY_NUMBER : D := (.tuple [(.str "bool"), (.str "int"), (.str "text")])
def l_long_number_0 : Ev → Option Out := (sSeq (sApp 1 (e2 opAdd (e2 opMod (eV 0) (eC (.int 128))) (eC (.int 128))))
    (sSet 0 (e2 opDiv (eV 0) (eC (.int 128)))))
def b_long_number : Ev → Option (List D) := (seqO (sOwn 1 (fLst aN))
    (seqO (sWhile 12 (tB (e2 cGe (eV 0) (eC (.int 128)))) Q.l_long_number_0)
    (seqO (sApp 1 (eV 0))
    (retO 1))))
def m_long_number : List D → Option (List D) := runO 2 b_long_number
def b__mask_length : Ev → Option Out := (sRet (e2 opDiv (e2 opAdd (eV 0) (eC (.int 7))) (eC (.int 8))))
def m__mask_length : List D → Option D := run 1 b__mask_length
def l__mask_0 : Ev → Option Out := (sIf (tB (e2 cIsN (eV 3) (eC .none))) (sPutAdd 1 (e2 opDiv (eV 2) (eC (.int 8))) (e2 opShl (eC (.int 1)) (e2 opMod (eV 2) (eC (.int 8))))) sNop)
def b__mask : Ev → Option Out := (sSeq (sOwn 1 (fRep (aC (eC (.int 0)) aN) (eCall 1 Q.m__mask_length (aC (eB fLen (aC (eV 0) aN)) aN))))
    (sSeq (sFor (gT 2 (gsC (gN 2) (gsC (gN 3) gs0))) (iEn (eV 0)) Q.l__mask_0)
    (sIce [1] (sRet (eV 1)))))
def m__mask : List D → Option D := run 4 b__mask
def k_WRITERS : D := (.tuple [fnD "_write_plain", fnD "_write_runs", fnD "_write_book", fnD "_write_steps", fnD "_write_near"])
def b_signed_number : Ev → Option (List D) := (fCallO 1 Q.m_long_number (aC (eIf (tB (e2 cGe (eV 0) (eC (.int 0)))) (e2 opMul (eC (.int 2)) (eV 0)) (e2 opSub (e2 opMul (e1 opNeg (eC (.int 2))) (eV 0)) (eC (.int 1)))) aN))
def m_signed_number : List D → Option (List D) := runO 1 b_signed_number
def b_value_numbers : Ev → Option Out := (sSeq (sIf (tB (e2 cEq (eV 1) (eC (.str "int")))) (sRet (eF (fCallO 1 Q.m_signed_number (aC (eV 0) aN)))) sNop)
    (sSeq (sIf (tB (e2 cEq (eV 1) (eC (.str "bool")))) (sRet (eF (fLst (aC (eIf (tTru (eV 0)) (eC (.int 1)) (eC (.int 0))) aN)))) sNop)
    (sRet (e2 opAdd (eF (fCallO 1 Q.m_long_number (aC (eB fLen (aC (eV 0) aN)) aN))) (eF (fLc 2 (iA (eV 0)) tYs (eB fOrd (aC (eV 2) aN))))))))
def m_value_numbers : List D → Option D := run 3 b_value_numbers
def l__write_plain_0 : Ev → Option Out := (sExt 2 (eCall 2 Q.m_value_numbers (aC (eV 3) (aC (eV 1) aN))))
def b__write_plain : Ev → Option Out := (sSeq (sOwn 2 (fLst aN))
    (sSeq (sFor (gN 3) (iA (eV 0)) Q.l__write_plain_0)
    (sIce [2] (sRet (eV 2)))))
def m__write_plain : List D → Option D := run 4 b__write_plain
def l__runs_of_0 : Ev → Option Out := (sIf (tAnd (tTruO 1) (tB (e2 cEq (e2 ixD (eIxO 1 (e1 opNeg (eC (.int 1)))) (eC (.int 1))) (eV 2)))) (sPut 1 (e1 opNeg (eC (.int 1))) (eTup (aC (e2 opAdd (e2 ixD (eIxO 1 (e1 opNeg (eC (.int 1)))) (eC (.int 0))) (eC (.int 1))) (aC (eV 2) aN)))) (sApp 1 (eTup (aC (eC (.int 1)) (aC (eV 2) aN)))))
def b__runs_of : Ev → Option Out := (sSeq (sOwn 1 (fLst aN))
    (sSeq (sFor (gN 2) (iA (eV 0)) Q.l__runs_of_0)
    (sIce [1] (sRet (eV 1)))))
def m__runs_of : List D → Option D := run 3 b__runs_of
def l__write_runs_0 : Ev → Option Out := (sSeq (sExt 3 (eF (fCallO 1 Q.m_long_number (aC (eV 4) aN))))
    (sExt 3 (eCall 2 Q.m_value_numbers (aC (eV 5) (aC (eV 1) aN)))))
def b__write_runs : Ev → Option Out := (sSeq (sSet 2 (eCall 1 Q.m__runs_of (aC (eV 0) aN)))
    (sSeq (sOwn 3 (fCallO 1 Q.m_long_number (aC (eB fLen (aC (eV 2) aN)) aN)))
    (sSeq (sFor (gT 2 (gsC (gN 4) (gsC (gN 5) gs0))) (iA (eV 2)) Q.l__write_runs_0)
    (sIce [3] (sRet (eV 3))))))
def m__write_runs : List D → Option D := run 6 b__write_runs
def l__write_book_0 : Gv → Option (OutG) := (hExpr (gBm isLw extW (gV 6) (gaC (gCall 1 (fO Q.m_long_number) (gaC (g2 lfgetW (gV 3) (gOf (eV 5))) gaN)) gaN)))
def b__write_book : Gv → Option OutG := (hSeq (hAsg (hgN 2) (gOf (eSortS (eV 0))))
    (hSeq (hAsg (hgN 3) (gDc 100000 [4, 5] (hgT 2 (hgC (hgN 4) (hgC (hgN 5) hg0))) (giOf (iEn (eV 2))) gtYes (gOf (eV 5)) (gOf (eV 4))))
    (hSeq (hAsg (hgN 6) (gNew (fAddL (eF (fCallO 1 Q.m_long_number (aC (eB fLen (aC (eV 2) aN)) aN))) (eCall 2 Q.m__write_plain (aC (eV 2) (aC (eV 1) aN))))))
    (hSeq (hFor 100000 (hgN 5) (giOf (iA (eV 0))) Q.l__write_book_0)
    (hRet (gV 6))))))
def m__write_book : List W → List GO → Option (RG W) := runG 7 b__write_book
def l__write_steps_0 : Ev → Option Out := (sSeq (sExt 2 (eF (fCallO 1 Q.m_signed_number (aC (e2 opSub (eV 4) (eV 3)) aN))))
    (sSet 3 (eV 4)))
def b__write_steps : Ev → Option Out := (sSeq (sOwn 2 (fLst aN))
    (sSeq (sSet 3 (eC (.int 0)))
    (sSeq (sFor (gN 4) (iA (eV 0)) Q.l__write_steps_0)
    (sIce [2] (sRet (eV 2))))))
def m__write_steps : List D → Option D := run 5 b__write_steps
def l__write_near_0 : Ev → Option Out := (sExt 3 (eF (fCallO 1 Q.m_long_number (aC (e2 opSub (eV 4) (eV 2)) aN))))
def b__write_near : Ev → Option Out := (sSeq (sIf (tNot (tTru (eV 0))) (sRet (eF (fLst aN))) sNop)
    (sSeq (sSet 2 (eB fMinL (aC (eV 0) aN)))
    (sSeq (sOwn 3 (fCallO 1 Q.m_signed_number (aC (eV 2) aN)))
    (sSeq (sFor (gN 4) (iA (eV 0)) Q.l__write_near_0)
    (sIce [3] (sRet (eV 3)))))))
def m__write_near : List D → Option D := run 5 b__write_near
def b_write_values : Ev → Option Out := (sSeq (sSet 3 (e2 ixD (eC Q.k_WRITERS) (eV 2)))
    (sRet (eWork 3 [(("_write_plain" : Str), 2, Q.m__write_plain), (("_write_runs" : Str), 2, Q.m__write_runs), (("_write_book" : Str), 2, (dGD Q.m__write_book)), (("_write_steps" : Str), 2, Q.m__write_steps), (("_write_near" : Str), 2, Q.m__write_near)] (aC (eV 0) (aC (eV 1) aN)))))
def m_write_values : List D → Option D := run 4 b_write_values
def b__numbers : Ev → Option Out := (sSeq (sSet 3 (e2 opAdd (eF (fLst (aC (eM mIndexT (eC Q.k_KINDS_BY_NUMBER) (aC (eV 1) aN)) (aC (eV 2) aN)))) (eF (fCallO 1 Q.m_long_number (aC (eB fLen (aC (eV 0) aN)) aN)))))
    (sSeq (sOwn 4 (fLc 5 (iA (eV 0)) (tB (e2 cNotN (eV 5) (eC .none))) (eV 5)))
    (sIce [4] (sRet (e2 opAdd (e2 opAdd (eV 3) (eCall 1 Q.m__mask (aC (eV 0) aN))) (eCall 3 Q.m_write_values (aC (eV 4) (aC (eV 1) (aC (eV 2) aN)))))))))
def m__numbers : List D → Option D := run 6 b__numbers
def b_packed : Ev → Option Out := (sSeq (sIf (tOr (tNot (tTru (eCall 2 Q.m__is_column_v1 (aC (eV 0) (aC (eV 1) aN))))) (tNot (tTru (eCall 1 Q.m_is_packing (aC (eV 2) aN))))) sNever sNop)
    (sSeq (sIf (tB (e2 cNotIn (eV 2) (eCall 1 Q.m_packings_of (aC (eV 1) aN)))) sNever sNop)
    (sRet (eCall 3 Q.m__numbers (aC (eV 0) (aC (eV 1) (aC (eV 2) aN)))))))
def m_packed : List D → Option D := run 3 b_packed
def b_packed_best : Ev → Option Out := (sSeq (sOwn 2 (fLc 3 (iA (eCall 1 Q.m_packings_of (aC (eV 1) aN))) tYs (eCall 3 Q.m_packed (aC (eV 0) (aC (eV 1) (aC (eV 3) aN))))))
    (sIce [2] (sRet (eB fMinLen (aC (eV 2) aN)))))
def m_packed_best : List D → Option D := run 4 b_packed_best
def b_best : Ev → Option Out := (sRet (e2 ixD (eCall 2 Q.m_packed_best (aC (eV 0) (aC (eV 1) aN))) (eC (.int 1))))
def m_best : List D → Option D := run 2 b_best
def l_law_v25_0 : Ev → Option Out := (sSeq (sSet 8 (eB fLen (aC (eCall 3 Q.m__law_packed (aC (eV 4) (aC (eV 2) (aC (eV 7) aN)))) aN)))
    (sIf (tB (e2 cLt (eV 8) (eV 6))) (sSeq (sSet 5 (eV 7))
    (sSet 6 (eV 8))) sNop))
def l_law_v25_1 : Ev → Option Out := (sSeq (sSet 5 (eC (.int 0)))
    (sSeq (sSet 6 (eB fLen (aC (eCall 3 Q.m__law_packed (aC (eV 4) (aC (eV 2) (aC (eC (.int 0)) aN)))) aN)))
    (sSeq (sFor (gN 7) (iR2 (eC (.int 1)) (e2 ixD (eF (fLst (aC (eC (.int 5)) (aC (eC (.int 3)) (aC (eC (.int 3)) aN))))) (e2 opMod (eB fInt (aC (e2 ixD (eV 1) (eC (.int 0))) aN)) (eC (.int 3))))) Q.l_law_v25_0)
    (sSeq (sSet 9 (eB fList (aC (eV 4) aN)))
    (sSeq (sSet 10 (eCall 2 Q.m_best (aC (eV 9) (aC (eV 2) aN))))
    (sIf (tOr (tNot (tTru (e1 (isD "int") (eV 10)))) (tOr (tTru (e1 (isD "bool") (eV 10))) (tOr (tB (e2 cNe (eV 10) (eV 5))) (tB (e2 cNe (eV 9) (eV 4)))))) (sRet (eC (.bool false))) sNop))))))
def b_law_v25 : Ev → Option Out := (sSeq (sSet 1 (eCall 2 Q.m__law_draws (aC (eCall 2 Q.m__law_cell (aC (eV 0) (aC (eC (.int 0)) aN))) (aC (eC (.int 6)) aN))))
    (sSeq (sSet 2 (e2 ixD (eF (fLst (aC (eC (.str "int")) (aC (eC (.str "text")) (aC (eC (.str "bool")) aN))))) (e2 opMod (eB fInt (aC (e2 ixD (eV 1) (eC (.int 0))) aN)) (eC (.int 3)))))
    (sSeq (sSet 3 (eCall 2 Q.m__law_column (aC (eV 0) (aC (eV 1) aN))))
    (sSeq (sFor (gN 4) (iA (eF (fLst (aC (eV 3) (aC (eSl (eV 3) oN (oS (e2 opDiv (eB fLen (aC (eV 3) aN)) (eC (.int 2))))) (aC (eSl (eV 3) oN (oS (eC (.int 1)))) aN)))))) Q.l_law_v25_1)
    (sRet (eC (.bool true)))))))
def m_law_v25 : List D → Option D := run 11 b_law_v25
end Q


namespace G_peristyle_k13_best_packing
open PySem PySem.Spec L2 Dm
def topS (i : Nat) : Stmt := PySem.Challenge.pw_peristyle_k13_best_packing.main.body.getD i (.Pass ⟨0, 0, 0, 0⟩)
abbrev s_is_whole : Stmt := topS 9
abbrev N_is_whole : List Str := ["x"]
theorem sc_is_whole : FnScope N_is_whole ["x"] (defScope s_is_whole) := ⟨rfl, rfl, rfl, by decide +kernel, rfl, by decide +kernel, by decide +kernel⟩
abbrev s__has_text_signs : Stmt := topS 11
abbrev N__has_text_signs : List Str := ["text", "sign"]
theorem sc__has_text_signs : FnScope N__has_text_signs ["text"] (defScope s__has_text_signs) := ⟨rfl, rfl, rfl, by decide +kernel, rfl, by decide +kernel, by decide +kernel⟩
abbrev s_long_number : Stmt := topS 13
abbrev N_long_number : List Str := ["n", "written"]
theorem sc_long_number : FnScope N_long_number ["n"] (defScope s_long_number) := ⟨rfl, rfl, rfl, by decide +kernel, rfl, by decide +kernel, by decide +kernel⟩
abbrev s_packings_of : Stmt := topS 19
abbrev N_packings_of : List Str := ["kind"]
theorem sc_packings_of : FnScope N_packings_of ["kind"] (defScope s_packings_of) := ⟨rfl, rfl, rfl, by decide +kernel, rfl, by decide +kernel, by decide +kernel⟩
abbrev s__runs_of : Stmt := topS 21
abbrev N__runs_of : List Str := ["values", "runs", "value"]
theorem sc__runs_of : FnScope N__runs_of ["values"] (defScope s__runs_of) := ⟨rfl, rfl, rfl, by decide +kernel, rfl, by decide +kernel, by decide +kernel⟩
abbrev s__mask_length : Stmt := topS 36
abbrev N__mask_length : List Str := ["many"]
theorem sc__mask_length : FnScope N__mask_length ["many"] (defScope s__mask_length) := ⟨rfl, rfl, rfl, by decide +kernel, rfl, by decide +kernel, by decide +kernel⟩
abbrev s__law_cell : Stmt := topS 40
abbrev N__law_cell : List Str := ["script", "k"]
theorem sc__law_cell : FnScope N__law_cell ["script", "k"] (defScope s__law_cell) := ⟨rfl, rfl, rfl, by decide +kernel, rfl, by decide +kernel, by decide +kernel⟩
abbrev s__law_mixed : Stmt := topS 41
abbrev N__law_mixed : List Str := ["cell", "k", "x"]
theorem sc__law_mixed : FnScope N__law_mixed ["cell", "k"] (defScope s__law_mixed) := ⟨rfl, rfl, rfl, by decide +kernel, rfl, by decide +kernel, by decide +kernel⟩
abbrev s__law_signs : Stmt := topS 43
abbrev N__law_signs : List Str := ["signs"]
theorem sc__law_signs : FnScope N__law_signs [] (defScope s__law_signs) := ⟨rfl, rfl, rfl, by decide +kernel, rfl, by decide +kernel, by decide +kernel⟩
abbrev s__law_int : Stmt := topS 45
abbrev N__law_int : List Str := ["draws", "at", "way"]
theorem sc__law_int : FnScope N__law_int ["draws", "at"] (defScope s__law_int) := ⟨rfl, rfl, rfl, by decide +kernel, rfl, by decide +kernel, by decide +kernel⟩
abbrev s__law_sevens : Stmt := topS 47
abbrev N__law_sevens : List Str := ["n", "out", "k"]
theorem sc__law_sevens : FnScope N__law_sevens ["n"] (defScope s__law_sevens) := ⟨rfl, rfl, rfl, by decide +kernel, rfl, by decide +kernel, by decide +kernel⟩
abbrev s__law_size : Stmt := topS 54
abbrev N__law_size : List Str := ["draw", "way"]
theorem sc__law_size : FnScope N__law_size ["draw"] (defScope s__law_size) := ⟨rfl, rfl, rfl, by decide +kernel, rfl, by decide +kernel, by decide +kernel⟩
abbrev s_is_value : Stmt := topS 10
abbrev N_is_value : List Str := ["x", "kind"]
theorem sc_is_value : FnScope N_is_value ["x", "kind"] (defScope s_is_value) := ⟨rfl, rfl, rfl, by decide +kernel, rfl, by decide +kernel, by decide +kernel⟩
abbrev s_signed_number : Stmt := topS 14
abbrev N_signed_number : List Str := ["i"]
theorem sc_signed_number : FnScope N_signed_number ["i"] (defScope s_signed_number) := ⟨rfl, rfl, rfl, by decide +kernel, rfl, by decide +kernel, by decide +kernel⟩
abbrev s_is_packing : Stmt := topS 31
abbrev N_is_packing : List Str := ["x"]
theorem sc_is_packing : FnScope N_is_packing ["x"] (defScope s_is_packing) := ⟨rfl, rfl, rfl, by decide +kernel, rfl, by decide +kernel, by decide +kernel⟩
abbrev s__mask : Stmt := topS 35
abbrev N__mask : List Str := ["values", "mask", "index", "value"]
theorem sc__mask : FnScope N__mask ["values"] (defScope s__mask) := ⟨rfl, rfl, rfl, by decide +kernel, rfl, by decide +kernel, by decide +kernel⟩
abbrev s__law_draws : Stmt := topS 42
abbrev N__law_draws : List Str := ["cell", "many", "draws", "rest", "large", "k"]
theorem sc__law_draws : FnScope N__law_draws ["cell", "many"] (defScope s__law_draws) := ⟨rfl, rfl, rfl, by decide +kernel, rfl, by decide +kernel, by decide +kernel⟩
abbrev s__law_text : Stmt := topS 44
abbrev N__law_text : List Str := ["draws", "size", "signs", "many", "k"]
theorem sc__law_text : FnScope N__law_text ["draws", "size"] (defScope s__law_text) := ⟨rfl, rfl, rfl, by decide +kernel, rfl, by decide +kernel, by decide +kernel⟩
abbrev s__law_signed : Stmt := topS 48
abbrev N__law_signed : List Str := ["i"]
theorem sc__law_signed : FnScope N__law_signed ["i"] (defScope s__law_signed) := ⟨rfl, rfl, rfl, by decide +kernel, rfl, by decide +kernel, by decide +kernel⟩
abbrev s_value_numbers : Stmt := topS 15
abbrev N_value_numbers : List Str := ["value", "kind", "sign"]
theorem sc_value_numbers : FnScope N_value_numbers ["value", "kind"] (defScope s_value_numbers) := ⟨rfl, rfl, rfl, by decide +kernel, rfl, by decide +kernel, by decide +kernel⟩
abbrev s__write_steps : Stmt := topS 24
abbrev N__write_steps : List Str := ["values", "kind", "written", "before", "value"]
theorem sc__write_steps : FnScope N__write_steps ["values", "kind"] (defScope s__write_steps) := ⟨rfl, rfl, rfl, by decide +kernel, rfl, by decide +kernel, by decide +kernel⟩
abbrev s__write_near : Stmt := topS 25
abbrev N__write_near : List Str := ["values", "kind", "least", "written", "value"]
theorem sc__write_near : FnScope N__write_near ["values", "kind"] (defScope s__write_near) := ⟨rfl, rfl, rfl, by decide +kernel, rfl, by decide +kernel, by decide +kernel⟩
abbrev s__is_column : Stmt := topS 32
abbrev N__is_column : List Str := ["values", "kind", "value"]
theorem sc__is_column : FnScope N__is_column ["values", "kind"] (defScope s__is_column) := ⟨rfl, rfl, rfl, by decide +kernel, rfl, by decide +kernel, by decide +kernel⟩
abbrev s__law_worth : Stmt := topS 46
abbrev N__law_worth : List Str := ["kind", "draws"]
theorem sc__law_worth : FnScope N__law_worth ["kind", "draws"] (defScope s__law_worth) := ⟨rfl, rfl, rfl, by decide +kernel, rfl, by decide +kernel, by decide +kernel⟩
abbrev s__law_one : Stmt := topS 49
abbrev N__law_one : List Str := ["x", "out", "signs", "sign", "at"]
theorem sc__law_one : FnScope N__law_one ["x"] (defScope s__law_one) := ⟨rfl, rfl, rfl, by decide +kernel, rfl, by decide +kernel, by decide +kernel⟩
abbrev s__write_plain : Stmt := topS 20
abbrev N__write_plain : List Str := ["values", "kind", "written", "value"]
theorem sc__write_plain : FnScope N__write_plain ["values", "kind"] (defScope s__write_plain) := ⟨rfl, rfl, rfl, by decide +kernel, rfl, by decide +kernel, by decide +kernel⟩
abbrev s__write_runs : Stmt := topS 22
abbrev N__write_runs : List Str := ["values", "kind", "runs", "written", "many", "value"]
theorem sc__write_runs : FnScope N__write_runs ["values", "kind"] (defScope s__write_runs) := ⟨rfl, rfl, rfl, by decide +kernel, rfl, by decide +kernel, by decide +kernel⟩
abbrev s__law_all : Stmt := topS 50
abbrev N__law_all : List Str := ["held", "out", "x"]
theorem sc__law_all : FnScope N__law_all ["held"] (defScope s__law_all) := ⟨rfl, rfl, rfl, by decide +kernel, rfl, by decide +kernel, by decide +kernel⟩
abbrev s__law_runs : Stmt := topS 51
abbrev N__law_runs : List Str := ["held", "out", "many", "k", "length", "j"]
theorem sc__law_runs : FnScope N__law_runs ["held"] (defScope s__law_runs) := ⟨rfl, rfl, rfl, by decide +kernel, rfl, by decide +kernel, by decide +kernel⟩
abbrev s__law_column : Stmt := topS 55
abbrev N__law_column : List Str := ["script", "shape", "kind", "size", "values", "k", "draws", "x"]
theorem sc__law_column : FnScope N__law_column ["script", "shape"] (defScope s__law_column) := ⟨rfl, rfl, rfl, by decide +kernel, rfl, by decide +kernel, by decide +kernel⟩
abbrev s__write_book : Stmt := topS 23
abbrev N__write_book : List Str := ["values", "kind", "book", "indexes", "index", "value", "written"]
theorem sc__write_book : FnScope N__write_book ["values", "kind"] (defScope s__write_book) := ⟨rfl, rfl, rfl, by decide +kernel, rfl, by decide +kernel, by decide +kernel⟩
abbrev s__law_book : Stmt := topS 52
abbrev N__law_book : List Str := ["held", "found", "x", "out"]
theorem sc__law_book : FnScope N__law_book ["held"] (defScope s__law_book) := ⟨rfl, rfl, rfl, by decide +kernel, rfl, by decide +kernel, by decide +kernel⟩
abbrev s_write_values : Stmt := topS 27
abbrev N_write_values : List Str := ["values", "kind", "packing", "write"]
theorem sc_write_values : FnScope N_write_values ["values", "kind", "packing"] (defScope s_write_values) := ⟨rfl, rfl, rfl, by decide +kernel, rfl, by decide +kernel, by decide +kernel⟩
abbrev s__law_packed : Stmt := topS 53
abbrev N__law_packed : List Str := ["values", "kind", "packing", "out", "start", "mask", "k", "held", "x", "near"]
theorem sc__law_packed : FnScope N__law_packed ["values", "kind", "packing"] (defScope s__law_packed) := ⟨rfl, rfl, rfl, by decide +kernel, rfl, by decide +kernel, by decide +kernel⟩
abbrev s__numbers : Stmt := topS 34
abbrev N__numbers : List Str := ["values", "kind", "packing", "head", "there", "value"]
theorem sc__numbers : FnScope N__numbers ["values", "kind", "packing"] (defScope s__numbers) := ⟨rfl, rfl, rfl, by decide +kernel, rfl, by decide +kernel, by decide +kernel⟩
abbrev s_packed : Stmt := topS 33
abbrev N_packed : List Str := ["values", "kind", "packing"]
theorem sc_packed : FnScope N_packed ["values", "kind", "packing"] (defScope s_packed) := ⟨rfl, rfl, rfl, by decide +kernel, rfl, by decide +kernel, by decide +kernel⟩
abbrev s_packed_best : Stmt := topS 38
abbrev N_packed_best : List Str := ["values", "kind", "columns", "packing"]
theorem sc_packed_best : FnScope N_packed_best ["values", "kind"] (defScope s_packed_best) := ⟨rfl, rfl, rfl, by decide +kernel, rfl, by decide +kernel, by decide +kernel⟩
abbrev s_best : Stmt := topS 37
abbrev N_best : List Str := ["values", "kind"]
theorem sc_best : FnScope N_best ["values", "kind"] (defScope s_best) := ⟨rfl, rfl, rfl, by decide +kernel, rfl, by decide +kernel, by decide +kernel⟩
abbrev s_law : Stmt := topS 56
abbrev N_law : List Str := ["script", "shape", "kind", "values", "column", "due", "fewest", "packing", "many", "given", "actual"]
theorem sc_law : FnScope N_law ["script"] (defScope s_law) := ⟨rfl, rfl, rfl, by decide +kernel, rfl, by decide +kernel, by decide +kernel⟩
structure Txt (w : World) (K : PySem.W.Frag) (mg : Str → Option Value) : Prop where
  z_abs : mg "abs" = none
  z_all : mg "all" = none
  z_bool : mg "bool" = none
  z_enumerate : mg "enumerate" = none
  z_int : mg "int" = none
  z_isinstance : mg "isinstance" = none
  z_len : mg "len" = none
  z_list : mg "list" = none
  z_min : mg "min" = none
  z_ord : mg "ord" = none
  z_range : mg "range" = none
  z_set : mg "set" = none
  z_sorted : mg "sorted" = none
  z_str : mg "str" = none
  z_tuple : mg "tuple" = none
  g_EVERY_PACKING : ∃ a, mg "EVERY_PACKING" = some (.ref a) ∧ ∀ F, Rp K mg F (.ref a) Q.k_EVERY_PACKING
  g_KINDS : ∃ a, mg "KINDS" = some (.ref a) ∧ ∀ F, Rp K mg F (.ref a) Q.k_KINDS
  g_KINDS_BY_NUMBER : ∃ a, mg "KINDS_BY_NUMBER" = some (.ref a) ∧ (∀ F, Rp K mg F (.ref a) Q.k_KINDS_BY_NUMBER) ∧ ∃ o, K.lookup a = some o ∧ o.cls = .type "tuple" ∧ o.dict = none
  g_LIMIT : ∃ t, mg "LIMIT" = some (.int (1000000000000000000) t)
  g_LONGEST : ∃ t, mg "LONGEST" = some (.int (200) t)
  g_MOST_VALUES : ∃ t, mg "MOST_VALUES" = some (.int (256) t)
  g_SIGNS : ∃ t, mg "SIGNS" = some (.str " !\"#$&'()*+,-./0123456789:;<=>?@ABCDEFGHIJKLMNOPQRSTUVWXYZ[\\]^_`abcdefghijklmnopqrstuvwxyz{|}~" t)
  g_WRITERS : ∃ a, mg "WRITERS" = some (.ref a) ∧ ∀ F, Rp K mg F (.ref a) Q.k_WRITERS
  tb_PACKINGS : ∃ ga es n, Tab K w mg "PACKINGS" ga es n ∧ (∀ p ∈ ([("int", true), ("text", true), ("bool", true)] : List (Str × Bool)), HasK K ga p.1 p.2) ∧ (∀ p ∈ ([] : List (Str × Str)), HasF K mg ga p.1 p.2) ∧ (∀ p ∈ ([("int", (.tuple [(.int 0), (.int 1), (.int 2), (.int 3), (.int 4)])), ("text", (.tuple [(.int 0), (.int 1), (.int 2)])), ("bool", (.tuple [(.int 0), (.int 1), (.int 2)]))] : List (Str × D)), HasD K mg ga p.1 p.2)
section
variable {P : Program} {w : World} {K : PySem.W.Frag} {mg : Str → Option Value} {base : Heap} [WdI] [WdOk P w]
theorem fn_is_whole (T : Txt w K mg) {f : Addr} {fd : FuncData} (F : Fun K "is_whole" "is_whole" s_is_whole f fd) : FnOk P w K mg base CX0 1 f fd ["x"] (spD K mg 1 Q.m_is_whole) := by
  exact def_ok F sc_is_whole rfl rfl fun cdv A outer sh H E hr =>
    (s_one (s_ret (d_and (d_isi "int" (dv 0) T.z_isinstance T.z_int) (d_one (d_not (d_isi "bool" (dv 0) T.z_isinstance T.z_bool))))))
theorem ok_is_whole (T : Txt w K mg) {f : Addr} {fd : FuncData} (F : Fun K "is_whole" "is_whole" s_is_whole f fd) (hm : mg "is_whole" = some (.ref f)) : DefOk P w K mg base 1 1 "is_whole" ["x"] Q.m_is_whole :=
  ⟨f, fd, fn_is_whole T F, hm, F.kp, F.binds fun _ _ _ _ _ _ us hl => match us, hl with | [_], _ => rfl⟩
theorem fn__has_text_signs (T : Txt w K mg) {f : Addr} {fd : FuncData} (F : Fun K "_has_text_signs" "_has_text_signs" s__has_text_signs f fd) : FnOk P w K mg base CX0 1 f fd ["text"] (spD K mg 1 Q.m__has_text_signs) := by
  obtain ⟨t_LONGEST, g_LONGEST⟩ := T.g_LONGEST
  obtain ⟨t_SIGNS, g_SIGNS⟩ := T.g_SIGNS
  exact def_ok F sc__has_text_signs rfl rfl fun cdv A outer sh H E hr =>
    (s_one (s_ret (d_and (d_cmp oLe r_le (d_len T.z_len (a_cons (dv 0) a_nil)) (d_gi g_LONGEST)) (d_one (d_all rfl T.z_all (a_cons (d_f (f_lc rfl sc__has_text_signs.nd (i_any (dv 0)) (blkOk_by (N := N__has_text_signs) (sc := defScope s__has_text_signs) (by decide +kernel)) (fun _ _ _ _ _ => pg_name (i := 1) sc__has_text_signs.nd rfl (by first | exact Or.inl rfl | exact Or.inr rfl)) (fun _ _ _ _ _ => ts_yes rfl) (fun _ _ _ _ _ => (d_cmp (oIn hr) r_in (dv 1) (d_gs g_SIGNS))))) a_nil))))))
theorem ok__has_text_signs (T : Txt w K mg) {f : Addr} {fd : FuncData} (F : Fun K "_has_text_signs" "_has_text_signs" s__has_text_signs f fd) (hm : mg "_has_text_signs" = some (.ref f)) : DefOk P w K mg base 1 1 "_has_text_signs" ["text"] Q.m__has_text_signs :=
  ⟨f, fd, fn__has_text_signs T F, hm, F.kp, F.binds fun _ _ _ _ _ _ us hl => match us, hl with | [_], _ => rfl⟩
theorem fn_long_number (T : Txt w K mg) {f : Addr} {fd : FuncData} (F : Fun K "long_number" "long_number" s_long_number f fd) : FnOk P w K mg base CX0 1 f fd ["n"] (spO K mg 1 Q.m_long_number) := by
  exact def_okO F sc_long_number rfl rfl fun cdv A outer sh H E hr =>
    (s_consO (s_own (i := 1) sc_long_number.nd (f_lst a_nil))
    (s_consO (s_while 12 PassesOwn.never (t_cmp oGe r_ge (dv 0) d_int) (s_cons (s_app (i := 1) (d_add (d_mod (dv 0) d_int) d_int))
    (s_one (s_set (i := 0) sc_long_number.nd (d_div (dv 0) d_int)))))
    (s_consO (s_app (i := 1) (dv 0))
    (s_retO 1))))
theorem ok_long_number (T : Txt w K mg) {f : Addr} {fd : FuncData} (F : Fun K "long_number" "long_number" s_long_number f fd) (hm : mg "long_number" = some (.ref f)) : DefOkO P w K mg base 1 1 "long_number" ["n"] Q.m_long_number :=
  ⟨f, fd, fn_long_number T F, hm, F.kp, F.binds fun _ _ _ _ _ _ us hl => match us, hl with | [_], _ => rfl⟩
theorem fn_packings_of (T : Txt w K mg) {f : Addr} {fd : FuncData} (F : Fun K "packings_of" "packings_of" s_packings_of f fd) : FnOk P w K mg base CX0 1 f fd ["kind"] (spD K mg 1 Q.m_packings_of) := by
  obtain ⟨ga_PACKINGS, es_PACKINGS, gn_PACKINGS, TB_PACKINGS, hk_PACKINGS, hf_PACKINGS, hd_PACKINGS⟩ := T.tb_PACKINGS
  exact def_ok F sc_packings_of rfl rfl fun cdv A outer sh H E hr =>
    (s_one (s_ret (d_ix ix_kdict (r_ixTabD TB_PACKINGS hd_PACKINGS) (d_gt TB_PACKINGS.m (fun F => .fn TB_PACKINGS.m)) (dv 0) )))
theorem ok_packings_of (T : Txt w K mg) {f : Addr} {fd : FuncData} (F : Fun K "packings_of" "packings_of" s_packings_of f fd) (hm : mg "packings_of" = some (.ref f)) : DefOk P w K mg base 1 1 "packings_of" ["kind"] Q.m_packings_of :=
  ⟨f, fd, fn_packings_of T F, hm, F.kp, F.binds fun _ _ _ _ _ _ us hl => match us, hl with | [_], _ => rfl⟩
theorem fn__runs_of (T : Txt w K mg) {f : Addr} {fd : FuncData} (F : Fun K "_runs_of" "_runs_of" s__runs_of f fd) : FnOk P w K mg base CX0 1 f fd ["values"] (spD K mg 1 Q.m__runs_of) := by
  exact def_ok F sc__runs_of rfl rfl fun cdv A outer sh H E hr =>
    (s_cons (s_own (i := 1) sc__runs_of.nd (f_lst a_nil))
    (s_cons (s_for PassesOwn.never rfl (i_any (dv 0)) (g_name (i := 2) sc__runs_of.nd) (s_one (s_if (t_w (w_and (t_truO 1) (w_and1 (t_cmp (oEq hr) r_eq (d_idx (d_ixO 1 (d_neg d_int)) d_int) (dv 2))))) (s_one (s_put (i := 1) (d_tup (a_cons (d_add (d_idx (d_ixO 1 (d_neg d_int)) d_int) d_int) (a_cons (dv 2) a_nil))) (d_neg d_int))) (s_one (s_app (i := 1) (d_tup (a_cons d_int (a_cons (dv 2) a_nil))))))))
    (s_one (s_ice [1] (s_ret (dv 1))))))
theorem ok__runs_of (T : Txt w K mg) {f : Addr} {fd : FuncData} (F : Fun K "_runs_of" "_runs_of" s__runs_of f fd) (hm : mg "_runs_of" = some (.ref f)) : DefOk P w K mg base 1 1 "_runs_of" ["values"] Q.m__runs_of :=
  ⟨f, fd, fn__runs_of T F, hm, F.kp, F.binds fun _ _ _ _ _ _ us hl => match us, hl with | [_], _ => rfl⟩
theorem fn__mask_length (T : Txt w K mg) {f : Addr} {fd : FuncData} (F : Fun K "_mask_length" "_mask_length" s__mask_length f fd) : FnOk P w K mg base CX0 1 f fd ["many"] (spD K mg 1 Q.m__mask_length) := by
  exact def_ok F sc__mask_length rfl rfl fun cdv A outer sh H E hr =>
    (s_one (s_ret (d_div (d_add (dv 0) d_int) d_int)))
theorem ok__mask_length (T : Txt w K mg) {f : Addr} {fd : FuncData} (F : Fun K "_mask_length" "_mask_length" s__mask_length f fd) (hm : mg "_mask_length" = some (.ref f)) : DefOk P w K mg base 1 1 "_mask_length" ["many"] Q.m__mask_length :=
  ⟨f, fd, fn__mask_length T F, hm, F.kp, F.binds fun _ _ _ _ _ _ us hl => match us, hl with | [_], _ => rfl⟩
theorem fn__law_cell (T : Txt w K mg) {f : Addr} {fd : FuncData} (F : Fun K "_law_cell" "_law_cell" s__law_cell f fd) : FnOk P w K mg base CX0 1 f fd ["script", "k"] (spD K mg 2 Q.m__law_cell) := by
  exact def_ok F sc__law_cell rfl rfl fun cdv A outer sh H E hr =>
    (s_cons (s_if (t_cmp oLt r_lt (dv 1) (d_len T.z_len (a_cons (dv 0) a_nil))) (s_one (s_ret (d_idx (dv 0) (dv 1)))) s_nil)
    (s_one (s_ret d_int)))
theorem ok__law_cell (T : Txt w K mg) {f : Addr} {fd : FuncData} (F : Fun K "_law_cell" "_law_cell" s__law_cell f fd) (hm : mg "_law_cell" = some (.ref f)) : DefOk P w K mg base 1 2 "_law_cell" ["script", "k"] Q.m__law_cell :=
  ⟨f, fd, fn__law_cell T F, hm, F.kp, F.binds fun _ _ _ _ _ _ us hl => match us, hl with | [_, _], _ => rfl⟩
theorem fn__law_mixed (T : Txt w K mg) {f : Addr} {fd : FuncData} (F : Fun K "_law_mixed" "_law_mixed" s__law_mixed f fd) : FnOk P w K mg base CX0 1 f fd ["cell", "k"] (spD K mg 2 Q.m__law_mixed) := by
  exact def_ok F sc__law_mixed rfl rfl fun cdv A outer sh H E hr =>
    (s_cons (s_set (i := 2) sc__law_mixed.nd (d_mod (d_intf T.z_int (a_cons (d_add (d_add (d_mul (dv 0) d_int) (d_mul (dv 1) d_int)) d_int) a_nil)) d_int))
    (s_one (s_ret (d_mod (d_intf T.z_int (a_cons (d_add (d_add (d_mul (dv 2) d_int) (d_mul (dv 1) d_int)) (d_div (dv 2) d_int)) a_nil)) d_int))))
theorem ok__law_mixed (T : Txt w K mg) {f : Addr} {fd : FuncData} (F : Fun K "_law_mixed" "_law_mixed" s__law_mixed f fd) (hm : mg "_law_mixed" = some (.ref f)) : DefOk P w K mg base 1 2 "_law_mixed" ["cell", "k"] Q.m__law_mixed :=
  ⟨f, fd, fn__law_mixed T F, hm, F.kp, F.binds fun _ _ _ _ _ _ us hl => match us, hl with | [_, _], _ => rfl⟩
theorem fn__law_signs (T : Txt w K mg) {f : Addr} {fd : FuncData} (F : Fun K "_law_signs" "_law_signs" s__law_signs f fd) : FnOk P w K mg base CX0 1 f fd [] (spD K mg 0 Q.m__law_signs) := by
  exact def_ok F sc__law_signs rfl rfl fun cdv A outer sh H E hr =>
    (s_cons (s_set (i := 0) sc__law_signs.nd d_str)
    (s_one (s_ret (d_add (dv 0) d_str))))
theorem ok__law_signs (T : Txt w K mg) {f : Addr} {fd : FuncData} (F : Fun K "_law_signs" "_law_signs" s__law_signs f fd) (hm : mg "_law_signs" = some (.ref f)) : DefOk P w K mg base 1 0 "_law_signs" [] Q.m__law_signs :=
  ⟨f, fd, fn__law_signs T F, hm, F.kp, F.binds fun _ _ _ _ _ _ us hl => match us, hl with | [], _ => rfl⟩
theorem fn__law_int (T : Txt w K mg) {f : Addr} {fd : FuncData} (F : Fun K "_law_int" "_law_int" s__law_int f fd) : FnOk P w K mg base CX0 1 f fd ["draws", "at"] (spD K mg 2 Q.m__law_int) := by
  exact def_ok F sc__law_int rfl rfl fun cdv A outer sh H E hr =>
    (s_cons (s_set (i := 2) sc__law_int.nd (d_mod (d_intf T.z_int (a_cons (d_idx (dv 0) (dv 1)) a_nil)) d_int))
    (s_cons (s_if (t_cmp (oEq hr) r_eq (dv 2) d_int) (s_one (s_ret (d_sub (d_mod (d_intf T.z_int (a_cons (d_idx (dv 0) (d_add (dv 1) d_int)) a_nil)) d_int) d_int))) s_nil)
    (s_cons (s_if (t_cmp (oEq hr) r_eq (dv 2) d_int) (s_one (s_ret (d_sub (d_sub (d_pow d_int d_int) d_int) (d_mod (d_intf T.z_int (a_cons (d_idx (dv 0) (d_add (dv 1) d_int)) a_nil)) d_int)))) s_nil)
    (s_cons (s_if (t_cmp (oEq hr) r_eq (dv 2) d_int) (s_one (s_ret (d_sub (d_add (d_mod (d_intf T.z_int (a_cons (d_idx (dv 0) (d_add (dv 1) d_int)) a_nil)) d_int) d_int) (d_pow d_int d_int)))) s_nil)
    (s_cons (s_if (t_cmp oLt r_lt (dv 2) d_int) (s_one (s_ret (d_sub (d_mod (d_intf T.z_int (a_cons (d_idx (dv 0) (d_add (dv 1) d_int)) a_nil)) d_int) d_int))) s_nil)
    (s_one (s_ret (d_sub (d_mod (d_intf T.z_int (a_cons (d_add (d_add (d_mul (d_idx (dv 0) (d_add (dv 1) d_int)) (d_pow d_int d_int)) (d_mul (d_idx (dv 0) (d_add (dv 1) d_int)) (d_pow d_int d_int))) (d_idx (dv 0) (d_add (dv 1) d_int))) a_nil)) (d_sub (d_mul d_int (d_pow d_int d_int)) d_int)) (d_sub (d_pow d_int d_int) d_int)))))))))
theorem ok__law_int (T : Txt w K mg) {f : Addr} {fd : FuncData} (F : Fun K "_law_int" "_law_int" s__law_int f fd) (hm : mg "_law_int" = some (.ref f)) : DefOk P w K mg base 1 2 "_law_int" ["draws", "at"] Q.m__law_int :=
  ⟨f, fd, fn__law_int T F, hm, F.kp, F.binds fun _ _ _ _ _ _ us hl => match us, hl with | [_, _], _ => rfl⟩
theorem fn__law_sevens (T : Txt w K mg) {f : Addr} {fd : FuncData} (F : Fun K "_law_sevens" "_law_sevens" s__law_sevens f fd) : FnOk P w K mg base (CX P w) 1 f fd ["n"] (spG K mg 1 Q.m__law_sevens) := by
  exact def_okG F sc__law_sevens rfl rfl fun cdv A outer sh H E U hr tk =>
    (h_cons (h_asg (g_new (f_lst a_nil)) (hg_name (i := 1) sc__law_sevens.nd))
    (h_cons (h_for 100000 PassesOwn.leaving rfl (gi_of (i_range1 T.z_range d_int)) (hg_name (i := 2) sc__law_sevens.nd) (h_cons (h_if (gt_of (t_cmp oLt r_lt (dv 0) d_int)) (h_one (h_ret (g_addL (g_var 1) (g_of (d_f (f_lst (a_cons (dv 0) a_nil))))))) h_nil)
    (h_cons (h_expr (g_append (g_var 1) (ga_of (a_cons (d_add (d_mod (d_intf T.z_int (a_cons (dv 0) a_nil)) d_int) d_int) a_nil))))
    (h_one (h_asg (g_of (d_div (dv 0) d_int)) (hg_name (i := 0) sc__law_sevens.nd))))))
    (h_one (h_ret (g_var 1)))))
theorem ok__law_sevens (T : Txt w K mg) {f : Addr} {fd : FuncData} (F : Fun K "_law_sevens" "_law_sevens" s__law_sevens f fd) (hm : mg "_law_sevens" = some (.ref f)) : DefOkG P w K mg base 1 1 "_law_sevens" ["n"] Q.m__law_sevens :=
  ⟨f, fd, fn__law_sevens T F, hm, F.kp, F.binds fun _ _ _ _ _ _ us hl => match us, hl with | [_], _ => rfl⟩
theorem fn__law_size (T : Txt w K mg) {f : Addr} {fd : FuncData} (F : Fun K "_law_size" "_law_size" s__law_size f fd) : FnOk P w K mg base CX0 1 f fd ["draw"] (spD K mg 1 Q.m__law_size) := by
  exact def_ok F sc__law_size rfl rfl fun cdv A outer sh H E hr =>
    (s_cons (s_set (i := 1) sc__law_size.nd (d_mod (d_intf T.z_int (a_cons (dv 0) a_nil)) d_int))
    (s_cons (s_if (t_cmp (oEq hr) r_eq (dv 1) d_int) (s_one (s_ret (d_idx (d_f (f_lst (a_cons d_int (a_cons d_int (a_cons d_int (a_cons d_int (a_cons d_int (a_cons d_int a_nil)))))))) (d_mod (d_div (d_intf T.z_int (a_cons (dv 0) a_nil)) d_int) d_int)))) s_nil)
    (s_cons (s_if (t_cmp oLt r_lt (dv 1) d_int) (s_one (s_ret (d_mod (d_div (d_intf T.z_int (a_cons (dv 0) a_nil)) d_int) d_int))) s_nil)
    (s_one (s_ret (d_mod (d_div (d_intf T.z_int (a_cons (dv 0) a_nil)) d_int) d_int))))))
theorem ok__law_size (T : Txt w K mg) {f : Addr} {fd : FuncData} (F : Fun K "_law_size" "_law_size" s__law_size f fd) (hm : mg "_law_size" = some (.ref f)) : DefOk P w K mg base 1 1 "_law_size" ["draw"] Q.m__law_size :=
  ⟨f, fd, fn__law_size T F, hm, F.kp, F.binds fun _ _ _ _ _ _ us hl => match us, hl with | [_], _ => rfl⟩
theorem fn_is_value (T : Txt w K mg) (D_is_whole : DefOk P w K mg base 1 1 "is_whole" ["x"] Q.m_is_whole) (D__has_text_signs : DefOk P w K mg base 1 1 "_has_text_signs" ["text"] Q.m__has_text_signs) {f : Addr} {fd : FuncData} (F : Fun K "is_value" "is_value" s_is_value f fd) : FnOk P w K mg base CX0 2 f fd ["x", "kind"] (spD K mg 2 Q.m_is_value) := by
  obtain ⟨f_is_whole, fd_is_whole, G_is_whole, gm_is_whole, kp_is_whole, bi_is_whole⟩ := D_is_whole.ex
  obtain ⟨f__has_text_signs, fd__has_text_signs, G__has_text_signs, gm__has_text_signs, kp__has_text_signs, bi__has_text_signs⟩ := D__has_text_signs.ex
  obtain ⟨t_LIMIT, g_LIMIT⟩ := T.g_LIMIT
  exact def_ok F sc_is_value rfl rfl fun cdv A outer sh H E hr =>
    (s_cons (s_if (t_cmp op_isN r_isN (dv 0) d_non) (s_one (s_ret d_bl)) s_nil)
    (s_cons (s_if (t_cmp (oEq hr) r_eq (dv 1) d_str) (s_one (s_ret (d_and (d_call G_is_whole hr (by decide) gm_is_whole kp_is_whole bi_is_whole pass0 (a_cons (dv 0) a_nil)) (d_one (d_chain oLt r_lt oLt r_lt (d_neg (d_gi g_LIMIT)) (dv 0) (d_gi g_LIMIT)))))) s_nil)
    (s_cons (s_if (t_cmp (oEq hr) r_eq (dv 1) d_str) (s_one (s_ret (d_isi "bool" (dv 0) T.z_isinstance T.z_bool))) s_nil)
    (s_one (s_ret (d_and (d_cmp (oEq hr) r_eq (dv 1) d_str) (d_and (d_isi "str" (dv 0) T.z_isinstance T.z_str) (d_one (d_call G__has_text_signs hr (by decide) gm__has_text_signs kp__has_text_signs bi__has_text_signs pass0 (a_cons (dv 0) a_nil))))))))))
theorem ok_is_value (T : Txt w K mg) (D_is_whole : DefOk P w K mg base 1 1 "is_whole" ["x"] Q.m_is_whole) (D__has_text_signs : DefOk P w K mg base 1 1 "_has_text_signs" ["text"] Q.m__has_text_signs) {f : Addr} {fd : FuncData} (F : Fun K "is_value" "is_value" s_is_value f fd) (hm : mg "is_value" = some (.ref f)) : DefOk P w K mg base 2 2 "is_value" ["x", "kind"] Q.m_is_value :=
  ⟨f, fd, fn_is_value T D_is_whole D__has_text_signs F, hm, F.kp, F.binds fun _ _ _ _ _ _ us hl => match us, hl with | [_, _], _ => rfl⟩
theorem fn_signed_number (T : Txt w K mg) (D_long_number : DefOkO P w K mg base 1 1 "long_number" ["n"] Q.m_long_number) {f : Addr} {fd : FuncData} (F : Fun K "signed_number" "signed_number" s_signed_number f fd) : FnOk P w K mg base CX0 2 f fd ["i"] (spO K mg 1 Q.m_signed_number) := by
  obtain ⟨f_long_number, fd_long_number, G_long_number, gm_long_number, kp_long_number, bi_long_number⟩ := D_long_number.ex
  exact def_okO F sc_signed_number rfl rfl fun cdv A outer sh H E hr =>
    (s_retF (f_callO G_long_number hr (by decide) gm_long_number kp_long_number bi_long_number pass0 (a_cons (d_if (t_cmp oGe r_ge (dv 0) d_int) (d_mul d_int (dv 0)) (d_sub (d_mul (d_neg d_int) (dv 0)) d_int)) a_nil)))
theorem ok_signed_number (T : Txt w K mg) (D_long_number : DefOkO P w K mg base 1 1 "long_number" ["n"] Q.m_long_number) {f : Addr} {fd : FuncData} (F : Fun K "signed_number" "signed_number" s_signed_number f fd) (hm : mg "signed_number" = some (.ref f)) : DefOkO P w K mg base 2 1 "signed_number" ["i"] Q.m_signed_number :=
  ⟨f, fd, fn_signed_number T D_long_number F, hm, F.kp, F.binds fun _ _ _ _ _ _ us hl => match us, hl with | [_], _ => rfl⟩
theorem fn_is_packing (T : Txt w K mg) (D_is_whole : DefOk P w K mg base 1 1 "is_whole" ["x"] Q.m_is_whole) {f : Addr} {fd : FuncData} (F : Fun K "is_packing" "is_packing" s_is_packing f fd) : FnOk P w K mg base CX0 2 f fd ["x"] (spD K mg 1 Q.m_is_packing) := by
  obtain ⟨f_is_whole, fd_is_whole, G_is_whole, gm_is_whole, kp_is_whole, bi_is_whole⟩ := D_is_whole.ex
  obtain ⟨ga_EVERY_PACKING, g_EVERY_PACKING, r_EVERY_PACKING⟩ := T.g_EVERY_PACKING
  exact def_ok F sc_is_packing rfl rfl fun cdv A outer sh H E hr =>
    (s_one (s_ret (d_and (d_call G_is_whole hr (by decide) gm_is_whole kp_is_whole bi_is_whole pass0 (a_cons (dv 0) a_nil)) (d_one (d_cmp (oIn hr) r_in (dv 0) (d_gt g_EVERY_PACKING r_EVERY_PACKING))))))
theorem ok_is_packing (T : Txt w K mg) (D_is_whole : DefOk P w K mg base 1 1 "is_whole" ["x"] Q.m_is_whole) {f : Addr} {fd : FuncData} (F : Fun K "is_packing" "is_packing" s_is_packing f fd) (hm : mg "is_packing" = some (.ref f)) : DefOk P w K mg base 2 1 "is_packing" ["x"] Q.m_is_packing :=
  ⟨f, fd, fn_is_packing T D_is_whole F, hm, F.kp, F.binds fun _ _ _ _ _ _ us hl => match us, hl with | [_], _ => rfl⟩
theorem fn__mask (T : Txt w K mg) (D__mask_length : DefOk P w K mg base 1 1 "_mask_length" ["many"] Q.m__mask_length) {f : Addr} {fd : FuncData} (F : Fun K "_mask" "_mask" s__mask f fd) : FnOk P w K mg base CX0 2 f fd ["values"] (spD K mg 1 Q.m__mask) := by
  obtain ⟨f__mask_length, fd__mask_length, G__mask_length, gm__mask_length, kp__mask_length, bi__mask_length⟩ := D__mask_length.ex
  exact def_ok F sc__mask rfl rfl fun cdv A outer sh H E hr =>
    (s_cons (s_own (i := 1) sc__mask.nd (f_rep (a_cons d_int a_nil) (d_call G__mask_length hr (by decide) gm__mask_length kp__mask_length bi__mask_length pass0 (a_cons (d_len T.z_len (a_cons (dv 0) a_nil)) a_nil))))
    (s_cons (s_for PassesOwn.never rfl (i_enum T.z_enumerate (dv 0)) (g_tup rfl (gs_cons (g_name (i := 2) sc__mask.nd) (gs_cons (g_name (i := 3) sc__mask.nd) gs_nil))) (s_one (s_if (t_cmp op_isN r_isN (dv 3) d_non) (s_one (s_putAdd (i := 1) (d_div (dv 2) d_int) (d_shl d_int (d_mod (dv 2) d_int)))) s_nil)))
    (s_one (s_ice [1] (s_ret (dv 1))))))
theorem ok__mask (T : Txt w K mg) (D__mask_length : DefOk P w K mg base 1 1 "_mask_length" ["many"] Q.m__mask_length) {f : Addr} {fd : FuncData} (F : Fun K "_mask" "_mask" s__mask f fd) (hm : mg "_mask" = some (.ref f)) : DefOk P w K mg base 2 1 "_mask" ["values"] Q.m__mask :=
  ⟨f, fd, fn__mask T D__mask_length F, hm, F.kp, F.binds fun _ _ _ _ _ _ us hl => match us, hl with | [_], _ => rfl⟩
theorem fn__law_draws (T : Txt w K mg) (D__law_mixed : DefOk P w K mg base 1 2 "_law_mixed" ["cell", "k"] Q.m__law_mixed) {f : Addr} {fd : FuncData} (F : Fun K "_law_draws" "_law_draws" s__law_draws f fd) : FnOk P w K mg base CX0 2 f fd ["cell", "many"] (spD K mg 2 Q.m__law_draws) := by
  obtain ⟨f__law_mixed, fd__law_mixed, G__law_mixed, gm__law_mixed, kp__law_mixed, bi__law_mixed⟩ := D__law_mixed.ex
  exact def_ok F sc__law_draws rfl rfl fun cdv A outer sh H E hr =>
    (s_cons (s_own (i := 2) sc__law_draws.nd (f_lst a_nil))
    (s_cons (s_set (i := 3) sc__law_draws.nd (d_abs T.z_abs (a_cons (dv 0) a_nil)))
    (s_cons (s_set (i := 4) sc__law_draws.nd (d_cmp oGe r_ge (dv 3) (d_pow d_int d_int)))
    (s_cons (s_for PassesOwn.never rfl (i_range1 T.z_range (dv 1)) (g_name (i := 5) sc__law_draws.nd) (s_one (s_if (t_w (w_and (t_tru (dv 4)) (w_and1 (t_cmp oGt r_gt (dv 3) d_int)))) (s_cons (s_app (i := 2) (d_mod (d_intf T.z_int (a_cons (dv 3) a_nil)) (d_pow d_int d_int)))
    (s_one (s_set (i := 3) sc__law_draws.nd (d_div (dv 3) (d_pow d_int d_int))))) (s_one (s_app (i := 2) (d_call G__law_mixed hr (by decide) gm__law_mixed kp__law_mixed bi__law_mixed pass0 (a_cons (dv 0) (a_cons (dv 5) a_nil))))))))
    (s_one (s_ice [2] (s_ret (dv 2))))))))
theorem ok__law_draws (T : Txt w K mg) (D__law_mixed : DefOk P w K mg base 1 2 "_law_mixed" ["cell", "k"] Q.m__law_mixed) {f : Addr} {fd : FuncData} (F : Fun K "_law_draws" "_law_draws" s__law_draws f fd) (hm : mg "_law_draws" = some (.ref f)) : DefOk P w K mg base 2 2 "_law_draws" ["cell", "many"] Q.m__law_draws :=
  ⟨f, fd, fn__law_draws T D__law_mixed F, hm, F.kp, F.binds fun _ _ _ _ _ _ us hl => match us, hl with | [_, _], _ => rfl⟩
theorem fn__law_text (T : Txt w K mg) (D__law_signs : DefOk P w K mg base 1 0 "_law_signs" [] Q.m__law_signs) {f : Addr} {fd : FuncData} (F : Fun K "_law_text" "_law_text" s__law_text f fd) : FnOk P w K mg base CX0 2 f fd ["draws", "size"] (spD K mg 2 Q.m__law_text) := by
  obtain ⟨f__law_signs, fd__law_signs, G__law_signs, gm__law_signs, kp__law_signs, bi__law_signs⟩ := D__law_signs.ex
  exact def_ok F sc__law_text rfl rfl fun cdv A outer sh H E hr =>
    (s_cons (s_set (i := 2) sc__law_text.nd (d_call0 G__law_signs hr (by decide) gm__law_signs kp__law_signs bi__law_signs pass0))
    (s_cons (s_set (i := 3) sc__law_text.nd (d_len T.z_len (a_cons (dv 0) a_nil)))
    (s_one (s_ret (d_join d_str (d_f (f_lc rfl sc__law_text.nd (i_range1 T.z_range (dv 1)) (blkOk_by (N := N__law_text) (sc := defScope s__law_text) (by decide +kernel)) (fun _ _ _ _ _ => pg_name (i := 4) sc__law_text.nd rfl (by first | exact Or.inl rfl | exact Or.inr rfl)) (fun _ _ _ _ _ => ts_yes rfl) (fun _ _ _ _ _ => (d_idx (dv 2) (d_mod (d_intf T.z_int (a_cons (d_add (d_idx (dv 0) (d_mod (d_intf T.z_int (a_cons (dv 4) a_nil)) (dv 3))) (d_mul (d_div (dv 4) (dv 3)) d_int)) a_nil)) d_int))))))))))
theorem ok__law_text (T : Txt w K mg) (D__law_signs : DefOk P w K mg base 1 0 "_law_signs" [] Q.m__law_signs) {f : Addr} {fd : FuncData} (F : Fun K "_law_text" "_law_text" s__law_text f fd) (hm : mg "_law_text" = some (.ref f)) : DefOk P w K mg base 2 2 "_law_text" ["draws", "size"] Q.m__law_text :=
  ⟨f, fd, fn__law_text T D__law_signs F, hm, F.kp, F.binds fun _ _ _ _ _ _ us hl => match us, hl with | [_, _], _ => rfl⟩
theorem fn__law_signed (T : Txt w K mg) (D__law_sevens : DefOkG P w K mg base 1 1 "_law_sevens" ["n"] Q.m__law_sevens) {f : Addr} {fd : FuncData} (F : Fun K "_law_signed" "_law_signed" s__law_signed f fd) : FnOk P w K mg base CX0 2 f fd ["i"] (spD K mg 1 Q.m__law_signed) := by
  obtain ⟨f__law_sevens, fd__law_sevens, G__law_sevens, gm__law_sevens, kp__law_sevens, bi__law_sevens⟩ := (DefOkG.toD D__law_sevens).ex
  exact def_ok F sc__law_signed rfl rfl fun cdv A outer sh H E hr =>
    (s_cons (s_if (t_cmp oGe r_ge (dv 0) d_int) (s_one (s_ret (d_call G__law_sevens hr (by decide) gm__law_sevens kp__law_sevens bi__law_sevens pass0 (a_cons (d_mul d_int (dv 0)) a_nil)))) s_nil)
    (s_one (s_ret (d_call G__law_sevens hr (by decide) gm__law_sevens kp__law_sevens bi__law_sevens pass0 (a_cons (d_sub (d_mul (d_neg d_int) (dv 0)) d_int) a_nil)))))
theorem ok__law_signed (T : Txt w K mg) (D__law_sevens : DefOkG P w K mg base 1 1 "_law_sevens" ["n"] Q.m__law_sevens) {f : Addr} {fd : FuncData} (F : Fun K "_law_signed" "_law_signed" s__law_signed f fd) (hm : mg "_law_signed" = some (.ref f)) : DefOk P w K mg base 2 1 "_law_signed" ["i"] Q.m__law_signed :=
  ⟨f, fd, fn__law_signed T D__law_sevens F, hm, F.kp, F.binds fun _ _ _ _ _ _ us hl => match us, hl with | [_], _ => rfl⟩
theorem fn_value_numbers (T : Txt w K mg) (D_signed_number : DefOkO P w K mg base 2 1 "signed_number" ["i"] Q.m_signed_number) (D_long_number : DefOkO P w K mg base 1 1 "long_number" ["n"] Q.m_long_number) {f : Addr} {fd : FuncData} (F : Fun K "value_numbers" "value_numbers" s_value_numbers f fd) : FnOk P w K mg base CX0 3 f fd ["value", "kind"] (spD K mg 2 Q.m_value_numbers) := by
  obtain ⟨f_signed_number, fd_signed_number, G_signed_number, gm_signed_number, kp_signed_number, bi_signed_number⟩ := D_signed_number.ex
  obtain ⟨f_long_number, fd_long_number, G_long_number, gm_long_number, kp_long_number, bi_long_number⟩ := D_long_number.ex
  exact def_ok F sc_value_numbers rfl rfl fun cdv A outer sh H E hr =>
    (s_cons (s_if (t_cmp (oEq hr) r_eq (dv 1) d_str) (s_one (s_ret (d_f (f_callO G_signed_number hr (by decide) gm_signed_number kp_signed_number bi_signed_number pass0 (a_cons (dv 0) a_nil))))) s_nil)
    (s_cons (s_if (t_cmp (oEq hr) r_eq (dv 1) d_str) (s_one (s_ret (d_f (f_lst (a_cons (d_if (t_tru (dv 0)) d_int d_int) a_nil))))) s_nil)
    (s_one (s_ret (d_add (d_f (f_callO G_long_number hr (by decide) gm_long_number kp_long_number bi_long_number pass0 (a_cons (d_len T.z_len (a_cons (dv 0) a_nil)) a_nil))) (d_f (f_lc rfl sc_value_numbers.nd (i_any (dv 0)) (blkOk_by (N := N_value_numbers) (sc := defScope s_value_numbers) (by decide +kernel)) (fun _ _ _ _ _ => pg_name (i := 2) sc_value_numbers.nd rfl (by first | exact Or.inl rfl | exact Or.inr rfl)) (fun _ _ _ _ _ => ts_yes rfl) (fun _ _ _ _ _ => (d_ord T.z_ord (a_cons (dv 2) a_nil))))))))))
theorem ok_value_numbers (T : Txt w K mg) (D_signed_number : DefOkO P w K mg base 2 1 "signed_number" ["i"] Q.m_signed_number) (D_long_number : DefOkO P w K mg base 1 1 "long_number" ["n"] Q.m_long_number) {f : Addr} {fd : FuncData} (F : Fun K "value_numbers" "value_numbers" s_value_numbers f fd) (hm : mg "value_numbers" = some (.ref f)) : DefOk P w K mg base 3 2 "value_numbers" ["value", "kind"] Q.m_value_numbers :=
  ⟨f, fd, fn_value_numbers T D_signed_number D_long_number F, hm, F.kp, F.binds fun _ _ _ _ _ _ us hl => match us, hl with | [_, _], _ => rfl⟩
theorem fn__write_steps (T : Txt w K mg) (D_signed_number : DefOkO P w K mg base 2 1 "signed_number" ["i"] Q.m_signed_number) {f : Addr} {fd : FuncData} (F : Fun K "_write_steps" "_write_steps" s__write_steps f fd) : FnOk P w K mg base CX0 3 f fd ["values", "kind"] (spD K mg 2 Q.m__write_steps) := by
  obtain ⟨f_signed_number, fd_signed_number, G_signed_number, gm_signed_number, kp_signed_number, bi_signed_number⟩ := D_signed_number.ex
  exact def_ok F sc__write_steps rfl rfl fun cdv A outer sh H E hr =>
    (s_cons (s_own (i := 2) sc__write_steps.nd (f_lst a_nil))
    (s_cons (s_set (i := 3) sc__write_steps.nd d_int)
    (s_cons (s_for PassesOwn.never rfl (i_any (dv 0)) (g_name (i := 4) sc__write_steps.nd) (s_cons (s_ext (i := 2) (d_f (f_callO G_signed_number hr (by decide) gm_signed_number kp_signed_number bi_signed_number pass0 (a_cons (d_sub (dv 4) (dv 3)) a_nil))))
    (s_one (s_set (i := 3) sc__write_steps.nd (dv 4)))))
    (s_one (s_ice [2] (s_ret (dv 2)))))))
theorem ok__write_steps (T : Txt w K mg) (D_signed_number : DefOkO P w K mg base 2 1 "signed_number" ["i"] Q.m_signed_number) {f : Addr} {fd : FuncData} (F : Fun K "_write_steps" "_write_steps" s__write_steps f fd) (hm : mg "_write_steps" = some (.ref f)) : DefOk P w K mg base 3 2 "_write_steps" ["values", "kind"] Q.m__write_steps :=
  ⟨f, fd, fn__write_steps T D_signed_number F, hm, F.kp, F.binds fun _ _ _ _ _ _ us hl => match us, hl with | [_, _], _ => rfl⟩
theorem fn__write_near (T : Txt w K mg) (D_signed_number : DefOkO P w K mg base 2 1 "signed_number" ["i"] Q.m_signed_number) (D_long_number : DefOkO P w K mg base 1 1 "long_number" ["n"] Q.m_long_number) {f : Addr} {fd : FuncData} (F : Fun K "_write_near" "_write_near" s__write_near f fd) : FnOk P w K mg base CX0 3 f fd ["values", "kind"] (spD K mg 2 Q.m__write_near) := by
  obtain ⟨f_signed_number, fd_signed_number, G_signed_number, gm_signed_number, kp_signed_number, bi_signed_number⟩ := D_signed_number.ex
  obtain ⟨f_long_number, fd_long_number, G_long_number, gm_long_number, kp_long_number, bi_long_number⟩ := D_long_number.ex
  exact def_ok F sc__write_near rfl rfl fun cdv A outer sh H E hr =>
    (s_cons (s_if (t_not (t_tru (dv 0))) (s_one (s_ret (d_f (f_lst a_nil)))) s_nil)
    (s_cons (s_set (i := 2) sc__write_near.nd (d_minL rfl T.z_min (a_cons (dv 0) a_nil)))
    (s_cons (s_own (i := 3) sc__write_near.nd (f_callO G_signed_number hr (by decide) gm_signed_number kp_signed_number bi_signed_number pass0 (a_cons (dv 2) a_nil)))
    (s_cons (s_for PassesOwn.never rfl (i_any (dv 0)) (g_name (i := 4) sc__write_near.nd) (s_one (s_ext (i := 3) (d_f (f_callO G_long_number hr (by decide) gm_long_number kp_long_number bi_long_number pass0 (a_cons (d_sub (dv 4) (dv 2)) a_nil))))))
    (s_one (s_ice [3] (s_ret (dv 3))))))))
theorem ok__write_near (T : Txt w K mg) (D_signed_number : DefOkO P w K mg base 2 1 "signed_number" ["i"] Q.m_signed_number) (D_long_number : DefOkO P w K mg base 1 1 "long_number" ["n"] Q.m_long_number) {f : Addr} {fd : FuncData} (F : Fun K "_write_near" "_write_near" s__write_near f fd) (hm : mg "_write_near" = some (.ref f)) : DefOk P w K mg base 3 2 "_write_near" ["values", "kind"] Q.m__write_near :=
  ⟨f, fd, fn__write_near T D_signed_number D_long_number F, hm, F.kp, F.binds fun _ _ _ _ _ _ us hl => match us, hl with | [_, _], _ => rfl⟩
theorem fn__is_column (T : Txt w K mg) (D_is_value : DefOk P w K mg base 2 2 "is_value" ["x", "kind"] Q.m_is_value) {f : Addr} {fd : FuncData} (F : Fun K "_is_column" "_is_column" s__is_column f fd) : FnOk P w K mg base CX0 3 f fd ["values", "kind"] (spD K mg 2 Q.m__is_column_v1) := by
  obtain ⟨f_is_value, fd_is_value, G_is_value, gm_is_value, kp_is_value, bi_is_value⟩ := D_is_value.ex
  obtain ⟨ga_KINDS, g_KINDS, r_KINDS⟩ := T.g_KINDS
  obtain ⟨t_MOST_VALUES, g_MOST_VALUES⟩ := T.g_MOST_VALUES
  exact def_ok F sc__is_column rfl rfl fun cdv A outer sh H E hr =>
    (s_cons (s_if (t_w (w_or (t_not (t_tru (d_isLT (dv 0) T.z_isinstance T.z_list T.z_tuple))) (w_or (t_cmp oGt r_gt (d_len T.z_len (a_cons (dv 0) a_nil)) (d_gi g_MOST_VALUES)) (w_or1 (t_cmp (oNotIn hr) r_notIn (dv 1) (d_gt g_KINDS r_KINDS)))))) (s_one (s_ret d_bl)) s_nil)
    (s_one (s_ret (d_all rfl T.z_all (a_cons (d_f (f_lc rfl sc__is_column.nd (i_any (dv 0)) (blkOk_by (N := N__is_column) (sc := defScope s__is_column) (by decide +kernel)) (fun _ _ _ _ _ => pg_name (i := 2) sc__is_column.nd rfl (by first | exact Or.inl rfl | exact Or.inr rfl)) (fun _ _ _ _ _ => ts_yes rfl) (fun _ _ _ _ _ => (d_call G_is_value hr (by decide) gm_is_value kp_is_value bi_is_value pass0 (a_cons (dv 2) (a_cons (dv 1) a_nil)))))) a_nil)))))
theorem ok__is_column (T : Txt w K mg) (D_is_value : DefOk P w K mg base 2 2 "is_value" ["x", "kind"] Q.m_is_value) {f : Addr} {fd : FuncData} (F : Fun K "_is_column" "_is_column" s__is_column f fd) (hm : mg "_is_column" = some (.ref f)) : DefOk P w K mg base 3 2 "_is_column" ["values", "kind"] Q.m__is_column_v1 :=
  ⟨f, fd, fn__is_column T D_is_value F, hm, F.kp, F.binds fun _ _ _ _ _ _ us hl => match us, hl with | [_, _], _ => rfl⟩
theorem fn__law_worth (T : Txt w K mg) (D__law_int : DefOk P w K mg base 1 2 "_law_int" ["draws", "at"] Q.m__law_int) (D__law_text : DefOk P w K mg base 2 2 "_law_text" ["draws", "size"] Q.m__law_text) {f : Addr} {fd : FuncData} (F : Fun K "_law_worth" "_law_worth" s__law_worth f fd) : FnOk P w K mg base CX0 3 f fd ["kind", "draws"] (spD K mg 2 Q.m__law_worth_v1) := by
  obtain ⟨f__law_int, fd__law_int, G__law_int, gm__law_int, kp__law_int, bi__law_int⟩ := D__law_int.ex
  obtain ⟨f__law_text, fd__law_text, G__law_text, gm__law_text, kp__law_text, bi__law_text⟩ := D__law_text.ex
  exact def_ok F sc__law_worth rfl rfl fun cdv A outer sh H E hr =>
    (s_cons (s_if (t_cmp (oEq hr) r_eq (d_mod (d_intf T.z_int (a_cons (d_idx (dv 1) d_int) a_nil)) d_int) d_int) (s_one (s_ret d_non)) s_nil)
    (s_cons (s_if (t_cmp (oEq hr) r_eq (dv 0) d_str) (s_one (s_ret (d_cmp (oEq hr) r_eq (d_mod (d_intf T.z_int (a_cons (d_idx (dv 1) d_int) a_nil)) d_int) d_int))) s_nil)
    (s_cons (s_if (t_cmp (oEq hr) r_eq (dv 0) d_str) (s_cons (s_if (t_cmp oLt r_lt (d_mod (d_intf T.z_int (a_cons (d_idx (dv 1) d_int) a_nil)) d_int) d_int) (s_one (s_ret (d_sub (d_mod (d_intf T.z_int (a_cons (d_idx (dv 1) d_int) a_nil)) d_int) d_int))) s_nil)
    (s_one (s_ret (d_call G__law_int hr (by decide) gm__law_int kp__law_int bi__law_int pass0 (a_cons (dv 1) (a_cons d_int a_nil)))))) s_nil)
    (s_cons (s_if (t_cmp oLt r_lt (d_mod (d_intf T.z_int (a_cons (d_idx (dv 1) d_int) a_nil)) d_int) d_int) (s_one (s_ret (d_idx (d_f (f_lst (a_cons d_str (a_cons d_str (a_cons d_str (a_cons d_str (a_cons d_str (a_cons d_str (a_cons d_str a_nil))))))))) (d_mod (d_intf T.z_int (a_cons (d_idx (dv 1) d_int) a_nil)) d_int)))) s_nil)
    (s_one (s_ret (d_call G__law_text hr (by decide) gm__law_text kp__law_text bi__law_text pass0 (a_cons (d_sl (dv 1) (o_some d_int) o_none) (a_cons (d_mod (d_intf T.z_int (a_cons (d_idx (dv 1) d_int) a_nil)) d_int) a_nil)))))))))
theorem ok__law_worth (T : Txt w K mg) (D__law_int : DefOk P w K mg base 1 2 "_law_int" ["draws", "at"] Q.m__law_int) (D__law_text : DefOk P w K mg base 2 2 "_law_text" ["draws", "size"] Q.m__law_text) {f : Addr} {fd : FuncData} (F : Fun K "_law_worth" "_law_worth" s__law_worth f fd) (hm : mg "_law_worth" = some (.ref f)) : DefOk P w K mg base 3 2 "_law_worth" ["kind", "draws"] Q.m__law_worth_v1 :=
  ⟨f, fd, fn__law_worth T D__law_int D__law_text F, hm, F.kp, F.binds fun _ _ _ _ _ _ us hl => match us, hl with | [_, _], _ => rfl⟩
theorem fn__law_one (T : Txt w K mg) (D__law_signed : DefOk P w K mg base 2 1 "_law_signed" ["i"] Q.m__law_signed) (D__law_sevens : DefOkG P w K mg base 1 1 "_law_sevens" ["n"] Q.m__law_sevens) (D__law_signs : DefOk P w K mg base 1 0 "_law_signs" [] Q.m__law_signs) {f : Addr} {fd : FuncData} (F : Fun K "_law_one" "_law_one" s__law_one f fd) : FnOk P w K mg base (CX P w) 3 f fd ["x"] (spG K mg 1 Q.m__law_one_v1) := by
  obtain ⟨f__law_signed, fd__law_signed, G__law_signed, gm__law_signed, kp__law_signed, bi__law_signed⟩ := D__law_signed.ex
  obtain ⟨f__law_sevens, fd__law_sevens, G__law_sevens, gm__law_sevens, kp__law_sevens, bi__law_sevens⟩ := D__law_sevens.ex
  obtain ⟨f__law_signs, fd__law_signs, G__law_signs, gm__law_signs, kp__law_signs, bi__law_signs⟩ := D__law_signs.ex
  exact def_okG F sc__law_one rfl rfl fun cdv A outer sh H E U hr tk =>
    (h_cons (h_if (gt_of (t_tru (d_isi "bool" (dv 0) T.z_isinstance T.z_bool))) (h_one (h_ret (g_of (d_f (f_lst (a_cons (d_intf T.z_int (a_cons (dv 0) a_nil)) a_nil)))))) h_nil)
    (h_cons (h_if (gt_of (t_tru (d_isi "int" (dv 0) T.z_isinstance T.z_int))) (h_one (h_ret (g_of (d_call G__law_signed hr (by decide) gm__law_signed kp__law_signed bi__law_signed pass0 (a_cons (dv 0) a_nil))))) h_nil)
    (h_cons (h_asg (g_call (fun σ => passAt tk σ) G__law_sevens hr (by decide) gm__law_sevens kp__law_sevens bi__law_sevens (ga_of (a_cons (d_len T.z_len (a_cons (dv 0) a_nil)) a_nil))) (hg_name (i := 1) sc__law_one.nd))
    (h_cons (h_asg (g_of (d_call0 G__law_signs hr (by decide) gm__law_signs kp__law_signs bi__law_signs pass0)) (hg_name (i := 2) sc__law_one.nd))
    (h_cons (h_for 100000 PassesOwn.leaving rfl (gi_of (i_any (dv 0))) (hg_name (i := 3) sc__law_one.nd) (h_cons (h_asg (g_of (d_find (dv 2) (dv 3))) (hg_name (i := 4) sc__law_one.nd))
    (h_one (h_expr (g_append (g_var 1) (ga_of (a_cons (d_add (d_add d_int (dv 4)) (d_intf T.z_int (a_cons (d_cmp oGe r_ge (dv 4) d_int) a_nil))) a_nil)))))))
    (h_one (h_ret (g_var 1))))))))
theorem ok__law_one (T : Txt w K mg) (D__law_signed : DefOk P w K mg base 2 1 "_law_signed" ["i"] Q.m__law_signed) (D__law_sevens : DefOkG P w K mg base 1 1 "_law_sevens" ["n"] Q.m__law_sevens) (D__law_signs : DefOk P w K mg base 1 0 "_law_signs" [] Q.m__law_signs) {f : Addr} {fd : FuncData} (F : Fun K "_law_one" "_law_one" s__law_one f fd) (hm : mg "_law_one" = some (.ref f)) : DefOkG P w K mg base 3 1 "_law_one" ["x"] Q.m__law_one_v1 :=
  ⟨f, fd, fn__law_one T D__law_signed D__law_sevens D__law_signs F, hm, F.kp, F.binds fun _ _ _ _ _ _ us hl => match us, hl with | [_], _ => rfl⟩
theorem fn__write_plain (T : Txt w K mg) (D_value_numbers : DefOk P w K mg base 3 2 "value_numbers" ["value", "kind"] Q.m_value_numbers) {f : Addr} {fd : FuncData} (F : Fun K "_write_plain" "_write_plain" s__write_plain f fd) : FnOk P w K mg base CX0 4 f fd ["values", "kind"] (spD K mg 2 Q.m__write_plain) := by
  obtain ⟨f_value_numbers, fd_value_numbers, G_value_numbers, gm_value_numbers, kp_value_numbers, bi_value_numbers⟩ := D_value_numbers.ex
  exact def_ok F sc__write_plain rfl rfl fun cdv A outer sh H E hr =>
    (s_cons (s_own (i := 2) sc__write_plain.nd (f_lst a_nil))
    (s_cons (s_for PassesOwn.never rfl (i_any (dv 0)) (g_name (i := 3) sc__write_plain.nd) (s_one (s_ext (i := 2) (d_call G_value_numbers hr (by decide) gm_value_numbers kp_value_numbers bi_value_numbers pass0 (a_cons (dv 3) (a_cons (dv 1) a_nil))))))
    (s_one (s_ice [2] (s_ret (dv 2))))))
theorem ok__write_plain (T : Txt w K mg) (D_value_numbers : DefOk P w K mg base 3 2 "value_numbers" ["value", "kind"] Q.m_value_numbers) {f : Addr} {fd : FuncData} (F : Fun K "_write_plain" "_write_plain" s__write_plain f fd) (hm : mg "_write_plain" = some (.ref f)) : DefOk P w K mg base 4 2 "_write_plain" ["values", "kind"] Q.m__write_plain :=
  ⟨f, fd, fn__write_plain T D_value_numbers F, hm, F.kp, F.binds fun _ _ _ _ _ _ us hl => match us, hl with | [_, _], _ => rfl⟩
theorem fn__write_runs (T : Txt w K mg) (D__runs_of : DefOk P w K mg base 1 1 "_runs_of" ["values"] Q.m__runs_of) (D_long_number : DefOkO P w K mg base 1 1 "long_number" ["n"] Q.m_long_number) (D_value_numbers : DefOk P w K mg base 3 2 "value_numbers" ["value", "kind"] Q.m_value_numbers) {f : Addr} {fd : FuncData} (F : Fun K "_write_runs" "_write_runs" s__write_runs f fd) : FnOk P w K mg base CX0 4 f fd ["values", "kind"] (spD K mg 2 Q.m__write_runs) := by
  obtain ⟨f__runs_of, fd__runs_of, G__runs_of, gm__runs_of, kp__runs_of, bi__runs_of⟩ := D__runs_of.ex
  obtain ⟨f_long_number, fd_long_number, G_long_number, gm_long_number, kp_long_number, bi_long_number⟩ := D_long_number.ex
  obtain ⟨f_value_numbers, fd_value_numbers, G_value_numbers, gm_value_numbers, kp_value_numbers, bi_value_numbers⟩ := D_value_numbers.ex
  exact def_ok F sc__write_runs rfl rfl fun cdv A outer sh H E hr =>
    (s_cons (s_set (i := 2) sc__write_runs.nd (d_call G__runs_of hr (by decide) gm__runs_of kp__runs_of bi__runs_of pass0 (a_cons (dv 0) a_nil)))
    (s_cons (s_own (i := 3) sc__write_runs.nd (f_callO G_long_number hr (by decide) gm_long_number kp_long_number bi_long_number pass0 (a_cons (d_len T.z_len (a_cons (dv 2) a_nil)) a_nil)))
    (s_cons (s_for PassesOwn.never rfl (i_any (dv 2)) (g_tup rfl (gs_cons (g_name (i := 4) sc__write_runs.nd) (gs_cons (g_name (i := 5) sc__write_runs.nd) gs_nil))) (s_cons (s_ext (i := 3) (d_f (f_callO G_long_number hr (by decide) gm_long_number kp_long_number bi_long_number pass0 (a_cons (dv 4) a_nil))))
    (s_one (s_ext (i := 3) (d_call G_value_numbers hr (by decide) gm_value_numbers kp_value_numbers bi_value_numbers pass0 (a_cons (dv 5) (a_cons (dv 1) a_nil)))))))
    (s_one (s_ice [3] (s_ret (dv 3)))))))
theorem ok__write_runs (T : Txt w K mg) (D__runs_of : DefOk P w K mg base 1 1 "_runs_of" ["values"] Q.m__runs_of) (D_long_number : DefOkO P w K mg base 1 1 "long_number" ["n"] Q.m_long_number) (D_value_numbers : DefOk P w K mg base 3 2 "value_numbers" ["value", "kind"] Q.m_value_numbers) {f : Addr} {fd : FuncData} (F : Fun K "_write_runs" "_write_runs" s__write_runs f fd) (hm : mg "_write_runs" = some (.ref f)) : DefOk P w K mg base 4 2 "_write_runs" ["values", "kind"] Q.m__write_runs :=
  ⟨f, fd, fn__write_runs T D__runs_of D_long_number D_value_numbers F, hm, F.kp, F.binds fun _ _ _ _ _ _ us hl => match us, hl with | [_, _], _ => rfl⟩
theorem fn__law_all (T : Txt w K mg) (D__law_one : DefOkG P w K mg base 3 1 "_law_one" ["x"] Q.m__law_one_v1) {f : Addr} {fd : FuncData} (F : Fun K "_law_all" "_law_all" s__law_all f fd) : FnOk P w K mg base CX0 4 f fd ["held"] (spD K mg 1 Q.m__law_all) := by
  obtain ⟨f__law_one, fd__law_one, G__law_one, gm__law_one, kp__law_one, bi__law_one⟩ := (DefOkG.toD D__law_one).ex
  exact def_ok F sc__law_all rfl rfl fun cdv A outer sh H E hr =>
    (s_cons (s_set (i := 1) sc__law_all.nd (d_f (f_lst a_nil)))
    (s_cons (s_for PassesOwn.never rfl (i_any (dv 0)) (g_name (i := 2) sc__law_all.nd) (s_one (s_set (i := 1) sc__law_all.nd (d_add (dv 1) (d_call G__law_one hr (by decide) gm__law_one kp__law_one bi__law_one pass0 (a_cons (dv 2) a_nil))))))
    (s_one (s_ret (dv 1)))))
theorem ok__law_all (T : Txt w K mg) (D__law_one : DefOkG P w K mg base 3 1 "_law_one" ["x"] Q.m__law_one_v1) {f : Addr} {fd : FuncData} (F : Fun K "_law_all" "_law_all" s__law_all f fd) (hm : mg "_law_all" = some (.ref f)) : DefOk P w K mg base 4 1 "_law_all" ["held"] Q.m__law_all :=
  ⟨f, fd, fn__law_all T D__law_one F, hm, F.kp, F.binds fun _ _ _ _ _ _ us hl => match us, hl with | [_], _ => rfl⟩
theorem fn__law_runs (T : Txt w K mg) (D__law_sevens : DefOkG P w K mg base 1 1 "_law_sevens" ["n"] Q.m__law_sevens) (D__law_one : DefOkG P w K mg base 3 1 "_law_one" ["x"] Q.m__law_one_v1) {f : Addr} {fd : FuncData} (F : Fun K "_law_runs" "_law_runs" s__law_runs f fd) : FnOk P w K mg base CX0 4 f fd ["held"] (spD K mg 1 Q.m__law_runs) := by
  obtain ⟨f__law_sevens, fd__law_sevens, G__law_sevens, gm__law_sevens, kp__law_sevens, bi__law_sevens⟩ := (DefOkG.toD D__law_sevens).ex
  obtain ⟨f__law_one, fd__law_one, G__law_one, gm__law_one, kp__law_one, bi__law_one⟩ := (DefOkG.toD D__law_one).ex
  exact def_ok F sc__law_runs rfl rfl fun cdv A outer sh H E hr =>
    (s_cons (s_set (i := 1) sc__law_runs.nd (d_f (f_lst a_nil)))
    (s_cons (s_set (i := 2) sc__law_runs.nd d_int)
    (s_cons (s_for PassesOwn.never rfl (i_range1 T.z_range (d_len T.z_len (a_cons (dv 0) a_nil))) (g_name (i := 3) sc__law_runs.nd) (s_one (s_if (t_w (w_or (t_cmp (oEq hr) r_eq (dv 3) d_int) (w_or1 (t_cmp (oNe hr) r_ne (d_idx (dv 0) (dv 3)) (d_idx (dv 0) (d_sub (dv 3) d_int)))))) (s_cons (s_set (i := 2) sc__law_runs.nd (d_add (dv 2) d_int))
    (s_cons (s_set (i := 4) sc__law_runs.nd d_int)
    (s_cons (s_for PassesOwn.never rfl (i_range2 T.z_range (d_add (dv 3) d_int) (d_len T.z_len (a_cons (dv 0) a_nil))) (g_name (i := 5) sc__law_runs.nd) (s_cons (s_if (t_cmp (oNe hr) r_ne (d_idx (dv 0) (dv 5)) (d_idx (dv 0) (dv 3))) (s_one s_break) s_nil)
    (s_one (s_set (i := 4) sc__law_runs.nd (d_add (dv 4) d_int)))))
    (s_one (s_set (i := 1) sc__law_runs.nd (d_add (d_add (dv 1) (d_call G__law_sevens hr (by decide) gm__law_sevens kp__law_sevens bi__law_sevens pass0 (a_cons (dv 4) a_nil))) (d_call G__law_one hr (by decide) gm__law_one kp__law_one bi__law_one pass0 (a_cons (d_idx (dv 0) (dv 3)) a_nil)))))))) s_nil)))
    (s_one (s_ret (d_add (d_call G__law_sevens hr (by decide) gm__law_sevens kp__law_sevens bi__law_sevens pass0 (a_cons (dv 2) a_nil)) (dv 1)))))))
theorem ok__law_runs (T : Txt w K mg) (D__law_sevens : DefOkG P w K mg base 1 1 "_law_sevens" ["n"] Q.m__law_sevens) (D__law_one : DefOkG P w K mg base 3 1 "_law_one" ["x"] Q.m__law_one_v1) {f : Addr} {fd : FuncData} (F : Fun K "_law_runs" "_law_runs" s__law_runs f fd) (hm : mg "_law_runs" = some (.ref f)) : DefOk P w K mg base 4 1 "_law_runs" ["held"] Q.m__law_runs :=
  ⟨f, fd, fn__law_runs T D__law_sevens D__law_one F, hm, F.kp, F.binds fun _ _ _ _ _ _ us hl => match us, hl with | [_], _ => rfl⟩
theorem fn__law_column (T : Txt w K mg) (D__law_size : DefOk P w K mg base 1 1 "_law_size" ["draw"] Q.m__law_size) (D__law_draws : DefOk P w K mg base 2 2 "_law_draws" ["cell", "many"] Q.m__law_draws) (D__law_cell : DefOk P w K mg base 1 2 "_law_cell" ["script", "k"] Q.m__law_cell) (D__law_worth : DefOk P w K mg base 3 2 "_law_worth" ["kind", "draws"] Q.m__law_worth_v1) {f : Addr} {fd : FuncData} (F : Fun K "_law_column" "_law_column" s__law_column f fd) : FnOk P w K mg base CX0 4 f fd ["script", "shape"] (spD K mg 2 Q.m__law_column) := by
  obtain ⟨f__law_size, fd__law_size, G__law_size, gm__law_size, kp__law_size, bi__law_size⟩ := D__law_size.ex
  obtain ⟨f__law_draws, fd__law_draws, G__law_draws, gm__law_draws, kp__law_draws, bi__law_draws⟩ := D__law_draws.ex
  obtain ⟨f__law_cell, fd__law_cell, G__law_cell, gm__law_cell, kp__law_cell, bi__law_cell⟩ := D__law_cell.ex
  obtain ⟨f__law_worth, fd__law_worth, G__law_worth, gm__law_worth, kp__law_worth, bi__law_worth⟩ := D__law_worth.ex
  exact def_ok F sc__law_column rfl rfl fun cdv A outer sh H E hr =>
    (s_cons (s_set (i := 2) sc__law_column.nd (d_idx (d_f (f_lst (a_cons d_str (a_cons d_str (a_cons d_str a_nil))))) (d_mod (d_intf T.z_int (a_cons (d_idx (dv 1) d_int) a_nil)) d_int)))
    (s_cons (s_set (i := 3) sc__law_column.nd (d_call G__law_size hr (by decide) gm__law_size kp__law_size bi__law_size pass0 (a_cons (d_idx (dv 1) d_int) a_nil)))
    (s_cons (s_own (i := 4) sc__law_column.nd (f_lst a_nil))
    (s_cons (s_for PassesOwn.never rfl (i_range1 T.z_range (dv 3)) (g_name (i := 5) sc__law_column.nd) (s_cons (s_set (i := 6) sc__law_column.nd (d_call G__law_draws hr (by decide) gm__law_draws kp__law_draws bi__law_draws pass0 (a_cons (d_add (d_call G__law_cell hr (by decide) gm__law_cell kp__law_cell bi__law_cell pass0 (a_cons (dv 0) (a_cons (d_add d_int (d_mod (dv 5) d_int)) a_nil))) (d_mul (d_div (dv 5) d_int) d_int)) (a_cons d_int a_nil))))
    (s_one (s_if (t_w (w_and (t_cmp (oEq hr) r_eq (d_mod (d_intf T.z_int (a_cons (d_idx (dv 6) d_int) a_nil)) d_int) d_int) (w_and1 (t_cmp oGt r_gt (dv 5) d_int)))) (s_one (s_app (i := 4) (d_ixO 4 (d_sub (dv 5) d_int)))) (s_one (s_if (t_w (w_and (t_cmp oGt r_gt (dv 3) d_int) (w_and1 (t_cmp (oEq hr) r_eq (d_mod (d_intf T.z_int (a_cons (d_idx (dv 6) d_int) a_nil)) d_int) d_int)))) (s_one (s_app (i := 4) (d_idx (d_f (f_lst (a_cons (d_mod (d_intf T.z_int (a_cons (d_idx (dv 6) d_int) a_nil)) d_int) (a_cons (d_sl d_str o_none (o_some (d_mod (d_intf T.z_int (a_cons (d_idx (dv 6) d_int) a_nil)) d_int))) (a_cons (d_cmp (oEq hr) r_eq (d_mod (d_intf T.z_int (a_cons (d_idx (dv 6) d_int) a_nil)) d_int) d_int) a_nil))))) (d_mod (d_intf T.z_int (a_cons (d_idx (dv 1) d_int) a_nil)) d_int)))) (s_one (s_app (i := 4) (d_call G__law_worth hr (by decide) gm__law_worth kp__law_worth bi__law_worth pass0 (a_cons (dv 2) (a_cons (dv 6) a_nil)))))))))))
    (s_cons (s_if (t_cmp (oEq hr) r_eq (d_mod (d_intf T.z_int (a_cons (d_idx (dv 1) d_int) a_nil)) d_int) d_int) (s_one (s_ice [4] (s_setLc (j := 4) rfl sc__law_column.nd rfl rfl (sw_true rfl rfl rfl (by decide +kernel)) (i_any (dv 4)) (blkOk_by (N := N__law_column) (sc := defScope s__law_column) (by decide +kernel)) (fun _ _ _ _ _ => pg_name (i := 7) sc__law_column.nd rfl (by first | exact Or.inl rfl | exact Or.inr rfl)) (fun _ _ _ _ _ => ts_yes rfl) (fun _ _ _ _ _ => d_non)))) s_nil)
    (s_cons (s_if (t_cmp (oEq hr) r_eq (d_mod (d_intf T.z_int (a_cons (d_idx (dv 1) d_int) a_nil)) d_int) d_int) (s_one (s_ice [4] (s_setLc (j := 4) rfl sc__law_column.nd rfl rfl (sw_true rfl rfl rfl (by decide +kernel)) (i_any (dv 4)) (blkOk_by (N := N__law_column) (sc := defScope s__law_column) (by decide +kernel)) (fun _ _ _ _ _ => pg_name (i := 7) sc__law_column.nd rfl (by first | exact Or.inl rfl | exact Or.inr rfl)) (fun _ _ _ _ _ => ts_one (t_cmp op_notN r_notN (dv 7) d_non)) (fun _ _ _ _ _ => (dv 7))))) s_nil)
    (s_one (s_ice [4] (s_ret (dv 4))))))))))
theorem ok__law_column (T : Txt w K mg) (D__law_size : DefOk P w K mg base 1 1 "_law_size" ["draw"] Q.m__law_size) (D__law_draws : DefOk P w K mg base 2 2 "_law_draws" ["cell", "many"] Q.m__law_draws) (D__law_cell : DefOk P w K mg base 1 2 "_law_cell" ["script", "k"] Q.m__law_cell) (D__law_worth : DefOk P w K mg base 3 2 "_law_worth" ["kind", "draws"] Q.m__law_worth_v1) {f : Addr} {fd : FuncData} (F : Fun K "_law_column" "_law_column" s__law_column f fd) (hm : mg "_law_column" = some (.ref f)) : DefOk P w K mg base 4 2 "_law_column" ["script", "shape"] Q.m__law_column :=
  ⟨f, fd, fn__law_column T D__law_size D__law_draws D__law_cell D__law_worth F, hm, F.kp, F.binds fun _ _ _ _ _ _ us hl => match us, hl with | [_, _], _ => rfl⟩
theorem fn__write_book (T : Txt w K mg) (D_long_number : DefOkO P w K mg base 1 1 "long_number" ["n"] Q.m_long_number) (D__write_plain : DefOk P w K mg base 4 2 "_write_plain" ["values", "kind"] Q.m__write_plain) {f : Addr} {fd : FuncData} (F : Fun K "_write_book" "_write_book" s__write_book f fd) : FnOk P w K mg base (CX P w) 5 f fd ["values", "kind"] (spG K mg 2 Q.m__write_book) := by
  obtain ⟨f_long_number, fd_long_number, G_long_number, gm_long_number, kp_long_number, bi_long_number⟩ := D_long_number.ex
  obtain ⟨f__write_plain, fd__write_plain, G__write_plain, gm__write_plain, kp__write_plain, bi__write_plain⟩ := D__write_plain.ex
  obtain ⟨hf_long_number, hfd_long_number, hG_long_number, hgm_long_number, hkp_long_number, hbi_long_number⟩ := (DefOkO.g D_long_number).ex
  exact def_okG F sc__write_book rfl rfl fun cdv A outer sh H E U hr tk =>
    (h_cons (h_asg (g_of (d_sortS rfl (Nat.lt_of_le_of_lt (Nat.add_le_add_left (by decide : 2 ≤ 200) _) hr.u200) T.z_sorted T.z_set (dv 0))) (hg_name (i := 2) sc__write_book.nd))
    (h_cons (h_setDc (j := 3) (own := [("index", 4), ("value", 5)]) (WdOk.p (P := P) (w := w)) (WdOk.w (P := P) (w := w)) 100000 tk rfl sc__write_book.nd rfl rfl (sw_trueD rfl rfl rfl (by decide +kernel)) (gi_of (i_enum T.z_enumerate (dv 2))) (blkOk_by (N := N__write_book) (sc := defScope s__write_book) (by decide +kernel)) (fun _ _ _ _ _ => (gw_tup rfl (gw_cons (gw_name (i := 4) (by decide) sc__write_book.nd rfl (by first | exact Or.inl rfl | exact Or.inr rfl)) (gw_cons (gw_name (i := 5) (by decide) sc__write_book.nd rfl (by first | exact Or.inl rfl | exact Or.inr rfl)) gw_nil)))) (fun E _ _ _ _ _ => gts_nil) (fun E _ _ _ _ _ => (g_of (dv 5))) (fun E _ _ _ _ _ => (g_of (dv 4))))
    (h_cons (h_asg (g_new (f_addL (d_f (f_callO G_long_number hr (by decide) gm_long_number kp_long_number bi_long_number pass0 (a_cons (d_len T.z_len (a_cons (dv 2) a_nil)) a_nil))) (d_call G__write_plain hr (by decide) gm__write_plain kp__write_plain bi__write_plain pass0 (a_cons (dv 2) (a_cons (dv 1) a_nil))))) (hg_name (i := 6) sc__write_book.nd))
    (h_cons (h_for 100000 PassesOwn.leaving rfl (gi_of (i_any (dv 0))) (hg_name (i := 5) sc__write_book.nd) (h_one (h_expr (g_extend (g_var 6) (ga_cons (g_call (fun σ => passAt tk σ) hG_long_number hr (by decide) hgm_long_number hkp_long_number hbi_long_number (ga_cons (g_lfget (WdOk.p (P := P) (w := w)) (WdOk.w (P := P) (w := w)) (g_var 3) (g_of (dv 5))) ga_nil)) ga_nil)))))
    (h_one (h_ret (g_var 6)))))))
theorem ok__write_book (T : Txt w K mg) (D_long_number : DefOkO P w K mg base 1 1 "long_number" ["n"] Q.m_long_number) (D__write_plain : DefOk P w K mg base 4 2 "_write_plain" ["values", "kind"] Q.m__write_plain) {f : Addr} {fd : FuncData} (F : Fun K "_write_book" "_write_book" s__write_book f fd) (hm : mg "_write_book" = some (.ref f)) : DefOkG P w K mg base 5 2 "_write_book" ["values", "kind"] Q.m__write_book :=
  ⟨f, fd, fn__write_book T D_long_number D__write_plain F, hm, F.kp, F.binds fun _ _ _ _ _ _ us hl => match us, hl with | [_, _], _ => rfl⟩
theorem fn__law_book (T : Txt w K mg) (D__law_sevens : DefOkG P w K mg base 1 1 "_law_sevens" ["n"] Q.m__law_sevens) (D__law_all : DefOk P w K mg base 4 1 "_law_all" ["held"] Q.m__law_all) {f : Addr} {fd : FuncData} (F : Fun K "_law_book" "_law_book" s__law_book f fd) : FnOk P w K mg base CX0 5 f fd ["held"] (spD K mg 1 Q.m__law_book) := by
  obtain ⟨f__law_sevens, fd__law_sevens, G__law_sevens, gm__law_sevens, kp__law_sevens, bi__law_sevens⟩ := (DefOkG.toD D__law_sevens).ex
  obtain ⟨f__law_all, fd__law_all, G__law_all, gm__law_all, kp__law_all, bi__law_all⟩ := D__law_all.ex
  exact def_ok F sc__law_book rfl rfl fun cdv A outer sh H E hr =>
    (s_cons (s_own (i := 1) sc__law_book.nd (f_lst a_nil))
    (s_cons (s_for PassesOwn.never rfl (i_any (d_sortA (Nat.lt_of_le_of_lt (Nat.add_le_add_left (by decide : 2 ≤ 200) _) hr.u200) T.z_sorted (a_cons (dv 0) a_nil))) (g_name (i := 2) sc__law_book.nd) (s_one (s_if (t_lend [1] (t_w (w_or (t_cmp (oEq hr) r_eq (dv 1) (d_f (f_lst a_nil))) (w_or1 (t_cmp (oNe hr) r_ne (d_ixO 1 (d_sub (d_lenO 1 T.z_len) d_int)) (dv 2)))))) (s_one (s_app (i := 1) (dv 2))) s_nil)))
    (s_cons (s_ice [1] (s_set (i := 3) sc__law_book.nd (d_add (d_call G__law_sevens hr (by decide) gm__law_sevens kp__law_sevens bi__law_sevens pass0 (a_cons (d_lenO 1 T.z_len) a_nil)) (d_call G__law_all hr (by decide) gm__law_all kp__law_all bi__law_all pass0 (a_cons (dv 1) a_nil)))))
    (s_cons (s_for PassesOwn.never rfl (i_any (dv 0)) (g_name (i := 2) sc__law_book.nd) (s_one (s_ice [1] (s_set (i := 3) sc__law_book.nd (d_add (dv 3) (d_call G__law_sevens hr (by decide) gm__law_sevens kp__law_sevens bi__law_sevens pass0 (a_cons (d_indexA (dv 1) (dv 2)) a_nil)))))))
    (s_one (s_ret (dv 3)))))))
theorem ok__law_book (T : Txt w K mg) (D__law_sevens : DefOkG P w K mg base 1 1 "_law_sevens" ["n"] Q.m__law_sevens) (D__law_all : DefOk P w K mg base 4 1 "_law_all" ["held"] Q.m__law_all) {f : Addr} {fd : FuncData} (F : Fun K "_law_book" "_law_book" s__law_book f fd) (hm : mg "_law_book" = some (.ref f)) : DefOk P w K mg base 5 1 "_law_book" ["held"] Q.m__law_book :=
  ⟨f, fd, fn__law_book T D__law_sevens D__law_all F, hm, F.kp, F.binds fun _ _ _ _ _ _ us hl => match us, hl with | [_], _ => rfl⟩
theorem fn_write_values (T : Txt w K mg) (D__write_plain : DefOk P w K mg base 4 2 "_write_plain" ["values", "kind"] Q.m__write_plain) (D__write_runs : DefOk P w K mg base 4 2 "_write_runs" ["values", "kind"] Q.m__write_runs) (D__write_book : DefOkG P w K mg base 5 2 "_write_book" ["values", "kind"] Q.m__write_book) (D__write_steps : DefOk P w K mg base 3 2 "_write_steps" ["values", "kind"] Q.m__write_steps) (D__write_near : DefOk P w K mg base 3 2 "_write_near" ["values", "kind"] Q.m__write_near) {f : Addr} {fd : FuncData} (F : Fun K "write_values" "write_values" s_write_values f fd) : FnOk P w K mg base CX0 6 f fd ["values", "kind", "packing"] (spD K mg 3 Q.m_write_values) := by
  obtain ⟨f__write_plain, fd__write_plain, G__write_plain, gm__write_plain, kp__write_plain, bi__write_plain⟩ := D__write_plain.ex
  obtain ⟨f__write_runs, fd__write_runs, G__write_runs, gm__write_runs, kp__write_runs, bi__write_runs⟩ := D__write_runs.ex
  obtain ⟨f__write_book, fd__write_book, G__write_book, gm__write_book, kp__write_book, bi__write_book⟩ := (DefOkG.toD D__write_book).ex
  obtain ⟨f__write_steps, fd__write_steps, G__write_steps, gm__write_steps, kp__write_steps, bi__write_steps⟩ := D__write_steps.ex
  obtain ⟨f__write_near, fd__write_near, G__write_near, gm__write_near, kp__write_near, bi__write_near⟩ := D__write_near.ex
  obtain ⟨ga_WRITERS, g_WRITERS, r_WRITERS⟩ := T.g_WRITERS
  exact def_ok F sc_write_values rfl rfl fun cdv A outer sh H E hr =>
    (s_cons (s_set (i := 3) sc_write_values.nd (d_idx (d_gt g_WRITERS r_WRITERS) (dv 2)))
    (s_one (s_ret (d_work 3 (by intro q hq; simp only [List.mem_cons, List.not_mem_nil, or_false] at hq; rcases hq with rfl | rfl | rfl | rfl | rfl; exact ⟨⟨_, _, by first | decide | omega, D__write_plain⟩⟩; exact ⟨⟨_, _, by first | decide | omega, D__write_runs⟩⟩; exact ⟨⟨_, _, by first | decide | omega, DefOkG.toD D__write_book⟩⟩; exact ⟨⟨_, _, by first | decide | omega, D__write_steps⟩⟩; exact ⟨⟨_, _, by first | decide | omega, D__write_near⟩⟩) hr (Nat.le_refl _) (a_cons (dv 0) (a_cons (dv 1) a_nil))))))
theorem ok_write_values (T : Txt w K mg) (D__write_plain : DefOk P w K mg base 4 2 "_write_plain" ["values", "kind"] Q.m__write_plain) (D__write_runs : DefOk P w K mg base 4 2 "_write_runs" ["values", "kind"] Q.m__write_runs) (D__write_book : DefOkG P w K mg base 5 2 "_write_book" ["values", "kind"] Q.m__write_book) (D__write_steps : DefOk P w K mg base 3 2 "_write_steps" ["values", "kind"] Q.m__write_steps) (D__write_near : DefOk P w K mg base 3 2 "_write_near" ["values", "kind"] Q.m__write_near) {f : Addr} {fd : FuncData} (F : Fun K "write_values" "write_values" s_write_values f fd) (hm : mg "write_values" = some (.ref f)) : DefOk P w K mg base 6 3 "write_values" ["values", "kind", "packing"] Q.m_write_values :=
  ⟨f, fd, fn_write_values T D__write_plain D__write_runs D__write_book D__write_steps D__write_near F, hm, F.kp, F.binds fun _ _ _ _ _ _ us hl => match us, hl with | [_, _, _], _ => rfl⟩
theorem fn__law_packed (T : Txt w K mg) (D__law_sevens : DefOkG P w K mg base 1 1 "_law_sevens" ["n"] Q.m__law_sevens) (D__law_runs : DefOk P w K mg base 4 1 "_law_runs" ["held"] Q.m__law_runs) (D__law_book : DefOk P w K mg base 5 1 "_law_book" ["held"] Q.m__law_book) (D__law_all : DefOk P w K mg base 4 1 "_law_all" ["held"] Q.m__law_all) (D__law_signed : DefOk P w K mg base 2 1 "_law_signed" ["i"] Q.m__law_signed) {f : Addr} {fd : FuncData} (F : Fun K "_law_packed" "_law_packed" s__law_packed f fd) : FnOk P w K mg base CX0 6 f fd ["values", "kind", "packing"] (spD K mg 3 Q.m__law_packed) := by
  obtain ⟨f__law_sevens, fd__law_sevens, G__law_sevens, gm__law_sevens, kp__law_sevens, bi__law_sevens⟩ := (DefOkG.toD D__law_sevens).ex
  obtain ⟨f__law_runs, fd__law_runs, G__law_runs, gm__law_runs, kp__law_runs, bi__law_runs⟩ := D__law_runs.ex
  obtain ⟨f__law_book, fd__law_book, G__law_book, gm__law_book, kp__law_book, bi__law_book⟩ := D__law_book.ex
  obtain ⟨f__law_all, fd__law_all, G__law_all, gm__law_all, kp__law_all, bi__law_all⟩ := D__law_all.ex
  obtain ⟨f__law_signed, fd__law_signed, G__law_signed, gm__law_signed, kp__law_signed, bi__law_signed⟩ := D__law_signed.ex
  exact def_ok F sc__law_packed rfl rfl fun cdv A outer sh H E hr =>
    (s_cons (s_own (i := 3) sc__law_packed.nd (f_addL (d_f (f_lst (a_cons (d_index (d_f (f_lst (a_cons d_str (a_cons d_str (a_cons d_str a_nil))))) (dv 1)) (a_cons (dv 2) a_nil)))) (d_call G__law_sevens hr (by decide) gm__law_sevens kp__law_sevens bi__law_sevens pass0 (a_cons (d_len T.z_len (a_cons (dv 0) a_nil)) a_nil))))
    (s_cons (s_for PassesOwn.never rfl (i_range3 T.z_range d_int (d_len T.z_len (a_cons (dv 0) a_nil)) d_int) (g_name (i := 4) sc__law_packed.nd) (s_cons (s_set (i := 5) sc__law_packed.nd d_int)
    (s_cons (s_for PassesOwn.never rfl (i_range1 T.z_range d_int) (g_name (i := 6) sc__law_packed.nd) (s_one (s_if (t_w (w_and (t_cmp oLt r_lt (d_add (dv 4) (dv 6)) (d_len T.z_len (a_cons (dv 0) a_nil))) (w_and1 (t_cmp op_isN r_isN (d_idx (dv 0) (d_add (dv 4) (dv 6))) d_non)))) (s_one (s_set (i := 5) sc__law_packed.nd (d_add (dv 5) (d_idx (d_f (f_lst (a_cons d_int (a_cons d_int (a_cons d_int (a_cons d_int (a_cons d_int (a_cons d_int (a_cons d_int (a_cons d_int a_nil)))))))))) (dv 6))))) s_nil)))
    (s_one (s_app (i := 3) (dv 5))))))
    (s_cons (s_own (i := 7) sc__law_packed.nd (f_lc rfl sc__law_packed.nd (i_any (dv 0)) (blkOk_by (N := N__law_packed) (sc := defScope s__law_packed) (by decide +kernel)) (fun _ _ _ _ _ => pg_name (i := 8) sc__law_packed.nd rfl (by first | exact Or.inl rfl | exact Or.inr rfl)) (fun _ _ _ _ _ => ts_one (t_cmp op_notN r_notN (dv 8) d_non)) (fun _ _ _ _ _ => (dv 8))))
    (s_cons (s_if (t_cmp (oEq hr) r_eq (dv 2) d_int) (s_one (s_ice [3, 7] (s_ret (d_add (dv 3) (d_call G__law_runs hr (by decide) gm__law_runs kp__law_runs bi__law_runs pass0 (a_cons (dv 7) a_nil)))))) s_nil)
    (s_cons (s_if (t_cmp (oEq hr) r_eq (dv 2) d_int) (s_one (s_ice [3, 7] (s_ret (d_add (dv 3) (d_call G__law_book hr (by decide) gm__law_book kp__law_book bi__law_book pass0 (a_cons (dv 7) a_nil)))))) s_nil)
    (s_cons (s_ice [7] (s_if (t_w (w_or (t_cmp (oEq hr) r_eq (dv 2) d_int) (w_or1 (t_cmp (oEq hr) r_eq (dv 7) (d_f (f_lst a_nil)))))) (s_one (s_ice [3, 7] (s_ret (d_add (dv 3) (d_call G__law_all hr (by decide) gm__law_all kp__law_all bi__law_all pass0 (a_cons (dv 7) a_nil)))))) s_nil))
    (s_cons (s_if (t_cmp (oEq hr) r_eq (dv 2) d_int) (s_one (s_ice [3] (s_ret (d_add (dv 3) (d_call G__law_all hr (by decide) gm__law_all kp__law_all bi__law_all pass0 (a_cons (d_add (d_f (f_lst (a_cons (d_ixO 7 d_int) a_nil))) (d_f (f_lc rfl sc__law_packed.nd (i_range2 T.z_range d_int (d_lenO 7 T.z_len)) (blkOk_by (N := N__law_packed) (sc := defScope s__law_packed) (by decide +kernel)) (fun _ _ _ _ _ => pg_name (i := 6) sc__law_packed.nd rfl (by first | exact Or.inl rfl | exact Or.inr rfl)) (fun _ _ _ _ _ => ts_yes rfl) (fun _ _ _ _ _ => (d_sub (d_ixO 7 (dv 6)) (d_ixO 7 (d_sub (dv 6) d_int))))))) a_nil)))))) s_nil)
    (s_cons (s_ice [3, 7] (s_set (i := 9) sc__law_packed.nd (d_add (dv 3) (d_call G__law_signed hr (by decide) gm__law_signed kp__law_signed bi__law_signed pass0 (a_cons (d_minL rfl T.z_min (a_cons (dv 7) a_nil)) a_nil)))))
    (s_cons (s_ice [7] (s_for PassesOwn.never rfl (i_any (dv 7)) (g_name (i := 8) sc__law_packed.nd) (s_one (s_ice [7] (s_set (i := 9) sc__law_packed.nd (d_add (dv 9) (d_call G__law_sevens hr (by decide) gm__law_sevens kp__law_sevens bi__law_sevens pass0 (a_cons (d_sub (dv 8) (d_minL rfl T.z_min (a_cons (dv 7) a_nil))) a_nil))))))))
    (s_one (s_ret (dv 9))))))))))))
theorem ok__law_packed (T : Txt w K mg) (D__law_sevens : DefOkG P w K mg base 1 1 "_law_sevens" ["n"] Q.m__law_sevens) (D__law_runs : DefOk P w K mg base 4 1 "_law_runs" ["held"] Q.m__law_runs) (D__law_book : DefOk P w K mg base 5 1 "_law_book" ["held"] Q.m__law_book) (D__law_all : DefOk P w K mg base 4 1 "_law_all" ["held"] Q.m__law_all) (D__law_signed : DefOk P w K mg base 2 1 "_law_signed" ["i"] Q.m__law_signed) {f : Addr} {fd : FuncData} (F : Fun K "_law_packed" "_law_packed" s__law_packed f fd) (hm : mg "_law_packed" = some (.ref f)) : DefOk P w K mg base 6 3 "_law_packed" ["values", "kind", "packing"] Q.m__law_packed :=
  ⟨f, fd, fn__law_packed T D__law_sevens D__law_runs D__law_book D__law_all D__law_signed F, hm, F.kp, F.binds fun _ _ _ _ _ _ us hl => match us, hl with | [_, _, _], _ => rfl⟩
theorem fn__numbers (T : Txt w K mg) (D_long_number : DefOkO P w K mg base 1 1 "long_number" ["n"] Q.m_long_number) (D__mask : DefOk P w K mg base 2 1 "_mask" ["values"] Q.m__mask) (D_write_values : DefOk P w K mg base 6 3 "write_values" ["values", "kind", "packing"] Q.m_write_values) {f : Addr} {fd : FuncData} (F : Fun K "_numbers" "_numbers" s__numbers f fd) : FnOk P w K mg base CX0 7 f fd ["values", "kind", "packing"] (spD K mg 3 Q.m__numbers) := by
  obtain ⟨f_long_number, fd_long_number, G_long_number, gm_long_number, kp_long_number, bi_long_number⟩ := D_long_number.ex
  obtain ⟨f__mask, fd__mask, G__mask, gm__mask, kp__mask, bi__mask⟩ := D__mask.ex
  obtain ⟨f_write_values, fd_write_values, G_write_values, gm_write_values, kp_write_values, bi_write_values⟩ := D_write_values.ex
  obtain ⟨ga_KINDS_BY_NUMBER, g_KINDS_BY_NUMBER, r_KINDS_BY_NUMBER, tk_KINDS_BY_NUMBER⟩ := T.g_KINDS_BY_NUMBER
  exact def_ok F sc__numbers rfl rfl fun cdv A outer sh H E hr =>
    (s_cons (s_set (i := 3) sc__numbers.nd (d_add (d_f (f_lst (a_cons (d_indexT g_KINDS_BY_NUMBER r_KINDS_BY_NUMBER tk_KINDS_BY_NUMBER (dv 1)) (a_cons (dv 2) a_nil)))) (d_f (f_callO G_long_number hr (by decide) gm_long_number kp_long_number bi_long_number pass0 (a_cons (d_len T.z_len (a_cons (dv 0) a_nil)) a_nil)))))
    (s_cons (s_setLc (j := 4) rfl sc__numbers.nd rfl rfl (sw_true rfl rfl rfl (by decide +kernel)) (i_any (dv 0)) (blkOk_by (N := N__numbers) (sc := defScope s__numbers) (by decide +kernel)) (fun _ _ _ _ _ => pg_name (i := 5) sc__numbers.nd rfl (by first | exact Or.inl rfl | exact Or.inr rfl)) (fun _ _ _ _ _ => ts_one (t_cmp op_notN r_notN (dv 5) d_non)) (fun _ _ _ _ _ => (dv 5)))
    (s_one (s_ice [4] (s_ret (d_add (d_add (dv 3) (d_call G__mask hr (by decide) gm__mask kp__mask bi__mask pass0 (a_cons (dv 0) a_nil))) (d_call G_write_values hr (by decide) gm_write_values kp_write_values bi_write_values pass0 (a_cons (dv 4) (a_cons (dv 1) (a_cons (dv 2) a_nil))))))))))
theorem ok__numbers (T : Txt w K mg) (D_long_number : DefOkO P w K mg base 1 1 "long_number" ["n"] Q.m_long_number) (D__mask : DefOk P w K mg base 2 1 "_mask" ["values"] Q.m__mask) (D_write_values : DefOk P w K mg base 6 3 "write_values" ["values", "kind", "packing"] Q.m_write_values) {f : Addr} {fd : FuncData} (F : Fun K "_numbers" "_numbers" s__numbers f fd) (hm : mg "_numbers" = some (.ref f)) : DefOk P w K mg base 7 3 "_numbers" ["values", "kind", "packing"] Q.m__numbers :=
  ⟨f, fd, fn__numbers T D_long_number D__mask D_write_values F, hm, F.kp, F.binds fun _ _ _ _ _ _ us hl => match us, hl with | [_, _, _], _ => rfl⟩
theorem fn_packed (T : Txt w K mg) (D__is_column : DefOk P w K mg base 3 2 "_is_column" ["values", "kind"] Q.m__is_column_v1) (D_is_packing : DefOk P w K mg base 2 1 "is_packing" ["x"] Q.m_is_packing) (D_packings_of : DefOk P w K mg base 1 1 "packings_of" ["kind"] Q.m_packings_of) (D__numbers : DefOk P w K mg base 7 3 "_numbers" ["values", "kind", "packing"] Q.m__numbers) {f : Addr} {fd : FuncData} (F : Fun K "packed" "packed" s_packed f fd) : FnOk P w K mg base CX0 8 f fd ["values", "kind", "packing"] (spD K mg 3 Q.m_packed) := by
  obtain ⟨f__is_column, fd__is_column, G__is_column, gm__is_column, kp__is_column, bi__is_column⟩ := D__is_column.ex
  obtain ⟨f_is_packing, fd_is_packing, G_is_packing, gm_is_packing, kp_is_packing, bi_is_packing⟩ := D_is_packing.ex
  obtain ⟨f_packings_of, fd_packings_of, G_packings_of, gm_packings_of, kp_packings_of, bi_packings_of⟩ := D_packings_of.ex
  obtain ⟨f__numbers, fd__numbers, G__numbers, gm__numbers, kp__numbers, bi__numbers⟩ := D__numbers.ex
  exact def_ok F sc_packed rfl rfl fun cdv A outer sh H E hr =>
    (s_cons (s_if (t_w (w_or (t_not (t_tru (d_call G__is_column hr (by decide) gm__is_column kp__is_column bi__is_column pass0 (a_cons (dv 0) (a_cons (dv 1) a_nil))))) (w_or1 (t_not (t_tru (d_call G_is_packing hr (by decide) gm_is_packing kp_is_packing bi_is_packing pass0 (a_cons (dv 2) a_nil))))))) (s_one s_never) s_nil)
    (s_cons (s_if (t_cmp (oNotIn hr) r_notIn (dv 2) (d_call G_packings_of hr (by decide) gm_packings_of kp_packings_of bi_packings_of pass0 (a_cons (dv 1) a_nil))) (s_one s_never) s_nil)
    (s_one (s_ret (d_call G__numbers hr (by decide) gm__numbers kp__numbers bi__numbers pass0 (a_cons (dv 0) (a_cons (dv 1) (a_cons (dv 2) a_nil))))))))
theorem ok_packed (T : Txt w K mg) (D__is_column : DefOk P w K mg base 3 2 "_is_column" ["values", "kind"] Q.m__is_column_v1) (D_is_packing : DefOk P w K mg base 2 1 "is_packing" ["x"] Q.m_is_packing) (D_packings_of : DefOk P w K mg base 1 1 "packings_of" ["kind"] Q.m_packings_of) (D__numbers : DefOk P w K mg base 7 3 "_numbers" ["values", "kind", "packing"] Q.m__numbers) {f : Addr} {fd : FuncData} (F : Fun K "packed" "packed" s_packed f fd) (hm : mg "packed" = some (.ref f)) : DefOk P w K mg base 8 3 "packed" ["values", "kind", "packing"] Q.m_packed :=
  ⟨f, fd, fn_packed T D__is_column D_is_packing D_packings_of D__numbers F, hm, F.kp, F.binds fun _ _ _ _ _ _ us hl => match us, hl with | [_, _, _], _ => rfl⟩
theorem fn_packed_best (T : Txt w K mg) (D_packings_of : DefOk P w K mg base 1 1 "packings_of" ["kind"] Q.m_packings_of) (D_packed : DefOk P w K mg base 8 3 "packed" ["values", "kind", "packing"] Q.m_packed) {f : Addr} {fd : FuncData} (F : Fun K "packed_best" "packed_best" s_packed_best f fd) : FnOk P w K mg base CX0 9 f fd ["values", "kind"] (spD K mg 2 Q.m_packed_best) := by
  obtain ⟨f_packings_of, fd_packings_of, G_packings_of, gm_packings_of, kp_packings_of, bi_packings_of⟩ := D_packings_of.ex
  obtain ⟨f_packed, fd_packed, G_packed, gm_packed, kp_packed, bi_packed⟩ := D_packed.ex
  exact def_ok F sc_packed_best rfl rfl fun cdv A outer sh H E hr =>
    (s_cons (s_setLc (j := 2) rfl sc_packed_best.nd rfl rfl (sw_true rfl rfl rfl (by decide +kernel)) (i_any (d_call G_packings_of hr (by decide) gm_packings_of kp_packings_of bi_packings_of pass0 (a_cons (dv 1) a_nil))) (blkOk_by (N := N_packed_best) (sc := defScope s_packed_best) (by decide +kernel)) (fun _ _ _ _ _ => pg_name (i := 3) sc_packed_best.nd rfl (by first | exact Or.inl rfl | exact Or.inr rfl)) (fun _ _ _ _ _ => ts_yes rfl) (fun _ _ _ _ _ => (d_call G_packed hr (by decide) gm_packed kp_packed bi_packed pass0 (a_cons (dv 0) (a_cons (dv 1) (a_cons (dv 3) a_nil))))))
    (s_one (s_ice [2] (s_ret (d_minLen rfl T.z_min T.z_len (a_cons (dv 2) a_nil))))))
theorem ok_packed_best (T : Txt w K mg) (D_packings_of : DefOk P w K mg base 1 1 "packings_of" ["kind"] Q.m_packings_of) (D_packed : DefOk P w K mg base 8 3 "packed" ["values", "kind", "packing"] Q.m_packed) {f : Addr} {fd : FuncData} (F : Fun K "packed_best" "packed_best" s_packed_best f fd) (hm : mg "packed_best" = some (.ref f)) : DefOk P w K mg base 9 2 "packed_best" ["values", "kind"] Q.m_packed_best :=
  ⟨f, fd, fn_packed_best T D_packings_of D_packed F, hm, F.kp, F.binds fun _ _ _ _ _ _ us hl => match us, hl with | [_, _], _ => rfl⟩
theorem fn_best (T : Txt w K mg) (D_packed_best : DefOk P w K mg base 9 2 "packed_best" ["values", "kind"] Q.m_packed_best) {f : Addr} {fd : FuncData} (F : Fun K "best" "best" s_best f fd) : FnOk P w K mg base CX0 10 f fd ["values", "kind"] (spD K mg 2 Q.m_best) := by
  obtain ⟨f_packed_best, fd_packed_best, G_packed_best, gm_packed_best, kp_packed_best, bi_packed_best⟩ := D_packed_best.ex
  exact def_ok F sc_best rfl rfl fun cdv A outer sh H E hr =>
    (s_one (s_ret (d_idx (d_call G_packed_best hr (by decide) gm_packed_best kp_packed_best bi_packed_best pass0 (a_cons (dv 0) (a_cons (dv 1) a_nil))) d_int)))
theorem ok_best (T : Txt w K mg) (D_packed_best : DefOk P w K mg base 9 2 "packed_best" ["values", "kind"] Q.m_packed_best) {f : Addr} {fd : FuncData} (F : Fun K "best" "best" s_best f fd) (hm : mg "best" = some (.ref f)) : DefOk P w K mg base 10 2 "best" ["values", "kind"] Q.m_best :=
  ⟨f, fd, fn_best T D_packed_best F, hm, F.kp, F.binds fun _ _ _ _ _ _ us hl => match us, hl with | [_, _], _ => rfl⟩
theorem fn_law (T : Txt w K mg) (D__law_draws : DefOk P w K mg base 2 2 "_law_draws" ["cell", "many"] Q.m__law_draws) (D__law_cell : DefOk P w K mg base 1 2 "_law_cell" ["script", "k"] Q.m__law_cell) (D__law_column : DefOk P w K mg base 4 2 "_law_column" ["script", "shape"] Q.m__law_column) (D__law_packed : DefOk P w K mg base 6 3 "_law_packed" ["values", "kind", "packing"] Q.m__law_packed) (D_best : DefOk P w K mg base 10 2 "best" ["values", "kind"] Q.m_best) {f : Addr} {fd : FuncData} (F : Fun K "law" "law" s_law f fd) : FnOk P w K mg base CX0 11 f fd ["script"] (spD K mg 1 Q.m_law_v25) := by
  obtain ⟨f__law_draws, fd__law_draws, G__law_draws, gm__law_draws, kp__law_draws, bi__law_draws⟩ := D__law_draws.ex
  obtain ⟨f__law_cell, fd__law_cell, G__law_cell, gm__law_cell, kp__law_cell, bi__law_cell⟩ := D__law_cell.ex
  obtain ⟨f__law_column, fd__law_column, G__law_column, gm__law_column, kp__law_column, bi__law_column⟩ := D__law_column.ex
  obtain ⟨f__law_packed, fd__law_packed, G__law_packed, gm__law_packed, kp__law_packed, bi__law_packed⟩ := D__law_packed.ex
  obtain ⟨f_best, fd_best, G_best, gm_best, kp_best, bi_best⟩ := D_best.ex
  exact def_ok F sc_law rfl rfl fun cdv A outer sh H E hr =>
    (s_cons (s_set (i := 1) sc_law.nd (d_call G__law_draws hr (by decide) gm__law_draws kp__law_draws bi__law_draws pass0 (a_cons (d_call G__law_cell hr (by decide) gm__law_cell kp__law_cell bi__law_cell pass0 (a_cons (dv 0) (a_cons d_int a_nil))) (a_cons d_int a_nil))))
    (s_cons (s_set (i := 2) sc_law.nd (d_idx (d_f (f_lst (a_cons d_str (a_cons d_str (a_cons d_str a_nil))))) (d_mod (d_intf T.z_int (a_cons (d_idx (dv 1) d_int) a_nil)) d_int)))
    (s_cons (s_set (i := 3) sc_law.nd (d_call G__law_column hr (by decide) gm__law_column kp__law_column bi__law_column pass0 (a_cons (dv 0) (a_cons (dv 1) a_nil))))
    (s_cons (s_for PassesOwn.never rfl (i_any (d_f (f_lst (a_cons (dv 3) (a_cons (d_sl (dv 3) o_none (o_some (d_div (d_len T.z_len (a_cons (dv 3) a_nil)) d_int))) (a_cons (d_sl (dv 3) o_none (o_some d_int)) a_nil)))))) (g_name (i := 4) sc_law.nd) (s_cons (s_set (i := 5) sc_law.nd d_int)
    (s_cons (s_set (i := 6) sc_law.nd (d_len T.z_len (a_cons (d_call G__law_packed hr (by decide) gm__law_packed kp__law_packed bi__law_packed pass0 (a_cons (dv 4) (a_cons (dv 2) (a_cons d_int a_nil)))) a_nil)))
    (s_cons (s_for PassesOwn.never rfl (i_range2 T.z_range d_int (d_idx (d_f (f_lst (a_cons d_int (a_cons d_int (a_cons d_int a_nil))))) (d_mod (d_intf T.z_int (a_cons (d_idx (dv 1) d_int) a_nil)) d_int))) (g_name (i := 7) sc_law.nd) (s_cons (s_set (i := 8) sc_law.nd (d_len T.z_len (a_cons (d_call G__law_packed hr (by decide) gm__law_packed kp__law_packed bi__law_packed pass0 (a_cons (dv 4) (a_cons (dv 2) (a_cons (dv 7) a_nil)))) a_nil)))
    (s_one (s_if (t_cmp oLt r_lt (dv 8) (dv 6)) (s_cons (s_set (i := 5) sc_law.nd (dv 7))
    (s_one (s_set (i := 6) sc_law.nd (dv 8)))) s_nil))))
    (s_cons (s_set (i := 9) sc_law.nd (d_listf T.z_list (a_cons (dv 4) a_nil)))
    (s_cons (s_set (i := 10) sc_law.nd (d_call G_best hr (by decide) gm_best kp_best bi_best pass0 (a_cons (dv 9) (a_cons (dv 2) a_nil))))
    (s_one (s_if (t_w (w_or (t_not (t_tru (d_isi "int" (dv 10) T.z_isinstance T.z_int))) (w_or (t_tru (d_isi "bool" (dv 10) T.z_isinstance T.z_bool)) (w_or (t_cmp (oNe hr) r_ne (dv 10) (dv 5)) (w_or1 (t_cmp (oNe hr) r_ne (dv 9) (dv 4))))))) (s_one (s_ret d_bl)) s_nil))))))))
    (s_one (s_ret d_bl))))))
theorem ok_law (T : Txt w K mg) (D__law_draws : DefOk P w K mg base 2 2 "_law_draws" ["cell", "many"] Q.m__law_draws) (D__law_cell : DefOk P w K mg base 1 2 "_law_cell" ["script", "k"] Q.m__law_cell) (D__law_column : DefOk P w K mg base 4 2 "_law_column" ["script", "shape"] Q.m__law_column) (D__law_packed : DefOk P w K mg base 6 3 "_law_packed" ["values", "kind", "packing"] Q.m__law_packed) (D_best : DefOk P w K mg base 10 2 "best" ["values", "kind"] Q.m_best) {f : Addr} {fd : FuncData} (F : Fun K "law" "law" s_law f fd) (hm : mg "law" = some (.ref f)) : DefOk P w K mg base 11 1 "law" ["script"] Q.m_law_v25 :=
  ⟨f, fd, fn_law T D__law_draws D__law_cell D__law_column D__law_packed D_best F, hm, F.kp, F.binds fun _ _ _ _ _ _ us hl => match us, hl with | [_], _ => rfl⟩
end
end G_peristyle_k13_best_packing


namespace QM
open PySem PySem.Spec L2 Dm
theorem small_bits {i : Int} (h : i.natAbs < 2 ^ 100) : Builtin.Int.intBits i ≤ 101 := bits_small h
def cellAt (ns : List Int) (k : Nat) : Int := if k < ns.length then ns.getD k 0 else 0
theorem cell (ns : List Int) (k : Nat) : Q.m__law_cell [.list (ns.map PyData.int), .int (k : Int)] = some (.int (cellAt ns k)) := by
  unfold cellAt
  by_cases h : k < ns.length
  · have h1 : (k : Int) < (ns.length : Int) := by omega
    simp [Q.m__law_cell, Q.b__law_cell, h, h1, Dm.atI_nat]
  · have h1 : ¬ (k : Int) < (ns.length : Int) := by omega
    simp [Q.m__law_cell, Q.b__law_cell, h, h1]
theorem cellAt_bits {ns : List Int} (hb : ∀ z ∈ ns, Builtin.Int.intBits z ≤ 1048576) (k : Nat) : Builtin.Int.intBits (cellAt ns k) ≤ 1048576 := by
  unfold cellAt
  split
  · rename_i h
    rw [List.getD_eq_getElem?_getD, List.getElem?_eq_getElem h]
    exact hb _ (List.getElem_mem h)
  · have := small_bits (i := 0) (by decide)
    omega
def mixedI (c k : Int) : Int := ((c * 48271 + k * 69621 + 11) % 2147483647 * 16807 + k * 7919 + (c * 48271 + k * 69621 + 11) % 2147483647 / 127773) % 2147483629
theorem mixed {c : Int} {k : Nat} (hc : Builtin.Int.intBits c ≤ 2000000) (hk : k ≤ 1000) : Q.m__law_mixed [.int c, .int k] = some (.int (mixedI c k)) := by
  have h1 : opMul (.int c) (.int 48271) = some (.int (c * 48271)) := opMul_ok (by have := small_bits (i := 48271) (by decide); omega)
  have h2 : Builtin.Int.intBits (k : Int) ≤ 101 := small_bits (by omega)
  have h3 : opMul (.int (k : Int)) (.int 69621) = some (.int ((k : Int) * 69621)) := opMul_ok (by have := small_bits (i := 69621) (by decide); omega)
  have h4 : opMul (.int (k : Int)) (.int 7919) = some (.int ((k : Int) * 7919)) := opMul_ok (by have := small_bits (i := 7919) (by decide); omega)
  have h5 : opMul (.int ((c * 48271 + k * 69621 + 11) % 2147483647)) (.int 16807) = some (.int ((c * 48271 + k * 69621 + 11) % 2147483647 * 16807)) := opMul_ok (by
    have := small_bits (i := 16807) (by decide)
    have := small_bits (i := (c * 48271 + k * 69621 + 11) % 2147483647) (by omega)
    omega)
  simp [Q.m__law_mixed, Q.b__law_mixed, h1, h3, h4, h5, mixedI]
theorem mixed_range (c k : Int) : 0 ≤ mixedI c k ∧ mixedI c k < 2147483629 := by
  unfold mixedI
  omega
/-- what a draw is -/
def Drawn (ds : List Int) : Prop := ∀ d ∈ ds, 0 ≤ d ∧ d < 2147483647
theorem draws_loop {c : Int} {large : Bool} (hc : Builtin.Int.intBits c ≤ 2000000) : ∀ (n : Nat) (a : Nat) (ds : List Int) (rest : Int) (x : Option L), a + n ≤ 1000 → ds.length = a → Drawn ds → 0 ≤ rest →
    ∃ (es : List Int) (r' : Int) (x' : Option L), es.length = a + n ∧ Drawn es ∧ ∀ m : D, forL (gN 5) Q.l__law_draws_0
      ((List.range' a n).map fun (k : Nat) => PyData.int (k : Int)) [some (.dat (.int c)), some (.dat m), some (.own (ds.map PyData.int)), some (.dat (.int rest)), some (.dat (.bool large)), x] =
      some (.nx [some (.dat (.int c)), some (.dat m), some (.own (es.map PyData.int)), some (.dat (.int r')), some (.dat (.bool large)), x'])
  | 0, a, ds, rest, x, ha, hl, hd, hr => ⟨ds, rest, x, by omega, hd, fun m => by simp [List.range']⟩
  | n + 1, a, ds, rest, x, ha, hl, hd, hr => by
    by_cases hb : large = true ∧ 0 < rest
    · obtain ⟨h1, h2⟩ := hb
      have hd2 : Drawn (ds ++ [rest % 10000000]) := fun d hm => by
        rcases List.mem_append.mp hm with hm | hm
        · exact hd d hm
        · have e : d = rest % 10000000 := by simpa using hm
          omega
      obtain ⟨es, r', x', e1, e2, e3⟩ := draws_loop hc n (a + 1) (ds ++ [rest % 10000000]) (rest / 10000000) (some (.dat (.int (a : Int)))) (by omega) (by simp [hl]) hd2 (by omega)
      refine ⟨es, r', x', by omega, e2, fun m => ?_⟩
      have e4 := e3 m
      rw [← e4]
      show forL _ _ (PyData.int (a : Int) :: List.map _ (List.range' (a + 1) n)) _ = _
      refine forL_nx (ρ1 := [some (.dat (.int c)), some (.dat m), some (.own (ds.map PyData.int)), some (.dat (.int rest)), some (.dat (.bool large)), some (.dat (.int (a : Int)))]) (by simp) ?_
      have h3 : okN ds.length = true := okN_of (by omega)
      simp [Q.l__law_draws_0, h1, h2, h3]
    · have hd2 : Drawn (ds ++ [mixedI c a]) := fun d hm => by
        rcases List.mem_append.mp hm with hm | hm
        · exact hd d hm
        · have e : d = mixedI c a := by simpa using hm
          have := mixed_range c a
          omega
      obtain ⟨es, r', x', e1, e2, e3⟩ := draws_loop hc n (a + 1) (ds ++ [mixedI c a]) rest (some (.dat (.int (a : Int)))) (by omega) (by simp [hl]) hd2 hr
      refine ⟨es, r', x', by omega, e2, fun m => ?_⟩
      have e4 := e3 m
      rw [← e4]
      show forL _ _ (PyData.int (a : Int) :: List.map _ (List.range' (a + 1) n)) _ = _
      refine forL_nx (ρ1 := [some (.dat (.int c)), some (.dat m), some (.own (ds.map PyData.int)), some (.dat (.int rest)), some (.dat (.bool large)), some (.dat (.int (a : Int)))]) (by simp) ?_
      have h3 : okN ds.length = true := okN_of (by omega)
      have hm := mixed (c := c) (k := a) hc (by omega)
      cases large with
      | false => simp [Q.l__law_draws_0, h3, hm]
      | true =>
        have h4 : ¬ 0 < rest := fun z => hb ⟨rfl, z⟩
        simp [Q.l__law_draws_0, h3, hm, h4]
theorem rangeD_nat (n : Nat) : rangeD 0 (n : Int) = (List.range' 0 n).map fun (k : Nat) => PyData.int (k : Int) := by
  unfold rangeD
  have : ((n : Int) - 0).toNat = n := by omega
  rw [this, ← List.range_eq_range']
  simp
theorem draws {c : Int} {n : Nat} (hc : Builtin.Int.intBits c ≤ 2000000) (hn : n ≤ 1000) : ∃ ds : List Int, Q.m__law_draws [.int c, .int n] = some (.list (ds.map PyData.int)) ∧ ds.length = n ∧ Drawn ds := by
  have h1 : rng1 (n : Int) = some (rangeD 0 n) := rng1_ok (by omega) (by omega)
  obtain ⟨es, r', x', e1, e2, e3⟩ := draws_loop (c := c) (large := decide ((1000000000000000000 : Int) ≤ absI c)) hc n 0 [] (absI c) none (by omega) rfl (fun _ h => by cases h) (absI_nn c)
  refine ⟨es, ?_, by omega, e2⟩
  have e4 := e3 (.int n)
  rw [← rangeD_nat] at e4
  simp only [List.map_nil] at e4
  simp [Q.m__law_draws, Q.b__law_draws, h1, e4]
end QM


namespace Dm
open PySem PySem.Spec L2 PyProof.Rows
section
variable (γ : Gv)
@[simp] theorem gOf_ap (m : Ev → Option D) : gOf m γ = (m (pur γ.sl)).bind fun d => some (.ok (.d d) γ.g) := rfl
@[simp] theorem gaOf_ap (m : Ev → Option (List D)) : gaOf m γ = (m (pur γ.sl)).bind fun ds => some (.ok (ds.map .d) γ.g) := rfl
@[simp] theorem gtOf_ap (m : Ev → Option Bool) : gtOf m γ = (m (pur γ.sl)).bind fun b => some (.ok b γ.g) := rfl
@[simp] theorem gNew_ap (m : Ev → Option (List D)) : gNew m γ = (m (pur γ.sl)).bind fun ds => some (.ok (.rf γ.g.length) (γ.g ++ [(.lst, ds.map .d)])) := rfl
@[simp] theorem gV_ap (i : Nat) : gV i γ = match γ.sl[i]? with
  | some (some w) => some (.ok w γ.g)
  | _ => none := rfl
@[simp] theorem gaN_ap : gaN γ = some (.ok [] γ.g) := rfl
@[simp] theorem gaC_ap (a : Gv → Option (RG W)) (b : Gv → Option (RG (List W))) : gaC a b γ = gB (a γ) fun w g => gB (b ⟨γ.sl, g⟩) fun ws g2 => some (.ok (w :: ws) g2) := rfl
@[simp] theorem g1_ap (f : W → List GO → Option (W × List GO)) (a : Gv → Option (RG W)) : g1 f a γ = gB (a γ) fun w g => (f w g).bind fun z => some (.ok z.1 z.2) := rfl
@[simp] theorem g2_ap (f : W → W → List GO → Option (W × List GO)) (a b : Gv → Option (RG W)) : g2 f a b γ = gB (a γ) fun w g => gB (b ⟨γ.sl, g⟩) fun u g2 => (f w u g2).bind fun z => some (.ok z.1 z.2) := rfl
@[simp] theorem gBi_ap (f : List W → List GO → Option (W × List GO)) (a : Gv → Option (RG (List W))) : gBi f a γ = gB (a γ) fun ws g => (f ws g).bind fun z => some (.ok z.1 z.2) := rfl
@[simp] theorem gTup_ap (a : Gv → Option (RG (List W))) : gTup a γ = gB (a γ) fun ws g => if okN ws.length = true then some (.ok (mkTup ws) g) else none := rfl
@[simp] theorem gLst_ap (a : Gv → Option (RG (List W))) : gLst a γ = gB (a γ) fun ws g => if okN ws.length = true then some (.ok (.rf g.length) (g ++ [(.lst, ws)])) else none := rfl
@[simp] theorem gtB_ap (a : Gv → Option (RG W)) : gtB a γ = gB (a γ) fun w g => match w with
  | .d (.bool b) => some (.ok b g)
  | _ => none := rfl
@[simp] theorem gtV_ap (a : Gv → Option (RG W)) : gtV a γ = gB (a γ) fun w g => (truW w g).bind fun b => some (.ok b g) := by
  unfold gtV
  cases a γ with
  | none => rfl
  | some r =>
    cases r with
    | ok w g =>
      cases w with
      | d x => rfl
      | tup ws => rfl
      | rf n =>
        show (match g[n]? with
          | some (.lst, ws) => _
          | some (.dct _, ws) => _
          | _ => none) = (match g[n]? with
          | some (.lst, ws) => some (!ws.isEmpty)
          | some (.dct _, ws) => some (!ws.isEmpty)
          | _ => none).bind _
        cases g[n]? with
        | none => rfl
        | some p =>
          obtain ⟨sh, ws⟩ := p
          cases sh <;> rfl
    | ex c fs g => rfl
@[simp] theorem gtNot_ap (t : Gv → Option (RG Bool)) : gtNot t γ = gB (t γ) fun b g => some (.ok (!b) g) := rfl
@[simp] theorem gtAnd_ap (s t : Gv → Option (RG Bool)) : gtAnd s t γ = gB (s γ) fun b g => if b = true then t ⟨γ.sl, g⟩ else some (.ok false g) := rfl
@[simp] theorem gtOr_ap (s t : Gv → Option (RG Bool)) : gtOr s t γ = gB (s γ) fun b g => if b = true then some (.ok true g) else t ⟨γ.sl, g⟩ := rfl
@[simp] theorem gtYes_ap : gtYes γ = some (.ok true γ.g) := rfl
@[simp] theorem gCall_ap (n : Nat) (f : List W → List GO → Option (RG W)) (a : Gv → Option (RG (List W))) : gCall n f a γ = gB (a γ) fun ws g => if ws.length = n then f ws g else none := rfl
@[simp] theorem gFld_ap (f : Str) (cs : List Str) (a : Gv → Option (RG W)) : gFld f cs a γ = gB (a γ) fun w g => match w with
  | .rf n => match g[n]? with
    | some (.ins c fs, ws) => if c ∈ cs then (lookW f fs ws).bind fun x => some (.ok x g) else none
    | _ => none
  | _ => none := rfl
@[simp] theorem gMeth_ap (c m : Str) (n : Nat) (fn : List W → List GO → Option (RG W)) (a : Gv → Option (RG W)) (b : Gv → Option (RG (List W))) : gMeth c m n fn a b γ = gB (a γ) fun w g => match w with
  | .rf i => match g[i]? with
    | some (.ins c' fs, _) => if c' = c ∧ m ∉ fs then gB (b ⟨γ.sl, g⟩) fun us g2 => if us.length + 1 = n then fn (w :: us) g2 else none else none
    | _ => none
  | _ => none := rfl
@[simp] theorem gBm_ap (ty : W → List GO → Bool) (f : W → List W → List GO → Option (W × List GO)) (a : Gv → Option (RG W)) (b : Gv → Option (RG (List W))) : gBm ty f a b γ = gB (a γ) fun w g => if ty w g = true then gB (b ⟨γ.sl, g⟩) fun us g2 => (f w us g2).bind fun z => some (.ok z.1 z.2) else none := rfl
@[simp] theorem gAndV_ap (a b : Gv → Option (RG W)) : gAndV a b γ = gB (a γ) fun w g => (toBW w).bind fun k => if k = true then b ⟨γ.sl, g⟩ else some (.ok (.d (.bool false)) g) := rfl
@[simp] theorem gNotV_ap (a : Gv → Option (RG W)) : gNotV a γ = gB (a γ) fun w g => (truW w g).bind fun k => some (.ok (.d (.bool (!k))) g) := rfl
@[simp] theorem gDict0_ap : gDict0 γ = some (.ok (.rf γ.g.length) (γ.g ++ [(.dct [], [])])) := rfl
@[simp] theorem gLVals_ap (m : Gv → Option (RG W)) : gLVals m γ = gB (m γ) fun w g => match w with
  | .rf n => match g[n]? with
    | some (.dct _, ws) => some (.ok (.rf g.length) (g ++ [(.lst, ws)]))
    | _ => none
  | _ => none := rfl
@[simp] theorem gMake_ap (c : Str) (n : Nat) (fn : List W → List GO → Option (RG W)) (a : Gv → Option (RG (List W))) : gMake c n fn a γ = gB (a γ) fun us g => if us.length + 1 = n then gB (fn (.rf g.length :: us) (g ++ [(.ins c [], [])])) fun w g2 => match w with
  | .d .none => some (.ok (.rf g.length) g2)
  | _ => none
  else none := rfl
@[simp] theorem gChain_ap (f f' : W → W → List GO → Option (W × List GO)) (a b c : Gv → Option (RG W)) : gChain f f' a b c γ = gB (a γ) fun w g => gB (b ⟨γ.sl, g⟩) fun u g2 => (f w u g2).bind fun z => match z.1 with
  | .d (.bool k) => if k = true then gB (c ⟨γ.sl, z.2⟩) fun x g3 => (f' u x g3).bind fun y => some (.ok y.1 y.2) else some (.ok (.d (.bool false)) z.2)
  | _ => none := rfl
@[simp] theorem giOf_ap (m : Ev → Option (List D)) : giOf m γ = (m (pur γ.sl)).bind fun ds => some (.ok (srcOf (ds.map .d)) γ.g) := rfl
@[simp] theorem giW_ap (m : Gv → Option (RG W)) : giW m γ = gB (m γ) fun w g => (itemsW w g).bind fun _ => some (.ok (srcW w) g) := rfl
@[simp] theorem giVals_ap (m : Gv → Option (RG W)) : giVals m γ = gB (m γ) fun w g => match w with
  | .rf n => match g[n]? with
    | some (.out _, _) => some (.ok (srcV n) g)
    | _ => none
  | _ => none := rfl
@[simp] theorem gLc_ap (n : Nat) (own : List Nat) (t : W → Gv → Option Gv) (m : Gv → Option (RG Src)) (c : Gv → Option (RG Bool)) (e : Gv → Option (RG W)) : gLc n own t m c e γ = gB (m γ) fun src g => lcG t c e src (wipeG γ.sl own) g.length n 0 (g ++ [(.lst, [])]) := rfl
@[simp] theorem hNop_ap : hNop γ = some (.nx γ) := rfl
@[simp] theorem hSeq_ap (a b : Gv → Option OutG) : hSeq a b γ = (a γ).bind fun o => match o with
  | .nx γ' => b γ'
  | o => some o := rfl
@[simp] theorem hIf_ap (t : Gv → Option (RG Bool)) (a b : Gv → Option OutG) : hIf t a b γ = hB γ (t γ) fun k g => if k = true then a ⟨γ.sl, g⟩ else b ⟨γ.sl, g⟩ := rfl
@[simp] theorem hRet_ap (m : Gv → Option (RG W)) : hRet m γ = hB γ (m γ) fun w g => some (.rt w g) := rfl
@[simp] theorem hRetN_ap : hRetN γ = some (.rt (.d .none) γ.g) := rfl
@[simp] theorem hAsg_ap (t : W → Gv → Option Gv) (m : Gv → Option (RG W)) : hAsg t m γ = hB γ (m γ) fun w g => (t w ⟨γ.sl, g⟩).bind fun γ' => some (.nx γ') := rfl
@[simp] theorem hExpr_ap (m : Gv → Option (RG W)) : hExpr m γ = hB γ (m γ) fun _ g => some (.nx ⟨γ.sl, g⟩) := rfl
@[simp] theorem hgN_ap (i : Nat) (w : W) : hgN i w γ = some ⟨γ.sl.set i (some w), γ.g⟩ := rfl
@[simp] theorem hFor_ap (n : Nat) (t : W → Gv → Option Gv) (m : Gv → Option (RG Src)) (b : Gv → Option OutG) : hFor n t m b γ = hB γ (m γ) fun src g => forG t b src n 0 ⟨γ.sl, g⟩ := rfl
@[simp] theorem hFld_ap (f : Str) (cs : List Str) (o e : Gv → Option (RG W)) : hFld f cs o e γ = hB γ (e γ) fun w g => hB γ (o ⟨γ.sl, g⟩) fun u g2 => match u with
  | .rf n => match g2[n]? with
    | some (.ins c fs, ws) => if c ∈ cs ∧ fs.length < 900 then some (.nx ⟨γ.sl, g2.set n (.ins c (putFW f w fs ws).1, (putFW f w fs ws).2)⟩) else none
    | _ => none
  | _ => none := rfl
@[simp] theorem hFldAug_ap (f : Str) (cs : List Str) (op : W → W → List GO → Option (W × List GO)) (o e : Gv → Option (RG W)) : hFldAug f cs op o e γ = hB γ (o γ) fun u g => match u with
  | .rf n => match g[n]? with
    | some (.ins c fs, ws) => if c ∈ cs then (lookW f fs ws).bind fun x => hB γ (e ⟨γ.sl, g⟩) fun y g2 => (op x y g2).bind fun z => match z.2[n]? with
      | some (.ins c2 fs2, ws2) => if c2 = c ∧ fs2.length < 900 then some (.nx ⟨γ.sl, z.2.set n (.ins c2 (putFW f z.1 fs2 ws2).1, (putFW f z.1 fs2 ws2).2)⟩) else none
      | _ => none
      else none
    | _ => none
  | _ => none := rfl
@[simp] theorem hDput_ap (d kx e : Gv → Option (RG W)) : hDput d kx e γ = hB γ (e γ) fun w g => hB γ (d ⟨γ.sl, g⟩) fun u g2 => hB γ (kx ⟨γ.sl, g2⟩) fun y g3 => match u with
  | .rf n => match g3[n]? with
    | some (.dct ks, ws) => (keyW y).bind fun k => if okN ks.length = true then some (.nx ⟨γ.sl, g3.set n (.dct (putKW ks ws k w).1, (putKW ks ws k w).2)⟩) else none
    | _ => none
  | _ => none := rfl
@[simp] theorem hDdel_ap (d kx : Gv → Option (RG W)) : hDdel d kx γ = hB γ (d γ) fun u g => hB γ (kx ⟨γ.sl, g⟩) fun y g2 => match u with
  | .rf n => match g2[n]? with
    | some (.dct ks, ws) => (keyW y).bind fun k => (valW ks ws k).bind fun _ => some (.nx ⟨γ.sl, g2.set n (.dct (dropKW k ks ws).1, (dropKW k ks ws).2)⟩)
    | _ => none
  | _ => none := rfl
@[simp] theorem hRaise_ap (c f : Str) (m : Gv → Option (RG W)) : hRaise c f m γ = hB γ (m γ) fun w g => match w with
  | .d x => some (.ex c [(f, x)] ⟨γ.sl, g⟩)
  | _ => none := rfl
@[simp] theorem hRaise0_ap (c : Str) : hRaise0 c γ = some (.ex c [] γ) := rfl
@[simp] theorem hTry_ap (b : Gv → Option OutG) (hs : List (List (Str × Bool) × Option Nat × Gm)) : hTry b hs γ = (b γ).bind fun o => match o with
  | .ex c fs γ' => hHds hs c fs γ'
  | o => some o := rfl
@[simp] theorem hLock_ap (f : Gv → Option Nat) (b : Gv → Option OutG) : hLock f b γ = (f γ).bind fun n => match γ.g[n]? with
  | some (.dct ks, ws) => (b ⟨γ.sl, γ.g.set n (.out ks, ws)⟩).bind (backG n ks ws)
  | _ => none := rfl
@[simp] theorem numOf_ap (m : Gv → Option (RG W)) : numOf m γ = match m γ with
  | some (.ok (.rf n) _) => some n
  | _ => none := rfl
@[simp] theorem smOf_ap (m : Gv → Option OutG) (c : Str) (fs : List (Str × D)) : smOf m c fs γ = m γ := rfl
@[simp] theorem smRet_ap (m : Em) (c : Str) (fs : List (Str × D)) : smRet m c fs γ = (m c fs (pur γ.sl)).bind fun d => some (.rt (.d d) γ.g) := rfl
end
@[simp] theorem pur_nil : pur [] = [] := rfl
@[simp] theorem pur_cons (w : Option W) (l : List (Option W)) : pur (w :: l) = toL w :: pur l := rfl
@[simp] theorem toL_d (x : D) : toL (some (.d x)) = some (.dat x) := rfl
@[simp] theorem toL_rf (n : Nat) : toL (some (.rf n)) = none := rfl
@[simp] theorem toL_tup (ws : List W) : toL (some (.tup ws)) = none := rfl
@[simp] theorem toL_none : toL none = none := rfl
@[simp] theorem runG_ap (s : Nat) (b : Gv → Option OutG) (ws : List W) (g : List GO) : runG s b ws g = (b ⟨initG s ws, g⟩).bind outG := rfl
@[simp] theorem outG_nx (γ : Gv) : outG (.nx γ) = some (.ok (.d .none) γ.g) := rfl
@[simp] theorem outG_rt (w : W) (g : List GO) : outG (.rt w g) = some (.ok w g) := rfl
@[simp] theorem outG_ex (c : Str) (fs : List (Str × D)) (γ : Gv) : outG (.ex c fs γ) = some (.ex c fs γ.g) := rfl
@[simp] theorem s2_ap (f : D → D → Option D) (w u : W) (g : List GO) : s2 f w u g = (thw w g).bind fun x => (thw u g).bind fun y => (f x y).bind fun z => if scl z = true then some (.d z, g) else none := rfl
@[simp] theorem thw_d (x : D) (g : List GO) : thw (.d x) g = some x := rfl
@[simp] theorem truW_d (x : D) (g : List GO) : truW (.d x) g = truD x := rfl
@[simp] theorem toBW_b (b : Bool) : toBW (.d (.bool b)) = some b := rfl
@[simp] theorem keyW_d (x : D) : keyW (.d x) = dKey x := rfl
@[simp] theorem itemsW_d (ds : List D) (g : List GO) : itemsW (.d (.list ds)) g = some (ds.map .d) := rfl
@[simp] theorem itemsW_t (ds : List D) (g : List GO) : itemsW (.d (.tuple ds)) g = some (ds.map .d) := rfl
@[simp] theorem srcOf_ap (ws : List W) (g : List GO) (i : Nat) : srcOf ws g i = some ws[i]? := rfl
@[simp] theorem srcW_ap (w : W) (g : List GO) (i : Nat) : srcW w g i = (itemsW w g).bind fun ws => some ws[i]? := rfl
theorem at_end (g : List GO) (o : GO) : (g ++ [o])[g.length]? = some o := by
  rw [List.getElem?_append_right (Nat.le_refl _), Nat.sub_self]
  rfl
end Dm


namespace Dm
open PySem PySem.Spec L2 PyProof.Rows
theorem gfor_step {t : W → Gv → Option Gv} {b : Gv → Option OutG} {src : Src} {n i : Nat} {γ γ1 γ2 : Gv} {w : W} (h1 : src γ.g i = some (some w)) (h2 : t w γ = some γ1) (h3 : b γ1 = some (.nx γ2)) : forG t b src (n + 1) i γ = forG t b src n (i + 1) γ2 := by
  simp only [forG, h1, h2, Option.bind_some, h3]
theorem gfor_ret {t : W → Gv → Option Gv} {b : Gv → Option OutG} {src : Src} {n i : Nat} {γ γ1 : Gv} {w x : W} {g : List GO} (h1 : src γ.g i = some (some w)) (h2 : t w γ = some γ1) (h3 : b γ1 = some (.rt x g)) : forG t b src (n + 1) i γ = some (.rt x g) := by
  simp only [forG, h1, h2, Option.bind_some, h3]
theorem gfor_stop {t : W → Gv → Option Gv} {b : Gv → Option OutG} {src : Src} {n i : Nat} {γ : Gv} (h1 : src γ.g i = some none) : forG t b src (n + 1) i γ = some (.nx γ) := by
  simp only [forG, h1]
end Dm


namespace QM
open PySem PySem.Spec L2 Dm
theorem ixD_str {z : Str} {i : Int} (h : okN z.length = true) : ixD (.str z) (.int i) = (atI z.cps.toList i).bind fun c => some (.str ⟨#[c]⟩) := by
  show (if okN z.length = true then (atI z.cps.toList i).bind fun c => some (PyData.str ⟨#[c]⟩) else none) = _
  rw [if_pos h]
def SG : Str := (" !\"#$&'()*+,-./0123456789:;<=>?@ABCDEFGHIJKLMNOPQRSTUVWXYZ[\\]^_`" : Str) ++ ("abcdefghijklmnopqrstuvwxyz{|}~" : Str)
theorem SG_len : SG.length = 94 := by decide +kernel
theorem SG_okN : okN SG.length = true := by rw [SG_len]; decide
theorem signs : Q.m__law_signs [] = some (.str SG) := by
  have h : okN ((" !\"#$&'()*+,-./0123456789:;<=>?@ABCDEFGHIJKLMNOPQRSTUVWXYZ[\\]^_`" : Str).length + ("abcdefghijklmnopqrstuvwxyz{|}~" : Str).length) = true := by decide +kernel
  simp [Q.m__law_signs, Q.b__law_signs, opAdd_str, h, SG]
theorem SG_sign : ∀ c ∈ SG.cps.toList, 32 ≤ c ∧ c ≤ 126 ∧ c ≠ 37 := by decide +kernel
theorem join_signs (cs : List Nat) : Txt.join ("" : Str) (cs.map fun c => (⟨#[c]⟩ : Str)) = ⟨cs.toArray⟩ := by
  show Builtin.Str.glued _ _ = _
  rw [StrLaws.glued_eq_join]
  have e0 : ("" : Str) = ⟨#[]⟩ := by decide +kernel
  rw [e0]
  induction cs with
  | nil => rfl
  | cons c cs ih =>
    cases cs with
    | nil => rfl
    | cons d cs =>
      rw [List.map_cons] at ih ⊢
      show (⟨#[c]⟩ : Str) ++ ⟨#[]⟩ ++ Str.join ⟨#[]⟩ (⟨#[d]⟩ :: cs.map fun c => (⟨#[c]⟩ : Str)) = _
      rw [ih]
      show (⟨(#[c] ++ #[]) ++ (d :: cs).toArray⟩ : Str) = _
      simp
theorem text_lc {ds : List Int} (hd : Drawn ds) (h0 : 0 < ds.length) (hl : ds.length ≤ 1000) {x0 x1 x4 : Option L} (h1 : x0 = some (.dat (.list (ds.map PyData.int)))) : ∀ (n a : Nat), a + n ≤ 1000 → ∃ cs : List Nat, cs.length = n ∧ (∀ c ∈ cs, c ∈ SG.cps.toList) ∧
    lcL 4 tYs Q.l__law_text_0 [x0, x1, some (.dat (.str SG)), some (.dat (.int ds.length)), x4] ((List.range' a n).map fun (k : Nat) => PyData.int (k : Int)) = some (cs.map fun c => PyData.str ⟨#[c]⟩)
  | 0, a, _ => ⟨[], rfl, (fun _ h => by cases h), rfl⟩
  | n + 1, a, ha => by
    obtain ⟨cs, e1, e2, e3⟩ := text_lc hd h0 hl (x1 := x1) (x4 := x4) h1 n (a + 1) (by omega)
    have hm : a % ds.length < ds.length := Nat.mod_lt _ h0
    have q := hd _ (List.getElem_mem hm)
    generalize hq : ds[a % ds.length] = d at q
    have g1 : atI (ds.map PyData.int) ((a : Int) % (ds.length : Int)) = some (.int d) := by
      rw [← Int.natCast_emod, Dm.atI_nat, List.getElem?_map, List.getElem?_eq_getElem hm, hq]
      rfl
    have g2 : 0 ≤ (a : Int) / (ds.length : Int) := Int.ediv_nonneg (by omega) (by omega)
    have g3 : (a : Int) / (ds.length : Int) ≤ 1000 := by
      have := Int.ediv_le_self (ds.length : Int) (show (0 : Int) ≤ (a : Int) by omega)
      omega
    generalize hg : (a : Int) / (ds.length : Int) = p at g2 g3
    have g4 : opMul (.int p) (.int 31) = some (.int (p * 31)) := opMul_ok (by
      have := small_bits (i := 31) (by decide)
      have := small_bits (i := p) (by omega)
      omega)
    have g5 : ((d + p * 31) % 94).toNat < SG.cps.toList.length := by
      have : SG.cps.toList.length = 94 := by
        have := SG_len
        simpa [Str.length] using this
      omega
    refine ⟨SG.cps.toList[((d + p * 31) % 94).toNat] :: cs, by simp [e1], fun c hc => ?_, ?_⟩
    · rcases List.mem_cons.mp hc with e | hc
      · rw [e]
        exact List.getElem_mem g5
      · exact e2 c hc
    · have g6 : atI SG.cps.toList ((d + p * 31) % 94) = some SG.cps.toList[((d + p * 31) % 94).toNat] := by
        rw [atI_pos (by omega), List.getElem?_eq_getElem g5]
      generalize SG.cps.toList[((d + p * 31) % 94).toNat] = c at g6
      have hp : (0 : Int) < (ds.length : Int) := by omega
      have hp2 : (ds.length : Int) < 18446744073709551616 := by omega
      have g7 : opMod (.int (a : Int)) (.int (ds.length : Int)) = some (.int ((a : Int) % (ds.length : Int))) := opMod_pos hp
      have g8 : opDiv (.int (a : Int)) (.int (ds.length : Int)) = some (.int p) := by rw [opDiv_pos hp hp2, hg]
      rw [show List.range' a (n + 1) = a :: List.range' (a + 1) n from rfl, List.map_cons]
      have step : Q.l__law_text_0 ((([x0, x1, some (.dat (.str SG)), some (.dat (.int ds.length)), x4] : Ev).set 4 none).set 4 (some (.dat (.int (a : Int))))) = some (.str ⟨#[c]⟩) := by
        subst h1
        simp [Q.l__law_text_0, g7, g8, g1, g4, ixD_str SG_okN, g6]
      simp only [lcL, tYs_ap, Option.bind_some, if_true, step, e3, List.map_cons]
theorem sum_ones (cs : List Nat) : ((cs.map fun c => (⟨#[c]⟩ : Str)).map (·.length)).sum = cs.length := by
  induction cs with
  | nil => rfl
  | cons c cs ih =>
    rw [List.map_cons, List.map_cons, List.sum_cons, ih]
    show 1 + cs.length = cs.length + 1
    omega
/-- a drawn text: its signs are of the signs, as many as asked for -/
theorem text {ds : List Int} (hd : Drawn ds) (h0 : 0 < ds.length) (hl : ds.length ≤ 1000) {n : Nat} (hn : n ≤ 1000) : ∃ cs : List Nat, cs.length = n ∧ (∀ c ∈ cs, c ∈ SG.cps.toList) ∧ Q.m__law_text [.list (ds.map PyData.int), .int (n : Int)] = some (.str ⟨cs.toArray⟩) := by
  obtain ⟨cs, e1, e2, e3⟩ := text_lc hd h0 hl (x0 := some (.dat (.list (ds.map PyData.int)))) (x1 := some (.dat (.int (n : Int)))) (x4 := none) rfl n 0 (by omega)
  refine ⟨cs, e1, e2, ?_⟩
  have h1 : rng1 (n : Int) = some (rangeD 0 n) := rng1_ok (by omega) (by omega)
  have h2 : okN (rangeD 0 (n : Int)).length = true := by
    rw [rangeD_len]
    exact okN_of (by omega)
  have h3 : strsOf (cs.map fun c => PyData.str ⟨#[c]⟩) = some (cs.map fun c => (⟨#[c]⟩ : Str)) := by
    have := strsOf_of (cs.map fun c => (⟨#[c]⟩ : Str))
    rw [List.map_map] at this
    exact this
  have e0 : ("" : Str).length = 0 := by decide +kernel
  have h4 : mJoin (.str "") [.list (cs.map fun c => PyData.str ⟨#[c]⟩)] = some (.str ⟨cs.toArray⟩) := by
    show (strsOf (cs.map fun c => PyData.str ⟨#[c]⟩)).bind _ = _
    rw [h3, Option.bind_some, sum_ones, e0, Nat.mul_zero, Nat.add_zero, if_pos (okN_of (by omega)), join_signs]
  rw [← rangeD_nat] at e3
  simp [Q.m__law_text, Q.b__law_text, signs, h1, h2, e3, h4]
end QM


namespace QM
open PySem PySem.Spec L2 Dm
def SGL : List Nat := SG.cps.toList
def cutL {α : Type} (ds : List α) (lo hi : Option Int) : List α := (ds.drop (HT.sIx ds.length 0 lo)).take (HT.sIx ds.length ds.length hi - HT.sIx ds.length 0 lo)
theorem cutL_mem {α : Type} {ds : List α} {lo hi : Option Int} {c : α} (h : c ∈ cutL ds lo hi) : c ∈ ds := List.mem_of_mem_drop (List.mem_of_mem_take h)
theorem cutL_len {α : Type} {ds : List α} {lo hi : Option Int} : (cutL ds lo hi).length ≤ ds.length := by
  unfold cutL
  rw [List.length_take, List.length_drop]
  omega
theorem tx_len (l : List Nat) : (⟨l.toArray⟩ : Str).length = l.length := rfl
theorem slice_tx {l : List Nat} {lo hi : Option Int} (h : l.length ≤ 1000) : sliceD (.str ⟨l.toArray⟩) lo hi = some (.str ⟨(cutL l lo hi).toArray⟩) := by
  have h1 : okN (⟨l.toArray⟩ : Str).length = true := okN_of (by rw [tx_len]; omega)
  show (if okN (⟨l.toArray⟩ : Str).length = true then some (PyData.str (cutS ⟨l.toArray⟩ lo hi)) else none) = _
  rw [if_pos h1]
  rfl
theorem add_tx {l m : List Nat} (h : l.length + m.length ≤ 1000) : opAdd (.str ⟨l.toArray⟩) (.str ⟨m.toArray⟩) = some (.str ⟨(l ++ m).toArray⟩) := by
  rw [opAdd_str, if_pos (okN_of (by rw [tx_len, tx_len]; omega))]
  show some (PyData.str ⟨l.toArray ++ m.toArray⟩) = _
  rw [List.append_toArray]
theorem lc_signs {x0 x1 : Option L} : ∀ cs : List Nat, lcL 1 tYs Q.l__has_text_signs_0 [x0, x1] (cs.map fun c => PyData.str ⟨#[c]⟩) = some (cs.map fun c => PyData.bool (decide (c ∈ SGL)))
  | [] => rfl
  | c :: cs => by
    have ih := lc_signs (x0 := x0) (x1 := x1) cs
    have e : ((" !\"#$&'()*+,-./0123456789:;<=>?@ABCDEFGHIJKLMNOPQRSTUVWXYZ[\\]^_`abcdefghijklmnopqrstuvwxyz{|}~" : Str)) = SG := by decide +kernel
    have h1 : Q.l__has_text_signs_0 (([x0, x1] : Ev).set 1 none |>.set 1 (some (.dat (.str ⟨#[c]⟩)))) = some (.bool (decide (c ∈ SGL))) := by
      simp only [Q.l__has_text_signs_0, e]
      rfl
    simp only [List.map_cons, lcL, tYs_ap, Option.bind_some, if_true, h1, ih]
def okT (l : List Nat) : Bool := decide (l.length ≤ 200) && l.all fun c => decide (c ∈ SGL)
theorem has_signs {l : List Nat} (h : l.length ≤ 1000) : Q.m__has_text_signs [.str ⟨l.toArray⟩] = some (.bool (okT l)) := by
  have h1 : fLen [.str ⟨l.toArray⟩] = some (.int l.length) := by
    rw [fLen_str, if_pos (okN_of (by rw [tx_len]; omega)), tx_len]
  have h2 : walkD (.str ⟨l.toArray⟩) = some (l.map fun c => PyData.str ⟨#[c]⟩) := by
    show (if okN (⟨l.toArray⟩ : Str).length = true then some (signsD ⟨l.toArray⟩) else none) = _
    rw [if_pos (okN_of (by rw [tx_len]; omega))]
    rfl
  have h3 : okN l.length = true := okN_of (by omega)
  have h4 := lc_signs (x0 := some (.dat (.str ⟨l.toArray⟩))) (x1 := none) l
  have h5 : fAll [.list (l.map fun c => PyData.bool (decide (c ∈ SGL)))] = some (.bool (l.all fun c => decide (c ∈ SGL))) := by
    have := boolsOf_of (l.map fun c => decide (c ∈ SGL))
    rw [List.map_map] at this
    show (boolsOf _).bind _ = _
    rw [show (l.map fun c => PyData.bool (decide (c ∈ SGL))) = l.map (PyData.bool ∘ fun c => decide (c ∈ SGL)) from rfl, this]
    simp
  by_cases h6 : l.length ≤ 200
  · have h7 : (l.length : Int) ≤ 200 := by omega
    simp [Q.m__has_text_signs, Q.b__has_text_signs, h1, h2, h3, h4, h5, okT, h6, h7]
  · have h7 : ¬ (l.length : Int) ≤ 200 := by omega
    simp [Q.m__has_text_signs, Q.b__has_text_signs, h1, okT, h6, h7]
theorem whole_of {d : D} (h : flatD d = true) : Q.m_is_whole [d] = some (.bool (match d with | .int _ => true | _ => false)) := by
  cases d <;> simp [flatD] at h <;> simp [Q.m_is_whole, Q.b_is_whole]
/-- a thing is a value of a kind: 0 number, 1 text, 2 truth -/
def isVal : D → Nat → Bool
  | .none, _ => true
  | .bool _, k => k == 2
  | .int i, k => k == 0 && (decide (-1000000000000000000 < i) && decide (i < 1000000000000000000))
  | .str z, k => k == 1 && okT z.cps.toList
  | _, _ => false
def Obj (d : D) : Prop := d = .none ∨ (∃ p, d = .bool p) ∨ (∃ i, d = .int i) ∨ (∃ l : List Nat, d = .str ⟨l.toArray⟩ ∧ l.length ≤ 1000 ∧ ∀ c ∈ l, c ∈ SGL ∨ c = 10 ∨ c = 9) ∨ (∃ ds, d = .list ds) ∨ (∃ ds, d = .tuple ds) ∨ d = .dict []
def kd (k : Nat) : D := match k with
  | 0 => .str "int"
  | 1 => .str "text"
  | _ => .str "bool"
theorem kE : (("text" : Str) = "int") = False ∧ (("bool" : Str) = "int") = False ∧ (("text" : Str) = "bool") = False ∧ (("int" : Str) = "bool") = False ∧ (("int" : Str) = "text") = False ∧ (("bool" : Str) = "text") = False := by
  refine ⟨?_, ?_, ?_, ?_, ?_, ?_⟩ <;> (rw [eq_iff_iff, iff_false]; decide +kernel)
theorem is_value {d : D} (h : Obj d) {k : Nat} (hk : k < 3) : Q.m_is_value [d, kd k] = some (.bool (isVal d k)) := by
  have hk : k = 0 ∨ k = 1 ∨ k = 2 := by omega
  obtain ⟨k1, k2, k3, k4, k5, k6⟩ := kE
  rcases h with h | ⟨p, h⟩ | ⟨i, h⟩ | ⟨l, h, h1, h2⟩ | ⟨ds, h⟩ | ⟨ds, h⟩ | h <;> subst h
  · rcases hk with rfl | rfl | rfl <;> simp [Q.m_is_value, Q.b_is_value, kd, isVal]
  · have := whole_of (d := .bool p) rfl
    rcases hk with rfl | rfl | rfl <;> simp [Q.m_is_value, Q.b_is_value, kd, isVal, this, k1, k2, k3, k4, k5, k6]
  · have := whole_of (d := .int i) rfl
    rcases hk with rfl | rfl | rfl
    · by_cases h1 : -1000000000000000000 < i <;> by_cases h2 : i < 1000000000000000000 <;> simp [Q.m_is_value, Q.b_is_value, kd, isVal, this, h1, h2]
    · simp [Q.m_is_value, Q.b_is_value, kd, isVal, this, k1, k2, k3, k4, k5, k6]
    · simp [Q.m_is_value, Q.b_is_value, kd, isVal, this, k1, k2, k3, k4, k5, k6]
  · have := whole_of (d := .str ⟨l.toArray⟩) rfl
    have h3 := has_signs h1
    rcases hk with rfl | rfl | rfl <;> simp [Q.m_is_value, Q.b_is_value, kd, isVal, this, k1, k2, k3, k4, k5, k6, h3]
  all_goals
    rcases hk with rfl | rfl | rfl <;> simp [Q.m_is_value, Q.b_is_value, Q.m_is_whole, Q.b_is_whole, kd, isVal, k1, k2, k3, k4, k5, k6]
theorem tb : ("\t" : Str) = ⟨#[9]⟩ := by decide +kernel
theorem mul_d2 {i : Int} (h0 : 0 ≤ i) (h : i < 2147483647) {j : Int} (hj : j.natAbs < 2 ^ 100) : opMul (.int i) (.int j) = some (.int (i * j)) := opMul_ok (by
  have := small_bits (i := i) (by omega)
  have := small_bits (i := j) hj
  omega)
theorem number {d0 d1 d2 d3 : Int} {r : List D} (q1 : 0 ≤ d1) (q2 : 0 ≤ d2) (q3 : d2 < 2147483647) (q4 : 0 ≤ d3) : ∃ i, Q.m__law_number [.list (.int d0 :: .int d1 :: .int d2 :: .int d3 :: r)] = some (.int i) := by
  have m1 := mul_d2 q2 q3 (j := 100000000000000) (by decide)
  have m2 := mul_d2 q2 q3 (j := 10000000) (by decide)
  have m3 := mul_d2 (i := 2) (by omega) (by omega) (j := 1000000000000000000) (by decide)
  by_cases a0 : d1 % 6 = 0
  · exact ⟨_, by simp [-opMul_small, Q.m__law_number, Q.b__law_number, a0]; rfl⟩
  by_cases a1 : d1 % 6 = 1
  · exact ⟨_, by simp [-opMul_small, Q.m__law_number, Q.b__law_number, a1]; rfl⟩
  by_cases a2 : d1 % 6 = 2
  · exact ⟨_, by simp [-opMul_small, Q.m__law_number, Q.b__law_number, a2]; rfl⟩
  by_cases a3 : d1 % 6 = 3
  · exact ⟨_, by simp [-opMul_small, Q.m__law_number, Q.b__law_number, a3, m1]; rfl⟩
  exact ⟨_, by simp [-opMul_small, Q.m__law_number, Q.b__law_number, a0, a1, a2, a3, m2, m3]; rfl⟩
theorem mem_of_at {α : Type} {xs : List α} {i : Int} (h0 : 0 ≤ i) (h : i < xs.length) : ∃ t, atI xs i = some t ∧ t ∈ xs := by
  have h4 : i.toNat < xs.length := by omega
  exact ⟨_, by rw [atI_pos h0, List.getElem?_eq_getElem h4], List.getElem_mem h4⟩
end QM


namespace QM
open PySem PySem.Spec L2 Dm
theorem law_int {ds : List Int} (hd : Drawn ds) {a : Nat} (ha : a + 3 < ds.length) : ∃ i, Q.m__law_int [.list (ds.map PyData.int), .int (a : Int)] = some (.int i) := by
  have at_ : ∀ j : Nat, (h : j < ds.length) → atI (ds.map PyData.int) ((j : Nat) : Int) = some (.int ds[j]) := fun j h => by
    rw [Dm.atI_nat, List.getElem?_map, List.getElem?_eq_getElem h]
    rfl
  have g0 := at_ a (by omega)
  have g1 := at_ (a + 1) (by omega)
  have g2 := at_ (a + 2) (by omega)
  have g3 := at_ (a + 3) (by omega)
  have q1 := hd _ (List.getElem_mem (show a + 1 < ds.length by omega))
  have q2 := hd _ (List.getElem_mem (show a + 2 < ds.length by omega))
  rw [show ((a + 1 : Nat) : Int) = (a : Int) + 1 by omega] at g1
  rw [show ((a + 2 : Nat) : Int) = (a : Int) + 2 by omega] at g2
  rw [show ((a + 3 : Nat) : Int) = (a : Int) + 3 by omega] at g3
  have m1 := mul_d2 q1.1 q1.2 (j := 100000000000000) (by decide)
  have m2 := mul_d2 q2.1 q2.2 (j := 10000000) (by decide)
  have m3 := mul_d2 (i := 2) (by omega) (by omega) (j := 1000000000000000000) (by decide)
  generalize ds[a] = d0 at g0
  generalize ds[a + 1] = d1 at g1 m1
  generalize ds[a + 2] = d2 at g2 m2
  generalize ds[a + 3] = d3 at g3
  by_cases w0 : d0 % 8 = 0
  · exact ⟨_, by simp [-opMul_small, Q.m__law_int, Q.b__law_int, g0, g1, w0]; rfl⟩
  by_cases w1 : d0 % 8 = 1
  · exact ⟨_, by simp [-opMul_small, Q.m__law_int, Q.b__law_int, g0, g1, w1]; rfl⟩
  by_cases w2 : d0 % 8 = 2
  · exact ⟨_, by simp [-opMul_small, Q.m__law_int, Q.b__law_int, g0, g1, w2]; rfl⟩
  by_cases w5 : d0 % 8 < 5
  · exact ⟨_, by simp [-opMul_small, Q.m__law_int, Q.b__law_int, g0, g1, w0, w1, w2, w5]; rfl⟩
  exact ⟨_, by simp [-opMul_small, Q.m__law_int, Q.b__law_int, g0, g1, g2, g3, w0, w1, w2, w5, m1, m2, m3]; rfl⟩
theorem SGL_ok : ∀ c ∈ SGL, c < 0x110000 := by
  have h : ∀ c ∈ SGL, 32 ≤ c ∧ c ≤ 126 ∧ c ≠ 37 := SG_sign
  intro c hc
  have := h c hc
  omega
theorem lay_tx {l : List Nat} (h : ∀ c ∈ l, c ∈ SGL) : PyData.canLay0 (.str ⟨l.toArray⟩) = true := by
  show (⟨l.toArray⟩ : Str).cps.all (fun c => decide (c < 0x110000)) = true
  simp only [List.all_toArray, List.all_eq_true, decide_eq_true_eq]
  exact fun c hc => SGL_ok c (h c hc)
end QM


namespace QM
open PySem PySem.Spec L2 Dm
@[simp] theorem cLtT_int (i j : Int) : cLtT (.int i) (.int j) = some (.bool (decide (i < j))) := rfl
theorem lex_tri (a b : List Nat) : (a = b ∧ ¬ a < b ∧ ¬ b < a) ∨ (a ≠ b ∧ a < b ∧ ¬ b < a) ∨ (a ≠ b ∧ ¬ a < b ∧ b < a) := by
  rcases Decidable.em (a < b) with h | h
  · exact .inr (.inl ⟨fun e => List.lt_irrefl _ (e ▸ h), h, fun h' => List.lt_irrefl _ (List.lt_trans h h')⟩)
  · rcases Decidable.em (b < a) with h' | h'
    · exact .inr (.inr ⟨fun e => List.lt_irrefl _ (e ▸ h'), h, h'⟩)
    · exact .inl ⟨List.le_antisymm (List.not_lt.mp h') (List.not_lt.mp h), h, h'⟩
end QM


namespace QM
open PySem PySem.Spec L2 Dm
def faultD (c : Int) : D := .tuple [.str "fault", .int c]
theorem fault (c : Int) : Q.m_fault [.int c] = some (faultD c) := by
  simp [Q.m_fault, Q.b_fault, faultD]
/-- the things that are drawn -/
def objs (c : Int) : List D := [faultD 0, faultD 5, faultD (-1), .tuple [.str "flaw", .int c], .tuple [.str "fault", .int c, .int c], .tuple [.str "fault"], .tuple [.int c, .str "fault"],
  .list [.str "fault", .int c], .str "fault", .int c, .none, .bool true, .tuple [.str "fault", .str "1"], .tuple [.str "fault", .none], .tuple []]
def Thing (d : D) : Prop := ∃ c : Int, 1 ≤ c ∧ c ≤ 4 ∧ (d = faultD c ∨ d ∈ objs c)
theorem object {d0 d1 d2 d3 : Int} (h0 : 0 ≤ d0) (h1 : 0 ≤ d1) (h2 : 0 ≤ d2) : ∃ t, Q.m__law_object_v1 [.list [.int d0, .int d1, .int d2, .int d3]] = some t ∧ Thing t := by
  by_cases h3 : d0 % 3 = 0
  · refine ⟨faultD (1 + d1 % 4), ?_, 1 + d1 % 4, by omega, by omega, .inl rfl⟩
    simp [Q.m__law_object_v1, Q.b__law_object_v1, faultD, h3]
  · obtain ⟨t, ht, hm⟩ : ∃ t, atI (objs (1 + d1 % 4)) (d2 % 15) = some t ∧ t ∈ objs (1 + d1 % 4) := by
      have h4 : (d2 % 15).toNat < (objs (1 + d1 % 4)).length := by
        show _ < 15
        omega
      exact ⟨_, by rw [atI_pos (by omega), List.getElem?_eq_getElem h4], List.getElem_mem h4⟩
    refine ⟨t, ?_, 1 + d1 % 4, by omega, by omega, .inr hm⟩
    simp only [objs, faultD] at ht
    simp [Q.m__law_object_v1, Q.b__law_object_v1, h3, ht]
end QM


namespace QM
open PySem PySem.Spec L2 Dm
theorem st1 : Q.m_is_strict [.str "isnull"] = some (.bool false) := by kernel_rfl
theorem st2 : Q.m_is_strict [.str "same"] = some (.bool false) := by kernel_rfl
theorem st3 : Q.m_is_strict [.str "coalesce"] = some (.bool false) := by kernel_rfl
theorem st4 : Q.m_is_strict [.str "nullif"] = some (.bool false) := by kernel_rfl
def wk : List (Str × Str) := [("not", "_not"), ("and", "_and"), ("or", "_or"), ("isnull", "_isnull"), ("same", "_same"), ("coalesce", "_coalesce"), ("nullif", "_nullif")]
end QM


namespace QM
open PySem PySem.Spec L2 Dm
/-- a text of signs -/
def Tx (d : D) : Prop := ∃ l : List Nat, d = .str ⟨l.toArray⟩ ∧ l.length ≤ 1000 ∧ ∀ c ∈ l, c ∈ SGL
/-- null, a fault of the four, a number, a text, a truth -/
def S7 (d : D) : Prop := d = .none ∨ (∃ c : Int, 1 ≤ c ∧ c ≤ 4 ∧ d = faultD c) ∨ (∃ i, d = .int i) ∨ Tx d ∨ (∃ p, d = .bool p)
theorem S7_tx {l : List Nat} (h1 : l.length ≤ 1000) (h2 : ∀ c ∈ l, c ∈ SGL) : S7 (.str ⟨l.toArray⟩) := .inr (.inr (.inr (.inl ⟨l, rfl, h1, h2⟩)))
theorem S7_int (i : Int) : S7 (.int i) := .inr (.inr (.inl ⟨i, rfl⟩))
theorem S7_bool (p : Bool) : S7 (.bool p) := .inr (.inr (.inr (.inr ⟨p, rfl⟩)))
theorem S7_none : S7 .none := .inl rfl
theorem S7_lay {d : D} (h : S7 d) : PyData.canLay0 d = true ∧ PyData.depth d ≤ 60 := by
  rcases h with h | ⟨c, h1, h2, h⟩ | ⟨i, h⟩ | ⟨l, h, _, h2⟩ | ⟨p, h⟩ <;> subst h
  · exact ⟨rfl, by simp [PyData.depth]⟩
  · exact ⟨by simp [faultD, PyData.canLay0, PyData.canLayAll0]; decide +kernel, by simp [faultD, PyData.depth, PyData.depthAll]⟩
  · exact ⟨rfl, by simp [PyData.depth]⟩
  · exact ⟨lay_tx h2, by simp [PyData.depth]⟩
  · exact ⟨rfl, by simp [PyData.depth]⟩
end QM


namespace QM
open PySem PySem.Spec L2 Dm
theorem cutD_map (ds : List Int) (lo hi : Option Int) : cutD (ds.map PyData.int) lo hi = (cutL ds lo hi).map PyData.int := by
  unfold cutD cutL
  rw [List.length_map, List.map_take, List.map_drop]
theorem drawn_cut {ds : List Int} (h : Drawn ds) (lo hi : Option Int) : Drawn (cutL ds lo hi) := fun d hd => h d (cutL_mem hd)
theorem worths : ∀ d ∈ ([PyData.str "", .str "a", .str "ab", .str "b", .str "A", .str " ", .str "a "] : List D), ∃ l : List Nat, d = .str ⟨l.toArray⟩ ∧ l.length ≤ 100 ∧ ∀ c ∈ l, c ∈ SGL := by
  have k : ∀ (s : Str) (l : List Nat), s = ⟨l.toArray⟩ → l.length ≤ 100 → (∀ c ∈ l, c ∈ SGL) → ∃ l : List Nat, PyData.str s = .str ⟨l.toArray⟩ ∧ l.length ≤ 100 ∧ ∀ c ∈ l, c ∈ SGL := fun s l e h1 h2 => ⟨l, by rw [e], h1, h2⟩
  have m : ∀ c : Nat, c = 32 ∨ c = 97 ∨ c = 98 ∨ c = 65 → c ∈ SGL := by
    intro c h
    rcases h with rfl | rfl | rfl | rfl <;> (show _ ∈ SG.cps.toList) <;> decide +kernel
  intro d hd
  simp only [List.mem_cons, List.not_mem_nil, or_false] at hd
  rcases hd with h | h | h | h | h | h | h <;> subst h
  · exact k _ [] (by decide +kernel) (by simp) (by simp)
  · exact k _ [97] (by decide +kernel) (by simp) (fun c hc => m c (by simp at hc; omega))
  · exact k _ [97, 98] (by decide +kernel) (by simp) (fun c hc => m c (by simp at hc; omega))
  · exact k _ [98] (by decide +kernel) (by simp) (fun c hc => m c (by simp at hc; omega))
  · exact k _ [65] (by decide +kernel) (by simp) (fun c hc => m c (by simp at hc; omega))
  · exact k _ [32] (by decide +kernel) (by simp) (fun c hc => m c (by simp at hc; omega))
  · exact k _ [97, 32] (by decide +kernel) (by simp) (fun c hc => m c (by simp at hc; omega))
theorem at_int {ds : List Int} {j : Nat} (h : j < ds.length) : (ds.map PyData.int)[j]? = some (.int ds[j]) := by
  rw [List.getElem?_map, List.getElem?_eq_getElem h]
  rfl
end QM


namespace QM
open PySem PySem.Spec L2 Dm
def tkey (src tgt : Str) (f : Nat → Nat) (c : Nat) : Bool := match decide (Txt.find src ⟨#[c]⟩ < 0), ixD (.str tgt) (.int (Txt.find src ⟨#[c]⟩)) with
  | true, _ => decide (f c = c)
  | false, some (.str z) => decide (z = ⟨#[f c]⟩)
  | false, _ => false
theorem tkey_of {src tgt : Str} {f : Nat → Nat} {c : Nat} (h : tkey src tgt f c = true) : (Txt.find src ⟨#[c]⟩ < 0 ∧ f c = c) ∨ (¬ Txt.find src ⟨#[c]⟩ < 0 ∧ ixD (.str tgt) (.int (Txt.find src ⟨#[c]⟩)) = some (.str ⟨#[f c]⟩)) := by
  unfold tkey at h
  split at h
  · rename_i h1
    exact .inl ⟨of_decide_eq_true h1, of_decide_eq_true h⟩
  · rename_i h1 h2
    have := of_decide_eq_true h
    subst this
    exact .inr ⟨of_decide_eq_false h1, h2⟩
  · cases h
theorem add_sign {l : List Nat} {c : Nat} (h : l.length < 1000) : opAdd (.str ⟨l.toArray⟩) (.str ⟨#[c]⟩) = some (.str ⟨(l ++ [c]).toArray⟩) := add_tx (m := [c]) (by simp; omega)
theorem turned_loop {src tgt : Str} {f : Nat → Nat} (hk : ∀ c ∈ SGL, tkey src tgt f c = true) {x0 : Option L} : ∀ (l m : List Nat) (x4 x5 : Option L), (∀ c ∈ l, c ∈ SGL) → m.length + l.length ≤ 1000 → ∃ y4 y5, forL (gN 4) Q.l__law_turned_0 (l.map fun c => PyData.str ⟨#[c]⟩) [x0, some (.dat (.str src)), some (.dat (.str tgt)), some (.dat (.str ⟨m.toArray⟩)), x4, x5] = some (.nx [x0, some (.dat (.str src)), some (.dat (.str tgt)), some (.dat (.str ⟨(m ++ l.map f).toArray⟩)), y4, y5])
  | [], m, x4, x5, _, _ => ⟨x4, x5, by simp⟩
  | c :: l, m, x4, x5, h, hl => by
    simp only [List.length_cons] at hl
    obtain ⟨y4, y5, ih⟩ := turned_loop hk (x0 := x0) l (m ++ [f c]) (some (.dat (.str ⟨#[c]⟩))) (some (.dat (.int (Txt.find src ⟨#[c]⟩)))) (fun x hx => h x (List.mem_cons_of_mem _ hx)) (by simp; omega)
    refine ⟨y4, y5, ?_⟩
    rw [List.map_cons, forL_nx (ρ2 := [x0, some (.dat (.str src)), some (.dat (.str tgt)), some (.dat (.str ⟨(m ++ [f c]).toArray⟩)), some (.dat (.str ⟨#[c]⟩)), some (.dat (.int (Txt.find src ⟨#[c]⟩)))]) (by rfl) ?_, ih]
    · simp
    · have hf : mFind (.str src) [.str ⟨#[c]⟩] = some (.int (Txt.find src ⟨#[c]⟩)) := rfl
      have ha := add_sign (l := m) (c := f c) (by omega)
      rcases tkey_of (hk c (h c List.mem_cons_self)) with ⟨h1, h2⟩ | ⟨h1, h2⟩
      · rw [h2] at ha ⊢
        simp [Q.l__law_turned_0, hf, h1, ha]
      · simp [Q.l__law_turned_0, hf, h1, h2, ha]
theorem walk_tx {l : List Nat} (h : l.length ≤ 1000) : walkD (.str ⟨l.toArray⟩) = some (l.map fun c => PyData.str ⟨#[c]⟩) := by
  show (if okN (⟨l.toArray⟩ : Str).length = true then some (signsD ⟨l.toArray⟩) else none) = _
  rw [if_pos (okN_of (by rw [tx_len]; omega))]
  rfl
theorem nil_tx : ("" : Str) = ⟨([] : List Nat).toArray⟩ := by decide +kernel
theorem turned {src tgt : Str} {f : Nat → Nat} (hk : ∀ c ∈ SGL, tkey src tgt f c = true) {l : List Nat} (h : ∀ c ∈ l, c ∈ SGL) (hl : l.length ≤ 1000) : Q.m__law_turned [.str ⟨l.toArray⟩, .str src, .str tgt] = some (.str ⟨(l.map f).toArray⟩) := by
  obtain ⟨y4, y5, e⟩ := turned_loop hk (x0 := some (.dat (.str ⟨l.toArray⟩))) l [] none none h (by simpa using hl)
  rw [List.nil_append, ← nil_tx] at e
  have hw := walk_tx hl
  generalize (l.map fun c => PyData.str ⟨#[c]⟩) = w at hw e
  simp [Q.m__law_turned, Q.b__law_turned, hw, e]
def TA (d : D) : Prop := d = .none ∨ (∃ c : Int, 1 ≤ c ∧ c ≤ 4 ∧ d = faultD c) ∨ ∃ l : List Nat, d = .str ⟨l.toArray⟩ ∧ l.length ≤ 200 ∧ ∀ c ∈ l, c ∈ SGL
theorem k7 : (("size" : Str) = "cat") = False ∧ (("upper" : Str) = "cat") = False ∧ (("upper" : Str) = "size") = False ∧ (("lower" : Str) = "cat") = False ∧ (("lower" : Str) = "size") = False ∧ (("lower" : Str) = "upper") = False ∧ (("part" : Str) = "cat") = False ∧ (("part" : Str) = "size") = False ∧ (("part" : Str) = "upper") = False ∧ (("part" : Str) = "lower") = False := by
  refine ⟨?_, ?_, ?_, ?_, ?_, ?_, ?_, ?_, ?_, ?_⟩ <;> (rw [eq_iff_iff, iff_false]; decide +kernel)
theorem len7 {l : List Nat} (h : l.length ≤ 1000) : fLen [.str ⟨l.toArray⟩] = some (.int l.length) := by
  rw [fLen_str, if_pos (okN_of (by rw [tx_len]; omega)), tx_len]
end QM


namespace QM
open PySem PySem.Spec L2 Dm
open NumText (AllDigits digitsVal)
theorem law_int9 {ds : List Int} (hd : Drawn ds) {a : Nat} (ha : a + 3 < ds.length) : ∃ i : Int, Q.m__law_int [.list (ds.map PyData.int), .int (a : Int)] = some (.int i) ∧ i.natAbs < 10 ^ 18 := by
  have h18 : (10 : Nat) ^ 18 = 1000000000000000000 := by decide
  rw [h18]
  have at_ : ∀ j : Nat, (h : j < ds.length) → atI (ds.map PyData.int) ((j : Nat) : Int) = some (.int ds[j]) := fun j h => by
    rw [Dm.atI_nat]
    exact at_int h
  have g0 := at_ a (by omega)
  have g1 := at_ (a + 1) (by omega)
  have g2 := at_ (a + 2) (by omega)
  have g3 := at_ (a + 3) (by omega)
  have q1 := hd _ (List.getElem_mem (show a + 1 < ds.length by omega))
  have q2 := hd _ (List.getElem_mem (show a + 2 < ds.length by omega))
  rw [show ((a + 1 : Nat) : Int) = (a : Int) + 1 by omega] at g1
  rw [show ((a + 2 : Nat) : Int) = (a : Int) + 2 by omega] at g2
  rw [show ((a + 3 : Nat) : Int) = (a : Int) + 3 by omega] at g3
  have m1 := mul_d2 q1.1 q1.2 (j := 100000000000000) (by decide)
  have m2 := mul_d2 q2.1 q2.2 (j := 10000000) (by decide)
  have m3 := mul_d2 (i := 2) (by omega) (by omega) (j := 1000000000000000000) (by decide)
  generalize ds[a] = d0 at g0
  generalize ds[a + 1] = d1 at g1 m1
  generalize ds[a + 2] = d2 at g2 m2
  generalize ds[a + 3] = d3 at g3
  by_cases w0 : d0 % 8 = 0
  · exact ⟨d1 % 21 - 10, by simp [-opMul_small, Q.m__law_int, Q.b__law_int, g0, g1, w0], by omega⟩
  by_cases w1 : d0 % 8 = 1
  · exact ⟨1000000000000000000 - 1 - d1 % 5, by simp [-opMul_small, Q.m__law_int, Q.b__law_int, g0, g1, w1], by omega⟩
  by_cases w2 : d0 % 8 = 2
  · exact ⟨d1 % 5 + 1 - 1000000000000000000, by simp [-opMul_small, Q.m__law_int, Q.b__law_int, g0, g1, w2], by omega⟩
  by_cases w5 : d0 % 8 < 5
  · exact ⟨d1 % 2000003 - 1000001, by simp [-opMul_small, Q.m__law_int, Q.b__law_int, g0, g1, w0, w1, w2, w5], by omega⟩
  exact ⟨(d1 * 100000000000000 + d2 * 10000000 + d3) % 1999999999999999999 - 999999999999999999, by simp [-opMul_small, Q.m__law_int, Q.b__law_int, g0, g1, g2, g3, w0, w1, w2, w5, m1, m2, m3], by omega⟩
end QM


namespace QM
open PySem PySem.Spec L2 Dm
def PV (κ : Nat) (d : D) : Prop := (κ = 0 ∧ ∃ i, d = .int i) ∨ (κ = 1 ∧ ∃ l : List Nat, d = .str ⟨l.toArray⟩ ∧ l.length ≤ 300 ∧ ∀ c ∈ l, c ∈ SGL) ∨ (κ = 2 ∧ ∃ p, d = .bool p)
def NV (κ : Nat) (d : D) : Prop := d = .none ∨ PV κ d
theorem NV_PV {κ : Nat} {d : D} (h : NV κ d) (hn : isNon d = false) : PV κ d := by
  rcases h with h | h
  · subst h
    cases hn
  · exact h
theorem PV_S7 {κ : Nat} {d : D} (h : PV κ d) : S7 d := by
  rcases h with ⟨_, i, h⟩ | ⟨_, l, h, h1, h2⟩ | ⟨_, p, h⟩ <;> subst h
  · exact S7_int i
  · exact S7_tx (by omega) h2
  · exact S7_bool p
theorem NV_S7 {κ : Nat} {d : D} (h : NV κ d) : S7 d := by
  rcases h with h | h
  · subst h
    exact S7_none
  · exact PV_S7 h
theorem NV_shaped {κ : Nat} {ds : List D} (h : ∀ d ∈ ds, NV κ d) : SeqAt.shaped (.list ds) = true := shaped_all fun d hd => S7_lay (NV_S7 (h d hd))
/-- what the order is, and that it is one -/
structure Ord (x y : D) : Prop where
  same : sameD x y = true
  lt : cLt x y = some (.bool (sltD x y))
  gt : cGt x y = some (.bool (sltD y x))
  le : cLeU x y = some (.bool (!sltD y x))
  ge : cGeU x y = some (.bool (!sltD x y))
  sg : sgtD x y = sltD y x
  eq : cEq x y = some (.bool (!sltD x y && !sltD y x))
  ne : cNe x y = some (.bool (!(!sltD x y && !sltD y x)))
  anti : sltD x y = false → sltD y x = false → x = y
  asym : sltD x y = true → sltD y x = false
theorem ord {κ : Nat} {x y : D} (hx : PV κ x) (hy : PV κ y) : Ord x y := by
  rcases hx with ⟨k, i, h⟩ | ⟨k, l, h, h1, h2⟩ | ⟨k, p, h⟩ <;> subst h <;> subst k <;> rcases hy with ⟨k', j, h'⟩ | ⟨k', m, h', h1', h2'⟩ | ⟨k', q, h'⟩ <;> subst h' <;> (try (exfalso; omega))
  · refine ⟨rfl, rfl, rfl, ?_, ?_, rfl, ?_, ?_, ?_, ?_⟩
    · show some (PyData.bool (decide (i ≤ j))) = some (.bool (!decide (j < i)))
      congr 2
      rw [Bool.eq_iff_iff]
      simp
    · show some (PyData.bool (decide (j ≤ i))) = some (.bool (!decide (i < j)))
      congr 2
      rw [Bool.eq_iff_iff]
      simp
    · rw [cEq_int]
      congr 2
      rw [Bool.eq_iff_iff]
      simp [sltD]
      omega
    · rw [cNe_int]
      congr 3
      rw [Bool.eq_iff_iff]
      simp [sltD]
      omega
    · intro a b
      have a := of_decide_eq_false a
      have b := of_decide_eq_false b
      rw [show i = j by omega]
    · intro a
      have a := of_decide_eq_true a
      exact decide_eq_false (by omega)
  · have e : ((⟨l.toArray⟩ : Str) = ⟨m.toArray⟩) = (l = m) := by simp
    refine ⟨rfl, rfl, rfl, rfl, rfl, rfl, ?_, ?_, ?_, ?_⟩
    · rw [cEq_str]
      congr 2
      rw [Bool.eq_iff_iff]
      simp only [e, sltD, decide_eq_true_eq, Bool.and_eq_true, Bool.not_eq_true', decide_eq_false_iff_not, List.toList_toArray]
      rcases lex_tri l m with ⟨a, b, c⟩ | ⟨a, b, c⟩ | ⟨a, b, c⟩
      · exact ⟨fun _ => ⟨b, c⟩, fun _ => a⟩
      · exact ⟨fun z => absurd z a, fun z => absurd b z.1⟩
      · exact ⟨fun z => absurd z a, fun z => absurd c z.2⟩
    · rw [cNe_str]
      congr 3
      rw [Bool.eq_iff_iff]
      simp only [e, sltD, decide_eq_true_eq, Bool.and_eq_true, Bool.not_eq_true', decide_eq_false_iff_not, List.toList_toArray]
      rcases lex_tri l m with ⟨a, b, c⟩ | ⟨a, b, c⟩ | ⟨a, b, c⟩
      · exact ⟨fun _ => ⟨b, c⟩, fun _ => a⟩
      · exact ⟨fun z => absurd z a, fun z => absurd b z.1⟩
      · exact ⟨fun z => absurd z a, fun z => absurd c z.2⟩
    · intro a b
      have a := of_decide_eq_false a
      have b := of_decide_eq_false b
      rcases lex_tri l m with ⟨z, _, _⟩ | ⟨_, z, _⟩ | ⟨_, _, z⟩
      · rw [z]
      · exact absurd z a
      · exact absurd z b
    · intro a
      have a := of_decide_eq_true a
      refine decide_eq_false fun b => ?_
      rcases lex_tri l m with ⟨_, z, _⟩ | ⟨_, _, z⟩ | ⟨_, z, _⟩
      · exact z a
      · exact z b
      · exact z a
  · refine ⟨rfl, rfl, ?_, ?_, ?_, ?_, ?_, ?_, ?_, ?_⟩ <;> cases p <;> cases q <;> first | rfl | kernel_rfl | (intro a b; first | rfl | (cases a; done) | (cases b; done)) | (intro a; first | rfl | (cases a; done))
section
variable {κ : Nat} {x y z : D}
theorem irr (hx : PV κ x) : sltD x x = false := by
  cases h : sltD x x
  · rfl
  · exact absurd ((ord hx hx).asym h) (by rw [h]; decide)
end
theorem all_same {κ : Nat} {ds : List D} (h : ∀ d ∈ ds, PV κ d) : allSame ds = true := List.all_eq_true.mpr fun x hx => List.all_eq_true.mpr fun y hy => (ord (h x hx) (h y hy)).same
theorem fMin_ok {κ : Nat} {d : D} {ds : List D} (h : ∀ x ∈ d :: ds, PV κ x) : fMinA [.list (d :: ds)] = some (minFD d ds) := if_pos (all_same h)
theorem fMax_ok {κ : Nat} {d : D} {ds : List D} (h : ∀ x ∈ d :: ds, PV κ x) : fMaxA [.list (d :: ds)] = some (maxFD d ds) := if_pos (all_same h)
/-- [x for x in ds if x is not None] -/
def there (ds : List D) : List D := ds.filter fun d => !isNon d
theorem lc_there {i : Nat} {ρ : Ev} (hi : i < ρ.length) : ∀ ds : List D, lcL i (tB (e2 cNotN (eV i) (eC .none))) (eV i) ρ ds = some (there ds)
  | [] => rfl
  | d :: ds => by
    have ih := lc_there hi ds
    have e : eV i ((ρ.set i none).set i (some (.dat d))) = some d := by
      rw [eV_ap, List.getElem?_set_self (by simpa using hi)]
    have ht : tB (e2 cNotN (eV i) (eC .none)) ((ρ.set i none).set i (some (.dat d))) = some (!isNon d) := by
      rw [tB_ap, e2_ap, e]
      rfl
    unfold lcL
    rw [ht, e, ih]
    unfold there
    cases h : isNon d <;> simp [h]
theorem there_PV {κ : Nat} {ds : List D} (h : ∀ d ∈ ds, NV κ d) : ∀ d ∈ there ds, PV κ d := fun d hd => by
  obtain ⟨h1, h2⟩ := List.mem_filter.mp hd
  exact NV_PV (h d h1) (by simpa using h2)
theorem there_len (ds : List D) : (there ds).length ≤ ds.length := List.length_filter_le _ _
/-- as drawn: texts are short -/
def CV (κ : Nat) (d : D) : Prop := d = .none ∨ (κ = 0 ∧ ∃ i, d = .int i) ∨ (κ = 1 ∧ ∃ l : List Nat, d = .str ⟨l.toArray⟩ ∧ l.length ≤ 100 ∧ ∀ c ∈ l, c ∈ SGL) ∨ (κ = 2 ∧ ∃ p, d = .bool p)
/-- a value of the kind, or null -/
theorem worth14 {κ : Nat} (hκ : κ < 3) {ds : List Int} (hd : Drawn ds) (hl : 14 ≤ ds.length) (hl2 : ds.length ≤ 100) : ∃ t, Q.m__law_worth_v1 [kd κ, .list (ds.map PyData.int)] = some t ∧ CV κ t := by
  have g0 := at_int (ds := ds) (j := 0) (by omega)
  have g1 := at_int (ds := ds) (j := 1) (by omega)
  have q0 := hd _ (List.getElem_mem (show 0 < ds.length by omega))
  have q1 := hd _ (List.getElem_mem (show 1 < ds.length by omega))
  obtain ⟨i, hi⟩ := law_int hd (a := 1) (by omega)
  have hi' : Q.m__law_int [.list (ds.map PyData.int), .int 1] = some (.int i) := hi
  have hlen : 0 < (cutL ds (some 5) none).length := by
    unfold cutL HT.sIx
    simp
    omega
  have hlen2 := cutL_len (ds := ds) (lo := some 5) (hi := none)
  generalize ds[0] = d0 at g0 q0
  generalize ds[1] = d1 at g1 q1
  obtain ⟨l, e1, e2, e3⟩ := text (ds := cutL ds (some 5) none) (drawn_cut hd _ _) hlen (by omega) (n := (d1 % 9).toNat) (by omega)
  rw [show (((d1 % 9).toNat : Nat) : Int) = d1 % 9 by omega, ← cutD_map] at e3
  have g0' : atI (ds.map PyData.int) 0 = some (.int d0) := by
    rw [atI_pos (by omega)]
    exact g0
  have g1' : atI (ds.map PyData.int) 1 = some (.int d1) := by
    rw [atI_pos (by omega)]
    exact g1
  obtain ⟨k1, k2, k3, k4, k5, k6⟩ := kE
  generalize ds.map PyData.int = Lx at g0 g1 g0' g1' hi' e3 ⊢
  by_cases a0 : d0 % 6 = 0
  · exact ⟨.none, by simp [Q.m__law_worth_v1, Q.b__law_worth_v1, g0', g0, a0], .inl rfl⟩
  have hκ : κ = 0 ∨ κ = 1 ∨ κ = 2 := by omega
  rcases hκ with rfl | rfl | rfl
  · by_cases a4 : d0 % 6 < 4
    · exact ⟨.int (d1 % 5 - 2), by simp [Q.m__law_worth_v1, Q.b__law_worth_v1, g0, g0', g1, g1', a0, a4, kd, k4], .inr (.inl ⟨rfl, _, rfl⟩)⟩
    · exact ⟨.int i, by simp [Q.m__law_worth_v1, Q.b__law_worth_v1, g0, g0', g1, g1', a0, a4, kd, k4, hi'], .inr (.inl ⟨rfl, i, rfl⟩)⟩
  · by_cases a4 : d0 % 6 < 4
    · obtain ⟨t, ht, hm⟩ := mem_of_at (xs := [PyData.str "", .str "a", .str "ab", .str "b", .str "A", .str " ", .str "a "]) (i := d1 % 7) (by omega) (by simp; omega)
      obtain ⟨u, u1, u2, u3⟩ := worths t hm
      exact ⟨t, by simp [Q.m__law_worth_v1, Q.b__law_worth_v1, g0, g0', g1, g1', a0, a4, kd, k1, k3, ht], .inr (.inr (.inl ⟨rfl, u, u1, by omega, u3⟩))⟩
    · exact ⟨.str ⟨l.toArray⟩, by simp [Q.m__law_worth_v1, Q.b__law_worth_v1, g0, g0', g1, g1', a0, a4, kd, k1, k3, e3], .inr (.inr (.inl ⟨rfl, l, rfl, by omega, e2⟩))⟩
  · exact ⟨.bool (decide (d1 % 2 = 1)), by simp [Q.m__law_worth_v1, Q.b__law_worth_v1, g0, g0', g1, g1', a0, kd], .inr (.inr (.inr ⟨rfl, _, rfl⟩))⟩
theorem bits_add {a b : Int} {k : Nat} (hk : 101 ≤ k) (ha : Builtin.Int.intBits a ≤ k) (hb : b.natAbs < 2 ^ 100) : Builtin.Int.intBits (a + b) ≤ k + 2 := by
  have h1 : a.natAbs < 2 ^ k := by
    by_cases h0 : a.natAbs = 0
    · rw [h0]
      exact Nat.two_pow_pos k
    · have h2 : a.natAbs.log2 + 1 ≤ k := by
        unfold Builtin.Int.intBits at ha
        have hc : ¬ a = 0 := by omega
        rw [if_neg (by simpa using hc)] at ha
        exact ha
      exact (Nat.log2_lt h0).mp (by omega)
  have h2 : (2 : Nat) ^ 100 ≤ 2 ^ k := Nat.pow_le_pow_right (by decide) (by omega)
  have h3 : (a + b).natAbs < 2 ^ (k + 1) := by
    rw [Nat.pow_succ]
    have := Int.natAbs_add_le a b
    generalize (2 : Nat) ^ 100 = P at hb h2
    generalize (2 : Nat) ^ k = R at h1 h2 ⊢
    omega
  exact bits_small h3
end QM


namespace QM
open PySem PySem.Spec L2 Dm
def lowOf : List D → D
  | [] => .none
  | d :: ds => minFD d ds
def highOf : List D → D
  | [] => .none
  | d :: ds => maxFD d ds
theorem bound {κ : Nat} {vs : List D} (h : ∀ d ∈ vs, NV κ d) (hl : vs.length ≤ 1000) : Q.m_bound [.list vs] = some (.tuple [lowOf (there vs), highOf (there vs), .int ((vs.length : Int) - ((there vs).length : Int))]) := by
  have h1 := lc_there (i := 2) (ρ := ([some (.dat (.list vs)), none, none, none] : Ev)) (by simp) vs
  have hp := there_PV h
  have hk : okN vs.length = true := okN_of (by omega)
  generalize there vs = T at *
  cases T with
  | nil => simp [Q.m_bound, Q.b_bound, hk, h1, lowOf, highOf]
  | cons t ts =>
    have m1 := fMin_ok hp
    have m2 := fMax_ok hp
    simp [Q.m_bound, Q.b_bound, hk, h1, m1, m2, lowOf, highOf]
theorem lc_const {i : Nat} {ρ : Ev} (z : D) : ∀ ds : List D, lcL i tYs (eC z) ρ ds = some (ds.map fun _ => z)
  | [] => rfl
  | d :: ds => by
    have ih := lc_const (i := i) (ρ := ρ) z ds
    unfold lcL
    rw [ih]
    rfl
theorem size14 {d : Int} (h : 0 ≤ d) : ∃ n : Nat, Q.m__law_size [.int d] = some (.int (n : Int)) ∧ n ≤ 256 := by
  by_cases w0 : d % 12 = 0
  · obtain ⟨t, ht, hm⟩ := mem_of_at (xs := [PyData.int 255, .int 256, .int 127, .int 128, .int 129, .int 64]) (i := d / 12 % 6) (by omega) (by simp; omega)
    have : ∃ n : Nat, t = .int (n : Int) ∧ n ≤ 256 := by
      simp only [List.mem_cons, List.not_mem_nil, or_false] at hm
      rcases hm with h | h | h | h | h | h
      · exact ⟨255, h, by omega⟩
      · exact ⟨256, h, by omega⟩
      · exact ⟨127, h, by omega⟩
      · exact ⟨128, h, by omega⟩
      · exact ⟨129, h, by omega⟩
      · exact ⟨64, h, by omega⟩
    obtain ⟨n, rfl, hn⟩ := this
    exact ⟨n, by simp [Q.m__law_size, Q.b__law_size, w0, ht], hn⟩
  by_cases w4 : d % 12 < 4
  · refine ⟨(d / 12 % 33).toNat, ?_, by omega⟩
    rw [show (((d / 12 % 33).toNat : Nat) : Int) = d / 12 % 33 by omega]
    simp [Q.m__law_size, Q.b__law_size, w0, w4]
  · refine ⟨(d / 12 % 10).toNat, ?_, by omega⟩
    rw [show (((d / 12 % 10).toNat : Nat) : Int) = d / 12 % 10 by omega]
    simp [Q.m__law_size, Q.b__law_size, w0, w4]
theorem ab_tx : ("ab" : Str) = ⟨[97, 98].toArray⟩ := by decide +kernel
theorem ab_in : ∀ c ∈ [97, 98], c ∈ SGL := by
  unfold SGL
  decide +kernel
theorem column_step {κ : Nat} (hκ : κ < 3) {s Sh : D} {d0 : Int} (h0 : ixD Sh (.int 0) = some (.int d0)) (hd0 : d0 % 3 = (κ : Int)) {n k : Nat} (hk : k < n) (hn : n ≤ 256) {cv : Int} (hc : Builtin.Int.intBits cv ≤ 1048576)
    (hcell : Q.m__law_cell [s, .int (1 + (k : Int) % 60)] = some (.int cv)) {vs : List D} (hv : ∀ v ∈ vs, CV κ v) (hl : vs.length = k) {x6 x7 : Option L} :
    ∃ (v : D) (y6 : Option L), CV κ v ∧ Q.l__law_column_0 [some (.dat s), some (.dat Sh), some (.dat (kd κ)), some (.dat (.int (n : Int))), some (.own vs), some (.dat (.int (k : Int))), x6, x7] = some (.nx [some (.dat s), some (.dat Sh), some (.dat (kd κ)), some (.dat (.int (n : Int))), some (.own (vs ++ [v])), some (.dat (.int (k : Int))), y6, x7]) := by
  have hm : opMul (.int ((k : Int) / 60)) (.int 17) = some (.int ((k : Int) / 60 * 17)) := opMul_ok (by
    have := small_bits (i := 17) (by decide)
    have := small_bits (i := (k : Int) / 60) (by
      have : (2 : Nat) ^ 100 = 1267650600228229401496703205376 := by decide
      omega)
    omega)
  have hb : Builtin.Int.intBits (cv + (k : Int) / 60 * 17) ≤ 2000000 := by
    have := bits_add (k := 1048576) (by omega) hc (b := (k : Int) / 60 * 17) (by
      have : (2 : Nat) ^ 100 = 1267650600228229401496703205376 := by decide
      omega)
    omega
  obtain ⟨ds, g1, g2, g3⟩ := draws (c := cv + (k : Int) / 60 * 17) (n := 14) hb (by omega)
  have g1' : Q.m__law_draws [.int (cv + (k : Int) / 60 * 17), .int 14] = some (.list (ds.map PyData.int)) := g1
  have p1 := at_int (ds := ds) (j := 1) (by omega)
  have p13 := at_int (ds := ds) (j := 13) (by omega)
  have q1 := (g3 _ (List.getElem_mem (show 1 < ds.length by omega))).1
  obtain ⟨w, hw1, hw2⟩ := worth14 hκ g3 (by omega) (by omega)
  generalize ds[1] = d1 at p1 q1
  generalize ds[13] = d13 at p13
  generalize ds.map PyData.int = Lx at *
  have hok : okN vs.length = true := okN_of (by omega)
  by_cases a0 : d13 % 3 = 0 ∧ 0 < k
  · obtain ⟨a1, a2⟩ := a0
    have a2' : (0 : Int) < (k : Int) := by omega
    have hx : atI vs ((k : Int) - 1) = some (vs[k - 1]'(by omega)) := by
      rw [show (k : Int) - 1 = ((k - 1 : Nat) : Int) by omega, Dm.atI_nat, List.getElem?_eq_getElem (by omega)]
    refine ⟨vs[k - 1]'(by omega), some (.dat (.list Lx)), hv _ (List.getElem_mem _), ?_⟩
    generalize vs[k - 1]'(by omega) = v at *
    simp [-opMul_small, Q.l__law_column_0, hcell, hm, g1', p13, a1, a2, hx, hok]
  · have first : ∀ a b : Ev → Option Out, (sIf (tAnd (tB (e2 cEq (e2 opMod (eB fInt (aC (e2 ixD (eV 6) (eC (.int 13))) aN)) (eC (.int 3))) (eC (.int 0)))) (tB (e2 cGt (eV 5) (eC (.int 0))))) a b) [some (.dat s), some (.dat Sh), some (.dat (kd κ)), some (.dat (.int (n : Int))), some (.own vs), some (.dat (.int (k : Int))), some (.dat (.list Lx)), x7] = b [some (.dat s), some (.dat Sh), some (.dat (kd κ)), some (.dat (.int (n : Int))), some (.own vs), some (.dat (.int (k : Int))), some (.dat (.list Lx)), x7] := fun a b => by
      by_cases a1 : d13 % 3 = 0
      · have a2 : ¬ 0 < k := fun z => a0 ⟨a1, z⟩
        simp [p13, a1, a2]
      · simp [p13, a1]
    have start : ∀ b : Ev → Option Out, (sSeq (sSet 6 (eCall 2 Q.m__law_draws (aC (e2 opAdd (eCall 2 Q.m__law_cell (aC (eV 0) (aC (e2 opAdd (eC (.int 1)) (e2 opMod (eV 5) (eC (.int 60)))) aN))) (e2 opMul (e2 opDiv (eV 5) (eC (.int 60))) (eC (.int 17)))) (aC (eC (.int 14)) aN)))) b) [some (.dat s), some (.dat Sh), some (.dat (kd κ)), some (.dat (.int (n : Int))), some (.own vs), some (.dat (.int (k : Int))), x6, x7] = b [some (.dat s), some (.dat Sh), some (.dat (kd κ)), some (.dat (.int (n : Int))), some (.own vs), some (.dat (.int (k : Int))), some (.dat (.list Lx)), x7] := fun b => by
      simp [-opMul_small, hcell, hm, g1']
    by_cases b0 : 40 < n ∧ d13 % 3 = 1
    · obtain ⟨b1, b2⟩ := b0
      have b1' : (40 : Int) < (n : Int) := by omega
      have hsl := slice_tx (l := [97, 98]) (lo := none) (hi := some (d1 % 3)) (by simp)
      rw [← ab_tx] at hsl
      have hκ3 : κ = 0 ∨ κ = 1 ∨ κ = 2 := by omega
      rcases hκ3 with rfl | rfl | rfl
      · refine ⟨.int (d1 % 4), some (.dat (.list Lx)), .inr (.inl ⟨rfl, _, rfl⟩), ?_⟩
        have hd0' : d0 % 3 = 0 := hd0
        unfold Q.l__law_column_0
        rw [start, first]
        simp [p13, p1, b1', b2, h0, hd0', hsl, hok]
      · refine ⟨.str ⟨(cutL [97, 98] none (some (d1 % 3))).toArray⟩, some (.dat (.list Lx)), .inr (.inr (.inl ⟨rfl, _, rfl, by have := cutL_len (ds := [97, 98]) (lo := none) (hi := some (d1 % 3)); simp at this; omega, fun c hc => ab_in c (cutL_mem hc)⟩)), ?_⟩
        have hd0' : d0 % 3 = 1 := hd0
        generalize (cutL [97, 98] none (some (d1 % 3))).toArray = qa at *
        unfold Q.l__law_column_0
        rw [start, first]
        simp [p13, p1, b1', b2, h0, hd0', hsl, hok]
      · refine ⟨.bool (decide (d1 % 2 = 0)), some (.dat (.list Lx)), .inr (.inr (.inr ⟨rfl, _, rfl⟩)), ?_⟩
        have hd0' : d0 % 3 = 2 := hd0
        unfold Q.l__law_column_0
        rw [start, first]
        simp [p13, p1, b1', b2, h0, hd0', hsl, hok]
    · refine ⟨w, some (.dat (.list Lx)), hw2, ?_⟩
      unfold Q.l__law_column_0
      rw [start, first]
      by_cases b1 : 40 < n
      · have b2 : ¬ d13 % 3 = 1 := fun z => b0 ⟨b1, z⟩
        have b1' : (40 : Int) < (n : Int) := by omega
        simp [p13, b1', b2, hw1, hok]
      · have b1' : ¬ (40 : Int) < (n : Int) := by omega
        simp [b1', hw1, hok]
theorem column {κ : Nat} (hκ : κ < 3) {s : D} {Sh : D} {d0 d1 d2 : Int} (h0 : ixD Sh (.int 0) = some (.int d0)) (h1 : ixD Sh (.int 1) = some (.int d1)) (h2 : ixD Sh (.int 2) = some (.int d2)) (q1 : 0 ≤ d1) (hd0 : d0 % 3 = (κ : Int))
    (hkd : atI [PyData.str "int", .str "text", .str "bool"] (d0 % 3) = some (kd κ)) (hcell : ∀ k : Nat, ∃ cv : Int, Builtin.Int.intBits cv ≤ 1048576 ∧ Q.m__law_cell [s, .int (k : Int)] = some (.int cv)) : ∃ vs : List D, Q.m__law_column [s, Sh] = some (.list vs) ∧ vs.length ≤ 256 ∧ ∀ v ∈ vs, CV κ v := by
  obtain ⟨n, hn1, hn2⟩ := size14 q1
  obtain ⟨ρ', e1, x5, x6, x7, vs, e2, hv, hl⟩ := forR_inv (g := gN 5) (b := Q.l__law_column_0) (n := n) (ρ := [some (.dat s), some (.dat Sh), some (.dat (kd κ)), some (.dat (.int (n : Int))), some (.own []), none, none, none])
    (fun k ρ => ∃ (x5 x6 x7 : Option L) (vs : List D), ρ = [some (.dat s), some (.dat Sh), some (.dat (kd κ)), some (.dat (.int (n : Int))), some (.own vs), x5, x6, x7] ∧ (∀ v ∈ vs, CV κ v) ∧ vs.length = k)
    (fun k ρ hk ⟨x5, x6, x7, vs, e, hv, hl⟩ => by
      subst e
      obtain ⟨cv, c1, c2⟩ := hcell (1 + k % 60)
      rw [show ((1 + k % 60 : Nat) : Int) = 1 + (k : Int) % 60 by omega] at c2
      obtain ⟨v, y6, hv2, t⟩ := column_step hκ h0 hd0 hk hn2 c1 c2 hv hl (x6 := x6) (x7 := x7)
      refine ⟨_, _, rfl, t, _, _, _, _, rfl, fun u hu => ?_, by simp [hl]⟩
      rcases List.mem_append.mp hu with q | q
      · exact hv u q
      · rw [List.mem_singleton.mp q]
        exact hv2)
    ⟨none, none, none, [], rfl, (fun _ h => by cases h), rfl⟩
  subst e2
  have hr : rng1 (n : Int) = some (rangeD 0 n) := rng1_ok (by omega) (by omega)
  have hok : okN vs.length = true := okN_of (by omega)
  by_cases a0 : d2 % 12 = 0
  · refine ⟨vs.map fun _ => .none, ?_, by simp; omega, fun v hv2 => ?_⟩
    · have hc := lc_const (i := 7) (ρ := ([some (.dat s), some (.dat Sh), some (.dat (kd κ)), some (.dat (.int (n : Int))), some (.dat (.list vs)), x5, x6, x7] : Ev)) .none vs
      generalize vs.map (fun _ => PyData.none) = us at *
      simp [Q.m__law_column, Q.b__law_column, h0, hkd, h1, hn1, hr, e1, h2, a0, hok, hc]
    · obtain ⟨x, _, rfl⟩ := List.mem_map.mp hv2
      exact .inl rfl
  by_cases a1 : d2 % 12 = 1
  · refine ⟨there vs, ?_, by have := there_len vs; omega, fun v hv2 => hv v (List.mem_filter.mp hv2).1⟩
    have hc := lc_there (i := 7) (ρ := ([some (.dat s), some (.dat Sh), some (.dat (kd κ)), some (.dat (.int (n : Int))), some (.dat (.list vs)), x5, x6, x7] : Ev)) (by simp) vs
    generalize there vs = us at *
    simp [Q.m__law_column, Q.b__law_column, h0, hkd, h1, hn1, hr, e1, h2, a1, hok, hc]
  · exact ⟨vs, by simp [Q.m__law_column, Q.b__law_column, h0, hkd, h1, hn1, hr, e1, h2, a0, a1], by omega, hv⟩

theorem cEq_nil7 {κ : Nat} {ds : List D} (h : ∀ d ∈ ds, NV κ d) : cEq (.list ds) (.list []) = some (.bool ds.isEmpty) := by
  cases ds with
  | nil => exact cEq_nil_nil
  | cons d ds =>
    have h1 := NV_shaped h
    simp [cEq, eqD, scalD, h1, shaped_nil, PyData.eqv, PyData.eqvAll]
theorem ne_self {d : D} (h : SeqAt.shaped d = true) : cNe d d = some (.bool false) := by
  have h1 := cEq_self h
  unfold cEq at h1
  obtain ⟨b, h2, h3⟩ := bind_some h1
  cases h3
  unfold cNe
  rw [h2]
  rfl
end QM


namespace QM
open PySem PySem.Spec L2 Dm
/-- ints as data -/
abbrev IL (l : List Int) : List D := l.map PyData.int
def sevF : Nat → Nat → List Int
  | 0, n => [(n : Int)]
  | f + 1, n => if n < 128 then [(n : Int)] else ((n % 128 + 128 : Nat) : Int) :: sevF f (n / 128)
/-- a number in sevens -/
def sev (n : Nat) : List Int := sevF 9 n
theorem sevF_len : ∀ (f n : Nat), 1 ≤ (sevF f n).length ∧ (sevF f n).length ≤ f + 1
  | 0, n => ⟨Nat.le_refl _, Nat.le_refl _⟩
  | f + 1, n => by
    unfold sevF
    split
    · simp
    · have := sevF_len f (n / 128)
      simp
      omega
theorem sev_len (n : Nat) : 1 ≤ (sev n).length ∧ (sev n).length ≤ 10 := sevF_len 9 n
theorem sevF_ne (f n : Nat) : sevF f n ≠ [] := by
  have := (sevF_len f n).1
  intro e
  rw [e] at this
  cases this
theorem dropLast_cons {α : Type} {a : α} {l : List α} (h : l ≠ []) : (a :: l).dropLast = a :: l.dropLast := by
  cases l with
  | nil => exact absurd rfl h
  | cons b l => rfl
theorem last_cons {α : Type} {a : α} {l : List α} (h : l ≠ []) : (a :: l).getLast? = l.getLast? := by
  cases l with
  | nil => exact absurd rfl h
  | cons b l => simp [List.getLast?_cons_cons]
theorem long_loop : ∀ (f n : Nat) (acc : List Int) (k : Nat), n < 128 ^ (f + 1) → f < k → acc.length + f ≤ 1000 →
    ∃ m : Nat, whileL (tB (e2 cGe (eV 0) (eC (.int 128)))) Q.l_long_number_0 k [some (.dat (.int (n : Int))), some (.own (IL acc))] = some (.nx [some (.dat (.int (m : Int))), some (.own (IL (acc ++ (sevF f n).dropLast)))]) ∧ (sevF f n).getLast? = some (m : Int)
  | 0, n, acc, k + 1, h, hk, ha => by
    have h1 : ¬ (128 : Int) ≤ (n : Int) := by omega
    refine ⟨n, ?_, rfl⟩
    simp [whileL, h1, sevF]
  | f + 1, n, acc, k + 1, h, hk, ha => by
    by_cases hn : n < 128
    · have h1 : ¬ (128 : Int) ≤ (n : Int) := by omega
      refine ⟨n, ?_, ?_⟩
      · simp [whileL, h1, sevF, hn]
      · simp [sevF, hn]
    · have h1 : (128 : Int) ≤ (n : Int) := by omega
      have hd : n / 128 < 128 ^ (f + 1) := by
        rw [Nat.div_lt_iff_lt_mul (by decide)]
        rw [Nat.pow_succ] at h
        exact h
      obtain ⟨m, e1, e2⟩ := long_loop f (n / 128) (acc ++ [((n % 128 + 128 : Nat) : Int)]) k hd (by omega) (by simp; omega)
      refine ⟨m, ?_, ?_⟩
      · have ho : okN acc.length = true := okN_of (by omega)
        have e3 : ((n / 128 : Nat) : Int) = (n : Int) / 128 := by omega
        have e4 : ((n % 128 + 128 : Nat) : Int) = (n : Int) % 128 + 128 := by omega
        rw [e3, e4] at e1
        unfold whileL
        simp [h1, Q.l_long_number_0, ho, IL] at e1 ⊢
        rw [e1]
        have e5 : (List.map PyData.int (sevF f (n / 128))) ≠ [] := by simpa using sevF_ne f (n / 128)
        simp [sevF, hn, dropLast_cons e5]
      · unfold sevF
        rw [if_neg hn, last_cons (sevF_ne _ _)]
        exact e2
theorem last_back {α : Type} {l : List α} {m : α} (h : l.getLast? = some m) : l.dropLast ++ [m] = l := by
  have hne : l ≠ [] := by rintro rfl; cases h
  rw [List.getLast?_eq_some_getLast hne] at h
  cases h
  exact List.dropLast_concat_getLast hne
theorem long {n : Nat} (h : n < 2 ^ 63) : Q.m_long_number [.int (n : Int)] = some (IL (sev n)) := by
  obtain ⟨m, e1, e2⟩ := long_loop 9 n [] 12 (by
    have : (2 : Nat) ^ 63 ≤ 128 ^ (9 + 1) := by decide
    omega) (by omega) (by simp)
  have e3 := last_back e2
  have hl := (sev_len n).2
  have hl2 : ((sev n).dropLast).length ≤ 10 := by simp; omega
  have ho : okN ((sevF 9 n).dropLast).length = true := okN_of (by unfold sev at hl2; omega)
  simp [IL] at e1
  simp at ho
  simp [Q.m_long_number, Q.b_long_number, sWhile, e1, IL, ho]
  unfold sev
  conv => rhs; rw [← e3]
  simp
theorem sevens_loop {g0 : List GO} {ws : List W} : ∀ (f n : Nat) (acc : List Int) (i nn : Nat) (x2 : Option W), n < 128 ^ (f + 1) → f + i < ws.length → ws.length < nn + i → acc.length + f ≤ 1000 →
    forG (hgN 2) Q.l__law_sevens_0 (srcOf ws) nn i ⟨[some (.d (.int (n : Int))), some (.rf g0.length), x2], g0 ++ [(.lst, (IL acc).map .d)]⟩ = some (.rt (.rf (g0.length + 1)) (g0 ++ [(.lst, (IL (acc ++ (sevF f n).dropLast)).map .d), (.lst, (IL (acc ++ sevF f n)).map .d)]))
  | 0, n, acc, i, nn, x2, h, hi, hn, ha => by
    obtain ⟨nn, rfl⟩ : ∃ m, nn = m + 1 := ⟨nn - 1, by omega⟩
    have h1 : (n : Int) < 128 := by omega
    have hw : i < ws.length := by omega
    refine gfor_ret (w := ws[i]) (by simp [srcOf]) rfl ?_
    have ho : okN (acc.length + 1) = true := okN_of (by omega)
    simp [Q.l__law_sevens_0, hB, h1, addLW, isLw, itemsW, ho, sevF]
  | f + 1, n, acc, i, nn, x2, h, hi, hn, ha => by
    obtain ⟨nn, rfl⟩ : ∃ m, nn = m + 1 := ⟨nn - 1, by omega⟩
    have hw : i < ws.length := by omega
    by_cases hq : n < 128
    · have h1 : (n : Int) < 128 := by omega
      refine gfor_ret (w := ws[i]) (by simp [srcOf]) rfl ?_
      have ho : okN (acc.length + 1) = true := okN_of (by omega)
      simp [Q.l__law_sevens_0, hB, h1, addLW, isLw, itemsW, ho, sevF, hq]
    · have h1 : ¬ (n : Int) < 128 := by omega
      have hd : n / 128 < 128 ^ (f + 1) := by
        rw [Nat.div_lt_iff_lt_mul (by decide)]
        rw [Nat.pow_succ] at h
        exact h
      have ih := sevens_loop (g0 := g0) (ws := ws) f (n / 128) (acc ++ [((n % 128 + 128 : Nat) : Int)]) (i + 1) nn (some ws[i]) hd (by omega) (by omega) (by simp; omega)
      have e : sevF (f + 1) n = ((n % 128 + 128 : Nat) : Int) :: sevF f (n / 128) := by
        conv => lhs; unfold sevF
        rw [if_neg hq]
      rw [e, dropLast_cons (sevF_ne _ _)]
      simp only [List.append_assoc, List.cons_append, List.nil_append] at ih
      rw [← ih]
      have ho : okN acc.length = true := okN_of (by omega)
      have e3 : ((n / 128 : Nat) : Int) = (n : Int) / 128 := by omega
      have e4 : ((n % 128 + 128 : Nat) : Int) = (n : Int) % 128 + 128 := by omega
      refine gfor_step (w := ws[i]) (by simp [srcOf]) rfl ?_
      rw [e3, e4]
      simp [Q.l__law_sevens_0, hB, h1, isLw, appW, ho]
theorem sevensG {n : Nat} (h : n < 2 ^ 63) (g : List GO) : ∃ ws, Q.m__law_sevens [.d (.int (n : Int))] g = some (.ok (.rf (g.length + 1)) (g ++ [(.lst, ws), (.lst, (IL (sev n)).map .d)])) := by
  have e1 := sevens_loop (g0 := g) (ws := (rangeD 0 10).map .d) 9 n [] 0 100000 none (by
    have : (2 : Nat) ^ 63 ≤ 128 ^ (9 + 1) := by decide
    omega) (by decide) (by decide) (by simp)
  have hr : rng1 10 = some (rangeD 0 10) := rng1_ok (n := 10) (by omega) (by omega)
  refine ⟨(IL (sevF 9 n).dropLast).map .d, ?_⟩
  simp only [List.nil_append, List.map_nil, IL] at e1
  generalize rangeD 0 10 = R at *
  simp [Q.m__law_sevens, Q.b__law_sevens, hB, initG, hr, e1, sev, -List.map_map]
theorem pures_d (ds : List D) : pures (ds.map W.d) = some ds := by
  induction ds with
  | nil => rfl
  | cons d ds ih => simp [pures, ih]
theorem sevens {n : Nat} (h : n < 2 ^ 63) : dGD Q.m__law_sevens [.int (n : Int)] = some (.list (IL (sev n))) := by
  obtain ⟨ws, e⟩ := sevensG h []
  simp only [List.nil_append, List.length_nil, Nat.zero_add] at e
  simp [dGD, e, iceW, pures_d, -List.map_map]
end QM


namespace QM
open PySem PySem.Spec L2 Dm
def sgn (i : Int) : List Int := sev (if 0 ≤ i then (2 * i).toNat else (-2 * i - 1).toNat)
theorem sgn_len (i : Int) : 1 ≤ (sgn i).length ∧ (sgn i).length ≤ 10 := sev_len _
theorem signed {i : Int} (h : i.natAbs < 2 ^ 62) : Q.m_signed_number [.int i] = some (IL (sgn i)) := by
  have h62 : (2 : Nat) ^ 62 = 4611686018427387904 := by decide
  have h63 : (2 : Nat) ^ 63 = 9223372036854775808 := by decide
  by_cases h0 : 0 ≤ i
  · have e := long (n := (2 * i).toNat) (by omega)
    rw [show (((2 * i).toNat : Nat) : Int) = 2 * i by omega] at e
    have m : opMul (.int 2) (.int i) = some (.int (2 * i)) := opMul_ok (by
      have := small_bits (i := 2) (by decide)
      have := small_bits (i := i) (by
        have : (2 : Nat) ^ 62 ≤ 2 ^ 100 := by decide
        omega)
      omega)
    simp [-opMul_small, Q.m_signed_number, Q.b_signed_number, h0, m, e, sgn]
  · have e := long (n := (-2 * i - 1).toNat) (by omega)
    rw [show (((-2 * i - 1).toNat : Nat) : Int) = -2 * i - 1 by omega] at e
    have m : opMul (.int (-2)) (.int i) = some (.int (-2 * i)) := opMul_ok (by
      have := small_bits (i := -2) (by decide)
      have := small_bits (i := i) (by
        have : (2 : Nat) ^ 62 ≤ 2 ^ 100 := by decide
        omega)
      omega)
    simp at m e
    simp [-opMul_small, Q.m_signed_number, Q.b_signed_number, h0, m, e, sgn]
theorem law_signed {i : Int} (h : i.natAbs < 2 ^ 62) : Q.m__law_signed [.int i] = some (.list (IL (sgn i))) := by
  have h62 : (2 : Nat) ^ 62 = 4611686018427387904 := by decide
  have h63 : (2 : Nat) ^ 63 = 9223372036854775808 := by decide
  by_cases h0 : 0 ≤ i
  · have e := sevens (n := (2 * i).toNat) (by omega)
    rw [show (((2 * i).toNat : Nat) : Int) = 2 * i by omega] at e
    have m : opMul (.int 2) (.int i) = some (.int (2 * i)) := opMul_ok (by
      have := small_bits (i := 2) (by decide)
      have := small_bits (i := i) (by
        have : (2 : Nat) ^ 62 ≤ 2 ^ 100 := by decide
        omega)
      omega)
    simp [-opMul_small, Q.m__law_signed, Q.b__law_signed, h0, m, e, sgn]
  · have e := sevens (n := (-2 * i - 1).toNat) (by omega)
    rw [show (((-2 * i - 1).toNat : Nat) : Int) = -2 * i - 1 by omega] at e
    have m : opMul (.int (-2)) (.int i) = some (.int (-2 * i)) := opMul_ok (by
      have := small_bits (i := -2) (by decide)
      have := small_bits (i := i) (by
        have : (2 : Nat) ^ 62 ≤ 2 ^ 100 := by decide
        omega)
      omega)
    simp at m e
    simp [-opMul_small, Q.m__law_signed, Q.b__law_signed, h0, m, e, sgn]
/-- the values of a kind that a column may hold -/
def BV (κ : Nat) (d : D) : Prop := (κ = 0 ∧ ∃ i : Int, d = .int i ∧ i.natAbs < 2 ^ 61) ∨ (κ = 1 ∧ ∃ l : List Nat, d = .str ⟨l.toArray⟩ ∧ l.length ≤ 300 ∧ ∀ c ∈ l, c ∈ SGL) ∨ (κ = 2 ∧ ∃ p, d = .bool p)
theorem BV_PV {κ : Nat} {d : D} (h : BV κ d) : PV κ d := by
  rcases h with ⟨k, i, h, _⟩ | h | h
  · exact .inl ⟨k, i, h⟩
  · exact .inr (.inl h)
  · exact .inr (.inr h)
/-- a value's numbers -/
def one : D → List Int
  | .int i => sgn i
  | .bool p => [if p = true then 1 else 0]
  | .str s => sev s.cps.toList.length ++ s.cps.toList.map fun (c : Nat) => (c : Int)
  | _ => []
theorem one_len {κ : Nat} {d : D} (h : BV κ d) : 1 ≤ (one d).length ∧ (one d).length ≤ 310 := by
  rcases h with ⟨_, i, h, _⟩ | ⟨_, l, h, h2, _⟩ | ⟨_, p, h⟩ <;> subst h
  · have := sgn_len i
    exact ⟨this.1, by simp [one]; omega⟩
  · have := sev_len l.length
    simp [one]
    omega
  · exact ⟨Nat.le_refl _, by simp [one]⟩
theorem lc_ord {i : Nat} {ρ : Ev} (hi : i < ρ.length) : ∀ l : List Nat, lcL i tYs (eB fOrd (aC (eV i) aN)) ρ (l.map fun c => PyData.str ⟨#[c]⟩) = some (IL (l.map fun (c : Nat) => (c : Int)))
  | [] => rfl
  | c :: l => by
    have ih := lc_ord (ρ := ρ) hi l
    have e1 : eV i ((ρ.set i none).set i (some (.dat (PyData.str ⟨#[c]⟩)))) = some (.str ⟨#[c]⟩) := by
      rw [eV_ap, List.getElem?_set_self (by simpa using hi)]
    have e2 : fOrd [.str ⟨#[c]⟩] = some (.int (c : Int)) := rfl
    simp only [List.map_cons, lcL, tYs, Option.bind_some, if_true, eB_ap, aC_ap, aN_ap, e1, e2, ih]
theorem add_il {a b : List Int} (h : a.length + b.length ≤ 100000) : opAdd (.list (IL a)) (.list (IL b)) = some (.list (IL (a ++ b))) := by
  have := okN_of h
  simp [opAdd, IL, this]
theorem numbers {κ : Nat} {d : D} (h : BV κ d) : Q.m_value_numbers [d, kd κ] = some (.list (IL (one d))) := by
  obtain ⟨k1, k2, k3, k4, k5, k6⟩ := kE
  rcases h with ⟨rfl, i, rfl, hi⟩ | ⟨rfl, l, rfl, h2, h3⟩ | ⟨rfl, p, rfl⟩
  · have e := signed (i := i) (by
      have : (2 : Nat) ^ 61 ≤ 2 ^ 62 := by decide
      omega)
    simp [Q.m_value_numbers, Q.b_value_numbers, kd, e, one]
  · have e := long (n := l.length) (by
      have : 300 < (2 : Nat) ^ 63 := by decide
      omega)
    have w := walk_tx (l := l) (by omega)
    have o := lc_ord (i := 2) (ρ := ([some (.dat (.str ⟨l.toArray⟩)), some (.dat (.str "text")), none] : Ev)) (by simp) l
    have ln := len7 (l := l) (by omega)
    have ho : okN l.length = true := okN_of (by omega)
    have ad := add_il (a := sev l.length) (b := l.map fun (c : Nat) => (c : Int)) (by have := sev_len l.length; simp; omega)
    have hone : one (.str ⟨l.toArray⟩) = sev l.length ++ l.map fun (c : Nat) => (c : Int) := rfl
    rw [hone]
    generalize sev l.length = sv at *
    generalize hl2 : l.map (fun c => PyData.str ⟨#[c]⟩) = lw at *
    have hlw : okN lw.length = true := by rw [← hl2]; simpa using ho
    generalize l.map (fun (c : Nat) => (c : Int)) = li at *
    generalize (⟨l.toArray⟩ : Str) = ls at *
    simp [-List.length_map, Q.m_value_numbers, Q.b_value_numbers, kd, k1, k3, ln, e, w, hlw, o, ad, IL] at ad ⊢
  · cases p <;> simp [Q.m_value_numbers, Q.b_value_numbers, kd, k2, one]
def okey (c : Nat) : Bool := decide ((if 5 ≤ Txt.find SG ⟨#[c]⟩ then 32 + Txt.find SG ⟨#[c]⟩ + 1 else 32 + Txt.find SG ⟨#[c]⟩) = (c : Int))
theorem okeys : SGL.all okey = true := by kernel_rfl
theorem okey_of {c : Nat} (h : c ∈ SGL) : (if 5 ≤ Txt.find SG ⟨#[c]⟩ then 32 + Txt.find SG ⟨#[c]⟩ + 1 else 32 + Txt.find SG ⟨#[c]⟩) = (c : Int) := of_decide_eq_true (List.all_eq_true.mp okeys c h)
theorem codes_loop {x0 : Option W} {a : List GO} {n : Nat} (ha : a.length = n) : ∀ (l : List Nat) (acc : List Int) (pre : List W) (nn : Nat) (x3 x4 : Option W), (∀ c ∈ l, c ∈ SGL) → l.length < nn → acc.length + l.length ≤ 1000 →
    ∃ y3 y4, forG (hgN 3) Q.l__law_one_v1_0 (srcOf (pre ++ l.map fun c => W.d (PyData.str ⟨#[c]⟩))) nn pre.length ⟨[x0, some (.rf n), some (.d (.str SG)), x3, x4], a ++ [(.lst, (IL acc).map .d)]⟩ = some (.nx ⟨[x0, some (.rf n), some (.d (.str SG)), y3, y4], a ++ [(.lst, (IL (acc ++ l.map fun (c : Nat) => (c : Int))).map .d)]⟩)
  | [], acc, pre, nn, x3, x4, _, hn, _ => by
    obtain ⟨nn, rfl⟩ : ∃ m, nn = m + 1 := ⟨nn - 1, by simp at hn; omega⟩
    exact ⟨x3, x4, by rw [gfor_stop (by simp [srcOf])]; simp⟩
  | c :: l, acc, pre, nn, x3, x4, hc, hn, hl => by
    obtain ⟨nn, rfl⟩ : ∃ m, nn = m + 1 := ⟨nn - 1, by simp at hn; omega⟩
    simp only [List.length_cons] at hn hl
    obtain ⟨y3, y4, ih⟩ := codes_loop (x0 := x0) ha l (acc ++ [(c : Int)]) (pre ++ [W.d (PyData.str ⟨#[c]⟩)]) nn (some (.d (.str ⟨#[c]⟩))) (some (.d (.int (Txt.find SG ⟨#[c]⟩)))) (fun x hx => hc x (List.mem_cons_of_mem _ hx)) (by omega) (by simp; omega)
    refine ⟨y3, y4, ?_⟩
    simp only [List.map_cons, List.append_assoc, List.cons_append, List.nil_append, List.length_append, List.length_cons, List.length_nil, Nat.zero_add] at ih ⊢
    rw [← ih]
    have hk := okey_of (hc c List.mem_cons_self)
    have ho : okN acc.length = true := okN_of (by omega)
    refine gfor_step (w := W.d (PyData.str ⟨#[c]⟩)) (by simp [srcOf]) rfl ?_
    generalize hz : Txt.find SG ⟨#[c]⟩ = z at *
    subst ha
    by_cases h5 : 5 ≤ z
    · rw [if_pos h5] at hk
      simp [Q.l__law_one_v1_0, hB, isLw, appW, ho, mFind, h5, hk]
      exact ⟨hz, by rw [hz, if_pos h5]; omega⟩
    · rw [if_neg h5] at hk
      simp [Q.l__law_one_v1_0, hB, isLw, appW, ho, mFind, h5, hk]
      exact ⟨hz, by rw [hz, if_neg h5]; omega⟩
theorem law_one {κ : Nat} {d : D} (h : BV κ d) : dGD Q.m__law_one_v1 [d] = some (.list (IL (one d))) := by
  rcases h with ⟨rfl, i, rfl, hi⟩ | ⟨rfl, l, rfl, h2, h3⟩ | ⟨rfl, p, rfl⟩
  · have e := law_signed (i := i) (by
      have : (2 : Nat) ^ 61 ≤ 2 ^ 62 := by decide
      omega)
    simp [dGD, Q.m__law_one_v1, Q.b__law_one_v1, hB, initG, e, one, iceW]
  · obtain ⟨ws, e⟩ := sevensG (n := l.length) (by
      have : 300 < (2 : Nat) ^ 63 := by decide
      omega) []
    simp only [List.nil_append, List.length_nil, Nat.zero_add] at e
    have w := walk_tx (l := l) (by omega)
    have ln := len7 (l := l) (by omega)
    have sg := signs
    obtain ⟨y3, y4, lp⟩ := codes_loop (x0 := some (.d (.str ⟨l.toArray⟩))) (a := [(.lst, ws)]) (n := 1) rfl l (sev l.length) [] 100000 none none h3 (by omega) (by have := sev_len l.length; omega)
    have hone : one (.str ⟨l.toArray⟩) = sev l.length ++ l.map fun (c : Nat) => (c : Int) := rfl
    rw [hone]
    simp only [List.nil_append, List.length_nil] at lp
    generalize sev l.length = sv at *
    rw [show (l.map fun c => W.d (PyData.str ⟨#[c]⟩)) = (l.map fun c => PyData.str ⟨#[c]⟩).map W.d by simp] at lp
    generalize l.map (fun c => PyData.str ⟨#[c]⟩) = lw at *
    generalize l.map (fun (c : Nat) => (c : Int)) = li at *
    generalize (⟨l.toArray⟩ : Str) = ls at *
    simp only [List.cons_append, List.nil_append] at lp
    generalize IL sv = A at *
    generalize IL (sv ++ li) = B at *
    simp [-List.length_map, -List.map_map, dGD, Q.m__law_one_v1, Q.b__law_one_v1, hB, initG, ln, e, w, sg, lp, iceW, pures_d]
  · cases p <;> simp [dGD, Q.m__law_one_v1, Q.b__law_one_v1, hB, initG, one, iceW]
end QM


namespace QM
open PySem PySem.Spec L2 Dm
def allS (ds : List D) : List Int := ds.flatMap one
theorem allS_len {κ : Nat} : ∀ ds : List D, (∀ d ∈ ds, BV κ d) → (allS ds).length ≤ 310 * ds.length
  | [], _ => Nat.zero_le _
  | d :: ds, h => by
    have h1 := (one_len (h d List.mem_cons_self)).2
    have h2 := allS_len ds fun x hx => h x (List.mem_cons_of_mem _ hx)
    simp [allS] at h2 ⊢
    omega
theorem law_all_loop {κ : Nat} {x0 : Option L} : ∀ (ds : List D) (acc : List Int) (x2 : Option L), (∀ d ∈ ds, BV κ d) → acc.length + 310 * ds.length ≤ 100000 →
    ∃ y2, forL (gN 2) Q.l__law_all_0 ds [x0, some (.dat (.list (IL acc))), x2] = some (.nx [x0, some (.dat (.list (IL (acc ++ allS ds)))), y2])
  | [], acc, x2, _, _ => ⟨x2, by simp [allS]⟩
  | d :: ds, acc, x2, h, hl => by
    have h0 := h d List.mem_cons_self
    have h1 := (one_len h0).2
    simp only [List.length_cons] at hl
    obtain ⟨y2, ih⟩ := law_all_loop (x0 := x0) ds (acc ++ one d) (some (.dat d)) (fun x hx => h x (List.mem_cons_of_mem _ hx)) (by simp; omega)
    refine ⟨y2, ?_⟩
    have e : allS (d :: ds) = one d ++ allS ds := by simp [allS]
    rw [e, ← List.append_assoc, ← ih]
    have ad := add_il (a := acc) (b := one d) (by omega)
    have lo := law_one h0
    exact forL_nx (by rfl) (by simp [Q.l__law_all_0, lo, ad])
theorem law_all {κ : Nat} {ds : List D} (h : ∀ d ∈ ds, BV κ d) (hl : ds.length ≤ 257) : Q.m__law_all [.list ds] = some (.list (IL (allS ds))) := by
  obtain ⟨y2, e⟩ := law_all_loop (κ := κ) (x0 := some (.dat (.list ds))) ds [] none h (by simp; omega)
  simp only [List.nil_append, List.map_nil, IL] at e
  simp [Q.m__law_all, Q.b__law_all, e]
theorem plain_loop {κ : Nat} {x0 : Option L} : ∀ (ds : List D) (acc : List Int) (x3 : Option L), (∀ d ∈ ds, BV κ d) → acc.length + 310 * ds.length ≤ 100000 →
    ∃ y3, forL (gN 3) Q.l__write_plain_0 ds [x0, some (.dat (kd κ)), some (.own (IL acc)), x3] = some (.nx [x0, some (.dat (kd κ)), some (.own (IL (acc ++ allS ds))), y3])
  | [], acc, x3, _, _ => ⟨x3, by simp [allS]⟩
  | d :: ds, acc, x3, h, hl => by
    have h0 := h d List.mem_cons_self
    have h1 := (one_len h0).2
    simp only [List.length_cons] at hl
    obtain ⟨y3, ih⟩ := plain_loop (x0 := x0) ds (acc ++ one d) (some (.dat d)) (fun x hx => h x (List.mem_cons_of_mem _ hx)) (by simp; omega)
    refine ⟨y3, ?_⟩
    have e : allS (d :: ds) = one d ++ allS ds := by simp [allS]
    rw [e, ← List.append_assoc, ← ih]
    have ho : okN (acc.length + (one d).length) = true := okN_of (by omega)
    have lo := numbers h0
    exact forL_nx (by rfl) (by simp [Q.l__write_plain_0, lo, ho])
theorem plain {κ : Nat} {ds : List D} (h : ∀ d ∈ ds, BV κ d) (hl : ds.length ≤ 257) : Q.m__write_plain [.list ds, kd κ] = some (.list (IL (allS ds))) := by
  obtain ⟨y2, e⟩ := plain_loop (κ := κ) (x0 := some (.dat (.list ds))) ds [] none h (by simp; omega)
  simp only [List.nil_append, List.map_nil, IL] at e
  simp [Q.m__write_plain, Q.b__write_plain, e]
/-- whether two are the same -/
def sm (x y : D) : Bool := !sltD x y && !sltD y x
theorem sm_eq {κ : Nat} {x y : D} (hx : PV κ x) (hy : PV κ y) : cEq x y = some (.bool (sm x y)) ∧ cNe x y = some (.bool (!sm x y)) ∧ (sm x y = true ↔ x = y) := by
  have o := ord hx hy
  refine ⟨o.eq, o.ne, fun h => ?_, fun h => ?_⟩
  · simp only [sm, Bool.and_eq_true, Bool.not_eq_true'] at h
    exact o.anti h.1 h.2
  · subst h
    have := irr hx
    simp [sm, this]
/-- the runs from here, after a value -/
def spr : Option D → D → Bool
  | some q, d => sm d q
  | none, _ => false
def lr : Option D → List D → List (Nat × D)
  | _, [] => []
  | p, d :: ds => if spr p d = true then lr (some d) ds else (1 + (ds.takeWhile fun e => sm e d).length, d) :: lr (some d) ds
def runsE : List (Nat × D) → List Int := fun rs => rs.flatMap fun r => sev r.1 ++ one r.2
def tupR (r : Nat × D) : D := .tuple [.int (r.1 : Int), r.2]
theorem ixN_last (n : Nat) : ixN (n + 1) (-1) = some n := by
  unfold ixN
  rw [if_neg (by omega), if_pos (by omega)]
  congr 1
  omega
theorem atI_last {α : Type} (l : List α) (x : α) : atI (l ++ [x]) (-1) = some x := by
  unfold atI
  rw [List.length_append, List.length_cons, List.length_nil, Nat.zero_add, ixN_last, Option.bind_some, List.getElem?_append_right (Nat.le_refl _), Nat.sub_self]
  rfl
theorem set_last {α : Type} (l : List α) (x y : α) : (l ++ [x]).set l.length y = l ++ [y] := by
  rw [List.set_append_right _ _ (Nat.le_refl _), Nat.sub_self]
  rfl
theorem runs_step {κ : Nat} {x0 : Option L} {A : List D} {n : Nat} {p d : D} {x2 : Option L} (hp : PV κ p) (h0 : PV κ d) (hl : A.length ≤ 1000) :
    Q.l__runs_of_0 [x0, some (.own (A ++ [tupR (n, p)])), some (.dat d)] = some (.nx [x0, some (.own (if sm p d = true then A ++ [tupR (n + 1, d)] else A ++ [tupR (n, p), tupR (1, d)])), some (.dat d)]) := by
  obtain ⟨q1, q2, q3⟩ := sm_eq hp h0
  have at1 := atI_last A (tupR (n, p))
  have ix1 := ixN_last A.length
  have st1 := set_last A (tupR (n, p))
  have ho : okN (A.length + 1) = true := okN_of (by omega)
  unfold tupR at *
  simp only at *
  by_cases hs : sm p d = true
  · rw [hs] at q1
    simp [Q.l__runs_of_0, at1, q1, ix1, st1, hs]
  · rw [(Bool.not_eq_true _).mp hs] at q1
    simp [Q.l__runs_of_0, at1, q1, ho, hs]
theorem runs_loop {κ : Nat} {x0 : Option L} : ∀ (ds : List D) (acc : List (Nat × D)) (n : Nat) (p : D) (x2 : Option L), PV κ p → (∀ d ∈ ds, PV κ d) → acc.length + ds.length ≤ 1000 → 
    ∃ y2, forL (gN 2) Q.l__runs_of_0 ds [x0, some (.own (acc.map tupR ++ [tupR (n, p)])), x2] = some (.nx [x0, some (.own (acc.map tupR ++ [tupR (n + (ds.takeWhile fun e => sm e p).length, p)] ++ (lr (some p) ds).map tupR)), y2])
  | [], acc, n, p, x2, _, _, _ => ⟨x2, by simp [lr]⟩
  | d :: ds, acc, n, p, x2, hp, h, hl => by
    have h0 := h d List.mem_cons_self
    have hr : ∀ x ∈ ds, PV κ x := fun x hx => h x (List.mem_cons_of_mem _ hx)
    simp only [List.length_cons] at hl
    obtain ⟨q1, q2, q3⟩ := sm_eq hp h0
    obtain ⟨r1, r2, r3⟩ := sm_eq h0 hp
    have st := runs_step (x0 := x0) (A := acc.map tupR) (n := n) (x2 := x2) hp h0 (by simp; omega)
    by_cases hs : sm p d = true
    · have hdp : p = d := q3.mp hs
      subst hdp
      obtain ⟨y2, ih⟩ := runs_loop (x0 := x0) ds acc (n + 1) p (some (.dat p)) hp hr (by omega)
      refine ⟨y2, ?_⟩
      rw [if_pos hs] at st
      rw [forL_nx (by rfl) st, ih]
      simp [lr, spr, hs, Nat.add_assoc, Nat.add_comm 1]
    · have hs2 : ¬ sm d p = true := fun z => hs (by rw [r3.mp z] at *; exact z)
      obtain ⟨y2, ih⟩ := runs_loop (x0 := x0) ds (acc ++ [(n, p)]) 1 d (some (.dat d)) h0 hr (by simp; omega)
      refine ⟨y2, ?_⟩
      rw [if_neg hs] at st
      simp only [List.map_append, List.map_cons, List.map_nil, List.append_assoc, List.cons_append, List.nil_append] at ih st ⊢
      rw [forL_nx (by rfl) st, ih]
      simp [lr, spr, hs2]
theorem runs_of {κ : Nat} {ds : List D} (h : ∀ d ∈ ds, PV κ d) (hl : ds.length ≤ 256) : Q.m__runs_of [.list ds] = some (.list ((lr none ds).map tupR)) := by
  cases ds with
  | nil => simp [Q.m__runs_of, Q.b__runs_of, lr, spr]
  | cons d ds =>
    have h0 := h d List.mem_cons_self
    simp only [List.length_cons] at hl
    obtain ⟨y2, e⟩ := runs_loop (x0 := some (.dat (.list (d :: ds)))) ds [] 1 d (some (.dat d)) h0 (fun x hx => h x (List.mem_cons_of_mem _ hx)) (by simp; omega)
    have f : Q.l__runs_of_0 [some (.dat (.list (d :: ds))), some (.own []), some (.dat d)] = some (.nx [some (.dat (.list (d :: ds))), some (.own [tupR (1, d)]), some (.dat d)]) := by
      simp [Q.l__runs_of_0, tupR]
    simp only [List.map_nil, List.nil_append] at e
    have e2 : forL (gN 2) Q.l__runs_of_0 (d :: ds) [some (.dat (.list (d :: ds))), some (.own []), none] = _ := (forL_nx (by rfl) f).trans e
    simp [Q.m__runs_of, Q.b__runs_of, lr, spr, e2]
theorem lr_mem : ∀ {p : Option D} {ds : List D} {r : Nat × D}, r ∈ lr p ds → r.2 ∈ ds ∧ 1 ≤ r.1 ∧ r.1 ≤ ds.length
  | p, [], r, h => by cases h
  | p, d :: ds, r, h => by
    unfold lr at h
    have tl : r ∈ lr (some d) ds → r.2 ∈ d :: ds ∧ 1 ≤ r.1 ∧ r.1 ≤ (d :: ds).length := fun z => by
      obtain ⟨a, b, c⟩ := lr_mem z
      exact ⟨List.mem_cons_of_mem _ a, b, by simp; omega⟩
    split at h
    · exact tl h
    · rcases List.mem_cons.mp h with rfl | h
      · have : (ds.takeWhile fun e => sm e d).length ≤ ds.length := (List.takeWhile_sublist _).length_le
        exact ⟨List.mem_cons_self, by simp, by simp; omega⟩
      · exact tl h
theorem lr_len : ∀ (p : Option D) (ds : List D), (lr p ds).length ≤ ds.length
  | p, [] => Nat.le_refl _
  | p, d :: ds => by
    have := lr_len (some d) ds
    unfold lr
    split
    · simp; omega
    · simp; omega
theorem runsE_len {κ : Nat} : ∀ rs : List (Nat × D), (∀ r ∈ rs, BV κ r.2) → (runsE rs).length ≤ 320 * rs.length
  | [], _ => Nat.zero_le _
  | r :: rs, h => by
    have h1 := (one_len (h r List.mem_cons_self)).2
    have h3 := (sev_len r.1).2
    have h2 := runsE_len rs fun x hx => h x (List.mem_cons_of_mem _ hx)
    simp [runsE] at h2 ⊢
    omega
theorem wruns_loop {κ : Nat} {x0 x2 : Option L} : ∀ (rs : List (Nat × D)) (acc : List Int) (x4 x5 : Option L), (∀ r ∈ rs, BV κ r.2 ∧ r.1 < 2 ^ 63) → acc.length + 320 * rs.length ≤ 100000 →
    ∃ y4 y5, forL (gT 2 (gsC (gN 4) (gsC (gN 5) gs0))) Q.l__write_runs_0 (rs.map tupR) [x0, some (.dat (kd κ)), x2, some (.own (IL acc)), x4, x5] = some (.nx [x0, some (.dat (kd κ)), x2, some (.own (IL (acc ++ runsE rs))), y4, y5])
  | [], acc, x4, x5, _, _ => ⟨x4, x5, by simp [runsE]⟩
  | (n, d) :: rs, acc, x4, x5, h, hl => by
    obtain ⟨h0, hn⟩ := h _ List.mem_cons_self
    have h1 : (one d).length ≤ 310 := (one_len h0).2
    have h3 := (sev_len n).2
    simp only [List.length_cons] at hl
    obtain ⟨y4, y5, ih⟩ := wruns_loop (x0 := x0) (x2 := x2) rs (acc ++ (sev n ++ one d)) (some (.dat (.int (n : Int)))) (some (.dat d)) (fun x hx => h x (List.mem_cons_of_mem _ hx)) (by simp; omega)
    refine ⟨y4, y5, ?_⟩
    have e : runsE ((n, d) :: rs) = (sev n ++ one d) ++ runsE rs := by simp [runsE]
    rw [e, ← List.append_assoc, ← ih]
    have lo := numbers h0
    have ln := long hn
    have ho : okN (acc.length + (sev n).length) = true := okN_of (by omega)
    have ho2 : okN (acc.length + (sev n).length + (one d).length) = true := okN_of (by omega)
    rw [List.map_cons]
    refine forL_nx (ρ1 := [x0, some (.dat (kd κ)), x2, some (.own (IL acc)), some (.dat (.int (n : Int))), some (.dat d)]) ?_ ?_
    · rfl
    · simp [Q.l__write_runs_0, ln, lo, ho, ho2]
def runsS (ds : List D) : List Int := sev (lr none ds).length ++ runsE (lr none ds)
theorem write_runs {κ : Nat} {ds : List D} (h : ∀ d ∈ ds, BV κ d) (hl : ds.length ≤ 256) : Q.m__write_runs [.list ds, kd κ] = some (.list (IL (runsS ds))) := by
  have r := runs_of (κ := κ) (fun d hd => BV_PV (h d hd)) hl
  have h63 : 256 < (2 : Nat) ^ 63 := by decide
  have hL := lr_len none ds
  have ln := long (n := (lr none ds).length) (by omega)
  have hs := (sev_len (lr none ds).length).2
  obtain ⟨y4, y5, e⟩ := wruns_loop (κ := κ) (x0 := some (.dat (.list ds))) (x2 := some (.dat (.list ((lr none ds).map tupR)))) (lr none ds) (sev (lr none ds).length) none none (fun r hr => by
    have := lr_mem hr
    exact ⟨h _ this.1, by omega⟩) (by omega)
  have ho : okN ((lr none ds).map tupR).length = true := okN_of (by simp; omega)
  unfold runsS
  generalize hrs : lr none ds = rs at *
  have hlen : (rs.map tupR).length = rs.length := by simp
  have ho2 : okN rs.length = true := okN_of (by omega)
  generalize rs.map tupR = T at *
  generalize sev rs.length = sv at *
  generalize IL (sv ++ runsE rs) = B at *
  simp [Q.m__write_runs, Q.b__write_runs, r, hlen, ln, e, ho, ho2]
end QM


namespace QM
open PySem PySem.Spec L2 Dm
theorem rangeD_cons {i n : Nat} (h : i < n) : rangeD (i : Int) (n : Int) = PyData.int (i : Int) :: rangeD ((i + 1 : Nat) : Int) (n : Int) := by
  unfold rangeD
  rw [show ((n : Int) - (i : Int)).toNat = ((n : Int) - ((i + 1 : Nat) : Int)).toNat + 1 by omega, List.range_succ_eq_map]
  simp
  intro a ha
  omega
theorem rangeD_end {i n : Nat} (h : n ≤ i) : rangeD (i : Int) (n : Int) = [] := by
  unfold rangeD
  rw [show ((n : Int) - (i : Int)).toNat = 0 by omega]
  rfl
theorem at_app {pre es : List D} {e : D} : atI (pre ++ e :: es) ((pre.length : Nat) : Int) = some e := by
  rw [Dm.atI_nat]
  simp
theorem inner_runs {κ : Nat} {ds : List D} {k : Nat} {d : D} {x1 x2 : Option L} (hd : PV κ d) (hk : ds[k]? = some d) : ∀ (es pre : List D) (n : Nat) (x5 : Option L), ds = pre ++ es → (∀ e ∈ es, PV κ e) →
    ∃ y5, forL (gN 5) Q.l__law_runs_0 (rangeD ((pre.length : Nat) : Int) ((ds.length : Nat) : Int)) [some (.dat (.list ds)), x1, x2, some (.dat (.int (k : Int))), some (.dat (.int (n : Int))), x5] = some (.nx [some (.dat (.list ds)), x1, x2, some (.dat (.int (k : Int))), some (.dat (.int ((n + (es.takeWhile fun e => sm e d).length : Nat) : Int))), y5])
  | [], pre, n, x5, e, _ => by
    subst e
    refine ⟨x5, ?_⟩
    rw [rangeD_end (by simp)]
    simp
  | e :: es, pre, n, x5, hds, h => by
    have h0 := h e List.mem_cons_self
    obtain ⟨q1, q2, q3⟩ := sm_eq h0 hd
    have hlt : pre.length < ds.length := by rw [hds]; simp
    have a1 : atI ds ((pre.length : Nat) : Int) = some e := by rw [hds]; exact at_app
    have a2 : atI ds ((k : Nat) : Int) = some d := by rw [Dm.atI_nat, hk]
    rw [rangeD_cons hlt]
    by_cases hs : sm e d = true
    · rw [hs] at q2
      obtain ⟨y5, ih⟩ := inner_runs (x1 := x1) (x2 := x2) hd hk es (pre ++ [e]) (n + 1) (some (.dat (.int (pre.length : Int)))) (by rw [hds]; simp) fun x hx => h x (List.mem_cons_of_mem _ hx)
      refine ⟨y5, ?_⟩
      have e1 : (e :: es).takeWhile (fun e => sm e d) = e :: es.takeWhile fun e => sm e d := by simp [hs]
      rw [e1, List.length_cons, show n + ((es.takeWhile fun e => sm e d).length + 1) = n + 1 + (es.takeWhile fun e => sm e d).length by omega, ← ih]
      rw [List.length_append, List.length_cons, List.length_nil, Nat.zero_add]
      exact forL_nx (by rfl) (by simp [Q.l__law_runs_0, a1, a2, q2])
    · have hs2 := (Bool.not_eq_true _).mp hs
      rw [hs2] at q2
      refine ⟨some (.dat (.int (pre.length : Int))), ?_⟩
      simp [forL_cons, Q.l__law_runs_0, a1, a2, q2, hs2]
theorem last_at {α : Type} {pre : List α} {q : α} (h : pre.getLast? = some q) (es : List α) : 0 < pre.length ∧ (pre ++ es)[pre.length - 1]? = some q := by
  have hne : pre ≠ [] := by rintro rfl; cases h
  have hl : 0 < pre.length := List.length_pos_iff.mpr hne
  refine ⟨hl, ?_⟩
  rw [List.getElem?_append_left (by omega), ← h, List.getLast?_eq_getElem?]
theorem outer_runs {κ : Nat} {ds : List D} (hBV : ∀ e ∈ ds, BV κ e) (hL : ds.length ≤ 256) : ∀ (es pre : List D) (out : List Int) (many : Nat) (x3 x4 x5 : Option L), ds = pre ++ es → out.length + 320 * es.length ≤ 100000 →
    ∃ y3 y4 y5, forL (gN 3) Q.l__law_runs_1 (rangeD ((pre.length : Nat) : Int) ((ds.length : Nat) : Int)) [some (.dat (.list ds)), some (.dat (.list (IL out))), some (.dat (.int (many : Int))), x3, x4, x5] = some (.nx [some (.dat (.list ds)), some (.dat (.list (IL (out ++ runsE (lr pre.getLast? es))))), some (.dat (.int ((many + (lr pre.getLast? es).length : Nat) : Int))), y3, y4, y5])
  | [], pre, out, many, x3, x4, x5, e, _ => by
    subst e
    refine ⟨x3, x4, x5, ?_⟩
    rw [rangeD_end (by simp)]
    simp [lr, runsE]
  | e :: es, pre, out, many, x3, x4, x5, hds, hl => by
    have hmem : ∀ x ∈ e :: es, BV κ x := fun x hx => hBV x (by rw [hds]; exact List.mem_append_right _ hx)
    have h0 := hmem e List.mem_cons_self
    have hlt : pre.length < ds.length := by rw [hds]; simp
    have a1 : atI ds ((pre.length : Nat) : Int) = some e := by rw [hds]; exact at_app
    have hfl : fLen [.list ds] = some (.int (ds.length : Int)) := by
      have := okN_of (show ds.length ≤ 100000 by omega)
      simp [fLen, this]
    have hlast : (pre ++ [e]).getLast? = some e := by simp
    simp only [List.length_cons] at hl
    have h1 := (one_len h0).2
    have h63 : 100000 < (2 : Nat) ^ 63 := by decide
    have esl : es.length < ds.length := by rw [hds]; simp; omega
    have htw : (es.takeWhile fun x => sm x e).length ≤ es.length := (List.takeWhile_sublist _).length_le
    have sl := (sev_len (1 + (es.takeWhile fun x => sm x e).length)).2
    rw [rangeD_cons hlt]
    by_cases hs : spr pre.getLast? e = true
    · obtain ⟨q, hq⟩ : ∃ q, pre.getLast? = some q := by
        cases hp : pre.getLast? with
        | none => rw [hp] at hs; cases hs
        | some q => exact ⟨q, rfl⟩
      obtain ⟨g1, g2⟩ := last_at hq (e :: es)
      rw [← hds] at g2
      have hqB : PV κ q := BV_PV (hBV q (List.mem_of_getElem? g2))
      rw [hq] at hs
      obtain ⟨q1, q2, q3⟩ := sm_eq (BV_PV h0) hqB
      have hs' : sm e q = true := hs
      rw [hs'] at q2
      have a2 : atI ds (((pre.length : Nat) : Int) - 1) = some q := by rw [show ((pre.length : Nat) : Int) - 1 = ((pre.length - 1 : Nat) : Int) by omega, Dm.atI_nat, g2]
      obtain ⟨y3, y4, y5, ih⟩ := outer_runs hBV hL es (pre ++ [e]) out many (some (.dat (.int (pre.length : Int)))) x4 x5 (by rw [hds]; simp) (by omega)
      refine ⟨y3, y4, y5, ?_⟩
      have e1 : lr pre.getLast? (e :: es) = lr (some e) es := by
        rw [hq]
        conv => lhs; unfold lr
        rw [if_pos hs]
      rw [hlast] at ih
      rw [e1, ← ih, List.length_append, List.length_cons, List.length_nil, Nat.zero_add]
      have g3 : ¬ pre = [] := by rintro rfl; simp at g1
      exact forL_nx (by rfl) (by simp [Q.l__law_runs_1, a1, a2, q2, g3])
    · have cond : (tOr (tB (e2 cEq (eV 3) (eC (.int 0)))) (tB (e2 cNe (e2 ixD (eV 0) (eV 3)) (e2 ixD (eV 0) (e2 opSub (eV 3) (eC (.int 1))))))) [some (.dat (.list ds)), some (.dat (.list (IL out))), some (.dat (.int (many : Int))), some (.dat (.int (pre.length : Int))), x4, x5] = some true := by
        cases hp : pre.getLast? with
        | none =>
          have : pre = [] := List.getLast?_eq_none_iff.mp hp
          simp [this]
        | some q =>
          obtain ⟨g1, g2⟩ := last_at hp (e :: es)
          rw [← hds] at g2
          have hqB : PV κ q := BV_PV (hBV q (List.mem_of_getElem? g2))
          rw [hp] at hs
          obtain ⟨q1, q2, q3⟩ := sm_eq (BV_PV h0) hqB
          have hs' : sm e q = false := (Bool.not_eq_true _).mp hs
          rw [hs'] at q2
          have a2 : atI ds (((pre.length : Nat) : Int) - 1) = some q := by rw [show ((pre.length : Nat) : Int) - 1 = ((pre.length - 1 : Nat) : Int) by omega, Dm.atI_nat, g2]
          have g3 : ¬ pre = [] := by rintro rfl; simp at g1
          simp [a1, a2, q2, g3]
      have e1 : lr pre.getLast? (e :: es) = (1 + (es.takeWhile fun x => sm x e).length, e) :: lr (some e) es := by
        conv => lhs; unfold lr
        rw [if_neg hs]
      obtain ⟨z5, inn⟩ := inner_runs (κ := κ) (ds := ds) (k := pre.length) (d := e) (x1 := some (.dat (.list (IL out)))) (x2 := some (.dat (.int ((many + 1 : Nat) : Int)))) (BV_PV h0) (by rw [hds]; simp) es (pre ++ [e]) 1 x5 (by rw [hds]; simp) fun x hx => BV_PV (hmem x (List.mem_cons_of_mem _ hx))
      have sv := sevens (n := 1 + (es.takeWhile fun x => sm x e).length) (by omega)
      have lo := law_one h0
      obtain ⟨y3, y4, y5, ih⟩ := outer_runs hBV hL es (pre ++ [e]) (out ++ (sev (1 + (es.takeWhile fun x => sm x e).length) ++ one e)) (many + 1) (some (.dat (.int (pre.length : Int)))) (some (.dat (.int ((1 + (es.takeWhile fun x => sm x e).length : Nat) : Int)))) z5 (by rw [hds]; simp) (by simp; omega)
      refine ⟨y3, y4, y5, ?_⟩
      rw [hlast] at ih
      have e2 : out ++ runsE ((1 + (es.takeWhile fun x => sm x e).length, e) :: lr (some e) es) = (out ++ (sev (1 + (es.takeWhile fun x => sm x e).length) ++ one e)) ++ runsE (lr (some e) es) := by simp [runsE]
      rw [e1, e2, List.length_cons, show many + ((lr (some e) es).length + 1) = many + 1 + (lr (some e) es).length by omega, ← ih, List.length_append, List.length_cons, List.length_nil, Nat.zero_add]
      refine forL_nx (by rfl) ?_
      have hr : rng2 ((pre.length : Int) + 1) (ds.length : Int) = some (rangeD ((pre.length : Int) + 1) (ds.length : Int)) := rng2_ok (by omega) (by omega) (by omega) (by omega)
      rw [List.length_append, List.length_cons, List.length_nil, Nat.zero_add, show ((pre.length + 1 : Nat) : Int) = (pre.length : Int) + 1 by omega] at inn
      have ad := add_il (a := out) (b := sev (1 + (es.takeWhile fun x => sm x e).length)) (by omega)
      have ad2 := add_il (a := out ++ sev (1 + (es.takeWhile fun x => sm x e).length)) (b := one e) (by simp; omega)
      generalize (es.takeWhile fun x => sm x e).length = tw at *
      generalize rangeD ((pre.length : Int) + 1) (ds.length : Int) = R at *
      rw [← List.append_assoc]
      generalize (out ++ sev (1 + tw)) = o1 at *
      generalize hsv : sev (1 + tw) = s1 at *
      show Q.l__law_runs_1 [some (.dat (.list ds)), some (.dat (.list (IL out))), some (.dat (.int (many : Int))), some (.dat (.int (pre.length : Int))), x4, x5] = _
      unfold Q.l__law_runs_1
      rw [sIf_ap, cond]
      rw [show ((many + 1 : Nat) : Int) = (many : Int) + 1 by omega, show ((1 : Nat) : Int) = 1 from rfl] at inn
      rw [show ((1 + tw : Nat) : Int) = 1 + (tw : Int) by omega] at inn sv ⊢
      simp [hfl, hr, inn, sv, lo, ad, ad2, a1]
theorem law_runs {κ : Nat} {ds : List D} (h : ∀ d ∈ ds, BV κ d) (hl : ds.length ≤ 256) : Q.m__law_runs [.list ds] = some (.list (IL (runsS ds))) := by
  obtain ⟨y3, y4, y5, e⟩ := outer_runs (κ := κ) h hl ds [] [] 0 none none none rfl (by simp; omega)
  have hL := lr_len none ds
  have h63 : 256 < (2 : Nat) ^ 63 := by decide
  have sv := sevens (n := (lr none ds).length) (by omega)
  have hfl : fLen [.list ds] = some (.int (ds.length : Int)) := by
    have := okN_of (show ds.length ≤ 100000 by omega)
    simp [fLen, this]
  have hr : rng1 (ds.length : Int) = some (rangeD 0 (ds.length : Int)) := rng1_ok (by omega) (by omega)
  have s1 := (sev_len (lr none ds).length).2
  have s2 := runsE_len (κ := κ) (lr none ds) fun r hr => h _ (lr_mem hr).1
  have ad := add_il (a := sev (lr none ds).length) (b := runsE (lr none ds)) (by omega)
  simp only [List.nil_append, List.getLast?_nil, Nat.zero_add, List.length_nil] at e
  rw [show ((0 : Nat) : Int) = 0 from rfl] at e
  unfold runsS
  generalize runsE (lr none ds) = R at *
  generalize (lr none ds).length = m at *
  generalize rangeD 0 (ds.length : Int) = RR at *
  have e' : forL (gN 3) Q.l__law_runs_1 RR [some (.dat (.list ds)), some (.dat (.list [])), some (.dat (.int 0)), none, none, none] = _ := e
  simp [Q.m__law_runs, Q.b__law_runs, hfl, hr, e', sv, ad]
end QM


namespace QM
open PySem PySem.Spec L2 Dm
def diffs : Int → List Int → List Int
  | _, [] => []
  | p, v :: vs => (v - p) :: diffs v vs
def Sm (v : Int) : Prop := v.natAbs < 2 ^ 60
theorem sm60 : (2 : Nat) ^ 60 = 1152921504606846976 ∧ (2 : Nat) ^ 61 = 2305843009213693952 ∧ (2 : Nat) ^ 62 = 4611686018427387904 ∧ (2 : Nat) ^ 63 = 9223372036854775808 := by decide
theorem sm_zero : Sm 0 := by unfold Sm; decide
theorem diffs_BV : ∀ {p : Int} {vs : List Int}, Sm p → (∀ v ∈ vs, Sm v) → ∀ d ∈ IL (diffs p vs), BV 0 d
  | p, [], _, _, d, hd => by cases hd
  | p, v :: vs, hp, h, d, hd => by
    have h0 := h v List.mem_cons_self
    rcases List.mem_cons.mp hd with rfl | hd
    · refine .inl ⟨rfl, v - p, rfl, ?_⟩
      obtain ⟨s0, s1, s2, s3⟩ := sm60
      unfold Sm at hp h0
      omega
    · exact diffs_BV h0 (fun x hx => h x (List.mem_cons_of_mem _ hx)) d hd
theorem diffs_len : ∀ (p : Int) (vs : List Int), (diffs p vs).length = vs.length
  | _, [] => rfl
  | p, v :: vs => by simp [diffs, diffs_len v vs]
theorem steps_loop {x0 x1 : Option L} : ∀ (vs acc : List Int) (p : Int) (x4 : Option L), Sm p → (∀ v ∈ vs, Sm v) → acc.length + 310 * vs.length ≤ 100000 →
    ∃ y3 y4, forL (gN 4) Q.l__write_steps_0 (IL vs) [x0, x1, some (.own (IL acc)), some (.dat (.int p)), x4] = some (.nx [x0, x1, some (.own (IL (acc ++ allS (IL (diffs p vs))))), y3, y4])
  | [], acc, p, x4, _, _, _ => ⟨some (.dat (.int p)), x4, by simp [diffs, allS]⟩
  | v :: vs, acc, p, x4, hp, h, hl => by
    have h0 := h v List.mem_cons_self
    simp only [List.length_cons] at hl
    have hs := (sgn_len (v - p)).2
    obtain ⟨y3, y4, ih⟩ := steps_loop (x0 := x0) (x1 := x1) vs (acc ++ sgn (v - p)) v (some (.dat (.int v))) h0 (fun x hx => h x (List.mem_cons_of_mem _ hx)) (by simp; omega)
    refine ⟨y3, y4, ?_⟩
    have e : allS (IL (diffs p (v :: vs))) = sgn (v - p) ++ allS (IL (diffs v vs)) := by simp [allS, diffs, one]
    rw [e, ← List.append_assoc, ← ih]
    have sg := signed (i := v - p) (by
      obtain ⟨s0, s1, s2, s3⟩ := sm60
      unfold Sm at hp h0
      omega)
    have ho : okN (acc.length + (sgn (v - p)).length) = true := okN_of (by omega)
    exact forL_nx (by rfl) (by simp [Q.l__write_steps_0, sg, ho])
def stepsS (vs : List Int) : List Int := allS (IL (diffs 0 vs))
theorem write_steps {vs : List Int} {x1 : D} (h : ∀ v ∈ vs, Sm v) (hl : vs.length ≤ 256) : Q.m__write_steps [.list (IL vs), x1] = some (.list (IL (stepsS vs))) := by
  obtain ⟨y3, y4, e⟩ := steps_loop (x0 := some (.dat (.list (IL vs)))) (x1 := some (.dat x1)) vs [] 0 none sm_zero h (by simp; omega)
  simp only [List.nil_append] at e
  unfold stepsS
  generalize allS (IL (diffs 0 vs)) = B at *
  generalize IL vs = V at *
  simp only [IL, List.map_nil] at e
  simp [Q.m__write_steps, Q.b__write_steps, e]
/-- a comprehension of differences -/
theorem lc_diffs {ρ : Ev} {ds : List Int} {x : Option L} (h7 : (ρ.set 6 none)[7]? = some (some (.own (IL ds))) ∨ (ρ.set 6 none)[7]? = some (some (.dat (.list (IL ds))))) (h6 : 6 < ρ.length) : ∀ (vs pre : List Int) (p : Int), ds = pre ++ p :: vs →
    lcL 6 tYs Q.l__law_packed_2 ρ (rangeD ((pre.length + 1 : Nat) : Int) ((ds.length : Nat) : Int)) = some (IL (diffs p vs))
  | [], pre, p, e => by
    rw [rangeD_end (by rw [e]; simp)]
    rfl
  | v :: vs, pre, p, e => by
    have ih := lc_diffs (x := x) h7 h6 vs (pre ++ [p]) v (by rw [e]; simp)
    rw [List.length_append, List.length_cons, List.length_nil, Nat.zero_add] at ih
    rw [rangeD_cons (by rw [e]; simp)]
    have ow : ∀ y : Option L, ownOf 7 ((ρ.set 6 none).set 6 y) = some (IL ds) := fun y => by
      unfold ownOf
      rw [List.getElem?_set_ne (by omega)]
      rcases h7 with h | h <;> rw [h]
    have e6 : ∀ y : D, eV 6 ((ρ.set 6 none).set 6 (some (.dat y))) = some y := fun y => by
      rw [eV_ap, List.getElem?_set_self (by simpa using h6)]
    have a1 : atI (IL ds) ((pre.length + 1 : Nat) : Int) = some (.int v) := by
      rw [Dm.atI_nat, e]
      simp
    have a2 : atI (IL ds) (((pre.length + 1 : Nat) : Int) - 1) = some (.int p) := by
      rw [show ((pre.length + 1 : Nat) : Int) - 1 = ((pre.length : Nat) : Int) by omega, Dm.atI_nat, e]
      simp
    have s : Q.l__law_packed_2 ((ρ.set 6 none).set 6 (some (.dat (.int ((pre.length + 1 : Nat) : Int))))) = some (.int (v - p)) := by
      unfold Q.l__law_packed_2
      simp only [e2_ap, eIxO_ap, e6, ow, Option.bind_some, toI_int, a1, a2, eC_ap]
      have : opSub (.int ((pre.length + 1 : Nat) : Int)) (.int 1) = some (.int (((pre.length + 1 : Nat) : Int) - 1)) := rfl
      rw [this, Option.bind_some, toI_int, Option.bind_some, a2]
      rfl
    simp only [lcL, tYs, Option.bind_some, if_true, s, ih]
    rfl
def nearE (m : Int) (vs : List Int) : List Int := vs.flatMap fun v => sev (v - m).toNat
theorem nearE_len (m : Int) : ∀ vs : List Int, (nearE m vs).length ≤ 10 * vs.length
  | [] => Nat.zero_le _
  | v :: vs => by
    have h1 := (sev_len (v - m).toNat).2
    have h2 := nearE_len m vs
    simp [nearE] at h2 ⊢
    omega
theorem intsOf_il : ∀ vs : List Int, intsOf (IL vs) = some vs
  | [] => rfl
  | v :: vs => by
    have := intsOf_il vs
    simp [IL] at this
    simp [IL, intsOf, this]
theorem minL_il {vs : List Int} (h : vs ≠ []) : fMinL [.list (IL vs)] = some (.int (minL vs)) := by
  show (intsOf (IL vs)).bind _ = _
  rw [intsOf_il, Option.bind_some, if_neg h]
theorem near_loop {x0 x1 : Option L} {m : Int} (hm : Sm m) : ∀ (vs acc : List Int) (x4 : Option L), (∀ v ∈ vs, Sm v ∧ m ≤ v) → acc.length + 10 * vs.length ≤ 100000 →
    ∃ y4, forL (gN 4) Q.l__write_near_0 (IL vs) [x0, x1, some (.dat (.int m)), some (.own (IL acc)), x4] = some (.nx [x0, x1, some (.dat (.int m)), some (.own (IL (acc ++ nearE m vs))), y4])
  | [], acc, x4, _, _ => ⟨x4, by simp [nearE]⟩
  | v :: vs, acc, x4, h, hl => by
    obtain ⟨h0, h1⟩ := h v List.mem_cons_self
    simp only [List.length_cons] at hl
    have hs := (sev_len (v - m).toNat).2
    obtain ⟨y4, ih⟩ := near_loop (x0 := x0) (x1 := x1) hm vs (acc ++ sev (v - m).toNat) (some (.dat (.int v))) (fun x hx => h x (List.mem_cons_of_mem _ hx)) (by simp; omega)
    refine ⟨y4, ?_⟩
    have e : nearE m (v :: vs) = sev (v - m).toNat ++ nearE m vs := by simp [nearE]
    rw [e, ← List.append_assoc, ← ih]
    have sg := long (n := (v - m).toNat) (by
      obtain ⟨s0, s1, s2, s3⟩ := sm60
      unfold Sm at hm h0
      omega)
    rw [show (((v - m).toNat : Nat) : Int) = v - m by omega] at sg
    have ho : okN (acc.length + (sev (v - m).toNat).length) = true := okN_of (by omega)
    exact forL_nx (by rfl) (by simp [Q.l__write_near_0, sg, ho])
def nearS (vs : List Int) : List Int := if vs = [] then [] else sgn (minL vs) ++ nearE (minL vs) vs
theorem write_near {vs : List Int} {x1 : D} (h : ∀ v ∈ vs, Sm v) (hl : vs.length ≤ 256) : Q.m__write_near [.list (IL vs), x1] = some (.list (IL (nearS vs))) := by
  cases vs with
  | nil => simp [Q.m__write_near, Q.b__write_near, nearS]
  | cons v vs =>
    have hne : v :: vs ≠ [] := by simp
    obtain ⟨m1, m2⟩ := minL_mem hne
    have hm := h _ m1
    have sg := signed (i := minL (v :: vs)) (by
      obtain ⟨s0, s1, s2, s3⟩ := sm60
      unfold Sm at hm
      omega)
    have hs := (sgn_len (minL (v :: vs))).2
    obtain ⟨y4, e⟩ := near_loop (x0 := some (.dat (.list (IL (v :: vs))))) (x1 := some (.dat x1)) hm (v :: vs) (sgn (minL (v :: vs))) none (fun x hx => ⟨h x hx, m2 x hx⟩) (by omega)
    have mn := minL_il hne
    have htr : truD (.list (IL (v :: vs))) = some true := rfl
    unfold nearS
    rw [if_neg hne]
    generalize sgn (minL (v :: vs)) ++ nearE (minL (v :: vs)) (v :: vs) = B at *
    generalize sgn (minL (v :: vs)) = C at *
    generalize minL (v :: vs) = mm at *
    generalize IL (v :: vs) = V at *
    simp [Q.m__write_near, Q.b__write_near, e, mn, sg, htr]
theorem law_near_loop {x0 x1 x2 x3 x4 x5 x6 : Option L} {ds : List Int} {m : Int} (hm : Sm m) (hmn : fMinL [.list (IL ds)] = some (.int m)) : ∀ (vs acc : List Int) (x8 : Option L), (∀ v ∈ vs, Sm v ∧ m ≤ v) → acc.length + 10 * vs.length ≤ 100000 →
    ∃ y8, forL (gN 8) Q.l__law_packed_3 (IL vs) [x0, x1, x2, x3, x4, x5, x6, some (.dat (.list (IL ds))), x8, some (.dat (.list (IL acc)))] = some (.nx [x0, x1, x2, x3, x4, x5, x6, some (.dat (.list (IL ds))), y8, some (.dat (.list (IL (acc ++ nearE m vs))))])
  | [], acc, x8, _, _ => ⟨x8, by simp [nearE]⟩
  | v :: vs, acc, x8, h, hl => by
    obtain ⟨h0, h1⟩ := h v List.mem_cons_self
    simp only [List.length_cons] at hl
    have hs := (sev_len (v - m).toNat).2
    obtain ⟨y8, ih⟩ := law_near_loop (x0 := x0) (x1 := x1) (x2 := x2) (x3 := x3) (x4 := x4) (x5 := x5) (x6 := x6) hm hmn vs (acc ++ sev (v - m).toNat) (some (.dat (.int v))) (fun x hx => h x (List.mem_cons_of_mem _ hx)) (by simp; omega)
    refine ⟨y8, ?_⟩
    have e : nearE m (v :: vs) = sev (v - m).toNat ++ nearE m vs := by simp [nearE]
    rw [e, ← List.append_assoc, ← ih]
    have sg := sevens (n := (v - m).toNat) (by
      obtain ⟨s0, s1, s2, s3⟩ := sm60
      unfold Sm at hm h0
      omega)
    rw [show (((v - m).toNat : Nat) : Int) = v - m by omega] at sg
    have ad := add_il (a := acc) (b := sev (v - m).toNat) (by omega)
    generalize sev (v - m).toNat = C at *
    generalize IL ds = V at *
    exact forL_nx (by rfl) (by simp [Q.l__law_packed_3, hmn, sg, ad])
end QM


namespace QM
open PySem PySem.Spec L2 Dm
/-- a bit of the mask: of place k of block b, when j values have been looked at -/
def bw (N : Nat → Bool) (j b k : Nat) (z : Int) : Int := if 8 * b + k < j ∧ N (8 * b + k) = true then z else 0
def cnt (N : Nat → Bool) (j b : Nat) : Int := bw N j b 0 1 + bw N j b 1 2 + bw N j b 2 4 + bw N j b 3 8 + bw N j b 4 16 + bw N j b 5 32 + bw N j b 6 64 + bw N j b 7 128
theorem bw_step (N : Nat → Bool) (j b k : Nat) (z : Int) : bw N (j + 1) b k z = bw N j b k z + if 8 * b + k = j ∧ N j = true then z else 0 := by
  unfold bw
  by_cases e : 8 * b + k = j
  · rw [e]
    by_cases hn : N j = true <;> simp [hn]
  · have : (8 * b + k < j + 1) ↔ (8 * b + k < j) := by omega
    simp [this, e]
theorem cnt_step (N : Nat → Bool) (j b : Nat) : cnt N (j + 1) b = cnt N j b + if b = j / 8 ∧ N j = true then 1 * 2 ^ (j % 8) else 0 := by
  unfold cnt
  simp only [bw_step]
  by_cases hn : N j = true
  · simp only [hn, and_true]
    by_cases hb : b = j / 8
    · rw [if_pos hb]
      have hr : j % 8 = 0 ∨ j % 8 = 1 ∨ j % 8 = 2 ∨ j % 8 = 3 ∨ j % 8 = 4 ∨ j % 8 = 5 ∨ j % 8 = 6 ∨ j % 8 = 7 := by omega
      have hj : j = 8 * b + j % 8 := by omega
      generalize j % 8 = r at *
      subst hj
      rcases hr with rfl | rfl | rfl | rfl | rfl | rfl | rfl | rfl <;> simp <;> omega
    · have h : ∀ k, k < 8 → ¬ 8 * b + k = j := fun k hk => by omega
      simp [hb, h 0 (by omega), h 1 (by omega), h 2 (by omega), h 3 (by omega), h 4 (by omega), h 5 (by omega), h 6 (by omega), h 7 (by omega)]
      have := h 0 (by omega)
      omega
  · simp [hn]
theorem cnt_zero (N : Nat → Bool) (b : Nat) : cnt N 0 b = 0 := by simp [cnt, bw]
def maskL (N : Nat → Bool) (j m : Nat) : List Int := (List.range m).map fun b => cnt N j b
def nonAt (ds : List D) (i : Nat) : Bool := match ds[i]? with
  | some d => isNon d
  | none => false
theorem mask_set (N : Nat → Bool) {j m : Nat} (h : j / 8 < m) : IL (maskL N (j + 1) m) = if N j = true then (IL (maskL N j m)).set (j / 8) (.int (cnt N j (j / 8) + 1 * 2 ^ (j % 8))) else IL (maskL N j m) := by
  by_cases hn : N j = true
  · rw [if_pos hn]
    apply List.ext_getElem?
    intro i
    by_cases hi : j / 8 = i
    · subst hi
      rw [List.getElem?_set_self (by simp [IL, maskL, h])]
      simp [IL, maskL, h, cnt_step, hn]
    · rw [List.getElem?_set_ne hi]
      have hi2 : ¬ i = j / 8 := fun e => hi e.symm
      by_cases him : i < m
      · simp [IL, maskL, cnt_step, hi2, him]
      · simp [IL, maskL, him]
  · rw [if_neg hn]
    simp [IL, maskL, cnt_step, hn]
theorem mask_loop {ds : List D} {m : Nat} (hm : m ≤ 1000) (hl : ds.length ≤ 8 * m) {x0 : Option L} : ∀ (es pre : List D) (x2 x3 : Option L), ds = pre ++ es →
    ∃ y2 y3, forL (gT 2 (gsC (gN 2) (gsC (gN 3) gs0))) Q.l__mask_0 (enumD pre.length es) [x0, some (.own (IL (maskL (nonAt ds) pre.length m))), x2, x3] = some (.nx [x0, some (.own (IL (maskL (nonAt ds) ds.length m))), y2, y3])
  | [], pre, x2, x3, e => by
    simp only [List.append_nil] at e
    subst e
    exact ⟨x2, x3, by simp [enumD]⟩
  | d :: es, pre, x2, x3, e => by
    obtain ⟨y2, y3, ih⟩ := mask_loop hm hl (x0 := x0) es (pre ++ [d]) (some (.dat (.int (pre.length : Int)))) (some (.dat d)) (by rw [e]; simp)
    refine ⟨y2, y3, ?_⟩
    rw [List.length_append, List.length_cons, List.length_nil, Nat.zero_add] at ih
    rw [← ih]
    have hlt : pre.length < ds.length := by rw [e]; simp
    have hd : nonAt ds pre.length = isNon d := by unfold nonAt; rw [e]; simp
    have ms := mask_set (nonAt ds) (j := pre.length) (m := m) (by omega)
    rw [hd] at ms
    rw [ms]
    show forL _ _ (PyData.tuple [PyData.int (pre.length : Int), d] :: enumD (pre.length + 1) es) _ = _
    refine forL_nx (ρ1 := [x0, some (.own (IL (maskL (nonAt ds) pre.length m))), some (.dat (.int (pre.length : Int))), some (.dat d)]) ?_ ?_
    · rfl
    · cases hn : isNon d with
      | false => simp [Q.l__mask_0, hn]
      | true =>
        have a1 : atI (IL (maskL (nonAt ds) pre.length m)) ((pre.length : Int) / 8) = some (.int (cnt (nonAt ds) pre.length (pre.length / 8))) := by
          rw [show (pre.length : Int) / 8 = ((pre.length / 8 : Nat) : Int) by omega, Dm.atI_nat]
          have : pre.length / 8 < m := by omega
          simp [IL, maskL, this]
        have i1 : ixN (IL (maskL (nonAt ds) pre.length m)).length ((pre.length : Int) / 8) = some (pre.length / 8) := by
          unfold ixN
          rw [if_pos (by omega), if_pos (by simp [IL, maskL]; omega)]
          congr 1
        have sh : opShl (.int 1) (.int ((pre.length : Int) % 8)) = some (.int (1 * 2 ^ (pre.length % 8))) := by
          have c1 : 0 ≤ (pre.length : Int) % 8 ∧ (pre.length : Int) % 8 ≤ 1000000 ∧ (1 : Int).natAbs < 2 ^ 64 := ⟨by omega, by omega, by decide⟩
          have c2 : ((pre.length : Int) % 8).toNat = pre.length % 8 := by omega
          show (if _ then some (PyData.int (1 * 2 ^ ((pre.length : Int) % 8).toNat)) else none) = _
          rw [if_pos c1, c2]
        generalize IL (maskL (nonAt ds) pre.length m) = M at *
        simp only [if_true]
        simp [Q.l__mask_0, hn, a1, i1, sh]
def maskS (ds : List D) : List Int := maskL (nonAt ds) ds.length ((ds.length + 7) / 8)
theorem mask {ds : List D} (hl : ds.length ≤ 256) : Q.m__mask [.list ds] = some (.list (IL (maskS ds))) := by
  obtain ⟨y2, y3, e⟩ := mask_loop (ds := ds) (m := (ds.length + 7) / 8) (by omega) (by omega) (x0 := some (.dat (.list ds))) ds [] none none rfl
  have h0 : IL (maskL (nonAt ds) 0 ((ds.length + 7) / 8)) = List.replicate ((ds.length + 7) / 8) (.int 0) := by
    unfold maskL
    simp only [cnt_zero]
    simp [IL, List.map_const']
  have fl := okN_of (show ds.length ≤ 100000 by omega)
  have ml : Q.m__mask_length [.int (ds.length : Int)] = some (.int (((ds.length + 7) / 8 : Nat) : Int)) := by
    simp [Q.m__mask_length, Q.b__mask_length]
  have md : midI (((ds.length + 7) / 8 : Nat) : Int) = true := midI_of (by omega) (by omega)
  have ok2 : okN ((ds.length + 7) / 8) = true := okN_of (by omega)
  have rp : (List.replicate ((ds.length + 7) / 8) [PyData.int 0]).flatten = List.replicate ((ds.length + 7) / 8) (PyData.int 0) := by
    simp
  rw [List.length_nil] at e
  rw [h0] at e
  unfold maskS
  generalize maskL (nonAt ds) ds.length ((ds.length + 7) / 8) = M at *
  generalize (ds.length + 7) / 8 = n at *
  simp [Q.m__mask, Q.b__mask, fl, ml, md, ok2, e]
theorem lm_inner {ds : List D} {b : Nat} (hb : b ≤ 1000) (hl : ds.length ≤ 256) {x1 x2 x3 x7 x8 x9 : Option L} {z : Option L} :
    ∃ y6, forL (gN 6) Q.l__law_packed_0 (rangeD 0 8) [some (.dat (.list ds)), x1, x2, x3, some (.dat (.int ((8 * b : Nat) : Int))), some (.dat (.int 0)), z, x7, x8, x9] = some (.nx [some (.dat (.list ds)), x1, x2, x3, some (.dat (.int ((8 * b : Nat) : Int))), some (.dat (.int (cnt (nonAt ds) ds.length b))), y6, x7, x8, x9]) := by
  have fl : fLen [.list ds] = some (.int (ds.length : Int)) := by
    have := okN_of (show ds.length ≤ 100000 by omega)
    simp [fLen, this]
  have turn : ∀ (k : Nat) (z : Int) (s : Int) (y : Option L), k < 8 → atI [PyData.int 1, .int 2, .int 4, .int 8, .int 16, .int 32, .int 64, .int 128] (k : Int) = some (.int z) →
      Q.l__law_packed_0 [some (.dat (.list ds)), x1, x2, x3, some (.dat (.int ((8 * b : Nat) : Int))), some (.dat (.int s)), some (.dat (.int (k : Int))), x7, x8, x9] = some (.nx [some (.dat (.list ds)), x1, x2, x3, some (.dat (.int ((8 * b : Nat) : Int))), some (.dat (.int (s + bw (nonAt ds) ds.length b k z))), some (.dat (.int (k : Int))), x7, x8, x9]) := fun k z s y hk hz => by
    unfold bw
    by_cases h1 : 8 * b + k < ds.length
    · have h1' : ((8 * b : Nat) : Int) + (k : Int) < (ds.length : Int) := by omega
      have a1 : atI ds (((8 * b : Nat) : Int) + (k : Int)) = some ds[8 * b + k] := by
        rw [show ((8 * b : Nat) : Int) + (k : Int) = ((8 * b + k : Nat) : Int) by omega, Dm.atI_nat, List.getElem?_eq_getElem h1]
      have hn : nonAt ds (8 * b + k) = isNon ds[8 * b + k] := by
        unfold nonAt
        rw [List.getElem?_eq_getElem h1]
      rw [hn]
      generalize ds[8 * b + k] = d at *
      generalize ((8 * b : Nat) : Int) = B at *
      cases hd : isNon d with
      | true => simp [Q.l__law_packed_0, fl, h1', a1, hd, hz, h1]
      | false => simp [Q.l__law_packed_0, fl, h1', a1, hd, h1]
    · have h1' : ¬ ((8 * b : Nat) : Int) + (k : Int) < (ds.length : Int) := by omega
      generalize ((8 * b : Nat) : Int) = B at *
      simp [Q.l__law_packed_0, fl, h1', h1]
  refine ⟨some (.dat (.int 7)), ?_⟩
  have hr : rangeD 0 8 = [.int 0, .int 1, .int 2, .int 3, .int 4, .int 5, .int 6, .int 7] := rfl
  rw [hr]
  unfold cnt
  have t0 := turn 0 1 0 none (by omega) rfl
  have t1 := turn 1 2 (0 + bw (nonAt ds) ds.length b 0 1) none (by omega) rfl
  have t2 := turn 2 4 (0 + bw (nonAt ds) ds.length b 0 1 + bw (nonAt ds) ds.length b 1 2) none (by omega) rfl
  have t3 := turn 3 8 (0 + bw (nonAt ds) ds.length b 0 1 + bw (nonAt ds) ds.length b 1 2 + bw (nonAt ds) ds.length b 2 4) none (by omega) rfl
  have t4 := turn 4 16 (0 + bw (nonAt ds) ds.length b 0 1 + bw (nonAt ds) ds.length b 1 2 + bw (nonAt ds) ds.length b 2 4 + bw (nonAt ds) ds.length b 3 8) none (by omega) rfl
  have t5 := turn 5 32 (0 + bw (nonAt ds) ds.length b 0 1 + bw (nonAt ds) ds.length b 1 2 + bw (nonAt ds) ds.length b 2 4 + bw (nonAt ds) ds.length b 3 8 + bw (nonAt ds) ds.length b 4 16) none (by omega) rfl
  have t6 := turn 6 64 (0 + bw (nonAt ds) ds.length b 0 1 + bw (nonAt ds) ds.length b 1 2 + bw (nonAt ds) ds.length b 2 4 + bw (nonAt ds) ds.length b 3 8 + bw (nonAt ds) ds.length b 4 16 + bw (nonAt ds) ds.length b 5 32) none (by omega) rfl
  have t7 := turn 7 128 (0 + bw (nonAt ds) ds.length b 0 1 + bw (nonAt ds) ds.length b 1 2 + bw (nonAt ds) ds.length b 2 4 + bw (nonAt ds) ds.length b 3 8 + bw (nonAt ds) ds.length b 4 16 + bw (nonAt ds) ds.length b 5 32 + bw (nonAt ds) ds.length b 6 64) none (by omega) rfl
  rw [forL_nx (by rfl) t0, forL_nx (by rfl) t1, forL_nx (by rfl) t2, forL_nx (by rfl) t3, forL_nx (by rfl) t4, forL_nx (by rfl) t5, forL_nx (by rfl) t6, forL_nx (by rfl) t7]
  simp only [Int.zero_add]
  rfl
theorem lm_outer {ds : List D} (hl : ds.length ≤ 256) {x1 x2 x7 x8 x9 : Option L} : ∀ (n a : Nat) (acc : List Int) (x4 x5 x6 : Option L), a + n ≤ 40 → acc.length + n ≤ 1000 →
    ∃ y4 y5 y6, forL (gN 4) Q.l__law_packed_1 ((List.range' a n).map fun (i : Nat) => PyData.int (((8 * i : Nat) : Int))) [some (.dat (.list ds)), x1, x2, some (.own (IL acc)), x4, x5, x6, x7, x8, x9] = some (.nx [some (.dat (.list ds)), x1, x2, some (.own (IL (acc ++ (List.range' a n).map fun b => cnt (nonAt ds) ds.length b))), y4, y5, y6, x7, x8, x9])
  | 0, a, acc, x4, x5, x6, _, _ => ⟨x4, x5, x6, by simp⟩
  | n + 1, a, acc, x4, x5, x6, ha, hc => by
    obtain ⟨z6, inn⟩ := lm_inner (ds := ds) (b := a) (by omega) hl (x1 := x1) (x2 := x2) (x3 := some (.own (IL acc))) (x7 := x7) (x8 := x8) (x9 := x9) (z := x6)
    obtain ⟨y4, y5, y6, ih⟩ := lm_outer hl (x1 := x1) (x2 := x2) (x7 := x7) (x8 := x8) (x9 := x9) n (a + 1) (acc ++ [cnt (nonAt ds) ds.length a]) (some (.dat (.int ((8 * a : Nat) : Int)))) (some (.dat (.int (cnt (nonAt ds) ds.length a)))) z6 (by omega) (by simp; omega)
    refine ⟨y4, y5, y6, ?_⟩
    rw [List.append_assoc, List.cons_append, List.nil_append] at ih
    rw [List.range'_succ, List.map_cons, List.map_cons, ← ih]
    have hr : rng1 8 = some (rangeD 0 8) := rng1_ok (n := 8) (by omega) (by omega)
    have ho : okN acc.length = true := okN_of (by omega)
    generalize rangeD 0 8 = R at *
    generalize ((8 * a : Nat) : Int) = B at *
    exact forL_nx (by rfl) (by simp [Q.l__law_packed_1, hr, inn, ho])
theorem rangeC_mask {n : Nat} (hn : n ≤ 256) : Builtin.Range.small 0 (n : Int) 8 = true ∧ 0 ≤ Builtin.Range.rangeSize 0 (n : Int) 8 ∧ rangeC 0 8 (Builtin.Range.rangeSize 0 (n : Int) 8).toNat = (List.range' 0 ((n + 7) / 8)).map fun (i : Nat) => PyData.int (((8 * i : Nat) : Int)) := by
  have hs : Builtin.Range.rangeSize 0 (n : Int) 8 = (((n + 7) / 8 : Nat) : Int) := by
    unfold Builtin.Range.rangeSize
    rw [if_pos (by omega)]
    split <;> omega
  refine ⟨?_, by rw [hs]; omega, ?_⟩
  · have fit : ∀ z : Int, 0 ≤ z → z ≤ 1000 → Builtin.Range.rangeFitsLong z = true := fun z h1 h2 => by
      unfold Builtin.Range.rangeFitsLong
      simp
      omega
    unfold Builtin.Range.small
    rw [hs]
    simp [fit 0 (by omega) (by omega), fit 8 (by omega) (by omega), fit (n : Int) (by omega) (by omega), fit (((n : Int) + 7) / 8) (by omega) (by omega), fit ((n : Int) + 7) (by omega) (by omega)]
  · rw [hs]
    unfold rangeC
    rw [Int.toNat_natCast, ← List.range_eq_range']
    apply List.map_congr_left
    intro i _
    congr 1
    omega
end QM


namespace QM
open PySem PySem.Spec L2 Dm
/-- neighbours that are the same, once -/
def dd : Option D → List D → List D
  | _, [] => []
  | p, x :: xs => if spr p x = true then dd (some x) xs else x :: dd (some x) xs
theorem spr_eq {κ : Nat} {p : Option D} {x : D} (hp : ∀ q, p = some q → PV κ q) (hx : PV κ x) : spr p x = true ↔ p = some x := by
  cases p with
  | none => simp [spr]
  | some q =>
    rw [show spr (some q) x = sm x q from rfl, (sm_eq hx (hp q rfl)).2.2]
    constructor
    · rintro rfl; rfl
    · intro h; cases h; rfl
theorem dd_mem {κ : Nat} : ∀ {L : List D} {p : Option D}, (∀ q, p = some q → PV κ q) → (∀ x ∈ L, PV κ x) → (∀ x, x ∈ dd p L → x ∈ L) ∧ (∀ x ∈ L, x ∈ dd p L ∨ p = some x)
  | [], p, _, _ => ⟨fun x h => h, fun x h => by cases h⟩
  | y :: ys, p, hp, h => by
    have hy := h y List.mem_cons_self
    obtain ⟨a, b⟩ := dd_mem (p := some y) (fun q e => by cases e; exact hy) fun x hx => h x (List.mem_cons_of_mem _ hx)
    have se := spr_eq hp hy
    by_cases hs : spr p y = true
    · have e : dd p (y :: ys) = dd (some y) ys := by
        conv => lhs; unfold dd
        rw [if_pos hs]
      rw [e]
      refine ⟨fun x hx => List.mem_cons_of_mem _ (a x hx), fun x hx => ?_⟩
      rcases List.mem_cons.mp hx with rfl | hx
      · exact .inr (se.mp hs)
      · rcases b x hx with z | z
        · exact .inl z
        · cases z
          exact .inr (se.mp hs)
    · have e : dd p (y :: ys) = y :: dd (some y) ys := by
        conv => lhs; unfold dd
        rw [if_neg hs]
      rw [e]
      refine ⟨fun x hx => ?_, fun x hx => .inl ?_⟩
      · rcases List.mem_cons.mp hx with rfl | hx
        · exact List.mem_cons_self
        · exact List.mem_cons_of_mem _ (a x hx)
      · rcases List.mem_cons.mp hx with rfl | hx
        · exact List.mem_cons_self
        · rcases b x hx with z | z
          · exact List.mem_cons_of_mem _ z
          · cases z
            exact List.mem_cons_self
theorem dd_sub : ∀ (p : Option D) (L : List D), (dd p L).Sublist L
  | _, [] => .slnil
  | p, y :: ys => by
    unfold dd
    split
    · exact (dd_sub (some y) ys).cons y
    · exact (dd_sub (some y) ys).cons₂ y
theorem PV_same {κ : Nat} {x y : D} (hx : PV κ x) (hy : PV κ y) : sameD x y = true := (ord hx hy).same
theorem dd_out {κ : Nat} : ∀ {L : List D} {q : D}, PV κ q → (∀ x ∈ L, PV κ x) → (∀ x ∈ L, leA q x = true) → L.Pairwise (fun a b => leA a b = true) → q ∉ dd (some q) L
  | [], q, _, _, _, _, h => by cases h
  | y :: ys, q, hq, h, hle, hp, hin => by
    have hy := h y List.mem_cons_self
    have hr : ∀ x ∈ ys, PV κ x := fun x hx => h x (List.mem_cons_of_mem _ hx)
    obtain ⟨p1, p2⟩ := List.pairwise_cons.mp hp
    have se := spr_eq (p := some q) (fun z e => by cases e; exact hq) hy
    unfold dd at hin
    split at hin
    · rename_i hs
      have e := se.mp hs
      cases e
      exact dd_out hy hr p1 p2 hin
    · rename_i hs
      have hne : q ≠ y := fun e => hs (se.mpr (by rw [e]))
      rcases List.mem_cons.mp hin with e | hin
      · exact hne e
      · have hm := (dd_mem (p := some y) (fun z e => by cases e; exact hy) hr).1 q hin
        exact hne (leA_anti (PV_same hq hy) (hle y List.mem_cons_self) (p1 q hm))
theorem dd_nodup {κ : Nat} : ∀ {L : List D} {p : Option D}, (∀ x ∈ L, PV κ x) → L.Pairwise (fun a b => leA a b = true) → (dd p L).Nodup
  | [], _, _, _ => .nil
  | y :: ys, p, h, hp => by
    have hy := h y List.mem_cons_self
    have hr : ∀ x ∈ ys, PV κ x := fun x hx => h x (List.mem_cons_of_mem _ hx)
    obtain ⟨p1, p2⟩ := List.pairwise_cons.mp hp
    have ih := dd_nodup (p := some y) hr p2
    unfold dd
    split
    · exact ih
    · exact List.nodup_cons.mpr ⟨dd_out hy hr p1 p2, ih⟩
theorem dd_sort {κ : Nat} {ds : List D} (h : ∀ d ∈ ds, PV κ d) : dd none (sortA ds) = sortS ds := by
  have as := all_same h
  have pm : (sortA ds).Perm ds := List.mergeSort_perm ..
  have hs : ∀ x ∈ sortA ds, PV κ x := fun x hx => h x (pm.mem_iff.mp hx)
  have q1 : (sortA ds).Pairwise (fun a b => leA a b = true) := PySem.W.sort_pairwise leA_total ds
  have q2 : (sortS ds).Pairwise (fun a b => leA a b = true) := PySem.W.sort_pairwise leA_total (uqD ds)
  have pu : (sortS ds).Perm (uqD ds) := List.mergeSort_perm ..
  obtain ⟨m1, m2⟩ := dd_mem (κ := κ) (p := none) (fun q e => by cases e) hs
  have md : ∀ x, x ∈ dd none (sortA ds) ↔ x ∈ sortS ds := fun x => by
    rw [pu.mem_iff, uqD_mem as]
    constructor
    · intro hx
      exact pm.mem_iff.mp (m1 x hx)
    · intro hx
      rcases m2 x (pm.mem_iff.mpr hx) with z | z
      · exact z
      · cases z
  refine List.Perm.eq_of_pairwise (fun a b ha hb h1 h2 => ?_) (q1.sublist (dd_sub none _)) q2 ((List.perm_ext_iff_of_nodup (dd_nodup hs q1) (pu.nodup_iff.mpr (uqD_nodup as))).mpr md)
  exact leA_anti (PV_same (hs a (m1 a ha)) (h b ((uqD_mem as).mp (pu.mem_iff.mp hb)))) h1 h2
theorem book_facts {κ : Nat} {ds : List D} (h : ∀ d ∈ ds, PV κ d) : (∀ x, x ∈ sortS ds ↔ x ∈ ds) ∧ (sortS ds).Nodup ∧ (sortS ds).length ≤ ds.length := by
  have as := all_same h
  have pu : (sortS ds).Perm (uqD ds) := List.mergeSort_perm ..
  exact ⟨fun x => by rw [pu.mem_iff, uqD_mem as], pu.nodup_iff.mpr (uqD_nodup as), sortS_len⟩
def pos (B : List D) (x : D) : Nat := (ixA x B).getD 0
theorem ix_in {x : D} : ∀ {B : List D}, (∀ d ∈ B, sameD d x = true) → x ∈ B → ∃ i, ixA x B = some i ∧ i < B.length
  | [], _, h => by cases h
  | d :: r, hs, h => by
    unfold ixA
    by_cases e : PyData.eqv d x = true
    · exact ⟨0, by rw [if_pos e], Nat.succ_pos _⟩
    · rw [if_neg e]
      have hx : x ∈ r := by
        rcases List.mem_cons.mp h with rfl | h
        · exact absurd ((eqv_same (hs x List.mem_cons_self)).mpr rfl) e
        · exact h
      obtain ⟨i, h1, h2⟩ := ix_in (fun d hd => hs d (List.mem_cons_of_mem _ hd)) hx
      exact ⟨i + 1, by rw [h1]; rfl, Nat.succ_lt_succ h2⟩
theorem val_ix {x : D} {k : Leaf} (hk : leafD x = some k) : ∀ {B : List D} (a : Nat), (∀ d ∈ B, sameD d x = true ∧ sameD d d = true) → x ∈ B → valL (B.filterMap leafD) ((List.range' a B.length).map fun i => W.d (.int ((i : Nat) : Int))) k = some (.d (.int ((a + pos B x : Nat) : Int)))
  | [], a, _, h => by cases h
  | d :: r, a, hs, h => by
    obtain ⟨s1, s2⟩ := hs d List.mem_cons_self
    obtain ⟨kd, hd⟩ := leafD_some s2
    have e1 : (d :: r).filterMap leafD = kd :: r.filterMap leafD := by rw [List.filterMap_cons_some hd]
    rw [e1, List.length_cons, List.range'_succ, List.map_cons]
    unfold valL
    by_cases e : PyData.eqv d x = true
    · have ex := (eqv_same s1).mp e
      subst ex
      rw [hk] at hd
      cases hd
      rw [if_pos rfl]
      unfold pos ixA
      rw [if_pos e]
      rfl
    · have hx : x ∈ r := by
        rcases List.mem_cons.mp h with rfl | h
        · exact absurd ((eqv_same s1).mpr rfl) e
        · exact h
      have hne : ¬ kd = k := fun z => e ((eqv_same s1).mpr (leaf_eq s1 hd (by rw [hk, z])))
      have hr : ∀ d ∈ r, sameD d x = true ∧ sameD d d = true := fun y hy => hs y (List.mem_cons_of_mem _ hy)
      rw [if_neg hne, val_ix hk (a + 1) hr hx]
      obtain ⟨i, h1, h2⟩ := ix_in (fun d hd => (hr d hd).1) hx
      have p1 : pos r x = i := by unfold pos; rw [h1]; rfl
      have p2 : pos (d :: r) x = i + 1 := by
        unfold pos ixA
        rw [if_neg e, h1]
        rfl
      rw [p1, p2, show a + 1 + i = a + (i + 1) by omega]
theorem pos_lt {κ : Nat} {B : List D} {x : D} (h : ∀ d ∈ B, PV κ d) (hx : x ∈ B) : pos B x < B.length ∧ ixA x B = some (pos B x) := by
  obtain ⟨i, h1, h2⟩ := ix_in (fun d hd => PV_same (h d hd) (h x hx)) hx
  unfold pos
  rw [h1]
  exact ⟨h2, rfl⟩
def bookE (B ds : List D) : List Int := ds.flatMap fun x => sev (pos B x)
theorem bookE_len (B : List D) : ∀ ds : List D, (bookE B ds).length ≤ 10 * ds.length
  | [] => Nat.zero_le _
  | d :: ds => by
    have h1 := (sev_len (pos B d)).2
    have h2 := bookE_len B ds
    simp [bookE] at h2 ⊢
    omega
def bookS (ds : List D) : List Int := sev (sortS ds).length ++ allS (sortS ds) ++ bookE (sortS ds) ds
end QM


namespace QM
open PySem PySem.Spec L2 Dm
theorem en_len : ∀ (n : Nat) (ds : List D), (enumD n ds).length = ds.length
  | _, [] => rfl
  | n, d :: ds => by rw [enumD, List.length_cons, List.length_cons, en_len]
theorem en_get : ∀ (n : Nat) (ds : List D) (i : Nat), (enumD n ds)[i]? = ds[i]?.map fun d => PyData.tuple [.int ((n + i : Nat) : Int), d]
  | n, [], i => by simp [enumD]
  | n, d :: ds, 0 => by simp [enumD]
  | n, d :: ds, i + 1 => by
    simp only [enumD, List.getElem?_cons_succ]
    rw [en_get (n + 1) ds i, show n + 1 + i = n + (i + 1) by omega]
theorem any_not {κ : Nat} {pre : List D} {d : D} {k : Leaf} (h : ∀ x ∈ pre, PV κ x) (hd : PV κ d) (hk : leafD d = some k) (hn : d ∉ pre) : ((pre.filterMap leafD).any fun q => decide (q = k)) = false := by
  rw [List.any_eq_false]
  intro q hq hqk
  have e : q = k := of_decide_eq_true hqk
  obtain ⟨x, hx, hxq⟩ := List.mem_filterMap.mp hq
  rw [e] at hxq
  have := leaf_eq (PV_same (h x hx) hd) hxq hk
  exact hn (this ▸ hx)
theorem dict_loop {κ : Nat} {g0 : List GO} {sl : List (Option W)} {B : List D} (hB : ∀ x ∈ B, PV κ x) (hnd : B.Nodup) (hsl : sl.length = 7) (hl : B.length ≤ 1000) : ∀ (es pre : List D) (n i : Nat) , B = pre ++ es → i = pre.length → es.length < n →
    dcG (hgT 2 (hgC (hgN 4) (hgC (hgN 5) hg0))) gtYes (gOf (eV 5)) (gOf (eV 4)) (srcOf ((enumD 0 B).map .d)) sl g0.length n i (g0 ++ [(.dlf (pre.filterMap leafD), (List.range' 0 pre.length).map fun i => W.d (.int ((i : Nat) : Int)))]) =
    some (.ok (.rf g0.length) (g0 ++ [(.dlf (B.filterMap leafD), (List.range' 0 B.length).map fun i => W.d (.int ((i : Nat) : Int)))]))
  | [], pre, n, i, e, hi, hn => by
    obtain ⟨n, rfl⟩ : ∃ m, n = m + 1 := ⟨n - 1, by simp at hn; omega⟩
    simp only [List.append_nil] at e
    subst e
    subst hi
    have : (srcOf ((enumD 0 B).map .d)) (g0 ++ [(.dlf (B.filterMap leafD), (List.range' 0 B.length).map fun i => W.d (.int ((i : Nat) : Int)))]) B.length = some none := by
      rw [srcOf_ap, List.getElem?_eq_none (by simp [en_len])]
    unfold dcG
    rw [this]
  | d :: es, pre, n, i, e, hi, hn => by
    obtain ⟨n, rfl⟩ : ∃ m, n = m + 1 := ⟨n - 1, by simp at hn; omega⟩
    simp only [List.length_cons] at hn
    have ih := dict_loop (g0 := g0) hB hnd hsl hl es (pre ++ [d]) n (i + 1) (by rw [e]; simp) (by simp [hi]) (by omega)
    have hd : PV κ d := hB d (by rw [e]; simp)
    have hpre : ∀ x ∈ pre, PV κ x := fun x hx => hB x (by rw [e]; exact List.mem_append_left _ hx)
    obtain ⟨k, hk⟩ := leafD_some (PV_same hd hd)
    have hnp : d ∉ pre := by
      rw [e] at hnd
      intro hin
      exact (List.nodup_append.mp hnd).2.2 d hin d List.mem_cons_self rfl
    have an := any_not hpre hd hk hnp
    have hlt : i < B.length := by rw [e, hi]; simp
    have sr : (enumD 0 B)[i]? = some (.tuple [.int (i : Int), d]) := by
      rw [en_get, e, hi]
      simp
    have e1 : (pre ++ [d]).filterMap leafD = pre.filterMap leafD ++ [k] := by rw [List.filterMap_append]; simp [hk]
    have e2 : (List.range' 0 (pre ++ [d]).length).map (fun i => W.d (.int ((i : Nat) : Int))) = ((List.range' 0 pre.length).map fun i => W.d (.int ((i : Nat) : Int))) ++ [W.d (.int (i : Int))] := by
      rw [List.length_append, List.length_cons, List.length_nil, Nat.zero_add, List.range'_concat, List.map_append, hi]
      simp
    rw [e1, e2] at ih
    have ok : okN (pre.filterMap leafD).length = true := okN_of (by
      have := List.length_filterMap_le leafD pre
      have : pre.length ≤ B.length := by rw [e]; simp
      omega)
    generalize pre.filterMap leafD = ks at *
    generalize (List.range' 0 pre.length).map (fun i => W.d (.int ((i : Nat) : Int))) = ws at *
    obtain ⟨s0, s1, s2, s3, s4, s5, s6, rfl⟩ : ∃ s0 s1 s2 s3 s4 s5 s6, sl = [s0, s1, s2, s3, s4, s5, s6] := by
      match sl, hsl with
      | [s0, s1, s2, s3, s4, s5, s6], _ => exact ⟨s0, s1, s2, s3, s4, s5, s6, rfl⟩
    have pt : putLf g0.length k (W.d (.int (i : Int))) (g0 ++ [(.dlf ks, ws)]) = some (g0 ++ [(.dlf (ks ++ [k]), ws ++ [W.d (.int (i : Int))])]) := by
      unfold putLf
      rw [at_end]
      simp only [ok, if_true]
      rw [List.set_append_right _ _ (Nat.le_refl _), Nat.sub_self]
      unfold putP
      rw [an]
      rfl
    have lw : leafW (.d d) = some k := hk
    rw [← ih]
    conv => lhs; unfold dcG
    simp [sr, hgT, hgC, hg0, lw, pt]
theorem ext_loop {κ : Nat} {B ds0 : List D} {x0 x1 x2 x4 : Option W} {g0 : List GO} (hB : ∀ x ∈ B, PV κ x) (hl : B.length ≤ 1000) : ∀ (es pre : List D) (acc : List Int) (n i : Nat) (x5 : Option W), ds0 = pre ++ es → i = pre.length → es.length < n → (∀ x ∈ es, x ∈ B) → acc.length + 10 * es.length ≤ 100000 →
    ∃ y5, forG (hgN 5) Q.l__write_book_0 (srcOf (ds0.map .d)) n i ⟨[x0, x1, x2, some (.rf 0), x4, x5, some (.rf 1)], [(.dlf (B.filterMap leafD), (List.range' 0 B.length).map fun i => W.d (.int ((i : Nat) : Int))), (.lst, (IL acc).map .d)]⟩ =
      some (.nx ⟨[x0, x1, x2, some (.rf 0), x4, y5, some (.rf 1)], [(.dlf (B.filterMap leafD), (List.range' 0 B.length).map fun i => W.d (.int ((i : Nat) : Int))), (.lst, (IL (acc ++ bookE B es)).map .d)]⟩)
  | [], pre, acc, n, i, x5, e, hi, hn, _, _ => by
    obtain ⟨n, rfl⟩ : ∃ m, n = m + 1 := ⟨n - 1, by simp at hn; omega⟩
    refine ⟨x5, ?_⟩
    rw [gfor_stop (by rw [srcOf_ap, e, hi]; simp)]
    simp [bookE]
  | d :: es, pre, acc, n, i, x5, e, hi, hn, hin, ha => by
    obtain ⟨n, rfl⟩ : ∃ m, n = m + 1 := ⟨n - 1, by simp at hn; omega⟩
    simp only [List.length_cons] at hn ha
    have hd := hin d List.mem_cons_self
    have sl := (sev_len (pos B d)).2
    obtain ⟨y5, ih⟩ := ext_loop (ds0 := ds0) (x0 := x0) (x1 := x1) (x2 := x2) (x4 := x4) (g0 := g0) hB hl es (pre ++ [d]) (acc ++ sev (pos B d)) n (i + 1) (some (.d d)) (by rw [e]; simp) (by simp [hi]) (by omega) (fun x hx => hin x (List.mem_cons_of_mem _ hx)) (by simp; omega)
    refine ⟨y5, ?_⟩
    have e1 : bookE B (d :: es) = sev (pos B d) ++ bookE B es := by simp [bookE]
    rw [e1, ← List.append_assoc, ← ih]
    obtain ⟨k, hk⟩ := leafD_some (PV_same (hB d hd) (hB d hd))
    have vl := val_ix hk (B := B) 0 (fun x hx => ⟨PV_same (hB x hx) (hB d hd), PV_same (hB x hx) (hB x hx)⟩) hd
    rw [Nat.zero_add] at vl
    have pl := (pos_lt hB hd).1
    have h63 : 1000 < (2 : Nat) ^ 63 := by decide
    have lg := long (n := pos B d) (by omega)
    have ok : okN (acc.length + (sev (pos B d)).length) = true := okN_of (by omega)
    have lw : leafW (.d d) = some k := hk
    refine gfor_step (w := .d d) (by rw [srcOf_ap, e, hi]; simp) rfl ?_
    generalize B.filterMap leafD = ks at *
    generalize (List.range' 0 B.length).map (fun i => W.d (.int ((i : Nat) : Int))) = ws at *
    generalize pos B d = p at *
    simp [Q.l__write_book_0, hB, lfgetW, dlfW, lw, vl, fO, pures, lg, isLw, extW, itemsW, ok]
theorem write_book {κ : Nat} {ds : List D} (h : ∀ d ∈ ds, BV κ d) (hl : ds.length ≤ 256) : dGD Q.m__write_book [.list ds, kd κ] = some (.list (IL (bookS ds))) := by
  have hP : ∀ d ∈ ds, PV κ d := fun d hd => BV_PV (h d hd)
  obtain ⟨b1, b2, b3⟩ := book_facts hP
  have as := all_same hP
  have hBB : ∀ x ∈ sortS ds, BV κ x := fun x hx => h x ((b1 x).mp hx)
  have hBP : ∀ x ∈ sortS ds, PV κ x := fun x hx => BV_PV (hBB x hx)
  have pl := plain hBB (by omega)
  have h63 : 1000 < (2 : Nat) ^ 63 := by decide
  have lg := long (n := (sortS ds).length) (by omega)
  have fl : fLen [.list (sortS ds)] = some (.int ((sortS ds).length : Int)) := by
    have := okN_of (show (sortS ds).length ≤ 100000 by omega)
    simp [fLen, this]
  have a1 := allS_len (κ := κ) (sortS ds) hBB
  have s1 := (sev_len (sortS ds).length).2
  have ok : okN ((sev (sortS ds).length).length + (allS (sortS ds)).length) = true := okN_of (by omega)
  have dl := dict_loop (g0 := []) (sl := [some (.d (.list ds)), some (.d (kd κ)), some (.d (.list (sortS ds))), none, none, none, none]) hBP b2 rfl (by omega) (sortS ds) [] 100000 0 rfl rfl (by omega)
  obtain ⟨y5, el⟩ := ext_loop (ds0 := ds) (x0 := some (.d (.list ds))) (x1 := some (.d (kd κ))) (x2 := some (.d (.list (sortS ds)))) (x4 := none) (g0 := []) hBP (by omega) ds [] (sev (sortS ds).length ++ allS (sortS ds)) 100000 0 none rfl rfl (by omega) (fun x hx => (b1 x).mpr hx) (by simp; omega)
  have hc : ds.length + 1 < 4096 := by omega
  unfold bookS
  generalize hBs : sortS ds = B at *
  generalize B.filterMap leafD = ks at *
  generalize (List.range' 0 B.length).map (fun i => W.d (.int ((i : Nat) : Int))) = ws at *
  simp only [List.filterMap_nil, List.length_nil, List.nil_append, List.range'_zero, List.map_nil] at dl
  generalize hK : kd κ = K at *
  generalize IL (sev B.length ++ allS B ++ bookE B ds) = R at *
  simp only [IL] at lg pl
  unfold dGD Q.m__write_book Q.b__write_book
  generalize (100000 : Nat) = NN at dl el ⊢
  have ea : IL (sev B.length ++ allS B) = List.map PyData.int (sev B.length) ++ List.map PyData.int (allS B) := List.map_append
  rw [ea] at el
  have ok' : okN ((List.map PyData.int (sev B.length)).length + (List.map PyData.int (allS B)).length) = true := by simpa using ok
  generalize List.map PyData.int (sev B.length) = u1 at *
  generalize List.map PyData.int (allS B) = u2 at *
  simp only [List.map_cons, List.map_nil, runG_ap, initG, hSeq_ap, hAsg_ap, gOf_ap, eSortS_ap, eV_ap, pur_cons, pur_nil, toL_d, toL_none, hB, gB, List.length_cons, List.length_nil, List.replicate, List.cons_append, List.nil_append, List.getElem?_cons_zero, List.getElem?_cons_succ, Option.bind_some, as, hc, and_self, if_true, hgN_ap, hBs, List.set_cons_succ, List.set_cons_zero, gDc, giOf_ap, iEn_ap, wipeG, dl, toL_rf, fl]
  simp [-List.map_map, -List.map_append, hB, lg, pl, fl, ok', el, iceW, pures_d]
end QM


namespace QM
open PySem PySem.Spec L2 Dm
theorem found_step {κ : Nat} {F : List D} {x : D} (hF : ∀ f ∈ F, PV κ f) (hx : PV κ x) (hl : F.length ≤ 1000) {x0 x3 : Option L} : Q.l__law_book_0 [x0, some (.own F), some (.dat x), x3] = some (.nx [x0, some (.own (if spr F.getLast? x = true then F else F ++ [x])), some (.dat x), x3]) := by
  have e0 := cEq_nil7 (κ := κ) (ds := F) fun f hf => .inr (hF f hf)
  have ok : okN F.length = true := okN_of (by omega)
  cases F with
  | nil => simp [Q.l__law_book_0, e0, spr]
  | cons f F =>
    obtain ⟨q, hq⟩ : ∃ q, (f :: F).getLast? = some q := ⟨_, List.getLast?_eq_some_getLast (by simp)⟩
    obtain ⟨g1, g2⟩ := last_at hq []
    rw [List.append_nil] at g2
    have hqB : PV κ q := hF q (List.mem_of_getElem? g2)
    obtain ⟨q1, q2, q3⟩ := sm_eq hqB hx
    obtain ⟨r1, r2, r3⟩ := sm_eq hx hqB
    have a1 : atI (f :: F) (((f :: F).length : Int) - 1) = some q := by
      rw [show ((f :: F).length : Int) - 1 = (((f :: F).length - 1 : Nat) : Int) by omega, Dm.atI_nat, g2]
    rw [hq]
    have hsm : sm q x = sm x q := by
      cases h1 : sm q x with
      | true =>
        have := q3.mp h1
        exact (r3.mpr this.symm).symm
      | false =>
        cases h2 : sm x q with
        | true =>
          have := r3.mp h2
          rw [q3.mpr this.symm] at h1
          cases h1
        | false => rfl
    rw [hsm] at q2
    have e0' : cEq (.list (f :: F)) (.list []) = some (.bool false) := e0
    show Q.l__law_book_0 _ = some (.nx [x0, some (.own (if sm x q = true then f :: F else f :: F ++ [x])), some (.dat x), x3])
    generalize f :: F = G at *
    cases hs : sm x q with
    | true =>
      rw [hs] at q2
      simp [Q.l__law_book_0, e0', a1, q2]
    | false =>
      rw [hs] at q2
      simp [Q.l__law_book_0, e0', a1, q2, ok]
theorem dd_loop {κ : Nat} {x0 x3 : Option L} : ∀ (xs F : List D) (x2 : Option L), (∀ x ∈ xs, PV κ x) → (∀ f ∈ F, PV κ f) → F.length + xs.length ≤ 1000 →
    ∃ y2, forL (gN 2) Q.l__law_book_0 xs [x0, some (.own F), x2, x3] = some (.nx [x0, some (.own (F ++ dd F.getLast? xs)), y2, x3])
  | [], F, x2, _, _, _ => ⟨x2, by simp [dd]⟩
  | x :: xs, F, x2, h, hF, hl => by
    have hx := h x List.mem_cons_self
    have hr : ∀ y ∈ xs, PV κ y := fun y hy => h y (List.mem_cons_of_mem _ hy)
    simp only [List.length_cons] at hl
    have st := found_step hF hx (by omega) (x0 := x0) (x3 := x3)
    have se := spr_eq (p := F.getLast?) (fun q e => hF q (List.mem_of_getLast? e)) hx
    by_cases hs : spr F.getLast? x = true
    · rw [if_pos hs] at st
      obtain ⟨y2, ih⟩ := dd_loop (x0 := x0) (x3 := x3) xs F (some (.dat x)) hr hF (by omega)
      refine ⟨y2, ?_⟩
      have e1 : dd F.getLast? (x :: xs) = dd F.getLast? xs := by
        rw [se.mp hs]
        conv => lhs; unfold dd
        rw [← se.mp hs, if_pos hs, se.mp hs]
      rw [e1, forL_nx (by rfl) st, ih]
    · rw [if_neg hs] at st
      obtain ⟨y2, ih⟩ := dd_loop (x0 := x0) (x3 := x3) xs (F ++ [x]) (some (.dat x)) hr (fun f hf => by
        rcases List.mem_append.mp hf with hf | hf
        · exact hF f hf
        · rw [List.mem_singleton.mp hf]
          exact hx) (by simp; omega)
      refine ⟨y2, ?_⟩
      have e1 : dd F.getLast? (x :: xs) = x :: dd (some x) xs := by
        conv => lhs; unfold dd
        rw [if_neg hs]
      have e2 : (F ++ [x]).getLast? = some x := by simp
      rw [e2, List.append_assoc, List.cons_append, List.nil_append] at ih
      rw [e1, forL_nx (by rfl) st, ih]
theorem mindex_ok {κ : Nat} {B : List D} {x : D} (h : ∀ d ∈ B, PV κ d) (hx : x ∈ B) : mIndexA (.list B) [x] = some (.int (pos B x : Int)) := by
  have as : allSame (x :: B) = true := all_same (κ := κ) fun d hd => by
    rcases List.mem_cons.mp hd with rfl | hd
    · exact h _ hx
    · exact h d hd
  show (if _ then _ else _) = _
  rw [if_pos as, (pos_lt h hx).2]
  rfl
theorem idx_loop {κ : Nat} {x0 : Option L} {B : List D} (hB : ∀ x ∈ B, PV κ x) (hl : B.length ≤ 1000) : ∀ (es : List D) (acc : List Int) (x2 : Option L), (∀ x ∈ es, x ∈ B) → acc.length + 10 * es.length ≤ 100000 →
    ∃ y2, forL (gN 2) Q.l__law_book_1 es [x0, some (.dat (.list B)), x2, some (.dat (.list (IL acc)))] = some (.nx [x0, some (.dat (.list B)), y2, some (.dat (.list (IL (acc ++ bookE B es))))])
  | [], acc, x2, _, _ => ⟨x2, by simp [bookE]⟩
  | d :: es, acc, x2, hin, ha => by
    simp only [List.length_cons] at ha
    have hd := hin d List.mem_cons_self
    have sl := (sev_len (pos B d)).2
    obtain ⟨y2, ih⟩ := idx_loop (x0 := x0) hB hl es (acc ++ sev (pos B d)) (some (.dat d)) (fun x hx => hin x (List.mem_cons_of_mem _ hx)) (by simp; omega)
    refine ⟨y2, ?_⟩
    have e1 : bookE B (d :: es) = sev (pos B d) ++ bookE B es := by simp [bookE]
    rw [e1, ← List.append_assoc, ← ih]
    have mi := mindex_ok hB hd
    have pl := (pos_lt hB hd).1
    have h63 : 1000 < (2 : Nat) ^ 63 := by decide
    have lg := sevens (n := pos B d) (by omega)
    have ad := add_il (a := acc) (b := sev (pos B d)) (by omega)
    generalize pos B d = p at *
    exact forL_nx (by rfl) (by simp [Q.l__law_book_1, mi, lg, ad])
theorem law_book {κ : Nat} {ds : List D} (h : ∀ d ∈ ds, BV κ d) (hl : ds.length ≤ 256) : Q.m__law_book [.list ds] = some (.list (IL (bookS ds))) := by
  have hP : ∀ d ∈ ds, PV κ d := fun d hd => BV_PV (h d hd)
  obtain ⟨b1, b2, b3⟩ := book_facts hP
  have as := all_same hP
  have hBB : ∀ x ∈ sortS ds, BV κ x := fun x hx => h x ((b1 x).mp hx)
  have hBP : ∀ x ∈ sortS ds, PV κ x := fun x hx => BV_PV (hBB x hx)
  have pm : (sortA ds).Perm ds := List.mergeSort_perm ..
  have hsl : (sortA ds).length = ds.length := pm.length_eq
  obtain ⟨y2, dl⟩ := dd_loop (κ := κ) (x0 := some (.dat (.list ds))) (x3 := none) (sortA ds) [] none (fun x hx => hP x (pm.mem_iff.mp hx)) (fun f hf => by cases hf) (by simp; omega)
  rw [List.getLast?_nil, List.nil_append, dd_sort hP] at dl
  have pl := law_all hBB (by omega)
  have h63 : 1000 < (2 : Nat) ^ 63 := by decide
  have lg := sevens (n := (sortS ds).length) (by omega)
  have a1 := allS_len (κ := κ) (sortS ds) hBB
  have s1 := (sev_len (sortS ds).length).2
  have ad := add_il (a := sev (sortS ds).length) (b := allS (sortS ds)) (by omega)
  obtain ⟨y2', el⟩ := idx_loop (x0 := some (.dat (.list ds))) hBP (by omega) ds (sev (sortS ds).length ++ allS (sortS ds)) y2 (fun x hx => (b1 x).mpr hx) (by simp; omega)
  have sa : fSortA [.list ds] = some (.list (sortA ds)) := by
    show (if _ then _ else _) = _
    rw [if_pos as]
  unfold bookS
  generalize sortS ds = B at *
  generalize sortA ds = SA at *
  generalize IL (sev B.length ++ allS B ++ bookE B ds) = R at *
  generalize IL (sev B.length ++ allS B) = R1 at *
  simp [Q.m__law_book, Q.b__law_book, sa, dl, lg, pl, ad, el]
end QM


namespace QM
open PySem PySem.Spec L2 Dm
/-- as drawn: texts and numbers are short -/
def CB (κ : Nat) (d : D) : Prop := d = .none ∨ (κ = 0 ∧ ∃ i : Int, d = .int i ∧ i.natAbs < 10 ^ 18) ∨ (κ = 1 ∧ ∃ l : List Nat, d = .str ⟨l.toArray⟩ ∧ l.length ≤ 100 ∧ ∀ c ∈ l, c ∈ SGL) ∨ (κ = 2 ∧ ∃ p, d = .bool p)
theorem e18 {i : Int} (h : i.natAbs < 1000000000000000000) : i.natAbs < 10 ^ 18 := h
theorem worthB {κ : Nat} (hκ : κ < 3) {ds : List Int} (hd : Drawn ds) (hl : 14 ≤ ds.length) (hl2 : ds.length ≤ 100) : ∃ t, Q.m__law_worth_v1 [kd κ, .list (ds.map PyData.int)] = some t ∧ CB κ t := by
  have g0 := at_int (ds := ds) (j := 0) (by omega)
  have g1 := at_int (ds := ds) (j := 1) (by omega)
  have q0 := hd _ (List.getElem_mem (show 0 < ds.length by omega))
  have q1 := hd _ (List.getElem_mem (show 1 < ds.length by omega))
  obtain ⟨i, hi, hib⟩ := law_int9 hd (a := 1) (by omega)
  have hi' : Q.m__law_int [.list (ds.map PyData.int), .int 1] = some (.int i) := hi
  have hlen : 0 < (cutL ds (some 5) none).length := by
    unfold cutL HT.sIx
    simp
    omega
  have hlen2 := cutL_len (ds := ds) (lo := some 5) (hi := none)
  generalize ds[0] = d0 at g0 q0
  generalize ds[1] = d1 at g1 q1
  obtain ⟨l, e1, e2, e3⟩ := text (ds := cutL ds (some 5) none) (drawn_cut hd _ _) hlen (by omega) (n := (d1 % 9).toNat) (by omega)
  rw [show (((d1 % 9).toNat : Nat) : Int) = d1 % 9 by omega, ← cutD_map] at e3
  have g0' : atI (ds.map PyData.int) 0 = some (.int d0) := by
    rw [atI_pos (by omega)]
    exact g0
  have g1' : atI (ds.map PyData.int) 1 = some (.int d1) := by
    rw [atI_pos (by omega)]
    exact g1
  obtain ⟨k1, k2, k3, k4, k5, k6⟩ := kE
  generalize ds.map PyData.int = Lx at g0 g1 g0' g1' hi' e3 ⊢
  by_cases a0 : d0 % 6 = 0
  · exact ⟨.none, by simp [Q.m__law_worth_v1, Q.b__law_worth_v1, g0', g0, a0], .inl rfl⟩
  have hκ : κ = 0 ∨ κ = 1 ∨ κ = 2 := by omega
  rcases hκ with rfl | rfl | rfl
  · by_cases a4 : d0 % 6 < 4
    · exact ⟨.int (d1 % 5 - 2), by simp [Q.m__law_worth_v1, Q.b__law_worth_v1, g0, g0', g1, g1', a0, a4, kd, k4], .inr (.inl ⟨rfl, _, rfl, e18 (by omega)⟩)⟩
    · exact ⟨.int i, by simp [Q.m__law_worth_v1, Q.b__law_worth_v1, g0, g0', g1, g1', a0, a4, kd, k4, hi'], .inr (.inl ⟨rfl, i, rfl, hib⟩)⟩
  · by_cases a4 : d0 % 6 < 4
    · obtain ⟨t, ht, hm⟩ := mem_of_at (xs := [PyData.str "", .str "a", .str "ab", .str "b", .str "A", .str " ", .str "a "]) (i := d1 % 7) (by omega) (by simp; omega)
      obtain ⟨u, u1, u2, u3⟩ := worths t hm
      exact ⟨t, by simp [Q.m__law_worth_v1, Q.b__law_worth_v1, g0, g0', g1, g1', a0, a4, kd, k1, k3, ht], .inr (.inr (.inl ⟨rfl, u, u1, by omega, u3⟩))⟩
    · exact ⟨.str ⟨l.toArray⟩, by simp [Q.m__law_worth_v1, Q.b__law_worth_v1, g0, g0', g1, g1', a0, a4, kd, k1, k3, e3], .inr (.inr (.inl ⟨rfl, l, rfl, by omega, e2⟩))⟩
  · exact ⟨.bool (decide (d1 % 2 = 1)), by simp [Q.m__law_worth_v1, Q.b__law_worth_v1, g0, g0', g1, g1', a0, kd], .inr (.inr (.inr ⟨rfl, _, rfl⟩))⟩
theorem column_stepB {κ : Nat} (hκ : κ < 3) {s Sh : D} {d0 : Int} (h0 : ixD Sh (.int 0) = some (.int d0)) (hd0 : d0 % 3 = (κ : Int)) {n k : Nat} (hk : k < n) (hn : n ≤ 256) {cv : Int} (hc : Builtin.Int.intBits cv ≤ 1048576)
    (hcell : Q.m__law_cell [s, .int (1 + (k : Int) % 60)] = some (.int cv)) {vs : List D} (hv : ∀ v ∈ vs, CB κ v) (hl : vs.length = k) {x6 x7 : Option L} :
    ∃ (v : D) (y6 : Option L), CB κ v ∧ Q.l__law_column_0 [some (.dat s), some (.dat Sh), some (.dat (kd κ)), some (.dat (.int (n : Int))), some (.own vs), some (.dat (.int (k : Int))), x6, x7] = some (.nx [some (.dat s), some (.dat Sh), some (.dat (kd κ)), some (.dat (.int (n : Int))), some (.own (vs ++ [v])), some (.dat (.int (k : Int))), y6, x7]) := by
  have hm : opMul (.int ((k : Int) / 60)) (.int 17) = some (.int ((k : Int) / 60 * 17)) := opMul_ok (by
    have := small_bits (i := 17) (by decide)
    have := small_bits (i := (k : Int) / 60) (by
      have : (2 : Nat) ^ 100 = 1267650600228229401496703205376 := by decide
      omega)
    omega)
  have hb : Builtin.Int.intBits (cv + (k : Int) / 60 * 17) ≤ 2000000 := by
    have := bits_add (k := 1048576) (by omega) hc (b := (k : Int) / 60 * 17) (by
      have : (2 : Nat) ^ 100 = 1267650600228229401496703205376 := by decide
      omega)
    omega
  obtain ⟨ds, g1, g2, g3⟩ := draws (c := cv + (k : Int) / 60 * 17) (n := 14) hb (by omega)
  have g1' : Q.m__law_draws [.int (cv + (k : Int) / 60 * 17), .int 14] = some (.list (ds.map PyData.int)) := g1
  have p1 := at_int (ds := ds) (j := 1) (by omega)
  have p13 := at_int (ds := ds) (j := 13) (by omega)
  have q1 := (g3 _ (List.getElem_mem (show 1 < ds.length by omega))).1
  obtain ⟨w, hw1, hw2⟩ := worthB hκ g3 (by omega) (by omega)
  generalize ds[1] = d1 at p1 q1
  generalize ds[13] = d13 at p13
  generalize ds.map PyData.int = Lx at *
  have hok : okN vs.length = true := okN_of (by omega)
  by_cases a0 : d13 % 3 = 0 ∧ 0 < k
  · obtain ⟨a1, a2⟩ := a0
    have a2' : (0 : Int) < (k : Int) := by omega
    have hx : atI vs ((k : Int) - 1) = some (vs[k - 1]'(by omega)) := by
      rw [show (k : Int) - 1 = ((k - 1 : Nat) : Int) by omega, Dm.atI_nat, List.getElem?_eq_getElem (by omega)]
    refine ⟨vs[k - 1]'(by omega), some (.dat (.list Lx)), hv _ (List.getElem_mem _), ?_⟩
    generalize vs[k - 1]'(by omega) = v at *
    simp [-opMul_small, Q.l__law_column_0, hcell, hm, g1', p13, a1, a2, hx, hok]
  · have first : ∀ a b : Ev → Option Out, (sIf (tAnd (tB (e2 cEq (e2 opMod (eB fInt (aC (e2 ixD (eV 6) (eC (.int 13))) aN)) (eC (.int 3))) (eC (.int 0)))) (tB (e2 cGt (eV 5) (eC (.int 0))))) a b) [some (.dat s), some (.dat Sh), some (.dat (kd κ)), some (.dat (.int (n : Int))), some (.own vs), some (.dat (.int (k : Int))), some (.dat (.list Lx)), x7] = b [some (.dat s), some (.dat Sh), some (.dat (kd κ)), some (.dat (.int (n : Int))), some (.own vs), some (.dat (.int (k : Int))), some (.dat (.list Lx)), x7] := fun a b => by
      by_cases a1 : d13 % 3 = 0
      · have a2 : ¬ 0 < k := fun z => a0 ⟨a1, z⟩
        simp [p13, a1, a2]
      · simp [p13, a1]
    have start : ∀ b : Ev → Option Out, (sSeq (sSet 6 (eCall 2 Q.m__law_draws (aC (e2 opAdd (eCall 2 Q.m__law_cell (aC (eV 0) (aC (e2 opAdd (eC (.int 1)) (e2 opMod (eV 5) (eC (.int 60)))) aN))) (e2 opMul (e2 opDiv (eV 5) (eC (.int 60))) (eC (.int 17)))) (aC (eC (.int 14)) aN)))) b) [some (.dat s), some (.dat Sh), some (.dat (kd κ)), some (.dat (.int (n : Int))), some (.own vs), some (.dat (.int (k : Int))), x6, x7] = b [some (.dat s), some (.dat Sh), some (.dat (kd κ)), some (.dat (.int (n : Int))), some (.own vs), some (.dat (.int (k : Int))), some (.dat (.list Lx)), x7] := fun b => by
      simp [-opMul_small, hcell, hm, g1']
    by_cases b0 : 40 < n ∧ d13 % 3 = 1
    · obtain ⟨b1, b2⟩ := b0
      have b1' : (40 : Int) < (n : Int) := by omega
      have hsl := slice_tx (l := [97, 98]) (lo := none) (hi := some (d1 % 3)) (by simp)
      rw [← ab_tx] at hsl
      have hκ3 : κ = 0 ∨ κ = 1 ∨ κ = 2 := by omega
      rcases hκ3 with rfl | rfl | rfl
      · refine ⟨.int (d1 % 4), some (.dat (.list Lx)), .inr (.inl ⟨rfl, _, rfl, e18 (by omega)⟩), ?_⟩
        have hd0' : d0 % 3 = 0 := hd0
        unfold Q.l__law_column_0
        rw [start, first]
        simp [p13, p1, b1', b2, h0, hd0', hsl, hok]
      · refine ⟨.str ⟨(cutL [97, 98] none (some (d1 % 3))).toArray⟩, some (.dat (.list Lx)), .inr (.inr (.inl ⟨rfl, _, rfl, by have := cutL_len (ds := [97, 98]) (lo := none) (hi := some (d1 % 3)); simp at this; omega, fun c hc => ab_in c (cutL_mem hc)⟩)), ?_⟩
        have hd0' : d0 % 3 = 1 := hd0
        generalize (cutL [97, 98] none (some (d1 % 3))).toArray = qa at *
        unfold Q.l__law_column_0
        rw [start, first]
        simp [p13, p1, b1', b2, h0, hd0', hsl, hok]
      · refine ⟨.bool (decide (d1 % 2 = 0)), some (.dat (.list Lx)), .inr (.inr (.inr ⟨rfl, _, rfl⟩)), ?_⟩
        have hd0' : d0 % 3 = 2 := hd0
        unfold Q.l__law_column_0
        rw [start, first]
        simp [p13, p1, b1', b2, h0, hd0', hsl, hok]
    · refine ⟨w, some (.dat (.list Lx)), hw2, ?_⟩
      unfold Q.l__law_column_0
      rw [start, first]
      by_cases b1 : 40 < n
      · have b2 : ¬ d13 % 3 = 1 := fun z => b0 ⟨b1, z⟩
        have b1' : (40 : Int) < (n : Int) := by omega
        simp [p13, b1', b2, hw1, hok]
      · have b1' : ¬ (40 : Int) < (n : Int) := by omega
        simp [b1', hw1, hok]
theorem columnB {κ : Nat} (hκ : κ < 3) {s : D} {Sh : D} {d0 d1 d2 : Int} (h0 : ixD Sh (.int 0) = some (.int d0)) (h1 : ixD Sh (.int 1) = some (.int d1)) (h2 : ixD Sh (.int 2) = some (.int d2)) (q1 : 0 ≤ d1) (hd0 : d0 % 3 = (κ : Int))
    (hkd : atI [PyData.str "int", .str "text", .str "bool"] (d0 % 3) = some (kd κ)) (hcell : ∀ k : Nat, ∃ cv : Int, Builtin.Int.intBits cv ≤ 1048576 ∧ Q.m__law_cell [s, .int (k : Int)] = some (.int cv)) : ∃ vs : List D, Q.m__law_column [s, Sh] = some (.list vs) ∧ vs.length ≤ 256 ∧ ∀ v ∈ vs, CB κ v := by
  obtain ⟨n, hn1, hn2⟩ := size14 q1
  obtain ⟨ρ', e1, x5, x6, x7, vs, e2, hv, hl⟩ := forR_inv (g := gN 5) (b := Q.l__law_column_0) (n := n) (ρ := [some (.dat s), some (.dat Sh), some (.dat (kd κ)), some (.dat (.int (n : Int))), some (.own []), none, none, none])
    (fun k ρ => ∃ (x5 x6 x7 : Option L) (vs : List D), ρ = [some (.dat s), some (.dat Sh), some (.dat (kd κ)), some (.dat (.int (n : Int))), some (.own vs), x5, x6, x7] ∧ (∀ v ∈ vs, CB κ v) ∧ vs.length = k)
    (fun k ρ hk ⟨x5, x6, x7, vs, e, hv, hl⟩ => by
      subst e
      obtain ⟨cv, c1, c2⟩ := hcell (1 + k % 60)
      rw [show ((1 + k % 60 : Nat) : Int) = 1 + (k : Int) % 60 by omega] at c2
      obtain ⟨v, y6, hv2, t⟩ := column_stepB hκ h0 hd0 hk hn2 c1 c2 hv hl (x6 := x6) (x7 := x7)
      refine ⟨_, _, rfl, t, _, _, _, _, rfl, fun u hu => ?_, by simp [hl]⟩
      rcases List.mem_append.mp hu with q | q
      · exact hv u q
      · rw [List.mem_singleton.mp q]
        exact hv2)
    ⟨none, none, none, [], rfl, (fun _ h => by cases h), rfl⟩
  subst e2
  have hr : rng1 (n : Int) = some (rangeD 0 n) := rng1_ok (by omega) (by omega)
  have hok : okN vs.length = true := okN_of (by omega)
  by_cases a0 : d2 % 12 = 0
  · refine ⟨vs.map fun _ => .none, ?_, by simp; omega, fun v hv2 => ?_⟩
    · have hc := lc_const (i := 7) (ρ := ([some (.dat s), some (.dat Sh), some (.dat (kd κ)), some (.dat (.int (n : Int))), some (.dat (.list vs)), x5, x6, x7] : Ev)) .none vs
      generalize vs.map (fun _ => PyData.none) = us at *
      simp [Q.m__law_column, Q.b__law_column, h0, hkd, h1, hn1, hr, e1, h2, a0, hok, hc]
    · obtain ⟨x, _, rfl⟩ := List.mem_map.mp hv2
      exact .inl rfl
  by_cases a1 : d2 % 12 = 1
  · refine ⟨there vs, ?_, by have := there_len vs; omega, fun v hv2 => hv v (List.mem_filter.mp hv2).1⟩
    have hc := lc_there (i := 7) (ρ := ([some (.dat s), some (.dat Sh), some (.dat (kd κ)), some (.dat (.int (n : Int))), some (.dat (.list vs)), x5, x6, x7] : Ev)) (by simp) vs
    generalize there vs = us at *
    simp [Q.m__law_column, Q.b__law_column, h0, hkd, h1, hn1, hr, e1, h2, a1, hok, hc]
  · exact ⟨vs, by simp [Q.m__law_column, Q.b__law_column, h0, hkd, h1, hn1, hr, e1, h2, a0, a1], by omega, hv⟩

end QM


namespace QM
open PySem PySem.Spec L2 Dm
/-- a cell that a column may hold -/
def CC (κ : Nat) (d : D) : Prop := d = .none ∨ (κ = 0 ∧ ∃ i : Int, d = .int i ∧ i.natAbs < 10 ^ 18) ∨ (κ = 1 ∧ ∃ l : List Nat, d = .str ⟨l.toArray⟩ ∧ l.length ≤ 200 ∧ ∀ c ∈ l, c ∈ SGL) ∨ (κ = 2 ∧ ∃ p, d = .bool p)
theorem CB_CC {κ : Nat} {d : D} (h : CB κ d) : CC κ d := by
  rcases h with h | h | ⟨k, l, h, h1, h2⟩ | h
  · exact .inl h
  · exact .inr (.inl h)
  · exact .inr (.inr (.inl ⟨k, l, h, by omega, h2⟩))
  · exact .inr (.inr (.inr h))
theorem CC_NV {κ : Nat} {d : D} (h : CC κ d) : NV κ d := by
  rcases h with h | ⟨k, i, h, _⟩ | ⟨k, l, h, h1, h2⟩ | h
  · exact .inl h
  · exact .inr (.inl ⟨k, i, h⟩)
  · exact .inr (.inr (.inl ⟨k, l, h, by omega, h2⟩))
  · exact .inr (.inr (.inr h))
theorem CC_BV {κ : Nat} {d : D} (h : CC κ d) (hn : isNon d = false) : BV κ d := by
  rcases h with h | ⟨k, i, h, hi⟩ | ⟨k, l, h, h1, h2⟩ | h
  · subst h; cases hn
  · refine .inl ⟨k, i, h, ?_⟩
    have : (10 : Nat) ^ 18 ≤ 2 ^ 61 := by decide
    omega
  · exact .inr (.inl ⟨k, l, h, by omega, h2⟩)
  · exact .inr (.inr h)
theorem CC_val {κ : Nat} {d : D} (hκ : κ < 3) (h : CC κ d) : Q.m_is_value [d, kd κ] = some (.bool true) := by
  have h18 : (10 : Nat) ^ 18 = 1000000000000000000 := by decide
  rcases h with h | ⟨k, i, h, hi⟩ | ⟨k, l, h, h1, h2⟩ | ⟨k, p, h⟩ <;> subst h
  · rw [is_value (.inl rfl) hκ]; rfl
  · rw [is_value (.inr (.inr (.inl ⟨i, rfl⟩))) hκ]
    subst k
    rw [h18] at hi
    have a : -1000000000000000000 < i := by omega
    have b : i < 1000000000000000000 := by omega
    simp [isVal, a, b]
  · rw [is_value (.inr (.inr (.inr (.inl ⟨l, rfl, by omega, fun c hc => .inl (h2 c hc)⟩)))) hκ]
    subst k
    have : okT l = true := by
      unfold okT
      rw [decide_eq_true h1, Bool.true_and, List.all_eq_true]
      exact fun c hc => decide_eq_true (h2 c hc)
    simp [isVal, this]
  · rw [is_value (.inr (.inl ⟨p, rfl⟩)) hκ]
    subst k
    rfl
theorem there_BV {κ : Nat} {ds : List D} (h : ∀ d ∈ ds, CC κ d) : ∀ d ∈ there ds, BV κ d := fun d hd => by
  obtain ⟨h1, h2⟩ := List.mem_filter.mp hd
  exact CC_BV (h d h1) (by simpa using h2)
/-- the numbers of a column of numbers -/
def intD : D → Int
  | .int i => i
  | _ => 0
theorem there_int {ds : List D} (h : ∀ d ∈ ds, CC 0 d) : there ds = IL ((there ds).map intD) ∧ ∀ v ∈ (there ds).map intD, Sm v := by
  have key : ∀ d ∈ there ds, ∃ i : Int, d = .int i ∧ i.natAbs < 10 ^ 18 := fun d hd => by
    obtain ⟨h1, h2⟩ := List.mem_filter.mp hd
    rcases h d h1 with e | ⟨_, i, e, hi⟩ | ⟨k, _⟩ | ⟨k, _⟩
    · subst e; cases h2
    · exact ⟨i, e, hi⟩
    · cases k
    · cases k
  constructor
  · rw [IL, List.map_map]
    conv => lhs; rw [← List.map_id (there ds)]
    apply List.map_congr_left
    intro d hd
    obtain ⟨i, e, _⟩ := key d hd
    subst e
    rfl
  · intro v hv
    obtain ⟨d, hd, e⟩ := List.mem_map.mp hv
    obtain ⟨i, e2, hi⟩ := key d hd
    subst e2
    subst e
    have : (10 : Nat) ^ 18 ≤ 2 ^ 60 := by decide
    unfold Sm intD
    simp only
    omega
def kx (κ : Nat) : Int := match κ with
  | 0 => 1
  | 1 => 2
  | _ => 0
def bodyS (p : Nat) (T : List D) : List Int := match p with
  | 0 => allS T
  | 1 => runsS T
  | 2 => bookS T
  | 3 => stepsS (T.map intD)
  | _ => nearS (T.map intD)
def headS (κ p : Nat) (ds : List D) : List Int := [kx κ, (p : Int)] ++ sev ds.length
def packedS (κ p : Nat) (ds : List D) : List Int := headS κ p ds ++ maskS ds ++ bodyS p (there ds)
def pks (κ : Nat) : Nat := if κ = 0 then 5 else 3
theorem allS_ints (vs : List Int) : (allS (IL vs)).length ≤ 10 * vs.length := by
  induction vs with
  | nil => exact Nat.zero_le _
  | cons v vs ih =>
    have := (sgn_len v).2
    simp [allS, one] at ih ⊢
    omega
theorem body_len {κ p : Nat} {T : List D} (h : ∀ d ∈ T, BV κ d) (hl : T.length ≤ 256) : (bodyS p T).length ≤ 90000 := by
  have hP : ∀ d ∈ T, PV κ d := fun d hd => BV_PV (h d hd)
  obtain ⟨b1, b2, b3⟩ := book_facts hP
  have e0 := allS_len (κ := κ) T h
  have e1 := allS_len (κ := κ) (sortS T) fun x hx => h x ((b1 x).mp hx)
  have e2 := runsE_len (κ := κ) (lr none T) fun r hr => h _ (lr_mem hr).1
  have e3 := lr_len none T
  have e4 := (sev_len (lr none T).length).2
  have e5 := (sev_len (sortS T).length).2
  have e6 := bookE_len (sortS T) T
  match p with
  | 0 => simp only [bodyS]; omega
  | 1 => simp only [bodyS, runsS, List.length_append]; omega
  | 2 => simp only [bodyS, bookS, List.length_append]; omega
  | 3 =>
    have := allS_ints (diffs 0 (T.map intD))
    have := diffs_len 0 (T.map intD)
    simp only [bodyS, stepsS]
    simp at *
    omega
  | p + 4 =>
    have h1 := nearE_len (minL (T.map intD)) (T.map intD)
    have h2 := (sgn_len (minL (T.map intD))).2
    simp only [bodyS, nearS]
    split
    · simp
    · simp at *
      omega
theorem mask_len {ds : List D} (hl : ds.length ≤ 256) : (maskS ds).length ≤ 40 := by
  simp [maskS, maskL]
  omega
theorem look_w {i : Nat} {g : Str} {a : Ev → Option (List D)} {fs : List (Str × Nat × (List D → Option D))} {ρ : Ev} {m : List D → Option D} {ds : List D} (h1 : eV i ρ = some (fnD g)) (h2 : a ρ = some ds) (h3 : look g fs = some (ds.length, m)) : eWork i fs a ρ = m ds := by
  rw [eWork_ap, h1, h2]
  simp only [Option.bind_some]
  have : fnOf? (fnD g) = some g := by rfl
  rw [this]
  simp only [Option.bind_some, h3, if_true]
theorem write_values {κ p : Nat} {T : List D} (h : ∀ d ∈ T, BV κ d) (hi : κ = 0 → T = IL (T.map intD) ∧ ∀ v ∈ T.map intD, Sm v) (hl : T.length ≤ 256) (hp : p < pks κ) : Q.m_write_values [.list T, kd κ, .int (p : Int)] = some (.list (IL (bodyS p T))) := by
  have e0 := plain h (by omega)
  have e1 := write_runs h hl
  have e2 := write_book h hl
  have go : ∀ (g : Str) (m : List D → Option D), atI [fnD "_write_plain", fnD "_write_runs", fnD "_write_book", fnD "_write_steps", fnD "_write_near"] (p : Int) = some (fnD g) → look g [(("_write_plain" : Str), 2, Q.m__write_plain), (("_write_runs" : Str), 2, Q.m__write_runs), (("_write_book" : Str), 2, (dGD Q.m__write_book)), (("_write_steps" : Str), 2, Q.m__write_steps), (("_write_near" : Str), 2, Q.m__write_near)] = some (2, m) → m [.list T, kd κ] = some (.list (IL (bodyS p T))) → Q.m_write_values [.list T, kd κ, .int (p : Int)] = some (.list (IL (bodyS p T))) := fun g m h1 h2 h3 => by
    have lk := look_w (i := 3) (g := g) (a := aC (eV 0) (aC (eV 1) aN)) (ρ := [some (.dat (.list T)), some (.dat (kd κ)), some (.dat (.int (p : Int))), some (.dat (fnD g))]) (m := m) (ds := [.list T, kd κ]) rfl rfl h2
    generalize kd κ = K at *
    generalize fnD g = G at *
    simp [-eWork_ap, Q.m_write_values, Q.b_write_values, Q.k_WRITERS, h1]
    rw [lk, h3]
    rfl
  have hp5 : p = 0 ∨ p = 1 ∨ p = 2 ∨ (κ = 0 ∧ (p = 3 ∨ p = 4)) := by
    unfold pks at hp
    split at hp <;> omega
  rcases hp5 with rfl | rfl | rfl | ⟨rfl, rfl | rfl⟩
  · exact go "_write_plain" _ (by kernel_rfl) (by kernel_rfl) e0
  · exact go "_write_runs" _ (by kernel_rfl) (by kernel_rfl) e1
  · exact go "_write_book" _ (by kernel_rfl) (by kernel_rfl) e2
  · obtain ⟨i1, i2⟩ := hi rfl
    refine go "_write_steps" Q.m__write_steps (by kernel_rfl) (by kernel_rfl) ?_
    conv => lhs; rw [i1]
    exact write_steps i2 (by simpa using hl)
  · obtain ⟨i1, i2⟩ := hi rfl
    refine go "_write_near" Q.m__write_near (by kernel_rfl) (by kernel_rfl) ?_
    conv => lhs; rw [i1]
    exact write_near i2 (by simpa using hl)
end QM


namespace QM
open PySem PySem.Spec L2 Dm
theorem fLen_l {ds : List D} (h : ds.length ≤ 100000) : fLen [.list ds] = some (.int (ds.length : Int)) := by
  have := okN_of h
  simp [fLen, this]
theorem numbers_ok {κ p : Nat} {ds : List D} (h : ∀ d ∈ ds, CC κ d) (hκ : κ < 3) (hl : ds.length ≤ 256) (hp : p < pks κ) : Q.m__numbers [.list ds, kd κ, .int (p : Int)] = some (.list (IL (packedS κ p ds))) := by
  have hT := there_BV h
  have hTl := there_len ds
  have hTl2 : (there ds).length ≤ 256 := by omega
  have wv := write_values (p := p) hT (fun e => by subst e; exact there_int h) hTl2 hp
  have mk := mask hl
  have ml := mask_len hl
  have bl := body_len (p := p) hT hTl2
  have h63 : 256 < (2 : Nat) ^ 63 := by decide
  have lg := long (n := ds.length) (by omega)
  have sl := (sev_len ds.length).2
  have fl := fLen_l (ds := ds) (by omega)
  have okd : okN ds.length = true := okN_of (by omega)
  have ix : mIndexT Q.k_KINDS_BY_NUMBER [kd κ] = some (.int (kx κ)) := by
    have : κ = 0 ∨ κ = 1 ∨ κ = 2 := by omega
    rcases this with rfl | rfl | rfl <;> kernel_rfl
  have hd : opAdd (.list [.int (kx κ), .int (p : Int)]) (.list (IL (sev ds.length))) = some (.list (IL (headS κ p ds))) := add_il (a := [kx κ, (p : Int)]) (by simp; omega)
  have hhl : (headS κ p ds).length = 2 + (sev ds.length).length := by simp [headS]; omega
  have a1 := add_il (a := headS κ p ds) (b := maskS ds) (by omega)
  have a2 := add_il (a := headS κ p ds ++ maskS ds) (b := bodyS p (there ds)) (by simp only [List.length_append]; omega)
  have th := lc_there (i := 5) (ρ := ([some (.dat (.list ds)), some (.dat (kd κ)), some (.dat (.int (p : Int))), some (.dat (.list (IL (headS κ p ds)))), none, none] : Ev)) (by simp) ds
  unfold packedS
  generalize headS κ p ds = H at *
  generalize maskS ds = M at *
  generalize there ds = T at *
  generalize bodyS p T = B at *
  generalize IL (H ++ M ++ B) = R at *
  generalize IL (H ++ M) = R1 at *
  generalize IL H = HH at *
  generalize IL (sev ds.length) = SS at *
  generalize kd κ = K at *
  generalize kx κ = X at *
  simp [Q.m__numbers, Q.b__numbers, ix, fl, lg, hd, okd, th, mk, wv, a1, a2]
theorem col_lc {K : D} {x0 : Option L} : ∀ {ds : List D}, (∀ d ∈ ds, Q.m_is_value [d, K] = some (.bool true)) → lcL 2 tYs (eCall 2 Q.m_is_value (aC (eV 2) (aC (eV 1) aN))) [x0, some (.dat K), none] ds = some (ds.map fun _ => .bool true)
  | [], _ => rfl
  | d :: ds, h => by
    have ih := col_lc (K := K) (x0 := x0) (ds := ds) fun x hx => h x (List.mem_cons_of_mem _ hx)
    have h0 := h d List.mem_cons_self
    simp [lcL, tYs, h0, ih]
theorem boolsT : ∀ ds : List D, fAll [.list (ds.map fun _ => PyData.bool true)] = some (.bool true) := fun ds => by
  have := boolsOf_of (ds.map fun _ => true)
  rw [List.map_map] at this
  show (boolsOf _).bind _ = _
  rw [show (ds.map fun _ => PyData.bool true) = ds.map (PyData.bool ∘ fun _ => true) from rfl, this]
  simp
theorem is_column {κ : Nat} {ds : List D} (hκ : κ < 3) (h : ∀ d ∈ ds, CC κ d) (hl : ds.length ≤ 256) : Q.m__is_column_v1 [.list ds, kd κ] = some (.bool true) := by
  have fl := fLen_l (ds := ds) (by omega)
  have okd : okN ds.length = true := okN_of (by omega)
  have c1 : ¬ (256 : Int) < (ds.length : Int) := by omega
  have kin : cNotIn (kd κ) Q.k_KINDS = some (.bool false) := by
    have : κ = 0 ∨ κ = 1 ∨ κ = 2 := by omega
    rcases this with rfl | rfl | rfl <;> kernel_rfl
  have lc := col_lc (K := kd κ) (x0 := some (.dat (.list ds))) fun d hd => CC_val hκ (h d hd)
  have ba := boolsT ds
  have lt : isDTL (.list ds) = some (.bool true) := by rfl
  generalize kd κ = K at *
  generalize ds.map (fun _ => PyData.bool true) = bs at *
  simp [Q.m__is_column_v1, Q.b__is_column_v1, lt, fl, c1, kin, okd, lc, ba]
def pkD (κ : Nat) : D := if κ = 0 then .tuple [.int 0, .int 1, .int 2, .int 3, .int 4] else .tuple [.int 0, .int 1, .int 2]
theorem packings {κ : Nat} (hκ : κ < 3) : Q.m_packings_of [kd κ] = some (pkD κ) := by
  have : κ = 0 ∨ κ = 1 ∨ κ = 2 := by omega
  rcases this with rfl | rfl | rfl <;> kernel_rfl
theorem pks_cases {κ p : Nat} (hp : p < pks κ) : p = 0 ∨ p = 1 ∨ p = 2 ∨ (κ = 0 ∧ (p = 3 ∨ p = 4)) := by
  unfold pks at hp
  split at hp <;> omega
theorem packed_ok {κ p : Nat} {ds : List D} (h : ∀ d ∈ ds, CC κ d) (hκ : κ < 3) (hl : ds.length ≤ 256) (hp : p < pks κ) : Q.m_packed [.list ds, kd κ, .int (p : Int)] = some (.list (IL (packedS κ p ds))) := by
  have ic := is_column hκ h hl
  have nm := numbers_ok h hκ hl hp
  have po := packings hκ
  have ip : Q.m_is_packing [.int (p : Int)] = some (.bool true) := by
    rcases pks_cases hp with rfl | rfl | rfl | ⟨_, rfl | rfl⟩ <;> kernel_rfl
  have ni : cNotIn (.int (p : Int)) (pkD κ) = some (.bool false) := by
    have : κ = 0 ∨ κ = 1 ∨ κ = 2 := by omega
    rcases this with rfl | rfl | rfl <;> rcases pks_cases hp with rfl | rfl | rfl | ⟨h, rfl | rfl⟩ <;> first
      | (cases h; done)
      | kernel_rfl
  generalize pkD κ = PK at *
  generalize kd κ = K at *
  generalize packedS κ p ds = R at *
  simp [Q.m_packed, Q.b_packed, ic, ip, po, ni, nm]
end QM


namespace QM
open PySem PySem.Spec L2 Dm
def restP : Ev → Option Out := (sSeq (sIf (tB (e2 cEq (eV 2) (eC (.int 1)))) (sIce [3, 7] (sRet (e2 opAdd (eV 3) (eCall 1 Q.m__law_runs (aC (eV 7) aN))))) sNop)
    (sSeq (sIf (tB (e2 cEq (eV 2) (eC (.int 2)))) (sIce [3, 7] (sRet (e2 opAdd (eV 3) (eCall 1 Q.m__law_book (aC (eV 7) aN))))) sNop)
    (sSeq (sIce [7] (sIf (tOr (tB (e2 cEq (eV 2) (eC (.int 0)))) (tB (e2 cEq (eV 7) (eF (fLst aN))))) (sIce [3, 7] (sRet (e2 opAdd (eV 3) (eCall 1 Q.m__law_all (aC (eV 7) aN))))) sNop))
    (sSeq (sIf (tB (e2 cEq (eV 2) (eC (.int 3)))) (sIce [3] (sRet (e2 opAdd (eV 3) (eCall 1 Q.m__law_all (aC (e2 opAdd (eF (fLst (aC (eIxO 7 (eC (.int 0))) aN))) (eF (fLc 6 (iR2 (eC (.int 1)) (eLenO 7)) tYs Q.l__law_packed_2))) aN))))) sNop)
    (sSeq (sIce [3, 7] (sSet 9 (e2 opAdd (eV 3) (eCall 1 Q.m__law_signed (aC (eB fMinL (aC (eV 7) aN)) aN)))))
    (sSeq (sIce [7] (sFor (gN 8) (iA (eV 7)) Q.l__law_packed_3))
    (sRet (eV 9))))))))
theorem cut_packed : Q.b__law_packed = sSeq (sOwn 3 (fAddL (eF (fLst (aC (eM mIndex (eF (fLst (aC (eC (.str "bool")) (aC (eC (.str "int")) (aC (eC (.str "text")) aN))))) (aC (eV 1) aN)) (aC (eV 2) aN)))) (eCall 1 (dGD Q.m__law_sevens) (aC (eB fLen (aC (eV 0) aN)) aN))))
  (sSeq (sFor (gN 4) (iR3 (eC (.int 0)) (eB fLen (aC (eV 0) aN)) (eC (.int 8))) Q.l__law_packed_1)
  (sSeq (sOwn 7 (fLc 8 (iA (eV 0)) (tB (e2 cNotN (eV 8) (eC .none))) (eV 8))) restP)) := rfl
theorem seq_nx {a b : Ev → Option Out} {ρ ρ1 : Ev} (h : a ρ = some (.nx ρ1)) : sSeq a b ρ = b ρ1 := by
  rw [sSeq_ap, h]
  rfl
theorem iR3_go {m m2 m3 : Ev → Option D} {ρ : Ev} {i j c : Int} (h1 : m ρ = some (.int i)) (h2 : m2 ρ = some (.int j)) (h3 : m3 ρ = some (.int c)) (hc : 0 < c ∧ c < 1000 ∧ Builtin.Range.small i j c = true ∧ 0 ≤ Builtin.Range.rangeSize i j c) : iR3 m m2 m3 ρ = some (rangeC i c (Builtin.Range.rangeSize i j c).toNat) := by
  unfold iR3
  rw [h1, h2, h3]
  exact if_pos hc
theorem for_go {g : D → Ev → Option Ev} {mi : Ev → Option (List D)} {b : Ev → Option Out} {ρ : Ev} {ds : List D} {o : Option Out} (h : mi ρ = some ds) (h2 : forL g b ds ρ = o) : sFor g mi b ρ = o := by
  unfold sFor
  rw [h]
  exact h2
theorem pre_packed {ds : List D} {K : D} {P X : Int} {T : List D} {H M : List Int} {y4 y5 y6 : Option L} (hl : ds.length ≤ 256) (ix : mIndex (.list [.str "bool", .str "int", .str "text"]) [K] = some (.int X))
    (hd : IL H = .int X :: .int P :: IL (sev ds.length))
    (mo : forL (gN 4) Q.l__law_packed_1 (rangeC 0 8 (Builtin.Range.rangeSize 0 (ds.length : Int) 8).toNat) [some (.dat (.list ds)), some (.dat K), some (.dat (.int P)), some (.own (IL H)), none, none, none, none, none, none] = some (.nx [some (.dat (.list ds)), some (.dat K), some (.dat (.int P)), some (.own (IL M)), y4, y5, y6, none, none, none]))
    (th : lcL 8 (tB (e2 cNotN (eV 8) (eC .none))) (eV 8) [some (.dat (.list ds)), some (.dat K), some (.dat (.int P)), some (.own (IL M)), y4, y5, y6, none, none, none] ds = some T) :
    Q.b__law_packed [some (.dat (.list ds)), some (.dat K), some (.dat (.int P)), none, none, none, none, none, none, none] = restP [some (.dat (.list ds)), some (.dat K), some (.dat (.int P)), some (.own (IL M)), y4, y5, y6, some (.own T), none, none] := by
  have h63 : 256 < (2 : Nat) ^ 63 := by decide
  have lg := sevens (n := ds.length) (by omega)
  have sl := (sev_len ds.length).2
  have fl := fLen_l (ds := ds) (by omega)
  have okd : okN ds.length = true := okN_of (by omega)
  obtain ⟨r1, r2, r3⟩ := rangeC_mask hl
  have okl2 : okN (2 + (IL (sev ds.length)).length) = true := okN_of (by simp; omega)
  rw [hd] at mo
  rw [cut_packed]
  generalize restP = RST at *
  generalize IL (sev ds.length) = SS at *
  generalize IL M = MM at *
  have ok2 : okN (2 + SS.length) = true := okl2
  have ok3 : okN (SS.length + 2) = true := by rw [Nat.add_comm]; exact okl2
  have q1 : (sOwn 3 (fAddL (eF (fLst (aC (eM mIndex (eF (fLst (aC (eC (.str "bool")) (aC (eC (.str "int")) (aC (eC (.str "text")) aN))))) (aC (eV 1) aN)) (aC (eV 2) aN)))) (eCall 1 (dGD Q.m__law_sevens) (aC (eB fLen (aC (eV 0) aN)) aN)))) [some (.dat (.list ds)), some (.dat K), some (.dat (.int P)), none, none, none, none, none, none, none] = some (.nx [some (.dat (.list ds)), some (.dat K), some (.dat (.int P)), some (.own (.int X :: .int P :: SS)), none, none, none, none, none, none]) := by
    simp [ix, fl, lg, ok2, ok3]
  have q2 : (sFor (gN 4) (iR3 (eC (.int 0)) (eB fLen (aC (eV 0) aN)) (eC (.int 8))) Q.l__law_packed_1) [some (.dat (.list ds)), some (.dat K), some (.dat (.int P)), some (.own (.int X :: .int P :: SS)), none, none, none, none, none, none] = some (.nx [some (.dat (.list ds)), some (.dat K), some (.dat (.int P)), some (.own MM), y4, y5, y6, none, none, none]) := by
    have q := iR3_go (m := eC (.int 0)) (m2 := eB fLen (aC (eV 0) aN)) (m3 := eC (.int 8)) (ρ := [some (.dat (.list ds)), some (.dat K), some (.dat (.int P)), some (.own (.int X :: .int P :: SS)), none, none, none, none, none, none]) rfl (show (eB fLen (aC (eV 0) aN)) _ = some (.int (ds.length : Int)) from fl) rfl ⟨by decide, by decide, r1, r2⟩
    exact for_go q mo
  have q3 : (sOwn 7 (fLc 8 (iA (eV 0)) (tB (e2 cNotN (eV 8) (eC .none))) (eV 8))) [some (.dat (.list ds)), some (.dat K), some (.dat (.int P)), some (.own MM), y4, y5, y6, none, none, none] = some (.nx [some (.dat (.list ds)), some (.dat K), some (.dat (.int P)), some (.own MM), y4, y5, y6, some (.own T), none, none]) := by
    simp [okd, th]
  rw [seq_nx q1, seq_nx q2, seq_nx q3]
end QM


namespace QM
open PySem PySem.Spec L2 Dm
section
variable {x0 x1 y4 y5 y6 : Option L} {M : List Int}
theorem rest0 {T : List D} {B : List Int} (b : Q.m__law_all [.list T] = some (.list (IL B))) (a1 : opAdd (.list (IL M)) (.list (IL B)) = some (.list (IL (M ++ B)))) :
    restP [x0, x1, some (.dat (.int 0)), some (.own (IL M)), y4, y5, y6, some (.own T), none, none] = some (.rt (.list (IL (M ++ B)))) := by
  generalize IL (M ++ B) = R at *
  generalize IL M = MM at *
  generalize IL B = BB at *
  simp [restP, b, a1]
theorem rest1 {T : List D} {B : List Int} (b : Q.m__law_runs [.list T] = some (.list (IL B))) (a1 : opAdd (.list (IL M)) (.list (IL B)) = some (.list (IL (M ++ B)))) :
    restP [x0, x1, some (.dat (.int 1)), some (.own (IL M)), y4, y5, y6, some (.own T), none, none] = some (.rt (.list (IL (M ++ B)))) := by
  generalize IL (M ++ B) = R at *
  generalize IL M = MM at *
  generalize IL B = BB at *
  simp [restP, b, a1]
theorem rest2 {T : List D} {B : List Int} (b : Q.m__law_book [.list T] = some (.list (IL B))) (a1 : opAdd (.list (IL M)) (.list (IL B)) = some (.list (IL (M ++ B)))) :
    restP [x0, x1, some (.dat (.int 2)), some (.own (IL M)), y4, y5, y6, some (.own T), none, none] = some (.rt (.list (IL (M ++ B)))) := by
  generalize IL (M ++ B) = R at *
  generalize IL M = MM at *
  generalize IL B = BB at *
  simp [restP, b, a1]
theorem restN {p : Int} (hp : p = 3 ∨ p = 4) (b : Q.m__law_all [.list []] = some (.list [])) (a1 : opAdd (.list (IL M)) (.list []) = some (.list (IL M))) :
    restP [x0, x1, some (.dat (.int p)), some (.own (IL M)), y4, y5, y6, some (.own []), none, none] = some (.rt (.list (IL M))) := by
  have e0 := cEq_nil_nil
  generalize IL M = MM at *
  rcases hp with rfl | rfl <;> simp [restP, b, a1, e0]
theorem rest3 {v : Int} {vs : List Int} {B : List Int} (hl : vs.length ≤ 255) (b : Q.m__law_all [.list (IL (diffs 0 (v :: vs)))] = some (.list (IL B))) (a1 : opAdd (.list (IL M)) (.list (IL B)) = some (.list (IL (M ++ B)))) :
    restP [x0, x1, some (.dat (.int 3)), some (.own (IL M)), y4, y5, y6, some (.own (IL (v :: vs))), none, none] = some (.rt (.list (IL (M ++ B)))) := by
  have e0 : cEq (.list (IL (v :: vs))) (.list []) = some (.bool false) := cEq_nil7 (κ := 0) (ds := IL (v :: vs)) fun d hd => by
    obtain ⟨i, _, rfl⟩ := List.mem_map.mp hd
    exact .inr (.inl ⟨rfl, i, rfl⟩)
  have lc := lc_diffs (ρ := [x0, x1, some (.dat (.int 3)), some (.dat (.list (IL M))), y4, y5, y6, some (.dat (.list (IL (v :: vs)))), none, none]) (ds := v :: vs) (x := none) (.inr rfl) (by simp) vs [] v rfl
  have ad : opAdd (.list [.int v]) (.list (IL (diffs v vs))) = some (.list (IL (diffs 0 (v :: vs)))) := by
    have := add_il (a := [v]) (b := diffs v vs) (by rw [diffs_len]; simp; omega)
    rw [show diffs 0 (v :: vs) = [v] ++ diffs v vs by simp [diffs]]
    exact this
  have hr : rng2 1 ((v :: vs).length : Int) = some (rangeD 1 ((v :: vs).length : Int)) := rng2_ok (by omega) (by omega) (by omega) (by simp; omega)
  have okr : okN (rangeD 1 ((v :: vs).length : Int)).length = true := okN_of (by rw [rangeD_len]; simp; omega)
  have at0 : atI (IL (v :: vs)) 0 = some (.int v) := by simp [IL]
  have hlen : ((IL (v :: vs)).length : Int) = ((v :: vs).length : Int) := by simp
  rw [show (([] : List Int).length + 1 : Nat) = 1 from rfl, show ((1 : Nat) : Int) = 1 from rfl] at lc
  generalize rangeD 1 ((v :: vs).length : Int) = RR at *
  generalize ((v :: vs).length : Int) = n at *
  generalize IL (v :: vs) = V at *
  generalize IL (M ++ B) = R at *
  generalize IL M = MM at *
  generalize IL B = BB at *
  generalize IL (diffs v vs) = DD at *
  generalize IL (diffs 0 (v :: vs)) = DD0 at *
  simp [restP, e0, at0, hlen, hr, okr, lc, ad, b, a1]
theorem rest4 {v : Int} {vs : List Int} (hl : vs.length ≤ 255) (hs : ∀ x ∈ v :: vs, Sm x) (hM : M.length ≤ 1000) :
    restP [x0, x1, some (.dat (.int 4)), some (.own (IL M)), y4, y5, y6, some (.own (IL (v :: vs))), none, none] = some (.rt (.list (IL (M ++ nearS (v :: vs))))) := by
  have e0 : cEq (.list (IL (v :: vs))) (.list []) = some (.bool false) := cEq_nil7 (κ := 0) (ds := IL (v :: vs)) fun d hd => by
    obtain ⟨i, _, rfl⟩ := List.mem_map.mp hd
    exact .inr (.inl ⟨rfl, i, rfl⟩)
  have hne : v :: vs ≠ [] := by simp
  obtain ⟨m1, m2⟩ := minL_mem hne
  have hm := hs _ m1
  have sg := law_signed (i := minL (v :: vs)) (by
    obtain ⟨s0, s1, s2, s3⟩ := sm60
    unfold Sm at hm
    omega)
  have mn := minL_il hne
  have sl := (sgn_len (minL (v :: vs))).2
  have ad := add_il (a := M) (b := sgn (minL (v :: vs))) (by omega)
  obtain ⟨y8, lp⟩ := law_near_loop (x0 := x0) (x1 := x1) (x2 := some (.dat (.int 4))) (x3 := some (.dat (.list (IL M)))) (x4 := y4) (x5 := y5) (x6 := y6) (ds := v :: vs) hm mn (v :: vs) (M ++ sgn (minL (v :: vs))) none (fun x hx => ⟨hs x hx, m2 x hx⟩) (by simp; omega)
  have okl : okN (IL (v :: vs)).length = true := okN_of (by simp; omega)
  unfold nearS
  rw [if_neg hne, ← List.append_assoc]
  generalize nearE (minL (v :: vs)) (v :: vs) = NE at *
  generalize minL (v :: vs) = m at *
  generalize IL (v :: vs) = V at *
  generalize IL (M ++ sgn m ++ NE) = R at *
  generalize IL (M ++ sgn m) = R1 at *
  generalize IL M = MM at *
  generalize IL (sgn m) = SG at *
  simp [restP, e0, mn, sg, ad, lp, okl]
end
end QM


namespace QM
open PySem PySem.Spec L2 Dm
theorem law_packed {κ p : Nat} {ds : List D} (h : ∀ d ∈ ds, CC κ d) (hκ : κ < 3) (hl : ds.length ≤ 256) (hp : p < pks κ) : Q.m__law_packed [.list ds, kd κ, .int (p : Int)] = some (.list (IL (packedS κ p ds))) := by
  have hT := there_BV h
  have hTl := there_len ds
  have hTl2 : (there ds).length ≤ 256 := by omega
  have ml := mask_len hl
  have bl := body_len (p := p) hT hTl2
  have sl := (sev_len ds.length).2
  have ix : mIndex (.list [.str "bool", .str "int", .str "text"]) [kd κ] = some (.int (kx κ)) := by
    have : κ = 0 ∨ κ = 1 ∨ κ = 2 := by omega
    rcases this with rfl | rfl | rfl <;> kernel_rfl
  have hd : IL (headS κ p ds) = .int (kx κ) :: .int (p : Int) :: IL (sev ds.length) := rfl
  have hhl : (headS κ p ds).length = 2 + (sev ds.length).length := by simp [headS]; omega
  obtain ⟨r1, r2, r3⟩ := rangeC_mask hl
  obtain ⟨y4, y5, y6, mo⟩ := lm_outer hl (x1 := some (.dat (kd κ))) (x2 := some (.dat (.int (p : Int)))) (x7 := none) (x8 := none) (x9 := none) ((ds.length + 7) / 8) 0 (headS κ p ds) none none none (by omega) (by omega)
  have hM : (List.range' 0 ((ds.length + 7) / 8)).map (fun b => cnt (nonAt ds) ds.length b) = maskS ds := by
    unfold maskS maskL
    rw [List.range_eq_range']
  rw [hM, ← r3] at mo
  have hMl : (headS κ p ds ++ maskS ds).length ≤ 100 := by simp only [List.length_append]; omega
  have a1 := add_il (a := headS κ p ds ++ maskS ds) (b := bodyS p (there ds)) (by omega)
  have th := lc_there (i := 8) (ρ := [some (.dat (.list ds)), some (.dat (kd κ)), some (.dat (.int (p : Int))), some (.own (IL (headS κ p ds ++ maskS ds))), y4, y5, y6, none, none, none]) (by simp) ds
  have pr := pre_packed (X := kx κ) hl ix hd mo th
  have run : Q.m__law_packed [.list ds, kd κ, .int (p : Int)] = (Q.b__law_packed [some (.dat (.list ds)), some (.dat (kd κ)), some (.dat (.int (p : Int))), none, none, none, none, none, none, none]).bind outD := rfl
  have fin : restP [some (.dat (.list ds)), some (.dat (kd κ)), some (.dat (.int (p : Int))), some (.own (IL (headS κ p ds ++ maskS ds))), y4, y5, y6, some (.own (there ds)), none, none] = some (.rt (.list (IL (packedS κ p ds)))) := by
    unfold packedS
    generalize headS κ p ds ++ maskS ds = M at *
    rcases pks_cases hp with rfl | rfl | rfl | ⟨rfl, hp34⟩
    · exact rest0 (law_all hT (by omega)) a1
    · exact rest1 (law_runs hT (by omega)) a1
    · exact rest2 (law_book hT (by omega)) a1
    · obtain ⟨t1, t2⟩ := there_int h
      cases hvs : (there ds).map intD with
      | nil =>
        rw [hvs] at t1
        have e : there ds = [] := t1
        have b : Q.m__law_all [.list []] = some (.list []) := law_all (κ := 0) (ds := []) (fun d hd => by cases hd) (by simp)
        have a0 := add_il (a := M) (b := []) (by simp; omega)
        rw [List.append_nil] at a0
        have ebody : bodyS p (there ds) = [] := by
          rw [e]
          rcases hp34 with rfl | rfl <;> rfl
        rw [ebody, e, List.append_nil]
        exact restN (p := (p : Int)) (by rcases hp34 with rfl | rfl <;> simp) b a0
      | cons v vs =>
        rw [hvs] at t1 t2
        have hvl : vs.length ≤ 255 := by
          rw [t1] at hTl2
          simp at hTl2
          omega
        rcases hp34 with rfl | rfl
        · have b : bodyS 3 (there ds) = allS (IL (diffs 0 (v :: vs))) := by
            show stepsS ((there ds).map intD) = _
            rw [hvs]
            rfl
          rw [b] at a1 ⊢
          rw [t1]
          exact rest3 hvl (law_all (diffs_BV sm_zero t2) (by simp [diffs_len]; omega)) a1
        · have b : bodyS 4 (there ds) = nearS (v :: vs) := by
            show nearS ((there ds).map intD) = _
            rw [hvs]
          rw [b, t1]
          exact rest4 hvl t2 (by omega)
  rw [run, pr, fin]
  rfl
theorem pick_at : ∀ {ws : List D} {ns all : List Nat} {i n : Nat}, ns.length = ws.length → ns[i]? = some n → (∀ m ∈ all, n ≤ m) → (∀ (j n' : Nat), j < i → ns[j]? = some n' → n < n') → n ∈ all → pickD ws ns all = ws[i]?
  | [], [], all, i, n, _, h, _, _, _ => by simp at h
  | [], _ :: _, _, _, _, h, _, _, _, _ => by cases h
  | _ :: _, [], _, _, _, h, _, _, _, _ => by cases h
  | w :: ws, k :: ns, all, 0, n, hl, h, h1, h2, h3 => by
    cases h
    unfold pickD
    rw [if_pos (List.all_eq_true.mpr fun m hm => decide_eq_true (h1 m hm))]
    rfl
  | w :: ws, k :: ns, all, i + 1, n, hl, h, h1, h2, h3 => by
    have hk : n < k := h2 0 k (Nat.succ_pos i) rfl
    unfold pickD
    rw [if_neg (fun z => by
      have := of_decide_eq_true (List.all_eq_true.mp z n h3)
      omega)]
    rw [pick_at (by simpa using hl) (by simpa using h) h1 (fun j n' hj e => h2 (j + 1) n' (Nat.succ_lt_succ hj) e) h3]
    rfl
theorem lens_il : ∀ ls : List (List Int), lensD (ls.map fun l => PyData.list (IL l)) = some (ls.map List.length)
  | [] => rfl
  | l :: ls => by
    have := lens_il ls
    simp [lensD, this]
/-- which packing is due, of those before -/
def Due (L : Nat → Nat) (n d : Nat) : Prop := d < n ∧ (∀ j, j < n → L d ≤ L j) ∧ ∀ j, j < d → L d < L j
theorem due_loop {κ : Nat} {ds : List D} (h : ∀ d ∈ ds, CC κ d) (hκ : κ < 3) (hl : ds.length ≤ 256) {x0 x1 x3 x9 x10 : Option L} : ∀ (r k d : Nat) (x7 x8 : Option L), k + r = pks κ → Due (fun p => (packedS κ p ds).length) k d →
    ∃ (d' : Nat) (y7 y8 : Option L), Due (fun p => (packedS κ p ds).length) (pks κ) d' ∧ forL (gN 7) Q.l_law_v25_0 (rangeD ((k : Nat) : Int) ((pks κ : Nat) : Int)) [x0, x1, some (.dat (kd κ)), x3, some (.dat (.list ds)), some (.dat (.int (d : Int))), some (.dat (.int (((packedS κ d ds).length : Nat) : Int))), x7, x8, x9, x10] = some (.nx [x0, x1, some (.dat (kd κ)), x3, some (.dat (.list ds)), some (.dat (.int (d' : Int))), some (.dat (.int (((packedS κ d' ds).length : Nat) : Int))), y7, y8, x9, x10])
  | 0, k, d, x7, x8, hk, hd => by
    rw [Nat.add_zero] at hk
    subst hk
    exact ⟨d, x7, x8, hd, by rw [rangeD_end (Nat.le_refl _)]; rfl⟩
  | r + 1, k, d, x7, x8, hk, hd => by
    have hkp : k < pks κ := by omega
    have lp := law_packed h hκ hl hkp
    have bl := body_len (p := k) (there_BV h) (by have := there_len ds; omega)
    have hlen : (packedS κ k ds).length ≤ 100000 := by
      have ml := mask_len hl
      have sl := (sev_len ds.length).2
      have hh : (headS κ k ds).length = 2 + (sev ds.length).length := by simp [headS]; omega
      unfold packedS
      simp only [List.length_append]
      omega
    have fl : fLen [.list (IL (packedS κ k ds))] = some (.int (((packedS κ k ds).length : Nat) : Int)) := by
      rw [fLen_l (by simpa using hlen)]
      simp
    rw [rangeD_cons hkp]
    obtain ⟨d1, d2, d3⟩ := hd
    by_cases hlt : (packedS κ k ds).length < (packedS κ d ds).length
    · obtain ⟨d', y7, y8, e1, e2⟩ := due_loop h hκ hl (x0 := x0) (x1 := x1) (x3 := x3) (x9 := x9) (x10 := x10) r (k + 1) k (some (.dat (.int (k : Int)))) (some (.dat (.int (((packedS κ k ds).length : Nat) : Int)))) (by omega) ⟨by omega, fun j hj => by
        by_cases e : j = k
        · subst e
          exact Nat.le_refl _
        · have := d2 j (by omega)
          simp only at this ⊢
          omega, fun j hj => by
          have := d2 j hj
          simp only at this ⊢
          omega⟩
      refine ⟨d', y7, y8, e1, ?_⟩
      rw [← e2]
      have hlt' : (((packedS κ k ds).length : Nat) : Int) < (((packedS κ d ds).length : Nat) : Int) := by omega
      generalize IL (packedS κ k ds) = PK at *
      generalize (((packedS κ k ds).length : Nat) : Int) = a at *
      generalize (((packedS κ d ds).length : Nat) : Int) = b at *
      generalize kd κ = K at *
      exact forL_nx (by rfl) (by simp [Q.l_law_v25_0, lp, fl, hlt'])
    · obtain ⟨d', y7, y8, e1, e2⟩ := due_loop h hκ hl (x0 := x0) (x1 := x1) (x3 := x3) (x9 := x9) (x10 := x10) r (k + 1) d (some (.dat (.int (k : Int)))) (some (.dat (.int (((packedS κ k ds).length : Nat) : Int)))) (by omega) ⟨by omega, fun j hj => by
        by_cases e : j = k
        · subst e
          simp only
          omega
        · exact d2 j (by omega), d3⟩
      refine ⟨d', y7, y8, e1, ?_⟩
      rw [← e2]
      have hlt' : ¬ (((packedS κ k ds).length : Nat) : Int) < (((packedS κ d ds).length : Nat) : Int) := by omega
      generalize IL (packedS κ k ds) = PK at *
      generalize (((packedS κ k ds).length : Nat) : Int) = a at *
      generalize (((packedS κ d ds).length : Nat) : Int) = b at *
      generalize kd κ = K at *
      exact forL_nx (by rfl) (by simp [Q.l_law_v25_0, lp, fl, hlt'])
end QM


namespace QM
open PySem PySem.Spec L2 Dm
theorem pkD_eq {κ : Nat} : pkD κ = .tuple ((List.range (pks κ)).map fun p => .int ((p : Nat) : Int)) := by
  unfold pkD pks
  split <;> rfl
theorem best_lc {κ : Nat} {ds : List D} (h : ∀ d ∈ ds, CC κ d) (hκ : κ < 3) (hl : ds.length ≤ 256) {x2 : Option L} : ∀ ps : List Nat, (∀ p ∈ ps, p < pks κ) → lcL 3 tYs (eCall 3 Q.m_packed (aC (eV 0) (aC (eV 1) (aC (eV 3) aN)))) [some (.dat (.list ds)), some (.dat (kd κ)), x2, none] (ps.map fun p => PyData.int ((p : Nat) : Int)) = some (ps.map fun p => PyData.list (IL (packedS κ p ds)))
  | [], _ => rfl
  | p :: ps, hp => by
    have ih := best_lc h hκ hl (x2 := x2) ps fun q hq => hp q (List.mem_cons_of_mem _ hq)
    have pk := packed_ok h hκ hl (hp p List.mem_cons_self)
    generalize kd κ = K at *
    simp only [List.map_cons]
    generalize ps.map (fun p => PyData.int ((p : Nat) : Int)) = PS at *
    generalize (ps.map fun p => PyData.list (IL (packedS κ p ds))) = RS at *
    generalize IL (packedS κ p ds) = R at *
    simp [lcL, tYs, pk, ih]
theorem packed_best {κ d : Nat} {ds : List D} (h : ∀ d ∈ ds, CC κ d) (hκ : κ < 3) (hl : ds.length ≤ 256) (hd : Due (fun p => (packedS κ p ds).length) (pks κ) d) : Q.m_packed_best [.list ds, kd κ] = some (.list (IL (packedS κ d ds))) := by
  have po := packings hκ
  have lc := best_lc h hκ hl (x2 := none) (List.range (pks κ)) fun p hp => List.mem_range.mp hp
  have wk : walkD (pkD κ) = some ((List.range (pks κ)).map fun p => PyData.int ((p : Nat) : Int)) := by
    rw [pkD_eq]
    rfl
  have okp : okN ((List.range (pks κ)).map fun p => PyData.int ((p : Nat) : Int)).length = true := okN_of (by simp; unfold pks; split <;> omega)
  have mn : fMinLen [.list ((List.range (pks κ)).map fun p => PyData.list (IL (packedS κ p ds)))] = some (.list (IL (packedS κ d ds))) := by
    have ln := lens_il ((List.range (pks κ)).map fun p => packedS κ p ds)
    rw [List.map_map] at ln
    show (lensD _).bind _ = _
    rw [show ((List.range (pks κ)).map fun p => PyData.list (IL (packedS κ p ds))) = (List.range (pks κ)).map ((fun l => PyData.list (IL l)) ∘ fun p => packedS κ p ds) from rfl, ln, Option.bind_some, List.map_map]
    obtain ⟨d1, d2, d3⟩ := hd
    rw [pick_at (i := d) (n := (packedS κ d ds).length) (by simp) (by simp [d1]) (fun m hm => by
      obtain ⟨j, hj, rfl⟩ := List.mem_map.mp hm
      exact d2 j (List.mem_range.mp hj)) (fun j n' hj e => by
      have hjp : j < pks κ := by omega
      simp [hjp] at e
      rw [← e]
      exact d3 j hj) (List.mem_map.mpr ⟨d, List.mem_range.mpr d1, rfl⟩)]
    simp [d1]
  generalize (List.range (pks κ)).map (fun p => PyData.int ((p : Nat) : Int)) = PS at *
  generalize ((List.range (pks κ)).map fun p => PyData.list (IL (packedS κ p ds))) = RS at *
  generalize IL (packedS κ d ds) = R at *
  generalize pkD κ = PK at *
  generalize kd κ = K at *
  simp [Q.m_packed_best, Q.b_packed_best, po, wk, okp, lc, mn]
theorem best_ok {κ d : Nat} {ds : List D} (h : ∀ d ∈ ds, CC κ d) (hκ : κ < 3) (hl : ds.length ≤ 256) (hd : Due (fun p => (packedS κ p ds).length) (pks κ) d) : Q.m_best [.list ds, kd κ] = some (.int (d : Int)) := by
  have pb := packed_best h hκ hl hd
  have a1 : (IL (packedS κ d ds))[1]? = some (.int (d : Int)) := rfl
  generalize IL (packedS κ d ds) = R at *
  generalize kd κ = K at *
  simp [Q.m_best, Q.b_best, pb, a1]
theorem turn13 {κ : Nat} (hκ : κ < 3) {ds : List D} (h : ∀ d ∈ ds, CC κ d) (hl : ds.length ≤ 256) {s Sh : D} {d0 : Int} (h0 : ixD Sh (.int 0) = some (.int d0)) (hd0 : d0 % 3 = (κ : Int)) {x3 x5 x6 x7 x8 x9 x10 : Option L} :
    ∃ y5 y6 y7 y8 y9 y10, Q.l_law_v25_1 [some (.dat s), some (.dat Sh), some (.dat (kd κ)), x3, some (.dat (.list ds)), x5, x6, x7, x8, x9, x10] = some (.nx [some (.dat s), some (.dat Sh), some (.dat (kd κ)), x3, some (.dat (.list ds)), y5, y6, y7, y8, y9, y10]) := by
  have p0 : 0 < pks κ := by unfold pks; split <;> omega
  have lp := law_packed h hκ hl p0
  have hlen : (packedS κ 0 ds).length ≤ 100000 := by
    have bl := body_len (p := 0) (there_BV h) (by have := there_len ds; omega)
    have ml := mask_len hl
    have sl := (sev_len ds.length).2
    have hh : (headS κ 0 ds).length = 2 + (sev ds.length).length := by simp [headS]; omega
    unfold packedS
    simp only [List.length_append]
    omega
  have fl : fLen [.list (IL (packedS κ 0 ds))] = some (.int (((packedS κ 0 ds).length : Nat) : Int)) := by
    rw [fLen_l (by simpa using hlen)]
    simp
  obtain ⟨d, y7, y8, e1, e2⟩ := due_loop h hκ hl (x0 := some (.dat s)) (x1 := some (.dat Sh)) (x3 := x3) (x9 := x9) (x10 := x10) (pks κ - 1) 1 0 x7 x8 (by omega) ⟨by omega, fun j hj => by
    have : j = 0 := by omega
    subst this
    exact Nat.le_refl _, fun j hj => absurd hj (Nat.not_lt_zero _)⟩
  have be := best_ok h hκ hl e1
  have hn : atI [PyData.int 5, .int 3, .int 3] (d0 % 3) = some (.int ((pks κ : Nat) : Int)) := by
    rw [hd0]
    have : κ = 0 ∨ κ = 1 ∨ κ = 2 := by omega
    rcases this with rfl | rfl | rfl <;> rfl
  have hr : rng2 1 ((pks κ : Nat) : Int) = some (rangeD 1 ((pks κ : Nat) : Int)) := rng2_ok (by omega) (by omega) (by omega) (by unfold pks; split <;> omega)
  have ns := ne_self (NV_shaped fun d hd => CC_NV (h d hd))
  have fLi : fList [.list ds] = some (.list ds) := rfl
  simp only [show ((1 : Nat) : Int) = 1 from rfl, show ((0 : Nat) : Int) = 0 from rfl] at e2 lp
  generalize IL (packedS κ 0 ds) = R at *
  generalize (((packedS κ 0 ds).length : Nat) : Int) = a at *
  generalize (((packedS κ d ds).length : Nat) : Int) = b at *
  generalize rangeD 1 ((pks κ : Nat) : Int) = RR at *
  generalize kd κ = K at *
  refine ⟨_, _, _, _, _, _, by simp [Q.l_law_v25_1, lp, fl, h0, hn, hr, e2, fLi, be, ns]; exact ⟨rfl, rfl, rfl, rfl, rfl, rfl⟩⟩
theorem law_k13 (ns : List Int) (hl : ns.length ≤ 63) (hb : ∀ z ∈ ns, Builtin.Int.intBits z ≤ 1048576) : Q.m_law_v25 [.list (ns.map PyData.int)] = some (.bool true) := by
  have hcell : ∀ k : Nat, ∃ cv : Int, Builtin.Int.intBits cv ≤ 1048576 ∧ Q.m__law_cell [.list (ns.map PyData.int), .int (k : Int)] = some (.int cv) := fun k => ⟨cellAt ns k, cellAt_bits hb k, cell ns k⟩
  generalize ns.map PyData.int = Sx at *
  obtain ⟨c0, c1, c2⟩ := hcell 0
  have c2' : Q.m__law_cell [.list Sx, .int 0] = some (.int c0) := c2
  obtain ⟨ds, g1, g2, g3⟩ := draws (c := c0) (n := 6) (by omega) (by omega)
  have g1' : Q.m__law_draws [.int c0, .int 6] = some (.list (ds.map PyData.int)) := g1
  have p0 := at_int (ds := ds) (j := 0) (by omega)
  have p1 := at_int (ds := ds) (j := 1) (by omega)
  have p2 := at_int (ds := ds) (j := 2) (by omega)
  have q1 := (g3 _ (List.getElem_mem (show 1 < ds.length by omega))).1
  generalize ds[0] = d0 at p0
  generalize ds[1] = d1 at p1 q1
  generalize ds[2] = d2 at p2
  generalize ds.map PyData.int = Lx at *
  have p0' : atI Lx 0 = some (.int d0) := by rw [atI_pos (by omega)]; exact p0
  have p1' : atI Lx 1 = some (.int d1) := by rw [atI_pos (by omega)]; exact p1
  have p2' : atI Lx 2 = some (.int d2) := by rw [atI_pos (by omega)]; exact p2
  obtain ⟨κ, hκ, hd0, hk⟩ : ∃ κ : Nat, κ < 3 ∧ d0 % 3 = (κ : Int) ∧ atI [PyData.str "int", .str "text", .str "bool"] (d0 % 3) = some (kd κ) := by
    have : d0 % 3 = 0 ∨ d0 % 3 = 1 ∨ d0 % 3 = 2 := by omega
    rcases this with h | h | h
    · exact ⟨0, by omega, h, by rw [h]; rfl⟩
    · exact ⟨1, by omega, h, by rw [h]; rfl⟩
    · exact ⟨2, by omega, h, by rw [h]; rfl⟩
  obtain ⟨vs, v1, v2, v3⟩ := columnB hκ (Sh := .list Lx) (d2 := d2) p0' p1' p2' q1 hd0 hk hcell
  have vC : ∀ v ∈ vs, CC κ v := fun v h => CB_CC (v3 v h)
  have h0 : ixD (.list Lx) (.int 0) = some (.int d0) := p0'
  have fl := fLen_l (ds := vs) (by omega)
  have sub : ∀ (lo hi : Option Int), (∀ v ∈ cutD vs lo hi, CC κ v) ∧ (cutD vs lo hi).length ≤ 256 := fun lo hi => ⟨fun v hv => vC v (cutL_mem hv), by have : (cutD vs lo hi).length ≤ vs.length := cutL_len; omega⟩
  have okv : okN vs.length = true := okN_of (by omega)
  have sl : ∀ lo hi : Option Int, sliceD (.list vs) lo hi = some (.list (cutD vs lo hi)) := fun lo hi => by
    unfold sliceD
    simp [okv]
  obtain ⟨s1, s2⟩ := sub none (some ((vs.length : Int) / 2))
  obtain ⟨s3, s4⟩ := sub none (some 1)
  have sl1 := sl none (some ((vs.length : Int) / 2))
  have sl2 := sl none (some 1)
  generalize cutD vs none (some ((vs.length : Int) / 2)) = v2s at *
  generalize cutD vs none (some 1) = v3s at *
  obtain ⟨a5, a6, a7, a8, a9, a10, t1⟩ := turn13 hκ vC (by omega) h0 hd0 (s := .list Sx) (x3 := some (.dat (.list vs))) (x5 := none) (x6 := none) (x7 := none) (x8 := none) (x9 := none) (x10 := none)
  obtain ⟨b5, b6, b7, b8, b9, b10, t2⟩ := turn13 hκ s1 s2 h0 hd0 (s := .list Sx) (x3 := some (.dat (.list vs))) (x5 := a5) (x6 := a6) (x7 := a7) (x8 := a8) (x9 := a9) (x10 := a10)
  obtain ⟨c5, c6, c7, c8, c9, c10, t3⟩ := turn13 hκ s3 s4 h0 hd0 (s := .list Sx) (x3 := some (.dat (.list vs))) (x5 := b5) (x6 := b6) (x7 := b7) (x8 := b8) (x9 := b9) (x10 := b10)
  have lp : forL (gN 4) Q.l_law_v25_1 [.list vs, .list v2s, .list v3s] [some (.dat (.list Sx)), some (.dat (.list Lx)), some (.dat (kd κ)), some (.dat (.list vs)), none, none, none, none, none, none, none] = some (.nx [some (.dat (.list Sx)), some (.dat (.list Lx)), some (.dat (kd κ)), some (.dat (.list vs)), some (.dat (.list v3s)), c5, c6, c7, c8, c9, c10]) := by
    rw [forL_nx (by rfl) t1, forL_nx (by rfl) t2, forL_nx (by rfl) t3]
    rfl
  generalize kd κ = K at *
  simp [Q.m_law_v25, Q.b_law_v25, c2', g1', p0, p0', hk, v1, fl, sl1, sl2, lp]
end QM


namespace G_peristyle_k13_best_packing
open PySem PySem.Spec L2 Dm
theorem all_mk {l : PySem.W.OpenLaw} {w : World} {K : PySem.W.Frag} {h : Heap} {mg : Str → Option Value} {fa : Addr} (X : K.In h) (G : h.Ns mainGlobals mg) (hfa : mg "law" = some (.ref fa))
    {f0 : Addr} {od0 an0 : Option Addr} {sl0 : Array (Option Value)} {oc0 kV0 dc0 pm0 cd0 ct0 : Value}
    {f1 : Addr} {od1 an1 : Option Addr} {sl1 : Array (Option Value)} {oc1 kV1 dc1 pm1 cd1 ct1 : Value}
    {f2 : Addr} {od2 an2 : Option Addr} {sl2 : Array (Option Value)} {oc2 kV2 dc2 pm2 cd2 ct2 : Value}
    {f3 : Addr} {od3 an3 : Option Addr} {sl3 : Array (Option Value)} {oc3 kV3 dc3 pm3 cd3 ct3 : Value}
    {f4 : Addr} {od4 an4 : Option Addr} {sl4 : Array (Option Value)} {oc4 kV4 dc4 pm4 cd4 ct4 : Value}
    {f5 : Addr} {od5 an5 : Option Addr} {sl5 : Array (Option Value)} {oc5 kV5 dc5 pm5 cd5 ct5 : Value}
    {f6 : Addr} {od6 an6 : Option Addr} {sl6 : Array (Option Value)} {oc6 kV6 dc6 pm6 cd6 ct6 : Value}
    {f7 : Addr} {od7 an7 : Option Addr} {sl7 : Array (Option Value)} {oc7 kV7 dc7 pm7 cd7 ct7 : Value}
    {f8 : Addr} {od8 an8 : Option Addr} {sl8 : Array (Option Value)} {oc8 kV8 dc8 pm8 cd8 ct8 : Value}
    {f9 : Addr} {od9 an9 : Option Addr} {sl9 : Array (Option Value)} {oc9 kV9 dc9 pm9 cd9 ct9 : Value}
    {f10 : Addr} {od10 an10 : Option Addr} {sl10 : Array (Option Value)} {oc10 kV10 dc10 pm10 cd10 ct10 : Value}
    {f11 : Addr} {od11 an11 : Option Addr} {sl11 : Array (Option Value)} {oc11 kV11 dc11 pm11 cd11 ct11 : Value}
    {f12 : Addr} {od12 an12 : Option Addr} {sl12 : Array (Option Value)} {oc12 kV12 dc12 pm12 cd12 ct12 : Value}
    {f13 : Addr} {od13 an13 : Option Addr} {sl13 : Array (Option Value)} {oc13 kV13 dc13 pm13 cd13 ct13 : Value}
    {f14 : Addr} {od14 an14 : Option Addr} {sl14 : Array (Option Value)} {oc14 kV14 dc14 pm14 cd14 ct14 : Value}
    {f15 : Addr} {od15 an15 : Option Addr} {sl15 : Array (Option Value)} {oc15 kV15 dc15 pm15 cd15 ct15 : Value}
    {f16 : Addr} {od16 an16 : Option Addr} {sl16 : Array (Option Value)} {oc16 kV16 dc16 pm16 cd16 ct16 : Value}
    {f17 : Addr} {od17 an17 : Option Addr} {sl17 : Array (Option Value)} {oc17 kV17 dc17 pm17 cd17 ct17 : Value}
    {f18 : Addr} {od18 an18 : Option Addr} {sl18 : Array (Option Value)} {oc18 kV18 dc18 pm18 cd18 ct18 : Value}
    {f19 : Addr} {od19 an19 : Option Addr} {sl19 : Array (Option Value)} {oc19 kV19 dc19 pm19 cd19 ct19 : Value}
    {f20 : Addr} {od20 an20 : Option Addr} {sl20 : Array (Option Value)} {oc20 kV20 dc20 pm20 cd20 ct20 : Value}
    {f21 : Addr} {od21 an21 : Option Addr} {sl21 : Array (Option Value)} {oc21 kV21 dc21 pm21 cd21 ct21 : Value}
    {f22 : Addr} {od22 an22 : Option Addr} {sl22 : Array (Option Value)} {oc22 kV22 dc22 pm22 cd22 ct22 : Value}
    {f23 : Addr} {od23 an23 : Option Addr} {sl23 : Array (Option Value)} {oc23 kV23 dc23 pm23 cd23 ct23 : Value}
    {f24 : Addr} {od24 an24 : Option Addr} {sl24 : Array (Option Value)} {oc24 kV24 dc24 pm24 cd24 ct24 : Value}
    {f25 : Addr} {od25 an25 : Option Addr} {sl25 : Array (Option Value)} {oc25 kV25 dc25 pm25 cd25 ct25 : Value}
    {f26 : Addr} {od26 an26 : Option Addr} {sl26 : Array (Option Value)} {oc26 kV26 dc26 pm26 cd26 ct26 : Value}
    {f27 : Addr} {od27 an27 : Option Addr} {sl27 : Array (Option Value)} {oc27 kV27 dc27 pm27 cd27 ct27 : Value}
    {f28 : Addr} {od28 an28 : Option Addr} {sl28 : Array (Option Value)} {oc28 kV28 dc28 pm28 cd28 ct28 : Value}
    {f29 : Addr} {od29 an29 : Option Addr} {sl29 : Array (Option Value)} {oc29 kV29 dc29 pm29 cd29 ct29 : Value}
    {f30 : Addr} {od30 an30 : Option Addr} {sl30 : Array (Option Value)} {oc30 kV30 dc30 pm30 cd30 ct30 : Value}
    {f31 : Addr} {od31 an31 : Option Addr} {sl31 : Array (Option Value)} {oc31 kV31 dc31 pm31 cd31 ct31 : Value}
    {f32 : Addr} {od32 an32 : Option Addr} {sl32 : Array (Option Value)} {oc32 kV32 dc32 pm32 cd32 ct32 : Value}
    {f33 : Addr} {od33 an33 : Option Addr} {sl33 : Array (Option Value)} {oc33 kV33 dc33 pm33 cd33 ct33 : Value}
    {f34 : Addr} {od34 an34 : Option Addr} {sl34 : Array (Option Value)} {oc34 kV34 dc34 pm34 cd34 ct34 : Value}
    {f35 : Addr} {od35 an35 : Option Addr} {sl35 : Array (Option Value)} {oc35 kV35 dc35 pm35 cd35 ct35 : Value}
    {f36 : Addr} {od36 an36 : Option Addr} {sl36 : Array (Option Value)} {oc36 kV36 dc36 pm36 cd36 ct36 : Value}
    {f37 : Addr} {od37 an37 : Option Addr} {sl37 : Array (Option Value)} {oc37 kV37 dc37 pm37 cd37 ct37 : Value}
    {f38 : Addr} {od38 an38 : Option Addr} {sl38 : Array (Option Value)} {oc38 kV38 dc38 pm38 cd38 ct38 : Value}
    {ga_EVERY_PACKING : Addr} {go_EVERY_PACKING : Option Addr} {gn_EVERY_PACKING : Nat} {gs_EVERY_PACKING : Array (Option Value)} {t_EVERY_PACKING_0 : Tok} {t_EVERY_PACKING_1 : Tok} {t_EVERY_PACKING_2 : Tok} {t_EVERY_PACKING_3 : Tok} {t_EVERY_PACKING_4 : Tok}
    {ga_KINDS : Addr} {go_KINDS : Option Addr} {gn_KINDS : Nat} {gs_KINDS : Array (Option Value)} {t_KINDS_0 : Tok} {t_KINDS_1 : Tok} {t_KINDS_2 : Tok}
    {ga_KINDS_BY_NUMBER : Addr} {gn_KINDS_BY_NUMBER : Nat} {gs_KINDS_BY_NUMBER : Array (Option Value)} {t_KINDS_BY_NUMBER_0 : Tok} {t_KINDS_BY_NUMBER_1 : Tok} {t_KINDS_BY_NUMBER_2 : Tok}
    {t_LIMIT : Tok}
    {t_LONGEST : Tok}
    {t_MOST_VALUES : Tok}
    {t_SIGNS : Tok}
    {ga_WRITERS : Addr} {go_WRITERS : Option Addr} {gn_WRITERS : Nat} {gs_WRITERS : Array (Option Value)}
    {ga_PACKINGS : Addr} {es_PACKINGS : Array DictEntry} {gn_PACKINGS : Nat}
    {ua_PACKINGS_0 : Addr} {uo_PACKINGS_0 : Option Addr} {un_PACKINGS_0 : Nat} {us_PACKINGS_0 : Array (Option Value)}
    {ut_PACKINGS_0_0 : Tok}
    {ut_PACKINGS_0_1 : Tok}
    {ut_PACKINGS_0_2 : Tok}
    {ut_PACKINGS_0_3 : Tok}
    {ut_PACKINGS_0_4 : Tok}
    {ua_PACKINGS_1 : Addr} {uo_PACKINGS_1 : Option Addr} {un_PACKINGS_1 : Nat} {us_PACKINGS_1 : Array (Option Value)}
    {ut_PACKINGS_1_0 : Tok}
    {ut_PACKINGS_1_1 : Tok}
    {ut_PACKINGS_1_2 : Tok}
    {ua_PACKINGS_2 : Addr} {uo_PACKINGS_2 : Option Addr} {un_PACKINGS_2 : Nat} {us_PACKINGS_2 : Array (Option Value)}
    {ut_PACKINGS_2_0 : Tok}
    {ut_PACKINGS_2_1 : Tok}
    {ut_PACKINGS_2_2 : Tok}
    (a0 : PySem.W.nsIn K mainGlobals "is_whole" = some (some (.ref f0)))
    (l0 : K.lookup f0 = some ⟨oc0, od0, .func (PySem.W.fnOf "is_whole" "is_whole" (defArgs s_is_whole) (defBody s_is_whole) (defScope s_is_whole) .none kV0 dc0 pm0 an0 cd0 ct0), sl0⟩)
    (c0 : PySem.W.codeIn K cd0 "is_whole" = true)
    (k0 : PySem.W.keepIn K (.ref f0) = true)
    (a1 : PySem.W.nsIn K mainGlobals "_has_text_signs" = some (some (.ref f1)))
    (l1 : K.lookup f1 = some ⟨oc1, od1, .func (PySem.W.fnOf "_has_text_signs" "_has_text_signs" (defArgs s__has_text_signs) (defBody s__has_text_signs) (defScope s__has_text_signs) .none kV1 dc1 pm1 an1 cd1 ct1), sl1⟩)
    (c1 : PySem.W.codeIn K cd1 "_has_text_signs" = true)
    (k1 : PySem.W.keepIn K (.ref f1) = true)
    (a2 : PySem.W.nsIn K mainGlobals "long_number" = some (some (.ref f2)))
    (l2 : K.lookup f2 = some ⟨oc2, od2, .func (PySem.W.fnOf "long_number" "long_number" (defArgs s_long_number) (defBody s_long_number) (defScope s_long_number) .none kV2 dc2 pm2 an2 cd2 ct2), sl2⟩)
    (c2 : PySem.W.codeIn K cd2 "long_number" = true)
    (k2 : PySem.W.keepIn K (.ref f2) = true)
    (a3 : PySem.W.nsIn K mainGlobals "packings_of" = some (some (.ref f3)))
    (l3 : K.lookup f3 = some ⟨oc3, od3, .func (PySem.W.fnOf "packings_of" "packings_of" (defArgs s_packings_of) (defBody s_packings_of) (defScope s_packings_of) .none kV3 dc3 pm3 an3 cd3 ct3), sl3⟩)
    (c3 : PySem.W.codeIn K cd3 "packings_of" = true)
    (k3 : PySem.W.keepIn K (.ref f3) = true)
    (a4 : PySem.W.nsIn K mainGlobals "_runs_of" = some (some (.ref f4)))
    (l4 : K.lookup f4 = some ⟨oc4, od4, .func (PySem.W.fnOf "_runs_of" "_runs_of" (defArgs s__runs_of) (defBody s__runs_of) (defScope s__runs_of) .none kV4 dc4 pm4 an4 cd4 ct4), sl4⟩)
    (c4 : PySem.W.codeIn K cd4 "_runs_of" = true)
    (k4 : PySem.W.keepIn K (.ref f4) = true)
    (a5 : PySem.W.nsIn K mainGlobals "_mask_length" = some (some (.ref f5)))
    (l5 : K.lookup f5 = some ⟨oc5, od5, .func (PySem.W.fnOf "_mask_length" "_mask_length" (defArgs s__mask_length) (defBody s__mask_length) (defScope s__mask_length) .none kV5 dc5 pm5 an5 cd5 ct5), sl5⟩)
    (c5 : PySem.W.codeIn K cd5 "_mask_length" = true)
    (k5 : PySem.W.keepIn K (.ref f5) = true)
    (a6 : PySem.W.nsIn K mainGlobals "_law_cell" = some (some (.ref f6)))
    (l6 : K.lookup f6 = some ⟨oc6, od6, .func (PySem.W.fnOf "_law_cell" "_law_cell" (defArgs s__law_cell) (defBody s__law_cell) (defScope s__law_cell) .none kV6 dc6 pm6 an6 cd6 ct6), sl6⟩)
    (c6 : PySem.W.codeIn K cd6 "_law_cell" = true)
    (k6 : PySem.W.keepIn K (.ref f6) = true)
    (a7 : PySem.W.nsIn K mainGlobals "_law_mixed" = some (some (.ref f7)))
    (l7 : K.lookup f7 = some ⟨oc7, od7, .func (PySem.W.fnOf "_law_mixed" "_law_mixed" (defArgs s__law_mixed) (defBody s__law_mixed) (defScope s__law_mixed) .none kV7 dc7 pm7 an7 cd7 ct7), sl7⟩)
    (c7 : PySem.W.codeIn K cd7 "_law_mixed" = true)
    (k7 : PySem.W.keepIn K (.ref f7) = true)
    (a8 : PySem.W.nsIn K mainGlobals "_law_signs" = some (some (.ref f8)))
    (l8 : K.lookup f8 = some ⟨oc8, od8, .func (PySem.W.fnOf "_law_signs" "_law_signs" (defArgs s__law_signs) (defBody s__law_signs) (defScope s__law_signs) .none kV8 dc8 pm8 an8 cd8 ct8), sl8⟩)
    (c8 : PySem.W.codeIn K cd8 "_law_signs" = true)
    (k8 : PySem.W.keepIn K (.ref f8) = true)
    (a9 : PySem.W.nsIn K mainGlobals "_law_int" = some (some (.ref f9)))
    (l9 : K.lookup f9 = some ⟨oc9, od9, .func (PySem.W.fnOf "_law_int" "_law_int" (defArgs s__law_int) (defBody s__law_int) (defScope s__law_int) .none kV9 dc9 pm9 an9 cd9 ct9), sl9⟩)
    (c9 : PySem.W.codeIn K cd9 "_law_int" = true)
    (k9 : PySem.W.keepIn K (.ref f9) = true)
    (a10 : PySem.W.nsIn K mainGlobals "_law_sevens" = some (some (.ref f10)))
    (l10 : K.lookup f10 = some ⟨oc10, od10, .func (PySem.W.fnOf "_law_sevens" "_law_sevens" (defArgs s__law_sevens) (defBody s__law_sevens) (defScope s__law_sevens) .none kV10 dc10 pm10 an10 cd10 ct10), sl10⟩)
    (c10 : PySem.W.codeIn K cd10 "_law_sevens" = true)
    (k10 : PySem.W.keepIn K (.ref f10) = true)
    (a11 : PySem.W.nsIn K mainGlobals "_law_size" = some (some (.ref f11)))
    (l11 : K.lookup f11 = some ⟨oc11, od11, .func (PySem.W.fnOf "_law_size" "_law_size" (defArgs s__law_size) (defBody s__law_size) (defScope s__law_size) .none kV11 dc11 pm11 an11 cd11 ct11), sl11⟩)
    (c11 : PySem.W.codeIn K cd11 "_law_size" = true)
    (k11 : PySem.W.keepIn K (.ref f11) = true)
    (a12 : PySem.W.nsIn K mainGlobals "is_value" = some (some (.ref f12)))
    (l12 : K.lookup f12 = some ⟨oc12, od12, .func (PySem.W.fnOf "is_value" "is_value" (defArgs s_is_value) (defBody s_is_value) (defScope s_is_value) .none kV12 dc12 pm12 an12 cd12 ct12), sl12⟩)
    (c12 : PySem.W.codeIn K cd12 "is_value" = true)
    (k12 : PySem.W.keepIn K (.ref f12) = true)
    (a13 : PySem.W.nsIn K mainGlobals "signed_number" = some (some (.ref f13)))
    (l13 : K.lookup f13 = some ⟨oc13, od13, .func (PySem.W.fnOf "signed_number" "signed_number" (defArgs s_signed_number) (defBody s_signed_number) (defScope s_signed_number) .none kV13 dc13 pm13 an13 cd13 ct13), sl13⟩)
    (c13 : PySem.W.codeIn K cd13 "signed_number" = true)
    (k13 : PySem.W.keepIn K (.ref f13) = true)
    (a14 : PySem.W.nsIn K mainGlobals "is_packing" = some (some (.ref f14)))
    (l14 : K.lookup f14 = some ⟨oc14, od14, .func (PySem.W.fnOf "is_packing" "is_packing" (defArgs s_is_packing) (defBody s_is_packing) (defScope s_is_packing) .none kV14 dc14 pm14 an14 cd14 ct14), sl14⟩)
    (c14 : PySem.W.codeIn K cd14 "is_packing" = true)
    (k14 : PySem.W.keepIn K (.ref f14) = true)
    (a15 : PySem.W.nsIn K mainGlobals "_mask" = some (some (.ref f15)))
    (l15 : K.lookup f15 = some ⟨oc15, od15, .func (PySem.W.fnOf "_mask" "_mask" (defArgs s__mask) (defBody s__mask) (defScope s__mask) .none kV15 dc15 pm15 an15 cd15 ct15), sl15⟩)
    (c15 : PySem.W.codeIn K cd15 "_mask" = true)
    (k15 : PySem.W.keepIn K (.ref f15) = true)
    (a16 : PySem.W.nsIn K mainGlobals "_law_draws" = some (some (.ref f16)))
    (l16 : K.lookup f16 = some ⟨oc16, od16, .func (PySem.W.fnOf "_law_draws" "_law_draws" (defArgs s__law_draws) (defBody s__law_draws) (defScope s__law_draws) .none kV16 dc16 pm16 an16 cd16 ct16), sl16⟩)
    (c16 : PySem.W.codeIn K cd16 "_law_draws" = true)
    (k16 : PySem.W.keepIn K (.ref f16) = true)
    (a17 : PySem.W.nsIn K mainGlobals "_law_text" = some (some (.ref f17)))
    (l17 : K.lookup f17 = some ⟨oc17, od17, .func (PySem.W.fnOf "_law_text" "_law_text" (defArgs s__law_text) (defBody s__law_text) (defScope s__law_text) .none kV17 dc17 pm17 an17 cd17 ct17), sl17⟩)
    (c17 : PySem.W.codeIn K cd17 "_law_text" = true)
    (k17 : PySem.W.keepIn K (.ref f17) = true)
    (a18 : PySem.W.nsIn K mainGlobals "_law_signed" = some (some (.ref f18)))
    (l18 : K.lookup f18 = some ⟨oc18, od18, .func (PySem.W.fnOf "_law_signed" "_law_signed" (defArgs s__law_signed) (defBody s__law_signed) (defScope s__law_signed) .none kV18 dc18 pm18 an18 cd18 ct18), sl18⟩)
    (c18 : PySem.W.codeIn K cd18 "_law_signed" = true)
    (k18 : PySem.W.keepIn K (.ref f18) = true)
    (a19 : PySem.W.nsIn K mainGlobals "value_numbers" = some (some (.ref f19)))
    (l19 : K.lookup f19 = some ⟨oc19, od19, .func (PySem.W.fnOf "value_numbers" "value_numbers" (defArgs s_value_numbers) (defBody s_value_numbers) (defScope s_value_numbers) .none kV19 dc19 pm19 an19 cd19 ct19), sl19⟩)
    (c19 : PySem.W.codeIn K cd19 "value_numbers" = true)
    (k19 : PySem.W.keepIn K (.ref f19) = true)
    (a20 : PySem.W.nsIn K mainGlobals "_write_steps" = some (some (.ref f20)))
    (l20 : K.lookup f20 = some ⟨oc20, od20, .func (PySem.W.fnOf "_write_steps" "_write_steps" (defArgs s__write_steps) (defBody s__write_steps) (defScope s__write_steps) .none kV20 dc20 pm20 an20 cd20 ct20), sl20⟩)
    (c20 : PySem.W.codeIn K cd20 "_write_steps" = true)
    (k20 : PySem.W.keepIn K (.ref f20) = true)
    (a21 : PySem.W.nsIn K mainGlobals "_write_near" = some (some (.ref f21)))
    (l21 : K.lookup f21 = some ⟨oc21, od21, .func (PySem.W.fnOf "_write_near" "_write_near" (defArgs s__write_near) (defBody s__write_near) (defScope s__write_near) .none kV21 dc21 pm21 an21 cd21 ct21), sl21⟩)
    (c21 : PySem.W.codeIn K cd21 "_write_near" = true)
    (k21 : PySem.W.keepIn K (.ref f21) = true)
    (a22 : PySem.W.nsIn K mainGlobals "_is_column" = some (some (.ref f22)))
    (l22 : K.lookup f22 = some ⟨oc22, od22, .func (PySem.W.fnOf "_is_column" "_is_column" (defArgs s__is_column) (defBody s__is_column) (defScope s__is_column) .none kV22 dc22 pm22 an22 cd22 ct22), sl22⟩)
    (c22 : PySem.W.codeIn K cd22 "_is_column" = true)
    (k22 : PySem.W.keepIn K (.ref f22) = true)
    (a23 : PySem.W.nsIn K mainGlobals "_law_worth" = some (some (.ref f23)))
    (l23 : K.lookup f23 = some ⟨oc23, od23, .func (PySem.W.fnOf "_law_worth" "_law_worth" (defArgs s__law_worth) (defBody s__law_worth) (defScope s__law_worth) .none kV23 dc23 pm23 an23 cd23 ct23), sl23⟩)
    (c23 : PySem.W.codeIn K cd23 "_law_worth" = true)
    (k23 : PySem.W.keepIn K (.ref f23) = true)
    (a24 : PySem.W.nsIn K mainGlobals "_law_one" = some (some (.ref f24)))
    (l24 : K.lookup f24 = some ⟨oc24, od24, .func (PySem.W.fnOf "_law_one" "_law_one" (defArgs s__law_one) (defBody s__law_one) (defScope s__law_one) .none kV24 dc24 pm24 an24 cd24 ct24), sl24⟩)
    (c24 : PySem.W.codeIn K cd24 "_law_one" = true)
    (k24 : PySem.W.keepIn K (.ref f24) = true)
    (a25 : PySem.W.nsIn K mainGlobals "_write_plain" = some (some (.ref f25)))
    (l25 : K.lookup f25 = some ⟨oc25, od25, .func (PySem.W.fnOf "_write_plain" "_write_plain" (defArgs s__write_plain) (defBody s__write_plain) (defScope s__write_plain) .none kV25 dc25 pm25 an25 cd25 ct25), sl25⟩)
    (c25 : PySem.W.codeIn K cd25 "_write_plain" = true)
    (k25 : PySem.W.keepIn K (.ref f25) = true)
    (a26 : PySem.W.nsIn K mainGlobals "_write_runs" = some (some (.ref f26)))
    (l26 : K.lookup f26 = some ⟨oc26, od26, .func (PySem.W.fnOf "_write_runs" "_write_runs" (defArgs s__write_runs) (defBody s__write_runs) (defScope s__write_runs) .none kV26 dc26 pm26 an26 cd26 ct26), sl26⟩)
    (c26 : PySem.W.codeIn K cd26 "_write_runs" = true)
    (k26 : PySem.W.keepIn K (.ref f26) = true)
    (a27 : PySem.W.nsIn K mainGlobals "_law_all" = some (some (.ref f27)))
    (l27 : K.lookup f27 = some ⟨oc27, od27, .func (PySem.W.fnOf "_law_all" "_law_all" (defArgs s__law_all) (defBody s__law_all) (defScope s__law_all) .none kV27 dc27 pm27 an27 cd27 ct27), sl27⟩)
    (c27 : PySem.W.codeIn K cd27 "_law_all" = true)
    (k27 : PySem.W.keepIn K (.ref f27) = true)
    (a28 : PySem.W.nsIn K mainGlobals "_law_runs" = some (some (.ref f28)))
    (l28 : K.lookup f28 = some ⟨oc28, od28, .func (PySem.W.fnOf "_law_runs" "_law_runs" (defArgs s__law_runs) (defBody s__law_runs) (defScope s__law_runs) .none kV28 dc28 pm28 an28 cd28 ct28), sl28⟩)
    (c28 : PySem.W.codeIn K cd28 "_law_runs" = true)
    (k28 : PySem.W.keepIn K (.ref f28) = true)
    (a29 : PySem.W.nsIn K mainGlobals "_law_column" = some (some (.ref f29)))
    (l29 : K.lookup f29 = some ⟨oc29, od29, .func (PySem.W.fnOf "_law_column" "_law_column" (defArgs s__law_column) (defBody s__law_column) (defScope s__law_column) .none kV29 dc29 pm29 an29 cd29 ct29), sl29⟩)
    (c29 : PySem.W.codeIn K cd29 "_law_column" = true)
    (k29 : PySem.W.keepIn K (.ref f29) = true)
    (a30 : PySem.W.nsIn K mainGlobals "_write_book" = some (some (.ref f30)))
    (l30 : K.lookup f30 = some ⟨oc30, od30, .func (PySem.W.fnOf "_write_book" "_write_book" (defArgs s__write_book) (defBody s__write_book) (defScope s__write_book) .none kV30 dc30 pm30 an30 cd30 ct30), sl30⟩)
    (c30 : PySem.W.codeIn K cd30 "_write_book" = true)
    (k30 : PySem.W.keepIn K (.ref f30) = true)
    (a31 : PySem.W.nsIn K mainGlobals "_law_book" = some (some (.ref f31)))
    (l31 : K.lookup f31 = some ⟨oc31, od31, .func (PySem.W.fnOf "_law_book" "_law_book" (defArgs s__law_book) (defBody s__law_book) (defScope s__law_book) .none kV31 dc31 pm31 an31 cd31 ct31), sl31⟩)
    (c31 : PySem.W.codeIn K cd31 "_law_book" = true)
    (k31 : PySem.W.keepIn K (.ref f31) = true)
    (a32 : PySem.W.nsIn K mainGlobals "write_values" = some (some (.ref f32)))
    (l32 : K.lookup f32 = some ⟨oc32, od32, .func (PySem.W.fnOf "write_values" "write_values" (defArgs s_write_values) (defBody s_write_values) (defScope s_write_values) .none kV32 dc32 pm32 an32 cd32 ct32), sl32⟩)
    (c32 : PySem.W.codeIn K cd32 "write_values" = true)
    (k32 : PySem.W.keepIn K (.ref f32) = true)
    (a33 : PySem.W.nsIn K mainGlobals "_law_packed" = some (some (.ref f33)))
    (l33 : K.lookup f33 = some ⟨oc33, od33, .func (PySem.W.fnOf "_law_packed" "_law_packed" (defArgs s__law_packed) (defBody s__law_packed) (defScope s__law_packed) .none kV33 dc33 pm33 an33 cd33 ct33), sl33⟩)
    (c33 : PySem.W.codeIn K cd33 "_law_packed" = true)
    (k33 : PySem.W.keepIn K (.ref f33) = true)
    (a34 : PySem.W.nsIn K mainGlobals "_numbers" = some (some (.ref f34)))
    (l34 : K.lookup f34 = some ⟨oc34, od34, .func (PySem.W.fnOf "_numbers" "_numbers" (defArgs s__numbers) (defBody s__numbers) (defScope s__numbers) .none kV34 dc34 pm34 an34 cd34 ct34), sl34⟩)
    (c34 : PySem.W.codeIn K cd34 "_numbers" = true)
    (k34 : PySem.W.keepIn K (.ref f34) = true)
    (a35 : PySem.W.nsIn K mainGlobals "packed" = some (some (.ref f35)))
    (l35 : K.lookup f35 = some ⟨oc35, od35, .func (PySem.W.fnOf "packed" "packed" (defArgs s_packed) (defBody s_packed) (defScope s_packed) .none kV35 dc35 pm35 an35 cd35 ct35), sl35⟩)
    (c35 : PySem.W.codeIn K cd35 "packed" = true)
    (k35 : PySem.W.keepIn K (.ref f35) = true)
    (a36 : PySem.W.nsIn K mainGlobals "packed_best" = some (some (.ref f36)))
    (l36 : K.lookup f36 = some ⟨oc36, od36, .func (PySem.W.fnOf "packed_best" "packed_best" (defArgs s_packed_best) (defBody s_packed_best) (defScope s_packed_best) .none kV36 dc36 pm36 an36 cd36 ct36), sl36⟩)
    (c36 : PySem.W.codeIn K cd36 "packed_best" = true)
    (k36 : PySem.W.keepIn K (.ref f36) = true)
    (a37 : PySem.W.nsIn K mainGlobals "best" = some (some (.ref f37)))
    (l37 : K.lookup f37 = some ⟨oc37, od37, .func (PySem.W.fnOf "best" "best" (defArgs s_best) (defBody s_best) (defScope s_best) .none kV37 dc37 pm37 an37 cd37 ct37), sl37⟩)
    (c37 : PySem.W.codeIn K cd37 "best" = true)
    (k37 : PySem.W.keepIn K (.ref f37) = true)
    (a38 : PySem.W.nsIn K mainGlobals "law" = some (some (.ref f38)))
    (l38 : K.lookup f38 = some ⟨oc38, od38, .func (PySem.W.fnOf "law" "law" (defArgs s_law) (defBody s_law) (defScope s_law) .none kV38 dc38 pm38 an38 cd38 ct38), sl38⟩)
    (c38 : PySem.W.codeIn K cd38 "law" = true)
    (k38 : PySem.W.keepIn K (.ref f38) = true)
    (z_abs : PySem.W.nsIn K mainGlobals "abs" = some none)
    (z_all : PySem.W.nsIn K mainGlobals "all" = some none)
    (z_bool : PySem.W.nsIn K mainGlobals "bool" = some none)
    (z_enumerate : PySem.W.nsIn K mainGlobals "enumerate" = some none)
    (z_int : PySem.W.nsIn K mainGlobals "int" = some none)
    (z_isinstance : PySem.W.nsIn K mainGlobals "isinstance" = some none)
    (z_len : PySem.W.nsIn K mainGlobals "len" = some none)
    (z_list : PySem.W.nsIn K mainGlobals "list" = some none)
    (z_min : PySem.W.nsIn K mainGlobals "min" = some none)
    (z_ord : PySem.W.nsIn K mainGlobals "ord" = some none)
    (z_range : PySem.W.nsIn K mainGlobals "range" = some none)
    (z_set : PySem.W.nsIn K mainGlobals "set" = some none)
    (z_sorted : PySem.W.nsIn K mainGlobals "sorted" = some none)
    (z_str : PySem.W.nsIn K mainGlobals "str" = some none)
    (z_tuple : PySem.W.nsIn K mainGlobals "tuple" = some none)
    (g_EVERY_PACKING : PySem.W.nsIn K mainGlobals "EVERY_PACKING" = some (some (.ref ga_EVERY_PACKING)))
    (gl_EVERY_PACKING : K.lookup ga_EVERY_PACKING = some ⟨.type "tuple", go_EVERY_PACKING, .seq #[.int (0) t_EVERY_PACKING_0, .int (1) t_EVERY_PACKING_1, .int (2) t_EVERY_PACKING_2, .int (3) t_EVERY_PACKING_3, .int (4) t_EVERY_PACKING_4] gn_EVERY_PACKING, gs_EVERY_PACKING⟩)
    (g_KINDS : PySem.W.nsIn K mainGlobals "KINDS" = some (some (.ref ga_KINDS)))
    (gl_KINDS : K.lookup ga_KINDS = some ⟨.type "tuple", go_KINDS, .seq #[.str "int" t_KINDS_0, .str "text" t_KINDS_1, .str "bool" t_KINDS_2] gn_KINDS, gs_KINDS⟩)
    (g_KINDS_BY_NUMBER : PySem.W.nsIn K mainGlobals "KINDS_BY_NUMBER" = some (some (.ref ga_KINDS_BY_NUMBER)))
    (gl_KINDS_BY_NUMBER : K.lookup ga_KINDS_BY_NUMBER = some ⟨.type "tuple", none, .seq #[.str "bool" t_KINDS_BY_NUMBER_0, .str "int" t_KINDS_BY_NUMBER_1, .str "text" t_KINDS_BY_NUMBER_2] gn_KINDS_BY_NUMBER, gs_KINDS_BY_NUMBER⟩)
    (g_LIMIT : PySem.W.nsIn K mainGlobals "LIMIT" = some (some (.int (1000000000000000000) t_LIMIT)))
    (g_LONGEST : PySem.W.nsIn K mainGlobals "LONGEST" = some (some (.int (200) t_LONGEST)))
    (g_MOST_VALUES : PySem.W.nsIn K mainGlobals "MOST_VALUES" = some (some (.int (256) t_MOST_VALUES)))
    (g_SIGNS : PySem.W.nsIn K mainGlobals "SIGNS" = some (some (.str " !\"#$&'()*+,-./0123456789:;<=>?@ABCDEFGHIJKLMNOPQRSTUVWXYZ[\\]^_`abcdefghijklmnopqrstuvwxyz{|}~" t_SIGNS)))
    (g_WRITERS : PySem.W.nsIn K mainGlobals "WRITERS" = some (some (.ref ga_WRITERS)))
    (gl_WRITERS : K.lookup ga_WRITERS = some ⟨.type "tuple", go_WRITERS, .seq #[.ref f25, .ref f26, .ref f30, .ref f20, .ref f21] gn_WRITERS, gs_WRITERS⟩)
    (g_PACKINGS : PySem.W.nsIn K mainGlobals "PACKINGS" = some (some (.ref ga_PACKINGS)))
    (gl_PACKINGS : K.lookup ga_PACKINGS = some ⟨.type "dict", none, .dict es_PACKINGS gn_PACKINGS, #[]⟩)
    (gk_PACKINGS : PySem.W.KeysLit w.params es_PACKINGS.toList)
    (gs_PACKINGS : (ga_PACKINGS == sysModules) = false)
    (gi_PACKINGS_0 : PySem.W.nsIn K ga_PACKINGS "int" = some (some (.ref ua_PACKINGS_0)))
    (ul_PACKINGS_0 : K.lookup ua_PACKINGS_0 = some ⟨.type "tuple", uo_PACKINGS_0, .seq #[.int (0) ut_PACKINGS_0_0, .int (1) ut_PACKINGS_0_1, .int (2) ut_PACKINGS_0_2, .int (3) ut_PACKINGS_0_3, .int (4) ut_PACKINGS_0_4] un_PACKINGS_0, us_PACKINGS_0⟩)
    (gi_PACKINGS_1 : PySem.W.nsIn K ga_PACKINGS "text" = some (some (.ref ua_PACKINGS_1)))
    (ul_PACKINGS_1 : K.lookup ua_PACKINGS_1 = some ⟨.type "tuple", uo_PACKINGS_1, .seq #[.int (0) ut_PACKINGS_1_0, .int (1) ut_PACKINGS_1_1, .int (2) ut_PACKINGS_1_2] un_PACKINGS_1, us_PACKINGS_1⟩)
    (gi_PACKINGS_2 : PySem.W.nsIn K ga_PACKINGS "bool" = some (some (.ref ua_PACKINGS_2)))
    (ul_PACKINGS_2 : K.lookup ua_PACKINGS_2 = some ⟨.type "tuple", uo_PACKINGS_2, .seq #[.int (0) ut_PACKINGS_2_0, .int (1) ut_PACKINGS_2_1, .int (2) ut_PACKINGS_2_2] un_PACKINGS_2, us_PACKINGS_2⟩) :
    ∃ fd : FuncData, (∀ (s : Shared) (v : Value), BindsTo s fd ⟨[v], []⟩ [("script", v)]) ∧ ∀ base : Heap, K.In base → base.Ns mainGlobals mg → FnOk l.prog w K mg base CX0 11 fa fd ["script"] (spLaw K) := by
  letI : WdI := ⟨l.prog, w⟩
  haveI : WdOk l.prog w := ⟨rfl, rfl⟩
  have e := hfa.symm.trans (PySem.W.mg_of X G a38)
  cases e
  have T : Txt w K mg := ⟨PySem.W.mg_none_of X G z_abs, PySem.W.mg_none_of X G z_all, PySem.W.mg_none_of X G z_bool, PySem.W.mg_none_of X G z_enumerate, PySem.W.mg_none_of X G z_int, PySem.W.mg_none_of X G z_isinstance, PySem.W.mg_none_of X G z_len, PySem.W.mg_none_of X G z_list, PySem.W.mg_none_of X G z_min, PySem.W.mg_none_of X G z_ord, PySem.W.mg_none_of X G z_range, PySem.W.mg_none_of X G z_set, PySem.W.mg_none_of X G z_sorted, PySem.W.mg_none_of X G z_str, PySem.W.mg_none_of X G z_tuple, ⟨_, PySem.W.mg_of X G g_EVERY_PACKING, fun F => .tup (xs := [(V.int (0) : V), (V.int (1) : V), (V.int (2) : V), (V.int (3) : V), (V.int (4) : V)]) (.inr ⟨_, _, _, gl_EVERY_PACKING, rfl, rfl, (by show (5 : Nat) ≤ sizeLine; decide), .cons ⟨_, rfl⟩ (.cons ⟨_, rfl⟩ (.cons ⟨_, rfl⟩ (.cons ⟨_, rfl⟩ (.cons ⟨_, rfl⟩ (.nil)))))⟩) (.cons (.int _) (.cons (.int _) (.cons (.int _) (.cons (.int _) (.cons (.int _) (.nil))))))⟩, ⟨_, PySem.W.mg_of X G g_KINDS, fun F => .tup (xs := [(V.str ("int" : Str) : V), (V.str ("text" : Str) : V), (V.str ("bool" : Str) : V)]) (.inr ⟨_, _, _, gl_KINDS, rfl, rfl, (by show (3 : Nat) ≤ sizeLine; decide), .cons ⟨_, rfl⟩ (.cons ⟨_, rfl⟩ (.cons ⟨_, rfl⟩ (.nil)))⟩) (.cons (.str _) (.cons (.str _) (.cons (.str _) (.nil))))⟩, ⟨_, PySem.W.mg_of X G g_KINDS_BY_NUMBER, (fun F => .tup (xs := [(V.str ("bool" : Str) : V), (V.str ("int" : Str) : V), (V.str ("text" : Str) : V)]) (.inr ⟨_, _, _, gl_KINDS_BY_NUMBER, rfl, rfl, (by show (3 : Nat) ≤ sizeLine; decide), .cons ⟨_, rfl⟩ (.cons ⟨_, rfl⟩ (.cons ⟨_, rfl⟩ (.nil)))⟩) (.cons (.str _) (.cons (.str _) (.cons (.str _) (.nil))))), ⟨_, gl_KINDS_BY_NUMBER, rfl, rfl⟩⟩, ⟨_, PySem.W.mg_of X G g_LIMIT⟩, ⟨_, PySem.W.mg_of X G g_LONGEST⟩, ⟨_, PySem.W.mg_of X G g_MOST_VALUES⟩, ⟨_, PySem.W.mg_of X G g_SIGNS⟩, ⟨_, PySem.W.mg_of X G g_WRITERS, fun F => .tup (xs := [.ref _, .ref _, .ref _, .ref _, .ref _]) (.inr ⟨_, _, _, gl_WRITERS, rfl, rfl, (by show (5 : Nat) ≤ sizeLine; decide), .cons rfl (.cons rfl (.cons rfl (.cons rfl (.cons rfl (.nil)))))⟩) (.cons (.fn (PySem.W.mg_of X G a25)) (.cons (.fn (PySem.W.mg_of X G a26)) (.cons (.fn (PySem.W.mg_of X G a30)) (.cons (.fn (PySem.W.mg_of X G a20)) (.cons (.fn (PySem.W.mg_of X G a21)) (.nil))))))⟩, ⟨_, _, _, ⟨PySem.W.mg_of X G g_PACKINGS, ⟨gl_PACKINGS, gk_PACKINGS, gs_PACKINGS⟩⟩, (by intro p hp; simp only [List.mem_cons, List.not_mem_nil, or_false] at hp; rcases hp with rfl | rfl | rfl; exact ⟨⟨_, gi_PACKINGS_0, rfl⟩⟩; exact ⟨⟨_, gi_PACKINGS_1, rfl⟩⟩; exact ⟨⟨_, gi_PACKINGS_2, rfl⟩⟩), (by intro p hp; cases hp), (by intro p hp; simp only [List.mem_cons, List.not_mem_nil, or_false] at hp; rcases hp with rfl | rfl | rfl; exact ⟨⟨_, .ref _, gi_PACKINGS_0, rfl, fun F => .tup (xs := [.int (0), .int (1), .int (2), .int (3), .int (4)]) (.inr ⟨_, _, _, ul_PACKINGS_0, rfl, rfl, (by show (5 : Nat) ≤ sizeLine; decide), .cons ⟨_, rfl⟩ (.cons ⟨_, rfl⟩ (.cons ⟨_, rfl⟩ (.cons ⟨_, rfl⟩ (.cons ⟨_, rfl⟩ (.nil)))))⟩) (.cons (.int _) (.cons (.int _) (.cons (.int _) (.cons (.int _) (.cons (.int _) (.nil))))))⟩⟩; exact ⟨⟨_, .ref _, gi_PACKINGS_1, rfl, fun F => .tup (xs := [.int (0), .int (1), .int (2)]) (.inr ⟨_, _, _, ul_PACKINGS_1, rfl, rfl, (by show (3 : Nat) ≤ sizeLine; decide), .cons ⟨_, rfl⟩ (.cons ⟨_, rfl⟩ (.cons ⟨_, rfl⟩ (.nil)))⟩) (.cons (.int _) (.cons (.int _) (.cons (.int _) (.nil))))⟩⟩; exact ⟨⟨_, .ref _, gi_PACKINGS_2, rfl, fun F => .tup (xs := [.int (0), .int (1), .int (2)]) (.inr ⟨_, _, _, ul_PACKINGS_2, rfl, rfl, (by show (3 : Nat) ≤ sizeLine; decide), .cons ⟨_, rfl⟩ (.cons ⟨_, rfl⟩ (.cons ⟨_, rfl⟩ (.nil)))⟩) (.cons (.int _) (.cons (.int _) (.cons (.int _) (.nil))))⟩⟩)⟩⟩
  have F0 := fun_mk (st := s_is_whole) l0 c0 k0
  have F1 := fun_mk (st := s__has_text_signs) l1 c1 k1
  have F2 := fun_mk (st := s_long_number) l2 c2 k2
  have F3 := fun_mk (st := s_packings_of) l3 c3 k3
  have F4 := fun_mk (st := s__runs_of) l4 c4 k4
  have F5 := fun_mk (st := s__mask_length) l5 c5 k5
  have F6 := fun_mk (st := s__law_cell) l6 c6 k6
  have F7 := fun_mk (st := s__law_mixed) l7 c7 k7
  have F8 := fun_mk (st := s__law_signs) l8 c8 k8
  have F9 := fun_mk (st := s__law_int) l9 c9 k9
  have F10 := fun_mk (st := s__law_sevens) l10 c10 k10
  have F11 := fun_mk (st := s__law_size) l11 c11 k11
  have F12 := fun_mk (st := s_is_value) l12 c12 k12
  have F13 := fun_mk (st := s_signed_number) l13 c13 k13
  have F14 := fun_mk (st := s_is_packing) l14 c14 k14
  have F15 := fun_mk (st := s__mask) l15 c15 k15
  have F16 := fun_mk (st := s__law_draws) l16 c16 k16
  have F17 := fun_mk (st := s__law_text) l17 c17 k17
  have F18 := fun_mk (st := s__law_signed) l18 c18 k18
  have F19 := fun_mk (st := s_value_numbers) l19 c19 k19
  have F20 := fun_mk (st := s__write_steps) l20 c20 k20
  have F21 := fun_mk (st := s__write_near) l21 c21 k21
  have F22 := fun_mk (st := s__is_column) l22 c22 k22
  have F23 := fun_mk (st := s__law_worth) l23 c23 k23
  have F24 := fun_mk (st := s__law_one) l24 c24 k24
  have F25 := fun_mk (st := s__write_plain) l25 c25 k25
  have F26 := fun_mk (st := s__write_runs) l26 c26 k26
  have F27 := fun_mk (st := s__law_all) l27 c27 k27
  have F28 := fun_mk (st := s__law_runs) l28 c28 k28
  have F29 := fun_mk (st := s__law_column) l29 c29 k29
  have F30 := fun_mk (st := s__write_book) l30 c30 k30
  have F31 := fun_mk (st := s__law_book) l31 c31 k31
  have F32 := fun_mk (st := s_write_values) l32 c32 k32
  have F33 := fun_mk (st := s__law_packed) l33 c33 k33
  have F34 := fun_mk (st := s__numbers) l34 c34 k34
  have F35 := fun_mk (st := s_packed) l35 c35 k35
  have F36 := fun_mk (st := s_packed_best) l36 c36 k36
  have F37 := fun_mk (st := s_best) l37 c37 k37
  have F38 := fun_mk (st := s_law) l38 c38 k38
  refine ⟨PySem.W.fnOf "law" "law" (defArgs s_law) (defBody s_law) (defScope s_law) .none kV38 dc38 pm38 an38 cd38 ct38, fun s v => .of_eq rfl, fun base _ _ => ?_⟩
  have D0 := ok_is_whole (P := l.prog) (w := w) (base := base) T F0 (PySem.W.mg_of X G a0)
  have D1 := ok__has_text_signs (P := l.prog) (w := w) (base := base) T F1 (PySem.W.mg_of X G a1)
  have D2 := ok_long_number (P := l.prog) (w := w) (base := base) T F2 (PySem.W.mg_of X G a2)
  have D3 := ok_packings_of (P := l.prog) (w := w) (base := base) T F3 (PySem.W.mg_of X G a3)
  have D4 := ok__runs_of (P := l.prog) (w := w) (base := base) T F4 (PySem.W.mg_of X G a4)
  have D5 := ok__mask_length (P := l.prog) (w := w) (base := base) T F5 (PySem.W.mg_of X G a5)
  have D6 := ok__law_cell (P := l.prog) (w := w) (base := base) T F6 (PySem.W.mg_of X G a6)
  have D7 := ok__law_mixed (P := l.prog) (w := w) (base := base) T F7 (PySem.W.mg_of X G a7)
  have D8 := ok__law_signs (P := l.prog) (w := w) (base := base) T F8 (PySem.W.mg_of X G a8)
  have D9 := ok__law_int (P := l.prog) (w := w) (base := base) T F9 (PySem.W.mg_of X G a9)
  have D10 := ok__law_sevens (P := l.prog) (w := w) (base := base) T F10 (PySem.W.mg_of X G a10)
  have D11 := ok__law_size (P := l.prog) (w := w) (base := base) T F11 (PySem.W.mg_of X G a11)
  have D12 := ok_is_value (P := l.prog) (w := w) (base := base) T D0 D1 F12 (PySem.W.mg_of X G a12)
  have D13 := ok_signed_number (P := l.prog) (w := w) (base := base) T D2 F13 (PySem.W.mg_of X G a13)
  have D14 := ok_is_packing (P := l.prog) (w := w) (base := base) T D0 F14 (PySem.W.mg_of X G a14)
  have D15 := ok__mask (P := l.prog) (w := w) (base := base) T D5 F15 (PySem.W.mg_of X G a15)
  have D16 := ok__law_draws (P := l.prog) (w := w) (base := base) T D7 F16 (PySem.W.mg_of X G a16)
  have D17 := ok__law_text (P := l.prog) (w := w) (base := base) T D8 F17 (PySem.W.mg_of X G a17)
  have D18 := ok__law_signed (P := l.prog) (w := w) (base := base) T D10 F18 (PySem.W.mg_of X G a18)
  have D19 := ok_value_numbers (P := l.prog) (w := w) (base := base) T D13 D2 F19 (PySem.W.mg_of X G a19)
  have D20 := ok__write_steps (P := l.prog) (w := w) (base := base) T D13 F20 (PySem.W.mg_of X G a20)
  have D21 := ok__write_near (P := l.prog) (w := w) (base := base) T D13 D2 F21 (PySem.W.mg_of X G a21)
  have D22 := ok__is_column (P := l.prog) (w := w) (base := base) T D12 F22 (PySem.W.mg_of X G a22)
  have D23 := ok__law_worth (P := l.prog) (w := w) (base := base) T D9 D17 F23 (PySem.W.mg_of X G a23)
  have D24 := ok__law_one (P := l.prog) (w := w) (base := base) T D18 D10 D8 F24 (PySem.W.mg_of X G a24)
  have D25 := ok__write_plain (P := l.prog) (w := w) (base := base) T D19 F25 (PySem.W.mg_of X G a25)
  have D26 := ok__write_runs (P := l.prog) (w := w) (base := base) T D4 D2 D19 F26 (PySem.W.mg_of X G a26)
  have D27 := ok__law_all (P := l.prog) (w := w) (base := base) T D24 F27 (PySem.W.mg_of X G a27)
  have D28 := ok__law_runs (P := l.prog) (w := w) (base := base) T D10 D24 F28 (PySem.W.mg_of X G a28)
  have D29 := ok__law_column (P := l.prog) (w := w) (base := base) T D11 D16 D6 D23 F29 (PySem.W.mg_of X G a29)
  have D30 := ok__write_book (P := l.prog) (w := w) (base := base) T D2 D25 F30 (PySem.W.mg_of X G a30)
  have D31 := ok__law_book (P := l.prog) (w := w) (base := base) T D10 D27 F31 (PySem.W.mg_of X G a31)
  have D32 := ok_write_values (P := l.prog) (w := w) (base := base) T D25 D26 D30 D20 D21 F32 (PySem.W.mg_of X G a32)
  have D33 := ok__law_packed (P := l.prog) (w := w) (base := base) T D10 D28 D31 D27 D18 F33 (PySem.W.mg_of X G a33)
  have D34 := ok__numbers (P := l.prog) (w := w) (base := base) T D2 D15 D32 F34 (PySem.W.mg_of X G a34)
  have D35 := ok_packed (P := l.prog) (w := w) (base := base) T D22 D14 D3 D34 F35 (PySem.W.mg_of X G a35)
  have D36 := ok_packed_best (P := l.prog) (w := w) (base := base) T D3 D35 F36 (PySem.W.mg_of X G a36)
  have D37 := ok_best (P := l.prog) (w := w) (base := base) T D36 F37 (PySem.W.mg_of X G a37)
  exact law_imp (fn_law (P := l.prog) (w := w) (base := base) T D16 D6 D29 D33 D37 F38) QM.law_k13
def kE (P : Params) (x : Str) (t : Nat) (v : Value) : DictEntry := ⟨PyData.keyHash P x, .str x t, v⟩
/-- 3 -/
def o13_3 (P : Params) : Obj := { cls := Value.type "dict", data := Data.dict #[kE P "__name__" 165 (Value.str "law_peristyle_k13_best_packing" 476), kE P "__doc__" 166 (Value.none), kE P "__package__" 167 (Value.none), kE P "__loader__" 168 (Value.builtin "__main__.__loader__#opaque"), kE P "__spec__" 169 (Value.none), kE P "__annotations__" 170 (Value.ref 6), kE P "__builtins__" 171 (Value.ref 4), kE P "__file__" 173 (Value.str "/claim/cut.py" 172), kE P "__cached__" 174 (Value.none), kE P "PeristyleError" 206 (Value.ref 24), kE P "BadKind" 231 (Value.ref 44), kE P "BadForm" 247 (Value.ref 56), kE P "KINDS" 253 (Value.ref 59), kE P "LIMIT" 257 (Value.int 1000000000000000000 256), kE P "LONGEST" 259 (Value.int 200 258), { hash := PyData.keyHash P "SIGNS", key := Value.str "SIGNS" 261, val := Value.str " !\"#$&'()*+,-./0123456789:;<=>?@ABCDEFGHIJKLMNOPQRSTUVWXYZ[\\]^_`abcdefghijklmnopqrstuvwxyz{|}~" 260 }, kE P "is_whole" 268 (Value.ref 66), kE P "is_value" 276 (Value.ref 73), kE P "_has_text_signs" 282 (Value.ref 78), kE P "long_number" 292 (Value.ref 85), kE P "signed_number" 299 (Value.ref 92), kE P "value_numbers" 305 (Value.ref 97), kE P "EVERY_PACKING" 313 (Value.ref 98), kE P "PACKINGS" 331 (Value.ref 99), kE P "packings_of" 338 (Value.ref 109), kE P "_write_plain" 348 (Value.ref 116), kE P "_runs_of" 357 (Value.ref 123), kE P "_write_runs" 369 (Value.ref 130), kE P "_write_book" 375 (Value.ref 135), kE P "_write_steps" 386 (Value.ref 142), kE P "_write_near" 397 (Value.ref 149), kE P "WRITERS" 398 (Value.ref 150), kE P "write_values" 408 (Value.ref 157), kE P "MOST_VALUES" 412 (Value.int 256 411), kE P "KINDS_BY_NUMBER" 416 (Value.ref 158), kE P "is_packing" 423 (Value.ref 165), kE P "_is_column" 429 (Value.ref 170), kE P "packed" 438 (Value.ref 177), kE P "_numbers" 444 (Value.ref 182), kE P "_mask" 454 (Value.ref 189), kE P "_mask_length" 461 (Value.ref 196), kE P "best" 469 (Value.ref 203), kE P "packed_best" 475 (Value.ref 208), kE P "_law_cell" 485 (Value.ref 215), kE P "_law_mixed" 494 (Value.ref 222), kE P "_law_draws" 506 (Value.ref 229), kE P "_law_signs" 513 (Value.ref 236), kE P "_law_text" 519 (Value.ref 241), kE P "_law_int" 528 (Value.ref 248), kE P "_law_worth" 536 (Value.ref 255), kE P "_law_sevens" 545 (Value.ref 262), kE P "_law_signed" 552 (Value.ref 269), kE P "_law_one" 563 (Value.ref 276), kE P "_law_all" 572 (Value.ref 283), kE P "_law_runs" 584 (Value.ref 290), kE P "_law_book" 594 (Value.ref 297), kE P "_law_packed" 600 (Value.ref 302), kE P "_law_size" 608 (Value.ref 309), kE P "_law_column" 614 (Value.ref 314), kE P "law" 631 (Value.ref 321)] 60 }
/-- 98 -/
def o13_98 (P : Params) : Obj := { cls := Value.type "tuple", data := Data.seq #[Value.int 0 308, Value.int 1 309, Value.int 2 310, Value.int 3 311, Value.int 4 312] }
/-- 59 -/
def o13_59 (P : Params) : Obj := { cls := Value.type "tuple", data := Data.seq #[Value.str "int" 250, Value.str "text" 251, Value.str "bool" 252] }
/-- 158 -/
def o13_158 (P : Params) : Obj := { cls := Value.type "tuple", data := Data.seq #[Value.str "bool" 413, Value.str "int" 414, Value.str "text" 415] }
/-- 99 -/
def o13_99 (P : Params) : Obj := { cls := Value.type "dict", data := Data.dict #[kE P "int" 314 (Value.ref 100), kE P "text" 320 (Value.ref 101), kE P "bool" 324 (Value.ref 102)] 3 }
/-- 150 -/
def o13_150 (P : Params) : Obj := { cls := Value.type "tuple", data := Data.seq #[Value.ref 116, Value.ref 130, Value.ref 135, Value.ref 142, Value.ref 149] }
/-- 78 -/
def o13_78 (P : Params) : Obj := ⟨Value.type "function", none, .func (PySem.W.fnOf "_has_text_signs" "_has_text_signs" (defArgs s__has_text_signs) (defBody s__has_text_signs) (defScope s__has_text_signs) (Value.none) (Value.none) (Value.none) (Value.str "peristyle.value" 248) (none) (Value.ref 77) (Value.none)), #[]⟩
/-- 77 -/
def o13_77 (P : Params) : Obj := { cls := Value.type "code", data := Data.fields #[Value.str "_has_text_signs" 277, Value.str "_has_text_signs" 278, Value.str "/claim/cut.py" 279, Value.int 25 0, Value.int 1 0, Value.int 0 0, Value.int 0 0, Value.int 3 0, Value.ref 74, Value.bool true, Value.int 181 0, Value.ref 75, Value.none, Value.none, Value.none, Value.ref 76, Value.int 280 0, Value.int 25 0, Value.str "/claim/cut.py" 281] }
/-- 170 -/
def o13_170 (P : Params) : Obj := ⟨Value.type "function", none, .func (PySem.W.fnOf "_is_column" "_is_column" (defArgs s__is_column) (defBody s__is_column) (defScope s__is_column) (Value.none) (Value.none) (Value.none) (Value.str "peristyle.column" 409) (none) (Value.ref 169) (Value.none)), #[]⟩
/-- 169 -/
def o13_169 (P : Params) : Obj := { cls := Value.type "code", data := Data.fields #[Value.str "_is_column" 424, Value.str "_is_column" 425, Value.str "/claim/cut.py" 426, Value.int 99 0, Value.int 2 0, Value.int 0 0, Value.int 0 0, Value.int 3 0, Value.ref 166, Value.bool true, Value.int 181 0, Value.ref 167, Value.none, Value.none, Value.none, Value.ref 168, Value.int 427 0, Value.int 99 0, Value.str "/claim/cut.py" 428] }
/-- 283 -/
def o13_283 (P : Params) : Obj := ⟨Value.type "function", none, .func (PySem.W.fnOf "_law_all" "_law_all" (defArgs s__law_all) (defBody s__law_all) (defScope s__law_all) (Value.none) (Value.none) (Value.none) (Value.str "law_peristyle_k13_best_packing" 476) (none) (Value.ref 282) (Value.none)), #[]⟩
/-- 282 -/
def o13_282 (P : Params) : Obj := { cls := Value.type "code", data := Data.fields #[Value.str "_law_all" 564, Value.str "_law_all" 565, Value.str "/claim/cut.py" 566, Value.int 198 0, Value.int 1 0, Value.int 0 0, Value.int 0 0, Value.int 3 0, Value.ref 277, Value.bool true, Value.int 181 0, Value.ref 278, Value.none, Value.ref 279, Value.ref 280, Value.ref 281, Value.int 570 0, Value.int 198 0, Value.str "/claim/cut.py" 571] }
/-- 297 -/
def o13_297 (P : Params) : Obj := ⟨Value.type "function", none, .func (PySem.W.fnOf "_law_book" "_law_book" (defArgs s__law_book) (defBody s__law_book) (defScope s__law_book) (Value.none) (Value.none) (Value.none) (Value.str "law_peristyle_k13_best_packing" 476) (none) (Value.ref 296) (Value.none)), #[]⟩
/-- 296 -/
def o13_296 (P : Params) : Obj := { cls := Value.type "code", data := Data.fields #[Value.str "_law_book" 585, Value.str "_law_book" 586, Value.str "/claim/cut.py" 587, Value.int 216 0, Value.int 1 0, Value.int 0 0, Value.int 0 0, Value.int 3 0, Value.ref 291, Value.bool true, Value.int 181 0, Value.ref 292, Value.none, Value.ref 293, Value.ref 294, Value.ref 295, Value.int 592 0, Value.int 216 0, Value.str "/claim/cut.py" 593] }
/-- 215 -/
def o13_215 (P : Params) : Obj := ⟨Value.type "function", none, .func (PySem.W.fnOf "_law_cell" "_law_cell" (defArgs s__law_cell) (defBody s__law_cell) (defScope s__law_cell) (Value.none) (Value.none) (Value.none) (Value.str "law_peristyle_k13_best_packing" 476) (none) (Value.ref 214) (Value.none)), #[]⟩
/-- 214 -/
def o13_214 (P : Params) : Obj := { cls := Value.type "code", data := Data.fields #[Value.str "_law_cell" 478, Value.str "_law_cell" 479, Value.str "/claim/cut.py" 480, Value.int 127 0, Value.int 2 0, Value.int 0 0, Value.int 0 0, Value.int 3 0, Value.ref 209, Value.bool true, Value.int 181 0, Value.ref 210, Value.none, Value.ref 211, Value.ref 212, Value.ref 213, Value.int 483 0, Value.int 127 0, Value.str "/claim/cut.py" 484] }
/-- 314 -/
def o13_314 (P : Params) : Obj := ⟨Value.type "function", none, .func (PySem.W.fnOf "_law_column" "_law_column" (defArgs s__law_column) (defBody s__law_column) (defScope s__law_column) (Value.none) (Value.none) (Value.none) (Value.str "law_peristyle_k13_best_packing" 476) (none) (Value.ref 313) (Value.none)), #[]⟩
/-- 313 -/
def o13_313 (P : Params) : Obj := { cls := Value.type "code", data := Data.fields #[Value.str "_law_column" 609, Value.str "_law_column" 610, Value.str "/claim/cut.py" 611, Value.int 253 0, Value.int 2 0, Value.int 0 0, Value.int 0 0, Value.int 3 0, Value.ref 310, Value.bool true, Value.int 181 0, Value.ref 311, Value.none, Value.none, Value.none, Value.ref 312, Value.int 612 0, Value.int 253 0, Value.str "/claim/cut.py" 613] }
/-- 229 -/
def o13_229 (P : Params) : Obj := ⟨Value.type "function", none, .func (PySem.W.fnOf "_law_draws" "_law_draws" (defArgs s__law_draws) (defBody s__law_draws) (defScope s__law_draws) (Value.none) (Value.none) (Value.none) (Value.str "law_peristyle_k13_best_packing" 476) (none) (Value.ref 228) (Value.none)), #[]⟩
/-- 228 -/
def o13_228 (P : Params) : Obj := { cls := Value.type "code", data := Data.fields #[Value.str "_law_draws" 495, Value.str "_law_draws" 496, Value.str "/claim/cut.py" 497, Value.int 134 0, Value.int 2 0, Value.int 0 0, Value.int 0 0, Value.int 3 0, Value.ref 223, Value.bool true, Value.int 181 0, Value.ref 224, Value.none, Value.ref 225, Value.ref 226, Value.ref 227, Value.int 504 0, Value.int 134 0, Value.str "/claim/cut.py" 505] }
/-- 248 -/
def o13_248 (P : Params) : Obj := ⟨Value.type "function", none, .func (PySem.W.fnOf "_law_int" "_law_int" (defArgs s__law_int) (defBody s__law_int) (defScope s__law_int) (Value.none) (Value.none) (Value.none) (Value.str "law_peristyle_k13_best_packing" 476) (none) (Value.ref 247) (Value.none)), #[]⟩
/-- 247 -/
def o13_247 (P : Params) : Obj := { cls := Value.type "code", data := Data.fields #[Value.str "_law_int" 520, Value.str "_law_int" 521, Value.str "/claim/cut.py" 522, Value.int 152 0, Value.int 2 0, Value.int 0 0, Value.int 0 0, Value.int 3 0, Value.ref 242, Value.bool true, Value.int 181 0, Value.ref 243, Value.none, Value.ref 244, Value.ref 245, Value.ref 246, Value.int 526 0, Value.int 152 0, Value.str "/claim/cut.py" 527] }
/-- 222 -/
def o13_222 (P : Params) : Obj := ⟨Value.type "function", none, .func (PySem.W.fnOf "_law_mixed" "_law_mixed" (defArgs s__law_mixed) (defBody s__law_mixed) (defScope s__law_mixed) (Value.none) (Value.none) (Value.none) (Value.str "law_peristyle_k13_best_packing" 476) (none) (Value.ref 221) (Value.none)), #[]⟩
/-- 221 -/
def o13_221 (P : Params) : Obj := { cls := Value.type "code", data := Data.fields #[Value.str "_law_mixed" 486, Value.str "_law_mixed" 487, Value.str "/claim/cut.py" 488, Value.int 131 0, Value.int 2 0, Value.int 0 0, Value.int 0 0, Value.int 3 0, Value.ref 216, Value.bool true, Value.int 181 0, Value.ref 217, Value.none, Value.ref 218, Value.ref 219, Value.ref 220, Value.int 492 0, Value.int 131 0, Value.str "/claim/cut.py" 493] }
/-- 276 -/
def o13_276 (P : Params) : Obj := ⟨Value.type "function", none, .func (PySem.W.fnOf "_law_one" "_law_one" (defArgs s__law_one) (defBody s__law_one) (defScope s__law_one) (Value.none) (Value.none) (Value.none) (Value.str "law_peristyle_k13_best_packing" 476) (none) (Value.ref 275) (Value.none)), #[]⟩
/-- 275 -/
def o13_275 (P : Params) : Obj := { cls := Value.type "code", data := Data.fields #[Value.str "_law_one" 553, Value.str "_law_one" 554, Value.str "/claim/cut.py" 555, Value.int 187 0, Value.int 1 0, Value.int 0 0, Value.int 0 0, Value.int 3 0, Value.ref 270, Value.bool true, Value.int 181 0, Value.ref 271, Value.none, Value.ref 272, Value.ref 273, Value.ref 274, Value.int 561 0, Value.int 187 0, Value.str "/claim/cut.py" 562] }
/-- 302 -/
def o13_302 (P : Params) : Obj := ⟨Value.type "function", none, .func (PySem.W.fnOf "_law_packed" "_law_packed" (defArgs s__law_packed) (defBody s__law_packed) (defScope s__law_packed) (Value.none) (Value.none) (Value.none) (Value.str "law_peristyle_k13_best_packing" 476) (none) (Value.ref 301) (Value.none)), #[]⟩
/-- 301 -/
def o13_301 (P : Params) : Obj := { cls := Value.type "code", data := Data.fields #[Value.str "_law_packed" 595, Value.str "_law_packed" 596, Value.str "/claim/cut.py" 597, Value.int 225 0, Value.int 3 0, Value.int 0 0, Value.int 0 0, Value.int 3 0, Value.ref 298, Value.bool true, Value.int 181 0, Value.ref 299, Value.none, Value.none, Value.none, Value.ref 300, Value.int 598 0, Value.int 225 0, Value.str "/claim/cut.py" 599] }
/-- 290 -/
def o13_290 (P : Params) : Obj := ⟨Value.type "function", none, .func (PySem.W.fnOf "_law_runs" "_law_runs" (defArgs s__law_runs) (defBody s__law_runs) (defScope s__law_runs) (Value.none) (Value.none) (Value.none) (Value.str "law_peristyle_k13_best_packing" 476) (none) (Value.ref 289) (Value.none)), #[]⟩
/-- 289 -/
def o13_289 (P : Params) : Obj := { cls := Value.type "code", data := Data.fields #[Value.str "_law_runs" 573, Value.str "_law_runs" 574, Value.str "/claim/cut.py" 575, Value.int 203 0, Value.int 1 0, Value.int 0 0, Value.int 0 0, Value.int 3 0, Value.ref 284, Value.bool true, Value.int 181 0, Value.ref 285, Value.none, Value.ref 286, Value.ref 287, Value.ref 288, Value.int 582 0, Value.int 203 0, Value.str "/claim/cut.py" 583] }
/-- 262 -/
def o13_262 (P : Params) : Obj := ⟨Value.type "function", none, .func (PySem.W.fnOf "_law_sevens" "_law_sevens" (defArgs s__law_sevens) (defBody s__law_sevens) (defScope s__law_sevens) (Value.none) (Value.none) (Value.none) (Value.str "law_peristyle_k13_best_packing" 476) (none) (Value.ref 261) (Value.none)), #[]⟩
/-- 261 -/
def o13_261 (P : Params) : Obj := { cls := Value.type "code", data := Data.fields #[Value.str "_law_sevens" 537, Value.str "_law_sevens" 538, Value.str "/claim/cut.py" 539, Value.int 175 0, Value.int 1 0, Value.int 0 0, Value.int 0 0, Value.int 3 0, Value.ref 256, Value.bool true, Value.int 181 0, Value.ref 257, Value.none, Value.ref 258, Value.ref 259, Value.ref 260, Value.int 543 0, Value.int 175 0, Value.str "/claim/cut.py" 544] }
/-- 269 -/
def o13_269 (P : Params) : Obj := ⟨Value.type "function", none, .func (PySem.W.fnOf "_law_signed" "_law_signed" (defArgs s__law_signed) (defBody s__law_signed) (defScope s__law_signed) (Value.none) (Value.none) (Value.none) (Value.str "law_peristyle_k13_best_packing" 476) (none) (Value.ref 268) (Value.none)), #[]⟩
/-- 268 -/
def o13_268 (P : Params) : Obj := { cls := Value.type "code", data := Data.fields #[Value.str "_law_signed" 546, Value.str "_law_signed" 547, Value.str "/claim/cut.py" 548, Value.int 183 0, Value.int 1 0, Value.int 0 0, Value.int 0 0, Value.int 3 0, Value.ref 263, Value.bool true, Value.int 181 0, Value.ref 264, Value.none, Value.ref 265, Value.ref 266, Value.ref 267, Value.int 550 0, Value.int 183 0, Value.str "/claim/cut.py" 551] }
/-- 236 -/
def o13_236 (P : Params) : Obj := ⟨Value.type "function", none, .func (PySem.W.fnOf "_law_signs" "_law_signs" (defArgs s__law_signs) (defBody s__law_signs) (defScope s__law_signs) (Value.none) (Value.none) (Value.none) (Value.str "law_peristyle_k13_best_packing" 476) (none) (Value.ref 235) (Value.none)), #[]⟩
/-- 235 -/
def o13_235 (P : Params) : Obj := { cls := Value.type "code", data := Data.fields #[Value.str "_law_signs" 507, Value.str "_law_signs" 508, Value.str "/claim/cut.py" 509, Value.int 145 0, Value.int 0 0, Value.int 0 0, Value.int 0 0, Value.int 3 0, Value.ref 230, Value.bool true, Value.int 181 0, Value.ref 231, Value.none, Value.ref 232, Value.ref 233, Value.ref 234, Value.int 511 0, Value.int 145 0, Value.str "/claim/cut.py" 512] }
/-- 309 -/
def o13_309 (P : Params) : Obj := ⟨Value.type "function", none, .func (PySem.W.fnOf "_law_size" "_law_size" (defArgs s__law_size) (defBody s__law_size) (defScope s__law_size) (Value.none) (Value.none) (Value.none) (Value.str "law_peristyle_k13_best_packing" 476) (none) (Value.ref 308) (Value.none)), #[]⟩
/-- 308 -/
def o13_308 (P : Params) : Obj := { cls := Value.type "code", data := Data.fields #[Value.str "_law_size" 601, Value.str "_law_size" 602, Value.str "/claim/cut.py" 603, Value.int 246 0, Value.int 1 0, Value.int 0 0, Value.int 0 0, Value.int 3 0, Value.ref 303, Value.bool true, Value.int 181 0, Value.ref 304, Value.none, Value.ref 305, Value.ref 306, Value.ref 307, Value.int 606 0, Value.int 246 0, Value.str "/claim/cut.py" 607] }
/-- 241 -/
def o13_241 (P : Params) : Obj := ⟨Value.type "function", none, .func (PySem.W.fnOf "_law_text" "_law_text" (defArgs s__law_text) (defBody s__law_text) (defScope s__law_text) (Value.none) (Value.none) (Value.none) (Value.str "law_peristyle_k13_best_packing" 476) (none) (Value.ref 240) (Value.none)), #[]⟩
/-- 240 -/
def o13_240 (P : Params) : Obj := { cls := Value.type "code", data := Data.fields #[Value.str "_law_text" 514, Value.str "_law_text" 515, Value.str "/claim/cut.py" 516, Value.int 148 0, Value.int 2 0, Value.int 0 0, Value.int 0 0, Value.int 3 0, Value.ref 237, Value.bool true, Value.int 181 0, Value.ref 238, Value.none, Value.none, Value.none, Value.ref 239, Value.int 517 0, Value.int 148 0, Value.str "/claim/cut.py" 518] }
/-- 255 -/
def o13_255 (P : Params) : Obj := ⟨Value.type "function", none, .func (PySem.W.fnOf "_law_worth" "_law_worth" (defArgs s__law_worth) (defBody s__law_worth) (defScope s__law_worth) (Value.none) (Value.none) (Value.none) (Value.str "law_peristyle_k13_best_packing" 476) (none) (Value.ref 254) (Value.none)), #[]⟩
/-- 254 -/
def o13_254 (P : Params) : Obj := { cls := Value.type "code", data := Data.fields #[Value.str "_law_worth" 529, Value.str "_law_worth" 530, Value.str "/claim/cut.py" 531, Value.int 163 0, Value.int 2 0, Value.int 0 0, Value.int 0 0, Value.int 3 0, Value.ref 249, Value.bool true, Value.int 181 0, Value.ref 250, Value.none, Value.ref 251, Value.ref 252, Value.ref 253, Value.int 534 0, Value.int 163 0, Value.str "/claim/cut.py" 535] }
/-- 189 -/
def o13_189 (P : Params) : Obj := ⟨Value.type "function", none, .func (PySem.W.fnOf "_mask" "_mask" (defArgs s__mask) (defBody s__mask) (defScope s__mask) (Value.none) (Value.none) (Value.none) (Value.str "peristyle.column" 409) (none) (Value.ref 188) (Value.none)), #[]⟩
/-- 188 -/
def o13_188 (P : Params) : Obj := { cls := Value.type "code", data := Data.fields #[Value.str "_mask" 445, Value.str "_mask" 446, Value.str "/claim/cut.py" 447, Value.int 113 0, Value.int 1 0, Value.int 0 0, Value.int 0 0, Value.int 3 0, Value.ref 183, Value.bool true, Value.int 181 0, Value.ref 184, Value.none, Value.ref 185, Value.ref 186, Value.ref 187, Value.int 452 0, Value.int 113 0, Value.str "/claim/cut.py" 453] }
/-- 196 -/
def o13_196 (P : Params) : Obj := ⟨Value.type "function", none, .func (PySem.W.fnOf "_mask_length" "_mask_length" (defArgs s__mask_length) (defBody s__mask_length) (defScope s__mask_length) (Value.none) (Value.none) (Value.none) (Value.str "peristyle.column" 409) (none) (Value.ref 195) (Value.none)), #[]⟩
/-- 195 -/
def o13_195 (P : Params) : Obj := { cls := Value.type "code", data := Data.fields #[Value.str "_mask_length" 455, Value.str "_mask_length" 456, Value.str "/claim/cut.py" 457, Value.int 119 0, Value.int 1 0, Value.int 0 0, Value.int 0 0, Value.int 3 0, Value.ref 190, Value.bool true, Value.int 181 0, Value.ref 191, Value.none, Value.ref 192, Value.ref 193, Value.ref 194, Value.int 459 0, Value.int 119 0, Value.str "/claim/cut.py" 460] }
/-- 182 -/
def o13_182 (P : Params) : Obj := ⟨Value.type "function", none, .func (PySem.W.fnOf "_numbers" "_numbers" (defArgs s__numbers) (defBody s__numbers) (defScope s__numbers) (Value.none) (Value.none) (Value.none) (Value.str "peristyle.column" 409) (none) (Value.ref 181) (Value.none)), #[]⟩
/-- 181 -/
def o13_181 (P : Params) : Obj := { cls := Value.type "code", data := Data.fields #[Value.str "_numbers" 439, Value.str "_numbers" 440, Value.str "/claim/cut.py" 441, Value.int 109 0, Value.int 3 0, Value.int 0 0, Value.int 0 0, Value.int 3 0, Value.ref 178, Value.bool true, Value.int 181 0, Value.ref 179, Value.none, Value.none, Value.none, Value.ref 180, Value.int 442 0, Value.int 109 0, Value.str "/claim/cut.py" 443] }
/-- 123 -/
def o13_123 (P : Params) : Obj := ⟨Value.type "function", none, .func (PySem.W.fnOf "_runs_of" "_runs_of" (defArgs s__runs_of) (defBody s__runs_of) (defScope s__runs_of) (Value.none) (Value.none) (Value.none) (Value.str "peristyle.packing" 306) (none) (Value.ref 122) (Value.none)), #[]⟩
/-- 122 -/
def o13_122 (P : Params) : Obj := { cls := Value.type "code", data := Data.fields #[Value.str "_runs_of" 349, Value.str "_runs_of" 350, Value.str "/claim/cut.py" 351, Value.int 53 0, Value.int 1 0, Value.int 0 0, Value.int 0 0, Value.int 3 0, Value.ref 117, Value.bool true, Value.int 181 0, Value.ref 118, Value.none, Value.ref 119, Value.ref 120, Value.ref 121, Value.int 355 0, Value.int 53 0, Value.str "/claim/cut.py" 356] }
/-- 135 -/
def o13_135 (P : Params) : Obj := ⟨Value.type "function", none, .func (PySem.W.fnOf "_write_book" "_write_book" (defArgs s__write_book) (defBody s__write_book) (defScope s__write_book) (Value.none) (Value.none) (Value.none) (Value.str "peristyle.packing" 306) (none) (Value.ref 134) (Value.none)), #[]⟩
/-- 134 -/
def o13_134 (P : Params) : Obj := { cls := Value.type "code", data := Data.fields #[Value.str "_write_book" 370, Value.str "_write_book" 371, Value.str "/claim/cut.py" 372, Value.int 68 0, Value.int 2 0, Value.int 0 0, Value.int 0 0, Value.int 3 0, Value.ref 131, Value.bool true, Value.int 181 0, Value.ref 132, Value.none, Value.none, Value.none, Value.ref 133, Value.int 373 0, Value.int 68 0, Value.str "/claim/cut.py" 374] }
/-- 149 -/
def o13_149 (P : Params) : Obj := ⟨Value.type "function", none, .func (PySem.W.fnOf "_write_near" "_write_near" (defArgs s__write_near) (defBody s__write_near) (defScope s__write_near) (Value.none) (Value.none) (Value.none) (Value.str "peristyle.packing" 306) (none) (Value.ref 148) (Value.none)), #[]⟩
/-- 148 -/
def o13_148 (P : Params) : Obj := { cls := Value.type "code", data := Data.fields #[Value.str "_write_near" 387, Value.str "_write_near" 388, Value.str "/claim/cut.py" 389, Value.int 82 0, Value.int 2 0, Value.int 0 0, Value.int 0 0, Value.int 3 0, Value.ref 143, Value.bool true, Value.int 181 0, Value.ref 144, Value.none, Value.ref 145, Value.ref 146, Value.ref 147, Value.int 395 0, Value.int 82 0, Value.str "/claim/cut.py" 396] }
/-- 116 -/
def o13_116 (P : Params) : Obj := ⟨Value.type "function", none, .func (PySem.W.fnOf "_write_plain" "_write_plain" (defArgs s__write_plain) (defBody s__write_plain) (defScope s__write_plain) (Value.none) (Value.none) (Value.none) (Value.str "peristyle.packing" 306) (none) (Value.ref 115) (Value.none)), #[]⟩
/-- 115 -/
def o13_115 (P : Params) : Obj := { cls := Value.type "code", data := Data.fields #[Value.str "_write_plain" 339, Value.str "_write_plain" 340, Value.str "/claim/cut.py" 341, Value.int 48 0, Value.int 2 0, Value.int 0 0, Value.int 0 0, Value.int 3 0, Value.ref 110, Value.bool true, Value.int 181 0, Value.ref 111, Value.none, Value.ref 112, Value.ref 113, Value.ref 114, Value.int 346 0, Value.int 48 0, Value.str "/claim/cut.py" 347] }
/-- 130 -/
def o13_130 (P : Params) : Obj := ⟨Value.type "function", none, .func (PySem.W.fnOf "_write_runs" "_write_runs" (defArgs s__write_runs) (defBody s__write_runs) (defScope s__write_runs) (Value.none) (Value.none) (Value.none) (Value.str "peristyle.packing" 306) (none) (Value.ref 129) (Value.none)), #[]⟩
/-- 129 -/
def o13_129 (P : Params) : Obj := { cls := Value.type "code", data := Data.fields #[Value.str "_write_runs" 358, Value.str "_write_runs" 359, Value.str "/claim/cut.py" 360, Value.int 61 0, Value.int 2 0, Value.int 0 0, Value.int 0 0, Value.int 3 0, Value.ref 124, Value.bool true, Value.int 181 0, Value.ref 125, Value.none, Value.ref 126, Value.ref 127, Value.ref 128, Value.int 367 0, Value.int 61 0, Value.str "/claim/cut.py" 368] }
/-- 142 -/
def o13_142 (P : Params) : Obj := ⟨Value.type "function", none, .func (PySem.W.fnOf "_write_steps" "_write_steps" (defArgs s__write_steps) (defBody s__write_steps) (defScope s__write_steps) (Value.none) (Value.none) (Value.none) (Value.str "peristyle.packing" 306) (none) (Value.ref 141) (Value.none)), #[]⟩
/-- 141 -/
def o13_141 (P : Params) : Obj := { cls := Value.type "code", data := Data.fields #[Value.str "_write_steps" 376, Value.str "_write_steps" 377, Value.str "/claim/cut.py" 378, Value.int 75 0, Value.int 2 0, Value.int 0 0, Value.int 0 0, Value.int 3 0, Value.ref 136, Value.bool true, Value.int 181 0, Value.ref 137, Value.none, Value.ref 138, Value.ref 139, Value.ref 140, Value.int 384 0, Value.int 75 0, Value.str "/claim/cut.py" 385] }
/-- 203 -/
def o13_203 (P : Params) : Obj := ⟨Value.type "function", none, .func (PySem.W.fnOf "best" "best" (defArgs s_best) (defBody s_best) (defScope s_best) (Value.none) (Value.none) (Value.none) (Value.str "peristyle.column" 409) (none) (Value.ref 202) (Value.none)), #[]⟩
/-- 202 -/
def o13_202 (P : Params) : Obj := { cls := Value.type "code", data := Data.fields #[Value.str "best" 462, Value.str "best" 463, Value.str "/claim/cut.py" 464, Value.int 121 0, Value.int 2 0, Value.int 0 0, Value.int 0 0, Value.int 3 0, Value.ref 197, Value.bool true, Value.int 181 0, Value.ref 198, Value.none, Value.ref 199, Value.ref 200, Value.ref 201, Value.int 467 0, Value.int 121 0, Value.str "/claim/cut.py" 468] }
/-- 165 -/
def o13_165 (P : Params) : Obj := ⟨Value.type "function", none, .func (PySem.W.fnOf "is_packing" "is_packing" (defArgs s_is_packing) (defBody s_is_packing) (defScope s_is_packing) (Value.none) (Value.none) (Value.none) (Value.str "peristyle.column" 409) (none) (Value.ref 164) (Value.none)), #[]⟩
/-- 164 -/
def o13_164 (P : Params) : Obj := { cls := Value.type "code", data := Data.fields #[Value.str "is_packing" 417, Value.str "is_packing" 418, Value.str "/claim/cut.py" 419, Value.int 97 0, Value.int 1 0, Value.int 0 0, Value.int 0 0, Value.int 3 0, Value.ref 159, Value.bool true, Value.int 181 0, Value.ref 160, Value.none, Value.ref 161, Value.ref 162, Value.ref 163, Value.int 421 0, Value.int 97 0, Value.str "/claim/cut.py" 422] }
/-- 73 -/
def o13_73 (P : Params) : Obj := ⟨Value.type "function", none, .func (PySem.W.fnOf "is_value" "is_value" (defArgs s_is_value) (defBody s_is_value) (defScope s_is_value) (Value.none) (Value.none) (Value.none) (Value.str "peristyle.value" 248) (none) (Value.ref 72) (Value.none)), #[]⟩
/-- 72 -/
def o13_72 (P : Params) : Obj := { cls := Value.type "code", data := Data.fields #[Value.str "is_value" 269, Value.str "is_value" 270, Value.str "/claim/cut.py" 271, Value.int 17 0, Value.int 2 0, Value.int 0 0, Value.int 0 0, Value.int 3 0, Value.ref 67, Value.bool true, Value.int 181 0, Value.ref 68, Value.none, Value.ref 69, Value.ref 70, Value.ref 71, Value.int 274 0, Value.int 17 0, Value.str "/claim/cut.py" 275] }
/-- 66 -/
def o13_66 (P : Params) : Obj := ⟨Value.type "function", none, .func (PySem.W.fnOf "is_whole" "is_whole" (defArgs s_is_whole) (defBody s_is_whole) (defScope s_is_whole) (Value.none) (Value.none) (Value.none) (Value.str "peristyle.value" 248) (none) (Value.ref 65) (Value.none)), #[]⟩
/-- 65 -/
def o13_65 (P : Params) : Obj := { cls := Value.type "code", data := Data.fields #[Value.str "is_whole" 262, Value.str "is_whole" 263, Value.str "/claim/cut.py" 264, Value.int 15 0, Value.int 1 0, Value.int 0 0, Value.int 0 0, Value.int 3 0, Value.ref 60, Value.bool true, Value.int 181 0, Value.ref 61, Value.none, Value.ref 62, Value.ref 63, Value.ref 64, Value.int 266 0, Value.int 15 0, Value.str "/claim/cut.py" 267] }
/-- 321 -/
def o13_321 (P : Params) : Obj := ⟨Value.type "function", none, .func (PySem.W.fnOf "law" "law" (defArgs s_law) (defBody s_law) (defScope s_law) (Value.none) (Value.none) (Value.none) (Value.str "law_peristyle_k13_best_packing" 476) (none) (Value.ref 320) (Value.none)), #[]⟩
/-- 320 -/
def o13_320 (P : Params) : Obj := { cls := Value.type "code", data := Data.fields #[Value.str "law" 615, Value.str "law" 616, Value.str "/claim/cut.py" 617, Value.int 270 0, Value.int 1 0, Value.int 0 0, Value.int 0 0, Value.int 3 0, Value.ref 315, Value.bool true, Value.int 181 0, Value.ref 316, Value.none, Value.ref 317, Value.ref 318, Value.ref 319, Value.int 629 0, Value.int 270 0, Value.str "/claim/cut.py" 630] }
/-- 85 -/
def o13_85 (P : Params) : Obj := ⟨Value.type "function", none, .func (PySem.W.fnOf "long_number" "long_number" (defArgs s_long_number) (defBody s_long_number) (defScope s_long_number) (Value.none) (Value.none) (Value.none) (Value.str "peristyle.sevens" 283) (none) (Value.ref 84) (Value.none)), #[]⟩
/-- 84 -/
def o13_84 (P : Params) : Obj := { cls := Value.type "code", data := Data.fields #[Value.str "long_number" 285, Value.str "long_number" 286, Value.str "/claim/cut.py" 287, Value.int 28 0, Value.int 1 0, Value.int 0 0, Value.int 0 0, Value.int 3 0, Value.ref 79, Value.bool true, Value.int 181 0, Value.ref 80, Value.none, Value.ref 81, Value.ref 82, Value.ref 83, Value.int 290 0, Value.int 28 0, Value.str "/claim/cut.py" 291] }
/-- 177 -/
def o13_177 (P : Params) : Obj := ⟨Value.type "function", none, .func (PySem.W.fnOf "packed" "packed" (defArgs s_packed) (defBody s_packed) (defScope s_packed) (Value.none) (Value.none) (Value.none) (Value.str "peristyle.column" 409) (none) (Value.ref 176) (Value.none)), #[]⟩
/-- 176 -/
def o13_176 (P : Params) : Obj := { cls := Value.type "code", data := Data.fields #[Value.str "packed" 430, Value.str "packed" 431, Value.str "/claim/cut.py" 432, Value.int 103 0, Value.int 3 0, Value.int 0 0, Value.int 0 0, Value.int 3 0, Value.ref 171, Value.bool true, Value.int 181 0, Value.ref 172, Value.none, Value.ref 173, Value.ref 174, Value.ref 175, Value.int 436 0, Value.int 103 0, Value.str "/claim/cut.py" 437] }
/-- 208 -/
def o13_208 (P : Params) : Obj := ⟨Value.type "function", none, .func (PySem.W.fnOf "packed_best" "packed_best" (defArgs s_packed_best) (defBody s_packed_best) (defScope s_packed_best) (Value.none) (Value.none) (Value.none) (Value.str "peristyle.column" 409) (none) (Value.ref 207) (Value.none)), #[]⟩
/-- 207 -/
def o13_207 (P : Params) : Obj := { cls := Value.type "code", data := Data.fields #[Value.str "packed_best" 470, Value.str "packed_best" 471, Value.str "/claim/cut.py" 472, Value.int 123 0, Value.int 2 0, Value.int 0 0, Value.int 0 0, Value.int 3 0, Value.ref 204, Value.bool true, Value.int 181 0, Value.ref 205, Value.none, Value.none, Value.none, Value.ref 206, Value.int 473 0, Value.int 123 0, Value.str "/claim/cut.py" 474] }
/-- 109 -/
def o13_109 (P : Params) : Obj := ⟨Value.type "function", none, .func (PySem.W.fnOf "packings_of" "packings_of" (defArgs s_packings_of) (defBody s_packings_of) (defScope s_packings_of) (Value.none) (Value.none) (Value.none) (Value.str "peristyle.packing" 306) (none) (Value.ref 108) (Value.none)), #[]⟩
/-- 108 -/
def o13_108 (P : Params) : Obj := { cls := Value.type "code", data := Data.fields #[Value.str "packings_of" 332, Value.str "packings_of" 333, Value.str "/claim/cut.py" 334, Value.int 46 0, Value.int 1 0, Value.int 0 0, Value.int 0 0, Value.int 3 0, Value.ref 103, Value.bool true, Value.int 181 0, Value.ref 104, Value.none, Value.ref 105, Value.ref 106, Value.ref 107, Value.int 336 0, Value.int 46 0, Value.str "/claim/cut.py" 337] }
/-- 92 -/
def o13_92 (P : Params) : Obj := ⟨Value.type "function", none, .func (PySem.W.fnOf "signed_number" "signed_number" (defArgs s_signed_number) (defBody s_signed_number) (defScope s_signed_number) (Value.none) (Value.none) (Value.none) (Value.str "peristyle.sevens" 283) (none) (Value.ref 91) (Value.none)), #[]⟩
/-- 91 -/
def o13_91 (P : Params) : Obj := { cls := Value.type "code", data := Data.fields #[Value.str "signed_number" 293, Value.str "signed_number" 294, Value.str "/claim/cut.py" 295, Value.int 35 0, Value.int 1 0, Value.int 0 0, Value.int 0 0, Value.int 3 0, Value.ref 86, Value.bool true, Value.int 181 0, Value.ref 87, Value.none, Value.ref 88, Value.ref 89, Value.ref 90, Value.int 297 0, Value.int 35 0, Value.str "/claim/cut.py" 298] }
/-- 97 -/
def o13_97 (P : Params) : Obj := ⟨Value.type "function", none, .func (PySem.W.fnOf "value_numbers" "value_numbers" (defArgs s_value_numbers) (defBody s_value_numbers) (defScope s_value_numbers) (Value.none) (Value.none) (Value.none) (Value.str "peristyle.sevens" 283) (none) (Value.ref 96) (Value.none)), #[]⟩
/-- 96 -/
def o13_96 (P : Params) : Obj := { cls := Value.type "code", data := Data.fields #[Value.str "value_numbers" 300, Value.str "value_numbers" 301, Value.str "/claim/cut.py" 302, Value.int 37 0, Value.int 2 0, Value.int 0 0, Value.int 0 0, Value.int 3 0, Value.ref 93, Value.bool true, Value.int 181 0, Value.ref 94, Value.none, Value.none, Value.none, Value.ref 95, Value.int 303 0, Value.int 37 0, Value.str "/claim/cut.py" 304] }
/-- 157 -/
def o13_157 (P : Params) : Obj := ⟨Value.type "function", none, .func (PySem.W.fnOf "write_values" "write_values" (defArgs s_write_values) (defBody s_write_values) (defScope s_write_values) (Value.none) (Value.none) (Value.none) (Value.str "peristyle.packing" 306) (none) (Value.ref 156) (Value.none)), #[]⟩
/-- 156 -/
def o13_156 (P : Params) : Obj := { cls := Value.type "code", data := Data.fields #[Value.str "write_values" 399, Value.str "write_values" 400, Value.str "/claim/cut.py" 401, Value.int 91 0, Value.int 3 0, Value.int 0 0, Value.int 0 0, Value.int 3 0, Value.ref 151, Value.bool true, Value.int 181 0, Value.ref 152, Value.none, Value.ref 153, Value.ref 154, Value.ref 155, Value.int 406 0, Value.int 91 0, Value.str "/claim/cut.py" 407] }
/-- 100 -/
def o13_100 (P : Params) : Obj := { cls := Value.type "tuple", data := Data.seq #[Value.int 0 315, Value.int 1 316, Value.int 2 317, Value.int 3 318, Value.int 4 319] }
/-- 101 -/
def o13_101 (P : Params) : Obj := { cls := Value.type "tuple", data := Data.seq #[Value.int 0 321, Value.int 1 322, Value.int 2 323] }
/-- 102 -/
def o13_102 (P : Params) : Obj := { cls := Value.type "tuple", data := Data.seq #[Value.int 0 325, Value.int 1 326, Value.int 2 327] }
def K13 : Params → PySem.W.Frag := fun P => (nat_lit 3, o13_3 P) :: (nat_lit 98, o13_98 P) :: (nat_lit 59, o13_59 P) :: (nat_lit 158, o13_158 P) :: (nat_lit 99, o13_99 P) :: (nat_lit 150, o13_150 P) :: (nat_lit 78, o13_78 P) :: (nat_lit 77, o13_77 P) :: (nat_lit 170, o13_170 P) :: (nat_lit 169, o13_169 P) :: (nat_lit 283, o13_283 P) :: (nat_lit 282, o13_282 P) :: (nat_lit 297, o13_297 P) :: (nat_lit 296, o13_296 P) :: (nat_lit 215, o13_215 P) :: (nat_lit 214, o13_214 P) :: (nat_lit 314, o13_314 P) :: (nat_lit 313, o13_313 P) :: (nat_lit 229, o13_229 P) :: (nat_lit 228, o13_228 P) :: (nat_lit 248, o13_248 P) :: (nat_lit 247, o13_247 P) :: (nat_lit 222, o13_222 P) :: (nat_lit 221, o13_221 P) :: (nat_lit 276, o13_276 P) :: (nat_lit 275, o13_275 P) :: (nat_lit 302, o13_302 P) :: (nat_lit 301, o13_301 P) :: (nat_lit 290, o13_290 P) :: (nat_lit 289, o13_289 P) :: (nat_lit 262, o13_262 P) :: (nat_lit 261, o13_261 P) :: (nat_lit 269, o13_269 P) :: (nat_lit 268, o13_268 P) :: (nat_lit 236, o13_236 P) :: (nat_lit 235, o13_235 P) :: (nat_lit 309, o13_309 P) :: (nat_lit 308, o13_308 P) :: (nat_lit 241, o13_241 P) :: (nat_lit 240, o13_240 P) :: (nat_lit 255, o13_255 P) :: (nat_lit 254, o13_254 P) :: (nat_lit 189, o13_189 P) :: (nat_lit 188, o13_188 P) :: (nat_lit 196, o13_196 P) :: (nat_lit 195, o13_195 P) :: (nat_lit 182, o13_182 P) :: (nat_lit 181, o13_181 P) :: (nat_lit 123, o13_123 P) :: (nat_lit 122, o13_122 P) :: (nat_lit 135, o13_135 P) :: (nat_lit 134, o13_134 P) :: (nat_lit 149, o13_149 P) :: (nat_lit 148, o13_148 P) :: (nat_lit 116, o13_116 P) :: (nat_lit 115, o13_115 P) :: (nat_lit 130, o13_130 P) :: (nat_lit 129, o13_129 P) :: (nat_lit 142, o13_142 P) :: (nat_lit 141, o13_141 P) :: (nat_lit 203, o13_203 P) :: (nat_lit 202, o13_202 P) :: (nat_lit 165, o13_165 P) :: (nat_lit 164, o13_164 P) :: (nat_lit 73, o13_73 P) :: (nat_lit 72, o13_72 P) :: (nat_lit 66, o13_66 P) :: (nat_lit 65, o13_65 P) :: (nat_lit 321, o13_321 P) :: (nat_lit 320, o13_320 P) :: (nat_lit 85, o13_85 P) :: (nat_lit 84, o13_84 P) :: (nat_lit 177, o13_177 P) :: (nat_lit 176, o13_176 P) :: (nat_lit 208, o13_208 P) :: (nat_lit 207, o13_207 P) :: (nat_lit 109, o13_109 P) :: (nat_lit 108, o13_108 P) :: (nat_lit 92, o13_92 P) :: (nat_lit 91, o13_91 P) :: (nat_lit 97, o13_97 P) :: (nat_lit 96, o13_96 P) :: (nat_lit 157, o13_157 P) :: (nat_lit 156, o13_156 P) :: (nat_lit 100, o13_100 P) :: (nat_lit 101, o13_101 P) :: (nat_lit 102, o13_102 P) :: []
abbrev as13 : List Addr := [nat_lit 3, nat_lit 98, nat_lit 59, nat_lit 158, nat_lit 99, nat_lit 150, nat_lit 78, nat_lit 77, nat_lit 170, nat_lit 169, nat_lit 283, nat_lit 282, nat_lit 297, nat_lit 296, nat_lit 215, nat_lit 214, nat_lit 314, nat_lit 313, nat_lit 229, nat_lit 228, nat_lit 248, nat_lit 247, nat_lit 222, nat_lit 221, nat_lit 276, nat_lit 275, nat_lit 302, nat_lit 301, nat_lit 290, nat_lit 289, nat_lit 262, nat_lit 261, nat_lit 269, nat_lit 268, nat_lit 236, nat_lit 235, nat_lit 309, nat_lit 308, nat_lit 241, nat_lit 240, nat_lit 255, nat_lit 254, nat_lit 189, nat_lit 188, nat_lit 196, nat_lit 195, nat_lit 182, nat_lit 181, nat_lit 123, nat_lit 122, nat_lit 135, nat_lit 134, nat_lit 149, nat_lit 148, nat_lit 116, nat_lit 115, nat_lit 130, nat_lit 129, nat_lit 142, nat_lit 141, nat_lit 203, nat_lit 202, nat_lit 165, nat_lit 164, nat_lit 73, nat_lit 72, nat_lit 66, nat_lit 65, nat_lit 321, nat_lit 320, nat_lit 85, nat_lit 84, nat_lit 177, nat_lit 176, nat_lit 208, nat_lit 207, nat_lit 109, nat_lit 108, nat_lit 92, nat_lit 91, nat_lit 97, nat_lit 96, nat_lit 157, nat_lit 156, nat_lit 100, nat_lit 101, nat_lit 102]
theorem ek13 (P : Params) : as13 = (K13 P).map (·.1) := by kernel_rfl
abbrev R13 : PySem.W.OpenRow := PySem.W.OpenLaw.row PySem.Challenge.rw_peristyle_k13_best_packing
abbrev q13 : Program := PySem.W.view R13.prog [56]
abbrev lo13 : List Str := (["PeristyleError", "BadKind", "BadForm", "KINDS", "LIMIT", "LONGEST", "SIGNS", "is_whole", "is_value", "_has_text_signs", "long_number", "signed_number", "value_numbers", "EVERY_PACKING", "PACKINGS", "packings_of", "_write_plain", "_runs_of", "_write_runs", "_write_book", "_write_steps", "_write_near", "WRITERS", "write_values", "MOST_VALUES", "KINDS_BY_NUMBER", "is_packing", "_is_column", "packed", "_numbers"] : List Str) ++ (["_mask", "_mask_length", "best", "packed_best", "_law_cell", "_law_mixed", "_law_draws", "_law_signs", "_law_text", "_law_int", "_law_worth", "_law_sevens", "_law_signed", "_law_one", "_law_all", "_law_runs", "_law_book", "_law_packed", "_law_size", "_law_column"] : List Str)
theorem byRow {Q : World → Prop} (row : String) (h : ∀ w b, Q (PySem.World.withFollow w row b)) (w : World) : Q w := by
  have e := PySem.World.withFollow_self w row
  rw [← e]
  exact h w _
def Run13 (w : World) : Prop := ∀ os : OsState, (HeadRun.endF (HeadRun.stepQ (HeadRun.denQ HeadRun.tabQ) R13.prog w) 4208 R13.prog w os).map (fun s => (HeadRun.looksF R13.prog (PySem.W.boot_heap w.params) s.abs, HeadRun.seenQ q13 lo13 (importedModules R13.prog.main.body) (fun s => PySem.W.xlAt q13 [] s && PySem.W.recOk (PySem.W.RowW.records (PySem.W.OpenRow.toRowW R13)) s) s.abs, as13.map (HeadRun.getT s))) = some (true, PySem.W.openGood q13 lo13, (K13 w.params).map fun x => some x.2)
theorem run13_0 (w : World) : Run13 (PySem.World.withFollow (w) "special-get-raises" false) := by
  intro os
  kernel_rfl
theorem run13_1 (w : World) : Run13 (PySem.World.withFollow (w) "special-get-raises" true) := by
  intro os
  kernel_rfl
theorem left13 : PySem.W.LeftO R13.prog q13 lo13 (fun s => PySem.W.xlAt q13 [] s && PySem.W.recOk (PySem.W.RowW.records (PySem.W.OpenRow.toRowW R13)) s) (PySem.W.Hook.obs (PySem.W.kHook K13 as13 ek13)) (PySem.W.Hook.val (PySem.W.kHook K13 as13 ek13)) 4908 true := by
  refine HeadRun.left_oneK (M := 4208) (by kernel_rfl) (by rfl) (fun s => by kernel_rfl) (by rfl) ?_
  intro w os
  exact byRow (Q := Run13) "special-get-raises" (fun w b => by
    cases b
    · exact run13_0 w
    · exact run13_1 w) w os
end G_peristyle_k13_best_packing
open PySem PySem.W PyProof.Rows in
set_option maxHeartbeats 0 in
theorem PySem.Challenge.cw_peristyle_k13_best_packing_holds : PySem.Challenge.rw_peristyle_k13_best_packing.Holds := by
  w_on; o_law
  refine PySem.W.holds_open (r := G_peristyle_k13_best_packing.R13) (q := G_peristyle_k13_best_packing.q13) (loose := G_peristyle_k13_best_packing.lo13) (Xt := fun s => PySem.W.xlAt G_peristyle_k13_best_packing.q13 [] s && PySem.W.recOk (PySem.W.RowW.records (PySem.W.OpenRow.toRowW G_peristyle_k13_best_packing.R13)) s) (XP := PySem.W.XL G_peristyle_k13_best_packing.q13 []) (Yf := PySem.W.Hook.obs (PySem.W.kHook G_peristyle_k13_best_packing.K13 G_peristyle_k13_best_packing.as13 G_peristyle_k13_best_packing.ek13)) (Ya := PySem.W.Hook.val (PySem.W.kHook G_peristyle_k13_best_packing.K13 G_peristyle_k13_best_packing.as13 G_peristyle_k13_best_packing.ek13)) (YP := PySem.W.Hook.says (PySem.W.kHook G_peristyle_k13_best_packing.K13 G_peristyle_k13_best_packing.as13 G_peristyle_k13_best_packing.ek13)) (N := 4908) G_peristyle_k13_best_packing.left13 (PySem.W.Hook.of (PySem.W.kHook G_peristyle_k13_best_packing.K13 G_peristyle_k13_best_packing.as13 G_peristyle_k13_best_packing.ek13)) (PySem.W.Hook.keeps (PySem.W.kHook G_peristyle_k13_best_packing.K13 G_peristyle_k13_best_packing.as13 G_peristyle_k13_best_packing.ek13)) (fun s e => PySem.W.xl_of s (Bool.and_eq_true_iff.mp e).1) PySem.W.XL.keeps (by rfl) (by rfl) (by rfl) (fun s e => PySem.W.recFacts_of (Bool.and_eq_true_iff.mp e).2) (by rfl) (by first | assumption | decide +kernel) (by decide +kernel) ⟨rfl, rfl, rfl, rfl, rfl, by decide +kernel⟩ ?hw ?hc
  case' hw => w_witness2
  k_fill
  refine L2.walk_ofB (l := PySem.Challenge.rw_peristyle_k13_best_packing) (n := 63) (k := 11) (x := "script") (CX := fun _ => L2.CX0) (sp := fun w => Dm.spLaw _) rfl (by decide) rfl ⟨rfl, by decide, by decide⟩ (fun w h Y => by first | exact PySem.W.kIn_of Y | exact Y.1) ?F (fun _ _ a ns hl hb _ hS => ⟨a, ns, rfl, hS, hl, hb, fun _ => rfl⟩) (fun _ _ _ _ _ h => h)
  case F =>
    intro w mg fa h KX G hmg
    refine' G_peristyle_k13_best_packing.all_mk KX G hmg ?a0 ?l0 ?c0 ?k0 ?a1 ?l1 ?c1 ?k1 ?a2 ?l2 ?c2 ?k2 ?a3 ?l3 ?c3 ?k3 ?a4 ?l4 ?c4 ?k4 ?a5 ?l5 ?c5 ?k5 ?a6 ?l6 ?c6 ?k6 ?a7 ?l7 ?c7 ?k7 ?a8 ?l8 ?c8 ?k8 ?a9 ?l9 ?c9 ?k9 ?a10 ?l10 ?c10 ?k10 ?a11 ?l11 ?c11 ?k11 ?a12 ?l12 ?c12 ?k12 ?a13 ?l13 ?c13 ?k13 ?a14 ?l14 ?c14 ?k14 ?a15 ?l15 ?c15 ?k15 ?a16 ?l16 ?c16 ?k16 ?a17 ?l17 ?c17 ?k17 ?a18 ?l18 ?c18 ?k18 ?a19 ?l19 ?c19 ?k19 ?a20 ?l20 ?c20 ?k20 ?a21 ?l21 ?c21 ?k21 ?a22 ?l22 ?c22 ?k22 ?a23 ?l23 ?c23 ?k23 ?a24 ?l24 ?c24 ?k24 ?a25 ?l25 ?c25 ?k25 ?a26 ?l26 ?c26 ?k26 ?a27 ?l27 ?c27 ?k27 ?a28 ?l28 ?c28 ?k28 ?a29 ?l29 ?c29 ?k29 ?a30 ?l30 ?c30 ?k30 ?a31 ?l31 ?c31 ?k31 ?a32 ?l32 ?c32 ?k32 ?a33 ?l33 ?c33 ?k33 ?a34 ?l34 ?c34 ?k34 ?a35 ?l35 ?c35 ?k35 ?a36 ?l36 ?c36 ?k36 ?a37 ?l37 ?c37 ?k37 ?a38 ?l38 ?c38 ?k38 ?z_abs ?z_all ?z_bool ?z_enumerate ?z_int ?z_isinstance ?z_len ?z_list ?z_min ?z_ord ?z_range ?z_set ?z_sorted ?z_str ?z_tuple ?g_EVERY_PACKING ?gl_EVERY_PACKING ?g_KINDS ?gl_KINDS ?g_KINDS_BY_NUMBER ?gl_KINDS_BY_NUMBER ?g_LIMIT ?g_LONGEST ?g_MOST_VALUES ?g_SIGNS ?g_WRITERS ?gl_WRITERS ?g_PACKINGS ?gl_PACKINGS ?gk_PACKINGS ?gs_PACKINGS ?gi_PACKINGS_0 ?ul_PACKINGS_0 ?gi_PACKINGS_1 ?ul_PACKINGS_1 ?gi_PACKINGS_2 ?ul_PACKINGS_2
    (case a0 => k_is)
    (case l0 => k_is)
    (case c0 => k_is)
    (case k0 => k_is)
    (case a1 => k_is)
    (case l1 => k_is)
    (case c1 => k_is)
    (case k1 => k_is)
    (case a2 => k_is)
    (case l2 => k_is)
    (case c2 => k_is)
    (case k2 => k_is)
    (case a3 => k_is)
    (case l3 => k_is)
    (case c3 => k_is)
    (case k3 => k_is)
    (case a4 => k_is)
    (case l4 => k_is)
    (case c4 => k_is)
    (case k4 => k_is)
    (case a5 => k_is)
    (case l5 => k_is)
    (case c5 => k_is)
    (case k5 => k_is)
    (case a6 => k_is)
    (case l6 => k_is)
    (case c6 => k_is)
    (case k6 => k_is)
    (case a7 => k_is)
    (case l7 => k_is)
    (case c7 => k_is)
    (case k7 => k_is)
    (case a8 => k_is)
    (case l8 => k_is)
    (case c8 => k_is)
    (case k8 => k_is)
    (case a9 => k_is)
    (case l9 => k_is)
    (case c9 => k_is)
    (case k9 => k_is)
    (case a10 => k_is)
    (case l10 => k_is)
    (case c10 => k_is)
    (case k10 => k_is)
    (case a11 => k_is)
    (case l11 => k_is)
    (case c11 => k_is)
    (case k11 => k_is)
    (case a12 => k_is)
    (case l12 => k_is)
    (case c12 => k_is)
    (case k12 => k_is)
    (case a13 => k_is)
    (case l13 => k_is)
    (case c13 => k_is)
    (case k13 => k_is)
    (case a14 => k_is)
    (case l14 => k_is)
    (case c14 => k_is)
    (case k14 => k_is)
    (case a15 => k_is)
    (case l15 => k_is)
    (case c15 => k_is)
    (case k15 => k_is)
    (case a16 => k_is)
    (case l16 => k_is)
    (case c16 => k_is)
    (case k16 => k_is)
    (case a17 => k_is)
    (case l17 => k_is)
    (case c17 => k_is)
    (case k17 => k_is)
    (case a18 => k_is)
    (case l18 => k_is)
    (case c18 => k_is)
    (case k18 => k_is)
    (case a19 => k_is)
    (case l19 => k_is)
    (case c19 => k_is)
    (case k19 => k_is)
    (case a20 => k_is)
    (case l20 => k_is)
    (case c20 => k_is)
    (case k20 => k_is)
    (case a21 => k_is)
    (case l21 => k_is)
    (case c21 => k_is)
    (case k21 => k_is)
    (case a22 => k_is)
    (case l22 => k_is)
    (case c22 => k_is)
    (case k22 => k_is)
    (case a23 => k_is)
    (case l23 => k_is)
    (case c23 => k_is)
    (case k23 => k_is)
    (case a24 => k_is)
    (case l24 => k_is)
    (case c24 => k_is)
    (case k24 => k_is)
    (case a25 => k_is)
    (case l25 => k_is)
    (case c25 => k_is)
    (case k25 => k_is)
    (case a26 => k_is)
    (case l26 => k_is)
    (case c26 => k_is)
    (case k26 => k_is)
    (case a27 => k_is)
    (case l27 => k_is)
    (case c27 => k_is)
    (case k27 => k_is)
    (case a28 => k_is)
    (case l28 => k_is)
    (case c28 => k_is)
    (case k28 => k_is)
    (case a29 => k_is)
    (case l29 => k_is)
    (case c29 => k_is)
    (case k29 => k_is)
    (case a30 => k_is)
    (case l30 => k_is)
    (case c30 => k_is)
    (case k30 => k_is)
    (case a31 => k_is)
    (case l31 => k_is)
    (case c31 => k_is)
    (case k31 => k_is)
    (case a32 => k_is)
    (case l32 => k_is)
    (case c32 => k_is)
    (case k32 => k_is)
    (case a33 => k_is)
    (case l33 => k_is)
    (case c33 => k_is)
    (case k33 => k_is)
    (case a34 => k_is)
    (case l34 => k_is)
    (case c34 => k_is)
    (case k34 => k_is)
    (case a35 => k_is)
    (case l35 => k_is)
    (case c35 => k_is)
    (case k35 => k_is)
    (case a36 => k_is)
    (case l36 => k_is)
    (case c36 => k_is)
    (case k36 => k_is)
    (case a37 => k_is)
    (case l37 => k_is)
    (case c37 => k_is)
    (case k37 => k_is)
    (case a38 => k_is)
    (case l38 => k_is)
    (case c38 => k_is)
    (case k38 => k_is)
    (case z_abs => k_is)
    (case z_all => k_is)
    (case z_bool => k_is)
    (case z_enumerate => k_is)
    (case z_int => k_is)
    (case z_isinstance => k_is)
    (case z_len => k_is)
    (case z_list => k_is)
    (case z_min => k_is)
    (case z_ord => k_is)
    (case z_range => k_is)
    (case z_set => k_is)
    (case z_sorted => k_is)
    (case z_str => k_is)
    (case z_tuple => k_is)
    (case g_EVERY_PACKING => k_is)
    (case gl_EVERY_PACKING => k_is)
    (case g_KINDS => k_is)
    (case gl_KINDS => k_is)
    (case g_KINDS_BY_NUMBER => k_is)
    (case gl_KINDS_BY_NUMBER => k_is)
    (case g_LIMIT => k_is)
    (case g_LONGEST => k_is)
    (case g_MOST_VALUES => k_is)
    (case g_SIGNS => k_is)
    (case g_WRITERS => k_is)
    (case gl_WRITERS => k_is)
    (case g_PACKINGS => k_is)
    (case gl_PACKINGS => k_is)
    (case gk_PACKINGS => first | exact trivial | (repeat (first | exact trivial | refine And.intro ⟨_, _, rfl, rfl⟩ ?_)))
    (case gs_PACKINGS => (first | rfl | decide | k_is))
    (case gi_PACKINGS_0 => k_is)
    (case ul_PACKINGS_0 => k_is)
    (case gi_PACKINGS_1 => k_is)
    (case ul_PACKINGS_1 => k_is)
    (case gi_PACKINGS_2 => k_is)
    (case ul_PACKINGS_2 => k_is)
#print axioms PySem.Challenge.cw_peristyle_k13_best_packing_holds


