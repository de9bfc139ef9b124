import PyProof.Rows.All
import Wide.All
import OpenK.AllK
import Wide.FinOn
import HandS.ForMost
import HandS.TupLe
import HandS.TupAny
import HandS.IsInst
import HandS.SortRule
import HandS.FStr
import HandS.Wide
import HandS.Exc
import HandS.ExcOwn
import PySem.Challenge.RW_havenorhunt_k01_graph_texts
set_option Elab.async false
set_option linter.all false
set_option maxRecDepth 100000
set_option maxHeartbeats 4000000
set_option autoImplicit false
/-! EL: the layer of data. A state is a list of slots; a slot holds data that nobody changes, or a list that the def itself made and may change. -/
namespace EL
open PySem PySem.Spec PyProof.Rows L2

abbrev D := PyData
variable {K : PySem.W.Frag}

/-! ### steps of the heap: all stays; what is clean (the second heap) grows by new things alone -/
structure Wd (H H0 H' H0' : Hp) : Prop where
  e : Same H H'
  e0 : Same H0 H0'
  sub : Same H0' H'
  new : ∀ a o, H0' a = some o → H0 a = some o ∨ H a = none
section
variable {H H0 H1 H01 H2 H02 H' H0' : Hp} {p : Addr} {o : HO}
theorem Wd.refl (h : Same H0 H) : Wd H H0 H H0 := ⟨Same.refl _, Same.refl _, h, fun _ _ e => .inl e⟩
theorem Wd.trans (a : Wd H H0 H1 H01) (b : Wd H1 H01 H2 H02) : Wd H H0 H2 H02 :=
  ⟨a.e.trans b.e, a.e0.trans b.e0, b.sub, fun x o e => by
    rcases b.new x o e with h | h
    · exact a.new x o h
    · exact .inr (a.e.free h)⟩
theorem same_new (np : H p = none) : Same H (upd H p o) := fun b u e => by
  rw [upd_ne (ne_of_none e np)]; exact e
theorem same_upd2 (h : Same H0 H) : Same (upd H0 p o) (upd H p o) := fun b u e => by
  by_cases hb : b = p
  · subst hb; rw [upd_same] at e ⊢; exact e
  · rw [upd_ne hb] at e ⊢; exact h b u e
theorem sub_none (h : Same H0 H) (np : H p = none) : H0 p = none := h.free np
theorem Wd.clean (h : Same H0 H) (np : H p = none) : Wd H H0 (upd H p o) (upd H0 p o) :=
  ⟨same_new np, same_new (sub_none h np), same_upd2 h, fun a u e => by
    by_cases ha : a = p
    · subst ha; exact .inr np
    · rw [upd_ne ha] at e; exact .inl e⟩
theorem Wd.dirty (h : Same H0 H) (np : H p = none) : Wd H H0 (upd H p o) H0 :=
  ⟨same_new np, Same.refl _, h.trans (same_new np), fun _ _ e => .inl e⟩
theorem Wd.adopt (w : Wd H H0 H' H0') (np : H p = none) (hp : H' p = some o) (h0 : H0' p = none) : Wd H H0 H' (upd H0' p o) :=
  ⟨w.e, w.e0.trans (same_new h0), fun b u e => by
    by_cases hb : b = p
    · subst hb; rw [upd_same] at e; rw [hp]; exact e
    · rw [upd_ne hb] at e; exact w.sub b u e, fun a u e => by
    by_cases ha : a = p
    · subst ha; exact .inr np
    · rw [upd_ne ha] at e; exact w.new a u e⟩
/-- what is there and not clean stays not clean -/
theorem Wd.stay0 (w : Wd H H0 H' H0') (h : H p = some o) (h0 : H0 p = none) : H0' p = none := by
  cases q : H0' p with
  | none => rfl
  | some u =>
    rcases w.new p u q with z | z
    · rw [h0] at z; cases z
    · rw [h] at z; cases z
end
theorem sqT_mono {H H' : Hp} {a : Addr} {xs : List V} (e : Same H H') (h : SqT K H a xs) : SqT K H' a xs := by
  rcases h with (h | ⟨o, h⟩) | h
  · exact .inl (.inl (e _ _ h))
  · exact .inl (.inr ⟨o, e _ _ h⟩)
  · exact .inr h
mutual
theorem dp_mono {H H' : Hp} (e : Same H H') : ∀ {v : V} {d : D}, Dp K H v d → Dp K H' v d
  | _, _, .non => .non
  | _, _, .bl b => .bl b
  | _, _, .int i => .int i
  | _, _, .str x => .str x
  | _, _, .lst s a => .lst (e.seq s) (dpa_mono e a)
  | _, _, .tup s a => .tup (sqT_mono e s) (dpa_mono e a)
theorem dpa_mono {H H' : Hp} (e : Same H H') : ∀ {vs : List V} {ds : List D}, DpAll K H vs ds → DpAll K H' vs ds
  | _, _, .nil => .nil
  | _, _, .cons a b => .cons (dp_mono e a) (dpa_mono e b)
end
section
variable {H H0 : Hp}
theorem dpa_len : ∀ {vs : List V} {ds : List D}, DpAll K H vs ds → vs.length = ds.length
  | _, _, .nil => rfl
  | _, _, .cons _ b => by rw [List.length_cons, List.length_cons, dpa_len b]
theorem dpa_get : ∀ {vs : List V} {ds : List D} {i : Nat} {d : D}, DpAll K H vs ds → ds[i]? = some d → ∃ v, vs[i]? = some v ∧ Dp K H v d
  | _, _, _, _, .nil, e => by simp at e
  | _, _, 0, _, .cons a _, e => by simp at e; subst e; exact ⟨_, rfl, a⟩
  | _, _, i + 1, _, .cons _ b, e => by
    obtain ⟨v, h1, h2⟩ := dpa_get (i := i) b (by simpa using e)
    exact ⟨v, by simpa using h1, h2⟩
theorem dpa_getV : ∀ {vs : List V} {ds : List D} {i : Nat} {v : V}, DpAll K H vs ds → vs[i]? = some v → ∃ d, ds[i]? = some d ∧ Dp K H v d
  | _, _, _, _, .nil, e => by simp at e
  | _, _, 0, _, .cons a _, e => by simp at e; subst e; exact ⟨_, rfl, a⟩
  | _, _, i + 1, _, .cons _ b, e => by
    obtain ⟨v, h1, h2⟩ := dpa_getV (i := i) b (by simpa using e)
    exact ⟨v, by simpa using h1, h2⟩
theorem dpa_app : ∀ {vs ws : List V} {ds es : List D}, DpAll K H vs ds → DpAll K H ws es → DpAll K H (vs ++ ws) (ds ++ es)
  | _, _, _, _, .nil, b => b
  | _, _, _, _, .cons a t, b => .cons a (dpa_app t b)
theorem dpa_take : ∀ {vs : List V} {ds : List D} (n : Nat), DpAll K H vs ds → DpAll K H (vs.take n) (ds.take n)
  | _, _, 0, _ => .nil
  | _, _, _ + 1, .nil => .nil
  | _, _, n + 1, .cons a t => .cons a (dpa_take n t)
theorem dpa_drop : ∀ {vs : List V} {ds : List D} (n : Nat), DpAll K H vs ds → DpAll K H (vs.drop n) (ds.drop n)
  | _, _, 0, r => r
  | _, _, _ + 1, .nil => .nil
  | _, _, n + 1, .cons _ t => dpa_drop n t
theorem dpa_ints : ∀ {vs : List V} {ns : List Int}, DpAll K H vs (ns.map .int) → vs = ns.map V.int
  | _, [], h => by cases h; rfl
  | _, n :: ns, h => by
    cases h with
    | cons a b => cases a; rw [dpa_ints b]; rfl
theorem dpa_of_ints : ∀ (ns : List Int), DpAll K H (ns.map V.int) (ns.map .int)
  | [] => .nil
  | n :: ns => .cons (.int n) (dpa_of_ints ns)
theorem dpa_strs : ∀ {vs : List V} {ns : List Str}, DpAll K H vs (ns.map .str) → vs = ns.map V.str
  | _, [], h => by cases h; rfl
  | _, n :: ns, h => by
    cases h with
    | cons a b => cases a; rw [dpa_strs b]; rfl
end

/-! ### what a value is: clean data, or a list whose items are clean -/
def Dq (K : PySem.W.Frag) (H H0 : Hp) (v : V) (d : D) : Prop := Dp K H0 v d ∨ ∃ a xs ds, v = .ref a ∧ d = .list ds ∧ SqL K H a xs ∧ DpAll K H0 xs ds
section
variable {H H0 H' H0' : Hp} {v : V} {d : D} {ds : List D}
theorem Dq.mono (w : Wd H H0 H' H0') (h : Dq K H H0 v d) : Dq K H' H0' v d := by
  rcases h with h | ⟨a, xs, ds, e1, e2, h1, h2⟩
  · exact .inl (dp_mono w.e0 h)
  · exact .inr ⟨a, xs, ds, e1, e2, w.e.seq h1, dpa_mono w.e0 h2⟩
theorem Dq.lst (sub : Same H0 H) (h : Dq K H H0 v (.list ds)) : ∃ a xs, v = .ref a ∧ SqL K H a xs ∧ DpAll K H0 xs ds := by
  rcases h with h | ⟨a, xs, ds', e1, e2, h1, h2⟩
  · cases h with
    | lst s a => exact ⟨_, _, rfl, sub.seq s, a⟩
  · cases e2
    exact ⟨a, xs, e1, h1, h2⟩
theorem Dq.tup (h : Dq K H H0 v (.tuple ds)) : ∃ a xs, v = .ref a ∧ SqT K H0 a xs ∧ DpAll K H0 xs ds := by
  rcases h with h | ⟨a, xs, ds', e1, e2, h1, h2⟩
  · cases h with
    | tup s a => exact ⟨_, _, rfl, s, a⟩
  · cases e2
theorem Dq.int {i : Int} (h : Dq K H H0 v (.int i)) : v = .int i := by
  rcases h with h | ⟨a, xs, ds', e1, e2, h1, h2⟩
  · cases h; rfl
  · cases e2
theorem Dq.str {i : Str} (h : Dq K H H0 v (.str i)) : v = .str i := by
  rcases h with h | ⟨a, xs, ds', e1, e2, h1, h2⟩
  · cases h; rfl
  · cases e2
theorem Dq.bl {i : Bool} (h : Dq K H H0 v (.bool i)) : v = .bl i := by
  rcases h with h | ⟨a, xs, ds', e1, e2, h1, h2⟩
  · cases h; rfl
  · cases e2
theorem Dq.non (h : Dq K H H0 v .none) : v = .non := by
  rcases h with h | ⟨a, xs, ds', e1, e2, h1, h2⟩
  · cases h; rfl
  · cases e2
theorem Dq.dp (sub : Same H0 H) (h : Dq K H H0 v d) : Dp K H v d := by
  rcases h with h | ⟨a, xs, ds', e1, e2, h1, h2⟩
  · exact dp_mono sub h
  · subst e1 e2
    exact .lst h1 (dpa_mono sub h2)
def isList : D → Bool
  | .list _ => true
  | _ => false
theorem Dq.cl (h : Dq K H H0 v d) (hd : isList d = false) : Dp K H0 v d := by
  rcases h with h | ⟨a, xs, ds', e1, e2, h1, h2⟩
  · exact h
  · subst e2; cases hd
inductive DqAll (K : PySem.W.Frag) (H H0 : Hp) : List V → List D → Prop
  | nil : DqAll K H H0 [] []
  | cons {v : V} {d : D} {vs : List V} {ds : List D} : Dq K H H0 v d → DqAll K H H0 vs ds → DqAll K H H0 (v :: vs) (d :: ds)
theorem DqAll.mono (w : Wd H H0 H' H0') : ∀ {vs : List V} {ds : List D}, DqAll K H H0 vs ds → DqAll K H' H0' vs ds
  | _, _, .nil => .nil
  | _, _, .cons a b => .cons (a.mono w) (b.mono w)
end

/-! ### slots -/
/-- nothing, data nobody changes, or an object the def made itself: a list, or (with keys) a dict -/
inductive Sl where
  | no
  | dat (d : D)
  | obj (κ : Option (List Int)) (ds : List D)
abbrev Sl.own (ds : List D) : Sl := .obj none ds
abbrev Sl.dic (ks : List Int) (ds : List D) : Sl := .obj (some ks) ds
def mkO : Option (List Int) → List V → HO
  | none, xs => .lst xs
  | some ks, xs => .dK ((ks.map Sum.inl).zip xs)
structure Rp (K : PySem.W.Frag) (B B0 : Hp) (ρ : List Sl) (σ : L2.St) (H H0 : Hp) : Prop where
  wd : Wd B B0 H H0
  len : ρ.length = σ.length
  dat : ∀ (i : Nat) (d : D), ρ[i]? = some (Sl.dat d) → ∃ v, σ[i]? = some (some v) ∧ Dp K H0 v d
  obj : ∀ (i : Nat) (κ : Option (List Int)) (ds : List D), ρ[i]? = some (Sl.obj κ ds) → ∃ a xs, σ[i]? = some (some (V.ref a)) ∧ B a = none ∧ H0 a = none ∧ H a = some (mkO κ xs) ∧ DpAll K H0 xs ds
  inj : ∀ (i j : Nat) (a : Addr) (κ κ' : Option (List Int)) (ds es : List D), ρ[i]? = some (Sl.obj κ ds) → ρ[j]? = some (Sl.obj κ' es) → σ[i]? = some (some (V.ref a)) → σ[j]? = some (some (V.ref a)) → i = j
section
variable {B B0 H H0 H' H0' : Hp} {ρ : List Sl} {σ : L2.St} {i : Nat} {v : V} {d : D} {ds : List D}
theorem Rp.own (r : Rp K B B0 ρ σ H H0) (i : Nat) (ds : List D) (h : ρ[i]? = some (Sl.own ds)) : ∃ a xs, σ[i]? = some (some (V.ref a)) ∧ B a = none ∧ H0 a = none ∧ H a = some (.lst xs) ∧ DpAll K H0 xs ds := r.obj i none ds h
theorem Rp.sub (r : Rp K B B0 ρ σ H H0) : Same H0 H := r.wd.sub
theorem Rp.step (r : Rp K B B0 ρ σ H H0) (w : Wd H H0 H' H0') : Rp K B B0 ρ σ H' H0' :=
  ⟨r.wd.trans w, r.len, fun i d e => by
    obtain ⟨v, e1, e2⟩ := r.dat i d e
    exact ⟨v, e1, dp_mono w.e0 e2⟩, fun i κ ds e => by
    obtain ⟨a, xs, e1, e2, e3, e4, e5⟩ := r.obj i κ ds e
    exact ⟨a, xs, e1, e2, w.stay0 e4 e3, w.e _ _ e4, dpa_mono w.e0 e5⟩, r.inj⟩
theorem set_get {α : Type} {l : List α} {i j : Nat} {x y : α} (h : (l.set i x)[j]? = some y) : (j = i ∧ y = x ∧ i < l.length) ∨ (j ≠ i ∧ l[j]? = some y) := by
  by_cases hj : j = i
  · subst hj
    by_cases hl : j < l.length
    · rw [List.getElem?_set_self hl] at h
      exact .inl ⟨rfl, (Option.some.inj h).symm, hl⟩
    · rw [List.getElem?_eq_none (by rw [List.length_set]; omega)] at h
      cases h
  · rw [List.getElem?_set_ne (fun e => hj e.symm)] at h
    exact .inr ⟨hj, h⟩
theorem Rp.setD (r : Rp K B B0 ρ σ H H0) (h : Dp K H0 v d) (i : Nat) : Rp K B B0 (ρ.set i (.dat d)) (σ.set i (some v)) H H0 :=
  ⟨r.wd, by rw [List.length_set, List.length_set, r.len], fun j e hj => by
    rcases set_get hj with ⟨rfl, hy, hl⟩ | ⟨hn, hj2⟩
    · cases hy
      exact ⟨v, by rw [List.getElem?_set_self (by rw [← r.len]; exact hl)], h⟩
    · obtain ⟨w, e1, e2⟩ := r.dat j e hj2
      exact ⟨w, by rw [List.getElem?_set_ne (Ne.symm hn)]; exact e1, e2⟩, fun j κ es hj => by
    rcases set_get hj with ⟨rfl, hy, hl⟩ | ⟨hn, hj2⟩
    · cases hy
    · obtain ⟨a, xs, e1, e2⟩ := r.obj j κ es hj2
      exact ⟨a, xs, by rw [List.getElem?_set_ne (Ne.symm hn)]; exact e1, e2⟩, fun j k a κ κ' es fs hj hk e1 e2 => by
    rcases set_get hj with ⟨rfl, hy, hl⟩ | ⟨hn, hj2⟩
    · cases hy
    · rcases set_get hk with ⟨rfl, hy, hl⟩ | ⟨hm, hk2⟩
      · cases hy
      · rw [List.getElem?_set_ne (Ne.symm hn)] at e1
        rw [List.getElem?_set_ne (Ne.symm hm)] at e2
        exact r.inj j k a κ κ' es fs hj2 hk2 e1 e2⟩
/-- a new object, taken as one's own; p is new since the heap G -/
theorem Rp.setK {G G0 : Hp} {p : Addr} {xs : List V} {κ0 : Option (List Int)} (r : Rp K B B0 ρ σ G G0) (w : Wd G G0 H H0) (np : G p = none) (hp : H p = some (mkO κ0 xs)) (h0 : H0 p = none) (h : DpAll K H0 xs ds) (i : Nat) :
    Rp K B B0 (ρ.set i (.obj κ0 ds)) (σ.set i (some (V.ref p))) H H0 := by
  have r' := r.step w
  have hne : ∀ j κ es a, ρ[j]? = some (Sl.obj κ es) → σ[j]? = some (some (V.ref a)) → a ≠ p := fun j κ es a h1 h2 e => by
    obtain ⟨b, ys, e1, e2, e3, e4, e5⟩ := r.obj j κ es h1
    rw [h2] at e1; cases e1
    rw [e, np] at e4; cases e4
  refine ⟨r'.wd, by rw [List.length_set, List.length_set, r.len], fun j e hj => ?_, fun j κ es hj => ?_, fun j k a κ κ' es fs hj hk e1 e2 => ?_⟩
  · rcases set_get hj with ⟨rfl, hy, hl⟩ | ⟨hn, hj2⟩
    · cases hy
    · obtain ⟨w, e1, e2⟩ := r'.dat j e hj2
      exact ⟨w, by rw [List.getElem?_set_ne (Ne.symm hn)]; exact e1, e2⟩
  · rcases set_get hj with ⟨rfl, hy, hl⟩ | ⟨hn, hj2⟩
    · cases hy
      exact ⟨p, xs, by rw [List.getElem?_set_self (by rw [← r.len]; exact hl)], r.wd.e.free np, h0, hp, h⟩
    · obtain ⟨a, xs, e1, e2⟩ := r'.obj j κ es hj2
      exact ⟨a, xs, by rw [List.getElem?_set_ne (Ne.symm hn)]; exact e1, e2⟩
  · rcases set_get hj with ⟨rfl, hy, hl⟩ | ⟨hn, hj2⟩
    · rcases set_get hk with ⟨rfl, hy', hl'⟩ | ⟨hm, hk2⟩
      · rfl
      · rw [List.getElem?_set_self (by rw [← r.len]; exact hl)] at e1
        rw [List.getElem?_set_ne (Ne.symm hm)] at e2
        cases e1
        exact absurd rfl (hne k κ' fs p hk2 e2)
    · rcases set_get hk with ⟨rfl, hy', hl'⟩ | ⟨hm, hk2⟩
      · rw [List.getElem?_set_self (by rw [← r.len]; exact hl')] at e2
        rw [List.getElem?_set_ne (Ne.symm hn)] at e1
        cases e2
        exact absurd rfl (hne j κ es p hj2 e1)
      · rw [List.getElem?_set_ne (Ne.symm hn)] at e1
        rw [List.getElem?_set_ne (Ne.symm hm)] at e2
        exact r.inj j k a κ κ' es fs hj2 hk2 e1 e2
/-- one's own object at a is changed -/
theorem Rp.writeK {a : Addr} {ys : List V} {es : List D} {κ0 κ1 : Option (List Int)} (r : Rp K B B0 ρ σ H H0) (hi : ρ[i]? = some (Sl.obj κ0 ds)) (hs : σ[i]? = some (some (V.ref a))) (h : DpAll K H0 ys es) :
    Rp K B B0 (ρ.set i (.obj κ1 es)) σ (upd H a (mkO κ1 ys)) H0 := by
  obtain ⟨b, xs, e1, e2, e3, e4, e5⟩ := r.obj i κ0 ds hi
  rw [hs] at e1; cases e1
  have hne : ∀ j κ es' b', j ≠ i → ρ[j]? = some (Sl.obj κ es') → σ[j]? = some (some (V.ref b')) → b' ≠ a := fun j κ es' b' hn h1 h2 e => by
    subst e
    exact hn (r.inj j i _ κ κ0 es' ds h1 hi h2 hs)
  refine ⟨⟨fun c u hc => ?_, r.wd.e0, fun c u hc => ?_, r.wd.new⟩, by rw [List.length_set, r.len], fun j e hj => ?_, fun j κ es' hj => ?_, fun j k b κ κ' es' fs hj hk h1 h2 => ?_⟩
  · rw [upd_ne (ne_of_none hc e2)]; exact r.wd.e c u hc
  · rw [upd_ne (ne_of_none hc e3)]; exact r.wd.sub c u hc
  · rcases set_get hj with ⟨rfl, hy, hl⟩ | ⟨hn, hj2⟩
    · cases hy
    · exact r.dat j e hj2
  · rcases set_get hj with ⟨rfl, hy, hl⟩ | ⟨hn, hj2⟩
    · cases hy
      exact ⟨a, ys, hs, e2, e3, upd_same, h⟩
    · obtain ⟨b, zs, f1, f2, f3, f4, f5⟩ := r.obj j κ es' hj2
      exact ⟨b, zs, f1, f2, f3, by rw [upd_ne (hne j κ es' b hn hj2 f1)]; exact f4, f5⟩
  · rcases set_get hj with ⟨rfl, hy, hl⟩ | ⟨hn, hj2⟩
    · rcases set_get hk with ⟨rfl, hy', hl'⟩ | ⟨hm, hk2⟩
      · rfl
      · rw [hs] at h1; cases h1
        exact absurd rfl (hne k κ' fs a hm hk2 h2)
    · rcases set_get hk with ⟨rfl, hy', hl'⟩ | ⟨hm, hk2⟩
      · rw [hs] at h2; cases h2
        exact absurd rfl (hne j κ es' a hn hj2 h1)
      · exact r.inj j k b κ κ' es' fs hj2 hk2 h1 h2
/-- a slot is forgotten -/
theorem Rp.drop (r : Rp K B B0 ρ σ H H0) (i : Nat) (x : Option V) : Rp K B B0 (ρ.set i .no) (σ.set i x) H H0 :=
  ⟨r.wd, by rw [List.length_set, List.length_set, r.len], fun j e hj => by
    rcases set_get hj with ⟨rfl, hy, hl⟩ | ⟨hn, hj2⟩
    · cases hy
    · obtain ⟨w, e1, e2⟩ := r.dat j e hj2
      exact ⟨w, by rw [List.getElem?_set_ne (Ne.symm hn)]; exact e1, e2⟩, fun j κ es hj => by
    rcases set_get hj with ⟨rfl, hy, hl⟩ | ⟨hn, hj2⟩
    · cases hy
    · obtain ⟨a, xs, e1, e2⟩ := r.obj j κ es hj2
      exact ⟨a, xs, by rw [List.getElem?_set_ne (Ne.symm hn)]; exact e1, e2⟩, fun j k a κ κ' es fs hj hk e1 e2 => by
    rcases set_get hj with ⟨rfl, hy, hl⟩ | ⟨hn, hj2⟩
    · cases hy
    · rcases set_get hk with ⟨rfl, hy, hl⟩ | ⟨hm, hk2⟩
      · cases hy
      · rw [List.getElem?_set_ne (Ne.symm hn)] at e1
        rw [List.getElem?_set_ne (Ne.symm hm)] at e2
        exact r.inj j k a κ κ' es fs hj2 hk2 e1 e2⟩
theorem Rp.forget (r : Rp K B B0 ρ σ H H0) (i : Nat) : Rp K B B0 (ρ.set i .no) σ H H0 := by
  have q := r.drop i (σ.getD i none)
  by_cases h : i < σ.length
  · rwa [show σ.set i (σ.getD i none) = σ from by
      rw [List.getD_eq_getElem?_getD, List.getElem?_eq_getElem h, Option.getD_some, List.set_getElem_self]] at q
  · rwa [List.set_eq_of_length_le (by omega : σ.length ≤ i)] at q
theorem Rp.setO {G G0 : Hp} {p : Addr} {xs : List V} (r : Rp K B B0 ρ σ G G0) (w : Wd G G0 H H0) (np : G p = none) (hp : H p = some (.lst xs)) (h0 : H0 p = none) (h : DpAll K H0 xs ds) (i : Nat) :
    Rp K B B0 (ρ.set i (.own ds)) (σ.set i (some (V.ref p))) H H0 := r.setK (κ0 := none) w np hp h0 h i
theorem Rp.write {a : Addr} {ys : List V} {es : List D} (r : Rp K B B0 ρ σ H H0) (hi : ρ[i]? = some (Sl.own ds)) (hs : σ[i]? = some (some (V.ref a))) (h : DpAll K H0 ys es) :
    Rp K B B0 (ρ.set i (.own es)) σ (upd H a (.lst ys)) H0 := r.writeK (κ0 := none) (κ1 := none) hi hs h
/-- one's own list is data from here on -/
theorem Rp.freeze (r : Rp K B B0 ρ σ H H0) (hi : ρ[i]? = some (Sl.own ds)) : ∃ H0', Rp K B B0 (ρ.set i (.dat (.list ds))) σ H H0' := by
  obtain ⟨a, xs, e1, e2, e3, e4, e5⟩ := r.own i ds hi
  have hne : ∀ j κ es' b', j ≠ i → ρ[j]? = some (Sl.obj κ es') → σ[j]? = some (some (V.ref b')) → b' ≠ a := fun j κ es' b' hn h1 h2 e => by
    subst e
    exact hn (r.inj j i _ κ none es' ds h1 hi h2 e1)
  have s0 : Same H0 (upd H0 a (.lst xs)) := same_new e3
  refine ⟨upd H0 a (.lst xs), ⟨r.wd.adopt e2 e4 e3, by rw [List.length_set, r.len], fun j e hj => ?_, fun j κ es' hj => ?_, fun j k b κ κ' es' fs hj hk h1 h2 => ?_⟩⟩
  · rcases set_get hj with ⟨rfl, hy, hl⟩ | ⟨hn, hj2⟩
    · cases hy
      exact ⟨.ref a, e1, .lst (.of upd_same) (dpa_mono s0 e5)⟩
    · obtain ⟨w, f1, f2⟩ := r.dat j e hj2
      exact ⟨w, f1, dp_mono s0 f2⟩
  · rcases set_get hj with ⟨rfl, hy, hl⟩ | ⟨hn, hj2⟩
    · cases hy
    · obtain ⟨b, zs, f1, f2, f3, f4, f5⟩ := r.obj j κ es' hj2
      exact ⟨b, zs, f1, f2, by rw [upd_ne (hne j κ es' b hn hj2 f1)]; exact f3, f4, dpa_mono s0 f5⟩
  · rcases set_get hj with ⟨rfl, hy, hl⟩ | ⟨hn, hj2⟩
    · cases hy
    · rcases set_get hk with ⟨rfl, hy, hl⟩ | ⟨hm, hk2⟩
      · cases hy
      · exact r.inj j k b κ κ' es' fs hj2 hk2 h1 h2
end
end EL

namespace EL
open PySem PySem.Spec PyProof.Rows L2
variable {K : PySem.W.Frag}

theorem sz_le {n : Nat} (h : n ≤ 1000) : n ≤ sizeLine := Nat.le_of_lt (small1000 h)
/-! ### what an expression is worth -/
def EvQ (K : PySem.W.Frag) (t : TE) (ρ : List Sl) (d : D) : Prop := ∀ (B B0 : Hp) (σ : L2.St) (H H0 : Hp), Rp K B B0 ρ σ H H0 → ∀ Q : VK, (∀ v H' H0', Wd H H0 H' H0' → Dq K H' H0' v d → Q v H') → t σ H Q
def EvD (K : PySem.W.Frag) (t : TE) (ρ : List Sl) (d : D) : Prop := ∀ (B B0 : Hp) (σ : L2.St) (H H0 : Hp), Rp K B B0 ρ σ H H0 → ∀ Q : VK, (∀ v H' H0', Wd H H0 H' H0' → Dp K H0' v d → Q v H') → t σ H Q
def EvF (K : PySem.W.Frag) (t : TE) (ρ : List Sl) (ds : List D) : Prop := ∀ (B B0 : Hp) (σ : L2.St) (H H0 : Hp), Rp K B B0 ρ σ H H0 → ∀ Q : VK,
  (∀ a xs H' H0', Wd H H0 H' H0' → H a = none → H' a = some (.lst xs) → H0' a = none → DpAll K H0' xs ds → Q (.ref a) H') → t σ H Q
def EvT (K : PySem.W.Frag) (t : TT) (ρ : List Sl) (b : Bool) : Prop := ∀ (B B0 : Hp) (σ : L2.St) (H H0 : Hp), Rp K B B0 ρ σ H H0 → ∀ Q : Bool → Hp → Prop, (∀ H' H0', Wd H H0 H' H0' → Q b H') → t σ H Q
def EvA (K : PySem.W.Frag) (t : TA) (ρ : List Sl) (ds : List D) : Prop := ∀ (B B0 : Hp) (σ : L2.St) (H H0 : Hp), Rp K B B0 ρ σ H H0 → ∀ Q : List V → Hp → Prop, (∀ vs H' H0', Wd H H0 H' H0' → DqAll K H' H0' vs ds → Q vs H') → t σ H Q
def EvC (K : PySem.W.Frag) (t : TA) (ρ : List Sl) (ds : List D) : Prop := ∀ (B B0 : Hp) (σ : L2.St) (H H0 : Hp), Rp K B B0 ρ σ H H0 → ∀ Q : List V → Hp → Prop, (∀ vs H' H0', Wd H H0 H' H0' → DpAll K H0' vs ds → Q vs H') → t σ H Q
def EvO (K : PySem.W.Frag) (t : TO) (ρ : List Sl) (o : Option Int) : Prop := ∀ (B B0 : Hp) (σ : L2.St) (H H0 : Hp), Rp K B B0 ρ σ H H0 → ∀ Q : Option Int → Hp → Prop, (∀ H' H0', Wd H H0 H' H0' → Q o H') → t σ H Q

section
variable {ρ : List Sl} {t ta tb tc : TE} {d x y z : D} {ds es : List D} {i : Nat}
theorem EvD.q (h : EvD K t ρ d) : EvQ K t ρ d := fun B B0 σ H H0 r Q q => h B B0 σ H H0 r Q fun v H' H0' w k => q v H' H0' w (.inl k)
theorem EvF.q (h : EvF K t ρ ds) : EvQ K t ρ (.list ds) := fun B B0 σ H H0 r Q q => h B B0 σ H H0 r Q fun a xs H' H0' w n e e0 k => q _ H' H0' w (.inr ⟨a, xs, ds, rfl, rfl, .of e, k⟩)
theorem EvF.cl (h : EvF K t ρ ds) : EvD K t ρ (.list ds) := fun B B0 σ H H0 r Q q => h B B0 σ H H0 r Q fun a xs H' H0' w n e e0 k =>
  q _ H' (upd H0' a (.lst xs)) (w.adopt n e e0) (.lst (.of upd_same) (dpa_mono (same_new e0) k))
theorem EvQ.cl (h : EvQ K t ρ d) (hd : isList d = false := by rfl) : EvD K t ρ d := fun B B0 σ H H0 r Q q => h B B0 σ H H0 r Q fun v H' H0' w k => q v H' H0' w (k.cl hd)
theorem EvD.to (h : EvD K t ρ d) (e : d = x) : EvD K t ρ x := e ▸ h
theorem EvQ.to (h : EvQ K t ρ d) (e : d = x) : EvQ K t ρ x := e ▸ h
theorem EvF.to (h : EvF K t ρ ds) (e : ds = es) : EvF K t ρ es := e ▸ h
theorem ev_var (h : ρ[i]? = some (Sl.dat d)) : EvD K (tVar i) ρ d := fun B B0 σ H H0 r Q q => by
  obtain ⟨v, e1, e2⟩ := r.dat i d h
  exact ⟨v, e1, q v H H0 (.refl r.sub) e2⟩
theorem ev_own (h : ρ[i]? = some (Sl.own ds)) : EvQ K (tVar i) ρ (.list ds) := fun B B0 σ H H0 r Q q => by
  obtain ⟨a, xs, e1, e2, e3, e4, e5⟩ := r.own i ds h
  exact ⟨_, e1, q _ H H0 (.refl r.sub) (.inr ⟨a, xs, ds, rfl, rfl, .of e4, e5⟩)⟩
theorem ev_cint {i : Int} : EvD K (tC (.int i)) ρ (.int i) := fun B B0 σ H H0 r Q q => q _ H H0 (.refl r.sub) (.int i)
theorem ev_cbl {i : Bool} : EvD K (tC (.bl i)) ρ (.bool i) := fun B B0 σ H H0 r Q q => q _ H H0 (.refl r.sub) (.bl i)
theorem ev_cstr {i : Str} : EvD K (tC (.str i)) ρ (.str i) := fun B B0 σ H H0 r Q q => q _ H H0 (.refl r.sub) (.str i)
theorem ev_cnon : EvD K (tC .non) ρ .none := fun B B0 σ H H0 r Q q => q _ H H0 (.refl r.sub) .non

/-! ### operations by data -/
def RD (K : PySem.W.Frag) (r : R2) (x y z : D) : Prop := ∀ (H H0 : Hp) (v u : V), Same H0 H → Dq K H H0 v x → Dq K H H0 u y → ∀ Q : VK, (∀ v' H' H0', Wd H H0 H' H0' → Dp K H0' v' z → Q v' H') → r v u H Q
def RF (K : PySem.W.Frag) (r : R2) (x y : D) (ds : List D) : Prop := ∀ (H H0 : Hp) (v u : V), Same H0 H → Dq K H H0 v x → Dq K H H0 u y → ∀ Q : VK,
  (∀ a xs H' H0', Wd H H0 H' H0' → H a = none → H' a = some (.lst xs) → H0' a = none → DpAll K H0' xs ds → Q (.ref a) H') → r v u H Q
def CD (K : PySem.W.Frag) (r : List V → Hp → VK → Prop) (xs : List D) (z : D) : Prop := ∀ (H H0 : Hp) (vs : List V), Same H0 H → DqAll K H H0 vs xs → ∀ Q : VK, (∀ v' H' H0', Wd H H0 H' H0' → Dp K H0' v' z → Q v' H') → r vs H Q
def CF (K : PySem.W.Frag) (r : List V → Hp → VK → Prop) (xs : List D) (ds : List D) : Prop := ∀ (H H0 : Hp) (vs : List V), Same H0 H → DqAll K H H0 vs xs → ∀ Q : VK,
  (∀ a xs H' H0', Wd H H0 H' H0' → H a = none → H' a = some (.lst xs) → H0' a = none → DpAll K H0' xs ds → Q (.ref a) H') → r vs H Q
/-- two steps, one behind the other -/
theorem two {α : Type} {H H0 H1 H01 : Hp} (w : Wd H H0 H1 H01) {a : Addr} {u : HO} (n : H1 a = none) : H a = none := w.e.free n
theorem ev_op {r : R2} (ha : EvQ K ta ρ x) (hb : EvQ K tb ρ y) (hr : RD K r x y z) : EvD K (tOp r ta tb) ρ z := fun B B0 σ H H0 rp Q q =>
  ha B B0 σ H H0 rp _ fun v H1 H01 w1 k1 => hb B B0 σ H1 H01 (rp.step w1) _ fun u H2 H02 w2 k2 => hr H2 H02 v u w2.sub (k1.mono w2) k2 Q fun v' H3 H03 w3 k3 => q v' H3 H03 ((w1.trans w2).trans w3) k3
theorem ev_opF {r : R2} (ha : EvQ K ta ρ x) (hb : EvQ K tb ρ y) (hr : RF K r x y ds) : EvF K (tOp r ta tb) ρ ds := fun B B0 σ H H0 rp Q q =>
  ha B B0 σ H H0 rp _ fun v H1 H01 w1 k1 => hb B B0 σ H1 H01 (rp.step w1) _ fun u H2 H02 w2 k2 => hr H2 H02 v u w2.sub (k1.mono w2) k2 Q fun a xs H3 H03 w3 n e e0 k3 =>
    q a xs H3 H03 ((w1.trans w2).trans w3) ((w1.trans w2).e.free n) e e0 k3
theorem ea_nil : EvA K tNil ρ [] := fun B B0 σ H H0 r Q q => q [] H H0 (.refl r.sub) .nil
theorem ea_cons {tt : TA} (ha : EvQ K ta ρ x) (hb : EvA K tt ρ ds) : EvA K (tCons ta tt) ρ (x :: ds) := fun B B0 σ H H0 rp Q q =>
  ha B B0 σ H H0 rp _ fun v H1 H01 w1 k1 => hb B B0 σ H1 H01 (rp.step w1) _ fun vs H2 H02 w2 k2 => q _ H2 H02 (w1.trans w2) (.cons (k1.mono w2) k2)
theorem ec_nil : EvC K tNil ρ [] := fun B B0 σ H H0 r Q q => q [] H H0 (.refl r.sub) .nil
theorem ec_cons {tt : TA} (ha : EvD K ta ρ x) (hb : EvC K tt ρ ds) : EvC K (tCons ta tt) ρ (x :: ds) := fun B B0 σ H H0 rp Q q =>
  ha B B0 σ H H0 rp _ fun v H1 H01 w1 k1 => hb B B0 σ H1 H01 (rp.step w1) _ fun vs H2 H02 w2 k2 => q _ H2 H02 (w1.trans w2) (.cons (dp_mono w2.e0 k1) k2)
theorem ev_cb {r : List V → Hp → VK → Prop} {tt : TA} (ha : EvA K tt ρ ds) (hr : CD K r ds z) : EvD K (tCB r tt) ρ z := fun B B0 σ H H0 rp Q q =>
  ha B B0 σ H H0 rp _ fun vs H1 H01 w1 k1 => hr H1 H01 vs w1.sub k1 Q fun v' H3 H03 w3 k3 => q v' H3 H03 (w1.trans w3) k3
theorem ev_cbF {r : List V → Hp → VK → Prop} {tt : TA} (ha : EvA K tt ρ ds) (hr : CF K r ds es) : EvF K (tCB r tt) ρ es := fun B B0 σ H H0 rp Q q =>
  ha B B0 σ H H0 rp _ fun vs H1 H01 w1 k1 => hr H1 H01 vs w1.sub k1 Q fun a xs H3 H03 w3 n e e0 k3 => q a xs H3 H03 (w1.trans w3) (w1.e.free n) e e0 k3
theorem ev_tup {tt : TA} (ha : EvC K tt ρ ds) (hl : ds.length ≤ sizeLine := by exact sz_le (by simp)) : EvD K (tTup tt) ρ (.tuple ds) := fun B B0 σ H H0 rp Q q =>
  ha B B0 σ H H0 rp _ fun vs H1 H01 w1 k1 => ⟨by rw [dpa_len k1]; exact hl, fun p np => q _ _ (upd H01 p (.tup vs)) (w1.trans (.clean w1.sub np)) (.tup (.of upd_same) (dpa_mono (same_new (sub_none w1.sub np)) k1))⟩
theorem ev_lst {tt : TA} (ha : EvC K tt ρ ds) (hl : ds.length ≤ sizeLine := by exact sz_le (by simp)) : EvF K (tLst tt) ρ ds := fun B B0 σ H H0 rp Q q =>
  ha B B0 σ H H0 rp _ fun vs H1 H01 w1 k1 => ⟨by rw [dpa_len k1]; exact hl, fun p np => q p vs _ H01 (w1.trans (.dirty w1.sub np)) (w1.e.free np) upd_same (sub_none w1.sub np) k1⟩

/-! ints -/
theorem rd_I {C : Int → Int → Prop} {g : Int → Int → Int} {i j : Int} (hc : C i j) : RD K (rI C fun i j => .int (g i j)) (.int i) (.int j) (.int (g i j)) := fun H H0 v u s k1 k2 Q q => by
  rw [k1.int, k2.int]
  exact ⟨i, j, rfl, rfl, hc, q _ H H0 (.refl s) (.int _)⟩
theorem rd_I0 {g : Int → Int → Int} {i j : Int} : RD K (rI0 fun i j => .int (g i j)) (.int i) (.int j) (.int (g i j)) := fun H H0 v u s k1 k2 Q q => by
  rw [k1.int, k2.int]
  exact ⟨i, j, rfl, rfl, q _ H H0 (.refl s) (.int _)⟩
theorem rd_B0 {g : Int → Int → Bool} {i j : Int} : RD K (rI0 fun i j => .bl (g i j)) (.int i) (.int j) (.bool (g i j)) := fun H H0 v u s k1 k2 Q q => by
  rw [k1.int, k2.int]
  exact ⟨i, j, rfl, rfl, q _ H H0 (.refl s) (.bl _)⟩
theorem rd_or1 {r r' : R2} (h : RD K r x y z) : RD K (fun x y H Q => r x y H Q ∨ r' x y H Q) x y z := fun H H0 v u s k1 k2 Q q => .inl (h H H0 v u s k1 k2 Q q)
theorem rd_or2 {r r' : R2} (h : RD K r' x y z) : RD K (fun x y H Q => r x y H Q ∨ r' x y H Q) x y z := fun H H0 v u s k1 k2 Q q => .inr (h H H0 v u s k1 k2 Q q)
theorem rf_or1 {r r' : R2} (h : RF K r x y ds) : RF K (fun x y H Q => r x y H Q ∨ r' x y H Q) x y ds := fun H H0 v u s k1 k2 Q q => .inl (h H H0 v u s k1 k2 Q q)
theorem rf_or2 {r r' : R2} (h : RF K r' x y ds) : RF K (fun x y H Q => r x y H Q ∨ r' x y H Q) x y ds := fun H H0 v u s k1 k2 Q q => .inr (h H H0 v u s k1 k2 Q q)
theorem ev_neg {i : Int} (h : EvQ K ta ρ (.int i)) : EvD K (tUn (rU fun i => .int (-i)) ta) ρ (.int (-i)) := fun B B0 σ H H0 rp Q q =>
  h B B0 σ H H0 rp _ fun v H1 H01 w1 k1 => by rw [k1.int]; exact ⟨i, rfl, q _ H1 H01 w1 (.int _)⟩
/-! texts -/
theorem rd_addS {a b : Str} (hl : a.length + b.length ≤ sizeLine) : RD K (fun x y H Q => ∃ i j, x = .str i ∧ y = .str j ∧ i.length + j.length ≤ sizeLine ∧ Q (.str (i ++ j)) H) (.str a) (.str b) (.str (a ++ b)) := fun H H0 v u s k1 k2 Q q => by
  rw [k1.str, k2.str]
  exact ⟨a, b, rfl, rfl, hl, q _ H H0 (.refl s) (.str _)⟩
/-! == of any data -/
theorem rd_eq {x y : D} (h1 : SeqAt.shaped x = true) (h2 : SeqAt.shaped y = true) : RD K (rEqD K) x y (.bool (PyData.eqv x y)) := fun H H0 v u s k1 k2 Q q =>
  ⟨x, y, k1.dp s, k2.dp s, h1, h2, q _ H H0 (.refl s) (.bl _)⟩
theorem rd_ne {x y : D} (h1 : SeqAt.shaped x = true) (h2 : SeqAt.shaped y = true) : RD K (rNeD K) x y (.bool (!PyData.eqv x y)) := fun H H0 v u s k1 k2 Q q =>
  ⟨x, y, k1.dp s, k2.dp s, h1, h2, q _ H H0 (.refl s) (.bl _)⟩
theorem rd_eqI {x y : Int} : RD K rEq (.int x) (.int y) (.bool (decide (x = y))) := fun H H0 v u s k1 k2 Q q => by
  rw [k1.int, k2.int]
  exact ⟨rfl, by rw [dec_int, Bool.beq_eq_decide_eq]; exact q _ H H0 (.refl s) (.bl _)⟩
theorem rd_neI {x y : Int} : RD K rNe (.int x) (.int y) (.bool (!decide (x = y))) := fun H H0 v u s k1 k2 Q q => by
  rw [k1.int, k2.int]
  exact ⟨rfl, by rw [dec_int, Bool.beq_eq_decide_eq]; exact q _ H H0 (.refl s) (.bl _)⟩
theorem rd_eqS {x y : Str} : RD K rEq (.str x) (.str y) (.bool (decide (x = y))) := fun H H0 v u s k1 k2 Q q => by
  rw [k1.str, k2.str]
  exact ⟨rfl, by rw [dec_str, Bool.beq_eq_decide_eq]; exact q _ H H0 (.refl s) (.bl _)⟩
theorem rd_neS {x y : Str} : RD K rNe (.str x) (.str y) (.bool (!decide (x = y))) := fun H H0 v u s k1 k2 Q q => by
  rw [k1.str, k2.str]
  exact ⟨rfl, by rw [dec_str, Bool.beq_eq_decide_eq]; exact q _ H H0 (.refl s) (.bl _)⟩
def isNoneD : D → Bool
  | .none => true
  | _ => false
theorem rd_isN {x : D} : RD K (fun x y H Q => y = .non ∧ Q (.bl (decide (x = .non))) H) x .none (.bool (isNoneD x)) := fun H H0 v u s k1 k2 Q q => by
  refine ⟨k2.non, ?_⟩
  have e : decide (v = .non) = (isNoneD x) := by
    have k := k1.dp s
    cases k <;> simp [isNoneD]
  rw [e]
  exact q _ H H0 (.refl s) (.bl _)
theorem rd_notN {x : D} : RD K (fun x y H Q => y = .non ∧ Q (.bl (!decide (x = .non))) H) x .none (.bool (!isNoneD x)) := fun H H0 v u s k1 k2 Q q => by
  refine ⟨k2.non, ?_⟩
  have e : decide (v = .non) = (isNoneD x) := by
    have k := k1.dp s
    cases k <;> simp [isNoneD]
  rw [e]
  exact q _ H H0 (.refl s) (.bl _)
/-! tuples of ints in order -/
theorem sqT_ints {H H0 : Hp} {v : V} {ns : List Int} (s : Same H0 H) (k : Dq K H H0 v (.tuple (ns.map .int))) : ∃ a, v = .ref a ∧ SqT K H a (ns.map V.int) := by
  obtain ⟨a, xs, e, h1, h2⟩ := k.tup
  rw [dpa_ints h2] at h1
  exact ⟨a, e, sqT_mono s h1⟩
/-! an item -/
theorem atI_map {α β : Type} {f : α → β} {xs : List α} {i : Int} {v : α} (h : atI xs i = some v) : atI (xs.map f) i = some (f v) := by
  unfold atI at h ⊢
  rw [List.length_map]
  cases e : ixN xs.length i with
  | none => rw [e] at h; cases h
  | some j =>
    rw [e] at h
    simp only [Option.bind_some] at h ⊢
    rw [List.getElem?_map, h]; rfl
theorem atI_dp {H : Hp} {vs : List V} {ds : List D} {i : Int} {d : D} (h : DpAll K H vs ds) (e : atI ds i = some d) : ∃ v, atI vs i = some v ∧ Dp K H v d := by
  unfold atI at e ⊢
  rw [dpa_len h]
  cases q : ixN ds.length i with
  | none => rw [q] at e; cases e
  | some j =>
    rw [q] at e
    exact dpa_get h e
theorem rd_ixT {ds : List D} {i : Int} {d : D} (e : atI ds i = some d) : RD K (rIx K) (.tuple ds) (.int i) d := fun H H0 v u s k1 k2 Q q => by
  obtain ⟨a, xs, rfl, h1, h2⟩ := k1.tup
  rw [k2.int]
  obtain ⟨w, e1, e2⟩ := atI_dp h2 e
  exact .inr (.inl ⟨a, xs, i, w, rfl, rfl, sqT_mono s h1, e1, q _ H H0 (.refl s) e2⟩)
theorem rd_ixL {ds : List D} {i : Int} {d : D} (e : atI ds i = some d) : RD K (rIx K) (.list ds) (.int i) d := fun H H0 v u s k1 k2 Q q => by
  obtain ⟨a, xs, rfl, h1, h2⟩ := k1.lst s
  rw [k2.int]
  obtain ⟨w, e1, e2⟩ := atI_dp h2 e
  exact .inl ⟨a, xs, i, w, rfl, rfl, h1, e1, q _ H H0 (.refl s) e2⟩
theorem rd_ixS {z : Str} {i : Int} {c : Nat} (hl : z.length ≤ sizeLine) (e : atI z.cps.toList i = some c) : RD K (rIx K) (.str z) (.int i) (.str ⟨#[c]⟩) := fun H H0 v u s k1 k2 Q q => by
  rw [k1.str, k2.int]
  exact .inr (.inr ⟨z, i, c, rfl, rfl, hl, e, q _ H H0 (.refl s) (.str _)⟩)
/-! in, not in -/
def flatD : D → Bool
  | .none => true
  | .bool _ => true
  | .int _ => true
  | .str _ => true
  | _ => false
def vD : D → V
  | .none => .non
  | .bool b => .bl b
  | .int i => .int i
  | .str s => .str s
  | _ => .non
theorem dp_flat {H : Hp} {v : V} {d : D} (h : Dp K H v d) (f : flatD d = true) : v = vD d ∧ flatV v = true := by
  cases h <;> first | exact ⟨rfl, rfl⟩ | cases f
theorem dpa_flat {H : Hp} : ∀ {vs : List V} {ds : List D}, DpAll K H vs ds → ds.all flatD = true → vs = ds.map vD ∧ vs.all flatV = true
  | _, _, .nil, _ => ⟨rfl, rfl⟩
  | _, _, .cons a b, f => by
    rw [List.all_cons, Bool.and_eq_true] at f
    obtain ⟨e1, f1⟩ := dp_flat a f.1
    obtain ⟨e2, f2⟩ := dpa_flat b f.2
    exact ⟨by rw [List.map_cons, e1, e2], by rw [List.all_cons, f1, f2]; rfl⟩
def inD (x : D) (ds : List D) : Bool := ds.any fun y => eqV (vD y) (vD x)
theorem inV_map (x : D) (ds : List D) : inV (vD x) (ds.map vD) = inD x ds := by
  unfold inV inD
  rw [List.any_map]; rfl
theorem rd_inL {x : D} {ds : List D} (neg : Bool) (fx : flatD x = true) (fs : ds.all flatD = true) : RD K (rIn K neg) x (.list ds) (.bool (if neg then !inD x ds else inD x ds)) := fun H H0 v u s k1 k2 Q q => by
  obtain ⟨a, xs, rfl, h1, h2⟩ := k2.lst s
  have k := k1.dp s
  obtain ⟨rfl, f1⟩ := dp_flat k fx
  obtain ⟨rfl, f2⟩ := dpa_flat h2 fs
  refine ⟨a, _, rfl, .inl h1, f1, f2, ?_⟩
  rw [inV_map]
  exact q _ H H0 (.refl s) (.bl _)
theorem rd_inT {x : D} {ds : List D} (neg : Bool) (fx : flatD x = true) (fs : ds.all flatD = true) : RD K (rIn K neg) x (.tuple ds) (.bool (if neg then !inD x ds else inD x ds)) := fun H H0 v u s k1 k2 Q q => by
  obtain ⟨a, xs, rfl, h1, h2⟩ := k2.tup
  have k := k1.dp s
  obtain ⟨rfl, f1⟩ := dp_flat k fx
  obtain ⟨rfl, f2⟩ := dpa_flat h2 fs
  refine ⟨a, _, rfl, .inr (sqT_mono s h1), f1, f2, ?_⟩
  rw [inV_map]
  exact q _ H H0 (.refl s) (.bl _)
/-! slices -/
def cutD (ds : List D) (lo hi : Option Int) : List D := (ds.drop (HT.sIx ds.length 0 lo)).take (HT.sIx ds.length ds.length hi - HT.sIx ds.length 0 lo)
theorem eo_none : EvO K tNoPart ρ none := fun B B0 σ H H0 r Q q => q H H0 (.refl r.sub)
theorem eo_some {i : Int} (h : EvQ K ta ρ (.int i)) : EvO K (tPart ta) ρ (some i) := fun B B0 σ H H0 r Q q =>
  h B B0 σ H H0 r _ fun v H1 H01 w k => ⟨i, k.int, q H1 H01 w⟩
theorem ev_slS {z : Str} {tl th : TO} {lo hi : Option Int} (h : EvQ K ta ρ (.str z)) (h1 : EvO K tl ρ lo) (h2 : EvO K th ρ hi) (hl : z.length ≤ sizeLine) : EvD K (tSl rSlS ta tl th) ρ (.str (cutS z lo hi)) := fun B B0 σ H H0 r Q q =>
  h B B0 σ H H0 r _ fun v H1 H01 w1 k1 => h1 B B0 σ H1 H01 (r.step w1) _ fun H2 H02 w2 => h2 B B0 σ H2 H02 ((r.step w1).step w2) _ fun H3 H03 w3 => by
    rw [k1.str]
    exact ⟨z, rfl, hl, q _ H3 H03 ((w1.trans w2).trans w3) (.str _)⟩
theorem ev_slL {tl th : TO} {lo hi : Option Int} (h : EvQ K ta ρ (.list ds)) (h1 : EvO K tl ρ lo) (h2 : EvO K th ρ hi) : EvF K (tSl (rSlL K) ta tl th) ρ (cutD ds lo hi) := fun B B0 σ H H0 r Q q =>
  h B B0 σ H H0 r _ fun v H1 H01 w1 k1 => h1 B B0 σ H1 H01 (r.step w1) _ fun H2 H02 w2 => h2 B B0 σ H2 H02 ((r.step w1).step w2) _ fun H3 H03 w3 => by
    obtain ⟨a, xs, rfl, g1, g2⟩ := ((k1.mono w2).mono w3).lst w3.sub
    refine ⟨a, xs, rfl, g1, fun p np => q p _ _ H03 (((w1.trans w2).trans w3).trans (.dirty w3.sub np)) (((w1.trans w2).trans w3).e.free np) upd_same (sub_none w3.sub np) ?_⟩
    unfold cutV cutD
    rw [dpa_len g2]
    exact dpa_take _ (dpa_drop _ g2)
/-! calls of built-ins -/
theorem dq1 {H H0 : Hp} {vs : List V} {x : D} (h : DqAll K H H0 vs [x]) : ∃ v, vs = [v] ∧ Dq K H H0 v x := by
  cases h with
  | cons a b => cases b; exact ⟨_, rfl, a⟩
theorem dq2 {H H0 : Hp} {vs : List V} {x y : D} (h : DqAll K H H0 vs [x, y]) : ∃ v u, vs = [v, u] ∧ Dq K H H0 v x ∧ Dq K H H0 u y := by
  cases h with
  | cons a b =>
    cases b with
    | cons c e => cases e; exact ⟨_, _, rfl, a, c⟩
theorem cd_int {i : Int} : CD K (fun xs H Q => (∃ i, xs = [.int i] ∧ Q (.int i) H) ∨ ∃ k, xs = [.bl k] ∧ Q (.int (if k then 1 else 0)) H) [.int i] (.int i) := fun H H0 vs s k Q q => by
  obtain ⟨v, rfl, kk⟩ := dq1 k
  rw [kk.int]
  exact .inl ⟨i, rfl, q _ H H0 (.refl s) (.int _)⟩
theorem cd_str {i : Int} (h : i.natAbs.log2 < 1920) : CD K (fun xs H Q => ∃ i, xs = [.int i] ∧ i.natAbs.log2 < 1920 ∧ Q (.str (toString i)) H) [.int i] (.str (toString i)) := fun H H0 vs s k Q q => by
  obtain ⟨v, rfl, kk⟩ := dq1 k
  rw [kk.int]
  exact ⟨i, rfl, h, q _ H H0 (.refl s) (.str _)⟩
def rLen (K : PySem.W.Frag) : List V → Hp → VK → Prop := fun xs H Q => (∃ p ys, xs = [.ref p] ∧ (SqL K H p ys ∨ SqT K H p ys) ∧ Q (.int ys.length) H) ∨ ∃ z, xs = [.str z] ∧ z.length ≤ sizeLine ∧ Q (.int z.length) H
theorem call_lenA {X : Cx} : CallR X (.builtin "len") (rLen X.K) := call_len_seq.or call_len_str
theorem cd_lenL {ds : List D} : CD K (rLen K) [.list ds] (.int ds.length) := fun H H0 vs s k Q q => by
  obtain ⟨v, rfl, kk⟩ := dq1 k
  obtain ⟨a, xs, rfl, h1, h2⟩ := kk.lst s
  refine .inl ⟨a, xs, rfl, .inl h1, ?_⟩
  rw [dpa_len h2]
  exact q _ H H0 (.refl s) (.int _)
theorem cd_lenT {ds : List D} : CD K (rLen K) [.tuple ds] (.int ds.length) := fun H H0 vs s k Q q => by
  obtain ⟨v, rfl, kk⟩ := dq1 k
  obtain ⟨a, xs, rfl, h1, h2⟩ := kk.tup
  refine .inl ⟨a, xs, rfl, .inr (sqT_mono s h1), ?_⟩
  rw [dpa_len h2]
  exact q _ H H0 (.refl s) (.int _)
theorem cd_lenS {z : Str} (hl : z.length ≤ sizeLine) : CD K (rLen K) [.str z] (.int z.length) := fun H H0 vs s k Q q => by
  obtain ⟨v, rfl, kk⟩ := dq1 k
  rw [kk.str]
  exact .inr ⟨z, rfl, hl, q _ H H0 (.refl s) (.int _)⟩
def rTuple (K : PySem.W.Frag) : List V → Hp → VK → Prop := fun xs H Q => ∃ p ys, xs = [.ref p] ∧ ((SqL K H p ys ∧ ∀ l, H l = none → Q (.ref l) (upd H l (.tup ys))) ∨ (SqT K H p ys ∧ Q (.ref p) H))
theorem call_tupleA {X : Cx} : CallR X (.type "tuple") (rTuple X.K) := call_tuple_of
theorem cd_tupL {ds : List D} : CD K (rTuple K) [.list ds] (.tuple ds) := fun H H0 vs s k Q q => by
  obtain ⟨v, rfl, kk⟩ := dq1 k
  obtain ⟨a, xs, rfl, h1, h2⟩ := kk.lst s
  exact ⟨a, xs, rfl, .inl ⟨h1, fun l nl => q _ _ (upd H0 l (.tup xs)) (.clean s nl) (.tup (.of upd_same) (dpa_mono (same_new (sub_none s nl)) h2))⟩⟩
theorem cd_tupT {ds : List D} : CD K (rTuple K) [.tuple ds] (.tuple ds) := fun H H0 vs s k Q q => by
  obtain ⟨v, rfl, kk⟩ := dq1 k
  obtain ⟨a, xs, rfl, h1, h2⟩ := kk.tup
  exact ⟨a, xs, rfl, .inr ⟨sqT_mono s h1, q _ H H0 (.refl s) (.tup h1 h2)⟩⟩
def rList (K : PySem.W.Frag) : List V → Hp → VK → Prop := fun xs H Q => ∃ p ys, xs = [.ref p] ∧ (SqL K H p ys ∨ SqT K H p ys) ∧ ∀ l, H l = none → Q (.ref l) (upd H l (.lst ys))
theorem call_listA {X : Cx} : CallR X (.type "list") (rList X.K) := call_list_of
theorem cf_listT {ds : List D} : CF K (rList K) [.tuple ds] ds := fun H H0 vs s k Q q => by
  obtain ⟨v, rfl, kk⟩ := dq1 k
  obtain ⟨a, xs, rfl, h1, h2⟩ := kk.tup
  exact ⟨a, xs, rfl, .inr (sqT_mono s h1), fun l nl => q l xs _ H0 (.dirty s nl) nl upd_same (sub_none s nl) h2⟩
theorem cf_listL {ds : List D} : CF K (rList K) [.list ds] ds := fun H H0 vs s k Q q => by
  obtain ⟨v, rfl, kk⟩ := dq1 k
  obtain ⟨a, xs, rfl, h1, h2⟩ := kk.lst s
  exact ⟨a, xs, rfl, .inl h1, fun l nl => q l xs _ H0 (.dirty s nl) nl upd_same (sub_none s nl) h2⟩

/-! ### tests -/
theorem et_test {b : Bool} (h : EvQ K ta ρ (.bool b)) : EvT K (tTest ta) ρ b := fun B B0 σ H H0 r Q q => h B B0 σ H H0 r _ fun v H1 H01 w k => ⟨b, k.bl, q H1 H01 w⟩
theorem et_B {b : Bool} (h : EvQ K ta ρ (.bool b)) : EvT K (tB ta) ρ b := fun B B0 σ H H0 r Q q => h B B0 σ H H0 r _ fun v H1 H01 w k => ⟨b, k.bl, q H1 H01 w⟩
theorem et_not {t : TT} {b : Bool} (h : EvT K t ρ b) : EvT K (tNot t) ρ (!b) := fun B B0 σ H H0 r Q q => h B B0 σ H H0 r _ fun H1 H01 w => q H1 H01 w
theorem et_and {t u : TT} {a b : Bool} (h1 : EvT K t ρ a) (h2 : a = true → EvT K u ρ b) : EvT K (tAnd t u) ρ (a && b) := fun B B0 σ H H0 r Q q => h1 B B0 σ H H0 r _ fun H1 H01 w => by
  cases a with
  | true =>
    rw [if_pos rfl]
    exact h2 rfl B B0 σ H1 H01 (r.step w) Q fun H2 H02 w2 => q H2 H02 (w.trans w2)
  | false =>
    rw [if_neg Bool.false_ne_true]
    exact q H1 H01 w
theorem et_or {t u : TT} {a b : Bool} (h1 : EvT K t ρ a) (h2 : a = false → EvT K u ρ b) : EvT K (tOr t u) ρ (a || b) := fun B B0 σ H H0 r Q q => h1 B B0 σ H H0 r _ fun H1 H01 w => by
  cases a with
  | true =>
    rw [if_pos rfl]
    exact q H1 H01 w
  | false =>
    rw [if_neg Bool.false_ne_true]
    exact h2 rfl B B0 σ H1 H01 (r.step w) Q fun H2 H02 w2 => q H2 H02 (w.trans w2)
theorem EvT.to {t : TT} {a b : Bool} (h : EvT K t ρ a) (e : a = b) : EvT K t ρ b := e ▸ h
theorem et_yes : EvT K tYes ρ true := fun B B0 σ H H0 r Q q => q H H0 (.refl r.sub)
theorem ev_if {t : TT} {b : Bool} (h : EvT K t ρ b) (h1 : b = true → EvD K ta ρ d) (h2 : b = false → EvD K tb ρ d) : EvD K (tIf t ta tb) ρ d := fun B B0 σ H H0 r Q q => h B B0 σ H H0 r _ fun H1 H01 w => by
  cases b with
  | true =>
    rw [if_pos rfl]
    exact h1 rfl B B0 σ H1 H01 (r.step w) Q fun v H2 H02 w2 k => q v H2 H02 (w.trans w2) k
  | false =>
    rw [if_neg Bool.false_ne_true]
    exact h2 rfl B B0 σ H1 H01 (r.step w) Q fun v H2 H02 w2 k => q v H2 H02 (w.trans w2) k
/-- a op1 b op2 c -/
theorem ev_chain {r r' : R2} {k1 k2 : Bool} (ha : EvQ K ta ρ x) (hb : EvQ K tb ρ y) (hr : RD K r x y (.bool k1)) (hc : k1 = true → EvQ K tc ρ z) (hr' : k1 = true → RD K r' y z (.bool k2)) : EvD K (tChain r r' ta tb tc) ρ (.bool (k1 && k2)) := fun B B0 σ H H0 rp Q q =>
  ha B B0 σ H H0 rp _ fun v H1 H01 w1 k1' => hb B B0 σ H1 H01 (rp.step w1) _ fun u H2 H02 w2 k2' => hr H2 H02 v u w2.sub (k1'.mono w2) k2' _ fun v' H3 H03 w3 k3 => by
    cases k3
    refine ⟨k1, rfl, ?_⟩
    cases k1 with
    | false =>
      rw [if_neg Bool.false_ne_true]
      exact q _ H3 H03 ((w1.trans w2).trans w3) (.bl _)
    | true =>
      rw [if_pos rfl]
      exact hc rfl B B0 σ H3 H03 (((rp.step w1).step w2).step w3) _ fun w' H4 H04 w4 k4 => hr' rfl H4 H04 u w' w4.sub ((k2'.mono w3).mono w4) k4 Q fun v2 H5 H05 w5 k5 =>
        q v2 H5 H05 ((((w1.trans w2).trans w3).trans w4).trans w5) k5
end
end EL

namespace EL
open PySem PySem.Spec PyProof.Rows L2
variable {K : PySem.W.Frag}

/-! ### what a statement leads to -/
structure Post where
  nx : List Sl → Prop
  rt : D → Prop
  bk : List Sl → Prop := fun _ => False
  ct : List Sl → Prop := fun _ => False
structure Meets (K : PySem.W.Frag) (B B0 : Hp) (P : Post) (E : Ends) : Prop where
  nx : ∀ (ρ : List Sl) (σ : L2.St) (H H0 : Hp), P.nx ρ → Rp K B B0 ρ σ H H0 → E.nx σ H
  rt : ∀ (d : D) (v : V) (H H0 : Hp), P.rt d → Wd B B0 H H0 → Dp K H0 v d → E.rt v H
  bk : ∀ (ρ : List Sl) (σ : L2.St) (H H0 : Hp), P.bk ρ → Rp K B B0 ρ σ H H0 → E.bk σ H
  ct : ∀ (ρ : List Sl) (σ : L2.St) (H H0 : Hp), P.ct ρ → Rp K B B0 ρ σ H H0 → E.ct σ H
def Wp (K : PySem.W.Frag) (t : TS) (ρ : List Sl) (P : Post) : Prop := ∀ (B B0 : Hp) (σ : L2.St) (H H0 : Hp), Rp K B B0 ρ σ H H0 → ∀ E : Ends, Meets K B B0 P E → t E σ H
section
variable {ρ ρ' : List Sl} {P : Post} {t u : TS} {te ta : TE} {d x y z : D} {ds es : List D} {i : Nat}
theorem w_nxt (h : P.nx ρ) : Wp K tNext ρ P := fun B B0 σ H H0 r E m => m.nx ρ σ H H0 h r
theorem w_break (h : P.bk ρ) : Wp K tBreak ρ P := fun B B0 σ H H0 r E m => m.bk ρ σ H H0 h r
theorem w_cont (h : P.ct ρ) : Wp K tCont ρ P := fun B B0 σ H H0 r E m => m.ct ρ σ H H0 h r
theorem w_seq (h : Wp K t ρ { P with nx := fun ρ' => Wp K u ρ' P }) : Wp K (tSeq t u) ρ P := fun B B0 σ H H0 r E m =>
  h B B0 σ H H0 r { E with nx := u E } ⟨fun ρ' σ' H' H0' k r' => k B B0 σ' H' H0' r' E m, m.rt, m.bk, m.ct⟩
theorem w_mono {P' : Post} (h : Wp K t ρ P') (h1 : ∀ ρ, P'.nx ρ → P.nx ρ) (h2 : ∀ d, P'.rt d → P.rt d) (h3 : ∀ ρ, P'.bk ρ → P.bk ρ) (h4 : ∀ ρ, P'.ct ρ → P.ct ρ) : Wp K t ρ P := fun B B0 σ H H0 r E m =>
  h B B0 σ H H0 r E ⟨fun ρ' σ' H' H0' k => m.nx ρ' σ' H' H0' (h1 _ k), fun d v H' H0' k => m.rt d v H' H0' (h2 _ k), fun ρ' σ' H' H0' k => m.bk ρ' σ' H' H0' (h3 _ k), fun ρ' σ' H' H0' k => m.ct ρ' σ' H' H0' (h4 _ k)⟩
/-- name = data -/
theorem w_set (h : EvD K te ρ d) (k : P.nx (ρ.set i (.dat d))) : Wp K (tAsg te (gName i)) ρ P := fun B B0 σ H H0 r E m =>
  h B B0 σ H H0 r _ fun v H' H0' w kd => m.nx _ _ H' H0' k ((r.step w).setD kd i)
/-- name = a list of one's own -/
theorem w_own (h : EvF K te ρ ds) (k : P.nx (ρ.set i (.own ds))) : Wp K (tAsg te (gName i)) ρ P := fun B B0 σ H H0 r E m =>
  h B B0 σ H H0 r _ fun a xs H' H0' w n e e0 kd => m.nx _ _ H' H0' k (r.setO w n e e0 kd i)
theorem w_ret (h : EvD K te ρ d) (k : P.rt d) : Wp K (tRet te) ρ P := fun B B0 σ H H0 r E m =>
  h B B0 σ H H0 r _ fun v H' H0' w kd => m.rt d v H' H0' k (r.wd.trans w) kd
theorem w_retN (k : P.rt .none) : Wp K tRetN ρ P := fun B B0 σ H H0 r E m => m.rt .none .non H H0 k r.wd .non
/-- return of one's own list -/
theorem w_retO (h : ρ[i]? = some (Sl.own ds)) (k : P.rt (.list ds)) : Wp K (tRet (tVar i)) ρ P := fun B B0 σ H H0 r E m => by
  obtain ⟨a, xs, e1, e2, e3, e4, e5⟩ := r.own i ds h
  exact ⟨_, e1, m.rt _ _ H (upd H0 a (.lst xs)) k (r.wd.adopt e2 e4 e3) (.lst (.of upd_same) (dpa_mono (same_new e3) e5))⟩
theorem w_if {c : TT} {b : Bool} (h : EvT K c ρ b) (h1 : b = true → Wp K t ρ P) (h2 : b = false → Wp K u ρ P) : Wp K (tIfS c t u) ρ P := fun B B0 σ H H0 r E m =>
  h B B0 σ H H0 r _ fun H' H0' w => by
    cases b with
    | true => rw [if_pos rfl]; exact h1 rfl B B0 σ H' H0' (r.step w) E m
    | false => rw [if_neg Bool.false_ne_true]; exact h2 rfl B B0 σ H' H0' (r.step w) E m
theorem w_drop (h : EvQ K te ρ d) (k : P.nx ρ) : Wp K (tDrop te) ρ P := fun B B0 σ H H0 r E m =>
  h B B0 σ H H0 r _ fun v H' H0' w kd => m.nx ρ σ H' H0' k (r.step w)
/-- name op= data -/
theorem w_aug {ti : TIp} (h : ρ[i]? = some (Sl.dat x)) (he : EvQ K te ρ y) (hr : RD K ti x y z) (k : P.nx (ρ.set i (.dat z))) : Wp K (tAug i te ti) ρ P := fun B B0 σ H H0 r E m => by
  obtain ⟨v, e1, e2⟩ := r.dat i x h
  exact ⟨v, e1, he B B0 σ H H0 r _ fun u H1 H01 w1 k1 => hr H1 H01 v u w1.sub (.inl (dp_mono w1.e0 e2)) k1 _ fun v' H2 H02 w2 k2 => m.nx _ _ H2 H02 k (((r.step w1).step w2).setD k2 i)⟩
/-- one's own list.append(data) -/
theorem w_append (h : ρ[i]? = some (Sl.own ds)) (he : EvD K te ρ d) (hl : ds.length < sizeLine) (k : P.nx (ρ.set i (.own (ds ++ [d])))) : Wp K (tDrop (tBM K "list" rAppend (tVar i) (tCons te tNil))) ρ P := fun B B0 σ H H0 r E m => by
  obtain ⟨a, xs, e1, e2, e3, e4, e5⟩ := r.own i ds h
  refine ⟨_, e1, .inl ⟨rfl, _, .of e4⟩, he B B0 σ H H0 r _ fun v H1 H01 w1 k1 => ?_⟩
  have r1 := r.step w1
  obtain ⟨a', xs', f1, f2, f3, f4, f5⟩ := r1.own i ds h
  rw [e1] at f1; cases f1
  refine ⟨a, xs', v, rfl, rfl, f4, by rw [dpa_len f5]; exact hl, ?_⟩
  exact m.nx _ _ _ H01 k (r1.write h e1 (dpa_app f5 (.cons k1 .nil)))
/-- one's own list[j] = data -/
theorem w_freeze (h : ρ[i]? = some (Sl.own ds)) (k : Wp K t (ρ.set i (.dat (.list ds))) P) : Wp K t ρ P := fun B B0 σ H H0 r E m => by
  obtain ⟨H0', r'⟩ := r.freeze h
  exact k B B0 σ H H0' r' E m
theorem w_forget (i : Nat) (k : Wp K t (ρ.set i .no) P) : Wp K t ρ P := fun B B0 σ H H0 r E m => k B B0 σ H H0 (r.forget i) E m

/-! ### targets -/
def Bd (K : PySem.W.Frag) (g : TG) (is : List Nat) (d : D) (ρ ρ2 : List Sl) : Prop := ∀ (B B0 : Hp) (σ : L2.St) (H H0 : Hp) (v : V), Rp K B B0 ρ σ H H0 → Dp K H0 v d → ∀ Q : L2.St → Hp → Prop,
  (∀ σ2, Rp K B B0 ρ2 σ2 H H0 → (∀ vs : List Nat, (∀ i ∈ is, i ∈ vs) → wipe σ2 vs = wipe σ vs) → Q σ2 H) → g v σ H Q
def Bds (K : PySem.W.Frag) (g : TGs) (is : List Nat) (ds : List D) (ρ ρ2 : List Sl) : Prop := ∀ (B B0 : Hp) (σ : L2.St) (H H0 : Hp) (vs : List V), Rp K B B0 ρ σ H H0 → DpAll K H0 vs ds → ∀ Q : L2.St → Hp → Prop,
  (∀ σ2, Rp K B B0 ρ2 σ2 H H0 → (∀ vs : List Nat, (∀ i ∈ is, i ∈ vs) → wipe σ2 vs = wipe σ vs) → Q σ2 H) → g vs σ H Q
theorem set_no {α : Type} (l : List α) (i : Nat) (x y : α) : (l.set i x).set i y = l.set i y := List.set_set ..
theorem wipe_set (σ : L2.St) (i : Nat) (x : Option V) : ∀ vs : List Nat, i ∈ vs → wipe (σ.set i x) vs = wipe σ vs
  | [], h => by cases h
  | v :: vs, h => by
    show (wipe (σ.set i x) vs).set v none = (wipe σ vs).set v none
    by_cases hv : i ∈ vs
    · rw [wipe_set σ i x vs hv]
    · have e : i = v := by
        rcases List.mem_cons.mp h with e | e
        · exact e
        · exact absurd e hv
      subst e
      have q : ∀ (us : List Nat) (τ : L2.St), i ∉ us → wipe (τ.set i x) us = (wipe τ us).set i x := by
        intro us
        induction us with
        | nil => intro τ _; rfl
        | cons w us ih =>
          intro τ hn
          show (wipe (τ.set i x) us).set w none = ((wipe τ us).set w none).set i x
          rw [ih τ (fun z => hn (List.mem_cons_of_mem _ z)), List.set_comm _ _ (fun z : i = w => hn (by rw [z]; exact List.mem_cons_self))]
      rw [q vs σ hv, List.set_set]
theorem bd_name : Bd K (gName i) [i] d ρ (ρ.set i (.dat d)) := fun B B0 σ H H0 v r h Q q => q _ (r.setD h i) fun vs hv => wipe_set σ i _ vs (hv i List.mem_cons_self)
theorem bds_nil : Bds K gNil [] [] ρ ρ := fun B B0 σ H H0 vs r h Q q => by
  cases h
  exact ⟨rfl, q σ r fun _ _ => rfl⟩
theorem bds_cons {g : TG} {gs : TGs} {is js : List Nat} {ρ1 ρ2 : List Sl} (h1 : Bd K g is d ρ ρ1) (h2 : Bds K gs js ds ρ1 ρ2) : Bds K (gCons g gs) (is ++ js) (d :: ds) ρ ρ2 := fun B B0 σ H H0 vs r h Q q => by
  cases h with
  | cons a b =>
    refine ⟨_, _, rfl, h1 B B0 σ H H0 _ r a _ fun σ1 r1 e1 => h2 B B0 σ1 H H0 _ r1 b _ fun σ2 r2 e2 => q σ2 r2 fun us hu => ?_⟩
    rw [e2 us (fun i hi => hu i (List.mem_append_right _ hi)), e1 us (fun i hi => hu i (List.mem_append_left _ hi))]
theorem bd_tup {gs : TGs} {is : List Nat} {n : Nat} {ρ2 : List Sl} (h : Bds K gs is ds ρ ρ2) (hn : ds.length = n := by rfl) : Bd K (gTup K n gs) is (.tuple ds) ρ ρ2 := fun B B0 σ H H0 v r k Q q => by
  cases k with
  | tup s a => exact ⟨_, _, rfl, sqT_mono r.sub s, by rw [dpa_len a]; exact hn, h B B0 σ H H0 _ r a Q q⟩
/-- target = data -/
theorem w_asg {g : TG} {is : List Nat} {ρ2 : List Sl} (h : EvD K te ρ d) (hb : Bd K g is d ρ ρ2) (k : P.nx ρ2) : Wp K (tAsg te g) ρ P := fun B B0 σ H H0 r E m =>
  h B B0 σ H H0 r _ fun v H' H0' w kd => hb B B0 σ H' H0' v (r.step w) kd _ fun σ2 r2 _ => m.nx ρ2 σ2 H' H0' k r2

/-! ### what is walked -/
/-- from the clean heap H0 on: J yields ds, one after another -/
def ItOk (K : PySem.W.Frag) (J : It) (H0 : Hp) (ds : List D) : Prop := ∀ (i : Nat) (H' H0' : Hp), Same H0 H0' → Same H0' H' →
  (ds.length ≤ i → J.stop i H') ∧ ∀ d, ds[i]? = some d → J.go i H' ∧ ∀ x H2, J.yld i H' x H2 → ∃ H02, Wd H' H0' H2 H02 ∧ Dp K H02 x d
def Ev_It (K : PySem.W.Frag) (wi : TI) (ρ : List Sl) (ds : List D) : Prop := ∀ (B B0 : Hp) (σ : L2.St) (H H0 : Hp), Rp K B B0 ρ σ H H0 → ∀ R : It → Hp → Prop, (∀ J H' H0', Wd H H0 H' H0' → ItOk K J H0' ds → R J H') → wi σ H R
theorem it_list {H0 : Hp} {a : Addr} {xs : List V} (h1 : SqL K H0 a xs) (h2 : DpAll K H0 xs ds) (inj : ∀ H ys, Same H0 H → SqL K H a ys → ys = xs) : ItOk K (Itl K a) H0 ds := fun i H' H0' s1 s2 => by
  have h3 : SqL K H' a xs := (s1.trans s2).seq h1
  refine ⟨fun hi => ⟨xs, h3, by rw [dpa_len h2]; exact hi⟩, fun d e => ?_⟩
  obtain ⟨v, e1, e2⟩ := dpa_get h2 e
  refine ⟨⟨xs, v, h3, e1⟩, fun x H2 hy => ?_⟩
  obtain ⟨rfl, hy⟩ := hy
  have e3 := hy xs h3
  rw [e1] at e3; cases e3
  exact ⟨H0', .refl s2, dp_mono s1 e2⟩
theorem it_list' {H0 : Hp} {a : Addr} {xs : List V} (h1 : SqL K H0 a xs) (h2 : DpAll K H0 xs ds) : ItOk K (Itl K a) H0 ds := fun i H' H0' s1 s2 => by
  have h3 : SqL K H' a xs := (s1.trans s2).seq h1
  refine ⟨fun hi => ⟨xs, h3, by rw [dpa_len h2]; exact hi⟩, fun d e => ?_⟩
  obtain ⟨v, e1, e2⟩ := dpa_get h2 e
  refine ⟨⟨xs, v, h3, e1⟩, fun x H2 hy => ?_⟩
  obtain ⟨rfl, hy⟩ := hy
  have e3 := hy xs h3
  rw [e1] at e3; cases e3
  exact ⟨H0', .refl s2, dp_mono s1 e2⟩
theorem it_tup {H0 : Hp} {a : Addr} {xs : List V} (h1 : SqT K H0 a xs) (h2 : DpAll K H0 xs ds) : ItOk K (Itt K a) H0 ds := fun i H' H0' s1 s2 => by
  have h3 : SqT K H' a xs := sqT_mono (s1.trans s2) h1
  refine ⟨fun hi => ⟨xs, h3, by rw [dpa_len h2]; exact hi⟩, fun d e => ?_⟩
  obtain ⟨v, e1, e2⟩ := dpa_get h2 e
  refine ⟨⟨xs, v, h3, e1⟩, fun x H2 hy => ?_⟩
  obtain ⟨rfl, hy⟩ := hy
  have e3 := hy xs h3
  rw [e1] at e3; cases e3
  exact ⟨H0', .refl s2, dp_mono s1 e2⟩
theorem it_range {H0 : Hp} {lo : Int} {n : Nat} : ItOk K (Itr lo n) H0 ((List.range n).map fun i => .int (lo + (i : Nat))) := fun i H' H0' s1 s2 => by
  refine ⟨fun hi => (show n ≤ i by simpa using hi), fun d e => ?_⟩
  rw [List.getElem?_map] at e
  by_cases hi : i < n
  · rw [List.getElem?_range hi] at e
    cases e
    refine ⟨hi, fun x H2 hy => ?_⟩
    obtain ⟨rfl, rfl⟩ := hy
    exact ⟨H0', .refl s2, .int _⟩
  · rw [List.getElem?_eq_none (by simpa using hi)] at e
    cases e
theorem it_rangeC {H0 : Hp} {lo c : Int} {n : Nat} : ItOk K (Itc lo c n) H0 ((List.range n).map fun i => .int (lo + (i : Nat) * c)) := fun i H' H0' s1 s2 => by
  refine ⟨fun hi => (show n ≤ i by simpa using hi), fun d e => ?_⟩
  rw [List.getElem?_map] at e
  by_cases hi : i < n
  · rw [List.getElem?_range hi] at e
    cases e
    refine ⟨hi, fun x H2 hy => ?_⟩
    obtain ⟨rfl, rfl⟩ := hy
    exact ⟨H0', .refl s2, .int _⟩
  · rw [List.getElem?_eq_none (by simpa using hi)] at e
    cases e
theorem it_enum {H0 : Hp} {a : Addr} {xs : List V} (h1 : SqL K H0 a xs) (h2 : DpAll K H0 xs ds) : ItOk K (Ite K a) H0 (ds.zipIdx.map fun p => .tuple [.int (p.2 : Nat), p.1]) := fun i H' H0' s1 s2 => by
  have h3 : SqL K H' a xs := (s1.trans s2).seq h1
  refine ⟨fun hi => ⟨xs, h3, by rw [dpa_len h2]; simpa using hi⟩, fun d e => ?_⟩
  rw [List.getElem?_map, List.getElem?_zipIdx] at e
  cases e4 : ds[i]? with
  | none => rw [e4] at e; cases e
  | some d' =>
    rw [e4] at e
    obtain ⟨v, e1, e2⟩ := dpa_get h2 e4
    refine ⟨⟨xs, v, h3, e1⟩, fun x H2 hy => ?_⟩
    obtain ⟨T, y, rfl, nT, rfl, hy⟩ := hy
    have e3 := hy xs h3
    rw [e1] at e3; cases e3
    have ed : d = .tuple [.int ((i : Nat) : Int), d'] := by
      simp at e
      exact e.symm
    subst ed
    refine ⟨upd H0' T (.tup [.int (i : Nat), v]), .clean s2 nT, .tup (.of upd_same) (.cons (.int _) (.cons (dp_mono (same_new (sub_none s2 nT)) (dp_mono s1 e2)) .nil))⟩
/-- a list or a tuple -/
def iSeq (K : PySem.W.Frag) (tl : TE) : TI := fun σ H R => tl σ H fun x H1 => ∃ a, x = .ref a ∧ (((∃ xs, SqL K H1 a xs) ∧ R (Itl K a) H1) ∨ ((∃ xs, SqT K H1 a xs) ∧ R (Itt K a) H1))
theorem pi_seq {X : Cx} {tg l : Expr} {tl : TE} (hl : PE X l tl) : PI X tg l (iSeq X.K tl) := by
  refine ⟨fun pins s σ H R I h => ?_⟩
  refine thn (hl.run pins s σ H _ I h) fun v s1 ⟨x, H1, I1, r1, q1⟩ => ?_
  obtain ⟨a, e, q1⟩ := q1
  subst e
  cases r1
  rcases q1 with ⟨⟨xs, hq⟩, q⟩ | ⟨⟨xs, hq⟩, q⟩
  · obtain ⟨its, rv, p, hz⟩ := I1.list hq
    refine wpAny_pyIter_list p.isList ?_
    refine ⟨s1.heap.objs.size, [s1.heap.objs.size], _, _, H1, rfl, I1.kept (t' := s1.toks) fun b o e => Heap.get?_push_of_some _ e, turn_list a _, ⟨_, Heap.get?_push_size _ rfl, rfl, rfl⟩, fun b hb => ?_, q⟩
    have e : b = s1.heap.objs.size := by simpa using hb
    subst e
    exact I1.fpOk (Nat.le_refl _) (I1.hok.fresh (Nat.le_refl _))
  · obtain ⟨its, rv, p, hz⟩ := I1.tuple hq
    refine wpAny_pyIter_tuple (show s1.heap.IsTuple a its.toArray from p) ?_
    refine ⟨s1.heap.objs.size, [s1.heap.objs.size], _, _, H1, rfl, I1.kept (t' := s1.toks) fun b o e => Heap.get?_push_of_some _ e, turn_tuple a _, ⟨_, Heap.get?_push_size _ rfl, rfl, rfl⟩, fun b hb => ?_, q⟩
    have e : b = s1.heap.objs.size := by simpa using hb
    subst e
    exact I1.fpOk (Nat.le_refl _) (I1.hok.fresh (Nat.le_refl _))
theorem ei_list (h : EvD K ta ρ (.list ds)) : Ev_It K (iSeq K ta) ρ ds := fun B B0 σ H H0 r R q => h B B0 σ H H0 r _ fun v H1 H01 w k => by
  cases k with
  | lst s a => exact ⟨_, rfl, .inl ⟨⟨_, w.sub.seq s⟩, q _ H1 H01 w (it_list' s a)⟩⟩
theorem ei_tup (h : EvD K ta ρ (.tuple ds)) : Ev_It K (iSeq K ta) ρ ds := fun B B0 σ H H0 r R q => h B B0 σ H H0 r _ fun v H1 H01 w k => by
  cases k with
  | tup s a => exact ⟨_, rfl, .inr ⟨⟨_, sqT_mono w.sub s⟩, q _ H1 H01 w (it_tup s a)⟩⟩
theorem ei_range1 {t : TA} {n : Int} (h : EvA K t ρ [.int n]) (h1 : -(2 ^ 62) ≤ n) (h2 : n < 2 ^ 62) : Ev_It K (iRng1 t) ρ ((List.range n.toNat).map fun i => .int (i : Nat)) := fun B B0 σ H H0 r R q => h B B0 σ H H0 r _ fun vs H1 H01 w k => by
  obtain ⟨v, rfl, kk⟩ := dq1 k
  rw [kk.int]
  refine ⟨n, rfl, h1, h2, q _ H1 H01 w ?_⟩
  have e : ((List.range n.toNat).map fun i => PyData.int (i : Nat)) = (List.range n.toNat).map fun i => PyData.int (0 + (i : Nat)) := by
    simp only [Int.zero_add]
  rw [e]
  exact it_range
theorem ei_range2 {t : TA} {m n : Int} (h : EvA K t ρ [.int m, .int n]) (h1 : -(2 ^ 62) ≤ m ∧ m < 2 ^ 62 ∧ -(2 ^ 62) ≤ n ∧ n < 2 ^ 62) : Ev_It K (iRng2 t) ρ ((List.range (n - m).toNat).map fun i => .int (m + (i : Nat))) := fun B B0 σ H H0 r R q => h B B0 σ H H0 r _ fun vs H1 H01 w k => by
  obtain ⟨v, u, rfl, k1, k2⟩ := dq2 k
  rw [k1.int, k2.int]
  exact ⟨m, n, rfl, h1, q _ H1 H01 w it_range⟩
theorem dq3 {H H0 : Hp} {vs : List V} {x y z : D} (h : DqAll K H H0 vs [x, y, z]) : ∃ v u w, vs = [v, u, w] ∧ Dq K H H0 v x ∧ Dq K H H0 u y ∧ Dq K H H0 w z := by
  cases h with
  | cons a b =>
    cases b with
    | cons c e =>
      cases e with
      | cons f g => cases g; exact ⟨_, _, _, rfl, a, c, f⟩
theorem ei_range3 {t : TA} {i j c : Int} {n : Nat} (h : EvA K t ρ [.int i, .int j, .int c]) (h1 : RgC i j c n) : Ev_It K (iRng3 t) ρ ((List.range n).map fun k => .int (i + (k : Nat) * c)) := fun B B0 σ H H0 r R q => h B B0 σ H H0 r _ fun vs H1 H01 w k => by
  obtain ⟨v, u, x, rfl, k1, k2, k3⟩ := dq3 k
  rw [k1.int, k2.int, k3.int]
  exact ⟨i, j, c, n, rfl, h1, q _ H1 H01 w it_rangeC⟩
theorem ei_enum {t : TA} (h : EvC K t ρ [.list ds]) : Ev_It K (iEnum K t) ρ (ds.zipIdx.map fun p => .tuple [.int (p.2 : Nat), p.1]) := fun B B0 σ H H0 r R q => h B B0 σ H H0 r _ fun vs H1 H01 w k => by
  cases k with
  | cons a b =>
    cases b
    cases a with
    | lst s c => exact ⟨_, _, rfl, w.sub.seq s, q _ H1 H01 w (it_enum s c)⟩

/-- a middle between two statements -/
theorem w_mid (M : List Sl → Prop) (h : Wp K t ρ { P with nx := M }) (k : ∀ ρ', M ρ' → Wp K u ρ' P) : Wp K (tSeq t u) ρ P := w_seq (w_mono h k (fun _ z => z) (fun _ z => z) (fun _ z => z))
theorem rng_get {f : Nat → D} {n i : Nat} {d : D} (h : ((List.range n).map f)[i]? = some d) : i < n ∧ d = f i := by
  rw [List.getElem?_map] at h
  by_cases hi : i < n
  · rw [List.getElem?_range hi] at h
    cases h
    exact ⟨hi, rfl⟩
  · rw [List.getElem?_eq_none (by simpa using hi)] at h
    cases h
theorem map_get {α : Type} {f : α → D} {l : List α} {i : Nat} {d : D} (h : (l.map f)[i]? = some d) : ∃ a, l[i]? = some a ∧ d = f a := by
  rw [List.getElem?_map] at h
  cases e : l[i]? with
  | none => rw [e] at h; cases h
  | some a => rw [e] at h; cases h; exact ⟨a, rfl, rfl⟩
/-! ### for -/
theorem w_for {wi : TI} {g : TG} {tb : TS} {is : List Nat} (hi : Ev_It K wi ρ ds) (Inv : Nat → List Sl → Prop) (h0 : Inv 0 ρ)
    (hs : ∀ (i : Nat) (d : D) (ρ1 : List Sl), ds[i]? = some d → Inv i ρ1 → ∃ ρ2, Bd K g is d ρ1 ρ2 ∧ Wp K tb ρ2 { nx := Inv (i + 1), ct := Inv (i + 1), bk := P.nx, rt := P.rt })
    (hd : ∀ ρ1, Inv ds.length ρ1 → P.nx ρ1) : Wp K (tFor wi g tb) ρ P := fun B B0 σ H H0 r E m =>
  hi B B0 σ H H0 r _ fun J H1 H01 w ok => by
    refine ⟨fun i n σ' H' => n = ds.length - i ∧ i ≤ ds.length ∧ ∃ ρ1 H0', Inv i ρ1 ∧ Rp K B B0 ρ1 σ' H' H0' ∧ Same H01 H0', ⟨_, rfl, Nat.zero_le _, ρ, H01, h0, r.step w, Same.refl _⟩, ?_⟩
    rintro i n σ' H' ⟨rfl, hle, ρ1, H0', inv, r1, s1⟩
    obtain ⟨ok1, ok2⟩ := ok i H' H0' s1 r1.sub
    by_cases hlt : i < ds.length
    · obtain ⟨go, yl⟩ := ok2 ds[i] (List.getElem?_eq_getElem hlt)
      obtain ⟨ρ2, hb, hw⟩ := hs i ds[i] ρ1 (List.getElem?_eq_getElem hlt) inv
      refine .inr ⟨go, fun σ2 H2 => ∃ ρ3 H03, Inv (i + 1) ρ3 ∧ Rp K B B0 ρ3 σ2 H2 H03 ∧ Same H01 H03, fun σ2 H2 ⟨ρ3, H03, a, b, c⟩ => ⟨ds.length - (i + 1), by omega, rfl, hlt, ρ3, H03, a, b, c⟩, fun x H2 hy => ?_⟩
      obtain ⟨H02, w2, k2⟩ := yl x H2 hy
      -- the body, from the present state as the base of what stays clean
      have r2 := r1.step w2
      refine hb B B0 σ' H2 H02 x r2 k2 _ fun σ3 r3 _ => ?_
      -- the clean heap only grows: carried by a base of its own
      have r3' : Rp K B H01 ρ2 σ3 H2 H02 := ⟨⟨r3.wd.e, s1.trans w2.e0, r3.wd.sub, fun a o e => by
        rcases r3.wd.new a o e with z | z
        · exact .inl (w.e0 a o (r.wd.e0 a o z))
        · exact .inr z⟩, r3.len, r3.dat, r3.obj, r3.inj⟩
      have back : ∀ {d v H5 H05}, Wd B H01 H5 H05 → Dp K H05 v d → P.rt d → E.rt v H5 := fun {d v H5 H05} w5 k5 p5 => by
        refine m.rt d v H5 H05 p5 ⟨w5.e, (r.wd.e0.trans w.e0).trans w5.e0, w5.sub, fun a o e => ?_⟩ k5
        rcases w5.new a o e with z | z
        · rcases w.new a o z with z | z
          · exact r.wd.new a o z
          · exact .inr (r.wd.e.free z)
        · exact .inr z
      have backR : ∀ {ρ5 σ5 H5 H05}, Rp K B H01 ρ5 σ5 H5 H05 → Rp K B B0 ρ5 σ5 H5 H05 := fun {ρ5 σ5 H5 H05} r5 => by
        refine ⟨⟨r5.wd.e, (r.wd.e0.trans w.e0).trans r5.wd.e0, r5.wd.sub, fun a o e => ?_⟩, r5.len, r5.dat, r5.obj, r5.inj⟩
        rcases r5.wd.new a o e with z | z
        · rcases w.new a o z with z | z
          · exact r.wd.new a o z
          · exact .inr (r.wd.e.free z)
        · exact .inr z
      refine hw B H01 σ3 H2 H02 r3' _ ⟨fun ρ5 σ5 H5 H05 k5 r5 => ⟨ρ5, H05, k5, backR r5, r5.wd.e0⟩, fun d v H5 H05 k5 w5 kd => back w5 kd k5, fun ρ5 σ5 H5 H05 k5 r5 => m.nx ρ5 σ5 H5 H05 k5 (backR r5), fun ρ5 σ5 H5 H05 k5 r5 => ⟨ρ5, H05, k5, backR r5, r5.wd.e0⟩⟩
    · have e : i = ds.length := by omega
      subst e
      exact .inl ⟨ok1 (Nat.le_refl _), m.nx ρ1 σ' H' H0' (hd ρ1 inv) r1⟩

/-! ### [e for target in it if c] -/
def wipeS (ρ : List Sl) : List Nat → List Sl
  | [] => ρ
  | v :: vs => (wipeS ρ vs).set v .no
theorem rp_wipe {B B0 H H0 : Hp} {σ : L2.St} (r : Rp K B B0 ρ σ H H0) : ∀ vs : List Nat, Rp K B B0 (wipeS ρ vs) (wipe σ vs) H H0
  | [] => r
  | v :: vs => (rp_wipe r vs).drop v none
theorem wipe_twice (σ : L2.St) (vs : List Nat) : wipe (wipe σ vs) vs = wipe σ vs := by
  have q : ∀ (us ws : List Nat) (τ : L2.St), (∀ u ∈ us, u ∈ ws) → wipe (wipe τ us) ws = wipe τ ws := by
    intro us
    induction us with
    | nil => intro ws τ _; rfl
    | cons u us ih =>
      intro ws τ h
      show wipe ((wipe τ us).set u none) ws = wipe τ ws
      rw [wipe_set _ u none ws (h u List.mem_cons_self), ih ws τ fun x hx => h x (List.mem_cons_of_mem _ hx)]
  exact q vs vs σ fun _ h => h
theorem ef_lc {wi : TI} {g : TG} {tt : TT} {te : TE} {vs is : List Nat} {c : D → Bool} {f : D → D} (hi : Ev_It K wi ρ ds) (hsub : ∀ i ∈ is, i ∈ vs)
    (hs : ∀ (i : Nat) (d : D), ds[i]? = some d → ∃ ρ2, Bd K g is d (wipeS ρ vs) ρ2 ∧ EvT K tt ρ2 (c d) ∧ (c d = true → EvD K te ρ2 (f d)))
    (hl : ds.length < sizeLine) : EvF K (tLc wi g tt te vs) ρ ((ds.filter c).map f) := fun B B0 σ H H0 r Q q =>
  hi B B0 σ H H0 r _ fun J H1 H01 w ok D nD => by
    have key : ∀ i, i ≤ ds.length → (((ds.take i).filter c).map f).length ≤ i := fun i hi => by
      rw [List.length_map]
      exact Nat.le_trans (List.length_filter_le _ _) (by rw [List.length_take]; omega)
    refine ⟨fun i n H' => n = ds.length - i ∧ i ≤ ds.length ∧ ∃ H0' acc, Wd H1 H01 H' H0' ∧ H' D = some (.lst acc) ∧ H0' D = none ∧ DpAll K H0' acc (((ds.take i).filter c).map f), ⟨_, rfl, Nat.zero_le _, H01, [], .dirty w.sub nD, upd_same, sub_none w.sub nD, .nil⟩, ?_⟩
    rintro i n H' ⟨rfl, hle, H0', acc, w1, e1, e0, k1⟩
    have r1 : Rp K B B0 (wipeS ρ vs) (wipe σ vs) H' H0' := rp_wipe ((r.step w).step w1) vs
    obtain ⟨ok1, ok2⟩ := ok i H' H0' w1.e0 w1.sub
    by_cases hlt : i < ds.length
    · obtain ⟨go, yl⟩ := ok2 ds[i] (List.getElem?_eq_getElem hlt)
      obtain ⟨ρ2, hb, ht, hf⟩ := hs i ds[i] (List.getElem?_eq_getElem hlt)
      have tk : ds.take (i + 1) = ds.take i ++ [ds[i]] := by rw [List.take_add_one, List.getElem?_eq_getElem hlt]; rfl
      refine .inr ⟨go, fun H2 => ∃ H02 acc, Wd H1 H01 H2 H02 ∧ H2 D = some (.lst acc) ∧ H02 D = none ∧ DpAll K H02 acc (((ds.take (i + 1)).filter c).map f), fun H2 ⟨a, b, z⟩ => ⟨ds.length - (i + 1), by omega, rfl, hlt, a, b, z⟩, fun x H2 hy => ?_⟩
      obtain ⟨H02, w2, k2⟩ := yl x H2 hy
      refine hb B B0 _ H2 H02 x (r1.step w2) k2 _ fun σ2 r2 e2 => ⟨by rw [e2 vs hsub, wipe_twice], ht B B0 σ2 H2 H02 r2 _ fun H3 H03 w3 => ?_⟩
      have w123 := (w1.trans w2).trans w3
      have e3 : H3 D = some (.lst acc) := (w2.trans w3).e _ _ e1
      have z3 : H03 D = none := (w2.trans w3).stay0 e1 e0
      cases hc : c ds[i] with
      | false =>
        rw [if_neg Bool.false_ne_true]
        refine ⟨H03, acc, w123, e3, z3, ?_⟩
        rw [tk, List.filter_append, List.filter_cons_of_neg (by rw [hc]; decide)]
        simpa using dpa_mono (w2.trans w3).e0 k1
      | true =>
        rw [if_pos rfl]
        refine hf hc B B0 σ2 H3 H03 (r2.step w3) _ fun v H4 H04 w4 k4 => ⟨acc, w4.e _ _ e3, ?_, H04, acc ++ [v], ?_, upd_same, w4.stay0 e3 z3, ?_⟩
        · rw [dpa_len k1]
          have := key i hle
          omega
        · have w5 := w123.trans w4
          have nD0 : H01 D = none := sub_none w.sub nD
          refine ⟨fun b o hb => by rw [upd_ne (ne_of_none hb nD)]; exact w5.e b o hb, w5.e0, fun b o hb => ?_, w5.new⟩
          rw [upd_ne (ne_of_none hb (w4.stay0 e3 z3))]
          exact w5.sub b o hb
        · rw [tk, List.filter_append, List.filter_cons_of_pos hc, List.map_append]
          exact dpa_app (dpa_mono ((w2.trans w3).trans w4).e0 k1) (.cons k4 .nil)
    · have e : i = ds.length := by omega
      subst e
      rw [List.take_length] at k1
      exact .inl ⟨ok1 (Nat.le_refl _), q D acc H' H0' (w.trans w1) (w.e.free nD) e1 e0 k1⟩

/-! ### defs -/
/-- the promise: arguments ds with Pre, the answer res ds; all that was there stays -/
def spD (K : PySem.W.Frag) (Pre : List D → Prop) (res : List D → D) : Sp := fun vs H Q _ => ∃ H0 ds, Same H0 H ∧ DpAll K H0 vs ds ∧ Pre ds ∧ ∀ v H' H0', Wd H H0 H' H0' → Dp K H0' v (res ds) → Q v H'
theorem ev_call {Pre : List D → Prop} {res : List D → D} {tt : TA} {E : XK} (h : EvC K tt ρ ds) (hp : Pre ds) : EvD K (tCall (spD K Pre res) [] E tt) ρ (res ds) := fun B B0 σ H H0 r Q q =>
  h B B0 σ H H0 r _ fun vs H1 H01 w k => by
    rw [List.append_nil]
    exact ⟨H01, ds, w.sub, k, hp, fun v H' H0' w2 k2 => q v H' H0' (w.trans w2) k2⟩
def initS (N : List Str) (ds : List D) : List Sl := ds.map .dat ++ List.replicate (N.length - ds.length) .no
theorem init_get {N : List Str} {ds : List D} {i : Nat} {s : Sl} (h : (initS N ds)[i]? = some s) : (∃ d, ds[i]? = some d ∧ s = .dat d) ∨ s = .no := by
  unfold initS at h
  by_cases hi : i < ds.length
  · rw [List.getElem?_append_left (by simpa using hi), List.getElem?_map] at h
    cases e : ds[i]? with
    | none => rw [e] at h; cases h
    | some d => rw [e] at h; cases h; exact .inl ⟨d, rfl, rfl⟩
  · rw [List.getElem?_append_right (by simpa using hi), List.getElem?_replicate] at h
    split at h
    · cases h; exact .inr rfl
    · cases h
theorem rp_init {N : List Str} {vs : List V} {H H0 : Hp} (s : Same H0 H) (k : DpAll K H0 vs ds) : Rp K H H0 (initS N ds) (L2.start N vs) H H0 := by
  have hl := dpa_len k
  refine ⟨.refl s, by unfold initS L2.start; simp [hl], fun i d e => ?_, fun i κ es e => ?_, fun i j a κ κ' es fs e => ?_⟩
  · rcases init_get e with ⟨d', e1, e2⟩ | z
    · cases e2
      obtain ⟨v, h1, h2⟩ := dpa_get k e1
      refine ⟨v, ?_, h2⟩
      unfold L2.start
      have hi : i < vs.length := (List.getElem?_eq_some_iff.mp h1).1
      rw [List.getElem?_append_left (by simpa using hi), List.getElem?_map, h1]; rfl
    · cases z
  · rcases init_get e with ⟨d', e1, e2⟩ | z
    · cases e2
    · cases z
  · rcases init_get e with ⟨d', e1, e2⟩ | z
    · cases e2
    · cases z
theorem fn_okD {Pg : Program} {w : World} {mg : Str → Option Value} {base : Heap} {x qual : Str} {st : Stmt} {f : Addr} {fd : FuncData} {N ps : List Str} {k : Nat} {Pre : List D → Prop} {res : List D → D}
    (F : Fun K x qual st f fd) (S : FnScope N ps (defScope st)) (len : ∀ ds, Pre ds → ds.length = ps.length)
    (body : ∀ (cdv : Value) (A : Around) (outer : List Env) (s : Shared) (H : Hp) (E : XK) (ds : List D), Room k (A.deeper (envOfC qual (defScope st) s.heap.objs.size f cdv)) → Pre ds →
      ∃ t, PSs (cxOf CX0 Pg w K mg base N qual (defScope st) f cdv A outer s H E).nox (defBody st) t ∧ Wp K t (initS N ds) { nx := fun _ => res ds = .none, rt := fun d => d = res ds }) :
    FnOk Pg w K mg base CX0 (k + 1) f fd ps (spD K Pre res) := by
  refine F.ok S (fun vs H Q E h => ?_) fun cdv A outer s H vs Q E hr h => ?_
  · obtain ⟨H0, ds, s1, k1, hp, _⟩ := h
    rw [dpa_len k1]; exact len ds hp
  · obtain ⟨H0, ds, s1, k1, hp, q⟩ := h
    obtain ⟨t, pt, wt⟩ := body cdv A outer s H E ds hr hp
    refine ⟨t, pt, wt H H0 _ H H0 (rp_init s1 k1) _ ⟨fun ρ σ H' H0' e r => ?_, fun d v H' H0' e w kd => ?_, fun _ _ _ _ z => z.elim, fun _ _ _ _ z => z.elim⟩⟩
    · exact q .non H' H0' r.wd (by rw [e]; exact .non)
    · cases e
      exact q v H' H0' w kd
end
end EL

namespace EL
open PySem PySem.Spec PyProof.Rows L2
variable {K : PySem.W.Frag}

/-! ### list + list, read anywhere -/
def rCatL (K : PySem.W.Frag) : R2 := fun x y H Q => ∃ l b xs zs, x = .ref l ∧ y = .ref b ∧ SqL K H l xs ∧ SqL K H b zs ∧ xs.length + zs.length ≤ sizeLine ∧ ∀ p, H p = none → Q (.ref p) (upd H p (.lst (xs ++ zs)))
theorem op_catL {X : Cx} : OpR X (binaryOp .Add) (rCatL X.K) := by
  intro pins s σ H x y v u Q I rx ry h
  obtain ⟨l, b, xs, zs, rfl, rfl, hH, hB, hz, q⟩ := h
  cases rx
  cases ry
  obtain ⟨its, r, pl, _⟩ := I.list hH
  obtain ⟨its2, r2, pl2, _⟩ := I.list hB
  obtain ⟨⟨cls, dd, data, sl⟩, ho, hc, n, hd⟩ := pl.isList
  obtain ⟨⟨cls2, dd2, data2, sl2⟩, ho2, hc2, n2, hd2⟩ := pl2.isList
  simp only at hc hd hc2 hd2
  subst hc hd hc2 hd2
  have e1 := r.length
  have e2 := r2.length
  have e : its.toArray ++ its2.toArray = (its ++ its2).toArray := by simp
  refine concat_meets ⟨_, ho, rfl⟩ ⟨_, ho2, rfl⟩ noFill_list_add seq_list_add PySem.F.slot_list_add PySem.F.entry_list_add (PySem.F.args_list_add_2 _ _) (list_addW l b its.toArray its2.toArray n n2 dd dd2 sl sl2 (by simp; omega)) ⟨ho, ho2, ?_⟩
  rw [e]
  exact ⟨.ref _, _, I.lnew (t' := s.toks) (r.append r2) (by rw [List.length_append]; omega), rfl, q _ I.fresh⟩
/-- + of ints, texts, tuples, lists -/
def rAdd (K : PySem.W.Frag) : R2 := fun x y H Q => (rI0 (fun i j => .int (i + j)) x y H Q ∨ (fun x y H Q => ∃ i j, x = V.str i ∧ y = V.str j ∧ i.length + j.length ≤ sizeLine ∧ Q (V.str (i ++ j)) H : R2) x y H Q) ∨ (rCatA K x y H Q ∨ rCatL K x y H Q)
theorem op_addA {X : Cx} : OpR X (binaryOp .Add) (rAdd X.K) := (op_add.or op_add_str).or (op_catA.or op_catL)
section
variable {ρ : List Sl} {t ta tb tc te : TE} {d x y z : D} {ds es : List D} {i : Nat}
theorem rd_addI {i j : Int} : RD K (rAdd K) (.int i) (.int j) (.int (i + j)) := fun H H0 v u s k1 k2 Q q => .inl (.inl (rd_I0 (K := K) H H0 v u s k1 k2 Q q))
theorem rd_addS' {a b : Str} (hl : a.length + b.length ≤ sizeLine) : RD K (rAdd K) (.str a) (.str b) (.str (a ++ b)) := fun H H0 v u s k1 k2 Q q => .inl (.inr (rd_addS (K := K) hl H H0 v u s k1 k2 Q q))
theorem rf_addL (hl : ds.length + es.length ≤ sizeLine) : RF K (rAdd K) (.list ds) (.list es) (ds ++ es) := fun H H0 v u s k1 k2 Q q => by
  obtain ⟨a, xs, rfl, h1, h2⟩ := k1.lst s
  obtain ⟨b, ys, rfl, g1, g2⟩ := k2.lst s
  refine .inr (.inr ⟨a, b, xs, ys, rfl, rfl, h1, g1, by rw [dpa_len h2, dpa_len g2]; exact hl, fun p np => ?_⟩)
  exact q p _ _ H0 (.dirty s np) np upd_same (sub_none s np) (dpa_app h2 g2)

/-! ### order of ints and of tuples of ints -/
def rLt (K : PySem.W.Frag) : R2 := fun x y H Q => rI0 (fun i j => .bl (decide (i < j))) x y H Q ∨ rLtT K x y H Q
theorem op_ltA {X : Cx} (hu : X.A.units < cLine) : OpR X (compareOp .Lt) (rLt X.K) := op_lt.or (op_ltT hu)
def rLe (K : PySem.W.Frag) : R2 := fun x y H Q => rI0 (fun i j => .bl (decide (i ≤ j))) x y H Q ∨ rLeT K x y H Q
theorem op_leA {X : Cx} (hu : X.A.units < cLine) : OpR X (compareOp .LtE) (rLe X.K) := op_le.or (op_leT hu)
theorem rd_lt {i j : Int} : RD K (rLt K) (.int i) (.int j) (.bool (decide (i < j))) := fun H H0 v u s k1 k2 Q q => .inl (rd_B0 (K := K) H H0 v u s k1 k2 Q q)
theorem rd_le {i j : Int} : RD K (rLe K) (.int i) (.int j) (.bool (decide (i ≤ j))) := fun H H0 v u s k1 k2 Q q => .inl (rd_B0 (K := K) H H0 v u s k1 k2 Q q)
theorem rd_gt {i j : Int} : RD K (rI0 fun i j => .bl (decide (j < i))) (.int i) (.int j) (.bool (decide (j < i))) := rd_B0
theorem rd_ge {i j : Int} : RD K (rI0 fun i j => .bl (decide (j ≤ i))) (.int i) (.int j) (.bool (decide (j ≤ i))) := rd_B0
theorem rd_ltT {ns ms : List Int} : RD K (rLt K) (.tuple (ns.map .int)) (.tuple (ms.map .int)) (.bool (HT.lexLt ns ms)) := fun H H0 v u s k1 k2 Q q => by
  obtain ⟨a, rfl, h1⟩ := sqT_ints s k1
  obtain ⟨b, rfl, h2⟩ := sqT_ints s k2
  exact .inr ⟨a, b, ns, ms, rfl, rfl, h1, h2, q _ H H0 (.refl s) (.bl _)⟩
/-! == -/
theorem eqv_int (a b : Int) : PyData.eqv (.int a) (.int b) = decide (a = b) := by
  show (a == b) = decide (a = b)
  exact Bool.beq_eq_decide_eq a b
theorem eqv_str (a b : Str) : PyData.eqv (.str a) (.str b) = decide (a = b) := by
  show (a == b) = decide (a = b)
  exact Bool.beq_eq_decide_eq a b
theorem rd_eqI' {a b : Int} : RD K (rEqD K) (.int a) (.int b) (.bool (decide (a = b))) := by
  rw [← eqv_int]; exact rd_eq rfl rfl
theorem rd_neI' {a b : Int} : RD K (rNeD K) (.int a) (.int b) (.bool (!decide (a = b))) := by
  rw [← eqv_int]; exact rd_ne rfl rfl
theorem rd_eqS' {a b : Str} (ha : SeqAt.shaped (.str a) = true) (hb : SeqAt.shaped (.str b) = true) : RD K (rEqD K) (.str a) (.str b) (.bool (decide (a = b))) := by
  rw [← eqv_str]; exact rd_eq ha hb
theorem rd_neS' {a b : Str} (ha : SeqAt.shaped (.str a) = true) (hb : SeqAt.shaped (.str b) = true) : RD K (rNeD K) (.str a) (.str b) (.bool (!decide (a = b))) := by
  rw [← eqv_str]; exact rd_ne ha hb

/-! ### three comparisons in a row -/
def tChain3 (r r' r'' : R2) (ta tb tc td : TE) : TE := fun σ H Q => ta σ H fun x H1 => tb σ H1 fun y H2 => r x y H2 fun z H3 => ∃ k, z = .bl k ∧
  (if k = true then tc σ H3 fun w' H4 => r' y w' H4 fun z2 H5 => ∃ k2, z2 = .bl k2 ∧ (if k2 = true then td σ H5 fun w2 H6 => r'' w' w2 H6 Q else Q (.bl false) H5) else Q (.bl false) H3)
theorem pt_chain3 {X : Cx} {a b c e : Expr} {td : TE} {pos : Pos} {op op' op'' : CmpOp} {r r' r'' : R2} (ho : OpR X (compareOp op) r) (ho' : OpR X (compareOp op') r') (ho'' : OpR X (compareOp op'') r'') (ha : PE X a ta) (hb : PE X b tb) (hc : PE X c tc) (hd : PE X e td)
    (hm : lastMarks [op, op', op''] [b, c, e] = false := by with_unfolding_all rfl) : PT X (.Compare a [op, op', op''] [b, c, e] pos) (tTest (tChain3 r r' r'' ta tb tc td)) := by
  refine ⟨fun pins s σ H Q I h => ?_⟩
  refine isTrue_chain (thn (ha.run pins s σ H _ I h) fun v s1 ⟨x, H1, I1, r1, q1⟩ => test_link (thn (hb.run pins s1 σ H1 _ I1 q1) fun u s2 ⟨y, H2, I2, r2, q2⟩ =>
    thn (ho pins s2 σ H2 x y v u _ I2 r1 r2 q2) fun d s3 ⟨z, H3, I3, r3, k, e, q3⟩ => ?_)) hm
  subst e
  cases r3
  refine wpAny_truthy_bool ?_
  cases k with
  | false =>
    obtain ⟨k', e', q'⟩ := q3
    cases e'
    exact ite_ff ⟨H3, I3, q'⟩
  | true =>
    refine ite_tt (test_link (thn (hc.run pins s3 σ H3 _ I3 q3) fun w' s4 ⟨z', H4, I4, r4, q4⟩ => thn (ho' pins s4 σ H4 y z' u w' _ I4 r2 r4 q4) fun d' s5 ⟨z2, H5, I5, r5, k2, e2, q5⟩ => ?_))
    subst e2
    cases r5
    refine wpAny_truthy_bool ?_
    cases k2 with
    | false =>
      obtain ⟨k', e', q'⟩ := q5
      cases e'
      exact ite_ff ⟨H5, I5, q'⟩
    | true =>
      refine ite_tt (test_last (thn (hd.run pins s5 σ H5 _ I5 q5) fun w2 s6 ⟨z3, H6, I6, r6, q6⟩ => thn (ho'' pins s6 σ H6 z' z3 w' w2 _ I6 r4 r6 q6) fun d2 s7 ⟨z4, H7, I7, r7, k3, e3, q7⟩ => ?_))
      subst e3
      cases r7
      exact wpAny_truthy_bool ⟨H7, I7, q7⟩
theorem ev_chain3 {td : TE} {w : D} {r r' r'' : R2} {k1 k2 k3 : Bool} (ha : EvQ K ta ρ x) (hb : EvQ K tb ρ y) (hr : RD K r x y (.bool k1)) (hc : k1 = true → EvQ K tc ρ z) (hr' : k1 = true → RD K r' y z (.bool k2)) (hd : k1 = true → k2 = true → EvQ K td ρ w) (hr'' : k1 = true → k2 = true → RD K r'' z w (.bool k3)) :
    EvD K (tChain3 r r' r'' ta tb tc td) ρ (.bool (k1 && (k2 && k3))) := fun B B0 σ H H0 rp Q q =>
  ha B B0 σ H H0 rp _ fun v H1 H01 w1 k1' => hb B B0 σ H1 H01 (rp.step w1) _ fun u H2 H02 w2 k2' => hr H2 H02 v u w2.sub (k1'.mono w2) k2' _ fun v' H3 H03 w3 k3' => by
    cases k3'
    refine ⟨k1, rfl, ?_⟩
    cases k1 with
    | false =>
      rw [if_neg Bool.false_ne_true]
      exact q _ H3 H03 ((w1.trans w2).trans w3) (.bl _)
    | true =>
      rw [if_pos rfl]
      refine hc rfl B B0 σ H3 H03 (((rp.step w1).step w2).step w3) _ fun w' H4 H04 w4 k4 => hr' rfl H4 H04 u w' w4.sub ((k2'.mono w3).mono w4) k4 _ fun v2 H5 H05 w5 k5 => ?_
      cases k5
      refine ⟨k2, rfl, ?_⟩
      cases k2 with
      | false =>
        rw [if_neg Bool.false_ne_true]
        exact q _ H5 H05 ((((w1.trans w2).trans w3).trans w4).trans w5) (.bl _)
      | true =>
        rw [if_pos rfl]
        exact hd rfl rfl B B0 σ H5 H05 (((((rp.step w1).step w2).step w3).step w4).step w5) _ fun w6' H6 H06 w6 k6 => hr'' rfl rfl H6 H06 w' w6' w6.sub ((k4.mono w5).mono w6) k6 Q fun v3 H7 H07 w7 k7 =>
          q v3 H7 H07 ((((((w1.trans w2).trans w3).trans w4).trans w5).trans w6).trans w7) k7

/-! ### isinstance(x, T), T a built-in class -/
def tyN : D → String
  | .none => "NoneType"
  | .bool _ => "bool"
  | .int _ => "int"
  | .str _ => "str"
  | .list _ => "list"
  | .tuple _ => "tuple"
  | .dict _ => "dict"
theorem tyx_of {H : Hp} {v : V} {d : D} (h : Dp K H v d) : TyX K H v (.type (tyN d)) := by
  cases h with
  | non => exact .base .non
  | bl b => exact .base (.bl b)
  | int i => exact .base (.int i)
  | str x => exact .base (.str x)
  | lst s a =>
    rcases s with (s | ⟨o, s⟩) | ⟨o, its, n, h1, h2, _⟩
    · exact .base (.lst s)
    · exact .base (.frz s)
    · exact .kList h1 h2
  | tup s a =>
    rcases s with (s | ⟨o, s⟩) | ⟨o, its, n, h1, h2, _⟩
    · exact .base (.tup s)
    · exact .fTuple s
    · exact .kTuple h1 h2
theorem ev_isi {n : String} {b : Bool} (h : EvQ K ta ρ d) (e : kitB (tyN d) n = some b) : EvD K (tCB (rIsi K) (tCons ta (tCons (tC (.ty n)) tNil))) ρ (.bool b) := fun B B0 σ H H0 r Q q =>
  h B B0 σ H H0 r _ fun v H1 H01 w k => ⟨v, .ty n, .type (tyN d), .type n, b, rfl, .ty n, tyx_of (k.dp w.sub), kit_ty e, q _ H1 H01 w (.bl _)⟩

/-! ### texts -/
theorem ev_fmtI {i : Int} (h : EvQ K te ρ (.int i)) (hl : i.natAbs.log2 < 1920) : EvD K (tFmt te) ρ (.str (toString i)) := fun B B0 σ H H0 r Q q => h B B0 σ H H0 r _ fun v H1 H01 w k => .inr ⟨i, k.int, hl, q _ H1 H01 w (.str _)⟩
theorem ev_fmtS {a : Str} (h : EvQ K te ρ (.str a)) (hl : a.length ≤ sizeLine) : EvD K (tFmt te) ρ (.str a) := fun B B0 σ H H0 r Q q => h B B0 σ H H0 r _ fun v H1 H01 w k => .inl ⟨a, k.str, hl, q _ H1 H01 w (.str _)⟩
/-- the parts of an f-string, one behind the other -/
def tJoin (ts : List TE) : TE := fun σ H Q => tJs ts Str.empty σ H fun out H1 => Q (.str out) H1
inductive EvJ (K : PySem.W.Frag) (ρ : List Sl) : List TE → Str → Str → Prop
  | nil {acc : Str} : EvJ K ρ [] acc acc
  | cons {t : TE} {ts : List TE} {acc y out : Str} (h : EvQ K t ρ (.str y)) (hl : (acc ++ y).length ≤ sizeLine) (r : EvJ K ρ ts (acc ++ y) out) : EvJ K ρ (t :: ts) acc out
theorem evj_run {ts : List TE} {acc out : Str} (h : EvJ K ρ ts acc out) : ∀ (B B0 : Hp) (σ : L2.St) (H H0 : Hp), Rp K B B0 ρ σ H H0 → ∀ Q : Str → Hp → Prop, (∀ H' H0', Wd H H0 H' H0' → Q out H') → tJs ts acc σ H Q := by
  induction h with
  | nil => exact fun B B0 σ H H0 r Q q => q H H0 (.refl r.sub)
  | cons h hl r ih => exact fun B B0 σ H H0 rp Q q => h B B0 σ H H0 rp _ fun v H1 H01 w k => ⟨_, k.str, hl, ih B B0 σ H1 H01 (rp.step w) Q fun H2 H02 w2 => q H2 H02 (w.trans w2)⟩
theorem ev_join {ts : List TE} {out : Str} (h : EvJ K ρ ts Str.empty out) : EvD K (tJoin ts) ρ (.str out) := fun B B0 σ H H0 r Q q => evj_run h B B0 σ H H0 r _ fun H1 H01 w => q _ H1 H01 w (.str _)
theorem pe_joinedA {X : Cx} {v1 v2 : Expr} {rest : List Expr} {ts : List TE} {pos : Pos} (h : PJ X (v1 :: v2 :: rest) ts) : PE X (.JoinedStr (v1 :: v2 :: rest) pos) (tJoin ts) := pe_joined h
/-- methods of a text -/
def MD (K : PySem.W.Frag) (r : V → List V → Hp → VK → Prop) (x : D) (xs : List D) (z : D) : Prop := ∀ (H H0 : Hp) (v : V) (vs : List V), Same H0 H → Dq K H H0 v x → DqAll K H H0 vs xs → ∀ Q : VK, (∀ v' H' H0', Wd H H0 H' H0' → Dp K H0' v' z → Q v' H') → r v vs H Q
theorem ev_m1 {r : V → List V → Hp → VK → Prop} {a : Str} (h : EvQ K ta ρ (.str a)) (h2 : EvQ K tb ρ y) (hr : MD K r (.str a) [y] z) : EvD K (tM1 r ta tb) ρ z := fun B B0 σ H H0 rp Q q =>
  h B B0 σ H H0 rp _ fun v H1 H01 w1 k1 => ⟨⟨a, k1.str⟩, h2 B B0 σ H1 H01 (rp.step w1) _ fun u H2 H02 w2 k2 => hr H2 H02 v [u] w2.sub (k1.mono w2) (.cons k2 .nil) Q fun v' H3 H03 w3 k3 => q v' H3 H03 ((w1.trans w2).trans w3) k3⟩
theorem md_find {a b : Str} : MD K (fun x xs H Q => ∃ a b, x = .str a ∧ xs = [.str b] ∧ Q (.int (Txt.find a b)) H) (.str a) [.str b] (.int (Txt.find a b)) := fun H H0 v vs s k1 k2 Q q => by
  obtain ⟨u, rfl, kk⟩ := dq1 k2
  refine ⟨a, b, k1.str, ?_, q _ H H0 (.refl s) (.int _)⟩
  rw [kk.str]
def rJoinS (K : PySem.W.Frag) : V → List V → Hp → VK → Prop := fun x xs H Q => ∃ a p, ∃ ys : List Str, x = .str a ∧ xs = [.ref p] ∧ (SqL K H p (ys.map V.str) ∨ SqT K H p (ys.map V.str)) ∧
    (ys.map (·.length)).sum + ys.length * a.length ≤ 16777216 ∧ Q (.str (Txt.join a ys)) H
theorem mt_joinA {X : Cx} : MtR X "str.join" (rJoinS X.K) := mt_join
theorem md_join {a : Str} {ys : List Str} (hl : (ys.map (·.length)).sum + ys.length * a.length ≤ 16777216) : MD K (rJoinS K) (.str a) [.list (ys.map .str)] (.str (Txt.join a ys)) := fun H H0 v vs s k1 k2 Q q => by
  obtain ⟨u, rfl, kk⟩ := dq1 k2
  obtain ⟨p, xs, rfl, h1, h2⟩ := kk.lst s
  rw [dpa_strs h2] at h1
  exact ⟨a, p, ys, k1.str, rfl, .inl h1, hl, q _ H H0 (.refl s) (.str _)⟩
end

/-! ### sorted of pairs of ints -/
def encP (p : Int × Int) : D := .tuple [.int p.1, .int p.2]
def lexLe (p q : Int × Int) : Bool := !SrtO.lexB q p
def sortP (ps : List (Int × Int)) : List (Int × Int) := ps.mergeSort lexLe
theorem lexLe_iff {p q : Int × Int} : lexLe p q = true ↔ (p.1 < q.1 ∨ (p.1 = q.1 ∧ p.2 ≤ q.2)) := by
  unfold lexLe
  rw [Bool.not_eq_true']
  rw [SrtO.lexB_no]
  omega
theorem lexLe_trans (a b c : Int × Int) (h1 : lexLe a b = true) (h2 : lexLe b c = true) : lexLe a c = true := by
  rw [lexLe_iff] at h1 h2 ⊢
  omega
theorem lexLe_total (a b : Int × Int) : (lexLe a b || lexLe b a) = true := by
  rw [Bool.or_eq_true, lexLe_iff, lexLe_iff]
  omega
theorem sortP_perm (ps : List (Int × Int)) : (sortP ps).Perm ps := List.mergeSort_perm ps lexLe
theorem sortP_sorted (ps : List (Int × Int)) : (sortP ps).Pairwise (fun p q => lexLe p q = true) := List.pairwise_mergeSort lexLe_trans lexLe_total ps
theorem sorted_uniq {ps qs : List (Int × Int)} (hp : ps.Perm qs) (h1 : ps.Pairwise (fun p q => lexLe p q = true)) (h2 : qs.Pairwise (fun p q => lexLe p q = true)) : ps = qs :=
  List.Perm.eq_of_pairwise (le := fun p q => lexLe p q = true) (fun a b _ _ h h' => by
    rw [lexLe_iff] at h h'
    exact Prod.ext (by omega) (by omega)) h1 h2 hp
def rSortP (K : PySem.W.Frag) : List V → Hp → VK → Prop := fun vs H Q => ∃ (H0 : Hp) (a : Addr) (xs : List V) (ps : List (Int × Int)), vs = [V.ref a] ∧ Same H0 H ∧ SqL K H a xs ∧ DpAll K H0 xs (ps.map encP) ∧
  ∀ ys p, DpAll K H0 ys ((sortP ps).map encP) → H p = none → Q (.ref p) (upd H p (.lst ys))
open Classical in
noncomputable def keyV (K : PySem.W.Frag) (H0 : Hp) (x : V) : Int × Int := if h : ∃ p, Dp K H0 x (encP p) then h.choose else (0, 0)
theorem keyV_ok {H0 : Hp} {x : V} {p : Int × Int} (h : Dp K H0 x (encP p)) : Dp K H0 x (encP (keyV K H0 x)) := by
  unfold keyV
  rw [dif_pos ⟨p, h⟩]
  exact (⟨p, h⟩ : ∃ p, Dp K H0 x (encP p)).choose_spec
theorem dp_pair {H : Hp} {x : V} {p : Int × Int} (h : Dp K H x (encP p)) : ∃ t, x = .ref t ∧ SqT K H t [.int p.1, .int p.2] := by
  cases h with
  | tup s a =>
    cases a with
    | cons a1 a2 =>
      cases a2 with
      | cons a3 a4 =>
        cases a4; cases a1; cases a3
        exact ⟨_, rfl, s⟩
theorem dpa_mem {H : Hp} : ∀ {vs : List V} {ds : List D}, DpAll K H vs ds → ∀ v ∈ vs, ∃ d ∈ ds, Dp K H v d
  | _, _, .nil, v, hv => by cases hv
  | _, _, .cons a b, v, hv => by
    rcases List.mem_cons.mp hv with rfl | hv
    · exact ⟨_, List.mem_cons_self, a⟩
    · obtain ⟨d, h1, h2⟩ := dpa_mem b v hv
      exact ⟨d, List.mem_cons_of_mem _ h1, h2⟩
theorem dpa_keys {H0 : Hp} : ∀ {ys : List V}, (∀ y ∈ ys, Dp K H0 y (encP (keyV K H0 y))) → DpAll K H0 ys ((ys.map (keyV K H0)).map encP)
  | [], _ => .nil
  | y :: ys, h => .cons (h y List.mem_cons_self) (dpa_keys fun z hz => h z (List.mem_cons_of_mem _ hz))
theorem cr_sortP {X : Cx} : CallR X (.builtin "sorted") (rSortP X.K) := by
  intro pins s σ H vs us Q I r h
  obtain ⟨H0, a, xs, ps, rfl, sub, hs, hd, q⟩ := h
  have hpair : ∀ x ∈ xs, Dp X.K H0 x (encP (keyV X.K H0 x)) := fun x hx => by
    obtain ⟨d, h1, h2⟩ := dpa_mem hd x hx
    obtain ⟨p, _, rfl⟩ := List.mem_map.mp h1
    exact keyV_ok h2
  have hkeys : xs.map (keyV X.K H0) = ps := by
    have go : ∀ {vs : List V} {qs : List (Int × Int)}, DpAll X.K H0 vs (qs.map encP) → vs.map (keyV X.K H0) = qs := by
      intro vs
      induction vs with
      | nil =>
        intro qs h
        cases qs with
        | nil => rfl
        | cons _ _ => cases h
      | cons v vs ih =>
        intro qs h
        cases qs with
        | nil => cases h
        | cons p qs =>
          cases h with
          | cons a b =>
            rw [List.map_cons, ih b]
            have h1 := keyV_ok a
            obtain ⟨t, e1, s1⟩ := dp_pair a
            obtain ⟨t', e2, s2⟩ := dp_pair h1
            rw [e1] at e2; cases e2
            have z := I.tuple_inj (sqT_mono sub s1) (sqT_mono sub s2)
            have z1 : p = keyV X.K H0 v := by
              have z2 := (List.cons.inj z).1
              have z3 := (List.cons.inj (List.cons.inj z).2).1
              exact Prod.ext (V.int.inj z2) (V.int.inj z3)
            rw [← z1]
    exact go hd
  obtain ⟨its, rv, hl, hz⟩ := I.list hs
  obtain ⟨u, rfl, ru⟩ := vals1 r
  obtain rfl : u = Value.ref a := ru
  obtain ⟨e1, e2⟩ := refs_back rv fun x m => by
    obtain ⟨t, e, _⟩ := dp_pair (hpair x m)
    exact ⟨t, e⟩
  refine SrtO.sorted_pairsO (k := fun u => keyV X.K H0 (backV u)) hl.isList (by rw [← rv.length]; exact hz) (fun v hv => ?_) fun h' d out h1 h2 kp hd' hn => ?_
  · obtain ⟨t, rfl⟩ := e2 v hv
    have hm : V.ref t ∈ xs := by rw [e1]; exact List.mem_map.mpr ⟨_, hv, rfl⟩
    obtain ⟨t', e, ht⟩ := dp_pair (hpair _ hm)
    cases e
    obtain ⟨its2, r2, ⟨o, ho, hc, n, hd⟩, _⟩ := I.tuple (sqT_mono sub ht)
    obtain ⟨u1, u2, rfl, ri, rj⟩ := vals2 r2
    obtain ⟨t1, rfl⟩ := ri
    obtain ⟨t2, rfl⟩ := rj
    exact ⟨t, o, t1, t2, n, rfl, ho, hc, hd⟩
  · have h3 : ∀ u ∈ out, ∃ a, u = Value.ref a := fun u hu => e2 u (h2.perm.mem_iff.mp hu)
    obtain ⟨n, hn⟩ := hn
    have hb : SrtO.Stb (ltP (keyV X.K H0)) (out.map backV) xs := by
      rw [e1]
      exact SrtO.Stb.map (ltP_swo (keyV X.K H0)) backV h2
    have hsrt : SrtO.Srtd (ltP (keyV X.K H0)) (out.map backV) := SrtO.srtd_map h1
    have heq : (out.map backV).map (keyV X.K H0) = sortP ps := by
      refine sorted_uniq ?_ ?_ (sortP_sorted ps)
      · refine List.Perm.trans (hb.perm.map (keyV X.K H0)) ?_
        rw [hkeys]
        exact (sortP_perm ps).symm
      · rw [List.pairwise_map]
        refine List.Pairwise.imp ?_ hsrt
        intro x y hxy
        unfold lexLe
        rw [Bool.not_eq_true']
        exact hxy
    refine ⟨.ref d, upd H d (.lst (out.map backV)), I.laid (t' := s.toks) kp hd' ⟨?_, out, n, vals_back h3, hn⟩, rfl, q _ d ?_ (I.hok.fresh hd')⟩
    · rw [hb.len]; exact hz
    · rw [← heq]
      exact dpa_keys fun y hy => hpair y (hb.perm.mem_iff.mp hy)
theorem cf_sortP {ps : List (Int × Int)} : CF K (rSortP K) [.list (ps.map encP)] ((sortP ps).map encP) := fun H H0 vs s k Q q => by
  obtain ⟨v, rfl, kk⟩ := dq1 k
  obtain ⟨a, xs, rfl, h1, h2⟩ := kk.lst s
  exact ⟨H0, a, xs, ps, rfl, s, h1, h2, fun ys p hy np => q p ys _ H0 (.dirty s np) np upd_same (sub_none s np) hy⟩
end EL

namespace EL
open PySem PySem.Spec PyProof.Rows L2
variable {K : PySem.W.Frag}

/-! ### * of ints, list * int -/
def rMul (K : PySem.W.Frag) : R2 := fun x y H Q => rI CMul (fun i j => .int (i * j)) x y H Q ∨ rRep x y H Q
theorem op_mulA {X : Cx} : OpR X (binaryOp .Mult) (rMul X.K) := op_mul.or op_rep
section
variable {ρ : List Sl} {t ta tb tc te : TE} {d x y z : D} {ds es : List D} {i : Nat}
theorem rd_mul {i j : Int} (h : CMul i j) : RD K (rMul K) (.int i) (.int j) (.int (i * j)) := fun H H0 v u s k1 k2 Q q => .inl (rd_I (K := K) h H H0 v u s k1 k2 Q q)
theorem rd_mod {i j : Int} (h : 0 < j) : RD K (rI (fun _ j => 0 < j) fun i j => .int (i % j)) (.int i) (.int j) (.int (i % j)) := rd_I h
theorem rd_fdiv {i j : Int} (h : 0 < j ∧ j < 1073741824) : RD K (rI CDiv fun i j => .int (i / j)) (.int i) (.int j) (.int (i / j)) := rd_I h
theorem rd_pow {i j : Int} (h : CPow i j) : RD K (rI CPow fun i j => .int (i ^ j.toNat)) (.int i) (.int j) (.int (i ^ j.toNat)) := rd_I h
/-! ### slices -/
def rSl (K : PySem.W.Frag) : V → Option Int → Option Int → Hp → VK → Prop := fun x lo hi H Q => rSlS x lo hi H Q ∨ (rSlL K x lo hi H Q ∨ rSlA K x lo hi H Q)
theorem sl_any {X : Cx} : SlR X (rSl X.K) := sl_str.or (sl_list.or sl_tupA)
theorem es_S {z : Str} {tl th : TO} {lo hi : Option Int} (h : EvQ K ta ρ (.str z)) (h1 : EvO K tl ρ lo) (h2 : EvO K th ρ hi) (hl : z.length ≤ sizeLine) : EvD K (tSl (rSl K) ta tl th) ρ (.str (cutS z lo hi)) := fun B B0 σ H H0 r Q q =>
  h B B0 σ H H0 r _ fun v H1 H01 w1 k1 => h1 B B0 σ H1 H01 (r.step w1) _ fun H2 H02 w2 => h2 B B0 σ H2 H02 ((r.step w1).step w2) _ fun H3 H03 w3 => by
    rw [k1.str]
    exact .inl ⟨z, rfl, hl, q _ H3 H03 ((w1.trans w2).trans w3) (.str _)⟩
theorem es_L {tl th : TO} {lo hi : Option Int} (h : EvQ K ta ρ (.list ds)) (h1 : EvO K tl ρ lo) (h2 : EvO K th ρ hi) : EvF K (tSl (rSl K) ta tl th) ρ (cutD ds lo hi) := fun B B0 σ H H0 r Q q =>
  h B B0 σ H H0 r _ fun v H1 H01 w1 k1 => h1 B B0 σ H1 H01 (r.step w1) _ fun H2 H02 w2 => h2 B B0 σ H2 H02 ((r.step w1).step w2) _ fun H3 H03 w3 => by
    obtain ⟨a, xs, rfl, g1, g2⟩ := ((k1.mono w2).mono w3).lst w3.sub
    refine .inr (.inl ⟨a, xs, rfl, g1, fun p np => q p _ _ H03 (((w1.trans w2).trans w3).trans (.dirty w3.sub np)) (((w1.trans w2).trans w3).e.free np) upd_same (sub_none w3.sub np) ?_⟩)
    unfold cutV cutD
    rw [dpa_len g2]
    exact dpa_take _ (dpa_drop _ g2)
theorem es_T {tl th : TO} {lo hi : Option Int} (h : EvQ K ta ρ (.tuple ds)) (h1 : EvO K tl ρ lo) (h2 : EvO K th ρ hi) : EvD K (tSl (rSl K) ta tl th) ρ (.tuple (cutD ds lo hi)) := fun B B0 σ H H0 r Q q =>
  h B B0 σ H H0 r _ fun v H1 H01 w1 k1 => h1 B B0 σ H1 H01 (r.step w1) _ fun H2 H02 w2 => h2 B B0 σ H2 H02 ((r.step w1).step w2) _ fun H3 H03 w3 => by
    have k3 := (k1.mono w2).mono w3
    obtain ⟨a, xs, rfl, g1, g2⟩ := k3.tup
    have hc : DpAll K H03 (cutV xs lo hi) (cutD ds lo hi) := by
      unfold cutV cutD
      rw [dpa_len g2]
      exact dpa_take _ (dpa_drop _ g2)
    refine .inr (.inr ⟨a, xs, rfl, sqT_mono w3.sub g1, fun hw => ?_, fun hw p np => ?_⟩)
    · refine q _ H3 H03 ((w1.trans w2).trans w3) (.tup g1 ?_)
      have e : cutV xs lo hi = xs := by
        unfold cutV
        rw [hw.1, hw.2]
        simp
      rw [e] at hc
      exact hc
    · exact q _ _ (upd H03 p (.tup (cutV xs lo hi))) (((w1.trans w2).trans w3).trans (.clean w3.sub np)) (.tup (.of upd_same) (dpa_mono (same_new (sub_none w3.sub np)) hc))

/-! ### truth -/
def tTru (K : PySem.W.Frag) (ta : TE) : TT := fun σ H Q => ta σ H fun x H' => ∃ k, TruV K x H' k ∧ Q k H'
theorem pt_tru {X : Cx} {a : Expr} (ha : PE X a ta) (he : ∀ whole, isTrue a X.env whole = (do let v ← whole; standAt a.pos; holding [v] (truthy v)) := by intro _; rfl) : PT X a (tTru X.K ta) := pt_truth ha he
theorem et_truB {b : Bool} (h : EvQ K ta ρ (.bool b)) : EvT K (tTru K ta) ρ b := fun B B0 σ H H0 r Q q => h B B0 σ H H0 r _ fun v H1 H01 w k => by
  rw [k.bl]; exact ⟨b, rfl, q H1 H01 w⟩
theorem et_truI {j : Int} (h : EvQ K ta ρ (.int j)) : EvT K (tTru K ta) ρ (j != 0) := fun B B0 σ H H0 r Q q => h B B0 σ H H0 r _ fun v H1 H01 w k => by
  rw [k.int]; exact ⟨_, rfl, q H1 H01 w⟩
theorem dpa_empty {H : Hp} {vs : List V} {ds : List D} (h : DpAll K H vs ds) : vs.isEmpty = ds.isEmpty := by
  cases h <;> rfl
theorem et_truL (h : EvQ K ta ρ (.list ds)) : EvT K (tTru K ta) ρ (!ds.isEmpty) := fun B B0 σ H H0 r Q q => h B B0 σ H H0 r _ fun v H1 H01 w k => by
  obtain ⟨a, xs, rfl, h1, h2⟩ := k.lst w.sub
  exact ⟨_, .inl ⟨xs, h1, by rw [dpa_empty h2]⟩, q H1 H01 w⟩
theorem et_truT (h : EvQ K ta ρ (.tuple ds)) : EvT K (tTru K ta) ρ (!ds.isEmpty) := fun B B0 σ H H0 r Q q => h B B0 σ H H0 r _ fun v H1 H01 w k => by
  obtain ⟨a, xs, rfl, h1, h2⟩ := k.tup
  exact ⟨_, .inr (.inl ⟨xs, sqT_mono w.sub h1, by rw [dpa_empty h2]⟩), q H1 H01 w⟩

/-! ### in the general place: any value -/
theorem eq_op {r : R2} (ha : EvQ K ta ρ x) (hb : EvQ K tb ρ y) (hr : RD K r x y z) : EvQ K (tOp r ta tb) ρ z := (ev_op ha hb hr).q
theorem eq_opF {r : R2} (ha : EvQ K ta ρ x) (hb : EvQ K tb ρ y) (hr : RF K r x y ds) : EvQ K (tOp r ta tb) ρ (.list ds) := (ev_opF ha hb hr).q

/-! ### defs that are called -/
structure Cal (Pg : Program) (w : World) (K : PySem.W.Frag) (mg : Str → Option Value) (base : Heap) (x : Str) (ps : List Str) (k : Nat) (sp : Sp) : Prop where
  ex : ∃ (f : Addr) (fd : FuncData), FnOk Pg w K mg base CX0 k f fd ps sp ∧ mg x = some (.ref f) ∧ PySem.W.keepIn K (.ref f) = true ∧ Binds K fd ps []
theorem pe_cal {X : Cx} {x : Str} {ps : List Str} {k : Nat} {sp : Sp} {e : Expr} {es : List Expr} {t : TA} {p pos : Pos} (c : Cal X.prog X.w X.K X.mg X.base x ps k sp) (hr : Room k X.A) (ha : PA X (e :: es) t) (hg : Gl X x := by rfl)
    (hdb : (x == ("__debug__" : Str)) = false := by decide) (he : starEach (e :: es) X.env = (false, eval e X.env) :: starEach es X.env := by rfl) (hpl : (backTo pos (starEach es X.env)).any (·.1) = false := by rfl) :
    PE X (.Call (.Name x p) (e :: es) [] pos) (tCall sp [] E0 t) := by
  obtain ⟨f, fd, F, hm, hk, hb⟩ := c.ex
  exact pe_call F hr hg hm hk hb .nil pass0 ha hdb he hpl
/-- the promise weakened -/
theorem spD_imp {Pre Pre' : List D → Prop} {res : List D → D} (h : ∀ ds, Pre' ds → Pre ds) {vs : List V} {H : Hp} {Q : VK} {E : XK} (q : spD K Pre' res vs H Q E) : spD K Pre res vs H Q E := by
  obtain ⟨H0, ds, s, k, p, q⟩ := q
  exact ⟨H0, ds, s, k, h ds p, q⟩
end
end EL

namespace EL
open PySem PySem.Spec PyProof.Rows L2
variable {K : PySem.W.Frag}
section
variable {ρ : List Sl} {t ta tb tc te : TE} {d x y z : D} {ds es out : List D} {i : Nat}
/-- a comprehension without a test, its items told one by one -/
theorem ef_lcI {wi : TI} {g : TG} {te : TE} {vs is : List Nat} (hi : Ev_It K wi ρ ds) (hsub : ∀ i ∈ is, i ∈ vs) (ho : out.length = ds.length)
    (hs : ∀ (i : Nat) (d e : D), ds[i]? = some d → out[i]? = some e → ∃ ρ2, Bd K g is d (wipeS ρ vs) ρ2 ∧ EvD K te ρ2 e)
    (hl : ds.length < sizeLine) : EvF K (tLc wi g tYes te vs) ρ out := fun B B0 σ H H0 r Q q =>
  hi B B0 σ H H0 r _ fun J H1 H01 w ok D nD => by
    refine ⟨fun i n H' => n = ds.length - i ∧ i ≤ ds.length ∧ ∃ H0' acc, Wd H1 H01 H' H0' ∧ H' D = some (.lst acc) ∧ H0' D = none ∧ DpAll K H0' acc (out.take i), ⟨_, rfl, Nat.zero_le _, H01, [], .dirty w.sub nD, upd_same, sub_none w.sub nD, .nil⟩, ?_⟩
    rintro i n H' ⟨rfl, hle, H0', acc, w1, e1, e0, k1⟩
    have r1 : Rp K B B0 (wipeS ρ vs) (wipe σ vs) H' H0' := rp_wipe ((r.step w).step w1) vs
    obtain ⟨ok1, ok2⟩ := ok i H' H0' w1.e0 w1.sub
    by_cases hlt : i < ds.length
    · obtain ⟨go, yl⟩ := ok2 ds[i] (List.getElem?_eq_getElem hlt)
      have hlo : i < out.length := by omega
      obtain ⟨ρ2, hb, hf⟩ := hs i ds[i] out[i] (List.getElem?_eq_getElem hlt) (List.getElem?_eq_getElem hlo)
      have tk : out.take (i + 1) = out.take i ++ [out[i]] := by rw [List.take_add_one, List.getElem?_eq_getElem hlo]; rfl
      refine .inr ⟨go, fun H2 => ∃ H02 acc, Wd H1 H01 H2 H02 ∧ H2 D = some (.lst acc) ∧ H02 D = none ∧ DpAll K H02 acc (out.take (i + 1)), fun H2 ⟨a, b, z⟩ => ⟨ds.length - (i + 1), by omega, rfl, hlt, a, b, z⟩, fun x H2 hy => ?_⟩
      obtain ⟨H02, w2, k2⟩ := yl x H2 hy
      refine hb B B0 _ H2 H02 x (r1.step w2) k2 _ fun σ2 r2 e2 => ⟨by rw [e2 vs hsub, wipe_twice], ?_⟩
      have e3 : H2 D = some (.lst acc) := w2.e _ _ e1
      have z3 : H02 D = none := w2.stay0 e1 e0
      unfold tYes
      dsimp only
      rw [if_pos rfl]
      refine hf B B0 σ2 H2 H02 r2 _ fun v H4 H04 w4 k4 => ⟨acc, w4.e _ _ e3, ?_, H04, acc ++ [v], ?_, upd_same, w4.stay0 e3 z3, ?_⟩
      · rw [dpa_len k1, List.length_take]
        omega
      · have w5 := (w1.trans w2).trans w4
        refine ⟨fun b o hb => by rw [upd_ne (ne_of_none hb nD)]; exact w5.e b o hb, w5.e0, fun b o hb => ?_, w5.new⟩
        rw [upd_ne (ne_of_none hb (w4.stay0 e3 z3))]
        exact w5.sub b o hb
      · rw [tk]
        exact dpa_app (dpa_mono (w2.trans w4).e0 k1) (.cons k4 .nil)
    · have e : i = ds.length := by omega
      subst e
      rw [List.take_of_length_le (by omega)] at k1
      exact .inl ⟨ok1 (Nat.le_refl _), q D acc H' H0' (w.trans w1) (w.e.free nD) e1 e0 k1⟩

/-! ### texts as lists of signs -/
def mkS (l : List Nat) : Str := ⟨l.toArray⟩
theorem tl_mkS (l : List Nat) : (mkS l).cps.toList = l := rfl
theorem len_mkS (l : List Nat) : (mkS l).length = l.length := by simp [mkS, Str.length]
theorem mkS_app (a b : List Nat) : mkS a ++ mkS b = mkS (a ++ b) := TL.ext_tl (by rw [TL.tl_append]; rfl)
theorem mkS_tl (s : Str) : mkS s.cps.toList = s := TL.mk_tl s
theorem mkS_inj {a b : List Nat} (h : mkS a = mkS b) : a = b := by
  have := congrArg (fun s : Str => s.cps.toList) h
  exact this
theorem dig_str {i : Int} (h0 : 0 ≤ i) (h : i < 10) : Str.ofString (toString i) = mkS [48 + i.toNat] := by
  obtain ⟨n, rfl⟩ := Int.eq_ofNat_of_zero_le h0
  refine TL.ext_tl ?_
  have e := TL.tl_num n
  rw [TL.numL_lt (by omega)] at e
  exact e
theorem ev_cM {s : Str} {l : List Nat} (e : s = mkS l) : EvD K (tC (.str s)) ρ (.str (mkS l)) := ev_cstr.to (by rw [e])
theorem rd_addM {a b : List Nat} (h : a.length + b.length ≤ 1000) : RD K (rAdd K) (.str (mkS a)) (.str (mkS b)) (.str (mkS (a ++ b))) := by
  rw [← mkS_app]
  refine rd_addS' ?_
  rw [len_mkS, len_mkS]
  exact sz_le h
theorem cd_dig {i : Int} (h0 : 0 ≤ i) (h : i < 10) : CD K (fun xs H Q => ∃ i, xs = [.int i] ∧ i.natAbs.log2 < 1920 ∧ Q (.str (toString i)) H) [.int i] (.str (mkS [48 + i.toNat])) := by
  rw [← dig_str h0 h]
  refine cd_str ?_
  exact Nat.lt_of_le_of_lt (Nat.log2_le_self _) (by omega)
theorem ev_fmtD {i : Int} (h : EvQ K te ρ (.int i)) (h0 : 0 ≤ i) (h1 : i < 10) : EvD K (tFmt te) ρ (.str (mkS [48 + i.toNat])) := by
  rw [← dig_str h0 h1]
  exact ev_fmtI h (Nat.lt_of_le_of_lt (Nat.log2_le_self _) (by omega))
theorem ev_fmtM {l : List Nat} (h : EvQ K te ρ (.str (mkS l))) (hl : l.length ≤ 1000) : EvD K (tFmt te) ρ (.str (mkS l)) := ev_fmtS h (by rw [len_mkS]; exact sz_le hl)
theorem evj_M {t : TE} {ts : List TE} {acc l : List Nat} {o : Str} (h : EvQ K t ρ (.str (mkS l))) (hl : acc.length + l.length ≤ 1000) (r : EvJ K ρ ts (mkS (acc ++ l)) o) : EvJ K ρ (t :: ts) (mkS acc) o := by
  rw [← mkS_app] at r
  refine .cons h ?_ r
  rw [mkS_app, len_mkS, List.length_append]
  exact sz_le hl
theorem emp_mkS : Str.empty = mkS [] := rfl
/-- the item of a text -/
theorem rd_ixM {l : List Nat} {i : Int} {c : Nat} (hl : l.length ≤ 1000) (e : atI l i = some c) : RD K (rIx K) (.str (mkS l)) (.int i) (.str (mkS [c])) := rd_ixS (by rw [len_mkS]; exact sz_le hl) (by rw [tl_mkS]; exact e)
theorem cutS_mkS {l : List Nat} {a b : Nat} (ha : a ≤ b) (hb : b ≤ l.length) : cutS (mkS l) (some (a : Int)) (some (b : Int)) = mkS ((l.drop a).take (b - a)) := by
  unfold cutS
  rw [tl_mkS, len_mkS, HT.sIx_nat, HT.sIx_nat, Nat.min_eq_left (show a ≤ l.length by omega), Nat.min_eq_left hb]
  rfl
theorem es_M {l : List Nat} {tl th : TO} {a b : Nat} (h : EvQ K ta ρ (.str (mkS l))) (h1 : EvO K tl ρ (some (a : Int))) (h2 : EvO K th ρ (some (b : Int))) (hl : l.length ≤ 1000) (ha : a ≤ b) (hb : b ≤ l.length) :
    EvD K (tSl (rSl K) ta tl th) ρ (.str (mkS ((l.drop a).take (b - a)))) := by
  rw [← cutS_mkS ha hb]
  exact es_S h h1 h2 (by rw [len_mkS]; exact sz_le hl)
theorem EvO.to {t : TO} {a b : Option Int} (h : EvO K t ρ a) (e : a = b) : EvO K t ρ b := e ▸ h

/-! ### data that may be compared -/
def Shp (n : Nat) (d : D) : Prop := d.canLay0 = true ∧ d.depth ≤ n
theorem Shp.shaped {n : Nat} {d : D} (h : Shp n d) (hn : n ≤ 64) : SeqAt.shaped d = true := by
  unfold SeqAt.shaped
  rw [h.1, decide_eq_true (Nat.le_trans h.2 hn)]
  rfl
theorem shp_all {n : Nat} : ∀ {ds : List D}, (∀ d ∈ ds, Shp n d) → PyData.canLayAll0 ds = true ∧ PyData.depthAll ds ≤ n
  | [], _ => ⟨by rw [PyData.canLayAll0], by rw [PyData.depthAll]; exact Nat.zero_le _⟩
  | d :: ds, h => by
    obtain ⟨h1, h2⟩ := shp_all (ds := ds) fun e he => h e (List.mem_cons_of_mem _ he)
    obtain ⟨g1, g2⟩ := h d List.mem_cons_self
    refine ⟨by rw [PyData.canLayAll0, g1, h1]; rfl, ?_⟩
    rw [PyData.depthAll]
    exact Nat.max_le.mpr ⟨g2, h2⟩
theorem shp_tup {n : Nat} {ds : List D} (h : ∀ d ∈ ds, Shp n d) : Shp (n + 1) (.tuple ds) := by
  obtain ⟨h1, h2⟩ := shp_all h
  exact ⟨by rw [PyData.canLay0]; exact h1, by rw [PyData.depth]; omega⟩
theorem shp_list {n : Nat} {ds : List D} (h : ∀ d ∈ ds, Shp n d) : Shp (n + 1) (.list ds) := by
  obtain ⟨h1, h2⟩ := shp_all h
  exact ⟨by rw [PyData.canLay0]; exact h1, by rw [PyData.depth]; omega⟩
theorem shp_int {n : Nat} (i : Int) : Shp n (.int i) := ⟨by rw [PyData.canLay0], by rw [PyData.depth]; exact Nat.zero_le _⟩
theorem shp_bool {n : Nat} (i : Bool) : Shp n (.bool i) := ⟨by rw [PyData.canLay0], by rw [PyData.depth]; exact Nat.zero_le _⟩
theorem shp_non {n : Nat} : Shp n .none := ⟨by rw [PyData.canLay0], by rw [PyData.depth]; exact Nat.zero_le _⟩
theorem shp_mkS {n : Nat} {l : List Nat} (h : ∀ c ∈ l, c < 0x110000) : Shp n (.str (mkS l)) := by
  refine ⟨?_, by rw [PyData.depth]; exact Nat.zero_le _⟩
  rw [PyData.canLay0]
  unfold PyData.strOk mkS
  rw [List.all_toArray, List.all_eq_true]
  intro c hc
  exact decide_eq_true (h c hc)
theorem shp_pair {p : Int × Int} : Shp 1 (encP p) := shp_tup fun d hd => by
  rcases List.mem_cons.mp hd with rfl | hd
  · exact shp_int _
  · rcases List.mem_cons.mp hd with rfl | hd
    · exact shp_int _
    · cases hd
theorem rd_neSame {d : D} {n : Nat} (h : Shp n d) (hn : n ≤ 64) : RD K (rNeD K) d d (.bool false) := by
  have e : (!PyData.eqv d d) = false := by rw [SeqAt.eqv_refl d h.1]; rfl
  rw [← e]
  exact rd_ne (h.shaped hn) (h.shaped hn)
theorem rd_eqSame {d : D} {n : Nat} (h : Shp n d) (hn : n ≤ 64) : RD K (rEqD K) d d (.bool true) := by
  have e : PyData.eqv d d = true := SeqAt.eqv_refl d h.1
  rw [← e]
  exact rd_eq (h.shaped hn) (h.shaped hn)
theorem rd_neM {a b : List Nat} (ha : ∀ c ∈ a, c < 0x110000) (hb : ∀ c ∈ b, c < 0x110000) : RD K (rNeD K) (.str (mkS a)) (.str (mkS b)) (.bool (!decide (a = b))) := by
  have e : decide (a = b) = decide (mkS a = mkS b) := by
    by_cases h : a = b
    · subst h; simp
    · rw [decide_eq_false h, decide_eq_false fun z => h (mkS_inj z)]
  rw [e]
  exact rd_neS' ((shp_mkS (n := 0) ha).shaped (by omega)) ((shp_mkS (n := 0) hb).shaped (by omega))
/-- pairs of ints in order -/
theorem rd_leP {p q : Int × Int} : RD K (rLe K) (encP p) (encP q) (.bool (lexLe p q)) := fun H H0 v u s k1 k2 Q h => by
  obtain ⟨a, rfl, h1⟩ := sqT_ints (ns := [p.1, p.2]) s k1
  obtain ⟨b, rfl, h2⟩ := sqT_ints (ns := [q.1, q.2]) s k2
  refine .inr ⟨a, b, [p.1, p.2], [q.1, q.2], rfl, rfl, h1, h2, ?_⟩
  have e : Ob.lexAt (fun j => decide ([p.1, p.2].getD j 0 = [q.1, q.2].getD j 0)) (fun j => decide ([p.1, p.2].getD j 0 ≤ [q.1, q.2].getD j 0)) (decide ([p.1, p.2].length ≤ [q.1, q.2].length)) 0 (min [p.1, p.2].length [q.1, q.2].length) = lexLe p q := by
    show (if decide (p.1 = q.1) = true then (if decide (p.2 = q.2) = true then true else decide (p.2 ≤ q.2)) else decide (p.1 ≤ q.1)) = lexLe p q
    by_cases h1 : p.1 = q.1
    · rw [decide_eq_true h1, if_pos rfl]
      by_cases h2 : p.2 = q.2
      · rw [decide_eq_true h2, if_pos rfl]
        exact (lexLe_iff.mpr (by omega)).symm
      · rw [decide_eq_false h2, if_neg Bool.false_ne_true]
        by_cases h3 : p.2 ≤ q.2
        · rw [decide_eq_true h3]; exact (lexLe_iff.mpr (by omega)).symm
        · rw [decide_eq_false h3]
          cases hl : lexLe p q with
          | false => rfl
          | true => have := lexLe_iff.mp hl; omega
    · rw [decide_eq_false h1, if_neg Bool.false_ne_true]
      by_cases h3 : p.1 ≤ q.1
      · rw [decide_eq_true h3]; exact (lexLe_iff.mpr (by omega)).symm
      · rw [decide_eq_false h3]
        cases hl : lexLe p q with
        | false => rfl
        | true => have := lexLe_iff.mp hl; omega
  rw [e]
  exact h _ H H0 (.refl s) (.bl _)
end
end EL

/-! the rules with the written part K told apart (within a comprehension it must not hang on the block's own names) -/
namespace EL
open PySem PySem.Spec PyProof.Rows L2
theorem law_sp {K : PySem.W.Frag} {H : Hp} {a : Addr} {ns : List Int} {Pre : List D → Prop} {res : List D → D} {E : XK} (hl : ns.length ≤ 63) (hS : SqL K H a (ns.map V.int)) (hp : Pre [.list (ns.map .int)]) (hr : res [.list (ns.map .int)] = .bool true) :
    spD K Pre res [.ref a] H (fun v _ => v = .bl true) E := by
  refine ⟨H, [.list (ns.map .int)], Same.refl _, .cons (.lst hS (dpa_of_ints ns)) .nil, hp, fun v H' H0' _ k => ?_⟩
  rw [hr] at k
  cases k
  rfl
end EL
namespace EK
open PySem PySem.Spec PyProof.Rows L2 EL
section
variable {X : Cx} {K : PySem.W.Frag}
theorem add (hK : X.K = K := by rfl) : OpR X (binaryOp .Add) (EL.rAdd K) := hK ▸ op_addA
theorem mul (hK : X.K = K := by rfl) : OpR X (binaryOp .Mult) (rMul K) := hK ▸ op_mulA
theorem lt (hu : X.A.units < cLine) (hK : X.K = K := by rfl) : OpR X (compareOp .Lt) (rLt K) := hK ▸ op_ltA hu
theorem le (hu : X.A.units < cLine) (hK : X.K = K := by rfl) : OpR X (compareOp .LtE) (rLe K) := hK ▸ op_leA hu
theorem eq (hu : X.A.units + 64 < cLine) (hK : X.K = K := by rfl) : OpR X (compareOp .Eq) (rEqD K) := hK ▸ op_eqD hu
theorem ne (hu : X.A.units + 64 < cLine) (hK : X.K = K := by rfl) : OpR X (compareOp .NotEq) (rNeD K) := hK ▸ op_neD hu
theorem isIn (hK : X.K = K := by rfl) : OpR X (compareOp .In) (rIn K false) := hK ▸ op_in_seq
theorem notIn (hK : X.K = K := by rfl) : OpR X (compareOp .NotIn) (rIn K true) := hK ▸ op_notIn_seq
theorem ix (hK : X.K = K := by rfl) : IxR X (rIx K) := hK ▸ ix_seq
theorem sl (hK : X.K = K := by rfl) : SlR X (rSl K) := hK ▸ sl_any
theorem len (hK : X.K = K := by rfl) : CallR X (.builtin "len") (EL.rLen K) := hK ▸ call_lenA
theorem tuple (hK : X.K = K := by rfl) : CallR X (.type "tuple") (EL.rTuple K) := hK ▸ call_tupleA
theorem list (hK : X.K = K := by rfl) : CallR X (.type "list") (EL.rList K) := hK ▸ call_listA
theorem sortP (hK : X.K = K := by rfl) : CallR X (.builtin "sorted") (rSortP K) := hK ▸ cr_sortP
theorem isi (hK : X.K = K := by rfl) : CallR X (.builtin "isinstance") (rIsi K) := hK ▸ call_isi
theorem join (hK : X.K = K := by rfl) : MtR X "str.join" (EL.rJoinS K) := hK ▸ mt_joinA
theorem seq {tg l : Expr} {tl : TE} (hl : PE X l tl) (hK : X.K = K := by rfl) : PI X tg l (iSeq K tl) := hK ▸ pi_seq hl
theorem enum {e : Expr} {ta : TA} {p pos tpos : Pos} {elts : List Expr} {kk : Nat} (hg : Gl X "enumerate") (hm : X.mg "enumerate" = none) (ha : PA X [e] ta) (hs : starEach [e] X.env = [(false, eval e X.env)] := by rfl) (hK : X.K = K := by rfl) :
    PI X (.Tuple elts kk tpos) (.Call (.Name "enumerate" p) [e] [] pos) (iEnum K ta) := hK ▸ pi_enum hg hm ha hs
theorem tru {a : Expr} {ta : TE} (ha : PE X a ta) (he : ∀ whole, isTrue a X.env whole = (do let v ← whole; standAt a.pos; holding [v] (truthy v)) := by intro _; rfl) (hK : X.K = K := by rfl) : PT X a (EL.tTru K ta) := hK ▸ pt_tru ha he
theorem tup {es : List Expr} {k : Nat} {t : TGs} {n : Nat} {pos : Pos} (hc : X.calm = true) (h : PGs X es t) (hn : (assignEach es X.env).length = n := by rfl) (hst : (assignEach es X.env).findIdx? (·.1) = none := by rfl) (hK : X.K = K := by rfl) :
    PG X (.Tuple es k pos) (gTup K n t) := hK ▸ pg_tup hc h hn hst
end
end EK

open PySem PySem.Spec PyProof.Rows L2 EL
/-! tactics of the layer: the word that an expression, an operation is worth -/
local macro_rules | `(tactic| walk_at "side") => `(tactic| first | omega | decide | assumption | (exact Or.inr ⟨by omega, by omega⟩) | (exact Or.inl ⟨by omega, by omega⟩) | (exact ⟨by omega, by omega⟩) | (exact ⟨by omega, by omega, by omega⟩))
local macro_rules | `(tactic| walk_at "rd") => `(tactic| first
  | exact rd_addI | exact rd_I0 | exact rd_lt | exact rd_le | exact rd_gt | exact rd_ge | exact rd_eqI' | exact rd_neI' | exact rd_isN | exact rd_notN
  | (apply rd_mod; walk_at "side") | (apply rd_fdiv; walk_at "side") | (apply rd_mul; walk_at "side") | (apply rd_pow; walk_at "side")
  | (apply rd_ixT; rfl) | (apply rd_ixL; rfl))
local macro_rules | `(tactic| walk_at "cd") => `(tactic| first
  | exact cd_int | exact cd_lenL | exact cd_lenT | exact cd_tupL | exact cd_tupT
  | (apply cd_str; walk_at "side"))
local macro_rules | `(tactic| walk_at "cf") => `(tactic| first | exact cf_sortP | exact cf_listT | exact cf_listL)
local macro_rules | `(tactic| walk_at "q") => `(tactic| first
  | ((with_reducible apply EvD.q); (with_reducible apply ev_var); exact rfl)
  | ((with_reducible apply ev_own); exact rfl)
  | ((with_reducible apply EvD.q); with_reducible exact ev_cint) | ((with_reducible apply EvD.q); with_reducible exact ev_cstr) | ((with_reducible apply EvD.q); with_reducible exact ev_cbl) | ((with_reducible apply EvD.q); with_reducible exact ev_cnon)
  | ((with_reducible apply eq_op); walk_at "q"; walk_at "q"; walk_at "rd")
  | ((with_reducible apply EvD.q); (with_reducible apply ev_neg); walk_at "q")
  | ((with_reducible apply EvD.q); walk_at "d")
  | ((with_reducible apply EvF.q); walk_at "f"))
local macro_rules | `(tactic| walk_at "d") => `(tactic| first
  | ((with_reducible apply ev_var); exact rfl)
  | (with_reducible exact ev_cint) | (with_reducible exact ev_cstr) | (with_reducible exact ev_cbl) | (with_reducible exact ev_cnon)
  | ((with_reducible apply ev_op); walk_at "q"; walk_at "q"; walk_at "rd")
  | ((with_reducible apply ev_neg); walk_at "q")
  | ((with_reducible apply ev_tup); walk_at "c"; (exact sz_le (by simp)))
  | ((with_reducible apply ev_cb); walk_at "a"; walk_at "cd")
  | ((with_reducible apply ev_call); walk_at "c"; walk_at "pre")
  | ((with_reducible apply EvF.cl); walk_at "f"))
local macro_rules | `(tactic| walk_at "f") => `(tactic| first
  | ((with_reducible apply ev_lst); walk_at "c"; (exact sz_le (by simp)))
  | ((with_reducible apply ev_cbF); walk_at "a"; walk_at "cf")
  | ((with_reducible apply es_L); walk_at "q"; walk_at "o"; walk_at "o"))
local macro_rules | `(tactic| walk_at "a") => `(tactic| first
  | (with_reducible exact ea_nil)
  | ((with_reducible apply ea_cons); walk_at "q"; walk_at "a"))
local macro_rules | `(tactic| walk_at "c") => `(tactic| first
  | (with_reducible exact ec_nil)
  | ((with_reducible apply ec_cons); walk_at "d"; walk_at "c"))
local macro_rules | `(tactic| walk_at "o") => `(tactic| first
  | (with_reducible exact eo_none)
  | ((with_reducible apply eo_some); walk_at "q"))
local macro_rules | `(tactic| walk_at "t") => `(tactic| first
  | ((with_reducible apply et_test); walk_at "q")
  | ((with_reducible apply et_B); walk_at "q")
  | ((with_reducible apply et_not); walk_at "t")
  | ((with_reducible apply et_truB); walk_at "q")
  | ((with_reducible apply et_truI); walk_at "q")
  | (with_reducible exact et_yes))
namespace K1
open PySem PySem.Spec PyProof.Rows L2 EL
def topS (i : Nat) : Stmt := PySem.Challenge.pw_havenorhunt_k01_graph_texts.main.body.getD i (.Pass ⟨0, 0, 0, 0⟩)
section
variable {Pg : Program} {w : World} {K : PySem.W.Frag} {mg : Str → Option Value} {base : Heap}
abbrev sread_graph : Stmt := topS 6
theorem scread_graph : FnScope ["text", "count", "edges", "at"] ["text"] (defScope sread_graph) := ⟨rfl, rfl, rfl, by decide +kernel, rfl, by decide +kernel, by decide +kernel⟩

abbrev s_read_edge : Stmt := topS 7
theorem sc_read_edge : FnScope ["word"] ["word"] (defScope s_read_edge) := ⟨rfl, rfl, rfl, by decide +kernel, rfl, by decide +kernel, by decide +kernel⟩

abbrev s_edges_fit : Stmt := topS 8
theorem sc_edges_fit : FnScope ["count", "edges", "before", "edge", "first", "second"] ["count", "edges"] (defScope s_edges_fit) := ⟨rfl, rfl, rfl, by decide +kernel, rfl, by decide +kernel, by decide +kernel⟩

abbrev swrite_graph : Stmt := topS 9
theorem scwrite_graph : FnScope ["graph", "count", "edges", "first", "second"] ["graph"] (defScope swrite_graph) := ⟨rfl, rfl, rfl, by decide +kernel, rfl, by decide +kernel, by decide +kernel⟩

abbrev s_law_mixed : Stmt := topS 11
theorem sc_law_mixed : FnScope ["cell", "turn", "value", "first", "second", "third"] ["cell", "turn"] (defScope s_law_mixed) := ⟨rfl, rfl, rfl, by decide +kernel, rfl, by decide +kernel, by decide +kernel⟩

abbrev s_law_graph : Stmt := topS 12
theorem sc_law_graph : FnScope ["value", "most", "count", "thin", "left", "edges", "second", "first"] ["value", "most"] (defScope s_law_graph) := ⟨rfl, rfl, rfl, by decide +kernel, rfl, by decide +kernel, by decide +kernel⟩

abbrev slaw : Stmt := topS 13
theorem sclaw : FnScope ["script", "turn", "cell", "graph", "text", "first", "second", "told", "back"] ["script"] (defScope slaw) := ⟨rfl, rfl, rfl, by decide +kernel, rfl, by decide +kernel, by decide +kernel⟩

def mixed (cell turn : Int) : Int :=
  if 10 ^ 18 ≤ cell then cell else
    let first := (cell % 1000003 * 48271 + 69621 * (turn + 1)) % 2147483647
    let second := (first * 48271 + cell % 999983) % 2147483647
    let third := (second * 69621 + first) % 2147483647
    first + 2147483647 * second + 4611686014132420609 * third
def pre_mixed (ds : List D) : Prop := ∃ a b, ds = [.int a, .int b]
def res_mixed : List D → D
  | [.int a, .int b] => .int (mixed a b)
  | _ => .none
theorem ok_law_mixed {f : Addr} {fd : FuncData} {k : Nat} (F : Fun K "_law_mixed" "_law_mixed" s_law_mixed f fd) (m_int : mg "int" = none) : FnOk Pg w K mg base CX0 (k + 1) f fd ["cell", "turn"] (spD K pre_mixed res_mixed) := by
  refine fn_okD F sc_law_mixed (fun ds ⟨a, b, e⟩ => by rw [e]; rfl) fun cdv A outer s H E ds hr hp => ?_
  obtain ⟨c, u, rfl⟩ := hp
  refine ⟨_, (pss_cons (ps_set (i := 2) sc_law_mixed.nd rfl (by first | exact Or.inl rfl | exact Or.inr rfl) (pe_callTy call_int1 (by rfl) m_int (by decide +kernel) (pa_cons (pv 0) pa_nil)))
      (pss_cons (ps_if (pt_cmpR op_ge (pv 2) (pe_op op_pow pe_int pe_int) (nomark _))
      (pss_one (ps_ret (pv 2)))
      pss_nil)
      (pss_cons (ps_set (i := 3) sc_law_mixed.nd rfl (by first | exact Or.inl rfl | exact Or.inr rfl) (pe_op op_mod (pe_op (EK.add (K := K)) (pe_op (EK.mul (K := K)) (pe_op op_mod (pv 2) pe_int) pe_int) (pe_op (EK.mul (K := K)) pe_int (pe_op (EK.add (K := K)) (pv 1) pe_int))) pe_int))
      (pss_cons (ps_set (i := 4) sc_law_mixed.nd rfl (by first | exact Or.inl rfl | exact Or.inr rfl) (pe_op op_mod (pe_op (EK.add (K := K)) (pe_op (EK.mul (K := K)) (pv 3) pe_int) (pe_op op_mod (pv 2) pe_int)) pe_int))
      (pss_cons (ps_set (i := 5) sc_law_mixed.nd rfl (by first | exact Or.inl rfl | exact Or.inr rfl) (pe_op op_mod (pe_op (EK.add (K := K)) (pe_op (EK.mul (K := K)) (pv 4) pe_int) (pv 3)) pe_int))
      (pss_one (ps_ret (pe_op (EK.add (K := K)) (pe_op (EK.add (K := K)) (pv 3) (pe_op (EK.mul (K := K)) pe_int (pv 4))) (pe_op (EK.mul (K := K)) pe_int (pv 5)))))))))), ?_⟩
  apply w_seq; apply w_set; · walk_at "d"
  apply w_seq; apply w_if; · walk_at "t"
  · intro h
    apply w_ret; · walk_at "d"
    have h2 : (10:Int) ^ 18 ≤ c := of_decide_eq_true h
    show PyData.int c = PyData.int (mixed c u)
    rw [mixed, if_pos h2]
  · intro h
    have h2 : ¬ (10:Int) ^ 18 ≤ c := of_decide_eq_false h
    apply w_nxt
    apply w_seq; apply w_set; · walk_at "d"
    apply w_seq; apply w_set; · walk_at "d"
    apply w_seq; apply w_set; · walk_at "d"
    apply w_ret; · walk_at "d"
    show _ = PyData.int (mixed c u)
    rw [mixed, if_neg h2]
/-! ### the law's own graphs -/
def gCell (v thin : Int) (second : Nat) (s : Int × List (Int × Int)) (first : Nat) : Int × List (Int × Int) :=
  let left := if s.1 = 0 then v + 7919 * ((first : Int) + 10 * (second : Int) + 1) else s.1
  (left / 4, if left % 4 < thin then s.2 ++ [((first : Int), (second : Int))] else s.2)
def gRow (v thin : Int) (s : Int × List (Int × Int)) (second : Nat) : Int × List (Int × Int) := (List.range second).foldl (gCell v thin second) s
def gAll (v thin left : Int) (n : Nat) : Int × List (Int × Int) := (List.range n).foldl (gRow v thin) (left, [])
def graphOf (v m : Int) : Int × List (Int × Int) := (1 + v % m, sortP (gAll v (1 + v / m % 3) (v / (3 * m)) (1 + v % m).toNat).2)
def encG (g : Int × List (Int × Int)) : D := .tuple [.int g.1, .tuple (g.2.map encP)]
def pre_graph (ds : List D) : Prop := ∃ v m, ds = [.int v, .int m] ∧ 1 ≤ m ∧ m ≤ 8
def res_graph : List D → D
  | [.int v, .int m] => encG (graphOf v m)
  | _ => .none
theorem gCell_len (v thin : Int) (second : Nat) (s : Int × List (Int × Int)) (first : Nat) : (gCell v thin second s first).2.length ≤ s.2.length + 1 := by
  unfold gCell
  dsimp only
  split <;> split <;> simp
theorem gRow_len (v thin : Int) (second : Nat) : ∀ (n : Nat) (s : Int × List (Int × Int)), ((List.range n).foldl (gCell v thin second) s).2.length ≤ s.2.length + n
  | 0, s => Nat.le_refl _
  | n + 1, s => by
    rw [List.range_succ, List.foldl_append]
    have h1 := gRow_len v thin second n s
    have h2 := gCell_len v thin second ((List.range n).foldl (gCell v thin second) s) n
    show (gCell v thin second ((List.range n).foldl (gCell v thin second) s) n).2.length ≤ _
    omega
theorem gAll_len (v thin left : Int) : ∀ n, n ≤ 8 → (gAll v thin left n).2.length ≤ 8 * n
  | 0, _ => Nat.le_refl _
  | n + 1, h => by
    have h1 := gAll_len v thin left n (by omega)
    have h2 := gRow_len v thin n n (gAll v thin left n)
    unfold gAll at h1 ⊢
    rw [List.range_succ, List.foldl_append]
    show (gRow v thin (gAll v thin left n) n).2.length ≤ _
    unfold gRow
    unfold gAll at h2 ⊢
    omega
theorem ok_law_graph {f : Addr} {fd : FuncData} {k : Nat} (F : Fun K "_law_graph" "_law_graph" s_law_graph f fd) (m_range : mg "range" = none) (m_tuple : mg "tuple" = none) (m_sorted : mg "sorted" = none) : FnOk Pg w K mg base CX0 (k + 1) f fd ["value", "most"] (spD K pre_graph res_graph) := by
  refine fn_okD F sc_law_graph (fun ds ⟨a, b, e, _⟩ => by rw [e]; rfl) fun cdv A outer s H E ds hr hp => ?_
  obtain ⟨v, m, rfl, h1, h8⟩ := hp
  have hv := Int.emod_nonneg v (show m ≠ 0 by omega)
  have hv2 := Int.emod_lt_of_pos v (show 0 < m by omega)
  refine ⟨_, (pss_cons (ps_set (i := 2) sc_law_graph.nd rfl (by first | exact Or.inl rfl | exact Or.inr rfl) (pe_op (EK.add (K := K)) pe_int (pe_op op_mod (pv 0) (pv 1))))
      (pss_cons (ps_set (i := 3) sc_law_graph.nd rfl (by first | exact Or.inl rfl | exact Or.inr rfl) (pe_op (EK.add (K := K)) pe_int (pe_op op_mod (pe_op op_fdiv (pv 0) (pv 1)) pe_int)))
      (pss_cons (ps_set (i := 4) sc_law_graph.nd rfl (by first | exact Or.inl rfl | exact Or.inr rfl) (pe_op op_fdiv (pv 0) (pe_op (EK.mul (K := K)) pe_int (pv 1))))
      (pss_cons (ps_set (i := 5) sc_law_graph.nd rfl (by first | exact Or.inl rfl | exact Or.inr rfl) (pe_lst pa_nil))
      (pss_cons (ps_for PassesOwn.never (by rfl) (pi_range1 (by rfl) m_range (pa_cons (pv 2) pa_nil)) (pg_name (i := 6) sc_law_graph.nd rfl (by first | exact Or.inl rfl | exact Or.inr rfl))
      (pss_one (ps_for PassesOwn.never (by rfl) (pi_range1 (by rfl) m_range (pa_cons (pv 6) pa_nil)) (pg_name (i := 7) sc_law_graph.nd rfl (by first | exact Or.inl rfl | exact Or.inr rfl))
      (pss_cons (ps_if (pt_cmpR (EK.eq (K := K) hr.units) (pv 4) pe_int (nomark _))
      (pss_one (ps_set (i := 4) sc_law_graph.nd rfl (by first | exact Or.inl rfl | exact Or.inr rfl) (pe_op (EK.add (K := K)) (pv 0) (pe_op (EK.mul (K := K)) pe_int (pe_op (EK.add (K := K)) (pe_op (EK.add (K := K)) (pv 7) (pe_op (EK.mul (K := K)) pe_int (pv 6))) pe_int)))))
      pss_nil)
      (pss_cons (ps_if (pt_cmpR (EK.lt (K := K) hr.units0) (pe_op op_mod (pv 4) pe_int) (pv 3) (nomark _))
      (pss_one (ps_expr (pe_bm PySem.F.plainAttrs_list PySem.F.slot_list_append PySem.F.type_list_append mt_append (pv 5) (pa_cons (pe_tup (pa_cons (pv 7) (pa_cons (pv 6) pa_nil))) pa_nil))))
      pss_nil)
      (pss_one (ps_set (i := 4) sc_law_graph.nd rfl (by first | exact Or.inl rfl | exact Or.inr rfl) (pe_op op_fdiv (pv 4) pe_int))))))))
      (pss_one (ps_ret (pe_tup (pa_cons (pv 2) (pa_cons (pe_callTy (EK.tuple (K := K)) (by rfl) m_tuple (by decide +kernel) (pa_cons (pe_callB (EK.sortP (K := K)) (by rfl) m_sorted (by decide +kernel) (pa_cons (pv 5) pa_nil)) pa_nil)) pa_nil)))))))))), ?_⟩
  show Wp K _ [.dat (.int v), .dat (.int m), .no, .no, .no, .no, .no, .no] _
  apply w_seq; apply w_set; · walk_at "d"
  apply w_seq; apply w_set; · walk_at "d"
  apply w_seq; apply w_set; · walk_at "d"
  apply w_seq; apply w_own; · walk_at "f"
  show Wp K _ [.dat (.int v), .dat (.int m), .dat (.int (1 + v % m)), .dat (.int (1 + v / m % 3)), .dat (.int (v / (3 * m))), .own [], .no, .no] _
  apply w_mid (fun ρ => ∃ x6 x7 l, ρ = [.dat (.int v), .dat (.int m), .dat (.int (1 + v % m)), .dat (.int (1 + v / m % 3)), l, .own ((gAll v (1 + v / m % 3) (v / (3 * m)) (1 + v % m).toNat).2.map encP), x6, x7])
  · refine w_for (is := [6]) (ei_range1 (n := 1 + v % m) (by walk_at "a") (by omega) (by omega)) (fun i ρ => ∃ x6 x7, ρ = [.dat (.int v), .dat (.int m), .dat (.int (1 + v % m)), .dat (.int (1 + v / m % 3)), .dat (.int (gAll v (1 + v / m % 3) (v / (3 * m)) i).1), .own ((gAll v (1 + v / m % 3) (v / (3 * m)) i).2.map encP), x6, x7]) ⟨_, _, rfl⟩ ?_ ?_
    · rintro i d ρ1 hd ⟨x6, x7, rfl⟩
      obtain ⟨hi, rfl⟩ := rng_get hd
      refine ⟨_, bd_name, ?_⟩
      have hlen := gAll_len v (1 + v / m % 3) (v / (3 * m)) i (by omega)
      generalize hs : gAll v (1 + v / m % 3) (v / (3 * m)) i = s0 at hlen ⊢
      show Wp K _ [.dat (.int v), .dat (.int m), .dat (.int (1 + v % m)), .dat (.int (1 + v / m % 3)), .dat (.int s0.1), .own (s0.2.map encP), .dat (.int i), x7] _
      refine w_for (is := [7]) (ei_range1 (n := (i : Int)) (by walk_at "a") (by omega) (by omega)) (fun j ρ => ∃ x7, ρ = [.dat (.int v), .dat (.int m), .dat (.int (1 + v % m)), .dat (.int (1 + v / m % 3)), .dat (.int ((List.range j).foldl (gCell v (1 + v / m % 3) i) s0).1), .own (((List.range j).foldl (gCell v (1 + v / m % 3) i) s0).2.map encP), .dat (.int i), x7]) ⟨_, rfl⟩ ?_ ?_
      · rintro j d ρ1 hd ⟨x7, rfl⟩
        obtain ⟨hj, rfl⟩ := rng_get hd
        refine ⟨_, bd_name, ?_⟩
        have hlen2 := gRow_len v (1 + v / m % 3) i j s0
        rw [List.range_succ, List.foldl_append]
        generalize (List.range j).foldl (gCell v (1 + v / m % 3) i) s0 = s1 at hlen2 ⊢
        show Wp K _ [.dat (.int v), .dat (.int m), .dat (.int (1 + v % m)), .dat (.int (1 + v / m % 3)), .dat (.int s1.1), .own (s1.2.map encP), .dat (.int i), .dat (.int j)] _
        apply w_mid (fun ρ => ρ = [.dat (.int v), .dat (.int m), .dat (.int (1 + v % m)), .dat (.int (1 + v / m % 3)), .dat (.int (if s1.1 = 0 then v + 7919 * ((j : Int) + 10 * (i : Int) + 1) else s1.1)), .own (s1.2.map encP), .dat (.int i), .dat (.int j)])
        · apply w_if; · walk_at "t"
          · intro h
            apply w_set; · walk_at "d"
            have h2 : s1.1 = 0 := of_decide_eq_true h
            rw [if_pos h2]; rfl
          · intro h
            have h2 : ¬ s1.1 = 0 := of_decide_eq_false h
            apply w_nxt
            rw [if_neg h2]
        rintro ρ rfl
        have hlen3 : i ≤ 8 := by omega
        generalize hl : (if s1.1 = 0 then v + 7919 * ((j : Int) + 10 * (i : Int) + 1) else s1.1) = l1
        apply w_mid (fun ρ => ρ = [.dat (.int v), .dat (.int m), .dat (.int (1 + v % m)), .dat (.int (1 + v / m % 3)), .dat (.int l1), .own ((if l1 % 4 < 1 + v / m % 3 then s1.2 ++ [((j : Int), (i : Int))] else s1.2).map encP), .dat (.int i), .dat (.int j)])
        · apply w_if; · walk_at "t"
          · intro h
            have h2 : l1 % 4 < 1 + v / m % 3 := of_decide_eq_true h
            refine w_append (i := 5) rfl (d := encP ((j : Int), (i : Int))) (by unfold encP; walk_at "d") ?_ ?_
            · rw [List.length_map]
              exact small1000 (by omega)
            · rw [if_pos h2, List.map_append]; rfl
          · intro h
            have h2 : ¬ l1 % 4 < 1 + v / m % 3 := of_decide_eq_false h
            apply w_nxt
            rw [if_neg h2]
        rintro ρ rfl
        apply w_set; · walk_at "d"
        refine ⟨.dat (.int j), ?_⟩
        show _ = [Sl.dat (.int v), .dat (.int m), .dat (.int (1 + v % m)), .dat (.int (1 + v / m % 3)), .dat (.int (gCell v (1 + v / m % 3) i s1 j).1), .own ((gCell v (1 + v / m % 3) i s1 j).2.map encP), .dat (.int i), .dat (.int j)]
        unfold gCell
        rw [hl]
        rfl
      · rintro ρ1 ⟨x7, rfl⟩
        rw [List.length_map, List.length_range]
        have e : gAll v (1 + v / m % 3) (v / (3 * m)) (i + 1) = (List.range ((i : Int)).toNat).foldl (gCell v (1 + v / m % 3) i) s0 := by
          rw [← hs]
          unfold gAll
          rw [List.range_succ, List.foldl_append]
          rfl
        rw [e]
        exact ⟨_, _, rfl⟩
    · rintro ρ1 ⟨x6, x7, rfl⟩
      rw [List.length_map, List.length_range]
      exact ⟨_, _, _, rfl⟩
  rintro ρ ⟨x6, x7, l, rfl⟩
  apply w_ret
  · walk_at "d"
  · rfl
/-! ### texts of graphs -/
def seg (e : Int × Int) : List Nat := [32, 48 + e.1.toNat, 45, 48 + e.2.toNat]
def segs (es : List (Int × Int)) : List Nat := es.flatMap seg
def textL (g : Int × List (Int × Int)) : List Nat := [48 + g.1.toNat, 58] ++ segs g.2
structure Good (g : Int × List (Int × Int)) : Prop where
  lo : 1 ≤ g.1
  hi : g.1 ≤ 8
  node : ∀ e ∈ g.2, 0 ≤ e.1 ∧ e.1 < e.2 ∧ e.2 < g.1
  srt : g.2.Pairwise fun p q => lexLe q p = false
  len : g.2.length ≤ 64
theorem segs_len : ∀ es : List (Int × Int), (segs es).length = 4 * es.length
  | [] => rfl
  | e :: es => by
    have h := segs_len es
    unfold segs at h ⊢
    rw [List.flatMap_cons, List.length_append, h, List.length_cons]
    show 4 + 4 * es.length = _
    omega
theorem textL_len (g : Int × List (Int × Int)) : (textL g).length = 2 + 4 * g.2.length := by
  unfold textL
  rw [List.length_append, segs_len]
  rfl
theorem segs_at : ∀ (es : List (Int × Int)) (i : Nat) (e : Int × Int), es[i]? = some e → ((segs es).drop (4 * i)).take 4 = seg e
  | [], i, e, h => by simp at h
  | x :: es, 0, e, h => by
    have h' : x = e := by simpa using h
    subst h'
    rfl
  | x :: es, i + 1, e, h => by
    have h' := segs_at es i e (by simpa using h)
    have e1 : segs (x :: es) = seg x ++ segs es := rfl
    have e2 : 4 * (i + 1) = (seg x).length + 4 * i := by show _ = 4 + 4 * i; omega
    rw [e1, e2, ← List.drop_drop, List.drop_left]
    exact h'
theorem text_at {g : Int × List (Int × Int)} {i : Nat} {e : Int × Int} (h : g.2[i]? = some e) : ((textL g).drop (2 + i * 4)).take (2 + i * 4 + 4 - (2 + i * 4)) = seg e := by
  have e2 : 2 + i * 4 = ([48 + g.1.toNat, 58] : List Nat).length + 4 * i := by show _ = 2 + 4 * i; omega
  have e3 : 2 + i * 4 + 4 - (2 + i * 4) = 4 := by omega
  rw [e3, e2]
  unfold textL
  rw [← List.drop_drop, List.drop_left]
  exact segs_at _ _ _ h
theorem seg_ok {g : Int × List (Int × Int)} (G : Good g) : ∀ c ∈ textL g, c < 0x110000 := fun c hc => by
  have h1 := G.lo
  have h2 := G.hi
  unfold textL at hc
  rcases List.mem_append.mp hc with hc | hc
  · rcases List.mem_cons.mp hc with rfl | hc
    · omega
    · rcases List.mem_cons.mp hc with rfl | hc
      · decide
      · cases hc
  · obtain ⟨e, he, hc⟩ := List.mem_flatMap.mp hc
    obtain ⟨n1, n2, n3⟩ := G.node e he
    unfold seg at hc
    simp only [List.mem_cons, List.not_mem_nil, or_false] at hc
    rcases hc with rfl | rfl | rfl | rfl <;> omega
theorem shp_g {g : Int × List (Int × Int)} : Shp 3 (encG g) := shp_tup fun d hd => by
  rcases List.mem_cons.mp hd with rfl | hd
  · exact shp_int _
  · rcases List.mem_cons.mp hd with rfl | hd
    · refine shp_tup fun d hd => ?_
      obtain ⟨e, _, rfl⟩ := List.mem_map.mp hd
      exact shp_pair
    · cases hd
/-! the law's graphs are good -/
theorem row_good (v thin : Int) (i : Nat) (s : Int × List (Int × Int)) (h1 : ∀ e ∈ s.2, 0 ≤ e.1 ∧ e.1 < e.2 ∧ e.2 < (i : Int)) (h2 : s.2.Nodup) : ∀ j, j ≤ i →
    (∀ e ∈ ((List.range j).foldl (gCell v thin i) s).2, 0 ≤ e.1 ∧ e.1 < e.2 ∧ (e.2 < (i : Int) ∨ (e.2 = (i : Int) ∧ e.1 < (j : Int)))) ∧ ((List.range j).foldl (gCell v thin i) s).2.Nodup
  | 0, _ => ⟨fun e he => ⟨(h1 e he).1, (h1 e he).2.1, .inl (h1 e he).2.2⟩, h2⟩
  | j + 1, hj => by
    obtain ⟨g1, g2⟩ := row_good v thin i s h1 h2 j (by omega)
    have en : List.range (j + 1) = List.range j ++ [j] := List.range_succ
    rw [en, List.foldl_append]
    generalize (List.range j).foldl (gCell v thin i) s = s1 at g1 g2 ⊢
    show (∀ e ∈ (gCell v thin i s1 j).2, _) ∧ (gCell v thin i s1 j).2.Nodup
    unfold gCell
    dsimp only
    split <;> split
    all_goals first
      | (refine ⟨fun e he => ?_, ?_⟩
         · rcases List.mem_append.mp he with he | he
           · obtain ⟨a, b, c⟩ := g1 e he
             exact ⟨a, b, by omega⟩
           · cases List.mem_singleton.mp he
             exact ⟨by show (0 : Int) ≤ (j : Int); omega, by show (j : Int) < (i : Int); omega, .inr ⟨rfl, by show (j : Int) < ((j + 1 : Nat) : Int); omega⟩⟩
         · refine List.nodup_append.mpr ⟨g2, by simp, fun a ha b hb => ?_⟩
           cases List.mem_singleton.mp hb
           rintro rfl
           obtain ⟨_, _, c⟩ := g1 _ ha
           simp only at c
           omega)
      | exact ⟨fun e he => ⟨(g1 e he).1, (g1 e he).2.1, by have := (g1 e he).2.2; omega⟩, g2⟩
theorem all_good (v thin left : Int) : ∀ n : Nat, (∀ e ∈ (gAll v thin left n).2, 0 ≤ e.1 ∧ e.1 < e.2 ∧ e.2 < (n : Int)) ∧ (gAll v thin left n).2.Nodup
  | 0 => ⟨fun e he => (nomatch he), List.nodup_nil⟩
  | n + 1 => by
    obtain ⟨h1, h2⟩ := all_good v thin left n
    have e : gAll v thin left (n + 1) = gRow v thin (gAll v thin left n) n := by
      unfold gAll
      have en : List.range (n + 1) = List.range n ++ [n] := List.range_succ
      rw [en, List.foldl_append]; rfl
    rw [e]
    unfold gRow
    obtain ⟨g1, g2⟩ := row_good v thin n (gAll v thin left n) h1 h2 n (Nat.le_refl _)
    exact ⟨fun e he => ⟨(g1 e he).1, (g1 e he).2.1, by have := (g1 e he).2.2; omega⟩, g2⟩
theorem graph_good {v m : Int} (h1 : 1 ≤ m) (h8 : m ≤ 8) : Good (graphOf v m) := by
  have hv := Int.emod_nonneg v (show m ≠ 0 by omega)
  have hv2 := Int.emod_lt_of_pos v (show 0 < m by omega)
  obtain ⟨g1, g2⟩ := all_good v (1 + v / m % 3) (v / (3 * m)) (1 + v % m).toNat
  have hl := gAll_len v (1 + v / m % 3) (v / (3 * m)) (1 + v % m).toNat (by omega)
  have pm := sortP_perm (gAll v (1 + v / m % 3) (v / (3 * m)) (1 + v % m).toNat).2
  refine ⟨by show 1 ≤ 1 + v % m; omega, by show 1 + v % m ≤ 8; omega, fun e he => ?_, ?_, ?_⟩
  · obtain ⟨a, b, c⟩ := g1 e (pm.mem_iff.mp he)
    exact ⟨a, b, by show e.2 < 1 + v % m; omega⟩
  · have nd : (graphOf v m).2.Nodup := pm.nodup_iff.mpr g2
    have so := sortP_sorted (gAll v (1 + v / m % 3) (v / (3 * m)) (1 + v % m).toNat).2
    refine (so.and nd).imp ?_
    intro p q ⟨h, hne⟩
    cases hq : lexLe q p with
    | false => rfl
    | true =>
      rw [lexLe_iff] at h hq
      exact absurd (Prod.ext (by omega) (by omega)) hne
  · show (sortP _).length ≤ 64
    rw [pm.length_eq]
    omega
/-! do edges fit? -/
def fitsGo (c : Int) : Int × Int → List (Int × Int) → Bool
  | _, [] => true
  | b, e :: es => if (decide (0 ≤ e.1) && (decide (e.1 < e.2) && decide (e.2 < c))) = true ∧ lexLe e b = false then fitsGo c e es else false
theorem fits_good (c : Int) : ∀ (es : List (Int × Int)) (b : Int × Int), (∀ e ∈ es, 0 ≤ e.1 ∧ e.1 < e.2 ∧ e.2 < c) → (es.Pairwise fun p q => lexLe q p = false) → (∀ e ∈ es, lexLe e b = false) → fitsGo c b es = true
  | [], _, _, _, _ => rfl
  | e :: es, b, h1, h2, h3 => by
    unfold fitsGo
    obtain ⟨a1, a2, a3⟩ := h1 e List.mem_cons_self
    obtain ⟨p1, p2⟩ := List.pairwise_cons.mp h2
    rw [if_pos ⟨by rw [decide_eq_true a1, decide_eq_true a2, decide_eq_true a3]; rfl, h3 e List.mem_cons_self⟩]
    exact fits_good c es e (fun x hx => h1 x (List.mem_cons_of_mem _ hx)) p2 p1
theorem good_fits {g : Int × List (Int × Int)} (G : Good g) : fitsGo g.1 (-1, -1) g.2 = true := by
  refine fits_good g.1 g.2 (-1, -1) G.node G.srt fun e he => ?_
  obtain ⟨a, b, c⟩ := G.node e he
  cases hq : lexLe e (-1, -1) with
  | false => rfl
  | true =>
    rw [lexLe_iff] at hq
    simp only at hq
    omega
def pre_fit (ds : List D) : Prop := ∃ (c : Int) (es : List (Int × Int)), ds = [.int c, .tuple (es.map encP)]
def decP : D → Int × Int
  | .tuple [.int a, .int b] => (a, b)
  | _ => (0, 0)
theorem decP_enc : ∀ es : List (Int × Int), (es.map encP).map decP = es
  | [] => rfl
  | e :: es => by rw [List.map_cons, List.map_cons, decP_enc es]; rfl
def res_fit : List D → D
  | [.int c, .tuple es] => .bool (fitsGo c (-1, -1) (es.map decP))
  | _ => .none
def pre_word (ds : List D) : Prop := ∃ a b : Nat, ds = [.str (mkS [32, 48 + a, 45, 48 + b])] ∧ a < 10 ∧ b < 10
def res_word : List D → D
  | [.str s] => encP (((s.cps.getD 1 0 : Nat) : Int) - 48, ((s.cps.getD 3 0 : Nat) : Int) - 48)
  | _ => .none
def pre_write (ds : List D) : Prop := ∃ g, ds = [encG g] ∧ Good g
def res_write : List D → D
  | [.tuple [.int c, .tuple es]] => .str (mkS (textL (c, es.map decP)))
  | _ => .none
theorem digits_str : Str.ofString "0123456789" = mkS [48, 49, 50, 51, 52, 53, 54, 55, 56, 57] := by decide +kernel
theorem find_dig : ∀ a : Nat, a < 10 → Txt.find (Str.ofString "0123456789") (mkS [48 + a]) = (a : Int) := by
  intro a ha
  have h : ∀ a : _root_.Fin 10, Txt.find (Str.ofString "0123456789") (mkS [48 + a.val]) = (a.val : Int) := by decide +kernel
  exact h ⟨a, ha⟩
theorem joinL_nil : ∀ l : List (List Nat), TL.joinL [] l = l.flatten
  | [] => rfl
  | [p] => by simp [TL.joinL]
  | p :: q :: r => by
    show p ++ ([] ++ TL.joinL [] (q :: r)) = _
    rw [joinL_nil (q :: r)]
    simp
theorem join_segs (es : List (Int × Int)) : Txt.join Str.empty (es.map fun e => mkS (seg e)) = mkS (segs es) := by
  refine TL.ext_tl ?_
  rw [TL.join_eq, TL.tl_join]
  show TL.joinL [] _ = segs es
  rw [joinL_nil, List.map_map]
  unfold segs
  rw [List.flatMap_def]
  rfl
theorem word_at {a b : Nat} : RD K (rIx K) (.str (mkS [32, 48 + a, 45, 48 + b])) (.int 1) (.str (mkS [48 + a])) := rd_ixM (by simp) rfl
theorem ok_read_edge {f : Addr} {fd : FuncData} {k : Nat} {tD : Tok} (F : Fun K "_read_edge" "_read_edge" s_read_edge f fd) (g__DIGITS : mg "_DIGITS" = some (.str (Str.ofString "0123456789") tD)) : FnOk Pg w K mg base CX0 (k + 1) f fd ["word"] (spD K pre_word res_word) := by
  refine fn_okD F sc_read_edge (fun ds ⟨a, b, e, _⟩ => by rw [e]; rfl) fun cdv A outer s H E ds hr hp => ?_
  obtain ⟨a, b, rfl, ha, hb⟩ := hp
  have hi : ∀ {j : Int} {c : Nat}, atI [32, 48 + a, 45, 48 + b] j = some c → RD K (rIx K) (.str (mkS [32, 48 + a, 45, 48 + b])) (.int j) (.str (mkS [c])) := fun e => rd_ixM (by simp) e
  refine ⟨_, (pss_cons (ps_if (pw_or (pt_cmpR (EK.ne (K := K) hr.units) (pe_ix (EK.ix (K := K)) (pv 0) pe_int (fun _ _ => rfl)) pe_str (nomark _)) (pw_or1 (pt_cmpR (EK.ne (K := K) hr.units) (pe_ix (EK.ix (K := K)) (pv 0) pe_int (fun _ _ => rfl)) pe_str (nomark _)))).pt
      pss_never
      pss_nil)
      (pss_one (ps_ret (pe_tup (pa_cons (pe_m1 PySem.F.slot_str_find PySem.F.type_str_find mt_find (pe_glob (v := V.str "0123456789") (by rfl) g__DIGITS ⟨_, rfl⟩) (pe_ix (EK.ix (K := K)) (pv 0) pe_int (fun _ _ => rfl))) (pa_cons (pe_m1 PySem.F.slot_str_find PySem.F.type_str_find mt_find (pe_glob (v := V.str "0123456789") (by rfl) g__DIGITS ⟨_, rfl⟩) (pe_ix (EK.ix (K := K)) (pv 0) pe_int (fun _ _ => rfl))) pa_nil)))))), ?_⟩
  show Wp K _ [.dat (.str (mkS [32, 48 + a, 45, 48 + b]))] _
  refine w_seq (w_if (b := !decide (([32] : List Nat) = [32]) || !decide (([45] : List Nat) = [45])) ?_ ?_ ?_)
  · refine et_or (et_test (eq_op (eq_op (ev_var rfl).q ev_cint.q (hi rfl)) (ev_cM (l := [32]) (by decide +kernel)).q (rd_neM (by simp) (by simp)))) fun _ => ?_
    exact et_test (eq_op (eq_op (ev_var rfl).q ev_cint.q (hi rfl)) (ev_cM (l := [45]) (by decide +kernel)).q (rd_neM (by simp) (by simp)))
  · intro h; exact absurd h (by simp)
  · intro _
    refine w_nxt (w_ret (ev_tup (ec_cons (x := .int (a : Int)) ?_ (ec_cons (x := .int (b : Int)) ?_ ec_nil))) ?_)
    · refine (ev_m1 (z := .int (a : Int)) ev_cstr.q (eq_op (ev_var rfl).q ev_cint.q (hi (c := 48 + a) rfl)) ?_).to rfl
      have e := find_dig a ha
      rw [← e]
      exact md_find
    · refine (ev_m1 (z := .int (b : Int)) ev_cstr.q (eq_op (ev_var rfl).q ev_cint.q (hi (c := 48 + b) rfl)) ?_).to rfl
      have e := find_dig b hb
      rw [← e]
      exact md_find
    · show PyData.tuple [.int (a : Int), .int (b : Int)] = .tuple [.int (((48 + a : Nat) : Int) - 48), .int (((48 + b : Nat) : Int) - 48)]
      have e1 : ((48 + a : Nat) : Int) - 48 = a := by omega
      have e2 : ((48 + b : Nat) : Int) - 48 = b := by omega
      rw [e1, e2]
theorem ok_edges_fit {f : Addr} {fd : FuncData} {k : Nat} (F : Fun K "_edges_fit" "_edges_fit" s_edges_fit f fd) : FnOk Pg w K mg base CX0 (k + 1) f fd ["count", "edges"] (spD K pre_fit res_fit) := by
  refine fn_okD F sc_edges_fit (fun ds ⟨a, b, e⟩ => by rw [e]; rfl) fun cdv A outer s H E ds hr hp => ?_
  obtain ⟨c, es, rfl⟩ := hp
  have er : res_fit [.int c, .tuple (es.map encP)] = .bool (fitsGo c (-1, -1) es) := by
    show PyData.bool (fitsGo c (-1, -1) ((es.map encP).map decP)) = _
    rw [decP_enc]
  rw [er]
  refine ⟨_, (pss_cons (ps_set (i := 2) sc_edges_fit.nd rfl (by first | exact Or.inl rfl | exact Or.inr rfl) (pe_tup (pa_cons (pe_un un_neg pe_int) (pa_cons (pe_un un_neg pe_int) pa_nil))))
      (pss_cons (ps_for PassesOwn.never (by rfl) (EK.seq (K := K) (pv 1)) (pg_name (i := 3) sc_edges_fit.nd rfl (by first | exact Or.inl rfl | exact Or.inr rfl))
      (pss_cons (ps_asg (pv 3) (EK.tup (K := K) (by rfl) (pgs_cons (pg_name (i := 4) sc_edges_fit.nd rfl (by first | exact Or.inl rfl | exact Or.inr rfl)) (pgs_cons (pg_name (i := 5) sc_edges_fit.nd rfl (by first | exact Or.inl rfl | exact Or.inr rfl)) pgs_nil))))
      (pss_cons (ps_if (pw_or (pt_not (pt_chain3 (EK.le (K := K) hr.units0) (EK.lt (K := K) hr.units0) (EK.lt (K := K) hr.units0) pe_int (pv 4) (pv 5) (pv 0))) (pw_or1 (pt_cmpR (EK.le (K := K) hr.units0) (pv 3) (pv 2) (nomark _)))).pt
      (pss_one (ps_ret pe_bl))
      pss_nil)
      (pss_one (ps_set (i := 2) sc_edges_fit.nd rfl (by first | exact Or.inl rfl | exact Or.inr rfl) (pv 3))))))
      (pss_one (ps_ret pe_bl)))), ?_⟩
  show Wp K _ [.dat (.int c), .dat (.tuple (es.map encP)), .no, .no, .no, .no] _
  apply w_seq; apply w_set; · walk_at "d"
  apply w_mid (fun ρ => fitsGo c (-1, -1) es = true)
  · refine w_for (is := [3]) (ei_tup (ev_var rfl)) (fun i ρ => ∃ b x3 x4 x5, ρ = [.dat (.int c), .dat (.tuple (es.map encP)), .dat (encP b), x3, x4, x5] ∧ fitsGo c (-1, -1) es = fitsGo c b (es.drop i)) ⟨(-1, -1), _, _, _, rfl, rfl⟩ ?_ ?_
    · rintro i d ρ1 hd ⟨b, x3, x4, x5, rfl, hf⟩
      obtain ⟨e, he, rfl⟩ := map_get hd
      refine ⟨_, bd_name, ?_⟩
      show Wp K _ [.dat (.int c), .dat (.tuple (es.map encP)), .dat (encP b), .dat (encP e), x4, x5] _
      refine w_seq (w_asg (d := encP e) (ev_var rfl) (bd_tup (bds_cons bd_name (bds_cons bd_name bds_nil))) ?_)
      show Wp K _ [.dat (.int c), .dat (.tuple (es.map encP)), .dat (encP b), .dat (encP e), .dat (.int e.1), .dat (.int e.2)] _
      have hdrop : es.drop i = e :: es.drop (i + 1) := List.drop_eq_getElem?_toList_append.trans (by rw [he]; rfl)
      rw [hdrop] at hf
      have hgo : fitsGo c b (e :: es.drop (i + 1)) = if (decide (0 ≤ e.1) && (decide (e.1 < e.2) && decide (e.2 < c))) = true ∧ lexLe e b = false then fitsGo c e (es.drop (i + 1)) else false := by rw [fitsGo]
      rw [hgo] at hf
      refine w_seq (w_if (b := !(decide (0 ≤ e.1) && (decide (e.1 < e.2) && decide (e.2 < c))) || lexLe e b) ?_ ?_ ?_)
      · refine et_or (et_not (et_test (ev_chain3 (k1 := decide (0 ≤ e.1)) (k2 := decide (e.1 < e.2)) (k3 := decide (e.2 < c)) ?_ ?_ rd_le (fun _ => ?_) (fun _ => rd_lt) (fun _ _ => ?_) (fun _ _ => rd_lt)).q)) fun _ => et_test (eq_op (ev_var rfl).q (ev_var rfl).q rd_leP)
        · exact ev_cint.q
        · exact (ev_var rfl).q
        · exact (ev_var rfl).q
        · exact (ev_var rfl).q
      · intro h
        refine w_ret ev_cbl ?_
        show PyData.bool false = .bool (fitsGo c (-1, -1) es)
        rw [hf, if_neg]
        rintro ⟨h1, h2⟩
        rw [h1, h2] at h
        cases h
      · intro h
        rw [Bool.or_eq_false_iff, Bool.not_eq_false'] at h
        refine w_nxt (w_set (d := encP e) (ev_var rfl) ⟨e, _, _, _, rfl, ?_⟩)
        rw [hf, if_pos ⟨h.1, h.2⟩]
    · rintro ρ1 ⟨b, x3, x4, x5, rfl, hf⟩
      rw [List.length_map, List.drop_length] at hf
      exact hf
  intro ρ hf
  refine w_ret ev_cbl ?_
  show PyData.bool true = .bool (fitsGo c (-1, -1) es)
  rw [hf]
theorem ok_write_graph {f : Addr} {fd : FuncData} {k : Nat} (F : Fun K "write_graph" "write_graph" swrite_graph f fd) : FnOk Pg w K mg base CX0 (k + 1) f fd ["graph"] (spD K pre_write res_write) := by
  refine fn_okD F scwrite_graph (fun ds ⟨a, e, _⟩ => by rw [e]; rfl) fun cdv A outer s H E ds hr hp => ?_
  obtain ⟨g, rfl, G⟩ := hp
  have er : res_write [encG g] = .str (mkS (textL g)) := by
    show PyData.str (mkS (textL (g.1, (g.2.map encP).map decP))) = _
    rw [decP_enc]
  rw [er]
  have g1 := G.lo
  have g2 := G.hi
  refine ⟨_, (pss_cons (ps_asg (pv 0) (EK.tup (K := K) (by rfl) (pgs_cons (pg_name (i := 1) scwrite_graph.nd rfl (by first | exact Or.inl rfl | exact Or.inr rfl)) (pgs_cons (pg_name (i := 2) scwrite_graph.nd rfl (by first | exact Or.inl rfl | exact Or.inr rfl)) pgs_nil))))
      (pss_one (ps_ret (pe_op (EK.add (K := K)) (pe_joinedA (.cons (pe_fmt (pv 1)) (.cons pe_str PJ.nil))) (pe_m1 PySem.F.slot_str_join PySem.F.type_str_join (EK.join (K := K)) pe_str (pe_lc (own := [("first", 3), ("second", 4)]) (g := gTup K 2 (gCons (gName 3) (gCons (gName 4) gNil))) (by rfl) scwrite_graph.nd (EK.seq (K := K) (pv 2)) (blkOk_by (own := [("first", 3), ("second", 4)]) (N := ["graph", "count", "edges", "first", "second"]) (sc := defScope swrite_graph) (by decide +kernel)) (fun _ _ _ _ _ => (EK.tup (K := K) (by rfl) (pgs_cons (pg_name (i := 3) scwrite_graph.nd rfl (by first | exact Or.inl rfl | exact Or.inr rfl)) (pgs_cons (pg_name (i := 4) scwrite_graph.nd rfl (by first | exact Or.inl rfl | exact Or.inr rfl)) pgs_nil)))) (fun _ _ _ _ _ => pts_nil) (fun _ _ _ _ _ => (pe_joinedA (.cons pe_str (.cons (pe_fmt (pv 3)) (.cons pe_str (.cons (pe_fmt (pv 4)) PJ.nil)))))))))))), ?_⟩
  show Wp K _ [.dat (encG g), .no, .no, .no, .no] _
  refine w_seq (w_asg (d := encG g) (ev_var rfl) (bd_tup (bds_cons bd_name (bds_cons bd_name bds_nil))) ?_)
  show Wp K _ [.dat (encG g), .dat (.int g.1), .dat (.tuple (g.2.map encP)), .no, .no] _
  refine w_ret (ev_op (x := .str (mkS [48 + g.1.toNat, 58])) (y := .str (mkS (segs g.2))) ?_ ?_ (rd_addM ?_)) rfl
  · refine (ev_join ?_).q
    refine evj_M (l := [48 + g.1.toNat]) (ev_fmtD (ev_var rfl).q (by omega) (by omega)).q (by simp) (evj_M (l := [58]) (ev_cM (by decide +kernel)).q (by simp) .nil)
  · refine (ev_m1 (a := Str.empty) (y := .list ((g.2.map fun e => mkS (seg e)).map .str)) ?_ (EvF.q ?_) ?_).q
    · exact (ev_cstr.to (congrArg PyData.str (by decide +kernel))).q
    · rw [List.map_map]
      refine ef_lcI (is := [3, 4]) (ei_tup (ev_var rfl)) (fun i hi => hi) (by rw [List.length_map, List.length_map]) (fun i d e hd he => ?_) ?_
      · obtain ⟨p, hp, rfl⟩ := map_get hd
        obtain ⟨p', hp', rfl⟩ := map_get he
        rw [hp] at hp'; cases hp'
        obtain ⟨n1, n2, n3⟩ := G.node p (List.mem_of_getElem? hp)
        refine ⟨_, bd_tup (bds_cons bd_name (bds_cons bd_name bds_nil)), ?_⟩
        show EvD K _ [.dat (encG g), .dat (.int g.1), .dat (.tuple (g.2.map encP)), .dat (.int p.1), .dat (.int p.2)] (.str (mkS (seg p)))
        refine ev_join ?_
        refine evj_M (l := [32]) (ev_cM (by decide +kernel)).q (by simp) (evj_M (l := [48 + p.1.toNat]) (ev_fmtD (ev_var rfl).q (by omega) (by omega)).q (by simp) (evj_M (l := [45]) (ev_cM (by decide +kernel)).q (by simp) (evj_M (l := [48 + p.2.toNat]) (ev_fmtD (ev_var rfl).q (by omega) (by omega)).q (by simp) .nil)))
      · rw [List.length_map]
        exact small1000 (by have := G.len; omega)
    · rw [← join_segs]
      refine md_join ?_
      have e : ((g.2.map fun e => mkS (seg e)).map (·.length)).sum ≤ 4 * g.2.length := by
        generalize g.2 = es
        induction es with
        | nil => exact Nat.le_refl _
        | cons x xs ih =>
          rw [List.map_cons, List.map_cons, List.sum_cons, List.length_cons]
          have h4 : (mkS (seg x)).length = 4 := len_mkS _
          rw [h4]
          omega
      have z : Str.empty.length = 0 := rfl
      rw [z, Nat.mul_zero]
      have := G.len
      omega
  · rw [segs_len]
    have := G.len
    show 2 + _ ≤ 1000
    omega
def pre_read (ds : List D) : Prop := ∃ g, ds = [.str (mkS (textL g))] ∧ Good g
theorem good_of_text : ∀ {g h : Int × List (Int × Int)}, Good g → Good h → textL g = textL h → g = h := by
  intro g h G G' e
  have hl : g.2.length = h.2.length := by
    have := congrArg List.length e
    rw [textL_len, textL_len] at this
    omega
  have hat : ∀ i, seg <$> g.2[i]? = seg <$> h.2[i]? := fun i => by
    by_cases hi : i < g.2.length
    · have hi' : i < h.2.length := by omega
      have e1 := text_at (g := g) (List.getElem?_eq_getElem hi)
      have e2 := text_at (g := h) (List.getElem?_eq_getElem hi')
      rw [e, e2] at e1
      rw [List.getElem?_eq_getElem hi, List.getElem?_eq_getElem hi']
      show some _ = some _
      rw [e1]
    · rw [List.getElem?_eq_none (by omega), List.getElem?_eq_none (by omega)]
  have h2 : g.2 = h.2 := by
    apply List.ext_getElem hl
    intro i h1 h2
    have q := hat i
    rw [List.getElem?_eq_getElem h1, List.getElem?_eq_getElem h2] at q
    have q' : seg g.2[i] = seg h.2[i] := Option.some.inj q
    obtain ⟨a1, a2, a3⟩ := G.node g.2[i] (List.getElem_mem h1)
    obtain ⟨b1, b2, b3⟩ := G'.node h.2[i] (List.getElem_mem h2)
    unfold seg at q'
    simp only [List.cons.injEq, and_true, true_and] at q'
    exact Prod.ext (by omega) (by omega)
  have h1 : g.1 = h.1 := by
    have q : (textL g)[0]? = (textL h)[0]? := by rw [e]
    have q' : 48 + g.1.toNat = 48 + h.1.toNat := Option.some.inj q
    have := G.lo
    have := G'.lo
    omega
  exact Prod.ext h1 h2
open Classical in
noncomputable def res_read : List D → D
  | [.str s] => if h : ∃ g, Good g ∧ s = mkS (textL g) then encG h.choose else .none
  | _ => .none
open Classical in
theorem res_read_ok {g : Int × List (Int × Int)} (G : Good g) : res_read [.str (mkS (textL g))] = encG g := by
  have h : ∃ g', Good g' ∧ mkS (textL g) = mkS (textL g') := ⟨g, G, rfl⟩
  show (if h : ∃ g', Good g' ∧ mkS (textL g) = mkS (textL g') then encG h.choose else PyData.none) = _
  rw [dif_pos h]
  obtain ⟨h1, h2⟩ := h.choose_spec
  rw [good_of_text h1 G (mkS_inj h2).symm]
theorem fits_long {x : Int} (h1 : -(2 ^ 63) ≤ x) (h2 : x < 2 ^ 63) : Builtin.Range.rangeFitsLong x = true := by
  unfold Builtin.Range.rangeFitsLong
  rw [decide_eq_true h1, decide_eq_true h2]; rfl
theorem rgc4 (n : Nat) (hn : n ≤ 1000) : RgC 2 ((2 + 4 * n : Nat) : Int) 4 n := by
  have e : Builtin.Range.rangeSize 2 ((2 + 4 * n : Nat) : Int) 4 = n := by
    unfold Builtin.Range.rangeSize
    rw [if_pos (by decide)]
    split <;> omega
  refine ⟨by decide, by decide, ?_, e⟩
  unfold Builtin.Range.small
  rw [e, fits_long (x := 2) (by omega) (by omega), fits_long (x := ((2 + 4 * n : Nat) : Int)) (by omega) (by omega), fits_long (x := 4) (by omega) (by omega), fits_long (x := (n : Int)) (by omega) (by omega), if_pos (by decide), fits_long (x := ((2 + 4 * n : Nat) : Int) + (4 - 1)) (by omega) (by omega)]
  simp
theorem ok_read_graph {f : Addr} {fd : FuncData} {k : Nat} {tD tM : Tok} (F : Fun K "read_graph" "read_graph" sread_graph f fd) (g__DIGITS : mg "_DIGITS" = some (.str (Str.ofString "0123456789") tD)) (g_MOST_NODES : mg "MOST_NODES" = some (.int 8 tM))
    (m_len : mg "len" = none) (m_tuple : mg "tuple" = none) (m_range : mg "range" = none) (c_read_edge : Cal Pg w K mg base "_read_edge" ["word"] 1 (spD K pre_word res_word)) (c_edges_fit : Cal Pg w K mg base "_edges_fit" ["count", "edges"] 1 (spD K pre_fit res_fit)) :
    FnOk Pg w K mg base CX0 (k + 2) f fd ["text"] (spD K pre_read res_read) := by
  refine fn_okD F scread_graph (fun ds ⟨a, e, _⟩ => by rw [e]; rfl) fun cdv A outer s H E ds hr hp => ?_
  obtain ⟨g, rfl, G⟩ := hp
  rw [res_read_ok G]
  have g1 := G.lo
  have g2 := G.hi
  have g3 := G.len
  have hl := textL_len g
  have hr : Room 1 (A.deeper (envOfC "read_graph" (defScope sread_graph) s.heap.objs.size f cdv)) := hr.mono (by omega)
  have hi : ∀ {j : Int} {c : Nat}, atI (textL g) j = some c → RD K (rIx K) (.str (mkS (textL g))) (.int j) (.str (mkS [c])) := fun e => rd_ixM (by omega) e
  refine ⟨_, (pss_cons (ps_if (pw_or (pt_cmpR (EK.ne (K := K) hr.units) (pe_op op_mod (pe_callB (EK.len (K := K)) (by rfl) m_len (by decide +kernel) (pa_cons (pv 0) pa_nil)) pe_int) pe_int (nomark _)) (pw_or1 (pt_cmpR (EK.ne (K := K) hr.units) (pe_ix (EK.ix (K := K)) (pv 0) pe_int (fun _ _ => rfl)) pe_str (nomark _)))).pt
      pss_never
      pss_nil)
      (pss_cons (ps_set (i := 1) scread_graph.nd rfl (by first | exact Or.inl rfl | exact Or.inr rfl) (pe_m1 PySem.F.slot_str_find PySem.F.type_str_find mt_find (pe_glob (v := V.str "0123456789") (by rfl) g__DIGITS ⟨_, rfl⟩) (pe_ix (EK.ix (K := K)) (pv 0) pe_int (fun _ _ => rfl))))
      (pss_cons (ps_set (i := 2) scread_graph.nd rfl (by first | exact Or.inl rfl | exact Or.inr rfl) (pe_callTy (EK.tuple (K := K)) (by rfl) m_tuple (by decide +kernel) (pa_cons (pe_lc (own := [("at", 3)]) (g := gName 3) (by rfl) scread_graph.nd (pi_range3 (by rfl) m_range (pa_cons pe_int (pa_cons (pe_callB (EK.len (K := K)) (by rfl) m_len (by decide +kernel) (pa_cons (pv 0) pa_nil)) (pa_cons pe_int pa_nil)))) (blkOk_by (own := [("at", 3)]) (N := ["text", "count", "edges", "at"]) (sc := defScope sread_graph) (by decide +kernel)) (fun _ _ _ _ _ => (pg_name (i := 3) scread_graph.nd rfl (by first | exact Or.inl rfl | exact Or.inr rfl))) (fun _ _ _ _ _ => pts_nil) (fun _ _ _ _ _ => (pe_cal c_read_edge (hr.mono (by decide)) (pa_cons (pe_slice (EK.sl (K := K)) (pv 0) (po_some (pv 3)) (po_some (pe_op (EK.add (K := K)) (pv 3) pe_int))) pa_nil)))) pa_nil)))
      (pss_cons (ps_if (pw_or (pt_not (pt_chain (EK.le (K := K) hr.units0) (EK.le (K := K) hr.units0) pe_int (pv 1) (pe_glob (v := V.int 8) (by rfl) g_MOST_NODES ⟨_, rfl⟩))) (pw_or1 (pt_not (EK.tru (K := K) (pe_cal c_edges_fit (hr.mono (by decide)) (pa_cons (pv 1) (pa_cons (pv 2) pa_nil))))))).pt
      pss_never
      pss_nil)
      (pss_one (ps_ret (pe_tup (pa_cons (pv 1) (pa_cons (pv 2) pa_nil))))))))), ?_⟩
  show Wp K _ [.dat (.str (mkS (textL g))), .no, .no, .no] _
  have elen : EvQ K (tCB (rLen K) (tCons (tVar 0) tNil)) [.dat (.str (mkS (textL g))), .no, .no, .no] (.int ((2 + 4 * g.2.length : Nat) : Int)) := by
    rw [← hl, ← len_mkS]
    exact (ev_cb (ea_cons (ev_var rfl).q ea_nil) (cd_lenS (by rw [len_mkS]; exact sz_le (by omega)))).q
  refine w_seq (w_if (b := !decide ((((2 + 4 * g.2.length : Nat) : Int) % 4) = 2) || !decide (([58] : List Nat) = [58])) ?_ ?_ ?_)
  · refine et_or (et_test (eq_op (eq_op elen ev_cint.q (rd_mod (by decide))) ev_cint.q rd_neI')) fun _ => ?_
    exact et_test (eq_op (eq_op (ev_var rfl).q ev_cint.q (hi (c := 58) (atI_nat (j := 1) rfl))) (ev_cM (l := [58]) (by decide +kernel)).q (rd_neM (by simp) (by simp)))
  · intro h
    have : ((2 + 4 * g.2.length : Nat) : Int) % 4 = 2 := by omega
    rw [decide_eq_true this] at h
    cases h
  intro _
  refine w_nxt (w_seq (w_set (d := .int g.1) ?_ ?_))
  · refine ev_m1 (a := Str.ofString "0123456789") ev_cstr.q (eq_op (ev_var rfl).q ev_cint.q (hi (c := 48 + g.1.toNat) (atI_nat (j := 0) rfl))) ?_
    have e := find_dig g.1.toNat (by omega)
    have e2 : ((g.1.toNat : Nat) : Int) = g.1 := by omega
    rw [e2] at e
    have q := md_find (K := K) (a := Str.ofString "0123456789") (b := mkS [48 + g.1.toNat])
    rw [e] at q
    exact q
  show Wp K _ [.dat (.str (mkS (textL g))), .dat (.int g.1), .no, .no] _
  refine w_seq (w_set (d := .tuple (g.2.map encP)) ?_ ?_)
  · have elen : EvQ K (tCB (rLen K) (tCons (tVar 0) tNil)) [.dat (.str (mkS (textL g))), .dat (.int g.1), .no, .no] (.int ((2 + 4 * g.2.length : Nat) : Int)) := by
      rw [← hl, ← len_mkS]
      exact (ev_cb (ea_cons (ev_var rfl).q ea_nil) (cd_lenS (by rw [len_mkS]; exact sz_le (by omega)))).q
    refine ev_cb (ea_cons (EvF.q (ef_lcI (is := [3]) (ei_range3 (n := g.2.length) (ea_cons ev_cint.q (ea_cons elen (ea_cons ev_cint.q ea_nil))) (rgc4 _ (by omega))) (fun i hi => hi) (by rw [List.length_map, List.length_map, List.length_range]) (fun i d e hd he => ?_) ?_)) ea_nil) cd_tupL
    · obtain ⟨hi', rfl⟩ := rng_get hd
      obtain ⟨p, hp, rfl⟩ := map_get he
      obtain ⟨n1, n2, n3⟩ := G.node p (List.mem_of_getElem? hp)
      refine ⟨_, bd_name, ?_⟩
      show EvD K _ [.dat (.str (mkS (textL g))), .dat (.int g.1), .no, .dat (.int (2 + (i : Nat) * 4))] _
      have ew : mkS (((textL g).drop (2 + i * 4)).take (2 + i * 4 + 4 - (2 + i * 4))) = mkS [32, 48 + p.1.toNat, 45, 48 + p.2.toNat] := by rw [text_at hp]; rfl
      have er : res_word [.str (mkS [32, 48 + p.1.toNat, 45, 48 + p.2.toNat])] = encP p := by
        show encP (((48 + p.1.toNat : Nat) : Int) - 48, ((48 + p.2.toNat : Nat) : Int) - 48) = encP p
        have q1 : ((48 + p.1.toNat : Nat) : Int) - 48 = p.1 := by omega
        have q2 : ((48 + p.2.toNat : Nat) : Int) - 48 = p.2 := by omega
        rw [q1, q2]
      rw [← er]
      refine ev_call (ec_cons ?_ ec_nil) ⟨p.1.toNat, p.2.toNat, rfl, by omega, by omega⟩
      rw [← ew]
      refine es_M (a := 2 + i * 4) (b := 2 + i * 4 + 4) (ev_var rfl).q ((eo_some (ev_var rfl).q).to ?_) ((eo_some (eq_op (ev_var rfl).q ev_cint.q rd_addI)).to ?_) (by omega) (by omega) (by omega)
      · simp
      · simp
    · rw [List.length_map, List.length_range]
      exact small1000 (by omega)
  show Wp K _ [.dat (.str (mkS (textL g))), .dat (.int g.1), .dat (.tuple (g.2.map encP)), .no] _
  have ef : EvQ K (tCall (spD K pre_fit res_fit) [] E0 (tCons (tVar 1) (tCons (tVar 2) tNil))) [.dat (.str (mkS (textL g))), .dat (.int g.1), .dat (.tuple (g.2.map encP)), .no] (.bool true) := by
    have er : res_fit [.int g.1, .tuple (g.2.map encP)] = .bool true := by
      show PyData.bool (fitsGo g.1 (-1, -1) ((g.2.map encP).map decP)) = _
      rw [decP_enc, good_fits G]
    rw [← er]
    exact (ev_call (ec_cons (ev_var rfl) (ec_cons (ev_var rfl) ec_nil)) ⟨g.1, g.2, rfl⟩).q
  refine w_seq (w_if (b := !(decide (1 ≤ g.1) && decide (g.1 ≤ 8)) || !true) ?_ ?_ ?_)
  · exact et_or (et_not (et_test (ev_chain ev_cint.q (ev_var rfl).q rd_le (fun _ => ev_cint.q) (fun _ => rd_le)).q)) fun _ => et_not (et_truB ef)
  · intro h
    rw [decide_eq_true g1, decide_eq_true g2] at h
    cases h
  intro _
  refine w_nxt (w_ret (ev_tup (ec_cons (ev_var rfl) (ec_cons (ev_var rfl) ec_nil))) rfl)
def pre_law (ds : List D) : Prop := ∃ ns : List Int, ds = [.list (ns.map .int)] ∧ ns.length ≤ 63
def res_law : List D → D := fun _ => .bool true
theorem cut_map {α : Type} (f : α → D) (l : List α) (n : Nat) : EL.cutD (l.map f) none (some (n : Int)) = (l.take n).map f := by
  unfold EL.cutD
  rw [HT.sIx_none, HT.sIx_nat, List.drop_zero, Nat.sub_zero, List.length_map, ← List.map_take]
  congr 1
  rw [List.take_eq_take_iff]
  omega
theorem zip_get {l : List D} {i : Nat} {d : D} (h : (l.zipIdx.map fun p => PyData.tuple [.int (p.2 : Nat), p.1])[i]? = some d) : ∃ e, l[i]? = some e ∧ d = .tuple [.int (i : Nat), e] := by
  rw [List.getElem?_map, List.getElem?_zipIdx] at h
  cases e : l[i]? with
  | none => rw [e] at h; cases h
  | some x =>
    rw [e] at h
    refine ⟨x, rfl, ?_⟩
    simpa using h.symm
theorem ok_law {f : Addr} {fd : FuncData} (F : Fun K "law" "law" slaw f fd) (m_enumerate : mg "enumerate" = none) (m_str : mg "str" = none) (m_isinstance : mg "isinstance" = none) (m_bool : mg "bool" = none) (m_tuple : mg "tuple" = none)
    (c_law_graph : Cal Pg w K mg base "_law_graph" ["value", "most"] 1 (spD K pre_graph res_graph)) (c_law_mixed : Cal Pg w K mg base "_law_mixed" ["cell", "turn"] 1 (spD K pre_mixed res_mixed))
    (cwrite_graph : Cal Pg w K mg base "write_graph" ["graph"] 1 (spD K pre_write res_write)) (cread_graph : Cal Pg w K mg base "read_graph" ["text"] 2 (spD K pre_read res_read)) :
    FnOk Pg w K mg base CX0 3 f fd ["script"] (spD K pre_law res_law) := by
  refine fn_okD F sclaw (fun ds ⟨a, e, _⟩ => by rw [e]; rfl) fun cdv A outer s H E ds hr hp => ?_
  obtain ⟨ns, rfl, hn⟩ := hp
  refine ⟨_, (pss_cons (ps_for PassesOwn.never (by rfl) (EK.enum (K := K) (by rfl) m_enumerate (pa_cons (pe_slice (EK.sl (K := K)) (pv 0) po_none (po_some pe_int)) pa_nil)) (EK.tup (K := K) (by rfl) (pgs_cons (pg_name (i := 1) sclaw.nd rfl (by first | exact Or.inl rfl | exact Or.inr rfl)) (pgs_cons (pg_name (i := 2) sclaw.nd rfl (by first | exact Or.inl rfl | exact Or.inr rfl)) pgs_nil)))
      (pss_cons (ps_set (i := 3) sclaw.nd rfl (by first | exact Or.inl rfl | exact Or.inr rfl) (pe_cal c_law_graph (hr.mono (by decide)) (pa_cons (pe_cal c_law_mixed (hr.mono (by decide)) (pa_cons (pv 2) (pa_cons (pv 1) pa_nil))) (pa_cons pe_int pa_nil))))
      (pss_cons (ps_set (i := 4) sclaw.nd rfl (by first | exact Or.inl rfl | exact Or.inr rfl) (pe_op (EK.add (K := K)) (pe_callTy call_str_int (by rfl) m_str (by decide +kernel) (pa_cons (pe_ix (EK.ix (K := K)) (pv 3) pe_int (fun _ _ => rfl)) pa_nil)) pe_str))
      (pss_cons (ps_for PassesOwn.never (by rfl) (EK.seq (K := K) (pe_ix (EK.ix (K := K)) (pv 3) pe_int (fun _ _ => rfl))) (EK.tup (K := K) (by rfl) (pgs_cons (pg_name (i := 5) sclaw.nd rfl (by first | exact Or.inl rfl | exact Or.inr rfl)) (pgs_cons (pg_name (i := 6) sclaw.nd rfl (by first | exact Or.inl rfl | exact Or.inr rfl)) pgs_nil)))
      (pss_one (ps_set (i := 4) sclaw.nd rfl (by first | exact Or.inl rfl | exact Or.inr rfl) (pe_op (EK.add (K := K)) (pe_op (EK.add (K := K)) (pe_op (EK.add (K := K)) (pe_op (EK.add (K := K)) (pv 4) pe_str) (pe_callTy call_str_int (by rfl) m_str (by decide +kernel) (pa_cons (pv 5) pa_nil))) pe_str) (pe_callTy call_str_int (by rfl) m_str (by decide +kernel) (pa_cons (pv 6) pa_nil))))))
      (pss_cons (ps_set (i := 7) sclaw.nd rfl (by first | exact Or.inl rfl | exact Or.inr rfl) (pe_cal cwrite_graph (hr.mono (by decide)) (pa_cons (pv 3) pa_nil)))
      (pss_cons (ps_set (i := 8) sclaw.nd rfl (by first | exact Or.inl rfl | exact Or.inr rfl) (pe_cal cread_graph (hr.mono (by decide)) (pa_cons (pv 4) pa_nil)))
      (pss_cons (ps_if (pw_or (pt_not (EK.tru (K := K) (pe_callB (EK.isi (K := K)) (by rfl) m_isinstance (by decide +kernel) (pa_cons (pv 7) (pa_cons (pe_bltn (v := .ty "str") (by rfl) m_str (by decide +kernel) rfl) pa_nil))))) (pw_or (pt_cmpR (EK.ne (K := K) hr.units) (pv 7) (pv 4) (nomark _)) (pw_or (pt_not (EK.tru (K := K) (pe_callB (EK.isi (K := K)) (by rfl) m_isinstance (by decide +kernel) (pa_cons (pv 8) (pa_cons (pe_bltn (v := .ty "tuple") (by rfl) m_tuple (by decide +kernel) rfl) pa_nil))))) (pw_or1 (pt_cmpR (EK.ne (K := K) hr.units) (pv 8) (pv 3) (nomark _)))))).pt
      (pss_one (ps_ret pe_bl))
      pss_nil)
      (pss_one (ps_if (pw_or (pt_not (EK.tru (K := K) (pe_callB (EK.isi (K := K)) (by rfl) m_isinstance (by decide +kernel) (pa_cons (pe_ix (EK.ix (K := K)) (pv 8) pe_int (fun _ _ => rfl)) (pa_cons (pe_bltn (v := .ty "tuple") (by rfl) m_tuple (by decide +kernel) rfl) pa_nil))))) (pw_or1 (EK.tru (K := K) (pe_callB (EK.isi (K := K)) (by rfl) m_isinstance (by decide +kernel) (pa_cons (pe_ix (EK.ix (K := K)) (pv 8) pe_int (fun _ _ => rfl)) (pa_cons (pe_bltn (v := .ty "bool") (by rfl) m_bool (by decide +kernel) rfl) pa_nil)))))).pt
      (pss_one (ps_ret pe_bl))
      pss_nil)))))))))
      (pss_one (ps_ret pe_bl))), ?_⟩
  show Wp K _ [.dat (.list (ns.map .int)), .no, .no, .no, .no, .no, .no, .no, .no] _
  apply w_mid (fun _ => True)
  · refine w_for (is := [1, 2]) (ei_enum (ds := (ns.take 30).map .int) (ec_cons (EvF.cl ((es_L (ev_var rfl).q eo_none (eo_some ev_cint.q)).to (cut_map _ _ 30))) ec_nil)) (fun i ρ => ∃ x1 x2 x3 x4 x5 x6 x7 x8, ρ = [.dat (.list (ns.map .int)), x1, x2, x3, x4, x5, x6, x7, x8]) ⟨_, _, _, _, _, _, _, _, rfl⟩ ?_ (fun _ _ => trivial)
    rintro i d ρ1 hd ⟨x1, x2, x3, x4, x5, x6, x7, x8, rfl⟩
    obtain ⟨e, he, rfl⟩ := zip_get hd
    obtain ⟨n, _, rfl⟩ := map_get he
    refine ⟨_, bd_tup (bds_cons bd_name (bds_cons bd_name bds_nil)), ?_⟩
    show Wp K _ [.dat (.list (ns.map .int)), .dat (.int (i : Nat)), .dat (.int n), x3, x4, x5, x6, x7, x8] _
    refine w_seq (w_set (d := encG (graphOf (mixed n i) 8)) (ev_call (ec_cons (ev_call (ec_cons (ev_var rfl) (ec_cons (ev_var rfl) ec_nil)) (show pre_mixed _ from ⟨_, _, rfl⟩)) (ec_cons ev_cint ec_nil)) (show pre_graph _ from ⟨_, _, rfl, by decide, by decide⟩)) ?_)
    have G : Good (graphOf (mixed n i) 8) := graph_good (by decide) (by decide)
    generalize graphOf (mixed n i) 8 = g at G ⊢
    have g1 := G.lo
    have g2 := G.hi
    have g3 := G.len
    show Wp K _ [.dat (.list (ns.map .int)), .dat (.int (i : Nat)), .dat (.int n), .dat (encG g), x4, x5, x6, x7, x8] _
    refine w_seq (w_set (d := .str (mkS [48 + g.1.toNat, 58])) (ev_op (x := .str (mkS [48 + g.1.toNat])) (y := .str (mkS [58])) ?_ ?_ (rd_addM (by simp))) ?_)
    · exact (ev_cb (ea_cons (x := .int g.1) (eq_op (ev_var rfl).q ev_cint.q (rd_ixT rfl)) ea_nil) (cd_dig (by omega) (by omega))).q
    · exact (ev_cM (by decide +kernel)).q
    show Wp K _ [.dat (.list (ns.map .int)), .dat (.int (i : Nat)), .dat (.int n), .dat (encG g), .dat (.str (mkS [48 + g.1.toNat, 58])), x5, x6, x7, x8] _
    apply w_mid (fun ρ => ∃ x5 x6, ρ = [.dat (.list (ns.map .int)), .dat (.int (i : Nat)), .dat (.int n), .dat (encG g), .dat (.str (mkS (textL g))), x5, x6, x7, x8])
    · refine w_for (is := [5, 6]) (ei_tup (ds := g.2.map encP) (ev_op (ev_var rfl).q ev_cint.q (rd_ixT rfl))) (fun j ρ => ∃ x5 x6, ρ = [.dat (.list (ns.map .int)), .dat (.int (i : Nat)), .dat (.int n), .dat (encG g), .dat (.str (mkS ([48 + g.1.toNat, 58] ++ segs (g.2.take j)))), x5, x6, x7, x8]) ⟨_, _, rfl⟩ ?_ ?_
      · rintro j d ρ1 hd ⟨x5, x6, rfl⟩
        obtain ⟨p, hp, rfl⟩ := map_get hd
        obtain ⟨n1, n2, n3⟩ := G.node p (List.mem_of_getElem? hp)
        refine ⟨_, bd_tup (bds_cons bd_name (bds_cons bd_name bds_nil)), ?_⟩
        have hs : segs (g.2.take (j + 1)) = segs (g.2.take j) ++ ([32] ++ [48 + p.1.toNat] ++ [45] ++ [48 + p.2.toNat]) := by
          have tk : g.2.take (j + 1) = g.2.take j ++ [p] := by rw [List.take_add_one, hp]; rfl
          rw [tk]
          unfold segs
          rw [List.flatMap_append]
          rfl
        have hl : (segs (g.2.take j)).length ≤ 256 := by
          rw [segs_len, List.length_take]
          omega
        rw [hs]
        generalize segs (g.2.take j) = l at hl ⊢
        show Wp K _ [.dat (.list (ns.map .int)), .dat (.int (i : Nat)), .dat (.int n), .dat (encG g), .dat (.str (mkS ([48 + g.1.toNat, 58] ++ l))), .dat (.int p.1), .dat (.int p.2), x7, x8] _
        have hc : ([48 + g.1.toNat, 58] ++ (l ++ ([32] ++ [48 + p.1.toNat] ++ [45] ++ [48 + p.2.toNat]))) = ((([48 + g.1.toNat, 58] ++ l ++ [32]) ++ [48 + p.1.toNat]) ++ [45]) ++ [48 + p.2.toNat] := by simp
        rw [hc]
        refine w_set (ev_op (eq_op (eq_op (eq_op (ev_var rfl).q (ev_cM (by decide +kernel)).q (rd_addM ?_)) ?_ (rd_addM ?_)) (ev_cM (by decide +kernel)).q (rd_addM ?_)) ?_ (rd_addM ?_)) ⟨_, _, rfl⟩
        · simp only [List.length_append, List.length_cons, List.length_nil]; omega
        · exact (ev_cb (ea_cons (ev_var rfl).q ea_nil) (cd_dig (by omega) (by omega))).q
        · simp only [List.length_append, List.length_cons, List.length_nil]; omega
        · simp only [List.length_append, List.length_cons, List.length_nil]; omega
        · exact (ev_cb (ea_cons (ev_var rfl).q ea_nil) (cd_dig (by omega) (by omega))).q
        · simp only [List.length_append, List.length_cons, List.length_nil]; omega
      · rintro ρ1 ⟨x5, x6, rfl⟩
        rw [List.length_map, List.take_length]
        exact ⟨_, _, rfl⟩
    rintro ρ ⟨x5, x6, rfl⟩
    have e1 : res_write [encG g] = .str (mkS (textL g)) := by
      show PyData.str (mkS (textL (g.1, (g.2.map encP).map decP))) = _
      rw [decP_enc]
    refine w_seq (w_set (d := .str (mkS (textL g))) ((ev_call (ec_cons (ev_var rfl) ec_nil) (show pre_write _ from ⟨g, rfl, G⟩)).to e1) ?_)
    refine w_seq (w_set (d := encG g) ((ev_call (ec_cons (ev_var rfl) ec_nil) (show pre_read _ from ⟨g, rfl, G⟩)).to (res_read_ok G)) ?_)
    show Wp K _ [.dat (.list (ns.map .int)), .dat (.int (i : Nat)), .dat (.int n), .dat (encG g), .dat (.str (mkS (textL g))), x5, x6, .dat (.str (mkS (textL g))), .dat (encG g)] _
    have hS : Shp 0 (.str (mkS (textL g))) := shp_mkS (seg_ok G)
    refine w_seq (w_if (b := !true || (false || (!true || false))) ?_ (fun h => (by cases h)) fun _ => ?_)
    · refine et_or (et_not (et_truB (ev_isi (n := "str") (ev_var rfl).q (by show kitB "str" "str" = some true; decide +kernel)).q)) fun _ => et_or (et_test (eq_op (ev_var rfl).q (ev_var rfl).q (rd_neSame hS (by omega)))) fun _ =>
        et_or (et_not (et_truB (ev_isi (d := encG g) (n := "tuple") (ev_var rfl).q (by show kitB "tuple" "tuple" = some true; decide +kernel)).q)) fun _ => et_test (eq_op (ev_var rfl).q (ev_var rfl).q (rd_neSame shp_g (by omega)))
    refine w_nxt (w_if (b := !true || false) ?_ (fun h => (by cases h)) fun _ => w_nxt ⟨_, _, _, _, _, _, _, _, rfl⟩)
    refine et_or (et_not (et_truB (ev_isi (d := .tuple (g.2.map encP)) (n := "tuple") (eq_op (ev_var rfl).q ev_cint.q (rd_ixT rfl)) (by show kitB "tuple" "tuple" = some true; decide +kernel)).q)) fun _ => et_truB (ev_isi (d := .int g.1) (n := "bool") (eq_op (ev_var rfl).q ev_cint.q (rd_ixT rfl)) (by show kitB "int" "bool" = some false; decide +kernel)).q
  · intro ρ _
    exact w_ret ev_cbl rfl
end
-- PR _law_mixed pre_mixed res_mixed
-- PR _law_graph pre_graph res_graph
-- PR _read_edge pre_word res_word
-- PR _edges_fit pre_fit res_fit
-- PR write_graph pre_write res_write
-- PR read_graph pre_read res_read
theorem all_mk {l : PySem.W.OpenLaw} {w : World} {K : PySem.W.Frag} {h : Heap} {mg : Str → Option Value} {fa f0 f1 f2 f3 f4 f5 f6 : Addr} (X : K.In h) (G : h.Ns mainGlobals mg) (hfa : mg "law" = some (.ref fa))
    {od0 an0 od1 an1 od2 an2 od3 an3 od4 an4 od5 an5 od6 an6 : Option Addr} {sl0 sl1 sl2 sl3 sl4 sl5 sl6 : Array (Option Value)} {oc0 kV0 dc0 pm0 cd0 ct0 oc1 kV1 dc1 pm1 cd1 ct1 oc2 kV2 dc2 pm2 cd2 ct2 oc3 kV3 dc3 pm3 cd3 ct3 oc4 kV4 dc4 pm4 cd4 ct4 oc5 kV5 dc5 pm5 cd5 ct5 oc6 kV6 dc6 pm6 cd6 ct6 : Value} {t__DIGITS : Tok} {t_MOST_NODES : Tok}
    (a0 : PySem.W.nsIn K mainGlobals "_read_edge" = some (some (.ref f0))) (l0 : K.lookup f0 = some ⟨oc0, od0, .func (PySem.W.fnOf "_read_edge" "_read_edge" (defArgs s_read_edge) (defBody s_read_edge) (defScope s_read_edge) .none kV0 dc0 pm0 an0 cd0 ct0), sl0⟩) (c0 : PySem.W.codeIn K cd0 "_read_edge" = true) (k0 : PySem.W.keepIn K (.ref f0) = true)
    (a1 : PySem.W.nsIn K mainGlobals "_edges_fit" = some (some (.ref f1))) (l1 : K.lookup f1 = some ⟨oc1, od1, .func (PySem.W.fnOf "_edges_fit" "_edges_fit" (defArgs s_edges_fit) (defBody s_edges_fit) (defScope s_edges_fit) .none kV1 dc1 pm1 an1 cd1 ct1), sl1⟩) (c1 : PySem.W.codeIn K cd1 "_edges_fit" = true) (k1 : PySem.W.keepIn K (.ref f1) = true)
    (a2 : PySem.W.nsIn K mainGlobals "write_graph" = some (some (.ref f2))) (l2 : K.lookup f2 = some ⟨oc2, od2, .func (PySem.W.fnOf "write_graph" "write_graph" (defArgs swrite_graph) (defBody swrite_graph) (defScope swrite_graph) .none kV2 dc2 pm2 an2 cd2 ct2), sl2⟩) (c2 : PySem.W.codeIn K cd2 "write_graph" = true) (k2 : PySem.W.keepIn K (.ref f2) = true)
    (a3 : PySem.W.nsIn K mainGlobals "_law_mixed" = some (some (.ref f3))) (l3 : K.lookup f3 = some ⟨oc3, od3, .func (PySem.W.fnOf "_law_mixed" "_law_mixed" (defArgs s_law_mixed) (defBody s_law_mixed) (defScope s_law_mixed) .none kV3 dc3 pm3 an3 cd3 ct3), sl3⟩) (c3 : PySem.W.codeIn K cd3 "_law_mixed" = true) (k3 : PySem.W.keepIn K (.ref f3) = true)
    (a4 : PySem.W.nsIn K mainGlobals "_law_graph" = some (some (.ref f4))) (l4 : K.lookup f4 = some ⟨oc4, od4, .func (PySem.W.fnOf "_law_graph" "_law_graph" (defArgs s_law_graph) (defBody s_law_graph) (defScope s_law_graph) .none kV4 dc4 pm4 an4 cd4 ct4), sl4⟩) (c4 : PySem.W.codeIn K cd4 "_law_graph" = true) (k4 : PySem.W.keepIn K (.ref f4) = true)
    (a5 : PySem.W.nsIn K mainGlobals "read_graph" = some (some (.ref f5))) (l5 : K.lookup f5 = some ⟨oc5, od5, .func (PySem.W.fnOf "read_graph" "read_graph" (defArgs sread_graph) (defBody sread_graph) (defScope sread_graph) .none kV5 dc5 pm5 an5 cd5 ct5), sl5⟩) (c5 : PySem.W.codeIn K cd5 "read_graph" = true) (k5 : PySem.W.keepIn K (.ref f5) = true)
    (a6 : PySem.W.nsIn K mainGlobals "law" = some (some (.ref f6))) (l6 : K.lookup f6 = some ⟨oc6, od6, .func (PySem.W.fnOf "law" "law" (defArgs slaw) (defBody slaw) (defScope slaw) .none kV6 dc6 pm6 an6 cd6 ct6), sl6⟩) (c6 : PySem.W.codeIn K cd6 "law" = true) (k6 : PySem.W.keepIn K (.ref f6) = true)
    (z_tuple : PySem.W.nsIn K mainGlobals "tuple" = some none)
    (z_len : PySem.W.nsIn K mainGlobals "len" = some none)
    (z_range : PySem.W.nsIn K mainGlobals "range" = some none)
    (z_int : PySem.W.nsIn K mainGlobals "int" = some none)
    (z_sorted : PySem.W.nsIn K mainGlobals "sorted" = some none)
    (z_enumerate : PySem.W.nsIn K mainGlobals "enumerate" = some none)
    (z_str : PySem.W.nsIn K mainGlobals "str" = some none)
    (z_isinstance : PySem.W.nsIn K mainGlobals "isinstance" = some none)
    (z_bool : PySem.W.nsIn K mainGlobals "bool" = some none)
    {C_BadText : Addr} (v_BadText : PySem.W.nsIn K mainGlobals "BadText" = some (some (.ref C_BadText)))
    (y__DIGITS : PySem.W.nsIn K mainGlobals "_DIGITS" = some (some (.str (Str.ofString "0123456789") t__DIGITS)))
    (y_MOST_NODES : PySem.W.nsIn K mainGlobals "MOST_NODES" = some (some (.int 8 t_MOST_NODES)))
    : ∃ fd : FuncData, (∀ (s : Shared) (v : Value), BindsTo s fd ⟨[v], []⟩ [("script", v)]) ∧ ∀ base : Heap, K.In base → base.Ns mainGlobals mg → FnOk l.prog w K mg base CX0 3 fa fd ["script"] (spD K pre_law res_law) := by
  have e := hfa.symm.trans (PySem.W.mg_of X G a6)
  cases e
  have m_tuple := PySem.W.mg_none_of X G z_tuple
  have m_len := PySem.W.mg_none_of X G z_len
  have m_range := PySem.W.mg_none_of X G z_range
  have m_int := PySem.W.mg_none_of X G z_int
  have m_sorted := PySem.W.mg_none_of X G z_sorted
  have m_enumerate := PySem.W.mg_none_of X G z_enumerate
  have m_str := PySem.W.mg_none_of X G z_str
  have m_isinstance := PySem.W.mg_none_of X G z_isinstance
  have m_bool := PySem.W.mg_none_of X G z_bool
  have g__DIGITS := PySem.W.mg_of X G y__DIGITS
  have g_MOST_NODES := PySem.W.mg_of X G y_MOST_NODES
  have g_BadText := PySem.W.mg_of X G v_BadText
  have F0 := fun_mk (st := s_read_edge) l0 c0 k0
  have F1 := fun_mk (st := s_edges_fit) l1 c1 k1
  have F2 := fun_mk (st := swrite_graph) l2 c2 k2
  have F3 := fun_mk (st := s_law_mixed) l3 c3 k3
  have F4 := fun_mk (st := s_law_graph) l4 c4 k4
  have F5 := fun_mk (st := sread_graph) l5 c5 k5
  have F6 := fun_mk (st := slaw) l6 c6 k6
  have b0 := F0.binds (ps := ["word"]) fun _ _ _ _ _ _ us hl => match us, hl with | [_], _ => rfl
  have b1 := F1.binds (ps := ["count", "edges"]) fun _ _ _ _ _ _ us hl => match us, hl with | [_, _], _ => rfl
  have b2 := F2.binds (ps := ["graph"]) fun _ _ _ _ _ _ us hl => match us, hl with | [_], _ => rfl
  have b3 := F3.binds (ps := ["cell", "turn"]) fun _ _ _ _ _ _ us hl => match us, hl with | [_, _], _ => rfl
  have b4 := F4.binds (ps := ["value", "most"]) fun _ _ _ _ _ _ us hl => match us, hl with | [_, _], _ => rfl
  have b5 := F5.binds (ps := ["text"]) fun _ _ _ _ _ _ us hl => match us, hl with | [_], _ => rfl
  refine ⟨PySem.W.fnOf "law" "law" (defArgs slaw) (defBody slaw) (defScope slaw) .none kV6 dc6 pm6 an6 cd6 ct6, fun s v => .of_eq rfl, fun base _ _ => ?_⟩
  have C0 : Cal l.prog w K mg base "_read_edge" ["word"] 1 (spD K pre_word res_word) := ⟨_, _, ok_read_edge F0 (g__DIGITS := g__DIGITS), PySem.W.mg_of X G a0, k0, b0⟩
  have C1 : Cal l.prog w K mg base "_edges_fit" ["count", "edges"] 1 (spD K pre_fit res_fit) := ⟨_, _, ok_edges_fit F1, PySem.W.mg_of X G a1, k1, b1⟩
  have C2 : Cal l.prog w K mg base "write_graph" ["graph"] 1 (spD K pre_write res_write) := ⟨_, _, ok_write_graph F2, PySem.W.mg_of X G a2, k2, b2⟩
  have C3 : Cal l.prog w K mg base "_law_mixed" ["cell", "turn"] 1 (spD K pre_mixed res_mixed) := ⟨_, _, ok_law_mixed F3 (m_int := m_int), PySem.W.mg_of X G a3, k3, b3⟩
  have C4 : Cal l.prog w K mg base "_law_graph" ["value", "most"] 1 (spD K pre_graph res_graph) := ⟨_, _, ok_law_graph F4 (m_range := m_range) (m_tuple := m_tuple) (m_sorted := m_sorted), PySem.W.mg_of X G a4, k4, b4⟩
  have C5 : Cal l.prog w K mg base "read_graph" ["text"] 2 (spD K pre_read res_read) := ⟨_, _, ok_read_graph F5 (m_tuple := m_tuple) (m_len := m_len) (m_range := m_range) (g__DIGITS := g__DIGITS) (g_MOST_NODES := g_MOST_NODES) (c_read_edge := C0) (c_edges_fit := C1), PySem.W.mg_of X G a5, k5, b5⟩
  exact ok_law F6 (m_enumerate := m_enumerate) (m_str := m_str) (m_isinstance := m_isinstance) (m_bool := m_bool) (m_tuple := m_tuple) (c_law_graph := C4) (cwrite_graph := C2) (cread_graph := C5) (c_law_mixed := C3)
end K1
open PySem PySem.W PyProof.Rows
set_option maxHeartbeats 0 in
theorem PySem.Challenge.cw_havenorhunt_k01_graph_texts_holds : PySem.Challenge.rw_havenorhunt_k01_graph_texts.Holds := by
  w_on; o_law; k_head; (case hw => w_witness2)
  k_fill
  refine L2.walk_of (l := PySem.Challenge.rw_havenorhunt_k01_graph_texts) (n := 63) (k := 3) (x := "script") (CX := fun _ => L2.CX0) (sp := fun w => EL.spD _ K1.pre_law K1.res_law) rfl (by decide) rfl ⟨rfl, by decide, by decide⟩ (fun w h Y => PySem.W.kIn_of Y) ?F (fun w H a ns hl _ hS => EL.law_sp hl hS ⟨ns, rfl, hl⟩ rfl) (fun _ _ _ _ _ h => h)
  case F =>
    intro w mg fa h KX G hmg
    refine' K1.all_mk KX G hmg ?a0 ?l0 ?c0 ?k0 ?a1 ?l1 ?c1 ?k1 ?a2 ?l2 ?c2 ?k2 ?a3 ?l3 ?c3 ?k3 ?a4 ?l4 ?c4 ?k4 ?a5 ?l5 ?c5 ?k5 ?a6 ?l6 ?c6 ?k6 ?z_tuple ?z_len ?z_range ?z_int ?z_sorted ?z_enumerate ?z_str ?z_isinstance ?z_bool ?v_BadText ?y__DIGITS ?y_MOST_NODES
    (case a0 => k_is); (case l0 => k_is); (case c0 => k_is); (case k0 => k_is); (case a1 => k_is); (case l1 => k_is); (case c1 => k_is); (case k1 => k_is); (case a2 => k_is); (case l2 => k_is); (case c2 => k_is); (case k2 => k_is); (case a3 => k_is); (case l3 => k_is); (case c3 => k_is); (case k3 => k_is); (case a4 => k_is); (case l4 => k_is); (case c4 => k_is); (case k4 => k_is); (case a5 => k_is); (case l5 => k_is); (case c5 => k_is); (case k5 => k_is); (case a6 => k_is); (case l6 => k_is); (case c6 => k_is); (case k6 => k_is); (case z_tuple => k_is); (case z_len => k_is); (case z_range => k_is); (case z_int => k_is); (case z_sorted => k_is); (case z_enumerate => k_is); (case z_str => k_is); (case z_isinstance => k_is); (case z_bool => k_is); (case v_BadText => k_is); (case y__DIGITS => k_is); (case y_MOST_NODES => k_is)

