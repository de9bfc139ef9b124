import PyProof.Rows.All
import Wide.All
import OpenK.AllK
import Wide.FinOn
import HandS.ForMost
import HandS.Lambda
import HandS.TupLe
import HandS.TupAny
import HandS.IsInst
import HandS.SortRule
import HandS.FStr
import HandS.Wide
import HandS.Exc
import HandS.ExcOwn
import HandS.WideBits
import HandS.SortInts
import KE.KBits
import KE.IntBitsLaws
import HandS.Deep
import HandS.SortKw
import HandS.Conv
import KE.DataMinMax
import HandS.Small
import HandS.ExcIs
import HandS.WordsExc
import HandS.Comp
import KE.GoesComp
import HandS.Rev
import HandS.RevTup
import HandS.SetFor
import HandS.Zip
import HandS.TupSets
import HandS.Strs
import KE.KDictZip
import HandS.ListItems
import HandS.RevRange
import HandS.WordsDict
import HandS.Dict
import PyProof.EnumMake
import HandS.DictComp
import KE.DatumOrd
import KE.DatumMoreOrd
import KE.KIndexOf
import HandS.Nested
import HandS.EndOwn
import HandS.Style
import HandS.Text
import HandS.RepeatKit
import KE.SortData
import HandS.More
import KE.DataAny
import KE.KEqDict
import HandS.Star
import HandS.RaiseMore
import HandS.Replace
import PyProof.ListStr
import PyProof.AutoSeq1
import PySem.Challenge.RW_havenorhunt_k23_sentence_texts
set_option Elab.async false
set_option linter.all false
set_option maxRecDepth 100000
set_option maxHeartbeats 4000000
set_option autoImplicit false
/-! EL: the layer of data. A state is a list of slots; a slot holds data that nobody changes, or a list that the def itself made and may change. -/
namespace EL
open PySem PySem.Spec PyProof.Rows L2

abbrev D := PyData
variable {K : PySem.W.Frag}

/-! ### what stays: all but the tables of code objects, which grow -/
/-- the tables of code objects of defs that make lambdas: each with the name that all its code objects bear -/
class TabC where
  T : List (Addr × Str)
variable [TabC]
/-- the tables stand in H (not in H0), their code objects in H0 -/
def TabsC (T : List (Addr × Str)) (H H0 : Hp) : Prop := ∀ p ∈ T, H0 p.1 = none ∧ ∃ ps : Array Value, H p.1 = some (.tbl ps) ∧ TriplesOk ps.toList ∧ ∀ (pos : Pos) (cv : Value), codeAmong pos ps.toList = some cv → ∃ c, cv = .ref c ∧ H0 c = some (LamX.CodeO c p.2)
theorem TabsC.ext {T : List (Addr × Str)} {H H0 H' H0' : Hp} (t : TabsC T H H0) (e : Same H H') (e0 : Same H0 H0') (nt : ∀ a ps, H a = some (.tbl ps) → H0 a = none → H0' a = none) : TabsC T H' H0' := fun p hp => by
  obtain ⟨h0, ps, h1, h2, h3⟩ := t p hp
  refine ⟨nt _ _ h1 h0, ps, e _ _ h1, h2, fun pos cv hc => ?_⟩
  obtain ⟨c, e1, e2⟩ := h3 pos cv hc
  exact ⟨c, e1, e0 _ _ e2⟩
structure Ex (H H' : Hp) : Prop where
  o : ∀ b u, H b = some u → (∀ ps, u ≠ .tbl ps) → H' b = some u
  fr : ∀ b, H' b = none → H b = none
theorem Ex.refl (H : Hp) : Ex H H := ⟨fun _ _ h _ => h, fun _ h => h⟩
theorem Ex.trans {H H1 H2 : Hp} (a : Ex H H1) (b : Ex H1 H2) : Ex H H2 := ⟨fun c u h n => b.o c u (a.o c u h n) n, fun c h => a.fr c (b.fr c h)⟩
theorem Ex.of {H H' : Hp} (s : Same H H') : Ex H H' := ⟨fun b u h _ => s b u h, fun b h => s.free h⟩
theorem Ex.free {H H' : Hp} (w : Ex H H') {a : Addr} (h : H' a = none) : H a = none := w.fr a h
theorem Ex.lst {H H' : Hp} (w : Ex H H') {a : Addr} {xs : List V} (h : H a = some (.lst xs)) : H' a = some (.lst xs) := w.o a _ h fun _ z => nomatch z
theorem Ex.seq {K : PySem.W.Frag} {H H' : Hp} (w : Ex H H') {a : Addr} {xs : List V} (h : SqL K H a xs) : SqL K H' a xs := by
  rcases h with (h | ⟨o, h⟩) | h
  · exact .inl (.inl (w.lst h))
  · exact .inl (.inr ⟨o, w.o a _ h fun _ z => nomatch z⟩)
  · exact .inr h
/-! ### steps of the heap: all stays; what is clean (the second heap) grows by new things alone -/
structure Wd (H H0 H' H0' : Hp) : Prop where
  e : Ex H H'
  e0 : Same H0 H0'
  sub : Same H0' H'
  new : ∀ a o, H0' a = some o → H0 a = some o ∨ H a = none
  tb : TabsC TabC.T H H0 → TabsC TabC.T H' H0'
section
variable {H H0 H1 H01 H2 H02 H' H0' : Hp} {p : Addr} {o : HO}
theorem Wd.refl (h : Same H0 H) : Wd H H0 H H0 := ⟨Ex.refl _, Same.refl _, h, fun _ _ e => .inl e, fun h => h⟩
theorem Wd.trans (a : Wd H H0 H1 H01) (b : Wd H1 H01 H2 H02) : Wd H H0 H2 H02 :=
  ⟨a.e.trans b.e, a.e0.trans b.e0, b.sub, fun x o e => by
    rcases b.new x o e with h | h
    · exact a.new x o h
    · exact .inr (a.e.free h), fun h => b.tb (a.tb h)⟩
theorem same_new (np : H p = none) : Same H (upd H p o) := fun b u e => by
  rw [upd_ne (ne_of_none e np)]; exact e
theorem same_upd2 (h : Same H0 H) : Same (upd H0 p o) (upd H p o) := fun b u e => by
  by_cases hb : b = p
  · subst hb; rw [upd_same] at e ⊢; exact e
  · rw [upd_ne hb] at e ⊢; exact h b u e
theorem sub_none (h : Same H0 H) (np : H p = none) : H0 p = none := h.free np
theorem Wd.clean (h : Same H0 H) (np : H p = none) : Wd H H0 (upd H p o) (upd H0 p o) :=
  ⟨.of (same_new np), same_new (sub_none h np), same_upd2 h, fun a u e => by
    by_cases ha : a = p
    · subst ha; exact .inr np
    · rw [upd_ne ha] at e; exact .inl e, fun t => t.ext (same_new np) (same_new (sub_none h np)) fun a ps ha h0 => by rw [upd_ne (ne_of_none ha np)]; exact h0⟩
theorem Wd.dirty (h : Same H0 H) (np : H p = none) : Wd H H0 (upd H p o) H0 :=
  ⟨.of (same_new np), Same.refl _, h.trans (same_new np), fun _ _ e => .inl e, fun t => t.ext (same_new np) (Same.refl _) fun _ _ _ h => h⟩
theorem Wd.adopt (w : Wd H H0 H' H0') (np : H p = none) (hp : H' p = some o) (h0 : H0' p = none) : Wd H H0 H' (upd H0' p o) :=
  ⟨w.e, w.e0.trans (same_new h0), fun b u e => by
    by_cases hb : b = p
    · subst hb; rw [upd_same] at e; rw [hp]; exact e
    · rw [upd_ne hb] at e; exact w.sub b u e, fun a u e => by
    by_cases ha : a = p
    · subst ha; exact .inr np
    · rw [upd_ne ha] at e; exact w.new a u e, fun t q hq => by
    obtain ⟨_, ps0, a1, _, _⟩ := t q hq
    obtain ⟨b0, ps, b1, b2, b3⟩ := w.tb t q hq
    refine ⟨by rw [upd_ne (ne_of_none a1 np)]; exact b0, ps, b1, b2, fun pos cv hc => ?_⟩
    obtain ⟨c, e1, e2⟩ := b3 pos cv hc
    exact ⟨c, e1, same_new h0 _ _ e2⟩⟩
/-- what is there and not clean stays not clean -/
theorem Wd.stay0 (w : Wd H H0 H' H0') (h : H p = some o) (h0 : H0 p = none) : H0' p = none := by
  cases q : H0' p with
  | none => rfl
  | some u =>
    rcases w.new p u q with z | z
    · rw [h0] at z; cases z
    · rw [h] at z; cases z
end
theorem sqT_mono {H H' : Hp} {a : Addr} {xs : List V} (e : Same H H') (h : SqT K H a xs) : SqT K H' a xs := by
  rcases h with (h | ⟨o, h⟩) | h
  · exact .inl (.inl (e _ _ h))
  · exact .inl (.inr ⟨o, e _ _ h⟩)
  · exact .inr h
mutual
theorem dp_mono {H H' : Hp} (e : Same H H') : ∀ {v : V} {d : D}, Dp K H v d → Dp K H' v d
  | _, _, .non => .non
  | _, _, .bl b => .bl b
  | _, _, .int i => .int i
  | _, _, .str x => .str x
  | _, _, .lst s a => .lst (e.seq s) (dpa_mono e a)
  | _, _, .tup s a => .tup (sqT_mono e s) (dpa_mono e a)
theorem dpa_mono {H H' : Hp} (e : Same H H') : ∀ {vs : List V} {ds : List D}, DpAll K H vs ds → DpAll K H' vs ds
  | _, _, .nil => .nil
  | _, _, .cons a b => .cons (dp_mono e a) (dpa_mono e b)
end
section
variable {H H0 : Hp}
theorem dpa_len : ∀ {vs : List V} {ds : List D}, DpAll K H vs ds → vs.length = ds.length
  | _, _, .nil => rfl
  | _, _, .cons _ b => by rw [List.length_cons, List.length_cons, dpa_len b]
theorem dpa_get : ∀ {vs : List V} {ds : List D} {i : Nat} {d : D}, DpAll K H vs ds → ds[i]? = some d → ∃ v, vs[i]? = some v ∧ Dp K H v d
  | _, _, _, _, .nil, e => by simp at e
  | _, _, 0, _, .cons a _, e => by simp at e; subst e; exact ⟨_, rfl, a⟩
  | _, _, i + 1, _, .cons _ b, e => by
    obtain ⟨v, h1, h2⟩ := dpa_get (i := i) b (by simpa using e)
    exact ⟨v, by simpa using h1, h2⟩
theorem dpa_getV : ∀ {vs : List V} {ds : List D} {i : Nat} {v : V}, DpAll K H vs ds → vs[i]? = some v → ∃ d, ds[i]? = some d ∧ Dp K H v d
  | _, _, _, _, .nil, e => by simp at e
  | _, _, 0, _, .cons a _, e => by simp at e; subst e; exact ⟨_, rfl, a⟩
  | _, _, i + 1, _, .cons _ b, e => by
    obtain ⟨v, h1, h2⟩ := dpa_getV (i := i) b (by simpa using e)
    exact ⟨v, by simpa using h1, h2⟩
theorem dpa_app : ∀ {vs ws : List V} {ds es : List D}, DpAll K H vs ds → DpAll K H ws es → DpAll K H (vs ++ ws) (ds ++ es)
  | _, _, _, _, .nil, b => b
  | _, _, _, _, .cons a t, b => .cons a (dpa_app t b)
theorem dpa_take : ∀ {vs : List V} {ds : List D} (n : Nat), DpAll K H vs ds → DpAll K H (vs.take n) (ds.take n)
  | _, _, 0, _ => .nil
  | _, _, _ + 1, .nil => .nil
  | _, _, n + 1, .cons a t => .cons a (dpa_take n t)
theorem dpa_drop : ∀ {vs : List V} {ds : List D} (n : Nat), DpAll K H vs ds → DpAll K H (vs.drop n) (ds.drop n)
  | _, _, 0, r => r
  | _, _, _ + 1, .nil => .nil
  | _, _, n + 1, .cons _ t => dpa_drop n t
theorem dpa_ints : ∀ {vs : List V} {ns : List Int}, DpAll K H vs (ns.map .int) → vs = ns.map V.int
  | _, [], h => by cases h; rfl
  | _, n :: ns, h => by
    cases h with
    | cons a b => cases a; rw [dpa_ints b]; rfl
theorem dpa_of_ints : ∀ (ns : List Int), DpAll K H (ns.map V.int) (ns.map .int)
  | [] => .nil
  | n :: ns => .cons (.int n) (dpa_of_ints ns)
theorem dpa_strs : ∀ {vs : List V} {ns : List Str}, DpAll K H vs (ns.map .str) → vs = ns.map V.str
  | _, [], h => by cases h; rfl
  | _, n :: ns, h => by
    cases h with
    | cons a b => cases a; rw [dpa_strs b]; rfl
end

/-! ### what a value is: clean data, or a list whose items are clean -/
def Dq (K : PySem.W.Frag) (H H0 : Hp) (v : V) (d : D) : Prop := Dp K H0 v d ∨ ∃ a xs ds, v = .ref a ∧ d = .list ds ∧ SqL K H a xs ∧ DpAll K H0 xs ds
section
variable {H H0 H' H0' : Hp} {v : V} {d : D} {ds : List D}
theorem Dq.mono (w : Wd H H0 H' H0') (h : Dq K H H0 v d) : Dq K H' H0' v d := by
  rcases h with h | ⟨a, xs, ds, e1, e2, h1, h2⟩
  · exact .inl (dp_mono w.e0 h)
  · exact .inr ⟨a, xs, ds, e1, e2, w.e.seq h1, dpa_mono w.e0 h2⟩
theorem Dq.lst (sub : Same H0 H) (h : Dq K H H0 v (.list ds)) : ∃ a xs, v = .ref a ∧ SqL K H a xs ∧ DpAll K H0 xs ds := by
  rcases h with h | ⟨a, xs, ds', e1, e2, h1, h2⟩
  · cases h with
    | lst s a => exact ⟨_, _, rfl, sub.seq s, a⟩
  · cases e2
    exact ⟨a, xs, e1, h1, h2⟩
theorem Dq.tup (h : Dq K H H0 v (.tuple ds)) : ∃ a xs, v = .ref a ∧ SqT K H0 a xs ∧ DpAll K H0 xs ds := by
  rcases h with h | ⟨a, xs, ds', e1, e2, h1, h2⟩
  · cases h with
    | tup s a => exact ⟨_, _, rfl, s, a⟩
  · cases e2
theorem Dq.int {i : Int} (h : Dq K H H0 v (.int i)) : v = .int i := by
  rcases h with h | ⟨a, xs, ds', e1, e2, h1, h2⟩
  · cases h; rfl
  · cases e2
theorem Dq.str {i : Str} (h : Dq K H H0 v (.str i)) : v = .str i := by
  rcases h with h | ⟨a, xs, ds', e1, e2, h1, h2⟩
  · cases h; rfl
  · cases e2
theorem Dq.bl {i : Bool} (h : Dq K H H0 v (.bool i)) : v = .bl i := by
  rcases h with h | ⟨a, xs, ds', e1, e2, h1, h2⟩
  · cases h; rfl
  · cases e2
theorem Dq.non (h : Dq K H H0 v .none) : v = .non := by
  rcases h with h | ⟨a, xs, ds', e1, e2, h1, h2⟩
  · cases h; rfl
  · cases e2
theorem Dq.dp (sub : Same H0 H) (h : Dq K H H0 v d) : Dp K H v d := by
  rcases h with h | ⟨a, xs, ds', e1, e2, h1, h2⟩
  · exact dp_mono sub h
  · subst e1 e2
    exact .lst h1 (dpa_mono sub h2)
def isList : D → Bool
  | .list _ => true
  | _ => false
theorem Dq.cl (h : Dq K H H0 v d) (hd : isList d = false) : Dp K H0 v d := by
  rcases h with h | ⟨a, xs, ds', e1, e2, h1, h2⟩
  · exact h
  · subst e2; cases hd
inductive DqAll (K : PySem.W.Frag) (H H0 : Hp) : List V → List D → Prop
  | nil : DqAll K H H0 [] []
  | cons {v : V} {d : D} {vs : List V} {ds : List D} : Dq K H H0 v d → DqAll K H H0 vs ds → DqAll K H H0 (v :: vs) (d :: ds)
theorem DqAll.mono (w : Wd H H0 H' H0') : ∀ {vs : List V} {ds : List D}, DqAll K H H0 vs ds → DqAll K H' H0' vs ds
  | _, _, .nil => .nil
  | _, _, .cons a b => .cons (a.mono w) (b.mono w)
end

/-! ### slots -/
/-- nothing, data nobody changes, an object the def made itself (a list, or with keys a dict), or a value of which something is told by the clean heap alone -/
inductive Sl where
  | no
  | dat (d : D)
  | obj (κ : Option (List Int)) (ds : List D)
  | gen (φ : Hp → V → Prop)
  | objG (φs : List (Hp → V → Prop))
/-- what is told of a value by the clean heap, and stays told -/
def GMono (φ : Hp → V → Prop) : Prop := ∀ (G G' : Hp) (u : V), Same G G' → φ G u → φ G' u
abbrev Sl.own (ds : List D) : Sl := .obj none ds
abbrev Sl.dic (ks : List Int) (ds : List D) : Sl := .obj (some ks) ds
def mkO : Option (List Int) → List V → HO
  | none, xs => .lst xs
  | some ks, xs => .dK ((ks.map Sum.inl).zip xs)
/-- an object that nobody changes any more -/
def ObjG (K : PySem.W.Frag) (κ : Option (List Int)) (ds : List D) : Hp → V → Prop := fun G v => ∃ a xs, v = .ref a ∧ G a = some (mkO κ xs) ∧ DpAll K G xs ds
theorem objG_mono {κ : Option (List Int)} {ds : List D} : GMono (ObjG K κ ds) := fun G G' u s ⟨b, ys, z1, z2, z3⟩ => ⟨b, ys, z1, s _ _ z2, dpa_mono s z3⟩
theorem mkO_nt {κ : Option (List Int)} {xs : List V} (ps : Array Value) : mkO κ xs ≠ .tbl ps := by
  cases κ <;> exact fun z => nomatch z
theorem Ex.obj {H H' : Hp} (w : Ex H H') {a : Addr} {κ : Option (List Int)} {xs : List V} (h : H a = some (mkO κ xs)) : H' a = some (mkO κ xs) := w.o a _ h mkO_nt
/-- one's own object is changed -/
theorem Ex.own {B H : Hp} {a : Addr} {κ κ' : Option (List Int)} {xs ys : List V} (w : Ex B H) (n : B a = none) (h : H a = some (mkO κ xs)) : Ex B (upd H a (mkO κ' ys)) := by
  refine ⟨fun b u e nt => by rw [upd_ne (ne_of_none e n)]; exact w.o b u e nt, fun b e => ?_⟩
  by_cases hb : b = a
  · subst hb; rw [upd_same] at e; cases e
  · rw [upd_ne hb] at e; exact w.fr b e
theorem TabsC.own {T : List (Addr × Str)} {H H0 : Hp} {a : Addr} {κ κ' : Option (List Int)} {xs ys : List V} (t : TabsC T H H0) (h : H a = some (mkO κ xs)) : TabsC T (upd H a (mkO κ' ys)) H0 := fun p hp => by
  obtain ⟨h0, ps, h1, h2, h3⟩ := t p hp
  have nP : p.1 ≠ a := fun z => by
    rw [z, h] at h1
    exact mkO_nt ps (Option.some.inj h1)
  exact ⟨h0, ps, by rw [upd_ne nP]; exact h1, h2, h3⟩
/-- a list that the def made itself, whose items are told by relations -/
inductive GsAll (H0 : Hp) : List V → List (Hp → V → Prop) → Prop where
  | nil : GsAll H0 [] []
  | cons {v : V} {vs : List V} {φ : Hp → V → Prop} {φs : List (Hp → V → Prop)} : φ H0 v → GMono φ → GsAll H0 vs φs → GsAll H0 (v :: vs) (φ :: φs)
theorem gsa_mono {H H' : Hp} (e : Same H H') : ∀ {vs : List V} {φs : List (Hp → V → Prop)}, GsAll H vs φs → GsAll H' vs φs
  | _, _, .nil => .nil
  | _, _, .cons a m b => .cons (m _ _ _ e a) m (gsa_mono e b)
def Sl.isO : Sl → Bool
  | .obj _ _ => true
  | .objG _ => true
  | _ => false
def Sl.kd : Sl → Option (List Int)
  | .obj κ _ => κ
  | _ => none
def Sl.El (K : PySem.W.Frag) (H0 : Hp) (xs : List V) : Sl → Prop
  | .obj _ ds => DpAll K H0 xs ds
  | .objG φs => GsAll H0 xs φs
  | _ => False
theorem el_mono {H H' : Hp} (e : Same H H') {xs : List V} : ∀ {s : Sl}, s.El K H xs → s.El K H' xs
  | .obj _ _, h => dpa_mono e h
  | .objG _, h => gsa_mono e h
structure Rp (K : PySem.W.Frag) (B B0 : Hp) (ρ : List Sl) (σ : L2.St) (H H0 : Hp) : Prop where
  wd : Wd B B0 H H0
  len : ρ.length = σ.length
  dat : ∀ (i : Nat) (d : D), ρ[i]? = some (Sl.dat d) → ∃ v, σ[i]? = some (some v) ∧ Dp K H0 v d
  ow : ∀ (i : Nat) (s : Sl), ρ[i]? = some s → s.isO = true → ∃ a xs, σ[i]? = some (some (V.ref a)) ∧ B a = none ∧ H0 a = none ∧ H a = some (mkO s.kd xs) ∧ s.El K H0 xs
  oj : ∀ (i j : Nat) (a : Addr) (s s' : Sl), ρ[i]? = some s → ρ[j]? = some s' → s.isO = true → s'.isO = true → σ[i]? = some (some (V.ref a)) → σ[j]? = some (some (V.ref a)) → i = j
  tab : TabsC TabC.T H H0
  gen : ∀ (i : Nat) (φ : Hp → V → Prop), ρ[i]? = some (Sl.gen φ) → ∃ v, σ[i]? = some (some v) ∧ φ H0 v ∧ GMono φ
section
variable {B B0 H H0 H' H0' : Hp} {ρ : List Sl} {σ : L2.St} {i : Nat} {v : V} {d : D} {ds : List D}
theorem Rp.obj (r : Rp K B B0 ρ σ H H0) (i : Nat) (κ : Option (List Int)) (ds : List D) (h : ρ[i]? = some (Sl.obj κ ds)) : ∃ a xs, σ[i]? = some (some (V.ref a)) ∧ B a = none ∧ H0 a = none ∧ H a = some (mkO κ xs) ∧ DpAll K H0 xs ds := r.ow i _ h rfl
theorem Rp.og (r : Rp K B B0 ρ σ H H0) (i : Nat) (φs : List (Hp → V → Prop)) (h : ρ[i]? = some (Sl.objG φs)) : ∃ a xs, σ[i]? = some (some (V.ref a)) ∧ B a = none ∧ H0 a = none ∧ H a = some (.lst xs) ∧ GsAll H0 xs φs := r.ow i _ h rfl
theorem Rp.own (r : Rp K B B0 ρ σ H H0) (i : Nat) (ds : List D) (h : ρ[i]? = some (Sl.own ds)) : ∃ a xs, σ[i]? = some (some (V.ref a)) ∧ B a = none ∧ H0 a = none ∧ H a = some (.lst xs) ∧ DpAll K H0 xs ds := r.obj i none ds h
theorem Rp.sub (r : Rp K B B0 ρ σ H H0) : Same H0 H := r.wd.sub
theorem Rp.step (r : Rp K B B0 ρ σ H H0) (w : Wd H H0 H' H0') : Rp K B B0 ρ σ H' H0' :=
  ⟨r.wd.trans w, r.len, fun i d e => by
    obtain ⟨v, e1, e2⟩ := r.dat i d e
    exact ⟨v, e1, dp_mono w.e0 e2⟩, fun i s e o => by
    obtain ⟨a, xs, e1, e2, e3, e4, e5⟩ := r.ow i s e o
    exact ⟨a, xs, e1, e2, w.stay0 e4 e3, w.e.obj e4, el_mono w.e0 e5⟩, r.oj, w.tb r.tab, fun i φ e => by
    obtain ⟨v, e1, e2, e3⟩ := r.gen i φ e
    exact ⟨v, e1, e3 _ _ _ w.e0 e2, e3⟩⟩
theorem set_get {α : Type} {l : List α} {i j : Nat} {x y : α} (h : (l.set i x)[j]? = some y) : (j = i ∧ y = x ∧ i < l.length) ∨ (j ≠ i ∧ l[j]? = some y) := by
  by_cases hj : j = i
  · subst hj
    by_cases hl : j < l.length
    · rw [List.getElem?_set_self hl] at h
      exact .inl ⟨rfl, (Option.some.inj h).symm, hl⟩
    · rw [List.getElem?_eq_none (by rw [List.length_set]; omega)] at h
      cases h
  · rw [List.getElem?_set_ne (fun e => hj e.symm)] at h
    exact .inr ⟨hj, h⟩
theorem Rp.owSet {x : Option V} {s0 : Sl} (r : Rp K B B0 ρ σ H H0) (hn0 : s0.isO = false) (i : Nat) : (∀ (j : Nat) (s : Sl), (ρ.set i s0)[j]? = some s → s.isO = true → ∃ a xs, (σ.set i x)[j]? = some (some (V.ref a)) ∧ B a = none ∧ H0 a = none ∧ H a = some (mkO s.kd xs) ∧ s.El K H0 xs) ∧
    ∀ (j k : Nat) (a : Addr) (s s' : Sl), (ρ.set i s0)[j]? = some s → (ρ.set i s0)[k]? = some s' → s.isO = true → s'.isO = true → (σ.set i x)[j]? = some (some (V.ref a)) → (σ.set i x)[k]? = some (some (V.ref a)) → j = k := by
  refine ⟨fun j s hj ho => ?_, fun j k a s s' hj hk ho ho' e1 e2 => ?_⟩
  · rcases set_get hj with ⟨rfl, hy, hl⟩ | ⟨hn, hj2⟩
    · subst hy; rw [hn0] at ho; cases ho
    · obtain ⟨a, xs, e1, e2⟩ := r.ow j s hj2 ho
      exact ⟨a, xs, by rw [List.getElem?_set_ne (Ne.symm hn)]; exact e1, e2⟩
  · rcases set_get hj with ⟨rfl, hy, hl⟩ | ⟨hn, hj2⟩
    · subst hy; rw [hn0] at ho; cases ho
    · rcases set_get hk with ⟨rfl, hy, hl⟩ | ⟨hm, hk2⟩
      · subst hy; rw [hn0] at ho'; cases ho'
      · rw [List.getElem?_set_ne (Ne.symm hn)] at e1
        rw [List.getElem?_set_ne (Ne.symm hm)] at e2
        exact r.oj j k a s s' hj2 hk2 ho ho' e1 e2
theorem Rp.setD (r : Rp K B B0 ρ σ H H0) (h : Dp K H0 v d) (i : Nat) : Rp K B B0 (ρ.set i (.dat d)) (σ.set i (some v)) H H0 :=
  ⟨r.wd, by rw [List.length_set, List.length_set, r.len], fun j e hj => by
    rcases set_get hj with ⟨rfl, hy, hl⟩ | ⟨hn, hj2⟩
    · cases hy
      exact ⟨v, by rw [List.getElem?_set_self (by rw [← r.len]; exact hl)], h⟩
    · obtain ⟨w, e1, e2⟩ := r.dat j e hj2
      exact ⟨w, by rw [List.getElem?_set_ne (Ne.symm hn)]; exact e1, e2⟩, (r.owSet rfl i).1, (r.owSet rfl i).2, r.tab, fun j φ hj => by
    rcases set_get hj with ⟨rfl, hy, hl⟩ | ⟨hn, hj2⟩
    · cases hy
    · obtain ⟨w, e1, e2⟩ := r.gen j φ hj2
      exact ⟨w, by rw [List.getElem?_set_ne (Ne.symm hn)]; exact e1, e2⟩⟩
/-- a value of which something is told -/
theorem Rp.setG {φ : Hp → V → Prop} (r : Rp K B B0 ρ σ H H0) (h : φ H0 v) (m : GMono φ) (i : Nat) : Rp K B B0 (ρ.set i (.gen φ)) (σ.set i (some v)) H H0 :=
  ⟨r.wd, by rw [List.length_set, List.length_set, r.len], fun j e hj => by
    rcases set_get hj with ⟨rfl, hy, hl⟩ | ⟨hn, hj2⟩
    · cases hy
    · obtain ⟨w, e1, e2⟩ := r.dat j e hj2
      exact ⟨w, by rw [List.getElem?_set_ne (Ne.symm hn)]; exact e1, e2⟩, (r.owSet rfl i).1, (r.owSet rfl i).2, r.tab, fun j ψ hj => by
    rcases set_get hj with ⟨rfl, hy, hl⟩ | ⟨hn, hj2⟩
    · cases hy
      exact ⟨v, by rw [List.getElem?_set_self (by rw [← r.len]; exact hl)], h, m⟩
    · obtain ⟨w, e1, e2⟩ := r.gen j ψ hj2
      exact ⟨w, by rw [List.getElem?_set_ne (Ne.symm hn)]; exact e1, e2⟩⟩
/-- a new object, taken as one's own; p is new since the heap G -/
theorem Rp.setS {G G0 : Hp} {p : Addr} {xs : List V} {s0 : Sl} (r : Rp K B B0 ρ σ G G0) (w : Wd G G0 H H0) (ho0 : s0.isO = true) (np : G p = none) (hp : H p = some (mkO s0.kd xs)) (h0 : H0 p = none) (h : s0.El K H0 xs) (i : Nat) :
    Rp K B B0 (ρ.set i s0) (σ.set i (some (V.ref p))) H H0 := by
  have r' := r.step w
  have hne : ∀ (j : Nat) (s : Sl) (a : Addr), ρ[j]? = some s → s.isO = true → σ[j]? = some (some (V.ref a)) → a ≠ p := fun j s a h1 ho h2 e => by
    obtain ⟨b, ys, e1, e2, e3, e4, e5⟩ := r.ow j s h1 ho
    rw [h2] at e1; cases e1
    rw [e, np] at e4; cases e4
  refine ⟨r'.wd, by rw [List.length_set, List.length_set, r.len], fun j e hj => ?_, fun j s hj ho => ?_, fun j k a s s' hj hk ho ho' e1 e2 => ?_, w.tb r.tab, fun j φ hj => ?_⟩
  · rcases set_get hj with ⟨rfl, hy, hl⟩ | ⟨hn, hj2⟩
    · subst hy; cases ho0
    · obtain ⟨w, e1, e2⟩ := r'.dat j e hj2
      exact ⟨w, by rw [List.getElem?_set_ne (Ne.symm hn)]; exact e1, e2⟩
  · rcases set_get hj with ⟨rfl, hy, hl⟩ | ⟨hn, hj2⟩
    · subst hy
      exact ⟨p, xs, by rw [List.getElem?_set_self (by rw [← r.len]; exact hl)], r.wd.e.free np, h0, hp, h⟩
    · obtain ⟨a, xs, e1, e2⟩ := r'.ow j s hj2 ho
      exact ⟨a, xs, by rw [List.getElem?_set_ne (Ne.symm hn)]; exact e1, e2⟩
  · rcases set_get hj with ⟨rfl, hy, hl⟩ | ⟨hn, hj2⟩
    · rcases set_get hk with ⟨rfl, hy', hl'⟩ | ⟨hm, hk2⟩
      · rfl
      · rw [List.getElem?_set_self (by rw [← r.len]; exact hl)] at e1
        rw [List.getElem?_set_ne (Ne.symm hm)] at e2
        cases e1
        exact absurd rfl (hne k s' p hk2 ho' e2)
    · rcases set_get hk with ⟨rfl, hy', hl'⟩ | ⟨hm, hk2⟩
      · rw [List.getElem?_set_self (by rw [← r.len]; exact hl')] at e2
        rw [List.getElem?_set_ne (Ne.symm hn)] at e1
        cases e2
        exact absurd rfl (hne j s p hj2 ho e1)
      · rw [List.getElem?_set_ne (Ne.symm hn)] at e1
        rw [List.getElem?_set_ne (Ne.symm hm)] at e2
        exact r.oj j k a s s' hj2 hk2 ho ho' e1 e2
  · rcases set_get hj with ⟨rfl, hy, hl⟩ | ⟨hn, hj2⟩
    · subst hy; cases ho0
    · obtain ⟨w, e1, e2⟩ := r'.gen j φ hj2
      exact ⟨w, by rw [List.getElem?_set_ne (Ne.symm hn)]; exact e1, e2⟩
theorem Rp.setK {G G0 : Hp} {p : Addr} {xs : List V} {κ0 : Option (List Int)} (r : Rp K B B0 ρ σ G G0) (w : Wd G G0 H H0) (np : G p = none) (hp : H p = some (mkO κ0 xs)) (h0 : H0 p = none) (h : DpAll K H0 xs ds) (i : Nat) :
    Rp K B B0 (ρ.set i (.obj κ0 ds)) (σ.set i (some (V.ref p))) H H0 := r.setS (s0 := .obj κ0 ds) w rfl np hp h0 h i
/-- one's own object at a is changed -/
theorem Rp.writeS {a : Addr} {ys : List V} {s0 s1 : Sl} (r : Rp K B B0 ρ σ H H0) (hi : ρ[i]? = some s0) (ho0 : s0.isO = true) (ho1 : s1.isO = true) (hs : σ[i]? = some (some (V.ref a))) (h : s1.El K H0 ys) :
    Rp K B B0 (ρ.set i s1) σ (upd H a (mkO s1.kd ys)) H0 := by
  obtain ⟨b, xs, e1, e2, e3, e4, e5⟩ := r.ow i s0 hi ho0
  rw [hs] at e1; cases e1
  have hne : ∀ (j : Nat) (s : Sl) (b' : Addr), j ≠ i → ρ[j]? = some s → s.isO = true → σ[j]? = some (some (V.ref b')) → b' ≠ a := fun j s b' hn h1 ho h2 e => by
    subst e
    exact hn (r.oj j i _ s s0 h1 hi ho ho0 h2 hs)
  refine ⟨⟨r.wd.e.own e2 e4, r.wd.e0, fun c u hc => ?_, r.wd.new, fun t => (r.wd.tb t).own e4⟩, by rw [List.length_set, r.len], fun j e hj => ?_, fun j s hj ho => ?_, fun j k b s s' hj hk ho ho' h1 h2 => ?_, r.tab.own e4, fun j φ hj => ?_⟩
  · rw [upd_ne (ne_of_none hc e3)]; exact r.wd.sub c u hc
  · rcases set_get hj with ⟨rfl, hy, hl⟩ | ⟨hn, hj2⟩
    · subst hy; cases ho1
    · exact r.dat j e hj2
  · rcases set_get hj with ⟨rfl, hy, hl⟩ | ⟨hn, hj2⟩
    · subst hy
      exact ⟨a, ys, hs, e2, e3, upd_same, h⟩
    · obtain ⟨b, zs, f1, f2, f3, f4, f5⟩ := r.ow j s hj2 ho
      exact ⟨b, zs, f1, f2, f3, by rw [upd_ne (hne j s b hn hj2 ho f1)]; exact f4, f5⟩
  · rcases set_get hj with ⟨rfl, hy, hl⟩ | ⟨hn, hj2⟩
    · rcases set_get hk with ⟨rfl, hy', hl'⟩ | ⟨hm, hk2⟩
      · rfl
      · rw [hs] at h1; cases h1
        exact absurd rfl (hne k s' a hm hk2 ho' h2)
    · rcases set_get hk with ⟨rfl, hy', hl'⟩ | ⟨hm, hk2⟩
      · rw [hs] at h2; cases h2
        exact absurd rfl (hne j s a hn hj2 ho h1)
      · exact r.oj j k b s s' hj2 hk2 ho ho' h1 h2
  · rcases set_get hj with ⟨rfl, hy, hl⟩ | ⟨hn, hj2⟩
    · subst hy; cases ho1
    · exact r.gen j φ hj2
theorem Rp.writeK {a : Addr} {ys : List V} {es : List D} {κ0 κ1 : Option (List Int)} (r : Rp K B B0 ρ σ H H0) (hi : ρ[i]? = some (Sl.obj κ0 ds)) (hs : σ[i]? = some (some (V.ref a))) (h : DpAll K H0 ys es) :
    Rp K B B0 (ρ.set i (.obj κ1 es)) σ (upd H a (mkO κ1 ys)) H0 := r.writeS (s0 := .obj κ0 ds) (s1 := .obj κ1 es) hi rfl rfl hs h
/-- a slot is forgotten -/
theorem Rp.drop (r : Rp K B B0 ρ σ H H0) (i : Nat) (x : Option V) : Rp K B B0 (ρ.set i .no) (σ.set i x) H H0 :=
  ⟨r.wd, by rw [List.length_set, List.length_set, r.len], fun j e hj => by
    rcases set_get hj with ⟨rfl, hy, hl⟩ | ⟨hn, hj2⟩
    · cases hy
    · obtain ⟨w, e1, e2⟩ := r.dat j e hj2
      exact ⟨w, by rw [List.getElem?_set_ne (Ne.symm hn)]; exact e1, e2⟩, (r.owSet rfl i).1, (r.owSet rfl i).2, r.tab, fun j φ hj => by
    rcases set_get hj with ⟨rfl, hy, hl⟩ | ⟨hn, hj2⟩
    · cases hy
    · obtain ⟨w, e1, e2⟩ := r.gen j φ hj2
      exact ⟨w, by rw [List.getElem?_set_ne (Ne.symm hn)]; exact e1, e2⟩⟩
theorem Rp.forget (r : Rp K B B0 ρ σ H H0) (i : Nat) : Rp K B B0 (ρ.set i .no) σ H H0 := by
  have q := r.drop i (σ.getD i none)
  by_cases h : i < σ.length
  · rwa [show σ.set i (σ.getD i none) = σ from by
      rw [List.getD_eq_getElem?_getD, List.getElem?_eq_getElem h, Option.getD_some, List.set_getElem_self]] at q
  · rwa [List.set_eq_of_length_le (by omega : σ.length ≤ i)] at q
theorem Rp.setO {G G0 : Hp} {p : Addr} {xs : List V} (r : Rp K B B0 ρ σ G G0) (w : Wd G G0 H H0) (np : G p = none) (hp : H p = some (.lst xs)) (h0 : H0 p = none) (h : DpAll K H0 xs ds) (i : Nat) :
    Rp K B B0 (ρ.set i (.own ds)) (σ.set i (some (V.ref p))) H H0 := r.setK (κ0 := none) w np hp h0 h i
theorem Rp.write {a : Addr} {ys : List V} {es : List D} (r : Rp K B B0 ρ σ H H0) (hi : ρ[i]? = some (Sl.own ds)) (hs : σ[i]? = some (some (V.ref a))) (h : DpAll K H0 ys es) :
    Rp K B B0 (ρ.set i (.own es)) σ (upd H a (.lst ys)) H0 := r.writeK (κ0 := none) (κ1 := none) hi hs h
/-- one's own object goes over to what is clean -/
theorem Rp.thaw {s0 : Sl} (r : Rp K B B0 ρ σ H H0) (hi : ρ[i]? = some s0) (ho0 : s0.isO = true) : ∃ a xs H0', σ[i]? = some (some (V.ref a)) ∧ H0' a = some (mkO s0.kd xs) ∧ s0.El K H0' xs ∧ Rp K B B0 (ρ.set i .no) σ H H0' := by
  obtain ⟨a, xs, e1, e2, e3, e4, e5⟩ := r.ow i s0 hi ho0
  have hne : ∀ (j : Nat) (s : Sl) (b' : Addr), j ≠ i → ρ[j]? = some s → s.isO = true → σ[j]? = some (some (V.ref b')) → b' ≠ a := fun j s b' hn h1 ho h2 e => by
    subst e
    exact hn (r.oj j i _ s s0 h1 hi ho ho0 h2 e1)
  have s0' : Same H0 (upd H0 a (mkO s0.kd xs)) := same_new e3
  refine ⟨a, xs, upd H0 a (mkO s0.kd xs), e1, upd_same, el_mono s0' e5, ⟨r.wd.adopt e2 e4 e3, by rw [List.length_set, r.len], fun j e hj => ?_, fun j s hj ho => ?_, fun j k b s s' hj hk ho ho' h1 h2 => ?_, r.tab.ext (Same.refl _) s0' (fun b ps hb h0 => by rw [upd_ne (fun z => by rw [z, e4] at hb; exact mkO_nt ps (Option.some.inj hb))]; exact h0), fun j φ hj => ?_⟩⟩
  · rcases set_get hj with ⟨rfl, hy, hl⟩ | ⟨hn, hj2⟩
    · cases hy
    · obtain ⟨w, f1, f2⟩ := r.dat j e hj2
      exact ⟨w, f1, dp_mono s0' f2⟩
  · rcases set_get hj with ⟨rfl, hy, hl⟩ | ⟨hn, hj2⟩
    · subst hy; cases ho
    · obtain ⟨b, zs, f1, f2, f3, f4, f5⟩ := r.ow j s hj2 ho
      exact ⟨b, zs, f1, f2, by rw [upd_ne (hne j s b hn hj2 ho f1)]; exact f3, f4, el_mono s0' f5⟩
  · rcases set_get hj with ⟨rfl, hy, hl⟩ | ⟨hn, hj2⟩
    · subst hy; cases ho
    · rcases set_get hk with ⟨rfl, hy, hl⟩ | ⟨hm, hk2⟩
      · subst hy; cases ho'
      · exact r.oj j k b s s' hj2 hk2 ho ho' h1 h2
  · rcases set_get hj with ⟨rfl, hy, hl⟩ | ⟨hn, hj2⟩
    · cases hy
    · obtain ⟨w, f1, f2, f3⟩ := r.gen j φ hj2
      exact ⟨w, f1, f3 _ _ _ s0' f2, f3⟩
theorem set_same {σ : L2.St} {i : Nat} {x : Option V} (h : σ[i]? = some x) : σ.set i x = σ := by
  have hi := (List.getElem?_eq_some_iff.mp h).1
  have e3 : σ[i] = x := Option.some.inj ((List.getElem?_eq_getElem hi).symm.trans h)
  rw [← e3, List.set_getElem_self]
/-- one's own list is data from here on -/
theorem Rp.freeze (r : Rp K B B0 ρ σ H H0) (hi : ρ[i]? = some (Sl.own ds)) : ∃ H0', Rp K B B0 (ρ.set i (.dat (.list ds))) σ H H0' := by
  obtain ⟨a, xs, H0', e1, e2, e3, r'⟩ := r.thaw hi rfl
  have q := r'.setD (v := .ref a) (d := .list ds) (.lst (.of e2) e3) i
  rw [List.set_set, set_same e1] at q
  exact ⟨H0', q⟩
/-- one's own object is from here on a value of which something is told -/
theorem Rp.freezeG {κ0 : Option (List Int)} (r : Rp K B B0 ρ σ H H0) (hi : ρ[i]? = some (Sl.obj κ0 ds)) : ∃ H0', Rp K B B0 (ρ.set i (.gen (ObjG K κ0 ds))) σ H H0' := by
  obtain ⟨a, xs, H0', e1, e2, e3, r'⟩ := r.thaw hi rfl
  have q := r'.setG (v := .ref a) (φ := ObjG K κ0 ds) ⟨a, xs, rfl, e2, e3⟩ objG_mono i
  rw [List.set_set, set_same e1] at q
  exact ⟨H0', q⟩
end
end EL

namespace EL
open PySem PySem.Spec PyProof.Rows L2
variable [TabC]
variable {K : PySem.W.Frag}

theorem sz_le {n : Nat} (h : n ≤ 1000) : n ≤ sizeLine := Nat.le_of_lt (small1000 h)
/-! ### what an expression is worth -/
def EvQ (K : PySem.W.Frag) (t : TE) (ρ : List Sl) (d : D) : Prop := ∀ (B B0 : Hp) (σ : L2.St) (H H0 : Hp), Rp K B B0 ρ σ H H0 → ∀ Q : VK, (∀ v H' H0', Wd H H0 H' H0' → Dq K H' H0' v d → Q v H') → t σ H Q
def EvD (K : PySem.W.Frag) (t : TE) (ρ : List Sl) (d : D) : Prop := ∀ (B B0 : Hp) (σ : L2.St) (H H0 : Hp), Rp K B B0 ρ σ H H0 → ∀ Q : VK, (∀ v H' H0', Wd H H0 H' H0' → Dp K H0' v d → Q v H') → t σ H Q
def EvF (K : PySem.W.Frag) (t : TE) (ρ : List Sl) (ds : List D) : Prop := ∀ (B B0 : Hp) (σ : L2.St) (H H0 : Hp), Rp K B B0 ρ σ H H0 → ∀ Q : VK,
  (∀ a xs H' H0', Wd H H0 H' H0' → H a = none → H' a = some (.lst xs) → H0' a = none → DpAll K H0' xs ds → Q (.ref a) H') → t σ H Q
def EvT (K : PySem.W.Frag) (t : TT) (ρ : List Sl) (b : Bool) : Prop := ∀ (B B0 : Hp) (σ : L2.St) (H H0 : Hp), Rp K B B0 ρ σ H H0 → ∀ Q : Bool → Hp → Prop, (∀ H' H0', Wd H H0 H' H0' → Q b H') → t σ H Q
def EvA (K : PySem.W.Frag) (t : TA) (ρ : List Sl) (ds : List D) : Prop := ∀ (B B0 : Hp) (σ : L2.St) (H H0 : Hp), Rp K B B0 ρ σ H H0 → ∀ Q : List V → Hp → Prop, (∀ vs H' H0', Wd H H0 H' H0' → DqAll K H' H0' vs ds → Q vs H') → t σ H Q
def EvC (K : PySem.W.Frag) (t : TA) (ρ : List Sl) (ds : List D) : Prop := ∀ (B B0 : Hp) (σ : L2.St) (H H0 : Hp), Rp K B B0 ρ σ H H0 → ∀ Q : List V → Hp → Prop, (∀ vs H' H0', Wd H H0 H' H0' → DpAll K H0' vs ds → Q vs H') → t σ H Q
def EvO (K : PySem.W.Frag) (t : TO) (ρ : List Sl) (o : Option Int) : Prop := ∀ (B B0 : Hp) (σ : L2.St) (H H0 : Hp), Rp K B B0 ρ σ H H0 → ∀ Q : Option Int → Hp → Prop, (∀ H' H0', Wd H H0 H' H0' → Q o H') → t σ H Q

section
variable {ρ : List Sl} {t ta tb tc : TE} {d x y z : D} {ds es : List D} {i : Nat}
theorem EvD.q (h : EvD K t ρ d) : EvQ K t ρ d := fun B B0 σ H H0 r Q q => h B B0 σ H H0 r Q fun v H' H0' w k => q v H' H0' w (.inl k)
theorem EvF.q (h : EvF K t ρ ds) : EvQ K t ρ (.list ds) := fun B B0 σ H H0 r Q q => h B B0 σ H H0 r Q fun a xs H' H0' w n e e0 k => q _ H' H0' w (.inr ⟨a, xs, ds, rfl, rfl, .of e, k⟩)
theorem EvF.cl (h : EvF K t ρ ds) : EvD K t ρ (.list ds) := fun B B0 σ H H0 r Q q => h B B0 σ H H0 r Q fun a xs H' H0' w n e e0 k =>
  q _ H' (upd H0' a (.lst xs)) (w.adopt n e e0) (.lst (.of upd_same) (dpa_mono (same_new e0) k))
theorem EvQ.cl (h : EvQ K t ρ d) (hd : isList d = false := by rfl) : EvD K t ρ d := fun B B0 σ H H0 r Q q => h B B0 σ H H0 r Q fun v H' H0' w k => q v H' H0' w (k.cl hd)
theorem EvD.to (h : EvD K t ρ d) (e : d = x) : EvD K t ρ x := e ▸ h
theorem EvQ.to (h : EvQ K t ρ d) (e : d = x) : EvQ K t ρ x := e ▸ h
theorem EvF.to (h : EvF K t ρ ds) (e : ds = es) : EvF K t ρ es := e ▸ h
theorem ev_var (h : ρ[i]? = some (Sl.dat d)) : EvD K (tVar i) ρ d := fun B B0 σ H H0 r Q q => by
  obtain ⟨v, e1, e2⟩ := r.dat i d h
  exact ⟨v, e1, q v H H0 (.refl r.sub) e2⟩
theorem ev_own (h : ρ[i]? = some (Sl.own ds)) : EvQ K (tVar i) ρ (.list ds) := fun B B0 σ H H0 r Q q => by
  obtain ⟨a, xs, e1, e2, e3, e4, e5⟩ := r.own i ds h
  exact ⟨_, e1, q _ H H0 (.refl r.sub) (.inr ⟨a, xs, ds, rfl, rfl, .of e4, e5⟩)⟩
theorem ev_cint {i : Int} : EvD K (tC (.int i)) ρ (.int i) := fun B B0 σ H H0 r Q q => q _ H H0 (.refl r.sub) (.int i)
theorem ev_cbl {i : Bool} : EvD K (tC (.bl i)) ρ (.bool i) := fun B B0 σ H H0 r Q q => q _ H H0 (.refl r.sub) (.bl i)
theorem ev_cstr {i : Str} : EvD K (tC (.str i)) ρ (.str i) := fun B B0 σ H H0 r Q q => q _ H H0 (.refl r.sub) (.str i)
theorem ev_cnon : EvD K (tC .non) ρ .none := fun B B0 σ H H0 r Q q => q _ H H0 (.refl r.sub) .non

/-! ### operations by data -/
def RD (K : PySem.W.Frag) (r : R2) (x y z : D) : Prop := ∀ (H H0 : Hp) (v u : V), Same H0 H → Dq K H H0 v x → Dq K H H0 u y → ∀ Q : VK, (∀ v' H' H0', Wd H H0 H' H0' → Dp K H0' v' z → Q v' H') → r v u H Q
def RF (K : PySem.W.Frag) (r : R2) (x y : D) (ds : List D) : Prop := ∀ (H H0 : Hp) (v u : V), Same H0 H → Dq K H H0 v x → Dq K H H0 u y → ∀ Q : VK,
  (∀ a xs H' H0', Wd H H0 H' H0' → H a = none → H' a = some (.lst xs) → H0' a = none → DpAll K H0' xs ds → Q (.ref a) H') → r v u H Q
def CD (K : PySem.W.Frag) (r : List V → Hp → VK → Prop) (xs : List D) (z : D) : Prop := ∀ (H H0 : Hp) (vs : List V), Same H0 H → DqAll K H H0 vs xs → ∀ Q : VK, (∀ v' H' H0', Wd H H0 H' H0' → Dp K H0' v' z → Q v' H') → r vs H Q
def CF (K : PySem.W.Frag) (r : List V → Hp → VK → Prop) (xs : List D) (ds : List D) : Prop := ∀ (H H0 : Hp) (vs : List V), Same H0 H → DqAll K H H0 vs xs → ∀ Q : VK,
  (∀ a xs H' H0', Wd H H0 H' H0' → H a = none → H' a = some (.lst xs) → H0' a = none → DpAll K H0' xs ds → Q (.ref a) H') → r vs H Q
/-- two steps, one behind the other -/
theorem two {α : Type} {H H0 H1 H01 : Hp} (w : Wd H H0 H1 H01) {a : Addr} {u : HO} (n : H1 a = none) : H a = none := w.e.free n
theorem ev_op {r : R2} (ha : EvQ K ta ρ x) (hb : EvQ K tb ρ y) (hr : RD K r x y z) : EvD K (tOp r ta tb) ρ z := fun B B0 σ H H0 rp Q q =>
  ha B B0 σ H H0 rp _ fun v H1 H01 w1 k1 => hb B B0 σ H1 H01 (rp.step w1) _ fun u H2 H02 w2 k2 => hr H2 H02 v u w2.sub (k1.mono w2) k2 Q fun v' H3 H03 w3 k3 => q v' H3 H03 ((w1.trans w2).trans w3) k3
theorem ev_opF {r : R2} (ha : EvQ K ta ρ x) (hb : EvQ K tb ρ y) (hr : RF K r x y ds) : EvF K (tOp r ta tb) ρ ds := fun B B0 σ H H0 rp Q q =>
  ha B B0 σ H H0 rp _ fun v H1 H01 w1 k1 => hb B B0 σ H1 H01 (rp.step w1) _ fun u H2 H02 w2 k2 => hr H2 H02 v u w2.sub (k1.mono w2) k2 Q fun a xs H3 H03 w3 n e e0 k3 =>
    q a xs H3 H03 ((w1.trans w2).trans w3) ((w1.trans w2).e.free n) e e0 k3
theorem ea_nil : EvA K tNil ρ [] := fun B B0 σ H H0 r Q q => q [] H H0 (.refl r.sub) .nil
theorem ea_cons {tt : TA} (ha : EvQ K ta ρ x) (hb : EvA K tt ρ ds) : EvA K (tCons ta tt) ρ (x :: ds) := fun B B0 σ H H0 rp Q q =>
  ha B B0 σ H H0 rp _ fun v H1 H01 w1 k1 => hb B B0 σ H1 H01 (rp.step w1) _ fun vs H2 H02 w2 k2 => q _ H2 H02 (w1.trans w2) (.cons (k1.mono w2) k2)
theorem ec_nil : EvC K tNil ρ [] := fun B B0 σ H H0 r Q q => q [] H H0 (.refl r.sub) .nil
theorem ec_cons {tt : TA} (ha : EvD K ta ρ x) (hb : EvC K tt ρ ds) : EvC K (tCons ta tt) ρ (x :: ds) := fun B B0 σ H H0 rp Q q =>
  ha B B0 σ H H0 rp _ fun v H1 H01 w1 k1 => hb B B0 σ H1 H01 (rp.step w1) _ fun vs H2 H02 w2 k2 => q _ H2 H02 (w1.trans w2) (.cons (dp_mono w2.e0 k1) k2)
theorem ev_cb {r : List V → Hp → VK → Prop} {tt : TA} (ha : EvA K tt ρ ds) (hr : CD K r ds z) : EvD K (tCB r tt) ρ z := fun B B0 σ H H0 rp Q q =>
  ha B B0 σ H H0 rp _ fun vs H1 H01 w1 k1 => hr H1 H01 vs w1.sub k1 Q fun v' H3 H03 w3 k3 => q v' H3 H03 (w1.trans w3) k3
theorem ev_cbF {r : List V → Hp → VK → Prop} {tt : TA} (ha : EvA K tt ρ ds) (hr : CF K r ds es) : EvF K (tCB r tt) ρ es := fun B B0 σ H H0 rp Q q =>
  ha B B0 σ H H0 rp _ fun vs H1 H01 w1 k1 => hr H1 H01 vs w1.sub k1 Q fun a xs H3 H03 w3 n e e0 k3 => q a xs H3 H03 (w1.trans w3) (w1.e.free n) e e0 k3
theorem ev_tup {tt : TA} (ha : EvC K tt ρ ds) (hl : ds.length ≤ sizeLine := by exact sz_le (by simp)) : EvD K (tTup tt) ρ (.tuple ds) := fun B B0 σ H H0 rp Q q =>
  ha B B0 σ H H0 rp _ fun vs H1 H01 w1 k1 => ⟨by rw [dpa_len k1]; exact hl, fun p np => q _ _ (upd H01 p (.tup vs)) (w1.trans (.clean w1.sub np)) (.tup (.of upd_same) (dpa_mono (same_new (sub_none w1.sub np)) k1))⟩
theorem ev_lst {tt : TA} (ha : EvC K tt ρ ds) (hl : ds.length ≤ sizeLine := by exact sz_le (by simp)) : EvF K (tLst tt) ρ ds := fun B B0 σ H H0 rp Q q =>
  ha B B0 σ H H0 rp _ fun vs H1 H01 w1 k1 => ⟨by rw [dpa_len k1]; exact hl, fun p np => q p vs _ H01 (w1.trans (.dirty w1.sub np)) (w1.e.free np) upd_same (sub_none w1.sub np) k1⟩

/-! ints -/
theorem rd_I {C : Int → Int → Prop} {g : Int → Int → Int} {i j : Int} (hc : C i j) : RD K (rI C fun i j => .int (g i j)) (.int i) (.int j) (.int (g i j)) := fun H H0 v u s k1 k2 Q q => by
  rw [k1.int, k2.int]
  exact ⟨i, j, rfl, rfl, hc, q _ H H0 (.refl s) (.int _)⟩
theorem rd_I0 {g : Int → Int → Int} {i j : Int} : RD K (rI0 fun i j => .int (g i j)) (.int i) (.int j) (.int (g i j)) := fun H H0 v u s k1 k2 Q q => by
  rw [k1.int, k2.int]
  exact ⟨i, j, rfl, rfl, q _ H H0 (.refl s) (.int _)⟩
theorem rd_B0 {g : Int → Int → Bool} {i j : Int} : RD K (rI0 fun i j => .bl (g i j)) (.int i) (.int j) (.bool (g i j)) := fun H H0 v u s k1 k2 Q q => by
  rw [k1.int, k2.int]
  exact ⟨i, j, rfl, rfl, q _ H H0 (.refl s) (.bl _)⟩
theorem rd_or1 {r r' : R2} (h : RD K r x y z) : RD K (fun x y H Q => r x y H Q ∨ r' x y H Q) x y z := fun H H0 v u s k1 k2 Q q => .inl (h H H0 v u s k1 k2 Q q)
theorem rd_or2 {r r' : R2} (h : RD K r' x y z) : RD K (fun x y H Q => r x y H Q ∨ r' x y H Q) x y z := fun H H0 v u s k1 k2 Q q => .inr (h H H0 v u s k1 k2 Q q)
theorem rf_or1 {r r' : R2} (h : RF K r x y ds) : RF K (fun x y H Q => r x y H Q ∨ r' x y H Q) x y ds := fun H H0 v u s k1 k2 Q q => .inl (h H H0 v u s k1 k2 Q q)
theorem rf_or2 {r r' : R2} (h : RF K r' x y ds) : RF K (fun x y H Q => r x y H Q ∨ r' x y H Q) x y ds := fun H H0 v u s k1 k2 Q q => .inr (h H H0 v u s k1 k2 Q q)
theorem ev_neg {i : Int} (h : EvQ K ta ρ (.int i)) : EvD K (tUn (rU fun i => .int (-i)) ta) ρ (.int (-i)) := fun B B0 σ H H0 rp Q q =>
  h B B0 σ H H0 rp _ fun v H1 H01 w1 k1 => by rw [k1.int]; exact ⟨i, rfl, q _ H1 H01 w1 (.int _)⟩
/-! texts -/
theorem rd_addS {a b : Str} (hl : a.length + b.length ≤ sizeLine) : RD K (fun x y H Q => ∃ i j, x = .str i ∧ y = .str j ∧ i.length + j.length ≤ sizeLine ∧ Q (.str (i ++ j)) H) (.str a) (.str b) (.str (a ++ b)) := fun H H0 v u s k1 k2 Q q => by
  rw [k1.str, k2.str]
  exact ⟨a, b, rfl, rfl, hl, q _ H H0 (.refl s) (.str _)⟩
/-! == of any data -/
theorem rd_eq {x y : D} (h1 : SeqAt.shaped x = true) (h2 : SeqAt.shaped y = true) : RD K (rEqD K) x y (.bool (PyData.eqv x y)) := fun H H0 v u s k1 k2 Q q =>
  ⟨x, y, k1.dp s, k2.dp s, h1, h2, q _ H H0 (.refl s) (.bl _)⟩
theorem rd_ne {x y : D} (h1 : SeqAt.shaped x = true) (h2 : SeqAt.shaped y = true) : RD K (rNeD K) x y (.bool (!PyData.eqv x y)) := fun H H0 v u s k1 k2 Q q =>
  ⟨x, y, k1.dp s, k2.dp s, h1, h2, q _ H H0 (.refl s) (.bl _)⟩
theorem rd_eqI {x y : Int} : RD K rEq (.int x) (.int y) (.bool (decide (x = y))) := fun H H0 v u s k1 k2 Q q => by
  rw [k1.int, k2.int]
  exact ⟨rfl, by rw [dec_int, Bool.beq_eq_decide_eq]; exact q _ H H0 (.refl s) (.bl _)⟩
theorem rd_neI {x y : Int} : RD K rNe (.int x) (.int y) (.bool (!decide (x = y))) := fun H H0 v u s k1 k2 Q q => by
  rw [k1.int, k2.int]
  exact ⟨rfl, by rw [dec_int, Bool.beq_eq_decide_eq]; exact q _ H H0 (.refl s) (.bl _)⟩
theorem rd_eqS {x y : Str} : RD K rEq (.str x) (.str y) (.bool (decide (x = y))) := fun H H0 v u s k1 k2 Q q => by
  rw [k1.str, k2.str]
  exact ⟨rfl, by rw [dec_str, Bool.beq_eq_decide_eq]; exact q _ H H0 (.refl s) (.bl _)⟩
theorem rd_neS {x y : Str} : RD K rNe (.str x) (.str y) (.bool (!decide (x = y))) := fun H H0 v u s k1 k2 Q q => by
  rw [k1.str, k2.str]
  exact ⟨rfl, by rw [dec_str, Bool.beq_eq_decide_eq]; exact q _ H H0 (.refl s) (.bl _)⟩
def isNoneD : D → Bool
  | .none => true
  | _ => false
theorem rd_isN {x : D} : RD K (fun x y H Q => y = .non ∧ Q (.bl (decide (x = .non))) H) x .none (.bool (isNoneD x)) := fun H H0 v u s k1 k2 Q q => by
  refine ⟨k2.non, ?_⟩
  have e : decide (v = .non) = (isNoneD x) := by
    have k := k1.dp s
    cases k <;> simp [isNoneD]
  rw [e]
  exact q _ H H0 (.refl s) (.bl _)
theorem rd_notN {x : D} : RD K (fun x y H Q => y = .non ∧ Q (.bl (!decide (x = .non))) H) x .none (.bool (!isNoneD x)) := fun H H0 v u s k1 k2 Q q => by
  refine ⟨k2.non, ?_⟩
  have e : decide (v = .non) = (isNoneD x) := by
    have k := k1.dp s
    cases k <;> simp [isNoneD]
  rw [e]
  exact q _ H H0 (.refl s) (.bl _)
/-! tuples of ints in order -/
theorem sqT_ints {H H0 : Hp} {v : V} {ns : List Int} (s : Same H0 H) (k : Dq K H H0 v (.tuple (ns.map .int))) : ∃ a, v = .ref a ∧ SqT K H a (ns.map V.int) := by
  obtain ⟨a, xs, e, h1, h2⟩ := k.tup
  rw [dpa_ints h2] at h1
  exact ⟨a, e, sqT_mono s h1⟩
/-! an item -/
theorem atI_map {α β : Type} {f : α → β} {xs : List α} {i : Int} {v : α} (h : atI xs i = some v) : atI (xs.map f) i = some (f v) := by
  unfold atI at h ⊢
  rw [List.length_map]
  cases e : ixN xs.length i with
  | none => rw [e] at h; cases h
  | some j =>
    rw [e] at h
    simp only [Option.bind_some] at h ⊢
    rw [List.getElem?_map, h]; rfl
theorem atI_dp {H : Hp} {vs : List V} {ds : List D} {i : Int} {d : D} (h : DpAll K H vs ds) (e : atI ds i = some d) : ∃ v, atI vs i = some v ∧ Dp K H v d := by
  unfold atI at e ⊢
  rw [dpa_len h]
  cases q : ixN ds.length i with
  | none => rw [q] at e; cases e
  | some j =>
    rw [q] at e
    exact dpa_get h e
theorem rd_ixT {ds : List D} {i : Int} {d : D} (e : atI ds i = some d) : RD K (rIx K) (.tuple ds) (.int i) d := fun H H0 v u s k1 k2 Q q => by
  obtain ⟨a, xs, rfl, h1, h2⟩ := k1.tup
  rw [k2.int]
  obtain ⟨w, e1, e2⟩ := atI_dp h2 e
  exact .inr (.inl ⟨a, xs, i, w, rfl, rfl, sqT_mono s h1, e1, q _ H H0 (.refl s) e2⟩)
theorem rd_ixL {ds : List D} {i : Int} {d : D} (e : atI ds i = some d) : RD K (rIx K) (.list ds) (.int i) d := fun H H0 v u s k1 k2 Q q => by
  obtain ⟨a, xs, rfl, h1, h2⟩ := k1.lst s
  rw [k2.int]
  obtain ⟨w, e1, e2⟩ := atI_dp h2 e
  exact .inl ⟨a, xs, i, w, rfl, rfl, h1, e1, q _ H H0 (.refl s) e2⟩
theorem rd_ixS {z : Str} {i : Int} {c : Nat} (hl : z.length ≤ sizeLine) (e : atI z.cps.toList i = some c) : RD K (rIx K) (.str z) (.int i) (.str ⟨#[c]⟩) := fun H H0 v u s k1 k2 Q q => by
  rw [k1.str, k2.int]
  exact .inr (.inr ⟨z, i, c, rfl, rfl, hl, e, q _ H H0 (.refl s) (.str _)⟩)
/-! in, not in -/
def flatD : D → Bool
  | .none => true
  | .bool _ => true
  | .int _ => true
  | .str _ => true
  | _ => false
def vD : D → V
  | .none => .non
  | .bool b => .bl b
  | .int i => .int i
  | .str s => .str s
  | _ => .non
theorem dp_flat {H : Hp} {v : V} {d : D} (h : Dp K H v d) (f : flatD d = true) : v = vD d ∧ flatV v = true := by
  cases h <;> first | exact ⟨rfl, rfl⟩ | cases f
theorem dpa_flat {H : Hp} : ∀ {vs : List V} {ds : List D}, DpAll K H vs ds → ds.all flatD = true → vs = ds.map vD ∧ vs.all flatV = true
  | _, _, .nil, _ => ⟨rfl, rfl⟩
  | _, _, .cons a b, f => by
    rw [List.all_cons, Bool.and_eq_true] at f
    obtain ⟨e1, f1⟩ := dp_flat a f.1
    obtain ⟨e2, f2⟩ := dpa_flat b f.2
    exact ⟨by rw [List.map_cons, e1, e2], by rw [List.all_cons, f1, f2]; rfl⟩
def inD (x : D) (ds : List D) : Bool := ds.any fun y => eqV (vD y) (vD x)
theorem inV_map (x : D) (ds : List D) : inV (vD x) (ds.map vD) = inD x ds := by
  unfold inV inD
  rw [List.any_map]; rfl
theorem rd_inL {x : D} {ds : List D} (neg : Bool) (fx : flatD x = true) (fs : ds.all flatD = true) : RD K (rIn K neg) x (.list ds) (.bool (if neg then !inD x ds else inD x ds)) := fun H H0 v u s k1 k2 Q q => by
  obtain ⟨a, xs, rfl, h1, h2⟩ := k2.lst s
  have k := k1.dp s
  obtain ⟨rfl, f1⟩ := dp_flat k fx
  obtain ⟨rfl, f2⟩ := dpa_flat h2 fs
  refine ⟨a, _, rfl, .inl h1, f1, f2, ?_⟩
  rw [inV_map]
  exact q _ H H0 (.refl s) (.bl _)
theorem rd_inT {x : D} {ds : List D} (neg : Bool) (fx : flatD x = true) (fs : ds.all flatD = true) : RD K (rIn K neg) x (.tuple ds) (.bool (if neg then !inD x ds else inD x ds)) := fun H H0 v u s k1 k2 Q q => by
  obtain ⟨a, xs, rfl, h1, h2⟩ := k2.tup
  have k := k1.dp s
  obtain ⟨rfl, f1⟩ := dp_flat k fx
  obtain ⟨rfl, f2⟩ := dpa_flat h2 fs
  refine ⟨a, _, rfl, .inr (sqT_mono s h1), f1, f2, ?_⟩
  rw [inV_map]
  exact q _ H H0 (.refl s) (.bl _)
/-! slices -/
def cutD (ds : List D) (lo hi : Option Int) : List D := (ds.drop (HT.sIx ds.length 0 lo)).take (HT.sIx ds.length ds.length hi - HT.sIx ds.length 0 lo)
theorem eo_none : EvO K tNoPart ρ none := fun B B0 σ H H0 r Q q => q H H0 (.refl r.sub)
theorem eo_some {i : Int} (h : EvQ K ta ρ (.int i)) : EvO K (tPart ta) ρ (some i) := fun B B0 σ H H0 r Q q =>
  h B B0 σ H H0 r _ fun v H1 H01 w k => ⟨i, k.int, q H1 H01 w⟩
theorem ev_slS {z : Str} {tl th : TO} {lo hi : Option Int} (h : EvQ K ta ρ (.str z)) (h1 : EvO K tl ρ lo) (h2 : EvO K th ρ hi) (hl : z.length ≤ sizeLine) : EvD K (tSl rSlS ta tl th) ρ (.str (cutS z lo hi)) := fun B B0 σ H H0 r Q q =>
  h B B0 σ H H0 r _ fun v H1 H01 w1 k1 => h1 B B0 σ H1 H01 (r.step w1) _ fun H2 H02 w2 => h2 B B0 σ H2 H02 ((r.step w1).step w2) _ fun H3 H03 w3 => by
    rw [k1.str]
    exact ⟨z, rfl, hl, q _ H3 H03 ((w1.trans w2).trans w3) (.str _)⟩
theorem ev_slL {tl th : TO} {lo hi : Option Int} (h : EvQ K ta ρ (.list ds)) (h1 : EvO K tl ρ lo) (h2 : EvO K th ρ hi) : EvF K (tSl (rSlL K) ta tl th) ρ (cutD ds lo hi) := fun B B0 σ H H0 r Q q =>
  h B B0 σ H H0 r _ fun v H1 H01 w1 k1 => h1 B B0 σ H1 H01 (r.step w1) _ fun H2 H02 w2 => h2 B B0 σ H2 H02 ((r.step w1).step w2) _ fun H3 H03 w3 => by
    obtain ⟨a, xs, rfl, g1, g2⟩ := ((k1.mono w2).mono w3).lst w3.sub
    refine ⟨a, xs, rfl, g1, fun p np => q p _ _ H03 (((w1.trans w2).trans w3).trans (.dirty w3.sub np)) (((w1.trans w2).trans w3).e.free np) upd_same (sub_none w3.sub np) ?_⟩
    unfold cutV cutD
    rw [dpa_len g2]
    exact dpa_take _ (dpa_drop _ g2)
/-! calls of built-ins -/
theorem dq1 {H H0 : Hp} {vs : List V} {x : D} (h : DqAll K H H0 vs [x]) : ∃ v, vs = [v] ∧ Dq K H H0 v x := by
  cases h with
  | cons a b => cases b; exact ⟨_, rfl, a⟩
theorem dq2 {H H0 : Hp} {vs : List V} {x y : D} (h : DqAll K H H0 vs [x, y]) : ∃ v u, vs = [v, u] ∧ Dq K H H0 v x ∧ Dq K H H0 u y := by
  cases h with
  | cons a b =>
    cases b with
    | cons c e => cases e; exact ⟨_, _, rfl, a, c⟩
theorem cd_int {i : Int} : CD K (fun xs H Q => (∃ i, xs = [.int i] ∧ Q (.int i) H) ∨ ∃ k, xs = [.bl k] ∧ Q (.int (if k then 1 else 0)) H) [.int i] (.int i) := fun H H0 vs s k Q q => by
  obtain ⟨v, rfl, kk⟩ := dq1 k
  rw [kk.int]
  exact .inl ⟨i, rfl, q _ H H0 (.refl s) (.int _)⟩
theorem cd_str {i : Int} (h : i.natAbs.log2 < 1920) : CD K (fun xs H Q => ∃ i, xs = [.int i] ∧ i.natAbs.log2 < 1920 ∧ Q (.str (toString i)) H) [.int i] (.str (toString i)) := fun H H0 vs s k Q q => by
  obtain ⟨v, rfl, kk⟩ := dq1 k
  rw [kk.int]
  exact ⟨i, rfl, h, q _ H H0 (.refl s) (.str _)⟩
def rLen (K : PySem.W.Frag) : List V → Hp → VK → Prop := fun xs H Q => (∃ p ys, xs = [.ref p] ∧ (SqL K H p ys ∨ SqT K H p ys) ∧ Q (.int ys.length) H) ∨ ∃ z, xs = [.str z] ∧ z.length ≤ sizeLine ∧ Q (.int z.length) H
theorem call_lenA {X : Cx} : CallR X (.builtin "len") (rLen X.K) := call_len_seq.or call_len_str
theorem cd_lenL {ds : List D} : CD K (rLen K) [.list ds] (.int ds.length) := fun H H0 vs s k Q q => by
  obtain ⟨v, rfl, kk⟩ := dq1 k
  obtain ⟨a, xs, rfl, h1, h2⟩ := kk.lst s
  refine .inl ⟨a, xs, rfl, .inl h1, ?_⟩
  rw [dpa_len h2]
  exact q _ H H0 (.refl s) (.int _)
theorem cd_lenT {ds : List D} : CD K (rLen K) [.tuple ds] (.int ds.length) := fun H H0 vs s k Q q => by
  obtain ⟨v, rfl, kk⟩ := dq1 k
  obtain ⟨a, xs, rfl, h1, h2⟩ := kk.tup
  refine .inl ⟨a, xs, rfl, .inr (sqT_mono s h1), ?_⟩
  rw [dpa_len h2]
  exact q _ H H0 (.refl s) (.int _)
theorem cd_lenS {z : Str} (hl : z.length ≤ sizeLine) : CD K (rLen K) [.str z] (.int z.length) := fun H H0 vs s k Q q => by
  obtain ⟨v, rfl, kk⟩ := dq1 k
  rw [kk.str]
  exact .inr ⟨z, rfl, hl, q _ H H0 (.refl s) (.int _)⟩
def rTuple (K : PySem.W.Frag) : List V → Hp → VK → Prop := fun xs H Q => ∃ p ys, xs = [.ref p] ∧ ((SqL K H p ys ∧ ∀ l, H l = none → Q (.ref l) (upd H l (.tup ys))) ∨ (SqT K H p ys ∧ Q (.ref p) H))
theorem call_tupleA {X : Cx} : CallR X (.type "tuple") (rTuple X.K) := call_tuple_of
theorem cd_tupL {ds : List D} : CD K (rTuple K) [.list ds] (.tuple ds) := fun H H0 vs s k Q q => by
  obtain ⟨v, rfl, kk⟩ := dq1 k
  obtain ⟨a, xs, rfl, h1, h2⟩ := kk.lst s
  exact ⟨a, xs, rfl, .inl ⟨h1, fun l nl => q _ _ (upd H0 l (.tup xs)) (.clean s nl) (.tup (.of upd_same) (dpa_mono (same_new (sub_none s nl)) h2))⟩⟩
theorem cd_tupT {ds : List D} : CD K (rTuple K) [.tuple ds] (.tuple ds) := fun H H0 vs s k Q q => by
  obtain ⟨v, rfl, kk⟩ := dq1 k
  obtain ⟨a, xs, rfl, h1, h2⟩ := kk.tup
  exact ⟨a, xs, rfl, .inr ⟨sqT_mono s h1, q _ H H0 (.refl s) (.tup h1 h2)⟩⟩
def rList (K : PySem.W.Frag) : List V → Hp → VK → Prop := fun xs H Q => ∃ p ys, xs = [.ref p] ∧ (SqL K H p ys ∨ SqT K H p ys) ∧ ∀ l, H l = none → Q (.ref l) (upd H l (.lst ys))
theorem call_listA {X : Cx} : CallR X (.type "list") (rList X.K) := call_list_of
theorem cf_listT {ds : List D} : CF K (rList K) [.tuple ds] ds := fun H H0 vs s k Q q => by
  obtain ⟨v, rfl, kk⟩ := dq1 k
  obtain ⟨a, xs, rfl, h1, h2⟩ := kk.tup
  exact ⟨a, xs, rfl, .inr (sqT_mono s h1), fun l nl => q l xs _ H0 (.dirty s nl) nl upd_same (sub_none s nl) h2⟩
theorem cf_listL {ds : List D} : CF K (rList K) [.list ds] ds := fun H H0 vs s k Q q => by
  obtain ⟨v, rfl, kk⟩ := dq1 k
  obtain ⟨a, xs, rfl, h1, h2⟩ := kk.lst s
  exact ⟨a, xs, rfl, .inl h1, fun l nl => q l xs _ H0 (.dirty s nl) nl upd_same (sub_none s nl) h2⟩

/-! ### tests -/
theorem et_test {b : Bool} (h : EvQ K ta ρ (.bool b)) : EvT K (tTest ta) ρ b := fun B B0 σ H H0 r Q q => h B B0 σ H H0 r _ fun v H1 H01 w k => ⟨b, k.bl, q H1 H01 w⟩
theorem et_B {b : Bool} (h : EvQ K ta ρ (.bool b)) : EvT K (tB ta) ρ b := fun B B0 σ H H0 r Q q => h B B0 σ H H0 r _ fun v H1 H01 w k => ⟨b, k.bl, q H1 H01 w⟩
theorem et_not {t : TT} {b : Bool} (h : EvT K t ρ b) : EvT K (tNot t) ρ (!b) := fun B B0 σ H H0 r Q q => h B B0 σ H H0 r _ fun H1 H01 w => q H1 H01 w
theorem et_and {t u : TT} {a b : Bool} (h1 : EvT K t ρ a) (h2 : a = true → EvT K u ρ b) : EvT K (tAnd t u) ρ (a && b) := fun B B0 σ H H0 r Q q => h1 B B0 σ H H0 r _ fun H1 H01 w => by
  cases a with
  | true =>
    rw [if_pos rfl]
    exact h2 rfl B B0 σ H1 H01 (r.step w) Q fun H2 H02 w2 => q H2 H02 (w.trans w2)
  | false =>
    rw [if_neg Bool.false_ne_true]
    exact q H1 H01 w
theorem et_or {t u : TT} {a b : Bool} (h1 : EvT K t ρ a) (h2 : a = false → EvT K u ρ b) : EvT K (tOr t u) ρ (a || b) := fun B B0 σ H H0 r Q q => h1 B B0 σ H H0 r _ fun H1 H01 w => by
  cases a with
  | true =>
    rw [if_pos rfl]
    exact q H1 H01 w
  | false =>
    rw [if_neg Bool.false_ne_true]
    exact h2 rfl B B0 σ H1 H01 (r.step w) Q fun H2 H02 w2 => q H2 H02 (w.trans w2)
theorem EvT.to {t : TT} {a b : Bool} (h : EvT K t ρ a) (e : a = b) : EvT K t ρ b := e ▸ h
theorem et_yes : EvT K tYes ρ true := fun B B0 σ H H0 r Q q => q H H0 (.refl r.sub)
theorem ev_if {t : TT} {b : Bool} (h : EvT K t ρ b) (h1 : b = true → EvD K ta ρ d) (h2 : b = false → EvD K tb ρ d) : EvD K (tIf t ta tb) ρ d := fun B B0 σ H H0 r Q q => h B B0 σ H H0 r _ fun H1 H01 w => by
  cases b with
  | true =>
    rw [if_pos rfl]
    exact h1 rfl B B0 σ H1 H01 (r.step w) Q fun v H2 H02 w2 k => q v H2 H02 (w.trans w2) k
  | false =>
    rw [if_neg Bool.false_ne_true]
    exact h2 rfl B B0 σ H1 H01 (r.step w) Q fun v H2 H02 w2 k => q v H2 H02 (w.trans w2) k
/-- a op1 b op2 c -/
theorem ev_chain {r r' : R2} {k1 k2 : Bool} (ha : EvQ K ta ρ x) (hb : EvQ K tb ρ y) (hr : RD K r x y (.bool k1)) (hc : k1 = true → EvQ K tc ρ z) (hr' : k1 = true → RD K r' y z (.bool k2)) : EvD K (tChain r r' ta tb tc) ρ (.bool (k1 && k2)) := fun B B0 σ H H0 rp Q q =>
  ha B B0 σ H H0 rp _ fun v H1 H01 w1 k1' => hb B B0 σ H1 H01 (rp.step w1) _ fun u H2 H02 w2 k2' => hr H2 H02 v u w2.sub (k1'.mono w2) k2' _ fun v' H3 H03 w3 k3 => by
    cases k3
    refine ⟨k1, rfl, ?_⟩
    cases k1 with
    | false =>
      rw [if_neg Bool.false_ne_true]
      exact q _ H3 H03 ((w1.trans w2).trans w3) (.bl _)
    | true =>
      rw [if_pos rfl]
      exact hc rfl B B0 σ H3 H03 (((rp.step w1).step w2).step w3) _ fun w' H4 H04 w4 k4 => hr' rfl H4 H04 u w' w4.sub ((k2'.mono w3).mono w4) k4 Q fun v2 H5 H05 w5 k5 =>
        q v2 H5 H05 ((((w1.trans w2).trans w3).trans w4).trans w5) k5
end
end EL

namespace EL
open PySem PySem.Spec PyProof.Rows L2
variable [TabC]
variable {K : PySem.W.Frag}

/-! ### what a statement leads to -/
structure Post where
  nx : List Sl → Prop
  rt : D → Prop
  bk : List Sl → Prop := fun _ => False
  ct : List Sl → Prop := fun _ => False
  rg : (Hp → V → Prop) → Prop := fun _ => False
structure Meets (K : PySem.W.Frag) (B B0 : Hp) (P : Post) (E : Ends) : Prop where
  nx : ∀ (ρ : List Sl) (σ : L2.St) (H H0 : Hp), P.nx ρ → Rp K B B0 ρ σ H H0 → E.nx σ H
  rt : ∀ (d : D) (v : V) (H H0 : Hp), P.rt d → Wd B B0 H H0 → Dp K H0 v d → E.rt v H
  bk : ∀ (ρ : List Sl) (σ : L2.St) (H H0 : Hp), P.bk ρ → Rp K B B0 ρ σ H H0 → E.bk σ H
  ct : ∀ (ρ : List Sl) (σ : L2.St) (H H0 : Hp), P.ct ρ → Rp K B B0 ρ σ H H0 → E.ct σ H
  rg : ∀ (φ : Hp → V → Prop) (v : V) (H H0 : Hp), P.rg φ → Wd B B0 H H0 → φ H0 v → E.rt v H
def Wp (K : PySem.W.Frag) (t : TS) (ρ : List Sl) (P : Post) : Prop := ∀ (B B0 : Hp) (σ : L2.St) (H H0 : Hp), Rp K B B0 ρ σ H H0 → ∀ E : Ends, Meets K B B0 P E → t E σ H
section
variable {ρ ρ' : List Sl} {P : Post} {t u : TS} {te ta : TE} {d x y z : D} {ds es : List D} {i : Nat}
theorem w_nxt (h : P.nx ρ) : Wp K tNext ρ P := fun B B0 σ H H0 r E m => m.nx ρ σ H H0 h r
theorem w_break (h : P.bk ρ) : Wp K tBreak ρ P := fun B B0 σ H H0 r E m => m.bk ρ σ H H0 h r
theorem w_cont (h : P.ct ρ) : Wp K tCont ρ P := fun B B0 σ H H0 r E m => m.ct ρ σ H H0 h r
theorem w_seq (h : Wp K t ρ { P with nx := fun ρ' => Wp K u ρ' P }) : Wp K (tSeq t u) ρ P := fun B B0 σ H H0 r E m =>
  h B B0 σ H H0 r { E with nx := u E } ⟨fun ρ' σ' H' H0' k r' => k B B0 σ' H' H0' r' E m, m.rt, m.bk, m.ct, m.rg⟩
theorem w_mono {P' : Post} (h : Wp K t ρ P') (h1 : ∀ ρ, P'.nx ρ → P.nx ρ) (h2 : ∀ d, P'.rt d → P.rt d) (h3 : ∀ ρ, P'.bk ρ → P.bk ρ) (h4 : ∀ ρ, P'.ct ρ → P.ct ρ) (h5 : ∀ φ, P'.rg φ → P.rg φ := by intro _ z; first | exact z | exact z.elim) : Wp K t ρ P := fun B B0 σ H H0 r E m =>
  h B B0 σ H H0 r E ⟨fun ρ' σ' H' H0' k => m.nx ρ' σ' H' H0' (h1 _ k), fun d v H' H0' k => m.rt d v H' H0' (h2 _ k), fun ρ' σ' H' H0' k => m.bk ρ' σ' H' H0' (h3 _ k), fun ρ' σ' H' H0' k => m.ct ρ' σ' H' H0' (h4 _ k), fun φ v H' H0' k => m.rg φ v H' H0' (h5 _ k)⟩
/-- name = data -/
theorem w_set (h : EvD K te ρ d) (k : P.nx (ρ.set i (.dat d))) : Wp K (tAsg te (gName i)) ρ P := fun B B0 σ H H0 r E m =>
  h B B0 σ H H0 r _ fun v H' H0' w kd => m.nx _ _ H' H0' k ((r.step w).setD kd i)
/-- name = a list of one's own -/
theorem w_own (h : EvF K te ρ ds) (k : P.nx (ρ.set i (.own ds))) : Wp K (tAsg te (gName i)) ρ P := fun B B0 σ H H0 r E m =>
  h B B0 σ H H0 r _ fun a xs H' H0' w n e e0 kd => m.nx _ _ H' H0' k (r.setO w n e e0 kd i)
theorem w_ret (h : EvD K te ρ d) (k : P.rt d) : Wp K (tRet te) ρ P := fun B B0 σ H H0 r E m =>
  h B B0 σ H H0 r _ fun v H' H0' w kd => m.rt d v H' H0' k (r.wd.trans w) kd
theorem w_retN (k : P.rt .none) : Wp K tRetN ρ P := fun B B0 σ H H0 r E m => m.rt .none .non H H0 k r.wd .non
/-- return of one's own list -/
theorem w_retO (h : ρ[i]? = some (Sl.own ds)) (k : P.rt (.list ds)) : Wp K (tRet (tVar i)) ρ P := fun B B0 σ H H0 r E m => by
  obtain ⟨a, xs, e1, e2, e3, e4, e5⟩ := r.own i ds h
  exact ⟨_, e1, m.rt _ _ H (upd H0 a (.lst xs)) k (r.wd.adopt e2 e4 e3) (.lst (.of upd_same) (dpa_mono (same_new e3) e5))⟩
theorem w_if {c : TT} {b : Bool} (h : EvT K c ρ b) (h1 : b = true → Wp K t ρ P) (h2 : b = false → Wp K u ρ P) : Wp K (tIfS c t u) ρ P := fun B B0 σ H H0 r E m =>
  h B B0 σ H H0 r _ fun H' H0' w => by
    cases b with
    | true => rw [if_pos rfl]; exact h1 rfl B B0 σ H' H0' (r.step w) E m
    | false => rw [if_neg Bool.false_ne_true]; exact h2 rfl B B0 σ H' H0' (r.step w) E m
theorem w_drop (h : EvQ K te ρ d) (k : P.nx ρ) : Wp K (tDrop te) ρ P := fun B B0 σ H H0 r E m =>
  h B B0 σ H H0 r _ fun v H' H0' w kd => m.nx ρ σ H' H0' k (r.step w)
/-- name op= data -/
theorem w_aug {ti : TIp} (h : ρ[i]? = some (Sl.dat x)) (he : EvQ K te ρ y) (hr : RD K ti x y z) (k : P.nx (ρ.set i (.dat z))) : Wp K (tAug i te ti) ρ P := fun B B0 σ H H0 r E m => by
  obtain ⟨v, e1, e2⟩ := r.dat i x h
  exact ⟨v, e1, he B B0 σ H H0 r _ fun u H1 H01 w1 k1 => hr H1 H01 v u w1.sub (.inl (dp_mono w1.e0 e2)) k1 _ fun v' H2 H02 w2 k2 => m.nx _ _ H2 H02 k (((r.step w1).step w2).setD k2 i)⟩
/-- one's own list.append(data) -/
theorem w_append (h : ρ[i]? = some (Sl.own ds)) (he : EvD K te ρ d) (hl : ds.length < sizeLine) (k : P.nx (ρ.set i (.own (ds ++ [d])))) : Wp K (tDrop (tBM K "list" rAppend (tVar i) (tCons te tNil))) ρ P := fun B B0 σ H H0 r E m => by
  obtain ⟨a, xs, e1, e2, e3, e4, e5⟩ := r.own i ds h
  refine ⟨_, e1, .inl ⟨rfl, _, .of e4⟩, he B B0 σ H H0 r _ fun v H1 H01 w1 k1 => ?_⟩
  have r1 := r.step w1
  obtain ⟨a', xs', f1, f2, f3, f4, f5⟩ := r1.own i ds h
  rw [e1] at f1; cases f1
  refine ⟨a, xs', v, rfl, rfl, f4, by rw [dpa_len f5]; exact hl, ?_⟩
  exact m.nx _ _ _ H01 k (r1.write h e1 (dpa_app f5 (.cons k1 .nil)))
/-- one's own list[j] = data -/
theorem w_freeze (h : ρ[i]? = some (Sl.own ds)) (k : Wp K t (ρ.set i (.dat (.list ds))) P) : Wp K t ρ P := fun B B0 σ H H0 r E m => by
  obtain ⟨H0', r'⟩ := r.freeze h
  exact k B B0 σ H H0' r' E m
theorem w_forget (i : Nat) (k : Wp K t (ρ.set i .no) P) : Wp K t ρ P := fun B B0 σ H H0 r E m => k B B0 σ H H0 (r.forget i) E m

/-! ### targets -/
def Bd (K : PySem.W.Frag) (g : TG) (is : List Nat) (d : D) (ρ ρ2 : List Sl) : Prop := ∀ (B B0 : Hp) (σ : L2.St) (H H0 : Hp) (v : V), Rp K B B0 ρ σ H H0 → Dp K H0 v d → ∀ Q : L2.St → Hp → Prop,
  (∀ σ2, Rp K B B0 ρ2 σ2 H H0 → (∀ vs : List Nat, (∀ i ∈ is, i ∈ vs) → wipe σ2 vs = wipe σ vs) → Q σ2 H) → g v σ H Q
def Bds (K : PySem.W.Frag) (g : TGs) (is : List Nat) (ds : List D) (ρ ρ2 : List Sl) : Prop := ∀ (B B0 : Hp) (σ : L2.St) (H H0 : Hp) (vs : List V), Rp K B B0 ρ σ H H0 → DpAll K H0 vs ds → ∀ Q : L2.St → Hp → Prop,
  (∀ σ2, Rp K B B0 ρ2 σ2 H H0 → (∀ vs : List Nat, (∀ i ∈ is, i ∈ vs) → wipe σ2 vs = wipe σ vs) → Q σ2 H) → g vs σ H Q
theorem set_no {α : Type} (l : List α) (i : Nat) (x y : α) : (l.set i x).set i y = l.set i y := List.set_set ..
theorem wipe_set (σ : L2.St) (i : Nat) (x : Option V) : ∀ vs : List Nat, i ∈ vs → wipe (σ.set i x) vs = wipe σ vs
  | [], h => by cases h
  | v :: vs, h => by
    show (wipe (σ.set i x) vs).set v none = (wipe σ vs).set v none
    by_cases hv : i ∈ vs
    · rw [wipe_set σ i x vs hv]
    · have e : i = v := by
        rcases List.mem_cons.mp h with e | e
        · exact e
        · exact absurd e hv
      subst e
      have q : ∀ (us : List Nat) (τ : L2.St), i ∉ us → wipe (τ.set i x) us = (wipe τ us).set i x := by
        intro us
        induction us with
        | nil => intro τ _; rfl
        | cons w us ih =>
          intro τ hn
          show (wipe (τ.set i x) us).set w none = ((wipe τ us).set w none).set i x
          rw [ih τ (fun z => hn (List.mem_cons_of_mem _ z)), List.set_comm _ _ (fun z : i = w => hn (by rw [z]; exact List.mem_cons_self))]
      rw [q vs σ hv, List.set_set]
theorem bd_name : Bd K (gName i) [i] d ρ (ρ.set i (.dat d)) := fun B B0 σ H H0 v r h Q q => q _ (r.setD h i) fun vs hv => wipe_set σ i _ vs (hv i List.mem_cons_self)
theorem bds_nil : Bds K gNil [] [] ρ ρ := fun B B0 σ H H0 vs r h Q q => by
  cases h
  exact ⟨rfl, q σ r fun _ _ => rfl⟩
theorem bds_cons {g : TG} {gs : TGs} {is js : List Nat} {ρ1 ρ2 : List Sl} (h1 : Bd K g is d ρ ρ1) (h2 : Bds K gs js ds ρ1 ρ2) : Bds K (gCons g gs) (is ++ js) (d :: ds) ρ ρ2 := fun B B0 σ H H0 vs r h Q q => by
  cases h with
  | cons a b =>
    refine ⟨_, _, rfl, h1 B B0 σ H H0 _ r a _ fun σ1 r1 e1 => h2 B B0 σ1 H H0 _ r1 b _ fun σ2 r2 e2 => q σ2 r2 fun us hu => ?_⟩
    rw [e2 us (fun i hi => hu i (List.mem_append_right _ hi)), e1 us (fun i hi => hu i (List.mem_append_left _ hi))]
theorem bd_tup {gs : TGs} {is : List Nat} {n : Nat} {ρ2 : List Sl} (h : Bds K gs is ds ρ ρ2) (hn : ds.length = n := by rfl) : Bd K (gTup K n gs) is (.tuple ds) ρ ρ2 := fun B B0 σ H H0 v r k Q q => by
  cases k with
  | tup s a => exact ⟨_, _, rfl, sqT_mono r.sub s, by rw [dpa_len a]; exact hn, h B B0 σ H H0 _ r a Q q⟩
/-- target = data -/
theorem w_asg {g : TG} {is : List Nat} {ρ2 : List Sl} (h : EvD K te ρ d) (hb : Bd K g is d ρ ρ2) (k : P.nx ρ2) : Wp K (tAsg te g) ρ P := fun B B0 σ H H0 r E m =>
  h B B0 σ H H0 r _ fun v H' H0' w kd => hb B B0 σ H' H0' v (r.step w) kd _ fun σ2 r2 _ => m.nx ρ2 σ2 H' H0' k r2

/-! ### what is walked -/
/-- from the clean heap H0 on: J yields ds, one after another -/
def ItOk (K : PySem.W.Frag) (J : It) (H0 : Hp) (ds : List D) : Prop := ∀ (i : Nat) (H' H0' : Hp), Same H0 H0' → Same H0' H' →
  (ds.length ≤ i → J.stop i H') ∧ ∀ d, ds[i]? = some d → J.go i H' ∧ ∀ x H2, J.yld i H' x H2 → ∃ H02, Wd H' H0' H2 H02 ∧ Dp K H02 x d
/-- the same, where nothing that stood at the start is changed meanwhile -/
def ItOk2 (K : PySem.W.Frag) (J : It) (H1 H01 : Hp) (ds : List D) : Prop := ∀ (i : Nat) (H' H0' : Hp), Wd H1 H01 H' H0' →
  (ds.length ≤ i → J.stop i H') ∧ ∀ d, ds[i]? = some d → J.go i H' ∧ ∀ x H2, J.yld i H' x H2 → ∃ H02, Wd H' H0' H2 H02 ∧ Dp K H02 x d
def Ev_It2 (K : PySem.W.Frag) (wi : TI) (ρ : List Sl) (ds : List D) : Prop := ∀ (B B0 : Hp) (σ : L2.St) (H H0 : Hp), Rp K B B0 ρ σ H H0 → ∀ R : It → Hp → Prop, (∀ J H' H0', Wd H H0 H' H0' → ItOk2 K J H' H0' ds → R J H') → wi σ H R
def Ev_It (K : PySem.W.Frag) (wi : TI) (ρ : List Sl) (ds : List D) : Prop := ∀ (B B0 : Hp) (σ : L2.St) (H H0 : Hp), Rp K B B0 ρ σ H H0 → ∀ R : It → Hp → Prop, (∀ J H' H0', Wd H H0 H' H0' → ItOk K J H0' ds → R J H') → wi σ H R
theorem Ev_It.two {wi : TI} {ρ : List Sl} {ds : List D} (h : Ev_It K wi ρ ds) : Ev_It2 K wi ρ ds := fun B B0 σ H H0 r R q => h B B0 σ H H0 r R fun J H' H0' w ok => q J H' H0' w fun i H2 H02 w2 => ok i H2 H02 w2.e0 w2.sub
theorem it_list2 {H1 H01 : Hp} {a : Addr} {xs : List V} {ds : List D} (h1 : SqL K H1 a xs) (h2 : DpAll K H01 xs ds) : ItOk2 K (Itl K a) H1 H01 ds := fun i H' H0' w => by
  have h3 : SqL K H' a xs := w.e.seq h1
  refine ⟨fun hi => ⟨xs, h3, by rw [dpa_len h2]; exact hi⟩, fun d e => ?_⟩
  obtain ⟨v, e1, e2⟩ := dpa_get h2 e
  refine ⟨⟨xs, v, h3, e1⟩, fun x H2 hy => ?_⟩
  obtain ⟨rfl, hy⟩ := hy
  have e3 := hy xs h3
  rw [e1] at e3; cases e3
  exact ⟨H0', .refl w.sub, dp_mono w.e0 e2⟩
theorem it_list {H0 : Hp} {a : Addr} {xs : List V} (h1 : SqL K H0 a xs) (h2 : DpAll K H0 xs ds) (inj : ∀ H ys, Same H0 H → SqL K H a ys → ys = xs) : ItOk K (Itl K a) H0 ds := fun i H' H0' s1 s2 => by
  have h3 : SqL K H' a xs := (s1.trans s2).seq h1
  refine ⟨fun hi => ⟨xs, h3, by rw [dpa_len h2]; exact hi⟩, fun d e => ?_⟩
  obtain ⟨v, e1, e2⟩ := dpa_get h2 e
  refine ⟨⟨xs, v, h3, e1⟩, fun x H2 hy => ?_⟩
  obtain ⟨rfl, hy⟩ := hy
  have e3 := hy xs h3
  rw [e1] at e3; cases e3
  exact ⟨H0', .refl s2, dp_mono s1 e2⟩
theorem it_list' {H0 : Hp} {a : Addr} {xs : List V} (h1 : SqL K H0 a xs) (h2 : DpAll K H0 xs ds) : ItOk K (Itl K a) H0 ds := fun i H' H0' s1 s2 => by
  have h3 : SqL K H' a xs := (s1.trans s2).seq h1
  refine ⟨fun hi => ⟨xs, h3, by rw [dpa_len h2]; exact hi⟩, fun d e => ?_⟩
  obtain ⟨v, e1, e2⟩ := dpa_get h2 e
  refine ⟨⟨xs, v, h3, e1⟩, fun x H2 hy => ?_⟩
  obtain ⟨rfl, hy⟩ := hy
  have e3 := hy xs h3
  rw [e1] at e3; cases e3
  exact ⟨H0', .refl s2, dp_mono s1 e2⟩
theorem it_tup {H0 : Hp} {a : Addr} {xs : List V} (h1 : SqT K H0 a xs) (h2 : DpAll K H0 xs ds) : ItOk K (Itt K a) H0 ds := fun i H' H0' s1 s2 => by
  have h3 : SqT K H' a xs := sqT_mono (s1.trans s2) h1
  refine ⟨fun hi => ⟨xs, h3, by rw [dpa_len h2]; exact hi⟩, fun d e => ?_⟩
  obtain ⟨v, e1, e2⟩ := dpa_get h2 e
  refine ⟨⟨xs, v, h3, e1⟩, fun x H2 hy => ?_⟩
  obtain ⟨rfl, hy⟩ := hy
  have e3 := hy xs h3
  rw [e1] at e3; cases e3
  exact ⟨H0', .refl s2, dp_mono s1 e2⟩
theorem it_range {H0 : Hp} {lo : Int} {n : Nat} : ItOk K (Itr lo n) H0 ((List.range n).map fun i => .int (lo + (i : Nat))) := fun i H' H0' s1 s2 => by
  refine ⟨fun hi => (show n ≤ i by simpa using hi), fun d e => ?_⟩
  rw [List.getElem?_map] at e
  by_cases hi : i < n
  · rw [List.getElem?_range hi] at e
    cases e
    refine ⟨hi, fun x H2 hy => ?_⟩
    obtain ⟨rfl, rfl⟩ := hy
    exact ⟨H0', .refl s2, .int _⟩
  · rw [List.getElem?_eq_none (by simpa using hi)] at e
    cases e
theorem it_rangeC {H0 : Hp} {lo c : Int} {n : Nat} : ItOk K (Itc lo c n) H0 ((List.range n).map fun i => .int (lo + (i : Nat) * c)) := fun i H' H0' s1 s2 => by
  refine ⟨fun hi => (show n ≤ i by simpa using hi), fun d e => ?_⟩
  rw [List.getElem?_map] at e
  by_cases hi : i < n
  · rw [List.getElem?_range hi] at e
    cases e
    refine ⟨hi, fun x H2 hy => ?_⟩
    obtain ⟨rfl, rfl⟩ := hy
    exact ⟨H0', .refl s2, .int _⟩
  · rw [List.getElem?_eq_none (by simpa using hi)] at e
    cases e
theorem it_enum {H0 : Hp} {a : Addr} {xs : List V} (h1 : SqL K H0 a xs) (h2 : DpAll K H0 xs ds) : ItOk K (Ite K a) H0 (ds.zipIdx.map fun p => .tuple [.int (p.2 : Nat), p.1]) := fun i H' H0' s1 s2 => by
  have h3 : SqL K H' a xs := (s1.trans s2).seq h1
  refine ⟨fun hi => ⟨xs, h3, by rw [dpa_len h2]; simpa using hi⟩, fun d e => ?_⟩
  rw [List.getElem?_map, List.getElem?_zipIdx] at e
  cases e4 : ds[i]? with
  | none => rw [e4] at e; cases e
  | some d' =>
    rw [e4] at e
    obtain ⟨v, e1, e2⟩ := dpa_get h2 e4
    refine ⟨⟨xs, v, h3, e1⟩, fun x H2 hy => ?_⟩
    obtain ⟨T, y, rfl, nT, rfl, hy⟩ := hy
    have e3 := hy xs h3
    rw [e1] at e3; cases e3
    have ed : d = .tuple [.int ((i : Nat) : Int), d'] := by
      simp at e
      exact e.symm
    subst ed
    refine ⟨upd H0' T (.tup [.int (i : Nat), v]), .clean s2 nT, .tup (.of upd_same) (.cons (.int _) (.cons (dp_mono (same_new (sub_none s2 nT)) (dp_mono s1 e2)) .nil))⟩
/-- a list or a tuple -/
def iSeq (K : PySem.W.Frag) (tl : TE) : TI := fun σ H R => tl σ H fun x H1 => ∃ a, x = .ref a ∧ (((∃ xs, SqL K H1 a xs) ∧ R (Itl K a) H1) ∨ ((∃ xs, SqT K H1 a xs) ∧ R (Itt K a) H1))
theorem pi_seq {X : Cx} {tg l : Expr} {tl : TE} (hl : PE X l tl) : PI X tg l (iSeq X.K tl) := by
  refine ⟨fun pins s σ H R I h => ?_⟩
  refine thn (hl.run pins s σ H _ I h) fun v s1 ⟨x, H1, I1, r1, q1⟩ => ?_
  obtain ⟨a, e, q1⟩ := q1
  subst e
  cases r1
  rcases q1 with ⟨⟨xs, hq⟩, q⟩ | ⟨⟨xs, hq⟩, q⟩
  · obtain ⟨its, rv, p, hz⟩ := I1.list hq
    refine wpAny_pyIter_list p.isList ?_
    refine ⟨s1.heap.objs.size, [s1.heap.objs.size], _, _, H1, rfl, I1.kept (t' := s1.toks) fun b o e => Heap.get?_push_of_some _ e, turn_list a _, ⟨_, Heap.get?_push_size _ rfl, rfl, rfl⟩, fun b hb => ?_, q⟩
    have e : b = s1.heap.objs.size := by simpa using hb
    subst e
    exact I1.fpOk (Nat.le_refl _) (I1.hok.fresh (Nat.le_refl _))
  · obtain ⟨its, rv, p, hz⟩ := I1.tuple hq
    refine wpAny_pyIter_tuple (show s1.heap.IsTuple a its.toArray from p) ?_
    refine ⟨s1.heap.objs.size, [s1.heap.objs.size], _, _, H1, rfl, I1.kept (t' := s1.toks) fun b o e => Heap.get?_push_of_some _ e, turn_tuple a _, ⟨_, Heap.get?_push_size _ rfl, rfl, rfl⟩, fun b hb => ?_, q⟩
    have e : b = s1.heap.objs.size := by simpa using hb
    subst e
    exact I1.fpOk (Nat.le_refl _) (I1.hok.fresh (Nat.le_refl _))
theorem ei_list (h : EvD K ta ρ (.list ds)) : Ev_It K (iSeq K ta) ρ ds := fun B B0 σ H H0 r R q => h B B0 σ H H0 r _ fun v H1 H01 w k => by
  cases k with
  | lst s a => exact ⟨_, rfl, .inl ⟨⟨_, w.sub.seq s⟩, q _ H1 H01 w (it_list' s a)⟩⟩
theorem ei2_list (h : EvQ K ta ρ (.list ds)) : Ev_It2 K (iSeq K ta) ρ ds := fun B B0 σ H H0 r R q => h B B0 σ H H0 r _ fun v H1 H01 w k => by
  obtain ⟨a, xs, rfl, h1, h2⟩ := k.lst w.sub
  exact ⟨a, rfl, .inl ⟨⟨xs, h1⟩, q _ H1 H01 w (it_list2 h1 h2)⟩⟩
theorem ei_tup (h : EvD K ta ρ (.tuple ds)) : Ev_It K (iSeq K ta) ρ ds := fun B B0 σ H H0 r R q => h B B0 σ H H0 r _ fun v H1 H01 w k => by
  cases k with
  | tup s a => exact ⟨_, rfl, .inr ⟨⟨_, sqT_mono w.sub s⟩, q _ H1 H01 w (it_tup s a)⟩⟩
theorem ei_range1 {t : TA} {n : Int} (h : EvA K t ρ [.int n]) (h1 : -(2 ^ 62) ≤ n) (h2 : n < 2 ^ 62) : Ev_It K (iRng1 t) ρ ((List.range n.toNat).map fun i => .int (i : Nat)) := fun B B0 σ H H0 r R q => h B B0 σ H H0 r _ fun vs H1 H01 w k => by
  obtain ⟨v, rfl, kk⟩ := dq1 k
  rw [kk.int]
  refine ⟨n, rfl, h1, h2, q _ H1 H01 w ?_⟩
  have e : ((List.range n.toNat).map fun i => PyData.int (i : Nat)) = (List.range n.toNat).map fun i => PyData.int (0 + (i : Nat)) := by
    simp only [Int.zero_add]
  rw [e]
  exact it_range
theorem ei_range2 {t : TA} {m n : Int} (h : EvA K t ρ [.int m, .int n]) (h1 : -(2 ^ 62) ≤ m ∧ m < 2 ^ 62 ∧ -(2 ^ 62) ≤ n ∧ n < 2 ^ 62) : Ev_It K (iRng2 t) ρ ((List.range (n - m).toNat).map fun i => .int (m + (i : Nat))) := fun B B0 σ H H0 r R q => h B B0 σ H H0 r _ fun vs H1 H01 w k => by
  obtain ⟨v, u, rfl, k1, k2⟩ := dq2 k
  rw [k1.int, k2.int]
  exact ⟨m, n, rfl, h1, q _ H1 H01 w it_range⟩
theorem dq3 {H H0 : Hp} {vs : List V} {x y z : D} (h : DqAll K H H0 vs [x, y, z]) : ∃ v u w, vs = [v, u, w] ∧ Dq K H H0 v x ∧ Dq K H H0 u y ∧ Dq K H H0 w z := by
  cases h with
  | cons a b =>
    cases b with
    | cons c e =>
      cases e with
      | cons f g => cases g; exact ⟨_, _, _, rfl, a, c, f⟩
theorem ei_range3 {t : TA} {i j c : Int} {n : Nat} (h : EvA K t ρ [.int i, .int j, .int c]) (h1 : RgC i j c n) : Ev_It K (iRng3 t) ρ ((List.range n).map fun k => .int (i + (k : Nat) * c)) := fun B B0 σ H H0 r R q => h B B0 σ H H0 r _ fun vs H1 H01 w k => by
  obtain ⟨v, u, x, rfl, k1, k2, k3⟩ := dq3 k
  rw [k1.int, k2.int, k3.int]
  exact ⟨i, j, c, n, rfl, h1, q _ H1 H01 w it_rangeC⟩
theorem ei_enum {t : TA} (h : EvC K t ρ [.list ds]) : Ev_It K (iEnum K t) ρ (ds.zipIdx.map fun p => .tuple [.int (p.2 : Nat), p.1]) := fun B B0 σ H H0 r R q => h B B0 σ H H0 r _ fun vs H1 H01 w k => by
  cases k with
  | cons a b =>
    cases b
    cases a with
    | lst s c => exact ⟨_, _, rfl, w.sub.seq s, q _ H1 H01 w (it_enum s c)⟩

/-- a middle between two statements -/
theorem w_mid (M : List Sl → Prop) (h : Wp K t ρ { P with nx := M }) (k : ∀ ρ', M ρ' → Wp K u ρ' P) : Wp K (tSeq t u) ρ P := w_seq (w_mono h k (fun _ z => z) (fun _ z => z) (fun _ z => z))
theorem rng_get {f : Nat → D} {n i : Nat} {d : D} (h : ((List.range n).map f)[i]? = some d) : i < n ∧ d = f i := by
  rw [List.getElem?_map] at h
  by_cases hi : i < n
  · rw [List.getElem?_range hi] at h
    cases h
    exact ⟨hi, rfl⟩
  · rw [List.getElem?_eq_none (by simpa using hi)] at h
    cases h
theorem map_get {α : Type} {f : α → D} {l : List α} {i : Nat} {d : D} (h : (l.map f)[i]? = some d) : ∃ a, l[i]? = some a ∧ d = f a := by
  rw [List.getElem?_map] at h
  cases e : l[i]? with
  | none => rw [e] at h; cases h
  | some a => rw [e] at h; cases h; exact ⟨a, rfl, rfl⟩
/-! ### for -/
theorem w_for {wi : TI} {g : TG} {tb : TS} {is : List Nat} (hi : Ev_It K wi ρ ds) (Inv : Nat → List Sl → Prop) (h0 : Inv 0 ρ)
    (hs : ∀ (i : Nat) (d : D) (ρ1 : List Sl), ds[i]? = some d → Inv i ρ1 → ∃ ρ2, Bd K g is d ρ1 ρ2 ∧ Wp K tb ρ2 { nx := Inv (i + 1), ct := Inv (i + 1), bk := P.nx, rt := P.rt })
    (hd : ∀ ρ1, Inv ds.length ρ1 → P.nx ρ1) : Wp K (tFor wi g tb) ρ P := fun B B0 σ H H0 r E m =>
  hi B B0 σ H H0 r _ fun J H1 H01 w ok => by
    refine ⟨fun i n σ' H' => n = ds.length - i ∧ i ≤ ds.length ∧ ∃ ρ1 H0', Inv i ρ1 ∧ Rp K B B0 ρ1 σ' H' H0' ∧ Same H01 H0', ⟨_, rfl, Nat.zero_le _, ρ, H01, h0, r.step w, Same.refl _⟩, ?_⟩
    rintro i n σ' H' ⟨rfl, hle, ρ1, H0', inv, r1, s1⟩
    obtain ⟨ok1, ok2⟩ := ok i H' H0' s1 r1.sub
    by_cases hlt : i < ds.length
    · obtain ⟨go, yl⟩ := ok2 ds[i] (List.getElem?_eq_getElem hlt)
      obtain ⟨ρ2, hb, hw⟩ := hs i ds[i] ρ1 (List.getElem?_eq_getElem hlt) inv
      refine .inr ⟨go, fun σ2 H2 => ∃ ρ3 H03, Inv (i + 1) ρ3 ∧ Rp K B B0 ρ3 σ2 H2 H03 ∧ Same H01 H03, fun σ2 H2 ⟨ρ3, H03, a, b, c⟩ => ⟨ds.length - (i + 1), by omega, rfl, hlt, ρ3, H03, a, b, c⟩, fun x H2 hy => ?_⟩
      obtain ⟨H02, w2, k2⟩ := yl x H2 hy
      -- the body, from the present state as the base of what stays clean
      have r2 := r1.step w2
      refine hb B B0 σ' H2 H02 x r2 k2 _ fun σ3 r3 _ => ?_
      -- the clean heap only grows: carried by a base of its own
      have r3' : Rp K B H01 ρ2 σ3 H2 H02 := ⟨⟨r3.wd.e, s1.trans w2.e0, r3.wd.sub, fun a o e => by
        rcases r3.wd.new a o e with z | z
        · exact .inl (w.e0 a o (r.wd.e0 a o z))
        · exact .inr z, fun _ => r3.tab⟩, r3.len, r3.dat, r3.ow, r3.oj, r3.tab, r3.gen⟩
      have back : ∀ {d v H5 H05}, Wd B H01 H5 H05 → Dp K H05 v d → P.rt d → E.rt v H5 := fun {d v H5 H05} w5 k5 p5 => by
        refine m.rt d v H5 H05 p5 ⟨w5.e, (r.wd.e0.trans w.e0).trans w5.e0, w5.sub, fun a o e => ?_, fun t => w5.tb (t.ext (Same.refl _) (r.wd.e0.trans w.e0) fun b ps hb h0 => by
          cases q : H01 b with
          | none => rfl
          | some u =>
            rcases (r.wd.trans w).new b u q with z | z
            · rw [h0] at z; cases z
            · rw [hb] at z; cases z)⟩ k5
        rcases w5.new a o e with z | z
        · rcases w.new a o z with z | z
          · exact r.wd.new a o z
          · exact .inr (r.wd.e.free z)
        · exact .inr z
      have backR : ∀ {ρ5 σ5 H5 H05}, Rp K B H01 ρ5 σ5 H5 H05 → Rp K B B0 ρ5 σ5 H5 H05 := fun {ρ5 σ5 H5 H05} r5 => by
        refine ⟨⟨r5.wd.e, (r.wd.e0.trans w.e0).trans r5.wd.e0, r5.wd.sub, fun a o e => ?_, fun _ => r5.tab⟩, r5.len, r5.dat, r5.ow, r5.oj, r5.tab, r5.gen⟩
        rcases r5.wd.new a o e with z | z
        · rcases w.new a o z with z | z
          · exact r.wd.new a o z
          · exact .inr (r.wd.e.free z)
        · exact .inr z
      refine hw B H01 σ3 H2 H02 r3' _ ⟨fun ρ5 σ5 H5 H05 k5 r5 => ⟨ρ5, H05, k5, backR r5, r5.wd.e0⟩, fun d v H5 H05 k5 w5 kd => back w5 kd k5, fun ρ5 σ5 H5 H05 k5 r5 => m.nx ρ5 σ5 H5 H05 k5 (backR r5), fun ρ5 σ5 H5 H05 k5 r5 => ⟨ρ5, H05, k5, backR r5, r5.wd.e0⟩, fun _ _ _ _ z => z.elim⟩
    · have e : i = ds.length := by omega
      subst e
      exact .inl ⟨ok1 (Nat.le_refl _), m.nx ρ1 σ' H' H0' (hd ρ1 inv) r1⟩

/-! ### [e for target in it if c] -/
def wipeS (ρ : List Sl) : List Nat → List Sl
  | [] => ρ
  | v :: vs => (wipeS ρ vs).set v .no
theorem rp_wipe {B B0 H H0 : Hp} {σ : L2.St} (r : Rp K B B0 ρ σ H H0) : ∀ vs : List Nat, Rp K B B0 (wipeS ρ vs) (wipe σ vs) H H0
  | [] => r
  | v :: vs => (rp_wipe r vs).drop v none
theorem wipe_twice (σ : L2.St) (vs : List Nat) : wipe (wipe σ vs) vs = wipe σ vs := by
  have q : ∀ (us ws : List Nat) (τ : L2.St), (∀ u ∈ us, u ∈ ws) → wipe (wipe τ us) ws = wipe τ ws := by
    intro us
    induction us with
    | nil => intro ws τ _; rfl
    | cons u us ih =>
      intro ws τ h
      show wipe ((wipe τ us).set u none) ws = wipe τ ws
      rw [wipe_set _ u none ws (h u List.mem_cons_self), ih ws τ fun x hx => h x (List.mem_cons_of_mem _ hx)]
  exact q vs vs σ fun _ h => h
theorem ef_lc2 {wi : TI} {g : TG} {tt : TT} {te : TE} {vs is : List Nat} {c : D → Bool} {f : D → D} (hi : Ev_It2 K wi ρ ds) (hsub : ∀ i ∈ is, i ∈ vs)
    (hs : ∀ (i : Nat) (d : D), ds[i]? = some d → ∃ ρ2, Bd K g is d (wipeS ρ vs) ρ2 ∧ EvT K tt ρ2 (c d) ∧ (c d = true → EvD K te ρ2 (f d)))
    (hl : ds.length < sizeLine) : EvF K (tLc wi g tt te vs) ρ ((ds.filter c).map f) := fun B B0 σ H H0 r Q q =>
  hi B B0 σ H H0 r _ fun J H1 H01 w ok D nD => by
    have key : ∀ i, i ≤ ds.length → (((ds.take i).filter c).map f).length ≤ i := fun i hi => by
      rw [List.length_map]
      exact Nat.le_trans (List.length_filter_le _ _) (by rw [List.length_take]; omega)
    refine ⟨fun i n H' => n = ds.length - i ∧ i ≤ ds.length ∧ ∃ H0' acc, Wd H1 H01 H' H0' ∧ H' D = some (.lst acc) ∧ H0' D = none ∧ DpAll K H0' acc (((ds.take i).filter c).map f), ⟨_, rfl, Nat.zero_le _, H01, [], .dirty w.sub nD, upd_same, sub_none w.sub nD, .nil⟩, ?_⟩
    rintro i n H' ⟨rfl, hle, H0', acc, w1, e1, e0, k1⟩
    have r1 : Rp K B B0 (wipeS ρ vs) (wipe σ vs) H' H0' := rp_wipe ((r.step w).step w1) vs
    obtain ⟨ok1, ok2⟩ := ok i H' H0' w1
    by_cases hlt : i < ds.length
    · obtain ⟨go, yl⟩ := ok2 ds[i] (List.getElem?_eq_getElem hlt)
      obtain ⟨ρ2, hb, ht, hf⟩ := hs i ds[i] (List.getElem?_eq_getElem hlt)
      have tk : ds.take (i + 1) = ds.take i ++ [ds[i]] := by rw [List.take_add_one, List.getElem?_eq_getElem hlt]; rfl
      refine .inr ⟨go, fun H2 => ∃ H02 acc, Wd H1 H01 H2 H02 ∧ H2 D = some (.lst acc) ∧ H02 D = none ∧ DpAll K H02 acc (((ds.take (i + 1)).filter c).map f), fun H2 ⟨a, b, z⟩ => ⟨ds.length - (i + 1), by omega, rfl, hlt, a, b, z⟩, fun x H2 hy => ?_⟩
      obtain ⟨H02, w2, k2⟩ := yl x H2 hy
      refine hb B B0 _ H2 H02 x (r1.step w2) k2 _ fun σ2 r2 e2 => ⟨by rw [e2 vs hsub, wipe_twice], ht B B0 σ2 H2 H02 r2 _ fun H3 H03 w3 => ?_⟩
      have w123 := (w1.trans w2).trans w3
      have e3 : H3 D = some (.lst acc) := (w2.trans w3).e.lst e1
      have z3 : H03 D = none := (w2.trans w3).stay0 e1 e0
      cases hc : c ds[i] with
      | false =>
        rw [if_neg Bool.false_ne_true]
        refine ⟨H03, acc, w123, e3, z3, ?_⟩
        rw [tk, List.filter_append, List.filter_cons_of_neg (by rw [hc]; decide)]
        simpa using dpa_mono (w2.trans w3).e0 k1
      | true =>
        rw [if_pos rfl]
        refine hf hc B B0 σ2 H3 H03 (r2.step w3) _ fun v H4 H04 w4 k4 => ⟨acc, w4.e.lst e3, ?_, H04, acc ++ [v], ?_, upd_same, w4.stay0 e3 z3, ?_⟩
        · rw [dpa_len k1]
          have := key i hle
          omega
        · have w5 := w123.trans w4
          have nD0 : H01 D = none := sub_none w.sub nD
          refine ⟨w5.e.own (κ := none) (κ' := none) nD (w4.e.lst e3), w5.e0, fun b o hb => ?_, w5.new, fun t => (w5.tb t).own (κ := none) (κ' := none) (w4.e.lst e3)⟩
          rw [upd_ne (ne_of_none hb (w4.stay0 e3 z3))]
          exact w5.sub b o hb
        · rw [tk, List.filter_append, List.filter_cons_of_pos hc, List.map_append]
          exact dpa_app (dpa_mono ((w2.trans w3).trans w4).e0 k1) (.cons k4 .nil)
    · have e : i = ds.length := by omega
      subst e
      rw [List.take_length] at k1
      exact .inl ⟨ok1 (Nat.le_refl _), q D acc H' H0' (w.trans w1) (w.e.free nD) e1 e0 k1⟩

theorem ef_lc {wi : TI} {g : TG} {tt : TT} {te : TE} {vs is : List Nat} {c : D → Bool} {f : D → D} (hi : Ev_It K wi ρ ds) (hsub : ∀ i ∈ is, i ∈ vs)
    (hs : ∀ (i : Nat) (d : D), ds[i]? = some d → ∃ ρ2, Bd K g is d (wipeS ρ vs) ρ2 ∧ EvT K tt ρ2 (c d) ∧ (c d = true → EvD K te ρ2 (f d)))
    (hl : ds.length < sizeLine) : EvF K (tLc wi g tt te vs) ρ ((ds.filter c).map f) := ef_lc2 hi.two hsub hs hl
/-! ### defs -/
/-- the promise: arguments ds with Pre, the answer res ds; all that was there stays -/
def spD (K : PySem.W.Frag) (Pre : List D → Prop) (res : List D → D) : Sp := fun vs H Q _ => ∃ H0 ds, Same H0 H ∧ TabsC TabC.T H H0 ∧ DpAll K H0 vs ds ∧ Pre ds ∧ ∀ v H' H0', Wd H H0 H' H0' → Dp K H0' v (res ds) → Q v H'
theorem ev_call {Pre : List D → Prop} {res : List D → D} {tt : TA} {E : XK} (h : EvC K tt ρ ds) (hp : Pre ds) : EvD K (tCall (spD K Pre res) [] E tt) ρ (res ds) := fun B B0 σ H H0 r Q q =>
  h B B0 σ H H0 r _ fun vs H1 H01 w k => by
    rw [List.append_nil]
    exact ⟨H01, ds, w.sub, w.tb r.tab, k, hp, fun v H' H0' w2 k2 => q v H' H0' (w.trans w2) k2⟩
def initS (N : List Str) (ds : List D) : List Sl := ds.map .dat ++ List.replicate (N.length - ds.length) .no
theorem init_get {N : List Str} {ds : List D} {i : Nat} {s : Sl} (h : (initS N ds)[i]? = some s) : (∃ d, ds[i]? = some d ∧ s = .dat d) ∨ s = .no := by
  unfold initS at h
  by_cases hi : i < ds.length
  · rw [List.getElem?_append_left (by simpa using hi), List.getElem?_map] at h
    cases e : ds[i]? with
    | none => rw [e] at h; cases h
    | some d => rw [e] at h; cases h; exact .inl ⟨d, rfl, rfl⟩
  · rw [List.getElem?_append_right (by simpa using hi), List.getElem?_replicate] at h
    split at h
    · cases h; exact .inr rfl
    · cases h
theorem rp_init {N : List Str} {vs : List V} {H H0 : Hp} (s : Same H0 H) (tb : TabsC TabC.T H H0) (k : DpAll K H0 vs ds) : Rp K H H0 (initS N ds) (L2.start N vs) H H0 := by
  have hl := dpa_len k
  refine ⟨.refl s, by unfold initS L2.start; simp [hl], fun i d e => ?_, fun i s e ho => ?_, fun i j a s s' e _ ho => ?_, tb, fun i φ e => ?_⟩
  · rcases init_get e with ⟨d', e1, e2⟩ | z
    · cases e2
      obtain ⟨v, h1, h2⟩ := dpa_get k e1
      refine ⟨v, ?_, h2⟩
      unfold L2.start
      have hi : i < vs.length := (List.getElem?_eq_some_iff.mp h1).1
      rw [List.getElem?_append_left (by simpa using hi), List.getElem?_map, h1]; rfl
    · cases z
  · rcases init_get e with ⟨d', e1, e2⟩ | z
    · subst e2; cases ho
    · subst z; cases ho
  · rcases init_get e with ⟨d', e1, e2⟩ | z
    · subst e2; cases ho
    · subst z; cases ho
  · rcases init_get e with ⟨d', e1, e2⟩ | z
    · cases e2
    · cases z
theorem fn_okD {Pg : Program} {w : World} {mg : Str → Option Value} {base : Heap} {x qual : Str} {st : Stmt} {f : Addr} {fd : FuncData} {N ps : List Str} {k : Nat} {Pre : List D → Prop} {res : List D → D}
    (F : Fun K x qual st f fd) (S : FnScope N ps (defScope st)) (len : ∀ ds, Pre ds → ds.length = ps.length)
    (body : ∀ (cdv : Value) (A : Around) (outer : List Env) (s : Shared) (H : Hp) (E : XK) (ds : List D), Room k (A.deeper (envOfC qual (defScope st) s.heap.objs.size f cdv)) → Pre ds →
      ∃ t, PSs (cxOf CX0 Pg w K mg base N qual (defScope st) f cdv A outer s H E).nox (defBody st) t ∧ Wp K t (initS N ds) { nx := fun _ => res ds = .none, rt := fun d => d = res ds }) :
    FnOk Pg w K mg base CX0 (k + 1) f fd ps (spD K Pre res) := by
  refine F.ok S (fun vs H Q E h => ?_) fun cdv A outer s H vs Q E hr h => ?_
  · obtain ⟨H0, ds, s1, tb, k1, hp, _⟩ := h
    rw [dpa_len k1]; exact len ds hp
  · obtain ⟨H0, ds, s1, tb, k1, hp, q⟩ := h
    obtain ⟨t, pt, wt⟩ := body cdv A outer s H E ds hr hp
    refine ⟨t, pt, wt H H0 _ H H0 (rp_init s1 tb k1) _ ⟨fun ρ σ H' H0' e r => ?_, fun d v H' H0' e w kd => ?_, fun _ _ _ _ z => z.elim, fun _ _ _ _ z => z.elim, fun _ _ _ _ z => z.elim⟩⟩
    · exact q .non H' H0' r.wd (by rw [e]; exact .non)
    · cases e
      exact q v H' H0' w kd
end
end EL

namespace EL
open PySem PySem.Spec PyProof.Rows L2
variable [TabC]
variable {K : PySem.W.Frag}

/-! ### list + list, read anywhere -/
def rCatL (K : PySem.W.Frag) : R2 := fun x y H Q => ∃ l b xs zs, x = .ref l ∧ y = .ref b ∧ SqL K H l xs ∧ SqL K H b zs ∧ xs.length + zs.length ≤ sizeLine ∧ ∀ p, H p = none → Q (.ref p) (upd H p (.lst (xs ++ zs)))
theorem op_catL {X : Cx} : OpR X (binaryOp .Add) (rCatL X.K) := by
  intro pins s σ H x y v u Q I rx ry h
  obtain ⟨l, b, xs, zs, rfl, rfl, hH, hB, hz, q⟩ := h
  cases rx
  cases ry
  obtain ⟨its, r, pl, _⟩ := I.list hH
  obtain ⟨its2, r2, pl2, _⟩ := I.list hB
  obtain ⟨⟨cls, dd, data, sl⟩, ho, hc, n, hd⟩ := pl.isList
  obtain ⟨⟨cls2, dd2, data2, sl2⟩, ho2, hc2, n2, hd2⟩ := pl2.isList
  simp only at hc hd hc2 hd2
  subst hc hd hc2 hd2
  have e1 := r.length
  have e2 := r2.length
  have e : its.toArray ++ its2.toArray = (its ++ its2).toArray := by simp
  refine concat_meets ⟨_, ho, rfl⟩ ⟨_, ho2, rfl⟩ noFill_list_add seq_list_add PySem.F.slot_list_add PySem.F.entry_list_add (PySem.F.args_list_add_2 _ _) (list_addW l b its.toArray its2.toArray n n2 dd dd2 sl sl2 (by simp; omega)) ⟨ho, ho2, ?_⟩
  rw [e]
  exact ⟨.ref _, _, I.lnew (t' := s.toks) (r.append r2) (by rw [List.length_append]; omega), rfl, q _ I.fresh⟩
/-- + of ints, texts, tuples, lists -/
def rAdd (K : PySem.W.Frag) : R2 := fun x y H Q => (rI0 (fun i j => .int (i + j)) x y H Q ∨ (fun x y H Q => ∃ i j, x = V.str i ∧ y = V.str j ∧ i.length + j.length ≤ sizeLine ∧ Q (V.str (i ++ j)) H : R2) x y H Q) ∨ (rCatA K x y H Q ∨ rCatL K x y H Q)
theorem op_addA {X : Cx} : OpR X (binaryOp .Add) (rAdd X.K) := (op_add.or op_add_str).or (op_catA.or op_catL)
section
variable {ρ : List Sl} {t ta tb tc te : TE} {d x y z : D} {ds es : List D} {i : Nat}
theorem rd_addI {i j : Int} : RD K (rAdd K) (.int i) (.int j) (.int (i + j)) := fun H H0 v u s k1 k2 Q q => .inl (.inl (rd_I0 (K := K) H H0 v u s k1 k2 Q q))
theorem rd_addS' {a b : Str} (hl : a.length + b.length ≤ sizeLine) : RD K (rAdd K) (.str a) (.str b) (.str (a ++ b)) := fun H H0 v u s k1 k2 Q q => .inl (.inr (rd_addS (K := K) hl H H0 v u s k1 k2 Q q))
theorem rf_addL (hl : ds.length + es.length ≤ sizeLine) : RF K (rAdd K) (.list ds) (.list es) (ds ++ es) := fun H H0 v u s k1 k2 Q q => by
  obtain ⟨a, xs, rfl, h1, h2⟩ := k1.lst s
  obtain ⟨b, ys, rfl, g1, g2⟩ := k2.lst s
  refine .inr (.inr ⟨a, b, xs, ys, rfl, rfl, h1, g1, by rw [dpa_len h2, dpa_len g2]; exact hl, fun p np => ?_⟩)
  exact q p _ _ H0 (.dirty s np) np upd_same (sub_none s np) (dpa_app h2 g2)

/-! ### order of ints and of tuples of ints -/
def rLt (K : PySem.W.Frag) : R2 := fun x y H Q => rI0 (fun i j => .bl (decide (i < j))) x y H Q ∨ rLtT K x y H Q
theorem op_ltA {X : Cx} (hu : X.A.units < cLine) : OpR X (compareOp .Lt) (rLt X.K) := op_lt.or (op_ltT hu)
def rLe (K : PySem.W.Frag) : R2 := fun x y H Q => rI0 (fun i j => .bl (decide (i ≤ j))) x y H Q ∨ rLeT K x y H Q
theorem op_leA {X : Cx} (hu : X.A.units < cLine) : OpR X (compareOp .LtE) (rLe X.K) := op_le.or (op_leT hu)
theorem rd_lt {i j : Int} : RD K (rLt K) (.int i) (.int j) (.bool (decide (i < j))) := fun H H0 v u s k1 k2 Q q => .inl (rd_B0 (K := K) H H0 v u s k1 k2 Q q)
theorem rd_le {i j : Int} : RD K (rLe K) (.int i) (.int j) (.bool (decide (i ≤ j))) := fun H H0 v u s k1 k2 Q q => .inl (rd_B0 (K := K) H H0 v u s k1 k2 Q q)
theorem rd_gt {i j : Int} : RD K (rI0 fun i j => .bl (decide (j < i))) (.int i) (.int j) (.bool (decide (j < i))) := rd_B0
theorem rd_ge {i j : Int} : RD K (rI0 fun i j => .bl (decide (j ≤ i))) (.int i) (.int j) (.bool (decide (j ≤ i))) := rd_B0
theorem rd_ltT {ns ms : List Int} : RD K (rLt K) (.tuple (ns.map .int)) (.tuple (ms.map .int)) (.bool (HT.lexLt ns ms)) := fun H H0 v u s k1 k2 Q q => by
  obtain ⟨a, rfl, h1⟩ := sqT_ints s k1
  obtain ⟨b, rfl, h2⟩ := sqT_ints s k2
  exact .inr ⟨a, b, ns, ms, rfl, rfl, h1, h2, q _ H H0 (.refl s) (.bl _)⟩
/-! == -/
theorem eqv_int (a b : Int) : PyData.eqv (.int a) (.int b) = decide (a = b) := by
  show (a == b) = decide (a = b)
  exact Bool.beq_eq_decide_eq a b
theorem eqv_str (a b : Str) : PyData.eqv (.str a) (.str b) = decide (a = b) := by
  show (a == b) = decide (a = b)
  exact Bool.beq_eq_decide_eq a b
theorem rd_eqI' {a b : Int} : RD K (rEqD K) (.int a) (.int b) (.bool (decide (a = b))) := by
  rw [← eqv_int]; exact rd_eq rfl rfl
theorem rd_neI' {a b : Int} : RD K (rNeD K) (.int a) (.int b) (.bool (!decide (a = b))) := by
  rw [← eqv_int]; exact rd_ne rfl rfl
theorem rd_eqS' {a b : Str} (ha : SeqAt.shaped (.str a) = true) (hb : SeqAt.shaped (.str b) = true) : RD K (rEqD K) (.str a) (.str b) (.bool (decide (a = b))) := by
  rw [← eqv_str]; exact rd_eq ha hb
theorem rd_neS' {a b : Str} (ha : SeqAt.shaped (.str a) = true) (hb : SeqAt.shaped (.str b) = true) : RD K (rNeD K) (.str a) (.str b) (.bool (!decide (a = b))) := by
  rw [← eqv_str]; exact rd_ne ha hb

/-! ### three comparisons in a row -/
def tChain3 (r r' r'' : R2) (ta tb tc td : TE) : TE := fun σ H Q => ta σ H fun x H1 => tb σ H1 fun y H2 => r x y H2 fun z H3 => ∃ k, z = .bl k ∧
  (if k = true then tc σ H3 fun w' H4 => r' y w' H4 fun z2 H5 => ∃ k2, z2 = .bl k2 ∧ (if k2 = true then td σ H5 fun w2 H6 => r'' w' w2 H6 Q else Q (.bl false) H5) else Q (.bl false) H3)
theorem pt_chain3 {X : Cx} {a b c e : Expr} {td : TE} {pos : Pos} {op op' op'' : CmpOp} {r r' r'' : R2} (ho : OpR X (compareOp op) r) (ho' : OpR X (compareOp op') r') (ho'' : OpR X (compareOp op'') r'') (ha : PE X a ta) (hb : PE X b tb) (hc : PE X c tc) (hd : PE X e td)
    (hm : lastMarks [op, op', op''] [b, c, e] = false := by with_unfolding_all rfl) : PT X (.Compare a [op, op', op''] [b, c, e] pos) (tTest (tChain3 r r' r'' ta tb tc td)) := by
  refine ⟨fun pins s σ H Q I h => ?_⟩
  refine isTrue_chain (thn (ha.run pins s σ H _ I h) fun v s1 ⟨x, H1, I1, r1, q1⟩ => test_link (thn (hb.run pins s1 σ H1 _ I1 q1) fun u s2 ⟨y, H2, I2, r2, q2⟩ =>
    thn (ho pins s2 σ H2 x y v u _ I2 r1 r2 q2) fun d s3 ⟨z, H3, I3, r3, k, e, q3⟩ => ?_)) hm
  subst e
  cases r3
  refine wpAny_truthy_bool ?_
  cases k with
  | false =>
    obtain ⟨k', e', q'⟩ := q3
    cases e'
    exact ite_ff ⟨H3, I3, q'⟩
  | true =>
    refine ite_tt (test_link (thn (hc.run pins s3 σ H3 _ I3 q3) fun w' s4 ⟨z', H4, I4, r4, q4⟩ => thn (ho' pins s4 σ H4 y z' u w' _ I4 r2 r4 q4) fun d' s5 ⟨z2, H5, I5, r5, k2, e2, q5⟩ => ?_))
    subst e2
    cases r5
    refine wpAny_truthy_bool ?_
    cases k2 with
    | false =>
      obtain ⟨k', e', q'⟩ := q5
      cases e'
      exact ite_ff ⟨H5, I5, q'⟩
    | true =>
      refine ite_tt (test_last (thn (hd.run pins s5 σ H5 _ I5 q5) fun w2 s6 ⟨z3, H6, I6, r6, q6⟩ => thn (ho'' pins s6 σ H6 z' z3 w' w2 _ I6 r4 r6 q6) fun d2 s7 ⟨z4, H7, I7, r7, k3, e3, q7⟩ => ?_))
      subst e3
      cases r7
      exact wpAny_truthy_bool ⟨H7, I7, q7⟩
theorem ev_chain3 {td : TE} {w : D} {r r' r'' : R2} {k1 k2 k3 : Bool} (ha : EvQ K ta ρ x) (hb : EvQ K tb ρ y) (hr : RD K r x y (.bool k1)) (hc : k1 = true → EvQ K tc ρ z) (hr' : k1 = true → RD K r' y z (.bool k2)) (hd : k1 = true → k2 = true → EvQ K td ρ w) (hr'' : k1 = true → k2 = true → RD K r'' z w (.bool k3)) :
    EvD K (tChain3 r r' r'' ta tb tc td) ρ (.bool (k1 && (k2 && k3))) := fun B B0 σ H H0 rp Q q =>
  ha B B0 σ H H0 rp _ fun v H1 H01 w1 k1' => hb B B0 σ H1 H01 (rp.step w1) _ fun u H2 H02 w2 k2' => hr H2 H02 v u w2.sub (k1'.mono w2) k2' _ fun v' H3 H03 w3 k3' => by
    cases k3'
    refine ⟨k1, rfl, ?_⟩
    cases k1 with
    | false =>
      rw [if_neg Bool.false_ne_true]
      exact q _ H3 H03 ((w1.trans w2).trans w3) (.bl _)
    | true =>
      rw [if_pos rfl]
      refine hc rfl B B0 σ H3 H03 (((rp.step w1).step w2).step w3) _ fun w' H4 H04 w4 k4 => hr' rfl H4 H04 u w' w4.sub ((k2'.mono w3).mono w4) k4 _ fun v2 H5 H05 w5 k5 => ?_
      cases k5
      refine ⟨k2, rfl, ?_⟩
      cases k2 with
      | false =>
        rw [if_neg Bool.false_ne_true]
        exact q _ H5 H05 ((((w1.trans w2).trans w3).trans w4).trans w5) (.bl _)
      | true =>
        rw [if_pos rfl]
        exact hd rfl rfl B B0 σ H5 H05 (((((rp.step w1).step w2).step w3).step w4).step w5) _ fun w6' H6 H06 w6 k6 => hr'' rfl rfl H6 H06 w' w6' w6.sub ((k4.mono w5).mono w6) k6 Q fun v3 H7 H07 w7 k7 =>
          q v3 H7 H07 ((((((w1.trans w2).trans w3).trans w4).trans w5).trans w6).trans w7) k7

/-! ### isinstance(x, T), T a built-in class -/
def tyN : D → String
  | .none => "NoneType"
  | .bool _ => "bool"
  | .int _ => "int"
  | .str _ => "str"
  | .list _ => "list"
  | .tuple _ => "tuple"
  | .dict _ => "dict"
theorem tyx_of {H : Hp} {v : V} {d : D} (h : Dp K H v d) : TyX K H v (.type (tyN d)) := by
  cases h with
  | non => exact .base .non
  | bl b => exact .base (.bl b)
  | int i => exact .base (.int i)
  | str x => exact .base (.str x)
  | lst s a =>
    rcases s with (s | ⟨o, s⟩) | ⟨o, its, n, h1, h2, _⟩
    · exact .base (.lst s)
    · exact .base (.frz s)
    · exact .kList h1 h2
  | tup s a =>
    rcases s with (s | ⟨o, s⟩) | ⟨o, its, n, h1, h2, _⟩
    · exact .base (.tup s)
    · exact .fTuple s
    · exact .kTuple h1 h2
theorem ev_isi {n : String} {b : Bool} (h : EvQ K ta ρ d) (e : kitB (tyN d) n = some b) : EvD K (tCB (rIsi K) (tCons ta (tCons (tC (.ty n)) tNil))) ρ (.bool b) := fun B B0 σ H H0 r Q q =>
  h B B0 σ H H0 r _ fun v H1 H01 w k => ⟨v, .ty n, .type (tyN d), .type n, b, rfl, .ty n, tyx_of (k.dp w.sub), kit_ty e, q _ H1 H01 w (.bl _)⟩

/-! ### texts -/
theorem ev_fmtI {i : Int} (h : EvQ K te ρ (.int i)) (hl : i.natAbs.log2 < 1920) : EvD K (tFmt te) ρ (.str (toString i)) := fun B B0 σ H H0 r Q q => h B B0 σ H H0 r _ fun v H1 H01 w k => .inr ⟨i, k.int, hl, q _ H1 H01 w (.str _)⟩
theorem ev_fmtS {a : Str} (h : EvQ K te ρ (.str a)) (hl : a.length ≤ sizeLine) : EvD K (tFmt te) ρ (.str a) := fun B B0 σ H H0 r Q q => h B B0 σ H H0 r _ fun v H1 H01 w k => .inl ⟨a, k.str, hl, q _ H1 H01 w (.str _)⟩
/-- the parts of an f-string, one behind the other -/
def tJoin (ts : List TE) : TE := fun σ H Q => tJs ts Str.empty σ H fun out H1 => Q (.str out) H1
inductive EvJ (K : PySem.W.Frag) (ρ : List Sl) : List TE → Str → Str → Prop
  | nil {acc : Str} : EvJ K ρ [] acc acc
  | cons {t : TE} {ts : List TE} {acc y out : Str} (h : EvQ K t ρ (.str y)) (hl : (acc ++ y).length ≤ sizeLine) (r : EvJ K ρ ts (acc ++ y) out) : EvJ K ρ (t :: ts) acc out
theorem evj_run {ts : List TE} {acc out : Str} (h : EvJ K ρ ts acc out) : ∀ (B B0 : Hp) (σ : L2.St) (H H0 : Hp), Rp K B B0 ρ σ H H0 → ∀ Q : Str → Hp → Prop, (∀ H' H0', Wd H H0 H' H0' → Q out H') → tJs ts acc σ H Q := by
  induction h with
  | nil => exact fun B B0 σ H H0 r Q q => q H H0 (.refl r.sub)
  | cons h hl r ih => exact fun B B0 σ H H0 rp Q q => h B B0 σ H H0 rp _ fun v H1 H01 w k => ⟨_, k.str, hl, ih B B0 σ H1 H01 (rp.step w) Q fun H2 H02 w2 => q H2 H02 (w.trans w2)⟩
theorem ev_join {ts : List TE} {out : Str} (h : EvJ K ρ ts Str.empty out) : EvD K (tJoin ts) ρ (.str out) := fun B B0 σ H H0 r Q q => evj_run h B B0 σ H H0 r _ fun H1 H01 w => q _ H1 H01 w (.str _)
theorem pe_joinedA {X : Cx} {v1 v2 : Expr} {rest : List Expr} {ts : List TE} {pos : Pos} (h : PJ X (v1 :: v2 :: rest) ts) : PE X (.JoinedStr (v1 :: v2 :: rest) pos) (tJoin ts) := pe_joined h
/-- methods of a text -/
def MD (K : PySem.W.Frag) (r : V → List V → Hp → VK → Prop) (x : D) (xs : List D) (z : D) : Prop := ∀ (H H0 : Hp) (v : V) (vs : List V), Same H0 H → Dq K H H0 v x → DqAll K H H0 vs xs → ∀ Q : VK, (∀ v' H' H0', Wd H H0 H' H0' → Dp K H0' v' z → Q v' H') → r v vs H Q
theorem ev_m1 {r : V → List V → Hp → VK → Prop} {a : Str} (h : EvQ K ta ρ (.str a)) (h2 : EvQ K tb ρ y) (hr : MD K r (.str a) [y] z) : EvD K (tM1 r ta tb) ρ z := fun B B0 σ H H0 rp Q q =>
  h B B0 σ H H0 rp _ fun v H1 H01 w1 k1 => ⟨⟨a, k1.str⟩, h2 B B0 σ H1 H01 (rp.step w1) _ fun u H2 H02 w2 k2 => hr H2 H02 v [u] w2.sub (k1.mono w2) (.cons k2 .nil) Q fun v' H3 H03 w3 k3 => q v' H3 H03 ((w1.trans w2).trans w3) k3⟩
theorem md_find {a b : Str} : MD K (fun x xs H Q => ∃ a b, x = .str a ∧ xs = [.str b] ∧ Q (.int (Txt.find a b)) H) (.str a) [.str b] (.int (Txt.find a b)) := fun H H0 v vs s k1 k2 Q q => by
  obtain ⟨u, rfl, kk⟩ := dq1 k2
  refine ⟨a, b, k1.str, ?_, q _ H H0 (.refl s) (.int _)⟩
  rw [kk.str]
def rJoinS (K : PySem.W.Frag) : V → List V → Hp → VK → Prop := fun x xs H Q => ∃ a p, ∃ ys : List Str, x = .str a ∧ xs = [.ref p] ∧ (SqL K H p (ys.map V.str) ∨ SqT K H p (ys.map V.str)) ∧
    (ys.map (·.length)).sum + ys.length * a.length ≤ 16777216 ∧ Q (.str (Txt.join a ys)) H
theorem mt_joinA {X : Cx} : MtR X "str.join" (rJoinS X.K) := mt_join
theorem md_join {a : Str} {ys : List Str} (hl : (ys.map (·.length)).sum + ys.length * a.length ≤ 16777216) : MD K (rJoinS K) (.str a) [.list (ys.map .str)] (.str (Txt.join a ys)) := fun H H0 v vs s k1 k2 Q q => by
  obtain ⟨u, rfl, kk⟩ := dq1 k2
  obtain ⟨p, xs, rfl, h1, h2⟩ := kk.lst s
  rw [dpa_strs h2] at h1
  exact ⟨a, p, ys, k1.str, rfl, .inl h1, hl, q _ H H0 (.refl s) (.str _)⟩
end

/-! ### sorted of pairs of ints -/
def encP (p : Int × Int) : D := .tuple [.int p.1, .int p.2]
def lexLe (p q : Int × Int) : Bool := !SrtO.lexB q p
def sortP (ps : List (Int × Int)) : List (Int × Int) := ps.mergeSort lexLe
theorem lexLe_iff {p q : Int × Int} : lexLe p q = true ↔ (p.1 < q.1 ∨ (p.1 = q.1 ∧ p.2 ≤ q.2)) := by
  unfold lexLe
  rw [Bool.not_eq_true']
  rw [SrtO.lexB_no]
  omega
theorem lexLe_trans (a b c : Int × Int) (h1 : lexLe a b = true) (h2 : lexLe b c = true) : lexLe a c = true := by
  rw [lexLe_iff] at h1 h2 ⊢
  omega
theorem lexLe_total (a b : Int × Int) : (lexLe a b || lexLe b a) = true := by
  rw [Bool.or_eq_true, lexLe_iff, lexLe_iff]
  omega
theorem sortP_perm (ps : List (Int × Int)) : (sortP ps).Perm ps := List.mergeSort_perm ps lexLe
theorem sortP_sorted (ps : List (Int × Int)) : (sortP ps).Pairwise (fun p q => lexLe p q = true) := List.pairwise_mergeSort lexLe_trans lexLe_total ps
theorem sorted_uniq {ps qs : List (Int × Int)} (hp : ps.Perm qs) (h1 : ps.Pairwise (fun p q => lexLe p q = true)) (h2 : qs.Pairwise (fun p q => lexLe p q = true)) : ps = qs :=
  List.Perm.eq_of_pairwise (le := fun p q => lexLe p q = true) (fun a b _ _ h h' => by
    rw [lexLe_iff] at h h'
    exact Prod.ext (by omega) (by omega)) h1 h2 hp
def rSortP (K : PySem.W.Frag) : List V → Hp → VK → Prop := fun vs H Q => ∃ (H0 : Hp) (a : Addr) (xs : List V) (ps : List (Int × Int)), vs = [V.ref a] ∧ Same H0 H ∧ SqL K H a xs ∧ DpAll K H0 xs (ps.map encP) ∧
  ∀ ys p, DpAll K H0 ys ((sortP ps).map encP) → H p = none → Q (.ref p) (upd H p (.lst ys))
open Classical in
noncomputable def keyV (K : PySem.W.Frag) (H0 : Hp) (x : V) : Int × Int := if h : ∃ p, Dp K H0 x (encP p) then h.choose else (0, 0)
theorem keyV_ok {H0 : Hp} {x : V} {p : Int × Int} (h : Dp K H0 x (encP p)) : Dp K H0 x (encP (keyV K H0 x)) := by
  unfold keyV
  rw [dif_pos ⟨p, h⟩]
  exact (⟨p, h⟩ : ∃ p, Dp K H0 x (encP p)).choose_spec
theorem dp_pair {H : Hp} {x : V} {p : Int × Int} (h : Dp K H x (encP p)) : ∃ t, x = .ref t ∧ SqT K H t [.int p.1, .int p.2] := by
  cases h with
  | tup s a =>
    cases a with
    | cons a1 a2 =>
      cases a2 with
      | cons a3 a4 =>
        cases a4; cases a1; cases a3
        exact ⟨_, rfl, s⟩
theorem dpa_mem {H : Hp} : ∀ {vs : List V} {ds : List D}, DpAll K H vs ds → ∀ v ∈ vs, ∃ d ∈ ds, Dp K H v d
  | _, _, .nil, v, hv => by cases hv
  | _, _, .cons a b, v, hv => by
    rcases List.mem_cons.mp hv with rfl | hv
    · exact ⟨_, List.mem_cons_self, a⟩
    · obtain ⟨d, h1, h2⟩ := dpa_mem b v hv
      exact ⟨d, List.mem_cons_of_mem _ h1, h2⟩
theorem dpa_keys {H0 : Hp} : ∀ {ys : List V}, (∀ y ∈ ys, Dp K H0 y (encP (keyV K H0 y))) → DpAll K H0 ys ((ys.map (keyV K H0)).map encP)
  | [], _ => .nil
  | y :: ys, h => .cons (h y List.mem_cons_self) (dpa_keys fun z hz => h z (List.mem_cons_of_mem _ hz))
theorem cr_sortP {X : Cx} : CallR X (.builtin "sorted") (rSortP X.K) := by
  intro pins s σ H vs us Q I r h
  obtain ⟨H0, a, xs, ps, rfl, sub, hs, hd, q⟩ := h
  have hpair : ∀ x ∈ xs, Dp X.K H0 x (encP (keyV X.K H0 x)) := fun x hx => by
    obtain ⟨d, h1, h2⟩ := dpa_mem hd x hx
    obtain ⟨p, _, rfl⟩ := List.mem_map.mp h1
    exact keyV_ok h2
  have hkeys : xs.map (keyV X.K H0) = ps := by
    have go : ∀ {vs : List V} {qs : List (Int × Int)}, DpAll X.K H0 vs (qs.map encP) → vs.map (keyV X.K H0) = qs := by
      intro vs
      induction vs with
      | nil =>
        intro qs h
        cases qs with
        | nil => rfl
        | cons _ _ => cases h
      | cons v vs ih =>
        intro qs h
        cases qs with
        | nil => cases h
        | cons p qs =>
          cases h with
          | cons a b =>
            rw [List.map_cons, ih b]
            have h1 := keyV_ok a
            obtain ⟨t, e1, s1⟩ := dp_pair a
            obtain ⟨t', e2, s2⟩ := dp_pair h1
            rw [e1] at e2; cases e2
            have z := I.tuple_inj (sqT_mono sub s1) (sqT_mono sub s2)
            have z1 : p = keyV X.K H0 v := by
              have z2 := (List.cons.inj z).1
              have z3 := (List.cons.inj (List.cons.inj z).2).1
              exact Prod.ext (V.int.inj z2) (V.int.inj z3)
            rw [← z1]
    exact go hd
  obtain ⟨its, rv, hl, hz⟩ := I.list hs
  obtain ⟨u, rfl, ru⟩ := vals1 r
  obtain rfl : u = Value.ref a := ru
  obtain ⟨e1, e2⟩ := refs_back rv fun x m => by
    obtain ⟨t, e, _⟩ := dp_pair (hpair x m)
    exact ⟨t, e⟩
  refine SrtO.sorted_pairsO (k := fun u => keyV X.K H0 (backV u)) hl.isList (by rw [← rv.length]; exact hz) (fun v hv => ?_) fun h' d out h1 h2 kp hd' hn => ?_
  · obtain ⟨t, rfl⟩ := e2 v hv
    have hm : V.ref t ∈ xs := by rw [e1]; exact List.mem_map.mpr ⟨_, hv, rfl⟩
    obtain ⟨t', e, ht⟩ := dp_pair (hpair _ hm)
    cases e
    obtain ⟨its2, r2, ⟨o, ho, hc, n, hd⟩, _⟩ := I.tuple (sqT_mono sub ht)
    obtain ⟨u1, u2, rfl, ri, rj⟩ := vals2 r2
    obtain ⟨t1, rfl⟩ := ri
    obtain ⟨t2, rfl⟩ := rj
    exact ⟨t, o, t1, t2, n, rfl, ho, hc, hd⟩
  · have h3 : ∀ u ∈ out, ∃ a, u = Value.ref a := fun u hu => e2 u (h2.perm.mem_iff.mp hu)
    obtain ⟨n, hn⟩ := hn
    have hb : SrtO.Stb (ltP (keyV X.K H0)) (out.map backV) xs := by
      rw [e1]
      exact SrtO.Stb.map (ltP_swo (keyV X.K H0)) backV h2
    have hsrt : SrtO.Srtd (ltP (keyV X.K H0)) (out.map backV) := SrtO.srtd_map h1
    have heq : (out.map backV).map (keyV X.K H0) = sortP ps := by
      refine sorted_uniq ?_ ?_ (sortP_sorted ps)
      · refine List.Perm.trans (hb.perm.map (keyV X.K H0)) ?_
        rw [hkeys]
        exact (sortP_perm ps).symm
      · rw [List.pairwise_map]
        refine List.Pairwise.imp ?_ hsrt
        intro x y hxy
        unfold lexLe
        rw [Bool.not_eq_true']
        exact hxy
    refine ⟨.ref d, upd H d (.lst (out.map backV)), I.laid (t' := s.toks) kp hd' ⟨?_, out, n, vals_back h3, hn⟩, rfl, q _ d ?_ (I.hok.fresh hd')⟩
    · rw [hb.len]; exact hz
    · rw [← heq]
      exact dpa_keys fun y hy => hpair y (hb.perm.mem_iff.mp hy)
theorem cf_sortP {ps : List (Int × Int)} : CF K (rSortP K) [.list (ps.map encP)] ((sortP ps).map encP) := fun H H0 vs s k Q q => by
  obtain ⟨v, rfl, kk⟩ := dq1 k
  obtain ⟨a, xs, rfl, h1, h2⟩ := kk.lst s
  exact ⟨H0, a, xs, ps, rfl, s, h1, h2, fun ys p hy np => q p ys _ H0 (.dirty s np) np upd_same (sub_none s np) hy⟩
end EL

namespace EL
open PySem PySem.Spec PyProof.Rows L2
variable [TabC]
variable {K : PySem.W.Frag}

/-! ### * of ints, list * int -/
def rMul (K : PySem.W.Frag) : R2 := fun x y H Q => rI CMul (fun i j => .int (i * j)) x y H Q ∨ rRep x y H Q
theorem op_mulA {X : Cx} : OpR X (binaryOp .Mult) (rMul X.K) := op_mul.or op_rep
section
variable {ρ : List Sl} {t ta tb tc te : TE} {d x y z : D} {ds es : List D} {i : Nat}
theorem rd_mul {i j : Int} (h : CMul i j) : RD K (rMul K) (.int i) (.int j) (.int (i * j)) := fun H H0 v u s k1 k2 Q q => .inl (rd_I (K := K) h H H0 v u s k1 k2 Q q)
theorem rd_mod {i j : Int} (h : 0 < j) : RD K (rI (fun _ j => 0 < j) fun i j => .int (i % j)) (.int i) (.int j) (.int (i % j)) := rd_I h
theorem rd_fdiv {i j : Int} (h : 0 < j ∧ j < 1073741824) : RD K (rI CDiv fun i j => .int (i / j)) (.int i) (.int j) (.int (i / j)) := rd_I h
theorem rd_pow {i j : Int} (h : CPow i j) : RD K (rI CPow fun i j => .int (i ^ j.toNat)) (.int i) (.int j) (.int (i ^ j.toNat)) := rd_I h
/-! ### slices -/
def rSl (K : PySem.W.Frag) : V → Option Int → Option Int → Hp → VK → Prop := fun x lo hi H Q => rSlS x lo hi H Q ∨ (rSlL K x lo hi H Q ∨ rSlA K x lo hi H Q)
theorem sl_any {X : Cx} : SlR X (rSl X.K) := sl_str.or (sl_list.or sl_tupA)
theorem es_S {z : Str} {tl th : TO} {lo hi : Option Int} (h : EvQ K ta ρ (.str z)) (h1 : EvO K tl ρ lo) (h2 : EvO K th ρ hi) (hl : z.length ≤ sizeLine) : EvD K (tSl (rSl K) ta tl th) ρ (.str (cutS z lo hi)) := fun B B0 σ H H0 r Q q =>
  h B B0 σ H H0 r _ fun v H1 H01 w1 k1 => h1 B B0 σ H1 H01 (r.step w1) _ fun H2 H02 w2 => h2 B B0 σ H2 H02 ((r.step w1).step w2) _ fun H3 H03 w3 => by
    rw [k1.str]
    exact .inl ⟨z, rfl, hl, q _ H3 H03 ((w1.trans w2).trans w3) (.str _)⟩
theorem es_L {tl th : TO} {lo hi : Option Int} (h : EvQ K ta ρ (.list ds)) (h1 : EvO K tl ρ lo) (h2 : EvO K th ρ hi) : EvF K (tSl (rSl K) ta tl th) ρ (cutD ds lo hi) := fun B B0 σ H H0 r Q q =>
  h B B0 σ H H0 r _ fun v H1 H01 w1 k1 => h1 B B0 σ H1 H01 (r.step w1) _ fun H2 H02 w2 => h2 B B0 σ H2 H02 ((r.step w1).step w2) _ fun H3 H03 w3 => by
    obtain ⟨a, xs, rfl, g1, g2⟩ := ((k1.mono w2).mono w3).lst w3.sub
    refine .inr (.inl ⟨a, xs, rfl, g1, fun p np => q p _ _ H03 (((w1.trans w2).trans w3).trans (.dirty w3.sub np)) (((w1.trans w2).trans w3).e.free np) upd_same (sub_none w3.sub np) ?_⟩)
    unfold cutV cutD
    rw [dpa_len g2]
    exact dpa_take _ (dpa_drop _ g2)
theorem es_T {tl th : TO} {lo hi : Option Int} (h : EvQ K ta ρ (.tuple ds)) (h1 : EvO K tl ρ lo) (h2 : EvO K th ρ hi) : EvD K (tSl (rSl K) ta tl th) ρ (.tuple (cutD ds lo hi)) := fun B B0 σ H H0 r Q q =>
  h B B0 σ H H0 r _ fun v H1 H01 w1 k1 => h1 B B0 σ H1 H01 (r.step w1) _ fun H2 H02 w2 => h2 B B0 σ H2 H02 ((r.step w1).step w2) _ fun H3 H03 w3 => by
    have k3 := (k1.mono w2).mono w3
    obtain ⟨a, xs, rfl, g1, g2⟩ := k3.tup
    have hc : DpAll K H03 (cutV xs lo hi) (cutD ds lo hi) := by
      unfold cutV cutD
      rw [dpa_len g2]
      exact dpa_take _ (dpa_drop _ g2)
    refine .inr (.inr ⟨a, xs, rfl, sqT_mono w3.sub g1, fun hw => ?_, fun hw p np => ?_⟩)
    · refine q _ H3 H03 ((w1.trans w2).trans w3) (.tup g1 ?_)
      have e : cutV xs lo hi = xs := by
        unfold cutV
        rw [hw.1, hw.2]
        simp
      rw [e] at hc
      exact hc
    · exact q _ _ (upd H03 p (.tup (cutV xs lo hi))) (((w1.trans w2).trans w3).trans (.clean w3.sub np)) (.tup (.of upd_same) (dpa_mono (same_new (sub_none w3.sub np)) hc))

/-! ### truth -/
def tTru (K : PySem.W.Frag) (ta : TE) : TT := fun σ H Q => ta σ H fun x H' => ∃ k, TruV K x H' k ∧ Q k H'
theorem pt_tru {X : Cx} {a : Expr} (ha : PE X a ta) (he : ∀ whole, isTrue a X.env whole = (do let v ← whole; standAt a.pos; holding [v] (truthy v)) := by intro _; rfl) : PT X a (tTru X.K ta) := pt_truth ha he
theorem et_truB {b : Bool} (h : EvQ K ta ρ (.bool b)) : EvT K (tTru K ta) ρ b := fun B B0 σ H H0 r Q q => h B B0 σ H H0 r _ fun v H1 H01 w k => by
  rw [k.bl]; exact ⟨b, rfl, q H1 H01 w⟩
theorem et_truI {j : Int} (h : EvQ K ta ρ (.int j)) : EvT K (tTru K ta) ρ (j != 0) := fun B B0 σ H H0 r Q q => h B B0 σ H H0 r _ fun v H1 H01 w k => by
  rw [k.int]; exact ⟨_, rfl, q H1 H01 w⟩
theorem dpa_empty {H : Hp} {vs : List V} {ds : List D} (h : DpAll K H vs ds) : vs.isEmpty = ds.isEmpty := by
  cases h <;> rfl
theorem et_truL (h : EvQ K ta ρ (.list ds)) : EvT K (tTru K ta) ρ (!ds.isEmpty) := fun B B0 σ H H0 r Q q => h B B0 σ H H0 r _ fun v H1 H01 w k => by
  obtain ⟨a, xs, rfl, h1, h2⟩ := k.lst w.sub
  exact ⟨_, .inl ⟨xs, h1, by rw [dpa_empty h2]⟩, q H1 H01 w⟩
theorem et_truT (h : EvQ K ta ρ (.tuple ds)) : EvT K (tTru K ta) ρ (!ds.isEmpty) := fun B B0 σ H H0 r Q q => h B B0 σ H H0 r _ fun v H1 H01 w k => by
  obtain ⟨a, xs, rfl, h1, h2⟩ := k.tup
  exact ⟨_, .inr (.inl ⟨xs, sqT_mono w.sub h1, by rw [dpa_empty h2]⟩), q H1 H01 w⟩

/-! ### in the general place: any value -/
theorem eq_op {r : R2} (ha : EvQ K ta ρ x) (hb : EvQ K tb ρ y) (hr : RD K r x y z) : EvQ K (tOp r ta tb) ρ z := (ev_op ha hb hr).q
theorem eq_opF {r : R2} (ha : EvQ K ta ρ x) (hb : EvQ K tb ρ y) (hr : RF K r x y ds) : EvQ K (tOp r ta tb) ρ (.list ds) := (ev_opF ha hb hr).q

/-! ### defs that are called -/
structure Cal (Pg : Program) (w : World) (K : PySem.W.Frag) (mg : Str → Option Value) (base : Heap) (x : Str) (ps : List Str) (k : Nat) (sp : Sp) : Prop where
  ex : ∃ (f : Addr) (fd : FuncData), FnOk Pg w K mg base CX0 k f fd ps sp ∧ mg x = some (.ref f) ∧ PySem.W.keepIn K (.ref f) = true ∧ Binds K fd ps []
theorem pe_cal {X : Cx} {x : Str} {ps : List Str} {k : Nat} {sp : Sp} {e : Expr} {es : List Expr} {t : TA} {p pos : Pos} (c : Cal X.prog X.w X.K X.mg X.base x ps k sp) (hr : Room k X.A) (ha : PA X (e :: es) t) (hg : Gl X x := by rfl)
    (hdb : (x == ("__debug__" : Str)) = false := by decide) (he : starEach (e :: es) X.env = (false, eval e X.env) :: starEach es X.env := by rfl) (hpl : (backTo pos (starEach es X.env)).any (·.1) = false := by rfl) :
    PE X (.Call (.Name x p) (e :: es) [] pos) (tCall sp [] E0 t) := by
  obtain ⟨f, fd, F, hm, hk, hb⟩ := c.ex
  exact pe_call F hr hg hm hk hb .nil pass0 ha hdb he hpl
/-- the promise weakened -/
theorem spD_imp {Pre Pre' : List D → Prop} {res : List D → D} (h : ∀ ds, Pre' ds → Pre ds) {vs : List V} {H : Hp} {Q : VK} {E : XK} (q : spD K Pre' res vs H Q E) : spD K Pre res vs H Q E := by
  obtain ⟨H0, ds, s, tb, k, p, q⟩ := q
  exact ⟨H0, ds, s, tb, k, h ds p, q⟩
end
end EL

namespace EL
open PySem PySem.Spec PyProof.Rows L2
variable [TabC]
variable {K : PySem.W.Frag}
section
variable {ρ : List Sl} {t ta tb tc te : TE} {d x y z : D} {ds es out : List D} {i : Nat}
/-- a comprehension without a test, its items told one by one -/
theorem ef_lcI2 {wi : TI} {g : TG} {te : TE} {vs is : List Nat} (hi : Ev_It2 K wi ρ ds) (hsub : ∀ i ∈ is, i ∈ vs) (ho : out.length = ds.length)
    (hs : ∀ (i : Nat) (d e : D), ds[i]? = some d → out[i]? = some e → ∃ ρ2, Bd K g is d (wipeS ρ vs) ρ2 ∧ EvD K te ρ2 e)
    (hl : ds.length < sizeLine) : EvF K (tLc wi g tYes te vs) ρ out := fun B B0 σ H H0 r Q q =>
  hi B B0 σ H H0 r _ fun J H1 H01 w ok D nD => by
    refine ⟨fun i n H' => n = ds.length - i ∧ i ≤ ds.length ∧ ∃ H0' acc, Wd H1 H01 H' H0' ∧ H' D = some (.lst acc) ∧ H0' D = none ∧ DpAll K H0' acc (out.take i), ⟨_, rfl, Nat.zero_le _, H01, [], .dirty w.sub nD, upd_same, sub_none w.sub nD, .nil⟩, ?_⟩
    rintro i n H' ⟨rfl, hle, H0', acc, w1, e1, e0, k1⟩
    have r1 : Rp K B B0 (wipeS ρ vs) (wipe σ vs) H' H0' := rp_wipe ((r.step w).step w1) vs
    obtain ⟨ok1, ok2⟩ := ok i H' H0' w1
    by_cases hlt : i < ds.length
    · obtain ⟨go, yl⟩ := ok2 ds[i] (List.getElem?_eq_getElem hlt)
      have hlo : i < out.length := by omega
      obtain ⟨ρ2, hb, hf⟩ := hs i ds[i] out[i] (List.getElem?_eq_getElem hlt) (List.getElem?_eq_getElem hlo)
      have tk : out.take (i + 1) = out.take i ++ [out[i]] := by rw [List.take_add_one, List.getElem?_eq_getElem hlo]; rfl
      refine .inr ⟨go, fun H2 => ∃ H02 acc, Wd H1 H01 H2 H02 ∧ H2 D = some (.lst acc) ∧ H02 D = none ∧ DpAll K H02 acc (out.take (i + 1)), fun H2 ⟨a, b, z⟩ => ⟨ds.length - (i + 1), by omega, rfl, hlt, a, b, z⟩, fun x H2 hy => ?_⟩
      obtain ⟨H02, w2, k2⟩ := yl x H2 hy
      refine hb B B0 _ H2 H02 x (r1.step w2) k2 _ fun σ2 r2 e2 => ⟨by rw [e2 vs hsub, wipe_twice], ?_⟩
      have e3 : H2 D = some (.lst acc) := w2.e.lst e1
      have z3 : H02 D = none := w2.stay0 e1 e0
      unfold tYes
      dsimp only
      rw [if_pos rfl]
      refine hf B B0 σ2 H2 H02 r2 _ fun v H4 H04 w4 k4 => ⟨acc, w4.e.lst e3, ?_, H04, acc ++ [v], ?_, upd_same, w4.stay0 e3 z3, ?_⟩
      · rw [dpa_len k1, List.length_take]
        omega
      · have w5 := (w1.trans w2).trans w4
        refine ⟨w5.e.own (κ := none) (κ' := none) nD (w4.e.lst e3), w5.e0, fun b o hb => ?_, w5.new, fun t => (w5.tb t).own (κ := none) (κ' := none) (w4.e.lst e3)⟩
        rw [upd_ne (ne_of_none hb (w4.stay0 e3 z3))]
        exact w5.sub b o hb
      · rw [tk]
        exact dpa_app (dpa_mono (w2.trans w4).e0 k1) (.cons k4 .nil)
    · have e : i = ds.length := by omega
      subst e
      rw [List.take_of_length_le (by omega)] at k1
      exact .inl ⟨ok1 (Nat.le_refl _), q D acc H' H0' (w.trans w1) (w.e.free nD) e1 e0 k1⟩

theorem ef_lcI {wi : TI} {g : TG} {te : TE} {vs is : List Nat} (hi : Ev_It K wi ρ ds) (hsub : ∀ i ∈ is, i ∈ vs) (ho : out.length = ds.length)
    (hs : ∀ (i : Nat) (d e : D), ds[i]? = some d → out[i]? = some e → ∃ ρ2, Bd K g is d (wipeS ρ vs) ρ2 ∧ EvD K te ρ2 e)
    (hl : ds.length < sizeLine) : EvF K (tLc wi g tYes te vs) ρ out := ef_lcI2 hi.two hsub ho hs hl
/-! ### texts as lists of signs -/
def mkS (l : List Nat) : Str := ⟨l.toArray⟩
theorem tl_mkS (l : List Nat) : (mkS l).cps.toList = l := rfl
theorem len_mkS (l : List Nat) : (mkS l).length = l.length := by simp [mkS, Str.length]
theorem mkS_app (a b : List Nat) : mkS a ++ mkS b = mkS (a ++ b) := TL.ext_tl (by rw [TL.tl_append]; rfl)
theorem mkS_tl (s : Str) : mkS s.cps.toList = s := TL.mk_tl s
theorem mkS_inj {a b : List Nat} (h : mkS a = mkS b) : a = b := by
  have := congrArg (fun s : Str => s.cps.toList) h
  exact this
theorem dig_str {i : Int} (h0 : 0 ≤ i) (h : i < 10) : Str.ofString (toString i) = mkS [48 + i.toNat] := by
  obtain ⟨n, rfl⟩ := Int.eq_ofNat_of_zero_le h0
  refine TL.ext_tl ?_
  have e := TL.tl_num n
  rw [TL.numL_lt (by omega)] at e
  exact e
theorem ev_cM {s : Str} {l : List Nat} (e : s = mkS l) : EvD K (tC (.str s)) ρ (.str (mkS l)) := ev_cstr.to (by rw [e])
theorem rd_addM {a b : List Nat} (h : a.length + b.length ≤ 1000) : RD K (rAdd K) (.str (mkS a)) (.str (mkS b)) (.str (mkS (a ++ b))) := by
  rw [← mkS_app]
  refine rd_addS' ?_
  rw [len_mkS, len_mkS]
  exact sz_le h
theorem cd_dig {i : Int} (h0 : 0 ≤ i) (h : i < 10) : CD K (fun xs H Q => ∃ i, xs = [.int i] ∧ i.natAbs.log2 < 1920 ∧ Q (.str (toString i)) H) [.int i] (.str (mkS [48 + i.toNat])) := by
  rw [← dig_str h0 h]
  refine cd_str ?_
  exact Nat.lt_of_le_of_lt (Nat.log2_le_self _) (by omega)
theorem ev_fmtD {i : Int} (h : EvQ K te ρ (.int i)) (h0 : 0 ≤ i) (h1 : i < 10) : EvD K (tFmt te) ρ (.str (mkS [48 + i.toNat])) := by
  rw [← dig_str h0 h1]
  exact ev_fmtI h (Nat.lt_of_le_of_lt (Nat.log2_le_self _) (by omega))
theorem ev_fmtM {l : List Nat} (h : EvQ K te ρ (.str (mkS l))) (hl : l.length ≤ 1000) : EvD K (tFmt te) ρ (.str (mkS l)) := ev_fmtS h (by rw [len_mkS]; exact sz_le hl)
theorem evj_M {t : TE} {ts : List TE} {acc l : List Nat} {o : Str} (h : EvQ K t ρ (.str (mkS l))) (hl : acc.length + l.length ≤ 1000) (r : EvJ K ρ ts (mkS (acc ++ l)) o) : EvJ K ρ (t :: ts) (mkS acc) o := by
  rw [← mkS_app] at r
  refine .cons h ?_ r
  rw [mkS_app, len_mkS, List.length_append]
  exact sz_le hl
theorem emp_mkS : Str.empty = mkS [] := rfl
/-- the item of a text -/
theorem rd_ixM {l : List Nat} {i : Int} {c : Nat} (hl : l.length ≤ 1000) (e : atI l i = some c) : RD K (rIx K) (.str (mkS l)) (.int i) (.str (mkS [c])) := rd_ixS (by rw [len_mkS]; exact sz_le hl) (by rw [tl_mkS]; exact e)
theorem cutS_mkS {l : List Nat} {a b : Nat} (ha : a ≤ b) (hb : b ≤ l.length) : cutS (mkS l) (some (a : Int)) (some (b : Int)) = mkS ((l.drop a).take (b - a)) := by
  unfold cutS
  rw [tl_mkS, len_mkS, HT.sIx_nat, HT.sIx_nat, Nat.min_eq_left (show a ≤ l.length by omega), Nat.min_eq_left hb]
  rfl
theorem es_M {l : List Nat} {tl th : TO} {a b : Nat} (h : EvQ K ta ρ (.str (mkS l))) (h1 : EvO K tl ρ (some (a : Int))) (h2 : EvO K th ρ (some (b : Int))) (hl : l.length ≤ 1000) (ha : a ≤ b) (hb : b ≤ l.length) :
    EvD K (tSl (rSl K) ta tl th) ρ (.str (mkS ((l.drop a).take (b - a)))) := by
  rw [← cutS_mkS ha hb]
  exact es_S h h1 h2 (by rw [len_mkS]; exact sz_le hl)
theorem EvO.to {t : TO} {a b : Option Int} (h : EvO K t ρ a) (e : a = b) : EvO K t ρ b := e ▸ h

/-! ### data that may be compared -/
def Shp (n : Nat) (d : D) : Prop := d.canLay0 = true ∧ d.depth ≤ n
theorem Shp.shaped {n : Nat} {d : D} (h : Shp n d) (hn : n ≤ 64) : SeqAt.shaped d = true := by
  unfold SeqAt.shaped
  rw [h.1, decide_eq_true (Nat.le_trans h.2 hn)]
  rfl
theorem shp_all {n : Nat} : ∀ {ds : List D}, (∀ d ∈ ds, Shp n d) → PyData.canLayAll0 ds = true ∧ PyData.depthAll ds ≤ n
  | [], _ => ⟨by rw [PyData.canLayAll0], by rw [PyData.depthAll]; exact Nat.zero_le _⟩
  | d :: ds, h => by
    obtain ⟨h1, h2⟩ := shp_all (ds := ds) fun e he => h e (List.mem_cons_of_mem _ he)
    obtain ⟨g1, g2⟩ := h d List.mem_cons_self
    refine ⟨by rw [PyData.canLayAll0, g1, h1]; rfl, ?_⟩
    rw [PyData.depthAll]
    exact Nat.max_le.mpr ⟨g2, h2⟩
theorem shp_tup {n : Nat} {ds : List D} (h : ∀ d ∈ ds, Shp n d) : Shp (n + 1) (.tuple ds) := by
  obtain ⟨h1, h2⟩ := shp_all h
  exact ⟨by rw [PyData.canLay0]; exact h1, by rw [PyData.depth]; omega⟩
theorem shp_list {n : Nat} {ds : List D} (h : ∀ d ∈ ds, Shp n d) : Shp (n + 1) (.list ds) := by
  obtain ⟨h1, h2⟩ := shp_all h
  exact ⟨by rw [PyData.canLay0]; exact h1, by rw [PyData.depth]; omega⟩
theorem shp_int {n : Nat} (i : Int) : Shp n (.int i) := ⟨by rw [PyData.canLay0], by rw [PyData.depth]; exact Nat.zero_le _⟩
theorem shp_bool {n : Nat} (i : Bool) : Shp n (.bool i) := ⟨by rw [PyData.canLay0], by rw [PyData.depth]; exact Nat.zero_le _⟩
theorem shp_non {n : Nat} : Shp n .none := ⟨by rw [PyData.canLay0], by rw [PyData.depth]; exact Nat.zero_le _⟩
theorem shp_mkS {n : Nat} {l : List Nat} (h : ∀ c ∈ l, c < 0x110000) : Shp n (.str (mkS l)) := by
  refine ⟨?_, by rw [PyData.depth]; exact Nat.zero_le _⟩
  rw [PyData.canLay0]
  unfold PyData.strOk mkS
  rw [List.all_toArray, List.all_eq_true]
  intro c hc
  exact decide_eq_true (h c hc)
theorem shp_pair {p : Int × Int} : Shp 1 (encP p) := shp_tup fun d hd => by
  rcases List.mem_cons.mp hd with rfl | hd
  · exact shp_int _
  · rcases List.mem_cons.mp hd with rfl | hd
    · exact shp_int _
    · cases hd
theorem rd_neSame {d : D} {n : Nat} (h : Shp n d) (hn : n ≤ 64) : RD K (rNeD K) d d (.bool false) := by
  have e : (!PyData.eqv d d) = false := by rw [SeqAt.eqv_refl d h.1]; rfl
  rw [← e]
  exact rd_ne (h.shaped hn) (h.shaped hn)
theorem rd_eqSame {d : D} {n : Nat} (h : Shp n d) (hn : n ≤ 64) : RD K (rEqD K) d d (.bool true) := by
  have e : PyData.eqv d d = true := SeqAt.eqv_refl d h.1
  rw [← e]
  exact rd_eq (h.shaped hn) (h.shaped hn)
theorem rd_neM {a b : List Nat} (ha : ∀ c ∈ a, c < 0x110000) (hb : ∀ c ∈ b, c < 0x110000) : RD K (rNeD K) (.str (mkS a)) (.str (mkS b)) (.bool (!decide (a = b))) := by
  have e : decide (a = b) = decide (mkS a = mkS b) := by
    by_cases h : a = b
    · subst h; simp
    · rw [decide_eq_false h, decide_eq_false fun z => h (mkS_inj z)]
  rw [e]
  exact rd_neS' ((shp_mkS (n := 0) ha).shaped (by omega)) ((shp_mkS (n := 0) hb).shaped (by omega))
/-- pairs of ints in order -/
theorem rd_leP {p q : Int × Int} : RD K (rLe K) (encP p) (encP q) (.bool (lexLe p q)) := fun H H0 v u s k1 k2 Q h => by
  obtain ⟨a, rfl, h1⟩ := sqT_ints (ns := [p.1, p.2]) s k1
  obtain ⟨b, rfl, h2⟩ := sqT_ints (ns := [q.1, q.2]) s k2
  refine .inr ⟨a, b, [p.1, p.2], [q.1, q.2], rfl, rfl, h1, h2, ?_⟩
  have e : Ob.lexAt (fun j => decide ([p.1, p.2].getD j 0 = [q.1, q.2].getD j 0)) (fun j => decide ([p.1, p.2].getD j 0 ≤ [q.1, q.2].getD j 0)) (decide ([p.1, p.2].length ≤ [q.1, q.2].length)) 0 (min [p.1, p.2].length [q.1, q.2].length) = lexLe p q := by
    show (if decide (p.1 = q.1) = true then (if decide (p.2 = q.2) = true then true else decide (p.2 ≤ q.2)) else decide (p.1 ≤ q.1)) = lexLe p q
    by_cases h1 : p.1 = q.1
    · rw [decide_eq_true h1, if_pos rfl]
      by_cases h2 : p.2 = q.2
      · rw [decide_eq_true h2, if_pos rfl]
        exact (lexLe_iff.mpr (by omega)).symm
      · rw [decide_eq_false h2, if_neg Bool.false_ne_true]
        by_cases h3 : p.2 ≤ q.2
        · rw [decide_eq_true h3]; exact (lexLe_iff.mpr (by omega)).symm
        · rw [decide_eq_false h3]
          cases hl : lexLe p q with
          | false => rfl
          | true => have := lexLe_iff.mp hl; omega
    · rw [decide_eq_false h1, if_neg Bool.false_ne_true]
      by_cases h3 : p.1 ≤ q.1
      · rw [decide_eq_true h3]; exact (lexLe_iff.mpr (by omega)).symm
      · rw [decide_eq_false h3]
        cases hl : lexLe p q with
        | false => rfl
        | true => have := lexLe_iff.mp hl; omega
  rw [e]
  exact h _ H H0 (.refl s) (.bl _)
end
end EL

/-! the rules with the written part K told apart (within a comprehension it must not hang on the block's own names) -/
namespace EL
open PySem PySem.Spec PyProof.Rows L2
variable [TabC]
theorem law_sp {K : PySem.W.Frag} {H : Hp} {a : Addr} {ns : List Int} {Pre : List D → Prop} {res : List D → D} {E : XK} (hl : ns.length ≤ 63) (hS : SqL K H a (ns.map V.int)) (hp : Pre [.list (ns.map .int)]) (hr : res [.list (ns.map .int)] = .bool true) (tb : TabsC TabC.T H H := by exact fun _ h => nomatch h) :
    spD K Pre res [.ref a] H (fun v _ => v = .bl true) E := by
  refine ⟨H, [.list (ns.map .int)], Same.refl _, tb, .cons (.lst hS (dpa_of_ints ns)) .nil, hp, fun v H' H0' _ k => ?_⟩
  rw [hr] at k
  cases k
  rfl
end EL
namespace EK
open PySem PySem.Spec PyProof.Rows L2 EL
variable [TabC]
section
variable {X : Cx} {K : PySem.W.Frag}
theorem add (hK : X.K = K := by rfl) : OpR X (binaryOp .Add) (EL.rAdd K) := hK ▸ op_addA
theorem mul (hK : X.K = K := by rfl) : OpR X (binaryOp .Mult) (rMul K) := hK ▸ op_mulA
theorem lt (hu : X.A.units < cLine) (hK : X.K = K := by rfl) : OpR X (compareOp .Lt) (rLt K) := hK ▸ op_ltA hu
theorem le (hu : X.A.units < cLine) (hK : X.K = K := by rfl) : OpR X (compareOp .LtE) (rLe K) := hK ▸ op_leA hu
theorem eq (hu : X.A.units + 64 < cLine) (hK : X.K = K := by rfl) : OpR X (compareOp .Eq) (rEqD K) := hK ▸ op_eqD hu
theorem ne (hu : X.A.units + 64 < cLine) (hK : X.K = K := by rfl) : OpR X (compareOp .NotEq) (rNeD K) := hK ▸ op_neD hu
theorem isIn (hK : X.K = K := by rfl) : OpR X (compareOp .In) (rIn K false) := hK ▸ op_in_seq
theorem notIn (hK : X.K = K := by rfl) : OpR X (compareOp .NotIn) (rIn K true) := hK ▸ op_notIn_seq
theorem ix (hK : X.K = K := by rfl) : IxR X (rIx K) := hK ▸ ix_seq
theorem sl (hK : X.K = K := by rfl) : SlR X (rSl K) := hK ▸ sl_any
theorem len (hK : X.K = K := by rfl) : CallR X (.builtin "len") (EL.rLen K) := hK ▸ call_lenA
theorem tuple (hK : X.K = K := by rfl) : CallR X (.type "tuple") (EL.rTuple K) := hK ▸ call_tupleA
theorem list (hK : X.K = K := by rfl) : CallR X (.type "list") (EL.rList K) := hK ▸ call_listA
theorem sortP (hK : X.K = K := by rfl) : CallR X (.builtin "sorted") (rSortP K) := hK ▸ cr_sortP
theorem isi (hK : X.K = K := by rfl) : CallR X (.builtin "isinstance") (rIsi K) := hK ▸ call_isi
theorem join (hK : X.K = K := by rfl) : MtR X "str.join" (EL.rJoinS K) := hK ▸ mt_joinA
theorem seq {tg l : Expr} {tl : TE} (hl : PE X l tl) (hK : X.K = K := by rfl) : PI X tg l (iSeq K tl) := hK ▸ pi_seq hl
theorem enum {e : Expr} {ta : TA} {p pos tpos : Pos} {elts : List Expr} {kk : Nat} (hg : Gl X "enumerate") (hm : X.mg "enumerate" = none) (ha : PA X [e] ta) (hs : starEach [e] X.env = [(false, eval e X.env)] := by rfl) (hK : X.K = K := by rfl) :
    PI X (.Tuple elts kk tpos) (.Call (.Name "enumerate" p) [e] [] pos) (iEnum K ta) := hK ▸ pi_enum hg hm ha hs
theorem tru {a : Expr} {ta : TE} (ha : PE X a ta) (he : ∀ whole, isTrue a X.env whole = (do let v ← whole; standAt a.pos; holding [v] (truthy v)) := by intro _; rfl) (hK : X.K = K := by rfl) : PT X a (EL.tTru K ta) := hK ▸ pt_tru ha he
theorem tup {es : List Expr} {k : Nat} {t : TGs} {n : Nat} {pos : Pos} (hc : X.calm = true) (h : PGs X es t) (hn : (assignEach es X.env).length = n := by rfl) (hst : (assignEach es X.env).findIdx? (·.1) = none := by rfl) (hK : X.K = K := by rfl) :
    PG X (.Tuple es k pos) (gTup K n t) := hK ▸ pg_tup hc h hn hst
end
end EK

namespace EL
open PySem PySem.Spec PyProof.Rows L2
variable [TabC]
variable {K : PySem.W.Frag}
section
variable {ρ : List Sl} {P : Post} {t u tb : TS} {te ta : TE} {d x y z : D} {ds es : List D} {i : Nat}
/-! ### while -/
theorem w_while {c : TT} (Inv : List Sl → Prop) (μ : List Sl → Nat) (h0 : Inv ρ)
    (hs : ∀ ρ1, Inv ρ1 → ∃ b, EvT K c ρ1 b ∧ (b = true → Wp K tb ρ1 { nx := fun ρ2 => Inv ρ2 ∧ μ ρ2 < μ ρ1, ct := fun ρ2 => Inv ρ2 ∧ μ ρ2 < μ ρ1, bk := P.nx, rt := P.rt }) ∧ (b = false → P.nx ρ1)) : Wp K (tWhile c tb) ρ P := fun B B0 σ H H0 r E m => by
  refine ⟨fun n σ' H' => ∃ ρ1 H0', Inv ρ1 ∧ μ ρ1 = n ∧ Rp K B B0 ρ1 σ' H' H0', ⟨μ ρ, ρ, H0, h0, rfl, r⟩, ?_⟩
  rintro n σ' H' ⟨ρ1, H0', inv, rfl, r1⟩
  obtain ⟨b, hc, ht, hf⟩ := hs ρ1 inv
  refine hc B B0 σ' H' H0' r1 _ fun H2 H02 w => ?_
  cases b with
  | true =>
    rw [if_pos rfl]
    refine ⟨fun σ3 H3 => ∃ ρ3 H03, (Inv ρ3 ∧ μ ρ3 < μ ρ1) ∧ Rp K B B0 ρ3 σ3 H3 H03, fun σ3 H3 ⟨ρ3, H03, q, r3⟩ => ⟨μ ρ3, q.2, ρ3, H03, q.1, rfl, r3⟩, ?_⟩
    exact ht rfl B B0 σ' H2 H02 (r1.step w) _ ⟨fun ρ3 σ3 H3 H03 k r3 => ⟨ρ3, H03, k, r3⟩, m.rt, fun ρ3 σ3 H3 H03 k r3 => m.nx ρ3 σ3 H3 H03 k r3, fun ρ3 σ3 H3 H03 k r3 => ⟨ρ3, H03, k, r3⟩, fun _ _ _ _ z => z.elim⟩
  | false =>
    rw [if_neg Bool.false_ne_true]
    exact m.nx ρ1 σ' H2 H02 (hf rfl) (r1.step w)

/-! ### one's own list[j] op= data -/
def rGetL (K : PySem.W.Frag) : V → V → Hp → VK → Prop := fun x y H Q => ∃ p xs i v, x = .ref p ∧ y = .int i ∧ SqL K H p xs ∧ 0 ≤ i ∧ xs[i.toNat]? = some v ∧ Q v H
theorem get_listA {X : Cx} (hK : X.K = K := by rfl) : PGet X (rGetL K) := by
  subst hK
  intro pins s σ H o j ov iv Q I ro ri h
  obtain ⟨p, xs, k, z, rfl, rfl, hq, h0, he, q⟩ := h
  cases ro
  obtain ⟨tk, rfl⟩ := ri
  obtain ⟨its, rv, pl, hz⟩ := I.list hq
  obtain ⟨v, e1, e2⟩ := rv.get he
  have hb : k.toNat < xs.length := (List.getElem?_eq_some_iff.mp he).1
  have hn := line63
  exact wpAny_getItem_list pl.isList h0 (by omega) (by simpa using e1) ⟨z, H, I, e2, q⟩
theorem ixN_nn {n : Nat} {i : Int} (h0 : 0 ≤ i) (h : i.toNat < n) : ixN n i = some i.toNat := by
  unfold ixN
  rw [if_pos h0, if_pos (by omega)]
theorem dpa_set {H : Hp} : ∀ {vs : List V} {ds : List D} (n : Nat) {v : V} {d : D}, DpAll K H vs ds → Dp K H v d → DpAll K H (vs.set n v) (ds.set n d)
  | _, _, _, _, _, .nil, _ => .nil
  | _, _, 0, _, _, .cons _ b, h => .cons h b
  | _, _, n + 1, _, _, .cons a b, h => .cons a (dpa_set n b h)
theorem w_augItem {ti : TE} {tip : TIp} {j : Int} (h : ρ[i]? = some (Sl.own ds)) (hi : EvQ K ti ρ (.int j)) (h0 : 0 ≤ j) (hx : ds[j.toNat]? = some x) (he : EvQ K te ρ y) (hr : RD K tip x y z) (k : P.nx (ρ.set i (.own (ds.set j.toNat z)))) :
    Wp K (tAugS (tVar i) ti te (rGetL K) tip rSetL) ρ P := fun B B0 σ H H0 r E m => by
  obtain ⟨a, xs, e1, e2, e3, e4, e5⟩ := r.own i ds h
  refine ⟨_, e1, hi B B0 σ H H0 r _ fun v H1 H01 w1 k1 => ?_⟩
  have r1 := r.step w1
  obtain ⟨a', xs1, f1, f2, f3, f4, f5⟩ := r1.own i ds h
  rw [e1] at f1; cases f1
  rw [k1.int]
  obtain ⟨vx, g1, g2⟩ := dpa_get f5 hx
  refine ⟨a, xs1, j, vx, rfl, rfl, .of f4, h0, g1, he B B0 σ H1 H01 r1 _ fun v2 H2 H02 w2 k2 => hr H2 H02 vx v2 w2.sub (.inl (dp_mono w2.e0 g2)) k2 _ fun v3 H3 H03 w3 k3 => ?_⟩
  have r3 := (r1.step w2).step w3
  obtain ⟨a', xs3, f1, f2, f3, f4, f5⟩ := r3.own i ds h
  rw [e1] at f1; cases f1
  have hlt : j.toNat < xs3.length := by rw [dpa_len f5]; exact (List.getElem?_eq_some_iff.mp hx).1
  exact ⟨a, xs3, j, j.toNat, rfl, rfl, f4, ixN_nn h0 hlt, m.nx _ _ _ H03 k (r3.write h e1 (dpa_set j.toNat f5 k3))⟩
/-- one's own list[j] = data -/
theorem w_setItem {ti : TE} {j : Int} (he : EvD K te ρ d) (h : ρ[i]? = some (Sl.own ds)) (hi : EvQ K ti ρ (.int j)) (h0 : 0 ≤ j) (hx : j.toNat < ds.length) (k : P.nx (ρ.set i (.own (ds.set j.toNat d)))) :
    Wp K (tAsg te (gSub (tVar i) ti rSetL)) ρ P := fun B B0 σ H H0 r E m => by
  refine he B B0 σ H H0 r _ fun v H1 H01 w1 k1 => ?_
  have r1 := r.step w1
  obtain ⟨a, xs, e1, e2, e3, e4, e5⟩ := r1.own i ds h
  refine ⟨_, e1, hi B B0 σ H1 H01 r1 _ fun v2 H2 H02 w2 k2 => ?_⟩
  have r2 := r1.step w2
  obtain ⟨a', xs2, f1, f2, f3, f4, f5⟩ := r2.own i ds h
  rw [e1] at f1; cases f1
  rw [k2.int]
  have hlt : j.toNat < xs2.length := by rw [dpa_len f5]; exact hx
  exact ⟨a, xs2, j, j.toNat, rfl, rfl, f4, ixN_nn h0 hlt, m.nx _ _ _ H02 k (r2.write h e1 (dpa_set j.toNat f5 (dp_mono w2.e0 k1)))⟩

/-! ### list * int -/
theorem rf_rep {k : Int} {d : D} (h1 : 0 ≤ k) (h2 : k ≤ 1000) {tb : TE} (hd : EvD K ta ρ d) (hk : EvQ K tb ρ (.int k)) : EvF K (tOp (rMul K) (tLst (tCons ta tNil)) tb) ρ (List.replicate k.toNat d) := fun B B0 σ H H0 r Q q => by
  refine ev_lst (hl := sz_le (by simp)) (ec_cons hd ec_nil) B B0 σ H H0 r _ fun a xs H1 H01 w1 n1 e1 e0 k1 => ?_
  refine hk B B0 σ H1 H01 (r.step w1) _ fun v H2 H02 w2 k2 => ?_
  rw [k2.int]
  have k3 := dpa_mono w2.e0 k1
  cases k3 with
  | cons c1 c2 =>
    cases c2
    rename_i vd
    have hz : sizeLine = 16777216 := sizeLine_eq
    have ex : H2 a = some (.lst [vd]) := w2.e.lst e1
    refine .inr ⟨a, k, [vd], rfl, rfl, ex, by omega, by omega, by simp; omega, fun p np => ?_⟩
    have e : (List.replicate k.toNat [vd]).flatten = List.replicate k.toNat vd := by
      generalize k.toNat = m
      induction m with
      | zero => rfl
      | succ m ih => rw [List.replicate_succ, List.flatten_cons, ih]; rfl
    rw [e]
    refine q p _ _ H02 ((w1.trans w2).trans (.dirty w2.sub np)) ((w1.trans w2).e.free np) upd_same (sub_none w2.sub np) ?_
    generalize k.toNat = m
    induction m with
    | zero => exact .nil
    | succ m ih => exact .cons c1 ih

/-! ### bits -/
theorem ev_bits {j : Int} (h : EvQ K te ρ (.int j)) : EvD K (tBits te) ρ (.int (Builtin.Int.intBits j : Nat)) := fun B B0 σ H H0 r Q q => h B B0 σ H H0 r _ fun v H1 H01 w k => ⟨j, k.int, q _ H1 H01 w (.int _)⟩
theorem ev_inv {j : Int} (h : EvQ K ta ρ (.int j)) : EvD K (tUn (rU fun i => .int (Builtin.bitNot i)) ta) ρ (.int (Builtin.bitNot j)) := fun B B0 σ H H0 rp Q q =>
  h B B0 σ H H0 rp _ fun v H1 H01 w1 k1 => by rw [k1.int]; exact ⟨j, rfl, q _ H1 H01 w1 (.int _)⟩

/-! ### sorted of ints -/
def sortI (ns : List Int) : List Int := ns.mergeSort (fun a b => decide (a ≤ b))
theorem sortI_perm' (ns : List Int) : (sortI ns).Perm ns := List.mergeSort_perm ns _
theorem sortI_sorted (ns : List Int) : (sortI ns).Pairwise (· ≤ ·) := by
  have h := List.pairwise_mergeSort (le := fun a b : Int => decide (a ≤ b)) (fun a b c h1 h2 => by simp only [decide_eq_true_eq] at *; omega) (fun a b => by simp only [Bool.or_eq_true, decide_eq_true_eq]; omega) ns
  exact h.imp fun h => of_decide_eq_true h
theorem sortI_uniq {a b : List Int} (hp : a.Perm b) (ha : a.Pairwise (· ≤ ·)) (hb : b.Pairwise (· ≤ ·)) : a = b :=
  List.Perm.eq_of_pairwise (fun x y _ _ h1 h2 => Int.le_antisymm h1 h2) ha hb hp
theorem cf_sortI {ns : List Int} : CF K (rSortedI K) [.list (ns.map .int)] ((sortI ns).map .int) := fun H H0 vs s k Q q => by
  obtain ⟨v, rfl, kk⟩ := dq1 k
  obtain ⟨a, xs, rfl, h1, h2⟩ := kk.lst s
  rw [dpa_ints h2] at h1
  refine ⟨a, ns, rfl, h1, fun ns' p hp hs np => ?_⟩
  rw [sortI_uniq (hp.trans (sortI_perm' ns).symm) hs (sortI_sorted ns)]
  exact q p _ _ H0 (.dirty s np) np upd_same (sub_none s np) (dpa_of_ints _)
end
/-! ### list of a tuple, + -/
end EL
namespace EK
open PySem PySem.Spec PyProof.Rows L2 EL
variable [TabC]
theorem sortI {X : Cx} {K : PySem.W.Frag} (hK : X.K = K := by rfl) : CallR X (.builtin "sorted") (rSortedI K) := hK ▸ cr_sortedI
end EK

namespace EL
open PySem PySem.Spec PyProof.Rows L2
variable [TabC]
variable {K : PySem.W.Frag}
section
variable {ρ : List Sl} {P : Post} {t u tb : TS} {te ta : TE} {d x y z : D} {ds es : List D} {i : Nat}
/-! ### any of ints -/
def rAnyI (K : PySem.W.Frag) : List V → Hp → VK → Prop := fun vs H Q => ∃ (p : Addr) (ns : List Int), vs = [V.ref p] ∧ SqL K H p (ns.map V.int) ∧ Q (.bl (ns.any fun n => n != 0)) H
theorem getD_any : ∀ ns : List Int, (List.range ns.length).any (fun j => ns.getD j 0 != 0) = ns.any (fun n => n != 0)
  | [] => rfl
  | n :: ns => by
    have h := getD_any ns
    rw [List.length_cons, List.range_succ_eq_map, List.any_cons, List.any_map, List.any_cons, ← h]
    rfl
theorem cr_anyI {X : Cx} (hc : X.calm = true) : CallR X (.builtin "any") (rAnyI X.K) := by
  rintro pins s σ H vs us Q I r ⟨p, ns, rfl, hs, q⟩
  obtain ⟨its, rv, hl, _⟩ := I.list hs
  rw [Vals.ref1 r]
  have hlen : its.length = ns.length := by rw [← rv.length, List.length_map]
  refine call_any_walk (iter_any hl.isList fun s₂ e2 st hne => ?_)
  subst e2
  have ht : ∀ (A : Around), TruthOf X.prog X.w A (fun j v => its.toArray[j]? = some v) (fun j => ns.getD j 0 != 0) := fun A j v s' Q' E' hv hq => by
    have hv' : its[j]? = some v := by simpa using hv
    have hj : j < ns.length := by rw [← hlen]; exact (List.getElem?_eq_some_iff.mp hv').1
    have e1 : (ns.map V.int)[j]? = some (V.int ns[j]) := by rw [List.getElem?_map, List.getElem?_eq_getElem hj]; rfl
    obtain ⟨v2, e2, t, e3⟩ := rv.get e1
    rw [hv'] at e2; cases e2
    subst e3
    have hg : ns.getD j 0 = ns[j] := by rw [List.getD_eq_getElem?_getD, List.getElem?_eq_getElem hj]; rfl
    have hq2 : Q' (ns.getD j 0 != 0) s' := hq
    rw [hg] at hq2
    exact PyProof.Rows.truthy_int hq2
  refine ⟨_, _, _, _, _, _, _, rfl, Walks.list (A := X.A.in1) (I.ok.hd hc) _ p hne its.toArray, st, ht _, fun h' tk hk => ?_⟩
  refine ⟨.bl _, H, I.kept fun b o eo => hk b o (fun hm => ?_) (Heap.get?_push_of_some _ eo), ?_, q⟩
  · rcases List.mem_cons.mp hm with z | z
    · exact absurd (z ▸ Heap.lt_size eo) (Nat.lt_irrefl _)
    · cases z
  · show Value.bool _ = Value.bool _
    rw [← getD_any, List.size_toArray, hlen]
theorem cd_anyI {ns : List Int} : CD K (rAnyI K) [.list (ns.map .int)] (.bool (ns.any fun n => n != 0)) := fun H H0 vs s k Q q => by
  obtain ⟨v, rfl, kk⟩ := dq1 k
  obtain ⟨a, xs, rfl, h1, h2⟩ := kk.lst s
  rw [dpa_ints h2] at h1
  exact ⟨a, ns, rfl, h1, q _ H H0 (.refl s) (.bl _)⟩
/-! ### zip of two lists -/
theorem it_zip {H0 : Hp} {a b : Addr} {xs ys : List V} (h1 : SqL K H0 a xs) (h2 : DpAll K H0 xs ds) (g1 : SqL K H0 b ys) (g2 : DpAll K H0 ys es) : ItOk K (Itz K a b) H0 (List.zipWith (fun x y => .tuple [x, y]) ds es) := fun i H' H0' s1 s2 => by
  have h3 : SqL K H' a xs := (s1.trans s2).seq h1
  have g3 : SqL K H' b ys := (s1.trans s2).seq g1
  refine ⟨fun hi => ⟨xs, ys, h3, g3, ?_⟩, fun d e => ?_⟩
  · rw [List.length_zipWith] at hi
    rw [dpa_len h2, dpa_len g2]
    omega
  · rw [List.getElem?_zipWith] at e
    cases e4 : ds[i]? with
    | none => rw [e4] at e; cases e
    | some d1 =>
      cases e5 : es[i]? with
      | none => rw [e4, e5] at e; cases e
      | some d2 =>
        rw [e4, e5] at e
        cases e
        obtain ⟨v, e1, k1⟩ := dpa_get h2 e4
        obtain ⟨u, f1, k2⟩ := dpa_get g2 e5
        refine ⟨⟨xs, ys, v, u, h3, g3, e1, f1⟩, fun x H2 hy => ?_⟩
        obtain ⟨T, y1, y2, rfl, nT, rfl, hy1, hy2⟩ := hy
        have e3 := hy1 xs h3
        rw [e1] at e3; cases e3
        have f3 := hy2 ys g3
        rw [f1] at f3; cases f3
        have mv := same_new (o := HO.tup [v, u]) (sub_none s2 nT)
        exact ⟨upd H0' T (.tup [v, u]), .clean s2 nT, .tup (.of upd_same) (.cons (dp_mono mv (dp_mono s1 k1)) (.cons (dp_mono mv (dp_mono s1 k2)) .nil))⟩
theorem ei_zip {t : TA} (h : EvC K t ρ [.list ds, .list es]) : Ev_It K (iZip K t) ρ (List.zipWith (fun x y => .tuple [x, y]) ds es) := fun B B0 σ H H0 r R q => h B B0 σ H H0 r _ fun vs H1 H01 w k => by
  cases k with
  | cons a b =>
    cases b with
    | cons c e =>
      cases e
      cases a with
      | lst s1 a1 =>
        cases c with
        | lst s2 a2 => exact ⟨_, _, _, _, rfl, w.sub.seq s1, w.sub.seq s2, q _ H1 H01 w (it_zip s1 a1 s2 a2)⟩
/-! ### min, max -/
def rMin2 : List V → Hp → VK → Prop := fun xs H Q => ∃ i j, xs = [.int i, .int j] ∧ Q (.int (if j < i then j else i)) H
theorem cd_min2 {i j : Int} : CD K rMin2 [.int i, .int j] (.int (min i j)) := fun H H0 vs s k Q q => by
  obtain ⟨v, u, rfl, k1, k2⟩ := dq2 k
  have e : (if j < i then j else i) = min i j := by omega
  refine ⟨i, j, by rw [k1.int, k2.int], ?_⟩
  rw [e]
  exact q _ H H0 (.refl s) (.int _)
def maxI (ns : List Int) : Int := ns.foldl max 0
theorem fold_ge : ∀ (ns : List Int) (a : Int), a ≤ ns.foldl max a ∧ ∀ n ∈ ns, n ≤ ns.foldl max a
  | [], a => ⟨Int.le_refl a, fun n h => (nomatch h)⟩
  | n :: ns, a => by
    obtain ⟨h1, h2⟩ := fold_ge ns (max a n)
    rw [List.foldl_cons]
    refine ⟨by omega, fun m hm => ?_⟩
    rcases List.mem_cons.mp hm with rfl | hm
    · omega
    · exact h2 m hm
theorem fold_in : ∀ (ns : List Int) (a : Int), ns.foldl max a = a ∨ ns.foldl max a ∈ ns
  | [], a => .inl rfl
  | n :: ns, a => by
    rw [List.foldl_cons]
    rcases fold_in ns (max a n) with h | h
    · rw [h]
      by_cases q : a ≤ n
      · right
        rw [show max a n = n by omega]
        exact List.mem_cons_self
      · left; omega
    · exact .inr (List.mem_cons_of_mem _ h)
/-- max([0] + ns) -/
theorem cd_max0 {ns : List Int} : CD K (rMax K) [.list ((0 :: ns).map .int)] (.int (maxI ns)) := fun H H0 vs s k Q q => by
  obtain ⟨v, rfl, kk⟩ := dq1 k
  obtain ⟨a, xs, rfl, h1, h2⟩ := kk.lst s
  rw [dpa_ints h2] at h1
  refine ⟨a, 0 :: ns, rfl, h1, by simp, fun m hm hle => ?_⟩
  obtain ⟨g1, g2⟩ := fold_ge ns 0
  have e : m = maxI ns := by
    unfold maxI
    have a1 : m ≤ ns.foldl max 0 := by
      rcases List.mem_cons.mp hm with rfl | hm
      · exact g1
      · exact g2 m hm
    have a2 : ns.foldl max 0 ≤ m := by
      rcases fold_in ns 0 with h | h
      · rw [h]; exact hle 0 List.mem_cons_self
      · exact hle _ (List.mem_cons_of_mem _ h)
    omega
  rw [e]
  exact q _ H H0 (.refl s) (.int _)
/-- max(ns, default=0), no item below 0 -/
def rMaxD0 (K : PySem.W.Frag) : List V → List V → Hp → VK → Prop := fun xs zs H Q => ∃ (p : Addr) (ns : List Int), xs = [.ref p] ∧ zs = [.int 0] ∧ SqL K H p (ns.map V.int) ∧ (∀ n ∈ ns, 0 ≤ n) ∧ Q (.int (maxI ns)) H
theorem depth_ints : ∀ ns : List Int, PyData.depthAll (ns.map PyData.int) = 0
  | [] => by rw [List.map_nil, PyData.depthAll]
  | n :: ns => by
    rw [List.map_cons, PyData.depthAll, depth_ints ns, PyData.depth]
    rfl
theorem ck_maxD {X : Cx} (hc : X.calm = true) (hu : X.A.units + 1 < cLine) : CallRK X (.builtin "max") [Str.ofString "default"] (rMaxD0 X.K) := by
  rintro pins s σ H xs zs us ws Q I r1 r2 ⟨p, ns, rfl, rfl, hs, hnn, q⟩
  obtain ⟨its, rv, hl, _⟩ := I.list hs
  rw [Vals.ref1 r1]
  cases r2 with
  | cons rd rn =>
    cases rn
    obtain ⟨t0, rfl⟩ := rd
    obtain ⟨as, ra⟩ := Dp.readsAll I (ns.map .int) _ its (dpa_of_ints ns) rv
    have al : PySem.W.AlikeAll (ns.map PyData.int) := by
      refine ⟨fun x hx y hy => ?_, fun x hx => ?_⟩
      · obtain ⟨n, _, rfl⟩ := List.mem_map.mp hx
        obtain ⟨m, _, rfl⟩ := List.mem_map.mp hy
        rfl
      · obtain ⟨n, _, rfl⟩ := List.mem_map.mp hx
        exact fun e => nomatch e
    refine PySem.W.max_list_default (I.ok.hd hc) hl.isList (vs := its.toArray) (show ReadsAll s.heap its.toArray.toList _ as from ra) al (by rw [depth_ints]; exact hu) (fun e0 h' tk hk => ?_) fun y ys j v h' tk bs e0 hv rd hk => ?_
    · cases ns with
      | cons n ns => cases e0
      | nil => exact ⟨.int 0, H, I.kept hk, ⟨_, rfl⟩, q⟩
    · cases ns with
      | nil => cases e0
      | cons n ns =>
        cases e0
        rw [PySem.W.maxD_ints] at rd
        have h0 := hnn n List.mem_cons_self
        have e1 : ns.foldl max n = maxI (n :: ns) := by
          show ns.foldl max n = ns.foldl max (max 0 n)
          rw [show max 0 n = n by omega]
        rw [e1] at rd
        cases rd
        exact ⟨.int _, H, I.kept hk, ⟨_, rfl⟩, q⟩
theorem ev_ckw {r : List V → List V → Hp → VK → Prop} {t tk : TA} {xs zs : List D} (h : EvA K t ρ xs) (h2 : EvA K tk ρ zs)
    (hr : ∀ (H H0 : Hp) (vs ws : List V), Same H0 H → DqAll K H H0 vs xs → DqAll K H H0 ws zs → ∀ Q : VK, (∀ v' H' H0', Wd H H0 H' H0' → Dp K H0' v' z → Q v' H') → r vs ws H Q) : EvD K (tCKw r t tk) ρ z := fun B B0 σ H H0 rp Q q =>
  h B B0 σ H H0 rp _ fun vs H1 H01 w1 k1 => h2 B B0 σ H1 H01 (rp.step w1) _ fun ws H2 H02 w2 k2 => hr H2 H02 vs ws w2.sub (k1.mono w2) k2 Q fun v' H3 H03 w3 k3 => q v' H3 H03 ((w1.trans w2).trans w3) k3
theorem kd_maxD {ns : List Int} (hn : ∀ n ∈ ns, 0 ≤ n) (H H0 : Hp) (vs ws : List V) (s : Same H0 H) (k : DqAll K H H0 vs [.list (ns.map .int)]) (k2 : DqAll K H H0 ws [.int 0]) (Q : VK) (q : ∀ v' H' H0', Wd H H0 H' H0' → Dp K H0' v' (.int (maxI ns)) → Q v' H') : rMaxD0 K vs ws H Q := by
  obtain ⟨v, rfl, kk⟩ := dq1 k
  obtain ⟨u, rfl, k3⟩ := dq1 k2
  obtain ⟨a, xs, rfl, h1, h2⟩ := kk.lst s
  rw [dpa_ints h2] at h1
  exact ⟨a, ns, rfl, by rw [k3.int], h1, hn, q _ H H0 (.refl s) (.int _)⟩
/-! ### x in l, l.index(x), for data -/
theorem rd_inDat (h1 : SeqAt.shaped x = true) (h2 : SeqAt.shaped (.list ds) = true) : RD K (rInD K) x (.list ds) (.bool (ds.any fun z => PyData.eqv z x)) := fun H H0 v u s k1 k2 Q q =>
  ⟨x, ds, k1.dp s, k2.dp s, h1, h2, q _ H H0 (.refl s) (.bl _)⟩
theorem ev_index {j : Nat} (h : EvQ K ta ρ (.list ds)) (h2 : EvQ K te ρ x) (s1 : SeqAt.shaped (.list ds) = true) (s2 : SeqAt.shaped x = true) (hz : ds[j]? = some z) (he : PyData.eqv z x = true) (hno : ∀ (m : Nat) (z' : D), m < j → ds[m]? = some z' → PyData.eqv z' x = false) :
    EvD K (tBM K "list" (rIndexD K) ta (tCons te tNil)) ρ (.int (j : Nat)) := fun B B0 σ H H0 rp Q q =>
  h B B0 σ H H0 rp _ fun v H1 H01 w1 k1 => by
    obtain ⟨a, xs, rfl, g1, g2⟩ := k1.lst w1.sub
    refine ⟨.inl ⟨rfl, _, g1⟩, h2 B B0 σ H1 H01 (rp.step w1) _ fun u H2 H02 w2 k2 => ?_⟩
    exact ⟨a, u, x, ds, j, z, rfl, rfl, (k1.mono w2).dp w2.sub, k2.dp w2.sub, s1, s2, hz, he, hno, q _ H2 H02 (w1.trans w2) (.int _)⟩
/-! ### tuple(range(n)) -/
theorem ev_tupRg {n : Nat} (h : EvQ K te ρ (.int (n : Int))) (hn : n ≤ 1000) : EvD K (tTupRg (tRg1 te)) ρ (.tuple ((List.range n).map fun j => .int ((j : Nat) : Int))) := fun B B0 σ H H0 r Q q =>
  h B B0 σ H H0 r _ fun v H1 H01 w k => by
    refine ⟨(n : Int), k.int, ⟨by omega, by omega, by omega, by omega, by omega⟩, fun p np => ?_⟩
    have e : rgV 0 (n : Int) = ((List.range n).map fun j : Nat => (j : Int)).map V.int := by
      unfold rgV
      rw [List.map_map]
      have e0 : ((n : Int) - 0).toNat = n := by omega
      rw [e0]
      refine List.map_congr_left fun j _ => ?_
      show V.int (0 + (j : Int)) = V.int (j : Int)
      rw [Int.zero_add]
    rw [e]
    have e2 : ((List.range n).map fun j => PyData.int ((j : Nat) : Int)) = ((List.range n).map fun j : Nat => (j : Int)).map PyData.int := by rw [List.map_map]; rfl
    refine q _ _ (upd H01 p (.tup _)) (w.trans (.clean w.sub np)) ?_
    rw [e2]
    exact .tup (.of upd_same) (dpa_of_ints _)
/-! ### ==, != of truth values -/
theorem rd_neB {a b : Bool} : RD K (rNeD K) (.bool a) (.bool b) (.bool (!decide (a = b))) := by
  have e : PyData.eqv (.bool a) (.bool b) = decide (a = b) := by cases a <;> cases b <;> rfl
  rw [← e]
  exact rd_ne rfl rfl
/-- int(a truth value) -/
theorem cd_intB {b : Bool} : CD K (fun xs H Q => (∃ i, xs = [.int i] ∧ Q (.int i) H) ∨ ∃ k, xs = [.bl k] ∧ Q (.int (if k then 1 else 0)) H) [.bool b] (.int (if b then 1 else 0)) := fun H H0 vs s k Q q => by
  obtain ⟨v, rfl, kk⟩ := dq1 k
  refine .inr ⟨b, by rw [kk.bl], q _ H H0 (.refl s) (.int _)⟩
end
end EL
namespace EK
open PySem PySem.Spec PyProof.Rows L2 EL
variable [TabC]
section
variable {X : Cx} {K : PySem.W.Frag}
theorem any (hc : X.calm = true) (hK : X.K = K := by rfl) : CallR X (.builtin "any") (rAnyI K) := hK ▸ cr_anyI hc
theorem max (hc : X.calm = true) (hK : X.K = K := by rfl) : CallR X (.builtin "max") (rMax K) := hK ▸ cr_max hc
theorem min (hc : X.calm = true) : CallR X (.builtin "min") rMin2 := call_min2 hc
theorem maxD (hc : X.calm = true) (hu : X.A.units + 1 < cLine) (hK : X.K = K := by rfl) : CallRK X (.builtin "max") [Str.ofString "default"] (rMaxD0 K) := hK ▸ ck_maxD hc hu
theorem inD (hu : X.A.units + 65 < cLine) (hK : X.K = K := by rfl) : OpR X (compareOp .In) (rInD K) := hK ▸ op_inD hu
theorem index (hu : X.A.units + 65 < cLine) (hK : X.K = K := by rfl) : MtR X "list.index" (rIndexD K) := hK ▸ mt_indexD hu
theorem zip {e e2 : Expr} {ta : TA} {p pos tpos : Pos} {elts : List Expr} {kk : Nat} (hg : Gl X "zip") (hm : X.mg "zip" = none) (ha : PA X [e, e2] ta)
    (hs : starEach [e, e2] X.env = (false, eval e X.env) :: starEach [e2] X.env := by rfl) (hpl : (backTo pos (starEach [e2] X.env)).any (·.1) = false := by rfl) (hK : X.K = K := by rfl) :
    PI X (.Tuple elts kk tpos) (.Call (.Name "zip" p) [e, e2] [] pos) (iZip K ta) := hK ▸ pi_zip hg hm ha hs hpl
end
end EK
theorem L2.Room.lt {k : Nat} {A : PySem.Around} (r : L2.Room k A) (j : Nat) (h : j ≤ 200 := by decide) : A.units + j < PySem.cLine := by have := r.un; omega

namespace EL
open PySem PySem.Spec PyProof.Rows L2
variable [TabC]
variable {K : PySem.W.Frag}
/-! ### errors: own classes below ValueError, without an __init__ -/
def veM : List Value := [.type "ValueError", .type "Exception", .type "BaseException", .type "object"]
structure OwnE (K : PySem.W.Frag) (mg : Str → Option Value) (x : Str) (C : Addr) : Prop where
  q : PySem.W.excIn K C veM "ValueError.__new__" = true
  g : mg x = some (.ref C)
  k : PySem.W.keepIn K (.ref C) = true
  s : PySem.W.subIn K (.ref C) (.type "BaseException") = some true
  t : PySem.W.typeIn K (.ref C) = some (.type "type")
section
variable {X : Cx} {C : Addr} {x : Str}
/-- X() -/
theorem pmk_own0 {p pos : Pos} (c : OwnE X.K X.mg x C) (hg : Gl X x) (hdb : (x == ("__debug__" : Str)) = false := by decide) : PMk X (.Call (.Name x p) [] [] pos) (fun _ H Q => Q (.ref C) none H) := by
  intro pins s σ H Q I h
  refine wpAny_Call_Name_kw (ld_glob I hg c.g ?_ hdb)
  refine PySem.W.callWith_K0 I.kIn c.k ?_
  show wpAny _ _ (call (.ref C) []) _ _ _
  obtain ⟨bm, N, nm, qn, bs, hdct, sn, sub, ab, col, dd, k0, k1, k2, k3, k5, mN, hC, hN, hni, T⟩ := exc_obj I.kIn c.q
  refine wpAny_call_exc_subT PySem.F.excBase_ValueError T hC hN hni (fun h' e hm => ?_) (by show 0 ≤ sizeLine; exact Nat.zero_le _)
  exact mk_of I hm (raises_own c.s c.t) h (I.hok.gone hm.new)
def tRaise0 (C : Addr) (W : WX) : TS := fun _ σ H => W (.ref C) none σ H
theorem ps_raise0 {W : WX} {p pos pos2 : Pos} (hc : X.calm = true) (c : OwnE X.K X.mg x C) (tk : Takes X W) (hg : Gl X x) (hdb : (x == ("__debug__" : Str)) = false := by decide) : PS X (.Raise (some (.Call (.Name x p) [] [] pos)) none pos2) (tRaise0 C W) :=
  ps_raise hc tk (pmk_own0 c hg hdb)
end
/-- the promise of a def that may raise an error of the class: an answer, or the error -/
def spX (K : PySem.W.Frag) (cls : Value) (Pre : List D → Prop) (res : List D → Option D) : Sp := fun vs H Q E => ∃ H0 ds, Same H0 H ∧ TabsC TabC.T H H0 ∧ DpAll K H0 vs ds ∧ Pre ds ∧
  (∀ d, res ds = some d → ∀ v H' H0', Wd H H0 H' H0' → Dp K H0' v d → Q v H') ∧ (res ds = none → ∀ H' H0', Wd H H0 H' H0' → E cls none H')
theorem fn_okX {Pg : Program} {w : World} {mg : Str → Option Value} {base : Heap} {x qual : Str} {st : Stmt} {f : Addr} {fd : FuncData} {N ps : List Str} {k : Nat} {cls : Value} {Pre : List D → Prop} {res : List D → Option D}
    (F : Fun K x qual st f fd) (S : FnScope N ps (defScope st)) (len : ∀ ds, Pre ds → ds.length = ps.length)
    (body : ∀ (cdv : Value) (A : Around) (outer : List Env) (s : Shared) (H : Hp) (E : XK) (ds : List D), Room k (A.deeper (envOfC qual (defScope st) s.heap.objs.size f cdv)) → Pre ds →
      ∃ t, PSs (cxOf (L2.CX Pg w) Pg w K mg base N qual (defScope st) f cdv A outer s H E) (defBody st) t ∧
        ∀ (H0 : Hp) (σ : L2.St) (En : Ends), Rp K H H0 (initS N ds) σ H H0 → (∀ d v H' H0', res ds = some d → Wd H H0 H' H0' → Dp K H0' v d → En.rt v H') → (res ds = none → ∀ H' H0', Wd H H0 H' H0' → E cls none H') → t En σ H) :
    FnOk Pg w K mg base (L2.CX Pg w) (k + 1) f fd ps (spX K cls Pre res) := by
  refine F.okX S (fun vs H Q E h => ?_) fun cdv A outer s H vs Q E hr h => ?_
  · obtain ⟨H0, ds, s1, tb, k1, hp, _⟩ := h
    rw [dpa_len k1]; exact len ds hp
  · obtain ⟨H0, ds, s1, tb, k1, hp, q, qe⟩ := h
    obtain ⟨t, pt, wt⟩ := body cdv A outer s H E ds hr hp
    exact ⟨t, pt, wt H0 _ _ (rp_init s1 tb k1) (fun d v H' H0' e w kd => q d e v H' H0' w kd) qe⟩
/-- what a def that may raise is, for its callers -/
structure CalX (Pg : Program) (w : World) (K : PySem.W.Frag) (mg : Str → Option Value) (base : Heap) (x : Str) (ps : List Str) (k : Nat) (sp : Sp) : Prop where
  ex : ∃ (f : Addr) (fd : FuncData), FnOk Pg w K mg base (L2.CX Pg w) k f fd ps sp ∧ mg x = some (.ref f) ∧ PySem.W.keepIn K (.ref f) = true ∧ Binds K fd ps []
theorem pe_calX {X : Cx} {W : WX} {x : Str} {ps : List Str} {k : Nat} {sp : Sp} {e : Expr} {es : List Expr} {t : TA} {p pos : Pos} (c : CalX X.prog X.w X.K X.mg X.base x ps k sp) (tk : Takes X W) (hr : Room k X.A) (ha : PA X (e :: es) t) (hg : Gl X x := by rfl)
    (hdb : (x == ("__debug__" : Str)) = false := by decide) (he : starEach (e :: es) X.env = (false, eval e X.env) :: starEach es X.env := by rfl) (hpl : (backTo pos (starEach es X.env)).any (·.1) = false := by rfl) :
    PE X (.Call (.Name x p) (e :: es) [] pos) (tCallS sp (WE W) t) := by
  obtain ⟨f, fd, F, hm, hk, hb⟩ := c.ex
  exact pe_callS F hr hg hm hk hb (fun σ => passAt tk σ) ha hdb he hpl
/-! ### isinstance(e, ..), e what the clause holds -/
def rIsX (K : PySem.W.Frag) (a : Addr) (cls : Value) (dd : Option Addr) : List V → Hp → VK → Prop := fun xs H Q => ∃ (c : V) (A : Addr) (b : Bool), cls = .ref A ∧ dd = none ∧ ExcC K A ∧ xs = [.ref a, c] ∧
  ((∃ u, ClsV c u ∧ PySem.W.kitOne K (.ref A) u = some b) ∨ ∃ tp cs us, c = .ref tp ∧ H tp = some (.tup cs) ∧ Paired ClsV cs us ∧ PySem.W.kitAny K (.ref A) us = some b) ∧ Q (.bl b) H
theorem cr_isX {X : Cx} {a : Addr} {cls : Value} {dd : Option Addr} {oe : Obj} {pn : List (Addr × Obj)} (hz : Zc cls dd oe) (hf : ∃ vs, oe.data = .fields vs) (hK : X.K = K := by rfl) : CallR (X.suite a ((a, oe) :: pn)) (.builtin "isinstance") (rIsX K a cls dd) := by
  subst hK
  rintro pins s σ H xs us Q I r ⟨c, A, b, rfl, rfl, C, rfl, hc, q⟩
  obtain ⟨u1, u2, rfl, r1, r2⟩ := vals2 r
  cases (show u1 = Value.ref a from r1)
  obtain ⟨hget, _⟩ := I.pin (a, oe) (List.mem_append.mpr (.inl List.mem_cons_self))
  obtain ⟨vs, hv⟩ := hf
  have J : PySem.W.InstAt s.heap a oe A none := by
    obtain ⟨oc, od, oda, osl⟩ := oe
    obtain ⟨h1, h2⟩ := hz
    dsimp only at h1 h2 hv
    subst h1 h2 hv
    exact ⟨hget, rfl, rfl, trivial⟩
  have Z := PySem.W.handS_kitx_exc (x := a) (ox := oe) C.hg C.hk C.hs C.hd C.ha C.hn C.ht C.hm
  rcases hc with ⟨u, k, e⟩ | ⟨tp, cs, ws, rfl, hT, k, e⟩
  · have e2 := k.eq r2
    subst e2
    exact PySem.W.kia_one Z I.kIn J e (fun z => nomatch z) fun tk => ⟨.bl b, H, I.tok tk, rfl, q⟩
  · cases (show u2 = Value.ref tp from r2)
    obtain ⟨_, its, rv, o, h1, h2, n, h3⟩ := (show ObjOk X.prog X.w H s.heap tp (.tup cs) from I.hok tp _ hT)
    have e3 := ClsV.all k rv
    subst e3
    obtain ⟨oc, od, dt, sl⟩ := o
    simp only at h2 h3
    subst h2 h3
    exact PySem.W.kia_tup Z I.kIn J h1 e (fun z => nomatch z) fun tk => ⟨.bl b, H, I.tok tk, rfl, q⟩
end EL
namespace EL
open PySem PySem.Spec PyProof.Rows L2
variable [TabC]
section
variable {K : PySem.W.Frag} {B B0 H H0 : Hp} {σ : L2.St} {ρ : List Sl} {t u : TS} {En : Ends} {ds : List D}
theorem wp_seqR (N : List Sl → Prop) (R : D → Prop) (h : Wp K t ρ { nx := N, rt := R }) (rp : Rp K B B0 ρ σ H H0) (nx : ∀ ρ' σ' H' H0', N ρ' → Rp K B B0 ρ' σ' H' H0' → u En σ' H') (rt : ∀ d v H' H0', R d → Wd B B0 H' H0' → Dp K H0' v d → En.rt v H') : tSeq t u En σ H :=
  h B B0 σ H H0 rp _ ⟨nx, rt, fun _ _ _ _ z => z.elim, fun _ _ _ _ z => z.elim, fun _ _ _ _ z => z.elim⟩
theorem wp_retS {sp : Sp} {E : L2.St → XK} {ta : TA} (h : EvC K ta ρ ds) (rp : Rp K B B0 ρ σ H H0) (k : ∀ vs H1 H01, Wd H H0 H1 H01 → DpAll K H01 vs ds → sp vs H1 En.rt (E σ)) : tRet (tCallS sp E ta) En σ H :=
  h B B0 σ H H0 rp _ k
end
end EL

/-! an error that leaves a list comprehension -/
namespace EL
open PySem PySem.Spec PyProof.Rows L2
variable [TabC]
theorem ff_but {C : Addr} {h h' B B' : Heap} (e1 : ∀ b, b ≠ C → h'.get? b = h.get? b) (e2 : ∀ b, B.get? b = none → B'.get? b = none) : ∀ {l : List Env}, C ∉ frs l → h.FunFrames B l → h'.FunFrames B' l
  | [], _, _ => trivial
  | en :: l, nc, q => by
    obtain ⟨q1, ⟨L, o, q2, q3, q4, q5⟩, q6⟩ := q
    have hL : L ∈ frs (en :: l) := List.mem_filterMap.mpr ⟨en, List.mem_cons_self, q2⟩
    have hne : L ≠ C := fun z => nc (z ▸ hL)
    refine ⟨q1, ⟨L, o, q2, e2 L q3, (e1 L hne).trans q4, q5⟩, ff_but e1 e2 (fun z => nc ?_) q6⟩
    obtain ⟨x, hx, hx2⟩ := List.mem_filterMap.mp z
    exact List.mem_filterMap.mpr ⟨x, List.mem_cons_of_mem _ hx, hx2⟩
theorem noteFrame_same {a b : Env} (v : Value) (h : a.frame = b.frame) : noteFrame v a = noteFrame v b := by
  unfold noteFrame PySem.frameOf
  rw [h]
section
variable {X : Cx} {W : WX} {pins : List (Addr × Obj)} {σ : L2.St} {H3 : Hp} {s3 : Shared} {scope : Scope} {ce : Env} {fp : List Addr}
theorem comp_passes (I3 : Inv X pins σ H3 s3) (hs : X.stack = X.env :: X.outer) (hf : X.env.frame = some X.env.locals) (tk : Takes X W) (f3 : ∀ b ∈ fp, FpOk X pins H3 b) (c1 : ce.locals = s3.heap.objs.size) (c2 : ce.frame = X.env.frame) (pn : List (Addr × Obj)) (σ' : L2.St) :
    PassesAt (L2.CX X.prog X.w) ((X.blk s3 H3 scope ce fp).tr pn (notedBy (model X.prog X.w) X.A ce (CompFails (model X.prog X.w) X.A X.xe ce))) σ' (fun cls d H' => W cls d σ H') := by
  intro pins6 H6 s6 e s' I6 c
  have c0 := c
  obtain ⟨a, B, sI, pins2, σ2, H', cls, d, rfl, J, nb, up, sky, na, os, ag, hw⟩ := XE.of_call (W := fun cls d _ H' => W cls d σ H') I6 (fun _ _ _ h => h) c
  obtain ⟨a0, B0, _, cls0, d0, ea, fl0, _⟩ := c0
  cases ea
  obtain ⟨_, _, _, oe0, vs0, T0, oT0, ts0, g1, _, g2, g3, _, _, g4, g5, g6⟩ := fl0
  have fl : HandSPX.FlyingZ B X.stack a (Zc cls d) s'.heap := by
    rcases sky with ⟨_, _, _, oe, vs, k1, _, k2, k3⟩ | fl | ⟨_, _, _, oe, vs, T, oT, ts, k1, _, k2, k3, _, _, k4, k5, k6⟩
    · rw [g1] at k1; cases k1
      rw [g2] at k2; cases k2
      rw [g3] at k3; cases k3
    · exact fl
    · rw [g1] at k1; cases k1
      rw [g2] at k2; cases k2
      rw [g3] at k3; cases k3
      rw [g4] at k4; cases k4
      rw [g5] at k5; cases k5
      rw [g6] at k6; cases k6
  have hfr : X.A.frames = some (X.env :: X.outer) := by rw [I3.ok.frames, hs]
  have nC : ce.locals ∉ frs X.stack := fun hm => by
    rw [c1] at hm
    rcases List.mem_cons.mp (I3.stkSub _ hm) with z | z
    · exact absurd I3.lt (by rw [z]; exact Nat.lt_irrefl _)
    · exact I3.nofs (Nat.le_refl _) z
  show wpAny _ _ (noteFrame (.ref a) ce) _ _ _
  rw [noteFrame_same (.ref a) c2]
  rw [hs] at fl
  refine HandSPX.looks_onZ Zc.steady hfr hf fl fun h1 hh up1 => ?_
  obtain ⟨m, hn, _⟩ := J.loc
  have hn : sI.heap.Ns ce.locals m := hn
  obtain ⟨k1, k2, k3, k4⟩ := hh
  have inB : ∀ o, sI.heap.get? ce.locals = some o → B.get? ce.locals = some o := fun o q => nb _ o q nC
  refine ⟨m, hn.at fun o q => k1 _ _ (inB o q), fun h' m' hm' sb => ?_⟩
  obtain ⟨oC, eC⟩ : ∃ o, sI.heap.get? ce.locals = some o := by
    obtain ⟨_, _, _, ho, _⟩ := hn
    exact ⟨_, ho⟩
  have eB := inB oC eC
  have aC : a ≠ ce.locals := fun z => by rw [z, eB] at k2; cases k2
  obtain ⟨B', b1, b2⟩ := restrict B fun b => decide (b ≠ ce.locals)
  have bo : ∀ b o, B'.get? b = some o → b ≠ ce.locals ∧ B.get? b = some o := fun b o q => by
    by_cases z : b = ce.locals
    · rw [b2 b (by simp [z])] at q; cases q
    · exact ⟨z, by rw [← b1 b (by simp [z])]; exact q⟩
  have bn : ∀ b, B.get? b = none → B'.get? b = none := fun b q => by
    cases q2 : B'.get? b with
    | none => rfl
    | some o => rw [(bo b o q2).2] at q; cases q
  have st' : B'.StaysIn h' := fun b o q => by
    obtain ⟨z1, z2⟩ := bo b o q
    rw [sb.2 b z1]
    exact k1 b o z2
  have nC2 : ce.locals ∉ frs (X.env :: X.outer) := by rw [← hs]; exact nC
  have ff' : h'.FunFrames B' (X.env :: X.outer) := ff_but (fun b hb => sb.2 b hb) bn nC2 k3
  obtain ⟨oe, vs, T, oT, ts, t1, t2, t3, t4, t5, t6, t7, t8, t9⟩ := k4
  have TC : T ≠ ce.locals := fun z => by rw [z, eB] at t5; cases t5
  have e1 : h'.get? a = some oe := (sb.2 a aC).trans t1
  have tr' : HandSPX.TracedZ h' B' a (Zc cls d) (rawInt X.env.locals) := ⟨oe, vs, T, oT, ts, e1, t2, t3, t4, bn T t5, t6, (sb.2 T TC).trans t7, t8, t9⟩
  -- the outer state without the exception and without the block's names
  have I7 : Inv X pins σ H' sI := I3.call' (ch := fp) J.os J.base J.hok J.bare fun b hb => ⟨(f3 b hb).2.2.2.1, (f3 b hb).2.1, (f3 b hb).2.2.2.2.1, (f3 b hb).2.2.2.2.2⟩
  obtain ⟨G, w1, w2⟩ := restrict sI.heap fun b => decide (b ≠ ce.locals)
  have go : ∀ b o, G.get? b = some o → b ≠ ce.locals ∧ sI.heap.get? b = some o := fun b o q => by
    by_cases z : b = ce.locals
    · rw [w2 b (by simp [z])] at q; cases q
    · exact ⟨z, by rw [← w1 b (by simp [z])]; exact q⟩
  have nH : H' ce.locals = none := J.free
  obtain ⟨f0, f1, f2, f4, f5, f6⟩ := I3.fpOk (b := ce.locals) (by rw [c1]; exact Nat.le_refl _) nH
  have I8 : Inv X pins σ H' { sI with heap := G, toks := sI.toks } := I7.turned (fun b o hb q => by rw [w1 b (by simp [hb])]; exact q) f0 f1 f4 f5 f6
  unfold PySem.passOn
  refine wpAny_bind (wpAny_field e1 t3 t4 ?_)
  rw [if_neg (by simp)]
  refine wpAny_bind (HandSPX.setFlight_anyZ (fr := ce.frame) st' ff' tr' fun h3 u1 u2 u3 u4 => ?_)
  rw [c2, hf] at u3
  refine wpAny_throw ?_
  refine tk _ _ ⟨a, B', _, pins, σ, H', cls, d, rfl, I8, fun b o q hb => ?_, fun b o q hnf => ?_, .inr (.inr ?_), na, os, ag, hw⟩
  · obtain ⟨z1, z2⟩ := go b o q
    rw [b1 b (by simp [z1])]
    exact nb b o z2 hb
  · obtain ⟨z1, z2⟩ := go b o q
    obtain ⟨sl1, y1⟩ := up b o z2 hnf
    obtain ⟨sl2, y2⟩ := up1 b _ y1 hnf
    have y3 : h'.get? b = some _ := (sb.2 b z1).trans y2
    obtain ⟨sl3, y4⟩ := u4 b _ y3 hnf
    exact ⟨sl3, y4⟩
  · rw [hs]
    exact ⟨u1, bn a k2, u2, u3⟩
/-- [e for x in it], e may let an error out; te is told the slots ahead of the block -/
theorem pe_lcE {elt tg iter : Expr} {own : List (Str × Nat)} {pos : Pos} {wi : TI} {g : TG} {te : L2.St → TE} (hc : X.calm = true) (hN : X.N.Nodup) (hs : X.stack = X.env :: X.outer) (hf : X.env.frame = some X.env.locals) (tk : Takes X W) (hi : PI X tg iter wi) (ok : BlkOk X.N X.env.scope scope own)
    (hg : ∀ (s : Shared) (H : Hp) (C : Addr) (cl : List (Str × Addr)) (fp : List Addr), PG (X.blk s H scope (compEnvC scope cl C X.env) fp) tg g)
    (he : ∀ (σ : L2.St) (s : Shared) (H : Hp) (C : Addr) (cl : List (Str × Addr)) (fp : List Addr) (pn : List (Addr × Obj)) (xe : Value → Shared → Prop), (∀ σ', PassesAt (L2.CX X.prog X.w) ((X.blk s H scope (compEnvC scope cl C X.env) fp).tr pn xe) σ' (fun cls d H' => W cls d σ H')) →
      PE ((X.blk s H scope (compEnvC scope cl C X.env) fp).tr pn xe) elt (te σ)) (hs0 : ∀ x, foldedSetIterable iter X.env x = pure x := by intro _; rfl) :
    PE X (.ListComp elt [⟨tg, iter, [], 0⟩] scope pos) (fun σ H Q => tLc wi g tYes (te σ) (own.map (·.2)) σ H Q) := by
  refine ⟨fun pins s σ H Q I h => ?_⟩
  rw [eval_ListComp]
  have cap : ∀ y ∈ scope.names, y.2 = .free → ∃ c, X.env.cells.lookup y.1 = some c := fun y hy e => (ok.free y hy e).elim (fun k => I.ok.has _ (.inl k)) fun k => I.ok.has _ (.inr k)
  refine comprehension_at (use := none) rfl hs0 (closure_ok cap) ok.kind (fun y hy e => by rw [ok.uniq y hy, e]) (thn (hi.run pins s σ H _ I h) fun xv s1 hx => thn hx fun itv s2 h2 => ?_)
  obtain ⟨it, fp, tn, J, H2, rfl, I2, T, st2, f2, q⟩ := h2
  refine wpAny_newObj_type (newEnv_comp ?_) (by show 0 ≤ sizeLine; decide)
  -- the new list at L
  obtain ⟨L, hL⟩ : ∃ L, L = s2.heap.objs.size := ⟨_, rfl⟩
  obtain ⟨r, hr⟩ : ∃ r : Shared, r = { s2 with heap := s2.heap.push { cls := .type "list", data := .seq ([] : List Value).toArray } } := ⟨_, rfl⟩
  obtain ⟨V0, ⟨m0, w0⟩, turn⟩ := q L (by rw [hL]; exact I2.hok.fresh (Nat.le_refl _))
  have Ir : Inv X pins σ (upd H2 L (.lst [])) r := by
    rw [hr, hL]
    exact I2.laid (t' := s2.toks) (fun b o e => Heap.get?_push_of_some _ e) (Nat.le_refl _) ⟨Nat.zero_le _, [], 0, .nil, Heap.get?_push_size _ rfl⟩
  have hrh : r.heap = s2.heap.push { cls := .type "list", data := .seq ([] : List Value).toArray } := by rw [hr]
  have fr : ∀ b ∈ fp, FpOk X pins (upd H2 L (.lst [])) b ∧ b < r.heap.objs.size := fun b hb => by
    obtain ⟨o, e, _⟩ := T.obj _ _ st2 b hb
    have lt := Heap.lt_size e
    refine ⟨⟨?_, (f2 b hb).2⟩, by rw [hrh, Heap.size_push]; exact Nat.lt_succ_of_lt lt⟩
    rw [upd_ne (by rw [hL]; exact Nat.ne_of_lt lt)]
    exact (f2 b hb).1
  have str : tn 0 r.heap := T.keep _ _ _ st2 fun b _ o e => by rw [hrh]; exact Heap.get?_push_of_some _ e
  have Ib := block_start Ir ok hN fr
  obtain ⟨ce, hce⟩ : ∃ ce, ce = compEnvC scope (cellsFrom (r.heap.objs.size + 1) scope.names (cloFrom X.env.cells scope.names [])) r.heap.objs.size X.env := ⟨_, rfl⟩
  have c1 : ce.locals = r.heap.objs.size := by rw [hce]; rfl
  have c2 : ce.frame = X.env.frame := by rw [hce]; rfl
  have pg := hg r (upd H2 L (.lst [])) r.heap.objs.size (cellsFrom (r.heap.objs.size + 1) scope.names (cloFrom X.env.cells scope.names [])) fp
  have pel := fun pn xe => he σ r (upd H2 L (.lst [])) r.heap.objs.size (cellsFrom (r.heap.objs.size + 1) scope.names (cloFrom X.env.cells scope.names [])) fp pn xe
  have ps := fun pn σ' => comp_passes (scope := scope) (fp := fp) Ir hs hf tk (fun b hb => (fr b hb).1) c1 c2 pn σ'
  rw [← hce] at Ib pg pel
  show codeAny _ _ (.compStart (.ListComp elt [⟨tg, iter, [], 0⟩] scope pos) 0 (.ref it) (.ref s2.heap.objs.size) (compEnvC scope (cellsFrom ((s2.heap.push { cls := .type "list", data := .seq ([] : List Value).toArray }).objs.size + 1) scope.names (cloFrom X.env.cells scope.names [])) (s2.heap.push { cls := .type "list", data := .seq ([] : List Value).toArray }).objs.size X.env))
    (compEnds (model X.prog X.w) X.A X.xe none (EP X pins σ Q) (.ref s2.heap.objs.size) (compEnvC scope (cellsFrom ((s2.heap.push { cls := .type "list", data := .seq ([] : List Value).toArray }).objs.size + 1) scope.names (cloFrom X.env.cells scope.names [])) (s2.heap.push { cls := .type "list", data := .seq ([] : List Value).toArray }).objs.size X.env))
    { s2 with heap := pushCells ((s2.heap.push { cls := .type "list", data := .seq ([] : List Value).toArray }).push { cls := .type "dict", data := .dict #[] }) scope.names }
  rw [← hrh, ← hce, ← hL]
  have er : ({ s2 with heap := pushCells (r.heap.push { cls := .type "dict", data := .dict #[] }) scope.names } : Shared) = { r with heap := pushCells (r.heap.push { cls := .type "dict", data := .dict #[] }) scope.names } := by rw [hr]
  rw [er]
  have stb : tn 0 ({ r with heap := pushCells (r.heap.push { cls := .type "dict", data := .dict #[] }) scope.names } : Shared).heap := T.keep _ _ _ str fun b _ o e => pushCells_keeps _ _ _ _ (Heap.get?_push_of_some _ e)
  have nfp : ∀ b ∈ fp, (upd H2 L (.lst [])) b = none := fun b hb => (fr b hb).1.1
  generalize ({ r with heap := pushCells (r.heap.push { cls := .type "dict", data := .dict #[] }) scope.names } : Shared) = sb at Ib stb ⊢
  have stat : ∀ {σ' : L2.St} {H' : Hp} {s' : Shared}, Inv (X.blk r (upd H2 L (.lst [])) scope ce fp) [] σ' H' s' → (∀ b ∈ fp, H' b = none) → ∀ b ∈ fp, FpOk (X.blk r (upd H2 L (.lst [])) scope ce fp) [] H' b := fun {σ' H' s'} I' hn b hb =>
    ⟨hn b hb, (I'.ok.exf b hb).1, I'.ok.exfs b hb, .inl hb, fun x c e => (I'.ok.exf b hb).2 x c e, fun p hp => absurd (show p ∈ ([] : List (Addr × Obj)) from hp) (by simp)⟩
  have loop : codeAny (model X.prog X.w) X.A (.compLoop (.ListComp elt [⟨tg, iter, [], 0⟩] scope pos) 0 (.ref it) (.ref L) ce) (compEnds (model X.prog X.w) X.A X.xe none (EP X pins σ Q) (.ref L) ce) sb := by
    refine compLoop_any (fun n s' => ∃ j H', Inv (X.blk r (upd H2 L (.lst [])) scope ce fp) [] (wipe σ (own.map (·.2))) H' s' ∧ tn j s'.heap ∧ (∀ b ∈ fp, H' b = none) ∧ V0 j n H') ?_ m0 ⟨0, _, Ib, stb, nfp, w0⟩
    rintro n s5 ⟨j, H5, I5, st5, n5, w5⟩
    rcases turn j n H5 w5 with ⟨stop, qq⟩ | ⟨go, Nx, hNx, step⟩
    · refine thnF (T.done (X.blk r (upd H2 L (.lst [])) scope ce fp) rfl rfl rfl hc j [] s5 _ H5 (fun _ _ => False) I5 (stat I5 n5) st5 stop) fun v s6 ⟨hv, I6⟩ => ?_
      subst hv
      have Io : Inv X pins σ H5 s6 := Ir.call' (ch := fp) I6.os I6.base I6.hok I6.bare fun b hb => ⟨(fr b hb).1.2.2.2.1, (fr b hb).1.2.1, (fr b hb).1.2.2.2.2.1, (fr b hb).1.2.2.2.2.2⟩
      have nC : H5 ce.locals = none := I6.free
      obtain ⟨m, hn, _⟩ := I6.loc
      obtain ⟨z0, z1, z2, z3, z4, z5⟩ := Ir.fpOk (b := ce.locals) (by rw [c1]; exact Nat.le_refl _) nC
      exact ⟨m, hn, fun h'' sm => ⟨.ref L, H5, Io.turned (t' := s6.toks) (fun b o hb e => (sm.2 b hb).trans e) z0 z1 z3 z4 z5, rfl, qq⟩⟩
    · refine thnF (T.item (X.blk r (upd H2 L (.lst [])) scope ce fp) rfl rfl rfl hc j [] s5 _ H5 (fun _ _ => False) I5 (stat I5 n5) st5 go) fun v s6 ⟨u, hv, h6⟩ => ?_
      subst hv
      refine thnF h6 fun _ s7 ⟨x, H7, I7, r7, y7, st7, n7⟩ => ?_
      refine thnF (pg.run _ s7 _ H7 x u _ (I7.pinned (stat I7 n7) (T.obj _ _ st7)) r7 (step x H7 y7)) fun _ s8 ⟨σ8, H8, I8, hw8, q8⟩ => ?_
      refine wpAny_pure ?_
      rw [if_pos rfl]
      have q8 : te σ σ8 H8 fun y H4 => ∃ acc, H4 L = some (.lst acc) ∧ acc.length < sizeLine ∧ Nx (upd H4 L (.lst (acc ++ [y]))) := by
        have z : tYes σ8 H8 fun b H3 => if b = true then te σ σ8 H3 fun y H4 => ∃ acc, H4 L = some (.lst acc) ∧ acc.length < sizeLine ∧ Nx (upd H4 L (.lst (acc ++ [y]))) else Nx H3 := q8
        exact z
      have PP := (pel _ _ (fun σ' => ps _ σ')).run [] s8 σ8 H8 _ (I8.toTry _) q8
      refine thn PP fun v s9 ⟨yv, H9, I9, r9, acc, hL9, hz9, nx⟩ => ?_
      have I9' := I9.ofTry I5.ok
      refine thnF (Q := fun _ s' => ∃ m, m < n ∧ ∃ j H', Inv (X.blk r (upd H2 L (.lst [])) scope ce fp) [] (wipe σ (own.map (·.2))) H' s' ∧ tn j s'.heap ∧ (∀ b ∈ fp, H' b = none) ∧ V0 j m H') (app_ok (X := X.blk r (upd H2 L (.lst [])) scope ce fp) I9' hL9 hz9 r9 fun s10 I10 => ?_) fun _ _ z => z
      obtain ⟨m', hm, w'⟩ := hNx _ nx
      have pin : ∀ b ∈ fp, ∀ o, s7.heap.get? b = some o → s10.heap.get? b = some o ∧ (upd H9 L (.lst (acc ++ [yv]))) b = none := fun b hb o e =>
        let z := I10.pin (b, o) (List.mem_append_right _ (List.mem_append_right _ (mem_pinsAt hb e)))
        ⟨z.1, z.2.1⟩
      refine ⟨m', hm, j + 1, _, (I10.unpinned (pins := [])).weak (by rw [← hw8, wipe_length]) (fun i v e => ?_), T.keep _ _ _ st7 fun b hb o e => (pin b hb o e).1, fun b hb => ?_, w'⟩
      · rw [← hw8] at e
        exact (wipe_some e).1
      · obtain ⟨o, e, _⟩ := T.obj _ _ st7 b hb
        exact (pin b hb o e).2
  exact codeAny_compStart_list loop (T.self X.A 0 _ _ _ stb loop)
end
end EL

/-! bodies that may raise: the base is fixed, so that what a raise owes can be told of it -/
namespace EL
open PySem PySem.Spec PyProof.Rows L2
variable [TabC]
section
variable {K : PySem.W.Frag} {B B0 : Hp} {ρ : List Sl} {P : Post} {t u : TS} {te : TE} {d x y : D} {ds es out : List D} {i : Nat}
def Wb (K : PySem.W.Frag) (B B0 : Hp) (t : TS) (ρ : List Sl) (P : Post) : Prop := ∀ (σ : L2.St) (H H0 : Hp), Rp K B B0 ρ σ H H0 → ∀ E : Ends, Meets K B B0 P E → t E σ H
theorem Wp.b (h : Wp K t ρ P) : Wb K B B0 t ρ P := fun σ H H0 r E m => h B B0 σ H H0 r E m
theorem wb_seq (h : Wb K B B0 t ρ { P with nx := fun ρ' => Wb K B B0 u ρ' P }) : Wb K B B0 (tSeq t u) ρ P := fun σ H H0 r E m =>
  h σ H H0 r _ ⟨fun ρ' σ' H' H0' k r' => k σ' H' H0' r' E m, m.rt, m.bk, m.ct, m.rg⟩
theorem wb_if {c : TT} {b : Bool} (h : EvT K c ρ b) (h1 : b = true → Wb K B B0 t ρ P) (h2 : b = false → Wb K B B0 u ρ P) : Wb K B B0 (tIfS c t u) ρ P := fun σ H H0 r E m =>
  h B B0 σ H H0 r _ fun H1 H01 w => by
    cases b with
    | true => rw [if_pos rfl]; exact h1 rfl σ H1 H01 (r.step w) E m
    | false => rw [if_neg Bool.false_ne_true]; exact h2 rfl σ H1 H01 (r.step w) E m
theorem wb_raise {C : Addr} {E : XK} (hx : ∀ H' H0', Wd B B0 H' H0' → E (.ref C) none H') : Wb K B B0 (tRaise0 C fun cls d _ H => E cls d H) ρ P := fun σ H H0 r _ _ => hx H H0 r.wd
/-- what may raise: if it comes through, ok holds and the value is d -/
def Eb (K : PySem.W.Frag) (B B0 : Hp) (te : TE) (ρ : List Sl) (ok : Prop) (d : D) : Prop := ∀ (σ : L2.St) (H H0 : Hp), Rp K B B0 ρ σ H H0 → ∀ Q : VK, (ok → ∀ v H' H0', Wd H H0 H' H0' → Dp K H0' v d → Q v H') → te σ H Q
theorem EvD.b (h : EvD K te ρ d) : Eb K B B0 te ρ True d := fun σ H H0 r Q q => h B B0 σ H H0 r Q (q trivial)
theorem wb_set {ok : Prop} (h : Eb K B B0 te ρ ok d) (k : ok → P.nx (ρ.set i (.dat d))) : Wb K B B0 (tAsg te (gName i)) ρ P := fun σ H H0 r E m =>
  h σ H H0 r _ fun o v H' H0' w kd => m.nx _ _ _ H0' (k o) ((r.step w).setD kd i)
theorem wb_ret {ok : Prop} (h : Eb K B B0 te ρ ok d) (k : ok → P.rt d) : Wb K B B0 (tRet te) ρ P := fun σ H H0 r E m =>
  h σ H H0 r _ fun o v H' H0' w kd => m.rt d v H' H0' (k o) (r.wd.trans w) kd
/-- a call of a def that may raise -/
theorem eb_callX {cls : Value} {Pre : List D → Prop} {res : List D → Option D} {E : L2.St → XK} {ta : TA} (h : EvC K ta ρ ds) (hp : Pre ds) {ok : Prop} (hr : ∀ e, res ds = some e → ok ∧ e = d) (hx : res ds = none → ∀ σ H' H0', Wd B B0 H' H0' → E σ cls none H') :
    Eb K B B0 (tCallS (spX K cls Pre res) E ta) ρ ok d := fun σ H H0 r Q q =>
  h B B0 σ H H0 r _ fun vs H1 H01 w k => ⟨H01, ds, w.sub, w.tb r.tab, k, hp, fun e he v H' H0' w2 kd => by
    obtain ⟨o, rfl⟩ := hr e he
    exact q o v H' H0' (w.trans w2) kd, fun e H' H0' w2 => hx e σ H' H0' ((r.wd.trans w).trans w2)⟩
/-- tuple([e for x in it]), e may raise: all come through, or an error -/
theorem eb_tupLc {wi : TI} {g : TG} {te : L2.St → TE} {vs is : List Nat} {good : Nat → Prop} (hi : Ev_It K wi ρ ds) (hsub : ∀ i ∈ is, i ∈ vs) (ho : out.length = ds.length)
    (hs : ∀ (i : Nat) (d e : D), ds[i]? = some d → out[i]? = some e → ∃ ρ2, Bd K g is d (wipeS ρ vs) ρ2 ∧ ∀ σ0, Eb K B B0 (te σ0) ρ2 (good i) e) (hl : ds.length < sizeLine) :
    Eb K B B0 (tCB (rTuple K) (tCons (fun σ H Q => tLc wi g tYes (te σ) vs σ H Q) tNil)) ρ (∀ i, i < ds.length → good i) (.tuple out) := fun σ H H0 r Q q =>
  hi B B0 σ H H0 r _ fun J H1 H01 w ok D nD => by
    refine ⟨fun i n H' => n = ds.length - i ∧ i ≤ ds.length ∧ (∀ j, j < i → good j) ∧ ∃ H0' acc, Wd H1 H01 H' H0' ∧ H' D = some (.lst acc) ∧ H0' D = none ∧ DpAll K H0' acc (out.take i), ⟨_, rfl, Nat.zero_le _, fun j hj => absurd hj (Nat.not_lt_zero j), H01, [], .dirty w.sub nD, upd_same, sub_none w.sub nD, .nil⟩, ?_⟩
    rintro i n H' ⟨rfl, hle, hgd, H0', acc, w1, e1, e0, k1⟩
    have r1 : Rp K B B0 (wipeS ρ vs) (wipe σ vs) H' H0' := rp_wipe ((r.step w).step w1) vs
    obtain ⟨ok1, ok2⟩ := ok i H' H0' w1.e0 w1.sub
    by_cases hlt : i < ds.length
    · obtain ⟨go, yl⟩ := ok2 ds[i] (List.getElem?_eq_getElem hlt)
      have hlo : i < out.length := by omega
      obtain ⟨ρ2, hb, hf⟩ := hs i ds[i] out[i] (List.getElem?_eq_getElem hlt) (List.getElem?_eq_getElem hlo)
      have tk : out.take (i + 1) = out.take i ++ [out[i]] := by rw [List.take_add_one, List.getElem?_eq_getElem hlo]; rfl
      refine .inr ⟨go, fun H2 => (∀ j, j < i + 1 → good j) ∧ ∃ H02 acc, Wd H1 H01 H2 H02 ∧ H2 D = some (.lst acc) ∧ H02 D = none ∧ DpAll K H02 acc (out.take (i + 1)), fun H2 ⟨a0, a, b, z⟩ => ⟨ds.length - (i + 1), by omega, rfl, hlt, a0, a, b, z⟩, fun x H2 hy => ?_⟩
      obtain ⟨H02, w2, k2⟩ := yl x H2 hy
      refine hb B B0 _ H2 H02 x (r1.step w2) k2 _ fun σ2 r2 e2 => ⟨by rw [e2 vs hsub, wipe_twice], ?_⟩
      have e3 : H2 D = some (.lst acc) := w2.e.lst e1
      have z3 : H02 D = none := w2.stay0 e1 e0
      unfold tYes
      dsimp only
      rw [if_pos rfl]
      refine hf σ σ2 H2 H02 r2 _ fun og v H4 H04 w4 k4 => ⟨acc, w4.e.lst e3, ?_, fun j hj => ?_, H04, acc ++ [v], ?_, upd_same, w4.stay0 e3 z3, ?_⟩
      · rw [dpa_len k1, List.length_take]
        omega
      · by_cases z : j = i
        · rw [z]; exact og
        · exact hgd j (by omega)
      · have w5 := (w1.trans w2).trans w4
        refine ⟨w5.e.own (κ := none) (κ' := none) nD (w4.e.lst e3), w5.e0, fun b o hb => ?_, w5.new, fun t => (w5.tb t).own (κ := none) (κ' := none) (w4.e.lst e3)⟩
        rw [upd_ne (ne_of_none hb (w4.stay0 e3 z3))]
        exact w5.sub b o hb
      · rw [tk]
        exact dpa_app (dpa_mono (w2.trans w4).e0 k1) (.cons k4 .nil)
    · have e : i = ds.length := by omega
      subst e
      rw [List.take_of_length_le (by omega)] at k1
      refine .inl ⟨ok1 (Nat.le_refl _), D, acc, rfl, .inl ⟨.of e1, fun p np => ?_⟩⟩
      have wz := w.trans w1
      refine q hgd _ _ (upd H0' p (.tup acc)) (wz.trans (.clean w1.sub np)) (.tup (.of upd_same) (dpa_mono (same_new (sub_none w1.sub np)) k1))
/-- fn_okX, the body told by Wb -/
theorem fn_okB {Pg : Program} {w : World} {mg : Str → Option Value} {base : Heap} {x qual : Str} {st : Stmt} {f : Addr} {fd : FuncData} {N ps : List Str} {k : Nat} {cls : Value} {Pre : List D → Prop} {res : List D → Option D}
    (F : Fun K x qual st f fd) (S : FnScope N ps (defScope st)) (len : ∀ ds, Pre ds → ds.length = ps.length)
    (body : ∀ (cdv : Value) (A : Around) (outer : List Env) (s : Shared) (H : Hp) (E : XK) (ds : List D), Room k (A.deeper (envOfC qual (defScope st) s.heap.objs.size f cdv)) → Pre ds →
      ∃ t, PSs (cxOf (L2.CX Pg w) Pg w K mg base N qual (defScope st) f cdv A outer s H E) (defBody st) t ∧
        ∀ H0, (res ds = none → ∀ H' H0', Wd H H0 H' H0' → E cls none H') → Wb K H H0 t (initS N ds) { nx := fun _ => res ds = some .none, rt := fun d => res ds = some d }) :
    FnOk Pg w K mg base (L2.CX Pg w) (k + 1) f fd ps (spX K cls Pre res) := by
  refine F.okX S (fun vs H Q E h => ?_) fun cdv A outer s H vs Q E hr h => ?_
  · obtain ⟨H0, ds, s1, tb, k1, hp, _⟩ := h
    rw [dpa_len k1]; exact len ds hp
  · obtain ⟨H0, ds, s1, tb, k1, hp, q, qe⟩ := h
    obtain ⟨t, pt, wt⟩ := body cdv A outer s H E ds hr hp
    exact ⟨t, pt, wt H0 qe _ H H0 (rp_init s1 tb k1) _ ⟨fun ρ σ H' H0' e r => q _ e _ H' H0' r.wd .non, fun d v H' H0' e wd kd => q d e v H' H0' wd kd, fun _ _ _ _ z => z.elim, fun _ _ _ _ z => z.elim, fun _ _ _ _ z => z.elim⟩⟩
end
/-- the call within the block of a comprehension -/
theorem pe_calP {X : Cx} {E : L2.St → XK} {x : Str} {ps : List Str} {k : Nat} {sp : Sp} {e : Expr} {es : List Expr} {t : TA} {p pos : Pos} (c : CalX X.prog X.w X.K X.mg X.base x ps k sp) (hx : ∀ σ', PassesAt (L2.CX X.prog X.w) X σ' (E σ')) (hr : Room k X.A) (ha : PA X (e :: es) t) (hg : Gl X x := by rfl)
    (hdb : (x == ("__debug__" : Str)) = false := by decide) (he : starEach (e :: es) X.env = (false, eval e X.env) :: starEach es X.env := by rfl) (hpl : (backTo pos (starEach es X.env)).any (·.1) = false := by rfl) :
    PE X (.Call (.Name x p) (e :: es) [] pos) (tCallS sp E t) := by
  obtain ⟨f, fd, F, hm, hk, hb⟩ := c.ex
  exact pe_callS F hr hg hm hk hb hx ha hdb he hpl
end EL

/-! tuple(reversed(t)), t a tuple -/
namespace ET
open PySem PySem.Spec PySem.Calls PyProof.Rows L2 RT
theorem nolen : typeLookup (.type "reversed") "__len__" = pure none := by rw [typeLookup_type, builtinLookup_eq_fast]; kernel_rfl
theorem hint : typeLookup (.type "reversed") "__length_hint__" = pure (some (.builtin "reversed.__length_hint__")) := by rw [typeLookup_type, builtinLookup_eq_fast]; kernel_rfl
theorem slot_h : Slot "reversed" "__length_hint__" "reversed.__length_hint__" :=
  .of (owner := "reversed") (n := "__length_hint__") hint (by decide +kernel) (by decide +kernel) (by decide +kernel) (by first | exact .inl (by decide +kernel) | exact .inr (by decide +kernel)) (by rw [isSubtype_type]; kernel_rfl)
theorem entry_h : entryFor table "reversed.__length_hint__" = some Builtin.«reversed.__length_hint__» := entryFor_of_tree (by kernel_rfl)
theorem args_h (a : Value) : argsOk "reversed.__length_hint__" ⟨[a], []⟩ := by
  unfold argsOk
  rw [signature?_of (id := "reversed.__length_hint__") (n := ['_', '_', 't', 'n', 'i', 'h', '_', 'h', 't', 'g', 'n', 'e', 'l', '_', '_']) (o := ['d', 'e', 's', 'r', 'e', 'v', 'e', 'r']) (by kernel_rfl) owner_rt]
  kernel_rfl
section
variable {prog : Program} {w : World} {A : Around} {E : Value → Shared → Prop} {s : Shared} {it t : Addr} {its : Array Value}
theorem tup_at {h h' : Heap} (c : IsTup h t its) (k : ∀ o, h.get? t = some o → h'.get? t = some o) : IsTup h' t its := let ⟨o, a, b⟩ := c; ⟨o, k o a, b⟩
theorem walks_rt (hh : A.handled = none) (hsz : its.size ≤ sizeLine) (hne : t ≠ it) : Walks prog w A it [it, t] [it] its.size (fun j v => its[its.size - 1 - j]? = some v) (fun j h => j ≤ its.size ∧ IsRt h it t ((its.size : Int) - 1 - (j : Int)) ∧ IsTup h t its) where
  sub := fun b hb => by cases List.mem_singleton.mp hb; exact List.mem_cons_self
  frame := fun j h h' ⟨a, b, c⟩ k => ⟨a, b.at (k it (by simp)), tup_at c (k t (by simp))⟩
  item := fun j s Q E hj ⟨_, b, c⟩ hQ => by
    obtain ⟨v, hv⟩ : ∃ v, its[its.size - 1 - j]? = some v := ⟨_, Array.getElem?_eq_getElem (by omega)⟩
    have e : (its.size : Int) - 1 - (j : Int) = ((its.size - 1 - j : Nat) : Int) := by omega
    rw [e] at b
    refine next_rt_item b c hv hsz fun h' b' eb => ?_
    have e2 : ((its.size - 1 - j : Nat) : Int) - 1 = (its.size : Int) - 1 - ((j + 1 : Nat) : Int) := by omega
    rw [e2] at b'
    exact hQ v h' _ hv ⟨by omega, b', tup_at c fun o q => (eb.2 t hne).trans q⟩ fun b o hb q => (eb.2 b (fun z => hb (by simp [z]))).trans q
  done := fun s Q E ⟨_, b, c⟩ hQ => by
    have e : (its.size : Int) - 1 - ((its.size : Nat) : Int) = -1 := by omega
    rw [e] at b
    exact next_rt_end hh b fun h' eb => hQ h' s.toks fun b o hb q => eb b o (fun z => hb (by simp [z])) q
  self := fun j s Q E ⟨_, b, _⟩ h => iter_rt b h
theorem collect_rt {Q : List Value → Shared → Prop} (hh : A.handled = none) (hit : IsRt s.heap it t ((its.size : Int) - 1)) (ht : IsTup s.heap t its) (hne : t ≠ it) (hsz : its.size ≤ sizeLine)
    (hQ : ∀ (h' : Heap) (tk : Nat) (acc : Array Value), (∀ b o, b ≠ it → s.heap.get? b = some o → h'.get? b = some o) → ItemsOf (fun j v => its[its.size - 1 - j]? = some v) acc its.size → Q acc.toList { s with heap := h', toks := tk }) : wpAny (model prog w) A (collect (.ref it)) Q E s := by
  have WW := (walks_rt (prog := prog) (w := w) (A := A.in1) hh hsz hne).toS
  obtain ⟨o1, g1, _⟩ := id hit
  obtain ⟨o2, g2, _⟩ := id ht
  have n1 : s.heap.objs.size ≠ it := Nat.ne_of_gt (Heap.lt_size g1)
  have n2 : s.heap.objs.size ≠ t := Nat.ne_of_gt (Heap.lt_size g2)
  have nS : s.heap.objs.size ∉ [it, t] := by simp only [List.mem_cons, List.not_mem_nil, or_false, not_or]; exact ⟨n1, n2⟩
  unfold collect
  refine wpAny_bind (wpAny_runValue (codeAny_builtin F.entry_proto_collect ?_))
  rw [Around.under_plainId F.plain_proto_collect _]
  show wpAny _ A.in1 (newList [] >>= fun x => again (.builtin "list.__iadd__" ⟨[x, .ref it], []⟩)) _ _ s
  refine wpAny_bind (wpAny_newObj_type ?_)
  refine wpAny_pure ⟨plainId_quiet F.plain_list_iadd _, codeAny_builtin F.entry_list_iadd ?_⟩
  rw [Around.under_plainId F.plain_list_iadd _]
  obtain ⟨r, hr⟩ : ∃ r : Shared, r = { s with heap := s.heap.push { cls := .type "list", data := .seq ([] : List Value).toArray } } := ⟨_, rfl⟩
  have kp : ∀ b o, s.heap.get? b = some o → r.heap.get? b = some o := fun b o q => by rw [hr]; exact Heap.get?_push_of_some _ q
  have rL : r.heap.get? s.heap.objs.size = some { cls := .type "list", data := .seq ([] : List Value).toArray } := by rw [hr]; exact Heap.get?_push_size _ rfl
  have rI := hit.at (h' := r.heap) fun o q => kp _ _ q
  have rT := tup_at (h' := r.heap) ht fun o q => kp _ _ q
  have hT : r.TypeIs (.ref it) "reversed" := IsRt.typeIs rI
  have ns : Builtin.List.listSameRef (.ref s.heap.objs.size) (.ref it) = false := by simp [Builtin.List.listSameRef, n1]
  show wpAny _ A.in1 (Builtin.List.listExtendWith (.ref s.heap.objs.size) (.ref it) (.ref s.heap.objs.size)) _ _ { s with heap := s.heap.push { cls := .type "list", data := .seq ([] : List Value).toArray } }
  rw [← hr]
  unfold Builtin.List.listExtendWith
  refine wpAny_bind (wpAny_typeOf hT ?_)
  rw [if_neg (by rw [ns]; decide)]
  refine wpAny_bind (iter_rt rI ?_)
  refine wpAny_bind (wpAny_holding ?_)
  unfold Builtin.List.listLengthHint
  refine wpAny_bind (wpAny_specialOf hT nolen ?_)
  show wpAny _ A.in1 (specialOf (Value.ref it) (Str.ofString "__length_hint__") >>= _) _ _ _
  refine wpAny_bind (wpAny_specialOf hT hint ?_)
  generalize hid : ("reversed.__length_hint__" : String) = nm
  wp_delta
  rw [show splitId nm = some ("reversed", "__length_hint__") from by subst hid; decide +kernel]
  subst hid
  refine wpAny_bind (wpAny_isInstance (b := true) hT (by rw [isSubtype_type]; kernel_rfl) ?_)
  rw [if_neg (by decide)]
  dsimp only
  rw [if_neg (by decide +kernel)]
  refine wpAny_bind (wpAny_rule ?_)
  rw [slot_h.bind]
  refine wpAny_bind (wpAny_pure ?_)
  dsimp only
  obtain ⟨oi, oi1, _, oi2⟩ := id rI
  refine wpAny_bind (wpAny_attempt (wpAny_call_entry slot_h hT entry_h ?_ (args_h _)))
  unfold Builtin.«reversed.__length_hint__»
  refine wpAny_bind (wpAny_of_eq (a := Value.ref it) rfl ?_)
  refine wpAny_bind (wpAny_field oi1 oi2 (x := .ref t) rfl ?_)
  rw [if_neg (by simp)]
  refine wpAny_bind (len_tuple rT (by have := sizeLine_eq; omega) ?_)
  refine wpAny_bind (wpAny_of_eq (a := some ((its.size : Nat) : Int)) rfl ?_)
  dsimp only
  refine wpAny_bind (wpAny_field oi1 oi2 (x := rawInt ((its.size : Int) - 1)) rfl ?_)
  show wpAny _ _ (if ((its.size : Nat) : Int) < ((its.size : Int) - 1) + 1 then _ else retInt (((its.size : Int) - 1) + 1)) _ _ _
  rw [if_neg (by omega)]
  refine wpAny_ret_mkInt ?_
  dsimp only
  have ez : ((its.size : Int) - 1) + 1 = ((its.size : Nat) : Int) := by omega
  rw [ez]
  generalize hnn : ((its.size : Nat) : Int) = nn at *
  have q0 : ∀ tk, asInt? (Value.int nn tk) = pure (some nn) := fun _ => rfl
  rw [q0]
  refine wpAny_bind (wpAny_pure ?_)
  dsimp only
  have hz := sizeLine_eq
  have q1 : Builtin.List.listFitsIndex nn = true := by unfold Builtin.List.listFitsIndex; simp; omega
  rw [if_neg (by rw [q1]; decide)]
  try dsimp only
  rw [if_neg (by omega)]
  try dsimp only
  have q2 : Builtin.List.listTooLong nn.toNat = false := by unfold Builtin.List.listTooLong; simp; omega
  rw [if_neg (by rw [q2]; decide)]
  try dsimp only
  refine wpAny_pure ?_
  subst hnn
  have e0 : ((its.size : Nat) : Int) - 1 - ((0 : Nat) : Int) = (its.size : Int) - 1 := by omega
  have last : ∀ (s' : Shared) (acc : Array Value), s' = { s with heap := s'.heap, toks := s'.toks } → (∀ b o, b ∉ [s.heap.objs.size, it] → r.heap.get? b = some o → s'.heap.get? b = some o) → ItemsOf (fun j v => its[its.size - 1 - j]? = some v) acc its.size → Q acc.toList s' := fun s' acc es kk ha => by
    rw [es]
    refine hQ s'.heap s'.toks acc (fun b o hb q => kk b o (fun z => ?_) (kp b o q)) ha
    rcases List.mem_cons.mp z with z | z
    · exact absurd (Heap.lt_size q) (by rw [z]; exact Nat.lt_irrefl _)
    · exact hb (List.mem_singleton.mp z)
  by_cases hz0 : its.size = 0
  · rw [if_neg (by rw [hz0]; decide +kernel)]
    refine wpAny_pure ⟨plainId_quiet F.plain_extend_loop _, codeAny_extend_loopS WW hsz _ nS _ its.size 0 _ _ _ rfl (Nat.zero_le _) ⟨Nat.zero_le _, by rw [e0]; exact rI, rT⟩ rL (ItemsOf.nil _) fun s' acc c' hm hS' ha => ?_⟩
    show wpAny _ A (load s.heap.objs.size >>= _) _ _ s'
    refine wpAny_bind (wpAny_load hS' (wpAny_pure (last s' acc ?_ (fun b o hb q => hm.heap b o hb q) ha)))
    have em := Moved.eq_with hm
    rw [hr] at em
    exact em
  · rw [if_pos (by simp [hz0])]
    refine wpAny_bind (wpAny_rule ?_)
    refine wpAny_bind ?_
    show wpAny _ A.in1 (updateSeq s.heap.objs.size (·.push .none) >>= fun _ => updateSeq s.heap.objs.size (·.pop)) _ _ _
    have one : 1 ≤ sizeLine := by rw [sizeLine_eq]; decide
    refine wpAny_bind (wpAny_updateSeq rL rfl ?_ (Nat.zero_le _) (by show 1 ≤ sizeLine + 1; exact Nat.le_succ_of_le one))
    have u2 := Heap.get?_update_self (Obj.mapSeq (·.push Value.none)) rL rfl
    refine wpAny_updateSeq u2 rfl ?_ (by show 1 ≤ sizeLine; exact one) (Nat.zero_le _)
    have u3 := Heap.get?_update_self (Obj.mapSeq (·.pop)) u2 rfl
    have oth : ∀ b o, b ≠ s.heap.objs.size → r.heap.get? b = some o → ((r.heap.update s.heap.objs.size (Obj.mapSeq (·.push Value.none))).update s.heap.objs.size (Obj.mapSeq (·.pop))).get? b = some o := fun b o hb q =>
      (Heap.get?_update_other _ _ (Ne.symm hb)).trans ((Heap.get?_update_other _ _ (Ne.symm hb)).trans q)
    refine wpAny_pure ⟨plainId_quiet F.plain_extend_loop _, codeAny_extend_loopS WW hsz _ nS _ its.size 0 _ _ _ rfl (Nat.zero_le _) ⟨Nat.zero_le _, by rw [e0]; exact rI.at fun o q => oth it o (Ne.symm n1) q, tup_at rT fun o q => oth t o (Ne.symm n2) q⟩ u3 (ItemsOf.nil _) fun s' acc c' hm hS' ha => ?_⟩
    show wpAny _ A (load s.heap.objs.size >>= _) _ _ s'
    refine wpAny_bind (wpAny_load hS' (wpAny_pure (last s' acc ?_ (fun b o hb q => hm.heap b o hb (oth b o (fun z => hb (z ▸ List.mem_cons_self)) q)) ha)))
    have em := Moved.eq_with hm
    rw [hr] at em
    exact em
theorem code_tupleRt {Q1 : Value → Shared → Prop} (hh : A.handled = none) (hit : IsRt s.heap it t ((its.size : Int) - 1)) (ht : IsTup s.heap t its) (hne : t ≠ it) (hsz : its.size ≤ sizeLine)
    (h : ∀ (h' : Heap) (tk : Nat) (acc : Array Value), (∀ b o, b ≠ it → s.heap.get? b = some o → h'.get? b = some o) → ItemsOf (fun j v => its[its.size - 1 - j]? = some v) acc its.size → Q1 (.ref h'.objs.size) { s with heap := h'.push { cls := .type "tuple", data := .seq acc }, toks := tk }) :
    codeAny (model prog w) A (.call (.builtin "tuple.__new__") ⟨[.type "tuple", .ref it], []⟩) (wants Q1 E) s := by
  refine codeAny_of_tree ?_
  show wpAny _ A.in1 (do checkBuiltinCall "tuple.__new__" ⟨[.type "tuple", .ref it], []⟩; again (.builtin "tuple.__new__" ⟨[.type "tuple", .ref it], []⟩)) _ _ s
  refine wpAny_bind (wpAny_of_eq (F.newCall_tuple_1 _) (wpAny_pure ⟨plainId_quiet F.plain_tuple_new _, codeAny_builtin F.entry_tuple_new ?_⟩))
  rw [Around.under_plainId F.plain_tuple_new _]
  have q1 := sub_tuple_self
  have q2 := init_tuple_lookup
  have q3 := madeHere_tuple
  have q4 : s.TypeIs (.ref it) "reversed" := IsRt.typeIs hit
  have q5 : A.in1.handled = none := hh
  wp_walk using wpAny_typeOf q4, collect_rt (A := A.in1) q5 hit ht hne hsz
  intro h' tk acc hk ha
  show wpAny _ _ (Builtin.Tuple.tupleExact acc.toList.toArray >>= fun v => ret v) _ _ _
  unfold Builtin.Tuple.tupleExact
  refine wpAny_bind (wpAny_newObj_type ?_ (by show acc.toList.toArray.size ≤ sizeLine; simp only [Array.toArray_toList]; rw [ha.1]; exact hsz))
  refine wpAny_pure ?_
  have e : acc.toList.toArray = acc := by simp
  rw [e]
  exact h h' tk acc hk ha
theorem call_tupleRt {Q : Value → Shared → Prop} (hh : A.handled = none) (hit : IsRt s.heap it t ((its.size : Int) - 1)) (ht : IsTup s.heap t its) (hne : t ≠ it) (hsz : its.size ≤ sizeLine)
    (hQ : ∀ (h' : Heap) (tk : Nat) (acc : Array Value), (∀ b o, b ≠ it → s.heap.get? b = some o → h'.get? b = some o) → ItemsOf (fun j v => its[its.size - 1 - j]? = some v) acc its.size → Q (.ref h'.objs.size) { s with heap := h'.push { cls := .type "tuple", data := .seq acc }, toks := tk }) :
    wpAny (model prog w) A (call (.type "tuple") [.ref it]) Q E s := by
  refine callType_codes (Q₁ := fun x r => r.TypeIs x "tuple" ∧ Q x r) F.called_tuple (F.typeCall_tuple_1 _) F.entry_object_init
    (code_tupleRt (A := A.in1) hh hit ht hne hsz fun h' tk acc hk ha => ⟨⟨_, Heap.get?_push_size _ rfl, rfl⟩, hQ h' tk acc hk ha⟩) fun x r hx => ?_
  exact ⟨hx.1, F.args_object_init_2 x _, object_init_meets F.called_tuple.init.lookup F.called_tuple.made (by decide) prog w A.in1 _ r ⟨hx.1, rfl, hx.2⟩⟩
end
section
variable {X : Cx}
def tTupRevT (K : PySem.W.Frag) (te : TE) : TE := fun σ H Q => te σ H fun v H1 => ∃ (a : Addr) (xs : List V), v = .ref a ∧ SqT K H1 a xs ∧ ∀ p, H1 p = none → Q (.ref p) (upd H1 p (.tup xs.reverse))
theorem pe_tupRevT {e : Expr} {te : TE} {p p2 pos pos2 : Pos} (hc : X.calm = true) (hg : Gl X "tuple") (hm : X.mg "tuple" = none) (hg2 : Gl X "reversed") (hm2 : X.mg "reversed" = none) (he : PE X e te)
    (hs : starEach [e] X.env = (false, eval e X.env) :: starEach [] X.env := by rfl)
    (hs2 : starEach [.Call (.Name "reversed" p2) [e] [] pos2] X.env = (false, eval (.Call (.Name "reversed" p2) [e] [] pos2) X.env) :: starEach [] X.env := by rfl) :
    PE X (.Call (.Name "tuple" p) [.Call (.Name "reversed" p2) [e] [] pos2] [] pos) (tTupRevT X.K te) := by
  refine ⟨fun pins s σ H Q I h => ?_⟩
  refine Call_ (ld_blt I hg hm boot_tuple (PyProof.Rows.callWith_type1 (args_cons (Call_ (ld_blt I hg2 hm2 PyProof.Rows.boot_reversed (PyProof.Rows.callWith_type1 (args_cons (thn (he.run pins s σ H _ I h) fun u s1 ⟨v, H1, I1, r1, q1⟩ => args_nil ?_) hs) hs rfl))) hs2) hs2 rfl))
  obtain ⟨a, xs, rfl, hq, q⟩ := q1
  obtain rfl : u = Value.ref a := r1
  obtain ⟨its, rv, pt, hz⟩ := I1.tuple hq
  have hlen := rv.length
  have hline := line63
  refine call_reversed_tup pt (fun A E Q k => len_tuple pt (by simp only [List.size_toArray] <;> omega) k) (args_nil ?_)
  have I2 : Inv X pins σ H1 { s1 with heap := s1.heap.push (rtObj a ((its.toArray.size : Int) - 1)), toks := s1.toks + 1 + 1 } := I1.kept (t' := s1.toks + 1 + 1) fun b o z => Heap.get?_push_of_some _ z
  obtain ⟨f0, f1, f2, f3, f4, f5⟩ := I1.fpOk (H' := H1) (b := s1.heap.objs.size) (Nat.le_refl _) (I1.hok.fresh (Nat.le_refl _))
  obtain ⟨o2, g2, _⟩ := id pt
  have hne : a ≠ s1.heap.objs.size := Nat.ne_of_lt (Heap.lt_size g2)
  have hn : its.toArray.size ≤ sizeLine := by rw [List.size_toArray, ← hlen]; exact hz
  refine call_tupleRt (its := its.toArray) (I2.ok.hd hc) ⟨_, Heap.get?_push_size _ rfl, rfl, rfl⟩ (tup_at pt fun o z => Heap.get?_push_of_some _ z) hne hn fun h' tk acc hk ha => ?_
  have I3 : Inv X pins σ H1 { s1 with heap := h', toks := tk } := I2.turned (t' := tk) hk f0 f1 f3 f4 f5
  exact ⟨.ref h'.objs.size, upd H1 h'.objs.size (.tup xs.reverse), I3.laid (t' := tk) (fun b o z => Heap.get?_push_of_some _ z) (Nat.le_refl _) (show ObjOk X.prog X.w _ _ _ (.tup xs.reverse) from ⟨by rw [List.length_reverse]; exact hz, acc.toList, vals_rev rv ha, by rw [Array.toArray_toList]; exact IsTup.new _ _⟩), rfl, q _ (I3.hok.fresh (Nat.le_refl _))⟩
end
end ET

namespace ET
open PySem PySem.Spec PySem.Calls PyProof.Rows L2 SrtO
section
variable {prog : Program} {w : World} {A : Around} {E : Value → Shared → Prop} {s : Shared}
/-- sorted(t), t a tuple -/
theorem sorted_tupO {t : Addr} {vs : List Value} {ltv : Value → Value → Bool} {Q : Value → Shared → Prop} (O : Swo ltv) (ht : IsTup s.heap t vs.toArray) (hz : vs.length ≤ sizeLine)
    (hS : 2 ≤ vs.length → ∀ (h₁ : Heap) (a : Addr), h₁.get? a = some (seqObj "list" vs.toArray 0) → (∀ b o, s.heap.get? b = some o → b ≠ a ∧ h₁.get? b = some o) → SortableO prog w A.in1.in1 { s with heap := h₁ } a vs ltv)
    (h : ∀ (h1 h' : Heap) (d : Addr) (out : List Value), Srtd ltv out → Stb ltv out vs → (∀ b o, s.heap.get? b = some o → h1.get? b = some o) → (∀ b o, h1.get? b = some o → h'.get? b = some o) → h1.objs.size ≤ d → (∃ n, h'.get? d = some (seqObj "list" out.toArray n)) → Q (.ref d) { s with heap := h' }) :
    wpAny (model prog w) A (call (.builtin "sorted") [.ref t]) Q E s := by
  obtain ⟨o, g1, g2, n, g3⟩ := ht
  refine Calls.call_function_entry kind_sorted plain_sorted entry_sorted (args_sorted1 _) ?_
  unfold Builtin.«sorted»
  refine wpAny_bind (m := checkCount "sorted" 1 1 _) (wpAny_pure ?_)
  refine wpAny_bind (wpAny_collect_seq t (.inr rfl) g1 g2 g3 (fun h1 k1 => ?_) (by rw [List.size_toArray]; exact hz))
  have ev : vs.toArray.toList = vs := by simp
  rw [ev]
  refine wpAny_bind (wpAny_newList ?_ hz)
  have hnew : (h1.push (seqObj "list" vs.toArray 0)).get? h1.objs.size = some (seqObj "list" vs.toArray 0) := Heap.get?_push_size _ rfl
  have old : ∀ b u, h1.get? b = some u → b ≠ h1.objs.size ∧ (h1.push (seqObj "list" vs.toArray 0)).get? b = some u := fun b u q => ⟨Nat.ne_of_lt (Heap.lt_size q), Heap.get?_push_of_some _ q⟩
  show wpAny _ _ _ _ _ { s with heap := h1.push (seqObj "list" vs.toArray 0) }
  refine wpAny_bind (wpAny_holding (wpAny_call_entry slot_list_sort ⟨_, hnew, rfl⟩ entry_list_sort (list_sort_ord O hnew hz (fun h2 => hS h2 _ _ hnew fun b u q => old b u (k1 b u q)) fun out hs hb => ⟨_, rfl, ?_⟩) (args_list_sort _)))
  refine wpAny_pure ⟨_, rfl, h h1 _ _ out hs hb k1 (fun b u q => ?_) (Nat.le_refl _) (sortedHeap_at hnew)⟩
  obtain ⟨z1, z2⟩ := old b u q
  rw [sortedHeap_old z1 (Heap.lt_size z2)]
  exact z2
theorem sorted_pairsT {t : Addr} {vs : List Value} {k : Value → Int × Int} {Q : Value → Shared → Prop} (ht : IsTup s.heap t vs.toArray) (hz : vs.length ≤ sizeLine) (hp : ∀ v ∈ vs, Srt.IsPair s.heap v (k v).1 (k v).2)
    (h : ∀ (h1 h' : Heap) (d : Addr) (out : List Value), Srtd (fun v u => lexB (k v) (k u)) out → Stb (fun v u => lexB (k v) (k u)) out vs → (∀ b o, s.heap.get? b = some o → h1.get? b = some o) → (∀ b o, h1.get? b = some o → h'.get? b = some o) → h1.objs.size ≤ d → (∃ n, h'.get? d = some (seqObj "list" out.toArray n)) → Q (.ref d) { s with heap := h' }) :
    wpAny (model prog w) A (call (.builtin "sorted") [.ref t]) Q E s := by
  refine sorted_tupO (swo_lex k) ht hz (fun h2 h₁ a ha kk => ?_) h
  refine pairs_sortableO (s := { s with heap := h₁ }) (by omega) (fun v hm => (hp v hm).keeps fun b o q _ => (kk b o q).2) fun o q => ?_
  have q' : some o = some (seqObj "list" vs.toArray 0) := q.symm.trans ha
  cases q'
  intro c
  exact absurd (Value.type.inj c) (by decide)
end
end ET
namespace EL
open PySem PySem.Spec PyProof.Rows L2
variable [TabC]
variable {K : PySem.W.Frag}
def rSortPT (K : PySem.W.Frag) : List V → Hp → VK → Prop := fun vs H Q => ∃ (H0 : Hp) (a : Addr) (xs : List V) (ps : List (Int × Int)), vs = [V.ref a] ∧ Same H0 H ∧ SqT K H a xs ∧ DpAll K H0 xs (ps.map encP) ∧
  ∀ ys p, DpAll K H0 ys ((sortP ps).map encP) → H p = none → Q (.ref p) (upd H p (.lst ys))
theorem cr_sortPT {X : Cx} : CallR X (.builtin "sorted") (rSortPT X.K) := by
  intro pins s σ H vs us Q I r h
  obtain ⟨H0, a, xs, ps, rfl, sub, hs, hd, q⟩ := h
  have hpair : ∀ x ∈ xs, Dp X.K H0 x (encP (keyV X.K H0 x)) := fun x hx => by
    obtain ⟨d, h1, h2⟩ := dpa_mem hd x hx
    obtain ⟨p, _, rfl⟩ := List.mem_map.mp h1
    exact keyV_ok h2
  have hkeys : xs.map (keyV X.K H0) = ps := by
    have go : ∀ {vs : List V} {qs : List (Int × Int)}, DpAll X.K H0 vs (qs.map encP) → vs.map (keyV X.K H0) = qs := by
      intro vs
      induction vs with
      | nil =>
        intro qs h
        cases qs with
        | nil => rfl
        | cons _ _ => cases h
      | cons v vs ih =>
        intro qs h
        cases qs with
        | nil => cases h
        | cons p qs =>
          cases h with
          | cons a b =>
            rw [List.map_cons, ih b]
            have h1 := keyV_ok a
            obtain ⟨t, e1, s1⟩ := dp_pair a
            obtain ⟨t', e2, s2⟩ := dp_pair h1
            rw [e1] at e2; cases e2
            have z := I.tuple_inj (sqT_mono sub s1) (sqT_mono sub s2)
            have z1 : p = keyV X.K H0 v := by
              have z2 := (List.cons.inj z).1
              have z3 := (List.cons.inj (List.cons.inj z).2).1
              exact Prod.ext (V.int.inj z2) (V.int.inj z3)
            rw [← z1]
    exact go hd
  obtain ⟨its, rv, hl, hz⟩ := I.tuple hs
  obtain ⟨u, rfl, ru⟩ := vals1 r
  obtain rfl : u = Value.ref a := ru
  obtain ⟨e1, e2⟩ := refs_back rv fun x m => by
    obtain ⟨t, e, _⟩ := dp_pair (hpair x m)
    exact ⟨t, e⟩
  refine ET.sorted_pairsT (k := fun u => keyV X.K H0 (backV u)) hl (by rw [← rv.length]; exact hz) (fun v hv => ?_) fun hh1 h' d out h1 h2 kp1 kp hd' hn => ?_
  · obtain ⟨t, rfl⟩ := e2 v hv
    have hm : V.ref t ∈ xs := by rw [e1]; exact List.mem_map.mpr ⟨_, hv, rfl⟩
    obtain ⟨t', e, ht⟩ := dp_pair (hpair _ hm)
    cases e
    obtain ⟨its2, r2, ⟨o, ho, hc, n, hd⟩, _⟩ := I.tuple (sqT_mono sub ht)
    obtain ⟨u1, u2, rfl, ri, rj⟩ := vals2 r2
    obtain ⟨t1, rfl⟩ := ri
    obtain ⟨t2, rfl⟩ := rj
    exact ⟨t, o, t1, t2, n, rfl, ho, hc, hd⟩
  · have h3 : ∀ u ∈ out, ∃ a, u = Value.ref a := fun u hu => e2 u (h2.perm.mem_iff.mp hu)
    obtain ⟨n, hn⟩ := hn
    have hb : SrtO.Stb (ltP (keyV X.K H0)) (out.map backV) xs := by
      rw [e1]
      exact SrtO.Stb.map (ltP_swo (keyV X.K H0)) backV h2
    have hsrt : SrtO.Srtd (ltP (keyV X.K H0)) (out.map backV) := SrtO.srtd_map h1
    have heq : (out.map backV).map (keyV X.K H0) = sortP ps := by
      refine sorted_uniq ?_ ?_ (sortP_sorted ps)
      · refine List.Perm.trans (hb.perm.map (keyV X.K H0)) ?_
        rw [hkeys]
        exact (sortP_perm ps).symm
      · rw [List.pairwise_map]
        refine List.Pairwise.imp ?_ hsrt
        intro x y hxy
        unfold lexLe
        rw [Bool.not_eq_true']
        exact hxy
    refine ⟨.ref d, upd H d (.lst (out.map backV)), (I.kept (t' := s.toks) kp1).laid (t' := s.toks) kp hd' ⟨?_, out, n, vals_back h3, hn⟩, rfl, q _ d ?_ ((I.kept (t' := s.toks) kp1).hok.fresh hd')⟩
    · rw [hb.len]; exact hz
    · rw [← heq]
      exact dpa_keys fun y hy => hpair y (hb.perm.mem_iff.mp hy)

theorem cf_sortPT {ps : List (Int × Int)} : CF K (rSortPT K) [.tuple (ps.map encP)] ((sortP ps).map encP) := fun H H0 vs s k Q q => by
  obtain ⟨v, rfl, kk⟩ := dq1 k
  obtain ⟨a, xs, rfl, h1, h2⟩ := kk.tup
  exact ⟨H0, a, xs, ps, rfl, s, sqT_mono s h1, h2, fun ys p hy np => q p ys _ H0 (.dirty s np) np upd_same (sub_none s np) hy⟩
end EL

namespace EL
open PySem PySem.Spec PyProof.Rows L2
variable [TabC]
variable {K : PySem.W.Frag}
/-! ### t.count(x) of a tuple, for data -/
def rCountT (K : PySem.W.Frag) : V → List V → Hp → VK → Prop := fun x xs H Q => ∃ (a : Addr) (y : V) (d : D) (ds : List D), x = V.ref a ∧ xs = [y] ∧ Dp K H (V.ref a) (.tuple ds) ∧ Dp K H y d ∧ SeqAt.shaped (.tuple ds) = true ∧ SeqAt.shaped d = true ∧ Q (.int (ds.countP fun z => PyData.eqv z d : Nat)) H
theorem mt_countT {X : Cx} (hu : X.A.units + 65 < cLine) : MtR X "tuple.count" (rCountT X.K) := by
  rintro pins s σ H x xs v us Q I rx rxs ⟨a, y, d, ds, rfl, rfl, hl, hy, sl, sd, q⟩
  cases rx
  cases rxs with
  | cons ry rt =>
    rename_i uy ut
    cases rt
    obtain ⟨bs, r1⟩ := Dp.reads I d y uy hy ry
    have hxs : PyData.canLayAll0 ds = true := SeqAt.canLay_of_shaped sl
    have room : X.A.units + 1 + min (PyData.depthAll ds) d.depth < cLine := room_in_shaped sd hu
    cases hl with
    | tup hs ha =>
      obtain ⟨its, rv, ⟨⟨cls, dd, data, sls⟩, ho, hc, n, hdt⟩, hz⟩ := I.tuple hs
      simp only at hc hdt
      subst hc hdt
      obtain ⟨as, h4⟩ := Dp.readsAll I ds _ its ha rv
      have hmap : its.map (SeqAt.readOf s.heap) = ds := SeqAt.readsAll_map ds its as hxs h4
      refine call_meets PySem.F.slot_tuple_count ⟨_, ho, rfl⟩ PySem.F.entry_tuple_count (PySem.F.args_tuple_count_2 _ _) (SeqAt.tuple_countAt a its.toArray n dd sls uy fun u => PyData.eqv (SeqAt.readOf s.heap u) d)
        ⟨ho, SeqAt.items_eqAt (vs := its.toArray) (show ReadsAll s.heap its.toArray.toList ds as from h4) r1 hxs (SeqAt.canLay_of_shaped sd) room, ?_⟩
      have e : its.toArray.toList.countP (fun u => PyData.eqv (SeqAt.readOf s.heap u) d) = ds.countP fun z => PyData.eqv z d := by
        rw [← hmap, List.countP_map]
        rfl
      refine ⟨.int _, H, I.tok _, ⟨_, rfl⟩, ?_⟩
      rw [e]
      exact q
section
variable {ρ : List Sl} {te ta : TE} {d x y z : D} {ds es : List D} {i : Nat}
theorem eqv_P {p q : Int × Int} : PyData.eqv (encP p) (encP q) = decide (p = q) := by
  show ((PyData.eqv (.int p.1) (.int q.1)) && ((PyData.eqv (.int p.2) (.int q.2)) && true)) = _
  rw [eqv_int, eqv_int, Bool.and_true, Bool.eq_iff_iff, Bool.and_eq_true, decide_eq_true_iff, decide_eq_true_iff, decide_eq_true_iff]
  exact ⟨fun ⟨a, b⟩ => Prod.ext a b, fun e => by rw [e]; exact ⟨rfl, rfl⟩⟩
/-! ### texts, cut at one end -/
theorem cutS_to {l : List Nat} {a : Nat} (h : a ≤ l.length) : cutS (mkS l) none (some (a : Int)) = mkS (l.take a) := by
  have e := cutS_mkS (l := l) (a := 0) (b := a) (Nat.zero_le _) h
  rw [List.drop_zero, Nat.sub_zero] at e
  rw [← e]
  unfold cutS
  rw [HT.sIx_none]
  have z : HT.sIx (mkS l).length 0 (some ((0 : Nat) : Int)) = 0 := by rw [HT.sIx_nat]; omega
  first
    | rw [z]
    | simp [HT.sIx_nat]
theorem cutS_from {l : List Nat} {a : Nat} (h : a ≤ l.length) : cutS (mkS l) (some (a : Int)) none = mkS (l.drop a) := by
  have e := cutS_mkS (l := l) (a := a) (b := l.length) h (Nat.le_refl _)
  rw [List.take_of_length_le (by rw [List.length_drop]; exact Nat.le_refl _)] at e
  rw [← e]
  unfold cutS
  rw [HT.sIx_none]
  have z : HT.sIx (mkS l).length (mkS l).length (some ((l.length : Nat) : Int)) = (mkS l).length := by rw [HT.sIx_nat, len_mkS]; omega
  first
    | rw [z]
    | simp [HT.sIx_nat, len_mkS]
theorem es_to {l : List Nat} {th : TO} {a : Nat} (h : EvQ K ta ρ (.str (mkS l))) (h2 : EvO K th ρ (some (a : Int))) (hl : l.length ≤ 1000) (ha : a ≤ l.length) : EvD K (tSl (rSl K) ta tNoPart th) ρ (.str (mkS (l.take a))) := by
  rw [← cutS_to ha]
  exact es_S h eo_none h2 (by rw [len_mkS]; exact sz_le hl)
theorem es_from {l : List Nat} {tl : TO} {a : Nat} (h : EvQ K ta ρ (.str (mkS l))) (h1 : EvO K tl ρ (some (a : Int))) (hl : l.length ≤ 1000) (ha : a ≤ l.length) : EvD K (tSl (rSl K) ta tl tNoPart) ρ (.str (mkS (l.drop a))) := by
  rw [← cutS_from ha]
  exact es_S h h1 eo_none (by rw [len_mkS]; exact sz_le hl)
/-! ### tuple(reversed(t)), t + u -/
theorem dpa_rev {H : Hp} : ∀ {vs : List V} {ds : List D}, DpAll K H vs ds → DpAll K H vs.reverse ds.reverse
  | _, _, .nil => .nil
  | _, _, .cons a b => by
    rw [List.reverse_cons, List.reverse_cons]
    exact dpa_app (dpa_rev b) (.cons a .nil)
theorem ev_tupRevT (h : EvQ K te ρ (.tuple ds)) : EvD K (ET.tTupRevT K te) ρ (.tuple ds.reverse) := fun B B0 σ H H0 r Q q =>
  h B B0 σ H H0 r _ fun v H1 H01 w k => by
    obtain ⟨a, xs, rfl, g1, g2⟩ := k.tup
    exact ⟨a, xs, rfl, sqT_mono w.sub g1, fun p np => q _ _ (upd H01 p (.tup xs.reverse)) (w.trans (.clean w.sub np)) (.tup (.of upd_same) (dpa_mono (same_new (sub_none w.sub np)) (dpa_rev g2)))⟩
theorem rd_addT (hl : ds.length + es.length ≤ sizeLine) : RD K (rAdd K) (.tuple ds) (.tuple es) (.tuple (ds ++ es)) := fun H H0 v u s k1 k2 Q q => by
  obtain ⟨a, xs, rfl, h1, h2⟩ := k1.tup
  obtain ⟨b, ys, rfl, g1, g2⟩ := k2.tup
  refine .inr (.inl ⟨a, b, xs, ys, rfl, rfl, sqT_mono s h1, sqT_mono s g1, by rw [dpa_len h2, dpa_len g2]; exact hl, ?_⟩)
  refine ⟨fun e => ?_, fun _ e => ?_, fun _ _ p np => q _ _ (upd H0 p (.tup (xs ++ ys))) (.clean s np) (.tup (.of upd_same) (dpa_mono (same_new (sub_none s np)) (dpa_app h2 g2)))⟩
  · subst e
    cases h2
    exact q _ H H0 (.refl s) (.tup g1 g2)
  · subst e
    cases g2
    rw [List.append_nil] at q
    exact q _ H H0 (.refl s) (.tup h1 h2)
end
end EL
namespace EK
open PySem PySem.Spec PyProof.Rows L2 EL
variable [TabC]
theorem sortPT {X : Cx} {K : PySem.W.Frag} (hK : X.K = K := by rfl) : CallR X (.builtin "sorted") (rSortPT K) := hK ▸ cr_sortPT
theorem countT {X : Cx} {K : PySem.W.Frag} (hu : X.A.units + 65 < cLine) (hK : X.K = K := by rfl) : MtR X "tuple.count" (rCountT K) := hK ▸ mt_countT hu
end EK

namespace EL
open PySem PySem.Spec PyProof.Rows L2
variable [TabC]
variable {K : PySem.W.Frag}
/-- list(range(n)) -/
theorem ef_lstRg {ρ : List Sl} {te : TE} {n : Nat} (h : EvQ K te ρ (.int (n : Int))) (hn : n ≤ 1000) : EvF K (tLstRg (tRg1 te)) ρ ((List.range n).map fun j => .int ((j : Nat) : Int)) := fun B B0 σ H H0 r Q q =>
  h B B0 σ H H0 r _ fun v H1 H01 w k => by
    refine ⟨(n : Int), k.int, ⟨by omega, by omega, by omega, by omega, by omega⟩, fun p np => ?_⟩
    have e : rgV 0 (n : Int) = ((List.range n).map fun j : Nat => (j : Int)).map V.int := by
      unfold rgV
      rw [List.map_map]
      have e0 : ((n : Int) - 0).toNat = n := by omega
      rw [e0]
      refine List.map_congr_left fun j _ => ?_
      show V.int (0 + (j : Int)) = V.int (j : Int)
      rw [Int.zero_add]
    rw [e]
    refine q p _ _ H01 (w.trans (.dirty w.sub np)) (w.e.free np) upd_same (sub_none w.sub np) ?_
    have e2 : ((List.range n).map fun j => PyData.int ((j : Nat) : Int)) = ((List.range n).map fun j : Nat => (j : Int)).map PyData.int := by rw [List.map_map]; rfl
    rw [e2]
    exact dpa_of_ints _
end EL

namespace EL
open PySem PySem.Spec PyProof.Rows L2
variable [TabC]
variable {K : PySem.W.Frag}
theorem dpa_last {H : Hp} {d : D} : ∀ {xs : List V} {ds : List D}, DpAll K H xs (ds ++ [d]) → ∃ ys v, xs = ys ++ [v] ∧ DpAll K H ys ds ∧ Dp K H v d
  | _, [], .cons a .nil => ⟨[], _, rfl, .nil, a⟩
  | _, e :: ds, .cons a b => by
    obtain ⟨ys, v, rfl, h1, h2⟩ := dpa_last b
    exact ⟨_ :: ys, v, rfl, .cons a h1, h2⟩
section
variable {ρ ρ2 : List Sl} {P : Post} {d : D} {ds : List D} {i : Nat} {g : TG} {is : List Nat}
/-- target = one's own list.pop() -/
theorem w_popAsg (h : ρ[i]? = some (Sl.own (ds ++ [d]))) (hb : Bd K g is d (ρ.set i (.own ds)) ρ2) (k : P.nx ρ2) : Wp K (tAsg (tBM0 K "list" rPop (tVar i)) g) ρ P := fun B B0 σ H H0 r E m => by
  obtain ⟨a, xs, e1, e2, e3, e4, e5⟩ := r.own i _ h
  obtain ⟨ys, v, rfl, k1, k2⟩ := dpa_last e5
  refine ⟨_, e1, .inl ⟨rfl, _, .of e4⟩, a, ys ++ [v], v, rfl, rfl, e4, by simp, ?_⟩
  rw [List.dropLast_concat]
  exact hb B B0 σ _ H0 v (r.write h e1 k1) k2 _ fun σ2 r2 _ => m.nx ρ2 σ2 _ H0 k r2
end
end EL

namespace EL
open PySem PySem.Spec PyProof.Rows L2
variable [TabC]
variable {K : PySem.W.Frag}
/-! ### greatest ones -/
def rMax2 : List V → Hp → VK → Prop := fun xs H Q => ∃ i j, xs = [.int i, .int j] ∧ Q (.int (if j > i then j else i)) H
theorem cd_max2 {i j : Int} : CD K rMax2 [.int i, .int j] (.int (max i j)) := fun H H0 vs s k Q q => by
  obtain ⟨v, u, rfl, k1, k2⟩ := dq2 k
  have e : (if j > i then j else i) = max i j := by omega
  refine ⟨i, j, by rw [k1.int, k2.int], ?_⟩
  rw [e]
  exact q _ H H0 (.refl s) (.int _)
/-- max of a list that isn't empty, no item below 0 -/
theorem cd_maxN {ns : List Int} (hne : ns ≠ []) (hn : ∀ n ∈ ns, 0 ≤ n) : CD K (rMax K) [.list (ns.map .int)] (.int (maxI ns)) := fun H H0 vs s k Q q => by
  obtain ⟨v, rfl, kk⟩ := dq1 k
  obtain ⟨a, xs, rfl, h1, h2⟩ := kk.lst s
  rw [dpa_ints h2] at h1
  refine ⟨a, ns, rfl, h1, by cases ns with | nil => exact absurd rfl hne | cons _ _ => exact Nat.succ_pos _, fun m hm hle => ?_⟩
  obtain ⟨g1, g2⟩ := fold_ge ns 0
  have e : m = maxI ns := by
    unfold maxI
    have a1 := g2 m hm
    have a2 : ns.foldl max 0 ≤ m := by
      rcases fold_in ns 0 with h | h
      · rw [h]; exact hn m hm
      · exact hle _ h
    omega
  rw [e]
  exact q _ H H0 (.refl s) (.int _)
theorem maxI_snoc (ns : List Int) (a : Int) : maxI (ns ++ [a]) = max (maxI ns) a := by
  unfold maxI
  rw [List.foldl_append]
  rfl
theorem maxI_nn (ns : List Int) : 0 ≤ maxI ns := (fold_ge ns 0).1
theorem maxI_le {ns : List Int} {m : Int} (h0 : 0 ≤ m) : maxI ns ≤ m ↔ ∀ n ∈ ns, n ≤ m := by
  unfold maxI
  obtain ⟨g1, g2⟩ := fold_ge ns 0
  constructor
  · intro h n hn
    have := g2 n hn
    omega
  · intro h
    rcases fold_in ns 0 with e | e
    · omega
    · exact h _ e
/-! ### one's own list.remove(int) -/
section
variable {ρ : List Sl} {P : Post} {te : TE} {i : Nat}
theorem w_remove {ns : List Int} {k : Int} {j : Nat} (h : ρ[i]? = some (Sl.own (ns.map .int))) (he : EvQ K te ρ (.int k)) (hj : ns[j]? = some k) (hno : ∀ m : Nat, m < j → ns[m]? ≠ some k) (q : P.nx (ρ.set i (.own ((ns.eraseIdx j).map .int)))) :
    Wp K (tDrop (tBM K "list" rRemI (tVar i) (tCons te tNil))) ρ P := fun B B0 σ H H0 r E m => by
  obtain ⟨a, xs, e1, e2, e3, e4, e5⟩ := r.own i _ h
  refine ⟨_, e1, .inl ⟨rfl, _, .of e4⟩, he B B0 σ H H0 r _ fun v H1 H01 w1 k1 => ?_⟩
  have r1 := r.step w1
  obtain ⟨a', xs', f1, f2, f3, f4, f5⟩ := r1.own i _ h
  rw [e1] at f1; cases f1
  rw [dpa_ints f5] at f4
  refine ⟨a, ns, k, j, rfl, by rw [k1.int], f4, hj, hno, ?_⟩
  exact m.nx _ _ _ H01 q (r1.write h e1 (dpa_of_ints _))
end
/-! ### in, not in for data -/
theorem rd_ninDat {x : D} {ds : List D} (h1 : SeqAt.shaped x = true) (h2 : SeqAt.shaped (.list ds) = true) : RD K (rNotInD K) x (.list ds) (.bool (!ds.any fun z => PyData.eqv z x)) := fun H H0 v u s k1 k2 Q q =>
  ⟨x, ds, k1.dp s, k2.dp s, h1, h2, q _ H H0 (.refl s) (.bl _)⟩
theorem any_encP (ps : List (Int × Int)) (p : Int × Int) : ((ps.map encP).any fun z => PyData.eqv z (encP p)) = ps.contains p := by
  rw [List.any_map, Bool.eq_iff_iff, List.any_eq_true, List.contains_iff_mem]
  constructor
  · rintro ⟨q, hq, h⟩
    have h : PyData.eqv (encP q) (encP p) = true := h
    rw [eqv_P] at h
    cases of_decide_eq_true h
    exact hq
  · intro h
    refine ⟨p, h, ?_⟩
    show PyData.eqv (encP p) (encP p) = true
    rw [eqv_P, decide_eq_true rfl]
theorem shp_pairs {n : Nat} (ps : List (Int × Int)) : Shp (n + 2) (.list (ps.map encP)) := shp_list fun d hd => by
  obtain ⟨p, _, rfl⟩ := List.mem_map.mp hd
  exact shp_tup fun d hd => by
    rcases List.mem_cons.mp hd with rfl | hd
    · exact shp_int _
    · cases List.mem_singleton.mp hd
      exact shp_int _
theorem rd_inP {ps : List (Int × Int)} {p : Int × Int} : RD K (rInD K) (encP p) (.list (ps.map encP)) (.bool (ps.contains p)) := by
  have h := rd_inDat (K := K) (x := encP p) (ds := ps.map encP) ((shp_pair (p := p)).shaped (by omega)) ((shp_pairs (n := 0) ps).shaped (by omega))
  rw [any_encP] at h
  exact h
theorem rd_ninP {ps : List (Int × Int)} {p : Int × Int} : RD K (rNotInD K) (encP p) (.list (ps.map encP)) (.bool (!ps.contains p)) := by
  have h := rd_ninDat (K := K) (x := encP p) (ds := ps.map encP) ((shp_pair (p := p)).shaped (by omega)) ((shp_pairs (n := 0) ps).shaped (by omega))
  rw [any_encP] at h
  exact h
end EL
namespace EK
open PySem PySem.Spec PyProof.Rows L2 EL
variable [TabC]
variable {X : Cx} {K : PySem.W.Frag}
theorem max2 (hc : X.calm = true) : CallR X (.builtin "max") rMax2 := call_max2 hc
theorem notInD (hu : X.A.units + 65 < cLine) (hK : X.K = K := by rfl) : OpR X (compareOp .NotIn) (rNotInD K) := hK ▸ op_notInD hu
end EK

/-! zip of a list or a tuple with a list or a tuple -/
namespace EZ
open PySem
/-- true: a tuple, false: a list; its iterator, its items -/
def Cur (b : Bool) (h : Heap) (it l : Addr) (k : Nat) : Prop := if b = true then h.IsTupleIter it l k else h.IsListIter it l k
def Sto (b : Bool) (h : Heap) (l : Addr) (xs : Array Value) : Prop := if b = true then h.IsTuple l xs else h.IsList l xs
section
variable {b : Bool} {h g : Heap} {it l : Addr} {k : Nat} {xs : Array Value}
theorem Cur.keep (c : Cur b h it l k) (e : ∀ o, h.get? it = some o → g.get? it = some o) : Cur b g it l k := by
  cases b with
  | true => exact Heap.IsTupleIter.at c e
  | false => exact Heap.IsListIter.at c e
theorem Sto.keep (c : Sto b h l xs) (e : ∀ o, h.get? l = some o → g.get? l = some o) : Sto b g l xs := by
  cases b with
  | true =>
    obtain ⟨o, ho, r⟩ := (show h.IsTuple l xs from c)
    exact ⟨o, e o ho, r⟩
  | false =>
    obtain ⟨o, ho, r⟩ := (show h.IsList l xs from c)
    exact ⟨o, e o ho, r⟩
theorem Cur.obj (c : Cur b h it l k) : ∃ o, h.get? it = some o ∧ ∃ fs, o.data = .fields fs := by
  cases b with
  | true =>
    obtain ⟨o, ho, _, hd⟩ := (show h.IsTupleIter it l k from c)
    exact ⟨o, ho, _, hd⟩
  | false =>
    obtain ⟨o, ho, _, hd⟩ := (show h.IsListIter it l k from c)
    exact ⟨o, ho, _, hd⟩
end
section
variable {prog : Program} {w : World} {A : Around} {E : Value → Shared → Prop} {s : Shared} {b : Bool} {it l : Addr} {k : Nat} {xs : Array Value}
theorem draw {x : Value} {Q : Value → Shared → Prop} (c : Cur b s.heap it l k) (t : Sto b s.heap l xs) (hx : xs[k]? = some x) (q : ∀ g, Cur b g it l (k + 1) → Heap.SameBut it s.heap g → Q x { s with heap := g }) :
    wpAny (model prog w) A (Builtin.SmallTypes.nextOf (.ref it)) Q E s := by
  cases b with
  | true => exact RZ.nextOf_tuple_item c t hx q
  | false => exact wpAny_nextOf_list_item c t hx q
theorem drawEnd {Q : Value → Shared → Prop} (hh : A.handled = none) (c : Cur b s.heap it l k) (t : Sto b s.heap l xs) (hx : xs[k]? = none)
    (q : ∀ g e, Heap.ExtBut it s.heap g → (∃ o, g.get? e = some o ∧ o.cls = .type "StopIteration") → E (.ref e) { s with heap := g }) : wpAny (model prog w) A (Builtin.SmallTypes.nextOf (.ref it)) Q E s := by
  cases b with
  | true => exact RZ.nextOf_tuple_end hh c t hx q
  | false => exact wpAny_nextOf_list_end hh c t hx q
theorem iterOf {Q : Value → Shared → Prop} (t : Sto b s.heap l xs) (q : ∀ g, Cur b g s.heap.objs.size l 0 → g = s.heap.push { cls := .type (if b = true then "tuple_iterator" else "list_iterator"), data := .fields #[.ref l, .int 0 0] } → Q (.ref s.heap.objs.size) { s with heap := g }) :
    wpAny (model prog w) A (pyIter (.ref l)) Q E s := by
  cases b with
  | true => exact wpAny_pyIter_tuple t (q _ ⟨_, Heap.get?_push_size _ rfl, rfl, rfl⟩ rfl)
  | false => exact wpAny_pyIter_list t (q _ ⟨_, Heap.get?_push_size _ rfl, rfl, rfl⟩ rfl)
end
end EZ

namespace EZ
open PySem
/-- a zip at z with its two iterators at turn k, nothing of it given out -/
structure Zp (b1 b2 : Bool) (h : Heap) (z TI TO i1 i2 l1 l2 : Addr) (k : Nat) : Prop where
  zip : IsZip h z TI TO .none
  its : IsPair h TI (.ref i1) (.ref i2)
  out : ∃ x y, IsPair h TO x y
  one : Cur b1 h i1 l1 k
  two : Cur b2 h i2 l2 k
def Kept (z TO i1 i2 : Addr) (h g : Heap) : Prop := ∀ c o, c ≠ z → c ≠ TO → c ≠ i1 → c ≠ i2 → h.get? c = some o → g.get? c = some o
section
variable {prog : Program} {w : World} {A : Around} {E : Value → Shared → Prop} {s : Shared} {b1 b2 : Bool} {z TI TO i1 i2 l1 l2 : Addr} {k : Nat} {xs ys : Array Value}
/-- a turn with an item on both sides: a new pair -/
theorem turnItem {x y : Value} {Q : Value → Shared → Prop} (D : ZipApart z TI TO i1 i2 l1 l2) (Z : Zp b1 b2 s.heap z TI TO i1 i2 l1 l2 k) (t1 : Sto b1 s.heap l1 xs) (t2 : Sto b2 s.heap l2 ys) (hx : xs[k]? = some x) (hy : ys[k]? = some y)
    (q : ∀ g, IsZip g z TI TO (rawInt s.heap.objs.size) → IsPair g TO x y → Cur b1 g i1 l1 (k + 1) → Cur b2 g i2 l2 (k + 1) → IsPair g s.heap.objs.size x y → Kept z TO i1 i2 s.heap g → Q (.ref s.heap.objs.size) { s with heap := g }) :
    wpAny (model prog w) A (Builtin.«zip.__next__» ⟨[.ref z], []⟩) (fun f t => ∃ v, f = .done (.ret v) ∧ Q v t) E s := by
  obtain ⟨Zz, Zi, ⟨a, b, Zo⟩, c1, c2⟩ := Z
  show wpAny _ _ (field (.ref z) 2 >>= _) _ _ _
  apply wpAny_bind
  apply wpAny_field Zz rfl (x := .bool false) rfl
  show wpAny _ _ (field (.ref z) 3 >>= _) _ _ _
  apply wpAny_bind
  apply wpAny_field Zz rfl (x := .ref TI) rfl
  apply wpAny_bind
  apply wpAny_seqItems Zi rfl
  show wpAny _ _ (Builtin.SmallTypes.ownedTupleIsFree (.ref z) >>= _) _ _ _
  apply wpAny_bind
  unfold Builtin.SmallTypes.ownedTupleIsFree
  apply wpAny_bind
  apply wpAny_field Zz rfl (x := .none) rfl
  apply wpAny_pure
  simp only [if_true]
  apply wpAny_bind
  apply wpAny_rule
  apply wpAny_bind
  apply wpAny_field Zz rfl (x := .ref TO) rfl
  apply wpAny_bind
  refine wpAny_setField_rec Zz (by simp) fun g1 Z1 u1 => ?_
  have Z1 : IsZip g1 z TI TO .ellipsis := Z1
  have z1 := u1.1
  have u1 := u1.extBut
  apply wpAny_bind
  simp only [List.zipIdx_cons, List.zipIdx_nil, List.forIn_cons, List.forIn_nil]
  apply wpAny_bind
  apply wpAny_bind
  apply wpAny_onRaise
  show wpAny _ _ (Builtin.SmallTypes.nextOf (.ref i1) >>= _) _ _ _
  apply wpAny_bind
  refine draw (c1.keep fun o => u1 _ o D.i1z) (t1.keep fun o => u1 _ o D.l1z) hx fun g2 d1 u2 => ?_
  have z2 := u2.1
  have u2 := u2.extBut
  apply wpAny_pure
  have P2 : IsPair g2 TO a b := u2 _ _ D.TOi1 (u1 _ _ D.TOz Zo)
  apply wpAny_bind
  apply wpAny_seqItems P2 rfl
  apply wpAny_bind
  refine wpAny_updateSeq_pair P2 fun g3 P3 u3 => ?_
  have P3 : IsPair g3 TO x b := P3
  have z3 := u3.1
  have u3 := u3.extBut
  apply wpAny_bind
  apply wpAny_letGo
  apply wpAny_pure
  apply wpAny_bind
  apply wpAny_bind
  apply wpAny_onRaise
  show wpAny _ _ (Builtin.SmallTypes.nextOf (.ref i2) >>= _) _ _ _
  apply wpAny_bind
  have c23 : Cur b2 g3 i2 l2 k := ((c2.keep fun o => u1 _ o D.i2z).keep fun o => u2 _ o D.i12.symm).keep fun o => u3 _ o D.TOi2.symm
  have t23 : Sto b2 g3 l2 ys := ((t2.keep fun o => u1 _ o D.l2z).keep fun o => u2 _ o D.l2i1).keep fun o => u3 _ o D.l2TO
  refine draw c23 t23 hy fun g4 d2 u4 => ?_
  have z4 := u4.1
  have u4 := u4.extBut
  apply wpAny_pure
  have P4 : IsPair g4 TO x b := u4 _ _ D.TOi2 P3
  apply wpAny_bind
  apply wpAny_seqItems P4 rfl
  apply wpAny_bind
  refine wpAny_updateSeq_pair P4 fun g5 P5 u5 => ?_
  have P5 : IsPair g5 TO x y := P5
  have z5 := u5.1
  have u5 := u5.extBut
  apply wpAny_bind
  apply wpAny_letGo
  apply wpAny_pure
  apply wpAny_pure
  apply wpAny_bind
  apply wpAny_seqItems P5 rfl
  apply wpAny_bind
  refine wpAny_newTuple ?_
  have Z5 : IsZip g5 z TI TO .ellipsis := u5 _ _ D.TOz.symm (u4 _ _ D.i2z.symm (u3 _ _ D.TOz.symm (u2 _ _ D.i1z.symm Z1)))
  have K5 : Kept z TO i1 i2 s.heap g5 := fun c o n1 n2 n3 n4 e => u5 _ _ n2 (u4 _ _ n4 (u3 _ _ n2 (u2 _ _ n3 (u1 _ _ n1 e))))
  have d15 : Cur b1 g5 i1 l1 (k + 1) := ((d1.keep fun o => u3 _ o D.TOi1.symm).keep fun o => u4 _ o D.i12).keep fun o => u5 _ o D.TOi1.symm
  have d25 : Cur b2 g5 i2 l2 (k + 1) := d2.keep fun o => u5 _ o D.TOi2.symm
  have lz : z < g5.objs.size := Heap.lt_size Z5
  show wpAny _ _ (Builtin.SmallTypes.ownedTupleHandOut (.ref z) (.ref g5.objs.size) >>= _) _ _ _
  apply wpAny_bind
  unfold Builtin.SmallTypes.ownedTupleHandOut
  have Z6 : IsZip (g5.push { cls := .type "tuple", data := .seq #[x, y] }) z TI TO .ellipsis := Heap.get?_push_of_some _ Z5
  apply wpAny_bind
  refine wpAny_setField_rec Z6 (by simp) fun g7 Z7 u7 => ?_
  have Z7 : IsZip g7 z TI TO (rawInt g5.objs.size) := Z7
  refine wpAny_setField_rec Z7 (by simp) fun g8 Z8 w8 => ?_
  have Z8 : IsZip g8 z TI TO (rawInt g5.objs.size) := Z8
  have u8 : ∀ c o, c ≠ z → g5.get? c = some o → g8.get? c = some o := fun c o n e => w8.extBut _ _ n (u7.extBut _ _ n (Heap.get?_push_of_some _ e))
  have T8 : IsPair g8 g5.objs.size x y := by
    have p6 : IsPair (g5.push { cls := .type "tuple", data := .seq #[x, y] }) g5.objs.size x y := Heap.get?_push_size _ rfl
    exact w8.extBut _ _ (Nat.ne_of_gt lz) (u7.extBut _ _ (Nat.ne_of_gt lz) p6)
  have hs : g5.objs.size = s.heap.objs.size := by
    rw [z5, z4, z3, z2, z1]
  rw [hs] at Z8 T8
  apply wpAny_pure
  refine ⟨_, rfl, ?_⟩
  show Q (.ref g5.objs.size) _
  rw [hs]
  exact q g8 Z8 (u8 _ _ D.TOz P5) (d15.keep fun o => u8 _ o D.i1z) (d25.keep fun o => u8 _ o D.i2z) T8 fun c o n1 n2 n3 n4 e => u8 c o n1 (K5 c o n1 n2 n3 n4 e)
/-- a turn where one side has none left -/
theorem turnEnd {Q : Fin → Shared → Prop} (hh : A.handled = none) (D : ZipApart z TI TO i1 i2 l1 l2) (Z : Zp b1 b2 s.heap z TI TO i1 i2 l1 l2 k) (t1 : Sto b1 s.heap l1 xs) (t2 : Sto b2 s.heap l2 ys) (he : xs[k]? = none ∨ ys[k]? = none)
    (q : ∀ g e, Kept z TO i1 i2 s.heap g → (∃ o, g.get? e = some o ∧ o.cls = .type "StopIteration") → E (.ref e) { s with heap := g }) :
    wpAny (model prog w) A (Builtin.«zip.__next__» ⟨[.ref z], []⟩) Q E s := by
  obtain ⟨Zz, Zi, ⟨a, b, Zo⟩, c1, c2⟩ := Z
  show wpAny _ _ (field (.ref z) 2 >>= _) _ _ _
  apply wpAny_bind
  apply wpAny_field Zz rfl (x := .bool false) rfl
  show wpAny _ _ (field (.ref z) 3 >>= _) _ _ _
  apply wpAny_bind
  apply wpAny_field Zz rfl (x := .ref TI) rfl
  apply wpAny_bind
  apply wpAny_seqItems Zi rfl
  show wpAny _ _ (Builtin.SmallTypes.ownedTupleIsFree (.ref z) >>= _) _ _ _
  apply wpAny_bind
  unfold Builtin.SmallTypes.ownedTupleIsFree
  apply wpAny_bind
  apply wpAny_field Zz rfl (x := .none) rfl
  apply wpAny_pure
  simp only [if_true]
  apply wpAny_bind
  apply wpAny_rule
  apply wpAny_bind
  apply wpAny_field Zz rfl (x := .ref TO) rfl
  apply wpAny_bind
  refine wpAny_setField_rec Zz (by simp) fun g1 Z1 u1 => ?_
  have Z1 : IsZip g1 z TI TO .ellipsis := Z1
  have u1 := u1.extBut
  apply wpAny_bind
  simp only [List.zipIdx_cons, List.zipIdx_nil, List.forIn_cons, List.forIn_nil]
  apply wpAny_bind
  apply wpAny_bind
  apply wpAny_onRaise
  show wpAny _ _ (Builtin.SmallTypes.nextOf (.ref i1) >>= _) _ _ _
  apply wpAny_bind
  have stop : ∀ {h : Heap} {e : Addr}, (∃ o, h.get? e = some o ∧ o.cls = .type "StopIteration") → IsZip h z TI TO .ellipsis → e ≠ z := fun ⟨o, ho, hc⟩ Zh ez => by
    subst ez
    have q := ho.symm.trans Zh
    cases q
    exact absurd hc (by simp)
  have c11 : Cur b1 g1 i1 l1 k := c1.keep fun o => u1 _ o D.i1z
  have t11 : Sto b1 g1 l1 xs := t1.keep fun o => u1 _ o D.l1z
  cases hx : xs[k]? with
  | none =>
    refine drawEnd hh c11 t11 hx fun g2 e u2 hs => ?_
    have Z2 : IsZip g2 z TI TO .ellipsis := u2 _ _ D.i1z.symm Z1
    have ne := stop hs Z2
    obtain ⟨o, ho, hc⟩ := hs
    refine wpAny_setField_rec Z2 (by simp) fun g3 _ u3 => q g3 e (fun c o n1 _ n3 _ x => u3.extBut _ _ n1 (u2 _ _ n3 (u1 _ _ n1 x))) ⟨o, u3.extBut _ _ ne ho, hc⟩
  | some x =>
    have hy : ys[k]? = none := he.elim (fun z => by rw [hx] at z; cases z) id
    refine draw c11 t11 hx fun g2 d1 u2 => ?_
    have u2 := u2.extBut
    apply wpAny_pure
    have P2 : IsPair g2 TO a b := u2 _ _ D.TOi1 (u1 _ _ D.TOz Zo)
    apply wpAny_bind
    apply wpAny_seqItems P2 rfl
    apply wpAny_bind
    refine wpAny_updateSeq_pair P2 fun g3 P3 u3 => ?_
    have u3 := u3.extBut
    apply wpAny_bind
    apply wpAny_letGo
    apply wpAny_pure
    apply wpAny_bind
    apply wpAny_bind
    apply wpAny_onRaise
    show wpAny _ _ (Builtin.SmallTypes.nextOf (.ref i2) >>= _) _ _ _
    apply wpAny_bind
    have c23 : Cur b2 g3 i2 l2 k := ((c2.keep fun o => u1 _ o D.i2z).keep fun o => u2 _ o D.i12.symm).keep fun o => u3 _ o D.TOi2.symm
    have t23 : Sto b2 g3 l2 ys := ((t2.keep fun o => u1 _ o D.l2z).keep fun o => u2 _ o D.l2i1).keep fun o => u3 _ o D.l2TO
    refine drawEnd hh c23 t23 hy fun g4 e u4 hs => ?_
    have Z4 : IsZip g4 z TI TO .ellipsis := u4 _ _ D.i2z.symm (u3 _ _ D.TOz.symm (u2 _ _ D.i1z.symm Z1))
    have ne := stop hs Z4
    obtain ⟨o, ho, hc⟩ := hs
    refine wpAny_setField_rec Z4 (by simp) fun g5 _ u5 => q g5 e (fun c o n1 n2 n3 n4 x => u5.extBut _ _ n1 (u4 _ _ n4 (u3 _ _ n2 (u2 _ _ n3 (u1 _ _ n1 x))))) ⟨o, u5.extBut _ _ ne ho, hc⟩
theorem nextItem {x y : Value} {Q : Option Value → Shared → Prop} (D : ZipApart z TI TO i1 i2 l1 l2) (Z : Zp b1 b2 s.heap z TI TO i1 i2 l1 l2 k) (t1 : Sto b1 s.heap l1 xs) (t2 : Sto b2 s.heap l2 ys) (hx : xs[k]? = some x) (hy : ys[k]? = some y)
    (q : ∀ g, IsZip g z TI TO (rawInt s.heap.objs.size) → IsPair g TO x y → Cur b1 g i1 l1 (k + 1) → Cur b2 g i2 l2 (k + 1) → IsPair g s.heap.objs.size x y → Kept z TO i1 i2 s.heap g → Q (some (.ref s.heap.objs.size)) { s with heap := g }) :
    wpAny (model prog w) A (pyNext (.ref z)) Q E s := by
  have ty : s.TypeIs (.ref z) "zip" := ⟨_, Z.zip, rfl⟩
  unfold pyNext
  apply wpAny_bind
  apply wpAny_attempt
  refine wpAny_callSpecial?_slot (name := Str.ofString "__next__") ty F.slot_zip_next (wpAny_call_entry F.slot_zip_next ty F.entry_zip_next ?_ (F.args_zip_next_1 _))
  refine turnItem D Z t1 t2 hx hy fun g a1 a2 a3 a4 a5 a6 => ?_
  apply wpAny_pure
  exact q g a1 a2 a3 a4 a5 a6
theorem nextEnd {Q : Option Value → Shared → Prop} (hh : A.handled = none) (D : ZipApart z TI TO i1 i2 l1 l2) (Z : Zp b1 b2 s.heap z TI TO i1 i2 l1 l2 k) (t1 : Sto b1 s.heap l1 xs) (t2 : Sto b2 s.heap l2 ys) (he : xs[k]? = none ∨ ys[k]? = none)
    (q : ∀ g, Kept z TO i1 i2 s.heap g → Q none { s with heap := g }) : wpAny (model prog w) A (pyNext (.ref z)) Q E s := by
  have ty : s.TypeIs (.ref z) "zip" := ⟨_, Z.zip, rfl⟩
  unfold pyNext
  apply wpAny_bind
  apply wpAny_attempt
  refine wpAny_callSpecial?_slot (name := Str.ofString "__next__") ty F.slot_zip_next (wpAny_call_entry F.slot_zip_next ty F.entry_zip_next ?_ (F.args_zip_next_1 _))
  refine turnEnd hh D Z t1 t2 he fun g e a6 hs => ?_
  obtain ⟨o, ho, hc⟩ := hs
  apply wpAny_bind
  refine wpAny_isInstance (T := "StopIteration") (b := true) ⟨o, ho, hc⟩ isSubtype_stop ?_
  apply wpAny_pure
  exact q g a6
end
end EZ

namespace EZ
open PySem
def itO (b : Bool) (l : Addr) : Obj := { cls := .type (if b = true then "tuple_iterator" else "list_iterator"), data := .fields #[.ref l, .int 0 0] }
def hp1 (b1 : Bool) (h : Heap) (l1 : Addr) : Heap := h.push (itO b1 l1)
def hp2 (b1 b2 : Bool) (h : Heap) (l1 l2 : Addr) : Heap := (hp1 b1 h l1).push (itO b2 l2)
def hp3 (b1 b2 : Bool) (h : Heap) (l1 l2 : Addr) : Heap := (hp2 b1 b2 h l1 l2).push { cls := .type "tuple", data := .seq #[.ref h.objs.size, .ref (hp1 b1 h l1).objs.size] }
def hp4 (b1 b2 : Bool) (h : Heap) (l1 l2 : Addr) : Heap := (hp3 b1 b2 h l1 l2).push { cls := .type "tuple", data := .seq #[.none, .none] }
def hp5 (b1 b2 : Bool) (h : Heap) (l1 l2 : Addr) : Heap := (hp4 b1 b2 h l1 l2).push { cls := .type "zip", data := .fields #[.none, .bool false, .bool false, .ref (hp2 b1 b2 h l1 l2).objs.size, .ref (hp3 b1 b2 h l1 l2).objs.size] }
theorem madeFT (l1 l2 : Addr) (xs ys : Array Value) : Meets (Builtin.«zip.__new__» ⟨[.type "zip", .ref l1, .ref l2], []⟩) (fun _ R s => s.heap.IsList l1 xs ∧ s.heap.IsTuple l2 ys ∧ R (.ok (.ret (.ref (hp4 false true s.heap l1 l2).objs.size))) { s with heap := hp5 false true s.heap l1 l2 }) :=
  .of_wp fun prog w A R s h => by
    obtain ⟨hp, g, d, tk, os⟩ := s
    obtain ⟨h1, h2, h3⟩ := h
    have sb := sub_zip
    have L1 : Heap.IsList (Shared.heap ⟨hp, g, d, tk, os⟩) l1 xs := h1
    have L2 : Heap.IsTuple (Shared.heap ⟨hp.push { cls := .type "list_iterator", data := .fields #[.ref l1, .int 0 0] }, g, d, tk, os⟩) l2 ys := Heap.IsTuple.push h2 _
    wp_walk using wpAny_pyIter_list L1, wpAny_pyIter_tuple L2
    exact ⟨_, rfl, h3⟩
theorem madeTF (l1 l2 : Addr) (xs ys : Array Value) : Meets (Builtin.«zip.__new__» ⟨[.type "zip", .ref l1, .ref l2], []⟩) (fun _ R s => s.heap.IsTuple l1 xs ∧ s.heap.IsList l2 ys ∧ R (.ok (.ret (.ref (hp4 true false s.heap l1 l2).objs.size))) { s with heap := hp5 true false s.heap l1 l2 }) :=
  .of_wp fun prog w A R s h => by
    obtain ⟨hp, g, d, tk, os⟩ := s
    obtain ⟨h1, h2, h3⟩ := h
    have sb := sub_zip
    have L1 : Heap.IsTuple (Shared.heap ⟨hp, g, d, tk, os⟩) l1 xs := h1
    have L2 : Heap.IsList (Shared.heap ⟨hp.push { cls := .type "tuple_iterator", data := .fields #[.ref l1, .int 0 0] }, g, d, tk, os⟩) l2 ys := Heap.IsList.push h2 _
    wp_walk using wpAny_pyIter_tuple L1, wpAny_pyIter_list L2
    exact ⟨_, rfl, h3⟩
theorem madeTT (l1 l2 : Addr) (xs ys : Array Value) : Meets (Builtin.«zip.__new__» ⟨[.type "zip", .ref l1, .ref l2], []⟩) (fun _ R s => s.heap.IsTuple l1 xs ∧ s.heap.IsTuple l2 ys ∧ R (.ok (.ret (.ref (hp4 true true s.heap l1 l2).objs.size))) { s with heap := hp5 true true s.heap l1 l2 }) := RZ.meets_zipT_new l1 l2 xs ys
theorem madeFF (l1 l2 : Addr) (xs ys : Array Value) : Meets (Builtin.«zip.__new__» ⟨[.type "zip", .ref l1, .ref l2], []⟩) (fun _ R s => s.heap.IsList l1 xs ∧ s.heap.IsList l2 ys ∧ R (.ok (.ret (.ref (hp4 false false s.heap l1 l2).objs.size))) { s with heap := hp5 false false s.heap l1 l2 }) := meets_zip_new l1 l2 xs ys
theorem made (b1 b2 : Bool) (l1 l2 : Addr) (xs ys : Array Value) : Meets (Builtin.«zip.__new__» ⟨[.type "zip", .ref l1, .ref l2], []⟩) (fun _ R s => Sto b1 s.heap l1 xs ∧ Sto b2 s.heap l2 ys ∧ R (.ok (.ret (.ref (hp4 b1 b2 s.heap l1 l2).objs.size))) { s with heap := hp5 b1 b2 s.heap l1 l2 }) := by
  cases b1 <;> cases b2
  · exact madeFF l1 l2 xs ys
  · exact madeFT l1 l2 xs ys
  · exact madeTF l1 l2 xs ys
  · exact madeTT l1 l2 xs ys
section
variable {prog : Program} {w : World} {A : Around} {E : Value → Shared → Prop} {s : Shared} {b1 b2 : Bool} {l1 l2 : Addr} {xs ys : Array Value}
theorem callZip {Q : Value → Shared → Prop} (t1 : Sto b1 s.heap l1 xs) (t2 : Sto b2 s.heap l2 ys)
    (q : ∀ g, Zp b1 b2 g (s.heap.objs.size + 4) (s.heap.objs.size + 2) (s.heap.objs.size + 3) s.heap.objs.size (s.heap.objs.size + 1) l1 l2 0 → (∀ c o, s.heap.get? c = some o → g.get? c = some o) → Q (.ref (s.heap.objs.size + 4)) { s with heap := g }) :
    wpAny (model prog w) A (call (.type "zip") [.ref l1, .ref l2]) Q E s := by
  refine callType_new F.called_zip (by decide) (F.typeCall_zip_2 _ _) (F.newCall_zip_2 _ _) (fun obj => F.args_object_init_3 obj _ _) F.entry_zip_new (made b1 b2 l1 l2 xs ys) ⟨t1, t2, ?_⟩
  have n1 : (hp1 b1 s.heap l1).objs.size = s.heap.objs.size + 1 := Heap.size_push ..
  have n2 : (hp2 b1 b2 s.heap l1 l2).objs.size = s.heap.objs.size + 2 := (Heap.size_push ..).trans (by rw [n1])
  have n3 : (hp3 b1 b2 s.heap l1 l2).objs.size = s.heap.objs.size + 3 := (Heap.size_push ..).trans (by rw [n2])
  have n4 : (hp4 b1 b2 s.heap l1 l2).objs.size = s.heap.objs.size + 4 := (Heap.size_push ..).trans (by rw [n3])
  have up : ∀ {h : Heap} {ob : Obj} {c o}, h.get? c = some o → (h.push ob).get? c = some o := fun e => Heap.get?_push_of_some _ e
  have r5 : (hp5 b1 b2 s.heap l1 l2).get? (hp4 b1 b2 s.heap l1 l2).objs.size = some _ := Heap.get?_push_size _ rfl
  have r4 : (hp5 b1 b2 s.heap l1 l2).get? (hp3 b1 b2 s.heap l1 l2).objs.size = some _ := up (Heap.get?_push_size _ rfl)
  have r3 : (hp5 b1 b2 s.heap l1 l2).get? (hp2 b1 b2 s.heap l1 l2).objs.size = some _ := up (up (Heap.get?_push_size _ rfl))
  have r2 : (hp5 b1 b2 s.heap l1 l2).get? (hp1 b1 s.heap l1).objs.size = some (itO b2 l2) := up (up (up (Heap.get?_push_size _ (by cases b2 <;> rfl))))
  have r1 : (hp5 b1 b2 s.heap l1 l2).get? s.heap.objs.size = some (itO b1 l1) := up (up (up (up (Heap.get?_push_size _ (by cases b1 <;> rfl)))))
  show _ ∧ _
  rw [n2, n3, n4] at r5
  rw [n1, n2] at r3
  rw [n3] at r4
  rw [n1] at r2
  rw [n4]
  have cur : ∀ {b : Bool} {h : Heap} {it l : Addr}, h.get? it = some (itO b l) → Cur b h it l 0 := fun {b h it l} e => by
    cases b with
    | true => exact ⟨_, e, rfl, rfl⟩
    | false => exact ⟨_, e, rfl, rfl⟩
  exact ⟨⟨_, r5, rfl⟩, q _ ⟨r5, r3, ⟨_, _, r4⟩, cur r1, cur r2⟩ fun c o e => up (up (up (up (up e))))⟩
end
end EZ

namespace EZ
open PySem PySem.Spec PyProof.Rows L2
/-- a tuple (true) or a list (false) of these at a -/
def SqB (K : PySem.W.Frag) (b : Bool) (H : Hp) (a : Addr) (xs : List V) : Prop := if b = true then SqT K H a xs else SqL K H a xs
section
variable {X : Cx} {pins : List (Addr × Obj)} {σ : L2.St} {H : Hp} {s : Shared} {b : Bool} {a : Addr} {xs ys : List V}
theorem sqb_raw (I : Inv X pins σ H s) (h : SqB X.K b H a xs) : ∃ its : List Value, Vals xs its ∧ Sto b s.heap a its.toArray ∧ a < s.heap.objs.size := by
  cases b with
  | true =>
    obtain ⟨its, r, p, _⟩ := I.tuple (show SqT X.K H a xs from h)
    obtain ⟨o, ho, _⟩ := id p
    exact ⟨its, r, p, Heap.lt_size ho⟩
  | false =>
    obtain ⟨its, r, p, _⟩ := I.list (show SqL X.K H a xs from h)
    exact ⟨its, r, p.isList, p.lt⟩
theorem sqb_inj (I : Inv X pins σ H s) (h : SqB X.K b H a xs) (h' : SqB X.K b H a ys) : xs = ys := by
  cases b with
  | true => exact I.tuple_inj h h'
  | false => exact I.list_inj h h'
end
/-- what a zip of the two yields: each time a new pair -/
def Itg (K : PySem.W.Frag) (b1 b2 : Bool) (a c : Addr) : It where
  go := fun i H => ∃ (xs ys : List V) (x y : V), (SqB K b1 H a xs ∧ SqB K b2 H c ys) ∧ xs[i]? = some x ∧ ys[i]? = some y
  yld := fun i H v H' => ∃ (T : Addr) (x y : V), (v = .ref T ∧ H T = none) ∧ H' = upd H T (.tup [x, y]) ∧ (∀ xs, SqB K b1 H a xs → xs[i]? = some x) ∧ ∀ ys, SqB K b2 H c ys → ys[i]? = some y
  stop := fun i H => ∃ xs ys : List V, (SqB K b1 H a xs ∧ SqB K b2 H c ys) ∧ (xs.length ≤ i ∨ ys.length ≤ i)
theorem five {z TI TO i1 i2 c : Addr} (h : c ∈ [z, TI, TO, i1, i2]) : c = z ∨ c = TI ∨ c = TO ∨ c = i1 ∨ c = i2 := by simpa using h
theorem turnG {P : Program} {w : World} {K : PySem.W.Frag} {b1 b2 : Bool} {elts : List Expr} {kk : Nat} {tpos : Pos} {a c z TI TO i1 i2 : Addr} (D : ZipApart z TI TO i1 i2 a c) :
    Turn P w K (.Tuple elts kk tpos) (Itg K b1 b2 a c) [z, TI, TO, i1, i2] z (fun i h => Zp b1 b2 h z TI TO i1 i2 a c i) where
  mem := List.mem_cons_self
  obj := fun i h Z d hd => by
    obtain ⟨Zz, Zi, ⟨x, y, Zo⟩, c1, c2⟩ := Z
    rcases five hd with rfl | rfl | rfl | rfl | rfl
    · exact ⟨_, Zz, fun v q => nomatch q⟩
    · exact ⟨_, Zi, fun v q => nomatch q⟩
    · exact ⟨_, Zo, fun v q => nomatch q⟩
    · obtain ⟨o, e, fs, df⟩ := c1.obj
      exact ⟨o, e, fun v q => by rw [df] at q; cases q⟩
    · obtain ⟨o, e, fs, df⟩ := c2.obj
      exact ⟨o, e, fun v q => by rw [df] at q; cases q⟩
  keep := fun i h g Z k => by
    obtain ⟨Zz, Zi, ⟨x, y, Zo⟩, c1, c2⟩ := Z
    exact ⟨k z (by simp) _ Zz, k TI (by simp) _ Zi, ⟨x, y, k TO (by simp) _ Zo⟩, c1.keep (k i1 (by simp)), c2.keep (k i2 (by simp))⟩
  item := by
    intro X hP hw hK hc i pins s σ H E I hf Z go
    subst hP hw hK
    obtain ⟨xs, ys, x, y, ⟨qx, qy⟩, hx, hy⟩ := go
    obtain ⟨us, r1, t1, _⟩ := sqb_raw I qx
    obtain ⟨vs, r2, t2, _⟩ := sqb_raw I qy
    obtain ⟨u, hu, ru⟩ := r1.get hx
    obtain ⟨v, hv, rv⟩ := r2.get hy
    have lz : z < s.heap.objs.size := Heap.lt_size Z.zip
    have Zi := Z.its
    have lti : ∀ d ∈ [z, TI, TO, i1, i2], d < s.heap.objs.size := fun d hd => by
      obtain ⟨x0, y0, Zo⟩ := Z.out
      rcases five hd with rfl | rfl | rfl | rfl | rfl
      · exact lz
      · exact Heap.lt_size Zi
      · exact Heap.lt_size Zo
      · obtain ⟨o, e, _⟩ := Z.one.obj
        exact Heap.lt_size e
      · obtain ⟨o, e, _⟩ := Z.two.obj
        exact Heap.lt_size e
    refine nextItem D Z t1 t2 (x := u) (y := v) (by simpa using hu) (by simpa using hv) fun g Z1 O1 d1 d2 T1 kp => ⟨_, rfl, ?_⟩
    refine wpAny_letOwnedTupleGo_zip (s := { s with heap := g }) Z1 fun g2 Z2 sb => ?_
    have sb2 : ∀ d o, d ≠ z → g.get? d = some o → g2.get? d = some o := fun d o n e => (sb.2 d n).trans e
    have T2 : IsPair g2 s.heap.objs.size u v := sb2 _ _ (Nat.ne_of_gt lz) T1
    have ob : ObjOk X.prog X.w (upd H s.heap.objs.size (.tup [x, y])) g2 s.heap.objs.size (.tup [x, y]) := ⟨by show 2 ≤ sizeLine; decide, [u, v], .cons ru (.cons rv .nil), _, T2, rfl, _, rfl⟩
    have off : ∀ d o, d ∉ [z, TI, TO, i1, i2] → s.heap.get? d = some o → g2.get? d = some o := fun d o hd e => by
      have n : d ≠ z ∧ d ≠ TI ∧ d ≠ TO ∧ d ≠ i1 ∧ d ≠ i2 := by simpa using hd
      exact sb2 d o n.1 (kp d o n.1 n.2.2.1 n.2.2.2.1 n.2.2.2.2 e)
    have J := I.turnedNew (t' := s.toks) off hf (Nat.le_refl _) ob
    refine ⟨.ref s.heap.objs.size, _, J, rfl, ⟨_, x, y, ⟨rfl, I.hok.fresh (Nat.le_refl _)⟩, rfl, fun l hl => by rw [sqb_inj I hl qx]; exact hx, fun l hl => by rw [sqb_inj I hl qy]; exact hy⟩, ⟨Z2, ?_, ⟨u, v, sb2 _ _ D.TOz O1⟩, d1.keep fun o => sb2 _ o D.i1z, d2.keep fun o => sb2 _ o D.i2z⟩, fun d hd => ?_⟩
    · exact sb2 _ _ D.TIz (kp _ _ D.TIz D.TITO D.TIi1 D.TIi2 Zi)
    · rw [upd_ne (Nat.ne_of_lt (lti d hd))]
      exact (hf d hd).1
  done := by
    intro X hP hw hK hc i pins s σ H E I hf Z go
    subst hP hw hK
    obtain ⟨xs, ys, ⟨qx, qy⟩, he⟩ := go
    obtain ⟨us, r1, t1, _⟩ := sqb_raw I qx
    obtain ⟨vs, r2, t2, _⟩ := sqb_raw I qy
    have n1 := r1.length
    have n2 := r2.length
    have he2 : us.toArray[i]? = none ∨ vs.toArray[i]? = none := he.imp (fun q => by simp; omega) fun q => by simp; omega
    refine nextEnd (I.ok.hd hc) D Z t1 t2 he2 fun g kp => ⟨rfl, I.turnedL (t' := s.toks) (ch := [z, TI, TO, i1, i2]) (fun d o hd e => ?_) hf⟩
    have n : d ≠ z ∧ d ≠ TI ∧ d ≠ TO ∧ d ≠ i1 ∧ d ≠ i2 := by simpa using hd
    exact kp d o n.1 n.2.2.1 n.2.2.2.1 n.2.2.2.2 e
  self := fun A i s Q E Z q => wpAny_pyIter_zip Z.zip q
def iZipG (K : PySem.W.Frag) (ta : TA) : TI := fun σ H R => ta σ H fun vs H1 => ∃ (a c : Addr) (b1 b2 : Bool) (xs ys : List V), vs = [.ref a, .ref c] ∧ (SqB K b1 H1 a xs ∧ SqB K b2 H1 c ys) ∧ R (Itg K b1 b2 a c) H1
theorem pi_zipG {X : Cx} {e e2 : Expr} {ta : TA} {p pos tpos : Pos} {elts : List Expr} {kk : Nat} (hg : Gl X "zip") (hm : X.mg "zip" = none) (ha : PA X [e, e2] ta)
    (h1 : starEach [e, e2] X.env = (false, eval e X.env) :: starEach [e2] X.env := by rfl) (h2 : (backTo pos (starEach [e2] X.env)).any (·.1) = false := by rfl) : PI X (.Tuple elts kk tpos) (.Call (.Name "zip" p) [e, e2] [] pos) (iZipG X.K ta) := by
  refine ⟨fun pins s σ H R I h => Call_ (ld_blt I hg hm PyProof.Rows.boot_zip ?_)⟩
  refine PyProof.Rows.callWith_type1 (thn (ha.run pos pins s σ H _ I h) fun us s1 ⟨vs, H1, I1, r1, q1⟩ => ?_) h1 h2
  obtain ⟨a, c, b1, b2, xs, ys, rfl, ⟨qx, qy⟩, q⟩ := q1
  obtain ⟨u1, u2, rfl, ru1, ru2⟩ := vals2 r1
  cases ru1
  cases ru2
  obtain ⟨us, _, t1, la⟩ := sqb_raw I1 qx
  obtain ⟨vs, _, t2, lc⟩ := sqb_raw I1 qy
  refine callZip t1 t2 fun g Z kp => wpAny_pyIter_zip Z.zip ?_
  have I2 : Inv X pins σ H1 { s1 with heap := g } := I1.kept (t' := s1.toks) kp
  refine ⟨s1.heap.objs.size + 4, _, _, _, H1, rfl, I2, turnG (PySem.W.ktu_apart s1.heap.objs.size a c la lc), Z, fun d hd => ?_, q⟩
  have hle : s1.heap.objs.size ≤ d := by
    rcases five hd with rfl | rfl | rfl | rfl | rfl
    · exact Nat.le_add_right _ _
    · exact Nat.le_add_right _ _
    · exact Nat.le_add_right _ _
    · exact Nat.le_refl _
    · exact Nat.le_add_right _ _
  exact I1.fpOk hle (I1.hok.fresh hle)
end EZ

/-! sets of whole numbers out of a list or a tuple: how many, and in their order -/
namespace ES
open PySem PySem.Spec PyProof.Rows L2
abbrev newS (w : World) : Obj := { cls := .type "set", dict := none, data := .set #[] 0 (.fresh 0 0 (!w.params.followText "set-order")) }
section
variable {P : Program} {w : World} {A : Around} {E : Value → Shared → Prop} {s : Shared}
set_option maxHeartbeats 3200000 in
theorem call_set_listI {l : Addr} {items : Array Value} (ns : List Int) {Q : Value → Shared → Prop} (hh : A.handled = none) (hl : s.heap.IsList l items) (hit : IntsAre items.toList ns) (hb : ns.length + 1 < scanBound)
    (q : ∀ (g : Heap) (tk c : Nat), SetR w g s.heap.objs.size (fun j => decide (j ∈ ns)) c → c ≤ ns.length → (∀ b o, s.heap.get? b = some o → g.get? b = some o) → Q (.ref s.heap.objs.size) { s with heap := g, toks := tk }) :
    wpAny (model P w) A (call (.type "set") [.ref l]) Q E s := by
  have n0 : items.size = ns.length := (Array.length_toList (xs := items)).symm.trans (IntsAre.length hit)
  obtain ⟨cm, tl, hmro⟩ := F.called_set.mro
  have hmade := F.called_set.made
  have hsub := F.called_set.sub
  apply wpAny_call
  refine codeAny_of_tree ?_
  show wpAny _ _ (callAny (.type "set") _) _ _ _
  apply wpAny_pure
  refine ⟨Code.quiet_builtin _ (by decide +kernel), codeAny_builtin F.entry_type_call ?_⟩
  rw [Around.under_plain (weight_type_call_type "set" [.ref l] []) rfl]
  have h1 := F.called_set.notType
  have h2 := F.called_set.canCreate
  have hct := F.typeCall_set_1 (.ref l)
  repeat (any_goals (first | assumption | wp_step))
  refine codeAny_mono (code_set_led1 (.ref l) (E := E) (Q₁ := fun ob t => ob = .ref s.heap.objs.size ∧ t = { s with heap := s.heap.push (newS w) }) ⟨rfl, rfl⟩) fun r t hr => ?_
  cases r with
  | error e => exact hr
  | ok fl =>
    cases fl with
    | ret ob =>
      obtain ⟨rfl, rfl⟩ := hr
      have e0 : (s.heap.push (newS w)).get? s.heap.objs.size = some (newS w) := Heap.get?_push_size _ rfl
      have ty : Shared.TypeIs { s with heap := s.heap.push (newS w) } (.ref s.heap.objs.size) "set" := ⟨_, e0, rfl⟩
      have hli := F.called_set.init.lookup
      have hbi := F.called_set.init.bind (.ref s.heap.objs.size)
      repeat (any_goals (first | assumption | wp_step))
      refine codeAny_mono (codeAny_call_builtin (R := wants (fun r t => r = .none ∧ ∃ g tk c, t = { s with heap := g, toks := tk } ∧ SetR w g s.heap.objs.size (fun j => decide (j ∈ ns)) c ∧ c ≤ ns.length ∧ (∀ b o, s.heap.get? b = some o → g.get? b = some o)) E)
        F.called_set.init.plain F.entry_set_init (check_set_init_1 ty ?_)) fun r2 t2 hr2 => ?_
      · obtain ⟨ol, hol, hcl, nl, hdl⟩ := hl
        obtain ⟨ocls, odict, odata, oslots⟩ := ol
        simp only at hcl hdl
        subst hcl
        subst hdl
        have hol2 : (s.heap.push (newS w)).get? l = some { cls := .type "list", dict := odict, data := .seq items nl, slots := oslots } := Heap.get?_push_of_some _ hol
        have sb1 := F.sub_list_set
        have sb2 := F.sub_list_frozenset
        have nd : (Value.type "list" == Value.type "dict") = false := by decide
        have isl : (s.heap.push (newS w)).IsList l items := ⟨_, hol2, rfl, nl, rfl⟩
        unfold Builtin.«set.__init__» noKeywords Builtin.Frozenset.updateFrom
        generalize hPI : pyIter = PI
        wp_walk
        subst hPI
        refine wpAny_pyIter_list isl ?_
        apply wpAny_bind
        apply wpAny_runValue
        have ll : l < s.heap.objs.size := Heap.lt_size hol
        have h3 : A.in1.in1.in1.handled = none := by simp [hh]
        have sz : (s.heap.push (newS w)).objs.size = s.heap.objs.size + 1 := Heap.size_push ..
        have nI : l ≠ (s.heap.push (newS w)).objs.size := by
          rw [sz]
          exact Nat.ne_of_lt (Nat.lt_succ_of_lt ll)
        have nS : s.heap.objs.size ∉ [(s.heap.push (newS w)).objs.size, l] := by
          rw [sz]
          intro z
          rcases List.mem_cons.mp z with z | z
          · exact absurd z (Nat.ne_of_lt (Nat.lt_succ_self _))
          · exact absurd (List.mem_singleton.mp z) (Nat.ne_of_gt ll)
        have val : ∀ (i : Nat) (v : Value), items[i]? = some v → ∃ k t, ns[i]? = some k ∧ v = .int k t := fun i v hv => by
          have hi : i < ns.length := n0 ▸ (Array.getElem?_eq_some_iff.mp hv).1
          obtain ⟨t, e⟩ := PyProof.Rows.IntsAre.int_at hit i v (by rw [Array.getElem?_toList]; exact hv)
          refine ⟨ns[i], t, List.getElem?_eq_getElem hi, ?_⟩
          rw [e, List.getD_eq_getElem?_getD, List.getElem?_eq_getElem hi]
          rfl
        refine set_update_ints ((Walks.list h3 _ l nI items).toS) s.heap.objs.size nS ns n0 hb val (items.size - 0) 0 _ (by omega) (Nat.zero_le _) ⟨⟨_, Heap.get?_push_size _ rfl, rfl, rfl⟩, isl.push _⟩ ⟨0, Nat.le_refl 0, setR_new_at (Heap.get?_push_of_some _ e0)⟩ fun t c hm hc hS => ?_
        obtain ⟨g, g2, d2, tk2, os2⟩ := t
        cases (show g2 = s.gens from hm.gens)
        cases (show d2 = s.drawn from hm.drawn)
        cases (show os2 = s.os from hm.os)
        show wpAny _ _ _ _ _ _
        apply wpAny_pure
        show wpAny _ _ (ret Value.none) _ _ _
        apply wpAny_pure
        refine ⟨rfl, g, tk2, c, rfl, hS, n0 ▸ hc, fun b o e => ?_⟩
        have lb : b < s.heap.objs.size := Heap.lt_size e
        refine hm.heap b o (fun z => ?_) (Heap.get?_push_of_some _ (Heap.get?_push_of_some _ e))
        rcases List.mem_cons.mp z with z | z
        · exact absurd z (Nat.ne_of_lt lb)
        · have z := List.mem_singleton.mp z
          rw [sz] at z
          exact absurd z (Nat.ne_of_lt (Nat.lt_succ_of_lt lb))
      · cases r2 with
        | error e => exact hr2
        | ok f2 =>
          cases f2 with
          | ret v =>
            obtain ⟨rfl, g, tk, c, rfl, hS, hc, kp⟩ := hr2
            repeat (any_goals (first | assumption | wp_step))
            exact q g tk c hS hc kp
          | _ => exact hr2
    | _ => exact hr
end
section
variable {X : Cx}
/-- set(xs), xs a list or a tuple of whole numbers -/
def rSetI (K : PySem.W.Frag) (w : World) : List V → Hp → VK → Prop := fun xs H Q => ∃ (l : Addr) (ns : List Int), xs = [V.ref l] ∧ (SqL K H l (ns.map V.int) ∨ SqT K H l (ns.map V.int)) ∧ ns.length < 64 ∧ ∀ (a : Addr) (c : Nat), H a = none → c ≤ ns.length → Q (.ref a) (upd H a (SetO w a (fun j => decide (j ∈ ns)) c))
theorem cr_setI (hc : X.calm = true) : CallR X (.type "set") (rSetI X.K X.w) := by
  intro pins s σ H xs us Q I r h
  obtain ⟨l, ns, rfl, hl, hn, q⟩ := h
  rw [Vals.ref1 r]
  have new : H s.heap.objs.size = none := I.hok.fresh (Nat.le_refl _)
  have fin : ∀ (g : Heap) (tk c : Nat), SetR X.w g s.heap.objs.size (fun j => decide (j ∈ ns)) c → c ≤ ns.length → (∀ b o, s.heap.get? b = some o → g.get? b = some o) → ∃ (v : V) (H' : Hp), Inv X pins σ H' { s with heap := g, toks := tk } ∧ RelV v (.ref s.heap.objs.size) ∧ Q v H' := fun g tk c R hc k =>
    ⟨.ref s.heap.objs.size, _, I.laid (t' := tk) k (Nat.le_refl _) (setO_new R), rfl, q _ c new hc⟩
  have bound : ns.length + 1 < scanBound := by unfold scanBound; omega
  rcases hl with hl | hl
  · obtain ⟨its, rv, pl, _⟩ := I.list hl
    exact call_set_listI ns (I.ok.hd hc) pl.isList (by simpa using rv.ints) bound fin
  · obtain ⟨its, rv, pl, _⟩ := I.tuple hl
    exact call_set_tupI ns (I.ok.hd hc) (show s.heap.IsTuple l its.toArray from pl) (by simpa using rv.ints) bound fin
/-- len(s) of a set -/
def rLenS (w : World) : List V → Hp → VK → Prop := fun xs H Q => ∃ (a : Addr) (S : Int → Bool) (n : Nat), xs = [V.ref a] ∧ H a = some (SetO w a S n) ∧ ∀ m : List Int, m.Nodup → (∀ k, k ∈ m ↔ S k = true) → m.length = n → Q (.int (n : Int)) H
theorem cr_lenS (hc : X.calm = true) : CallR X (.builtin "len") (rLenS X.w) := by
  intro pins s σ H xs us Q I r h
  obtain ⟨a, S, n, rfl, ha, q⟩ := h
  rw [Vals.ref1 r]
  obtain ⟨o, es, ep, t, ho, hx, hd, g, nd, hm, hb, hf, hn, _⟩ := setO_get I ha
  refine call_len_set ho hx hd hf (by unfold scanBound at hb; omega) ?_
  rw [hn]
  exact ⟨.int (n : Int), H, I.tok _, ⟨_, rfl⟩, q (es.toList.map keyOf) nd (fun k => (hm k).symm) (by rw [List.length_map, Array.length_toList]; exact hn)⟩
end
end ES

namespace EL
open PySem PySem.Spec PyProof.Rows L2 ES
variable [TabC]
variable {K : PySem.W.Frag} {w : World} {ρ : List Sl} {te : TE}
/-- whole numbers in a list or a tuple -/
def intsD (b : Bool) (ns : List Int) : D := if b = true then .tuple (ns.map .int) else .list (ns.map .int)
theorem dq_ints {H H0 : Hp} {v : V} {b : Bool} {ns : List Int} (s : Same H0 H) (k : Dq K H H0 v (intsD b ns)) : ∃ l, v = .ref l ∧ (SqL K H l (ns.map V.int) ∨ SqT K H l (ns.map V.int)) := by
  cases b with
  | true =>
    obtain ⟨a, rfl, h⟩ := sqT_ints s (show Dq K H H0 v (.tuple (ns.map .int)) from k)
    exact ⟨a, rfl, .inr h⟩
  | false =>
    obtain ⟨a, xs, rfl, h1, h2⟩ := (show Dq K H H0 v (.list (ns.map .int)) from k).lst s
    rw [dpa_ints h2] at h1
    exact ⟨a, rfl, .inl h1⟩
/-- sorted(set(numbers)) -/
theorem ev_sortSet {b : Bool} {ns out : List Int} (h : EvQ K te ρ (intsD b ns)) (hn : ns.length < 64) (ho : out.Pairwise (· < ·)) (hm : ∀ k, k ∈ out ↔ k ∈ ns) : EvF K (tCB (rSortedSet w) (tCons (tCB (rSetI K w) (tCons te tNil)) tNil)) ρ (out.map .int) := fun B B0 σ H H0 r Q q =>
  h B B0 σ H H0 r _ fun v H1 H01 w1 k1 => by
    obtain ⟨l, rfl, hl⟩ := dq_ints w1.sub k1
    refine ⟨l, ns, rfl, hl, hn, fun a c na hc => ⟨a, _, c, rfl, upd_same, by omega, fun ms p hs hmem _ np => ?_⟩⟩
    have e : ms = out := List.Perm.eq_of_pairwise (le := fun x y : Int => x < y) (fun x y _ _ h1 h2 => absurd h1 (by omega)) hs ho ((List.perm_ext_iff_of_nodup (hs.imp fun h => Int.ne_of_lt h) (ho.imp fun h => Int.ne_of_lt h)).mpr fun k => by rw [hmem, hm]; exact decide_eq_true_iff)
    rw [e]
    have w2 : Wd H1 H01 (upd H1 a (SetO w a (fun j => decide (j ∈ ns)) c)) H01 := .dirty w1.sub na
    have w3 := w2.trans (.dirty (o := HO.lst (out.map V.int)) w2.sub np)
    exact q p (out.map V.int) _ H01 (w1.trans w3) (w1.e.free (w2.e.free np)) upd_same (sub_none w2.sub np) (dpa_of_ints out)
/-- len(set(numbers)) -/
theorem ev_lenSet {b : Bool} {ns out : List Int} (h : EvQ K te ρ (intsD b ns)) (hn : ns.length < 64) (ho : out.Nodup) (hm : ∀ k, k ∈ out ↔ k ∈ ns) : EvD K (tCB (rLenS w) (tCons (tCB (rSetI K w) (tCons te tNil)) tNil)) ρ (.int ((out.length : Nat) : Int)) := fun B B0 σ H H0 r Q q =>
  h B B0 σ H H0 r _ fun v H1 H01 w1 k1 => by
    obtain ⟨l, rfl, hl⟩ := dq_ints w1.sub k1
    refine ⟨l, ns, rfl, hl, hn, fun a c na hc => ⟨a, _, c, rfl, upd_same, fun m hd hmem hlen => ?_⟩⟩
    have e : m.length = out.length := List.Perm.length_eq ((List.perm_ext_iff_of_nodup hd ho).mpr fun k => by rw [hmem, hm]; exact decide_eq_true_iff)
    have w2 : Wd H1 H01 (upd H1 a (SetO w a (fun j => decide (j ∈ ns)) c)) H01 := .dirty w1.sub na
    have ec : c = out.length := hlen.symm.trans e
    subst ec
    exact q _ _ H01 (w1.trans w2) (.int _)
/-! ### zip of two sequences of any kind -/
def seqOf (b : Bool) (ds : List D) : D := if b = true then .tuple ds else .list ds
theorem dp_seq {H : Hp} {v : V} {b : Bool} {ds : List D} (k : Dp K H v (seqOf b ds)) : ∃ a xs, v = .ref a ∧ EZ.SqB K b H a xs ∧ DpAll K H xs ds := by
  cases b with
  | true =>
    cases (show Dp K H v (.tuple ds) from k) with
    | tup h1 h2 => exact ⟨_, _, rfl, h1, h2⟩
  | false =>
    cases (show Dp K H v (.list ds) from k) with
    | lst h1 h2 => exact ⟨_, _, rfl, h1, h2⟩
theorem sqb_mono {H H' : Hp} {b : Bool} {a : Addr} {xs : List V} (e : Same H H') (h : EZ.SqB K b H a xs) : EZ.SqB K b H' a xs := by
  cases b with
  | true => exact sqT_mono e h
  | false => exact Same.seq e h
theorem it_zipG {H0 : Hp} {b1 b2 : Bool} {a c : Addr} {xs ys : List V} {ds es : List D} (h1 : EZ.SqB K b1 H0 a xs) (h2 : DpAll K H0 xs ds) (g1 : EZ.SqB K b2 H0 c ys) (g2 : DpAll K H0 ys es) : ItOk K (EZ.Itg K b1 b2 a c) H0 (List.zipWith (fun x y => .tuple [x, y]) ds es) := fun i H' H0' s1 s2 => by
  have h3 := sqb_mono (s1.trans s2) h1
  have g3 := sqb_mono (s1.trans s2) g1
  constructor
  · intro hi
    refine ⟨xs, ys, ⟨h3, g3⟩, ?_⟩
    rw [List.length_zipWith] at hi
    rw [dpa_len h2, dpa_len g2]
    omega
  · intro d e
    rw [List.getElem?_zipWith] at e
    cases e1 : ds[i]? with
    | none => rw [e1] at e; cases e
    | some x =>
      cases e2 : es[i]? with
      | none => rw [e1, e2] at e; cases e
      | some y =>
        rw [e1, e2] at e
        cases e
        obtain ⟨u, hu, ku⟩ := dpa_get h2 e1
        obtain ⟨v, hv, kv⟩ := dpa_get g2 e2
        refine ⟨⟨xs, ys, u, v, ⟨h3, g3⟩, hu, hv⟩, fun z H2 hy => ?_⟩
        obtain ⟨T, u', v', ⟨rfl, hT⟩, rfl, f1, f2⟩ := hy
        have e3 := f1 xs h3
        rw [hu] at e3; cases e3
        have e4 := f2 ys g3
        rw [hv] at e4; cases e4
        have s5 : Same H0' (upd H0' T (.tup [u, v])) := same_new (sub_none s2 hT)
        refine ⟨upd H0' T (.tup [u, v]), .clean s2 hT, .tup (.of upd_same) (.cons (dp_mono (s1.trans s5) ku) (.cons (dp_mono (s1.trans s5) kv) .nil))⟩
theorem ei_zipG {t : TA} {b1 b2 : Bool} {ds es : List D} (h : EvC K t ρ [seqOf b1 ds, seqOf b2 es]) : Ev_It K (EZ.iZipG K t) ρ (List.zipWith (fun x y => .tuple [x, y]) ds es) := fun B B0 σ H H0 r R q => h B B0 σ H H0 r _ fun vs H1 H01 w1 k => by
  cases k with
  | cons k1 k =>
    cases k with
    | cons k2 k =>
      cases k
      obtain ⟨a, xs, rfl, h1, h2⟩ := dp_seq k1
      obtain ⟨c, ys, rfl, g1, g2⟩ := dp_seq k2
      exact ⟨a, c, b1, b2, xs, ys, rfl, ⟨sqb_mono w1.sub h1, sqb_mono w1.sub g1⟩, q _ H1 H01 w1 (it_zipG h1 h2 g1 g2)⟩
end EL
namespace EK
open PySem PySem.Spec PyProof.Rows L2 EL
variable [TabC]
variable {X : Cx} {K : PySem.W.Frag} {w : World}
theorem setI (hc : X.calm = true) (hK : X.K = K := by rfl) (hw : X.w = w := by rfl) : CallR X (.type "set") (ES.rSetI K w) := hK ▸ hw ▸ ES.cr_setI hc
theorem sortS (hc : X.calm = true) (hw : X.w = w := by rfl) : CallR X (.builtin "sorted") (rSortedSet w) := hw ▸ cr_sortedSet hc
theorem lenS (hc : X.calm = true) (hw : X.w = w := by rfl) : CallR X (.builtin "len") (ES.rLenS w) := hw ▸ ES.cr_lenS hc
theorem zipG {e e2 : Expr} {ta : TA} {p pos tpos : Pos} {elts : List Expr} {kk : Nat} (hg : Gl X "zip") (hm : X.mg "zip" = none) (ha : PA X [e, e2] ta)
    (h1 : starEach [e, e2] X.env = (false, eval e X.env) :: starEach [e2] X.env := by rfl) (h2 : (backTo pos (starEach [e2] X.env)).any (·.1) = false := by rfl) (hK : X.K = K := by rfl) :
    PI X (.Tuple elts kk tpos) (.Call (.Name "zip" p) [e, e2] [] pos) (EZ.iZipG K ta) := hK ▸ EZ.pi_zipG hg hm ha h1 h2
end EK

namespace EL
open PySem PySem.Spec PyProof.Rows L2
variable [TabC]
variable {K : PySem.W.Frag}
/-! ### sorted of whole numbers in a list or a tuple -/
def rSortIT (K : PySem.W.Frag) : List V → Hp → VK → Prop := fun vs H Q => ∃ (a : Addr) (ns : List Int), vs = [V.ref a] ∧ SqT K H a (ns.map V.int) ∧ ∀ (ms : List Int) (p : Addr), ms.Perm ns → ms.Pairwise (· ≤ ·) → H p = none → Q (.ref p) (upd H p (.lst (ms.map V.int)))
theorem cr_sortIT {X : Cx} : CallR X (.builtin "sorted") (rSortIT X.K) := by
  intro pins s σ H vs us Q I r h
  obtain ⟨a, ns, rfl, hs, q⟩ := h
  obtain ⟨its, rv, hl, hz⟩ := I.tuple hs
  have hi := rv.ints
  rw [Vals.ref1 r]
  refine ET.sorted_tupO SrtO.swo_int hl (rv.length ▸ hz) (fun h2 g b hg hk => SrtO.ints_sortable (s := { s with heap := g }) hi h2) fun g1 g2 d out h1 h2 kp1 kp2 hd hn => ?_
  obtain ⟨k1, k2, k3⟩ := SrtO.ints_out hi h1 h2
  obtain ⟨n, hn⟩ := hn
  have J := I.kept (t' := s.toks) kp1
  have len : ((out.map SrtO.iv).map V.int).length ≤ sizeLine := by
    have e := k2.length_eq
    have z := hz
    rw [List.length_map] at z ⊢
    omega
  exact ⟨.ref d, upd H d (.lst ((out.map SrtO.iv).map V.int)), J.laid (t' := s.toks) kp2 hd ⟨len, out, n, vals_of_ints k1, hn⟩, rfl, q _ d k2 k3 (J.hok.fresh hd)⟩
def rSortIA (K : PySem.W.Frag) : List V → Hp → VK → Prop := fun vs H Q => rSortedI K vs H Q ∨ rSortIT K vs H Q
theorem cr_sortIA {X : Cx} : CallR X (.builtin "sorted") (rSortIA X.K) := cr_sortedI.or cr_sortIT
theorem cf_sortIA {b : Bool} {ns : List Int} : CF K (rSortIA K) [intsD b ns] ((sortI ns).map .int) := fun H H0 vs s k Q q => by
  obtain ⟨v, rfl, kk⟩ := dq1 k
  have e : ∀ {ms : List Int}, ms.Perm ns → ms.Pairwise (· ≤ ·) → ms = sortI ns := fun h1 h2 => sortI_uniq (h1.trans (sortI_perm' ns).symm) h2 (sortI_sorted ns)
  have fin : ∀ (ms : List Int) (p : Addr), ms.Perm ns → ms.Pairwise (· ≤ ·) → H p = none → Q (.ref p) (upd H p (.lst (ms.map V.int))) := fun ms p h1 h2 np => by
    rw [e h1 h2]
    exact q p _ _ H0 (.dirty s np) np upd_same (sub_none s np) (dpa_of_ints _)
  cases b with
  | true =>
    obtain ⟨a, rfl, h⟩ := sqT_ints s (show Dq K H H0 v (.tuple (ns.map .int)) from kk)
    exact .inr ⟨a, ns, rfl, h, fin⟩
  | false =>
    obtain ⟨a, xs, rfl, h1, h2⟩ := (show Dq K H H0 v (.list (ns.map .int)) from kk).lst s
    rw [dpa_ints h2] at h1
    exact .inl ⟨a, ns, rfl, h1, fin⟩
end EL
namespace EK
open PySem PySem.Spec PyProof.Rows L2 EL
variable [TabC]
variable {X : Cx} {K : PySem.W.Frag}
theorem sortIA (hK : X.K = K := by rfl) : CallR X (.builtin "sorted") (rSortIA K) := hK ▸ cr_sortIA
end EK

/-! list(zip(..)): the pairs stay, so each turn makes a new one -/
namespace EZ
open PySem
/-- a zip at z whose last pair T still stands -/
structure Zh (b1 b2 : Bool) (h : Heap) (z TI TO i1 i2 l1 l2 : Addr) (k : Nat) : Prop where
  zip : ∃ T f a b, IsZipHeld h z TI TO T f ∧ IsPair h T a b
  its : IsPair h TI (.ref i1) (.ref i2)
  one : Cur b1 h i1 l1 k
  two : Cur b2 h i2 l2 k
section
variable {prog : Program} {w : World} {A : Around} {E : Value → Shared → Prop} {s : Shared} {b1 b2 : Bool} {z TI TO i1 i2 l1 l2 : Addr} {k : Nat} {xs ys : Array Value}
theorem heldItem {x y : Value} {Q : Value → Shared → Prop} (D : ZipApart z TI TO i1 i2 l1 l2) (Z : Zh b1 b2 s.heap z TI TO i1 i2 l1 l2 k) (t1 : Sto b1 s.heap l1 xs) (t2 : Sto b2 s.heap l2 ys) (hx : xs[k]? = some x) (hy : ys[k]? = some y)
    (q : ∀ g, (∃ T a b, IsZipHeld g z TI TO T true ∧ IsPair g T a b) → Cur b1 g i1 l1 (k + 1) → Cur b2 g i2 l2 (k + 1) → IsPair g s.heap.objs.size x y → Kept z TO i1 i2 s.heap g → Q (.ref s.heap.objs.size) { s with heap := g }) :
    wpAny (model prog w) A (Builtin.«zip.__next__» ⟨[.ref z], []⟩) (fun f t => ∃ v, f = .done (.ret v) ∧ Q v t) E s := by
  obtain ⟨⟨T, f, a, b, Zz, hT⟩, Zi, c1, c2⟩ := Z
  show wpAny _ _ (field (.ref z) 2 >>= _) _ _ _
  apply wpAny_bind
  apply wpAny_field Zz rfl (x := .bool false) rfl
  show wpAny _ _ (field (.ref z) 3 >>= _) _ _ _
  apply wpAny_bind
  apply wpAny_field Zz rfl (x := .ref TI) rfl
  apply wpAny_bind
  apply wpAny_seqItems Zi rfl
  show wpAny _ _ (Builtin.SmallTypes.ownedTupleIsFree (.ref z) >>= _) _ _ _
  apply wpAny_bind
  refine wpAny_tupleHeld_zip Zz hT fun g1 Z1 u1 => ?_
  have z1 := u1.1
  have u1 := u1.extBut
  simp only [Bool.false_eq_true, if_false]
  apply wpAny_bind
  rw [← Array.forIn_toList]
  simp only [List.forIn_cons, List.forIn_nil]
  apply wpAny_bind
  apply wpAny_bind
  apply wpAny_holding
  show wpAny _ _ (Builtin.SmallTypes.nextOf (.ref i1) >>= _) _ _ _
  apply wpAny_bind
  refine draw (s := { s with heap := g1 }) (c1.keep fun o => u1 _ o D.i1z) (t1.keep fun o => u1 _ o D.l1z) hx fun g2 d1 u2 => ?_
  have z2 := u2.1
  have u2 := u2.extBut
  apply wpAny_pure
  apply wpAny_pure
  apply wpAny_bind
  apply wpAny_bind
  apply wpAny_holding
  show wpAny _ _ (Builtin.SmallTypes.nextOf (.ref i2) >>= _) _ _ _
  apply wpAny_bind
  refine draw (s := { s with heap := g2 }) ((c2.keep fun o => u1 _ o D.i2z).keep fun o => u2 _ o D.i12.symm) ((t2.keep fun o => u1 _ o D.l2z).keep fun o => u2 _ o D.l2i1) hy fun g3 d2 u3 => ?_
  have z3 := u3.1
  have u3 := u3.extBut
  apply wpAny_pure
  apply wpAny_pure
  apply wpAny_pure
  show wpAny _ _ (newTuple [x, y] >>= _) _ _ _
  apply wpAny_bind
  refine wpAny_newTuple ?_
  have hs : g3.objs.size = s.heap.objs.size := by rw [z3, z2, z1]
  have nz : T ≠ z := fun e => by
    rw [e] at hT
    have q := congrArg (Option.map Obj.data) (hT.symm.trans Zz)
    cases q
  have ni : ∀ {bb : Bool} {it l : Addr}, Cur bb s.heap it l k → T ≠ it := fun c e => by
    obtain ⟨o, ho, fs, hd⟩ := c.obj
    rw [e] at hT
    have q := hT.symm.trans ho
    cases q
    cases hd
  have hT3 : IsPair g3 T a b := u3 _ _ (ni c2) (u2 _ _ (ni c1) (u1 _ _ nz hT))
  have Z3 : IsZipHeld g3 z TI TO T true := u3 _ _ D.i2z.symm (u2 _ _ D.i1z.symm Z1)
  have d13 : Cur b1 g3 i1 l1 (k + 1) := d1.keep fun o => u3 _ o D.i12
  apply wpAny_pure
  refine ⟨_, rfl, ?_⟩
  show Q (.ref g3.objs.size) _
  have up : ∀ c o, g3.get? c = some o → (g3.push { cls := .type "tuple", data := .seq #[x, y] }).get? c = some o := fun c o e => Heap.get?_push_of_some _ e
  have P : IsPair (g3.push { cls := .type "tuple", data := .seq #[x, y] }) g3.objs.size x y := Heap.get?_push_size _ rfl
  rw [hs] at P ⊢
  exact q _ ⟨T, a, b, up _ _ Z3, up _ _ hT3⟩ (d13.keep fun o => up _ o) (d2.keep fun o => up _ o) P fun c o n1 _ n3 n4 e => up _ _ (u3 _ _ n4 (u2 _ _ n3 (u1 _ _ n1 e)))
theorem heldEnd {Q : Fin → Shared → Prop} (hh : A.handled = none) (D : ZipApart z TI TO i1 i2 l1 l2) (Z : Zh b1 b2 s.heap z TI TO i1 i2 l1 l2 k) (t1 : Sto b1 s.heap l1 xs) (t2 : Sto b2 s.heap l2 ys) (he : xs[k]? = none ∨ ys[k]? = none)
    (q : ∀ g e, Kept z TO i1 i2 s.heap g → (∃ o, g.get? e = some o ∧ o.cls = .type "StopIteration") → E (.ref e) { s with heap := g }) :
    wpAny (model prog w) A (Builtin.«zip.__next__» ⟨[.ref z], []⟩) Q E s := by
  obtain ⟨⟨T, f, a, b, Zz, hT⟩, Zi, c1, c2⟩ := Z
  show wpAny _ _ (field (.ref z) 2 >>= _) _ _ _
  apply wpAny_bind
  apply wpAny_field Zz rfl (x := .bool false) rfl
  show wpAny _ _ (field (.ref z) 3 >>= _) _ _ _
  apply wpAny_bind
  apply wpAny_field Zz rfl (x := .ref TI) rfl
  apply wpAny_bind
  apply wpAny_seqItems Zi rfl
  show wpAny _ _ (Builtin.SmallTypes.ownedTupleIsFree (.ref z) >>= _) _ _ _
  apply wpAny_bind
  refine wpAny_tupleHeld_zip Zz hT fun g1 Z1 u1 => ?_
  have u1 := u1.extBut
  simp only [Bool.false_eq_true, if_false]
  apply wpAny_bind
  rw [← Array.forIn_toList]
  simp only [List.forIn_cons, List.forIn_nil]
  apply wpAny_bind
  apply wpAny_bind
  apply wpAny_holding
  show wpAny _ _ (Builtin.SmallTypes.nextOf (.ref i1) >>= _) _ _ _
  apply wpAny_bind
  have c11 : Cur b1 g1 i1 l1 k := c1.keep fun o => u1 _ o D.i1z
  have t11 : Sto b1 g1 l1 xs := t1.keep fun o => u1 _ o D.l1z
  cases hx : xs[k]? with
  | none => exact drawEnd (s := { s with heap := g1 }) hh c11 t11 hx fun g2 e u2 hs => q g2 e (fun c o n1 _ n3 _ x => u2 _ _ n3 (u1 _ _ n1 x)) hs
  | some x =>
    have hy : ys[k]? = none := he.elim (fun z => by rw [hx] at z; cases z) id
    refine draw (s := { s with heap := g1 }) c11 t11 hx fun g2 d1 u2 => ?_
    have u2 := u2.extBut
    apply wpAny_pure
    apply wpAny_pure
    apply wpAny_bind
    apply wpAny_bind
    apply wpAny_holding
    show wpAny _ _ (Builtin.SmallTypes.nextOf (.ref i2) >>= _) _ _ _
    apply wpAny_bind
    exact drawEnd (s := { s with heap := g2 }) hh ((c2.keep fun o => u1 _ o D.i2z).keep fun o => u2 _ o D.i12.symm) ((t2.keep fun o => u1 _ o D.l2z).keep fun o => u2 _ o D.l2i1) hy fun g3 e u3 hs => q g3 e (fun c o n1 _ n3 n4 x => u3 _ _ n4 (u2 _ _ n3 (u1 _ _ n1 x))) hs
/-- free or held: the next item, or none -/
def Zx (b1 b2 : Bool) (h : Heap) (z TI TO i1 i2 l1 l2 : Addr) (k : Nat) : Prop := Zp b1 b2 h z TI TO i1 i2 l1 l2 k ∨ Zh b1 b2 h z TI TO i1 i2 l1 l2 k
theorem Zx.keep {h g : Heap} (Z : Zx b1 b2 h z TI TO i1 i2 l1 l2 k) (e : ∀ c o, c ∈ [z, TI, TO, i1, i2] ∨ (∃ a b, IsPair h c a b) → h.get? c = some o → g.get? c = some o) : Zx b1 b2 g z TI TO i1 i2 l1 l2 k := by
  have e1 : ∀ c ∈ [z, TI, TO, i1, i2], ∀ o, h.get? c = some o → g.get? c = some o := fun c hc o => e c o (.inl hc)
  rcases Z with ⟨Zz, Zi, ⟨x, y, Zo⟩, c1, c2⟩ | ⟨⟨T, f, a, b, Zz, hT⟩, Zi, c1, c2⟩
  · exact .inl ⟨e1 z (by simp) _ Zz, e1 TI (by simp) _ Zi, ⟨x, y, e1 TO (by simp) _ Zo⟩, c1.keep (e1 i1 (by simp)), c2.keep (e1 i2 (by simp))⟩
  · exact .inr ⟨⟨T, f, a, b, e1 z (by simp) _ Zz, e T _ (.inr ⟨a, b, hT⟩) hT⟩, e1 TI (by simp) _ Zi, c1.keep (e1 i1 (by simp)), c2.keep (e1 i2 (by simp))⟩
theorem Zx.ty {h : Heap} (Z : Zx b1 b2 h z TI TO i1 i2 l1 l2 k) : ∃ o, h.get? z = some o ∧ o.cls = .type "zip" := by
  rcases Z with Z | Z
  · exact ⟨_, Z.zip, rfl⟩
  · obtain ⟨T, f, a, b, Zz, _⟩ := Z.zip
    exact ⟨_, Zz, rfl⟩
theorem anyItem {x y : Value} {Q : Option Value → Shared → Prop} (D : ZipApart z TI TO i1 i2 l1 l2) (Z : Zx b1 b2 s.heap z TI TO i1 i2 l1 l2 k) (t1 : Sto b1 s.heap l1 xs) (t2 : Sto b2 s.heap l2 ys) (hx : xs[k]? = some x) (hy : ys[k]? = some y)
    (q : ∀ g, Zh b1 b2 g z TI TO i1 i2 l1 l2 (k + 1) → IsPair g s.heap.objs.size x y → Kept z TO i1 i2 s.heap g → Q (some (.ref s.heap.objs.size)) { s with heap := g }) :
    wpAny (model prog w) A (pyNext (.ref z)) Q E s := by
  obtain ⟨o, ho, hc⟩ := Z.ty
  have ty : s.TypeIs (.ref z) "zip" := ⟨o, ho, hc⟩
  unfold pyNext
  apply wpAny_bind
  apply wpAny_attempt
  refine wpAny_callSpecial?_slot (name := Str.ofString "__next__") ty F.slot_zip_next (wpAny_call_entry F.slot_zip_next ty F.entry_zip_next ?_ (F.args_zip_next_1 _))
  rcases Z with Z | Z
  · refine turnItem D Z t1 t2 hx hy fun g Zg _ d1 d2 P kp => wpAny_pure (q g ⟨⟨_, false, _, _, Zg, P⟩, kp _ _ D.TIz D.TITO D.TIi1 D.TIi2 Z.its, d1, d2⟩ P kp)
  · have Zi := Z.its
    exact heldItem D Z t1 t2 hx hy fun g ⟨T, a, b, Zg, hT⟩ d1 d2 P kp => wpAny_pure (q g ⟨⟨T, true, a, b, Zg, hT⟩, kp _ _ D.TIz D.TITO D.TIi1 D.TIi2 Zi, d1, d2⟩ P kp)
theorem anyEnd {Q : Option Value → Shared → Prop} (hh : A.handled = none) (D : ZipApart z TI TO i1 i2 l1 l2) (Z : Zx b1 b2 s.heap z TI TO i1 i2 l1 l2 k) (t1 : Sto b1 s.heap l1 xs) (t2 : Sto b2 s.heap l2 ys) (he : xs[k]? = none ∨ ys[k]? = none)
    (q : ∀ g, Kept z TO i1 i2 s.heap g → Q none { s with heap := g }) : wpAny (model prog w) A (pyNext (.ref z)) Q E s := by
  obtain ⟨o, ho, hc⟩ := Z.ty
  have ty : s.TypeIs (.ref z) "zip" := ⟨o, ho, hc⟩
  have fin : ∀ g e, Kept z TO i1 i2 s.heap g → (∃ o, g.get? e = some o ∧ o.cls = .type "StopIteration") → wpAny (model prog w) A (isInstance (.ref e) (.type "StopIteration")) (fun b t => wpAny (model prog w) A (if b = true then pure none else throw (Value.ref e)) Q E t) E { s with heap := g } := fun g e kp ⟨o, ho, hc⟩ => by
    refine wpAny_isInstance (T := "StopIteration") (b := true) ⟨o, ho, hc⟩ isSubtype_stop ?_
    rw [if_pos rfl]
    exact wpAny_pure (q g kp)
  unfold pyNext
  apply wpAny_bind
  apply wpAny_attempt
  refine wpAny_callSpecial?_slot (name := Str.ofString "__next__") ty F.slot_zip_next (wpAny_call_entry F.slot_zip_next ty F.entry_zip_next ?_ (F.args_zip_next_1 _))
  rcases Z with Z | Z
  · refine turnEnd hh D Z t1 t2 he fun g e kp hs => ?_
    apply wpAny_bind
    exact fin g e kp hs
  · refine heldEnd hh D Z t1 t2 he fun g e kp hs => ?_
    apply wpAny_bind
    exact fin g e kp hs
end
end EZ

namespace EZ
open PySem
open PySem.W (KdxG)
theorem no_len : typeLookup (.type "zip") "__len__" = pure none := am_miss_of_fast (by decide +kernel)
theorem no_hint : typeLookup (.type "zip") "__length_hint__" = pure none := am_miss_of_fast (by decide +kernel)
/-- the pairs that were made, in their order, behind lo -/
structure Made (xs ys : Array Value) (lo : Addr) (h : Heap) (as : List Addr) : Prop where
  rise : as.Pairwise (· < ·)
  above : ∀ a ∈ as, lo < a
  pair : ∀ (j : Nat) (a : Addr), as[j]? = some a → ∃ x y, xs[j]? = some x ∧ ys[j]? = some y ∧ IsPair h a x y
abbrev lstO (acc : Array Value) (c : Nat) : Obj := { cls := .type "list", dict := none, data := .seq acc c, slots := #[] }
section
variable {prog : Program} {w : World} {A : Around} {s : Shared} {R : Result → Shared → Prop} {b1 b2 : Bool} {z TI TO i1 i2 l1 l2 S : Addr} {xs ys : Array Value}
theorem Made.there {lo : Addr} {h : Heap} {as : List Addr} (M : Made xs ys lo h as) {a : Addr} (ha : a ∈ as) : a < h.objs.size := by
  obtain ⟨j, hj⟩ := List.mem_iff_getElem?.mp ha
  obtain ⟨_, _, _, _, e⟩ := M.pair j a hj
  exact Heap.lt_size e
theorem pair_list {h : Heap} {c : Addr} {a b : Value} {acc : Array Value} {n : Nat} (p : IsPair h c a b) (q : h.get? S = some (lstO acc n)) : c ≠ S := fun e => by
  rw [e] at p
  have q := congrArg (Option.map Obj.cls) (p.symm.trans q)
  have q := Option.some.inj q
  exact absurd (Value.type.inj q) (by decide)
/-- the loop that puts what a zip yields behind one another into the list at S -/
theorem zipLoop (hh : A.handled = none) (D : ZipApart z TI TO i1 i2 l1 l2) (low : ∀ c ∈ [z, TI, TO, i1, i2, l1, l2], c < S) (hz : min xs.size ys.size ≤ sizeLine) (res : Value) {h0 : Heap}
    (hR : ∀ g tk acc c as, (∀ b o, b ∉ [S, z, TO, i1, i2] → h0.get? b = some o → g.get? b = some o) → g.get? S = some (lstO acc c) → as.length = min xs.size ys.size → Made xs ys S g as → acc.toList = as.map Value.ref → R (.ok (.ret res)) { s with heap := g, toks := tk }) :
    ∀ (k i : Nat) (h : Heap) (tk c : Nat) (acc : Array Value) (as : List Addr), min xs.size ys.size - i = k → i ≤ min xs.size ys.size → Zx b1 b2 h z TI TO i1 i2 l1 l2 i → Sto b1 h l1 xs → Sto b2 h l2 ys → (∀ b o, b ∉ [S, z, TO, i1, i2] → h0.get? b = some o → h.get? b = some o) →
      h.get? S = some (lstO acc c) → acc.toList = as.map Value.ref → as.length = i → Made xs ys S h as → codeAny (model prog w) A (.builtin "list.extend.loop" ⟨[.ref S, .ref z, res], []⟩) R { s with heap := h, toks := tk } := by
  have ne : ∀ c ∈ [z, TI, TO, i1, i2, l1, l2], c ≠ S := fun c hc => Nat.ne_of_lt (low c hc)
  have off : ∀ {b : Addr}, b ∉ [S, z, TO, i1, i2] → b ≠ S ∧ b ≠ z ∧ b ≠ TO ∧ b ≠ i1 ∧ b ≠ i2 := fun h => by simpa using h
  intro k
  induction k with
  | zero =>
    intro i h tk c acc as hk hi Z t1 t2 kp hS hacc hl M
    have he : xs[i]? = none ∨ ys[i]? = none := by
      rcases Nat.le_total xs.size ys.size with q | q
      · exact .inl (Array.getElem?_eq_none (by omega))
      · exact .inr (Array.getElem?_eq_none (by omega))
    refine codeAny_builtin PySem.F.entry_extend_loop ?_
    rw [Around.under_plainId PySem.F.plain_extend_loop _]
    show wpAny _ A.in1 (pyNext (.ref z) >>= _) _ _ _
    apply wpAny_bind
    refine anyEnd (s := { s with heap := h, toks := tk }) hh D Z t1 t2 he fun g kg => ?_
    have big : ∀ {a : Addr}, S ≤ a → a ≠ z ∧ a ≠ TO ∧ a ≠ i1 ∧ a ≠ i2 := fun {a} ha => ⟨fun e => absurd (low z (by simp)) (by rw [← e]; exact Nat.not_lt.mpr ha), fun e => absurd (low TO (by simp)) (by rw [← e]; exact Nat.not_lt.mpr ha), fun e => absurd (low i1 (by simp)) (by rw [← e]; exact Nat.not_lt.mpr ha), fun e => absurd (low i2 (by simp)) (by rw [← e]; exact Nat.not_lt.mpr ha)⟩
    have kb : ∀ {a : Addr} {o : Obj}, S ≤ a → h.get? a = some o → g.get? a = some o := fun ha e => by
      obtain ⟨n1, n2, n3, n4⟩ := big ha
      exact kg _ _ n1 n2 n3 n4 e
    apply wpAny_pure
    refine hR g tk acc c as (fun b o hb e => ?_) (kb (Nat.le_refl _) hS) (by omega) ⟨M.rise, M.above, fun j a hj => ?_⟩ hacc
    · obtain ⟨_, n1, n2, n3, n4⟩ := off hb
      exact kg _ _ n1 n2 n3 n4 (kp b o hb e)
    · obtain ⟨x, y, e1, e2, e3⟩ := M.pair j a hj
      exact ⟨x, y, e1, e2, kb (Nat.le_of_lt (M.above a (List.mem_of_getElem? hj))) e3⟩
  | succ k ih =>
    intro i h tk c acc as hk hi Z t1 t2 kp hS hacc hl M
    have hx : i < xs.size := by omega
    have hy : i < ys.size := by omega
    have lS : S < h.objs.size := Heap.lt_size hS
    have asz : acc.size = i := by rw [← Array.length_toList, hacc, List.length_map, hl]
    refine codeAny_builtin PySem.F.entry_extend_loop ?_
    rw [Around.under_plainId PySem.F.plain_extend_loop _]
    show wpAny _ A.in1 (pyNext (.ref z) >>= _) _ _ _
    apply wpAny_bind
    refine anyItem (s := { s with heap := h, toks := tk }) D Z t1 t2 (Array.getElem?_eq_getElem hx) (Array.getElem?_eq_getElem hy) fun g Zg P kg => ?_
    have big : ∀ {a : Addr}, S ≤ a → a ≠ z ∧ a ≠ TO ∧ a ≠ i1 ∧ a ≠ i2 := fun {a} ha => ⟨fun e => absurd (low z (by simp)) (by rw [← e]; exact Nat.not_lt.mpr ha), fun e => absurd (low TO (by simp)) (by rw [← e]; exact Nat.not_lt.mpr ha), fun e => absurd (low i1 (by simp)) (by rw [← e]; exact Nat.not_lt.mpr ha), fun e => absurd (low i2 (by simp)) (by rw [← e]; exact Nat.not_lt.mpr ha)⟩
    have kb : ∀ {a : Addr} {o : Obj}, S ≤ a → h.get? a = some o → g.get? a = some o := fun ha e => by
      obtain ⟨n1, n2, n3, n4⟩ := big ha
      exact kg _ _ n1 n2 n3 n4 e
    have hS2 := kb (Nat.le_refl _) hS
    have up : ∀ b o, b ≠ S → g.get? b = some o → (g.update S (Obj.mapSeq (·.push (Value.ref h.objs.size)))).get? b = some o := fun b o hb e => (Heap.get?_update_other _ _ (Ne.symm hb)).trans e
    have t1g : Sto b1 g l1 xs := t1.keep fun o => kg _ o D.l1z D.l1TO D.l1i1 D.l1i2
    have t2g : Sto b2 g l2 ys := t2.keep fun o => kg _ o D.l2z D.l2TO D.l2i1 D.l2i2
    show wpAny _ A.in1 (updateSeq S (·.push (Value.ref h.objs.size)) >>= _) _ _ _
    apply wpAny_bind
    refine wpAny_updateSeq hS2 rfl (wpAny_pure ⟨plainId_quiet PySem.F.plain_extend_loop _, ih (i + 1) _ tk _ (acc.push (Value.ref h.objs.size)) (as ++ [h.objs.size]) (by omega) (by omega) ?_ (t1g.keep fun o => up _ o (ne l1 (by simp))) (t2g.keep fun o => up _ o (ne l2 (by simp))) (fun b o hb e => ?_) (Heap.get?_update_self _ hS2 rfl) (by rw [Array.toList_push, hacc, List.map_append]; rfl) (by rw [List.length_append, hl]; rfl) ⟨?_, ?_, ?_⟩⟩) (by rw [asz]; omega) (by show (acc.push (Value.ref h.objs.size)).size ≤ sizeLine + 1; rw [Array.size_push, asz]; omega)
    · refine Zx.keep (.inr Zg) fun c o hc e => up c o ?_ e
      rcases hc with hc | ⟨a, b, hc⟩
      · exact ne c (by rcases five hc with rfl | rfl | rfl | rfl | rfl <;> simp)
      · exact pair_list hc hS2
    · obtain ⟨n0, n1, n2, n3, n4⟩ := off hb
      exact up _ _ n0 (kg _ _ n1 n2 n3 n4 (kp b o hb e))
    · refine List.pairwise_append.mpr ⟨M.rise, List.pairwise_singleton _ _, fun a ha b hb => ?_⟩
      rw [List.mem_singleton.mp hb]
      exact M.there ha
    · intro a ha
      rcases List.mem_append.mp ha with ha | ha
      · exact M.above a ha
      · rw [List.mem_singleton.mp ha]
        exact lS
    · intro j a hj
      rcases Nat.lt_trichotomy j as.length with q | q | q
      · rw [List.getElem?_append_left q] at hj
        obtain ⟨x, y, e1, e2, e3⟩ := M.pair j a hj
        have la := M.above a (List.mem_of_getElem? hj)
        exact ⟨x, y, e1, e2, up _ _ (Nat.ne_of_gt la) (kb (Nat.le_of_lt la) e3)⟩
      · subst q
        have hb : h.objs.size = a := by simpa using hj
        subst hb
        rw [hl]
        exact ⟨_, _, Array.getElem?_eq_getElem hx, Array.getElem?_eq_getElem hy, up _ _ (Nat.ne_of_gt lS) P⟩
      · have none : (as ++ [h.objs.size])[j]? = Option.none := List.getElem?_eq_none (by rw [List.length_append]; show as.length + 1 ≤ j; omega)
        rw [none] at hj
        cases hj
end
end EZ

namespace EZ
open PySem
section
variable {prog : Program} {w : World} {A : Around} {s : Shared} {R : Result → Shared → Prop} {b1 b2 : Bool} {z TI TO i1 i2 l1 l2 S : Addr} {xs ys : Array Value} {E : Value → Shared → Prop}
theorem extendZip (hh : A.handled = none) (D : ZipApart z TI TO i1 i2 l1 l2) (low : ∀ c ∈ [z, TI, TO, i1, i2, l1, l2], c < S) (hz : min xs.size ys.size ≤ sizeLine) (res : Value) (c0 : Nat) (Z : Zp b1 b2 s.heap z TI TO i1 i2 l1 l2 0) (t1 : Sto b1 s.heap l1 xs) (t2 : Sto b2 s.heap l2 ys) (hS : s.heap.get? S = some (lstO #[] c0))
    (hR : ∀ g tk acc c as, (∀ b o, b ∉ [S, z, TO, i1, i2] → s.heap.get? b = some o → g.get? b = some o) → g.get? S = some (lstO acc c) → as.length = min xs.size ys.size → Made xs ys S g as → acc.toList = as.map Value.ref → R (.ok (.ret res)) { s with heap := g, toks := tk }) :
    wpAny (model prog w) A.in1 (Builtin.List.listExtendWith (.ref S) (.ref z) res)
      (fun f t => match f with | .done f => R (.ok f) t | .again c' => c'.quiet = true ∧ codeAny (model prog w) A c' R t) (fun e t => R (.error e) t) s := by
  have ty : s.TypeIs (.ref z) "zip" := ⟨_, Z.zip, rfl⟩
  have nSz : S ≠ z := Nat.ne_of_gt (low z (by simp))
  unfold Builtin.List.listExtendWith
  apply wpAny_bind
  refine wpAny_typeOf ty ?_
  have a1 : Builtin.List.listSameRef (.ref S) (.ref z) = false := by simp [Builtin.List.listSameRef, nSz]
  have a2 : (Value.type "zip" == Value.type "list") = false := by decide
  have a3 : (Value.type "zip" == Value.type "tuple") = false := by decide
  simp only [a1, a2, a3, Bool.or_false, Bool.false_eq_true, if_false]
  apply wpAny_bind
  refine wpAny_pyIter_zip Z.zip ?_
  apply wpAny_bind
  apply wpAny_holding
  unfold Builtin.List.listLengthHint
  apply wpAny_bind
  refine wpAny_specialOf ty no_len ?_
  show wpAny _ A.in1 (specialOf (Value.ref z) (Str.ofString "__length_hint__") >>= _) _ _ _
  apply wpAny_bind
  refine wpAny_specialOf ty no_hint ?_
  apply wpAny_pure
  show wpAny _ A.in1 (rule "list.extend.makes-room" >>= fun _ => Builtin.List.listTouch (.ref S) >>= fun _ => again (.builtin "list.extend.loop" ⟨[.ref S, .ref z, res], []⟩)) _ _ _
  apply wpAny_bind
  apply wpAny_rule
  apply wpAny_bind
  show wpAny _ A.in1 (updateSeq S (·.push .none) >>= fun _ => updateSeq S (·.pop)) _ _ _
  apply wpAny_bind
  refine wpAny_updateSeq hS rfl ?_
  have S2 := Heap.get?_update_self (Obj.mapSeq (·.push Value.none)) hS rfl
  refine wpAny_updateSeq (hz := by seq_fits) S2 rfl ?_
  have S3 := Heap.get?_update_self (Obj.mapSeq (·.pop)) S2 rfl
  have up : ∀ b o, b ≠ S → s.heap.get? b = some o → ((s.heap.update S (Obj.mapSeq (·.push Value.none))).update S (Obj.mapSeq (·.pop))).get? b = some o := fun b o n e => (Heap.get?_update_other _ _ (Ne.symm n)).trans ((Heap.get?_update_other _ _ (Ne.symm n)).trans e)
  have ne : ∀ c ∈ [z, TI, TO, i1, i2, l1, l2], c ≠ S := fun c hc => Nat.ne_of_lt (low c hc)
  apply wpAny_pure
  refine ⟨plainId_quiet F.plain_extend_loop _, ?_⟩
  refine zipLoop hh D low hz res (h0 := s.heap) hR _ 0 _ _ _ #[] [] rfl (Nat.zero_le _) ?_ (t1.keep fun o => up _ o (ne l1 (by simp))) (t2.keep fun o => up _ o (ne l2 (by simp))) (fun b o hb => up b o fun e => hb (by rw [e]; exact List.mem_cons_self)) S3 rfl rfl ⟨List.Pairwise.nil, fun a h => (nomatch h), fun j a h => by simp at h⟩
  refine Zx.keep (.inl Z) fun c o hc e => up c o ?_ e
  rcases hc with hc | ⟨a, b, hc⟩
  · exact ne c (by rcases five hc with rfl | rfl | rfl | rfl | rfl <;> simp)
  · exact pair_list hc hS
theorem initZip (hh : A.handled = none) (D : ZipApart z TI TO i1 i2 l1 l2) (low : ∀ c ∈ [z, TI, TO, i1, i2, l1, l2], c < S) (hz : min xs.size ys.size ≤ sizeLine) (Z : Zp b1 b2 s.heap z TI TO i1 i2 l1 l2 0) (t1 : Sto b1 s.heap l1 xs) (t2 : Sto b2 s.heap l2 ys) (hS : s.heap.get? S = some { cls := .type "list", data := .seq #[] })
    (hR : ∀ g tk acc c as, (∀ b o, b ∉ [S, z, TO, i1, i2] → s.heap.get? b = some o → g.get? b = some o) → g.get? S = some (lstO acc c) → as.length = min xs.size ys.size → Made xs ys S g as → acc.toList = as.map Value.ref → R (.ok (.ret .none)) { s with heap := g, toks := tk }) :
    wpAny (model prog w) A.in1 (Builtin.«list.__init__» ⟨[.ref S, .ref z], []⟩)
      (fun f t => match f with | .done f => R (.ok f) t | .again c' => c'.quiet = true ∧ codeAny (model prog w) A c' R t) (fun e t => R (.error e) t) s := by
  show wpAny _ A.in1 (do let old ← Builtin.List.listItems (.ref S); Builtin.List.listUpdate (.ref S) (fun _ => #[]); letGo old.toList.reverse; Builtin.List.listExtendWith (.ref S) (.ref z) .none) _ _ s
  apply wpAny_bind
  unfold Builtin.List.listItems
  apply wpAny_bind
  refine wpAny_seqItems hS rfl (wpAny_pure ?_)
  show wpAny _ A.in1 (updateSeq S (fun _ => #[]) >>= fun _ => letGo (#[] : Array Value).toList.reverse >>= fun _ => Builtin.List.listExtendWith (.ref S) (.ref z) .none) _ _ s
  apply wpAny_bind
  refine wpAny_updateSeq hS rfl ?_
  have S2 := Heap.get?_update_self (Obj.mapSeq (fun _ => (#[] : Array Value))) hS rfl
  have up : ∀ b o, b ≠ S → s.heap.get? b = some o → (s.heap.update S (Obj.mapSeq (fun _ => (#[] : Array Value)))).get? b = some o := fun b o n e => (Heap.get?_update_other _ _ (Ne.symm n)).trans e
  have ne : ∀ c ∈ [z, TI, TO, i1, i2, l1, l2], c ≠ S := fun c hc => Nat.ne_of_lt (low c hc)
  apply wpAny_bind
  refine wpAny_letGo ?_
  obtain ⟨Zz, Zi, ⟨x, y, Zo⟩, c1, c2⟩ := Z
  refine extendZip hh D low hz .none _ ⟨up _ _ (ne z (by simp)) Zz, up _ _ (ne TI (by simp)) Zi, ⟨x, y, up _ _ (ne TO (by simp)) Zo⟩, c1.keep fun o => up _ o (ne i1 (by simp)), c2.keep fun o => up _ o (ne i2 (by simp))⟩ (t1.keep fun o => up _ o (ne l1 (by simp))) (t2.keep fun o => up _ o (ne l2 (by simp))) S2 fun g tk acc c as k1 k2 k3 k4 k5 => ?_
  exact hR g tk acc c as (fun b o hb e => k1 b o hb (up b o (fun q => hb (by rw [q]; exact List.mem_cons_self)) e)) k2 k3 k4 k5
theorem callListZip {Q : Value → Shared → Prop} (hh : A.handled = none) (D : ZipApart z TI TO i1 i2 l1 l2) (low : ∀ c ∈ [z, TI, TO, i1, i2, l1, l2], c < s.heap.objs.size) (hz : min xs.size ys.size ≤ sizeLine) (Z : Zp b1 b2 s.heap z TI TO i1 i2 l1 l2 0) (t1 : Sto b1 s.heap l1 xs) (t2 : Sto b2 s.heap l2 ys)
    (q : ∀ g tk acc c as, (∀ b o, b ∉ [z, TO, i1, i2] → s.heap.get? b = some o → g.get? b = some o) → g.get? s.heap.objs.size = some (lstO acc c) → as.length = min xs.size ys.size → Made xs ys s.heap.objs.size g as → acc.toList = as.map Value.ref → Q (.ref s.heap.objs.size) { s with heap := g, toks := tk }) :
    wpAny (model prog w) A (call (.type "list") [.ref z]) Q E s := by
  refine callType_codes (Q₁ := fun ob t => ob = .ref s.heap.objs.size ∧ t = { s with heap := s.heap.push { cls := .type "list", data := .seq #[] } }) F.called_list (F.typeCall_list_1 _) F.entry_list_init (code_list_new _ ⟨rfl, rfl⟩) fun ob t ht => ?_
  obtain ⟨rfl, rfl⟩ := ht
  have hS : (s.heap.push { cls := .type "list", data := .seq #[] }).get? s.heap.objs.size = some { cls := .type "list", data := .seq #[] } := Heap.get?_push_size _ rfl
  have up : ∀ b o, s.heap.get? b = some o → (s.heap.push { cls := .type "list", data := .seq #[] }).get? b = some o := fun b o e => Heap.get?_push_of_some _ e
  obtain ⟨Zz, Zi, ⟨x, y, Zo⟩, c1, c2⟩ := Z
  refine ⟨⟨_, hS, rfl⟩, F.args_list_init_2 _ _, initZip (A := A.in1) hh D low hz ⟨up _ _ Zz, up _ _ Zi, ⟨x, y, up _ _ Zo⟩, c1.keep fun o => up _ o, c2.keep fun o => up _ o⟩ (t1.keep fun o => up _ o) (t2.keep fun o => up _ o) hS fun g tk acc c as k1 k2 k3 k4 k5 => ⟨rfl, q g tk acc c as (fun b o hb e => k1 b o (fun h => ?_) (up b o e)) k2 k3 k4 k5⟩⟩
  rcases List.mem_cons.mp h with h | h
  · exact absurd (Heap.lt_size e) (by rw [h]; exact Nat.lt_irrefl _)
  · exact hb h
end
end EZ

namespace EZ
open PySem PySem.Spec PyProof.Rows L2
/-- H with a new list at p and new pairs at ts -/
def laidP (H : Hp) (p : Addr) (ts : List Addr) (xs ys : List V) : Hp := fun b => if b = p then some (.lst (ts.map V.ref)) else if b ∈ ts then some (.tup [xs.getD (ts.idxOf b) .non, ys.getD (ts.idxOf b) .non]) else H b
def rListZip (K : PySem.W.Frag) : List V → Hp → VK → Prop := fun vs H Q => ∃ (a c : Addr) (b1 b2 : Bool) (xs ys : List V), vs = [.ref a, .ref c] ∧ (SqB K b1 H a xs ∧ SqB K b2 H c ys) ∧ ∀ (p : Addr) (ts : List Addr), H p = none → (∀ t ∈ ts, H t = none) → p ∉ ts → ts.Nodup → ts.length = min xs.length ys.length → Q (.ref p) (laidP H p ts xs ys)
def tListZip (K : PySem.W.Frag) (ta : TA) : TE := fun σ H Q => ta σ H fun vs H1 => rListZip K vs H1 Q
section
variable {X : Cx} {pins : List (Addr × Obj)} {σ : L2.St} {H : Hp} {s : Shared}
theorem laid_inv {g : Heap} {tk c : Nat} {acc : Array Value} {ts : List Addr} {S : Addr} {xs ys : List V} {us vs : List Value} (I : Inv X pins σ H s) (r1 : Vals xs us) (r2 : Vals ys vs) (hS : s.heap.objs.size ≤ S) (hz : min xs.length ys.length ≤ sizeLine)
    (kp : ∀ b o, s.heap.get? b = some o → g.get? b = some o) (gS : g.get? S = some (lstO acc c)) (M : Made us.toArray vs.toArray S g ts) (hl : ts.length = min xs.length ys.length) (hacc : acc.toList = ts.map Value.ref) :
    H S = none ∧ (∀ t ∈ ts, H t = none) ∧ S ∉ ts ∧ ts.Nodup ∧ Inv X pins σ (laidP H S ts xs ys) { s with heap := g, toks := tk } := by
  have nd : ts.Nodup := M.rise.imp fun h => Nat.ne_of_lt h
  have nS : S ∉ ts := fun q => Nat.lt_irrefl _ (M.above _ q)
  have big : ∀ t ∈ ts, s.heap.objs.size ≤ t := fun t ht => Nat.le_trans hS (Nat.le_of_lt (M.above t ht))
  have fS : H S = none := I.hok.fresh hS
  have ft : ∀ t ∈ ts, H t = none := fun t ht => I.hok.fresh (big t ht)
  have old : ∀ b, b ≠ S → b ∉ ts → laidP H S ts xs ys b = H b := fun b n1 n2 => by
    unfold laidP
    rw [if_neg n1, if_neg n2]
  have kH : ∀ b u, H b = some u → laidP H S ts xs ys b = some u := fun b u e => by
    rw [old b (fun q => by rw [q, fS] at e; cases e) fun q => by rw [ft b q] at e; cases e]
    exact e
  have less : ∀ b o, s.heap.get? b = some o → b ≠ S ∧ b ∉ ts := fun b o e => ⟨fun q => absurd (Heap.lt_size e) (by rw [q]; exact Nat.not_lt.mpr hS), fun q => absurd (Heap.lt_size e) (Nat.not_lt.mpr (big b q))⟩
  refine ⟨fS, ft, nS, nd, ?_⟩
  refine I.call' (ch := []) rfl ⟨fun b o q _ _ _ => kp b o q, fun b o q _ _ _ => ⟨o.slots, kp b o q⟩, fun b o q n _ => ?_, fun b o q _ => ⟨o, kp b o q⟩, fun b xs q => kH b _ q, fun b o u q => kH b _ q, fun b ps q => ⟨#[], by rw [kH b _ q]; simp⟩⟩ (fun b u q => ?_) I.bare fun b z => by simp at z
  · obtain ⟨n1, n2⟩ := less b o q
    rw [old b n1 n2]
    exact n
  · by_cases hb : b = S
    · subst hb
      unfold laidP at q
      rw [if_pos rfl] at q
      cases q
      refine ⟨by rw [List.length_map]; omega, acc.toList, c, by rw [hacc]; exact LiI.vals_refs ts, ?_⟩
      rw [Array.toArray_toList]
      exact gS
    · by_cases ht : b ∈ ts
      · unfold laidP at q
        rw [if_neg hb, if_pos ht] at q
        cases q
        have hi : ts[ts.idxOf b]? = some b := by
          rw [List.getElem?_eq_getElem (List.idxOf_lt_length_of_mem ht), List.getElem_idxOf]
        obtain ⟨x, y, e1, e2, e3⟩ := M.pair _ b hi
        have hl2 := (List.getElem?_eq_some_iff.mp hi).1
        generalize ts.idxOf b = j at e1 e2 hl2
        obtain ⟨vx, h1⟩ : ∃ v, xs[j]? = some v := ⟨xs[j]'(by omega), List.getElem?_eq_getElem (by omega)⟩
        obtain ⟨vy, h2⟩ : ∃ v, ys[j]? = some v := ⟨ys[j]'(by omega), List.getElem?_eq_getElem (by omega)⟩
        obtain ⟨x', g1, k1⟩ := r1.get h1
        obtain ⟨y', g2, k2⟩ := r2.get h2
        have f1 : us[j]? = some x := by simpa using e1
        have f2 : vs[j]? = some y := by simpa using e2
        rw [f1] at g1; cases g1
        rw [f2] at g2; cases g2
        rw [List.getD_eq_getElem?_getD, List.getD_eq_getElem?_getD, h1, h2]
        exact ⟨by show 2 ≤ sizeLine; decide, [x, y], .cons k1 (.cons k2 .nil), _, e3, rfl, _, rfl⟩
      · rw [old b hb ht] at q
        exact (I.hok b u q).stay (fun d v _ y => kp d v y) (fun d y => kH d _ y) fun d xs y => kH d _ y
/-- list(zip(a, b)) -/
theorem pe_listZip {e e2 : Expr} {ta : TA} {p p2 pos pos2 : Pos} (hc : X.calm = true) (hg : Gl X "list") (hm : X.mg "list" = none) (hg2 : Gl X "zip") (hm2 : X.mg "zip" = none) (ha : PA X [e, e2] ta)
    (h1 : starEach [e, e2] X.env = (false, eval e X.env) :: starEach [e2] X.env := by rfl) (h2 : (backTo pos2 (starEach [e2] X.env)).any (·.1) = false := by rfl)
    (h3 : starEach [.Call (.Name "zip" p2) [e, e2] [] pos2] X.env = (false, eval (.Call (.Name "zip" p2) [e, e2] [] pos2) X.env) :: starEach [] X.env := by rfl) :
    PE X (.Call (.Name "list" p) [.Call (.Name "zip" p2) [e, e2] [] pos2] [] pos) (tListZip X.K ta) := by
  refine ⟨fun pins s σ H Q I h => Call_ (ld_blt I hg hm (show bootBuiltins "list" = some (.type "list") by rfl) ?_)⟩
  refine PyProof.Rows.callWith_type1 (PyProof.Rows.args_cons (Call_ (ld_blt I hg2 hm2 PyProof.Rows.boot_zip ?_)) h3) h3 rfl
  refine PyProof.Rows.callWith_type1 (thn (ha.run pos2 pins s σ H _ I h) fun us s1 ⟨vs, H1, I1, r1, q1⟩ => ?_) h1 h2
  obtain ⟨a, c, b1, b2, xs, ys, rfl, ⟨qx, qy⟩, q⟩ := q1
  obtain ⟨u1, u2, rfl, ru1, ru2⟩ := vals2 r1
  cases ru1
  cases ru2
  obtain ⟨us, rx, t1, la⟩ := sqb_raw I1 qx
  obtain ⟨ws, ry, t2, lc⟩ := sqb_raw I1 qy
  refine callZip t1 t2 fun g Z kz => PyProof.Rows.args_nil ?_
  have e1 : us.toArray.size = xs.length := by rw [List.size_toArray, rx.length]
  have e2' : ws.toArray.size = ys.length := by rw [List.size_toArray, ry.length]
  have hz : min xs.length ys.length ≤ sizeLine := by
    have : xs.length ≤ sizeLine ∨ ys.length ≤ sizeLine := .inl (by
      cases b1 with
      | true => exact (I1.tuple (show SqT X.K H1 a xs from qx)).choose_spec.2.2
      | false => exact (I1.list (show SqL X.K H1 a xs from qx)).choose_spec.2.2)
    omega
  have lt : ∀ d ∈ [s1.heap.objs.size + 4, s1.heap.objs.size + 2, s1.heap.objs.size + 3, s1.heap.objs.size, s1.heap.objs.size + 1, a, c], d < g.objs.size := fun d hd => by
    have lz : s1.heap.objs.size + 4 < g.objs.size := Heap.lt_size Z.zip
    simp only [List.mem_cons, List.not_mem_nil, or_false] at hd
    rcases hd with rfl | rfl | rfl | rfl | rfl | rfl | rfl
    · exact lz
    · exact Nat.lt_of_le_of_lt (Nat.add_le_add_left (by decide) _) lz
    · exact Nat.lt_of_le_of_lt (Nat.add_le_add_left (by decide) _) lz
    · exact Nat.lt_of_le_of_lt (Nat.le_add_right _ _) lz
    · exact Nat.lt_of_le_of_lt (Nat.add_le_add_left (by decide) _) lz
    · exact Nat.lt_trans la (Nat.lt_of_le_of_lt (Nat.le_add_right _ _) lz)
    · exact Nat.lt_trans lc (Nat.lt_of_le_of_lt (Nat.le_add_right _ _) lz)
  have hle : s1.heap.objs.size ≤ g.objs.size := Nat.le_of_lt (lt _ (by simp))
  refine callListZip (s := { s1 with heap := g }) (xs := us.toArray) (ys := ws.toArray) (I1.ok.hd hc) (PySem.W.ktu_apart s1.heap.objs.size a c la lc) lt (by rw [e1, e2']; exact hz) Z (t1.keep fun o => kz _ o) (t2.keep fun o => kz _ o) fun g2 tk acc cc ts k1 k2 k3 k4 k5 => ?_
  have kp : ∀ b o, s1.heap.get? b = some o → g2.get? b = some o := fun b o e => k1 b o (fun hb => by
    have lb := Heap.lt_size e
    simp only [List.mem_cons, List.not_mem_nil, or_false] at hb
    rcases hb with rfl | rfl | rfl | rfl
    · exact absurd lb (Nat.not_lt.mpr (Nat.le_add_right _ _))
    · exact absurd lb (Nat.not_lt.mpr (Nat.le_add_right _ _))
    · exact absurd lb (Nat.lt_irrefl _)
    · exact absurd lb (Nat.not_lt.mpr (Nat.le_add_right _ _))) (kz b o e)
  rw [e1, e2'] at k3
  obtain ⟨f1, f2, f3, f4, J⟩ := laid_inv (tk := tk) I1 rx ry hle hz kp k2 k4 k3 k5
  exact ⟨.ref g.objs.size, _, J, rfl, q _ ts f1 f2 f3 f4 k3⟩
end
end EZ

namespace EL
open PySem PySem.Spec PyProof.Rows L2
variable [TabC]
variable {K : PySem.W.Frag} {ρ : List Sl} {P : Post} {i : Nat} {te ty : TE} {d : D} {ds es : List D} {ks : List Int}
theorem dpa_of : ∀ {vs : List V} {ds : List D} {H : Hp}, vs.length = ds.length → (∀ (j : Nat) (v : V) (d : D), vs[j]? = some v → ds[j]? = some d → Dp K H v d) → DpAll K H vs ds
  | [], [], _, _, _ => .nil
  | [], _ :: _, _, h, _ => by cases h
  | _ :: _, [], _, h, _ => by cases h
  | v :: vs, d :: ds, _, h, f => .cons (f 0 v d rfl rfl) (dpa_of (Nat.succ.inj h) fun j v d h1 h2 => f (j + 1) v d h1 h2)
/-- list(zip(a, b)): a new list of pairs -/
theorem ev_listZip {t : TA} {b1 b2 : Bool} (h : EvC K t ρ [seqOf b1 ds, seqOf b2 es]) : EvF K (EZ.tListZip K t) ρ (List.zipWith (fun x y => .tuple [x, y]) ds es) := fun B B0 σ H H0 r Q q => h B B0 σ H H0 r _ fun vs H1 H01 w1 k => by
  cases k with
  | cons k1 k =>
    cases k with
    | cons k2 k =>
      cases k
      obtain ⟨a, xs, rfl, h1, h2⟩ := dp_seq k1
      obtain ⟨c, ys, rfl, g1, g2⟩ := dp_seq k2
      refine ⟨a, c, b1, b2, xs, ys, rfl, ⟨sqb_mono w1.sub h1, sqb_mono w1.sub g1⟩, fun p ts np nt npt nd hl => ?_⟩
      let H' := EZ.laidP H1 p ts xs ys
      let H0' : Hp := fun b => if b ∈ ts then H' b else H01 b
      have eH : ∀ b, b ≠ p → b ∉ ts → H' b = H1 b := fun b n1 n2 => by
        show EZ.laidP H1 p ts xs ys b = _
        unfold EZ.laidP
        rw [if_neg n1, if_neg n2]
      have e0 : ∀ b, b ∉ ts → H0' b = H01 b := fun b n => if_neg n
      have e1 : ∀ b, b ∈ ts → H0' b = H' b := fun b n => if_pos n
      have s01 : Same H01 H0' := fun b u e => by
        rw [e0 b fun m => by rw [sub_none w1.sub (nt b m)] at e; cases e]
        exact e
      have w2 : Wd H1 H01 H' H0' := by
        have sHH : Same H1 H' := fun b u e => by
          rw [eH b (fun m => by rw [m, np] at e; cases e) fun m => by rw [nt b m] at e; cases e]
          exact e
        refine ⟨.of sHH, s01, fun b u e => ?_, fun b o e => ?_, fun t => t.ext sHH s01 fun b ps hb h0 => by rw [e0 b fun m => by rw [nt b m] at hb; cases hb]; exact h0⟩
        · by_cases m : b ∈ ts
          · rw [e1 b m] at e
            exact e
          · rw [e0 b m] at e
            rw [eH b (fun q => by rw [q, sub_none w1.sub np] at e; cases e) m]
            exact w1.sub b u e
        · by_cases m : b ∈ ts
          · exact .inr (nt b m)
          · rw [e0 b m] at e
            exact .inl e
      have hp : H' p = some (.lst (ts.map V.ref)) := if_pos rfl
      have z0 : H0' p = none := by
        rw [e0 p npt]
        exact sub_none w1.sub np
      refine q p (ts.map V.ref) H' H0' (w1.trans w2) (w1.e.free np) hp z0 (dpa_of ?_ fun j v d hv hd => ?_)
      · rw [List.length_map, List.length_zipWith, ← dpa_len h2, ← dpa_len g2]
        exact hl
      · rw [List.getElem?_map] at hv
        cases ht : ts[j]? with
        | none => rw [ht] at hv; cases hv
        | some t =>
          rw [ht] at hv
          cases hv
          have hjl := (List.getElem?_eq_some_iff.mp ht).1
          have mt : t ∈ ts := List.mem_of_getElem? ht
          rw [List.getElem?_zipWith] at hd
          obtain ⟨x, hx⟩ : ∃ x, ds[j]? = some x := ⟨ds[j]'(by rw [← dpa_len h2]; omega), List.getElem?_eq_getElem _⟩
          obtain ⟨y, hy⟩ : ∃ y, es[j]? = some y := ⟨es[j]'(by rw [← dpa_len g2]; omega), List.getElem?_eq_getElem _⟩
          rw [hx, hy] at hd
          cases hd
          obtain ⟨u, hu, ku⟩ := dpa_get h2 hx
          obtain ⟨v, hv, kv⟩ := dpa_get g2 hy
          have hix : ts.idxOf t = j := by
            obtain ⟨hlt, e⟩ := List.getElem?_eq_some_iff.mp ht
            have hl2 : ts.idxOf t < ts.length := List.idxOf_lt_length_of_mem mt
            exact (List.getElem_inj (h₀ := hl2) (h₁ := hlt) nd).mp ((List.getElem_idxOf hl2).trans e.symm)
          have et : H0' t = some (.tup [u, v]) := by
            rw [e1 t mt]
            show EZ.laidP H1 p ts xs ys t = _
            unfold EZ.laidP
            rw [if_neg (show ¬ t = p from fun e => by rw [e] at mt; exact npt mt), if_pos mt, hix, List.getD_eq_getElem?_getD, List.getD_eq_getElem?_getD, hu, hv]
            rfl
          exact .tup (.of et) (.cons (dp_mono s01 ku) (.cons (dp_mono s01 kv) .nil))
/-! ### one's own dict with whole numbers as keys -/
theorem w_newD (k : P.nx (ρ.set i (.dic [] []))) : Wp K (tAsg tDNewK (gName i)) ρ P := fun B B0 σ H H0 r E m => fun p np =>
  m.nx _ _ _ H0 k (r.setK (κ0 := some []) (xs := []) (.dirty r.sub np) np upd_same (sub_none r.sub np) .nil i)
theorem val_zip : ∀ {ks : List Int} {xs : List V} {j : Nat} {k : Int} {v : V}, ks[j]? = some k → xs[j]? = some v → (∀ m : Nat, m < j → ks[m]? ≠ some k) → valV ((ks.map (Sum.inl : Int → Key)).zip xs) (Sum.inl k) = some v
  | [], _, _, _, _, h, _, _ => by cases h
  | _ :: _, [], _, _, _, _, h, _ => by cases h
  | a :: ks, x :: xs, 0, k, v, h1, h2, _ => by
    cases h1
    cases h2
    exact valV_pos rfl
  | a :: ks, x :: xs, j + 1, k, v, h1, h2, h3 => by
    have ne : ¬ (Sum.inl a : Key) = Sum.inl k := fun e => by
      cases e
      exact h3 0 (by omega) rfl
    show valV ((Sum.inl a, x) :: (ks.map (Sum.inl : Int → Key)).zip xs) (Sum.inl k) = some v
    rw [valV_neg (p := ((Sum.inl a : Key), x)) ne]
    exact val_zip h1 h2 fun m hm => h3 (m + 1) (by omega)
theorem val_no : ∀ {ks : List Int} {xs : List V} {k : Int}, k ∉ ks → valV ((ks.map (Sum.inl : Int → Key)).zip xs) (Sum.inl k) = none
  | [], _, _, _ => valV_nil
  | _ :: _, [], _, _ => valV_nil
  | a :: ks, x :: xs, k, h => by
    have ne : ¬ (Sum.inl a : Key) = Sum.inl k := fun e => by
      cases e
      exact h List.mem_cons_self
    show valV ((Sum.inl a, x) :: (ks.map (Sum.inl : Int → Key)).zip xs) (Sum.inl k) = none
    rw [valV_neg (p := ((Sum.inl a : Key), x)) ne]
    exact val_no fun m => h (List.mem_cons_of_mem _ m)
theorem ev_dget {j : Nat} {k : Int} (h : ρ[i]? = some (Sl.dic ks ds)) (hk : EvQ K ty ρ (.int k)) (hj : ks[j]? = some k) (hd : ds[j]? = some d) (hno : ∀ m : Nat, m < j → ks[m]? ≠ some k) : EvD K (tDGet (tVar i) ty) ρ d := fun B B0 σ H H0 r Q q => by
  obtain ⟨a, xs, e1, e2, e3, e4, e5⟩ := r.obj i _ _ h
  refine ⟨_, e1, hk B B0 σ H H0 r _ fun v H1 H01 w1 k1 => ?_⟩
  have r1 := r.step w1
  obtain ⟨a', xs', f1, f2, f3, f4, f5⟩ := r1.obj i _ _ h
  rw [e1] at f1; cases f1
  obtain ⟨v', hv, kv⟩ := dpa_get f5 hd
  rw [k1.int]
  have g := DGet.k (k := Sum.inl k) (show H1 a = some (.dK ((ks.map Sum.inl).zip xs')) from f4)
  rw [val_zip hj hv hno] at g
  exact ⟨a, v', rfl, g, q _ H1 H01 w1 kv⟩
theorem w_dput {k : Int} {tv : TE} (hv : EvD K tv ρ d) (h : ρ[i]? = some (Sl.dic ks ds)) (hk : EvQ K ty ρ (.int k)) (hn : k ∉ ks) (hl : ks.length = ds.length) (hz : ks.length < sizeLine) (q : P.nx (ρ.set i (.dic (ks ++ [k]) (ds ++ [d])))) :
    Wp K (sDPut (tVar i) ty tv) ρ P := fun B B0 σ H H0 r E m => hv B B0 σ H H0 r _ fun v H1 H01 w1 k1 => by
  have r1 := r.step w1
  obtain ⟨a, xs, e1, e2, e3, e4, e5⟩ := r1.obj i _ _ h
  refine ⟨_, e1, hk B B0 σ H1 H01 r1 _ fun u H2 H02 w2 k2 => ?_⟩
  have r2 := r1.step w2
  obtain ⟨a', xs', f1, f2, f3, f4, f5⟩ := r2.obj i _ _ h
  rw [e1] at f1; cases f1
  rw [k2.int]
  have lx : xs'.length = ks.length := by rw [dpa_len f5, hl]
  have eo : mkO (some (ks ++ [k])) (xs' ++ [v]) = .dK (putK ((ks.map (Sum.inl : Int → Key)).zip xs') (Sum.inl k) v) := by
    rw [putK_new v (val_no hn)]
    show HO.dK (((ks ++ [k]).map Sum.inl).zip (xs' ++ [v])) = _
    rw [List.map_append, List.zip_append (by rw [List.length_map, lx])]
    rfl
  refine ⟨a, upd H2 a (mkO (some (ks ++ [k])) (xs' ++ [v])), rfl, ?_, m.nx _ _ _ H02 q (r2.writeK (κ1 := some (ks ++ [k])) h e1 (dpa_app f5 (.cons (dp_mono w2.e0 k1) .nil)))⟩
  rw [eo]
  exact DPut.k (k := Sum.inl k) (show H2 a = some (.dK ((ks.map Sum.inl).zip xs')) from f4) (by rw [List.length_zip, List.length_map]; omega)
def rLenDic : List V → Hp → VK → Prop := fun xs H Q => ∃ a kvs, xs = [V.ref a] ∧ H a = some (.dK kvs) ∧ Q (.int kvs.length) H
theorem ev_dlen (h : ρ[i]? = some (Sl.dic ks ds)) (hl : ks.length = ds.length) : EvD K (tCB rLenDic (tCons (tVar i) tNil)) ρ (.int ((ks.length : Nat) : Int)) := fun B B0 σ H H0 r Q q => by
  obtain ⟨a, xs, e1, e2, e3, e4, e5⟩ := r.obj i _ _ h
  refine ⟨_, e1, a, _, rfl, e4, ?_⟩
  have e : (((ks.map (Sum.inl : Int → Key)).zip xs).length : Int) = ((ks.length : Nat) : Int) := by rw [List.length_zip, List.length_map, dpa_len e5, ← hl, Nat.min_self]
  rw [e]
  exact q _ H H0 (.refl r.sub) (.int _)
/-! ### from the back -/
theorem it_rev {H0 : Hp} {a : Addr} {xs : List V} (h1 : SqL K H0 a xs) (h2 : DpAll K H0 xs ds) : ItOk K (Itv K a xs.length) H0 ds.reverse := fun i H' H0' s1 s2 => by
  have h3 : SqL K H' a xs := Same.seq (s1.trans s2) h1
  have hl := dpa_len h2
  refine ⟨fun hi => by rw [List.length_reverse] at hi; show xs.length ≤ i; omega, fun d e => ?_⟩
  have hi : i < ds.length := by
    have := (List.getElem?_eq_some_iff.mp e).1
    rwa [List.length_reverse] at this
  rw [List.getElem?_reverse hi, ← hl] at e
  obtain ⟨v, e1, e2⟩ := dpa_get h2 e
  refine ⟨⟨by omega, xs, v, h3, e1⟩, fun x H2 hy => ?_⟩
  obtain ⟨rfl, hy⟩ := hy
  have e3 := hy xs h3
  rw [e1] at e3; cases e3
  exact ⟨H0', .refl s2, dp_mono s1 e2⟩
theorem ei_revL (h : EvD K te ρ (.list ds)) : Ev_It K (RT.iRevA K te) ρ ds.reverse := fun B B0 σ H H0 r R q => h B B0 σ H H0 r _ fun v H1 H01 w1 k => by
  cases k with
  | lst h1 h2 => exact ⟨_, _, rfl, .inl ⟨Same.seq w1.sub h1, q _ H1 H01 w1 (it_rev h1 h2)⟩⟩
end EL
namespace EK
open PySem PySem.Spec PyProof.Rows L2 EL
variable [TabC]
variable {X : Cx} {K : PySem.W.Frag}
theorem lenDic : CallR X (.builtin "len") rLenDic := call_lenD
theorem revA {tg e : Expr} {te : TE} {p pos : Pos} (hg : Gl X "reversed") (hm : X.mg "reversed" = none) (he : PE X e te) (hs : starEach [e] X.env = (false, eval e X.env) :: starEach [] X.env := by rfl) (hK : X.K = K := by rfl) : PI X tg (.Call (.Name "reversed" p) [e] [] pos) (RT.iRevA K te) := hK ▸ RT.pi_revA hg hm he hs
theorem listZip {e e2 : Expr} {ta : TA} {p p2 pos pos2 : Pos} (hc : X.calm = true) (hg : Gl X "list") (hm : X.mg "list" = none) (hg2 : Gl X "zip") (hm2 : X.mg "zip" = none) (ha : PA X [e, e2] ta)
    (h1 : starEach [e, e2] X.env = (false, eval e X.env) :: starEach [e2] X.env := by rfl) (h2 : (backTo pos2 (starEach [e2] X.env)).any (·.1) = false := by rfl)
    (h3 : starEach [.Call (.Name "zip" p2) [e, e2] [] pos2] X.env = (false, eval (.Call (.Name "zip" p2) [e, e2] [] pos2) X.env) :: starEach [] X.env := by rfl) (hK : X.K = K := by rfl) :
    PE X (.Call (.Name "list" p) [.Call (.Name "zip" p2) [e, e2] [] pos2] [] pos) (EZ.tListZip K ta) := hK ▸ EZ.pe_listZip hc hg hm hg2 hm2 ha h1 h2 h3
end EK

/-! enumerate of a tuple or a list -/
namespace EZ
open PySem
section
variable {prog : Program} {w : World} {A : Around} {E : Value → Shared → Prop} {s : Shared} {b : Bool} {e it l : Addr} {i : Nat} {xs : Array Value}
def KeptE (e it : Addr) (h g : Heap) : Prop := ∀ c o, c ≠ e → c ≠ it → h.get? c = some o → g.get? c = some o
theorem enumTurn {x old : Value} {Q : Value → Shared → Prop} (Z : IsEnum s.heap e it i old) (c : Cur b s.heap it l i) (t : Sto b s.heap l xs) (hx : xs[i]? = some x) (ne : e ≠ it)
    (q : ∀ g, IsEnumOut g e it ((i : Int) + 1) x s.heap.objs.size → Cur b g it l (i + 1) → g.get? s.heap.objs.size = some { cls := .type "tuple", data := .seq #[.int i s.toks, x] } → KeptE e it s.heap g → Q (.ref s.heap.objs.size) { s with heap := g, toks := s.toks + 1 }) :
    wpAny (model prog w) A (Builtin.«enumerate.__next__» ⟨[.ref e], []⟩) (fun f t => ∃ v, f = .done (.ret v) ∧ Q v t) E s := by
  obtain ⟨hp, g0, d, tk, os⟩ := s
  show wpAny _ _ (field (.ref e) 2 >>= _) _ _ _
  apply wpAny_bind
  apply wpAny_field Z rfl (x := .ref it) rfl
  apply wpAny_bind
  refine draw c t hx fun g1 c1 u1 => ?_
  have z1 : g1.objs.size = hp.objs.size := u1.1
  have u1 : Heap.ExtBut it hp g1 := u1.extBut
  have Z1 : IsEnum g1 e it i old := u1 _ _ ne Z
  show wpAny _ _ (field (.ref e) 3 >>= _) _ _ ⟨g1, g0, d, tk, os⟩
  apply wpAny_bind
  apply wpAny_field Z1 rfl (x := rawInt i) rfl
  show wpAny _ _ (field (.ref e) 4 >>= _) _ _ ⟨g1, g0, d, tk, os⟩
  apply wpAny_bind
  apply wpAny_field Z1 rfl (x := .none) rfl
  show wpAny _ _ (mkInt i >>= _) _ _ ⟨g1, g0, d, tk, os⟩
  apply wpAny_bind
  refine wpAny_mkInt ?_
  show wpAny _ _ (setField (.ref e) 3 (rawInt ((i : Int) + 1)) >>= _) _ _ ⟨g1, g0, d, tk + 1, os⟩
  apply wpAny_bind
  refine wpAny_setField_rec Z1 (by simp) fun g2 Z2 u2 => ?_
  have Z2 : IsEnum g2 e it ((i : Int) + 1) old := Z2
  have z2 : g2.objs.size = g1.objs.size := u2.1
  have u2 : Heap.ExtBut e g1 g2 := u2.extBut
  show wpAny _ _ (setField (.ref e) 4 .none >>= _) _ _ ⟨g2, g0, d, tk + 1, os⟩
  apply wpAny_bind
  refine wpAny_setField_rec Z2 (by simp) fun g3 Z3 u3 => ?_
  have Z3 : IsEnum g3 e it ((i : Int) + 1) old := Z3
  have z3 : g3.objs.size = g2.objs.size := u3.1
  have u3 : Heap.ExtBut e g2 g3 := u3.extBut
  show wpAny _ _ (newTuple [.int i tk, x] >>= _) _ _ ⟨g3, g0, d, tk + 1, os⟩
  apply wpAny_bind
  refine wpAny_newTuple ?_
  have hs : g3.objs.size = hp.objs.size := by rw [z3, z2, z1]
  have le : e < hp.objs.size := Heap.lt_size Z
  have T4 : (g3.push { cls := .type "tuple", data := .seq #[.int i tk, x] }).get? hp.objs.size = some { cls := .type "tuple", data := .seq #[.int i tk, x] } := by
    rw [← hs]
    exact Heap.get?_push_size _ rfl
  have Z4 : IsEnum (g3.push { cls := .type "tuple", data := .seq #[.int i tk, x] }) e it ((i : Int) + 1) old := Heap.get?_push_of_some _ Z3
  have K4 : KeptE e it hp (g3.push { cls := .type "tuple", data := .seq #[.int i tk, x] }) := fun c o n1 n2 q => Heap.get?_push_of_some _ (u3 _ _ n1 (u2 _ _ n1 (u1 _ _ n2 q)))
  have c4 : Cur b (g3.push { cls := .type "tuple", data := .seq #[.int i tk, x] }) it l (i + 1) := ((c1.keep fun o => u2 _ o (Ne.symm ne)).keep fun o => u3 _ o (Ne.symm ne)).keep fun o q => Heap.get?_push_of_some _ q
  generalize hg4 : g3.push { cls := .type "tuple", data := .seq #[.int i tk, x] } = g4 at T4 Z4 K4 c4
  show wpAny _ _ (Builtin.SmallTypes.ownedTupleIsFree (.ref e) >>= _) _ _ ⟨g4, g0, d, tk + 1, os⟩
  rw [hs]
  apply wpAny_bind
  unfold Builtin.SmallTypes.ownedTupleIsFree
  apply wpAny_bind
  apply wpAny_field Z4 rfl (x := .none) rfl
  apply wpAny_pure
  simp only [if_true]
  apply wpAny_bind
  apply wpAny_rule
  apply wpAny_bind
  apply wpAny_field Z4 rfl (x := old) rfl
  apply wpAny_bind
  refine wpAny_setField_rec Z4 (by simp) fun g5 Z5 u5 => ?_
  have Z5 : IsEnum g5 e it ((i : Int) + 1) x := Z5
  have u5 : Heap.ExtBut e g4 g5 := u5.extBut
  show wpAny _ _ (Builtin.SmallTypes.ownedTupleHandOut (.ref e) (.ref hp.objs.size) >>= _) _ _ ⟨g5, g0, d, tk + 1, os⟩
  apply wpAny_bind
  unfold Builtin.SmallTypes.ownedTupleHandOut
  apply wpAny_bind
  refine wpAny_setField_rec Z5 (by simp) fun g6 Z6 u6 => ?_
  have Z6 : IsEnumOut g6 e it ((i : Int) + 1) x hp.objs.size := Z6
  have u6 : Heap.ExtBut e g5 g6 := u6.extBut
  refine wpAny_setField_rec Z6 (by simp) fun g7 Z7 u7 => ?_
  have Z7 : IsEnumOut g7 e it ((i : Int) + 1) x hp.objs.size := Z7
  have u7 : Heap.ExtBut e g6 g7 := u7.extBut
  have up : ∀ c o, c ≠ e → g4.get? c = some o → g7.get? c = some o := fun c o n q => u7 _ _ n (u6 _ _ n (u5 _ _ n q))
  apply wpAny_bind
  apply wpAny_letGo
  apply wpAny_pure
  exact ⟨_, rfl, q g7 Z7 (c4.keep fun o => up _ o (Ne.symm ne)) (up _ _ (Nat.ne_of_gt le) T4) fun c o n1 n2 q => up _ _ n1 (K4 c o n1 n2 q)⟩
theorem enumItem {x old : Value} {Q : Option Value → Shared → Prop} (Z : IsEnum s.heap e it i old) (c : Cur b s.heap it l i) (t : Sto b s.heap l xs) (hx : xs[i]? = some x) (ne : e ≠ it)
    (q : ∀ g, IsEnumOut g e it ((i : Int) + 1) x s.heap.objs.size → Cur b g it l (i + 1) → g.get? s.heap.objs.size = some { cls := .type "tuple", data := .seq #[.int i s.toks, x] } → KeptE e it s.heap g → Q (some (.ref s.heap.objs.size)) { s with heap := g, toks := s.toks + 1 }) :
    wpAny (model prog w) A (pyNext (.ref e)) Q E s := by
  have ty : s.TypeIs (.ref e) "enumerate" := ⟨_, Z, rfl⟩
  unfold pyNext
  apply wpAny_bind
  apply wpAny_attempt
  refine wpAny_callSpecial?_slot (name := Str.ofString "__next__") ty F.slot_enumerate_next (wpAny_call_entry F.slot_enumerate_next ty F.entry_enumerate_next ?_ (F.args_enumerate_next_1 _))
  exact enumTurn Z c t hx ne fun g a1 a2 a3 a4 => wpAny_pure (q g a1 a2 a3 a4)
theorem enumEnd {old : Value} {Q : Option Value → Shared → Prop} (hh : A.handled = none) (Z : IsEnum s.heap e it i old) (c : Cur b s.heap it l i) (t : Sto b s.heap l xs) (hx : xs[i]? = none) (q : ∀ g, Heap.ExtBut it s.heap g → Q none { s with heap := g }) :
    wpAny (model prog w) A (pyNext (.ref e)) Q E s := by
  have ty : s.TypeIs (.ref e) "enumerate" := ⟨_, Z, rfl⟩
  unfold pyNext
  apply wpAny_bind
  apply wpAny_attempt
  refine wpAny_callSpecial?_slot (name := Str.ofString "__next__") ty F.slot_enumerate_next (wpAny_call_entry F.slot_enumerate_next ty F.entry_enumerate_next ?_ (F.args_enumerate_next_1 _))
  show wpAny _ _ (field (.ref e) 2 >>= _) _ _ _
  apply wpAny_bind
  apply wpAny_field Z rfl (x := .ref it) rfl
  apply wpAny_bind
  refine drawEnd hh c t hx fun g x u hs => ?_
  obtain ⟨o, ho, hc⟩ := hs
  apply wpAny_bind
  refine wpAny_isInstance (T := "StopIteration") (b := true) ⟨o, ho, hc⟩ isSubtype_stop ?_
  exact wpAny_pure (q g u)
theorem madeE (l : Addr) (xs : Array Value) : Meets (Builtin.«enumerate.__new__» ⟨[.type "enumerate", .ref l], []⟩) (fun _ R s => s.heap.IsTuple l xs ∧ R (.ok (.ret (.ref (s.heap.push (itO true l)).objs.size)))
    { s with heap := (s.heap.push (itO true l)).push { cls := .type "enumerate", data := .fields #[.none, .bool false, .ref s.heap.objs.size, rawInt 0, .none, .none] } }) :=
  .of_wp fun prog w A R s h => by
    obtain ⟨hp, g, d, tk, os⟩ := s
    obtain ⟨h1, h2⟩ := h
    have L1 : Heap.IsTuple (Shared.heap ⟨hp, g, d, tk, os⟩) l xs := h1
    have sb := sub_enumerate
    wp_walk
    refine wpAny_stack_any fun st => wpAny_pure ?_
    split
    · rename_i c _ _ _ _ _
      cases (c == Value.type "enumerate")
      · wp_walk using wpAny_pyIter_tuple L1
        exact ⟨_, rfl, h2⟩
      · wp_walk using wpAny_pyIter_tuple L1
        exact ⟨_, rfl, h2⟩
    · wp_walk using wpAny_pyIter_tuple L1
      exact ⟨_, rfl, h2⟩
end
end EZ

namespace EZ
open PySem PySem.Spec PyProof.Rows L2
theorem callEnumT {prog : Program} {w : World} {A : Around} {E : Value → Shared → Prop} {s : Shared} {l : Addr} {xs : Array Value} {Q : Value → Shared → Prop} (t : s.heap.IsTuple l xs)
    (q : ∀ g, IsEnum g (s.heap.objs.size + 1) s.heap.objs.size 0 .none → Cur true g s.heap.objs.size l 0 → (∀ c o, s.heap.get? c = some o → g.get? c = some o) → Q (.ref (s.heap.objs.size + 1)) { s with heap := g }) : wpAny (model prog w) A (call (.type "enumerate") [.ref l]) Q E s := by
  refine callType_new F.called_enumerate (by decide) (F.typeCall_enumerate_1 _) (F.newCall_enumerate_1 _) (fun obj => F.args_object_init_2 obj _) F.entry_enumerate_new (madeE l xs) ⟨t, ?_⟩
  have z1 : (s.heap.push (itO true l)).objs.size = s.heap.objs.size + 1 := Heap.size_push ..
  have r2 := Heap.get?_push_size (s.heap.push (itO true l)) (o := { cls := .type "enumerate", data := .fields #[.none, .bool false, .ref s.heap.objs.size, rawInt 0, .none, .none] }) rfl
  show _ ∧ _
  rw [z1] at r2 ⊢
  have Z : IsEnum ((s.heap.push (itO true l)).push { cls := .type "enumerate", data := .fields #[.none, .bool false, .ref s.heap.objs.size, rawInt 0, .none, .none] }) (s.heap.objs.size + 1) s.heap.objs.size 0 .none := r2
  exact ⟨⟨_, Z, rfl⟩, q _ Z ⟨_, Heap.get?_push_of_some _ (Heap.get?_push_size _ rfl), rfl, rfl⟩ fun c o e => Heap.get?_push_of_some _ (Heap.get?_push_of_some _ e)⟩
/-- the tuple at a, each item with its number in a new pair -/
def ItE (K : PySem.W.Frag) (a : Addr) : It where
  go := fun i H => ∃ (xs : List V) (x : V), SqT K H a xs ∧ xs[i]? = some x
  yld := fun i H v H' => ∃ (T : Addr) (x : V), (v = .ref T ∧ H T = none) ∧ H' = upd H T (.tup [.int (i : Nat), x]) ∧ ∀ xs, SqT K H a xs → xs[i]? = some x
  stop := fun i H => ∃ xs : List V, SqT K H a xs ∧ xs.length ≤ i
theorem turnE {P : Program} {w : World} {K : PySem.W.Frag} {elts : List Expr} {kk : Nat} {tpos : Pos} (a e it : Addr) :
    Turn P w K (.Tuple elts kk tpos) (ItE K a) [e, it] e (fun i h => (∃ old, IsEnum h e it ((i : Nat) : Int) old) ∧ Cur true h it a i ∧ e ≠ it) where
  mem := List.mem_cons_self
  obj := fun i h Z d hd => by
    obtain ⟨⟨old, Z⟩, c, _⟩ := Z
    rcases List.mem_cons.mp hd with rfl | hd
    · exact ⟨_, Z, fun v q => nomatch q⟩
    · cases List.mem_singleton.mp hd
      obtain ⟨o, ho, fs, hf⟩ := c.obj
      exact ⟨o, ho, fun v q => by rw [hf] at q; cases q⟩
  keep := fun i h g Z k => ⟨⟨Z.1.choose, k e (by simp) _ Z.1.choose_spec⟩, Z.2.1.keep (k it (by simp)), Z.2.2⟩
  item := by
    intro X hP hw hK hc i pins s σ H E I hf Z go
    subst hP hw hK
    obtain ⟨⟨old, Z⟩, c, ne⟩ := Z
    obtain ⟨xs, x, qx, hx⟩ := go
    obtain ⟨us, r1, t1, _⟩ := sqb_raw (b := true) I qx
    obtain ⟨u, hu, ru⟩ := r1.get hx
    have le : e < s.heap.objs.size := Heap.lt_size Z
    have li : it < s.heap.objs.size := by
      obtain ⟨o, ho, _⟩ := c.obj
      exact Heap.lt_size ho
    refine enumItem Z c t1 (x := u) (by simpa using hu) ne fun g Zo c1 T1 kp => ⟨_, rfl, ?_⟩
    refine wpAny_letOwnedTupleGo_enum (s := { s with heap := g, toks := s.toks + 1 }) Zo fun g2 Z2 sb => ?_
    have T2 : g2.get? s.heap.objs.size = some { cls := .type "tuple", data := .seq #[.int i s.toks, u] } := (sb.2 _ (Nat.ne_of_gt le)).trans T1
    have ob : ObjOk X.prog X.w (upd H s.heap.objs.size (.tup [.int (i : Nat), x])) g2 s.heap.objs.size (.tup [.int (i : Nat), x]) := ⟨by show 2 ≤ sizeLine; decide, [.int i s.toks, u], .cons ⟨_, rfl⟩ (.cons ru .nil), _, T2, rfl, _, rfl⟩
    have J := I.turnedNew (ch := [e, it]) (t' := s.toks + 1) (fun d o hd q => (sb.2 d (fun z => hd (by simp [z]))).trans (kp d o (fun z => hd (by simp [z])) (fun z => hd (by simp [z])) q)) hf (Nat.le_refl _) ob
    refine ⟨.ref s.heap.objs.size, _, J, rfl, ⟨_, x, ⟨rfl, I.hok.fresh (Nat.le_refl _)⟩, rfl, fun l hl => by rw [I.tuple_inj hl qx]; exact hx⟩, ⟨⟨u, ?_⟩, c1.keep fun o q => (sb.2 it (Ne.symm ne)).trans q, ne⟩, fun d hd => ?_⟩
    · have e1 : ((i + 1 : Nat) : Int) = (i : Int) + 1 := by omega
      rw [e1]
      exact Z2
    · have ld : d < s.heap.objs.size := by
        rcases List.mem_cons.mp hd with rfl | hd
        · exact le
        · cases List.mem_singleton.mp hd
          exact li
      rw [upd_ne (Nat.ne_of_lt ld)]
      exact (hf d hd).1
  done := by
    intro X hP hw hK hc i pins s σ H E I hf Z go
    subst hP hw hK
    obtain ⟨⟨old, Z⟩, c, ne⟩ := Z
    obtain ⟨xs, qx, hx⟩ := go
    obtain ⟨us, r1, t1, _⟩ := sqb_raw (b := true) I qx
    have hl := r1.length
    refine enumEnd (I.ok.hd hc) Z c t1 (by simp; omega) fun g u => ⟨rfl, I.turnedL (t' := s.toks) (ch := [e, it]) (fun d o hd q => u d o (fun z => hd (by simp [z])) q) hf⟩
  self := fun A i s Q E Z q => wpAny_pyIter_enum Z.1.choose_spec q
def iEnumT (K : PySem.W.Frag) (ta : TA) : TI := fun σ H R => ta σ H fun vs H1 => ∃ (a : Addr) (xs : List V), vs = [.ref a] ∧ SqT K H1 a xs ∧ R (ItE K a) H1
theorem pi_enumT {X : Cx} {e : Expr} {ta : TA} {p pos tpos : Pos} {elts : List Expr} {kk : Nat} (hg : Gl X "enumerate") (hm : X.mg "enumerate" = none) (ha : PA X [e] ta) (hs : starEach [e] X.env = [(false, eval e X.env)] := by rfl) :
    PI X (.Tuple elts kk tpos) (.Call (.Name "enumerate" p) [e] [] pos) (iEnumT X.K ta) := by
  refine ⟨fun pins s σ H R I h => Call_ (ld_blt I hg hm boot_enumerate ?_)⟩
  refine PyProof.Rows.callWith_type1 (thn (ha.run pos pins s σ H _ I h) fun us s1 ⟨vs, H1, I1, r1, q1⟩ => ?_) hs rfl
  obtain ⟨a, xs, rfl, qx, q⟩ := q1
  rw [Vals.ref1 r1]
  obtain ⟨us, _, t1, _⟩ := sqb_raw (b := true) I1 qx
  refine callEnumT t1 fun g Z c kp => wpAny_pyIter_enum Z ?_
  have I2 : Inv X pins σ H1 { s1 with heap := g } := I1.kept (t' := s1.toks) kp
  refine ⟨s1.heap.objs.size + 1, _, _, _, H1, rfl, I2, turnE a (s1.heap.objs.size + 1) s1.heap.objs.size, ⟨⟨.none, Z⟩, c, Nat.succ_ne_self _⟩, fun d hd => ?_, q⟩
  have hle : s1.heap.objs.size ≤ d := by
    rcases List.mem_cons.mp hd with rfl | hd
    · exact Nat.le_add_right _ _
    · cases List.mem_singleton.mp hd
      exact Nat.le_refl _
  exact I1.fpOk hle (I1.hok.fresh hle)
end EZ
namespace EL
open PySem PySem.Spec PyProof.Rows L2
variable [TabC]
variable {K : PySem.W.Frag} {ρ : List Sl} {ds : List D}
theorem it_enumT {H0 : Hp} {a : Addr} {xs : List V} (h1 : SqT K H0 a xs) (h2 : DpAll K H0 xs ds) : ItOk K (EZ.ItE K a) H0 (ds.zipIdx.map fun p => .tuple [.int (p.2 : Nat), p.1]) := fun i H' H0' s1 s2 => by
  have h3 : SqT K H' a xs := sqT_mono (s1.trans s2) h1
  constructor
  · intro hi
    refine ⟨xs, h3, ?_⟩
    rw [List.length_map, List.length_zipIdx] at hi
    rw [dpa_len h2]
    exact hi
  · intro d e
    rw [List.getElem?_map, List.getElem?_zipIdx] at e
    cases e1 : ds[i]? with
    | none => rw [e1] at e; cases e
    | some x =>
      rw [e1] at e
      obtain ⟨u, hu, ku⟩ := dpa_get h2 e1
      have ed : d = .tuple [.int (i : Nat), x] := by simpa using e.symm
      subst ed
      refine ⟨⟨xs, u, h3, hu⟩, fun z H2 hy => ?_⟩
      obtain ⟨T, u', ⟨rfl, hT⟩, rfl, f1⟩ := hy
      have e3 := f1 xs h3
      rw [hu] at e3; cases e3
      have s5 : Same H0' (upd H0' T (.tup [.int (i : Nat), u])) := same_new (sub_none s2 hT)
      exact ⟨upd H0' T (.tup [.int (i : Nat), u]), .clean s2 hT, .tup (.of upd_same) (.cons (.int _) (.cons (dp_mono (s1.trans s5) ku) .nil))⟩
theorem ei_enumT {t : TA} (h : EvC K t ρ [.tuple ds]) : Ev_It K (EZ.iEnumT K t) ρ (ds.zipIdx.map fun p => .tuple [.int (p.2 : Nat), p.1]) := fun B B0 σ H H0 r R q => h B B0 σ H H0 r _ fun vs H1 H01 w1 k => by
  cases k with
  | cons k1 k =>
    cases k
    cases k1 with
    | tup h1 h2 => exact ⟨_, _, rfl, sqT_mono w1.sub h1, q _ H1 H01 w1 (it_enumT h1 h2)⟩
end EL
namespace EK
open PySem PySem.Spec PyProof.Rows L2 EL
variable [TabC]
variable {X : Cx} {K : PySem.W.Frag}
theorem enumT {e : Expr} {ta : TA} {p pos tpos : Pos} {elts : List Expr} {kk : Nat} (hg : Gl X "enumerate") (hm : X.mg "enumerate" = none) (ha : PA X [e] ta) (hs : starEach [e] X.env = [(false, eval e X.env)] := by rfl) (hK : X.K = K := by rfl) :
    PI X (.Tuple elts kk tpos) (.Call (.Name "enumerate" p) [e] [] pos) (EZ.iEnumT K ta) := hK ▸ EZ.pi_enumT hg hm ha hs
end EK

namespace EL
open PySem PySem.Spec PyProof.Rows L2
variable [TabC]
variable {K : PySem.W.Frag}
/-! ### all of numbers, all and any of truth values, sums -/
def rAllI (K : PySem.W.Frag) : List V → Hp → VK → Prop := fun vs H Q => ∃ (p : Addr) (ns : List Int), vs = [V.ref p] ∧ SqL K H p (ns.map V.int) ∧ Q (.bl (ns.all fun n => n != 0)) H
theorem getD_all : ∀ ns : List Int, (List.range ns.length).all (fun j => ns.getD j 0 != 0) = ns.all (fun n => n != 0)
  | [] => rfl
  | n :: ns => by
    have h := getD_all ns
    rw [List.length_cons, List.range_succ_eq_map, List.all_cons, List.all_map, List.all_cons, ← h]
    rfl
theorem cr_allI {X : Cx} (hc : X.calm = true) : CallR X (.builtin "all") (rAllI X.K) := by
  rintro pins s σ H vs us Q I r ⟨p, ns, rfl, hs, q⟩
  obtain ⟨its, rv, hl, _⟩ := I.list hs
  rw [Vals.ref1 r]
  have hlen : its.length = ns.length := by rw [← rv.length, List.length_map]
  refine call_all_walk (iter_any hl.isList fun s₂ e2 st hne => ?_)
  subst e2
  have ht : ∀ (A : Around), TruthOf X.prog X.w A (fun j v => its.toArray[j]? = some v) (fun j => ns.getD j 0 != 0) := fun A j v s' Q' E' hv hq => by
    have hv' : its[j]? = some v := by simpa using hv
    have hj : j < ns.length := hlen ▸ (List.getElem?_eq_some_iff.mp hv').1
    have e1 : (ns.map V.int)[j]? = some (V.int ns[j]) := by rw [List.getElem?_map, List.getElem?_eq_getElem hj]; rfl
    obtain ⟨v2, e2, t, e3⟩ := rv.get e1
    rw [hv'] at e2; cases e2
    subst e3
    have hg : ns.getD j 0 = ns[j] := by rw [List.getD_eq_getElem?_getD, List.getElem?_eq_getElem hj]; rfl
    have hq2 : Q' (ns.getD j 0 != 0) s' := hq
    rw [hg] at hq2
    exact PyProof.Rows.truthy_int hq2
  refine ⟨_, _, _, _, _, _, _, rfl, Walks.list (A := X.A.in1) (I.ok.hd hc) _ p hne its.toArray, st, ht _, fun h' tk hk => ?_⟩
  refine ⟨.bl _, H, I.kept fun b o eo => hk b o (fun hm => ?_) (Heap.get?_push_of_some _ eo), ?_, q⟩
  · rcases List.mem_cons.mp hm with z | z
    · exact absurd (z ▸ Heap.lt_size eo) (Nat.lt_irrefl _)
    · cases z
  · show Value.bool _ = Value.bool _
    rw [← getD_all, List.size_toArray, hlen]
theorem cd_allI {ns : List Int} : CD K (rAllI K) [.list (ns.map .int)] (.bool (ns.all fun n => n != 0)) := fun H H0 vs s k Q q => by
  obtain ⟨v, rfl, kk⟩ := dq1 k
  obtain ⟨a, xs, rfl, h1, h2⟩ := kk.lst s
  rw [dpa_ints h2] at h1
  exact ⟨a, ns, rfl, h1, q _ H H0 (.refl s) (.bl _)⟩
theorem dpa_bools {H : Hp} : ∀ {vs : List V} {bs : List Bool}, DpAll K H vs (bs.map .bool) → vs = bs.map V.bl
  | _, [], .nil => rfl
  | _, b :: bs, .cons a t => by
    cases a
    rw [dpa_bools t]
    rfl
theorem cd_anyB {bs : List Bool} : CD K (rAny K) [.list (bs.map .bool)] (.bool (bs.any id)) := fun H H0 vs s k Q q => by
  obtain ⟨v, rfl, kk⟩ := dq1 k
  obtain ⟨a, xs, rfl, h1, h2⟩ := kk.lst s
  rw [dpa_bools h2] at h1
  exact ⟨a, bs, rfl, h1, q _ H H0 (.refl s) (.bl _)⟩
theorem cd_allB {bs : List Bool} : CD K (rAll K) [.list (bs.map .bool)] (.bool (bs.all id)) := fun H H0 vs s k Q q => by
  obtain ⟨v, rfl, kk⟩ := dq1 k
  obtain ⟨a, xs, rfl, h1, h2⟩ := kk.lst s
  rw [dpa_bools h2] at h1
  exact ⟨a, bs, rfl, h1, q _ H H0 (.refl s) (.bl _)⟩
theorem cd_sum {ns : List Int} : CD K (rSum K) [.list (ns.map .int)] (.int ns.sum) := fun H H0 vs s k Q q => by
  obtain ⟨v, rfl, kk⟩ := dq1 k
  obtain ⟨a, xs, rfl, h1, h2⟩ := kk.lst s
  rw [dpa_ints h2] at h1
  exact ⟨a, ns, rfl, h1, q _ H H0 (.refl s) (.int _)⟩
def rIsBl : R2 := fun x y H Q => ∃ a b, x = .bl a ∧ y = .bl b ∧ Q (.bl (decide (a = b))) H
def rIsntBl : R2 := fun x y H Q => ∃ a b, x = .bl a ∧ y = .bl b ∧ Q (.bl (!decide (a = b))) H
theorem rd_isB {a b : Bool} : RD K rIsBl (.bool a) (.bool b) (.bool (decide (a = b))) := fun H H0 v u s k1 k2 Q q => ⟨a, b, k1.bl, k2.bl, q _ H H0 (.refl s) (.bl _)⟩
theorem rd_isntB {a b : Bool} : RD K rIsntBl (.bool a) (.bool b) (.bool (!decide (a = b))) := fun H H0 v u s k1 k2 Q q => ⟨a, b, k1.bl, k2.bl, q _ H H0 (.refl s) (.bl _)⟩
end EL
namespace EK
open PySem PySem.Spec PyProof.Rows L2 EL
variable [TabC]
variable {X : Cx} {K : PySem.W.Frag}
theorem allI (hc : X.calm = true) (hK : X.K = K := by rfl) : CallR X (.builtin "all") (rAllI K) := hK ▸ cr_allI hc
theorem allB (hc : X.calm = true) (hK : X.K = K := by rfl) : CallR X (.builtin "all") (rAll K) := hK ▸ cr_all hc
theorem anyB (hc : X.calm = true) (hK : X.K = K := by rfl) : CallR X (.builtin "any") (rAny K) := hK ▸ cr_any hc
theorem sum (hc : X.calm = true) (hK : X.K = K := by rfl) : CallR X (.builtin "sum") (rSum K) := hK ▸ cr_sum hc
theorem isBl : OpR X (compareOp .Is) rIsBl := op_is_bl
theorem isntBl : OpR X (compareOp .IsNot) rIsntBl := op_isnot_bl
end EK

/-! for i in reversed(range(a, b)) -/
namespace EL
open PySem PySem.Spec PyProof.Rows L2
variable [TabC]
section
variable {K : PySem.W.Frag} {ρ : List Sl} {ta tb : TE}
theorem ei_revR {m n : Int} (ha : EvQ K ta ρ (.int m)) (hb : EvQ K tb ρ (.int n)) (h1 : -(2 ^ 62) ≤ m ∧ m < 2 ^ 62 ∧ -(2 ^ 62) ≤ n ∧ n < 2 ^ 62) : Ev_It K (iRevR (tRg2 ta tb)) ρ ((List.range (n - m).toNat).map fun i => .int (m + (((n - m).toNat : Nat) : Int) - 1 + (i : Nat) * (-1))) := fun B B0 σ H H0 r R q =>
  ha B B0 σ H H0 r _ fun v H1 H01 w1 k1 => by
    refine hb B B0 σ H1 H01 (r.step w1) _ fun u H2 H02 w2 k2 => ?_
    have e1 := k1.int
    have e2 := k2.int
    subst e1 e2
    exact ⟨m, n, rfl, rfl, h1.1, h1.2.1, h1.2.2.1, h1.2.2.2, q _ H2 H02 (w1.trans w2) it_rangeC⟩
end
end EL

/-! values of which something is told by the clean heap: dicts that stay, tuples known to the object; defs with such arguments -/
namespace EL
open PySem PySem.Spec PyProof.Rows L2
variable [TabC]
variable {K : PySem.W.Frag}
abbrev Gn := Hp → V → Prop
section
variable {ρ : List Sl} {P : Post} {t u : TS} {te ta tb : TE} {d x y z : D} {ds es : List D} {i : Nat} {φ ψ : Gn} {as : List Sl}
def EvG (K : PySem.W.Frag) (t : TE) (ρ : List Sl) (φ : Gn) : Prop := ∀ (B B0 : Hp) (σ : L2.St) (H H0 : Hp), Rp K B B0 ρ σ H H0 → ∀ Q : VK, (∀ v H' H0', Wd H H0 H' H0' → φ H0' v → Q v H') → t σ H Q
theorem ev_gen (h : ρ[i]? = some (Sl.gen φ)) : EvG K (tVar i) ρ φ := fun B B0 σ H H0 r Q q => by
  obtain ⟨v, e1, e2, _⟩ := r.gen i φ h
  exact ⟨v, e1, q v H H0 (.refl r.sub) e2⟩
theorem EvG.toD (h : EvG K te ρ φ) (k : ∀ G v, φ G v → Dp K G v d) : EvD K te ρ d := fun B B0 σ H H0 r Q q => h B B0 σ H H0 r Q fun v H' H0' w kd => q v H' H0' w (k _ _ kd)
theorem EvD.toG (h : EvD K te ρ d) : EvG K te ρ fun G v => Dp K G v d := h
theorem EvG.imp (h : EvG K te ρ φ) (k : ∀ G v, φ G v → ψ G v) : EvG K te ρ ψ := fun B B0 σ H H0 r Q q => h B B0 σ H H0 r Q fun v H' H0' w kd => q v H' H0' w (k _ _ kd)
theorem w_setG (h : EvG K te ρ φ) (m : GMono φ) (k : P.nx (ρ.set i (.gen φ))) : Wp K (tAsg te (gName i)) ρ P := fun B B0 σ H H0 r E me =>
  h B B0 σ H H0 r _ fun v H' H0' w kd => me.nx _ _ H' H0' k ((r.step w).setG kd m i)
theorem w_retG (h : EvG K te ρ φ) (k : P.rg φ) : Wp K (tRet te) ρ P := fun B B0 σ H H0 r E m =>
  h B B0 σ H H0 r _ fun v H' H0' w kd => m.rg φ v H' H0' k (r.wd.trans w) kd
theorem w_freezeG {κ : Option (List Int)} (h : ρ[i]? = some (Sl.obj κ ds)) (k : Wp K t (ρ.set i (.gen (ObjG K κ ds))) P) : Wp K t ρ P := fun B B0 σ H H0 r E m => by
  obtain ⟨H0', r'⟩ := r.freezeG h
  exact k B B0 σ H H0' r' E m
/-! ### arguments, some of which are such values -/
inductive ArAll (K : PySem.W.Frag) (H0 : Hp) : List V → List Sl → Prop
  | nil : ArAll K H0 [] []
  | dat {v : V} {d : D} {vs : List V} {as : List Sl} : Dp K H0 v d → ArAll K H0 vs as → ArAll K H0 (v :: vs) (.dat d :: as)
  | gen {v : V} {φ : Gn} {vs : List V} {as : List Sl} : φ H0 v → GMono φ → ArAll K H0 vs as → ArAll K H0 (v :: vs) (.gen φ :: as)
theorem ara_mono {H H' : Hp} (e : Same H H') : ∀ {vs : List V} {as : List Sl}, ArAll K H vs as → ArAll K H' vs as
  | _, _, .nil => .nil
  | _, _, .dat a b => .dat (dp_mono e a) (ara_mono e b)
  | _, _, .gen a m b => .gen (m _ _ _ e a) m (ara_mono e b)
theorem ara_len {H : Hp} : ∀ {vs : List V} {as : List Sl}, ArAll K H vs as → vs.length = as.length
  | _, _, .nil => rfl
  | _, _, .dat _ b => by rw [List.length_cons, List.length_cons, ara_len b]
  | _, _, .gen _ _ b => by rw [List.length_cons, List.length_cons, ara_len b]
theorem ara_dat {H : Hp} : ∀ {vs : List V} {as : List Sl} {i : Nat} {d : D}, ArAll K H vs as → as[i]? = some (.dat d) → ∃ v, vs[i]? = some v ∧ Dp K H v d
  | _, _, _, _, .nil, e => by simp at e
  | _, _, 0, _, .dat a _, e => by simp at e; subst e; exact ⟨_, rfl, a⟩
  | _, _, 0, _, .gen a _ _, e => by simp at e
  | _, _, i + 1, _, .dat _ b, e => by
    obtain ⟨v, h1, h2⟩ := ara_dat (i := i) b (by simpa using e)
    exact ⟨v, by simpa using h1, h2⟩
  | _, _, i + 1, _, .gen _ _ b, e => by
    obtain ⟨v, h1, h2⟩ := ara_dat (i := i) b (by simpa using e)
    exact ⟨v, by simpa using h1, h2⟩
theorem ara_gen {H : Hp} : ∀ {vs : List V} {as : List Sl} {i : Nat} {φ : Gn}, ArAll K H vs as → as[i]? = some (.gen φ) → ∃ v, vs[i]? = some v ∧ φ H v ∧ GMono φ
  | _, _, _, _, .nil, e => by simp at e
  | _, _, 0, _, .gen a m _, e => by simp at e; subst e; exact ⟨_, rfl, a, m⟩
  | _, _, 0, _, .dat a _, e => by simp at e
  | _, _, i + 1, _, .dat _ b, e => by
    obtain ⟨v, h1, h2⟩ := ara_gen (i := i) b (by simpa using e)
    exact ⟨v, by simpa using h1, h2⟩
  | _, _, i + 1, _, .gen _ _ b, e => by
    obtain ⟨v, h1, h2⟩ := ara_gen (i := i) b (by simpa using e)
    exact ⟨v, by simpa using h1, h2⟩
theorem ara_obj {H : Hp} : ∀ {vs : List V} {as : List Sl} {i : Nat} {s : Sl}, ArAll K H vs as → as[i]? = some s → s.isO = true → False
  | _, _, _, _, .nil, e, _ => by simp at e
  | _, _, 0, _, .gen a m _, e, ho => by simp at e; subst e; cases ho
  | _, _, 0, _, .dat a _, e, ho => by simp at e; subst e; cases ho
  | _, _, i + 1, _, .dat _ b, e, ho => ara_obj (i := i) b (by simpa using e) ho
  | _, _, i + 1, _, .gen _ _ b, e, ho => ara_obj (i := i) b (by simpa using e) ho
def EvS (K : PySem.W.Frag) (t : TA) (ρ : List Sl) (as : List Sl) : Prop := ∀ (B B0 : Hp) (σ : L2.St) (H H0 : Hp), Rp K B B0 ρ σ H H0 → ∀ Q : List V → Hp → Prop, (∀ vs H' H0', Wd H H0 H' H0' → ArAll K H0' vs as → Q vs H') → t σ H Q
theorem eg_nil : EvS K tNil ρ [] := fun B B0 σ H H0 r Q q => q [] H H0 (.refl r.sub) .nil
theorem eg_d {tt : TA} (ha : EvD K ta ρ x) (hb : EvS K tt ρ as) : EvS K (tCons ta tt) ρ (.dat x :: as) := fun B B0 σ H H0 rp Q q =>
  ha B B0 σ H H0 rp _ fun v H1 H01 w1 k1 => hb B B0 σ H1 H01 (rp.step w1) _ fun vs H2 H02 w2 k2 => q _ H2 H02 (w1.trans w2) (.dat (dp_mono w2.e0 k1) k2)
theorem eg_g {tt : TA} (ha : EvG K ta ρ φ) (m : GMono φ) (hb : EvS K tt ρ as) : EvS K (tCons ta tt) ρ (.gen φ :: as) := fun B B0 σ H H0 rp Q q =>
  ha B B0 σ H H0 rp _ fun v H1 H01 w1 k1 => hb B B0 σ H1 H01 (rp.step w1) _ fun vs H2 H02 w2 k2 => q _ H2 H02 (w1.trans w2) (.gen (m _ _ _ w2.e0 k1) m k2)
/-- the promise: for arguments as and an answer of which ψ is told, as Pro allows them -/
def spG (K : PySem.W.Frag) (Pro : List Sl → Gn → Prop) : Sp := fun vs H Q _ => ∃ H0 as ψ, Same H0 H ∧ TabsC TabC.T H H0 ∧ ArAll K H0 vs as ∧ Pro as ψ ∧ ∀ v H' H0', Wd H H0 H' H0' → ψ H0' v → Q v H'
theorem ev_callG {Pro : List Sl → Gn → Prop} {tt : TA} {E : XK} (h : EvS K tt ρ as) (hp : Pro as ψ) : EvG K (tCall (spG K Pro) [] E tt) ρ ψ := fun B B0 σ H H0 r Q q =>
  h B B0 σ H H0 r _ fun vs H1 H01 w k => by
    rw [List.append_nil]
    exact ⟨H01, as, ψ, w.sub, w.tb r.tab, k, hp, fun v H' H0' w2 k2 => q v H' H0' (w.trans w2) k2⟩
def initG (N : List Str) (as : List Sl) : List Sl := as ++ List.replicate (N.length - as.length) .no
theorem initG_get {N : List Str} {i : Nat} {s : Sl} (h : (initG N as)[i]? = some s) : as[i]? = some s ∨ s = .no := by
  unfold initG at h
  by_cases hi : i < as.length
  · rw [List.getElem?_append_left hi] at h
    exact .inl h
  · rw [List.getElem?_append_right (by omega), List.getElem?_replicate] at h
    split at h
    · cases h; exact .inr rfl
    · cases h
theorem rg_init {N : List Str} {vs : List V} {H H0 : Hp} (s : Same H0 H) (tb : TabsC TabC.T H H0) (k : ArAll K H0 vs as) : Rp K H H0 (initG N as) (L2.start N vs) H H0 := by
  have hl := ara_len k
  have at_ : ∀ {i : Nat} {v : V}, vs[i]? = some v → (L2.start N vs)[i]? = some (some v) := fun {i v} h1 => by
    unfold L2.start
    have hi : i < vs.length := (List.getElem?_eq_some_iff.mp h1).1
    rw [List.getElem?_append_left (by simpa using hi), List.getElem?_map, h1]; rfl
  refine ⟨.refl s, by unfold initG L2.start; simp [hl], fun i d e => ?_, fun i s e ho => ?_, fun i j a s s' e _ ho => ?_, tb, fun i φ e => ?_⟩
  · rcases initG_get e with e1 | z
    · obtain ⟨v, h1, h2⟩ := ara_dat k e1
      exact ⟨v, at_ h1, h2⟩
    · cases z
  · rcases initG_get e with e1 | z
    · exact (ara_obj k e1 ho).elim
    · subst z; cases ho
  · rcases initG_get e with e1 | z
    · exact (ara_obj k e1 ho).elim
    · subst z; cases ho
  · rcases initG_get e with e1 | z
    · obtain ⟨v, h1, h2⟩ := ara_gen k e1
      exact ⟨v, at_ h1, h2⟩
    · cases z
theorem fn_okG {Pg : Program} {w : World} {mg : Str → Option Value} {base : Heap} {x qual : Str} {st : Stmt} {f : Addr} {fd : FuncData} {N ps : List Str} {k : Nat} {Pro : List Sl → Gn → Prop}
    (F : Fun K x qual st f fd) (S : FnScope N ps (defScope st)) (len : ∀ as ψ, Pro as ψ → as.length = ps.length)
    (body : ∀ (cdv : Value) (A : Around) (outer : List Env) (s : Shared) (H : Hp) (E : XK) (as : List Sl) (ψ : Gn), Room k (A.deeper (envOfC qual (defScope st) s.heap.objs.size f cdv)) → Pro as ψ →
      ∃ t, PSs (cxOf CX0 Pg w K mg base N qual (defScope st) f cdv A outer s H E).nox (defBody st) t ∧
        Wp K t (initG N as) { nx := fun _ => ∀ G, ψ G .non, rt := fun d => ∀ G v, Dp K G v d → ψ G v, rg := fun χ => ∀ G v, χ G v → ψ G v }) :
    FnOk Pg w K mg base CX0 (k + 1) f fd ps (spG K Pro) := by
  refine F.ok S (fun vs H Q E h => ?_) fun cdv A outer s H vs Q E hr h => ?_
  · obtain ⟨H0, as, ψ, s1, tb, k1, hp, _⟩ := h
    rw [ara_len k1]; exact len as ψ hp
  · obtain ⟨H0, as, ψ, s1, tb, k1, hp, q⟩ := h
    obtain ⟨t, pt, wt⟩ := body cdv A outer s H E as ψ hr hp
    exact ⟨t, pt, wt H H0 _ H H0 (rg_init s1 tb k1) _ ⟨fun ρ σ H' H0' e r => q .non H' H0' r.wd (e H0'), fun d v H' H0' e w kd => q v H' H0' w (e _ _ kd), fun _ _ _ _ z => z.elim, fun _ _ _ _ z => z.elim, fun χ v H' H0' e w kd => q v H' H0' w (e _ _ kd)⟩⟩
/-! ### dicts with whole numbers as keys -/
/-- d[k], d one's own or one that stays -/
theorem ev_dgetG {ks : List Int} {j : Nat} {k : Int} (h : EvG K ta ρ (ObjG K (some ks) ds)) (hk : EvQ K tb ρ (.int k)) (hj : ks[j]? = some k) (hd : ds[j]? = some d) (hno : ∀ m : Nat, m < j → ks[m]? ≠ some k) : EvD K (tDGet ta tb) ρ d := fun B B0 σ H H0 r Q q =>
  h B B0 σ H H0 r _ fun v H1 H01 w1 ⟨a, xs, e1, e2, e3⟩ => hk B B0 σ H1 H01 (r.step w1) _ fun u H2 H02 w2 k2 => by
    subst e1
    obtain ⟨v', hv, kv⟩ := dpa_get e3 hd
    rw [k2.int]
    have g := DGet.k (k := Sum.inl k) (show H2 a = some (.dK ((ks.map Sum.inl).zip xs)) from w2.sub _ _ (w2.e0 _ _ e2))
    rw [val_zip hj hv hno] at g
    exact ⟨a, v', rfl, g, q _ H2 H02 (w1.trans w2) (dp_mono w2.e0 kv)⟩
theorem val_some : ∀ {ks : List Int} {xs : List V} {k : Int}, ks.length = xs.length → (valV ((ks.map (Sum.inl : Int → Key)).zip xs) (Sum.inl k)).isSome = decide (k ∈ ks)
  | [], [], _, _ => rfl
  | [], _ :: _, _, h => by cases h
  | _ :: _, [], _, h => by cases h
  | a :: ks, x :: xs, k, h => by
    show (valV (((Sum.inl a : Key), x) :: (ks.map (Sum.inl : Int → Key)).zip xs) (Sum.inl k)).isSome = _
    by_cases e : a = k
    · subst e
      rw [valV_pos (p := ((Sum.inl a : Key), x)) rfl]
      simp
    · have ne : ¬ (Sum.inl a : Key) = Sum.inl k := fun z => e (Sum.inl.inj z)
      rw [valV_neg (p := ((Sum.inl a : Key), x)) ne, val_some (Nat.succ.inj h)]
      have : (k ∈ a :: ks) ↔ (k ∈ ks) := by
        rw [List.mem_cons]
        exact ⟨fun z => z.resolve_left (fun z => e z.symm), .inr⟩
      simp [this]
/-- k not in d, d one's own -/
theorem et_dnotin {ks : List Int} {k : Int} (hk : EvQ K ta ρ (.int k)) (h : ρ[i]? = some (Sl.dic ks ds)) (hl : ks.length = ds.length) : EvT K (tB (tDNotIn ta (tVar i))) ρ (!decide (k ∈ ks)) := fun B B0 σ H H0 r Q q =>
  hk B B0 σ H H0 r _ fun u H1 H01 w1 k1 => by
    obtain ⟨a, xs, e1, e2, e3, e4, e5⟩ := (r.step w1).obj i _ _ h
    refine ⟨_, e1, a, valV ((ks.map (Sum.inl : Int → Key)).zip xs) (Sum.inl k), rfl, ?_, ?_⟩
    · rw [k1.int]
      exact DGet.k (k := Sum.inl k) (show H1 a = some (.dK ((ks.map Sum.inl).zip xs)) from e4)
    · rw [val_some (by rw [hl]; exact (dpa_len e5).symm)]
      exact ⟨_, rfl, q H1 H01 w1⟩
/-- name = {k: v for target in it if ..}: one's own dict -/
theorem w_setDc {wi : TI} {g : TG} {tt : TT} {tk tv : TE} {vs is : List Nat} {c : D → Bool} {fk : D → Int} {fv : D → D} (hi : Ev_It2 K wi ρ ds) (hsub : ∀ i ∈ is, i ∈ vs)
    (hs : ∀ (i : Nat) (d : D), ds[i]? = some d → ∃ ρ2, Bd K g is d (wipeS ρ vs) ρ2 ∧ EvT K tt ρ2 (c d) ∧ (c d = true → EvQ K tk ρ2 (.int (fk d)) ∧ EvD K tv ρ2 (fv d)))
    (nd : ((ds.filter c).map fk).Nodup) (hl : ds.length < sizeLine) (q : P.nx (ρ.set i (.dic ((ds.filter c).map fk) ((ds.filter c).map fv)))) : Wp K (tAsg (tDc wi g tt tk tv vs) (gName i)) ρ P := fun B B0 σ H H0 r E m =>
  hi B B0 σ H H0 r _ fun J H1 H01 w ok D nD => by
    have key : ∀ i, i ≤ ds.length → (((ds.take i).filter c).map fk).length ≤ i := fun i hi => by
      rw [List.length_map]
      exact Nat.le_trans (List.length_filter_le _ _) (by rw [List.length_take]; omega)
    have lenq : ∀ i, (((ds.take i).filter c).map fk).length = (((ds.take i).filter c).map fv).length := fun i => by rw [List.length_map, List.length_map]
    refine ⟨fun i n H' => n = ds.length - i ∧ i ≤ ds.length ∧ ∃ H0' acc, Wd H1 H01 H' H0' ∧ H' D = some (mkO (some (((ds.take i).filter c).map fk)) acc) ∧ H0' D = none ∧ DpAll K H0' acc (((ds.take i).filter c).map fv), ⟨_, rfl, Nat.zero_le _, H01, [], .dirty w.sub nD, upd_same, sub_none w.sub nD, .nil⟩, ?_⟩
    rintro i n H' ⟨rfl, hle, H0', acc, w1, e1, e0, k1⟩
    have r1 : Rp K B B0 (wipeS ρ vs) (wipe σ vs) H' H0' := rp_wipe ((r.step w).step w1) vs
    obtain ⟨ok1, ok2⟩ := ok i H' H0' w1
    by_cases hlt : i < ds.length
    · obtain ⟨go, yl⟩ := ok2 ds[i] (List.getElem?_eq_getElem hlt)
      obtain ⟨ρ2, hb, ht, hf⟩ := hs i ds[i] (List.getElem?_eq_getElem hlt)
      have tk : ds.take (i + 1) = ds.take i ++ [ds[i]] := by rw [List.take_add_one, List.getElem?_eq_getElem hlt]; rfl
      refine .inr ⟨go, fun H2 => ∃ H02 acc, Wd H1 H01 H2 H02 ∧ H2 D = some (mkO (some (((ds.take (i + 1)).filter c).map fk)) acc) ∧ H02 D = none ∧ DpAll K H02 acc (((ds.take (i + 1)).filter c).map fv), fun H2 ⟨a, b, z⟩ => ⟨ds.length - (i + 1), by omega, rfl, hlt, a, b, z⟩, fun x H2 hy => ?_⟩
      obtain ⟨H02, w2, k2⟩ := yl x H2 hy
      refine hb B B0 _ H2 H02 x (r1.step w2) k2 _ fun σ2 r2 e2 => ⟨by rw [e2 vs hsub, wipe_twice], ht B B0 σ2 H2 H02 r2 _ fun H3 H03 w3 => ?_⟩
      have w123 := (w1.trans w2).trans w3
      have e3 : H3 D = some (mkO (some (((ds.take i).filter c).map fk)) acc) := (w2.trans w3).e.obj e1
      have z3 : H03 D = none := (w2.trans w3).stay0 e1 e0
      cases hc : c ds[i] with
      | false =>
        rw [if_neg Bool.false_ne_true]
        have et : (ds.take (i + 1)).filter c = (ds.take i).filter c := by
          rw [tk, List.filter_append, List.filter_cons_of_neg (by rw [hc]; decide)]
          simp
        refine ⟨H03, acc, w123, ?_, z3, ?_⟩
        · rw [et]; exact e3
        · rw [et]; exact dpa_mono (w2.trans w3).e0 k1
      | true =>
        rw [if_pos rfl]
        obtain ⟨hk, hv⟩ := hf hc
        refine hk B B0 σ2 H3 H03 (r2.step w3) _ fun y H4 H04 w4 k4 => hv B B0 σ2 H4 H04 ((r2.step w3).step w4) _ fun v H5 H05 w5 k5 => ?_
        have w345 := w123.trans (w4.trans w5)
        have e5 : H5 D = some (mkO (some (((ds.take i).filter c).map fk)) acc) := (w4.trans w5).e.obj e3
        have z5 : H05 D = none := (w4.trans w5).stay0 e3 z3
        have et : (ds.take (i + 1)).filter c = (ds.take i).filter c ++ [ds[i]] := by
          rw [tk, List.filter_append, List.filter_cons_of_pos hc]
          rfl
        have la : acc.length = (((ds.take i).filter c).map fk).length := by rw [dpa_len k1, lenq]
        have hn : fk ds[i] ∉ ((ds.take i).filter c).map fk := by
          have sp : ds = ds.take i ++ ds[i] :: ds.drop (i + 1) := by
            rw [← List.drop_eq_getElem_cons hlt, List.take_append_drop]
          rw [sp, List.filter_append, List.filter_cons_of_pos hc, List.map_append] at nd
          intro hm
          exact (List.nodup_append.mp nd).2.2 _ hm _ List.mem_cons_self rfl
        have eo : mkO (some (((ds.take (i + 1)).filter c).map fk)) (acc ++ [v]) = .dK (putK (((((ds.take i).filter c).map fk).map (Sum.inl : Int → Key)).zip acc) (Sum.inl (fk ds[i])) v) := by
          rw [putK_new v (val_no hn), et, List.map_append]
          show HO.dK (((((ds.take i).filter c).map fk ++ [fk ds[i]]).map Sum.inl).zip (acc ++ [v])) = _
          rw [List.map_append, List.zip_append (by rw [List.length_map, la])]
          rfl
        have kq := key i hle
        refine ⟨_, Sum.inl (fk ds[i]), k4.int, e5, ?_, H05, acc ++ [v], ?_, ?_, z5, ?_⟩
        · rw [List.length_zip, List.length_map]
          omega
        · have nD0 : H01 D = none := sub_none w.sub nD
          refine ⟨by rw [eo.symm]; exact w345.e.own nD e5, w345.e0, fun b o hb => ?_, w345.new, fun t => by rw [eo.symm]; exact (w345.tb t).own e5⟩
          rw [upd_ne (ne_of_none hb z5)]
          exact w345.sub b o hb
        · rw [eo]; exact upd_same
        · rw [et, List.map_append]
          exact dpa_app (dpa_mono (((w2.trans w3).trans w4).trans w5).e0 k1) (.cons k5 .nil)
    · have e : i = ds.length := by omega
      subst e
      rw [List.take_length] at e1 k1
      exact .inl ⟨ok1 (Nat.le_refl _), m.nx _ _ _ H0' q (r.setK (κ0 := some _) (w.trans w1) (w.e.free nD) e1 e0 k1 _)⟩
end
section
variable {X : Cx}
/-- name = {..} on one line, the name a local -/
theorem ps_setDc {i : Nat} {y : Str} {py : Pos} {kx vx tg iter : Expr} {ifs : List Expr} {scope : Scope} {own : List (Str × Nat)} {pos spos : Pos} {wi : TI} {g : TG} {tt : TT} {tk tv : TE} (hc : X.calm = true) (hN : X.N.Nodup) (hy : X.N[i]? = some y) (hyl : X.env.scope.names.lookup y = some .local)
    (hsw : swapsWith (.DictComp kx vx [⟨tg, iter, ifs, 0⟩] scope pos) (some (.Name y py)) spos.line X.env = pure true) (hi : PI X tg iter wi) (ok : BlkOk X.N X.env.scope scope own)
    (hg : ∀ (s : Shared) (H : Hp) (C : Addr) (cl : List (Str × Addr)) (fp : List Addr), PG (X.blk s H scope (compEnvC scope cl C X.env) fp) tg g) (ht : ∀ (s : Shared) (H : Hp) (C : Addr) (cl : List (Str × Addr)) (fp : List Addr), PTs (X.blk s H scope (compEnvC scope cl C X.env) fp) ifs tt)
    (hk : ∀ (s : Shared) (H : Hp) (C : Addr) (cl : List (Str × Addr)) (fp : List Addr), PE (X.blk s H scope (compEnvC scope cl C X.env) fp) kx tk)
    (he : ∀ (s : Shared) (H : Hp) (C : Addr) (cl : List (Str × Addr)) (fp : List Addr), PE (X.blk s H scope (compEnvC scope cl C X.env) fp) vx tv) (hs : ∀ x, foldedSetIterable iter X.env x = pure x := by intro _; rfl) :
    PS X (.Assign [.Name y py] (.DictComp kx vx [⟨tg, iter, ifs, 0⟩] scope pos) spos) (tAsg (tDc wi g tt tk tv (own.map (·.2))) (gName i)) := by
  refine ⟨fun pins s σ H D I h => ?_⟩
  rw [exec_Assign_Name_used _ _ _ _ hsw]
  refine wpAny_bind (wpAny_standAt (wpAny_bind ?_))
  show wpAny _ X.A (do let _ ← comprehension (.DictComp kx vx [⟨tg, iter, ifs, 0⟩] scope pos) scope X.env (firstIterPos [⟨tg, iter, ifs, 0⟩] pos) newDict false (eval iter X.env) (some (assign (.Name y py) X.env))) _ _ s
  have h : tDc wi g tt tk tv (own.map (·.2)) σ H (fun x H1 => gName i x σ H1 D.nx) := h
  refine wpAny_bind (thn (dc_core (Qf := fun _ s' => SP X pins D .next s') hc hN I hi ok hg ht hk he hs h fun L C s' m H' I' q hn f => ?_) fun _ s' hq => wpAny_pure (wpAny_pure hq))
  show wpAny _ _ (assign (.Name y py) X.env (.ref L)) _ _ _
  refine wpAny_assign_Name (store_ok2 (v := V.ref L) I' hN hy (.inl hyl) rfl (fun s2 I2 ⟨a, sb, ha⟩ => ?_) (.inr hyl))
  obtain ⟨f0, f1, f2, f3, f4, f5⟩ := f
  have haC : C ≠ a := by
    rcases ha with z | z
    · rw [z]; exact f1
    · exact fun e => f4 y a z e.symm
  refine ⟨m, hn.sameBut sb haC, fun h3 sb3 => ?_⟩
  exact ⟨_, H', I2.turned (t' := s2.toks) (fun b o hb e => (sb3.2 b hb).trans e) f0 f1 f3 f4 f5, q⟩
theorem sw_dict {kx vx : Expr} {gs : List Comprehension} {scope : Scope} {pos py : Pos} {y : Str} {l : Nat} {env : Env} (hk : env.scope.kind = .function) (hy : env.scope.names.lookup y = some .local) (hl : (py.line == pos.line) = true)
    (ha : (scope.names.any fun (n, k) => n == y && (k == .local || k == .cell)) = false) : swapsWith (.DictComp kx vx gs scope pos) (some (.Name y py)) l env = pure true := by
  have ky : env.kindOf y = some .local := hy
  have hb : env.blockKind = .function := by unfold Env.blockKind; rw [hk]; rfl
  unfold swapsWith
  simp only [hb, ky, ha, Expr.pos, hl]
  rfl
/-! ### least and greatest of a tuple of two -/
def rMinT (K : PySem.W.Frag) : List V → Hp → VK → Prop := fun xs H Q => ∃ p i j, xs = [.ref p] ∧ SqT K H p [.int i, .int j] ∧ Q (.int (min i j)) H
def rMaxT (K : PySem.W.Frag) : List V → Hp → VK → Prop := fun xs H Q => ∃ p i j, xs = [.ref p] ∧ SqT K H p [.int i, .int j] ∧ Q (.int (max i j)) H
theorem cr_minT (hc : X.calm = true) (hu : X.A.units + 64 < cLine) : CallR X (.builtin "min") (rMinT X.K) := by
  intro pins s σ H xs us Q I r h
  obtain ⟨p, i, j, rfl, hq, q⟩ := h
  obtain ⟨its, rv, hl, _⟩ := I.tuple hq
  rw [Vals.ref1 r]
  have hi : IntsAre its [i, j] := Vals.ints (ns := [i, j]) rv
  refine PySem.W.min_tuple_datum (α := Int) (x := i) (xs := [j]) (I.ok.hd hc) hl (PySem.W.HoldAll.of_ints (by simpa using hi)) (by show X.A.units + 1 + 0 < _; omega) fun n v h' tk hv hm hk => ?_
  obtain ⟨t, rfl⟩ := PySem.W.int_of_holds hm
  have e : PySem.W.minOf i [j] = min i j := by
    show (if decide (j < i) = true then j else i) = _
    by_cases c : j < i
    · rw [decide_eq_true c, if_pos rfl]; omega
    · rw [decide_eq_false c, if_neg Bool.false_ne_true]; omega
  rw [e]
  exact ⟨.int _, H, I.kept hk, ⟨_, rfl⟩, q⟩
theorem cr_maxT (hc : X.calm = true) (hu : X.A.units + 64 < cLine) : CallR X (.builtin "max") (rMaxT X.K) := by
  intro pins s σ H xs us Q I r h
  obtain ⟨p, i, j, rfl, hq, q⟩ := h
  obtain ⟨its, rv, hl, _⟩ := I.tuple hq
  rw [Vals.ref1 r]
  have hi : IntsAre its [i, j] := Vals.ints (ns := [i, j]) rv
  refine PySem.W.max_tuple_datum (α := Int) (x := i) (xs := [j]) (I.ok.hd hc) hl (PySem.W.HoldAll.of_ints (by simpa using hi)) (by show X.A.units + 1 + 0 < _; omega) fun n v h' tk hv hm hk => ?_
  obtain ⟨t, rfl⟩ := PySem.W.int_of_holds hm
  have e : PySem.W.maxOf i [j] = max i j := by
    show (if decide (i < j) = true then j else i) = _
    by_cases c : i < j
    · rw [decide_eq_true c, if_pos rfl]; omega
    · rw [decide_eq_false c, if_neg Bool.false_ne_true]; omega
  rw [e]
  exact ⟨.int _, H, I.kept hk, ⟨_, rfl⟩, q⟩
theorem cd_minT {i j : Int} : CD K (rMinT K) [.tuple [.int i, .int j]] (.int (min i j)) := fun H H0 vs s k Q q => by
  obtain ⟨v, rfl, kk⟩ := dq1 k
  obtain ⟨a, e, h⟩ := sqT_ints (ns := [i, j]) s kk
  exact ⟨a, i, j, by rw [e], h, q _ H H0 (.refl s) (.int _)⟩
theorem cd_maxT {i j : Int} : CD K (rMaxT K) [.tuple [.int i, .int j]] (.int (max i j)) := fun H H0 vs s k Q q => by
  obtain ⟨v, rfl, kk⟩ := dq1 k
  obtain ⟨a, e, h⟩ := sqT_ints (ns := [i, j]) s kk
  exact ⟨a, i, j, by rw [e], h, q _ H H0 (.refl s) (.int _)⟩
/-! ### tuples that are known to the object: their methods -/
/-- a tuple whose items are ds, known to its object -/
def TupG (K : PySem.W.Frag) (ds : List D) : Gn := fun G v => ∃ a ob xs, v = .ref a ∧ G a = some (.frz ob (.tup xs)) ∧ ob.dict = none ∧ DpAll K G xs ds
theorem tupG_mono {ds : List D} : GMono (TupG K ds) := fun G G' u s ⟨b, ob, ys, z1, z2, z3, z4⟩ => ⟨b, ob, ys, z1, s _ _ z2, z3, dpa_mono s z4⟩
theorem tupG_dp {ds : List D} {G : Hp} {v : V} (h : TupG K ds G v) : Dp K G v (.tuple ds) := by
  obtain ⟨a, ob, xs, rfl, h1, _, h2⟩ := h
  exact .tup (.inl (.inr ⟨ob, h1⟩)) h2
/-- tuple(xs), xs a list: the new tuple is known to its object -/
def rTupleZ (K : PySem.W.Frag) : List V → Hp → VK → Prop := fun xs H Q => ∃ p ys, xs = [.ref p] ∧ SqL K H p ys ∧ ∀ l ob, H l = none → ob.dict = none → Q (.ref l) (upd H l (.frz ob (.tup ys)))
theorem call_tupleZ : CallR X (.type "tuple") (rTupleZ X.K) := by
  intro pins s σ H xs us Q I r h
  obtain ⟨p, ys, rfl, hq, q⟩ := h
  obtain ⟨u, rfl, rx⟩ := vals1 r
  cases rx
  obtain ⟨its, r', pl, hz⟩ := I.list hq
  have hlen := r'.length
  refine call_tuple_list pl.isList (fun h' kp => ?_) (by simp only [List.size_toArray] <;> omega)
  have I1 : Inv X pins σ H { s with heap := h' } := I.kept (t' := s.toks) kp
  have I2 : Inv X pins σ (upd H h'.objs.size (.frz { cls := .type "tuple", data := .seq its.toArray } (.tup ys))) { s with heap := h'.push { cls := .type "tuple", data := .seq its.toArray } } :=
    I1.laid (t' := s.toks) (fun b o e => Heap.get?_push_of_some _ e) (Nat.le_refl _) (show ObjOk X.prog X.w _ _ _ (.frz _ (.tup ys)) from ⟨Heap.get?_push_size _ rfl, hz, its, r', IsTup.new _ _⟩)
  exact ⟨.ref h'.objs.size, _, I2, rfl, q _ _ (I1.hok.fresh (Nat.le_refl _)) rfl⟩
theorem ev_tupZ {ρ : List Sl} {te : TE} {ds : List D} (h : EvQ K te ρ (.list ds)) : EvG K (tCB (rTupleZ K) (tCons te tNil)) ρ (TupG K ds) := fun B B0 σ H H0 r Q q =>
  h B B0 σ H H0 r _ fun v H1 H01 w1 k1 => by
    obtain ⟨a, xs, rfl, h1, h2⟩ := k1.lst w1.sub
    refine ⟨a, xs, rfl, h1, fun l ob nl hd => ?_⟩
    have n0 := sub_none w1.sub nl
    exact q _ _ (upd H01 l (.frz ob (.tup xs))) (w1.trans (.clean w1.sub nl)) ⟨l, ob, xs, rfl, upd_same, hd, dpa_mono (same_new n0) h2⟩
/-- t.m(..), t known to its object -/
def tBMZ (r : V → List V → Hp → VK → Prop) (to : TE) (t : TA) : TE := fun σ H Q => to σ H fun x H1 => (∃ a ob u, x = .ref a ∧ H1 a = some (.frz ob (.tup u)) ∧ ob.dict = none) ∧ t σ H1 fun xs H2 => r x xs H2 Q
theorem pe_bmZ {o e : Expr} {es : List Expr} {to : TE} {t : TA} {name : Str} {apos cpos : Pos} {id : String} {r : V → List V → Hp → VK → Prop} (slot : Slot "tuple" name id) (hty : typeOf (.builtin id) = pure (.type "method_descriptor")) (hm : MtR X id r) (ho : PE X o to) (ha : PA X (e :: es) t)
    (hbase : attributeBase o name X.env (eval o X.env) = eval o X.env := by rfl)
    (hfew : ((backTo cpos (starEach (e :: es) X.env)).all (fun x => !x.1) && (backToKw cpos (keywordEach [] X.env)).all (fun x => x.1.isSome)
      && decide ((e :: es).length + ([] : List Keyword).length + (if ([] : List Keyword).isEmpty then 0 else 1) < 30)) = true := by rfl)
    (hline : (apos.endLine == cpos.line) = true := by rfl) (hs : starEach (e :: es) X.env = (false, eval e X.env) :: starEach es X.env := by rfl) (hplain : (backTo cpos (starEach es X.env)).any (·.1) = false := by rfl) :
    PE X (.Call (.Attribute o name apos) (e :: es) [] cpos) (tBMZ r to t) := by
  refine ⟨fun pins s σ H Q I h => ?_⟩
  refine wpAny_Call_method_late hbase hfew hline rfl (thn (ho.run pins s σ H _ I h) fun v s1 ⟨x, H1, I1, r1, ⟨a, ob, u, ex, hx, hd⟩, q1⟩ => ?_)
  subst ex
  have ev : v = Value.ref a := r1
  subst ev
  obtain ⟨g, _, its, _, o2, e2, c2, _⟩ := (show ObjOk X.prog X.w H1 s1.heap a (.frz ob (.tup u)) from I1.hok a _ hx)
  have eo : o2 = ob := Option.some.inj (e2.symm.trans g)
  subst eo
  refine ⟨"tuple", id, PySem.F.plainAttrs_tuple, slot, hty, ⟨o2, g, c2⟩, fun b eb => ?_, ?_⟩
  · cases eb
    exact ⟨o2, g, hd⟩
  have hA := ha.run cpos pins s1 σ H1 _ I1 q1
  rw [hs] at hA ⊢
  refine Calls.callWith_builtin (by show (false || (backTo cpos (starEach es X.env)).any (·.1)) = false; rw [hplain] <;> rfl) (Calls.evalArgs_plain ?_)
  exact thn hA fun us s2 ⟨vs, H2, I2, r2, q2⟩ => hm pins s2 σ H2 _ vs _ us Q I2 r1 r2 q2
/-- t.index(k), whole numbers, k in t -/
def rIdxT (K : PySem.W.Frag) : V → List V → Hp → VK → Prop := fun x xs H Q => ∃ (a : Addr) (ns : List Int) (k : Int), x = .ref a ∧ xs = [V.int k] ∧ SqT K H a (ns.map V.int) ∧ k ∈ ns ∧ Q (.int ((ns.idxOf k : Nat) : Int)) H
theorem mt_idxT : MtR X "tuple.index" (rIdxT X.K) := by
  intro pins s σ H x xs v us Q I rx rs h
  obtain ⟨a, ns, k, rfl, rfl, hq, hk, q⟩ := h
  obtain ⟨its, rv, hl, _⟩ := I.tuple hq
  have ev : v = Value.ref a := rx
  subst ev
  obtain ⟨u, rfl, ru⟩ := vals1 rs
  obtain ⟨t, rfl⟩ := ru
  exact PySem.SeqAt.tuple_index_ints hl (Vals.ints rv) hk ⟨.int _, H, I.tok _, ⟨_, rfl⟩, q⟩
theorem ev_idxT {ρ : List Sl} {te to : TE} {ns : List Int} {k : Int} (h : EvG K to ρ (TupG K (ns.map .int))) (he : EvQ K te ρ (.int k)) (hk : k ∈ ns) : EvD K (tBMZ (rIdxT K) to (tCons te tNil)) ρ (.int ((ns.idxOf k : Nat) : Int)) := fun B B0 σ H H0 r Q q =>
  h B B0 σ H H0 r _ fun v H1 H01 w1 ⟨a, ob, xs, e1, e2, e3, e4⟩ => by
    subst e1
    refine ⟨⟨a, ob, xs, rfl, w1.sub _ _ e2, e3⟩, he B B0 σ H1 H01 (r.step w1) _ fun u H2 H02 w2 k2 => ?_⟩
    rw [k2.int]
    have ex := dpa_ints e4
    subst ex
    exact ⟨a, ns, k, rfl, rfl, .inl (.inr ⟨ob, w2.sub _ _ (w2.e0 _ _ e2)⟩), hk, q _ H2 H02 (w1.trans w2) (.int _)⟩
end
end EL
namespace EK
open PySem PySem.Spec PyProof.Rows L2 EL
variable [TabC]
variable {X : Cx} {K : PySem.W.Frag}
theorem minT (hc : X.calm = true) (hu : X.A.units + 64 < cLine) (hK : X.K = K := by rfl) : CallR X (.builtin "min") (rMinT K) := hK ▸ cr_minT hc hu
theorem maxT (hc : X.calm = true) (hu : X.A.units + 64 < cLine) (hK : X.K = K := by rfl) : CallR X (.builtin "max") (rMaxT K) := hK ▸ cr_maxT hc hu
theorem tupleZ (hK : X.K = K := by rfl) : CallR X (.type "tuple") (rTupleZ K) := hK ▸ call_tupleZ
theorem idxT (hK : X.K = K := by rfl) : MtR X "tuple.index" (rIdxT K) := hK ▸ mt_idxT
end EK

/-! sorted(set(pairs)) -/
namespace EL
open PySem PySem.Spec PyProof.Rows L2
variable [TabC]
variable {K : PySem.W.Frag} {Pg : Program} {w : World} {ρ : List Sl} {te : TE}
def two2 (p : Int × Int) : List Int := [p.1, p.2]
theorem pairs_ks {H : Hp} : ∀ {xs : List V} {ps : List (Int × Int)}, DpAll K H xs (ps.map encP) → ∃ ks : List (Addr × List Int), xs = ks.map (fun p => V.ref p.1) ∧ ks.map (·.2) = ps.map two2 ∧ ∀ p ∈ ks, SqT K H p.1 (p.2.map V.int)
  | _, [], .nil => ⟨[], rfl, rfl, fun p h => nomatch h⟩
  | _, p :: ps, .cons a b => by
    obtain ⟨ks, e1, e2, e3⟩ := pairs_ks b
    cases a with
    | tup s k =>
      have k' : DpAll K H _ ((two2 p).map PyData.int) := k
      rw [dpa_ints k'] at s
      refine ⟨(_, two2 p) :: ks, by rw [e1]; rfl, by rw [List.map_cons, List.map_cons, e2], fun q hq => ?_⟩
      rcases List.mem_cons.mp hq with rfl | hq
      · exact s
      · exact e3 q hq
theorem dpa_ks {H : Hp} : ∀ {L : List (Addr × List Int)} {ps : List (Int × Int)}, L.map (·.2) = ps.map two2 → (∀ p ∈ L, SqT K H p.1 (p.2.map V.int)) → DpAll K H (L.map fun q => V.ref q.1) (ps.map encP)
  | [], [], _, _ => .nil
  | [], _ :: _, h, _ => by cases h
  | _ :: _, [], h, _ => by cases h
  | q :: L, p :: ps, h, f => by
    rw [List.map_cons, List.map_cons] at h
    injection h with h1 h2
    have s := f q List.mem_cons_self
    rw [h1] at s
    exact .cons (.tup s (dpa_of_ints (two2 p))) (dpa_ks h2 fun r hr => f r (List.mem_cons_of_mem _ hr))
theorem two2_inj {p q : Int × Int} (h : two2 p = two2 q) : p = q := by
  unfold two2 at h
  injection h with h1 h2
  injection h2 with h2 _
  exact Prod.ext h1 h2
theorem code_le {p q : Int × Int} (h : p.1 < q.1 ∨ (p.1 = q.1 ∧ p.2 ≤ q.2)) (b1 : 0 ≤ p.2 ∧ p.2 < 64) (b2 : 0 ≤ q.2 ∧ q.2 < 64) : TS.code 64 (two2 p) ≤ TS.code 64 (two2 q) := by
  unfold two2
  rw [code_pair, code_pair]
  omega
theorem code_eq {p q : Int × Int} (h1 : TS.code 64 (two2 p) ≤ TS.code 64 (two2 q)) (h2 : TS.code 64 (two2 q) ≤ TS.code 64 (two2 p)) (b1 : 0 ≤ p.2 ∧ p.2 < 64) (b2 : 0 ≤ q.2 ∧ q.2 < 64) : p = q := by
  unfold two2 at h1 h2
  rw [code_pair, code_pair] at h1 h2
  exact Prod.ext (by omega) (by omega)
def ltP (p q : Int × Int) : Prop := p.1 < q.1 ∨ (p.1 = q.1 ∧ p.2 < q.2)
theorem ev_sortSetP {ps out : List (Int × Int)} (h : EvQ K te ρ (.list (ps.map encP))) (hn : ps.length < 64) (hb : ∀ p ∈ ps, (0 ≤ p.1 ∧ p.1 < 64) ∧ (0 ≤ p.2 ∧ p.2 < 64)) (ho : out.Pairwise ltP) (hm : ∀ p, p ∈ out ↔ p ∈ ps) :
    EvF K (tCB (rSortedT K Pg w) (tCons (tCB (rSetOfT K Pg w) (tCons te tNil)) tNil)) ρ (out.map encP) := fun B B0 σ H H0 r Q q =>
  h B B0 σ H H0 r _ fun v H1 H01 w1 k1 => by
    obtain ⟨l, xs, rfl, hl, hx⟩ := k1.lst w1.sub
    obtain ⟨ks, rfl, e2, e3⟩ := pairs_ks hx
    have lk : ks.length = ps.length := by
      have := congrArg List.length e2
      rwa [List.length_map, List.length_map] at this
    have inks : ∀ p ∈ ks, ∃ x ∈ ps, p.2 = two2 x := fun p hp => by
      have : p.2 ∈ ps.map two2 := by rw [← e2]; exact List.mem_map.mpr ⟨p, hp, rfl⟩
      obtain ⟨x, hx, e⟩ := List.mem_map.mp this
      exact ⟨x, hx, e.symm⟩
    refine ⟨l, ks, rfl, hl, fun p hp => sqT_mono w1.sub (e3 p hp), by rw [lk]; exact hn, fun a L na sub all => ?_⟩
    have w2 : Wd H1 H01 (upd H1 a (SetTO Pg w a L)) H01 := .dirty w1.sub na
    refine ⟨a, L, 2, 64, rfl, upd_same, fun p hp => sqT_mono w2.sub (e3 p (sub p hp)), by decide, fun p hp => ?_, fun L' p pm nd h64 pw np => ?_⟩
    · obtain ⟨x, hx, e⟩ := inks p (sub p hp)
      obtain ⟨b1, b2⟩ := hb x hx
      rw [e]
      refine ⟨rfl, fun y hy => ?_⟩
      rcases List.mem_cons.mp hy with rfl | hy
      · exact b1
      · rcases List.mem_cons.mp hy with rfl | hy
        · exact b2
        · cases hy
    · have key : L'.map (·.2) = out.map two2 := by
        refine List.Perm.eq_of_pairwise (le := fun x y : List Int => TS.code 64 x ≤ TS.code 64 y) (fun x y hx hy h1 h2 => ?_) (List.pairwise_map.mpr pw) ?_ ?_
        · obtain ⟨r1, hr1, rfl⟩ := List.mem_map.mp hx
          obtain ⟨z, hz, rfl⟩ := List.mem_map.mp hy
          obtain ⟨x, hx, e⟩ := inks r1 (sub r1 (pm.mem_iff.mp hr1))
          rw [e] at h1 h2 ⊢
          rw [code_eq h1 h2 (hb x hx).2 (hb z ((hm z).mp hz)).2]
        · rw [List.pairwise_map]
          refine ho.imp_of_mem fun {x y} hx hy z => ?_
          exact code_le (z.imp id fun z => ⟨z.1, by omega⟩) (hb x ((hm x).mp hx)).2 (hb y ((hm y).mp hy)).2
        · have nd2 : (out.map two2).Nodup := by
            refine List.Pairwise.map _ (fun x y (z : ltP x y) e => ?_) ho
            rw [two2_inj e] at z
            unfold ltP at z
            omega
          refine (List.perm_ext_iff_of_nodup nd nd2).mpr fun y => ⟨fun hy => ?_, fun hy => ?_⟩
          · obtain ⟨r1, hr1, rfl⟩ := List.mem_map.mp hy
            obtain ⟨x, hx, e⟩ := inks r1 (sub r1 (pm.mem_iff.mp hr1))
            rw [e]
            exact List.mem_map.mpr ⟨x, (hm x).mpr hx, rfl⟩
          · obtain ⟨x, hx, rfl⟩ := List.mem_map.mp hy
            have h1 : two2 x ∈ ks.map (·.2) := by rw [e2]; exact List.mem_map.mpr ⟨x, (hm x).mp hx, rfl⟩
            obtain ⟨k, hk, e⟩ := List.mem_map.mp h1
            have h2 := all k hk
            rw [e] at h2
            exact (pm.map (·.2)).mem_iff.mpr h2
      have w3 := w2.trans (.dirty (o := HO.lst (L'.map fun q => V.ref q.1)) w2.sub np)
      exact q p _ _ H01 (w1.trans w3) (w1.e.free (w2.e.free np)) upd_same (sub_none w2.sub np) (dpa_ks key fun p hp => e3 p (sub p (pm.mem_iff.mp hp)))
def nubP : List (Int × Int) → List (Int × Int)
  | [] => []
  | p :: ps => if p ∈ ps then nubP ps else p :: nubP ps
theorem mem_nubP {p : Int × Int} : ∀ {ps : List (Int × Int)}, p ∈ nubP ps ↔ p ∈ ps
  | [] => Iff.rfl
  | q :: ps => by
    unfold nubP
    by_cases h : q ∈ ps
    · rw [if_pos h, mem_nubP, List.mem_cons]
      exact ⟨.inr, fun z => z.elim (fun e => by rw [e]; exact h) id⟩
    · rw [if_neg h, List.mem_cons, List.mem_cons, mem_nubP]
theorem nubP_nodup : ∀ ps : List (Int × Int), (nubP ps).Nodup
  | [] => List.nodup_nil
  | q :: ps => by
    unfold nubP
    by_cases h : q ∈ ps
    · rw [if_pos h]; exact nubP_nodup ps
    · rw [if_neg h]; exact List.nodup_cons.mpr ⟨fun z => h (mem_nubP.mp z), nubP_nodup ps⟩
/-- the pairs, each once, in their order -/
def sortSP (ps : List (Int × Int)) : List (Int × Int) := sortP (nubP ps)
theorem mem_sortSP {p : Int × Int} {ps : List (Int × Int)} : p ∈ sortSP ps ↔ p ∈ ps := ((sortP_perm _).mem_iff).trans mem_nubP
theorem sortSP_lt (ps : List (Int × Int)) : (sortSP ps).Pairwise ltP := by
  have nd : (sortSP ps).Nodup := (sortP_perm _).nodup_iff.mpr (nubP_nodup ps)
  have h := (sortP_sorted (nubP ps)).and nd
  refine h.imp fun {p q} ⟨h1, h2⟩ => ?_
  have h1 := lexLe_iff.mp h1
  unfold ltP
  have h3 : ¬ (p.1 = q.1 ∧ p.2 = q.2) := fun z => h2 (Prod.ext z.1 z.2)
  omega
theorem ev_sortSP {ps : List (Int × Int)} (h : EvQ K te ρ (.list (ps.map encP))) (hn : ps.length < 64) (hb : ∀ p ∈ ps, (0 ≤ p.1 ∧ p.1 < 64) ∧ (0 ≤ p.2 ∧ p.2 < 64)) :
    EvF K (tCB (rSortedT K Pg w) (tCons (tCB (rSetOfT K Pg w) (tCons te tNil)) tNil)) ρ ((sortSP ps).map encP) := ev_sortSetP h hn hb (sortSP_lt ps) fun p => mem_sortSP
end EL
namespace EK
open PySem PySem.Spec PyProof.Rows L2 EL
variable [TabC]
variable {X : Cx} {K : PySem.W.Frag} {Pg : Program} {w : World}
theorem setP (hc : X.calm = true) (hu : X.A.units + 64 < cLine) (hK : X.K = K := by rfl) (hP : X.prog = Pg := by rfl) (hw : X.w = w := by rfl) : CallR X (.type "set") (rSetOfT K Pg w) := hK ▸ hP ▸ hw ▸ cr_setOfT hc hu
theorem sortSP (hc : X.calm = true) (hK : X.K = K := by rfl) (hP : X.prog = Pg := by rfl) (hw : X.w = w := by rfl) : CallR X (.builtin "sorted") (rSortedT K Pg w) := hK ▸ hP ▸ hw ▸ cr_sortedT hc
end EK

namespace EL
open PySem PySem.Spec PyProof.Rows L2
variable [TabC]
variable {K : PySem.W.Frag}
section
variable {ρ : List Sl} {P : Post} {t u : TS} {te ta tb : TE} {d e x y z : D} {ds es : List D} {i : Nat} {φ ψ : Gn}
/-! ### a and b, a or b, as truth values -/
theorem ev_andV {a b : Bool} (h1 : EvQ K ta ρ (.bool a)) (h2 : a = true → EvD K tb ρ (.bool b)) : EvD K (tAndV ta tb) ρ (.bool (a && b)) := fun B B0 σ H H0 r Q q =>
  h1 B B0 σ H H0 r _ fun v H1 H01 w1 k1 => by
    refine ⟨a, k1.bl, ?_⟩
    cases a with
    | true => exact h2 rfl B B0 σ H1 H01 (r.step w1) Q fun v H2 H02 w2 k2 => q v H2 H02 (w1.trans w2) k2
    | false => exact q _ H1 H01 w1 (.bl _)
theorem ev_orV {a b : Bool} (h1 : EvQ K ta ρ (.bool a)) (h2 : a = false → EvD K tb ρ (.bool b)) : EvD K (tOrV ta tb) ρ (.bool (a || b)) := fun B B0 σ H H0 r Q q =>
  h1 B B0 σ H H0 r _ fun v H1 H01 w1 k1 => by
    refine ⟨a, k1.bl, ?_⟩
    cases a with
    | true => exact q _ H1 H01 w1 (.bl _)
    | false => exact h2 rfl B B0 σ H1 H01 (r.step w1) Q fun v H2 H02 w2 k2 => q v H2 H02 (w1.trans w2) k2
/-! ### a tuple of data and a value of which something is told -/
def PrG (K : PySem.W.Frag) (d : D) (φ : Gn) : Gn := fun G v => ∃ a x y, v = .ref a ∧ SqT K G a [x, y] ∧ Dp K G x d ∧ φ G y
theorem prG_mono (m : GMono φ) : GMono (PrG K d φ) := fun G G' u s ⟨a, x, y, h1, h2, h3, h4⟩ => ⟨a, x, y, h1, sqT_mono s h2, dp_mono s h3, m _ _ _ s h4⟩
theorem prG_dp (k : ∀ G v, φ G v → Dp K G v e) (G : Hp) (v : V) (h : PrG K d φ G v) : Dp K G v (.tuple [d, e]) := by
  obtain ⟨a, x, y, rfl, h2, h3, h4⟩ := h
  exact .tup h2 (.cons h3 (.cons (k _ _ h4) .nil))
theorem ev_prG (ha : EvD K ta ρ d) (hb : EvG K tb ρ φ) (m : GMono φ) : EvG K (tTup (tCons ta (tCons tb tNil))) ρ (PrG K d φ) := fun B B0 σ H H0 r Q q =>
  ha B B0 σ H H0 r _ fun v H1 H01 w1 k1 => hb B B0 σ H1 H01 (r.step w1) _ fun u H2 H02 w2 k2 => by
    refine ⟨sz_le (by simp), fun p np => ?_⟩
    have n0 := sub_none w2.sub np
    have w3 : Wd H2 H02 (upd H2 p (.tup [v, u])) (upd H02 p (.tup [v, u])) := .clean w2.sub np
    exact q _ _ _ ((w1.trans w2).trans w3) ⟨p, v, u, rfl, .of upd_same, dp_mono (w2.trans w3).e0 k1, m _ _ _ w3.e0 k2⟩
theorem ev_prIx1 (h : EvG K te ρ (PrG K d φ)) (m : GMono φ) : EvG K (tOp (rIx K) te (tC (.int 1))) ρ φ := fun B B0 σ H H0 r Q q =>
  h B B0 σ H H0 r _ fun v H1 H01 w1 ⟨a, x, y, e1, h2, h3, h4⟩ => by
    subst e1
    exact .inr (.inl ⟨a, [x, y], 1, y, rfl, rfl, sqT_mono w1.sub h2, rfl, q _ H1 H01 w1 h4⟩)
theorem w_genD (h : ρ[i]? = some (Sl.gen φ)) (k : ∀ G v, φ G v → Dp K G v d) (q : Wp K t (ρ.set i (.dat d)) P) : Wp K t ρ P := fun B B0 σ H H0 r E m => by
  obtain ⟨v, e1, e2, _⟩ := r.gen i φ h
  refine q B B0 σ H H0 ?_ E m
  have r' := r.setD (k _ _ e2) i
  rwa [show σ.set i (some v) = σ from by
    have hi := (List.getElem?_eq_some_iff.mp e1).1
    have e3 : σ[i] = some v := Option.some.inj ((List.getElem?_eq_getElem hi).symm.trans e1)
    rw [← e3, List.set_getElem_self]] at r'
theorem w_datG (h : ρ[i]? = some (Sl.dat d)) (k : ∀ G v, Dp K G v d → φ G v) (m : GMono φ) (q : Wp K t (ρ.set i (.gen φ)) P) : Wp K t ρ P := fun B B0 σ H H0 r E me => by
  obtain ⟨v, e1, e2⟩ := r.dat i d h
  refine q B B0 σ H H0 ?_ E me
  have r' := r.setG (k _ _ e2) m i
  rwa [show σ.set i (some v) = σ from by
    have hi := (List.getElem?_eq_some_iff.mp e1).1
    have e3 : σ[i] = some v := Option.some.inj ((List.getElem?_eq_getElem hi).symm.trans e1)
    rw [← e3, List.set_getElem_self]] at r'
end
end EL

/-! a lambda with parameters, handed to a def that calls it (on the library's ways for a lambda without parameters and for a def within a def) -/
namespace LF
open PySem PySem.Spec PyProof.Rows L2 LamX NdefX
theorem same_new' {H : Hp} {p : Addr} {o : HO} (np : H p = none) : Same H (upd H p o) := fun b u e => by
  rw [upd_ne (ne_of_none e np)]; exact e
structure LN where
  qual : Str
  params : Arguments
  body : Expr
  scope : Scope
  cl : List (Str × Addr)
  c : Addr
abbrev LN.fd (F : LN) (pm ctv : Value) : FuncData := PySem.W.kla_fn "<lambda>" F.qual F.params F.body F.scope F.cl pm (.ref F.c) ctv
abbrev LN.nf (F : LN) : NF := ⟨"<lambda>", F.qual, F.params, [], F.scope, F.cl, F.c⟩
/-- the object at f is the lambda F -/
def FnL (f : Addr) (F : LN) : HO := .ext fun h => ∃ (od : Option Addr) (sl : Array (Option Value)) (pm ctv : Value), h.get? f = some (⟨.type "function", od, .func (F.fd pm ctv), sl⟩ : Obj)
theorem fnL_at {P : Program} {w : World} {H : Hp} {h : Heap} {f : Addr} {F : LN} (hok : HOk P w H h) (e : H f = some (FnL f F)) : ∃ (od : Option Addr) (sl : Array (Option Value)) (pm ctv : Value), h.get? f = some (⟨.type "function", od, .func (F.fd pm ctv), sl⟩ : Obj) := by
  obtain ⟨z, _, _⟩ := hok f _ e
  exact z
section
variable {X : Cx} {pins : List (Addr × Obj)} {σ : L2.St} {H : Hp} {s : Shared}
theorem inv_fnL {F : LN} {o : Obj} {t' : Nat} {pm ctv : Value} (I : Inv X pins σ H s) (ho : o = { cls := .type "function", data := .func (F.fd pm ctv) }) :
    Inv X pins σ (upd H s.heap.objs.size (FnL s.heap.objs.size F)) { s with heap := s.heap.push o, toks := t' } := by
  subst ho
  refine I.laid (a := s.heap.objs.size) (fun b u e => Heap.get?_push_of_some _ e) (Nat.le_refl _) ?_
  have e : (s.heap.push ({ cls := .type "function", data := .func (F.fd pm ctv) } : Obj)).get? s.heap.objs.size = some ({ cls := .type "function", data := .func (F.fd pm ctv) } : Obj) := Heap.get?_push_size _ rfl
  exact ⟨⟨_, _, pm, ctv, e⟩, ⟨_, e⟩, fun h1 h2 ⟨od, sl, p, t, z⟩ st => ⟨od, sl, p, t, st _ z⟩⟩
theorem fnAtL {f : Addr} {F : LN} (I : Inv X pins σ H s) (e : H f = some (FnL f F)) : PySem.W.FnAt f s.heap := by
  obtain ⟨od, sl, pm, ctv, ho⟩ := fnL_at I.hok e
  exact ⟨_, od, _, sl, ho⟩
/-- the lambda's object is made: its code object is new, or found in the table -/
theorem lam_make3 {T : List (Addr × Str)} {H0 : Hp} {c P : Addr} {params : Arguments} {body : Expr} {scope : Scope} {pos : Pos} {E : Value → Shared → Prop} {Q : Value → Shared → Prop} (I : Inv X pins σ H s) (TB : TabB X.base X.mg c P) (hcode : X.env.code = .ref c)
    (hm : (P, X.env.qual ++ "<lambda>") ∈ T) (hu : ∀ p ∈ T, p.1 = P → p.2 = X.env.qual ++ "<lambda>") (sub : Same H0 H) (hT : EL.TabsC T H H0) (hdef : defaultsOf params X.env = ([], [])) (hfree : ∀ y ∈ scope.names, y.2 = .free → ∃ c, X.env.cells.lookup y.1 = some c)
    (h : ∀ (f c' : Addr) (H1 H01 : Hp) (s' : Shared), Inv X pins σ H1 s' → EL.Ex H H1 → Same H0 H01 → Same H01 H1 → (∀ a o, H01 a = some o → H0 a = some o ∨ H a = none) → EL.TabsC T H1 H01 →
      H01 f = some (FnL f ⟨X.env.qual ++ "<lambda>", params, body, scope, cloFrom X.env.cells scope.names [], c'⟩) → H01 c' = some (CodeO c' (X.env.qual ++ "<lambda>")) → Q (.ref f) s') :
    wpAny (model X.prog X.w) X.A (eval (.Lambda params body scope pos) X.env) Q E s := by
  obtain ⟨h0P, ps, hP, ht, ha⟩ := hT _ hm
  refine PySem.W.kla_eval hdef ?_
  have bP : s.heap.BuiltinsAt X.mg P := TB.bm.keeps I.bk
  have hP' : s.heap.get? P = some { cls := .none, data := .fields ps } := I.hok P _ hP
  cases hc : codeAmong pos ps.toList with
  | none =>
    refine PySem.W.kla_makeFunction (mg := X.mg) (c := c) (P := P) (ps := ps) (closure_ok hfree) I.ok.glob (I.mod.glob.keeps I.bk) hcode (TB.code.keeps I.bk) hP' ht hc TB.gP bP fun c' ctv h' tk hx hge hlt hrec htb => ?_
    obtain ⟨c2, oc, vs, t, e2, hoc, hd, hv⟩ := hrec
    cases e2
    have nC : H c' = none := I.hok.fresh hge
    have nC0 : H0 c' = none := sub.free nC
    have hsz : s.heap.objs.size ≤ h'.objs.size := Nat.le_trans hge (Nat.le_of_lt hlt)
    have nF : H h'.objs.size = none := I.hok.fresh hsz
    have nF0 : H0 h'.objs.size = none := sub.free nF
    have nPc : P ≠ c' := ne_of_none hP nC
    have nPf : P ≠ h'.objs.size := ne_of_none hP nF
    have nfc : c' ≠ h'.objs.size := Nat.ne_of_lt hlt
    have I1 := inv_table (q := X.env.qual ++ "<lambda>") (t' := tk) (more := #[rawInt pos.line, rawInt pos.col, .ref c']) (h' := h') I hP (fun b o hb e => hx b o hb e) htb hge ⟨oc, vs, t, hoc, hd, hv⟩
    have I2 := inv_fnL (F := ⟨X.env.qual ++ "<lambda>", params, body, scope, cloFrom X.env.cells scope.names [], c'⟩) (t' := tk) (pm := (X.mg "__name__").getD .none) (ctv := ctv) I1 rfl
    have eL : (ps ++ #[rawInt pos.line, rawInt pos.col, .ref c']).toList = ps.toList ++ [rawInt pos.line, rawInt pos.col, .ref c'] := by simp
    have s01 : Same H0 (upd (upd H0 c' (CodeO c' (X.env.qual ++ "<lambda>"))) h'.objs.size (FnL h'.objs.size ⟨X.env.qual ++ "<lambda>", params, body, scope, cloFrom X.env.cells scope.names [], c'⟩)) := fun b u e => by
      rw [upd_ne (ne_of_none e nF0), upd_ne (ne_of_none e nC0)]
      exact e
    refine h h'.objs.size c' _ _ _ I2 ⟨fun b u e n => ?_, fun b e => upd_none (upd_none (upd_none e))⟩ s01 (fun b u e => ?_) (fun b u e => ?_) (fun p hp => ?_) upd_same ((upd_ne nfc).trans upd_same)
    · rw [upd_ne (ne_of_none e nF), upd_ne (ne_of_none e nC), upd_ne (fun z => n ps (Option.some.inj (e.symm.trans (by rw [z]; exact hP))))]
      exact e
    · by_cases hf : b = h'.objs.size
      · subst hf; rw [upd_same] at e ⊢; exact e
      · rw [upd_ne hf] at e ⊢
        by_cases hb : b = c'
        · subst hb; rw [upd_same] at e ⊢; exact e
        · rw [upd_ne hb] at e ⊢
          rw [upd_ne (fun z => by rw [z, h0P] at e; cases e)]
          exact sub _ _ e
    · by_cases hf : b = h'.objs.size
      · subst hf; exact .inr nF
      · rw [upd_ne hf] at e
        by_cases hb : b = c'
        · subst hb; exact .inr nC
        · rw [upd_ne hb] at e; exact .inl e
    · by_cases hb : p.1 = P
      · rw [hu p hp hb, hb]
        refine ⟨by rw [upd_ne nPf, upd_ne nPc]; exact h0P, _, by rw [upd_ne nPf, upd_ne nPc, upd_same], by rw [eL]; exact PySem.TriplesOk_snoc _ _ _ _ ht, fun p' cv hcv => ?_⟩
        rw [eL] at hcv
        rcases LamX.among_app _ ht hcv with z | z
        · obtain ⟨c0, e1, e2⟩ := ha p' cv z
          exact ⟨c0, e1, s01 _ _ e2⟩
        · exact ⟨c', z, (upd_ne nfc).trans upd_same⟩
      · obtain ⟨a0, ps', a1, a2, a3⟩ := hT p hp
        refine ⟨by rw [upd_ne (ne_of_none a1 nF), upd_ne (ne_of_none a1 nC)]; exact a0, ps', by rw [upd_ne (ne_of_none a1 nF), upd_ne (ne_of_none a1 nC), upd_ne hb]; exact a1, a2, fun p' cv hcv => ?_⟩
        obtain ⟨c0, e1, e2⟩ := a3 p' cv hcv
        exact ⟨c0, e1, s01 _ _ e2⟩
  | some cv =>
    obtain ⟨c', e, hco⟩ := ha pos cv hc
    subst e
    refine PySem.W.kla_makeFunctionHit (mg := X.mg) (c := c) (P := P) (ps := ps) (closure_ok hfree) I.ok.glob (I.mod.glob.keeps I.bk) hcode (TB.code.keeps I.bk) hP' ht hc bP fun ctv h' tk hx hsz => ?_
    have I1 : Inv X pins σ H { s with heap := h', toks := tk } := I.kept hx
    have nF : H h'.objs.size = none := I1.hok.fresh (Nat.le_refl _)
    have nF0 : H0 h'.objs.size = none := sub.free nF
    have I2 := inv_fnL (F := ⟨X.env.qual ++ "<lambda>", params, body, scope, cloFrom X.env.cells scope.names [], c'⟩) (t' := tk) (pm := (X.mg "__name__").getD .none) (ctv := ctv) I1 rfl
    have s01 : Same H0 (upd H0 h'.objs.size (FnL h'.objs.size ⟨X.env.qual ++ "<lambda>", params, body, scope, cloFrom X.env.cells scope.names [], c'⟩)) := same_new' nF0
    refine h h'.objs.size c' _ _ _ I2 ⟨fun b u e n => ?_, fun b e => upd_none e⟩ s01 (fun b u e => ?_) (fun b u e => ?_) (fun p hp => ?_) upd_same (s01 _ _ hco)
    · exact (upd_ne (ne_of_none e nF)).trans e
    · by_cases hf : b = h'.objs.size
      · subst hf; rw [upd_same] at e ⊢; exact e
      · rw [upd_ne hf] at e ⊢
        exact sub _ _ e
    · by_cases hf : b = h'.objs.size
      · subst hf; exact .inr nF
      · rw [upd_ne hf] at e; exact .inl e
    · obtain ⟨a0, ps', a1, a2, a3⟩ := hT p hp
      refine ⟨by rw [upd_ne (ne_of_none a1 nF)]; exact a0, ps', by rw [upd_ne (ne_of_none a1 nF)]; exact a1, a2, fun p' cv hcv => ?_⟩
      obtain ⟨c0, e1, e2⟩ := a3 p' cv hcv
      exact ⟨c0, e1, s01 _ _ e2⟩
end
/-! ### what it promises -/
structure NOkL (P : Program) (w : World) (K : PySem.W.Frag) (mg : Str → Option Value) (base : Heap) (CX : CXT) (k : Nat) (f : Addr) (F : LN) (ps fr : List Str) (sp : List (Option V) → Sp) : Prop where
  len : ∀ ws vs H Q E, sp ws vs H Q E → vs.length = ps.length
  run : ∀ (A : Around) (outer : List Env) (s : Shared) (H : Hp) (us : List Value) (vs : List V) (ws : List (Option V)) (Q : VK) (E : XK), Room k A → Env0 P w K mg base A outer s H → H f = some (FnL f F) → H F.c = some (CodeO F.c F.qual) →
    CellsAt F.cl fr ws s.heap H → Vals vs us → sp ws vs H Q E → codeAny (model P w) A (.call (.ref f) ⟨us, []⟩) (CR CX outer P w H s Q E) s
section
variable {CX : CXT} {P : Program} {w : World} {K : PySem.W.Frag} {mg : Str → Option Value} {base : Heap} {N ps fr : List Str} {F : LN} {f : Addr} {k j : Nat} {sp sp' : List (Option V) → Sp}
theorem NOkL.mono (o : NOkL P w K mg base CX j f F ps fr sp) (h : j ≤ k) : NOkL P w K mg base CX k f F ps fr sp := ⟨o.len, fun A outer s H us vs ws Q E hr => o.run A outer s H us vs ws Q E (hr.mono h)⟩
/-- THE RULE: a lambda by its body -/
theorem nokL_of (S : NScope N ps fr F.scope) (hb : ∀ (pm ctv : Value) (us : List Value), us.length = ps.length → bindArgs (F.fd pm ctv) ⟨us, []⟩ = pure (ps.zip us)) (len : ∀ ws vs H Q E, sp ws vs H Q E → vs.length = ps.length)
    (hbody : ∀ (A : Around) (outer : List Env) (s : Shared) (H : Hp) (vs : List V) (ws : List (Option V)) (Q : VK) (E : XK), Room k (A.deeper (envF F.nf f s.heap.objs.size)) → ws.length = fr.length → sp ws vs H Q E →
      ∃ t, PE (ncx CX P w K mg base N F.nf f A outer s H E) F.body t ∧ t (startF N vs ws) H Q) :
    NOkL P w K mg base CX (k + 1) f F ps fr sp := by
  refine ⟨len, fun A outer s H us vs ws Q E hr e0 hf hc C r hsp => ?_⟩
  have hl := len _ _ _ _ _ hsp
  have lim : s.heap.NoLimit := e0.mod.nolimit.keeps fun b o e => (e0.bs b o e).1
  obtain ⟨od, sl, pm, ctv, ho⟩ := fnL_at e0.hok hf
  refine PySem.W.kla_callFunE hr.depth ho rfl S.co S.gen rfl (codeO_at e0.hok hc) ?_
  rw [hb pm ctv us (by rw [← r.length]; exact hl)]
  refine wpAny_pure (wpAny_newFunctionEnv S.nocell (fun ⟨n, _⟩ hy => S.par n (List.of_mem_zip hy).1) (fun h₁ hns hsb => ⟨lim.fresh _ hsb, ?_⟩) S.kind)
  show codeAny _ _ (.expr F.body (envF F.nf f s.heap.objs.size)) _ _
  have kp : ∀ b o, s.heap.get? b = some o → h₁.get? b = some o := fun b o e => hsb.extBut b o (Nat.ne_of_lt (Heap.lt_size e)) (Heap.get?_push_of_some _ e)
  obtain ⟨t, ht, hq⟩ := hbody A outer s H vs ws Q E (hr.deeper _) C.len hsp
  have I : Inv (ncx CX P w K mg base N F.nf f A outer s H E) [] (startF N vs ws) H { s with heap := h₁, toks := s.toks + (ps.zip us).length } := inv_startN (F := F.nf) S hr.hd e0 hl r C hns kp
  refine PySem.W.kla_codeExpr (wpAny_mono (ht.run [] _ (startF N vs ws) H Q I hq) (fun v s' hs => ?_) fun e s' hs => hs)
  obtain ⟨x, H', J, rv, q⟩ := hs
  exact ⟨x, H', J.os, J.bare, J.base, J.hok, rv, q⟩
end
/-! ### its call, in the def that got it -/
theorem cells_later {X : Cx} {pins : List (Addr × Obj)} {σ : L2.St} {H : Hp} {s : Shared} {cl : List (Str × Addr)} {fr : List Str} {ws : List (Option V)} (C : CellsAt cl fr ws X.s_0.heap X.H_0) (hx : X.ex = []) (I : Inv X pins σ H s) : CellsAt cl fr ws s.heap H := by
  have un := I.base
  have kp : ∀ y c, cl.lookup y = some c → ∀ v, X.s_0.heap.IsCell c v → s.heap.IsCell c v := fun y c e v ⟨o, ho, hd⟩ => by
    obtain ⟨sl, q⟩ := un.any ho (C.all y c e).1 (by rw [hx]; simp)
    exact ⟨_, q, hd⟩
  refine ⟨C.len, fun y c e => ?_, C.inj, fun i y e => ?_⟩
  · obtain ⟨n, v, z⟩ := C.all y c e
    refine ⟨?_, v, kp y c e v z⟩
    obtain ⟨o, ho, _⟩ := z
    exact un.free c o ho n (by rw [hx]; simp)
  · obtain ⟨c, hc, hv⟩ := C.has i y e
    refine ⟨c, hc, fun v ev => ?_⟩
    obtain ⟨u, r, z⟩ := hv v ev
    exact ⟨u, r, kp y c hc _ z⟩
def tCallL (f : Addr) (F : LN) (i : Nat) (ws : List (Option V)) (sp : List (Option V) → Sp) (t : TA) : TE := fun σ H Q => σ[i]? = some (some (.ref f)) ∧ H f = some (FnL f F) ∧ t σ H fun vs H1 => H1 f = some (FnL f F) ∧ H1 F.c = some (CodeO F.c F.qual) ∧ sp ws vs H1 Q E0
section
variable {X : Cx} {F : LN} {f : Addr} {ps fr : List Str} {ws : List (Option V)} {i j k : Nat} {x : Str} {sp : List (Option V) → Sp} {t : TA} {e : Expr} {es : List Expr} {p pos : Pos}
theorem pe_callL (Fn : NOkL X.prog X.w X.K X.mg X.base CX0 k f F ps fr sp) (C : CellsAt F.cl fr ws X.s_0.heap X.H_0) (hx : X.ex = []) (hr : Room j X.A) (hk : k ≤ j) (hN : X.N[i]? = some x) (hv : Vis X.env.scope x) (ha : PA X (e :: es) t)
    (hd : (x == ("__debug__" : Str)) = false := by decide) (hcd : (x == ("__classdict__" : Str)) = false := by decide)
    (he : starEach (e :: es) X.env = (false, eval e X.env) :: starEach es X.env := by rfl) (hpl : (backTo pos (starEach es X.env)).any (·.1) = false := by rfl) :
    PE X (.Call (.Name x p) (e :: es) [] pos) (tCallL f F i ws sp t) := by
  refine ⟨fun pins s σ H Q I h => ?_⟩
  obtain ⟨hs, hf, ht⟩ := h
  refine wpAny_Call_Name_kw (thn ((pe_var (pos := p) hN hv hd hcd).run pins s σ H (fun v H1 => v = .ref f ∧ H1 = H) I ⟨.ref f, hs, rfl, rfl⟩) fun u s1 ⟨v, H1, I1, r1, q1⟩ => ?_)
  obtain ⟨ev, eH⟩ := q1
  subst ev
  rw [eH] at I1
  obtain rfl : u = Value.ref f := r1
  refine PySem.W.callWith_F (first := []) (fnAtL I1 hf) (thn (ha.run pos pins s1 σ H _ I1 ht) fun us s2 ⟨vs, H2, I2, r, h1, h2, q⟩ => ⟨fnAtL I2 h1, ?_⟩) he hpl
  show wpAny _ _ (call (.ref f) us) _ _ _
  refine wpAny_call (codeAny_mono (Fn.run X.A X.stack s2 H2 us vs ws Q E0 (hr.mono hk) I2.env0 h1 h2 (cells_later C hx I2) r q) fun r s' hq => ?_)
  cases r with
  | error e => exact (show False from hq).elim
  | ok fl =>
    cases fl with
    | ret u => exact I2.after hq
    | next => exact False.elim hq
    | brk => exact False.elim hq
    | cont => exact False.elim hq
end
/-! ### lambda ..: body, as a value; a def that is given such a value -/
section
variable {X : Cx} [EL.TabC]
def tLamV (mk : Addr → LN) : TE := fun σ H Q => ∃ H0, Same H0 H ∧ EL.TabsC EL.TabC.T H H0 ∧ ∀ f c' H1 H01, EL.Wd H H0 H1 H01 → H01 f = some (FnL f (mk c')) → H01 c' = some (CodeO c' (mk c').qual) → Q (.ref f) H1
theorem pe_lam {c P : Addr} {params : Arguments} {body : Expr} {scope : Scope} {lpos : Pos} (TB : TabB X.base X.mg c P) (hcode : X.env.code = .ref c) (hmT : (P, X.env.qual ++ "<lambda>") ∈ EL.TabC.T) (hu : ∀ p ∈ EL.TabC.T, p.1 = P → p.2 = X.env.qual ++ "<lambda>")
    (hfree : ∀ y ∈ scope.names, y.2 = .free → X.env.scope.names.lookup y.1 = some .cell ∨ X.env.scope.names.lookup y.1 = some .free) (hdef : defaultsOf params X.env = ([], [])) :
    PE X (.Lambda params body scope lpos) (tLamV fun c' => ⟨X.env.qual ++ "<lambda>", params, body, scope, cloFrom X.env.cells scope.names [], c'⟩) := by
  refine ⟨fun pins s σ H Q I h => ?_⟩
  obtain ⟨H0, sub, hT, h⟩ := h
  have hfr2 : ∀ y ∈ scope.names, y.2 = .free → ∃ c, X.env.cells.lookup y.1 = some c := fun y hy e => (hfree y hy e).elim (fun z => I.ok.has _ (.inl z)) fun z => I.ok.has _ (.inr z)
  refine lam_make3 I TB hcode hmT hu sub hT hdef hfr2 fun f c' H1 H01 s' I2 ex s0 s1' nw tb hf hco => ?_
  exact ⟨.ref f, H1, I2, rfl, h f c' H1 H01 ⟨ex, s0, s1', nw, fun _ => tb⟩ hf hco⟩
def tCallC (js : List Nat) (t : TA) (TT : List (Option V) → List V → Hp → VK → Prop) : TE := fun σ H Q => t σ H fun vs H1 => TT (js.map (slotAt σ)) vs H1 Q
theorem pe_callC {TT : List (Option V) → List V → Hp → VK → Prop} {x : Str} {g : Addr} {k : Nat} {pg : Arguments} {bg : List Stmt} {sg : Scope} {dV kV doc pm cdv ct oc : Value} {an od : Option Addr} {osl : Array (Option Value)} {Ng ps fr : List Str} {js : List Nat} {cl : List (Str × Addr)}
    {t : TA} {e : Expr} {es : List Expr} {p pos : Pos} (hg : Gl X x) (hm : X.mg x = some (.ref g)) (hk : PySem.W.keepIn X.K (.ref g) = true)
    (lk : X.K.lookup g = some ⟨oc, od, .func (PySem.W.fnOf x x pg bg sg dV kV doc pm an cdv ct), osl⟩) (hcg : PySem.W.codeIn X.K cdv x = true) (hb : L2.Binds X.K (PySem.W.fnOf x x pg bg sg dV kV doc pm an cdv ct) ps []) (Sg : FnScope Ng ps sg)
    (ha : PA X (e :: es) t) (hr : Room (k + 1) X.A) (cp : X.Ok → Caps X cl fr js)
    (hG : ∀ (s : Shared) (H : Hp) (ws : List (Option V)) (vs : List V) (Q : VK), CellsAt cl fr ws s.heap H → TT ws vs H Q → vs.length = ps.length ∧ (Room k (X.A.deeper (envOfC x sg s.heap.objs.size g cdv)) →
      ∃ t, PSs (cxOf CX0 X.prog X.w X.K X.mg X.base Ng x sg g cdv X.A X.stack s H E0).nox bg t ∧ t { nx := fun _ H' => Q .non H', rt := Q } (L2.start Ng vs) H))
    (he : starEach (e :: es) X.env = (false, eval e X.env) :: starEach es X.env := by rfl) (hpl : (backTo pos (starEach es X.env)).any (·.1) = false := by rfl) (hdb : (x == ("__debug__" : Str)) = false := by decide) :
    PE X (.Call (.Name x p) (e :: es) [] pos) (tCallC js t TT) := by
  refine ⟨fun pins s σ H Q I h => ?_⟩
  refine wpAny_Call_Name_kw (ld_glob I hg hm ?_ hdb)
  refine PySem.W.callWith_K (h₀ := X.base) I.ok.mod.kin hk (thn (ha.run pos pins s σ H _ I h) fun us s' ⟨vs, H1, I2, r, q⟩ => ⟨I2.kIn, ?_⟩) he hpl
  show wpAny _ _ (call (.ref g) us) _ _ _
  obtain ⟨hl, hG'⟩ := hG s' H1 (js.map (slotAt σ)) vs Q (cells_of I2 (cp I2.ok)) q
  have rc : codeAny (model X.prog X.w) X.A (.call (.ref g) ⟨us, []⟩) (CR CX0 X.stack X.prog X.w H1 s' Q E0) s' := by
    refine run_ofS (N := Ng) (ps := ps) (us := us) (vs := vs) lk hcg Sg hr I2.env0 ?_ r hl fun hr' => ?_
    · have := hb s' us I2.kIn (by rw [List.append_nil, ← r.length]; exact hl)
      simpa using this
    · obtain ⟨t', ht', hq'⟩ := hG' hr'
      exact ⟨t', ht'.nox, hq'⟩
  refine wpAny_call (codeAny_mono rc fun r s2 hq => ?_)
  cases r with
  | error e => exact (show False from hq).elim
  | ok fl =>
    cases fl with
    | ret u => exact I2.after hq
    | next => exact False.elim hq
    | brk => exact False.elim hq
    | cont => exact False.elim hq
end
end LF

namespace EL
open PySem PySem.Spec PyProof.Rows L2 LamX NdefX LF
variable [TabC]
variable {K : PySem.W.Frag}
section
variable {ρ : List Sl} {P : Post} {te : TE} {d x y z : D} {ds es : List D} {i j : Nat} {φ ψ : Gn} {as : List Sl}
/-- a lambda that was made by mk -/
def LamG (mk : Addr → LN) : Gn := fun G v => ∃ f c', v = .ref f ∧ G f = some (FnL f (mk c')) ∧ G c' = some (CodeO c' (mk c').qual)
theorem lamG_mono {mk : Addr → LN} : GMono (LamG mk) := fun G G' u s ⟨f, c', h1, h2, h3⟩ => ⟨f, c', h1, s _ _ h2, s _ _ h3⟩
theorem ev_lam {mk : Addr → LN} : EvG K (tLamV mk) ρ (LamG mk) := fun B B0 σ H H0 r Q q => ⟨H0, r.sub, r.tab, fun f c' H1 H01 w hf hc => q (.ref f) H1 H01 w ⟨f, c', rfl, hf, hc⟩⟩
/-- the promise of a def whose lambda argument captures one name, whose data are dn -/
def TTc (K : PySem.W.Frag) (Pro : List Sl → D → Gn → Prop) (ws : List (Option V)) (vs : List V) (H : Hp) (Q : VK) : Prop := ∃ H0 as nv dn ψ, Same H0 H ∧ TabsC TabC.T H H0 ∧ ArAll K H0 vs as ∧ ws = [some nv] ∧ Dp K H0 nv dn ∧ Pro as dn ψ ∧ ∀ v H' H0', Wd H H0 H' H0' → ψ H0' v → Q v H'
theorem ev_callC {Pro : List Sl → D → Gn → Prop} {t : TA} (h : EvS K t ρ as) (hj : ρ[j]? = some (Sl.dat d)) (hp : Pro as d ψ) : EvG K (tCallC [j] t (TTc K Pro)) ρ ψ := fun B B0 σ H H0 r Q q =>
  h B B0 σ H H0 r _ fun vs H1 H01 w1 k1 => by
    obtain ⟨v, e1, e2⟩ := r.dat j d hj
    refine ⟨H01, as, v, d, ψ, w1.sub, w1.tb r.tab, k1, ?_, dp_mono w1.e0 e2, hp, fun v H' H0' w2 k2 => q v H' H0' (w1.trans w2) k2⟩
    show [slotAt σ j] = [some v]
    rw [slotAt_of e1]
/-- the lambda at f, within the def that got it; nv: what its captured name holds -/
def FixG (K : PySem.W.Frag) (f : Addr) (F : LN) (nv : V) (dn : D) : Gn := fun G v => v = .ref f ∧ G f = some (FnL f F) ∧ G F.c = some (CodeO F.c F.qual) ∧ Dp K G nv dn
theorem fixG_mono {f : Addr} {F : LN} {nv : V} {dn : D} : GMono (FixG K f F nv dn) := fun G G' u s ⟨h1, h2, h3, h4⟩ => ⟨h1, s _ _ h2, s _ _ h3, dp_mono s h4⟩
/-- what a lambda promises whose captured name has the data dn: arguments ds with Pre, the answer res dn ds -/
def spL (K : PySem.W.Frag) (Pre : D → List D → Prop) (res : D → List D → D) : List (Option V) → Sp := fun ws vs H Q _ => ∃ H0 nv dn ds, Same H0 H ∧ TabsC TabC.T H H0 ∧ ws = [some nv] ∧ Dp K H0 nv dn ∧ DpAll K H0 vs ds ∧ Pre dn ds ∧ ∀ v H' H0', Wd H H0 H' H0' → Dp K H0' v (res dn ds) → Q v H'
theorem ev_callL {f : Addr} {F : LN} {nv : V} {dn : D} {Pre : D → List D → Prop} {res : D → List D → D} {t : TA} (h : ρ[i]? = some (Sl.gen (FixG K f F nv dn))) (ha : EvC K t ρ ds) (hp : Pre dn ds) : EvD K (tCallL f F i [some nv] (spL K Pre res) t) ρ (res dn ds) := fun B B0 σ H H0 r Q q => by
  obtain ⟨v, e1, ⟨ev, e2, e3, e4⟩, _⟩ := r.gen i _ h
  subst ev
  refine ⟨e1, r.sub _ _ e2, ha B B0 σ H H0 r _ fun vs H1 H01 w1 k1 => ⟨w1.sub _ _ (w1.e0 _ _ e2), w1.sub _ _ (w1.e0 _ _ e3), H01, nv, dn, ds, w1.sub, w1.tb r.tab, rfl, dp_mono w1.e0 e4, k1, hp, fun v H' H0' w2 k2 => q v H' H0' (w1.trans w2) k2⟩⟩
theorem rp_initF {N : List Str} {vs : List V} {H H0 : Hp} {nv : V} {dn : D} (s : Same H0 H) (tb : TabsC TabC.T H H0) (k : DpAll K H0 vs ds) (kn : Dp K H0 nv dn) : Rp K H H0 (ds.map .dat ++ (.dat dn :: List.replicate (N.length - ds.length - 1) .no)) (startF N vs [some nv]) H H0 := by
  have hl := dpa_len k
  have e : startF N vs [some nv] = (vs ++ [nv]).map some ++ List.replicate (N.length - vs.length - 1) none := by
    unfold startF
    rw [List.map_append, List.append_assoc]
    rfl
  have k2 : DpAll K H0 (vs ++ [nv]) (ds ++ [dn]) := dpa_app k (.cons kn .nil)
  have get : ∀ {i : Nat} {s : Sl}, (ds.map Sl.dat ++ (.dat dn :: List.replicate (N.length - ds.length - 1) .no))[i]? = some s → (∃ d, (ds ++ [dn])[i]? = some d ∧ s = .dat d) ∨ s = .no := fun {i s} h => by
    have e2 : ds.map Sl.dat ++ (.dat dn :: List.replicate (N.length - ds.length - 1) .no) = (ds ++ [dn]).map Sl.dat ++ List.replicate (N.length - ds.length - 1) .no := by
      rw [List.map_append, List.append_assoc]
      rfl
    rw [e2] at h
    by_cases hi : i < (ds ++ [dn]).length
    · rw [List.getElem?_append_left (by rw [List.length_map]; exact hi), List.getElem?_map] at h
      cases q : (ds ++ [dn])[i]? with
      | none => rw [q] at h; cases h
      | some d => rw [q] at h; cases h; exact .inl ⟨d, rfl, rfl⟩
    · rw [List.getElem?_append_right (by rw [List.length_map]; omega), List.getElem?_replicate] at h
      split at h
      · cases h; exact .inr rfl
      · cases h
  refine ⟨.refl s, ?_, fun i d h => ?_, fun i s h ho => ?_, fun i j a s s' h _ ho => ?_, tb, fun i φ h => ?_⟩
  · rw [e]
    simp [hl]
  · rcases get h with ⟨d', h1, h2⟩ | z
    · cases h2
      obtain ⟨v, g1, g2⟩ := dpa_get k2 h1
      refine ⟨v, ?_, g2⟩
      rw [e]
      have hi : i < (vs ++ [nv]).length := (List.getElem?_eq_some_iff.mp g1).1
      rw [List.getElem?_append_left (by rw [List.length_map]; exact hi), List.getElem?_map, g1]
      rfl
    · cases z
  · rcases get h with ⟨d', h1, h2⟩ | z
    · subst h2; cases ho
    · subst z; cases ho
  · rcases get h with ⟨d', h1, h2⟩ | z
    · subst h2; cases ho
    · subst z; cases ho
  · rcases get h with ⟨d', h1, h2⟩ | z
    · cases h2
    · cases z
/-- a lambda, told by its body -/
theorem nokL_D {Pg : Program} {w : World} {mg : Str → Option Value} {base : Heap} {N ps : List Str} {fr : Str} {F : LN} {f : Addr} {k : Nat} {Pre : D → List D → Prop} {res : D → List D → D} (S : NScope N ps [fr] F.scope) (hb : ∀ (pm ctv : Value) (us : List Value), us.length = ps.length → bindArgs (F.fd pm ctv) ⟨us, []⟩ = pure (ps.zip us))
    (len : ∀ dn ds, Pre dn ds → ds.length = ps.length)
    (body : ∀ (A : Around) (outer : List Env) (s : Shared) (H : Hp) (E : XK) (dn : D) (ds : List D), Room k (A.deeper (envF F.nf f s.heap.objs.size)) → Pre dn ds →
      ∃ t, PE (ncx CX0 Pg w K mg base N F.nf f A outer s H E) F.body t ∧ EvD K t (ds.map .dat ++ (.dat dn :: List.replicate (N.length - ds.length - 1) .no)) (res dn ds)) :
    NOkL Pg w K mg base CX0 (k + 1) f F ps [fr] (spL K Pre res) := by
  refine nokL_of S hb (fun ws vs H Q E h => ?_) fun A outer s H vs ws Q E hr hws h => ?_
  · obtain ⟨H0, nv, dn, ds, _, _, _, _, k1, hp, _⟩ := h
    rw [dpa_len k1]; exact len dn ds hp
  · obtain ⟨H0, nv, dn, ds, s1, tb, rfl, kn, k1, hp, q⟩ := h
    obtain ⟨t, pt, wt⟩ := body A outer s H E dn ds hr hp
    exact ⟨t, pt, wt H H0 _ H H0 (rp_initF s1 tb k1 kn) Q q⟩
end
/-! ### the law's own end, with one table -/
theorem law_spT {K : PySem.W.Frag} {H : Hp} {a P : Addr} {ns : List Int} {q : Str} {Pre : List D → Prop} {res : List D → D} {E : XK} (hl : ns.length ≤ 63) (hP : H P = some (.tbl #[])) (hS : SqL K H a (ns.map V.int)) (hp : Pre [.list (ns.map .int)]) (hr : res [.list (ns.map .int)] = .bool true) (hT : TabC.T = [(P, q)]) :
    spD K Pre res [.ref a] H (fun v _ => v = .bl true) E := by
  have hS' : SqL K (fun b => if b = P then none else H b) a (ns.map V.int) := by
    rcases hS with (h | ⟨o, h⟩) | h
    · refine .inl (.inl ?_)
      show (if a = P then none else H a) = _
      rw [if_neg (fun z => by rw [z, hP] at h; cases h)]; exact h
    · refine .inl (.inr ⟨o, ?_⟩)
      show (if a = P then none else H a) = _
      rw [if_neg (fun z => by rw [z, hP] at h; cases h)]; exact h
    · exact .inr h
  refine ⟨fun b => if b = P then none else H b, [.list (ns.map .int)], fun b u e => ?_, ?_, .cons (.lst hS' (dpa_of_ints ns)) .nil, hp, fun v H' H0' _ k => ?_⟩
  · by_cases hb : b = P
    · have e' : (if b = P then none else H b) = some u := e
      rw [if_pos hb] at e'; cases e'
    · have e' : (if b = P then none else H b) = some u := e
      rw [if_neg hb] at e'; exact e'
  · rw [hT]
    intro p hp
    cases List.mem_singleton.mp hp
    refine ⟨if_pos rfl, #[], hP, True.intro, fun pos cv hc => ?_⟩
    have z : codeAmong pos [] = some cv := hc
    simp [codeAmong] at z
  · rw [hr] at k
    cases k
    rfl
end EL
namespace LF
open PySem PySem.Spec PyProof.Rows L2 LamX NdefX
/-- the law's walk, where the def x0 makes lambdas: c is its code object, P its table -/
theorem walk_tab {l : PySem.W.OpenLaw} {n k : Nat} {q : Program} {loose : List Str} {XP : (Str → Option Value) → Heap → Prop} {YP : World → Heap → Prop} {d d0 : DefRec} {K : Params → PySem.W.Frag} {CX : World → CXT} {x x0 : Str}
    (hn : l.most = some n) (hn2 : n ≤ sizeLine) (hdf : d.params.defaults = []) (hr : Room k callerA) (hY : ∀ (w : World) (h : Heap), YP w h → (K w.params).In h) (hrec : (recsOf q).find? (fun e => e.name == x0) = some d0)
    (F : ∀ (w : World) (mg : Str → Option Value) (fa : Addr) (h : Heap), (K w.params).In h → h.Ns mainGlobals mg → mg d.name = some (.ref fa) →
      ∃ (c P : Addr) (fd : FuncData) (sp : Sp), PySem.W.tabIn (K w.params) x0 = some (c, P) ∧ (K w.params).lookup P = none ∧ (∀ (s : Shared) (u : Value), BindsTo s fd ⟨[u], []⟩ [(x, u)]) ∧
        (∀ (H : Hp) (a : Addr) (ns : List Int), ns.length ≤ n → H P = some (.tbl #[]) → SqL (K w.params) H a (ns.map V.int) → sp [.ref a] H (fun v _ => v = .bl true) fun _ _ _ => False) ∧
        ∀ base : Heap, (K w.params).In base → base.Ns mainGlobals mg → TabB base mg c P → FnOk l.prog w (K w.params) mg base (CX w) k fa fd [x] sp)
    (hCX : ∀ (w : World) (H : Hp) (s : Shared) (e : Value) (s' : Shared), CX w [] H s (fun _ _ _ => False) e s' → False) :
    PySem.W.WalkO q loose XP YP l.row.toRowW d [] (fun f vs => PySem.call f vs) := by
  refine Att.attach_callB hn hdf fun w s₀ s₁ mg mb fa o pm cd doc a vs ns G Y ho hd hcd hmg hobj hints hlen hbits hg => ?_
  have KX := hY w _ Y
  obtain ⟨c, P, fd, sp, h1, h2, h3, h4, h5⟩ := F w mg fa _ KX G.T.g hmg
  obtain ⟨C, hP⟩ := PySem.W.tab_of G.T KX hrec h1
  refine law_callTs (cs := [(c, P)]) (sp := sp) KX G.T.g G.T.b G.T.builtins G.T.nolimit hg (fun p hp => ?_) (fun p hp => ?_) (fun p hp => ?_) G.T.bmain hobj hints (Nat.le_trans hlen hn2) hr (fun base b1 b2 b3 => h5 base b1 b2 (b3 (c, P) (by simp))) h3 (fun H hH hS => h4 H a ns hlen (hH (c, P) (by simp)) hS) fun H e s' => hCX w H s₁ e s'
  · cases List.mem_singleton.mp hp; exact hP
  · cases List.mem_singleton.mp hp; exact h2
  · cases List.mem_singleton.mp hp; exact C
end LF

/-! xs[::-1]; the least of pairs -/
namespace EL
open PySem PySem.Spec PyProof.Rows L2
variable [TabC]
variable {K : PySem.W.Frag} {ρ : List Sl} {te : TE} {ds : List D}
theorem dpa_revL {H : Hp} : ∀ {vs : List V} {ds : List D}, DpAll K H vs ds → DpAll K H vs.reverse ds.reverse
  | _, _, .nil => .nil
  | _, _, .cons a b => by
    rw [List.reverse_cons, List.reverse_cons]
    exact dpa_app (dpa_revL b) (.cons a .nil)
theorem ev_revL (h : EvQ K te ρ (.list ds)) : EvF K (tRevL K te) ρ ds.reverse := fun B B0 σ H H0 r Q q =>
  h B B0 σ H H0 r _ fun v H1 H01 w1 k1 => by
    obtain ⟨a, xs, rfl, h1, h2⟩ := k1.lst w1.sub
    exact ⟨a, xs, rfl, h1, fun p np => q p _ _ H01 (w1.trans (.dirty w1.sub np)) (w1.e.free np) upd_same (sub_none w1.sub np) (dpa_revL h2)⟩
/-! ### min of a list of pairs: one of them, no first item less than its -/
def minP (x : Int × Int) (xs : List (Int × Int)) : Int × Int := PySem.W.minOf x xs
theorem minP_go : ∀ (xs : List (Int × Int)) (a : Int × Int), (xs.foldl (fun a y => if PySem.W.DatumOrd.lt y a = true then y else a) a = a ∨ xs.foldl (fun a y => if PySem.W.DatumOrd.lt y a = true then y else a) a ∈ xs) ∧
    (xs.foldl (fun a y => if PySem.W.DatumOrd.lt y a = true then y else a) a).1 ≤ a.1 ∧ ∀ y ∈ xs, (xs.foldl (fun a y => if PySem.W.DatumOrd.lt y a = true then y else a) a).1 ≤ y.1
  | [], a => ⟨.inl rfl, Int.le_refl _, fun y h => nomatch h⟩
  | x :: xs, a => by
    rw [List.foldl_cons]
    have hx : (if PySem.W.DatumOrd.lt x a = true then x else a) = x ∨ (if PySem.W.DatumOrd.lt x a = true then x else a) = a := by
      split
      · exact .inl rfl
      · exact .inr rfl
    have h1 : (if PySem.W.DatumOrd.lt x a = true then x else a).1 ≤ a.1 ∧ (if PySem.W.DatumOrd.lt x a = true then x else a).1 ≤ x.1 := by
      have e : PySem.W.DatumOrd.lt x a = if x.1 = a.1 then decide (x.2 < a.2) else decide (x.1 < a.1) := rfl
      by_cases c : x.1 = a.1
      · rw [if_pos c] at e
        split <;> omega
      · rw [if_neg c] at e
        by_cases d : x.1 < a.1
        · rw [decide_eq_true d] at e
          rw [if_pos e]
          omega
        · rw [decide_eq_false d] at e
          rw [if_neg (by rw [e]; decide)]
          omega
    generalize (if PySem.W.DatumOrd.lt x a = true then x else a) = b at hx h1
    obtain ⟨g1, g2, g3⟩ := minP_go xs b
    refine ⟨?_, by omega, fun y hy => ?_⟩
    · rcases g1 with g | g
      · rw [g]
        rcases hx with e | e
        · exact .inr (by rw [e]; exact List.mem_cons_self)
        · exact .inl e
      · exact .inr (List.mem_cons_of_mem _ g)
    · rcases List.mem_cons.mp hy with rfl | hy
      · omega
      · exact g3 y hy
theorem minP_mem (x : Int × Int) (xs : List (Int × Int)) : minP x xs ∈ x :: xs := by
  rcases (minP_go xs x).1 with h | h
  · show PySem.W.minOf x xs ∈ _
    unfold PySem.W.minOf
    rw [h]
    exact List.mem_cons_self
  · exact List.mem_cons_of_mem _ h
theorem minP_le (x : Int × Int) (xs : List (Int × Int)) : ∀ y ∈ x :: xs, (minP x xs).1 ≤ y.1 := fun y hy => by
  obtain ⟨_, g2, g3⟩ := minP_go xs x
  rcases List.mem_cons.mp hy with rfl | hy
  · exact g2
  · exact g3 y hy
def rMinPs (K : PySem.W.Frag) : List V → Hp → VK → Prop := fun vs H Q => ∃ (a : Addr) (ks : List (Addr × List Int)) (x : Int × Int) (ps : List (Int × Int)), vs = [V.ref a] ∧ SqL K H a (ks.map fun k => V.ref k.1) ∧ ks.map (·.2) = (x :: ps).map two2 ∧ (∀ k ∈ ks, SqT K H k.1 (k.2.map V.int)) ∧
  ∀ k ∈ ks, k.2 = two2 (minP x ps) → Q (.ref k.1) H
section
variable {X : Cx}
theorem holdAll_ks {P : Program} {w : World} {h : Heap} {H : Hp} {pins : List (Addr × Obj)} {σ : L2.St} {s : Shared} (I : Inv X pins σ H s) : ∀ {ks : List (Addr × List Int)} {ps : List (Int × Int)} {us : List Value}, ks.map (·.2) = ps.map two2 → (∀ k ∈ ks, SqT X.K H k.1 (k.2.map V.int)) → Vals (ks.map fun k => V.ref k.1) us → PySem.W.HoldAll s.heap us ps
  | [], [], us, _, _, r => by
    cases r
    exact PySem.W.HoldAll.nil
  | [], _ :: _, _, e, _, _ => by cases e
  | _ :: _, [], _, e, _, _ => by cases e
  | k :: ks, p :: ps, us, e, hk, r => by
    rw [List.map_cons, List.map_cons] at e
    injection e with e1 e2
    cases r with
    | @cons _ u _ us r1 r2 =>
      cases r1
      have s1 := hk k List.mem_cons_self
      rw [e1] at s1
      obtain ⟨its, rv, ht, _⟩ := I.tuple s1
      obtain ⟨t1, t2, e3⟩ := Vals.int2 (i := p.1) (j := p.2) rv
      subst e3
      exact PySem.W.HoldAll.cons (PySem.W.holds_pair (x := p.1) (y := p.2) ht (PySem.W.holds_int _ _) (PySem.W.holds_int _ _)) (holdAll_ks (P := P) (w := w) (h := h) I e2 (fun k hk' => hk k (List.mem_cons_of_mem _ hk')) r2)
theorem holds_inj {h : Heap} {v : Value} {p q : Int × Int} (a : PySem.W.Holds h v p) (b : PySem.W.Holds h v q) : p = q := by
  obtain ⟨l, x, y, e1, t1, a1, a2⟩ := PySem.W.pair_of_holds a
  obtain ⟨l', x', y', e2, t2, b1, b2⟩ := PySem.W.pair_of_holds b
  rw [e1] at e2
  cases e2
  obtain ⟨o, ho, _, n, hd⟩ := t1
  obtain ⟨o', ho', _, n', hd'⟩ := t2
  rw [ho] at ho'
  cases ho'
  rw [hd] at hd'
  injection hd' with g1 _
  have g2 : [x, y] = [x', y'] := congrArg Array.toList g1
  injection g2 with g3 g4
  injection g4 with g4 _
  subst g3 g4
  obtain ⟨t1, f1⟩ := PySem.W.int_of_holds a1
  obtain ⟨t2, f2⟩ := PySem.W.int_of_holds a2
  obtain ⟨t3, f3⟩ := PySem.W.int_of_holds b1
  obtain ⟨t4, f4⟩ := PySem.W.int_of_holds b2
  rw [f1] at f3
  rw [f2] at f4
  injection f3 with z1 _
  injection f4 with z2 _
  exact Prod.ext (by omega) (by omega)
theorem cr_minPs (hc : X.calm = true) (hu : X.A.units + 64 < cLine) : CallR X (.builtin "min") (rMinPs X.K) := by
  intro pins s σ H vs us Q I r h
  obtain ⟨a, ks, x, ps, rfl, hl, he, hk, q⟩ := h
  obtain ⟨its, rv, pl, _⟩ := I.list hl
  rw [Vals.ref1 r]
  have HA := holdAll_ks (P := X.prog) (w := X.w) (h := s.heap) I he hk rv
  refine PySem.W.min_list_datum (α := Int × Int) (x := x) (xs := ps) (I.ok.hd hc) pl.isList (by simpa using HA) (by show X.A.units + 1 + 1 < _; omega) fun i v h' tk hv hm kp => ?_
  have hv' : its[i]? = some v := by simpa using hv
  obtain ⟨p, hp, hh⟩ := PySem.W.HoldAll.at (HA.keeps kp) hv'
  have ep : p = minP x ps := holds_inj hh hm
  obtain ⟨k, hk1, hk2⟩ : ∃ k, ks[i]? = some k ∧ k.2 = two2 p := by
    have := congrArg (fun l => l[i]?) he
    simp only [List.getElem?_map] at this
    rw [hp] at this
    cases e : ks[i]? with
    | none => rw [e] at this; cases this
    | some k => rw [e] at this; exact ⟨k, rfl, Option.some.inj this⟩
  have hu : v = .ref k.1 := by
    have e2 : (ks.map fun k => V.ref k.1)[i]? = some (V.ref k.1) := by rw [List.getElem?_map, hk1]; rfl
    obtain ⟨u, e3, r3⟩ := rv.get e2
    rw [hv'] at e3
    cases e3
    exact r3
  subst hu
  exact ⟨.ref k.1, H, I.kept kp, rfl, q k (List.mem_of_getElem? hk1) (by rw [hk2, ep])⟩
end
theorem cd_minPs {x : Int × Int} {ps : List (Int × Int)} : CD K (rMinPs K) [.list ((x :: ps).map encP)] (encP (minP x ps)) := fun H H0 vs s k Q q => by
  obtain ⟨v, rfl, kk⟩ := dq1 k
  obtain ⟨a, xs, rfl, h1, h2⟩ := kk.lst s
  obtain ⟨ks, rfl, e2, e3⟩ := pairs_ks h2
  refine ⟨a, ks, x, ps, rfl, h1, e2, fun k hk => sqT_mono s (e3 k hk), fun k hk e => q _ H H0 (.refl s) ?_⟩
  have s1 := e3 k hk
  rw [e] at s1
  exact .tup s1 (dpa_of_ints (two2 (minP x ps)))
end EL
namespace EK
open PySem PySem.Spec PyProof.Rows L2 EL
variable [TabC]
variable {X : Cx} {K : PySem.W.Frag}
theorem minPs (hc : X.calm = true) (hu : X.A.units + 64 < cLine) (hK : X.K = K := by rfl) : CallR X (.builtin "min") (rMinPs K) := hK ▸ cr_minPs hc hu
theorem revL {e : Expr} {te : TE} {k : Nat} {p1 p2 p3 pos : Pos} (he : PE X e te) (hK : X.K = K := by rfl) : PE X (.Subscript e (.Slice none none (some (.UnaryOp .USub (.Constant (.int 1) k p1) p2)) p3) pos) (tRevL K te) := hK ▸ pe_revL he
end EK

namespace EL
open PySem PySem.Spec PyProof.Rows L2 LamX NdefX LF
variable [TabC]
variable {K : PySem.W.Frag}
theorem code_tab {x : Str} {c P f : Addr} {oc : Value} {od : Option Addr} {fd : FuncData} {sl : Array (Option Value)} (ht : PySem.W.tabIn K x = some (c, P)) (hn : PySem.W.nsIn K mainGlobals x = some (some (.ref f))) (hl : K.lookup f = some ⟨oc, od, .func fd, sl⟩) : fd.code = .ref c := by
  unfold PySem.W.tabIn at ht
  rw [hn] at ht
  dsimp only at ht
  rw [hl] at ht
  dsimp only at ht
  split at ht
  · rename_i c2 hc
    split at ht
    · split at ht
      · cases ht; exact hc
      · cases ht
    · cases ht
  · cases ht
/-- a def whose code object is known -/
theorem fn_okGc {Pg : Program} {w : World} {mg : Str → Option Value} {base : Heap} {x qual : Str} {st : Stmt} {f : Addr} {oc kV doc pm cdv ct : Value} {od an : Option Addr} {osl : Array (Option Value)} {N ps : List Str} {k : Nat} {Pro : List Sl → Gn → Prop}
    (lk : K.lookup f = some ⟨oc, od, .func (PySem.W.fnOf x qual (defArgs st) (defBody st) (defScope st) .none kV doc pm an cdv ct), osl⟩) (hcd : PySem.W.codeIn K cdv qual = true) (S : FnScope N ps (defScope st)) (len : ∀ as ψ, Pro as ψ → as.length = ps.length)
    (body : ∀ (A : Around) (outer : List Env) (s : Shared) (H : Hp) (E : XK) (as : List Sl) (ψ : Gn), Room k (A.deeper (envOfC qual (defScope st) s.heap.objs.size f cdv)) → Pro as ψ →
      ∃ t, PSs (cxOf CX0 Pg w K mg base N qual (defScope st) f cdv A outer s H E).nox (defBody st) t ∧
        Wp K t (initG N as) { nx := fun _ => ∀ G, ψ G .non, rt := fun d => ∀ G v, Dp K G v d → ψ G v, rg := fun χ => ∀ G v, χ G v → ψ G v }) :
    FnOk Pg w K mg base CX0 (k + 1) f (PySem.W.fnOf x qual (defArgs st) (defBody st) (defScope st) .none kV doc pm an cdv ct) ps (spG K Pro) := by
  refine fn_of lk hcd S (fun vs H Q E h => ?_) fun A outer s H vs Q E hr h => ?_
  · obtain ⟨H0, as, ψ, s1, tb, k1, hp, _⟩ := h
    rw [ara_len k1]; exact len as ψ hp
  · obtain ⟨H0, as, ψ, s1, tb, k1, hp, q⟩ := h
    obtain ⟨t, pt, wt⟩ := body A outer s H E as ψ hr hp
    exact ⟨t, pt.nox, wt H H0 _ H H0 (rg_init s1 tb k1) _ ⟨fun ρ σ H' H0' e r => q .non H' H0' r.wd (e H0'), fun d v H' H0' e w kd => q v H' H0' w (e _ _ kd), fun _ _ _ _ z => z.elim, fun _ _ _ _ z => z.elim, fun χ v H' H0' e w kd => q v H' H0' w (e _ _ kd)⟩⟩
/-- the body of a def that gets a lambda as its last argument, in the caller -/
theorem lam_arg {Pg : Program} {w : World} {mg : Str → Option Value} {base : Heap} {x : Str} {st : Stmt} {g : Addr} {cdv : Value} {Ng ps : List Str} {k : Nat} {Pro : List Sl → D → Gn → Prop} {mk : Addr → LN} {cl : List (Str × Addr)} {fr : Str} {A : Around} {outer : List Env}
    (hcl : ∀ c', (mk c').cl = cl) (hmk : ∀ c', (mk c').c = c') (hpro : ∀ as dn ψ, Pro as dn ψ → ∃ d0, as = [.dat d0, .gen (LamG mk)]) (h2 : ps.length = 2)
    (body : ∀ (f c' : Addr) (nv : V) (d0 dn : D) (ψ : Gn) (s : Shared) (H : Hp), Room k (A.deeper (envOfC x (defScope st) s.heap.objs.size g cdv)) → CellsAt cl [fr] [some nv] s.heap H → Pro [.dat d0, .gen (LamG mk)] dn ψ →
      ∃ t, PSs (cxOf CX0 Pg w K mg base Ng x (defScope st) g cdv A outer s H E0).nox (defBody st) t ∧
        Wp K t (initG Ng [.dat d0, .gen (FixG K f (mk c') nv dn)]) { nx := fun _ => ∀ G, ψ G .non, rt := fun d => ∀ G v, Dp K G v d → ψ G v, rg := fun χ => ∀ G v, χ G v → ψ G v })
    (s : Shared) (H : Hp) (ws : List (Option V)) (vs : List V) (Q : VK) (hc : CellsAt cl [fr] ws s.heap H) (h : TTc K Pro ws vs H Q) :
    vs.length = ps.length ∧ (Room k (A.deeper (envOfC x (defScope st) s.heap.objs.size g cdv)) →
      ∃ t, PSs (cxOf CX0 Pg w K mg base Ng x (defScope st) g cdv A outer s H E0).nox (defBody st) t ∧ t { nx := fun _ H' => Q .non H', rt := Q } (L2.start Ng vs) H) := by
  obtain ⟨H0, as, nv, dn, ψ, s1, tb, k1, rfl, kn, hp, q⟩ := h
  obtain ⟨d0, rfl⟩ := hpro _ _ _ hp
  refine ⟨by rw [ara_len k1, h2]; rfl, fun hr => ?_⟩
  cases k1 with
  | dat a k2 =>
    cases k2 with
    | gen b _ k3 =>
      cases k3
      obtain ⟨f, c', rfl, hf, hco⟩ := b
      obtain ⟨t, pt, wt⟩ := body f c' nv d0 dn ψ s H hr hc hp
      refine ⟨t, pt, ?_⟩
      have k1' : ArAll K H0 [_, V.ref f] [.dat d0, .gen (FixG K f (mk c') nv dn)] := .dat a (.gen ⟨rfl, hf, by rw [hmk]; exact hco, kn⟩ fixG_mono .nil)
      exact wt H H0 _ H H0 (rg_init s1 tb k1') _ ⟨fun ρ σ H' H0' e r => q .non H' H0' r.wd (e H0'), fun d v H' H0' e w kd => q v H' H0' w (e _ _ kd), fun _ _ _ _ z => z.elim, fun _ _ _ _ z => z.elim, fun χ v H' H0' e w kd => q v H' H0' w (e _ _ kd)⟩
end EL
namespace EL
open PySem PySem.Spec PyProof.Rows L2
variable [TabC]
variable {K : PySem.W.Frag}
section
variable {ρ : List Sl} {P : Post} {t : TS} {i : Nat} {φ : Gn}
/-- a value that is told by some data: go on with such data -/
theorem w_genE {M : D → Prop} (h : ρ[i]? = some (Sl.gen φ)) (k : ∀ G v, φ G v → ∃ d, M d ∧ Dp K G v d) (q : ∀ d, M d → Wp K t (ρ.set i (.dat d)) P) : Wp K t ρ P := fun B B0 σ H H0 r E m => by
  obtain ⟨v, e1, e2, _⟩ := r.gen i φ h
  obtain ⟨d, m1, k1⟩ := k _ _ e2
  refine q d m1 B B0 σ H H0 ?_ E m
  have r' := r.setD k1 i
  rwa [show σ.set i (some v) = σ from by
    have hi := (List.getElem?_eq_some_iff.mp e1).1
    have e3 : σ[i] = some v := Option.some.inj ((List.getElem?_eq_getElem hi).symm.trans e1)
    rw [← e3, List.set_getElem_self]] at r'
end
end EL
namespace EL
open PySem PySem.Spec PyProof.Rows L2
theorem tab_is {K : PySem.W.Frag} {x : Str} {c P f : Addr} {oc ocC : Value} {od odC : Option Addr} {fd : FuncData} {sl slC : Array (Option Value)} {vs : Array Value} (hn : PySem.W.nsIn K mainGlobals x = some (some (.ref f))) (hl : K.lookup f = some ⟨oc, od, .func fd, sl⟩) (hc : fd.code = .ref c)
    (hlc : K.lookup c = some ⟨ocC, odC, .fields vs, slC⟩) (hv : vs[11]? = some (.ref P)) : PySem.W.tabIn K x = some (c, P) := by
  unfold PySem.W.tabIn
  rw [hn]
  dsimp only
  rw [hl]
  dsimp only
  rw [hc]
  dsimp only
  rw [hlc]
  dsimp only
  rw [hv]
end EL

namespace EL
open PySem PySem.Spec PyProof.Rows L2 LamX NdefX LF
variable [TabC]
variable {K : PySem.W.Frag}
section
variable {ρ : List Sl} {t ta tb tc : TE} {tt : TA} {as : List Sl} {M : List D → Prop} {Pre : List D → Prop} {res : List D → D} {E : XK} {x y d : D} {φ : Gn}
/-- a call with data, some of which are told by existence only -/
theorem ev_callGE (h : EvS K tt ρ as) (k : ∀ G vs, ArAll K G vs as → ∃ ds, M ds ∧ DpAll K G vs ds) (hp : ∀ ds, M ds → Pre ds) : EvG K (tCall (spD K Pre res) [] E tt) ρ (fun G v => ∃ ds, M ds ∧ Dp K G v (res ds)) := fun B B0 σ H H0 r Q q =>
  h B B0 σ H H0 r _ fun vs H1 H01 w k1 => by
    rw [List.append_nil]
    obtain ⟨ds, m, k2⟩ := k _ _ k1
    exact ⟨H01, ds, w.sub, w.tb r.tab, k2, hp ds m, fun v H' H0' w2 k3 => q v H' H0' (w.trans w2) ⟨ds, m, k3⟩⟩
theorem mono_ex {M : List D → Prop} {res : List D → D} : GMono fun G v => ∃ ds, M ds ∧ Dp K G v (res ds) := fun G G' u s ⟨ds, m, k⟩ => ⟨ds, m, dp_mono s k⟩
theorem ar2 {N : D → Prop} (k : ∀ G v, φ G v → ∃ d, N d ∧ Dp K G v d) : ∀ G vs, ArAll K G vs [.dat x, .gen φ] → ∃ ds, (∃ d, N d ∧ ds = [x, d]) ∧ DpAll K G vs ds := fun G vs h => by
  cases h with
  | dat a h2 =>
    cases h2 with
    | gen b _ h3 =>
      cases h3
      obtain ⟨d, m, kd⟩ := k _ _ b
      exact ⟨[x, d], ⟨d, m, rfl⟩, .cons a (.cons kd .nil)⟩
theorem ar3 {N : D → Prop} (k : ∀ G v, φ G v → ∃ d, N d ∧ Dp K G v d) : ∀ G vs, ArAll K G vs [.dat x, .dat y, .gen φ] → ∃ ds, (∃ d, N d ∧ ds = [x, y, d]) ∧ DpAll K G vs ds := fun G vs h => by
  cases h with
  | dat a h2 =>
    cases h2 with
    | dat a2 h3 =>
      cases h3 with
      | gen b _ h4 =>
        cases h4
        obtain ⟨d, m, kd⟩ := k _ _ b
        exact ⟨[x, y, d], ⟨d, m, rfl⟩, .cons a (.cons a2 (.cons kd .nil))⟩
/-- f(x, g(..)) -/
theorem ev_call2G {N : D → Prop} (h1 : EvD K ta ρ x) (h2 : EvG K tb ρ φ) (m : GMono φ) (k : ∀ G v, φ G v → ∃ d, N d ∧ Dp K G v d) (hp : ∀ d, N d → Pre [x, d]) : EvG K (tCall (spD K Pre res) [] E (tCons ta (tCons tb tNil))) ρ (fun G v => ∃ d, N d ∧ Dp K G v (res [x, d])) := fun B B0 σ H H0 r Q q =>
  ev_callGE (eg_d h1 (eg_g h2 m eg_nil)) (ar2 k) (fun ds ⟨d, n, e⟩ => by rw [e]; exact hp d n) B B0 σ H H0 r Q fun v H' H0' w ⟨ds, ⟨d, n, e⟩, kd⟩ => q v H' H0' w ⟨d, n, by rw [← e]; exact kd⟩
theorem ev_call3G {N : D → Prop} (h1 : EvD K ta ρ x) (h2 : EvD K tb ρ y) (h3 : EvG K tc ρ φ) (m : GMono φ) (k : ∀ G v, φ G v → ∃ d, N d ∧ Dp K G v d) (hp : ∀ d, N d → Pre [x, y, d]) : EvG K (tCall (spD K Pre res) [] E (tCons ta (tCons tb (tCons tc tNil)))) ρ (fun G v => ∃ d, N d ∧ Dp K G v (res [x, y, d])) := fun B B0 σ H H0 r Q q =>
  ev_callGE (eg_d h1 (eg_d h2 (eg_g h3 m eg_nil))) (ar3 k) (fun ds ⟨d, n, e⟩ => by rw [e]; exact hp d n) B B0 σ H H0 r Q fun v H' H0' w ⟨ds, ⟨d, n, e⟩, kd⟩ => q v H' H0' w ⟨d, n, by rw [← e]; exact kd⟩
/-- .. where the answer is the same for all of them -/
theorem ev_call2E {N : D → Prop} {z : D} (h1 : EvD K ta ρ x) (h2 : EvG K tb ρ φ) (m : GMono φ) (k : ∀ G v, φ G v → ∃ d, N d ∧ Dp K G v d) (hp : ∀ d, N d → Pre [x, d] ∧ res [x, d] = z) : EvD K (tCall (spD K Pre res) [] E (tCons ta (tCons tb tNil))) ρ z :=
  EvG.toD (ev_call2G h1 h2 m k fun d n => (hp d n).1) fun G v ⟨d, n, kd⟩ => by rw [← (hp d n).2]; exact kd
theorem ev_call3E {N : D → Prop} {z : D} (h1 : EvD K ta ρ x) (h2 : EvD K tb ρ y) (h3 : EvG K tc ρ φ) (m : GMono φ) (k : ∀ G v, φ G v → ∃ d, N d ∧ Dp K G v d) (hp : ∀ d, N d → Pre [x, y, d] ∧ res [x, y, d] = z) : EvD K (tCall (spD K Pre res) [] E (tCons ta (tCons tb (tCons tc tNil)))) ρ z :=
  EvG.toD (ev_call3G h1 h2 h3 m k fun d n => (hp d n).1) fun G v ⟨d, n, kd⟩ => by rw [← (hp d n).2]; exact kd
end
theorem hu1 {P : Addr} {q : Str} : ∀ p ∈ [(P, q)], p.1 = P → p.2 = q := fun p hp _ => by
  cases List.mem_singleton.mp hp
  rfl
theorem hu2a {P P2 : Addr} {q q2 : Str} (n : P ≠ P2) : ∀ p ∈ [(P, q), (P2, q2)], p.1 = P → p.2 = q := fun p hp e => by
  rcases List.mem_cons.mp hp with rfl | hp
  · rfl
  · cases List.mem_singleton.mp hp
    exact absurd e.symm n
theorem hu2b {P P2 : Addr} {q q2 : Str} (n : P ≠ P2) : ∀ p ∈ [(P, q), (P2, q2)], p.1 = P2 → p.2 = q2 := fun p hp e => by
  rcases List.mem_cons.mp hp with rfl | hp
  · exact absurd e n
  · cases List.mem_singleton.mp hp
    rfl
/-! ### the law's own end, with some tables -/
theorem law_spTs {K : PySem.W.Frag} {H : Hp} {a : Addr} {ns : List Int} {Pre : List D → Prop} {res : List D → D} {E : XK} (hl : ns.length ≤ 63) (hP : ∀ p ∈ TabC.T, H p.1 = some (.tbl #[])) (hS : SqL K H a (ns.map V.int)) (hp : Pre [.list (ns.map .int)]) (hr : res [.list (ns.map .int)] = .bool true) :
    spD K Pre res [.ref a] H (fun v _ => v = .bl true) E := by
  let inT : Addr → Prop := fun b => ∃ p ∈ TabC.T, p.1 = b
  have nT : ∀ {b : Addr} {o : HO}, H b = some o → (∀ p, o ≠ .tbl p) → ¬ inT b := fun {b o} h n ⟨p, h1, h2⟩ => by
    have := hP p h1
    rw [h2, h] at this
    exact n _ (Option.some.inj this)
  have hS' : SqL K (fun b => open Classical in if inT b then none else H b) a (ns.map V.int) := by
    rcases hS with (h | ⟨o, h⟩) | h
    · refine .inl (.inl ?_)
      show (if inT a then none else H a) = _
      rw [if_neg (nT h fun p z => by cases z)]; exact h
    · refine .inl (.inr ⟨o, ?_⟩)
      show (if inT a then none else H a) = _
      rw [if_neg (nT h fun p z => by cases z)]; exact h
    · exact .inr h
  refine ⟨fun b => open Classical in if inT b then none else H b, [.list (ns.map .int)], fun b u e => ?_, ?_, .cons (.lst hS' (dpa_of_ints ns)) .nil, hp, fun v H' H0' _ k => ?_⟩
  · by_cases hb : inT b
    · have e' : (if inT b then none else H b) = some u := e
      rw [if_pos hb] at e'; cases e'
    · have e' : (if inT b then none else H b) = some u := e
      rw [if_neg hb] at e'; exact e'
  · intro p hp
    refine ⟨if_pos ⟨p, hp, rfl⟩, #[], hP p hp, True.intro, fun pos cv hc => ?_⟩
    have z : codeAmong pos [] = some cv := hc
    simp [codeAmong] at z
  · rw [hr] at k
    cases k
    rfl
end EL
namespace LF
open PySem PySem.Spec PyProof.Rows L2 LamX NdefX
/-- the law's walk, where the defs of xs make lambdas: their code objects and tables -/
theorem walk_tabs {l : PySem.W.OpenLaw} {n k : Nat} {q : Program} {loose : List Str} {XP : (Str → Option Value) → Heap → Prop} {YP : World → Heap → Prop} {d : DefRec} {K : Params → PySem.W.Frag} {CX : World → CXT} {x : Str}
    (hn : l.most = some n) (hn2 : n ≤ sizeLine) (hdf : d.params.defaults = []) (hr : Room k callerA) (hY : ∀ (w : World) (h : Heap), YP w h → (K w.params).In h)
    (F : ∀ (w : World) (mg : Str → Option Value) (fa : Addr) (h : Heap), (K w.params).In h → h.Ns mainGlobals mg → mg d.name = some (.ref fa) →
      ∃ (cs : List (Addr × Addr)) (fd : FuncData) (sp : Sp), (∀ p ∈ cs, (∃ x0 d0, (recsOf q).find? (fun e => e.name == x0) = some d0 ∧ PySem.W.tabIn (K w.params) x0 = some p) ∧ (K w.params).lookup p.2 = none) ∧ (∀ (s : Shared) (u : Value), BindsTo s fd ⟨[u], []⟩ [(x, u)]) ∧
        (∀ (H : Hp) (a : Addr) (ns : List Int), ns.length ≤ n → (∀ p ∈ cs, H p.2 = some (.tbl #[])) → SqL (K w.params) H a (ns.map V.int) → sp [.ref a] H (fun v _ => v = .bl true) fun _ _ _ => False) ∧
        ∀ base : Heap, (K w.params).In base → base.Ns mainGlobals mg → (∀ p ∈ cs, TabB base mg p.1 p.2) → FnOk l.prog w (K w.params) mg base (CX w) k fa fd [x] sp)
    (hCX : ∀ (w : World) (H : Hp) (s : Shared) (e : Value) (s' : Shared), CX w [] H s (fun _ _ _ => False) e s' → False) :
    PySem.W.WalkO q loose XP YP l.row.toRowW d [] (fun f vs => PySem.call f vs) := by
  refine Att.attach_callB hn hdf fun w s₀ s₁ mg mb fa o pm cd doc a vs ns G Y ho hd hcd hmg hobj hints hlen hbits hg => ?_
  have KX := hY w _ Y
  obtain ⟨cs, fd, sp, h1, h3, h4, h5⟩ := F w mg fa _ KX G.T.g hmg
  have hC : ∀ p ∈ cs, PySem.W.CodeHd s₁.heap p.1 p.2 ∧ s₁.heap.get? p.2 = some (PySem.W.tabObj #[]) := fun p hp => by
    obtain ⟨⟨x0, d0, hrec, ht⟩, _⟩ := h1 p hp
    exact PySem.W.tab_of G.T KX hrec (c := p.1) (P := p.2) ht
  exact law_callTs (cs := cs) (sp := sp) KX G.T.g G.T.b G.T.builtins G.T.nolimit hg (fun p hp => (hC p hp).2) (fun p hp => (h1 p hp).2) (fun p hp => (hC p hp).1) G.T.bmain hobj hints (Nat.le_trans hlen hn2) hr (fun base b1 b2 b3 => h5 base b1 b2 b3) h3 (fun H hH hS => h4 H a ns hlen hH hS) fun H e s' => hCX w H s₁ e s'
end LF

namespace EL
open PySem PySem.Spec PyProof.Rows L2
variable [TabC]
variable {K : PySem.W.Frag}
/-! ### one's own list whose items are told by relations; a tuple of such items; walking it -/
theorem gsa_len {H : Hp} : ∀ {vs : List V} {φs : List Gn}, GsAll H vs φs → vs.length = φs.length
  | _, _, .nil => rfl
  | _, _, .cons _ _ b => by rw [List.length_cons, List.length_cons, gsa_len b]
theorem gsa_app {H : Hp} : ∀ {vs ws : List V} {φs ψs : List Gn}, GsAll H vs φs → GsAll H ws ψs → GsAll H (vs ++ ws) (φs ++ ψs)
  | _, _, _, _, .nil, b => b
  | _, _, _, _, .cons a m c, b => .cons a m (gsa_app c b)
theorem gsa_get {H : Hp} : ∀ {vs : List V} {φs : List Gn} {i : Nat} {φ : Gn}, GsAll H vs φs → φs[i]? = some φ → ∃ v, vs[i]? = some v ∧ φ H v ∧ GMono φ
  | _, _, _, _, .nil, e => by simp at e
  | _, _, 0, _, .cons a m _, e => by simp at e; subst e; exact ⟨_, rfl, a, m⟩
  | _, _, i + 1, _, .cons _ _ b, e => by
    obtain ⟨v, h1, h2⟩ := gsa_get (i := i) b (by simpa using e)
    exact ⟨v, by simpa using h1, h2⟩
/-- a tuple whose items are told by φs -/
def TupsG (K : PySem.W.Frag) (φs : List Gn) : Gn := fun G v => ∃ a xs, v = .ref a ∧ SqT K G a xs ∧ GsAll G xs φs
theorem tupsG_mono {φs : List Gn} : GMono (TupsG K φs) := fun G G' u s ⟨a, xs, z1, z2, z3⟩ => ⟨a, xs, z1, sqT_mono s z2, gsa_mono s z3⟩
section
variable {ρ : List Sl} {P : Post} {t te tb : TE} {ts : TS} {i : Nat} {φ : Gn} {φs : List Gn} {out : List D}
theorem upd_self {H : Hp} {a : Addr} {o : HO} (h : H a = some o) : upd H a o = H := funext fun b => by
  by_cases e : b = a
  · subst e; rw [upd_same, h]
  · rw [upd_ne e]
/-- an empty list of one's own is to hold told items from here on -/
theorem w_toG (h : ρ[i]? = some (Sl.own [])) (k : Wp K ts (ρ.set i (.objG [])) P) : Wp K ts ρ P := fun B B0 σ H H0 r E m => by
  obtain ⟨a, xs, e1, e2, e3, e4, e5⟩ := r.own i [] h
  cases e5
  have r2 := r.writeS (s0 := .own []) (s1 := .objG []) (ys := []) h rfl rfl e1 .nil
  rw [show mkO (Sl.objG []).kd [] = HO.lst [] from rfl, upd_self e4] at r2
  exact k B B0 σ H H0 r2 E m
theorem w_appendG (h : ρ[i]? = some (Sl.objG φs)) (he : EvG K te ρ φ) (mo : GMono φ) (hl : φs.length < sizeLine) (k : P.nx (ρ.set i (.objG (φs ++ [φ])))) : Wp K (tDrop (tBM K "list" rAppend (tVar i) (tCons te tNil))) ρ P := fun B B0 σ H H0 r E m => by
  obtain ⟨a, xs, e1, e2, e3, e4, e5⟩ := r.og i φs h
  refine ⟨_, e1, .inl ⟨rfl, _, .of e4⟩, he B B0 σ H H0 r _ fun v H1 H01 w1 k1 => ?_⟩
  have r1 := r.step w1
  obtain ⟨a', xs', f1, f2, f3, f4, f5⟩ := r1.og i φs h
  rw [e1] at f1; cases f1
  refine ⟨a, xs', v, rfl, rfl, f4, by rw [gsa_len f5]; exact hl, ?_⟩
  exact m.nx _ _ _ H01 k (r1.writeS (s0 := .objG φs) (s1 := .objG (φs ++ [φ])) h rfl rfl e1 (gsa_app f5 (.cons k1 mo .nil)))
/-- tuple(one's own list of told items) -/
theorem ev_tupG (h : ρ[i]? = some (Sl.objG φs)) : EvG K (tCB (rTuple K) (tCons (tVar i) tNil)) ρ (TupsG K φs) := fun B B0 σ H H0 r Q q => by
  obtain ⟨a, xs, e1, e2, e3, e4, e5⟩ := r.og i φs h
  refine ⟨_, e1, ⟨a, xs, rfl, .inl ⟨.of e4, fun l nl => ?_⟩⟩⟩
  exact q _ _ (upd H0 l (.tup xs)) (.clean r.sub nl) ⟨l, xs, rfl, .inl (.inl upd_same), gsa_mono (same_new (sub_none r.sub nl)) e5⟩
def ItOkG (K : PySem.W.Frag) (J : It) (H0 : Hp) (φs : List Gn) : Prop := ∀ (i : Nat) (H' H0' : Hp), Same H0 H0' → Same H0' H' →
  (φs.length ≤ i → J.stop i H') ∧ ∀ φ, φs[i]? = some φ → J.go i H' ∧ ∀ x H2, J.yld i H' x H2 → ∃ H02, Wd H' H0' H2 H02 ∧ φ H02 x ∧ GMono φ
def Ev_ItG (K : PySem.W.Frag) (wi : TI) (ρ : List Sl) (φs : List Gn) : Prop := ∀ (B B0 : Hp) (σ : L2.St) (H H0 : Hp), Rp K B B0 ρ σ H H0 → ∀ R : It → Hp → Prop, (∀ J H' H0', Wd H H0 H' H0' → ItOkG K J H0' φs → R J H') → wi σ H R
theorem it_tupG {H0 : Hp} {a : Addr} {xs : List V} (h1 : SqT K H0 a xs) (h2 : GsAll H0 xs φs) : ItOkG K (Itt K a) H0 φs := fun i H' H0' s1 s2 => by
  have h3 : SqT K H' a xs := sqT_mono (s1.trans s2) h1
  refine ⟨fun hi => ⟨xs, h3, by rw [gsa_len h2]; exact hi⟩, fun φ e => ?_⟩
  obtain ⟨v, e1, e2, e4⟩ := gsa_get h2 e
  refine ⟨⟨xs, v, h3, e1⟩, fun x H2 hy => ?_⟩
  obtain ⟨rfl, hy⟩ := hy
  have e3 := hy xs h3
  rw [e1] at e3; cases e3
  exact ⟨H0', .refl s2, e4 _ _ _ s1 e2, e4⟩
theorem ei_tupG (h : EvG K te ρ (TupsG K φs)) : Ev_ItG K (iSeq K te) ρ φs := fun B B0 σ H H0 r R q => h B B0 σ H H0 r _ fun v H1 H01 w ⟨a, xs, e, s, g⟩ => by
  subst e
  exact ⟨_, rfl, .inr ⟨⟨_, sqT_mono w.sub s⟩, q _ H1 H01 w (it_tupG s g)⟩⟩
/-- the binding of a told item to a name -/
def BdG (K : PySem.W.Frag) (g : TG) (is : List Nat) (φ : Gn) (ρ ρ2 : List Sl) : Prop := ∀ (B B0 : Hp) (σ : L2.St) (H H0 : Hp) (v : V), Rp K B B0 ρ σ H H0 → φ H0 v → GMono φ → ∀ Q : L2.St → Hp → Prop,
  (∀ σ2, Rp K B B0 ρ2 σ2 H H0 → (∀ vs : List Nat, (∀ i ∈ is, i ∈ vs) → wipe σ2 vs = wipe σ vs) → Q σ2 H) → g v σ H Q
theorem bdg_name : BdG K (gName i) [i] φ ρ (ρ.set i (.gen φ)) := fun B B0 σ H H0 v r h m Q q => q _ (r.setG h m i) fun vs hv => wipe_set σ i _ vs (hv i List.mem_cons_self)
/-- a comprehension over told items -/
theorem ef_lcG {wi : TI} {g : TG} {te : TE} {vs is : List Nat} (hi : Ev_ItG K wi ρ φs) (hsub : ∀ i ∈ is, i ∈ vs) (ho : out.length = φs.length)
    (hs : ∀ (i : Nat) (φ : Gn) (e : D), φs[i]? = some φ → out[i]? = some e → ∃ ρ2, BdG K g is φ (wipeS ρ vs) ρ2 ∧ EvD K te ρ2 e)
    (hl : φs.length < sizeLine) : EvF K (tLc wi g tYes te vs) ρ out := fun B B0 σ H H0 r Q q =>
  hi B B0 σ H H0 r _ fun J H1 H01 w ok D nD => by
    refine ⟨fun i n H' => n = φs.length - i ∧ i ≤ φs.length ∧ ∃ H0' acc, Wd H1 H01 H' H0' ∧ H' D = some (.lst acc) ∧ H0' D = none ∧ DpAll K H0' acc (out.take i), ⟨_, rfl, Nat.zero_le _, H01, [], .dirty w.sub nD, upd_same, sub_none w.sub nD, .nil⟩, ?_⟩
    rintro i n H' ⟨rfl, hle, H0', acc, w1, e1, e0, k1⟩
    have r1 : Rp K B B0 (wipeS ρ vs) (wipe σ vs) H' H0' := rp_wipe ((r.step w).step w1) vs
    obtain ⟨ok1, ok2⟩ := ok i H' H0' w1.e0 w1.sub
    by_cases hlt : i < φs.length
    · obtain ⟨go, yl⟩ := ok2 φs[i] (List.getElem?_eq_getElem hlt)
      have hlo : i < out.length := by omega
      obtain ⟨ρ2, hb, hf⟩ := hs i φs[i] out[i] (List.getElem?_eq_getElem hlt) (List.getElem?_eq_getElem hlo)
      have tk : out.take (i + 1) = out.take i ++ [out[i]] := by rw [List.take_add_one, List.getElem?_eq_getElem hlo]; rfl
      refine .inr ⟨go, fun H2 => ∃ H02 acc, Wd H1 H01 H2 H02 ∧ H2 D = some (.lst acc) ∧ H02 D = none ∧ DpAll K H02 acc (out.take (i + 1)), fun H2 ⟨a, b, z⟩ => ⟨φs.length - (i + 1), by omega, rfl, hlt, a, b, z⟩, fun x H2 hy => ?_⟩
      obtain ⟨H02, w2, k2, mo⟩ := yl x H2 hy
      refine hb B B0 _ H2 H02 x (r1.step w2) k2 mo _ fun σ2 r2 e2 => ⟨by rw [e2 vs hsub, wipe_twice], ?_⟩
      have e3 : H2 D = some (.lst acc) := w2.e.lst e1
      have z3 : H02 D = none := w2.stay0 e1 e0
      unfold tYes
      dsimp only
      rw [if_pos rfl]
      refine hf B B0 σ2 H2 H02 r2 _ fun v H4 H04 w4 k4 => ⟨acc, w4.e.lst e3, ?_, H04, acc ++ [v], ?_, upd_same, w4.stay0 e3 z3, ?_⟩
      · rw [dpa_len k1, List.length_take]
        omega
      · have w5 := (w1.trans w2).trans w4
        refine ⟨w5.e.own (κ := none) (κ' := none) nD (w4.e.lst e3), w5.e0, fun b o hb => ?_, w5.new, fun t => (w5.tb t).own (κ := none) (κ' := none) (w4.e.lst e3)⟩
        rw [upd_ne (ne_of_none hb (w4.stay0 e3 z3))]
        exact w5.sub b o hb
      · rw [tk]
        exact dpa_app (dpa_mono (w2.trans w4).e0 k1) (.cons k4 .nil)
    · have e : i = φs.length := by omega
      subst e
      rw [List.take_of_length_le (by omega)] at k1
      exact .inl ⟨ok1 (Nat.le_refl _), q D acc H' H0' (w.trans w1) (w.e.free nD) e1 e0 k1⟩
end
/-! ### tuple(range(n)), known to its object -/
def tTupRgZ (te : L2.St → Hp → (Int → Int → Hp → Prop) → Prop) : TE := fun σ H Q => te σ H fun a b H1 => RgOk a b ∧ ∀ q ob, H1 q = none → ob.dict = none → Q (.ref q) (upd H1 q (.frz ob (.tup (rgV a b))))
theorem pe_tupRgZ {X : Cx} {e : Expr} {te : L2.St → Hp → (Int → Int → Hp → Prop) → Prop} {p pos : Pos} (hc : X.calm = true) (hg : Gl X "tuple") (hm : X.mg "tuple" = none) (he : PRg X e te) (na : starEach [e] X.env = (false, eval e X.env) :: starEach [] X.env := by rfl) : PE X (.Call (.Name "tuple" p) [e] [] pos) (tTupRgZ te) := by
  refine ⟨fun pins s σ H Q I h => ?_⟩
  refine Call_ (ld_blt I hg hm boot_tuple (PyProof.Rows.callWith_type1 (args_cons (thn (he pins s σ H _ I h) fun x s1 ⟨r, a, b, t, u, v, H1, ex, hr, I1, ok, q⟩ => args_nil ?_) na) na))
  subst ex
  obtain ⟨b1, b2, b3, b4, b5⟩ := ok
  refine call_tuple_range (n := (b - a).toNat) (I1.ok.hd hc) hr (small_one b1 b2 b3 b4) (rangeSize_nat a b) b5 fun h' tk acc hk hi => ?_
  have I2 : Inv X pins σ H1 { s1 with heap := h', toks := tk } := I1.kept hk
  have e2 : (h'.push ({ cls := .type "tuple", data := .seq acc } : Obj)).get? h'.objs.size = some ({ cls := .type "tuple", data := .seq acc } : Obj) := Heap.get?_push_size _ rfl
  refine ⟨.ref h'.objs.size, upd H1 h'.objs.size (.frz { cls := .type "tuple", data := .seq acc } (.tup (rgV a b))), I2.laid (t' := tk) (fun c o e => Heap.get?_push_of_some _ e) (Nat.le_refl _) (show ObjOk X.prog X.w _ _ _ (.frz _ (.tup (rgV a b))) from ⟨e2, ?_, acc.toList, vals_rg hi, ?_⟩), rfl, q _ _ (I2.hok.fresh (Nat.le_refl _)) rfl⟩
  · rw [rgV_length, sizeLine_eq]; omega
  · rw [Array.toArray_toList]; exact IsTup.new _ _
theorem ev_tupRgZ {ρ : List Sl} {te : TE} {n : Nat} (h : EvQ K te ρ (.int (n : Int))) (hn : n ≤ 1000) : EvG K (tTupRgZ (tRg1 te)) ρ (TupG K ((List.range n).map fun j => .int ((j : Nat) : Int))) := fun B B0 σ H H0 r Q q =>
  h B B0 σ H H0 r _ fun v H1 H01 w k => by
    refine ⟨(n : Int), k.int, ⟨by omega, by omega, by omega, by omega, by omega⟩, fun p ob np hd => ?_⟩
    have e : rgV 0 (n : Int) = ((List.range n).map fun j : Nat => (j : Int)).map V.int := by
      unfold rgV
      rw [List.map_map]
      have e0 : ((n : Int) - 0).toNat = n := by omega
      rw [e0]
      refine List.map_congr_left fun j _ => ?_
      show V.int (0 + (j : Int)) = V.int (j : Int)
      rw [Int.zero_add]
    rw [e]
    refine q _ _ (upd H01 p (.frz ob (.tup _))) (w.trans (.clean w.sub np)) ⟨p, ob, _, rfl, upd_same, hd, ?_⟩
    have e2 : ((List.range n).map fun j => PyData.int ((j : Nat) : Int)) = ((List.range n).map fun j : Nat => (j : Int)).map PyData.int := by rw [List.map_map]; rfl
    rw [e2]
    exact dpa_of_ints _
end EL

/-! bodies that may raise, with an answer of which a relation tells -/
namespace EL
open PySem PySem.Spec PyProof.Rows L2
variable [TabC]
section
variable {K : PySem.W.Frag} {B B0 : Hp} {ρ : List Sl} {P : Post} {t u : TS} {te : TE} {d x y : D} {ds es out : List D} {i : Nat} {φ : Gn}
/-- what may raise: if it comes through, ok holds and φ is told of the value -/
def EbG (K : PySem.W.Frag) (B B0 : Hp) (te : TE) (ρ : List Sl) (ok : Prop) (φ : Gn) : Prop := ∀ (σ : L2.St) (H H0 : Hp), Rp K B B0 ρ σ H H0 → ∀ Q : VK, (ok → ∀ v H' H0', Wd H H0 H' H0' → φ H0' v → Q v H') → te σ H Q
theorem wb_setGb {ok : Prop} (h : EbG K B B0 te ρ ok φ) (m : GMono φ) (k : ok → P.nx (ρ.set i (.gen φ))) : Wb K B B0 (tAsg te (gName i)) ρ P := fun σ H H0 r E me =>
  h σ H H0 r _ fun o v H' H0' w kd => me.nx _ _ _ H0' (k o) ((r.step w).setG kd m i)
/-- the promise of a def that may raise an error of the class: an answer of which something is told, or the error -/
def spXG (K : PySem.W.Frag) (cls : Value) (Pre : List D → Prop) (res : List D → Option Gn) : Sp := fun vs H Q E => ∃ H0 ds, Same H0 H ∧ TabsC TabC.T H H0 ∧ DpAll K H0 vs ds ∧ Pre ds ∧
  (∀ φ, res ds = some φ → ∀ v H' H0', Wd H H0 H' H0' → φ H0' v → Q v H') ∧ (res ds = none → ∀ H' H0', Wd H H0 H' H0' → E cls none H')
/-- tuple([e for x in it]), e may raise: all come through, or an error -/
theorem eb_tupLcZ {wi : TI} {g : TG} {te : L2.St → TE} {vs is : List Nat} {good : Nat → Prop} (hi : Ev_It K wi ρ ds) (hsub : ∀ i ∈ is, i ∈ vs) (ho : out.length = ds.length)
    (hs : ∀ (i : Nat) (d e : D), ds[i]? = some d → out[i]? = some e → ∃ ρ2, Bd K g is d (wipeS ρ vs) ρ2 ∧ ∀ σ0, Eb K B B0 (te σ0) ρ2 (good i) e) (hl : ds.length < sizeLine) :
    EbG K B B0 (tCB (rTupleZ K) (tCons (fun σ H Q => tLc wi g tYes (te σ) vs σ H Q) tNil)) ρ (∀ i, i < ds.length → good i) (TupG K out) := fun σ H H0 r Q q =>
  hi B B0 σ H H0 r _ fun J H1 H01 w ok D nD => by
    refine ⟨fun i n H' => n = ds.length - i ∧ i ≤ ds.length ∧ (∀ j, j < i → good j) ∧ ∃ H0' acc, Wd H1 H01 H' H0' ∧ H' D = some (.lst acc) ∧ H0' D = none ∧ DpAll K H0' acc (out.take i), ⟨_, rfl, Nat.zero_le _, fun j hj => absurd hj (Nat.not_lt_zero j), H01, [], .dirty w.sub nD, upd_same, sub_none w.sub nD, .nil⟩, ?_⟩
    rintro i n H' ⟨rfl, hle, hgd, H0', acc, w1, e1, e0, k1⟩
    have r1 : Rp K B B0 (wipeS ρ vs) (wipe σ vs) H' H0' := rp_wipe ((r.step w).step w1) vs
    obtain ⟨ok1, ok2⟩ := ok i H' H0' w1.e0 w1.sub
    by_cases hlt : i < ds.length
    · obtain ⟨go, yl⟩ := ok2 ds[i] (List.getElem?_eq_getElem hlt)
      have hlo : i < out.length := by omega
      obtain ⟨ρ2, hb, hf⟩ := hs i ds[i] out[i] (List.getElem?_eq_getElem hlt) (List.getElem?_eq_getElem hlo)
      have tk : out.take (i + 1) = out.take i ++ [out[i]] := by rw [List.take_add_one, List.getElem?_eq_getElem hlo]; rfl
      refine .inr ⟨go, fun H2 => (∀ j, j < i + 1 → good j) ∧ ∃ H02 acc, Wd H1 H01 H2 H02 ∧ H2 D = some (.lst acc) ∧ H02 D = none ∧ DpAll K H02 acc (out.take (i + 1)), fun H2 ⟨a0, a, b, z⟩ => ⟨ds.length - (i + 1), by omega, rfl, hlt, a0, a, b, z⟩, fun x H2 hy => ?_⟩
      obtain ⟨H02, w2, k2⟩ := yl x H2 hy
      refine hb B B0 _ H2 H02 x (r1.step w2) k2 _ fun σ2 r2 e2 => ⟨by rw [e2 vs hsub, wipe_twice], ?_⟩
      have e3 : H2 D = some (.lst acc) := w2.e.lst e1
      have z3 : H02 D = none := w2.stay0 e1 e0
      unfold tYes
      dsimp only
      rw [if_pos rfl]
      refine hf σ σ2 H2 H02 r2 _ fun og v H4 H04 w4 k4 => ⟨acc, w4.e.lst e3, ?_, fun j hj => ?_, H04, acc ++ [v], ?_, upd_same, w4.stay0 e3 z3, ?_⟩
      · rw [dpa_len k1, List.length_take]
        omega
      · by_cases z : j = i
        · rw [z]; exact og
        · exact hgd j (by omega)
      · have w5 := (w1.trans w2).trans w4
        refine ⟨w5.e.own (κ := none) (κ' := none) nD (w4.e.lst e3), w5.e0, fun b o hb => ?_, w5.new, fun t => (w5.tb t).own (κ := none) (κ' := none) (w4.e.lst e3)⟩
        rw [upd_ne (ne_of_none hb (w4.stay0 e3 z3))]
        exact w5.sub b o hb
      · rw [tk]
        exact dpa_app (dpa_mono (w2.trans w4).e0 k1) (.cons k4 .nil)
    · have e : i = ds.length := by omega
      subst e
      rw [List.take_of_length_le (by omega)] at k1
      refine .inl ⟨ok1 (Nat.le_refl _), D, acc, rfl, .of e1, fun p ob np hd => ?_⟩
      have wz := w.trans w1
      exact q hgd _ _ (upd H0' p (.frz ob (.tup acc))) (wz.trans (.clean w1.sub np)) ⟨p, ob, acc, rfl, upd_same, hd, dpa_mono (same_new (sub_none w1.sub np)) k1⟩
/-- fn_okX, the body told by Wb -/
theorem fn_okBG {Pg : Program} {w : World} {mg : Str → Option Value} {base : Heap} {x qual : Str} {st : Stmt} {f : Addr} {fd : FuncData} {N ps : List Str} {k : Nat} {cls : Value} {Pre : List D → Prop} {res : List D → Option Gn}
    (F : Fun K x qual st f fd) (S : FnScope N ps (defScope st)) (len : ∀ ds, Pre ds → ds.length = ps.length)
    (body : ∀ (cdv : Value) (A : Around) (outer : List Env) (s : Shared) (H : Hp) (E : XK) (ds : List D), Room k (A.deeper (envOfC qual (defScope st) s.heap.objs.size f cdv)) → Pre ds →
      ∃ t, PSs (cxOf (L2.CX Pg w) Pg w K mg base N qual (defScope st) f cdv A outer s H E) (defBody st) t ∧
        ∀ H0, (res ds = none → ∀ H' H0', Wd H H0 H' H0' → E cls none H') → Wb K H H0 t (initS N ds) { nx := fun _ => False, rt := fun d => ∃ φ, res ds = some φ ∧ ∀ G v, Dp K G v d → φ G v, rg := fun χ => ∃ φ, res ds = some φ ∧ ∀ G v, χ G v → φ G v }) :
    FnOk Pg w K mg base (L2.CX Pg w) (k + 1) f fd ps (spXG K cls Pre res) := by
  refine F.okX S (fun vs H Q E h => ?_) fun cdv A outer s H vs Q E hr h => ?_
  · obtain ⟨H0, ds, s1, tb, k1, hp, _⟩ := h
    rw [dpa_len k1]; exact len ds hp
  · obtain ⟨H0, ds, s1, tb, k1, hp, q, qe⟩ := h
    obtain ⟨t, pt, wt⟩ := body cdv A outer s H E ds hr hp
    exact ⟨t, pt, wt H0 qe _ H H0 (rp_init s1 tb k1) _ ⟨fun ρ σ H' H0' e r => e.elim, fun d v H' H0' ⟨φ, e1, e2⟩ wd kd => q φ e1 v H' H0' wd (e2 _ _ kd), fun _ _ _ _ z => z.elim, fun _ _ _ _ z => z.elim, fun χ v H' H0' ⟨φ, e1, e2⟩ wd kd => q φ e1 v H' H0' wd (e2 _ _ kd)⟩⟩
end
end EL
namespace EL
open PySem PySem.Spec PyProof.Rows L2
variable [TabC]
variable {K : PySem.W.Frag}
theorem ev_countT {ρ : List Sl} {te to : TE} {ds : List D} {x : D} (h : EvG K to ρ (TupG K ds)) (he : EvD K te ρ x) (s1 : SeqAt.shaped (.tuple ds) = true) (s2 : SeqAt.shaped x = true) : EvD K (tBMZ (rCountT K) to (tCons te tNil)) ρ (.int ((ds.countP fun z => PyData.eqv z x : Nat) : Int)) := fun B B0 σ H H0 r Q q =>
  h B B0 σ H H0 r _ fun v H1 H01 w1 ⟨a, ob, xs, e1, e2, e3, e4⟩ => by
    subst e1
    refine ⟨⟨a, ob, xs, rfl, w1.sub _ _ e2, e3⟩, he B B0 σ H1 H01 (r.step w1) _ fun u H2 H02 w2 k2 => ?_⟩
    have m2 : Same H01 H2 := w2.e0.trans w2.sub
    exact ⟨a, u, x, ds, rfl, rfl, .tup (.inl (.inr ⟨ob, m2 _ _ e2⟩)) (dpa_mono m2 e4), dp_mono w2.sub k2, s1, s2, q _ H2 H02 (w1.trans w2) (.int _)⟩
end EL

/-! sets of texts out of a list, and their texts in order -/
namespace ET2
open PySem PySem.Spec PyProof.Rows L2
/-- the text of a row of a set -/
def tOf (e : Int × Value) : Str := match e.2 with
  | .str x _ => x
  | _ => ⟨#[]⟩
def RowT (w : World) (e : Int × Value) : Prop := ∃ x u, e = (hashStr w x, Value.str x u)
/-- at a there is a set of just the texts L, which can be walked -/
def SetT (w : World) (h : Heap) (a : Addr) (L : List Str) : Prop := ∃ o es ep t, (h.get? a = some o ∧ o.ExactSet ∧ o.data = .set es ep t) ∧ ((∀ e ∈ es.toList, RowT w e) ∧ (es.toList.map tOf).Perm L ∧ L.Nodup) ∧
  L.length < scanBound ∧ t.fits es.size = true ∧ L2.Ris t.place.toList ∧ (w.params.followText "set-order" = true ∨ t.led = true)
section
variable {P : Program} {w : World} {A : Around} {E : Value → Shared → Prop} {s : Shared} {a : Addr} {L : List Str}
theorem SetT.keep {h h' : Heap} (R : SetT w h a L) (k : ∀ o, h.get? a = some o → h'.get? a = some o) : SetT w h' a L := by
  obtain ⟨o, es, ep, t, ⟨ho, r1⟩, r⟩ := R
  exact ⟨o, es, ep, t, ⟨k o ho, r1⟩, r⟩
theorem rows_elems {l : List (Int × Value)} (g : ∀ e ∈ l, RowT w e) : ElemsOf (strKind P w) l := fun e he => by
  obtain ⟨x, u, rfl⟩ := g e he
  exact ⟨⟨x, strKind_is P w x u, rfl⟩, rfl⟩
theorem row_is {e : Int × Value} (g : RowT w e) (x : Str) : (strKind P w).is x e.2 = true ↔ tOf e = x := by
  obtain ⟨y, u, rfl⟩ := g
  constructor
  · intro h
    exact (strKind P w).inj (.str y u) y x (strKind_is P w y u) h
  · intro h
    rw [← show y = x from h]
    exact strKind_is P w y u
theorem rows_mem {l : List (Int × Value)} (g : ∀ e ∈ l, RowT w e) (x : Str) : x ∈ l.map tOf ↔ ∃ e ∈ l, (strKind P w).is x e.2 = true := by
  rw [List.mem_map]
  exact ⟨fun ⟨e, he, q⟩ => ⟨e, he, (row_is (g e he) x).mpr q⟩, fun ⟨e, he, q⟩ => ⟨e, he, (row_is (g e he) x).mp q⟩⟩
theorem size_of {es : Array (Int × Value)} (p : (es.toList.map tOf).Perm L) : es.size = L.length := by
  have := p.length_eq
  rw [List.length_map, Array.length_toList] at this
  exact this
/-- what is stored behind an add, laid out anew if it is too full -/
theorem tail_add {lay : Bool → Sem Unit} (hlay : ∀ (b : Bool) (s1 : Shared) (R : Unit → Shared → Prop), R () s1 → wpAny (model P w) A (lay b) R E s1)
    {o : Obj} {es es1 : Array (Int × Value)} {ep : Nat} {t t2 : SetTable} (ho : s.heap.get? a = some o) (hx : o.ExactSet) (hd : o.data = .set es ep t) (g1 : ∀ e ∈ es1.toList, RowT w e) (p1 : (es1.toList.map tOf).Perm L) (nd : L.Nodup)
    (room : L.length < scanBound) (fit : t2.fits es1.size = true) (up : L2.Ris t2.place.toList) (led : w.params.followText "set-order" = true ∨ t2.led = true) {wd : Bool} {R : Option Bool → Shared → Prop}
    (hR : ∀ h', Heap.SameBut a s.heap h' → SetT w h' a L → R (some true) { s with heap := h' }) :
    wpAny (model P w) A (do
        storeSet a es1 t2
        if (!wd && t2.tooFull) = true then do
            lay (relayAll t2 es1 (SetTable.grown es1.size)).2.2
            storeSet a (relayAll t2 es1 (SetTable.grown es1.size)).1 (relayAll t2 es1 (SetTable.grown es1.size)).2.1
            pure (some true)
          else pure (some true)) R E s := by
  have z1 := size_of p1
  refine wpAny_bind (wpAny_storeSet_of ho hd ?_ (fits_of_scanBound (by omega)))
  have a1 := L2.store_at (es' := es1) (t' := t2) ho hd
  have b1 := Heap.SameBut.update s.heap a (Obj.putSet es1 t2)
  split
  · have q1 := relayAll_perm t2 es1 (SetTable.grown es1.size)
    have q2 := relayAll_fits t2 es1 (SetTable.grown es1.size)
    have q3 := L2.relayAll_ris t2 es1 (SetTable.grown es1.size)
    have q4 := L2.relayAll_led t2 es1 (SetTable.grown es1.size)
    generalize relayAll t2 es1 (SetTable.grown es1.size) = W at q1 q2 q3 q4 ⊢
    obtain ⟨es2, t3, gv⟩ := W
    dsimp only at q1 q2 q3 q4 ⊢
    have p2 := (q1.map tOf).trans p1
    have z2 := size_of p2
    refine wpAny_bind (hlay _ _ _ ?_)
    refine wpAny_bind (wpAny_storeSet_of a1 rfl ?_ (fits_of_scanBound (by omega)))
    have a2 := L2.store_at (es' := es2) (t' := t3) a1 rfl
    refine wpAny_pure (hR _ (b1.trans (Heap.SameBut.update _ a _)) ⟨_, es2, _, t3, ⟨a2, hx, rfl⟩, ⟨fun e he => g1 e (q1.mem_iff.mp he), p2, nd⟩, room, q2, q3, led.imp id fun z => by rw [q4]; exact z⟩)
  · exact wpAny_pure (hR _ b1 ⟨_, es1, _, t2, ⟨a1, hx, rfl⟩, ⟨g1, p1, nd⟩, room, fit, up, led⟩)
open Classical in
theorem add_text {x : Str} {u : Tok} {Q : Bool → Shared → Prop} (R : SetT w s.heap a L) (room : L.length + 1 < scanBound) (hQ : ∀ h' b, Heap.SameBut a s.heap h' → SetT w h' a (if x ∈ L then L else x :: L) → Q b { s with heap := h' }) :
    wpAny (model P w) A (setAddHashed a (.str x u) ((strKind P w).hash x)) Q E s := by
  obtain ⟨o, es, ep, t, ⟨ho, hx, hd⟩, ⟨g, p, nd⟩, hb, fit, up, led⟩ := R
  have key : (strKind P w).is x (.str x u) = true := strKind_is P w x u
  have sc : (Value.str x u).scannable = true := rfl
  have el : ElemsOf (strKind P w) es.toList := rows_elems g
  have zes := size_of p
  unfold setAddHashed setAddHashedIn
  refine wpAny_holding (wpAny_bind (wpAny_setState_of ho hd fit ?_))
  dsimp only
  rw [byScan_of sc (by omega) el]
  simp only [↓reduceIte]
  unfold setAddByScan
  refine wpAny_bind ?_
  refine wpAny_bind (wpAny_rule ?_)
  refine wpAny_bind (wpAny_setScan_of key ho hd fit el ?_)
  cases fi : List.findIdx? (fun e => (strKind P w).is x e.2) es.toList with
  | some j =>
    dsimp only
    obtain ⟨hj, pj, _⟩ := List.findIdx?_eq_some_iff_getElem.mp fi
    have inL : x ∈ L := p.mem_iff.mp ((rows_mem (P := P) g x).mpr ⟨es.toList[j], List.getElem_mem hj, pj⟩)
    refine wpAny_pure (wpAny_pure (hQ s.heap _ (Heap.SameBut.refl a s.heap) ?_))
    rw [if_pos inL]
    exact ⟨o, es, ep, t, ⟨ho, hx, hd⟩, ⟨g, p, nd⟩, hb, fit, up, led⟩
  | none =>
    dsimp only
    have notL : x ∉ L := fun z => by
      obtain ⟨e, he, q⟩ := (rows_mem (P := P) g x).mp (p.mem_iff.mpr z)
      have c := List.findIdx?_eq_none_iff.mp fi e he
      rw [q] at c
      cases c
    have layq : ∀ (b : Bool) {s1 : Shared} {R : Unit → Shared → Prop}, R () s1 → wpAny (model P w) A (match b with | true => rule "set.scan.the-table-gave-way" | false => pure ()) R E s1 :=
      fun b s1 R q => by cases b <;> first | exact wpAny_pure q | exact wpAny_rule q
    have q1 := layNew_perm t es ((strKind P w).hash x) (.str x u)
    have q2 := layNew_fits t es ((strKind P w).hash x) (.str x u)
    have q3 := L2.layNew_ris t es ((strKind P w).hash x) (.str x u) up
    have q4 := L2.layNew_led t es ((strKind P w).hash x) (.str x u)
    generalize layNew t es ((strKind P w).hash x) (.str x u) = W at q1 q2 q3 q4 ⊢
    obtain ⟨es1, t1, wd, gv⟩ := W
    dsimp only at q1 q2 q3 q4 ⊢
    rw [Array.toList_push] at q1
    have pc : es1.toList.Perm ((hashStr w x, Value.str x u) :: es.toList) := q1.trans (List.perm_append_singleton _ _)
    have pn : (es1.toList.map tOf).Perm (x :: L) := (pc.map tOf).trans (p.cons x)
    have gn : ∀ e ∈ es1.toList, RowT w e := fun e he => by
      rcases List.mem_cons.mp (pc.mem_iff.mp he) with z | z
      · exact ⟨x, u, z⟩
      · exact g e z
    have nn : (x :: L).Nodup := List.nodup_cons.mpr ⟨notL, nd⟩
    have ledn : w.params.followText "set-order" = true ∨ t1.led = true := led.imp id fun z => by rw [q4]; exact z
    have fin : ∀ h' b, Heap.SameBut a s.heap h' → SetT w h' a (x :: L) → Q b { s with heap := h' } := fun h' b sb r => hQ h' b sb (by rw [if_neg notL]; exact r)
    refine wpAny_bind (layq _ ?_)
    split
    · refine wpAny_bind ?_
      rw [hashByValue_scannable 8 sc]
      refine wpAny_pure (tail_add (fun b s1 R q => ?_) ho hx hd gn pn nn room ?_ ?_ ?_ fun h' sb r => ?_)
      · cases b <;> first | exact wpAny_pure q | exact wpAny_rule q
      · first | (split <;> first | exact q2 | exact SetTable.fits_plain_off q2) | exact q2
      · first | (split <;> exact q3) | exact q3
      · first | (split <;> exact ledn) | exact ledn
      · dsimp only; exact wpAny_pure (fin h' _ sb r)
    · refine wpAny_bind (wpAny_pure ?_)
      simp only [↓reduceIte]
      refine tail_add (fun b s1 R q => ?_) ho hx hd gn pn nn room q2 q3 ledn fun h' sb r => ?_
      · cases b <;> first | exact wpAny_pure q | exact wpAny_rule q
      · dsimp only; exact wpAny_pure (fin h' _ sb r)
/-- the texts of a list, each once -/
def nubT : List Str → List Str → List Str
  | [], L => L
  | x :: xs, L => nubT xs (if x ∈ L then L else x :: L)
theorem mem_nubT {y : Str} : ∀ (xs L : List Str), y ∈ nubT xs L ↔ y ∈ xs ∨ y ∈ L
  | [], L => by simp [nubT]
  | x :: xs, L => by
    unfold nubT
    rw [mem_nubT xs, List.mem_cons]
    split
    · rename_i h
      constructor
      · rintro (z | z)
        · exact .inl (.inr z)
        · exact .inr z
      · rintro ((rfl | z) | z)
        · exact .inr h
        · exact .inl z
        · exact .inr z
    · rw [List.mem_cons]
      constructor
      · rintro (z | z | z)
        · exact .inl (.inr z)
        · exact .inl (.inl z)
        · exact .inr z
      · rintro ((z | z) | z)
        · exact .inr (.inl z)
        · exact .inl z
        · exact .inr (.inr z)
theorem nubT_len : ∀ (xs L : List Str), (nubT xs L).length ≤ xs.length + L.length
  | [], L => by unfold nubT; simp
  | x :: xs, L => by
    unfold nubT
    have := nubT_len xs (if x ∈ L then L else x :: L)
    split at this
    · rename_i h; rw [if_pos h, List.length_cons]; omega
    · rename_i h; rw [if_neg h, List.length_cons]; rw [List.length_cons] at this; omega
theorem nubT_nd : ∀ (xs L : List Str), L.Nodup → (nubT xs L).Nodup
  | [], L, h => h
  | x :: xs, L, h => by
    unfold nubT
    refine nubT_nd xs _ ?_
    split
    · exact h
    · rename_i q; exact List.nodup_cons.mpr ⟨q, h⟩
theorem update_texts {I : Addr} {fp wr : List Addr} {G : Array GenState → Array GenState → Prop} {n : Nat} {Pv : Nat → Value → Prop} {St : Nat → Shared → Prop} {R : Result → Shared → Prop}
    (W : WalksS P w A.in1 I fp wr G n Pv St) (S : Addr) (hS : S ∉ fp) (xs : List Str) (hn : n = xs.length) (hval : ∀ i v, Pv i v → ∃ x u, xs[i]? = some x ∧ v = .str x u) :
    ∀ (k i : Nat) (s : Shared) (L : List Str), n - i = k → i ≤ n → St i s → SetT w s.heap S L → L.length + k + 1 < scanBound → (∀ s' M, Moved (S :: wr) G s s' → SetT w s'.heap S M → M = nubT (xs.drop i) L → R (.ok (.ret .none)) s') →
      codeAny (model P w) A (.builtin "set.update.loop" ⟨[.ref S, .ref I], []⟩) R s := by
  have hw : S ∉ wr := fun h => hS (W.sub _ h)
  have sub : ∀ b ∈ wr, b ∈ S :: wr := fun b hb => List.mem_cons_of_mem _ hb
  intro k
  induction k with
  | zero =>
    intro i s L hk hi st hL _ hR
    obtain rfl : i = n := by omega
    refine codeAny_builtin F.entry_set_update_loop ?_
    rw [Around.under_plainId F.plain_set_update_loop _]
    show wpAny _ A.in1 (pyNext (.ref I) >>= _) _ _ s
    refine wpAny_bind (W.done s _ _ st fun s' hm => ?_)
    show wpAny _ A.in1 (ret Value.none) _ _ s'
    refine wpAny_pure (hR s' L (hm.mono sub) (hL.keep fun o e => hm.heap S o hw e) ?_)
    rw [List.drop_of_length_le (by omega)]
    rfl
  | succ k ih =>
    intro i s L hk hi st hL hb hR
    have hlt : i < n := by omega
    refine codeAny_builtin F.entry_set_update_loop ?_
    rw [Around.under_plainId F.plain_set_update_loop _]
    show wpAny _ A.in1 (pyNext (.ref I) >>= _) _ _ s
    refine wpAny_bind (W.item i s _ _ hlt st fun v s' hP st' hm => ?_)
    obtain ⟨x, u, hx, rfl⟩ := hval i v hP
    have hL' : SetT w s'.heap S L := hL.keep fun o e => hm.heap S o hw e
    have ed : xs.drop i = x :: xs.drop (i + 1) := by
      obtain ⟨h1, h2⟩ := List.getElem?_eq_some_iff.mp hx
      rw [← h2, List.getElem_cons_drop]
    show wpAny _ A.in1 (holding [Value.str x u] (setAdd S (.str x u)) >>= _) _ _ s'
    refine wpAny_bind (wpAny_holding ?_)
    unfold setAdd
    refine wpAny_holding ?_
    refine wpAny_bind ((strKind P w).pyHash (k := x) (strKind_is _ _ _ _) ?_)
    refine add_text (s := { s' with toks := s'.toks + 1 }) hL' (by omega) fun h' b hsb hL2 => ?_
    have hl2 : (if x ∈ L then L else x :: L).length ≤ L.length + 1 := by split <;> simp
    refine wpAny_pure ⟨plainId_quiet F.plain_set_update_loop _, ih (i + 1) _ _ (by omega) hlt (W.frame _ s' _ _ st' (Nat.le_succ _) fun b hb o e => ?_) hL2 (by omega) fun s'' M hm'' hM eM => ?_⟩
    · rw [hsb.2 b fun z : b = S => hS (z ▸ hb)]; exact e
    · refine hR s'' M (Moved.trans W.gtrans ((hm.mono sub).then_heap (Nat.le_succ _) fun b o hb e => ?_) hm'') hM ?_
      · rw [hsb.2 b fun z : b = S => hb (z ▸ List.mem_cons_self)]; exact e
      · rw [ed]; exact eM
theorem strs_at : ∀ {vs : List Value} {xs : List Str}, StrsAre vs xs → ∀ (i : Nat) (v : Value), vs[i]? = some v → ∃ x u, xs[i]? = some x ∧ v = .str x u
  | _, _, .nil, i, v, h => by simp at h
  | _, _, .cons y u r, 0, v, h => by
    rw [List.getElem?_cons_zero] at h
    exact ⟨y, u, rfl, (Option.some.inj h).symm⟩
  | _, _, .cons y u r, i + 1, v, h => by
    rw [List.getElem?_cons_succ] at h
    obtain ⟨x, z, e1, e2⟩ := strs_at r i v h
    exact ⟨x, z, by rw [List.getElem?_cons_succ]; exact e1, e2⟩
set_option maxHeartbeats 3200000 in
theorem call_setT {l : Addr} {items : Array Value} (xs : List Str) {Q : Value → Shared → Prop} (hh : A.handled = none) (hl : s.heap.IsList l items) (hit : StrsAre items.toList xs) (hb : xs.length + 1 < scanBound)
    (q : ∀ (g : Heap) (tk : Nat), SetT w g s.heap.objs.size (nubT xs []) → (∀ b o, s.heap.get? b = some o → g.get? b = some o) → Q (.ref s.heap.objs.size) { s with heap := g, toks := tk }) :
    wpAny (model P w) A (call (.type "set") [.ref l]) Q E s := by
  have n0 : items.size = xs.length := (Array.length_toList (xs := items)).symm.trans hit.length
  obtain ⟨cm, tl, hmro⟩ := F.called_set.mro
  have hmade := F.called_set.made
  have hsub := F.called_set.sub
  apply wpAny_call
  refine codeAny_of_tree ?_
  show wpAny _ _ (callAny (.type "set") _) _ _ _
  apply wpAny_pure
  refine ⟨Code.quiet_builtin _ (by decide +kernel), codeAny_builtin F.entry_type_call ?_⟩
  rw [Around.under_plain (weight_type_call_type "set" [.ref l] []) rfl]
  have h1 := F.called_set.notType
  have h2 := F.called_set.canCreate
  have hct := F.typeCall_set_1 (.ref l)
  repeat (any_goals (first | assumption | wp_step))
  refine codeAny_mono (code_set_led1 (.ref l) (E := E) (Q₁ := fun ob t => ob = .ref s.heap.objs.size ∧ t = { s with heap := s.heap.push (ES.newS w) }) ⟨rfl, rfl⟩) fun r t hr => ?_
  cases r with
  | error e => exact hr
  | ok fl =>
    cases fl with
    | ret ob =>
      obtain ⟨rfl, rfl⟩ := hr
      have e0 : (s.heap.push (ES.newS w)).get? s.heap.objs.size = some (ES.newS w) := Heap.get?_push_size _ rfl
      have ty : Shared.TypeIs { s with heap := s.heap.push (ES.newS w) } (.ref s.heap.objs.size) "set" := ⟨_, e0, rfl⟩
      have hli := F.called_set.init.lookup
      have hbi := F.called_set.init.bind (.ref s.heap.objs.size)
      repeat (any_goals (first | assumption | wp_step))
      refine codeAny_mono (codeAny_call_builtin (R := wants (fun r t => r = .none ∧ ∃ g tk, t = { s with heap := g, toks := tk } ∧ SetT w g s.heap.objs.size (nubT xs []) ∧ (∀ b o, s.heap.get? b = some o → g.get? b = some o)) E)
        F.called_set.init.plain F.entry_set_init (check_set_init_1 ty ?_)) fun r2 t2 hr2 => ?_
      · obtain ⟨ol, hol, hcl, nl, hdl⟩ := hl
        obtain ⟨ocls, odict, odata, oslots⟩ := ol
        simp only at hcl hdl
        subst hcl
        subst hdl
        have hol2 : (s.heap.push (ES.newS w)).get? l = some { cls := .type "list", dict := odict, data := .seq items nl, slots := oslots } := Heap.get?_push_of_some _ hol
        have sb1 := F.sub_list_set
        have sb2 := F.sub_list_frozenset
        have nd : (Value.type "list" == Value.type "dict") = false := by decide
        have isl : (s.heap.push (ES.newS w)).IsList l items := ⟨_, hol2, rfl, nl, rfl⟩
        unfold Builtin.«set.__init__» noKeywords Builtin.Frozenset.updateFrom
        generalize hPI : pyIter = PI
        wp_walk
        subst hPI
        refine wpAny_pyIter_list isl ?_
        apply wpAny_bind
        apply wpAny_runValue
        have ll : l < s.heap.objs.size := Heap.lt_size hol
        have h3 : A.in1.in1.in1.handled = none := by simp [hh]
        have sz : (s.heap.push (ES.newS w)).objs.size = s.heap.objs.size + 1 := Heap.size_push ..
        have nI : l ≠ (s.heap.push (ES.newS w)).objs.size := by
          rw [sz]
          exact Nat.ne_of_lt (Nat.lt_succ_of_lt ll)
        have nS : s.heap.objs.size ∉ [(s.heap.push (ES.newS w)).objs.size, l] := by
          rw [sz]
          intro z
          rcases List.mem_cons.mp z with z | z
          · exact absurd z (Nat.ne_of_lt (Nat.lt_succ_self _))
          · exact absurd (List.mem_singleton.mp z) (Nat.ne_of_gt ll)
        have val : ∀ (i : Nat) (v : Value), items[i]? = some v → ∃ x u, xs[i]? = some x ∧ v = .str x u := fun i v hv => by
          exact strs_at hit i v (by rw [Array.getElem?_toList]; exact hv)
        refine update_texts ((Walks.list h3 _ l nI items).toS) s.heap.objs.size nS xs n0 val (items.size - 0) 0 _ [] rfl (Nat.zero_le _) ⟨⟨_, Heap.get?_push_size _ rfl, rfl, rfl⟩, isl.push _⟩ ⟨ES.newS w, #[], 0, _, ⟨Heap.get?_push_of_some _ e0, ⟨rfl, rfl, rfl⟩, rfl⟩, ⟨fun e he => by simp at he, by simp, List.nodup_nil⟩, by decide, rfl, List.Pairwise.nil, ?_⟩ (by simp only [List.length_nil]; omega) fun t M hm hS eM => ?_
        · show _ ∨ (!w.params.followText "set-order") = true
          cases w.params.followText "set-order"
          · exact .inr rfl
          · exact .inl rfl
        obtain ⟨g, g2, d2, tk2, os2⟩ := t
        cases (show g2 = s.gens from hm.gens)
        cases (show d2 = s.drawn from hm.drawn)
        cases (show os2 = s.os from hm.os)
        show wpAny _ _ _ _ _ _
        apply wpAny_pure
        show wpAny _ _ (ret Value.none) _ _ _
        apply wpAny_pure
        refine ⟨rfl, g, tk2, rfl, ?_, fun b o e => ?_⟩
        · rw [List.drop_zero] at eM
          rw [← eM]; exact hS
        have lb : b < s.heap.objs.size := Heap.lt_size e
        refine hm.heap b o (fun z => ?_) (Heap.get?_push_of_some _ (Heap.get?_push_of_some _ e))
        rcases List.mem_cons.mp z with z | z
        · exact absurd z (Nat.ne_of_lt lb)
        · have z := List.mem_singleton.mp z
          rw [sz] at z
          exact absurd z (Nat.ne_of_lt (Nat.lt_succ_of_lt lb))
      · cases r2 with
        | error e => exact hr2
        | ok f2 =>
          cases f2 with
          | ret v =>
            obtain ⟨rfl, g, tk, rfl, hS, kp⟩ := hr2
            repeat (any_goals (first | assumption | wp_step))
            exact q g tk hS kp
          | _ => exact hr2
    | _ => exact hr
/-- sorted(a set of texts), fewer than 64 -/
theorem sorted_setT {Q : Value → Shared → Prop} (R : SetT w s.heap a L) (hh : A.handled = none) (few : L.length < 64)
    (hQ : ∀ s' p (out : Array Value) (c : Nat) (ys : List Str), (∀ b o, s.heap.get? b = some o → s'.heap.get? b = some o) → s'.gens = s.gens → s'.os = s.os → s.heap.objs.size ≤ p →
      s'.heap.get? p = some (seqObj "list" out c) → StrsAre out.toList ys → ys.Perm L → sortedS ys = true → Q (.ref p) s') :
    wpAny (model P w) A (call (.builtin "sorted") [.ref a]) Q E s := by
  obtain ⟨o, es, ep, t, ⟨ho, hx, hd⟩, ⟨g, pL, nd⟩, hb, fit, up, led⟩ := R
  have zes := size_of pL
  refine Calls.call_function_entry kind_sorted plain_sorted entry_sorted (args_sorted1 _) ?_
  unfold Builtin.«sorted»
  refine wpAny_bind (m := checkCount "sorted" 1 1 _) (wpAny_pure ?_)
  refine wpAny_bind (L2.collect_set (A := A.in1) hh ⟨o, ho, hx.1, hd⟩ fit (by omega) up led fun s1 vs k1 hz g1 o1 pm => ?_)
  have hvl : vs.length = L.length := by rw [pm.length_eq, List.length_map, Array.length_toList]; exact zes
  have ex : ∃ zs : List Str, StrsAre vs zs ∧ zs.Perm L := by
    have : ∀ (vs : List Value) (l : List (Int × Value)), (∀ e ∈ l, RowT w e) → vs.Perm (l.map (·.2)) → ∃ zs : List Str, StrsAre vs zs ∧ zs.Perm (l.map tOf) := by
      intro vs l hl hp
      have hv : ∀ v ∈ vs, ∃ x u, v = Value.str x u := fun v hv => by
        obtain ⟨e, he, q⟩ := List.mem_map.mp (hp.mem_iff.mp hv)
        obtain ⟨x, u, rfl⟩ := hl e he
        exact ⟨x, u, q.symm⟩
      have mk : ∀ us : List Value, (∀ v ∈ us, ∃ x u, v = Value.str x u) → StrsAre us (us.map fun v => tOf (0, v)) := by
        intro us
        induction us with
        | nil => exact fun _ => .nil
        | cons v us ih =>
          intro h
          obtain ⟨x, u, rfl⟩ := h v List.mem_cons_self
          exact .cons x u (ih fun y hy => h y (List.mem_cons_of_mem _ hy))
      refine ⟨_, mk vs hv, ?_⟩
      have p2 := hp.map fun v => tOf (0, v)
      rw [List.map_map] at p2
      exact p2
    obtain ⟨zs, h1, h2⟩ := this vs es.toList g pm
    exact ⟨zs, h1, h2.trans pL⟩
  obtain ⟨zs, hI, pz⟩ := ex
  refine wpAny_bind (wpAny_newList ?_ (by rw [hvl, sizeLine_eq]; omega))
  have hoL : (s1.heap.push (seqObj "list" vs.toArray 0)).get? s1.heap.objs.size = some (seqObj "list" vs.toArray 0) := Heap.get?_push_size _ rfl
  refine wpAny_bind (wpAny_holding (wpAny_call_entry slot_list_sort ⟨_, hoL, rfl⟩ entry_list_sort (list_sort_treeK strKind_oneLt hoL hI.keysOf (fun v1 v2 rest e => keyKind_strs (by rw [← e]; exact hI)) (by rw [hvl]; exact few) fun st' hp hs => ⟨_, rfl, ?_⟩) (args_list_sort _)))
  obtain ⟨ys, y1, y2, y3⟩ := sorted_out_str hI hp hs
  obtain ⟨c, hc⟩ := sortedHeap_at (vs := vs) (out := (arrOf st').map (·.2)) hoL
  refine wpAny_pure ⟨_, rfl, hQ _ s1.heap.objs.size _ c ys (fun b u e => ?_) g1 o1 hz hc y1 (y2.trans pz) y3⟩
  have q := k1 b u e
  have hlt := Heap.lt_size q
  show (sortedHeap (s1.heap.push (seqObj "list" vs.toArray 0)) s1.heap.objs.size vs ((arrOf st').map (·.2))).get? b = some u
  rw [sortedHeap_old (Nat.ne_of_lt hlt) (by rw [Heap.size_push]; exact Nat.lt_succ_of_lt hlt)]
  exact Heap.get?_push_of_some _ q
end
/-! ### as rules -/
def SetTO (w : World) (a : Addr) (L : List Str) : HO := .ext fun h => SetT w h a L
section
variable {X : Cx}
theorem setTO_new {w : World} {P : Program} {H : Hp} {h : Heap} {a : Addr} {L : List Str} (R : SetT w h a L) : ObjOk P w H h a (SetTO w a L) := by
  have ⟨o, _, _, _, ⟨ho, _⟩, _⟩ := R
  exact ⟨R, ⟨o, ho⟩, fun h1 h2 p k => SetT.keep p k⟩
def rSetT (K : PySem.W.Frag) (w : World) : List V → Hp → VK → Prop := fun vs H Q => ∃ (l : Addr) (xs : List Str), vs = [V.ref l] ∧ SqL K H l (xs.map V.str) ∧ xs.length < 1000 ∧ ∀ a : Addr, H a = none → Q (.ref a) (upd H a (SetTO w a (nubT xs [])))
theorem cr_setT (hc : X.calm = true) : CallR X (.type "set") (rSetT X.K X.w) := by
  intro pins s σ H vs us Q I r h
  obtain ⟨l, xs, rfl, hl, hn, q⟩ := h
  rw [Vals.ref1 r]
  have new : H s.heap.objs.size = none := I.hok.fresh (Nat.le_refl _)
  obtain ⟨its, rv, pl, _⟩ := I.list hl
  exact call_setT xs (I.ok.hd hc) pl.isList (by simpa using rv.strs) (by unfold scanBound; omega) fun g tk R k =>
    ⟨.ref s.heap.objs.size, _, I.laid (t' := tk) k (Nat.le_refl _) (setTO_new R), rfl, q _ new⟩
def rSortT (w : World) : List V → Hp → VK → Prop := fun vs H Q => ∃ (a : Addr) (L : List Str), vs = [V.ref a] ∧ H a = some (SetTO w a L) ∧ L.length < 64 ∧ ∀ (ys : List Str) (p : Addr), ys.Perm L → sortedS ys = true → H p = none → Q (.ref p) (upd H p (.lst (ys.map V.str)))
theorem cr_sortT (hc : X.calm = true) : CallR X (.builtin "sorted") (rSortT X.w) := by
  intro pins s σ H vs us Q I r h
  obtain ⟨a, L, rfl, ha, h64, q⟩ := h
  have R : SetT X.w s.heap a L := (I.hok a _ ha).1
  rw [Vals.ref1 r]
  refine sorted_setT R (I.ok.hd hc) h64 fun s' p out c ys k g o hp hg hi hm hs => ?_
  have hlen : (ys.map V.str).length ≤ sizeLine := by rw [List.length_map, hm.length_eq, sizeLine_eq]; omega
  have hn : H p = none := I.hok.fresh hp
  have J : Inv X pins σ (upd H p (.lst (ys.map V.str))) { s with heap := s'.heap, gens := s'.gens, drawn := s'.drawn, toks := s'.toks } :=
    I.call (ch := []) (Un.laid k hp hn) (I.hok.laid k hp ⟨hlen, out.toList, c, vals_of_strs hi, hg⟩) (by rw [g]; exact I.bare) (fun _ z => nomatch z)
  have e : s' = { s with heap := s'.heap, gens := s'.gens, drawn := s'.drawn, toks := s'.toks } := by
    cases s'
    cases s
    cases o
    rfl
  rw [e]
  exact ⟨.ref p, _, J, rfl, q ys p hm hs hn⟩
end
end ET2

namespace EL
open PySem PySem.Spec PyProof.Rows L2 ET2
variable [TabC]
variable {K : PySem.W.Frag} {w : World}
section
variable {ρ : List Sl} {P : Post} {t u tb : TS} {te ta : TE} {d x y z : D} {ds es : List D} {i : Nat}
/-- while, with a measure that the proof alone sees -/
theorem w_whileN {c : TT} (Inv : Nat → List Sl → Prop) {n0 : Nat} (h0 : Inv n0 ρ)
    (hs : ∀ n ρ1, Inv n ρ1 → ∃ b, EvT K c ρ1 b ∧ (b = true → Wp K tb ρ1 { nx := fun ρ2 => ∃ m, m < n ∧ Inv m ρ2, ct := fun ρ2 => ∃ m, m < n ∧ Inv m ρ2, bk := P.nx, rt := P.rt }) ∧ (b = false → P.nx ρ1)) : Wp K (tWhile c tb) ρ P := fun B B0 σ H H0 r E m => by
  refine ⟨fun n σ' H' => ∃ ρ1 H0', Inv n ρ1 ∧ Rp K B B0 ρ1 σ' H' H0', ⟨n0, ρ, H0, h0, r⟩, ?_⟩
  rintro n σ' H' ⟨ρ1, H0', inv, r1⟩
  obtain ⟨b, hc, ht, hf⟩ := hs n ρ1 inv
  refine hc B B0 σ' H' H0' r1 _ fun H2 H02 w => ?_
  cases b with
  | true =>
    rw [if_pos rfl]
    refine ⟨fun σ3 H3 => ∃ ρ3 H03, (∃ m, m < n ∧ Inv m ρ3) ∧ Rp K B B0 ρ3 σ3 H3 H03, fun σ3 H3 ⟨ρ3, H03, ⟨m, hm, q⟩, r3⟩ => ⟨m, hm, ρ3, H03, q, r3⟩, ?_⟩
    exact ht rfl B B0 σ' H2 H02 (r1.step w) _ ⟨fun ρ3 σ3 H3 H03 k r3 => ⟨ρ3, H03, k, r3⟩, m.rt, fun ρ3 σ3 H3 H03 k r3 => m.nx ρ3 σ3 H3 H03 k r3, fun ρ3 σ3 H3 H03 k r3 => ⟨ρ3, H03, k, r3⟩, fun _ _ _ _ z => z.elim⟩
  | false =>
    rw [if_neg Bool.false_ne_true]
    exact m.nx ρ1 σ' H2 H02 (hf rfl) (r1.step w)
/-- one's own list.extend(a new list) -/
theorem w_extend (h : ρ[i]? = some (Sl.own ds)) (he : EvF K te ρ es) (hl : ds.length + es.length ≤ sizeLine) (k : P.nx (ρ.set i (.own (ds ++ es)))) : Wp K (tDrop (tBM K "list" rExtend (tVar i) (tCons te tNil))) ρ P := fun B B0 σ H H0 r E m => by
  obtain ⟨a, xs, e1, e2, e3, e4, e5⟩ := r.own i ds h
  refine ⟨_, e1, .inl ⟨rfl, _, .of e4⟩, he B B0 σ H H0 r _ fun b ys H1 H01 w1 n1 f1 g1 k1 => ?_⟩
  have r1 := r.step w1
  obtain ⟨a', xs', f1', f2, f3, f4, f5⟩ := r1.own i ds h
  rw [e1] at f1'; cases f1'
  refine ⟨a, b, xs', ys, rfl, rfl, f4, f1, by rw [dpa_len f5, dpa_len k1]; exact hl, ?_⟩
  exact m.nx _ _ _ H01 k (r1.write h e1 (dpa_app f5 k1))
/-- a comprehension, item by item told: what it gives, or nothing -/
theorem ef_lcO {wi : TI} {g : TG} {tt : TT} {te : TE} {vs is : List Nat} {os : List (Option D)} (hi : Ev_It K wi ρ ds) (hsub : ∀ i ∈ is, i ∈ vs) (ho : os.length = ds.length)
    (hs : ∀ (i : Nat) (d : D) (o : Option D), ds[i]? = some d → os[i]? = some o → ∃ ρ2, Bd K g is d (wipeS ρ vs) ρ2 ∧ EvT K tt ρ2 o.isSome ∧ (∀ e, o = some e → EvD K te ρ2 e)) (hl : ds.length < sizeLine) :
    EvF K (tLc wi g tt te vs) ρ (os.filterMap id) := fun B B0 σ H H0 r Q q =>
  hi.two B B0 σ H H0 r _ fun J H1 H01 w ok D nD => by
    have key : ∀ i, i ≤ ds.length → ((os.take i).filterMap id).length ≤ i := fun i hi => by
      refine Nat.le_trans (List.length_filterMap_le _ _) ?_
      rw [List.length_take]; omega
    refine ⟨fun i n H' => n = ds.length - i ∧ i ≤ ds.length ∧ ∃ H0' acc, Wd H1 H01 H' H0' ∧ H' D = some (.lst acc) ∧ H0' D = none ∧ DpAll K H0' acc ((os.take i).filterMap id), ⟨_, rfl, Nat.zero_le _, H01, [], .dirty w.sub nD, upd_same, sub_none w.sub nD, .nil⟩, ?_⟩
    rintro i n H' ⟨rfl, hle, H0', acc, w1, e1, e0, k1⟩
    have r1 : Rp K B B0 (wipeS ρ vs) (wipe σ vs) H' H0' := rp_wipe ((r.step w).step w1) vs
    obtain ⟨ok1, ok2⟩ := ok i H' H0' w1
    by_cases hlt : i < ds.length
    · obtain ⟨go, yl⟩ := ok2 ds[i] (List.getElem?_eq_getElem hlt)
      have hlo : i < os.length := by omega
      obtain ⟨ρ2, hb, ht, hf⟩ := hs i ds[i] os[i] (List.getElem?_eq_getElem hlt) (List.getElem?_eq_getElem hlo)
      have tk : os.take (i + 1) = os.take i ++ [os[i]] := by rw [List.take_add_one, List.getElem?_eq_getElem hlo]; rfl
      refine .inr ⟨go, fun H2 => ∃ H02 acc, Wd H1 H01 H2 H02 ∧ H2 D = some (.lst acc) ∧ H02 D = none ∧ DpAll K H02 acc ((os.take (i + 1)).filterMap id), fun H2 ⟨a, b, z⟩ => ⟨ds.length - (i + 1), by omega, rfl, hlt, a, b, z⟩, fun x H2 hy => ?_⟩
      obtain ⟨H02, w2, k2⟩ := yl x H2 hy
      refine hb B B0 _ H2 H02 x (r1.step w2) k2 _ fun σ2 r2 e2 => ⟨by rw [e2 vs hsub, wipe_twice], ht B B0 σ2 H2 H02 r2 _ fun H3 H03 w3 => ?_⟩
      have w123 := (w1.trans w2).trans w3
      have e3 : H3 D = some (.lst acc) := (w2.trans w3).e.lst e1
      have z3 : H03 D = none := (w2.trans w3).stay0 e1 e0
      rw [tk, List.filterMap_append]
      cases hc : os[i] with
      | none =>
        rw [show (none : Option PyData).isSome = false from rfl, if_neg Bool.false_ne_true]
        refine ⟨H03, acc, w123, e3, z3, ?_⟩
        simpa using dpa_mono (w2.trans w3).e0 k1
      | some e =>
        rw [show (some e).isSome = true from rfl, if_pos rfl]
        refine hf e hc B B0 σ2 H3 H03 (r2.step w3) _ fun v H4 H04 w4 k4 => ⟨acc, w4.e.lst e3, ?_, H04, acc ++ [v], ?_, upd_same, w4.stay0 e3 z3, ?_⟩
        · rw [dpa_len k1]
          have := key i hle
          omega
        · have w5 := w123.trans w4
          have nD0 : H01 D = none := sub_none w.sub nD
          refine ⟨w5.e.own (κ := none) (κ' := none) nD (w4.e.lst e3), w5.e0, fun b o hb => ?_, w5.new, fun t => (w5.tb t).own (κ := none) (κ' := none) (w4.e.lst e3)⟩
          rw [upd_ne (ne_of_none hb (w4.stay0 e3 z3))]
          exact w5.sub b o hb
        · exact dpa_app (dpa_mono ((w2.trans w3).trans w4).e0 k1) (.cons k4 .nil)
    · have e : i = ds.length := by omega
      subst e
      rw [List.take_of_length_le (by omega)] at k1
      exact .inl ⟨ok1 (Nat.le_refl _), q D acc H' H0' (w.trans w1) (w.e.free nD) e1 e0 k1⟩
/-! ### names: texts of one sign -/
abbrev nm (c : Nat) : D := .str (mkS [c])
theorem rising_names : ∀ {l : List Nat} {c : Nat}, risingS (mkS [c]) (l.map fun c => mkS [c]) = true → (c :: l).Pairwise (· ≤ ·)
  | [], c, _ => List.pairwise_singleton _ _
  | b :: l, c, h => by
    have h : (!Spec.ltCps [b] [c] && risingS (mkS [b]) (l.map fun c => mkS [c])) = true := h
    obtain ⟨h1, h2⟩ := Bool.and_eq_true _ _ ▸ h
    have ih := rising_names h2
    have hbc : c ≤ b := by
      have h1 : (!(decide (b < c) || ((b == c) && Spec.ltCps [] []))) = true := h1
      rw [Bool.not_eq_true'] at h1
      have := of_decide_eq_false (Bool.or_eq_false_iff.mp h1).1
      omega
    refine List.pairwise_cons.mpr ⟨fun x hx => ?_, ih⟩
    rcases List.mem_cons.mp hx with rfl | hx
    · exact hbc
    · exact Nat.le_trans hbc ((List.pairwise_cons.mp ih).1 x hx)
theorem sorted_names {l : List Nat} (h : sortedS (l.map fun c => mkS [c]) = true) : l.Pairwise (· ≤ ·) := by
  cases l with
  | nil => exact .nil
  | cons c l => exact rising_names h
theorem names_inj {c b : Nat} (h : mkS [c] = mkS [b]) : c = b := by
  have := mkS_inj h
  injection this
theorem names_back : ∀ {ys : List Str} {cs : List Nat}, (∀ y ∈ ys, ∃ c ∈ cs, y = mkS [c]) → ∃ l : List Nat, ys = l.map fun c => mkS [c]
  | [], _, _ => ⟨[], rfl⟩
  | y :: ys, cs, h => by
    obtain ⟨c, _, e⟩ := h y List.mem_cons_self
    obtain ⟨l, e2⟩ := names_back (ys := ys) (cs := cs) fun z hz => h z (List.mem_cons_of_mem _ hz)
    exact ⟨c :: l, by rw [e, e2]; rfl⟩
/-- sorted(set(names)) -/
theorem ev_sortNames {cs out : List Nat} (h : EvQ K te ρ (.list (cs.map nm))) (hn : cs.length < 64) (ho : out.Pairwise (· < ·)) (hm : ∀ c, c ∈ out ↔ c ∈ cs) :
    EvF K (tCB (rSortT w) (tCons (tCB (rSetT K w) (tCons te tNil)) tNil)) ρ (out.map nm) := fun B B0 σ H H0 r Q q =>
  h B B0 σ H H0 r _ fun v H1 H01 w1 k1 => by
    obtain ⟨l, xs, rfl, hl, hx⟩ := k1.lst w1.sub
    have hx' : DpAll K H01 xs ((cs.map fun c => mkS [c]).map .str) := by rw [List.map_map]; exact hx
    have ex := dpa_strs hx'
    subst ex
    refine ⟨l, _, rfl, hl, by rw [List.length_map]; omega, fun a na => ?_⟩
    have w2 : Wd H1 H01 (upd H1 a (SetTO w a (nubT (cs.map fun c => mkS [c]) []))) H01 := .dirty w1.sub na
    have le := nubT_len (cs.map fun c => mkS [c]) []
    rw [List.length_map] at le
    refine ⟨a, _, rfl, upd_same, by simp only [List.length_nil] at le; omega, fun ys p pm so np => ?_⟩
    have mem : ∀ y, y ∈ ys ↔ ∃ c ∈ cs, mkS [c] = y := fun y => by
      rw [pm.mem_iff, mem_nubT, List.mem_map]
      exact ⟨fun z => z.resolve_right (by simp), .inl⟩
    obtain ⟨zs, rfl⟩ := names_back (cs := cs) fun y hy => by
      obtain ⟨c, hc, e⟩ := (mem y).mp hy
      exact ⟨c, hc, e.symm⟩
    have nd : (zs.map fun c => mkS [c]).Nodup := pm.nodup_iff.mpr (nubT_nd _ [] List.nodup_nil)
    have ndz : zs.Nodup := by
      unfold List.Nodup at nd ⊢
      rw [List.pairwise_map] at nd
      exact nd.imp fun h e => h (by rw [e])
    have memz : ∀ c, c ∈ zs ↔ c ∈ out := fun c => by
      rw [hm]
      constructor
      · intro hc
        obtain ⟨b, hb, e⟩ := (mem _).mp (List.mem_map.mpr ⟨c, hc, rfl⟩)
        rw [← names_inj e]; exact hb
      · intro hc
        obtain ⟨b, hb, e⟩ := List.mem_map.mp ((mem (mkS [c])).mpr ⟨c, hc, rfl⟩)
        rw [← names_inj e]; exact hb
    have lt : zs.Pairwise (· < ·) := ((sorted_names so).and ndz).imp fun h => Nat.lt_of_le_of_ne h.1 h.2
    have e : zs = out := List.Perm.eq_of_pairwise (le := fun x y : Nat => x < y) (fun x y _ _ h1 h2 => absurd h1 (by omega)) lt ho ((List.perm_ext_iff_of_nodup ndz (ho.imp fun h => Nat.ne_of_lt h)).mpr memz)
    subst e
    have w3 := w2.trans (.dirty (o := HO.lst ((zs.map fun c => mkS [c]).map V.str)) w2.sub np)
    refine q p _ _ H01 (w1.trans w3) (w1.e.free (w2.e.free np)) upd_same (sub_none w2.sub np) ?_
    have : ∀ l : List Nat, DpAll K H01 ((l.map fun c => mkS [c]).map V.str) (l.map nm) := fun l => by
      induction l with
      | nil => exact .nil
      | cons c l ih => exact .cons (.str _) ih
    exact this zs
theorem inD_nm (c : Nat) (bs : List Nat) : inD (nm c) (bs.map nm) = bs.contains c := by
  unfold inD
  rw [List.any_map, Bool.eq_iff_iff, List.any_eq_true, List.contains_iff_mem]
  constructor
  · rintro ⟨b, hb, e⟩
    have e : (mkS [b] == mkS [c]) = true := e
    rw [← names_inj (beq_iff_eq.mp e)]
    exact hb
  · intro h
    exact ⟨c, h, (by show (mkS [c] == mkS [c]) = true; exact beq_self_eq_true _)⟩
theorem nm_flat : ∀ bs : List Nat, (bs.map nm).all flatD = true
  | [] => rfl
  | _ :: bs => by rw [List.map_cons, List.all_cons, nm_flat bs]; rfl
/-- a name in a text, not in a text -/
def rInSign : R2 := fun x y H Q => ∃ (c : Nat) (z : Str), x = .str ⟨#[c]⟩ ∧ y = .str z ∧ Q (.bl (decide (c ∈ z.cps.toList))) H
def rNotInSign : R2 := fun x y H Q => ∃ (c : Nat) (z : Str), x = .str ⟨#[c]⟩ ∧ y = .str z ∧ Q (.bl (!decide (c ∈ z.cps.toList))) H
theorem rd_inSign {c : Nat} {l : List Nat} : RD K rInSign (nm c) (.str (mkS l)) (.bool (l.contains c)) := fun H H0 v u s k1 k2 Q q => by
  rw [k1.str, k2.str]
  refine ⟨c, _, rfl, rfl, ?_⟩
  have e : decide (c ∈ (mkS l).cps.toList) = l.contains c := by rw [tl_mkS, Bool.eq_iff_iff, decide_eq_true_iff, List.contains_iff_mem]
  rw [e]
  exact q _ H H0 (.refl s) (.bl _)
theorem rd_notInSign {c : Nat} {l : List Nat} : RD K rNotInSign (nm c) (.str (mkS l)) (.bool (!l.contains c)) := fun H H0 v u s k1 k2 Q q => by
  rw [k1.str, k2.str]
  refine ⟨c, _, rfl, rfl, ?_⟩
  have e : decide (c ∈ (mkS l).cps.toList) = l.contains c := by rw [tl_mkS, Bool.eq_iff_iff, decide_eq_true_iff, List.contains_iff_mem]
  rw [e]
  exact q _ H H0 (.refl s) (.bl _)
end
end EL
namespace EK
open PySem PySem.Spec PyProof.Rows L2 EL
variable [TabC]
variable {X : Cx} {K : PySem.W.Frag} {w : World}
theorem setT (hc : X.calm = true) (hK : X.K = K := by rfl) (hw : X.w = w := by rfl) : CallR X (.type "set") (ET2.rSetT K w) := hK ▸ hw ▸ ET2.cr_setT hc
theorem sortT (hc : X.calm = true) (hw : X.w = w := by rfl) : CallR X (.builtin "sorted") (ET2.rSortT w) := hw ▸ ET2.cr_sortT hc
theorem inSign : OpR X (compareOp .In) rInSign := op_in_sign
theorem notInSign : OpR X (compareOp .NotIn) rNotInSign := op_notIn_sign
end EK

/-! itertools.combinations -/
namespace ECo
open PySem PySem.Spec
theorem mro : mroOf (.type "itertools.combinations") = pure [.type "itertools.combinations", .type "object"] := by rw [mroOf_type]; kernel_rfl
theorem look_new : typeLookup (.type "itertools.combinations") "__new__" = pure (some (.builtin "itertools.combinations.__new__")) := by rw [typeLookup_type, builtinLookup_eq_fast]; kernel_rfl
theorem slot_init : Slot "itertools.combinations" "__init__" "object.__init__" :=
  .of (owner := "object") (n := "__init__") (by rw [typeLookup_type, builtinLookup_eq_fast]; kernel_rfl) (by decide +kernel) (by decide +kernel) (by decide +kernel) (by first | exact .inl (by decide +kernel) | exact .inr (by decide +kernel)) (by rw [isSubtype_type]; kernel_rfl)
theorem sub_self : isSubtype (.type "itertools.combinations") (.type "itertools.combinations") = pure true := by rw [isSubtype_type]; kernel_rfl
theorem called : TypeCalled "itertools.combinations" "itertools.combinations.__new__" "object.__init__" :=
  ⟨by decide +kernel, by decide +kernel, ⟨_, _, mro⟩, madeBy_type mro look_new (by decide +kernel), by decide +kernel, sub_self, slot_init⟩
theorem typeCall2 (a b : Value) : checkTypeCall "itertools.combinations" ⟨[a, b], []⟩ = pure () := by kernel_rfl
theorem newCall2 (a b : Value) : checkBuiltinCall "itertools.combinations.__new__" ⟨[.type "itertools.combinations", a, b], []⟩ = pure () := by kernel_rfl
theorem entry_new : entryFor table "itertools.combinations.__new__" = some Builtin.«itertools.combinations.__new__» := entryFor_of_tree (by kernel_rfl)
theorem slot_iter : Slot "itertools.combinations" "__iter__" "itertools.combinations.__iter__" :=
  .of (owner := "itertools.combinations") (n := "__iter__") (by rw [typeLookup_type, builtinLookup_eq_fast]; kernel_rfl) (by decide +kernel) (by decide +kernel) (by decide +kernel) (by first | exact .inl (by decide +kernel) | exact .inr (by decide +kernel)) sub_self
theorem slot_next : Slot "itertools.combinations" "__next__" "itertools.combinations.__next__" :=
  .of (owner := "itertools.combinations") (n := "__next__") (by rw [typeLookup_type, builtinLookup_eq_fast]; kernel_rfl) (by decide +kernel) (by decide +kernel) (by decide +kernel) (by first | exact .inl (by decide +kernel) | exact .inr (by decide +kernel)) sub_self
theorem entry_iter : entryFor table "itertools.combinations.__iter__" = some Builtin.«dict_keyiterator.__iter__» :=
  entryFor_alias (id' := "dict_keyiterator.__iter__") (by kernel_rfl) (by first | rfl | decide +kernel | (unfold String.splitOn; simp +decide [String.splitOnAux])) (by decide +kernel) (by kernel_rfl)
theorem entry_next : entryFor table "itertools.combinations.__next__" = some Builtin.«itertools.combinations.__next__» := entryFor_of_tree (by kernel_rfl)
theorem owner : Manifest.owners.lookup (String.ofList ['s', 'n', 'o', 'i', 't', 'a', 'n', 'i', 'b', 'm', 'o', 'c', '.', 's', 'l', 'o', 'o', 't', 'r', 'e', 't', 'i'].reverse) = some Manifest.sig_itertools_combinations := by kernel_rfl
theorem args_iter (a : Value) : argsOk "itertools.combinations.__iter__" ⟨[a], []⟩ := by
  unfold argsOk; rw [signature?_of (id := "itertools.combinations.__iter__") (n := ['_', '_', 'r', 'e', 't', 'i', '_', '_']) (o := ['s', 'n', 'o', 'i', 't', 'a', 'n', 'i', 'b', 'm', 'o', 'c', '.', 's', 'l', 'o', 'o', 't', 'r', 'e', 't', 'i']) (by kernel_rfl) owner]; kernel_rfl
theorem args_next (a : Value) : argsOk "itertools.combinations.__next__" ⟨[a], []⟩ := by
  unfold argsOk; rw [signature?_of (id := "itertools.combinations.__next__") (n := ['_', '_', 't', 'x', 'e', 'n', '_', '_']) (o := ['s', 'n', 'o', 'i', 't', 'a', 'n', 'i', 'b', 'm', 'o', 'c', '.', 's', 'l', 'o', 'o', 't', 'r', 'e', 't', 'i']) (by kernel_rfl) owner]; kernel_rfl
theorem noDict : typeHasDict (.type "itertools.combinations") = false := by decide +kernel
theorem no_len : typeLookup (.type "itertools.combinations") "__len__" = pure none := am_miss_of_fast (by decide +kernel)
theorem no_hint : typeLookup (.type "itertools.combinations") "__length_hint__" = pure none := am_miss_of_fast (by decide +kernel)
/-- a combinations object: its pool, how far it is (0: fresh, 1: begun, 2: ended), what it gave last, its indices -/
abbrev cObj (p : Addr) (fl : Int) (last : Value) (ix : List Nat) : Obj := { cls := .type "itertools.combinations", data := .fields (#[.ref p, .int fl 0, last] ++ (ix.map fun (n : Nat) => rawInt n).toArray) }
theorem meets_new {P : Program} {w : World} (it : Value) (r : Nat) (t : Tok) (hr : r < 1000) :
    MeetsIn P w (Builtin.«itertools.combinations.__new__» ⟨[.type "itertools.combinations", it, .int (r : Int) t], []⟩)
      (fun A R s => wpAny (model P w) A.in1 (collect it) (fun vs s1 => vs.length ≤ sizeLine ∧ R (.ok (.ret (.ref (s1.heap.objs.size + 1)))) { s1 with heap := (s1.heap.push { cls := .type "tuple", data := .seq vs.toArray }).push (cObj s1.heap.objs.size (if r > vs.length then 2 else 0) .none (List.range r)) }) (fun e s' => R (.error e) s') s) :=
  .of_wp fun A R s h => by
    have hsub := sub_self
    have hd := noDict
    have hn : ¬ (((r : Int) < -(2 ^ 63 : Int) || (r : Int) ≥ 2 ^ 63) = true) := by
      have a : decide ((r : Int) < -(2 ^ 63 : Int)) = false := decide_eq_false (by omega)
      have b : decide ((r : Int) ≥ 2 ^ 63) = false := decide_eq_false (by omega)
      rw [a, b]
      decide
    obtain ⟨hp, g, dd, tk, os⟩ := s
    have cat : ("itertools." ++ "combinations" : String) = "itertools.combinations" := by decide
    repeat (first
      | wp_step
      | simp only [List.head?_cons, Option.some_or, List.getElem?_cons_succ, List.getElem?_cons_zero, List.length_cons, List.length_nil, List.forIn_nil]
      | (refine wpAny_ite_false hn ?_))
    rw [cat]
    repeat (first
      | wp_step
      | simp only [List.head?_cons, Option.some_or, List.getElem?_cons_succ, List.getElem?_cons_zero, List.length_cons, List.length_nil, List.forIn_nil]
      | (refine wpAny_ite_false hn ?_))
    have neg0 : ¬ ((decide ((r : Int) < -2 ^ 63) || decide ((r : Int) ≥ 2 ^ 63)) = true) := by
      rw [decide_eq_false (by omega), decide_eq_false (by omega)]
      decide
    rw [if_neg neg0]
    refine wpAny_pure ?_
    refine wpAny_bind (wpAny_mono h (fun vs s1 hv => ?_) fun e s' he => he)
    have neg1 : ¬ ((r : Int) < 0) := by omega
    have neg2 : ¬ (Builtin.Itertools.itTooMany (r : Int) = true) := by
      unfold Builtin.Itertools.itTooMany
      rw [decide_eq_false (by omega)]
      decide
    rw [if_neg neg1, if_neg neg2]
    obtain ⟨hl, hR⟩ := hv
    refine wpAny_bind (wpAny_newTuple ?_ hl)
    refine wpAny_pure ?_
    dsimp only
    unfold Builtin.Itertools.itNewRecord
    rw [hd]
    refine wpAny_bind ?_
    rw [if_pos (by decide)]
    refine wpAny_newObj_type (dict := none) ?_ (by
      show Array.size _ ≤ sizeLine + 2
      rw [List.size_toArray, List.length_append, List.length_map, List.length_range, Int.toNat_natCast, sizeLine_eq]
      show 3 + r ≤ _
      omega)
    refine wpAny_pure ⟨_, rfl, ?_⟩
    have e1 : (s1.heap.push { cls := Value.type "tuple", data := Data.seq vs.toArray }).objs.size = s1.heap.objs.size + 1 := Heap.size_push ..
    have e2 : (Data.fields ([Value.ref s1.heap.objs.size, rawInt (if ((r : Int)).toNat > vs.length then 2 else 0), Value.none] ++ List.map (fun (i : Nat) => rawInt (i : Int)) (List.range ((r : Int)).toNat)).toArray) = (cObj s1.heap.objs.size (if r > vs.length then 2 else 0) Value.none (List.range r)).data := by
      rw [Int.toNat_natCast]
      show Data.fields _ = Data.fields _
      congr 1
      rw [← List.append_toArray]
      rfl
    rw [e1]
    show R _ { s1 with heap := (s1.heap.push _).push { cls := Value.type "itertools.combinations", dict := none, data := Data.fields _ } }
    rw [e2]
    exact hR
theorem f0 (x y z : Value) (a : Array Value) : (#[x, y, z] ++ a)[0]? = some x := by rw [Array.getElem?_append_left (show 0 < 3 by decide)]; rfl
theorem f1 (x y z : Value) (a : Array Value) : (#[x, y, z] ++ a)[1]? = some y := by rw [Array.getElem?_append_left (show 1 < 3 by decide)]; rfl
theorem f2 (x y z : Value) (a : Array Value) : (#[x, y, z] ++ a)[2]? = some z := by rw [Array.getElem?_append_left (show 2 < 3 by decide)]; rfl
theorem s1 (x y z v : Value) (a : List Value) : (#[x, y, z] ++ a.toArray).setIfInBounds 1 v = #[x, v, z] ++ a.toArray := by
  apply Array.ext'
  simp
theorem s2 (x y z v : Value) (a : List Value) : (#[x, y, z] ++ a.toArray).setIfInBounds 2 v = #[x, y, v] ++ a.toArray := by
  apply Array.ext'
  simp
theorem wp_nums {M : Model} {A : Around} {Q : List Nat → Shared → Prop} {E : Value → Shared → Prop} {s : Shared} {c p : Addr} {fl : Int} {last : Value} {ix : List Nat} (hc : s.heap.get? c = some (cObj p fl last ix)) (q : Q ix s) : wpAny M A (Builtin.Itertools.itNumbersFrom (.ref c) 3) Q E s := by
  show wpAny _ _ (load c >>= _) _ _ _
  refine wpAny_bind (wpAny_load hc ?_)
  dsimp only
  refine wpAny_pure ?_
  have e : List.drop 3 (#[Value.ref p, .int fl 0, last] ++ (ix.map fun (n : Nat) => rawInt n).toArray).toList = ix.map fun (n : Nat) => rawInt n := by simp
  rw [e, List.map_map]
  show Q (List.map id ix) s
  rw [List.map_id]
  exact q
theorem szF (x y z : Value) (a : Array Value) : 2 < (#[x, y, z] ++ a).size := by
  have : (#[x, y, z] ++ a).size = 3 + a.size := Array.size_append
  omega
theorem c_set1 {h : Heap} {c p : Addr} {fl v : Int} {last : Value} {ix : List Nat} (hc : h.get? c = some (cObj p fl last ix)) : (h.update c (Obj.mapFields fun x => x.setIfInBounds 1 (rawInt v))).get? c = some (cObj p v last ix) := by
  have := Heap.get?_update_self (Obj.mapFields fun x => x.setIfInBounds 1 (rawInt v)) hc rfl
  rw [this]
  show some { (cObj p fl last ix) with data := Data.fields ((#[Value.ref p, .int fl 0, last] ++ (ix.map fun (n : Nat) => rawInt n).toArray).setIfInBounds 1 (rawInt v)) } = _
  rw [s1]
  rfl
theorem c_set2 {h : Heap} {c p : Addr} {fl : Int} {last v : Value} {ix : List Nat} (hc : h.get? c = some (cObj p fl last ix)) : (h.update c (Obj.mapFields fun x => x.setIfInBounds 2 v)).get? c = some (cObj p fl v ix) := by
  have := Heap.get?_update_self (Obj.mapFields fun x => x.setIfInBounds 2 v) hc rfl
  rw [this]
  show some { (cObj p fl last ix) with data := Data.fields ((#[Value.ref p, .int fl 0, last] ++ (ix.map fun (n : Nat) => rawInt n).toArray).setIfInBounds 2 v) } = _
  rw [s2]
/-- what a turn makes of the heap: one tuple more, and the object at c -/
abbrev tupO (xs : List Value) : Obj := { cls := .type "tuple", data := .seq xs.toArray }
/-- what may change: c alone -/
def Kp (c : Addr) (h g : Heap) : Prop := ∀ b o, b ≠ c → h.get? b = some o → g.get? b = some o
section
variable {P : Program} {w : World} {A : Around} {E : Value → Shared → Prop} {s : Shared} {c p : Addr} {ix : List Nat} {items : Array Value}
theorem kp_upd {h : Heap} (f : Obj → Obj) : Kp c h (h.update c f) := fun b o hb e => (Heap.get?_update_other _ _ (Ne.symm hb)).trans e
theorem kp_push {h : Heap} {o : Obj} : Kp c h (h.push o) := fun b u _ e => Heap.get?_push_of_some _ e
theorem Kp.trans {h g k : Heap} (a : Kp c h g) (b : Kp c g k) : Kp c h k := fun x o hx e => b x o hx (a x o hx e)
theorem next_first {Q : Fin → Shared → Prop} (hc : s.heap.get? c = some (cObj p 0 .none ix)) (hp : s.heap.IsTuple p items) (hpc : p ≠ c) (hl : ix.length ≤ sizeLine)
    (q : ∀ g, g.get? c = some (cObj p 1 (.ref s.heap.objs.size) ix) → g.get? s.heap.objs.size = some (tupO (ix.map fun i => items.getD i .none)) → Kp c s.heap g → Q (.done (.ret (.ref s.heap.objs.size))) { s with heap := g }) :
    wpAny (model P w) A (Builtin.«itertools.combinations.__next__» ⟨[.ref c], []⟩) Q E s := by
  obtain ⟨hp2, g, dd, tk, os⟩ := s
  show wpAny _ _ (field (.ref c) 0 >>= _) _ _ _
  refine wpAny_bind (wpAny_field hc rfl (x := .ref p) (f0 ..) ?_)
  show wpAny _ _ (Builtin.Itertools.itNumbersFrom (.ref c) 3 >>= _) _ _ _
  refine wpAny_bind (wp_nums hc ?_)
  show wpAny _ _ (Builtin.Itertools.itIntField (.ref c) 1 >>= _) _ _ _
  refine wpAny_bind ?_
  show wpAny _ _ (field (.ref c) 1 >>= _) _ _ _
  refine wpAny_bind (wpAny_field hc rfl (x := .int 0 0) (f1 ..) ?_)
  refine wpAny_pure ?_
  show wpAny _ _ (setField (.ref c) 1 (rawInt 1) >>= _) _ _ _
  refine wpAny_bind (wpAny_setField hc rfl (Nat.lt_trans (by decide) (szF ..)) ?_)
  have hc1 := c_set1 (v := 1) hc
  obtain ⟨o, ho, hcl, n, hd⟩ := hp
  have ho1 := (Heap.get?_update_other (h := hp2) (a := c) (Obj.mapFields fun x => x.setIfInBounds 1 (rawInt 1)) hpc.symm).trans ho
  refine wpAny_bind ?_
  show wpAny _ _ (Builtin.Itertools.itPoolItems (.ref p) >>= _) _ _ _
  refine wpAny_bind ?_
  show wpAny _ _ (seqItems? (.ref p) >>= _) _ _ _
  refine wpAny_bind (wpAny_seqItems ho1 hd ?_)
  refine wpAny_pure ?_
  refine wpAny_newTuple ?_ (by rw [List.length_map]; exact hl)
  show wpAny _ _ (field (.ref c) 2 >>= _) _ _ _
  refine wpAny_bind (wpAny_field (Heap.get?_push_of_some _ hc1) rfl (x := .none) (f2 ..) ?_)
  refine wpAny_bind (wpAny_setField (Heap.get?_push_of_some _ hc1) rfl (szF ..) ?_)
  refine wpAny_bind (wpAny_letGo ?_)
  have sz : (hp2.update c (Obj.mapFields fun x => x.setIfInBounds 1 (rawInt 1))).objs.size = hp2.objs.size := Heap.size_after_update ..
  have hc2 := c_set2 (v := .ref (hp2.update c (Obj.mapFields fun x => x.setIfInBounds 1 (rawInt 1))).objs.size) (Heap.get?_push_of_some (tupO (ix.map fun i => items.getD i .none)) hc1)
  have cl : c < hp2.objs.size := Heap.lt_size hc
  refine wpAny_pure ?_
  show Q (.done (.ret (.ref (hp2.update c (Obj.mapFields fun x => x.setIfInBounds 1 (rawInt 1))).objs.size))) _
  rw [sz] at hc2 ⊢
  refine q _ hc2 ?_ (((kp_upd _).trans kp_push).trans (kp_upd _))
  refine (Heap.get?_update_other _ _ (Nat.ne_of_lt cl)).trans ?_
  have := Heap.get?_push_size (hp2.update c (Obj.mapFields fun x => x.setIfInBounds 1 (rawInt 1))) (o := tupO (ix.map fun i => items.getD i .none)) rfl
  rwa [sz] at this
end
end ECo

/-! itertools.combinations: the turns behind the first, the end, and what is told of the whole walk -/
namespace ECo
open PySem PySem.Spec
section
variable {P : Program} {w : World} {A : Around} {E : Value → Shared → Prop} {s : Shared} {c p : Addr} {ix : List Nat} {items : Array Value}
/-- the last place that may rise -/
def riseC (n : Nat) (ix : List Nat) : Option Nat := (List.range ix.length).reverse.find? fun i => ix.getD i 0 != i + n - ix.length
/-- the indices behind the present ones: the last place that may rise rises, those behind it follow on -/
def stepC (n : Nat) (ix : List Nat) : Option (List Nat) :=
  match riseC n ix with
  | none => none
  | some at_ => some (ix.take at_ ++ (List.range (ix.length - at_)).map fun k => ix.getD at_ 0 + 1 + k)
theorem ex3 (x y z : Value) (a : Array Value) (b : List Value) : (#[x, y, z] ++ a).extract 0 3 ++ b.toArray = #[x, y, z] ++ b.toArray := by
  apply Array.ext'
  simp
theorem size3 (x y z : Value) (a : Array Value) (b : List Value) : ((#[x, y, z] ++ a).extract 0 3 ++ b.toArray).size = 3 + b.length := by
  rw [ex3, Array.size_append, List.size_toArray]
  rfl
theorem next_more {Q : Fin → Shared → Prop} {last : Value} {nx : List Nat} (hc : s.heap.get? c = some (cObj p 1 last ix)) (hp : s.heap.IsTuple p items) (hpc : p ≠ c) (hs : stepC items.size ix = some nx) (hl : nx.length ≤ sizeLine)
    (q : ∀ g, g.get? c = some (cObj p 1 (.ref s.heap.objs.size) nx) → g.get? s.heap.objs.size = some (tupO (nx.map fun i => items.getD i .none)) → Kp c s.heap g → Q (.done (.ret (.ref s.heap.objs.size))) { s with heap := g }) :
    wpAny (model P w) A (Builtin.«itertools.combinations.__next__» ⟨[.ref c], []⟩) Q E s := by
  obtain ⟨hp2, g, dd, tk, os⟩ := s
  show wpAny _ _ (field (.ref c) 0 >>= _) _ _ _
  refine wpAny_bind (wpAny_field hc rfl (x := .ref p) (f0 ..) ?_)
  show wpAny _ _ (Builtin.Itertools.itNumbersFrom (.ref c) 3 >>= _) _ _ _
  refine wpAny_bind (wp_nums hc ?_)
  show wpAny _ _ (Builtin.Itertools.itIntField (.ref c) 1 >>= _) _ _ _
  refine wpAny_bind ?_
  show wpAny _ _ (field (.ref c) 1 >>= _) _ _ _
  refine wpAny_bind (wpAny_field hc rfl (x := .int 1 0) (f1 ..) ?_)
  refine wpAny_pure ?_
  show wpAny _ _ (Builtin.Itertools.itPoolItems (.ref p) >>= _) _ _ _
  obtain ⟨o, ho, hcl, n, hd⟩ := hp
  refine wpAny_bind ?_
  show wpAny _ _ (seqItems? (.ref p) >>= _) _ _ _
  refine wpAny_bind (wpAny_seqItems ho hd ?_)
  refine wpAny_pure ?_
  dsimp only
  split
  · rename_i nx' hN
    have hN : stepC items.size ix = some nx' := hN
    have hN : nx' = nx := by
      rw [hs] at hN
      exact (Option.some.inj hN).symm
    subst hN
    show wpAny _ _ (Builtin.Itertools.itSetNumbersFrom (.ref c) 3 nx' >>= _) _ _ _
    refine wpAny_bind ?_
    show wpAny _ _ (updateFields c _) _ _ _
    refine wpAny_updateFields (f := fun fs => fs.extract 0 3 ++ (nx'.map fun (n : Nat) => rawInt n).toArray) hc rfl ?_ (by
      show ((#[Value.ref p, .int 1 0, last] ++ (ix.map fun (n : Nat) => rawInt n).toArray).extract 0 3 ++ (nx'.map fun (n : Nat) => rawInt n).toArray).size ≤ _
      rw [size3, List.length_map]
      omega)
    have hc1 : (hp2.update c (Obj.mapFields fun fs => fs.extract 0 3 ++ (nx'.map fun (n : Nat) => rawInt n).toArray)).get? c = some (cObj p 1 last nx') := by
      rw [Heap.get?_update_self _ hc rfl]
      show some { (cObj p 1 last ix) with data := Data.fields ((#[Value.ref p, .int 1 0, last] ++ (ix.map fun (n : Nat) => rawInt n).toArray).extract 0 3 ++ (nx'.map fun (n : Nat) => rawInt n).toArray) } = _
      rw [ex3]
    have ho1 := (Heap.get?_update_other (h := hp2) (a := c) (Obj.mapFields fun fs => fs.extract 0 3 ++ (nx'.map fun (n : Nat) => rawInt n).toArray) hpc.symm).trans ho
    refine wpAny_bind ?_
    show wpAny _ _ (Builtin.Itertools.itPoolItems (.ref p) >>= _) _ _ _
    refine wpAny_bind ?_
    show wpAny _ _ (seqItems? (.ref p) >>= _) _ _ _
    refine wpAny_bind (wpAny_seqItems ho1 hd ?_)
    refine wpAny_pure ?_
    refine wpAny_newTuple ?_ (by rw [List.length_map]; exact hl)
    show wpAny _ _ (field (.ref c) 2 >>= _) _ _ _
    refine wpAny_bind (wpAny_field (Heap.get?_push_of_some _ hc1) rfl (x := last) (f2 ..) ?_)
    refine wpAny_bind (wpAny_setField (Heap.get?_push_of_some _ hc1) rfl (szF ..) ?_)
    refine wpAny_bind (wpAny_letGo ?_)
    generalize hF : (Obj.mapFields fun fs => fs.extract 0 3 ++ (nx'.map fun (n : Nat) => rawInt n).toArray) = F at *
    have sz : (hp2.update c F).objs.size = hp2.objs.size := Heap.size_after_update ..
    have hc2 := c_set2 (v := .ref (hp2.update c F).objs.size) (Heap.get?_push_of_some (tupO (nx'.map fun i => items.getD i .none)) hc1)
    have cl : c < hp2.objs.size := Heap.lt_size hc
    refine wpAny_pure ?_
    show Q (.done (.ret (.ref (hp2.update c F).objs.size))) _
    rw [sz] at hc2 ⊢
    refine q _ hc2 ?_ (((kp_upd _).trans kp_push).trans (kp_upd _))
    refine (Heap.get?_update_other _ _ (Nat.ne_of_lt cl)).trans ?_
    have := Heap.get?_push_size (hp2.update c F) (o := tupO (nx'.map fun i => items.getD i .none)) rfl
    rwa [sz] at this
  · rename_i hN
    have hN : stepC items.size ix = none := hN
    rw [hs] at hN
    exact nomatch hN
theorem wp_stop {α : Type} {Q : α → Shared → Prop} {s : Shared} (hh : A.handled = none) (q : ∀ e h', CpRep.StopE e h' → (∀ b o, s.heap.get? b = some o → h'.get? b = some o) → E e { s with heap := h' }) : wpAny (model P w) A (Builtin.Itertools.itStop : Sem α) Q E s := by
  show wpAny _ _ (newExc (.type "StopIteration") [] >>= _) _ _ _
  refine wpAny_bind ?_
  simp only [newExc, newTuple]
  refine wpAny_bind (wpAny_newObj_type ?_ (by size_fits))
  refine wpAny_bind (m := firstArgMember _ _) (wpAny_of_eq (a := Value.none) (by first | rfl | (simp only [firstArgMember]; rfl)) ?_)
  refine wpAny_newObj_type ?_ (by size_fits)
  simp only [raiseNew]
  refine wpAny_bind (wpAny_handled ?_)
  rw [hh]
  refine wpAny_bind (wpAny_pure (wpAny_throw ?_))
  exact q _ _ ⟨_, _, _, rfl, Heap.get?_push_size _ rfl, rfl, rfl, rfl⟩ fun b o e => Heap.get?_push_of_some _ (Heap.get?_push_of_some _ e)
theorem next_over {Q : Fin → Shared → Prop} {last : Value} (hh : A.handled = none) (hc : s.heap.get? c = some (cObj p 2 last ix))
    (q : ∀ e g, CpRep.StopE e g → Kp c s.heap g → E e { s with heap := g }) :
    wpAny (model P w) A (Builtin.«itertools.combinations.__next__» ⟨[.ref c], []⟩) Q E s := by
  obtain ⟨hp2, g, dd, tk, os⟩ := s
  show wpAny _ _ (field (.ref c) 0 >>= _) _ _ _
  refine wpAny_bind (wpAny_field hc rfl (x := .ref p) (f0 ..) ?_)
  show wpAny _ _ (Builtin.Itertools.itNumbersFrom (.ref c) 3 >>= _) _ _ _
  refine wpAny_bind (wp_nums hc ?_)
  show wpAny _ _ (Builtin.Itertools.itIntField (.ref c) 1 >>= _) _ _ _
  refine wpAny_bind ?_
  show wpAny _ _ (field (.ref c) 1 >>= _) _ _ _
  refine wpAny_bind (wpAny_field hc rfl (x := .int 2 0) (f1 ..) ?_)
  refine wpAny_pure ?_
  show wpAny _ _ (rule "itertools.combinations.ended" >>= fun _ => Builtin.Itertools.itStop) _ _ _
  refine wpAny_bind (wpAny_rule ?_)
  exact wp_stop (s := { heap := hp2, gens := g, drawn := dd, toks := tk, os := os }) hh fun e h' he k => q e h' he fun b o _ hb => k b o hb
theorem next_none {Q : Fin → Shared → Prop} {last : Value} (hh : A.handled = none) (hc : s.heap.get? c = some (cObj p 1 last ix)) (hp : s.heap.IsTuple p items) (hs : stepC items.size ix = none)
    (q : ∀ e g, CpRep.StopE e g → Kp c s.heap g → E e { s with heap := g }) :
    wpAny (model P w) A (Builtin.«itertools.combinations.__next__» ⟨[.ref c], []⟩) Q E s := by
  obtain ⟨hp2, g, dd, tk, os⟩ := s
  show wpAny _ _ (field (.ref c) 0 >>= _) _ _ _
  refine wpAny_bind (wpAny_field hc rfl (x := .ref p) (f0 ..) ?_)
  show wpAny _ _ (Builtin.Itertools.itNumbersFrom (.ref c) 3 >>= _) _ _ _
  refine wpAny_bind (wp_nums hc ?_)
  show wpAny _ _ (Builtin.Itertools.itIntField (.ref c) 1 >>= _) _ _ _
  refine wpAny_bind ?_
  show wpAny _ _ (field (.ref c) 1 >>= _) _ _ _
  refine wpAny_bind (wpAny_field hc rfl (x := .int 1 0) (f1 ..) ?_)
  refine wpAny_pure ?_
  show wpAny _ _ (Builtin.Itertools.itPoolItems (.ref p) >>= _) _ _ _
  obtain ⟨o, ho, hcl, n, hd⟩ := hp
  refine wpAny_bind ?_
  show wpAny _ _ (seqItems? (.ref p) >>= _) _ _ _
  refine wpAny_bind (wpAny_seqItems ho hd ?_)
  refine wpAny_pure ?_
  dsimp only
  split
  · rename_i nx' hN
    have hN : stepC items.size ix = some nx' := hN
    rw [hs] at hN
    exact nomatch hN
  · show wpAny _ _ (setField (.ref c) 1 (rawInt 2) >>= fun _ => Builtin.Itertools.itStop) _ _ _
    refine wpAny_bind (wpAny_setField hc rfl (Nat.lt_trans (by decide) (szF ..)) ?_)
    exact wp_stop (s := { heap := hp2.update c _, gens := g, drawn := dd, toks := tk, os := os }) hh fun e h' he k => q e h' he fun b o hb e => k b o ((kp_upd _) b o hb e)
end
end ECo

/-! the walk over itertools.combinations, and list of it -/
namespace ECo
open PySem PySem.Spec
open EZ (lstO)
/-- what comes behind ix, turn by turn -/
inductive Chain (n : Nat) : List Nat → List (List Nat) → Prop
  | last {ix : List Nat} (h : stepC n ix = none) : Chain n ix []
  | more {ix nx : List Nat} {rest : List (List Nat)} (h : stepC n ix = some nx) (hl : nx.length ≤ sizeLine) (t : Chain n nx rest) : Chain n ix (nx :: rest)
/-- a combinations object at c over the pool at p, which still has `rest` to give -/
inductive Cst (n : Nat) (h : Heap) (c p : Addr) : List (List Nat) → Prop
  | fresh {ix : List Nat} {rest : List (List Nat)} (e : h.get? c = some (cObj p 0 .none ix)) (hl : ix.length ≤ sizeLine) (t : Chain n ix rest) : Cst n h c p (ix :: rest)
  | begun {ix : List Nat} {rest : List (List Nat)} {last : Value} (e : h.get? c = some (cObj p 1 last ix)) (t : Chain n ix rest) : Cst n h c p rest
  | over {ix : List Nat} {last : Value} (e : h.get? c = some (cObj p 2 last ix)) : Cst n h c p []
theorem Cst.ty {n : Nat} {h : Heap} {c p : Addr} {L : List (List Nat)} (C : Cst n h c p L) : ∃ o, h.get? c = some o ∧ o.cls = .type "itertools.combinations" := by
  cases C with
  | fresh e _ _ => exact ⟨_, e, rfl⟩
  | begun e _ => exact ⟨_, e, rfl⟩
  | over e => exact ⟨_, e, rfl⟩
theorem Cst.keep {n : Nat} {h g : Heap} {c p : Addr} {L : List (List Nat)} (C : Cst n h c p L) (k : ∀ o, h.get? c = some o → g.get? c = some o) : Cst n g c p L := by
  cases C with
  | fresh e hl t => exact .fresh (k _ e) hl t
  | begun e t => exact .begun (k _ e) t
  | over e => exact .over (k _ e)
section
variable {P : Program} {w : World} {A : Around} {E : Value → Shared → Prop} {s : Shared} {c p : Addr} {ix : List Nat} {items : Array Value} {L : List (List Nat)}
theorem anyItem {Q : Option Value → Shared → Prop} (hp : s.heap.IsTuple p items) (hpc : p ≠ c) (C : Cst items.size s.heap c p (ix :: L))
    (q : ∀ g, Cst items.size g c p L → g.get? s.heap.objs.size = some (tupO (ix.map fun i => items.getD i .none)) → Kp c s.heap g → Q (some (.ref s.heap.objs.size)) { s with heap := g }) :
    wpAny (model P w) A (pyNext (.ref c)) Q E s := by
  obtain ⟨o, ho, hc⟩ := C.ty
  have ty : s.TypeIs (.ref c) "itertools.combinations" := ⟨o, ho, hc⟩
  unfold pyNext
  apply wpAny_bind
  apply wpAny_attempt
  refine wpAny_callSpecial?_slot (name := Str.ofString "__next__") ty slot_next (wpAny_call_entry slot_next ty entry_next ?_ (args_next _))
  cases C with
  | fresh e hl t => exact next_first e hp hpc hl fun g g1 g2 g3 => ⟨_, rfl, wpAny_pure (q g (.begun g1 t) g2 g3)⟩
  | begun e t =>
    cases t with
    | more h hl t => exact next_more e hp hpc h hl fun g g1 g2 g3 => ⟨_, rfl, wpAny_pure (q g (.begun g1 t) g2 g3)⟩
theorem anyEnd {Q : Option Value → Shared → Prop} (hh : A.handled = none) (hp : s.heap.IsTuple p items) (C : Cst items.size s.heap c p []) (q : ∀ g, Kp c s.heap g → Q none { s with heap := g }) :
    wpAny (model P w) A (pyNext (.ref c)) Q E s := by
  obtain ⟨o, ho, hc⟩ := C.ty
  have ty : s.TypeIs (.ref c) "itertools.combinations" := ⟨o, ho, hc⟩
  have fin : ∀ g e, Kp c s.heap g → CpRep.StopE e g → wpAny (model P w) A (isInstance e (.type "StopIteration")) (fun b t => wpAny (model P w) A (if b = true then pure none else throw e) Q E t) E { s with heap := g } := fun g e kp ⟨a, o, vs, e1, ho, hc, _⟩ => by
    subst e1
    refine wpAny_isInstance (T := "StopIteration") (b := true) ⟨o, ho, hc⟩ isSubtype_stop ?_
    rw [if_pos rfl]
    exact wpAny_pure (q g kp)
  unfold pyNext
  apply wpAny_bind
  apply wpAny_attempt
  refine wpAny_callSpecial?_slot (name := Str.ofString "__next__") ty slot_next (wpAny_call_entry slot_next ty entry_next ?_ (args_next _))
  cases C with
  | begun e t =>
    cases t with
    | last h =>
      refine next_none hh e hp h fun e g he kp => ?_
      apply wpAny_bind
      exact fin g e kp he
  | over e =>
    refine next_over hh e fun e g he kp => ?_
    apply wpAny_bind
    exact fin g e kp he
theorem iter_c {Q : Value → Shared → Prop} (C : Cst items.size s.heap c p L) (h : Q (.ref c) s) : wpAny (model P w) A (pyIter (.ref c)) Q E s := by
  obtain ⟨o, ho, hc⟩ := C.ty
  have hT : s.TypeIs (.ref c) "itertools.combinations" := ⟨o, ho, hc⟩
  refine wpAny_pyIter_slot hT slot_iter (wpAny_call_entry slot_iter hT entry_iter ?_ (args_iter _))
  show wpAny _ _ (ret (.ref c)) _ _ s
  exact wpAny_pure ⟨_, rfl, "itertools.combinations", _, hT, slot_next.lookup, h⟩
end
/-- the tuples that were made, in their order, behind lo -/
structure MadeC (items : Array Value) (L : List (List Nat)) (lo : Addr) (h : Heap) (as : List Addr) : Prop where
  rise : as.Pairwise (· < ·)
  above : ∀ a ∈ as, lo < a
  tup : ∀ (j : Nat) (a : Addr), as[j]? = some a → ∃ ix, L[j]? = some ix ∧ h.get? a = some (tupO (ix.map fun i => items.getD i .none))
section
variable {prog : Program} {w : World} {A : Around} {s : Shared} {R : Result → Shared → Prop} {c p S : Addr} {items : Array Value} {L : List (List Nat)}
theorem MadeC.there {lo : Addr} {h : Heap} {as : List Addr} (M : MadeC items L lo h as) {a : Addr} (ha : a ∈ as) : a < h.objs.size := by
  obtain ⟨j, hj⟩ := List.mem_iff_getElem?.mp ha
  obtain ⟨_, _, e⟩ := M.tup j a hj
  exact Heap.lt_size e
/-- the loop that puts what is given behind one another into the list at S -/
theorem combLoop (hh : A.handled = none) (hpc : p ≠ c) (lc : c < S) (lp : p < S) (hz : L.length ≤ sizeLine) (res : Value) {h0 : Heap}
    (hR : ∀ g tk acc n as, (∀ b o, b ∉ [S, c] → h0.get? b = some o → g.get? b = some o) → g.get? S = some (lstO acc n) → as.length = L.length → MadeC items L S g as → acc.toList = as.map Value.ref → R (.ok (.ret res)) { s with heap := g, toks := tk }) :
    ∀ (rest done : List (List Nat)) (h : Heap) (tk n : Nat) (acc : Array Value) (as : List Addr), done ++ rest = L → h.IsTuple p items → Cst items.size h c p rest → (∀ b o, b ∉ [S, c] → h0.get? b = some o → h.get? b = some o) →
      h.get? S = some (lstO acc n) → acc.toList = as.map Value.ref → as.length = done.length → MadeC items L S h as → codeAny (model prog w) A (.builtin "list.extend.loop" ⟨[.ref S, .ref c, res], []⟩) R { s with heap := h, toks := tk } := by
  have off : ∀ {b : Addr}, b ∉ [S, c] → b ≠ S ∧ b ≠ c := fun h => by simpa using h
  intro rest
  induction rest with
  | nil =>
    intro done h tk n acc as hd hp C kp hS hacc hl M
    refine codeAny_builtin PySem.F.entry_extend_loop ?_
    rw [Around.under_plainId PySem.F.plain_extend_loop _]
    show wpAny _ A.in1 (pyNext (.ref c) >>= _) _ _ _
    apply wpAny_bind
    refine anyEnd (s := { s with heap := h, toks := tk }) hh hp C fun g kg => ?_
    apply wpAny_pure
    rw [List.append_nil] at hd
    refine hR g tk acc n as (fun b o hb e => kg b o (off hb).2 (kp b o hb e)) (kg _ _ (Nat.ne_of_gt lc) hS) (by rw [hl, hd]) ⟨M.rise, M.above, fun j a hj => ?_⟩ hacc
    obtain ⟨ix, e1, e2⟩ := M.tup j a hj
    exact ⟨ix, e1, kg _ _ (Nat.ne_of_gt (Nat.lt_trans lc (M.above a (List.mem_of_getElem? hj)))) e2⟩
  | cons ix rest ih =>
    intro done h tk n acc as hd hp C kp hS hacc hl M
    have lS : S < h.objs.size := Heap.lt_size hS
    have asz : acc.size = done.length := by rw [← Array.length_toList, hacc, List.length_map, hl]
    have dl : done.length < sizeLine := by
      have : L.length = done.length + (rest.length + 1) := by rw [← hd, List.length_append, List.length_cons]
      omega
    refine codeAny_builtin PySem.F.entry_extend_loop ?_
    rw [Around.under_plainId PySem.F.plain_extend_loop _]
    show wpAny _ A.in1 (pyNext (.ref c) >>= _) _ _ _
    apply wpAny_bind
    refine anyItem (s := { s with heap := h, toks := tk }) hp hpc C fun g Cg Pg kg => ?_
    have hS2 := kg _ _ (Nat.ne_of_gt lc) hS
    have up : ∀ b o, b ≠ S → g.get? b = some o → (g.update S (Obj.mapSeq (·.push (Value.ref h.objs.size)))).get? b = some o := fun b o hb e => (Heap.get?_update_other _ _ (Ne.symm hb)).trans e
    show wpAny _ A.in1 (updateSeq S (·.push (Value.ref h.objs.size)) >>= _) _ _ _
    apply wpAny_bind
    refine wpAny_updateSeq hS2 rfl (wpAny_pure ⟨plainId_quiet PySem.F.plain_extend_loop _, ih (done ++ [ix]) _ tk _ (acc.push (Value.ref h.objs.size)) (as ++ [h.objs.size]) (by rw [List.append_assoc]; exact hd) ?_ (Cg.keep fun o => up _ o (Nat.ne_of_lt lc)) (fun b o hb e => ?_) (Heap.get?_update_self _ hS2 rfl) (by rw [Array.toList_push, hacc, List.map_append]; rfl) (by rw [List.length_append, List.length_append, hl]; rfl) ⟨?_, ?_, ?_⟩⟩) (by rw [asz]; omega) (by show (acc.push (Value.ref h.objs.size)).size ≤ sizeLine + 1; rw [Array.size_push, asz]; omega)
    · obtain ⟨o, ho, r⟩ := hp
      exact ⟨o, up _ _ (Nat.ne_of_lt lp) (kg _ _ hpc ho), r⟩
    · exact up _ _ (off hb).1 (kg _ _ (off hb).2 (kp b o hb e))
    · refine List.pairwise_append.mpr ⟨M.rise, List.pairwise_singleton _ _, fun a ha b hb => ?_⟩
      rw [List.mem_singleton.mp hb]
      exact M.there ha
    · intro a ha
      rcases List.mem_append.mp ha with ha | ha
      · exact M.above a ha
      · rw [List.mem_singleton.mp ha]
        exact lS
    · intro j a hj
      rcases Nat.lt_trichotomy j as.length with q | q | q
      · rw [List.getElem?_append_left q] at hj
        obtain ⟨ix', e1, e3⟩ := M.tup j a hj
        have la := M.above a (List.mem_of_getElem? hj)
        exact ⟨ix', e1, up _ _ (Nat.ne_of_gt la) (kg _ _ (Nat.ne_of_gt (Nat.lt_trans lc la)) e3)⟩
      · subst q
        have hb : h.objs.size = a := by simpa using hj
        subst hb
        refine ⟨ix, ?_, up _ _ (Nat.ne_of_gt lS) Pg⟩
        rw [← hd, hl]
        simp
      · have none : (as ++ [h.objs.size])[j]? = Option.none := List.getElem?_eq_none (by rw [List.length_append]; show as.length + 1 ≤ j; omega)
        rw [none] at hj
        cases hj
theorem extendC (hh : A.handled = none) (hpc : p ≠ c) (lc : c < S) (lp : p < S) (hz : L.length ≤ sizeLine) (res : Value) (c0 : Nat) (hp : s.heap.IsTuple p items) (C : Cst items.size s.heap c p L) (hS : s.heap.get? S = some (lstO #[] c0))
    (hR : ∀ g tk acc n as, (∀ b o, b ∉ [S, c] → s.heap.get? b = some o → g.get? b = some o) → g.get? S = some (lstO acc n) → as.length = L.length → MadeC items L S g as → acc.toList = as.map Value.ref → R (.ok (.ret res)) { s with heap := g, toks := tk }) :
    wpAny (model prog w) A.in1 (Builtin.List.listExtendWith (.ref S) (.ref c) res)
      (fun f t => match f with | .done f => R (.ok f) t | .again c' => c'.quiet = true ∧ codeAny (model prog w) A c' R t) (fun e t => R (.error e) t) s := by
  obtain ⟨oc, hoc, hcc⟩ := C.ty
  have ty : s.TypeIs (.ref c) "itertools.combinations" := ⟨_, hoc, hcc⟩
  have nSz : S ≠ c := Nat.ne_of_gt lc
  unfold Builtin.List.listExtendWith
  apply wpAny_bind
  refine wpAny_typeOf ty ?_
  have a1 : Builtin.List.listSameRef (.ref S) (.ref c) = false := by simp [Builtin.List.listSameRef, nSz]
  have a2 : (Value.type "itertools.combinations" == Value.type "list") = false := by decide
  have a3 : (Value.type "itertools.combinations" == Value.type "tuple") = false := by decide
  simp only [a1, a2, a3, Bool.or_false, Bool.false_eq_true, if_false]
  apply wpAny_bind
  refine iter_c C ?_
  apply wpAny_bind
  apply wpAny_holding
  unfold Builtin.List.listLengthHint
  apply wpAny_bind
  refine wpAny_specialOf ty no_len ?_
  show wpAny _ A.in1 (specialOf (Value.ref c) (Str.ofString "__length_hint__") >>= _) _ _ _
  apply wpAny_bind
  refine wpAny_specialOf ty no_hint ?_
  apply wpAny_pure
  show wpAny _ A.in1 (rule "list.extend.makes-room" >>= fun _ => Builtin.List.listTouch (.ref S) >>= fun _ => again (.builtin "list.extend.loop" ⟨[.ref S, .ref c, res], []⟩)) _ _ _
  apply wpAny_bind
  apply wpAny_rule
  apply wpAny_bind
  show wpAny _ A.in1 (updateSeq S (·.push .none) >>= fun _ => updateSeq S (·.pop)) _ _ _
  apply wpAny_bind
  refine wpAny_updateSeq hS rfl ?_
  have S2 := Heap.get?_update_self (Obj.mapSeq (·.push Value.none)) hS rfl
  refine wpAny_updateSeq (hz := by seq_fits) S2 rfl ?_
  have S3 := Heap.get?_update_self (Obj.mapSeq (·.pop)) S2 rfl
  have up : ∀ b o, b ≠ S → s.heap.get? b = some o → ((s.heap.update S (Obj.mapSeq (·.push Value.none))).update S (Obj.mapSeq (·.pop))).get? b = some o := fun b o n e => (Heap.get?_update_other _ _ (Ne.symm n)).trans ((Heap.get?_update_other _ _ (Ne.symm n)).trans e)
  apply wpAny_pure
  refine ⟨plainId_quiet F.plain_extend_loop _, ?_⟩
  refine combLoop hh hpc lc lp hz res (h0 := s.heap) hR L [] _ _ _ #[] [] rfl ?_ (C.keep fun o => up _ o (Nat.ne_of_lt lc)) (fun b o hb => up b o fun e => hb (by rw [e]; exact List.mem_cons_self)) S3 rfl rfl ⟨List.Pairwise.nil, fun a h => (nomatch h), fun j a h => by simp at h⟩
  obtain ⟨o, ho, r⟩ := hp
  exact ⟨o, up _ _ (Nat.ne_of_lt lp) ho, r⟩
theorem initC (hh : A.handled = none) (hpc : p ≠ c) (lc : c < S) (lp : p < S) (hz : L.length ≤ sizeLine) (hp : s.heap.IsTuple p items) (C : Cst items.size s.heap c p L) (hS : s.heap.get? S = some { cls := .type "list", data := .seq #[] })
    (hR : ∀ g tk acc n as, (∀ b o, b ∉ [S, c] → s.heap.get? b = some o → g.get? b = some o) → g.get? S = some (lstO acc n) → as.length = L.length → MadeC items L S g as → acc.toList = as.map Value.ref → R (.ok (.ret .none)) { s with heap := g, toks := tk }) :
    wpAny (model prog w) A.in1 (Builtin.«list.__init__» ⟨[.ref S, .ref c], []⟩)
      (fun f t => match f with | .done f => R (.ok f) t | .again c' => c'.quiet = true ∧ codeAny (model prog w) A c' R t) (fun e t => R (.error e) t) s := by
  show wpAny _ A.in1 (do let old ← Builtin.List.listItems (.ref S); Builtin.List.listUpdate (.ref S) (fun _ => #[]); letGo old.toList.reverse; Builtin.List.listExtendWith (.ref S) (.ref c) .none) _ _ s
  apply wpAny_bind
  unfold Builtin.List.listItems
  apply wpAny_bind
  refine wpAny_seqItems hS rfl (wpAny_pure ?_)
  show wpAny _ A.in1 (updateSeq S (fun _ => #[]) >>= fun _ => letGo (#[] : Array Value).toList.reverse >>= fun _ => Builtin.List.listExtendWith (.ref S) (.ref c) .none) _ _ s
  apply wpAny_bind
  refine wpAny_updateSeq hS rfl ?_
  have S2 := Heap.get?_update_self (Obj.mapSeq (fun _ => (#[] : Array Value))) hS rfl
  have up : ∀ b o, b ≠ S → s.heap.get? b = some o → (s.heap.update S (Obj.mapSeq (fun _ => (#[] : Array Value)))).get? b = some o := fun b o n e => (Heap.get?_update_other _ _ (Ne.symm n)).trans e
  apply wpAny_bind
  refine wpAny_letGo ?_
  obtain ⟨o, ho, r⟩ := hp
  refine extendC hh hpc lc lp hz .none _ ⟨o, up _ _ (Nat.ne_of_lt lp) ho, r⟩ (C.keep fun o => up _ o (Nat.ne_of_lt lc)) S2 fun g tk acc n as k1 k2 k3 k4 k5 => ?_
  exact hR g tk acc n as (fun b o hb e => k1 b o hb (up b o (fun q => hb (by rw [q]; exact List.mem_cons_self)) e)) k2 k3 k4 k5
theorem callListC {E : Value → Shared → Prop} {Q : Value → Shared → Prop} (hh : A.handled = none) (hpc : p ≠ c) (lc : c < s.heap.objs.size) (lp : p < s.heap.objs.size) (hz : L.length ≤ sizeLine) (hp : s.heap.IsTuple p items) (C : Cst items.size s.heap c p L)
    (q : ∀ g tk acc n as, (∀ b o, b ∉ [c] → s.heap.get? b = some o → g.get? b = some o) → g.get? s.heap.objs.size = some (lstO acc n) → as.length = L.length → MadeC items L s.heap.objs.size g as → acc.toList = as.map Value.ref → Q (.ref s.heap.objs.size) { s with heap := g, toks := tk }) :
    wpAny (model prog w) A (call (.type "list") [.ref c]) Q E s := by
  refine callType_codes (Q₁ := fun ob t => ob = .ref s.heap.objs.size ∧ t = { s with heap := s.heap.push { cls := .type "list", data := .seq #[] } }) F.called_list (F.typeCall_list_1 _) F.entry_list_init (code_list_new _ ⟨rfl, rfl⟩) fun ob t ht => ?_
  obtain ⟨rfl, rfl⟩ := ht
  have hS : (s.heap.push { cls := .type "list", data := .seq #[] }).get? s.heap.objs.size = some { cls := .type "list", data := .seq #[] } := Heap.get?_push_size _ rfl
  have up : ∀ b o, s.heap.get? b = some o → (s.heap.push { cls := .type "list", data := .seq #[] }).get? b = some o := fun b o e => Heap.get?_push_of_some _ e
  obtain ⟨o, ho, r⟩ := hp
  refine ⟨⟨_, hS, rfl⟩, F.args_list_init_2 _ _, initC (A := A.in1) hh hpc lc lp hz ⟨o, up _ _ ho, r⟩ (C.keep fun o => up _ o) hS fun g tk acc n as k1 k2 k3 k4 k5 => ⟨rfl, q g tk acc n as (fun b o hb e => k1 b o (fun h => ?_) (up b o e)) k2 k3 k4 k5⟩⟩
  rcases List.mem_cons.mp h with h | h
  · exact absurd (Heap.lt_size e) (by rw [h]; exact Nat.lt_irrefl _)
  · exact hb h
end
end ECo

/-! list(combinations(range(n), r)) -/
namespace ECo
open PySem PySem.Spec PyProof.Rows L2
open EZ (lstO)
/-- L is what combinations(range(n), r) gives -/
def Comb (n r : Nat) (L : List (List Nat)) : Prop := if r > n then L = [] else ∃ rest, L = List.range r :: rest ∧ Chain n (List.range r) rest
section
variable {prog : Program} {w : World} {A : Around} {E : Value → Shared → Prop} {s : Shared} {rg : Addr} {t u v z : Tok} {n r : Nat}
theorem call_comb {Q : Value → Shared → Prop} (hh : A.handled = none) (hr : IsRange s.heap rg 0 (n : Int) 1 t u v) (hn : n ≤ 1000) (hr1 : r < 1000)
    (q : ∀ (h' : Heap) (tk : Nat) (acc : Array Value) (g : Heap), (∀ b o, s.heap.get? b = some o → h'.get? b = some o) → ItemsOf (fun i v => ∃ t, v = .int (0 + i * 1) t) acc n → (∀ b o, h'.get? b = some o → g.get? b = some o) → g.objs.size = h'.objs.size + 2 → g.get? h'.objs.size = some (tupO acc.toList) → g.get? (h'.objs.size + 1) = some (cObj h'.objs.size (if r > n then 2 else 0) .none (List.range r)) → Q (.ref (h'.objs.size + 1)) { s with heap := g, toks := tk }) :
    wpAny (model prog w) A (call (.type "itertools.combinations") [.ref rg, .int (r : Int) z]) Q E s := by
  refine callType_newIn called (by decide +kernel) (typeCall2 _ _) (newCall2 _ _) (fun obj => F.args_object_init_3 obj _ _) entry_new (meets_new (.ref rg) r z hr1) ?_
  show wpAny _ A.in1.in1 (collect (.ref rg)) _ _ s
  refine collect_range (n := n) hh hr (small_one (by omega) (by omega) (by omega) (by omega)) (by rw [rangeSize_nat, Int.sub_zero, Int.toNat_natCast]) (by omega) fun h' tk acc hk hi => ?_
  have e1 : acc.toList.length = n := by rw [Array.length_toList]; exact hi.1
  refine ⟨by rw [e1, sizeLine_eq]; omega, ?_⟩
  show _ ∧ _
  have c1 := Heap.get?_push_size (h'.push { cls := .type "tuple", data := .seq acc.toList.toArray }) (o := cObj h'.objs.size (if r > acc.toList.length then 2 else 0) .none (List.range r)) rfl
  have sz : (h'.push { cls := .type "tuple", data := .seq acc.toList.toArray }).objs.size = h'.objs.size + 1 := Heap.size_push ..
  rw [sz] at c1
  rw [e1] at c1 ⊢
  exact ⟨⟨_, c1, rfl⟩, q h' tk acc _ hk hi (fun b o e => Heap.get?_push_of_some _ (Heap.get?_push_of_some _ e)) ((Heap.size_push ..).trans (congrArg (· + 1) sz)) (Heap.get?_push_of_some _ (Heap.get?_push_size _ rfl)) c1⟩
end
/-- H with a new list at p and new tuples at ts -/
def laidC (H : Hp) (p : Addr) (ts : List Addr) (L : List (List Nat)) : Hp := fun b => if b = p then some (.lst (ts.map V.ref)) else if b ∈ ts then some (.tup ((L.getD (ts.idxOf b) []).map fun (i : Nat) => V.int (i : Int))) else H b
def rListComb (a b : Int) (x : V) (H : Hp) (Q : VK) : Prop := ∃ (n r : Nat) (L : List (List Nat)), a = 0 ∧ b = n ∧ x = .int r ∧ n ≤ 1000 ∧ r < 1000 ∧ Comb n r L ∧ L.length ≤ sizeLine ∧ (∀ ix ∈ L, ix.length ≤ sizeLine ∧ ∀ i ∈ ix, i < n) ∧
  ∀ (p : Addr) (ts : List Addr), H p = none → (∀ t ∈ ts, H t = none) → p ∉ ts → ts.Nodup → ts.length = L.length → Q (.ref p) (laidC H p ts L)
def tListComb (te : L2.St → Hp → (Int → Int → Hp → Prop) → Prop) (tr : TE) : TE := fun σ H Q => te σ H fun a b H1 => tr σ H1 fun x H2 => rListComb a b x H2 Q
section
variable {X : Cx} {pins : List (Addr × Obj)} {σ : L2.St} {H : Hp} {s : Shared}
theorem laidC_inv {g : Heap} {tk c : Nat} {acc items : Array Value} {ts : List Addr} {S : Addr} {L : List (List Nat)} {n : Nat} (I : Inv X pins σ H s) (hi : ItemsOf (fun i v => ∃ t, v = .int (0 + i * 1) t) items n) (hS : s.heap.objs.size ≤ S) (hz : L.length ≤ sizeLine)
    (hL : ∀ ix ∈ L, ix.length ≤ sizeLine ∧ ∀ i ∈ ix, i < n)
    (kp : ∀ b o, s.heap.get? b = some o → g.get? b = some o) (gS : g.get? S = some (lstO acc c)) (M : MadeC items L S g ts) (hl : ts.length = L.length) (hacc : acc.toList = ts.map Value.ref) :
    H S = none ∧ (∀ t ∈ ts, H t = none) ∧ S ∉ ts ∧ ts.Nodup ∧ Inv X pins σ (laidC H S ts L) { s with heap := g, toks := tk } := by
  have nd : ts.Nodup := M.rise.imp fun h => Nat.ne_of_lt h
  have nS : S ∉ ts := fun q => Nat.lt_irrefl _ (M.above _ q)
  have big : ∀ t ∈ ts, s.heap.objs.size ≤ t := fun t ht => Nat.le_trans hS (Nat.le_of_lt (M.above t ht))
  have fS : H S = none := I.hok.fresh hS
  have ft : ∀ t ∈ ts, H t = none := fun t ht => I.hok.fresh (big t ht)
  have old : ∀ b, b ≠ S → b ∉ ts → laidC H S ts L b = H b := fun b n1 n2 => by
    unfold laidC
    rw [if_neg n1, if_neg n2]
  have kH : ∀ b u, H b = some u → laidC H S ts L b = some u := fun b u e => by
    rw [old b (fun q => by rw [q, fS] at e; cases e) fun q => by rw [ft b q] at e; cases e]
    exact e
  have less : ∀ b o, s.heap.get? b = some o → b ≠ S ∧ b ∉ ts := fun b o e => ⟨fun q => absurd (Heap.lt_size e) (by rw [q]; exact Nat.not_lt.mpr hS), fun q => absurd (Heap.lt_size e) (Nat.not_lt.mpr (big b q))⟩
  refine ⟨fS, ft, nS, nd, ?_⟩
  refine I.call' (ch := []) rfl ⟨fun b o q _ _ _ => kp b o q, fun b o q _ _ _ => ⟨o.slots, kp b o q⟩, fun b o q n _ => ?_, fun b o q _ => ⟨o, kp b o q⟩, fun b xs q => kH b _ q, fun b o u q => kH b _ q, fun b ps q => ⟨#[], by rw [kH b _ q]; simp⟩⟩ (fun b u q => ?_) I.bare fun b z => by simp at z
  · obtain ⟨n1, n2⟩ := less b o q
    rw [old b n1 n2]
    exact n
  · by_cases hb : b = S
    · subst hb
      unfold laidC at q
      rw [if_pos rfl] at q
      cases q
      refine ⟨by rw [List.length_map]; omega, acc.toList, c, by rw [hacc]; exact LiI.vals_refs ts, ?_⟩
      rw [Array.toArray_toList]
      exact gS
    · by_cases ht : b ∈ ts
      · unfold laidC at q
        rw [if_neg hb, if_pos ht] at q
        cases q
        have hix : ts[ts.idxOf b]? = some b := by
          rw [List.getElem?_eq_getElem (List.idxOf_lt_length_of_mem ht), List.getElem_idxOf]
        obtain ⟨ix, e1, e3⟩ := M.tup _ b hix
        rw [List.getD_eq_getElem?_getD, e1]
        obtain ⟨l1, l2⟩ := hL ix (List.mem_of_getElem? e1)
        refine ⟨by rw [List.length_map]; exact l1, ix.map fun i => items.getD i .none, vals_of_at (by rw [List.length_map]; exact (List.length_map ..).symm) fun j x u hx hu => ?_, _, e3, rfl, _, rfl⟩
        have hx : ((ix.map fun (i : Nat) => V.int (i : Int)))[j]? = some x := hx
        rw [List.getElem?_map] at hx hu
        cases hj : ix[j]? with
        | none => rw [hj] at hx; cases hx
        | some i =>
          rw [hj] at hx hu
          cases hx
          cases hu
          have hlt := l2 i (List.mem_of_getElem? hj)
          have his : i < items.size := by rw [hi.1]; exact hlt
          obtain ⟨t, et⟩ := hi.2 i _ (Array.getElem?_eq_getElem his)
          refine ⟨t, ?_⟩
          show items.getD i Value.none = _
          rw [Array.getD_eq_getD_getElem?, Array.getElem?_eq_getElem his, et]
          show Value.int (0 + (i : Int) * 1) t = _
          rw [Int.mul_one, Int.zero_add]
      · rw [old b hb ht] at q
        exact (I.hok b u q).stay (fun d v _ y => kp d v y) (fun d y => kH d _ y) fun d xs y => kH d _ y
/-- a name whose slot is known: nothing changes -/
def PV (X : Cx) (e : Expr) (i : Nat) : Prop := ∀ (pins : List (Addr × Obj)) (s : Shared) (σ : L2.St) (H : Hp) (v : V), Inv X pins σ H s → σ[i]? = some (some v) → ∀ {Q : Value → Shared → Prop}, (∀ u, RelV v u → Q u s) → wpAny (model X.prog X.w) X.A (eval e X.env) Q X.xe s
theorem pv_var {i : Nat} {x : Str} {pos : Pos} (hN : X.N[i]? = some x) (hv : Vis X.env.scope x) (hd : (x == ("__debug__" : Str)) = false := by decide) (hcd : (x == ("__classdict__" : Str)) = false := by decide) : PV X (.Name x pos) i := by
  intro pins s σ H v I e Q h
  obtain ⟨m, hn, hl⟩ := I.loc
  obtain ⟨u, r, l⟩ := hl i x v hN e hv
  have fin := h u r
  rcases l with ⟨hk, hm⟩ | ⟨hk, c, hc, hcell⟩
  · exact wpAny_Name (wpAny_loadName_local I.ok.kind hk hn hm fin) hd
  · rcases hk with hk | hk
    · exact wpAny_Name (wpAny_loadName_cell I.ok.kind hk hc hcell fin) hd
    · exact wpAny_Name (wpAny_loadName_free I.ok.kind hk hc hcell fin hcd) hd
/-- list(combinations(range(..), r)) -/
theorem pe_listComb {e e2 : Expr} {te : L2.St → Hp → (Int → Int → Hp → Prop) → Prop} {i : Nat} {p p2 pos pos2 : Pos} (hc : X.calm = true) (hg : Gl X "list") (hm : X.mg "list" = none) (hg2 : Gl X "combinations") (hm2 : X.mg "combinations" = some (.type "itertools.combinations")) (he : PRg X e te) (hr : PV X e2 i)
    (h1 : starEach [e, e2] X.env = (false, eval e X.env) :: starEach [e2] X.env := by rfl) (h2 : (backTo pos2 (starEach [e2] X.env)).any (·.1) = false := by rfl) (h4 : starEach [e2] X.env = (false, eval e2 X.env) :: starEach [] X.env := by rfl)
    (h3 : starEach [.Call (.Name "combinations" p2) [e, e2] [] pos2] X.env = (false, eval (.Call (.Name "combinations" p2) [e, e2] [] pos2) X.env) :: starEach [] X.env := by rfl) :
    PE X (.Call (.Name "list" p) [.Call (.Name "combinations" p2) [e, e2] [] pos2] [] pos) (tListComb te (tVar i)) := by
  refine ⟨fun pins s σ H Q I h => Call_ (ld_blt I hg hm (show bootBuiltins "list" = some (.type "list") by rfl) ?_)⟩
  refine PyProof.Rows.callWith_type1 (PyProof.Rows.args_cons (Call_ (ld_glob I hg2 hm2 ?_)) h3) h3 rfl
  refine PyProof.Rows.callWith_type1 (PyProof.Rows.args_cons (thn (he pins s σ H _ I h) fun x s1 ⟨rg, a, b, t, u, v, H1, ex, hrg, I1, q1⟩ => ?_) h1) h1 h2
  subst ex
  obtain ⟨x, hx, n, r, L, rfl, rfl, rfl, hn, hr1, hC, hz, hL, q⟩ := q1
  refine PyProof.Rows.args_cons (hr pins s1 σ H1 _ I1 hx fun y ry => ?_) h4
  obtain ⟨z, rfl⟩ := ry
  refine PyProof.Rows.args_nil ?_
  refine call_comb (I1.ok.hd hc) hrg hn hr1 fun h' tk acc g hk hi kg szg gp gc => PyProof.Rows.args_nil ?_
  have I2 : Inv X pins σ H1 { s1 with heap := h', toks := tk } := I1.kept hk
  have hsz : acc.toList.toArray.size = n := by rw [List.size_toArray, Array.length_toList]; exact hi.1
  have C : Cst acc.toList.toArray.size g (h'.objs.size + 1) h'.objs.size L := by
    rw [hsz]
    unfold Comb at hC
    by_cases hlt : r > n
    · rw [if_pos hlt] at hC gc
      rw [hC]
      exact .over gc
    · rw [if_neg hlt] at hC gc
      obtain ⟨rest, rfl, ch⟩ := hC
      exact .fresh gc (by rw [List.length_range, sizeLine_eq]; omega) ch
  refine callListC (s := { s1 with heap := g, toks := tk }) (items := acc.toList.toArray) (I1.ok.hd hc) (Nat.ne_of_lt (Nat.lt_succ_self _)) (by show _ < g.objs.size; omega) (by show _ < g.objs.size; omega) hz ⟨_, gp, rfl, _, rfl⟩ C fun g2 tk2 acc2 cc ts k1 k2 k3 k4 k5 => ?_
  have kp : ∀ b o, h'.get? b = some o → g2.get? b = some o := fun b o e => k1 b o (fun hb => by
    have lb := Heap.lt_size e
    have eb : b = h'.objs.size + 1 := List.mem_singleton.mp hb
    rw [eb] at lb
    exact absurd lb (Nat.not_lt.mpr (Nat.le_succ _))) (kg b o e)
  obtain ⟨f1, f2, f3, f4, J⟩ := laidC_inv (tk := tk2) (n := n) (items := acc.toList.toArray) I2 (by rw [Array.toArray_toList]; exact hi) (show h'.objs.size ≤ g.objs.size by omega) hz hL kp k2 k4 k3 k5
  exact ⟨.ref g.objs.size, _, J, rfl, q _ ts f1 f2 f3 f4 k3⟩
end
end ECo

/-! list(combinations(range(n), r)) in the layer; the rows themselves, as a function -/
namespace ECo
/-- what comes behind ix, at most so many -/
def chainL (n : Nat) : Nat → List Nat → List (List Nat)
  | 0, _ => []
  | f + 1, ix => match stepC n ix with
    | none => []
    | some nx => nx :: chainL n f nx
/-- the rows of combinations(range(n), r) -/
def combL (n r : Nat) : List (List Nat) := if r > n then [] else List.range r :: chainL n 300 (List.range r)
def chainB (n : Nat) : List Nat → List (List Nat) → Bool
  | ix, [] => stepC n ix == none
  | ix, nx :: rest => stepC n ix == some nx && nx.length ≤ 1000 && chainB n nx rest
theorem chain_of {n : Nat} : ∀ {L : List (List Nat)} {ix : List Nat}, chainB n ix L = true → Chain n ix L
  | [], ix, h => .last (by simpa [chainB] using h)
  | nx :: rest, ix, h => by
    unfold chainB at h
    rw [Bool.and_eq_true, Bool.and_eq_true] at h
    obtain ⟨⟨h1, h2⟩, h3⟩ := h
    refine .more (by simpa using h1) ?_ (chain_of h3)
    have : nx.length ≤ 1000 := by simpa using h2
    rw [PySem.sizeLine_eq]
    omega
def combB (n r : Nat) : Bool := (if r > n then true else chainB n (List.range r) (chainL n 300 (List.range r))) && (combL n r).length ≤ 1000 && (combL n r).all fun ix => ix.length ≤ 1000 && ix.all fun i => i < n
theorem comb_all : (List.range 9).all (fun n => (List.range 10).all fun r => combB n r) = true := by decide +kernel
theorem comb_ok {n r : Nat} (hn : n ≤ 8) (hr : r ≤ 9) : Comb n r (combL n r) ∧ (combL n r).length ≤ 1000 ∧ ∀ ix ∈ combL n r, ix.length ≤ 1000 ∧ ∀ i ∈ ix, i < n := by
  have h := List.all_eq_true.mp (List.all_eq_true.mp comb_all n (List.mem_range.mpr (by omega))) r (List.mem_range.mpr (by omega))
  unfold combB at h
  rw [Bool.and_eq_true, Bool.and_eq_true] at h
  obtain ⟨⟨h1, h2⟩, h3⟩ := h
  refine ⟨?_, by simpa using h2, fun ix hx => ?_⟩
  · unfold Comb combL
    by_cases hlt : r > n
    · rw [if_pos hlt, if_pos hlt]
    · rw [if_neg hlt, if_neg hlt]
      rw [if_neg hlt] at h1
      exact ⟨_, rfl, chain_of h1⟩
  · have h4 := List.all_eq_true.mp h3 ix hx
    rw [Bool.and_eq_true] at h4
    exact ⟨by simpa using h4.1, fun i hi => by simpa using List.all_eq_true.mp h4.2 i hi⟩
end ECo
namespace EL
open PySem PySem.Spec PyProof.Rows L2 ECo
variable [TabC]
variable {K : PySem.W.Frag}
/-- a row of whole numbers as a tuple -/
def rowD (ix : List Nat) : D := .tuple (ix.map fun (i : Nat) => .int (i : Int))
theorem dpa_nats {H : Hp} : ∀ (ix : List Nat), DpAll K H (ix.map fun (i : Nat) => V.int (i : Int)) (ix.map fun (i : Nat) => PyData.int (i : Int))
  | [] => .nil
  | i :: ix => .cons (.int _) (dpa_nats ix)
theorem dpa_of' : ∀ {vs : List V} {ds : List D} {H : Hp}, vs.length = ds.length → (∀ (j : Nat) (v : V) (d : D), vs[j]? = some v → ds[j]? = some d → Dp K H v d) → DpAll K H vs ds
  | [], [], _, _, _ => .nil
  | [], _ :: _, _, h, _ => by cases h
  | _ :: _, [], _, h, _ => by cases h
  | v :: vs, d :: ds, _, h, f => .cons (f 0 v d rfl rfl) (dpa_of' (Nat.succ.inj h) fun j v d h1 h2 => f (j + 1) v d h1 h2)
/-- list(combinations(range(n), r)): a new list of tuples -/
theorem ev_listComb {ρ : List Sl} {te : TE} {j n r : Nat} {L : List (List Nat)} (h : EvQ K te ρ (.int (n : Int))) (hr : ρ[j]? = some (Sl.dat (.int (r : Int)))) (hn : n ≤ 1000) (hr1 : r < 1000) (hC : Comb n r L) (hz : L.length ≤ sizeLine) (hL : ∀ ix ∈ L, ix.length ≤ sizeLine ∧ ∀ i ∈ ix, i < n) :
    EvF K (tListComb (tRg1 te) (tVar j)) ρ (L.map rowD) := fun B B0 σ H H0 rp Q q => h B B0 σ H H0 rp _ fun v H1 H01 w1 k1 => by
  refine ⟨(n : Int), k1.int, ?_⟩
  obtain ⟨x, e1, e2⟩ := (rp.step w1).dat j _ hr
  have ex : x = .int (r : Int) := (Dq.int (H := H1) (H0 := H01) (.inl e2))
  subst ex
  refine ⟨_, e1, n, r, L, rfl, rfl, rfl, hn, hr1, hC, hz, hL, fun p ts np nt npt nd hl => ?_⟩
  let H' := laidC H1 p ts L
  let H0' : Hp := fun b => if b ∈ ts then H' b else H01 b
  have eH : ∀ b, b ≠ p → b ∉ ts → H' b = H1 b := fun b n1 n2 => by
    show laidC H1 p ts L b = _
    unfold laidC
    rw [if_neg n1, if_neg n2]
  have e0 : ∀ b, b ∉ ts → H0' b = H01 b := fun b n => if_neg n
  have e1 : ∀ b, b ∈ ts → H0' b = H' b := fun b n => if_pos n
  have s01 : Same H01 H0' := fun b u e => by
    rw [e0 b fun m => by rw [sub_none w1.sub (nt b m)] at e; cases e]
    exact e
  have w2 : Wd H1 H01 H' H0' := by
    have sHH : Same H1 H' := fun b u e => by
      rw [eH b (fun m => by rw [m, np] at e; cases e) fun m => by rw [nt b m] at e; cases e]
      exact e
    refine ⟨.of sHH, s01, fun b u e => ?_, fun b o e => ?_, fun t => t.ext sHH s01 fun b ps hb h0 => by rw [e0 b fun m => by rw [nt b m] at hb; cases hb]; exact h0⟩
    · by_cases m : b ∈ ts
      · rw [e1 b m] at e
        exact e
      · rw [e0 b m] at e
        rw [eH b (fun q => by rw [q, sub_none w1.sub np] at e; cases e) m]
        exact w1.sub b u e
    · by_cases m : b ∈ ts
      · exact .inr (nt b m)
      · rw [e0 b m] at e
        exact .inl e
  have hp : H' p = some (.lst (ts.map V.ref)) := if_pos rfl
  have z0 : H0' p = none := by
    rw [e0 p npt]
    exact sub_none w1.sub np
  refine q p (ts.map V.ref) H' H0' (w1.trans w2) (w1.e.free np) hp z0 (dpa_of' ?_ fun j v d hv hd => ?_)
  · rw [List.length_map, List.length_map]
    exact hl
  · rw [List.getElem?_map] at hv hd
    cases ht : ts[j]? with
    | none => rw [ht] at hv; cases hv
    | some t =>
      cases hx : L[j]? with
      | none => rw [hx] at hd; cases hd
      | some ix =>
        rw [ht] at hv
        rw [hx] at hd
        cases hv
        cases hd
        have mt : t ∈ ts := List.mem_of_getElem? ht
        have hix : ts.idxOf t = j := by
          obtain ⟨hlt, e⟩ := List.getElem?_eq_some_iff.mp ht
          have hl2 : ts.idxOf t < ts.length := List.idxOf_lt_length_of_mem mt
          exact (List.getElem_inj (h₀ := hl2) (h₁ := hlt) nd).mp ((List.getElem_idxOf hl2).trans e.symm)
        have et : H0' t = some (.tup (ix.map fun (i : Nat) => V.int (i : Int))) := by
          rw [e1 t mt]
          show laidC H1 p ts L t = _
          unfold laidC
          rw [if_neg (show ¬ t = p from fun e => by rw [e] at mt; exact npt mt), if_pos mt, hix, List.getD_eq_getElem?_getD, hx]
          rfl
        exact .tup (.of et) (dpa_nats ix)
end EL

/-! sorted of tuples of whole numbers of any lengths, of which the first is the empty one -/
namespace ERw
open PySem PySem.Spec PySem.Calls PyProof.Rows SrtO PySem.SeqAt PySem.W
def ltR (xs ys : List Int) : Bool := decide (xs < ys)
def leR (xs ys : List Int) : Bool := !ltR ys xs
theorem ltR_no {xs ys : List Int} : ltR ys xs = false ↔ xs ≤ ys := by
  unfold ltR
  rw [decide_eq_false_iff_not]
  exact List.not_lt
theorem leR_iff {xs ys : List Int} : leR xs ys = true ↔ xs ≤ ys := by
  unfold leR
  rw [Bool.not_eq_true']
  exact ltR_no
def sortR (rs : List (List Int)) : List (List Int) := rs.mergeSort leR
theorem leR_trans (a b c : List Int) (h1 : leR a b = true) (h2 : leR b c = true) : leR a c = true := by
  rw [leR_iff] at h1 h2 ⊢
  exact List.le_trans h1 h2
theorem leR_total (a b : List Int) : (leR a b || leR b a) = true := by
  rw [Bool.or_eq_true, leR_iff, leR_iff]
  exact List.le_total a b
theorem sortR_perm (rs : List (List Int)) : (sortR rs).Perm rs := List.mergeSort_perm rs leR
theorem sortR_sorted (rs : List (List Int)) : (sortR rs).Pairwise (fun p q => leR p q = true) := List.pairwise_mergeSort leR_trans leR_total rs
theorem sortR_uniq {ps qs : List (List Int)} (hp : ps.Perm qs) (h1 : ps.Pairwise (fun p q => leR p q = true)) (h2 : qs.Pairwise (fun p q => leR p q = true)) : ps = qs :=
  List.Perm.eq_of_pairwise (le := fun p q => leR p q = true) (fun a b _ _ h h' => by
    rw [leR_iff] at h h'
    exact List.le_antisymm h h') h1 h2 hp
theorem swoR {α : Type} (k : α → List Int) : Swo fun v u => ltR (k v) (k u) := by
  refine ⟨fun x y h => ?_, fun x y z h1 h2 => ?_⟩
  · rw [ltR_no]
    unfold ltR at h
    exact List.le_of_lt (of_decide_eq_true h)
  · rw [ltR_no] at h1 h2 ⊢
    exact List.le_trans h1 h2
/-- a tuple of whole numbers -/
def IsRow (h : Heap) (v : Value) (xs : List Int) : Prop := ∃ a o us n, v = .ref a ∧ h.get? a = some o ∧ o.cls = .type "tuple" ∧ o.data = .seq us n ∧ IntsAre us.toList xs
theorem reads_ints {h : Heap} : ∀ {us : List Value} {xs : List Int}, IntsAre us xs → ∃ as, ReadsAll h us (xs.map .int) as
  | _, _, .nil => ⟨_, .nil⟩
  | _, _, .cons n t r => by
    obtain ⟨as, e⟩ := reads_ints r
    exact ⟨_, .cons (.int n t) e⟩
section
variable {prog : Program} {w : World} {A : Around} {E : Value → Shared → Prop} {s : Shared} {Q : Bool → Shared → Prop}
/-- a < b as the sort asks it, of tuples of whole numbers -/
theorem oneLt_row {v u : Value} {xs ys : List Int} (hv : IsRow s.heap v xs) (hu : IsRow s.heap u ys) (hr : A.units + 1 < cLine) (q : Q (ltR xs ys) s) : wpAny (model prog w) A (oneLt' true v u) Q E s := by
  obtain ⟨l, o, vs, n, rfl, h1, h2, h3, h4⟩ := hv
  obtain ⟨l', o', vs', n', rfl, k1, k2, k3, k4⟩ := hu
  obtain ⟨as, h4⟩ := reads_ints (h := s.heap) h4
  obtain ⟨bs, k4⟩ := reads_ints (h := s.heap) k4
  have hal := PySem.W.alike_ints xs ys
  have n1 : vs.size = (xs.map PyData.int).length := by simpa using ReadsAll.length _ _ _ h4
  have n2 : vs'.size = (ys.map PyData.int).length := by simpa using ReadsAll.length _ _ _ k4
  have q1 : Q (PySem.W.rowLt (xs.map .int) (ys.map .int)) s := by
    rw [PySem.W.dataLt_ints]
    exact q
  unfold PySem.W.rowLt at q1
  rw [← PySem.W.firstLt_toks _ _ hal, ← n1, ← n2] at q1
  have dp : PyData.depthAll (xs.map PyData.int) = 0 := PySem.W.depth_ints xs
  have room : A.in1.units + min (PyData.depthAll (xs.map PyData.int)) (PyData.depthAll (ys.map PyData.int)) < cLine := by
    rw [dp, Nat.zero_min]
    exact hr
  obtain ⟨cls, dd, data, sl⟩ := o
  obtain ⟨cls2, dd2, data2, sl2⟩ := o'
  simp only at h2 h3 k2 k3
  subst h2 h3 k2 k3
  rw [oneLt'_eq]
  simp only [if_true]
  refine wpAny_bind (wpAny_cRoomFor (by omega) ?_)
  refine wpAny_bind (wpAny_callSpecialIfBound?_slot (T := "tuple") ⟨_, h1, rfl⟩ F.slot_tuple_lt (call_meets F.slot_tuple_lt ⟨_, h1, rfl⟩ F.entry_tuple_lt (F.args_tuple_lt_2 _ _) (tuple_ltAt l l' vs vs' n n' dd dd2 sl sl2 (pairEq (xs.map .int) (ys.map .int)) (fun j => PySem.W.dataLt ((xs.map PyData.int).getD j .none) ((ys.map PyData.int).getD j .none))) ⟨h1, k1, fun j j1 j2 => ?_, fun j j1 j2 hj => ?_, ?_⟩))
  · have := PySem.W.eqAt_alikeAll _ _ A.in1 s vs.toList vs'.toList _ _ h4 k4 hal room j (by simpa using j1) (by simpa using j2)
    simpa using this
  · have := PySem.W.rcLt_alikeAll _ _ A.in1 s vs.toList vs'.toList _ _ h4 k4 hal room j (by simpa using j1) (by simpa using j2) hj
    simpa using this
  · exact wpAny_truthy_bool q1
end
section
variable {M : Model} {A : Around} {E : Value → Shared → Prop} {s : Shared}
theorem first_row {v : Value} {xs : List Int} {Q : Option Value → Shared → Prop} (h : IsRow s.heap v xs) (q : ∀ f, (xs = [] → f = none) → Q f s) : wpAny M A (firstOfTuple' v) Q E s := by
  obtain ⟨a, o, us, n, rfl, ho, hc, hd, hi⟩ := h
  rw [kas_first_eq]
  refine wpAny_bind (Looks.here (show Looks M s.heap (typeOf (.ref a)) o.cls from (Looks.ld ho).andThen .now) ?_)
  rw [hc, if_neg (by first | decide | simp)]
  refine wpAny_bind (listItems_at ho hd (wpAny_pure ?_))
  refine q _ fun e => ?_
  subst e
  have e0 : us.toList = [] := by cases hi' : us.toList with
    | nil => rfl
    | cons x l => rw [hi'] at hi; cases hi
  have : us.size = 0 := by rw [← Array.length_toList, e0]; rfl
  exact Array.getElem?_eq_none (by omega)
theorem firsts_row : ∀ {vs : List Value} {k : Value → List Int} {Q : List (Option Value) → Shared → Prop}, (∀ v ∈ vs, IsRow s.heap v (k v)) → (∀ fs, fs.length = vs.length → (∀ v, vs.head? = some v → k v = [] → fs.head? = some none) → Q fs s) → wpAny M A (vs.mapM firstOfTuple') Q E s
  | [], _, _, _, q => by rw [List.mapM_nil]; exact wpAny_pure (q [] rfl fun v e => nomatch e)
  | v :: vs, k, Q, h, q => by
    rw [List.mapM_cons]
    refine wpAny_bind (first_row (h v List.mem_cons_self) fun f hf => ?_)
    refine wpAny_bind (firsts_row (fun u hu => h u (List.mem_cons_of_mem _ hu)) fun fs hl _ => wpAny_pure (q _ (by rw [List.length_cons, List.length_cons, hl]) fun u eu ku => ?_))
    cases eu
    rw [hf ku]
    rfl
/-- the first row is the empty tuple: the sort compares by the type's own < -/
theorem kind_row {v : Value} {vs : List Value} {k : Value → List Int} {Q : SortKind → Shared → Prop} (h : ∀ u ∈ v :: vs, IsRow s.heap u (k u)) (h0 : k v = []) (q : Q oneType' s) : wpAny M A (keyKind' (v :: vs).toArray) Q E s := by
  rw [keyKind'_eq, List.mapM_toArray, map_eq_pure_bind]
  refine wpAny_bind (wpAny_bind (firsts_row h fun fs hl hh => wpAny_pure ?_))
  obtain ⟨fs, rfl⟩ : ∃ r, fs = none :: r := by
    have := hh v rfl h0
    cases fs with
    | nil => cases this
    | cons f r => cases this; exact ⟨r, rfl⟩
  rw [if_neg (by simp), if_neg (by simp)]
  rw [oneTypeOnly'_eq, List.mapM_toArray, map_eq_pure_bind]
  refine wpAny_bind (wpAny_bind (wpAny_bind (kas_mapM (r := Value.type "tuple") _ (fun u hu Q' hq => ?_) (wpAny_pure ?_))))
  · obtain ⟨a, o, us, n, rfl, ho, hc, hd, hi⟩ := h u hu
    refine Looks.here (show Looks M s.heap (typeOf (.ref a)) o.cls from (Looks.ld ho).andThen .now) ?_
    rw [hc]
    exact hq
  · have hall : ((List.map (fun _ => Value.type "tuple") (v :: vs)).toArray.all fun x => x == Value.type "tuple") = true := by
      simp only [List.all_toArray, List.all_map, List.all_eq_true]
      intro _ _
      show (Value.type "tuple" == Value.type "tuple") = true
      decide
    have h0 : (List.map (fun _ => Value.type "tuple") (v :: vs)).toArray[0]? = some (Value.type "tuple") := by simp
    rw [h0]
    simp only [hall, if_true]
    exact wpAny_pure (wpAny_pure q)
end
section
variable {prog : Program} {w : World} {A : Around} {E : Value → Shared → Prop} {s : Shared}
theorem IsRow.keeps {h h' : Heap} {v : Value} {xs : List Int} (H : IsRow h v xs) (k : ∀ b o, h.get? b = some o → o.cls = .type "tuple" → h'.get? b = some o) : IsRow h' v xs := by
  obtain ⟨a, o, us, n, rfl, ho, hc, hd, hi⟩ := H
  exact ⟨a, o, us, n, rfl, k a o ho hc, hc, hd, hi⟩
theorem rows_sortableO {a : Addr} {v : Value} {vs : List Value} {k : Value → List Int} (hp : ∀ u ∈ v :: vs, IsRow s.heap u (k u)) (h0 : k v = []) (hr : A.units + 1 < cLine) (ha : ∀ o, s.heap.get? a = some o → o.cls ≠ .type "tuple") : SortableO prog w A s a (v :: vs) fun v u => ltR (k v) (k u) := by
  intro h' keep
  have hp' : ∀ u ∈ v :: vs, IsRow h' u (k u) := fun u hm => (hp u hm).keeps fun b o e c => keep b o (fun z => by subst z; exact ha o e c) e
  refine ⟨oneType', fun Q E hq => kind_row (s := { s with heap := h' }) hp' h0 hq, ?_⟩
  intro p q hm hm'
  show wpAny (model prog w) A (keyLt' oneType' p.1 q.1) (fun r s' => s' = { s with heap := h' } ∧ r = ltR (k p.1) (k q.1)) (fun _ _ => False) { s with heap := h' }
  rw [keyLt'_oneType]
  exact oneLt_row (s := { s with heap := h' }) (hp' _ hm) (hp' _ hm') hr ⟨rfl, rfl⟩
/-- sorted(l) of rows, the first of which is the empty one -/
theorem sorted_rowsO {l : Addr} {vs : List Value} {k : Value → List Int} {Q : Value → Shared → Prop} (hl : s.heap.IsList l vs.toArray) (hz : vs.length ≤ sizeLine) (hp : ∀ v ∈ vs, IsRow s.heap v (k v)) (h0 : ∀ v, vs.head? = some v → k v = []) (hr : A.in1.in1.units + 1 < cLine)
    (h : ∀ (h' : Heap) (d : Addr) (out : List Value), Srtd (fun v u => ltR (k v) (k u)) out → Stb (fun v u => ltR (k v) (k u)) out vs → (∀ b o, s.heap.get? b = some o → h'.get? b = some o) → s.heap.objs.size ≤ d → (∃ n, h'.get? d = some (seqObj "list" out.toArray n)) → Q (.ref d) { s with heap := h' }) :
    wpAny (model prog w) A (call (.builtin "sorted") [.ref l]) Q E s := by
  refine sorted_ord (swoR k) hl hz (fun h2 h₁ a ha kk => ?_) fun out hs hb => ?_
  · obtain ⟨v, vs, rfl⟩ : ∃ v r, vs = v :: r := by
      cases vs with
      | nil => simp at h2
      | cons v r => exact ⟨v, r, rfl⟩
    refine rows_sortableO (s := { s with heap := h₁ }) (fun u hm => (hp u hm).keeps fun b o e _ => (kk b o e).2) (h0 v rfl) hr fun o e => ?_
    have e' : some o = some (seqObj "list" (v :: vs).toArray 0) := e.symm.trans ha
    cases e'
    intro c
    exact absurd (Value.type.inj c) (by decide)
  · exact h _ _ out hs hb (fun b o e => sortedAll_old e) (Nat.le_succ _) (sortedAll_at s.heap vs out.toArray)
end
end ERw
namespace EL
open PySem PySem.Spec PyProof.Rows L2 ERw
variable [TabC]
variable {K : PySem.W.Frag}
def encRow (xs : List Int) : D := .tuple (xs.map .int)
open Classical in
noncomputable def keyR (K : PySem.W.Frag) (H0 : Hp) (x : V) : List Int := if h : ∃ p, Dp K H0 x (encRow p) then h.choose else []
theorem keyR_ok {H0 : Hp} {x : V} {p : List Int} (h : Dp K H0 x (encRow p)) : Dp K H0 x (encRow (keyR K H0 x)) := by
  unfold keyR
  rw [dif_pos ⟨p, h⟩]
  exact (⟨p, h⟩ : ∃ p, Dp K H0 x (encRow p)).choose_spec
theorem dp_row {H : Hp} {x : V} {p : List Int} (h : Dp K H x (encRow p)) : ∃ t, x = .ref t ∧ SqT K H t (p.map V.int) := by
  cases h with
  | tup s a =>
    rw [dpa_ints a] at s
    exact ⟨_, rfl, s⟩
theorem ints_are : ∀ {xs : List Int} {us : List Value}, Vals (xs.map V.int) us → IntsAre us xs
  | [], _, h => by cases h; exact .nil
  | x :: xs, _, h => by
    cases h with
    | cons a b =>
      obtain ⟨t, rfl⟩ := a
      exact .cons x t (ints_are b)
theorem dpa_keysR {H0 : Hp} : ∀ {ys : List V}, (∀ y ∈ ys, Dp K H0 y (encRow (keyR K H0 y))) → DpAll K H0 ys ((ys.map (keyR K H0)).map encRow)
  | [], _ => .nil
  | y :: ys, h => .cons (h y List.mem_cons_self) (dpa_keysR fun z hz => h z (List.mem_cons_of_mem _ hz))
def rSortR (K : PySem.W.Frag) : List V → Hp → VK → Prop := fun vs H Q => ∃ (H0 : Hp) (a : Addr) (xs : List V) (ps : List (List Int)), vs = [V.ref a] ∧ Same H0 H ∧ SqL K H a xs ∧ DpAll K H0 xs (([] :: ps).map encRow) ∧
  ∀ ys p, DpAll K H0 ys ((sortR ([] :: ps)).map encRow) → H p = none → Q (.ref p) (upd H p (.lst ys))
theorem cr_sortR {X : Cx} (hu : X.A.in1.in1.units + 1 < cLine) : CallR X (.builtin "sorted") (rSortR X.K) := by
  intro pins s σ H vs us Q I r h
  obtain ⟨H0, a, xs, ps, rfl, sub, hs, hd, q⟩ := h
  have hrow : ∀ x ∈ xs, Dp X.K H0 x (encRow (keyR X.K H0 x)) := fun x hx => by
    obtain ⟨d, h1, h2⟩ := dpa_mem hd x hx
    obtain ⟨p, _, rfl⟩ := List.mem_map.mp h1
    exact keyR_ok h2
  have hkeys : xs.map (keyR X.K H0) = [] :: ps := by
    have go : ∀ {vs : List V} {qs : List (List Int)}, DpAll X.K H0 vs (qs.map encRow) → vs.map (keyR X.K H0) = qs := by
      intro vs
      induction vs with
      | nil =>
        intro qs h
        cases qs with
        | nil => rfl
        | cons _ _ => cases h
      | cons v vs ih =>
        intro qs h
        cases qs with
        | nil => cases h
        | cons p qs =>
          cases h with
          | cons a b =>
            rw [List.map_cons, ih b]
            have h1 := keyR_ok a
            obtain ⟨t, e1, s1⟩ := dp_row a
            obtain ⟨t', e2, s2⟩ := dp_row h1
            rw [e1] at e2; cases e2
            have z := I.tuple_inj (sqT_mono sub s1) (sqT_mono sub s2)
            have z1 : p = keyR X.K H0 v := List.map_inj_right (fun x y e => V.int.inj e) |>.mp z
            rw [← z1]
    exact go hd
  obtain ⟨its, rv, hl, hz⟩ := I.list hs
  obtain ⟨u, rfl, ru⟩ := vals1 r
  obtain rfl : u = Value.ref a := ru
  obtain ⟨e1, e2⟩ := refs_back rv fun x m => by
    obtain ⟨t, e, _⟩ := dp_row (hrow x m)
    exact ⟨t, e⟩
  refine sorted_rowsO (k := fun u => keyR X.K H0 (backV u)) hl.isList (by rw [← rv.length]; exact hz) (fun v hv => ?_) (fun v hv => ?_) hu fun h' d out h1 h2 kp hd' hn => ?_
  · obtain ⟨t, rfl⟩ := e2 v hv
    have hm : V.ref t ∈ xs := by rw [e1]; exact List.mem_map.mpr ⟨_, hv, rfl⟩
    obtain ⟨t', e, ht⟩ := dp_row (hrow _ hm)
    cases e
    obtain ⟨its2, r2, ⟨o, ho, hc, n, hd⟩, _⟩ := I.tuple (sqT_mono sub ht)
    exact ⟨t, o, its2.toArray, n, rfl, ho, hc, hd, ints_are r2⟩
  · have e3 : xs.head? = some (backV v) := by rw [e1, List.head?_map, hv]; rfl
    have e4 : (xs.map (keyR X.K H0)).head? = some (keyR X.K H0 (backV v)) := by rw [List.head?_map, e3]; rfl
    rw [hkeys] at e4
    exact (Option.some.inj e4).symm
  · have h3 : ∀ u ∈ out, ∃ a, u = Value.ref a := fun u hu => e2 u (h2.perm.mem_iff.mp hu)
    obtain ⟨n, hn⟩ := hn
    have hb : SrtO.Stb (fun v u => ltR (keyR X.K H0 v) (keyR X.K H0 u)) (out.map backV) xs := by
      rw [e1]
      exact SrtO.Stb.map (swoR (keyR X.K H0)) backV h2
    have hsrt : SrtO.Srtd (fun v u => ltR (keyR X.K H0 v) (keyR X.K H0 u)) (out.map backV) := SrtO.srtd_map h1
    have heq : (out.map backV).map (keyR X.K H0) = sortR ([] :: ps) := by
      refine sortR_uniq ?_ ?_ (sortR_sorted _)
      · refine List.Perm.trans (hb.perm.map (keyR X.K H0)) ?_
        rw [hkeys]
        exact (sortR_perm _).symm
      · rw [List.pairwise_map]
        refine List.Pairwise.imp ?_ hsrt
        intro x y hxy
        unfold leR
        rw [Bool.not_eq_true']
        exact hxy
    refine ⟨.ref d, upd H d (.lst (out.map backV)), I.laid (t' := s.toks) kp hd' ⟨?_, out, n, vals_back h3, hn⟩, rfl, q _ d ?_ (I.hok.fresh hd')⟩
    · rw [hb.len]; exact hz
    · rw [← heq]
      exact dpa_keysR fun y hy => hrow y (hb.perm.mem_iff.mp hy)
theorem cf_sortR {ps : List (List Int)} : CF K (rSortR K) [.list (([] :: ps).map encRow)] ((sortR ([] :: ps)).map encRow) := fun H H0 vs s k Q q => by
  obtain ⟨v, rfl, kk⟩ := dq1 k
  obtain ⟨a, xs, rfl, h1, h2⟩ := kk.lst s
  exact ⟨H0, a, xs, ps, rfl, s, h1, h2, fun ys p hy np => q p ys _ H0 (.dirty s np) np upd_same (sub_none s np) hy⟩
end EL

/-! dicts that nobody changes any more (frozen objects): made by a comprehension, read, walked -/
namespace EL
open PySem PySem.Spec PyProof.Rows L2
variable [TabC]
variable {K : PySem.W.Frag}
/-- a dict that nobody changes any more, as a frozen object -/
def FrzG (K : PySem.W.Frag) (ks : List Int) (ds : List D) : Gn := fun G v => ∃ d o xs, v = .ref d ∧ G d = some (.frz o (.dK ((ks.map Sum.inl).zip xs))) ∧ DpAll K G xs ds ∧ ks.length = ds.length
theorem frzG_mono {ks : List Int} {ds : List D} : GMono (FrzG K ks ds) := fun G G' u s ⟨b, o, ys, z1, z2, z3, z4⟩ => ⟨b, o, ys, z1, s _ _ z2, dpa_mono s z3, z4⟩
/-- the value, a thing that may change, is frozen -/
def tFrzE (t : TE) : TE := fun σ H Q => t σ H fun x H1 => ∃ d u, x = .ref d ∧ H1 d = some u ∧ Mut (some u) ∧ ∀ od, Q x (upd H1 d (.frz od u))
theorem pe_frz {X : Cx} {e : Expr} {t : TE} (h : PE X e t) : PE X e (tFrzE t) := by
  refine ⟨fun pins s σ H Q I hw => ?_⟩
  refine thn (h.run pins s σ H _ I hw) fun v s1 ⟨x, H1, I1, r, d, u, ex, hd, mu, q⟩ => ?_
  subst ex
  obtain ⟨od, I2⟩ := I1.lock hd mu
  exact ⟨_, _, I2, r, q od⟩
/-- a new dict, that the def itself has made -/
def EvDic (K : PySem.W.Frag) (t : TE) (ρ : List Sl) (ks : List Int) (ds : List D) : Prop := ∀ (B B0 : Hp) (σ : L2.St) (H H0 : Hp), Rp K B B0 ρ σ H H0 → ∀ Q : VK,
  (∀ a xs H' H0', Wd H H0 H' H0' → H a = none → H' a = some (.dK ((ks.map Sum.inl).zip xs)) → H0' a = none → DpAll K H0' xs ds → Q (.ref a) H') → t σ H Q
section
variable {ρ : List Sl} {P : Post} {te ty tk tv : TE} {ds : List D} {ks : List Int} {i : Nat}
theorem EvDic.frz (h : EvDic K te ρ ks ds) (hl : ks.length = ds.length) : EvG K (tFrzE te) ρ (FrzG K ks ds) := fun B B0 σ H H0 r Q q => h B B0 σ H H0 r _ fun a xs H1 H01 w na ha n0 k => by
  refine ⟨a, _, rfl, ha, trivial, fun od => ?_⟩
  have w2 : Wd H H0 (upd H1 a (.frz od (.dK ((ks.map Sum.inl).zip xs)))) (upd H01 a (.frz od (.dK ((ks.map Sum.inl).zip xs)))) := by
    refine ⟨⟨fun b u hb nt => ?_, fun b hb => ?_⟩, fun b u hb => ?_, same_upd2 w.sub, fun b o hb => ?_, fun t => ?_⟩
    · rw [upd_ne (ne_of_none hb na)]
      exact w.e.o b u hb nt
    · by_cases hba : b = a
      · rw [hba]; exact na
      · rw [upd_ne hba] at hb
        exact w.e.fr b hb
    · have : b ≠ a := fun z => by
        have := w.e0 b u hb
        rw [z, n0] at this
        cases this
      rw [upd_ne this]
      exact w.e0 b u hb
    · by_cases hba : b = a
      · rw [hba]; exact .inr na
      · rw [upd_ne hba] at hb
        exact w.new b o hb
    · intro p hp
      obtain ⟨h1, ps0, h2, h3, h4⟩ := t p hp
      obtain ⟨g1, ps, g2, g3, g4⟩ := w.tb t p hp
      have nap : p.1 ≠ a := fun z => by rw [z, na] at h2; cases h2
      refine ⟨by rw [upd_ne nap]; exact g1, ps, by rw [upd_ne nap]; exact g2, g3, fun pos cv hc => ?_⟩
      obtain ⟨c, e1, e2⟩ := g4 pos cv hc
      refine ⟨c, e1, ?_⟩
      rw [upd_ne fun z => by rw [z, n0] at e2; cases e2]
      exact e2
  refine q _ _ _ w2 ⟨a, od, xs, rfl, upd_same, dpa_mono (same_new n0) k, hl⟩
theorem ev_dc {wi : TI} {g : TG} {tt : TT} {vs is : List Nat} {c : D → Bool} {fk : D → Int} {fv : D → D} (hi : Ev_It2 K wi ρ ds) (hsub : ∀ i ∈ is, i ∈ vs)
    (hs : ∀ (i : Nat) (d : D), ds[i]? = some d → ∃ ρ2, Bd K g is d (wipeS ρ vs) ρ2 ∧ EvT K tt ρ2 (c d) ∧ (c d = true → EvQ K tk ρ2 (.int (fk d)) ∧ EvD K tv ρ2 (fv d)))
    (nd : ((ds.filter c).map fk).Nodup) (hl : ds.length < sizeLine) : EvDic K (tDc wi g tt tk tv vs) ρ ((ds.filter c).map fk) ((ds.filter c).map fv) := fun B B0 σ H H0 r Q q =>
  hi B B0 σ H H0 r _ fun J H1 H01 w ok D nD => by
    have key : ∀ i, i ≤ ds.length → (((ds.take i).filter c).map fk).length ≤ i := fun i hi => by
      rw [List.length_map]
      exact Nat.le_trans (List.length_filter_le _ _) (by rw [List.length_take]; omega)
    have lenq : ∀ i, (((ds.take i).filter c).map fk).length = (((ds.take i).filter c).map fv).length := fun i => by rw [List.length_map, List.length_map]
    refine ⟨fun i n H' => n = ds.length - i ∧ i ≤ ds.length ∧ ∃ H0' acc, Wd H1 H01 H' H0' ∧ H' D = some (mkO (some (((ds.take i).filter c).map fk)) acc) ∧ H0' D = none ∧ DpAll K H0' acc (((ds.take i).filter c).map fv), ⟨_, rfl, Nat.zero_le _, H01, [], .dirty w.sub nD, upd_same, sub_none w.sub nD, .nil⟩, ?_⟩
    rintro i n H' ⟨rfl, hle, H0', acc, w1, e1, e0, k1⟩
    have r1 : Rp K B B0 (wipeS ρ vs) (wipe σ vs) H' H0' := rp_wipe ((r.step w).step w1) vs
    obtain ⟨ok1, ok2⟩ := ok i H' H0' w1
    by_cases hlt : i < ds.length
    · obtain ⟨go, yl⟩ := ok2 ds[i] (List.getElem?_eq_getElem hlt)
      obtain ⟨ρ2, hb, ht, hf⟩ := hs i ds[i] (List.getElem?_eq_getElem hlt)
      have tk : ds.take (i + 1) = ds.take i ++ [ds[i]] := by rw [List.take_add_one, List.getElem?_eq_getElem hlt]; rfl
      refine .inr ⟨go, fun H2 => ∃ H02 acc, Wd H1 H01 H2 H02 ∧ H2 D = some (mkO (some (((ds.take (i + 1)).filter c).map fk)) acc) ∧ H02 D = none ∧ DpAll K H02 acc (((ds.take (i + 1)).filter c).map fv), fun H2 ⟨a, b, z⟩ => ⟨ds.length - (i + 1), by omega, rfl, hlt, a, b, z⟩, fun x H2 hy => ?_⟩
      obtain ⟨H02, w2, k2⟩ := yl x H2 hy
      refine hb B B0 _ H2 H02 x (r1.step w2) k2 _ fun σ2 r2 e2 => ⟨by rw [e2 vs hsub, wipe_twice], ht B B0 σ2 H2 H02 r2 _ fun H3 H03 w3 => ?_⟩
      have w123 := (w1.trans w2).trans w3
      have e3 : H3 D = some (mkO (some (((ds.take i).filter c).map fk)) acc) := (w2.trans w3).e.obj e1
      have z3 : H03 D = none := (w2.trans w3).stay0 e1 e0
      cases hc : c ds[i] with
      | false =>
        rw [if_neg Bool.false_ne_true]
        have et : (ds.take (i + 1)).filter c = (ds.take i).filter c := by
          rw [tk, List.filter_append, List.filter_cons_of_neg (by rw [hc]; decide)]
          simp
        refine ⟨H03, acc, w123, ?_, z3, ?_⟩
        · rw [et]; exact e3
        · rw [et]; exact dpa_mono (w2.trans w3).e0 k1
      | true =>
        rw [if_pos rfl]
        obtain ⟨hk, hv⟩ := hf hc
        refine hk B B0 σ2 H3 H03 (r2.step w3) _ fun y H4 H04 w4 k4 => hv B B0 σ2 H4 H04 ((r2.step w3).step w4) _ fun v H5 H05 w5 k5 => ?_
        have w345 := w123.trans (w4.trans w5)
        have e5 : H5 D = some (mkO (some (((ds.take i).filter c).map fk)) acc) := (w4.trans w5).e.obj e3
        have z5 : H05 D = none := (w4.trans w5).stay0 e3 z3
        have et : (ds.take (i + 1)).filter c = (ds.take i).filter c ++ [ds[i]] := by
          rw [tk, List.filter_append, List.filter_cons_of_pos hc]
          rfl
        have la : acc.length = (((ds.take i).filter c).map fk).length := by rw [dpa_len k1, lenq]
        have hn : fk ds[i] ∉ ((ds.take i).filter c).map fk := by
          have sp : ds = ds.take i ++ ds[i] :: ds.drop (i + 1) := by
            rw [← List.drop_eq_getElem_cons hlt, List.take_append_drop]
          rw [sp, List.filter_append, List.filter_cons_of_pos hc, List.map_append] at nd
          intro hm
          exact (List.nodup_append.mp nd).2.2 _ hm _ List.mem_cons_self rfl
        have eo : mkO (some (((ds.take (i + 1)).filter c).map fk)) (acc ++ [v]) = .dK (putK (((((ds.take i).filter c).map fk).map (Sum.inl : Int → Key)).zip acc) (Sum.inl (fk ds[i])) v) := by
          rw [putK_new v (val_no hn), et, List.map_append]
          show HO.dK (((((ds.take i).filter c).map fk ++ [fk ds[i]]).map Sum.inl).zip (acc ++ [v])) = _
          rw [List.map_append, List.zip_append (by rw [List.length_map, la])]
          rfl
        have kq := key i hle
        refine ⟨_, Sum.inl (fk ds[i]), k4.int, e5, ?_, H05, acc ++ [v], ?_, ?_, z5, ?_⟩
        · rw [List.length_zip, List.length_map]
          omega
        · have nD0 : H01 D = none := sub_none w.sub nD
          refine ⟨by rw [eo.symm]; exact w345.e.own nD e5, w345.e0, fun b o hb => ?_, w345.new, fun t => by rw [eo.symm]; exact (w345.tb t).own e5⟩
          rw [upd_ne (ne_of_none hb z5)]
          exact w345.sub b o hb
        · rw [eo]; exact upd_same
        · rw [et, List.map_append]
          exact dpa_app (dpa_mono (((w2.trans w3).trans w4).trans w5).e0 k1) (.cons k5 .nil)
    · have e : i = ds.length := by omega
      subst e
      rw [List.take_length] at e1 k1
      exact .inl ⟨ok1 (Nat.le_refl _), q D acc H' H0' (w.trans w1) (w.e.free nD) e1 e0 k1⟩
/-- d[k] of a frozen dict -/
theorem ev_dgetZ {j : Nat} {k : Int} {d : D} (h : EvG K te ρ (FrzG K ks ds)) (hk : EvQ K ty ρ (.int k)) (hj : ks[j]? = some k) (hd : ds[j]? = some d) (hno : ∀ m : Nat, m < j → ks[m]? ≠ some k) : EvD K (tDGet te ty) ρ d := fun B B0 σ H H0 r Q q => h B B0 σ H H0 r _ fun v H1 H01 w1 ⟨a, o, xs, e1, e2, e3, e4⟩ => by
  refine hk B B0 σ H1 H01 (r.step w1) _ fun u H2 H02 w2 k2 => ?_
  obtain ⟨v', hv, kv⟩ := dpa_get e3 hd
  rw [k2.int]
  have g : DGet H2 a (kV (Sum.inl k)) (valV ((ks.map Sum.inl).zip xs) (Sum.inl k)) := .inl ⟨_, _, .inr ⟨o, w2.sub _ _ (w2.e0 _ _ e2)⟩, rfl, rfl⟩
  rw [val_zip hj hv hno] at g
  exact ⟨a, v', e1, g, q _ H2 H02 (w1.trans w2) (dp_mono w2.e0 kv)⟩
theorem kv_get {xs : List V} {m : Nat} {p : Key × V} (h : ((ks.map (Sum.inl : Int → Key)).zip xs)[m]? = some p) : ∃ k, ks[m]? = some k ∧ p.1 = Sum.inl k ∧ xs[m]? = some p.2 := by
  rw [List.getElem?_zip_eq_some] at h
  obtain ⟨h1, h2⟩ := h
  rw [List.getElem?_map] at h1
  cases hk : ks[m]? with
  | none => rw [hk] at h1; cases h1
  | some k =>
    rw [hk] at h1
    exact ⟨k, rfl, (Option.some.inj h1).symm, h2⟩
/-- for k in d -/
theorem it_keysZ {H0 : Hp} {a : Addr} {o : Obj} {xs : List V} (h1 : H0 a = some (.frz o (.dK ((ks.map Sum.inl).zip xs)))) (hl : xs.length = ks.length) : ItOk K (Itk a o ((ks.map Sum.inl).zip xs)) H0 (ks.map .int) := fun m H' H0' s1 s2 => by
  have h3 : H' a = some (.frz o (.dK ((ks.map Sum.inl).zip xs))) := s2 _ _ (s1 _ _ h1)
  have len : ((ks.map (Sum.inl : Int → Key)).zip xs).length = ks.length := by rw [List.length_zip, List.length_map, hl, Nat.min_self]
  refine ⟨fun hi => ⟨h3, by rw [len]; rw [List.length_map] at hi; exact hi⟩, fun d e => ?_⟩
  rw [List.getElem?_map] at e
  cases hk : ks[m]? with
  | none => rw [hk] at e; cases e
  | some k =>
    rw [hk] at e
    cases e
    have hm := (List.getElem?_eq_some_iff.mp hk).1
    refine ⟨⟨h3, by rw [len]; exact hm⟩, fun x H2 hy => ?_⟩
    obtain ⟨rfl, k', v, e1, rfl⟩ := hy
    obtain ⟨k2, f1, f2, _⟩ := kv_get e1
    rw [hk] at f1
    cases f1
    have f2 : k' = Sum.inl k := f2
    subst f2
    exact ⟨H0', .refl s2, .int _⟩
theorem ei_keysZ (h : EvG K te ρ (FrzG K ks ds)) : Ev_It K (iKeys te) ρ (ks.map .int) := fun B B0 σ H H0 r R q => h B B0 σ H H0 r _ fun v H1 H01 w1 ⟨a, o, xs, e1, e2, e3, e4⟩ =>
  ⟨a, o, e1, .inl ⟨_, w1.sub _ _ e2, q _ H1 H01 w1 (it_keysZ e2 (by rw [dpa_len e3, e4]))⟩⟩
/-- for k, v in d.items() -/
theorem it_itemsZ {H0 : Hp} {a : Addr} {o : Obj} {xs : List V} (h1 : H0 a = some (.frz o (.dK ((ks.map Sum.inl).zip xs)))) (hx : DpAll K H0 xs ds) (hl : ks.length = ds.length) : ItOk K (Iti a o ((ks.map Sum.inl).zip xs)) H0 (List.zipWith (fun k d => .tuple [.int k, d]) ks ds) := fun m H' H0' s1 s2 => by
  have h3 : H' a = some (.frz o (.dK ((ks.map Sum.inl).zip xs))) := s2 _ _ (s1 _ _ h1)
  have len : ((ks.map (Sum.inl : Int → Key)).zip xs).length = ks.length := by rw [List.length_zip, List.length_map, dpa_len hx, hl, Nat.min_self]
  refine ⟨fun hi => ⟨h3, by rw [len]; rw [List.length_zipWith, hl, Nat.min_self] at hi; omega⟩, fun d e => ?_⟩
  rw [List.getElem?_zipWith] at e
  cases hk : ks[m]? with
  | none => rw [hk] at e; cases e
  | some k =>
    cases hd : ds[m]? with
    | none => rw [hk, hd] at e; cases e
    | some d' =>
      rw [hk, hd] at e
      cases e
      have hm := (List.getElem?_eq_some_iff.mp hk).1
      refine ⟨⟨h3, by rw [len]; exact hm⟩, fun x H2 hy => ?_⟩
      obtain ⟨T, k', v, e1, rfl, nT, rfl⟩ := hy
      obtain ⟨k2, f1, f2, f3⟩ := kv_get e1
      rw [hk] at f1
      cases f1
      have f2 : k' = Sum.inl k := f2
      subst f2
      obtain ⟨v', g1, g2⟩ := dpa_get hx hd
      have f3 : xs[m]? = some v := f3
      rw [f3] at g1
      cases g1
      have n0 := sub_none s2 nT
      refine ⟨upd H0' T (.tup [V.int k, v]), .clean s2 nT, .tup (.of upd_same) (.cons (.int k) (.cons (dp_mono (same_new n0) (dp_mono s1 g2)) .nil))⟩
theorem ei_itemsZ (h : EvG K te ρ (FrzG K ks ds)) : Ev_It K (iItems te) ρ (List.zipWith (fun k d => .tuple [.int k, d]) ks ds) := fun B B0 σ H H0 r R q => h B B0 σ H H0 r _ fun v H1 H01 w1 ⟨a, o, xs, e1, e2, e3, e4⟩ =>
  ⟨a, o, _, e1, w1.sub _ _ e2, q _ H1 H01 w1 (it_itemsZ e2 e3 e4)⟩
end
end EL

/-! the rules with K by hand: list(combinations(range(..), r)), sorted of rows, frozen dicts -/
namespace EK
open PySem PySem.Spec PyProof.Rows L2 EL ECo ERw
variable [TabC]
variable {X : Cx} {K : PySem.W.Frag}
theorem listComb {e : Expr} {te : TE} {i : Nat} {x : Str} {p p2 p3 px pos pos2 pos3 : Pos} (hc : X.calm = true) (hg : Gl X "list") (hm : X.mg "list" = none) (hg2 : Gl X "combinations") (hm2 : X.mg "combinations" = some (.type "itertools.combinations")) (hg3 : Gl X "range") (hm3 : X.mg "range" = none) (he : PE X e te)
    (hN : X.N[i]? = some x) (hv : Vis X.env.scope x) (na : starEach [e] X.env = (false, eval e X.env) :: starEach [] X.env := by rfl)
    (hd : (x == ("__debug__" : Str)) = false := by decide) (hcd : (x == ("__classdict__" : Str)) = false := by decide)
    (h1 : starEach [.Call (.Name "range" p3) [e] [] pos3, .Name x px] X.env = (false, eval (.Call (.Name "range" p3) [e] [] pos3) X.env) :: starEach [.Name x px] X.env := by rfl)
    (h2 : (backTo pos2 (starEach [.Name x px] X.env)).any (·.1) = false := by rfl) (h4 : starEach [.Name x px] X.env = (false, eval (.Name x px) X.env) :: starEach [] X.env := by rfl)
    (h3 : starEach [.Call (.Name "combinations" p2) [.Call (.Name "range" p3) [e] [] pos3, .Name x px] [] pos2] X.env = (false, eval (.Call (.Name "combinations" p2) [.Call (.Name "range" p3) [e] [] pos3, .Name x px] [] pos2) X.env) :: starEach [] X.env := by rfl) :
    PE X (.Call (.Name "list" p) [.Call (.Name "combinations" p2) [.Call (.Name "range" p3) [e] [] pos3, .Name x px] [] pos2] [] pos) (tListComb (tRg1 te) (tVar i)) :=
  pe_listComb hc hg hm hg2 hm2 (prg_1 hg3 hm3 he na) (pv_var hN hv hd hcd) h1 h2 h4 h3
theorem sortR (hu : X.A.in1.in1.units + 1 < cLine) (hK : X.K = K := by rfl) : CallR X (.builtin "sorted") (rSortR K) := hK ▸ cr_sortR hu
end EK

/-! sets of small numbers as masks -/
namespace BT
open PySem PySem.Builtin
def bt (x : Int) (i : Nat) : Bool := decide (x / 2 ^ i % 2 = 1)
theorem bt_zero (x : Int) : bt x 0 = decide (x % 2 = 1) := by
  unfold bt
  rw [Int.pow_zero, Int.ediv_one]
theorem bt_succ (x : Int) (i : Nat) : bt x (i + 1) = bt (x / 2) i := by
  unfold bt
  have e : (2 : Int) ^ (i + 1) = 2 * 2 ^ i := by rw [Int.pow_succ, Int.mul_comm]
  have q : x / 2 / 2 ^ i = x / (2 * 2 ^ i) := by
    rw [Int.ediv_ediv, if_neg (by omega), Int.sub_zero]
  rw [e, q]
theorem bt_and : ∀ (i : Nat) (x y : Int), bt (bitAnd x y) i = (bt x i && bt y i)
  | 0, x, y => by
    rw [bt_zero, bt_zero, bt_zero, PySem.W.kbt_halves]
    by_cases h1 : x % 2 = 1 <;> by_cases h2 : y % 2 = 1
    · rw [if_pos ⟨h1, h2⟩, decide_eq_true h1, decide_eq_true h2, decide_eq_true (by omega)]; rfl
    · rw [if_neg (fun z => h2 z.2), decide_eq_false h2, decide_eq_false (by omega)]; simp
    · rw [if_neg (fun z => h1 z.1), decide_eq_false h1, decide_eq_false (by omega)]; simp
    · rw [if_neg (fun z => h1 z.1), decide_eq_false h1, decide_eq_false (by omega)]; simp
  | i + 1, x, y => by
    rw [bt_succ, bt_succ, bt_succ, ← bt_and i]
    congr 1
    rw [PySem.W.kbt_halves x y]
    split <;> omega
theorem bt_not : ∀ (i : Nat) (x : Int), bt (bitNot x) i = !bt x i
  | 0, x => by
    rw [bt_zero, bt_zero]
    unfold bitNot
    by_cases h : x % 2 = 1
    · rw [decide_eq_true h, decide_eq_false (by omega)]; rfl
    · rw [decide_eq_false h, decide_eq_true (by omega)]; rfl
  | i + 1, x => by
    rw [bt_succ, bt_succ, ← bt_not i]
    congr 1
    unfold bitNot
    omega
theorem bt_or (i : Nat) (x y : Int) : bt (bitOr x y) i = (bt x i || bt y i) := by
  unfold bitOr
  rw [bt_not, bt_and, bt_not, bt_not]
  cases bt x i <;> cases bt y i <;> rfl
theorem bt_nil : ∀ i : Nat, bt 0 i = false
  | 0 => by rw [bt_zero]; rfl
  | i + 1 => by rw [bt_succ]; exact bt_nil i
theorem pow_pos' (k : Nat) : (0 : Int) < 2 ^ k := Int.pow_pos (by decide)
theorem bt_pow : ∀ (k i : Nat), bt (2 ^ k) i = decide (i = k)
  | 0, 0 => by rw [bt_zero]; rfl
  | 0, i + 1 => by
    rw [bt_succ]
    have e : (2 : Int) ^ 0 / 2 = 0 := by decide
    rw [e, bt_nil]; simp
  | k + 1, 0 => by
    rw [bt_zero, Int.pow_succ]
    rw [decide_eq_false (by omega)]; simp
  | k + 1, i + 1 => by
    rw [bt_succ, Int.pow_succ]
    have e : (2 : Int) ^ k * 2 / 2 = 2 ^ k := by omega
    rw [e, bt_pow k i]
    simp
theorem bt_high : ∀ (n : Nat) (x : Int) (i : Nat), 0 ≤ x → x < 2 ^ n → n ≤ i → bt x i = false
  | 0, x, i, h0, h1, _ => by
    have : x = 0 := by rw [Int.pow_zero] at h1; omega
    subst this
    exact bt_nil i
  | n + 1, x, 0, _, _, h => by omega
  | n + 1, x, i + 1, h0, h1, h => by
    rw [bt_succ]
    rw [Int.pow_succ] at h1
    exact bt_high n (x / 2) i (by omega) (by omega) (by omega)
theorem bt_ext : ∀ (n : Nat) {x y : Int}, 0 ≤ x → x < 2 ^ n → 0 ≤ y → y < 2 ^ n → (∀ i, i < n → bt x i = bt y i) → x = y
  | 0, x, y, a, b, c, d, _ => by
    rw [Int.pow_zero] at b d
    omega
  | n + 1, x, y, a, b, c, d, h => by
    rw [Int.pow_succ] at b d
    have h0 := h 0 (by omega)
    rw [bt_zero, bt_zero] at h0
    have q : x / 2 = y / 2 := bt_ext n (by omega) (by omega) (by omega) (by omega) fun i hi => by
      rw [← bt_succ, ← bt_succ]
      exact h (i + 1) (by omega)
    have m : (x % 2 = 1) ↔ (y % 2 = 1) := by
      constructor
      · intro z; rw [decide_eq_true z] at h0; exact of_decide_eq_true h0.symm
      · intro z; rw [decide_eq_true z] at h0; exact of_decide_eq_true h0
    omega
/-- the mask of a set of numbers below n -/
def mk : Nat → (Nat → Bool) → Int
  | 0, _ => 0
  | n + 1, S => mk n S + (if S n = true then 2 ^ n else 0)
theorem mk_nn : ∀ (n : Nat) (S : Nat → Bool), 0 ≤ mk n S
  | 0, _ => Int.le_refl 0
  | n + 1, S => by
    have h := mk_nn n S
    have p := pow_pos' n
    unfold mk
    split <;> omega
theorem mk_lt : ∀ (n : Nat) (S : Nat → Bool), mk n S < 2 ^ n
  | 0, _ => by show (0 : Int) < 2 ^ 0; decide
  | n + 1, S => by
    have h := mk_lt n S
    have p := pow_pos' n
    rw [Int.pow_succ]
    unfold mk
    split <;> omega
theorem bt_add_high : ∀ (n : Nat) (x : Int) (i : Nat), 0 ≤ x → x < 2 ^ n → bt (x + 2 ^ n) i = (bt x i || decide (i = n))
  | 0, x, 0, h0, h1 => by
    have : x = 0 := by rw [Int.pow_zero] at h1; omega
    subst this
    rw [bt_zero, bt_zero]; rfl
  | 0, x, i + 1, h0, h1 => by
    have : x = 0 := by rw [Int.pow_zero] at h1; omega
    subst this
    rw [bt_succ, bt_nil]
    have e : ((0 : Int) + 2 ^ 0) / 2 = 0 := by decide
    rw [e, bt_nil]; simp
  | n + 1, x, 0, h0, h1 => by
    rw [bt_zero, bt_zero, Int.pow_succ]
    by_cases h : x % 2 = 1
    · rw [decide_eq_true h, decide_eq_true (by omega)]; rfl
    · rw [decide_eq_false h, decide_eq_false (by omega)]; simp
  | n + 1, x, i + 1, h0, h1 => by
    rw [bt_succ, bt_succ]
    rw [Int.pow_succ] at h1 ⊢
    have e : (x + 2 ^ n * 2) / 2 = x / 2 + 2 ^ n := by omega
    rw [e, bt_add_high n (x / 2) i (by omega) (by omega)]
    simp
theorem bt_mk : ∀ (n : Nat) (S : Nat → Bool) (i : Nat), bt (mk n S) i = (decide (i < n) && S i)
  | 0, S, i => by
    show bt 0 i = _
    rw [bt_nil]; simp
  | n + 1, S, i => by
    unfold mk
    by_cases hs : S n = true
    · rw [if_pos hs, bt_add_high n _ i (mk_nn n S) (mk_lt n S), bt_mk n S i]
      by_cases h1 : i = n
      · subst h1; simp [hs]
      · by_cases h2 : i < n
        · simp [h1, h2, show i < n + 1 by omega]
        · simp [h1, h2, show ¬ i < n + 1 by omega]
    · rw [if_neg hs, Int.add_zero, bt_mk n S i]
      by_cases h1 : i = n
      · subst h1; simp [hs]
      · by_cases h2 : i < n
        · simp [h2, show i < n + 1 by omega]
        · simp [h2, show ¬ i < n + 1 by omega]
theorem mk_eq {n : Nat} {x : Int} {S : Nat → Bool} (h0 : 0 ≤ x) (h1 : x < 2 ^ n) (h : ∀ i, i < n → bt x i = S i) : x = mk n S :=
  bt_ext n h0 h1 (mk_nn n S) (mk_lt n S) fun i hi => by rw [bt_mk, h i hi, decide_eq_true hi]; rfl
theorem mk_congr {n : Nat} {S T : Nat → Bool} (h : ∀ i, i < n → S i = T i) : mk n S = mk n T :=
  mk_eq (mk_nn n S) (mk_lt n S) fun i hi => by rw [bt_mk, decide_eq_true hi, h i hi]; rfl
theorem or_nn {x y : Int} (hx : 0 ≤ x) (hy : 0 ≤ y) : 0 ≤ bitOr x y := by
  rw [L2.bitOr_nn hx hy]
  exact Int.natCast_nonneg _
theorem or_lt {x y : Int} {n : Nat} (hx : 0 ≤ x) (hy : 0 ≤ y) (h1 : x < 2 ^ n) (h2 : y < 2 ^ n) : bitOr x y < 2 ^ n := by
  rw [L2.bitOr_nn hx hy]
  have q1 : x.toNat < 2 ^ n := by
    have : ((2 ^ n : Nat) : Int) = (2 : Int) ^ n := PySem.W.kbt_cast n
    omega
  have q2 : y.toNat < 2 ^ n := by
    have : ((2 ^ n : Nat) : Int) = (2 : Int) ^ n := PySem.W.kbt_cast n
    omega
  have := Nat.or_lt_two_pow q1 q2
  have e : ((2 ^ n : Nat) : Int) = (2 : Int) ^ n := PySem.W.kbt_cast n
  omega
theorem mk_or (n : Nat) (S T : Nat → Bool) : bitOr (mk n S) (mk n T) = mk n fun i => S i || T i :=
  mk_eq (or_nn (mk_nn n S) (mk_nn n T)) (or_lt (mk_nn n S) (mk_nn n T) (mk_lt n S) (mk_lt n T)) fun i hi => by rw [bt_or, bt_mk, bt_mk, decide_eq_true hi]; rfl
/-- & with anything stays within -/
theorem mk_and (n : Nat) (S : Nat → Bool) (y : Int) : bitAnd (mk n S) y = mk n fun i => S i && bt y i := by
  have h := PyProof.Rows.bitAnd_range y (mk_nn n S)
  rw [PyProof.Rows.bitAnd_comm] at h
  exact mk_eq h.1 (Int.lt_of_le_of_lt h.2 (mk_lt n S)) fun i hi => by rw [bt_and, bt_mk, decide_eq_true hi]; rfl
theorem mk_pow {n k : Nat} (h : k < n) : (2 : Int) ^ k = mk n fun i => decide (i = k) := by
  refine mk_eq (Int.le_of_lt (pow_pos' k)) ?_ fun i _ => bt_pow k i
  have e1 : ((2 ^ n : Nat) : Int) = (2 : Int) ^ n := PySem.W.kbt_cast n
  have e2 : ((2 ^ k : Nat) : Int) = (2 : Int) ^ k := PySem.W.kbt_cast k
  have := Nat.pow_lt_pow_right (show 1 < 2 by decide) h
  omega
theorem mk_zero (n : Nat) : (0 : Int) = mk n fun _ => false := mk_eq (Int.le_refl 0) (pow_pos' n) fun i _ => bt_nil i
theorem mk_nz {n : Nat} {S : Nat → Bool} : (mk n S != 0) = true ↔ ∃ i, i < n ∧ S i = true := by
  constructor
  · intro h
    rcases Classical.em (∃ i, i < n ∧ S i = true) with q | q
    · exact q
    · have : mk n S = 0 := by
        rw [mk_zero n]
        refine mk_congr fun i hi => ?_
        cases e : S i with
        | false => rfl
        | true => exact absurd ⟨i, hi, e⟩ q
      rw [this] at h
      cases h
  · rintro ⟨i, hi, hs⟩
    rw [bne_iff_ne]
    intro h
    have q := bt_mk n S i
    rw [h, bt_nil, decide_eq_true hi, hs] at q
    cases q
theorem mk_full (n : Nat) : (2 : Int) ^ n - 1 = mk n fun _ => true := by
  induction n with
  | zero => rfl
  | succ n ih =>
    unfold mk
    rw [if_pos rfl, ← ih, Int.pow_succ]
    omega
/-- the lowest bit -/
theorem low_bit : ∀ (n : Nat) (x : Int), 0 < x → x < 2 ^ n → ∃ k, k < n ∧ bitAnd x (-x) = 2 ^ k ∧ bt x k = true ∧ ∀ i, i < k → bt x i = false := by
  intro n x h0 h1
  have dec : ∀ (n : Nat) (x : Int), 0 < x → x < 2 ^ n → ∃ (k : Nat) (a : Int), k < n ∧ x = 2 ^ k * (2 * a + 1) := by
    intro n
    induction n with
    | zero => intro x h0 h1; rw [Int.pow_zero] at h1; omega
    | succ n ih =>
      intro x h0 h1
      rw [Int.pow_succ] at h1
      by_cases h : x % 2 = 1
      · exact ⟨0, x / 2, by omega, by rw [Int.pow_zero, Int.one_mul]; omega⟩
      · obtain ⟨k, a, hk, e⟩ := ih (x / 2) (by omega) (by omega)
        refine ⟨k + 1, a, by omega, ?_⟩
        have e2 : x = 2 * (x / 2) := by omega
        rw [Int.pow_succ, Int.mul_comm (2 ^ k) 2, Int.mul_assoc, ← e]
        exact e2
  obtain ⟨k, a, hk, e⟩ := dec n x h0 h1
  refine ⟨k, hk, ?_, ?_, ?_⟩
  · rw [e]; exact PySem.W.kbt_low k a
  · rw [e]
    unfold bt
    rw [Int.mul_ediv_cancel_left _ (by have := pow_pos' k; omega)]
    exact decide_eq_true (by omega)
  · intro i hi
    rw [e]
    unfold bt
    have q : (2 : Int) ^ k = 2 ^ i * (2 * 2 ^ (k - i - 1)) := by
      have : k = i + (1 + (k - i - 1)) := by omega
      conv => lhs; rw [this, Int.pow_add, Int.pow_add]
      rfl
    rw [q, Int.mul_assoc, Int.mul_ediv_cancel_left _ (by have := pow_pos' i; omega), Int.mul_assoc]
    exact decide_eq_false (by omega)
end BT

/-! all standings of at most c of n nodes, as rows -/
namespace ECo
/-- size by size, as combinations gives them -/
def rowsL (n c : Nat) : List (List Nat) := (List.range (min c n + 1)).flatMap (combL n)
/-- node by node: those without it, then those with it -/
def rowsB : Nat → Nat → List (List Nat)
  | 0, _ => [[]]
  | n + 1, c => rowsB n c ++ ((rowsB n c).filter fun r => r.length < c).map fun r => r ++ [n]
def natI (l : List Nat) : List Int := l.map fun (i : Nat) => (i : Int)
theorem natI_back (l : List Nat) : (natI l).map Int.toNat = l := by
  unfold natI
  rw [List.map_map]
  exact (List.map_congr_left fun i _ => Int.toNat_natCast i).trans (List.map_id l)
theorem natI_inj {l m : List Nat} (h : natI l = natI m) : l = m := by
  rw [← natI_back l, h, natI_back]
/-- the standings in their order -/
def standS (n c : Nat) : List (List Nat) := (ERw.sortR ((rowsL n c).map natI)).map (List.map Int.toNat)
theorem stand_natI (n c : Nat) : (standS n c).map natI = ERw.sortR ((rowsL n c).map natI) := by
  unfold standS
  rw [List.map_map]
  refine (List.map_congr_left fun x hx => ?_).trans (List.map_id _)
  obtain ⟨l, _, rfl⟩ := List.mem_map.mp ((ERw.sortR_perm _).mem_iff.mp hx)
  show natI ((natI l).map Int.toNat) = natI l
  rw [natI_back]
theorem stand_perm (n c : Nat) : (standS n c).Perm (rowsL n c) := by
  have h := (ERw.sortR_perm ((rowsL n c).map natI)).map (List.map Int.toNat)
  rw [List.map_map] at h
  have e : (rowsL n c).map (List.map Int.toNat ∘ natI) = rowsL n c := (List.map_congr_left fun l _ => natI_back l).trans (List.map_id _)
  rw [e] at h
  exact h
theorem comb0 (n : Nat) : combL n 0 = [[]] := by
  unfold combL
  rw [if_neg (by omega)]
  rfl
theorem rowsL_cons (n c : Nat) : ∃ ps, rowsL n c = [] :: ps := by
  unfold rowsL
  rw [List.range_succ_eq_map, List.flatMap_cons, comb0]
  exact ⟨_, rfl⟩
theorem rows_small {n c : Nat} (hn : n ≤ 8) {l : List Nat} (h : l ∈ rowsL n c) : ∀ i ∈ l, i < n := by
  obtain ⟨r, hr, hl⟩ := List.mem_flatMap.mp h
  rw [List.mem_range] at hr
  exact ((comb_ok hn (by omega)).2.2 l hl).2
theorem rows_sub {n c : Nat} : (rowsL n c).Sublist (rowsL n n) := by
  unfold rowsL
  obtain ⟨t, ht⟩ : ∃ t, List.range (min n n + 1) = List.range (min c n + 1) ++ t := by
    have e : min n n + 1 = (min c n + 1) + (n - min c n) := by omega
    rw [e, List.range_add]
    exact ⟨_, rfl⟩
  rw [ht, List.flatMap_append]
  exact List.sublist_append_left ..
def maskB (l : List Nat) : Int := BT.mk 8 fun i => l.contains i
def rowsOkB (n : Nat) : Bool := (rowsL n n).length ≤ 256 && decide ((rowsL n n).map maskB).Nodup
theorem rows_ok : (List.range 9).all rowsOkB = true := by decide +kernel
theorem rows_ok' {n : Nat} (hn : n ≤ 8) : (rowsL n n).length ≤ 256 ∧ ((rowsL n n).map maskB).Nodup := by
  have h := List.all_eq_true.mp rows_ok n (List.mem_range.mpr (by omega))
  unfold rowsOkB at h
  rw [Bool.and_eq_true] at h
  exact ⟨by simpa using h.1, of_decide_eq_true h.2⟩
theorem rows_len {n c : Nat} (hn : n ≤ 8) : (rowsL n c).length ≤ 256 := Nat.le_trans (rows_sub (n := n) (c := c)).length_le (rows_ok' hn).1
theorem rows_nd {n c : Nat} (hn : n ≤ 8) : ((rowsL n c).map maskB).Nodup := (rows_ok' hn).2.sublist ((rows_sub (n := n) (c := c)).map maskB)
theorem stand_len {n c : Nat} (hn : n ≤ 8) : (standS n c).length ≤ 256 := by
  rw [(stand_perm n c).length_eq]
  exact rows_len hn
theorem stand_nd {n c : Nat} (hn : n ≤ 8) : ((standS n c).map maskB).Nodup := ((stand_perm n c).map maskB).nodup_iff.mpr (rows_nd hn)
theorem stand_small {n c : Nat} (hn : n ≤ 8) {l : List Nat} (h : l ∈ standS n c) : ∀ i ∈ l, i < n := rows_small hn ((stand_perm n c).mem_iff.mp h)
def rowsPermB (n c : Nat) : Bool := (rowsB n c).isPerm (rowsL n c)
theorem rows_perm : (List.range 9).all (fun n => (List.range 9).all fun c => rowsPermB n c) = true := by decide +kernel
theorem rowsB_perm {n c : Nat} (hn : n ≤ 8) (hc : c ≤ 8) : (rowsB n c).Perm (rowsL n c) := by
  have h := List.all_eq_true.mp (List.all_eq_true.mp rows_perm n (List.mem_range.mpr (by omega))) c (List.mem_range.mpr (by omega))
  exact List.isPerm_iff.mp h
/-- sorted by node or by size, the standings are the same -/
theorem sortB {n c : Nat} (hn : n ≤ 8) (hc : c ≤ 8) : ERw.sortR ((rowsB n c).map natI) = (standS n c).map natI := by
  rw [stand_natI]
  exact ERw.sortR_uniq (((ERw.sortR_perm _).trans ((rowsB_perm hn hc).map natI)).trans (ERw.sortR_perm _).symm) (ERw.sortR_sorted _) (ERw.sortR_sorted _)
end ECo

/-! for .. in combinations(a list, 2) -/
namespace ECo
/-- the pairs [i, j'] with j' = j, j + 1, .. -/
def rowFrom (m i j : Nat) : List (List Nat) := (List.range' j (m - j)).map fun k => [i, k]
def tailFrom (m i : Nat) : List (List Nat) := (List.range' i (m - i)).flatMap fun k => rowFrom m k (k + 1)
/-- all pairs i < j below m, in their order -/
def pairsL (m : Nat) : List (List Nat) := tailFrom m 0
theorem rowFrom_cons {m i j : Nat} (h : j < m) : rowFrom m i j = [i, j] :: rowFrom m i (j + 1) := by
  unfold rowFrom
  rw [show m - j = (m - (j + 1)) + 1 by omega, List.range'_succ]
  rfl
theorem rowFrom_nil {m i : Nat} : rowFrom m i m = [] := by
  unfold rowFrom
  rw [Nat.sub_self]
  rfl
theorem tailFrom_cons {m i : Nat} (h : i < m) : tailFrom m i = rowFrom m i (i + 1) ++ tailFrom m (i + 1) := by
  unfold tailFrom
  rw [show m - i = (m - (i + 1)) + 1 by omega, List.range'_succ, List.flatMap_cons]
theorem tailFrom_nil {m i : Nat} (h : m ≤ i) : tailFrom m i = [] := by
  unfold tailFrom
  rw [show m - i = 0 by omega]
  rfl
theorem rise2 (m i j : Nat) : riseC m [i, j] = if j ≠ 1 + m - 2 then some 1 else if i ≠ 0 + m - 2 then some 0 else none := by
  unfold riseC
  show List.find? _ [1, 0] = _
  rw [List.find?_cons, List.find?_cons, List.find?_nil]
  show (match (j != 1 + m - 2) with | true => some 1 | false => match (i != 0 + m - 2) with | true => some 0 | false => none) = _
  by_cases h1 : j = 1 + m - 2
  · rw [if_neg (by simp [h1]), bne_eq_false_iff_eq.mpr h1]
    by_cases h2 : i = 0 + m - 2
    · rw [if_neg (by simp [h2]), bne_eq_false_iff_eq.mpr h2]
    · rw [if_pos h2, bne_iff_ne.mpr h2]
  · rw [if_pos h1, bne_iff_ne.mpr h1]
theorem chain2 {m : Nat} : ∀ (k i j : Nat), i < j → j < m → (m - i) * (m + 1) + (m - j) = k → Chain m [i, j] (rowFrom m i (j + 1) ++ tailFrom m (i + 1)) := by
  intro k
  induction k using Nat.strongRecOn with
  | ind k ih =>
    intro i j hij hjm hk
    by_cases h1 : j + 1 < m
    · rw [rowFrom_cons h1, List.cons_append]
      refine .more ?_ (by rw [PySem.sizeLine_eq]; show 2 ≤ _; omega) (ih ((m - i) * (m + 1) + (m - (j + 1))) (by omega) i (j + 1) (by omega) h1 rfl)
      unfold stepC
      rw [rise2, if_pos (by omega)]
      rfl
    · have ej : j + 1 = m := by omega
      rw [ej, rowFrom_nil, List.nil_append]
      by_cases h2 : i + 2 < m
      · rw [tailFrom_cons (by omega), rowFrom_cons (by omega), List.cons_append]
        have e1 : (m - i) * (m + 1) = (m - (i + 1)) * (m + 1) + (m + 1) := by
          rw [show m - i = (m - (i + 1)) + 1 by omega, Nat.succ_mul]
        refine .more ?_ (by rw [PySem.sizeLine_eq]; show 2 ≤ _; omega) (ih ((m - (i + 1)) * (m + 1) + (m - (i + 2))) (by omega) (i + 1) (i + 2) (by omega) h2 rfl)
        unfold stepC
        rw [rise2, if_neg (by omega), if_pos (by omega)]
        rfl
      · have e2 : tailFrom m (i + 1) = [] := by
          by_cases h3 : i + 1 < m
          · rw [tailFrom_cons h3, show i + 1 + 1 = m by omega, rowFrom_nil, tailFrom_nil (Nat.le_refl _)]
            rfl
          · exact tailFrom_nil (by omega)
        rw [e2]
        refine .last ?_
        unfold stepC
        rw [rise2, if_neg (by omega), if_neg (by omega)]
/-- what combinations(a list of m things, 2) gives -/
theorem comb2 (m : Nat) : Comb m 2 (pairsL m) := by
  unfold Comb
  by_cases h : 2 > m
  · rw [if_pos h]
    unfold pairsL
    by_cases h0 : 0 < m
    · rw [tailFrom_cons h0, show 0 + 1 = m by omega, rowFrom_nil, tailFrom_nil (Nat.le_refl _)]
      rfl
    · exact tailFrom_nil (by omega)
  · rw [if_neg h]
    unfold pairsL
    rw [tailFrom_cons (by omega), rowFrom_cons (by omega)]
    exact ⟨_, rfl, chain2 _ 0 1 (by omega) (by omega) rfl⟩
theorem pairs_mem {m : Nat} {ix : List Nat} (h : ix ∈ pairsL m) : ∃ i j, ix = [i, j] ∧ i < j ∧ j < m := by
  unfold pairsL tailFrom rowFrom at h
  obtain ⟨i, hi, h2⟩ := List.mem_flatMap.mp h
  obtain ⟨j, hj, rfl⟩ := List.mem_map.mp h2
  rw [List.mem_range'_1] at hi hj
  exact ⟨i, j, rfl, by omega, by omega⟩
theorem mem_pairs {m i j : Nat} (h1 : i < j) (h2 : j < m) : [i, j] ∈ pairsL m := by
  unfold pairsL tailFrom rowFrom
  refine List.mem_flatMap.mpr ⟨i, List.mem_range'_1.mpr (by omega), List.mem_map.mpr ⟨j, List.mem_range'_1.mpr (by omega), rfl⟩⟩
open PySem PySem.Spec PyProof.Rows L2
open EZ (lstO)
section
variable {prog : Program} {w : World} {A : Around} {E : Value → Shared → Prop} {s : Shared}
theorem call_comb2 {l : Addr} {o : Obj} {us : Array Value} {n r : Nat} {z : Tok} {Q : Value → Shared → Prop} (ho : s.heap.get? l = some o) (hcl : o.cls = .type "list") (hd : o.data = .seq us n) (hz : us.size ≤ sizeLine) (hr1 : r < 1000)
    (q : ∀ (h' g : Heap), (∀ b o, s.heap.get? b = some o → h'.get? b = some o) → (∀ b o, h'.get? b = some o → g.get? b = some o) → g.objs.size = h'.objs.size + 2 → g.get? h'.objs.size = some (tupO us.toList) → g.get? (h'.objs.size + 1) = some (cObj h'.objs.size (if r > us.size then 2 else 0) .none (List.range r)) → Q (.ref (h'.objs.size + 1)) { s with heap := g }) :
    wpAny (model prog w) A (call (.type "itertools.combinations") [.ref l, .int (r : Int) z]) Q E s := by
  refine callType_newIn called (by decide +kernel) (typeCall2 _ _) (newCall2 _ _) (fun obj => F.args_object_init_3 obj _ _) entry_new (meets_new (.ref l) r z hr1) ?_
  show wpAny _ A.in1.in1 (collect (.ref l)) _ _ s
  refine wpAny_collect_seq l (.inl rfl) ho hcl hd (fun h' k => ?_) hz
  have e1 : us.toList.length = us.size := Array.length_toList
  refine ⟨by rw [e1]; exact hz, ?_⟩
  show _ ∧ _
  have c1 := Heap.get?_push_size (h'.push { cls := .type "tuple", data := .seq us.toList.toArray }) (o := cObj h'.objs.size (if r > us.toList.length then 2 else 0) .none (List.range r)) rfl
  have sz : (h'.push { cls := .type "tuple", data := .seq us.toList.toArray }).objs.size = h'.objs.size + 1 := Heap.size_push ..
  rw [sz] at c1
  rw [e1] at c1 ⊢
  exact ⟨⟨_, c1, rfl⟩, q h' _ (fun b o e => k b o e) (fun b o e => Heap.get?_push_of_some _ (Heap.get?_push_of_some _ e)) ((Heap.size_push ..).trans (congrArg (· + 1) sz)) (Heap.get?_push_of_some _ (Heap.get?_push_size _ rfl)) c1⟩
end
/-- the walk: the i-th turn makes a new tuple of the items at the i-th row of L -/
def Itco (xs : List V) (L : List (List Nat)) : It :=
  ⟨fun i _ => i < L.length, fun i H x H' => ∃ T ix, L[i]? = some ix ∧ x = .ref T ∧ H T = none ∧ H' = upd H T (.tup (ix.map fun k => xs.getD k .non)), fun i _ => L.length ≤ i⟩
theorem vals_pick {xs : List V} {us : List Value} (r : Vals xs us) : ∀ ix : List Nat, Vals (ix.map fun k => xs.getD k .non) (ix.map fun k => us.toArray.getD k .none)
  | [] => .nil
  | k :: ix => by
    refine .cons ?_ (vals_pick r ix)
    show RelV (xs.getD k .non) (us.toArray.getD k .none)
    rw [List.getD_eq_getElem?_getD, Array.getD_eq_getD_getElem?, List.getElem?_toArray]
    cases hx : xs[k]? with
    | none =>
      have : us[k]? = none := by
        rw [List.getElem?_eq_none_iff] at hx ⊢
        rw [← r.length]
        exact hx
      rw [this]
      rfl
    | some x =>
      obtain ⟨u, hu, ru⟩ := r.get hx
      rw [hu]
      exact ru
theorem Cst.flds {n : Nat} {h : Heap} {c p : Addr} {L : List (List Nat)} (C : Cst n h c p L) : ∃ o vs, h.get? c = some o ∧ o.cls = .type "itertools.combinations" ∧ o.data = .fields vs := by
  cases C with
  | fresh e _ _ => exact ⟨_, _, e, rfl, rfl⟩
  | begun e _ => exact ⟨_, _, e, rfl, rfl⟩
  | over e => exact ⟨_, _, e, rfl, rfl⟩
theorem turn_comb {P : Program} {w : World} {K : PySem.W.Frag} {tg : Expr} {c p : Addr} {xs : List V} {us : List Value} {L : List (List Nat)} (hpc : p ≠ c) (r : Vals xs us) (hL : ∀ ix ∈ L, ix.length ≤ sizeLine) :
    Turn P w K tg (Itco xs L) [c, p] c (fun i h => Cst us.length h c p (L.drop i) ∧ h.get? p = some (tupO us)) where
  mem := by simp
  obj := fun i h st b hb => by
    have e : b = c ∨ b = p := by simpa using hb
    rcases e with rfl | rfl
    · obtain ⟨o, vs, e, _, e3⟩ := st.1.flds
      exact ⟨_, e, fun v z => by rw [e3] at z; cases z⟩
    · exact ⟨_, st.2, fun v z => nomatch z⟩
  keep := fun i h h' st k => ⟨st.1.keep (k c (by simp)), k p (by simp) _ st.2⟩
  item := by
    intro X hP hw hK hc i pins s σ H E I hf st hg
    subst hP hw hK
    have hi : i < L.length := hg
    have ed : L.drop i = L[i] :: L.drop (i + 1) := List.drop_eq_getElem_cons hi
    obtain ⟨C, hp⟩ := st
    rw [ed] at C
    have hsz : us.toArray.size = us.length := List.size_toArray ..
    rw [← hsz] at C
    have hlt : c < s.heap.objs.size := by
      obtain ⟨o, ho, _⟩ := C.ty
      exact Heap.lt_size ho
    have hlp : p < s.heap.objs.size := Heap.lt_size hp
    refine anyItem (s := s) (items := us.toArray) ⟨_, hp, rfl, _, rfl⟩ hpc C fun g Cg hT kg => ⟨_, rfl, ?_⟩
    have new : ObjOk X.prog X.w (upd H s.heap.objs.size (.tup (L[i].map fun k => xs.getD k .non))) g s.heap.objs.size (.tup (L[i].map fun k => xs.getD k .non)) :=
      ⟨by rw [List.length_map]; exact hL _ (List.getElem_mem hi), _, vals_pick r L[i], ⟨_, hT, rfl, _, rfl⟩⟩
    have I1 : Inv X pins σ (upd H s.heap.objs.size (.tup (L[i].map fun k => xs.getD k .non))) { s with heap := g } :=
      I.turnedNew (t' := s.toks) (ch := [c, p]) (fun b ob hb e => kg b ob (fun z => hb (by simp [z])) e) hf (Nat.le_refl _) new
    have hp2 := kg p _ hpc hp
    obtain ⟨o, vs, ho, hcl, hd⟩ := Cg.flds
    refine go_of (s := { s with heap := g }) ho hcl hd (by decide) ⟨.ref s.heap.objs.size, _, I1, rfl, ⟨_, L[i], List.getElem?_eq_getElem hi, rfl, I.hok.fresh (Nat.le_refl _), rfl⟩, ⟨?_, hp2⟩, fun b hb => ?_⟩
    · rw [hsz] at Cg
      exact Cg
    · have e : b = c ∨ b = p := by simpa using hb
      rcases e with rfl | rfl
      · rw [upd_ne (Nat.ne_of_lt hlt)]
        exact (hf _ (by simp)).1
      · rw [upd_ne (Nat.ne_of_lt hlp)]
        exact (hf _ (by simp)).1
  done := by
    intro X hP hw hK hc i pins s σ H E I hf st hg
    subst hP hw hK
    have hi : L.length ≤ i := hg
    obtain ⟨C, hp⟩ := st
    rw [List.drop_eq_nil_of_le hi] at C
    have hsz : us.toArray.size = us.length := List.size_toArray ..
    rw [← hsz] at C
    refine anyEnd (s := s) (items := us.toArray) (I.ok.hd hc) ⟨_, hp, rfl, _, rfl⟩ C fun g kg => ⟨rfl, ?_⟩
    exact I.turnedL (t' := s.toks) (ch := [c, p]) (fun b ob hb e => kg b ob (fun z => hb (by simp [z])) e) hf
  self := fun A i s Q E st h => iter_c (items := us.toArray) (by rw [List.size_toArray]; exact st.1) h
def iComb (K : PySem.W.Frag) (ta : TA) : TI := fun σ H R => ta σ H fun vs H1 => ∃ a xs, vs = [.ref a, .int 2] ∧ SqL K H1 a xs ∧ R (Itco xs (pairsL xs.length)) H1
theorem pi_comb {X : Cx} {tg e e2 : Expr} {ta : TA} {p pos : Pos} (hg : Gl X "combinations") (hm : X.mg "combinations" = some (.type "itertools.combinations")) (ha : PA X [e, e2] ta)
    (hs : starEach [e, e2] X.env = (false, eval e X.env) :: starEach [e2] X.env := by rfl) (hpl : (backTo pos (starEach [e2] X.env)).any (·.1) = false := by rfl) :
    PI X tg (.Call (.Name "combinations" p) [e, e2] [] pos) (iComb X.K ta) := by
  refine ⟨fun pins s σ H R I h => Call_ (ld_glob I hg hm ?_)⟩
  refine PyProof.Rows.callWith_type1 (thn (ha.run pos pins s σ H _ I h) fun us s1 ⟨vs, H1, I1, r1, q1⟩ => ?_) hs hpl
  obtain ⟨a, xs, rfl, hl, q⟩ := q1
  obtain ⟨u1, u2, rfl, ru1, ru2⟩ := vals2 r1
  cases ru1
  obtain ⟨z, rfl⟩ := ru2
  obtain ⟨its, rv, pl, hz⟩ := I1.list hl
  obtain ⟨o, ho, hcl, n, hd⟩ := pl.isList
  refine call_comb2 (r := 2) ho hcl hd (by rw [List.size_toArray, ← rv.length]; exact hz) (by omega) fun h' g k1 k2 sz gp gc => ?_
  have e1 : its.toArray.size = xs.length := by rw [List.size_toArray, rv.length]
  rw [e1] at gc
  have I2 : Inv X pins σ H1 { s1 with heap := h' } := I1.kept (t' := s1.toks) k1
  have I3 : Inv X pins σ H1 { s1 with heap := g } := I2.kept (t' := s1.toks) k2
  have C : Cst its.length g (h'.objs.size + 1) h'.objs.size ((pairsL xs.length).drop 0) := by
    have hC := comb2 xs.length
    rw [List.drop_zero, ← rv.length]
    unfold Comb at hC
    by_cases hlt : 2 > xs.length
    · rw [if_pos hlt] at hC gc
      rw [hC]
      exact .over gc
    · rw [if_neg hlt] at hC gc
      obtain ⟨rest, e, ch⟩ := hC
      rw [e]
      exact .fresh gc (by rw [List.length_range, sizeLine_eq]; omega) ch
  refine iter_c (items := its.toArray) (s := { s1 with heap := g }) (by rw [List.size_toArray]; exact C) ?_
  refine ⟨h'.objs.size + 1, [h'.objs.size + 1, h'.objs.size], _, _, H1, rfl, I3, turn_comb (L := pairsL xs.length) (Nat.ne_of_lt (Nat.lt_succ_self _)) rv (fun ix hx => ?_), ⟨C, ?_⟩, fun b hb => ?_, q⟩
  · obtain ⟨i, j, rfl, _⟩ := pairs_mem hx
    rw [sizeLine_eq]
    show 2 ≤ _
    omega
  · rw [show tupO its = tupO its.toArray.toList from by simp]
    exact gp
  · have e : b = h'.objs.size + 1 ∨ b = h'.objs.size := by simpa using hb
    have hle : h'.objs.size ≤ b := by
      rcases e with rfl | rfl
      · exact Nat.le_succ _
      · exact Nat.le_refl _
    exact I2.fpOk hle (I2.hok.fresh hle)
end ECo
namespace EL
open PySem PySem.Spec PyProof.Rows L2 ECo
variable [TabC]
variable {K : PySem.W.Frag}
/-- the pairs of a list's items, as data -/
def pairsD (ds : List D) : List D := (pairsL ds.length).map fun ix => .tuple (ix.map fun k => ds.getD k .none)
theorem it_comb {H0 : Hp} {xs : List V} {ds : List D} (hx : DpAll K H0 xs ds) : ItOk K (Itco xs (pairsL xs.length)) H0 (pairsD ds) := fun m H' H0' s1 s2 => by
  have len := dpa_len hx
  unfold pairsD
  refine ⟨fun hi => by rw [List.length_map, ← len] at hi; exact hi, fun d e => ?_⟩
  rw [List.getElem?_map] at e
  cases hk : (pairsL ds.length)[m]? with
  | none => rw [hk] at e; cases e
  | some ix =>
    rw [hk] at e
    cases e
    rw [← len] at hk
    refine ⟨(List.getElem?_eq_some_iff.mp hk).1, fun x H2 hy => ?_⟩
    obtain ⟨T, ix', e1, rfl, nT, rfl⟩ := hy
    rw [hk] at e1
    cases e1
    have n0 := sub_none s2 nT
    refine ⟨upd H0' T (.tup (ix.map fun k => xs.getD k .non)), .clean s2 nT, .tup (.of upd_same) ?_⟩
    have hlt : ∀ k ∈ ix, k < xs.length := by
      obtain ⟨i, j, rfl, h1, h2⟩ := pairs_mem (List.mem_of_getElem? hk)
      intro k hk'
      rcases List.mem_cons.mp hk' with rfl | hk'
      · omega
      · cases List.mem_singleton.mp hk'
        exact h2
    refine dpa_of' (by rw [List.length_map, List.length_map]) fun j v d hv hd => ?_
    rw [List.getElem?_map] at hv hd
    cases hj : ix[j]? with
    | none => rw [hj] at hv; cases hv
    | some k =>
      rw [hj] at hv hd
      cases hv
      cases hd
      have hk2 := hlt k (List.mem_of_getElem? hj)
      obtain ⟨d, hd, kd⟩ := dpa_getV hx (List.getElem?_eq_getElem hk2)
      show Dp K _ (xs.getD k V.non) (ds.getD k PyData.none)
      rw [List.getD_eq_getElem?_getD, List.getD_eq_getElem?_getD, List.getElem?_eq_getElem hk2, hd]
      exact dp_mono (same_new n0) (dp_mono s1 kd)
theorem ei_comb {ρ : List Sl} {ta : TA} {ds : List D} (h : EvC K ta ρ [.list ds, .int 2]) : Ev_It K (iComb K ta) ρ (pairsD ds) := fun B B0 σ H H0 r R q => h B B0 σ H H0 r _ fun vs H1 H01 w k => by
  cases k with
  | cons k1 k =>
    cases k with
    | cons k2 k =>
      cases k
      cases k2
      cases k1 with
      | lst h1 h2 => exact ⟨_, _, rfl, Same.seq w.sub h1, q _ H1 H01 w (it_comb h2)⟩
end EL
namespace EK
open PySem PySem.Spec PyProof.Rows L2 EL ECo
variable {X : Cx} {K : PySem.W.Frag}
theorem comb {tg e e2 : Expr} {ta : TA} {p pos : Pos} (hg : Gl X "combinations") (hm : X.mg "combinations" = some (.type "itertools.combinations")) (ha : PA X [e, e2] ta)
    (hs : starEach [e, e2] X.env = (false, eval e X.env) :: starEach [e2] X.env := by rfl) (hpl : (backTo pos (starEach [e2] X.env)).any (·.1) = false := by rfl) (hK : X.K = K := by rfl) :
    PI X tg (.Call (.Name "combinations" p) [e, e2] [] pos) (iComb K ta) := hK ▸ pi_comb hg hm ha hs hpl
end EK

/-! list(d) of a frozen dict -/
namespace EL
open PySem PySem.Spec PyProof.Rows L2
variable [TabC]
variable {K : PySem.W.Frag}
def rKeysL : List V → Hp → VK → Prop := fun xs H Q => ∃ (a : Addr) (kvs : List (Key × V)), xs = [.ref a] ∧ Rd H a (.dK kvs) ∧ ∀ p, H p = none → Q (.ref p) (upd H p (.lst (kvs.map fun kv => kV kv.1)))
theorem keys_ints : ∀ {ks : List Int} {xs : List V}, xs.length = ks.length → (((ks.map (Sum.inl : Int → Key)).zip xs).map fun kv => kV kv.1) = ks.map V.int
  | [], _, _ => rfl
  | k :: ks, [], h => by cases h
  | k :: ks, x :: xs, h => by
    exact congrArg (List.cons (V.int k)) (keys_ints (ks := ks) (xs := xs) (Nat.succ.inj h))
theorem ev_listD {ρ : List Sl} {te : TE} {ks : List Int} {ds : List D} (h : EvG K te ρ (FrzG K ks ds)) : EvF K (tCB rKeysL (tCons te tNil)) ρ (ks.map .int) := fun B B0 σ H H0 r Q q => h B B0 σ H H0 r _ fun v H1 H01 w ⟨a, o, xs, e1, e2, e3, e4⟩ => by
  subst e1
  refine ⟨a, _, rfl, .inr ⟨o, w.sub _ _ e2⟩, fun p np => ?_⟩
  rw [keys_ints (by rw [dpa_len e3, e4])]
  exact q p _ _ H01 (w.trans (.dirty w.sub np)) (w.e.free np) upd_same (sub_none w.sub np) (dpa_of_ints ks)
end EL
namespace EK
open PySem PySem.Spec PyProof.Rows L2 EL
variable {X : Cx}
theorem listD (hc : X.calm = true) : CallR X (.type "list") rKeysL := call_listD hc
end EK

/-! x in t, x not in t, t a tuple of data of any shape -/
namespace EL
open PySem PySem.Spec PyProof.Rows L2
variable [TabC]
variable {K : PySem.W.Frag}
def rInDT (neg : Bool) (K : PySem.W.Frag) : R2 := fun x y H Q => ∃ d ds, Dp K H x d ∧ Dp K H y (.tuple ds) ∧ SeqAt.shaped d = true ∧ SeqAt.shaped (.tuple ds) = true ∧ Q (.bl (if neg then !ds.any (fun z => PyData.eqv z d) else ds.any fun z => PyData.eqv z d)) H
omit [TabC] in
theorem op_inDT {X : Cx} (hu : X.A.units + 65 < cLine) : OpR X (compareOp .In) (rInDT false X.K) := by
  intro pins s σ H x y v u Q I rx ry h
  obtain ⟨d, ds, hd, he, sd, se, q⟩ := h
  obtain ⟨as, r1⟩ := Dp.reads I d x v hd rx
  obtain ⟨bs, r2⟩ := Dp.reads I (.tuple ds) y u he ry
  exact SeqAt.in_tuple_reads r2 r1 (SeqAt.canLay_of_shaped se) (SeqAt.canLay_of_shaped sd) (room_in_shaped sd hu) ⟨.bl _, H, I, rfl, q⟩
omit [TabC] in
theorem op_notInDT {X : Cx} (hu : X.A.units + 65 < cLine) : OpR X (compareOp .NotIn) (rInDT true X.K) := by
  intro pins s σ H x y v u Q I rx ry h
  obtain ⟨d, ds, hd, he, sd, se, q⟩ := h
  obtain ⟨as, r1⟩ := Dp.reads I d x v hd rx
  obtain ⟨bs, r2⟩ := Dp.reads I (.tuple ds) y u he ry
  exact SeqAt.notIn_tuple_reads r2 r1 (SeqAt.canLay_of_shaped se) (SeqAt.canLay_of_shaped sd) (room_in_shaped sd hu) ⟨.bl _, H, I, rfl, q⟩
theorem rd_inDT (neg : Bool) {x : D} {ds : List D} (h1 : SeqAt.shaped x = true) (h2 : SeqAt.shaped (.tuple ds) = true) : RD K (rInDT neg K) x (.tuple ds) (.bool (if neg then !ds.any (fun z => PyData.eqv z x) else ds.any fun z => PyData.eqv z x)) := fun H H0 v u s k1 k2 Q q =>
  ⟨x, ds, k1.dp s, k2.dp s, h1, h2, q _ H H0 (.refl s) (.bl _)⟩
end EL
namespace EK
open PySem PySem.Spec PyProof.Rows L2 EL
variable {X : Cx} {K : PySem.W.Frag}
theorem inDT (hu : X.A.units + 65 < cLine) (hK : X.K = K := by rfl) : OpR X (compareOp .In) (rInDT false K) := hK ▸ op_inDT hu
theorem notInDT (hu : X.A.units + 65 < cLine) (hK : X.K = K := by rfl) : OpR X (compareOp .NotIn) (rInDT true K) := hK ▸ op_notInDT hu
end EK

/-! truth of a dict that nobody changes; name = {..} frozen at once -/
namespace EL
open PySem PySem.Spec PyProof.Rows L2
variable {X : Cx} {K : PySem.W.Frag}
def tTruZ (ta : TE) : TT := fun σ H Q => ta σ H fun x H' => ∃ a kvs, x = .ref a ∧ Rd H' a (.dK kvs) ∧ Q (!kvs.isEmpty) H'
theorem pt_truZ {a : Expr} {ta : TE} (ha : PE X a ta) (he : ∀ whole, isTrue a X.env whole = (do let v ← whole; standAt a.pos; holding [v] (truthy v)) := by intro _; rfl) : PT X a (tTruZ ta) := by
  refine ⟨fun pins s σ H Q I h => ?_⟩
  refine isTrue_plain (thn (ha.run pins s σ H _ I h) fun v s1 ⟨x, H1, I1, r1, d, kvs, ex, hd, q⟩ => ?_) (he _)
  subst ex
  obtain rfl : v = Value.ref d := r1
  exact d_truth I1 hd fun s' I' => ⟨H1, I', q⟩
/-- name = {k: v for .. in .. if ..} on one line, frozen at once -/
theorem ps_setDcZ {i : Nat} {y : Str} {py : Pos} {kx vx tg iter : Expr} {ifs : List Expr} {scope : Scope} {own : List (Str × Nat)} {pos spos : Pos} {wi : TI} {g : TG} {tt : TT} {tk tv : TE} (hc : X.calm = true) (hN : X.N.Nodup) (hy : X.N[i]? = some y) (hyl : X.env.scope.names.lookup y = some .local)
    (hsw : swapsWith (.DictComp kx vx [⟨tg, iter, ifs, 0⟩] scope pos) (some (.Name y py)) spos.line X.env = pure true) (hi : PI X tg iter wi) (ok : BlkOk X.N X.env.scope scope own)
    (hg : ∀ (s : Shared) (H : Hp) (C : Addr) (cl : List (Str × Addr)) (fp : List Addr), PG (X.blk s H scope (compEnvC scope cl C X.env) fp) tg g) (ht : ∀ (s : Shared) (H : Hp) (C : Addr) (cl : List (Str × Addr)) (fp : List Addr), PTs (X.blk s H scope (compEnvC scope cl C X.env) fp) ifs tt)
    (hk : ∀ (s : Shared) (H : Hp) (C : Addr) (cl : List (Str × Addr)) (fp : List Addr), PE (X.blk s H scope (compEnvC scope cl C X.env) fp) kx tk)
    (he : ∀ (s : Shared) (H : Hp) (C : Addr) (cl : List (Str × Addr)) (fp : List Addr), PE (X.blk s H scope (compEnvC scope cl C X.env) fp) vx tv) (hs : ∀ x, foldedSetIterable iter X.env x = pure x := by intro _; rfl) :
    PS X (.Assign [.Name y py] (.DictComp kx vx [⟨tg, iter, ifs, 0⟩] scope pos) spos) (tAsg (tFrzE (tDc wi g tt tk tv (own.map (·.2)))) (gName i)) := by
  refine ⟨fun pins s σ H D I h => ?_⟩
  rw [exec_Assign_Name_used _ _ _ _ hsw]
  refine wpAny_bind (wpAny_standAt (wpAny_bind ?_))
  show wpAny _ X.A (do let _ ← comprehension (.DictComp kx vx [⟨tg, iter, ifs, 0⟩] scope pos) scope X.env (firstIterPos [⟨tg, iter, ifs, 0⟩] pos) newDict false (eval iter X.env) (some (assign (.Name y py) X.env))) _ _ s
  have h : tDc wi g tt tk tv (own.map (·.2)) σ H (fun x H1 => ∃ d u, x = .ref d ∧ H1 d = some u ∧ Mut (some u) ∧ ∀ od, gName i x σ (upd H1 d (.frz od u)) D.nx) := h
  refine wpAny_bind (thn (dc_core (Qf := fun _ s' => SP X pins D .next s') hc hN I hi ok hg ht hk he hs h fun L C s' m H' I' q hn f => ?_) fun _ s' hq => wpAny_pure (wpAny_pure hq))
  show wpAny _ _ (assign (.Name y py) X.env (.ref L)) _ _ _
  obtain ⟨d, u, ed, hd, mu, q⟩ := q
  cases ed
  obtain ⟨od, I'⟩ := I'.lock hd mu
  obtain ⟨f0, f1, f2, f3, f4, f5⟩ := f
  have f0 : upd H' L (.frz od u) C = none := by
    rw [upd_ne (fun z => by rw [z, hd] at f0; cases f0)]
    exact f0
  refine wpAny_assign_Name (store_ok2 (v := V.ref L) I' hN hy (.inl hyl) rfl (fun s2 I2 ⟨a, sb, ha⟩ => ?_) (.inr hyl))
  have haC : C ≠ a := by
    rcases ha with z | z
    · rw [z]; exact f1
    · exact fun e => f4 y a z e.symm
  refine ⟨m, hn.sameBut sb haC, fun h3 sb3 => ?_⟩
  exact ⟨_, _, I2.turned (t' := s2.toks) (fun b o hb e => (sb3.2 b hb).trans e) f0 f1 f3 f4 f5, q od⟩
end EL
namespace EL
open PySem PySem.Spec PyProof.Rows L2
variable [TabC]
variable {K : PySem.W.Frag}
theorem et_truZ {ρ : List Sl} {te : TE} {ks : List Int} {ds : List D} (h : EvG K te ρ (FrzG K ks ds)) : EvT K (tTruZ te) ρ (!ks.isEmpty) := fun B B0 σ H H0 r Q q => h B B0 σ H H0 r _ fun v H1 H01 w ⟨a, o, xs, e1, e2, e3, e4⟩ => by
  have e : ((ks.map (Sum.inl : Int → Key)).zip xs).isEmpty = ks.isEmpty := by
    have hl : xs.length = ks.length := by rw [dpa_len e3, e4]
    cases ks with
    | nil => rfl
    | cons k ks =>
      cases xs with
      | nil => cases hl
      | cons x xs => rfl
  refine ⟨a, _, e1, .inr ⟨o, w.sub _ _ e2⟩, ?_⟩
  rw [e]
  exact q H1 H01 w
end EL

/-! all(d.values()) of a dict of lists; two dicts of data told apart -/
namespace EL
open PySem PySem.Spec PyProof.Rows L2
/-- the values of a dict are lists, and which of them hold something -/
def ValsTr (K : PySem.W.Frag) (H : Hp) (kvs : List (Key × V)) (bs : List Bool) : Prop := bs.length = kvs.length ∧ ∀ (i : Nat) (k : Key) (v : V), kvs[i]? = some (k, v) → ∃ p xs, v = .ref p ∧ SqL K H p xs ∧ bs[i]? = some (!xs.isEmpty)
def tAllVals (K : PySem.W.Frag) (td : TE) : TE := fun σ H Q => td σ H fun x H1 => ∃ a kvs bs, x = V.ref a ∧ H1 a = some (.dK kvs) ∧ ValsTr K H1 kvs bs ∧ Q (.bl (bs.all id)) H1
section
variable {X : Cx} [TabC]
theorem pe_allVals {K : PySem.W.Frag} {o : Expr} {p pos apos mpos : Pos} {td : TE} (hc : X.calm = true) (hg : Gl X "all") (hm : X.mg "all" = none) (hd : PE X o td) (hbase : attributeBase o "values" X.env (eval o X.env) = eval o X.env := by rfl) (hline : (apos.endLine == mpos.line) = true := by rfl)
    (hse : starEach [Expr.Call (.Attribute o "values" apos) [] [] mpos] X.env = [(false, eval (Expr.Call (.Attribute o "values" apos) [] [] mpos) X.env)] := by rfl) (hK : X.K = K := by rfl) :
    PE X (.Call (.Name "all" p) [.Call (.Attribute o "values" apos) [] [] mpos] [] pos) (tAllVals K td) := by
  subst hK
  refine ⟨fun pins s σ H Q I h => ?_⟩
  refine wpAny_Call_Name_kw (ld_blt I hg hm (u := .builtin "all") (by first | rfl | decide +kernel) ?_ (by first | decide +kernel | decide) (by first | decide +kernel | decide))
  rw [hse]
  refine PySem.callWith_builtin1 (wpAny_Call_method0_late hbase hline (thn (hd.run pins s σ H _ I h) fun v s1 ⟨x, H1, I1, r1, a, kvs, bs, ex, ha, ⟨hl, hv⟩, q⟩ => ?_))
  subst ex
  obtain rfl : v = Value.ref a := r1
  obtain ⟨_, hsys, vs, rel, dof⟩ := dk_of I1.hok ha
  obtain ⟨ep, dat⟩ := dof.dictAt
  have dat' := dat
  obtain ⟨ob, es, ho, ex, hdat, hko, hpr, hnd⟩ := dat'
  have hlt : a < s1.heap.objs.size := Heap.lt_size ho
  refine ⟨"dict", "dict.values", F.plainAttrs_dict, F.slot_dict_values, F.type_dict_values, ⟨ob, ho, ex.1⟩, fun b e => ?_, Calls.callWith_builtin rfl (PySem.evalArgs_none ?_)⟩
  · cases e
    exact ⟨ob, ho, ex.2.1⟩
  refine call_meetsIn F.slot_dict_values ⟨ob, ho, ex.1⟩ F.entry_dict_values (F.args_dict_values_1 _) (meets_dict_values (mixKind X.prog X.w) a hsys) ⟨⟨vs, dof⟩, ?_⟩
  let vo : Obj := { cls := .type "dict_values", data := .fields #[.ref a] }
  have k1 : ∀ b u, s1.heap.get? b = some u → (s1.heap.push vo).get? b = some u := fun b u e => Heap.get?_push_of_some _ e
  have dat1 : (s1.heap.push vo).DictAt (mixKind X.prog X.w) a vs ep := dat.keep k1
  have hsz : (s1.heap.push vo).objs.size = s1.heap.objs.size + 1 := Heap.size_push _ _
  have hlen : vs.length = bs.length := by rw [hl]; exact (KV.length rel).symm
  refine call_all_walkH (wpAny_pyIter_values (v := s1.heap.objs.size) (d := a) ⟨vo, Heap.get?_push_size _ rfl, rfl, rfl⟩ dat1 ?_)
  have noo : ∀ b u, s1.heap.get? b = some u → b ∉ [(s1.heap.push vo).objs.size] := fun b u e hmem => by
    have e1 : b = (s1.heap.push vo).objs.size := List.mem_singleton.mp hmem
    have e2 := Heap.lt_size e
    rw [e1, hsz] at e2
    exact absurd e2 (Nat.not_lt.mpr (Nat.le_succ _))
  refine ⟨_, _, _, _, _, _, _, s1.heap, fun i => bs.getD i true, rfl, (Walks.dictValues (knd := mixKind X.prog X.w) (A := X.A.in1) (I.ok.hd hc) (s1.heap.push vo).objs.size a (by rw [hsz]; exact Nat.ne_of_lt (Nat.lt_succ_of_lt hlt)) vs ep).toS,
    ⟨⟨_, Heap.get?_push_size _ rfl, rfl, rfl⟩, dat1.keep fun b u e => Heap.get?_push_of_some _ e⟩, noo, fun b u e => Heap.get?_push_of_some _ (k1 b u e), ?_, fun s' hmv => ?_⟩
  · rintro i v s2 Q2 E2 keep ⟨k, hk⟩ hq
    obtain ⟨x, h1, h2⟩ := KV.at' rel hk
    obtain ⟨p, xs, rfl, hs, hb⟩ := hv i k x h1
    obtain rfl : v = Value.ref p := h2
    obtain ⟨its, rv, ⟨ol, n, pl1, pl2, pl3, pl4⟩, hz⟩ := I1.list hs
    have hf : ((its.toArray.size : Nat) : Int) < 2 ^ 63 := by
      rw [List.size_toArray, ← rv.length]
      rw [sizeLine_eq] at hz
      omega
    refine wpAny_truthy_list (items := its.toArray) ⟨ol, keep _ _ pl1, pl2, n, pl4⟩ hf ?_
    have e1 : (!its.toArray.isEmpty) = bs.getD i true := by
      rw [List.getD_eq_getElem?_getD, hb]
      show (!its.toArray.isEmpty) = !xs.isEmpty
      have := rv.length
      cases its with
      | nil => cases xs with
        | nil => rfl
        | cons _ _ => cases this
      | cons _ _ => cases xs with
        | nil => cases this
        | cons _ _ => rfl
    rw [e1]
    exact hq _ (Nat.le_succ_of_le (Nat.le_succ _))
  · have ea : (List.range vs.length).all (fun i => bs.getD i true) = bs.all id := by
      rw [hlen]
      exact PySem.W.range_all id true bs
    rw [ea]
    have J := I1.kept (h' := s'.heap) (t' := s'.toks) fun b u e => hmv.heap b u (noo b u e) (Heap.get?_push_of_some _ (k1 b u e))
    obtain ⟨hp, g, d, tk, os⟩ := s'
    have h1 : g = s1.gens := hmv.gens
    have h2 : d = s1.drawn := hmv.drawn
    have h3 : os = s1.os := hmv.os
    subst h1
    subst h2
    subst h3
    exact ⟨.bl _, H1, J, rfl, q⟩
/-- two dicts of data, of the same keys or of so many and so many -/
def rNeZ (K : PySem.W.Frag) : R2 := fun x y H Q => ∃ a b ka kb xs ys da db, x = .ref a ∧ y = .ref b ∧ Rd H a (.dK (((ka : List Int).map Sum.inl).zip xs)) ∧ Rd H b (.dK (((kb : List Int).map Sum.inl).zip ys)) ∧ DpAll K H xs da ∧ DpAll K H ys db ∧ ka.length = da.length ∧ kb.length = db.length ∧
  (∀ d ∈ da, SeqAt.shaped d = true) ∧ (∀ d ∈ db, SeqAt.shaped d = true) ∧ ((ka.length ≠ kb.length ∧ Q (.bl true) H) ∨ (ka = kb ∧ ka.Nodup ∧ Q (.bl (!((da.zip db).all fun p => PyData.eqv p.1 p.2))) H))
theorem hitsZ {A : Around} {pins : List (Addr × Obj)} {σ : L2.St} {H : Hp} {s : Shared} (I : Inv X pins σ H s) (hu : A.in1.units + 64 < cLine) {ks : List Int} {xs ys : List V} {da db : List D} {va vb : List (Key × Value)} (nd : ks.Nodup)
    (ra : KV ((ks.map (Sum.inl : Int → Key)).zip xs) va) (rb : KV ((ks.map (Sum.inl : Int → Key)).zip ys) vb) (hx : DpAll X.K H xs da) (hy : DpAll X.K H ys db) (la : ks.length = da.length) (lb : ks.length = db.length) (sa : ∀ d ∈ da, SeqAt.shaped d = true) (sb : ∀ d ∈ db, SeqAt.shaped d = true) :
    ∀ (l j : Nat), j + l = va.length → PySem.W.KeqHits A.in1 s vb (va.drop j) (((da.zip db).drop j).all fun p => PyData.eqv p.1 p.2)
  | 0, j, e => by
    have hl : (da.zip db).length = va.length := by rw [← KV.length ra, List.length_zip, List.length_zip, List.length_map, dpa_len hx, ← la, ← lb]
    rw [List.drop_of_length_le (by omega), List.drop_of_length_le (by omega)]
    exact .nil
  | l + 1, j, e => by
    have hl : (da.zip db).length = va.length := by rw [← KV.length ra, List.length_zip, List.length_zip, List.length_map, dpa_len hx, ← la, ← lb]
    have hlk : ks.length = va.length := by rw [← hl, List.length_zip, ← la, ← lb, Nat.min_self]
    have hj : j < va.length := by omega
    obtain ⟨⟨key, v⟩, hv⟩ : ∃ p, va[j]? = some p := ⟨va[j], List.getElem?_eq_getElem hj⟩
    obtain ⟨x, hx1, rx⟩ := KV.at' ra hv
    obtain ⟨k, hk, ek, hxj⟩ := kv_get (ks := ks) hx1
    have ek : key = Sum.inl k := ek
    subst ek
    obtain ⟨d, hd⟩ : ∃ d, da[j]? = some d := ⟨da[j]'(by omega), List.getElem?_eq_getElem _⟩
    obtain ⟨d', hd'⟩ : ∃ d, db[j]? = some d := ⟨db[j]'(by omega), List.getElem?_eq_getElem _⟩
    obtain ⟨x', hx2, kx⟩ := dpa_get hx hd
    obtain ⟨y, hy2, ky⟩ := dpa_get hy hd'
    have hxj : xs[j]? = some x := hxj
    rw [hx2] at hxj
    cases hxj
    have hno : ∀ m : Nat, m < j → ks[m]? ≠ some k := fun m hm em => by
      have h1 := (List.getElem?_eq_some_iff.mp em)
      have h2 := (List.getElem?_eq_some_iff.mp hk)
      have := (List.getElem_inj (h₀ := h1.1) (h₁ := h2.1) nd).mp (h1.2.trans h2.2.symm)
      omega
    have rr : RelO (some y) (valueAt vb (Sum.inl k)) := by
      rw [← val_zip hk hy2 hno]
      exact rb.val _
    obtain ⟨y', hy', ry⟩ := rr.some_of
    obtain ⟨as, q1⟩ := Dp.reads I d _ _ kx rx
    obtain ⟨bs, q2⟩ := Dp.reads I d' _ _ ky ry
    have hz : (da.zip db)[j]? = some (d, d') := by rw [List.getElem?_zip_eq_some]; exact ⟨hd, hd'⟩
    rw [List.drop_eq_getElem_cons hj, List.drop_eq_getElem_cons (by omega : j < (da.zip db).length)]
    have e1 : va[j] = (Sum.inl k, v) := by
      have := hv
      rw [List.getElem?_eq_getElem hj] at this
      exact Option.some.inj this
    have e2 : (da.zip db)[j]'(by omega) = (d, d') := by
      have := hz
      rw [List.getElem?_eq_getElem (by omega)] at this
      exact Option.some.inj this
    rw [e1, e2, List.all_cons]
    exact .hit hy' (PySem.W.keq_at q1 q2 (sa d (List.mem_of_getElem? hd)) (sb d' (List.mem_of_getElem? hd')) hu) (hitsZ I hu nd ra rb hx hy la lb sa sb l (j + 1) (by omega))
theorem op_neZ (hu : X.A.units + 65 < cLine) : OpR X (compareOp .NotEq) (rNeZ X.K) := by
  intro pins s σ H x y v u Q I rx ry h
  obtain ⟨a, b, ka, kb, xs, ys, da, db, rfl, rfl, ea, eb, hx, hy, la, lb, sa, sb, q⟩ := h
  obtain rfl : v = Value.ref a := rx
  obtain rfl : u = Value.ref b := ry
  obtain ⟨_, za, va, ra, dda⟩ := dk_rd I.hok ea
  obtain ⟨_, zb, vb, rb, ddb⟩ := dk_rd I.hok eb
  have lva : va.length = ka.length := by rw [← KV.length ra, List.length_zip, List.length_map, dpa_len hx, ← la, Nat.min_self]
  have lvb : vb.length = kb.length := by rw [← KV.length rb, List.length_zip, List.length_map, dpa_len hy, ← lb, Nat.min_self]
  rcases q with ⟨hne, q⟩ | ⟨rfl, nd, q⟩
  · refine PySem.W.keq_ne (knd := mixKind X.prog X.w) (r := true) za zb dda ddb (by omega) (fun e => absurd e (by rw [lva, lvb]; exact hne)) ?_
    have e : (va.length == vb.length) = false := by
      rw [lva, lvb]
      exact beq_eq_false_iff_ne.mpr hne
    rw [e]
    exact ⟨.bl true, H, I, rfl, q⟩
  · refine PySem.W.keq_ne (knd := mixKind X.prog X.w) (r := (da.zip db).all fun p => PyData.eqv p.1 p.2) za zb dda ddb (by omega) (fun _ => ?_) ?_
    · exact hitsZ I (by show X.A.units + 1 + 64 < cLine; omega) nd ra rb hx hy la lb sa sb va.length 0 (by omega)
    · have e : (va.length == vb.length) = true := by
        rw [lva, lvb]
        exact beq_self_eq_true _
      rw [e, Bool.true_and]
      exact ⟨.bl _, H, I, rfl, q⟩
end
end EL
namespace EL
open PySem PySem.Spec PyProof.Rows L2
variable [TabC]
variable {K : PySem.W.Frag} {ρ : List Sl} {P : Post} {i : Nat} {te tu : TE}
def nonE : D → Bool | .list (_ :: _) => true | _ => false
theorem valsTr_of {H H0 : Hp} {ks : List Int} {xs : List V} {lss : List (List D)} (s : Same H0 H) (hx : DpAll K H0 xs (lss.map .list)) (hl : ks.length = lss.length) : ValsTr K H ((ks.map Sum.inl).zip xs) (lss.map fun l => !l.isEmpty) := by
  refine ⟨by rw [List.length_map, List.length_zip, List.length_map, dpa_len hx, List.length_map, hl, Nat.min_self], fun i k v e => ?_⟩
  obtain ⟨k', h1, h2, h3⟩ := kv_get (ks := ks) e
  have hi : i < lss.length := by rw [← hl]; exact (List.getElem?_eq_some_iff.mp h1).1
  have hd : (lss.map PyData.list)[i]? = some (.list lss[i]) := by rw [List.getElem?_map, List.getElem?_eq_getElem hi]; rfl
  obtain ⟨v', g1, g2⟩ := dpa_get hx hd
  have h3 : xs[i]? = some v := h3
  rw [g1] at h3
  cases h3
  obtain ⟨a, ys, rfl, f1, f2⟩ := (show Dq K H H0 _ (.list lss[i]) from .inl g2).lst s
  refine ⟨a, ys, rfl, f1, ?_⟩
  rw [List.getElem?_map, List.getElem?_eq_getElem hi]
  show some (!lss[i].isEmpty) = some (!ys.isEmpty)
  have := dpa_len f2
  cases hq : lss[i] with
  | nil => rw [hq] at this; cases ys with
    | nil => rfl
    | cons _ _ => cases this
  | cons _ _ => rw [hq] at this; cases ys with
    | nil => cases this
    | cons _ _ => rfl
theorem ev_allVals {ks : List Int} {lss : List (List D)} (h : ρ[i]? = some (Sl.dic ks (lss.map .list))) (hl : ks.length = lss.length) : EvD K (tAllVals K (tVar i)) ρ (.bool (lss.all fun l => !l.isEmpty)) := fun B B0 σ H H0 r Q q => by
  obtain ⟨a, xs, e1, e2, e3, e4, e5⟩ := r.obj i _ _ h
  refine ⟨_, e1, a, _, _, rfl, e4, valsTr_of r.sub e5 hl, ?_⟩
  rw [List.all_map]
  exact q _ H H0 (.refl r.sub) (.bl _)
/-- two frozen dicts of data told apart -/
theorem et_neZ {ka kb : List Int} {da db : List D} {b : Bool} (h1 : EvG K te ρ (FrzG K ka da)) (h2 : EvG K tu ρ (FrzG K kb db)) (sa : ∀ d ∈ da, SeqAt.shaped d = true) (sb : ∀ d ∈ db, SeqAt.shaped d = true) (h : (ka.length ≠ kb.length ∧ b = true) ∨ (ka = kb ∧ ka.Nodup ∧ b = !((da.zip db).all fun p => PyData.eqv p.1 p.2))) :
    EvT K (tTest (tOp (rNeZ K) te tu)) ρ b := fun B B0 σ H H0 r Q q => h1 B B0 σ H H0 r _ fun v H1 H01 w1 ⟨a, o, xs, e1, e2, e3, e4⟩ => h2 B B0 σ H1 H01 (r.step w1) _ fun u H2 H02 w2 ⟨a', o', ys, f1, f2, f3, f4⟩ => by
  subst e1
  subst f1
  refine ⟨a, a', ka, kb, xs, ys, da, db, rfl, rfl, .inr ⟨o, w2.sub _ _ (w2.e0 _ _ e2)⟩, .inr ⟨o', w2.sub _ _ f2⟩, dpa_mono (w2.e0.trans w2.sub) e3, dpa_mono w2.sub f3, e4, f4, sa, sb, ?_⟩
  rcases h with ⟨hne, rfl⟩ | ⟨e, nd, rfl⟩
  · exact .inl ⟨hne, _, rfl, q H2 H02 (w1.trans w2)⟩
  · exact .inr ⟨e, nd, _, rfl, q H2 H02 (w1.trans w2)⟩
theorem Wd.ownW {B B0 H H0 : Hp} {a : Addr} {κ κ' : Option (List Int)} {xs ys : List V} (w : Wd B B0 H H0) (n : B a = none) (h : H a = some (mkO κ xs)) (z : H0 a = none) : Wd B B0 (upd H a (mkO κ' ys)) H0 :=
  ⟨w.e.own n h, w.e0, fun b o hb => by
    rw [upd_ne (ne_of_none hb z)]
    exact w.sub b o hb, w.new, fun t => (w.tb t).own h⟩
/-- one's own dict, frozen: it is in the clean heap from then on -/
theorem Wd.lockW {B B0 H H0 : Hp} {a : Addr} {ks : List Int} {xs : List V} (w : Wd B B0 H H0) (n : B a = none) (h : H a = some (mkO (some ks) xs)) (z : H0 a = none) (od : Obj) : Wd B B0 (upd H a (.frz od (mkO (some ks) xs))) (upd H0 a (.frz od (mkO (some ks) xs))) := by
  refine ⟨⟨fun b u hb nt => ?_, fun b hb => ?_⟩, fun b u hb => ?_, same_upd2 w.sub, fun b o hb => ?_, fun t => ?_⟩
  · rw [upd_ne (ne_of_none hb n)]
    exact w.e.o b u hb nt
  · by_cases hba : b = a
    · rw [hba]; exact n
    · rw [upd_ne hba] at hb
      exact w.e.fr b hb
  · rw [upd_ne fun e => by rw [e] at hb; exact absurd (w.e0 a u hb) (by rw [z]; exact fun h => nomatch h)]
    exact w.e0 b u hb
  · by_cases hba : b = a
    · rw [hba]; exact .inr n
    · rw [upd_ne hba] at hb
      exact w.new b o hb
  · intro p hp
    obtain ⟨h1, ps0, h2, h3, h4⟩ := t p hp
    obtain ⟨g1, ps, g2, g3, g4⟩ := w.tb t p hp
    have nap : p.1 ≠ a := fun z => by rw [z, n] at h2; cases h2
    refine ⟨by rw [upd_ne nap]; exact g1, ps, by rw [upd_ne nap]; exact g2, g3, fun pos cv hc => ?_⟩
    obtain ⟨c, e1, e2⟩ := g4 pos cv hc
    refine ⟨c, e1, ?_⟩
    rw [upd_ne fun y => by rw [y, z] at e2; cases e2]
    exact e2
/-- return d if .. else {}: one's own dict, frozen as it is given back -/
theorem w_retZ {tt : TT} {b : Bool} {ks : List Int} {ds : List D} (h : ρ[i]? = some (Sl.dic ks ds)) (hl : ks.length = ds.length) (ht : EvT K tt ρ b) (k : P.rg (if b then FrzG K ks ds else FrzG K [] [])) : Wp K (tRet (tFrzE (tIf tt (tVar i) tDNewK))) ρ P := fun B B0 σ H H0 r E m => by
  refine ht B B0 σ H H0 r _ fun H1 H01 w1 => ?_
  have r1 := r.step w1
  cases b with
  | true =>
    rw [if_pos rfl]
    obtain ⟨a, xs, e1, e2, e3, e4, e5⟩ := r1.obj i _ _ h
    refine ⟨_, e1, a, _, rfl, e4, trivial, fun od => m.rg _ _ _ (upd H01 a (.frz od (mkO (some ks) xs))) k (r1.wd.lockW e2 e4 e3 od) ⟨a, od, xs, rfl, upd_same, dpa_mono (same_new e3) e5, hl⟩⟩
  | false =>
    rw [if_neg Bool.false_ne_true]
    refine fun p np => ⟨p, _, rfl, upd_same, trivial, fun od => ?_⟩
    have n0 : H01 p = none := sub_none w1.sub np
    have w2 : Wd H1 H01 (upd H1 p (.dK [])) H01 := .dirty w1.sub np
    have w3 : Wd B B0 (upd H1 p (.dK [])) H01 := r1.wd.trans w2
    have nB : B p = none := r1.wd.e.fr p np
    have := w3.lockW (ks := []) (xs := []) nB upd_same n0 od
    exact m.rg _ _ _ _ k this ⟨p, od, [], rfl, upd_same, .nil, rfl⟩
end EL

/-! {**d, k: v}: how the display is made -/
namespace EL
open PySem PySem.Spec PyProof.Rows L2
section
variable {prog : Program} {w : World} {κ : Type} [DecidableEq κ] {knd : KeyKind prog w κ} {A : Around} {E : Value → Shared → Prop} {s : Shared}
theorem wp_dictPut {d : Addr} {kvs : List (κ × Value)} {k : κ} {key v : Value} {Q : Unit → Shared → Prop} (hkey : knd.is k key = true) (hm : s.heap.DictOf knd d kvs)
    (hQ : ∀ h', h'.DictOf knd d (stored kvs k v) → Heap.SameBut d s.heap h' → Q () { s with heap := h' })
    (hsz : kvs.length ≤ sizeLine) :
    wpAny (model prog w) A (dictPut d (knd.hash k) key v) Q E s := by
  obtain ⟨o, es, ep, ho, hc, hd, hk, hp, hn⟩ := hm
  have hes : es.size ≤ sizeLine := by
    have e1 := hp.length
    rw [Array.length_toList] at e1
    omega
  unfold dictPut
  refine wpAny_bind (wpAny_dictFind_of hkey ho hd hk ?_)
  have hidx : (es.findIdx? fun e => knd.is k e.key) = kvs.findIdx? fun kv => decide (kv.1 = k) := by
    rw [← hp.findIdx k]; obtain ⟨l⟩ := es; simp
  cases hi : es.findIdx? fun e => knd.is k e.key with
  | some i =>
    refine wpAny_updateDict ho hd (hQ _ ⟨_, _, ep, Heap.get?_update_self _ ho (Obj.isFreed_of_dict (Obj.data_mapDict hd _)), hc.mapDict _, Obj.data_mapDict hd _, hk.modify _ _, ?_, ?_⟩ (Heap.SameBut.update ..))
    · rw [stored, if_pos (any_of_findIdx_some (hidx ▸ hi))]
      have hl : (es.toList.findIdx? fun e => knd.is k e.key) = some i := by rw [← hi]; obtain ⟨l⟩ := es; simp
      have := hp.modify hn hl v
      obtain ⟨l⟩ := es
      simpa using this
    · rw [stored, if_pos (any_of_findIdx_some (hidx ▸ hi)), keys_map_store]; exact hn
  | none =>
    have hnot : k ∉ kvs.map (·.1) := not_mem_of_findIdx_none (hidx ▸ hi)
    have hany : ¬ (kvs.any fun kv => decide (kv.1 = k)) = true := by
      rw [List.any_eq_true]; rintro ⟨kv, hkv, he⟩
      exact hnot (List.mem_map.mpr ⟨kv, hkv, of_decide_eq_true he⟩)
    refine wpAny_updateDictKeys (hz := hes) ho hd (hQ _ ⟨_, _, ep + 1, Heap.get?_update_self _ ho (Obj.isFreed_of_dict (Obj.data_mapDictKeys hd _)), hc.mapDictKeys _, Obj.data_mapDictKeys hd _, hk.push hkey _, ?_, ?_⟩ (Heap.SameBut.update ..))
    · rw [stored, if_neg hany]
      have := hp.append hkey (knd.hash k) v
      obtain ⟨l⟩ := es
      simpa using this
    · rw [stored, if_neg hany, List.map_append, List.nodup_append]
      refine ⟨hn, by simp, ?_⟩
      intro a ha b hb
      simp only [List.map_cons, List.map_nil, List.mem_singleton] at hb
      subst hb
      exact fun e => hnot (e ▸ ha)
theorem wp_mergeMapping {d a : Addr} {kvs more : List (κ × Value)} {Q : Unit → Shared → Prop} (hdo : d ≠ a) (hoS : (a == sysModules) = false)
    (hd : s.heap.DictOf knd d kvs) (ha : s.heap.DictOf knd a more) (hk : ∀ (k : κ) (key v : Value), knd.is k key = true → (k, v) ∈ more → ∀ b, key ≠ .ref b)
    (hQ : ∀ h', h'.DictOf knd d (merged kvs more) → Heap.SameBut d s.heap h' → Q () { s with heap := h' }) (hsz : kvs.length + more.length ≤ sizeLine) :
    wpAny (model prog w) A (mergeMapping d (.ref a) false) Q E s := by
  obtain ⟨od, esd, epd, hod, hcd, hdd, hkd, hpd, hnd⟩ := id hd
  obtain ⟨oo, eso, epo, hoo, hco, hdo', hko, hpo, hno⟩ := id ha
  have hlen : more.length = eso.size := by rw [← hpo.length, Array.length_toList]
  have loop : wpAny (model prog w) A (do
      let es ← dictEntries a
      let epoch ← dictEpoch a
      forIn (List.range es.size) PUnit.unit fun i (_ : PUnit) => (do
          let l' ← dictEntries a
          match l'[i]? with
            | some e => do
              holding [e.key, e.val] (dictPut d e.hash e.key e.val)
              let ep' ← dictEpoch a
              if (ep' != epoch) = true then do
                  (unsupported "dict.changed-during-merge" : Sem PUnit)
                  pure (ForInStep.yield PUnit.unit)
                else pure (ForInStep.yield PUnit.unit)
            | _ => do
              (unsupported "dict.changed-during-merge" : Sem PUnit)
              pure (ForInStep.yield PUnit.unit) : Sem (ForInStep PUnit))
      pure ()) Q E s := by
    refine wpAny_bind (wpAny_dictEntries hoo hdo' ?_)
    refine wpAny_bind (wpAny_dictEpoch hoo hdo' ?_)
    refine wpAny_bind ?_
    refine wpAny_forIn_list _
      (fun rest _ s' => ∃ h' i, s' = { s with heap := h' } ∧ rest = (List.range eso.size).drop i ∧ i ≤ eso.size ∧ h'.DictOf knd d (merged kvs (more.take i)) ∧ h'.get? a = some oo ∧ Heap.SameBut d s.heap h')
      _ ?_ ?_ _ _ ⟨s.heap, 0, rfl, rfl, Nat.zero_le _, by simpa [merged] using hd, hoo, Heap.SameBut.refl _ _⟩
    · rintro x rest b s' ⟨h', i, rfl, hr, hi, hd', hoo', hs'⟩
      have hlt : i < eso.size := by
        rcases Nat.lt_or_ge i eso.size with h | h
        · exact h
        · rw [List.drop_of_length_le (by rw [List.length_range]; exact h)] at hr
          cases hr
      rw [List.drop_eq_getElem_cons (by rw [List.length_range]; exact hlt), List.getElem_range] at hr
      injection hr with h1 h2
      subst h1
      refine wpAny_bind (wpAny_dictEntries hoo' hdo' ?_)
      rw [Array.getElem?_eq_getElem hlt]
      obtain ⟨⟨k, v⟩, hkv⟩ : ∃ kv, more[x]? = some kv := ⟨more[x]'(by rw [hlen]; exact hlt), List.getElem?_eq_getElem _⟩
      obtain ⟨hkey, hval⟩ := hpo.get? (e := eso[x]) (by simp [hlt]) hkv
      obtain ⟨k', hkey', hhash⟩ := hko eso[x] (Array.getElem_mem hlt)
      obtain rfl : k' = k := knd.inj _ _ _ hkey' hkey
      show wpAny _ _ (holding [eso[x].key, eso[x].val] (dictPut d eso[x].hash eso[x].key eso[x].val) >>= _) _ _ _
      rw [hhash, hval]
      have hmx : (merged kvs (more.take x)).length ≤ sizeLine := by
        have e1 := merged_length_le kvs (more.take x)
        have e2 : (more.take x).length ≤ more.length := by rw [List.length_take]; omega
        omega
      refine wpAny_bind (wpAny_holding (wp_dictPut hkey hd' (fun h'' hd'' hs'' => ?_) hmx))
      have hoo'' : h''.get? a = some oo := (hs''.2 a (Ne.symm hdo)).trans hoo'
      refine wpAny_bind (wpAny_dictEpoch hoo'' hdo' ?_)
      rw [if_neg (by simp)]
      exact wpAny_pure ⟨h'', x + 1, rfl, h2, hlt, by rw [merged_take_succ kvs more x (k', v) hkv]; exact hd'', hoo'', hs'.trans hs''⟩
    · rintro b s' ⟨h', i, rfl, hr, hi, hd', hoo', hs'⟩
      have hin : i = eso.size := by
        rcases Nat.lt_or_ge i eso.size with h | h
        · rw [List.drop_eq_getElem_cons (by rw [List.length_range]; exact h)] at hr
          cases hr
        · exact Nat.le_antisymm hi h
      refine wpAny_pure (hQ h' ?_ hs')
      rw [hin, ← hlen, List.take_length] at hd'
      exact hd'
  unfold mergeMapping
  refine wpAny_bind (wpAny_isInstance (T := "dict") ha.typeIs PySem.F.sub_dict_dict ?_)
  rw [if_pos rfl]
  refine wpAny_bind (wpAny_specialOf (T := "dict") (r := some (.builtin "dict.__iter__")) ha.typeIs PySem.F.slot_dict_iter.lookup ?_)
  refine wpAny_bind (wpAny_pure ?_)
  have e1 : ((some (Value.builtin "dict.__iter__") : Option Value) == some (Value.builtin "dict.__iter__")) = true := by decide +kernel
  rw [e1]
  dsimp only
  rw [if_neg (by rw [hoS]; exact Bool.false_ne_true)]
  refine wpAny_bind (wpAny_dictEntries hod hdd ?_)
  by_cases hemp : esd.isEmpty = true
  · rw [if_pos hemp]
    refine wpAny_bind (wpAny_dictEntries hoo hdo' ?_)
    refine wpAny_bind ?_
    rw [← Array.forIn_toList]
    refine wpAny_forIn_list _ (fun rest _ s' => s' = s ∧ ∀ e ∈ rest, e ∈ eso.toList) _ ?_ ?_ _ _ ⟨rfl, fun _ h => h⟩
    · rintro e rest b s' ⟨rfl, hin⟩
      have hnr : ∀ b, e.key ≠ .ref b := fun b eb => by
        have hm := hin e List.mem_cons_self
        obtain ⟨i, hi, he⟩ := List.mem_iff_getElem.mp hm
        obtain ⟨⟨k, v⟩, hkv⟩ : ∃ kv, more[i]? = some kv := ⟨more[i]'(by rw [hlen]; simpa using hi), List.getElem?_eq_getElem _⟩
        obtain ⟨hkey, hval⟩ := hpo.get? (e := e) (by rw [List.getElem?_eq_getElem hi, he]) hkv
        exact hk k e.key v hkey (List.mem_of_getElem? hkv) b eb
      split
      · rename_i b' hb
        exact absurd hb (hnr b')
      · exact wpAny_pure ⟨rfl, fun e he => hin e (List.mem_cons_of_mem _ he)⟩
    · rintro b s' ⟨rfl, _⟩
      exact loop
  · rw [if_neg hemp]
    exact loop
end

theorem dictDisplay_star (l : Sem Value) (k v : Sem Value) : dictDisplay [(none, l), (some k, v)] = (do
    let d ← alloc { cls := .type "dict", data := .dict #[] }
    let m ← holding [.ref d] l
    (((holding [.ref d, m] (mergeMapping d m false)).onRaise fun x => do let _ ← holding [.ref d, m, x] (runValue (.builtin "proto.let_go" {}))).tryCatch fun e => do
        if ← isInstance e (.type "AttributeError") then
          rule "dict.display.not-a-mapping"; raiseError "TypeError" s!"'{← typeNameOf m}' object is not a mapping"
        throw e).onRaise fun x => do let _ ← holding [.ref d, x] (runValue (.builtin "proto.let_go" {}))
    let sub ← holding [.ref d] (subDict [(k, v)])
    (holding [.ref d, .ref sub] (mergeMapping d (.ref sub) false)).onRaise fun x => do let _ ← holding [.ref d, x] (runValue (.builtin "proto.let_go" {}))
    pure (.ref d)) := by
  unfold dictDisplay
  dsimp only
  simp only [List.forIn_cons, List.forIn_nil, List.isEmpty_nil, if_true, pure_bind, bind_assoc, List.nil_append, List.length_singleton]
  have e17 : ((1 : Nat) == 17) = false := rfl
  simp only [e17, Bool.false_eq_true, if_false, pure_bind, List.isEmpty_cons, bind_assoc]
end EL
namespace EL
open PySem PySem.Spec PyProof.Rows L2
def IntKs (more : List (Key × V)) : Prop := ∀ p ∈ more, ∃ i : Int, p.1 = Sum.inl i
section
variable {X : Cx} {pins : List (Addr × Obj)} {σ : L2.St} {H : Hp} {s : Shared}
theorem kv_mem {kvs : List (Key × V)} {vs : List (Key × Value)} (r : KV kvs vs) {k : Key} {v : Value} (h : (k, v) ∈ vs) : ∃ x, (k, x) ∈ kvs := by
  unfold KV at r
  induction r with
  | nil => cases h
  | @cons p q ps qs a t ih =>
    rcases List.mem_cons.mp h with e | h
    · obtain ⟨a1, a2⟩ := a
      rw [← e] at a1
      obtain ⟨p1, p2⟩ := p
      have a1 : p1 = k := a1
      subst a1
      exact ⟨p2, List.mem_cons_self⟩
    · obtain ⟨x, hx⟩ := ih h
      exact ⟨x, List.mem_cons_of_mem _ hx⟩
theorem d_merge {A : Around} {E : Value → Shared → Prop} {D a : Addr} {kvs more : List (Key × V)} {Q : Unit → Shared → Prop} (I : Inv X pins σ H s) (hD : H D = some (.dK kvs)) (ha : Rd H a (.dK more)) (hne : D ≠ a) (hk : IntKs more) (hz : kvs.length + more.length ≤ sizeLine)
    (h : ∀ s', Inv X pins σ (upd H D (.dK (mergeK kvs more))) s' → Q () s') : wpAny (model X.prog X.w) A (mergeMapping D (.ref a) false) Q E s := by
  obtain ⟨z, hd, vs, rel, dd⟩ := dk_of I.hok hD
  obtain ⟨z2, hd2, vs2, rel2, dd2⟩ := dk_rd I.hok ha
  have hl : (mergeK kvs more).length ≤ sizeLine := Nat.le_trans (length_mergeK more kvs) hz
  refine wp_mergeMapping hne hd2 dd dd2 (fun k key v hkey hm b eb => ?_) (fun h' dd' hs => h _ ?_) (by rw [← rel.length, ← rel2.length]; exact hz)
  · obtain ⟨x, hx⟩ := kv_mem rel2 hm
    obtain ⟨i, ei⟩ := hk _ hx
    have ei : k = Sum.inl i := ei
    subst ei
    subst eb
    cases hkey
  · have he : ∃ q, h'.get? D = some q := let ⟨q, _, _, hq, _⟩ := dd'; ⟨q, hq⟩
    exact d_write I (by rw [hD]; exact True.intro) hs he (dk_new hl hd (rel2.merge rel) dd')
/-- {**l, k: v}: l a dict with numbers as keys, k a number; the new dict first, then the one for what is added -/
def tDispS (tl tk tv : TE) : TE := fun σ H Q => ∀ p, H p = none → tl σ (upd H p (.dK [])) fun x H1 => ∃ a more, x = V.ref a ∧ Rd H1 a (.dK more) ∧ a ≠ p ∧ IntKs more ∧ H1 p = some (.dK []) ∧ more.length ≤ 1000 ∧
  ∀ q, upd H1 p (.dK (mergeK [] more)) q = none → tk σ (upd (upd H1 p (.dK (mergeK [] more))) q (.dK [])) fun y H2 => tv σ H2 fun z H3 => ∃ i : Int, y = V.int i ∧ H3 q = some (.dK []) ∧ H3 p = some (.dK (mergeK [] more)) ∧ q ≠ p ∧
    Q (.ref p) (upd (upd H3 q (.dK [(Sum.inl i, z)])) p (.dK (putK (mergeK [] more) (Sum.inl i) z)))
theorem pe_dispS {l k v : Expr} {pos : Pos} {tl tk tv : TE} (hl : PE X l tl) (hk : PE X k tk) (hv : PE X v tv) : PE X (.Dict [none, some k] [l, v] pos) (tDispS tl tk tv) := by
  refine ⟨fun pins s σ H Q I h => ?_⟩
  have hn := I.hok.fresh (Nat.le_refl s.heap.objs.size)
  have I1 := I.laid (a := s.heap.objs.size) (o := .dK []) (h' := s.heap.push { cls := .type "dict", data := .dict #[] }) (t' := s.toks) (fun _ _ q => Heap.get?_push_of_some _ q) (Nat.le_refl _) (dk_empty s.heap I.big)
  rw [arm_eval_Dict]
  refine wpAny_bind (wpAny_standAt ?_)
  show wpAny _ _ (dictDisplay [(none, do let x ← eval l X.env; standAt pos; pure x), (some (eval k X.env), do let x ← eval v X.env; standAt pos; pure x)]) _ _ _
  rw [dictDisplay_star]
  refine wpAny_bind (wpAny_alloc ?_)
  refine wpAny_bind (wpAny_holding (wpAny_bind (thn (hl.run pins _ σ _ _ I1 (h _ hn)) fun u s1 ⟨x, H1, I2, rx, a, more, ex, ha, nap, ik, hp, hm, q1⟩ => wpAny_bind (wpAny_standAt (wpAny_pure ?_)))))
  subst ex
  obtain rfl : u = Value.ref a := rx
  have hz1 : (mergeK [] more).length ≤ 1000 := by
    have := length_mergeK more []
    rw [List.length_nil] at this
    omega
  refine wpAny_bind (wpAny_onRaise (wpAny_tryCatch (wpAny_onRaise (wpAny_holding (d_merge I2 hp ha (Ne.symm nap) ik (by rw [List.length_nil, sizeLine_eq]; omega) fun s2 I3 => ?_)))))
  have hn2 := I3.hok.fresh (Nat.le_refl s2.heap.objs.size)
  have I4 := I3.laid (a := s2.heap.objs.size) (o := .dK []) (h' := s2.heap.push { cls := .type "dict", data := .dict #[] }) (t' := s2.toks) (fun _ _ q => Heap.get?_push_of_some _ q) (Nat.le_refl _) (dk_empty s2.heap I3.big)
  refine wpAny_bind (wpAny_holding ?_)
  refine wpAny_subDict (knd := mixKind X.prog X.w) (Nat.le_of_ble_eq_true rfl) ?_
  refine evalPairs_cons (thn (hk.run pins _ σ _ _ I4 (q1 _ hn2)) fun y' s3 ⟨y, H2, I5, ry, q2⟩ => wpAny_bind (thn (hv.run pins _ σ _ _ I5 q2) fun z' s4 ⟨z, H3, I6, rz, i, ey, hq, hp3, nqp, q3⟩ => wpAny_bind (wpAny_standAt (wpAny_pure (evalPairs_nil ?_)))))
  subst ey
  obtain ⟨_, hd, vs0, r0, dd⟩ := dk_of I6.hok hq
  cases r0
  refine ⟨[(Sum.inl i, z')], ⟨kV_is (k := Sum.inl i) ry, rfl, True.intro⟩, dd, fun h' dd' hs => ?_⟩
  have he : ∃ q, h'.get? s2.heap.objs.size = some q := let ⟨q, _, _, hq, _⟩ := dd'; ⟨q, hq⟩
  have rk : KV [((Sum.inl i : Key), z)] [(Sum.inl i, z')] := .cons ⟨rfl, rz⟩ .nil
  have I7 := d_write (t' := s4.toks + [(y', z')].length) I6 (by rw [hq]; exact True.intro) hs he (dk_new (kvs := [(Sum.inl i, z)]) (by rw [sizeLine_eq]; exact Nat.le_of_ble_eq_true rfl) hd rk dd')
  refine wpAny_bind (wpAny_onRaise (wpAny_holding (d_merge (more := [(Sum.inl i, z)]) I7 (by rw [upd_ne (Ne.symm nqp)]; exact hp3) (.inl upd_same) (Ne.symm nqp) (fun p hp => ?_) (by rw [List.length_singleton, sizeLine_eq]; omega) fun s5 I8 => wpAny_pure ⟨V.ref s.heap.objs.size, _, I8, rfl, q3⟩)))
  cases List.mem_singleton.mp hp
  exact ⟨i, rfl⟩
end
end EL

/-! {**d, k: v} of a frozen dict -/
namespace EL
open PySem PySem.Spec PyProof.Rows L2
theorem valV_no {kvs : List (Key × V)} {k : Key} (h : ∀ p ∈ kvs, p.1 ≠ k) : valV kvs k = none := by
  have e : (kvs.any fun kv => decide (kv.1 = k)) = false := by
    rw [List.any_eq_false]
    intro p hp
    rw [decide_eq_true_iff]
    exact h p hp
  rw [valV_any] at e
  cases hv : valV kvs k with
  | none => rfl
  | some v => rw [hv] at e; cases e
theorem mergeK_zip : ∀ (ks : List Int) (xs : List V) (acc : List (Key × V)), ks.Nodup → (∀ k ∈ ks, ∀ p ∈ acc, p.1 ≠ Sum.inl k) → mergeK acc ((ks.map (Sum.inl : Int → Key)).zip xs) = acc ++ (ks.map (Sum.inl : Int → Key)).zip xs
  | [], _, acc, _, _ => by
    rw [List.map_nil, List.zip_nil_left, List.append_nil]
    rfl
  | _ :: _, [], acc, _, _ => by
    rw [List.zip_nil_right, List.append_nil]
    rfl
  | k :: ks, x :: xs, acc, nd, h => by
    show mergeK (putK acc (Sum.inl k) x) ((ks.map Sum.inl).zip xs) = acc ++ (Sum.inl k, x) :: (ks.map Sum.inl).zip xs
    rw [putK_new x (valV_no (h k List.mem_cons_self)), mergeK_zip ks xs _ (List.nodup_cons.mp nd).2 fun k' hk' p hp => ?_]
    · rw [List.append_assoc]
      rfl
    · rcases List.mem_append.mp hp with hp | hp
      · exact h k' (List.mem_cons_of_mem _ hk') p hp
      · cases List.mem_singleton.mp hp
        intro e
        cases e
        exact (List.nodup_cons.mp nd).1 hk'
theorem map_zip_no {k : Int} {z : V} : ∀ (ks : List Int) (xs : List V), k ∉ ks → (((ks.map (Sum.inl : Int → Key)).zip xs).map fun kv => if kv.1 = Sum.inl k then (kv.1, z) else kv) = (ks.map (Sum.inl : Int → Key)).zip xs
  | [], _, _ => rfl
  | _ :: _, [], _ => rfl
  | a :: ks, x :: xs, h => by
    have ne : ¬ (Sum.inl a : Key) = Sum.inl k := fun e => by
      cases e
      exact h List.mem_cons_self
    show (if (Sum.inl a : Key) = Sum.inl k then ((Sum.inl a : Key), z) else (Sum.inl a, x)) :: (((ks.map (Sum.inl : Int → Key)).zip xs).map fun kv => if kv.1 = Sum.inl k then (kv.1, z) else kv) = _
    rw [if_neg ne, map_zip_no ks xs fun m => h (List.mem_cons_of_mem _ m)]
    rfl
theorem map_zip {k : Int} {z : V} : ∀ (ks : List Int) (xs : List V) (j : Nat), ks.Nodup → ks[j]? = some k → (((ks.map (Sum.inl : Int → Key)).zip xs).map fun kv => if kv.1 = Sum.inl k then (kv.1, z) else kv) = (ks.map (Sum.inl : Int → Key)).zip (xs.set j z)
  | [], _, _, _, h => by cases h
  | _ :: _, [], _, _, _ => rfl
  | a :: ks, x :: xs, 0, nd, h => by
    obtain rfl : a = k := Option.some.inj h
    show (if (Sum.inl a : Key) = Sum.inl a then ((Sum.inl a : Key), z) else (Sum.inl a, x)) :: (((ks.map (Sum.inl : Int → Key)).zip xs).map fun kv => if kv.1 = Sum.inl a then (kv.1, z) else kv) = _
    rw [if_pos rfl, map_zip_no ks xs (List.nodup_cons.mp nd).1]
    rfl
  | a :: ks, x :: xs, j + 1, nd, h => by
    have h : ks[j]? = some k := h
    have ne : ¬ (Sum.inl a : Key) = Sum.inl k := fun e => by
      cases e
      exact (List.nodup_cons.mp nd).1 (List.mem_of_getElem? h)
    show (if (Sum.inl a : Key) = Sum.inl k then ((Sum.inl a : Key), z) else (Sum.inl a, x)) :: (((ks.map (Sum.inl : Int → Key)).zip xs).map fun kv => if kv.1 = Sum.inl k then (kv.1, z) else kv) = _
    rw [if_neg ne, map_zip ks xs j (List.nodup_cons.mp nd).2 h]
    rfl
theorem putK_zip {ks : List Int} {xs : List V} {j : Nat} {k : Int} {z : V} (nd : ks.Nodup) (h : ks[j]? = some k) (hl : xs.length = ks.length) : putK ((ks.map (Sum.inl : Int → Key)).zip xs) (Sum.inl k) z = (ks.map (Sum.inl : Int → Key)).zip (xs.set j z) := by
  have hj := (List.getElem?_eq_some_iff.mp h).1
  unfold putK
  rw [if_pos ?_, map_zip ks xs j nd h]
  rw [List.any_eq_true]
  refine ⟨(Sum.inl k, xs[j]'(by omega)), ?_, by rw [decide_eq_true_iff]⟩
  refine List.mem_of_getElem? (i := j) ?_
  rw [List.getElem?_zip_eq_some, List.getElem?_map, h]
  exact ⟨rfl, List.getElem?_eq_getElem _⟩
variable [TabC]
variable {K : PySem.W.Frag} {ρ : List Sl} {tl tk tv : TE} {ks : List Int} {ds : List D} {d : D} {j : Nat} {k : Int}
theorem ev_dispS (hl : EvG K tl ρ (FrzG K ks ds)) (hk : EvQ K tk ρ (.int k)) (hv : EvD K tv ρ d) (nd : ks.Nodup) (hj : ks[j]? = some k) (hz : ks.length ≤ 1000) : EvDic K (tDispS tl tk tv) ρ ks (ds.set j d) := fun B B0 σ H H0 r Q q => fun p np => by
  have n0 : H0 p = none := sub_none r.sub np
  have w0 : Wd H H0 (upd H p (.dK [])) H0 := .dirty r.sub np
  refine hl B B0 σ _ _ (r.step w0) _ fun v H1 H01 w1 ⟨a, o, xs, e1, e2, e3, e4⟩ => ?_
  have hp1 : H1 p = some (mkO (some []) []) := w1.e.obj (show upd H p (HO.dK []) p = some (mkO (some []) []) from upd_same)
  have z1 : H01 p = none := w1.stay0 (show upd H p (HO.dK []) p = some (mkO (some []) []) from upd_same) n0
  have lx : xs.length = ks.length := by rw [dpa_len e3, e4]
  have lm : ((ks.map (Sum.inl : Int → Key)).zip xs).length ≤ 1000 := by rw [List.length_zip, List.length_map, lx, Nat.min_self]; exact hz
  have em : mergeK [] ((ks.map (Sum.inl : Int → Key)).zip xs) = (ks.map (Sum.inl : Int → Key)).zip xs := mergeK_zip ks xs [] nd fun _ _ p hp => by cases hp
  refine ⟨a, (ks.map Sum.inl).zip xs, e1, .inr ⟨o, w1.sub _ _ e2⟩, fun e => (by rw [e, z1] at e2; cases e2), fun p hp => ?_, hp1, lm, fun qq nq => ?_⟩
  · obtain ⟨m, hm⟩ := List.getElem?_of_mem hp
    obtain ⟨k', _, h2, _⟩ := kv_get (ks := ks) hm
    exact ⟨k', h2⟩
  rw [em] at nq ⊢
  have w2 : Wd H H0 (upd H1 p (mkO (some ks) xs)) H01 := (w0.trans w1).ownW np hp1 z1
  have w3 : Wd H H0 (upd (upd H1 p (mkO (some ks) xs)) qq (.dK [])) H01 := w2.trans (.dirty w2.sub nq)
  have nqp : qq ≠ p := fun e => by
    rw [e] at nq
    rw [upd_same] at nq
    cases nq
  have nHq : H qq = none := w2.e.fr qq nq
  refine hk B B0 σ _ _ (r.step w3) _ fun y H2 H02 w4 k4 => hv B B0 σ _ _ ((r.step w3).step w4) _ fun z H3 H03 w5 k5 => ?_
  have ep2 : (upd (upd H1 p (mkO (some ks) xs)) qq (HO.dK [])) p = some (mkO (some ks) xs) := by rw [upd_ne (Ne.symm nqp)]; exact upd_same
  have eq2 : (upd (upd H1 p (mkO (some ks) xs)) qq (HO.dK [])) qq = some (mkO (some []) []) := upd_same
  have hq3 : H3 qq = some (mkO (some []) []) := (w4.trans w5).e.obj eq2
  have hp3 : H3 p = some (mkO (some ks) xs) := (w4.trans w5).e.obj ep2
  have zq3 : H03 qq = none := (w4.trans w5).stay0 eq2 (sub_none w2.sub nq)
  have zp3 : H03 p = none := (w4.trans w5).stay0 ep2 z1
  refine ⟨k, k4.int, hq3, hp3, nqp, ?_⟩
  rw [putK_zip nd hj lx]
  have w35 := (w3.trans w4).trans w5
  have w6 : Wd H H0 (upd H3 qq (mkO (some [k]) [z])) H03 := w35.ownW nHq hq3 zq3
  have hp6 : (upd H3 qq (mkO (some [k]) [z])) p = some (mkO (some ks) xs) := by rw [upd_ne (Ne.symm nqp)]; exact hp3
  have w7 : Wd H H0 (upd (upd H3 qq (mkO (some [k]) [z])) p (mkO (some ks) (xs.set j z))) H03 := w6.ownW np hp6 zp3
  exact q p (xs.set j z) _ H03 w7 np upd_same zp3 (dpa_set j (dpa_mono (w4.trans w5).e0 e3) k5)
end EL
namespace EK
open PySem PySem.Spec PyProof.Rows L2 EL
variable [TabC]
variable {X : Cx} {K : PySem.W.Frag}
theorem neZ (hu : X.A.units + 65 < cLine) (hK : X.K = K := by rfl) : OpR X (compareOp .NotEq) (rNeZ K) := hK ▸ op_neZ hu
end EK

/-! a for loop whose body gives back values told by a relation; {} frozen; lists of numbers told apart -/
namespace EL
open PySem PySem.Spec PyProof.Rows L2
variable [TabC]
variable {K : PySem.W.Frag} {ρ : List Sl} {P : Post} {ds : List D}
theorem w_forR {wi : TI} {g : TG} {tb : TS} {is : List Nat} (hi : Ev_It K wi ρ ds) (Inv : Nat → List Sl → Prop) (h0 : Inv 0 ρ)
    (hs : ∀ (i : Nat) (d : D) (ρ1 : List Sl), ds[i]? = some d → Inv i ρ1 → ∃ ρ2, Bd K g is d ρ1 ρ2 ∧ Wp K tb ρ2 { nx := Inv (i + 1), ct := Inv (i + 1), bk := P.nx, rt := P.rt, rg := P.rg })
    (hd : ∀ ρ1, Inv ds.length ρ1 → P.nx ρ1) : Wp K (tFor wi g tb) ρ P := fun B B0 σ H H0 r E m =>
  hi B B0 σ H H0 r _ fun J H1 H01 w ok => by
    refine ⟨fun i n σ' H' => n = ds.length - i ∧ i ≤ ds.length ∧ ∃ ρ1 H0', Inv i ρ1 ∧ Rp K B B0 ρ1 σ' H' H0' ∧ Same H01 H0', ⟨_, rfl, Nat.zero_le _, ρ, H01, h0, r.step w, Same.refl _⟩, ?_⟩
    rintro i n σ' H' ⟨rfl, hle, ρ1, H0', inv, r1, s1⟩
    obtain ⟨ok1, ok2⟩ := ok i H' H0' s1 r1.sub
    by_cases hlt : i < ds.length
    · obtain ⟨go, yl⟩ := ok2 ds[i] (List.getElem?_eq_getElem hlt)
      obtain ⟨ρ2, hb, hw⟩ := hs i ds[i] ρ1 (List.getElem?_eq_getElem hlt) inv
      refine .inr ⟨go, fun σ2 H2 => ∃ ρ3 H03, Inv (i + 1) ρ3 ∧ Rp K B B0 ρ3 σ2 H2 H03 ∧ Same H01 H03, fun σ2 H2 ⟨ρ3, H03, a, b, c⟩ => ⟨ds.length - (i + 1), by omega, rfl, hlt, ρ3, H03, a, b, c⟩, fun x H2 hy => ?_⟩
      obtain ⟨H02, w2, k2⟩ := yl x H2 hy
      -- the body, from the present state as the base of what stays clean
      have r2 := r1.step w2
      refine hb B B0 σ' H2 H02 x r2 k2 _ fun σ3 r3 _ => ?_
      -- the clean heap only grows: carried by a base of its own
      have r3' : Rp K B H01 ρ2 σ3 H2 H02 := ⟨⟨r3.wd.e, s1.trans w2.e0, r3.wd.sub, fun a o e => by
        rcases r3.wd.new a o e with z | z
        · exact .inl (w.e0 a o (r.wd.e0 a o z))
        · exact .inr z, fun _ => r3.tab⟩, r3.len, r3.dat, r3.ow, r3.oj, r3.tab, r3.gen⟩
      have backW : ∀ {H5 H05}, Wd B H01 H5 H05 → Wd B B0 H5 H05 := fun {H5 H05} w5 => by
        refine ⟨w5.e, (r.wd.e0.trans w.e0).trans w5.e0, w5.sub, fun a o e => ?_, fun t => w5.tb (t.ext (Same.refl _) (r.wd.e0.trans w.e0) fun b ps hb h0 => by
          cases q : H01 b with
          | none => rfl
          | some u =>
            rcases (r.wd.trans w).new b u q with z | z
            · rw [h0] at z; cases z
            · rw [hb] at z; cases z)⟩
        rcases w5.new a o e with z | z
        · rcases w.new a o z with z | z
          · exact r.wd.new a o z
          · exact .inr (r.wd.e.free z)
        · exact .inr z
      have backR : ∀ {ρ5 σ5 H5 H05}, Rp K B H01 ρ5 σ5 H5 H05 → Rp K B B0 ρ5 σ5 H5 H05 := fun {ρ5 σ5 H5 H05} r5 => by
        refine ⟨⟨r5.wd.e, (r.wd.e0.trans w.e0).trans r5.wd.e0, r5.wd.sub, fun a o e => ?_, fun _ => r5.tab⟩, r5.len, r5.dat, r5.ow, r5.oj, r5.tab, r5.gen⟩
        rcases r5.wd.new a o e with z | z
        · rcases w.new a o z with z | z
          · exact r.wd.new a o z
          · exact .inr (r.wd.e.free z)
        · exact .inr z
      refine hw B H01 σ3 H2 H02 r3' _ ⟨fun ρ5 σ5 H5 H05 k5 r5 => ⟨ρ5, H05, k5, backR r5, r5.wd.e0⟩, fun d v H5 H05 k5 w5 kd => m.rt d v H5 H05 k5 (backW w5) kd, fun ρ5 σ5 H5 H05 k5 r5 => m.nx ρ5 σ5 H5 H05 k5 (backR r5), fun ρ5 σ5 H5 H05 k5 r5 => ⟨ρ5, H05, k5, backR r5, r5.wd.e0⟩, fun φ v H5 H05 z w5 kd => m.rg φ v H5 H05 z (backW w5) kd⟩
    · have e : i = ds.length := by omega
      subst e
      exact .inl ⟨ok1 (Nat.le_refl _), m.nx ρ1 σ' H' H0' (hd ρ1 inv) r1⟩


theorem ev_newD : EvDic K tDNewK ρ [] [] := fun B B0 σ H H0 r Q q => fun p np =>
  q p [] _ H0 (.dirty r.sub np) np upd_same (sub_none r.sub np) .nil
theorem ev_newZ : EvG K (tFrzE tDNewK) ρ (FrzG K [] []) := ev_newD.frz rfl
theorem eqv_ints (ns ms : List Int) : PyData.eqv (.list (ns.map PyData.int)) (.list (ms.map PyData.int)) = decide (ns = ms) := by
  rw [← SeqAt.same_eq_eqv _ _ (by simp only [SeqAt.noMix]; exact PySem.W.noMix_ints ns ms)]
  simp only [PySem.Spec.same]
  exact PySem.W.same_ints ns ms
theorem shp_ints (ns : List Int) : SeqAt.shaped (.list (ns.map PyData.int)) = true := PySem.W.shaped_ints ns
end EL

/-! a dict of lists that the def itself has made and goes on appending to: statements while the lists still change -/
namespace EL
open PySem PySem.Spec PyProof.Rows L2
variable [TabC]
variable {K : PySem.W.Frag}
/-- the dict at name i, the lists at its keys: nobody else knows them -/
def DL (K : PySem.W.Frag) (i : Nat) (ks : List Int) (lss : List (List D)) (B : Hp) (σ : L2.St) (H H0 : Hp) : Prop := ∃ (a : Addr) (ls : List Addr), σ[i]? = some (some (V.ref a)) ∧ B a = none ∧ H0 a = none ∧ H a = some (mkO (some ks) (ls.map V.ref)) ∧ ls.length = ks.length ∧ lss.length = ks.length ∧ ls.Nodup ∧
  ∀ (j : Nat) (l : Addr) (ds : List D), ls[j]? = some l → lss[j]? = some ds → B l = none ∧ H0 l = none ∧ ∃ xs, H l = some (mkO none xs) ∧ DpAll K H0 xs ds
def NoOwn (ρ : List Sl) : Prop := ∀ s ∈ ρ, s.isO = false
section
variable {ρ : List Sl} {P : Post} {i : Nat} {ks : List Int} {lss : List (List D)} {B B0 H H0 H' H0' : Hp} {σ : L2.St}
theorem DL.step (d : DL K i ks lss B σ H H0) (w : Wd H H0 H' H0') : DL K i ks lss B σ H' H0' := by
  obtain ⟨a, ls, e1, e2, e3, e4, e5, e6, e7, e8⟩ := d
  refine ⟨a, ls, e1, e2, w.stay0 e4 e3, w.e.obj e4, e5, e6, e7, fun j l ds h1 h2 => ?_⟩
  obtain ⟨f1, f2, xs, f3, f4⟩ := e8 j l ds h1 h2
  exact ⟨f1, w.stay0 f3 f2, xs, w.e.obj f3, dpa_mono w.e0 f4⟩
theorem DL.at (d : DL K i ks lss B σ H H0) {σ' : L2.St} (e : σ'[i]? = σ[i]?) : DL K i ks lss B σ' H H0 := by
  obtain ⟨a, ls, e1, e8⟩ := d
  exact ⟨a, ls, e.trans e1, e8⟩
/-- an object that no name of ρ owns is changed -/
theorem Rp.poke {a : Addr} {κ κ' : Option (List Int)} {xs ys : List V} (r : Rp K B B0 ρ σ H H0) (hno : NoOwn ρ) (n : B a = none) (h : H a = some (mkO κ xs)) (z : H0 a = none) : Rp K B B0 ρ σ (upd H a (mkO κ' ys)) H0 := by
  refine ⟨r.wd.ownW n h z, r.len, r.dat, fun j s hs ho => ?_, fun j k b s s' h1 h2 o1 => ?_, r.tab.own h, r.gen⟩
  · have := hno s (List.mem_of_getElem? hs)
    rw [ho] at this
    cases this
  · have := hno s (List.mem_of_getElem? h1)
    rw [o1] at this
    cases this
/-- statements while the lists still change -/
def WpD (K : PySem.W.Frag) (i : Nat) (ks : List Int) (t : TS) (lss : List (List D)) (ρ : List Sl) (N : List (List D) → List Sl → Prop) (P : Post) : Prop := NoOwn ρ → ∀ (B B0 : Hp) (σ : L2.St) (H H0 : Hp), Rp K B B0 ρ σ H H0 → DL K i ks lss B σ H H0 → ∀ E : Ends,
  (∀ lss' ρ' σ' H' H0', N lss' ρ' → NoOwn ρ' → Rp K B B0 ρ' σ' H' H0' → DL K i ks lss' B σ' H' H0' → E.nx σ' H') → (∀ (d : D) (v : V) (H H0 : Hp), P.rt d → Wd B B0 H H0 → Dp K H0 v d → E.rt v H) → (∀ (φ : Hp → V → Prop) (v : V) (H H0 : Hp), P.rg φ → Wd B B0 H H0 → φ H0 v → E.rt v H) → t E σ H
/-- the rest of a def from such a state on -/
def WD (K : PySem.W.Frag) (i : Nat) (ks : List Int) (t : TS) (lss : List (List D)) (ρ : List Sl) (P : Post) : Prop := NoOwn ρ → ∀ (B B0 : Hp) (σ : L2.St) (H H0 : Hp), Rp K B B0 ρ σ H H0 → DL K i ks lss B σ H H0 → ∀ E : Ends, Meets K B B0 P E → t E σ H
theorem wd_nxt {N : List (List D) → List Sl → Prop} (k : N lss ρ) : WpD K i ks tNext lss ρ N P := fun hno B B0 σ H H0 r d E n _ _ => n lss ρ σ H H0 k hno r d
theorem wd_seq {t u : TS} {N : List (List D) → List Sl → Prop} (h : WpD K i ks t lss ρ (fun lss' ρ' => WpD K i ks u lss' ρ' N P) P) : WpD K i ks (tSeq t u) lss ρ N P := fun hno B B0 σ H H0 r d E n rt rg =>
  h hno B B0 σ H H0 r d { E with nx := u E } (fun lss' ρ' σ' H' H0' k no' r' d' => k no' B B0 σ' H' H0' r' d' E n rt rg) rt rg
theorem wd_if {c : TT} {b : Bool} {t u : TS} {N : List (List D) → List Sl → Prop} (h : EvT K c ρ b) (h1 : b = true → WpD K i ks t lss ρ N P) (h2 : b = false → WpD K i ks u lss ρ N P) : WpD K i ks (tIfS c t u) lss ρ N P := fun hno B B0 σ H H0 r d E n rt rg =>
  h B B0 σ H H0 r _ fun H' H0' w => by
    cases b with
    | true => rw [if_pos rfl]; exact h1 rfl hno B B0 σ H' H0' (r.step w) (d.step w) E n rt rg
    | false => rw [if_neg Bool.false_ne_true]; exact h2 rfl hno B B0 σ H' H0' (r.step w) (d.step w) E n rt rg
theorem wd_ret {te : TE} {d : D} {N : List (List D) → List Sl → Prop} (h : EvD K te ρ d) (k : P.rt d) : WpD K i ks (tRet te) lss ρ N P := fun hno B B0 σ H H0 r dl E n rt rg =>
  h B B0 σ H H0 r _ fun v H' H0' w kd => rt d v H' H0' k (r.wd.trans w) kd
/-- d[k].append(data) -/
theorem wd_app {ty te : TE} {j : Nat} {k : Int} {d : D} {ds : List D} {N : List (List D) → List Sl → Prop} (hk : EvQ K ty ρ (.int k)) (he : EvD K te ρ d) (hj : ks[j]? = some k) (hno : ∀ m : Nat, m < j → ks[m]? ≠ some k) (hd : lss[j]? = some ds) (hz : ds.length < sizeLine) (q : N (lss.set j (ds ++ [d])) ρ) :
    WpD K i ks (tDrop (tBM K "list" rAppend (tDGet (tVar i) ty) (tCons te tNil))) lss ρ N P := fun no B B0 σ H H0 r dl E n rt rg => by
  obtain ⟨a, ls, e1, e2, e3, e4, e5, e6, e7, e8⟩ := id dl
  refine ⟨_, e1, hk B B0 σ H H0 r _ fun u H1 H01 w1 k1 => ?_⟩
  rw [k1.int]
  obtain ⟨l, hl⟩ : ∃ l, ls[j]? = some l := ⟨ls[j]'(by rw [e5]; exact (List.getElem?_eq_some_iff.mp hj).1), List.getElem?_eq_getElem _⟩
  obtain ⟨f1, f2, xs, f3, f4⟩ := e8 j l ds hl hd
  have g := DGet.k (k := Sum.inl k) (show H1 a = some (.dK ((ks.map Sum.inl).zip (ls.map V.ref))) from w1.e.obj e4)
  rw [val_zip hj (by rw [List.getElem?_map, hl]; rfl : (ls.map V.ref)[j]? = some (V.ref l)) hno] at g
  have r1 := r.step w1
  refine ⟨a, V.ref l, rfl, g, .inl ⟨rfl, _, .of (w1.e.obj f3)⟩, he B B0 σ H1 H01 r1 _ fun v H2 H02 w2 k2 => ?_⟩
  have w12 := w1.trans w2
  have h2 : H2 l = some (mkO none xs) := w12.e.obj f3
  have z2 : H02 l = none := w12.stay0 f3 f2
  refine ⟨l, xs, v, rfl, rfl, h2, by rw [dpa_len f4]; exact hz, ?_⟩
  have r2 := r.step w12
  have r3 : Rp K B B0 ρ σ (upd H2 l (mkO none (xs ++ [v]))) H02 := r2.poke no f1 h2 z2
  refine n _ ρ σ _ H02 q no r3 ?_
  have nla : a ≠ l := fun e => by
    rw [e, f3] at e4
    cases e4
  refine ⟨a, ls, e1, e2, w12.stay0 e4 e3, by rw [upd_ne nla]; exact w12.e.obj e4, e5, by rw [List.length_set]; exact e6, e7, fun m l' ds' h1 h3 => ?_⟩
  by_cases hm : m = j
  · subst hm
    rw [hl] at h1
    cases h1
    rw [List.getElem?_set_self (List.getElem?_eq_some_iff.mp hd).1] at h3
    cases h3
    exact ⟨f1, z2, _, upd_same, dpa_app (dpa_mono w12.e0 f4) (.cons k2 .nil)⟩
  · rw [List.getElem?_set_ne (Ne.symm hm)] at h3
    obtain ⟨c1, c2, ys, c3, c4⟩ := e8 m l' ds' h1 h3
    have nll : l' ≠ l := fun e => by
      rw [e] at h1
      obtain ⟨b1, b2⟩ := List.getElem?_eq_some_iff.mp h1
      obtain ⟨b3, b4⟩ := List.getElem?_eq_some_iff.mp hl
      exact hm ((List.getElem_inj (h₀ := b1) (h₁ := b3) e7).mp (b2.trans b4.symm))
    exact ⟨c1, w12.stay0 c3 c2, ys, by rw [upd_ne nll]; exact w12.e.obj c3, dpa_mono w12.e0 c4⟩
/-- from then on nobody appends any more -/
theorem DL.adopt (hi : i < ρ.length) (r : Rp K B B0 ρ σ H H0) (no : NoOwn ρ) (d : DL K i ks lss B σ H H0) : ∃ H0', Rp K B B0 (ρ.set i (.dic ks (lss.map .list))) σ H H0' := by
  obtain ⟨a, ls, e1, e2, e3, e4, e5, e6, e7, e8⟩ := d
  let H0' : Hp := fun b => if b ∈ ls then H b else H0 b
  have z0 : ∀ b, b ∈ ls → B b = none ∧ H0 b = none ∧ ∃ xs, H b = some (mkO none xs) := fun b hb => by
    obtain ⟨j, hj⟩ := List.getElem?_of_mem hb
    obtain ⟨ds, hds⟩ : ∃ ds, lss[j]? = some ds := ⟨lss[j]'(by rw [e6, ← e5]; exact (List.getElem?_eq_some_iff.mp hj).1), List.getElem?_eq_getElem _⟩
    obtain ⟨f1, f2, xs, f3, _⟩ := e8 j b ds hj hds
    exact ⟨f1, f2, xs, f3⟩
  have e0 : ∀ b, b ∉ ls → H0' b = H0 b := fun b n => if_neg n
  have e1' : ∀ b, b ∈ ls → H0' b = H b := fun b n => if_pos n
  have s01 : Same H0 H0' := fun b u e => by
    rw [e0 b fun m => by rw [(z0 b m).2.1] at e; cases e]
    exact e
  have sH : Same H0' H := fun b u e => by
    by_cases m : b ∈ ls
    · rw [e1' b m] at e; exact e
    · rw [e0 b m] at e; exact r.wd.sub b u e
  have nal : a ∉ ls := fun m => by
    obtain ⟨_, _, xs, hx⟩ := z0 a m
    rw [hx] at e4
    cases e4
  have ha0 : H0' a = none := by rw [e0 a nal]; exact e3
  have tab : TabsC TabC.T H H0' := r.tab.ext (Same.refl _) s01 fun b ps hb h0 => by
    rw [e0 b fun m => by
      obtain ⟨_, _, xs, hx⟩ := z0 b m
      rw [hb] at hx
      cases hx]
    exact h0
  have wd : Wd B B0 H H0' := by
    refine ⟨r.wd.e, r.wd.e0.trans s01, sH, fun b o e => ?_, fun _ => tab⟩
    by_cases m : b ∈ ls
    · exact .inr (z0 b m).1
    · rw [e0 b m] at e
      exact r.wd.new b o e
  have hdp : DpAll K H0' (ls.map V.ref) (lss.map .list) := dpa_of (by rw [List.length_map, List.length_map, e5, e6]) fun j v dd hv hd => by
    rw [List.getElem?_map] at hv hd
    cases hl : ls[j]? with
    | none => rw [hl] at hv; cases hv
    | some l =>
      cases hs : lss[j]? with
      | none => rw [hs] at hd; cases hd
      | some ds =>
        rw [hl] at hv
        rw [hs] at hd
        cases hv
        cases hd
        obtain ⟨f1, f2, xs, f3, f4⟩ := e8 j l ds hl hs
        refine .lst (.of ?_) (dpa_mono s01 f4)
        rw [e1' l (List.mem_of_getElem? hl)]
        exact f3
  have hset : ∀ (j : Nat) (s : Sl), (ρ.set i (.dic ks (lss.map .list)))[j]? = some s → (j = i ∧ s = .dic ks (lss.map .list)) ∨ (j ≠ i ∧ ρ[j]? = some s) := fun j s h => by
    by_cases hj : j = i
    · subst hj
      rw [List.getElem?_set_self hi] at h
      exact .inl ⟨rfl, (Option.some.inj h).symm⟩
    · rw [List.getElem?_set_ne (Ne.symm hj)] at h
      exact .inr ⟨hj, h⟩
  refine ⟨H0', wd, by rw [List.length_set]; exact r.len, fun j dd h => ?_, fun j s h ho => ?_, fun j k b s s' h1 h2 o1 o2 _ _ => ?_, tab, fun j φ h => ?_⟩
  · rcases hset j _ h with ⟨_, q⟩ | ⟨_, q⟩
    · cases q
    · obtain ⟨v, f1, f2⟩ := r.dat j dd q
      exact ⟨v, f1, dp_mono s01 f2⟩
  · rcases hset j _ h with ⟨rfl, rfl⟩ | ⟨_, q⟩
    · exact ⟨a, ls.map V.ref, e1, e2, ha0, e4, hdp⟩
    · have := no s (List.mem_of_getElem? q)
      rw [ho] at this
      cases this
  · have key : ∀ m s, (ρ.set i (.dic ks (lss.map .list)))[m]? = some s → s.isO = true → m = i := fun m s h ho => by
      rcases hset m _ h with ⟨q, _⟩ | ⟨_, q⟩
      · exact q
      · have := no s (List.mem_of_getElem? q)
        rw [ho] at this
        cases this
    rw [key j s h1 o1, key k s' h2 o2]
  · rcases hset j _ h with ⟨_, q⟩ | ⟨_, q⟩
    · cases q
    · obtain ⟨v, f1, f2, f3⟩ := r.gen j φ q
      exact ⟨v, f1, f3 _ _ _ s01 f2, f3⟩
theorem wd_then {t u : TS} (h : WpD K i ks t lss ρ (fun lss' ρ' => i < ρ'.length ∧ Wp K u (ρ'.set i (.dic ks (lss'.map .list))) P) P) : WD K i ks (tSeq t u) lss ρ P := fun hno B B0 σ H H0 r d E m =>
  h hno B B0 σ H H0 r d { E with nx := u E } (fun lss' ρ' σ' H' H0' ⟨hi, k⟩ no' r' d' => by
    obtain ⟨H05, r5⟩ := DL.adopt hi r' no' d'
    exact k B B0 σ' H' H05 r5 E m) m.rt m.rg
end
end EL

/-! {k: [] for ..}: the dict of lists is made; a loop that appends to them; d[k] = v of a key that is there -/
namespace EL
open PySem PySem.Spec PyProof.Rows L2
variable [TabC]
variable {K : PySem.W.Frag}
/-- a new dict of new empty lists -/
def EvDicN (K : PySem.W.Frag) (t : TE) (ρ : List Sl) (ks : List Int) : Prop := ∀ (B B0 : Hp) (σ : L2.St) (H H0 : Hp), Rp K B B0 ρ σ H H0 → ∀ Q : VK,
  (∀ (a : Addr) (ls : List Addr) (H' H0' : Hp), Wd H H0 H' H0' → H a = none → H' a = some (mkO (some ks) (ls.map V.ref)) → H0' a = none → ls.length = ks.length → ls.Nodup → (∀ l ∈ ls, H l = none ∧ H' l = some (mkO none []) ∧ H0' l = none) → Q (.ref a) H') → t σ H Q
section
variable {ρ : List Sl} {P : Post} {te ty tk tv : TE} {ds : List D} {ks : List Int} {i : Nat}
theorem ev_dcN {wi : TI} {g : TG} {tt : TT} {vs is : List Nat} {fk : D → Int} (hi : Ev_It2 K wi ρ ds) (hsub : ∀ i ∈ is, i ∈ vs)
    (hs : ∀ (i : Nat) (d : D), ds[i]? = some d → ∃ ρ2, Bd K g is d (wipeS ρ vs) ρ2 ∧ EvT K tt ρ2 true ∧ EvQ K tk ρ2 (.int (fk d)))
    (nd : (ds.map fk).Nodup) (hl : ds.length < sizeLine) : EvDicN K (tDc wi g tt tk (tLst tNil) vs) ρ (ds.map fk) := fun B B0 σ H H0 r Q q =>
  hi B B0 σ H H0 r _ fun J H1 H01 w ok D nD => by
    refine ⟨fun i n H' => n = ds.length - i ∧ i ≤ ds.length ∧ ∃ (H0' : Hp) (ls : List Addr), Wd H1 H01 H' H0' ∧ H' D = some (mkO (some ((ds.take i).map fk)) (ls.map V.ref)) ∧ H0' D = none ∧ ls.length = i ∧ ls.Nodup ∧ ∀ l ∈ ls, H1 l = none ∧ H' l = some (mkO none []) ∧ H0' l = none, ⟨_, rfl, Nat.zero_le _, H01, [], .dirty w.sub nD, upd_same, sub_none w.sub nD, rfl, List.nodup_nil, fun _ h => nomatch h⟩, ?_⟩
    rintro i n H' ⟨rfl, hle, H0', ls, w1, e1, e0, ll, lnd, lall⟩
    have r1 : Rp K B B0 (wipeS ρ vs) (wipe σ vs) H' H0' := rp_wipe ((r.step w).step w1) vs
    obtain ⟨ok1, ok2⟩ := ok i H' H0' w1
    by_cases hlt : i < ds.length
    · obtain ⟨go, yl⟩ := ok2 ds[i] (List.getElem?_eq_getElem hlt)
      obtain ⟨ρ2, hb, ht, hk⟩ := hs i ds[i] (List.getElem?_eq_getElem hlt)
      have tkk : ds.take (i + 1) = ds.take i ++ [ds[i]] := by rw [List.take_add_one, List.getElem?_eq_getElem hlt]; rfl
      refine .inr ⟨go, fun H2 => ∃ (H02 : Hp) (ls : List Addr), Wd H1 H01 H2 H02 ∧ H2 D = some (mkO (some ((ds.take (i + 1)).map fk)) (ls.map V.ref)) ∧ H02 D = none ∧ ls.length = i + 1 ∧ ls.Nodup ∧ ∀ l ∈ ls, H1 l = none ∧ H2 l = some (mkO none []) ∧ H02 l = none, fun H2 ⟨a, b, z⟩ => ⟨ds.length - (i + 1), by omega, rfl, hlt, a, b, z⟩, fun x H2 hy => ?_⟩
      obtain ⟨H02, w2, k2⟩ := yl x H2 hy
      refine hb B B0 _ H2 H02 x (r1.step w2) k2 _ fun σ2 r2 e2 => ⟨by rw [e2 vs hsub, wipe_twice], ht B B0 σ2 H2 H02 r2 _ fun H3 H03 w3 => ?_⟩
      rw [if_pos rfl]
      refine hk B B0 σ2 H3 H03 (r2.step w3) _ fun y H4 H04 w4 k4 => ⟨Nat.zero_le _, fun p np => ?_⟩
      have w24 := (w2.trans w3).trans w4
      have w14 := w1.trans w24
      have e4 : H4 D = some (mkO (some ((ds.take i).map fk)) (ls.map V.ref)) := w24.e.obj e1
      have z4 : H04 D = none := w24.stay0 e1 e0
      have n0p : H04 p = none := sub_none w14.sub np
      have w5 : Wd H4 H04 (upd H4 p (.lst [])) H04 := .dirty w14.sub np
      have nDp : D ≠ p := fun e => by rw [e, np] at e4; cases e4
      have e5 : (upd H4 p (HO.lst [])) D = some (mkO (some ((ds.take i).map fk)) (ls.map V.ref)) := by rw [upd_ne nDp]; exact e4
      have hl4 : ∀ l ∈ ls, H4 l = some (mkO none []) := fun l h => w24.e.obj (lall l h).2.1
      have npl : p ∉ ls := fun h => by
        have := hl4 p h
        rw [np] at this
        cases this
      have hn : fk ds[i] ∉ (ds.take i).map fk := by
        have sp : ds = ds.take i ++ ds[i] :: ds.drop (i + 1) := by
          rw [← List.drop_eq_getElem_cons hlt, List.take_append_drop]
        rw [sp, List.map_append] at nd
        intro hm
        exact (List.nodup_append.mp nd).2.2 _ hm _ List.mem_cons_self rfl
      have la : (ls.map V.ref).length = ((ds.take i).map fk).length := by rw [List.length_map, List.length_map, List.length_take, ll]; omega
      have eo : mkO (some ((ds.take (i + 1)).map fk)) ((ls ++ [p]).map V.ref) = .dK (putK ((((ds.take i).map fk).map (Sum.inl : Int → Key)).zip (ls.map V.ref)) (Sum.inl (fk ds[i])) (V.ref p)) := by
        rw [putK_new (V.ref p) (val_no hn), tkk, List.map_append, List.map_append]
        show HO.dK ((((ds.take i).map fk ++ [fk ds[i]]).map Sum.inl).zip (ls.map V.ref ++ [V.ref p])) = _
        rw [List.map_append, List.zip_append (by rw [List.length_map, la])]
        rfl
      refine ⟨_, Sum.inl (fk ds[i]), k4.int, e5, ?_, H04, ls ++ [p], ?_, ?_, z4, by rw [List.length_append, ll]; rfl, ?_, fun l hl' => ?_⟩
      · rw [List.length_zip, List.length_map, List.length_map, List.length_take, List.length_map, ll]
        omega
      · rw [eo.symm]
        exact (w14.trans w5).ownW nD e5 z4
      · rw [eo.symm]
        exact upd_same
      · refine List.nodup_append.mpr ⟨lnd, List.nodup_cons.mpr ⟨fun h => (nomatch h), List.nodup_nil⟩, fun a ha b hb => ?_⟩
        rw [List.mem_singleton.mp hb]
        exact fun e => npl (e ▸ ha)
      · rcases List.mem_append.mp hl' with hl' | hl'
        · obtain ⟨c1, c2, c3⟩ := lall l hl'
          have c4 := hl4 l hl'
          refine ⟨c1, ?_, w24.stay0 c2 c3⟩
          have n1 : l ≠ D := fun e => by
            rw [e, e4] at c4
            cases c4
          have n2 : l ≠ p := fun e => by
            rw [e, np] at c4
            cases c4
          rw [upd_ne n1, upd_ne n2]
          exact c4
        · rw [List.mem_singleton.mp hl']
          refine ⟨w14.e.fr p np, ?_, n0p⟩
          rw [upd_ne (Ne.symm nDp)]
          exact upd_same
    · have e : i = ds.length := by omega
      subst e
      rw [List.take_length] at e1
      refine .inl ⟨ok1 (Nat.le_refl _), q D ls H' H0' (w.trans w1) (w.e.free nD) e1 e0 (by rw [ll, List.length_map]) lnd fun l h => ?_⟩
      obtain ⟨c1, c2, c3⟩ := lall l h
      exact ⟨w.e.free c1, c2, c3⟩
/-- the dict is made -/
theorem w_newL {t : TS} (hi : i < ρ.length) (no : NoOwn (ρ.set i .no)) (h : EvDicN K te ρ ks) (k : WD K i ks t (ks.map fun _ => []) (ρ.set i .no) P) : Wp K (tSeq (tAsg te (gName i)) t) ρ P := fun B B0 σ H H0 r E m => by
  refine h B B0 σ H H0 r _ fun a ls H' H0' w na ha n0 ll lnd lall => ?_
  have r1 := r.step w
  refine k no B B0 (σ.set i (some (.ref a))) H' H0' (r1.drop i _) ⟨a, ls, ?_, r.wd.e.fr a na, n0, ha, ll, by rw [List.length_map], lnd, fun j l ds h1 h2 => ?_⟩ E m
  · exact List.getElem?_set_self (by rw [← r.len]; exact hi)
  · obtain ⟨c1, c2, c3⟩ := lall l (List.mem_of_getElem? h1)
    rw [List.getElem?_map] at h2
    obtain ⟨x, _, e⟩ := Option.map_eq_some_iff.mp h2
    subst e
    exact ⟨r.wd.e.fr l c1, c3, [], c2, .nil⟩
theorem wipe_same {σ σ2 : L2.St} {is : List Nat} (h : wipe σ2 is = wipe σ is) {i : Nat} (hi : i ∉ is) : σ2[i]? = σ[i]? := by
  have key : ∀ (τ : L2.St) (vs : List Nat), i ∉ vs → (wipe τ vs)[i]? = τ[i]? := by
    intro τ vs
    induction vs with
    | nil => intro _; rfl
    | cons v vs ih =>
      intro hv
      show ((wipe τ vs).set v none)[i]? = _
      rw [List.getElem?_set_ne (fun e => hv (by rw [e]; exact List.mem_cons_self)), ih fun m => hv (List.mem_cons_of_mem _ m)]
  rw [← key σ2 is hi, h, key σ is hi]
/-- for .. in ..: while the lists still change -/
theorem wd_for {wi : TI} {g : TG} {tb : TS} {is : List Nat} {lss : List (List D)} {N : List (List D) → List Sl → Prop} (hi : Ev_It K wi ρ ds) (hni : i ∉ is) (Inv : Nat → List (List D) → List Sl → Prop) (h0 : Inv 0 lss ρ)
    (hs : ∀ (m : Nat) (d : D) (lss1 : List (List D)) (ρ1 : List Sl), ds[m]? = some d → Inv m lss1 ρ1 → ∃ ρ2, NoOwn ρ2 ∧ Bd K g is d ρ1 ρ2 ∧ WpD K i ks tb lss1 ρ2 (Inv (m + 1)) { nx := fun _ => False, rt := P.rt })
    (hd : ∀ lss1 ρ1, Inv ds.length lss1 ρ1 → N lss1 ρ1) : WpD K i ks (tFor wi g tb) lss ρ N P := fun no B B0 σ H H0 r dl E nx rt rg =>
  hi B B0 σ H H0 r _ fun J H1 H01 w ok => by
    refine ⟨fun m n σ' H' => n = ds.length - m ∧ m ≤ ds.length ∧ ∃ lss1 ρ1 H0', Inv m lss1 ρ1 ∧ NoOwn ρ1 ∧ Rp K B B0 ρ1 σ' H' H0' ∧ DL K i ks lss1 B σ' H' H0' ∧ Same H01 H0', ⟨_, rfl, Nat.zero_le _, lss, ρ, H01, h0, no, r.step w, dl.step w, Same.refl _⟩, ?_⟩
    rintro m n σ' H' ⟨rfl, hle, lss1, ρ1, H0', inv, no1, r1, d1, s1⟩
    obtain ⟨ok1, ok2⟩ := ok m H' H0' s1 r1.sub
    by_cases hlt : m < ds.length
    · obtain ⟨go, yl⟩ := ok2 ds[m] (List.getElem?_eq_getElem hlt)
      obtain ⟨ρ2, no2, hb, hw⟩ := hs m ds[m] lss1 ρ1 (List.getElem?_eq_getElem hlt) inv
      refine .inr ⟨go, fun σ2 H2 => ∃ lss3 ρ3 H03, Inv (m + 1) lss3 ρ3 ∧ NoOwn ρ3 ∧ Rp K B B0 ρ3 σ2 H2 H03 ∧ DL K i ks lss3 B σ2 H2 H03 ∧ Same H01 H03, fun σ2 H2 ⟨l3, ρ3, H03, a, b, c, dd, e⟩ => ⟨ds.length - (m + 1), by omega, rfl, hlt, l3, ρ3, H03, a, b, c, dd, e⟩, fun x H2 hy => ?_⟩
      obtain ⟨H02, w2, k2⟩ := yl x H2 hy
      have r2 := r1.step w2
      refine hb B B0 σ' H2 H02 x r2 k2 _ fun σ3 r3 hwipe => ?_
      have d3 : DL K i ks lss1 B σ3 H2 H02 := (d1.step w2).at (wipe_same (hwipe is fun _ h => h) hni)
      have r3' : Rp K B H01 ρ2 σ3 H2 H02 := ⟨⟨r3.wd.e, s1.trans w2.e0, r3.wd.sub, fun a o e => by
        rcases r3.wd.new a o e with z | z
        · exact .inl (w.e0 a o (r.wd.e0 a o z))
        · exact .inr z, fun _ => r3.tab⟩, r3.len, r3.dat, r3.ow, r3.oj, r3.tab, r3.gen⟩
      have backW : ∀ {H5 H05}, Wd B H01 H5 H05 → Wd B B0 H5 H05 := fun {H5 H05} w5 => by
        refine ⟨w5.e, (r.wd.e0.trans w.e0).trans w5.e0, w5.sub, fun a o e => ?_, fun t => w5.tb (t.ext (Same.refl _) (r.wd.e0.trans w.e0) fun b ps hb h0 => by
          cases q : H01 b with
          | none => rfl
          | some u =>
            rcases (r.wd.trans w).new b u q with z | z
            · rw [h0] at z; cases z
            · rw [hb] at z; cases z)⟩
        rcases w5.new a o e with z | z
        · rcases w.new a o z with z | z
          · exact r.wd.new a o z
          · exact .inr (r.wd.e.free z)
        · exact .inr z
      have backR : ∀ {ρ5 σ5 H5 H05}, Rp K B H01 ρ5 σ5 H5 H05 → Rp K B B0 ρ5 σ5 H5 H05 := fun {ρ5 σ5 H5 H05} r5 => ⟨backW r5.wd, r5.len, r5.dat, r5.ow, r5.oj, r5.tab, r5.gen⟩
      exact hw no2 B H01 σ3 H2 H02 r3' d3 _ (fun l5 ρ5 σ5 H5 H05 k5 n5 r5 d5 => ⟨l5, ρ5, H05, k5, n5, backR r5, d5, r5.wd.e0⟩) (fun d v H5 H05 k5 w5 kd => rt d v H5 H05 k5 (backW w5) kd) fun _ _ _ _ z => z.elim
    · have e : m = ds.length := by omega
      subst e
      exact .inl ⟨ok1 (Nat.le_refl _), nx lss1 ρ1 σ' H' H0' (hd lss1 ρ1 inv) no1 r1 d1⟩
/-- d[k] = v, the key being there -/
theorem w_dset {d : D} {j : Nat} {k : Int} {tv : TE} (hv : EvD K tv ρ d) (h : ρ[i]? = some (Sl.dic ks ds)) (hk : EvQ K ty ρ (.int k)) (nd : ks.Nodup) (hj : ks[j]? = some k) (hl : ks.length = ds.length) (hz : ks.length < sizeLine) (q : P.nx (ρ.set i (.dic ks (ds.set j d)))) :
    Wp K (sDPut (tVar i) ty tv) ρ P := fun B B0 σ H H0 r E m => hv B B0 σ H H0 r _ fun v H1 H01 w1 k1 => by
  have r1 := r.step w1
  obtain ⟨a, xs, e1, e2, e3, e4, e5⟩ := r1.obj i _ _ h
  refine ⟨_, e1, hk B B0 σ H1 H01 r1 _ fun u H2 H02 w2 k2 => ?_⟩
  have r2 := r1.step w2
  obtain ⟨a', xs', f1, f2, f3, f4, f5⟩ := r2.obj i _ _ h
  rw [e1] at f1; cases f1
  rw [k2.int]
  have lx : xs'.length = ks.length := by rw [dpa_len f5, hl]
  have eo : mkO (some ks) (xs'.set j v) = .dK (putK ((ks.map (Sum.inl : Int → Key)).zip xs') (Sum.inl k) v) := by
    rw [putK_zip nd hj lx]
    rfl
  refine ⟨a, upd H2 a (mkO (some ks) (xs'.set j v)), rfl, ?_, m.nx _ _ _ H02 q (r2.writeK (κ1 := some ks) h e1 (dpa_set j f5 (dp_mono w2.e0 k1)))⟩
  rw [eo]
  exact DPut.k (k := Sum.inl k) (show H2 a = some (.dK ((ks.map Sum.inl).zip xs')) from f4) (by rw [List.length_zip, List.length_map]; omega)
end
end EL

/-! data compared by <, sorted; [e for a in xs for b in f(a)] -/
namespace EL
open PySem PySem.Spec PyProof.Rows L2
open PySem.W (AllAlike Sortable dataLe)
variable [TabC]
variable {K : PySem.W.Frag}
/-! ### < -/
def rLtDat (K : PySem.W.Frag) : R2 := fun x y H Q => ∃ d e, Dp K H x d ∧ Dp K H y e ∧ PySem.W.alike d e = true ∧ d ≠ .none ∧ d.depth ≤ 60 ∧ Q (.bl (PySem.W.dataLt d e)) H
theorem op_ltDat {X : Cx} (hu : X.A.units + 64 < cLine) : OpR X (compareOp .Lt) (rLtDat X.K) := by
  intro pins s σ H x y v u Q I rx ry h
  obtain ⟨d, e, hd, he, ha, hn, hz, q⟩ := h
  obtain ⟨as, r1⟩ := Dp.reads I d x v hd rx
  obtain ⟨bs, r2⟩ := Dp.reads I e y u he ry
  exact PySem.W.rcLt_alike d e X.A s v u as bs r1 r2 ha hn (by omega) _ _ _ _ ⟨.bl _, H, I, rfl, q⟩
theorem rd_ltDat {d e : D} (ha : PySem.W.alike d e = true) (hn : d ≠ .none) (hz : d.depth ≤ 60) : RD K (rLtDat K) d e (.bool (PySem.W.dataLt d e)) := fun H H0 v u s k1 k2 Q q =>
  ⟨d, e, k1.dp s, k2.dp s, ha, hn, hz, q _ H H0 (.refl s) (.bl _)⟩
/-! ### sorted -/
def rSortA (K : PySem.W.Frag) : List V → Hp → VK → Prop := fun vs H Q => ∃ (H0 : Hp) (a : Addr) (xs : List V) (ds : List D), vs = [V.ref a] ∧ Same H0 H ∧ SqL K H a xs ∧ DpAll K H0 xs ds ∧ AllAlike ds ∧ Sortable ds ∧ (∀ d ∈ ds, d.depth ≤ 60) ∧
  ∀ ys p, DpAll K H0 ys (ds.mergeSort (dataLe false fun d => d)) → H p = none → Q (.ref p) (upd H p (.lst ys))
theorem dpa_zip {H : Hp} : ∀ {xs : List V} {ds : List D}, DpAll K H xs ds → ∀ b ∈ xs.zip ds, Dp K H b.1 b.2
  | _, _, .nil, _, h => nomatch h
  | _, _, .cons a t, b, h => by
    rcases List.mem_cons.mp h with rfl | h
    · exact a
    · exact dpa_zip t b h
theorem dpa_of_pairs {H : Hp} : ∀ {bs : List (V × D)}, (∀ b ∈ bs, Dp K H b.1 b.2) → DpAll K H (bs.map (·.1)) (bs.map (·.2))
  | [], _ => .nil
  | b :: bs, h => .cons (h b List.mem_cons_self) (dpa_of_pairs fun b' hb => h b' (List.mem_cons_of_mem _ hb))
theorem each_vals : ∀ {out : List Value} {bs : List (V × D)}, PySem.W.EachIs (fun v (b : V × D) => RelV b.1 v) out bs → Vals (bs.map (·.1)) out
  | _, _, .nil => .nil
  | _, _, .cons a t => .cons a (each_vals t)
theorem vals_each : ∀ {xs : List V} {its : List Value} {ds : List D}, Vals xs its → xs.length = ds.length → PySem.W.EachIs (fun v (b : V × D) => RelV b.1 v) its (xs.zip ds)
  | [], _, [], .nil, _ => .nil
  | x :: xs, _, d :: ds, .cons a t, h => .cons a (vals_each t (Nat.succ.inj h))
  | [], _, _ :: _, _, h => by cases h
  | _ :: _, _, [], _, h => by cases h
theorem cr_sortA {X : Cx} (hu : X.A.units + 64 < cLine) : CallR X (.builtin "sorted") (rSortA X.K) := by
  intro pins s σ H vs us Q I r h
  obtain ⟨H0, a, xs, ds, rfl, sub, hs, hd, hal, hk, hz, q⟩ := h
  obtain ⟨its, rv, hl, hsz⟩ := I.list hs
  obtain ⟨u, rfl, ru⟩ := vals1 r
  obtain rfl : u = Value.ref a := ru
  have lx := dpa_len hd
  have hb := dpa_zip hd
  have emap : (xs.zip ds).map (·.2) = ds := by rw [List.map_snd_zip]; omega
  have hreads : ∀ b ∈ xs.zip ds, ∀ v, RelV b.1 v → ∃ as, Reads s.heap v b.2 as := fun b hm v hv => Dp.reads I b.2 b.1 v (dp_mono sub (hb b hm)) hv
  have her : ∀ {vs : List Value} {bs : List (V × D)}, PySem.W.EachIs (fun v (b : V × D) => RelV b.1 v) vs bs → (∀ b ∈ bs, ∀ v, RelV b.1 v → ∃ as, Reads s.heap v b.2 as) → PySem.W.EachIs (fun v (b : V × D) => ∃ as, Reads s.heap v b.2 as) vs bs := by
    intro vs bs e
    induction e with
    | nil => intro _; exact .nil
    | cons a t ih => intro hh; exact .cons (hh _ List.mem_cons_self _ a) (ih fun b hb => hh b (List.mem_cons_of_mem _ hb))
  have e := vals_each rv lx
  refine PySem.W.sorted_data (β := V × D) (enc := fun b => b.2) (R := fun v b => RelV b.1 v) hl.isList e (her e hreads) (by rw [emap]; exact hal) (by rw [emap]; exact hk) (by rw [List.length_zip, lx, Nat.min_self, ← lx]; exact hsz) (fun b hm => ?_) fun out ho eo => ?_
  · have := hz b.2 (by rw [← emap]; exact List.mem_map.mpr ⟨b, hm, rfl⟩)
    omega
  · let bs2 := (xs.zip ds).mergeSort (dataLe false fun b : V × D => b.2)
    have hm2 : ∀ b ∈ bs2, b ∈ xs.zip ds := fun b hb => (List.mergeSort_perm _ _).mem_iff.mp hb
    have ev : Vals (bs2.map (·.1)) out := each_vals eo
    have ed : bs2.map (·.2) = ds.mergeSort (dataLe false fun d => d) := by
      show ((xs.zip ds).mergeSort _).map _ = _
      have hmm := List.map_mergeSort (r := dataLe false fun b : V × D => b.2) (s := dataLe false fun d : D => d) (f := fun b : V × D => b.2) (l := xs.zip ds) (fun _ _ _ _ => rfl)
      rw [emap] at hmm
      exact hmm
    obtain ⟨c, hc⟩ := sortedAll_at s.heap its out.toArray
    have hdp : DpAll X.K H0 (bs2.map (·.1)) (ds.mergeSort (dataLe false fun d => d)) := by
      rw [← ed]
      exact dpa_of_pairs fun b hb2 => hb b (hm2 b hb2)
    have lb : (bs2.map (·.1)).length ≤ sizeLine := by
      rw [List.length_map]
      show ((xs.zip ds).mergeSort _).length ≤ _
      rw [List.length_mergeSort, List.length_zip, lx, Nat.min_self, ← lx]
      exact hsz
    have hfr : s.heap.objs.size ≤ s.heap.objs.size + 1 := Nat.le_succ _
    refine ⟨.ref (s.heap.objs.size + 1), upd H (s.heap.objs.size + 1) (.lst (bs2.map (·.1))), I.laid (t' := s.toks) (fun b o hb => sortedAll_old hb) hfr ⟨lb, out, c, ev, hc⟩, rfl, q _ _ hdp (I.hok.fresh hfr)⟩
theorem cf_sortA {ds : List D} (hal : AllAlike ds) (hk : Sortable ds) (hz : ∀ d ∈ ds, d.depth ≤ 60) : CF K (rSortA K) [.list ds] (ds.mergeSort (dataLe false fun d => d)) := fun H H0 vs s k Q q => by
  obtain ⟨v, rfl, kk⟩ := dq1 k
  obtain ⟨a, xs, rfl, h1, h2⟩ := kk.lst s
  exact ⟨H0, a, xs, ds, rfl, s, h1, h2, hal, hk, hz, fun ys p hy np => q p ys _ H0 (.dirty s np) np upd_same (sub_none s np) hy⟩
end EL
namespace EK
open PySem PySem.Spec PyProof.Rows L2 EL
variable [TabC]
variable {X : Cx} {K : PySem.W.Frag}
theorem ltDat (hu : X.A.units + 64 < cLine) (hK : X.K = K := by rfl) : OpR X (compareOp .Lt) (rLtDat K) := hK ▸ op_ltDat hu
theorem sortA (hu : X.A.units + 64 < cLine) (hK : X.K = K := by rfl) : CallR X (.builtin "sorted") (rSortA K) := hK ▸ cr_sortA hu
end EK

/-! [e for a in xs for b in f(a)]; a dict that nobody changes any more, not frozen -/
namespace EL
open PySem PySem.Spec PyProof.Rows L2
variable [TabC]
variable {K : PySem.W.Frag}
section
variable {ρ : List Sl} {P : Post} {te ty tk tv : TE} {ds : List D} {ks : List Int} {i : Nat}
theorem no_nil : NoOwn [] := fun _ h => nomatch h
theorem no_cons {s : Sl} (h : s.isO = false) (t : NoOwn ρ) : NoOwn (s :: ρ) := fun x hx => by
  rcases List.mem_cons.mp hx with rfl | hx
  · exact h
  · exact t x hx
theorem ef_lc2f {wi wi1 : TI} {g g1 : TG} {tt tt1 : TT} {te : TE} {vs vs1 is is1 : List Nat} {inn : D → List D} {f : D → D → D} (hi : Ev_It2 K wi ρ ds) (hsub : ∀ i ∈ is, i ∈ vs) (hsub1 : ∀ i ∈ is1, i ∈ vs1)
    (hs : ∀ (i : Nat) (d : D), ds[i]? = some d → ∃ ρ2, NoOwn ρ2 ∧ Bd K g is d (wipeS ρ vs) ρ2 ∧ EvT K tt ρ2 true ∧ Ev_It K wi1 ρ2 (inn d) ∧ ∀ (j : Nat) (e : D), (inn d)[j]? = some e → ∃ ρ3, Bd K g1 is1 e (wipeS ρ2 vs1) ρ3 ∧ EvT K tt1 ρ3 true ∧ EvD K te ρ3 (f d e))
    (hl : (ds.flatMap fun d => (inn d).map (f d)).length < sizeLine) : EvF K (tLc2 wi g tt wi1 g1 tt1 te vs vs1) ρ (ds.flatMap fun d => (inn d).map (f d)) := fun B B0 σ H H0 r Q q =>
  hi B B0 σ H H0 r _ fun J H1 H01 w ok D nD => by
    let F : PyData → List PyData := fun d => (inn d).map (f d)
    refine ⟨fun i n H' => n = ds.length - i ∧ i ≤ ds.length ∧ ∃ H0' acc, Wd H1 H01 H' H0' ∧ H' D = some (.lst acc) ∧ H0' D = none ∧ DpAll K H0' acc ((ds.take i).flatMap F), ⟨_, rfl, Nat.zero_le _, H01, [], .dirty w.sub nD, upd_same, sub_none w.sub nD, .nil⟩, ?_⟩
    rintro i n H' ⟨rfl, hle, H0', acc, w1, e1, e0, k1⟩
    have r1 : Rp K B B0 (wipeS ρ vs) (wipe σ vs) H' H0' := rp_wipe ((r.step w).step w1) vs
    obtain ⟨ok1, ok2⟩ := ok i H' H0' w1
    by_cases hlt : i < ds.length
    · obtain ⟨go, yl⟩ := ok2 ds[i] (List.getElem?_eq_getElem hlt)
      obtain ⟨ρ2, hno, hb, ht, hin, hf⟩ := hs i ds[i] (List.getElem?_eq_getElem hlt)
      have tk : ds.take (i + 1) = ds.take i ++ [ds[i]] := by rw [List.take_add_one, List.getElem?_eq_getElem hlt]; rfl
      have sp : ds = ds.take i ++ ds[i] :: ds.drop (i + 1) := by rw [← List.drop_eq_getElem_cons hlt, List.take_append_drop]
      have hbound : ((ds.take i).flatMap F).length + (inn ds[i]).length < sizeLine := by
        refine Nat.lt_of_le_of_lt ?_ hl
        show _ ≤ (ds.flatMap F).length
        conv => rhs; rw [sp]
        rw [List.flatMap_append, List.length_append, List.flatMap_cons, List.length_append]
        show _ ≤ _ + (((inn ds[i]).map (f ds[i])).length + _)
        rw [List.length_map]
        omega
      refine .inr ⟨go, fun H2 => ∃ H02 acc, Wd H1 H01 H2 H02 ∧ H2 D = some (.lst acc) ∧ H02 D = none ∧ DpAll K H02 acc ((ds.take (i + 1)).flatMap F), fun H2 ⟨a, b, z⟩ => ⟨ds.length - (i + 1), by omega, rfl, hlt, a, b, z⟩, fun x H2 hy => ?_⟩
      obtain ⟨H02, w2, k2⟩ := yl x H2 hy
      refine hb B B0 _ H2 H02 x (r1.step w2) k2 _ fun σ2 r2 e2 => ⟨by rw [e2 vs hsub, wipe_twice], ht B B0 σ2 H2 H02 r2 _ fun H3 H03 w3 => ?_⟩
      rw [if_pos rfl]
      refine hin B B0 σ2 H3 H03 (r2.step w3) _ fun J1 H4 H04 w4 oki => ?_
      have w24 := (w2.trans w3).trans w4
      have BD : B D = none := (r.step w).wd.e.fr D nD
      refine ⟨fun j k H' => k = (inn ds[i]).length - j ∧ j ≤ (inn ds[i]).length ∧ ∃ H0' acc, Wd H1 H01 H' H0' ∧ Same H04 H0' ∧ Rp K B B0 ρ2 σ2 H' H0' ∧ H' D = some (.lst acc) ∧ H0' D = none ∧ DpAll K H0' acc ((ds.take i).flatMap F ++ ((inn ds[i]).take j).map (f ds[i])), ⟨_, rfl, Nat.zero_le _, H04, acc, w1.trans w24, Same.refl _, (r2.step w3).step w4, w24.e.lst e1, w24.stay0 e1 e0, ?_⟩, ?_⟩
      · show DpAll K H04 acc ((ds.take i).flatMap F ++ [])
        rw [List.append_nil]
        exact dpa_mono w24.e0 k1
      · rintro j k H5 ⟨rfl, hj, H05, acc5, v1, v2, v3, v4, v5, v6⟩
        obtain ⟨oka, okb⟩ := oki j H5 H05 v2 v3.sub
        by_cases hjl : j < (inn ds[i]).length
        · obtain ⟨go1, yl1⟩ := okb (inn ds[i])[j] (List.getElem?_eq_getElem hjl)
          obtain ⟨ρ3, hb1, ht1, hf1⟩ := hf j (inn ds[i])[j] (List.getElem?_eq_getElem hjl)
          refine .inr ⟨go1, fun H6 => ∃ H06 acc, Wd H1 H01 H6 H06 ∧ Same H04 H06 ∧ Rp K B B0 ρ2 σ2 H6 H06 ∧ H6 D = some (.lst acc) ∧ H06 D = none ∧ DpAll K H06 acc ((ds.take i).flatMap F ++ ((inn ds[i]).take (j + 1)).map (f ds[i])), fun H6 ⟨a, b, z⟩ => ⟨(inn ds[i]).length - (j + 1), by omega, rfl, hjl, a, b, z⟩, fun y H6 hy6 => ?_⟩
          obtain ⟨H06, w6, k6⟩ := yl1 y H6 hy6
          refine hb1 B B0 _ H6 H06 y (rp_wipe (v3.step w6) vs1) k6 _ fun σ3 r7 e7 => ⟨by rw [e7 vs1 hsub1, wipe_twice], ht1 B B0 σ3 H6 H06 r7 _ fun H7 H07 w7 => ?_⟩
          rw [if_pos rfl]
          refine hf1 B B0 σ3 H7 H07 (r7.step w7) _ fun v H8 H08 w8 k8 => ?_
          have w68 := (w6.trans w7).trans w8
          have e8 : H8 D = some (.lst acc5) := w68.e.lst v4
          have z8 : H08 D = none := w68.stay0 v4 v5
          refine ⟨acc5, e8, ?_, H08, acc5 ++ [v], (v1.trans w68).ownW (κ := none) (κ' := none) nD e8 z8, v2.trans w68.e0, (v3.step w68).poke (κ := none) (κ' := none) hno BD e8 z8, upd_same, z8, ?_⟩
          · rw [dpa_len v6, List.length_append, List.length_map, List.length_take]
            omega
          · have tk1 : (inn ds[i]).take (j + 1) = (inn ds[i]).take j ++ [(inn ds[i])[j]] := by rw [List.take_add_one, List.getElem?_eq_getElem hjl]; rfl
            rw [tk1, List.map_append, ← List.append_assoc]
            exact dpa_app (dpa_mono w68.e0 v6) (.cons k8 .nil)
        · have ej : j = (inn ds[i]).length := by omega
          subst ej
          rw [List.take_length] at v6
          refine .inl ⟨oka (Nat.le_refl _), H05, acc5, v1, v4, v5, ?_⟩
          rw [tk, List.flatMap_append]
          show DpAll K H05 acc5 ((ds.take i).flatMap F ++ (F ds[i] ++ []))
          rw [List.append_nil]
          exact v6
    · have e : i = ds.length := by omega
      subst e
      rw [List.take_length] at k1
      exact .inl ⟨ok1 (Nat.le_refl _), q D acc H' H0' (w.trans w1) (w.e.free nD) e1 e0 k1⟩
/-! ### one's own dict that nobody changes any more -/
theorem ev_dgetU {j : Nat} {k : Int} {d : D} (h : EvG K te ρ (ObjG K (some ks) ds)) (hk : EvQ K ty ρ (.int k)) (hj : ks[j]? = some k) (hd : ds[j]? = some d) (hno : ∀ m : Nat, m < j → ks[m]? ≠ some k) : EvD K (tDGet te ty) ρ d := fun B B0 σ H H0 r Q q => h B B0 σ H H0 r _ fun v H1 H01 w1 ⟨a, xs, e1, e2, e3⟩ => by
  refine hk B B0 σ H1 H01 (r.step w1) _ fun u H2 H02 w2 k2 => ?_
  obtain ⟨v', hv, kv⟩ := dpa_get e3 hd
  rw [k2.int]
  have g : DGet H2 a (kV (Sum.inl k)) (valV ((ks.map Sum.inl).zip xs) (Sum.inl k)) := .inl ⟨_, _, .inl (w2.sub _ _ (w2.e0 _ _ e2)), rfl, rfl⟩
  rw [val_zip hj hv hno] at g
  exact ⟨a, v', e1, g, q _ H2 H02 (w1.trans w2) (dp_mono w2.e0 kv)⟩
end
end EL

/-! a pair of data and a value of which it is told that it is some data -/
namespace EL
open PySem PySem.Spec PyProof.Rows L2 ES
variable [TabC]
variable {K : PySem.W.Frag} {ρ : List Sl} {ta tb : TE} {d : D} {φ : Gn} {N : D → Prop}
theorem ev_prE (ha : EvD K ta ρ d) (hb : EvG K tb ρ φ) (m : GMono φ) (k : ∀ G v, φ G v → ∃ e, N e ∧ Dp K G v e) : EvG K (tTup (tCons ta (tCons tb tNil))) ρ (fun G v => ∃ e, N e ∧ Dp K G v (.tuple [d, e])) :=
  (ev_prG ha hb m).imp fun G v ⟨a, x, y, e1, e2, e3, e4⟩ => by
    obtain ⟨e, n, h⟩ := k _ _ e4
    rw [e1]
    exact ⟨e, n, .tup e2 (.cons e3 (.cons h .nil))⟩
theorem prE_mono : GMono (fun G v => ∃ e, N e ∧ Dp K G v (.tuple [d, e])) := fun G G' u s ⟨e, n, h⟩ => ⟨e, n, dp_mono s h⟩
end EL

/-! targets = a value of which it is told that it is some data -/
namespace EL
open PySem PySem.Spec PyProof.Rows L2 ES
variable [TabC]
variable {K : PySem.W.Frag} {ρ : List Sl} {te : TE} {φ : Gn} {N : D → Prop} {P : Post}
theorem w_asgE {g : TG} (h : EvG K te ρ φ) (k : ∀ G v, φ G v → ∃ d, N d ∧ Dp K G v d) (q : ∀ d, N d → ∃ is ρ2, Bd K g is d ρ ρ2 ∧ P.nx ρ2) : Wp K (tAsg te g) ρ P := fun B B0 σ H H0 r E m =>
  h B B0 σ H H0 r _ fun v H1 H01 w kv => by
    obtain ⟨d, n, kd⟩ := k _ _ kv
    obtain ⟨is, ρ2, hb, kn⟩ := q d n
    exact hb B B0 σ H1 H01 v (r.step w) kd _ fun σ2 r2 _ => m.nx ρ2 σ2 H1 H01 kn r2
end EL

/-! a dict of one's own whose keys are tuples of whole numbers, wherever these tuples come from -/
namespace ETD
open PySem PySem.Spec PyProof.Rows L2
/-- a key with its own object, and what stands there -/
abbrev Row := List Key × Addr × V
abbrev RowR (p : Row) (q : List Key × Addr × Value) : Prop := p.1 = q.1 ∧ p.2.1 = q.2.1 ∧ RelV p.2.2 q.2.2
/-- at a there is a dict of these rows -/
def DU0 (P : Program) (w : World) (h : Heap) (a : Addr) (L : List Row) : Prop := (L.length ≤ sizeLine ∧ (a == sysModules) = false) ∧ ∃ xs : List (List Key × Addr × Value), Paired RowR L xs ∧
  ∃ o es ep, (h.get? a = some o ∧ o.ExactDict ∧ o.data = .dict es ep) ∧ es.toList = xs.map (entryOfKey (tupleKind (mixKind P w))) ∧ (xs.map (·.1)).Nodup
def DUO (P : Program) (w : World) (a : Addr) (L : List Row) : HO := .ext fun h => DU0 P w h a L
theorem duo_new {P : Program} {w : World} {H : Hp} {h : Heap} {a : Addr} {L : List Row} (R : DU0 P w h a L) : ObjOk P w H h a (DUO P w a L) := by
  have ⟨_, _, _, o, _, _, ⟨ho, _⟩, _⟩ := R
  refine ⟨R, ⟨o, ho⟩, fun h1 h2 p k => ?_⟩
  have ⟨z, xs, r, o', es, ep, ⟨e1, e2⟩, e3⟩ := (p : DU0 P w h1 a L)
  exact ⟨z, xs, r, o', es, ep, ⟨k o' e1, e2⟩, e3⟩
/-- the row of a key -/
def rowAt (L : List Row) (k : List Key) : Option V := (L.find? fun p => decide (p.1 = k)).map fun p => p.2.2
theorem rowAt_rel {L : List Row} {xs : List (List Key × Addr × Value)} (r : Paired RowR L xs) (k : List Key) : RelO (rowAt L k) ((atKey xs k).map (·.2)) := by
  induction r with
  | nil => exact True.intro
  | @cons p q ps qs h t ih =>
    by_cases e : p.1 = k
    · have e2 : q.1 = k := h.1.symm.trans e
      have e3 : atKey (q :: qs) k = some q.2 := by simp [atKey, List.find?_cons, e2]
      have e4 : rowAt (p :: ps) k = some p.2.2 := by simp [rowAt, List.find?_cons, e]
      rw [e3, e4]
      exact h.2.2
    · have e2 : ¬ q.1 = k := fun z => e (h.1.trans z)
      have e3 : atKey (q :: qs) k = atKey qs k := by simp [atKey, List.find?_cons, e2]
      have e4 : rowAt (p :: ps) k = rowAt ps k := by simp [rowAt, List.find?_cons, e]
      rw [e3, e4]
      exact ih
theorem row_none {L : List Row} {xs : List (List Key × Addr × Value)} (r : Paired RowR L xs) {k : List Key} (h : ∀ p ∈ L, p.1 ≠ k) : atKey xs k = none := by
  induction r with
  | nil => rfl
  | @cons p q ps qs h1 t ih =>
    have e2 : ¬ q.1 = k := fun z => h p List.mem_cons_self (h1.1.trans z)
    have e3 : atKey (q :: qs) k = atKey qs k := by simp [atKey, List.find?_cons, e2]
    rw [e3]
    exact ih fun p hp => h p (List.mem_cons_of_mem _ hp)
theorem paired_snoc {α β : Type} {F : α → β → Prop} {l : List α} {m : List β} (r : Paired F l m) {x : α} {y : β} (h : F x y) : Paired F (l ++ [x]) (m ++ [y]) := by
  induction r with
  | nil => exact .cons h .nil
  | cons h1 t ih => exact .cons h1 ih
section
variable {X : Cx} {pins : List (Addr × Obj)} {σ : L2.St} {H : Hp} {s : Shared} {a b : Addr} {L : List Row} {k : List Key}
/-- a tuple of keys is a key, whoever made it -/
theorem key_any (I : Inv X pins σ H s) (h : SqT X.K H b (k.map kV)) : (tupleKind (mixKind X.prog X.w)).is s.heap k b := by
  obtain ⟨its, r, ⟨o, h1, h2, n, h3⟩, _⟩ := I.tuple h
  exact ⟨o, its.toArray, n, h1, h2, h3, by simpa using items_are r⟩
def KeysIn (K : PySem.W.Frag) (H : Hp) (L : List Row) : Prop := ∀ p ∈ L, SqT K H p.2.1 (p.1.map kV)
theorem du_full (I : Inv X pins σ H s) (e : H a = some (DUO X.prog X.w a L)) (hk : KeysIn X.K H L) : L.length ≤ sizeLine ∧ (a == sysModules) = false ∧ ∃ xs, Paired RowR L xs ∧ s.heap.DictOfH (tupleKind (mixKind X.prog X.w)) a xs := by
  obtain ⟨⟨z1, z2⟩, xs, r, o, es, ep, ⟨h1, h2, h3⟩, h4, h5⟩ := (I.hok a _ e).1
  refine ⟨z1, z2, xs, r, o, es, ep, h1, h2, h3, h4, fun x hx => ?_, h5⟩
  have all : ∀ {l : List Row} {m : List (List Key × Addr × Value)}, Paired RowR l m → KeysIn X.K H l → ∀ x ∈ m, (tupleKind (mixKind X.prog X.w)).is s.heap x.1 x.2.1 := by
    intro l m q
    induction q with
    | nil => intro _ x hx; exact nomatch hx
    | @cons p q ps qs hq t ih =>
      intro hk x hx
      rcases List.mem_cons.mp hx with e | hx
      · subst e
        rw [← hq.1, ← hq.2.1]
        exact key_any I (hk p List.mem_cons_self)
      · exact ih (fun p hp => hk p (List.mem_cons_of_mem _ hp)) x hx
  exact all r hk x hx
end
/-- {} -/
def tDNewU (P : Program) (w : World) : TE := fun _ H Q => ∀ p, H p = none → Q (.ref p) (upd H p (DUO P w p []))
/-- d[y] -/
def tDGetU (K : PySem.W.Frag) (P : Program) (w : World) (td ty : TE) : TE := fun σ H Q => td σ H fun x H1 => ty σ H1 fun y H2 => ∃ (a b : Addr) (L : List Row) (k : List Key) (v : V), x = .ref a ∧ y = .ref b ∧ H2 a = some (DUO P w a L) ∧ KeysIn K H2 L ∧ SqT K H2 b (k.map kV) ∧ rowAt L k = some v ∧ Q v H2
/-- d[y] = v, for a key that isn't there -/
def sDPutU (K : PySem.W.Frag) (P : Program) (w : World) (td ty tv : TE) : TS := fun D σ H => tv σ H fun v H1 => td σ H1 fun x H2 => ty σ H2 fun y H3 => ∃ (a b : Addr) (L : List Row) (k : List Key), x = .ref a ∧ y = .ref b ∧ H3 a = some (DUO P w a L) ∧ KeysIn K H3 L ∧ SqT K H3 b (k.map kV) ∧
  (∀ p ∈ L, p.1 ≠ k) ∧ L.length < sizeLine ∧ D.nx σ (upd H3 a (DUO P w a (L ++ [(k, b, v)])))
section
variable {X : Cx} {o i value : Expr} {pos pos' : Pos} {td ty tv : TE}
theorem pe_dnewU : PE X (.Dict [] [] pos) (tDNewU X.prog X.w) := ⟨fun pins s σ H Q I h => by
  have e : ∀ h0 : Heap, sysModules < h0.objs.size → DU0 X.prog X.w (h0.push { cls := .type "dict", data := .dict #[] }) h0.objs.size [] := fun h0 hb =>
    ⟨⟨Nat.zero_le _, beq_eq_false_iff_ne.mpr (Ne.symm (Nat.ne_of_lt hb))⟩, [], .nil, _, #[], 0, ⟨Heap.get?_push_size _ rfl, ⟨rfl, rfl, rfl⟩, rfl⟩, rfl, List.nodup_nil⟩
  exact wpAny_Dict_empty ⟨.ref s.heap.objs.size, _, I.laid (a := s.heap.objs.size) (t' := s.toks) (fun _ _ q => Heap.get?_push_of_some _ q) (Nat.le_refl _) (duo_new (e s.heap I.big)), rfl, h _ (I.hok.fresh (Nat.le_refl _))⟩⟩
theorem pe_dgetU (hu : X.A.units + 1 < cLine) (ho : PE X o td) (hi : PE X i ty) (hs : NoSl i) : PE X (.Subscript o i pos) (tDGetU X.K X.prog X.w td ty) := by
  refine ⟨fun pins s σ H Q I h => ?_⟩
  refine subD_of PySem.F.slot_dict_getitem.lookup hs (thn (ho.run pins s σ H _ I h) fun u s1 ⟨x, H1, I1, rx, q1⟩ => thn (hi.run pins s1 σ H1 _ I1 q1) fun iv s2 ⟨y, H2, I2, ry, a, b, L, k, v, ex, ey, ea, hk, hb, l, q2⟩ => ?_)
  subst ex
  subst ey
  obtain rfl : u = Value.ref a := rx
  obtain rfl : iv = Value.ref b := ry
  obtain ⟨_, _, xs, rel, dd⟩ := du_full I2 ea hk
  refine ⟨dd.typeIs, ?_⟩
  obtain ⟨w', hw, rw'⟩ := RelO.some_of (v := v) (o := (atKey xs k).map (·.2)) (by rw [← l]; exact rowAt_rel rel k)
  obtain ⟨p, hp, hp2⟩ := Option.map_eq_some_iff.mp hw
  refine wpAny_getItem_heap (tupleKind_room_in1 hu) (key_any I2 hb) dd hp ?_
  rw [hp2]
  exact ⟨v, H2, I2.tok _, rw', q2⟩
theorem ps_dputU (hu : X.A.units + 1 < cLine) (ho : PE X o td) (hi : PE X i ty) (hv : PE X value tv) (hs : swapsWith value (some (.Subscript o i pos')) pos.line X.env = pure false) :
    PS X (.Assign [.Subscript o i pos'] value pos) (sDPutU X.K X.prog X.w td ty tv) := by
  refine ⟨fun pins s σ H D I h => ?_⟩
  refine wpAny_Assign_Subscript (hs := hs) (thn (hv.run pins s σ H _ I h) fun r s1 ⟨v, H1, I1, rv, q1⟩ => thn (ho.run pins s1 σ H1 _ I1 q1) fun u s2 ⟨x, H2, I2, rx, q2⟩ => thn (hi.run pins s2 σ H2 _ I2 q2) fun iv s3 ⟨y, H3, I3, ry, a, b, L, k, ex, ey, ea, hk, hb, hno, hl, q3⟩ => ?_)
  subst ex
  subst ey
  obtain rfl : u = Value.ref a := rx
  obtain rfl : iv = Value.ref b := ry
  obtain ⟨_, z2, xs, rel, dd⟩ := du_full I3 ea hk
  have zl : xs.length = L.length := (Paired.length rel).symm
  refine wpAny_setItem_heap (hsz := by omega) (tupleKind_room_in1 hu) (key_any I3 hb) dd fun h' dd' hsb => ?_
  rw [storedH_new (row_none rel hno)] at dd'
  obtain ⟨q, es, ep, hq, h2, h3, h4, _, h5⟩ := dd'
  have new : DU0 X.prog X.w h' a (L ++ [(k, b, v)]) := ⟨⟨by rw [List.length_append]; exact hl, z2⟩, xs ++ [(k, b, r)], paired_snoc rel ⟨rfl, rfl, rv⟩, q, es, ep, ⟨hq, h2, h3⟩, h4, h5⟩
  exact ⟨σ, _, d_write I3 (by rw [ea]; exact True.intro) hsb ⟨q, hq⟩ (duo_new new), q3⟩
end
end ETD

/-! home = {}, filled in a for loop from pairs of a tuple of whole numbers and data, and then only read -/
namespace EL
open PySem PySem.Spec PyProof.Rows L2 ETD
variable [TabC]
variable {K : PySem.W.Frag} {Pg : Program} {w : World}
def keyZ (k : List Int) : List Key := k.map Sum.inl
theorem keyZ_kV (k : List Int) : (keyZ k).map kV = k.map V.int := by
  unfold keyZ
  rw [List.map_map]
  rfl
theorem keyZ_inj {a b : List Int} (h : keyZ a = keyZ b) : a = b := by
  unfold keyZ at h
  exact List.map_inj_right (fun x y e => Sum.inl.inj e) |>.mp h
/-- the rows of these pairs, the keys and the data clean -/
inductive RowsOf (K : PySem.W.Frag) (G : Hp) : List ETD.Row → List (List Int × D) → Prop where
  | nil : RowsOf K G [] []
  | snoc {L : List ETD.Row} {ps : List (List Int × D)} {b : Addr} {v : V} {k : List Int} {d : D} : RowsOf K G L ps → SqT K G b (k.map V.int) → Dp K G v d → RowsOf K G (L ++ [(keyZ k, b, v)]) (ps ++ [(k, d)])
theorem RowsOf.mono {G G' : Hp} {L : List ETD.Row} {ps : List (List Int × D)} (s : Same G G') (h : RowsOf K G L ps) : RowsOf K G' L ps := by
  induction h with
  | nil => exact .nil
  | snoc h1 h2 h3 ih => exact .snoc ih (sqT_mono s h2) (dp_mono s h3)
theorem RowsOf.keys {G : Hp} {L : List ETD.Row} {ps : List (List Int × D)} (h : RowsOf K G L ps) : KeysIn K G L := by
  induction h with
  | nil => exact fun p hp => nomatch hp
  | snoc h1 h2 h3 ih =>
    intro p hp
    rcases List.mem_append.mp hp with hp | hp
    · exact ih p hp
    · rw [List.mem_singleton.mp hp, keyZ_kV]
      exact h2
theorem RowsOf.len {G : Hp} {L : List ETD.Row} {ps : List (List Int × D)} (h : RowsOf K G L ps) : L.length = ps.length := by
  induction h with
  | nil => rfl
  | snoc h1 h2 h3 ih => rw [List.length_append, List.length_append, ih]; rfl
theorem RowsOf.mem {G : Hp} {L : List ETD.Row} {ps : List (List Int × D)} (h : RowsOf K G L ps) : ∀ p ∈ L, ∃ q ∈ ps, p.1 = keyZ q.1 := by
  induction h with
  | nil => exact fun p hp => nomatch hp
  | snoc h1 h2 h3 ih =>
    intro p hp
    rcases List.mem_append.mp hp with hp | hp
    · obtain ⟨q, hq, e⟩ := ih p hp
      exact ⟨q, List.mem_append_left _ hq, e⟩
    · rw [List.mem_singleton.mp hp]
      exact ⟨_, List.mem_append_right _ List.mem_cons_self, rfl⟩
theorem row_app {L M : List ETD.Row} {k : List Key} : rowAt (L ++ M) k = (rowAt L k).or (rowAt M k) := by
  unfold rowAt
  rw [List.find?_append]
  cases List.find? (fun p : ETD.Row => decide (p.1 = k)) L <;> rfl
theorem RowsOf.get {G : Hp} {L : List ETD.Row} {ps : List (List Int × D)} (h : RowsOf K G L ps) : (ps.map fun p => p.1).Nodup → ∀ {k : List Int} {d : D}, (k, d) ∈ ps → ∃ v, rowAt L (keyZ k) = some v ∧ Dp K G v d := by
  induction h with
  | nil => exact fun _ _ _ hp => nomatch hp
  | @snoc L ps b v k' d' h1 h2 h3 ih =>
    intro nd k d hp
    rw [List.map_append] at nd
    have nd1 := (List.nodup_append.mp nd).1
    have nd3 := (List.nodup_append.mp nd).2.2
    rw [row_app]
    rcases List.mem_append.mp hp with hp | hp
    · obtain ⟨u, hu, ku⟩ := ih nd1 hp
      rw [hu]
      exact ⟨u, rfl, ku⟩
    · have e := List.mem_singleton.mp hp
      cases e
      have e1 : rowAt L (keyZ k') = none := by
        unfold rowAt
        rw [List.find?_eq_none.mpr]
        · rfl
        intro p hp z
        obtain ⟨q, hq, e⟩ := h1.mem p hp
        have e2 := keyZ_inj (e.symm.trans (of_decide_eq_true z))
        exact nd3 q.1 (List.mem_map.mpr ⟨q, hq, rfl⟩) k' (by simp) e2
      rw [e1]
      refine ⟨v, ?_, h3⟩
      unfold rowAt
      rw [List.find?_cons_of_pos (by exact decide_eq_true rfl)]
      rfl
/-- what is told of home afterwards -/
def DUG (K : PySem.W.Frag) (Pg : Program) (w : World) (ps : List (List Int × D)) : Gn := fun G v => ∃ a L, v = .ref a ∧ G a = some (DUO Pg w a L) ∧ RowsOf K G L ps
theorem dug_mono {ps : List (List Int × D)} : GMono (DUG K Pg w ps) := fun G G' u s ⟨a, L, h1, h2, h3⟩ => ⟨a, L, h1, s _ _ h2, h3.mono s⟩
section
variable {B B0 H H0 : Hp} {ρ ρ2 : List Sl} {σ : L2.St} {a : Addr} {o o' : HO}
theorem rp_weak (r : Rp K B B0 ρ2 σ H H0) (hl : ρ.length = ρ2.length) (hs : ∀ (i : Nat) (s : Sl), ρ[i]? = some s → s = .no ∨ ρ2[i]? = some s) : Rp K B B0 ρ σ H H0 where
  wd := r.wd
  len := hl.trans r.len
  dat := fun i d h => (hs i _ h).elim (fun e => nomatch e) fun e => r.dat i d e
  ow := fun i s h ho => (hs i _ h).elim (fun e => by rw [e] at ho; cases ho) fun e => r.ow i s e ho
  oj := fun i j a s s' h1 h2 o1 o2 => (hs i _ h1).elim (fun e => by rw [e] at o1; cases o1) fun e1 => (hs j _ h2).elim (fun e => by rw [e] at o2; cases o2) fun e2 => r.oj i j a s s' e1 e2 o1 o2
  tab := r.tab
  gen := fun i φ h => (hs i _ h).elim (fun e => nomatch e) fun e => r.gen i φ e
theorem rp_mut (r : Rp K B B0 ρ σ H H0) (hno : NoOwn ρ) (n : B a = none) (h : H a = some o) (nt : ∀ ps, o ≠ .tbl ps) (z : H0 a = none) : Rp K B B0 ρ σ (upd H a o') H0 := by
  have hw : Wd B B0 (upd H a o') H0 := ⟨⟨fun b u e q => by rw [upd_ne (ne_of_none e n)]; exact r.wd.e.o b u e q, fun b e => by
    by_cases hb : b = a
    · rw [hb]; exact n
    · rw [upd_ne hb] at e; exact r.wd.e.fr b e⟩, r.wd.e0, fun b u hb => by
    rw [upd_ne (ne_of_none hb z)]
    exact r.wd.sub b u hb, r.wd.new, fun t => fun p hp => by
    obtain ⟨h0, ps, h1, h2, h3⟩ := r.wd.tb t p hp
    have nP : p.1 ≠ a := fun y => by
      rw [y, h] at h1
      exact nt ps (Option.some.inj h1)
    exact ⟨h0, ps, by rw [upd_ne nP]; exact h1, h2, h3⟩⟩
  refine ⟨hw, r.len, r.dat, fun j s hs ho => ?_, fun j k b s s' h1 h2 o1 => ?_, fun p hp => ?_, r.gen⟩
  · have := hno s (List.mem_of_getElem? hs)
    rw [ho] at this
    cases this
  · have := hno s (List.mem_of_getElem? h1)
    rw [o1] at this
    cases this
  · obtain ⟨h0, ps, h1, h2, h3⟩ := r.tab p hp
    have nP : p.1 ≠ a := fun y => by
      rw [y, h] at h1
      exact nt ps (Option.some.inj h1)
    exact ⟨h0, ps, by rw [upd_ne nP]; exact h1, h2, h3⟩
theorem rp_adopt (r : Rp K B B0 ρ σ H H0) (hno : NoOwn ρ) (n : B a = none) (h : H a = some o) (nt : ∀ ps, o ≠ .tbl ps) (z : H0 a = none) : Rp K B B0 ρ σ H (upd H0 a o) := by
  have s0 : Same H0 (upd H0 a o) := same_new z
  refine ⟨r.wd.adopt n h z, r.len, fun i d hd => ?_, fun j s hs ho => ?_, fun j k b s s' h1 h2 o1 => ?_, r.tab.ext (Same.refl _) s0 (fun b ps hb h0 => by rw [upd_ne (fun y => by rw [y, h] at hb; exact nt ps (Option.some.inj hb))]; exact h0), fun i φ hd => ?_⟩
  · obtain ⟨v, e1, e2⟩ := r.dat i d hd
    exact ⟨v, e1, dp_mono s0 e2⟩
  · have := hno s (List.mem_of_getElem? hs)
    rw [ho] at this
    cases this
  · have := hno s (List.mem_of_getElem? h1)
    rw [o1] at this
    cases this
  · obtain ⟨v, e1, e2, e3⟩ := r.gen i φ hd
    exact ⟨v, e1, e3 _ _ _ s0 e2, e3⟩
end
theorem duo_nt {a : Addr} {L : List ETD.Row} : ∀ ps, DUO Pg w a L ≠ .tbl ps := fun ps z => nomatch z
/-- home[k] of the filled dict -/
theorem ev_dugGet {ρ : List Sl} {td ty : TE} {ps : List (List Int × D)} {k : List Int} {d : D} (h : EvG K td ρ (DUG K Pg w ps)) (hk : EvD K ty ρ (.tuple (k.map .int))) (nd : (ps.map fun p => p.1).Nodup) (hm : (k, d) ∈ ps) : EvD K (tDGetU K Pg w td ty) ρ d := fun B B0 σ H H0 r Q q =>
  h B B0 σ H H0 r _ fun x H1 H01 w1 ⟨a, L, e1, e2, e3⟩ => hk B B0 σ H1 H01 (r.step w1) _ fun y H2 H02 w2 k2 => by
    obtain ⟨v, hv, kv⟩ := (e3.mono w2.e0).get nd hm
    cases k2 with
    | tup hs ha =>
      rename_i b xs
      rw [dpa_ints ha] at hs
      refine ⟨a, b, L, keyZ k, v, e1, rfl, w2.sub _ _ (w2.e0 _ _ e2), fun p hp => sqT_mono w2.sub ((e3.mono w2.e0).keys p hp), ?_, hv, q v H2 H02 (w1.trans w2) kv⟩
      rw [keyZ_kV]
      exact sqT_mono w2.sub hs
end EL

/-! home = {}; for k, x in pairs: home[k] = x -/
namespace EL
open PySem PySem.Spec PyProof.Rows L2 ETD
variable [TabC]
variable {K : PySem.W.Frag} {Pg : Program} {w : World}
def pairZ (p : List Int × D) : D := .tuple [.tuple (p.1.map .int), p.2]
theorem w_fillU {ρ : List Sl} {ih is iq : Nat} {wi : TI} {ps : List (List Int × D)} {rest : TS} {P : Post} (hne : ih ∉ [is, iq]) (hlt : ih < ρ.length ∧ is < ρ.length ∧ iq < ρ.length) (hsq : is ≠ iq) (no : NoOwn (((ρ.set ih .no).set is .no).set iq .no))
    (hi : Ev_It K wi (ρ.set ih .no) (ps.map pairZ)) (nd : (ps.map fun p => p.1).Nodup) (hl : ps.length ≤ 1000)
    (k : Wp K rest ((((ρ.set ih .no).set is .no).set iq .no).set ih (.gen (DUG K Pg w ps))) P) :
    Wp K (tSeq (tAsg (tDNewU Pg w) (gName ih)) (tSeq (tFor wi (gTup K 2 (gCons (gName is) (gCons (gName iq) gNil))) (sDPutU K Pg w (tVar ih) (tVar is) (tVar iq))) rest)) ρ P := fun B B0 σ H H0 r E m => fun p np => by
  have n0 := sub_none r.sub np
  have nB : B p = none := r.wd.e.free np
  have w1 : Wd H H0 (upd H p (DUO Pg w p [])) H0 := .dirty r.sub np
  have r1 : Rp K B B0 (ρ.set ih .no) (σ.set ih (some (.ref p))) (upd H p (DUO Pg w p [])) H0 := (r.step w1).drop ih _
  obtain ⟨ρN, hρN⟩ : ∃ ρN, ρN = ((ρ.set ih .no).set is .no).set iq .no := ⟨_, rfl⟩
  rw [← hρN] at no k
  have hw0 : ∀ (i : Nat) (s : Sl), ρN[i]? = some s → s = .no ∨ (ρ.set ih .no)[i]? = some s := fun i s h => by
    rw [hρN] at h
    rcases set_get h with ⟨_, e, _⟩ | ⟨_, h⟩
    · exact .inl e
    · rcases set_get h with ⟨_, e, _⟩ | ⟨_, h⟩
      · exact .inl e
      · exact .inr h
  have hlN : ρN.length = ρ.length := by rw [hρN]; simp only [List.length_set]
  refine hi B B0 _ _ _ r1 _ fun J H1 H01 w2 ok => ?_
  refine ⟨fun m n σ' H' => n = ps.length - m ∧ m ≤ ps.length ∧ ∃ L H0', Rp K B B0 ρN σ' H' H0' ∧ σ'[ih]? = some (some (.ref p)) ∧ H' p = some (DUO Pg w p L) ∧ H0' p = none ∧ RowsOf K H0' L (ps.take m) ∧ Same H01 H0',
    ⟨_, rfl, Nat.zero_le _, [], H01, rp_weak (r1.step w2) (by rw [hlN, List.length_set]) hw0, List.getElem?_set_self (by rw [← r.len]; exact hlt.1), w2.e.o _ _ upd_same duo_nt, w2.stay0 upd_same n0, .nil, Same.refl _⟩, ?_⟩
  rintro m n σ' H' ⟨rfl, hle, L, H0', r2, es, eh, e0, hL, s1⟩
  obtain ⟨ok1, ok2⟩ := ok m H' H0' s1 r2.sub
  by_cases hm : m < ps.length
  · obtain ⟨q, hq⟩ : ∃ q, ps[m]? = some q := ⟨_, List.getElem?_eq_getElem hm⟩
    obtain ⟨go, yl⟩ := ok2 (pairZ q) (by rw [List.getElem?_map, hq]; rfl)
    refine .inr ⟨go, fun σ2 H2 => ∃ L2 H02, Rp K B B0 ρN σ2 H2 H02 ∧ σ2[ih]? = some (some (.ref p)) ∧ H2 p = some (DUO Pg w p L2) ∧ H02 p = none ∧ RowsOf K H02 L2 (ps.take (m + 1)) ∧ Same H01 H02, fun σ2 H2 ⟨L2, H02, a⟩ => ⟨ps.length - (m + 1), by omega, rfl, hm, L2, H02, a⟩, fun x H2 hy => ?_⟩
    obtain ⟨H02, w3, k3⟩ := yl x H2 hy
    have r3 := r2.step w3
    refine bd_tup (hn := rfl) (bds_cons bd_name (bds_cons bd_name bds_nil)) B B0 σ' H2 H02 x r3 k3 _ fun σ3 r4 hwipe => ?_
    have es3 : σ3[ih]? = some (some (.ref p)) := (wipe_same (hwipe [is, iq] fun _ h => h) hne).trans es
    obtain ⟨v, ev, kv⟩ := r4.dat iq q.2 (List.getElem?_set_self (by rw [List.length_set, hlN]; exact hlt.2.2))
    obtain ⟨y, ey, ky⟩ := r4.dat is (.tuple (q.1.map .int)) (by rw [List.getElem?_set_ne (Ne.symm hsq)]; exact List.getElem?_set_self (by rw [hlN]; exact hlt.2.1))
    refine ⟨v, ev, _, es3, y, ey, ?_⟩
    cases ky with
    | tup hs ha =>
      rename_i b xs
      rw [dpa_ints ha] at hs
      have eh3 : H2 p = some (DUO Pg w p L) := w3.e.o _ _ eh duo_nt
      have e03 : H02 p = none := w3.stay0 eh e0
      have hL3 := hL.mono w3.e0
      have tk : ps.take (m + 1) = ps.take m ++ [(q.1, q.2)] := by rw [List.take_add_one, hq]; rfl
      refine ⟨p, b, L, keyZ q.1, rfl, rfl, eh3, fun z hz => sqT_mono r4.sub (hL3.keys z hz), by rw [keyZ_kV]; exact sqT_mono r4.sub hs, fun z hz e => ?_, ?_, L ++ [(keyZ q.1, b, v)], H02, rp_mut (rp_weak r4 (by simp only [List.length_set]) fun i s h => ?_) no nB eh3 duo_nt e03, es3, upd_same, e03, ?_, s1.trans w3.e0⟩
      · obtain ⟨q', hq', e'⟩ := hL3.mem z hz
        have e2 := keyZ_inj (e'.symm.trans e)
        have nd2 := nd
        rw [← List.take_append_drop (m + 1) ps, tk, List.map_append, List.map_append] at nd2
        exact (List.nodup_append.mp (List.nodup_append.mp nd2).1).2.2 q'.1 (List.mem_map.mpr ⟨q', hq', rfl⟩) q.1 (by simp) e2
      · rw [hL.len, List.length_take, sizeLine_eq]
        omega
      · by_cases h1 : i = iq
        · left
          rw [hρN, h1] at h
          rw [List.getElem?_set_self (by simp only [List.length_set]; exact hlt.2.2)] at h
          exact (Option.some.inj h).symm
        · by_cases h2 : i = is
          · left
            rw [hρN, h2, List.getElem?_set_ne (Ne.symm hsq)] at h
            rw [List.getElem?_set_self (by simp only [List.length_set]; exact hlt.2.1)] at h
            exact (Option.some.inj h).symm
          · right
            rw [List.getElem?_set_ne (Ne.symm h1), List.getElem?_set_ne (Ne.symm h2)]
            exact h
      · rw [tk]
        exact .snoc hL3 hs kv
  · have e : m = ps.length := by omega
    subst e
    rw [List.take_length] at hL
    refine .inl ⟨ok1 (by rw [List.length_map]; exact Nat.le_refl _), ?_⟩
    have r6 := (rp_adopt r2 no nB eh duo_nt e0).setG (v := .ref p) (φ := DUG K Pg w ps) ⟨p, L, rfl, upd_same, hL.mono (same_new e0)⟩ dug_mono ih
    rw [set_same es] at r6
    exact k B B0 σ' H' _ r6 E m
end EL
namespace EK
open PySem PySem.Spec PyProof.Rows L2 EL ETD
variable [TabC]
variable {X : Cx} {K : PySem.W.Frag} {Pg : Program} {w : World} {o i value : Expr} {pos pos' : Pos} {td ty tv : TE}
theorem newU (hP : X.prog = Pg := by rfl) (hw : X.w = w := by rfl) : PE X (.Dict [] [] pos) (tDNewU Pg w) := hP ▸ hw ▸ pe_dnewU
theorem dgetU (hu : X.A.units + 1 < cLine) (ho : PE X o td) (hi : PE X i ty) (hs : NoSl i) (hK : X.K = K := by rfl) (hP : X.prog = Pg := by rfl) (hw : X.w = w := by rfl) : PE X (.Subscript o i pos) (tDGetU K Pg w td ty) := hK ▸ hP ▸ hw ▸ pe_dgetU hu ho hi hs
theorem dputU (hu : X.A.units + 1 < cLine) (ho : PE X o td) (hi : PE X i ty) (hv : PE X value tv) (hs : swapsWith value (some (.Subscript o i pos')) pos.line X.env = pure false) (hK : X.K = K := by rfl) (hP : X.prog = Pg := by rfl) (hw : X.w = w := by rfl) :
    PS X (.Assign [.Subscript o i pos'] value pos) (sDPutU K Pg w td ty tv) := hK ▸ hP ▸ hw ▸ ps_dputU hu ho hi hv hs
end EK

/-! tuples back to front, del of a list's end, a written dict of texts, list(text) -/
namespace ET3
open PySem PySem.Spec PyProof.Rows L2
section
variable {prog : Program} {w : World} {A : Around} {E : Value → Shared → Prop} {s : Shared}
theorem adj_back (n : Nat) : Builtin.Slice.sliceAdjust none none (-1) (n : Int) = ((n : Int) - 1, -1) := rfl
theorem places_back (n : Nat) : Builtin.Slice.slicePlaces ((n : Int) - 1) (-1) (-1) = n := by
  unfold Builtin.Slice.slicePlaces
  rw [if_neg (by decide)]
  show (if (n : Int) - 1 > -1 then ((n : Int) - 1 - (-1) - 1) / 1 + 1 else 0).toNat = n
  rw [Int.ediv_one]
  split <;> omega
theorem fm_congr {α β : Type} {f g : α → Option β} : ∀ {l : List α}, (∀ x ∈ l, f x = g x) → l.filterMap f = l.filterMap g
  | [], _ => rfl
  | x :: l, h => by rw [List.filterMap_cons, List.filterMap_cons, h x List.mem_cons_self, fm_congr fun y hy => h y (List.mem_cons_of_mem _ hy)]
theorem pick_back (its : List Value) : ((List.range its.length).filterMap fun (m : Nat) => its.toArray[((its.length : Int) - 1 + (m : Int) * (-1)).toNat]?).toArray = its.reverse.toArray := by
  have g := HT.pick_gen its.reverse.toArray 0 its.length
  rw [List.drop_zero, List.take_of_length_le (by simp)] at g
  rw [← g]
  congr 1
  refine fm_congr fun m hm => ?_
  have hm := List.mem_range.mp hm
  have e1 : ((its.length : Int) - 1 + (m : Int) * (-1)).toNat = its.length - 1 - m := by omega
  have e2 : (((0 : Nat) : Int) + (m : Int) * 1).toNat = m := by omega
  rw [e1, e2, List.getElem?_toArray, List.getElem?_toArray, List.getElem?_reverse hm]
theorem applied_back {sl : Addr} {vs : Value} {n : Nat} {Q : Int × Int × Nat → Shared → Prop} (hs : s.heap.IsSliceOf sl .none .none vs) (ps : IsPart vs (some (-1)))
    (h : Q ((n : Int) - 1, -1, n) s) : wpAny (model prog w) A (Builtin.Slice.sliceApplied (.ref sl) (pure (n : Int))) Q E s := by
  obtain ⟨os, hos, hcs, hds⟩ := id hs
  unfold Builtin.Slice.sliceApplied Builtin.Slice.sliceFields
  refine wpAny_bind (wpAny_bind (wpAny_field hos hds (x := .none) rfl (wpAny_bind (wpAny_field hos hds (x := .none) rfl (wpAny_bind (wpAny_field hos hds (x := vs) rfl (wpAny_pure ?_)))))))
  refine wpAny_bind (HT.slicePart_ ps ?_)
  show wpAny _ _ (if ((-1 : Int) == 0) = true then _ else _) _ _ s
  rw [if_neg (by decide)]
  refine wpAny_bind (slicePart_none (wpAny_bind (slicePart_none (wpAny_bind (wpAny_pure ?_)))))
  show wpAny _ _ (match Builtin.Slice.sliceAdjust none none (-1) (n : Int) with | (lo, hi) => pure (lo, (-1 : Int), Builtin.Slice.slicePlaces lo hi (-1))) _ _ s
  rw [adj_back n]
  show wpAny _ _ (pure ((n : Int) - 1, (-1 : Int), Builtin.Slice.slicePlaces ((n : Int) - 1) (-1) (-1))) _ _ s
  rw [places_back]
  exact wpAny_pure h
/-- t[::-1] of a tuple is a new tuple -/
theorem getItem_back {t sl : Addr} {its : List Value} {vs : Value} {Q : Value → Shared → Prop} (ht : IsTup s.heap t its.toArray) (hs : s.heap.IsSliceOf sl .none .none vs) (ps : IsPart vs (some (-1)))
    (h : Q (.ref s.heap.objs.size) { s with heap := s.heap.push { cls := .type "tuple", data := .seq its.reverse.toArray } }) (hsz : its.length ≤ sizeLine) : wpAny (model prog w) A (getItem (.ref t) (.ref sl)) Q E s := by
  have hroom : sizeOk (.seq its.reverse.toArray) := by
    show its.reverse.toArray.size ≤ sizeLine
    rw [List.size_toArray, List.length_reverse]; exact hsz
  obtain ⟨os, hos, hcs, hds⟩ := id hs
  have hTs : s.TypeIs (.ref sl) "slice" := ⟨os, hos, hcs⟩
  unfold getItem
  try with_reducible refine wpAny_holding ?_
  first | refine wpAny_bind (wpAny_pure ?_) | skip
  refine wpAny_bind (wpAny_sequenceKey ht.typeIs (by decide) ?_)
  refine wpAny_bind (wpAny_callSpecial?_slot (name := Str.ofString "__getitem__") ht.typeIs PyProof.Rows.slot_tuple_getitem
    (wpAny_call_entry PyProof.Rows.slot_tuple_getitem ht.typeIs entry_tuple_getitem ?_ (args_tuple_getitem _ _)))
  show wpAny _ _ (Builtin.Tuple.tupleItemsOf (.ref t) >>= _) _ _ s
  refine wpAny_bind (tupleItemsOf_ ht ?_)
  refine wpAny_bind (wpAny_typeOf hTs ?_)
  rw [if_pos (by decide)]
  rw [List.size_toArray]
  refine wpAny_bind (applied_back hs ps ?_)
  have hno : ¬ ((((its.length : Int) - 1) == 0 && (-1 : Int) == 1 && its.length == its.length) = true) := by
    rw [show ((-1 : Int) == 1) = false from rfl, Bool.and_false, Bool.false_and]; exact Bool.false_ne_true
  show wpAny _ _ (if (((its.length : Int) - 1) == 0 && (-1 : Int) == 1 && its.length == its.length) = true then _ else _) _ _ s
  rw [if_neg hno, pick_back]
  first
    | exact wpAny_bind (m := Builtin.Tuple.tupleExact _) (wpAny_newObj_type (wpAny_pure ⟨_, rfl, wpAny_pure h⟩) hroom)
    | exact wpAny_bind (m := Builtin.Tuple.tupleExact _) (wpAny_newObj_type (wpAny_bind (wpAny_pure (wpAny_pure ⟨_, rfl, wpAny_pure h⟩))) hroom)
    | exact wpAny_bind (wpAny_bind (m := Builtin.Tuple.tupleExact _) (wpAny_newObj_type (wpAny_pure (wpAny_pure ⟨_, rfl, wpAny_pure h⟩)) hroom))
    | exact wpAny_bind (wpAny_bind (m := Builtin.Tuple.tupleExact _) (wpAny_newObj_type (wpAny_pure ⟨_, rfl, wpAny_pure h⟩) hroom))
/-- what a list keeps when all from a place on is taken out -/
theorem keep_front {α : Type} (f : α × Nat → Option α) (a : Nat) : ∀ (its : List α) (j : Nat), (∀ x k, k < j + its.length → f (x, k) = if a ≤ k then none else some x) → (its.zipIdx j).filterMap f = its.take (a - j)
  | [], j, _ => by simp
  | x :: l, j, h => by
    have h0 := h x j (by rw [List.length_cons]; omega)
    have ih := keep_front f a l (j + 1) fun y k hk => h y k (by rw [List.length_cons]; omega)
    rw [List.zipIdx_cons]
    by_cases c : a ≤ j
    · rw [if_pos c] at h0
      rw [List.filterMap_cons_none h0, ih, show a - (j + 1) = 0 by omega, show a - j = 0 by omega, List.take_zero, List.take_zero]
    · rw [if_neg c] at h0
      rw [List.filterMap_cons_some h0, ih, show a - j = (a - (j + 1)) + 1 by omega, List.take_succ_cons]
theorem bounds_from (lo : Int) (n : Nat) : sliceBounds (some lo) none none n = (((HT.sIx n 0 (some lo) : Nat) : Int), (n : Int), 1) := by
  obtain ⟨h1, h2, h3⟩ := slice_bounds (some lo) none n
  have e : (HT.sIx n n none) = n := rfl
  rw [e] at h2
  exact Prod.ext h1 (Prod.ext h2 h3)
/-- del xs[lo:] -/
theorem delItem_from {l sl : Addr} {its : List Value} {n : Nat} {vl : Value} {lo : Int} {Q : Unit → Shared → Prop} (e : s.heap.get? l = some { cls := .type "list", data := .seq its.toArray n })
    (hs : s.heap.IsSliceOf sl vl .none .none) (pl : IsPart vl (some lo)) (hsz : its.length ≤ sizeLine)
    (h : ∀ f : Array Value → Array Value, f its.toArray = (its.take (HT.sIx its.length 0 (some lo))).toArray → Q () { s with heap := s.heap.update l (Obj.mapSeq f) }) :
    wpAny (model prog w) A (delItem (.ref l) (.ref sl)) Q E s := by
  have hl : s.heap.IsList l its.toArray := PySem.IsL.isList e
  obtain ⟨os, hos, hcs, hds⟩ := id hs
  have hTs : s.TypeIs (.ref sl) "slice" := ⟨os, hos, hcs⟩
  have hstep : ¬ ((rawPart none == rawInt 0) = true) := Bool.false_ne_true
  refine wpAny_delItem_slot hl.typeIs (by decide) F.slot_list_delitem ?_
  refine wpAny_call_entry F.slot_list_delitem hl.typeIs F.entry_list_delitem ?_ (F.args_list_delitem_2 _ _)
  show wpAny _ _ (Builtin.List.listSubscript? (.ref sl) >>= _) _ _ s
  refine wpAny_bind ?_
  unfold Builtin.List.listSubscript?
  refine wpAny_bind (wpAny_specialOf hTs slice_no_index ?_)
  simp only [Option.isNone_none, if_true]
  refine wpAny_pure ?_
  show wpAny _ _ (typeOf (.ref sl) >>= _) _ _ s
  refine wpAny_bind (wpAny_typeOf hTs ?_)
  first
    | rw [if_neg (by decide)]
    | refine PySem.W.KFB.if_not (by decide) ?_
  rw [listSliceParts_eq]
  refine wpAny_bind (wpAny_bind (wpAny_field hos hds (x := .none) rfl (wpAny_bind (wpAny_listPart .none ?_))))
  rw [if_neg hstep]
  refine wpAny_bind (wpAny_field hos hds (x := vl) rfl (wpAny_bind (wpAny_listPart pl ?_)))
  refine wpAny_bind (wpAny_field hos hds (x := .none) rfl (wpAny_bind (wpAny_listPart .none (wpAny_pure ?_))))
  unfold Builtin.List.listItems
  refine wpAny_bind (wpAny_bind (wpAny_seqItems e rfl (wpAny_pure ?_)))
  rw [List.size_toArray]
  refine wpAny_bind (wpAny_of_eq ((sliceIndices_raw (some lo) none none its.length (by simp)).trans (congrArg (pure : Int × Int × Int → Sem (Int × Int × Int)) (bounds_from lo its.length))) ?_)
  refine wpAny_bind (wpAny_rule ?_)
  have hcut : HT.sIx its.length 0 (some lo) ≤ its.length := HT.sIx_le _ _ (Nat.zero_le _) _
  generalize hg : HT.sIx its.length 0 (some lo) = a at hcut h ⊢
  refine wpAny_bind (m := Builtin.List.listUpdate (.ref l) _) ?_
  show wpAny _ _ (updateSeq l _) _ _ s
  have key : ∀ (f : Value × Nat → Option Value), (∀ x k, k < its.length → f (x, k) = if a ≤ k then none else some x) → (its.toArray.toList.zipIdx.filterMap f).toArray = (its.take a).toArray := fun f hf => by
    have := keep_front f a its 0 fun x k hk => hf x k (by omega)
    rw [Nat.sub_zero] at this
    rw [show its.toArray.toList = its from rfl, this]
  have hk := key (fun p => if (if (1 : Int) > 0 then decide ((a : Int) ≤ (p.2 : Int)) && decide ((p.2 : Int) < (its.length : Int)) && (((p.2 : Int) - (a : Int)) % 1 == 0) else decide ((its.length : Int) < (p.2 : Int)) && decide ((p.2 : Int) ≤ (a : Int)) && (((a : Int) - (p.2 : Int)) % (-1) == 0)) = true then none else some p.1) fun x k hk => by
    dsimp only
    rw [if_pos (show (1 : Int) > 0 by decide), Int.emod_one, show ((0 : Int) == 0) = true from rfl, Bool.and_true, decide_eq_true (show (k : Int) < (its.length : Int) by omega), Bool.and_true]
    by_cases c : a ≤ k
    · rw [if_pos (by rw [decide_eq_true_iff]; omega), if_pos c]
    · rw [if_neg (by rw [decide_eq_true_iff]; omega), if_neg c]
  refine wpAny_updateSeq (hz := by rw [List.size_toArray]; exact hsz) (_hz' := ?_) e rfl ?_
  · refine wpAny_bind (wpAny_letGo ?_)
    first
      | exact wpAny_bind (wpAny_pure (wpAny_pure (h _ hk)))
      | exact wpAny_pure ⟨.none, rfl, wpAny_pure (h _ hk)⟩
      | exact wpAny_pure ⟨.none, rfl, h _ hk⟩
      | exact wpAny_pure (h _ hk)
  · refine Nat.le_trans (Nat.le_of_eq (congrArg Array.size hk)) ?_
    rw [List.size_toArray, List.length_take]
    omega
end
open Builtin in
set_option maxRecDepth 8000 in
theorem extend_tuple (l : Addr) (items : Array Value) (n : Nat) (b : Addr) (items2 : Array Value) (n2 : Nat) (dd : Option Addr) (sl : Array (Option Value)) (hs0 : ¬(!items.isEmpty && Builtin.List.listTooLong (items.size + items2.size)) = true) (hs1 : items.size ≤ sizeLine) (hs2 : items.size + items2.size ≤ sizeLine + 1) :
    Meets (Builtin.«list.extend» ⟨[.ref l, .ref b], []⟩) (fun _ R s => s.heap.get? l = some { cls := .type "list", dict := none, data := .seq items n, slots := #[] } ∧ s.heap.get? b = some { cls := .type "tuple", dict := dd, data := .seq items2 n2, slots := sl } ∧ R (.ok (.ret Value.none)) { s with heap := s.heap.update l (Obj.mapSeq fun x => x ++ items2), toks := s.toks }) :=
  .of_wp fun prog w A R s h => by
    obtain ⟨hp, g, d, tk, os⟩ := s; obtain ⟨hl, hb, h⟩ := h; have f2 := sub_tuple_tuple; have f3 := sub_list_list; have f4 := sub_tuple_list; have f5 := sub_list_tuple
    have room : (items ++ items2).size ≤ sizeLine + 1 := by rw [Array.size_append]; exact hs2
    wp_walk using (wpAny_updateSeq hl rfl (hz := hs1) (_hz' := room)), wpAny_loadPart' hl, wpAny_loadPart' hb; exact ⟨_, rfl, h⟩
end ET3

/-! texts cut and read: the rules of the layer -/
namespace EL
open PySem PySem.Spec PyProof.Rows L2 ET2
variable [TabC]
variable {K : PySem.W.Frag} {w : World}
section
variable {X : Cx}
def tRevT (K : PySem.W.Frag) (te : TE) : TE := fun σ H Q => te σ H fun x H1 => ∃ a xs, x = .ref a ∧ SqT K H1 a xs ∧ ∀ p, H1 p = none → Q (.ref p) (upd H1 p (.tup xs.reverse))
theorem pe_revT {e : Expr} {te : TE} {k : Nat} {p1 p2 p3 pos : Pos} (he : PE X e te) : PE X (.Subscript e (.Slice none none (some (.UnaryOp .USub (.Constant (.int 1) k p1) p2)) p3) pos) (tRevT X.K te) := by
  refine ⟨fun pins s σ H Q I h => ?_⟩
  refine Subscript_ (thn (he.run pins s σ H _ I h) fun v s1 ⟨x, H1, I1, r1, q1⟩ => ?_)
  obtain ⟨a, xs, ex, hx, q⟩ := q1
  subst ex
  cases r1
  have hst : PO X (some (.UnaryOp .USub (.Constant (.int 1) k p1) p2)) (tPart (tUn (rU fun i => .int (-i)) (tC (.int 1)))) := po_some (pe_un un_neg pe_int)
  refine wpAny_Slice (thn (po_none.run pins s1 σ H1 (fun o H2 => o = none ∧ H2 = H1) I1 ⟨rfl, rfl⟩) fun vl s2 ⟨l, H2, I2, pl, el, e2⟩ => ?_)
  subst el e2
  refine thn (po_none.run pins s2 σ H2 (fun o H3 => o = none ∧ H3 = H2) I2 ⟨rfl, rfl⟩) fun vu s3 ⟨u, H3, I3, pu, eu, e3⟩ => ?_
  subst eu e3
  refine thn (hst.run pins s3 σ H3 (fun o H4 => o = some (-1) ∧ H4 = H3) I3 ⟨1, rfl, -1, rfl, rfl, rfl⟩) fun vs s4 ⟨o, H4, I4, ps, eo, e4⟩ => ?_
  subst eo e4
  cases pl
  cases pu
  have I5 : Inv X pins σ H4 { s4 with heap := s4.heap.push { cls := .type "slice", data := .fields #[.none, .none, vs] } } := I4.kept (t' := s4.toks) fun b ob q => Heap.get?_push_of_some _ q
  obtain ⟨its, r, ht, hz⟩ := I5.tuple hx
  have hlen := r.length
  show wpAny (model X.prog X.w) X.A (subscriptTail e (.Slice none none (some (.UnaryOp .USub (.Constant (.int 1) k p1) p2)) p3) (.ref a) (.ref s4.heap.objs.size)) (EP X pins σ Q) X.xe { s4 with heap := s4.heap.push { cls := .type "slice", data := .fields #[.none, .none, vs] } }
  refine tail_any (ops := [.ref a, .ref s4.heap.objs.size]) ht.typeIs (PyProof.Rows.slot_tuple_getitem.lookup) ?_ (by with_unfolding_all rfl)
  refine ET3.getItem_back ht (Heap.IsSliceOf.new _ .none .none vs) ps ?_ (by omega)
  refine ⟨.ref _, _, I5.laid (t' := s4.toks) (o := .tup xs.reverse) (fun b ob q => Heap.get?_push_of_some _ q) (Nat.le_refl _) ?_, rfl, q _ (I5.hok.fresh (Nat.le_refl _))⟩
  exact ⟨by rw [List.length_reverse]; exact hz, its.reverse, r.reverse, IsTup.new _ _⟩
/-- del xs[lo:] -/
def tDelF (to : TE) (tl : TO) : TS := fun D σ H => to σ H fun x H1 => tl σ H1 fun o H2 => ∃ (l : Addr) (xs : List V) (lo : Int), x = .ref l ∧ o = some lo ∧ H2 l = some (.lst xs) ∧ D.nx σ (upd H2 l (.lst (xs.take (HT.sIx xs.length 0 (some lo)))))
theorem ps_delF {o lo : Expr} {to : TE} {tl : TO} {p2 tpos pos : Pos} (ho : PE X o to) (hi : PO X (some lo) tl) : PS X (.Delete [.Subscript o (.Slice (some lo) none none p2) tpos] pos) (tDelF to tl) := by
  refine ⟨fun pins s σ H D I h => ?_⟩
  refine wpAny_Delete (wpAny_deleteEach_cons (wpAny_delete_Subscript (thn (ho.run pins s σ H _ I h) fun u s1 ⟨x, H1, I1, rx, q1⟩ => ?_)))
  refine wpAny_Slice (thn (hi.run pins s1 σ H1 _ I1 q1) fun vl s2 ⟨ol, H2, I2, pl, q2⟩ => ?_)
  refine thn (po_none.run pins s2 σ H2 (fun o H3 => o = none ∧ H3 = H2) I2 ⟨rfl, rfl⟩) fun vu s3 ⟨u', H3, I3, pu, eu, e3⟩ => ?_
  subst eu e3
  rw [evalPart_none]
  refine wpAny_pure ?_
  obtain ⟨l, xs, j, ex, eo, hH, q2⟩ := q2
  subst ex eo
  cases (show u = Value.ref l from rx)
  cases pu
  have I4 : Inv X pins σ H3 { s3 with heap := s3.heap.push { cls := .type "slice", data := .fields #[vl, .none, .none] } } := I3.kept (t' := s3.toks) fun b ob q => Heap.get?_push_of_some _ q
  obtain ⟨z, its, n, r, hl, e⟩ := I4.lstM hH
  refine ET3.delItem_from e (Heap.IsSliceOf.new _ vl .none .none) pl (by omega) fun f hf => ?_
  refine wpAny_deleteEach_nil ⟨σ, _, I4.lset (its' := its.take (HT.sIx its.length 0 (some j))) (t' := s3.toks) hH e hf (r.take _) ?_, ?_⟩
  · rw [List.length_take]; omega
  · rw [← hl]; exact q2
/-! xs.extend(a tuple) -/
def rExtendT (K : PySem.W.Frag) : V → List V → Hp → VK → Prop := fun x vs H Q => ∃ l b xs zs, x = .ref l ∧ vs = [.ref b] ∧ H l = some (.lst xs) ∧ SqT K H b zs ∧ xs.length + zs.length ≤ sizeLine ∧ Q .non (upd H l (.lst (xs ++ zs)))
theorem mt_extendT : MtM X "list.extend" (rExtendT X.K) := by
  intro pins s σ H x vs v us Q I rx rv h
  obtain ⟨l, b, xs, zs, rfl, rfl, hH, hB, hz, q⟩ := h
  cases rx
  obtain ⟨u, rfl, ru⟩ := rv.one
  cases ru
  obtain ⟨z, its, n, r, hl, e⟩ := I.lstM hH
  obtain ⟨its2, r2, ⟨o, ho, hc, n2, hd⟩, z2⟩ := I.tuple hB
  obtain ⟨oc, od, odata, osl⟩ := o
  dsimp only at hc hd
  subst hc hd
  have hl2 := r2.length
  have hsz : its.toArray.size + its2.toArray.size ≤ sizeLine := by rw [List.size_toArray, List.size_toArray]; omega
  have hlong : ¬ (!its.toArray.isEmpty && Builtin.List.listTooLong (its.toArray.size + its2.toArray.size)) = true := by
    rw [notLongL hsz, Bool.and_false]
    exact Bool.false_ne_true
  refine call_meets F.slot_list_extend ⟨_, e, rfl⟩ F.entry_list_extend (F.args_list_extend_2 _ _)
    (ET3.extend_tuple l its.toArray n b its2.toArray n2 od osl hlong (by rw [List.size_toArray]; omega) (by omega)) ⟨e, ho, ?_⟩
  refine ⟨.non, _, I.lset (its' := its ++ its2) hH e (by simp) (r.append r2) ?_, rfl, q⟩
  rw [List.length_append]
  omega
/-! a written dict of texts -/
def BehK (K : PySem.W.Frag) (w : World) (p : Addr) (f : Str → Option Str) : Prop := (p == sysModules) = false ∧ ∃ es n, K.lookup p = some ⟨.type "dict", none, .dict es n, #[]⟩ ∧ PySem.W.KeysLit w.params es.toList ∧
  ∀ z, (∃ y t, f z = some y ∧ PySem.W.nsIn K p z = some (some (.str y t))) ∨ (f z = none ∧ PySem.W.nsIn K p z = some none)
def rInB (K : PySem.W.Frag) (w : World) (f : Str → Option Str) : R2 := fun x y H Q => ∃ p z, x = .str z ∧ y = .ref p ∧ BehK K w p f ∧ Q (.bl (f z).isSome) H
theorem op_inB {f : Str → Option Str} : OpR X (compareOp .In) (rInB X.K X.w f) := by
  intro pins s σ H x y v u Q I rx ry h
  obtain ⟨p, z, rfl, rfl, ⟨hd, es, n, hl, hk, hz⟩, q⟩ := h
  obtain ⟨t, rfl⟩ := rx
  cases ry
  refine wpAny_in_of (strKind_is X.prog X.w z t) hd (PySem.W.mapOf_K I.kIn hl hk) ?_
  rcases hz z with ⟨y, t', e1, e2⟩ | ⟨e1, e2⟩
  · rw [PySem.W.find_K hl e2]
    rw [e1] at q
    exact ⟨.bl true, H, I.tok _, rfl, q⟩
  · rw [PySem.W.find_K hl e2]
    rw [e1] at q
    exact ⟨.bl false, H, I.tok _, rfl, q⟩
/-! list(text) -/
def rListS : List V → Hp → VK → Prop := fun xs H Q => ∃ z : Str, xs = [.str z] ∧ z.length ≤ sizeLine ∧ ∀ l, H l = none → Q (.ref l) (upd H l (.lst (z.cps.toList.map fun c => V.str ⟨#[c]⟩)))
theorem vals_signs : ∀ {us : List Value} {cs : List Nat}, us.length = cs.length → (∀ (j : Nat) (v : Value), us[j]? = some v → ∃ (c : Nat) (u : Tok), cs[j]? = some c ∧ v = Value.str ⟨#[c]⟩ u) → Vals (cs.map fun c => V.str ⟨#[c]⟩) us
  | [], [], _, _ => .nil
  | [], _ :: _, h, _ => nomatch h
  | _ :: _, [], h, _ => nomatch h
  | v :: us, c :: cs, h, k => by
    obtain ⟨c', u, e1, e2⟩ := k 0 v rfl
    cases Option.some.inj e1
    exact .cons ⟨u, e2⟩ (vals_signs (Nat.succ.inj h) fun j y hy => k (j + 1) y hy)
theorem call_listS (hc : X.calm = true) : CallR X (.type "list") rListS := by
  intro pins s σ H xs us Q I r h
  obtain ⟨z, rfl, hz, q⟩ := h
  obtain ⟨u, rfl, t, rfl⟩ := vals1 r
  refine call_list_str (I.ok.hd hc) z t (fun h' tk acc c' kp e hacc => ?_) hz
  refine ⟨.ref s.heap.objs.size, _, I.laid (t' := tk) kp (Nat.le_refl _) (show ObjOk X.prog X.w _ h' _ (.lst (z.cps.toList.map fun c => V.str ⟨#[c]⟩)) from ⟨?_, acc.toList, c', ?_, by simpa using e⟩), rfl, q _ (I.hok.fresh (Nat.le_refl _))⟩
  · rw [List.length_map, Array.length_toList]; exact hz
  · refine vals_signs ?_ fun j v hv => ?_
    · rw [Array.length_toList, Array.length_toList]; exact hacc.1
    · obtain ⟨c, u, hc', rfl⟩ := hacc.2 j v (by simpa using hv)
      exact ⟨c, u, by simpa using hc', rfl⟩
end
section
variable {ρ : List Sl} {t ta tb te : TE} {d x y z : D} {ds es : List D} {i : Nat} {P : Post}
theorem ev_revT (h : EvQ K te ρ (.tuple ds)) : EvD K (tRevT K te) ρ (.tuple ds.reverse) := fun B B0 σ H H0 r Q q =>
  h B B0 σ H H0 r _ fun v H1 H01 w1 k1 => by
    obtain ⟨a, xs, rfl, h1, h2⟩ := k1.tup
    exact ⟨a, xs, rfl, sqT_mono w1.sub h1, fun p np => q _ _ (upd H01 p (.tup xs.reverse)) (w1.trans (.clean w1.sub np)) (.tup (.of upd_same) (dpa_mono (same_new (sub_none w1.sub np)) (dpa_revL h2)))⟩
/-- text.split(separator) -/
def rSplit : V → List V → Hp → VK → Prop := fun x xs H Q => ∃ a b, x = .str a ∧ xs = [.str b] ∧ (b.length == 0) = false ∧ a.length + 2 ≤ sizeLine ∧ rNewStrs (Txt.split a b) H Q
theorem mt_splitA {X : Cx} : MtR X "str.split" rSplit := mt_split
theorem dpa_strsOf {H : Hp} : ∀ l : List Str, DpAll K H (l.map V.str) (l.map PyData.str)
  | [] => .nil
  | x :: l => .cons (.str x) (dpa_strsOf l)
theorem ef_split {to : TE} {a b : Str} (ho : EvQ K to ρ (.str a)) (he : EvQ K te ρ (.str b)) (hb : (b.length == 0) = false) (ha : a.length + 2 ≤ sizeLine) : EvF K (tM1 rSplit to te) ρ ((Txt.split a b).map .str) := fun B B0 σ H H0 r Q q =>
  ho B B0 σ H H0 r _ fun v H1 H01 w1 k1 => ⟨⟨a, k1.str⟩, he B B0 σ H1 H01 (r.step w1) _ fun u H2 H02 w2 k2 => by
    rw [k1.str, k2.str]
    exact ⟨a, b, rfl, rfl, hb, ha, fun p np => q p _ _ H02 ((w1.trans w2).trans (.dirty w2.sub np)) ((w1.trans w2).e.free np) upd_same (sub_none w2.sub np) (dpa_strsOf _)⟩⟩
/-- text.index(text) -/
def rIndexS : V → List V → Hp → VK → Prop := fun x xs H Q => ∃ a b i rest, x = .str a ∧ xs = [.str b] ∧ Builtin.Str.occurrences a b 0 a.length 1 = i :: rest ∧ Q (.int (i : Nat)) H
theorem mt_indexS {X : Cx} : MtR X "str.index" rIndexS := mt_sindex
theorem ev_indexS {to : TE} {a b : Str} {i : Nat} {rest : List Nat} (ho : EvQ K to ρ (.str a)) (he : EvQ K te ρ (.str b)) (h : Builtin.Str.occurrences a b 0 a.length 1 = i :: rest) : EvD K (tM1 rIndexS to te) ρ (.int (i : Nat)) := fun B B0 σ H H0 r Q q =>
  ho B B0 σ H H0 r _ fun v H1 H01 w1 k1 => ⟨⟨a, k1.str⟩, he B B0 σ H1 H01 (r.step w1) _ fun u H2 H02 w2 k2 => by
    rw [k1.str, k2.str]
    exact ⟨a, b, i, rest, rfl, rfl, h, q _ H2 H02 (w1.trans w2) (.int _)⟩⟩
/-- (a, *b), [a, *b] -/
theorem ec_star {tt : TA} (he : EvQ K te ρ (.list ds)) (hr : EvC K tt ρ es) : EvC K (StX.tStar K te tt) ρ (ds ++ es) := fun B B0 σ H H0 r Q q =>
  he B B0 σ H H0 r _ fun v H1 H01 w1 k1 => by
    obtain ⟨a, xs, rfl, h1, h2⟩ := k1.lst w1.sub
    exact ⟨a, xs, rfl, .inr h1, hr B B0 σ H1 H01 (r.step w1) _ fun vs H2 H02 w2 k2 => q _ H2 H02 (w1.trans w2) (dpa_app (dpa_mono w2.e0 h2) k2)⟩
theorem ec_starT {tt : TA} (he : EvQ K te ρ (.tuple ds)) (hr : EvC K tt ρ es) : EvC K (StX.tStar K te tt) ρ (ds ++ es) := fun B B0 σ H H0 r Q q =>
  he B B0 σ H H0 r _ fun v H1 H01 w1 k1 => by
    obtain ⟨a, xs, rfl, h1, h2⟩ := k1.tup
    exact ⟨a, xs, rfl, .inl (sqT_mono w1.sub h1), hr B B0 σ H1 H01 (r.step w1) _ fun vs H2 H02 w2 k2 => q _ H2 H02 (w1.trans w2) (dpa_app (dpa_mono w2.e0 h2) k2)⟩
theorem ev_inB {f : Str → Option Str} {p : Addr} {a : Str} (b : BehK K w p f) (h : EvQ K ta ρ (.str a)) : EvD K (tOp (rInB K w f) ta (tC (.ref p))) ρ (.bool (f a).isSome) := fun B B0 σ H H0 r Q q =>
  h B B0 σ H H0 r _ fun v H1 H01 w1 k1 => by
    rw [k1.str]
    exact ⟨p, a, rfl, rfl, b, q _ H1 H01 w1 (.bl _)⟩
theorem ev_getB {f : Str → Option Str} {p : Addr} {a v : Str} (b : BehK K w p f) (h : EvQ K tb ρ (.str a)) (e : f a = some v) : EvD K (tOp (rIxD K w) (tC (.ref p)) tb) ρ (.str v) := fun B B0 σ H H0 r Q q =>
  h B B0 σ H H0 r _ fun u H1 H01 w1 k1 => by
    rw [k1.str]
    obtain ⟨hd, es, n, hl, hk, hz⟩ := b
    rcases hz a with ⟨y, t', e1, e2⟩ | ⟨e1, e2⟩
    · rw [e] at e1
      cases e1
      exact ⟨p, a, .str v, rfl, rfl, ⟨es, n, _, hl, hk, e2, t', rfl⟩, q _ H1 H01 w1 (.str _)⟩
    · rw [e] at e1; cases e1
theorem cf_listS {a : Str} (hz : a.length ≤ sizeLine) : CF K rListS [.str a] (a.cps.toList.map fun c => nm c) := fun H H0 vs s k Q q => by
  obtain ⟨v, rfl, kk⟩ := dq1 k
  rw [kk.str]
  have key : ∀ l : List Nat, DpAll K H0 (l.map fun c => V.str ⟨#[c]⟩) (l.map fun c => nm c) := fun l => by
    induction l with
    | nil => exact .nil
    | cons c l ih => exact .cons (.str _) ih
  exact ⟨a, rfl, hz, fun l nl => q l _ _ H0 (.dirty s nl) nl upd_same (sub_none s nl) (key _)⟩
/-- str(text) -/
def rStr : List V → Hp → VK → Prop := fun xs H Q => (∃ i, xs = [.int i] ∧ i.natAbs.log2 < 1920 ∧ Q (.str (toString i)) H) ∨ ∃ a, xs = [.str a] ∧ Q (.str a) H
theorem call_strA {X : Cx} : CallR X (.type "str") rStr := call_str_int.or SkE.call_str_str
theorem cd_strS {a : Str} : CD K rStr [.str a] (.str a) := fun H H0 vs s k Q q => by
  obtain ⟨v, rfl, kk⟩ := dq1 k
  rw [kk.str]
  exact .inr ⟨a, rfl, q _ H H0 (.refl s) (.str _)⟩
theorem cd_strI {i : Int} (h0 : 0 ≤ i) (h : i < 10) : CD K rStr [.int i] (.str (mkS [48 + i.toNat])) := fun H H0 vs s k Q q => .inl (cd_dig (K := K) h0 h H H0 vs s k Q q)
/-- 'a' <= text -/
def rLeS : R2 := fun x y H Q => ∃ i j, x = .str i ∧ y = .str j ∧ Q (.bl (!decide (j.cps.toList < i.cps.toList))) H
theorem op_leS {X : Cx} : OpR X (compareOp .LtE) rLeS := op_le_str
theorem rd_leS {a b : List Nat} : RD K rLeS (.str (mkS a)) (.str (mkS b)) (.bool (!decide (b < a))) := fun H H0 v u s k1 k2 Q q => by
  rw [k1.str, k2.str]
  exact ⟨_, _, rfl, rfl, q _ H H0 (.refl s) (.bl _)⟩
/-- one's own del xs[lo:] -/
theorem w_delF {tl : TO} {lo : Int} (h : ρ[i]? = some (Sl.own ds)) (h1 : EvO K tl ρ (some lo)) (k : P.nx (ρ.set i (.own (ds.take (HT.sIx ds.length 0 (some lo)))))) : Wp K (tDelF (tVar i) tl) ρ P := fun B B0 σ H H0 r E m => by
  obtain ⟨a, xs, e1, e2, e3, e4, e5⟩ := r.own i ds h
  refine ⟨_, e1, h1 B B0 σ H H0 r _ fun H1 H01 w1 => ?_⟩
  have r1 := r.step w1
  obtain ⟨a', xs', f1, f2, f3, f4, f5⟩ := r1.own i ds h
  rw [e1] at f1; cases f1
  refine ⟨a, xs', lo, rfl, rfl, f4, ?_⟩
  rw [dpa_len f5]
  exact m.nx _ _ _ H01 k (r1.write h e1 (dpa_take _ f5))
/-- one's own list.extend(a tuple) -/
theorem w_extendT (h : ρ[i]? = some (Sl.own ds)) (he : EvQ K te ρ (.tuple es)) (hl : ds.length + es.length ≤ sizeLine) (k : P.nx (ρ.set i (.own (ds ++ es)))) : Wp K (tDrop (tBM K "list" (rExtendT K) (tVar i) (tCons te tNil))) ρ P := fun B B0 σ H H0 r E m => by
  obtain ⟨a, xs, e1, e2, e3, e4, e5⟩ := r.own i ds h
  refine ⟨_, e1, .inl ⟨rfl, _, .of e4⟩, he B B0 σ H H0 r _ fun v H1 H01 w1 k1 => ?_⟩
  have r1 := r.step w1
  obtain ⟨a', xs', f1', f2, f3, f4, f5⟩ := r1.own i ds h
  rw [e1] at f1'; cases f1'
  obtain ⟨b, ys, rfl, g1, g2⟩ := k1.tup
  refine ⟨a, b, xs', ys, rfl, rfl, f4, sqT_mono w1.sub g1, by rw [dpa_len f5, dpa_len g2]; exact hl, ?_⟩
  exact m.nx _ _ _ H01 k (r1.write h e1 (dpa_app f5 g2))
end
end EL

/-! loops that may raise in the middle -/
namespace EL
open PySem PySem.Spec PyProof.Rows L2
variable [TabC]
variable {K : PySem.W.Frag} {B B0 : Hp} {ρ : List Sl} {P : Post} {t u : TS} {te : TE} {d x y : D} {ds es out : List D} {i : Nat}
theorem wb_for {wi : TI} {g : TG} {tb : TS} {is : List Nat} (hi : Ev_It K wi ρ ds) (Inv : Nat → List Sl → Prop) (h0 : Inv 0 ρ)
    (hs : ∀ (i : Nat) (d : D) (ρ1 : List Sl), ds[i]? = some d → Inv i ρ1 → ∃ ρ2, Bd K g is d ρ1 ρ2 ∧ ∀ B1, (∀ H5 H05, Wd B B1 H5 H05 → Wd B B0 H5 H05) → Wb K B B1 tb ρ2 { nx := Inv (i + 1), ct := Inv (i + 1), bk := P.nx, rt := P.rt, rg := P.rg })
    (hd : ∀ ρ1, Inv ds.length ρ1 → P.nx ρ1) : Wb K B B0 (tFor wi g tb) ρ P := fun σ H H0 r E m =>
  hi B B0 σ H H0 r _ fun J H1 H01 w ok => by
    refine ⟨fun i n σ' H' => n = ds.length - i ∧ i ≤ ds.length ∧ ∃ ρ1 H0', Inv i ρ1 ∧ Rp K B B0 ρ1 σ' H' H0' ∧ Same H01 H0', ⟨_, rfl, Nat.zero_le _, ρ, H01, h0, r.step w, Same.refl _⟩, ?_⟩
    rintro i n σ' H' ⟨rfl, hle, ρ1, H0', inv, r1, s1⟩
    obtain ⟨ok1, ok2⟩ := ok i H' H0' s1 r1.sub
    by_cases hlt : i < ds.length
    · obtain ⟨go, yl⟩ := ok2 ds[i] (List.getElem?_eq_getElem hlt)
      obtain ⟨ρ2, hb, hw⟩ := hs i ds[i] ρ1 (List.getElem?_eq_getElem hlt) inv
      refine .inr ⟨go, fun σ2 H2 => ∃ ρ3 H03, Inv (i + 1) ρ3 ∧ Rp K B B0 ρ3 σ2 H2 H03 ∧ Same H01 H03, fun σ2 H2 ⟨ρ3, H03, a, b, c⟩ => ⟨ds.length - (i + 1), by omega, rfl, hlt, ρ3, H03, a, b, c⟩, fun x H2 hy => ?_⟩
      obtain ⟨H02, w2, k2⟩ := yl x H2 hy
      have r2 := r1.step w2
      refine hb B B0 σ' H2 H02 x r2 k2 _ fun σ3 r3 _ => ?_
      have r3' : Rp K B H01 ρ2 σ3 H2 H02 := ⟨⟨r3.wd.e, s1.trans w2.e0, r3.wd.sub, fun a o e => by
        rcases r3.wd.new a o e with z | z
        · exact .inl (w.e0 a o (r.wd.e0 a o z))
        · exact .inr z, fun _ => r3.tab⟩, r3.len, r3.dat, r3.ow, r3.oj, r3.tab, r3.gen⟩
      have backW : ∀ {H5 H05}, Wd B H01 H5 H05 → Wd B B0 H5 H05 := fun {H5 H05} w5 => by
        refine ⟨w5.e, (r.wd.e0.trans w.e0).trans w5.e0, w5.sub, fun a o e => ?_, fun t => w5.tb (t.ext (Same.refl _) (r.wd.e0.trans w.e0) fun b ps hb h0 => by
          cases q : H01 b with
          | none => rfl
          | some u =>
            rcases (r.wd.trans w).new b u q with z | z
            · rw [h0] at z; cases z
            · rw [hb] at z; cases z)⟩
        rcases w5.new a o e with z | z
        · rcases w.new a o z with z | z
          · exact r.wd.new a o z
          · exact .inr (r.wd.e.free z)
        · exact .inr z
      have backR : ∀ {ρ5 σ5 H5 H05}, Rp K B H01 ρ5 σ5 H5 H05 → Rp K B B0 ρ5 σ5 H5 H05 := fun {ρ5 σ5 H5 H05} r5 => by
        refine ⟨⟨r5.wd.e, (r.wd.e0.trans w.e0).trans r5.wd.e0, r5.wd.sub, fun a o e => ?_, fun _ => r5.tab⟩, r5.len, r5.dat, r5.ow, r5.oj, r5.tab, r5.gen⟩
        rcases r5.wd.new a o e with z | z
        · rcases w.new a o z with z | z
          · exact r.wd.new a o z
          · exact .inr (r.wd.e.free z)
        · exact .inr z
      refine hw H01 (fun _ _ => backW) σ3 H2 H02 r3' _ ⟨fun ρ5 σ5 H5 H05 k5 r5 => ⟨ρ5, H05, k5, backR r5, r5.wd.e0⟩, fun d v H5 H05 k5 w5 kd => m.rt d v H5 H05 k5 (backW w5) kd, fun ρ5 σ5 H5 H05 k5 r5 => m.nx ρ5 σ5 H5 H05 k5 (backR r5), fun ρ5 σ5 H5 H05 k5 r5 => ⟨ρ5, H05, k5, backR r5, r5.wd.e0⟩, fun φ v H5 H05 z w5 kd => m.rg φ v H5 H05 z (backW w5) kd⟩
    · have e : i = ds.length := by omega
      subst e
      exact .inl ⟨ok1 (Nat.le_refl _), m.nx ρ1 σ' H' H0' (hd ρ1 inv) r1⟩
theorem wb_append {ok : Prop} (h : ρ[i]? = some (Sl.own ds)) (he : Eb K B B0 te ρ ok d) (hl : ds.length < sizeLine) (k : ok → P.nx (ρ.set i (.own (ds ++ [d])))) : Wb K B B0 (tDrop (tBM K "list" rAppend (tVar i) (tCons te tNil))) ρ P := fun σ H H0 r E m => by
  obtain ⟨a, xs, e1, e2, e3, e4, e5⟩ := r.own i ds h
  refine ⟨_, e1, .inl ⟨rfl, _, .of e4⟩, he σ H H0 r _ fun o v H1 H01 w1 k1 => ?_⟩
  have r1 := r.step w1
  obtain ⟨a', xs', f1, f2, f3, f4, f5⟩ := r1.own i ds h
  rw [e1] at f1; cases f1
  refine ⟨a, xs', v, rfl, rfl, f4, by rw [dpa_len f5]; exact hl, ?_⟩
  exact m.nx _ _ _ H01 (k o) (r1.write h e1 (dpa_app f5 (.cons k1 .nil)))
theorem wb_freeze (h : ρ[i]? = some (Sl.own ds)) (k : Wb K B B0 t (ρ.set i (.dat (.list ds))) P) : Wb K B B0 t ρ P := fun σ H H0 r E m => by
  obtain ⟨H0', r'⟩ := r.freeze h
  exact k σ H H0' r' E m
end EL
namespace EK
open PySem PySem.Spec PyProof.Rows L2 EL
variable [TabC]
variable {X : Cx} {K : PySem.W.Frag} {w : World}
theorem inB {f : Str → Option Str} (hK : X.K = K := by rfl) (hw : X.w = w := by rfl) : OpR X (compareOp .In) (rInB K w f) := hK ▸ hw ▸ op_inB
theorem getB (hK : X.K = K := by rfl) (hw : X.w = w := by rfl) : IxR X (rIxD K w) := hK ▸ hw ▸ ix_kdict
theorem revT {e : Expr} {te : TE} {k : Nat} {p1 p2 p3 pos : Pos} (he : PE X e te) (hK : X.K = K := by rfl) : PE X (.Subscript e (.Slice none none (some (.UnaryOp .USub (.Constant (.int 1) k p1) p2)) p3) pos) (tRevT K te) := hK ▸ pe_revT he
theorem extendT (hK : X.K = K := by rfl) : MtM X "list.extend" (rExtendT K) := hK ▸ mt_extendT
theorem star {e : Expr} {es : List Expr} {te : TE} {t : TA} {p : Pos} (he : PE X e te) (hr : PA X es t) (hs : starEach (.Starred e p :: es) X.env = (true, eval e X.env) :: starEach es X.env := by rfl) (hK : X.K = K := by rfl) : PA X (.Starred e p :: es) (StX.tStar K te t) := hK ▸ StX.pa_star he hr hs
end EK

open PySem PySem.Spec PyProof.Rows L2 EL
/-! tactics of the layer: the word that an expression, an operation is worth -/
local macro_rules | `(tactic| walk_at "side") => `(tactic| first | omega | decide | assumption | (exact Or.inr ⟨by omega, by omega⟩) | (exact Or.inl ⟨by omega, by omega⟩) | (exact ⟨by omega, by omega⟩) | (exact ⟨by omega, by omega, by omega⟩))
local macro_rules | `(tactic| walk_at "rd") => `(tactic| first
  | exact rd_addI | exact rd_I0 | exact rd_lt | exact rd_le | exact rd_gt | exact rd_ge | exact rd_eqI' | exact rd_neI' | exact rd_isN | exact rd_notN
  | (apply rd_mod; walk_at "side") | (apply rd_fdiv; walk_at "side") | (apply rd_mul; walk_at "side") | (apply rd_pow; walk_at "side")
  | (apply rd_ixT; rfl) | (apply rd_ixL; rfl))
local macro_rules | `(tactic| walk_at "cd") => `(tactic| first
  | exact cd_int | exact cd_lenL | exact cd_lenT | exact cd_tupL | exact cd_tupT
  | (apply cd_str; walk_at "side"))
local macro_rules | `(tactic| walk_at "cf") => `(tactic| first | exact cf_sortP | exact cf_listT | exact cf_listL)
local macro_rules | `(tactic| walk_at "q") => `(tactic| first
  | ((with_reducible apply EvD.q); (with_reducible apply ev_var); exact rfl)
  | ((with_reducible apply ev_own); exact rfl)
  | ((with_reducible apply EvD.q); with_reducible exact ev_cint) | ((with_reducible apply EvD.q); with_reducible exact ev_cstr) | ((with_reducible apply EvD.q); with_reducible exact ev_cbl) | ((with_reducible apply EvD.q); with_reducible exact ev_cnon)
  | ((with_reducible apply eq_op); walk_at "q"; walk_at "q"; walk_at "rd")
  | ((with_reducible apply EvD.q); (with_reducible apply ev_neg); walk_at "q")
  | ((with_reducible apply EvD.q); walk_at "d")
  | ((with_reducible apply EvF.q); walk_at "f"))
local macro_rules | `(tactic| walk_at "d") => `(tactic| first
  | ((with_reducible apply ev_var); exact rfl)
  | (with_reducible exact ev_cint) | (with_reducible exact ev_cstr) | (with_reducible exact ev_cbl) | (with_reducible exact ev_cnon)
  | ((with_reducible apply ev_op); walk_at "q"; walk_at "q"; walk_at "rd")
  | ((with_reducible apply ev_neg); walk_at "q")
  | ((with_reducible apply ev_tup); walk_at "c"; (exact sz_le (by simp)))
  | ((with_reducible apply ev_cb); walk_at "a"; walk_at "cd")
  | ((with_reducible apply ev_call); walk_at "c"; walk_at "pre")
  | ((with_reducible apply EvF.cl); walk_at "f"))
local macro_rules | `(tactic| walk_at "f") => `(tactic| first
  | ((with_reducible apply ev_lst); walk_at "c"; (exact sz_le (by simp)))
  | ((with_reducible apply ev_cbF); walk_at "a"; walk_at "cf")
  | ((with_reducible apply es_L); walk_at "q"; walk_at "o"; walk_at "o"))
local macro_rules | `(tactic| walk_at "a") => `(tactic| first
  | (with_reducible exact ea_nil)
  | ((with_reducible apply ea_cons); walk_at "q"; walk_at "a"))
local macro_rules | `(tactic| walk_at "c") => `(tactic| first
  | (with_reducible exact ec_nil)
  | ((with_reducible apply ec_cons); walk_at "d"; walk_at "c"))
local macro_rules | `(tactic| walk_at "o") => `(tactic| first
  | (with_reducible exact eo_none)
  | ((with_reducible apply eo_some); walk_at "q"))
local macro_rules | `(tactic| walk_at "t") => `(tactic| first
  | ((with_reducible apply et_test); walk_at "q")
  | ((with_reducible apply et_B); walk_at "q")
  | ((with_reducible apply et_not); walk_at "t")
  | ((with_reducible apply et_truB); walk_at "q")
  | ((with_reducible apply et_truI); walk_at "q")
  | (with_reducible exact et_yes))
namespace K23
open PySem PySem.Spec PyProof.Rows L2 EL
def topS (i : Nat) : Stmt := PySem.Challenge.pw_havenorhunt_k23_sentence_texts.main.body.getD i (.Pass ⟨0, 0, 0, 0⟩)
section
variable {Pg : Program} {w : World} {K : PySem.W.Frag} {mg : Str → Option Value} {base : Heap} [TabC]
abbrev sread_sentence : Stmt := topS 6
theorem scread_sentence : FnScope ["text", "waiting", "word", "needed", "found", "item"] ["text"] (defScope sread_sentence) := ⟨rfl, rfl, rfl, by decide +kernel, rfl, by decide +kernel, by decide +kernel⟩

abbrev s_read_item : Stmt := topS 7
theorem sc_read_item : FnScope ["word"] ["word"] (defScope s_read_item) := ⟨rfl, rfl, rfl, by decide +kernel, rfl, by decide +kernel, by decide +kernel⟩

abbrev s_kind_of : Stmt := topS 8
theorem sc_kind_of : FnScope ["item"] ["item"] (defScope s_kind_of) := ⟨rfl, rfl, rfl, by decide +kernel, rfl, by decide +kernel, by decide +kernel⟩

abbrev swrite_sentence : Stmt := topS 9
theorem scwrite_sentence : FnScope ["sentence", "words", "waiting", "item"] ["sentence"] (defScope swrite_sentence) := ⟨rfl, rfl, rfl, by decide +kernel, rfl, by decide +kernel, by decide +kernel⟩

abbrev s_law_mixed : Stmt := topS 11
theorem sc_law_mixed : FnScope ["cell", "turn", "value", "first", "second", "third"] ["cell", "turn"] (defScope s_law_mixed) := ⟨rfl, rfl, rfl, by decide +kernel, rfl, by decide +kernel, by decide +kernel⟩

abbrev s_law_atom : Stmt := topS 12
theorem sc_law_atom : FnScope ["value", "names", "x", "y"] ["value", "names"] (defScope s_law_atom) := ⟨rfl, rfl, rfl, by decide +kernel, rfl, by decide +kernel, by decide +kernel⟩

abbrev s_law_matrix : Stmt := topS 13
theorem sc_law_matrix : FnScope ["value", "names", "size", "first", "second"] ["value", "names", "size"] (defScope s_law_matrix) := ⟨rfl, rfl, rfl, by decide +kernel, rfl, by decide +kernel, by decide +kernel⟩

abbrev s_law_sentence : Stmt := topS 14
theorem sc_law_sentence : FnScope ["value", "names", "rank", "name", "word", "others", "one", "inner"] ["value", "names", "rank"] (defScope s_law_sentence) := ⟨rfl, rfl, rfl, by decide +kernel, rfl, by decide +kernel, by decide +kernel⟩

abbrev s_law_turned : Stmt := topS 15
theorem sc_law_turned : FnScope ["sentence", "shift", "letters", "parts", "part"] ["sentence", "shift"] (defScope s_law_turned) := ⟨rfl, rfl, rfl, by decide +kernel, rfl, by decide +kernel, by decide +kernel⟩

abbrev s_law_text : Stmt := topS 16
theorem sc_law_text : FnScope ["sentence", "words", "part"] ["sentence"] (defScope s_law_text) := ⟨rfl, rfl, rfl, by decide +kernel, rfl, by decide +kernel, by decide +kernel⟩

abbrev s_law_spoilt : Stmt := topS 17
theorem sc_law_spoilt : FnScope ["text", "value", "words", "at", "word", "kind"] ["text", "value"] (defScope s_law_spoilt) := ⟨rfl, rfl, rfl, by decide +kernel, rfl, by decide +kernel, by decide +kernel⟩

abbrev s_law_read : Stmt := topS 18
theorem sc_law_read : FnScope ["text", "e"] ["text"] (defScope s_law_read) := ⟨rfl, rfl, rfl, by decide +kernel, rfl, by decide +kernel, by decide +kernel⟩

abbrev s_law_is_names : Stmt := topS 19
theorem sc_law_is_names : FnScope ["sentence", "part"] ["sentence"] (defScope s_law_is_names) := ⟨rfl, rfl, rfl, by decide +kernel, rfl, by decide +kernel, by decide +kernel⟩

abbrev s_law_is_places : Stmt := topS 20
theorem sc_law_is_places : FnScope ["sentence", "part"] ["sentence"] (defScope s_law_is_places) := ⟨rfl, rfl, rfl, by decide +kernel, rfl, by decide +kernel, by decide +kernel⟩

abbrev slaw : Stmt := topS 21
theorem sclaw : FnScope ["script", "turn", "cell", "value", "sentence", "text", "told", "spoilt"] ["script"] (defScope slaw) := ⟨rfl, rfl, rfl, by decide +kernel, rfl, by decide +kernel, by decide +kernel⟩

/-! ### the law's own graphs -/
def gCell (v thin : Int) (second : Nat) (s : Int × List (Int × Int)) (first : Nat) : Int × List (Int × Int) :=
  let left := if s.1 = 0 then v + 7919 * ((first : Int) + 10 * (second : Int) + 1) else s.1
  (left / 4, if left % 4 < thin then s.2 ++ [((first : Int), (second : Int))] else s.2)
def gRow (v thin : Int) (s : Int × List (Int × Int)) (second : Nat) : Int × List (Int × Int) := (List.range second).foldl (gCell v thin second) s
def gAll (v thin left : Int) (n : Nat) : Int × List (Int × Int) := (List.range n).foldl (gRow v thin) (left, [])
def graphOf (v m : Int) : Int × List (Int × Int) := (1 + v % m, sortP (gAll v (1 + v / m % 3) (v / (3 * m)) (1 + v % m).toNat).2)
def encG (g : Int × List (Int × Int)) : D := .tuple [.int g.1, .tuple (g.2.map encP)]
def pre_graph (ds : List D) : Prop := ∃ v m, ds = [.int v, .int m] ∧ 1 ≤ m ∧ m ≤ 8
def res_graph : List D → D
  | [.int v, .int m] => encG (graphOf v m)
  | _ => .none
theorem gCell_len (v thin : Int) (second : Nat) (s : Int × List (Int × Int)) (first : Nat) : (gCell v thin second s first).2.length ≤ s.2.length + 1 := by
  unfold gCell
  dsimp only
  split <;> split <;> simp
theorem gRow_len (v thin : Int) (second : Nat) : ∀ (n : Nat) (s : Int × List (Int × Int)), ((List.range n).foldl (gCell v thin second) s).2.length ≤ s.2.length + n
  | 0, s => Nat.le_refl _
  | n + 1, s => by
    rw [List.range_succ, List.foldl_append]
    have h1 := gRow_len v thin second n s
    have h2 := gCell_len v thin second ((List.range n).foldl (gCell v thin second) s) n
    show (gCell v thin second ((List.range n).foldl (gCell v thin second) s) n).2.length ≤ _
    omega
theorem gAll_len (v thin left : Int) : ∀ n, n ≤ 8 → (gAll v thin left n).2.length ≤ 8 * n
  | 0, _ => Nat.le_refl _
  | n + 1, h => by
    have h1 := gAll_len v thin left n (by omega)
    have h2 := gRow_len v thin n n (gAll v thin left n)
    unfold gAll at h1 ⊢
    rw [List.range_succ, List.foldl_append]
    show (gRow v thin (gAll v thin left n) n).2.length ≤ _
    unfold gRow
    unfold gAll at h2 ⊢
    omega
def mixed (cell turn : Int) : Int :=
  if 10 ^ 18 ≤ cell then cell else
    let first := (cell % 1000003 * 48271 + 69621 * (turn + 1)) % 2147483647
    let second := (first * 48271 + cell % 999983) % 2147483647
    let third := (second * 69621 + first) % 2147483647
    first + 2147483647 * second + 4611686014132420609 * third
def pre_mixed (ds : List D) : Prop := ∃ a b, ds = [.int a, .int b]
def res_mixed : List D → D
  | [.int a, .int b] => .int (mixed a b)
  | _ => .none
theorem ok_law_mixed {f : Addr} {fd : FuncData} {k : Nat} (F : Fun K "_law_mixed" "_law_mixed" s_law_mixed f fd) (m_int : mg "int" = none) : FnOk Pg w K mg base CX0 (k + 1) f fd ["cell", "turn"] (spD K pre_mixed res_mixed) := by
  refine fn_okD F sc_law_mixed (fun ds ⟨a, b, e⟩ => by rw [e]; rfl) fun cdv A outer s H E ds hr hp => ?_
  obtain ⟨c, u, rfl⟩ := hp
  refine ⟨_, (pss_cons (ps_set (i := 2) sc_law_mixed.nd rfl (by first | exact Or.inl rfl | exact Or.inr rfl) (pe_callTy call_int1 (by rfl) m_int (by decide +kernel) (pa_cons (pv 0) pa_nil)))
      (pss_cons (ps_if (pt_cmpR op_ge (pv 2) (pe_op op_pow pe_int pe_int) (nomark _))
      (pss_one (ps_ret (pv 2)))
      pss_nil)
      (pss_cons (ps_set (i := 3) sc_law_mixed.nd rfl (by first | exact Or.inl rfl | exact Or.inr rfl) (pe_op op_mod (pe_op (EK.add (K := K)) (pe_op (EK.mul (K := K)) (pe_op op_mod (pv 2) pe_int) pe_int) (pe_op (EK.mul (K := K)) pe_int (pe_op (EK.add (K := K)) (pv 1) pe_int))) pe_int))
      (pss_cons (ps_set (i := 4) sc_law_mixed.nd rfl (by first | exact Or.inl rfl | exact Or.inr rfl) (pe_op op_mod (pe_op (EK.add (K := K)) (pe_op (EK.mul (K := K)) (pv 3) pe_int) (pe_op op_mod (pv 2) pe_int)) pe_int))
      (pss_cons (ps_set (i := 5) sc_law_mixed.nd rfl (by first | exact Or.inl rfl | exact Or.inr rfl) (pe_op op_mod (pe_op (EK.add (K := K)) (pe_op (EK.mul (K := K)) (pv 4) pe_int) (pv 3)) pe_int))
      (pss_one (ps_ret (pe_op (EK.add (K := K)) (pe_op (EK.add (K := K)) (pv 3) (pe_op (EK.mul (K := K)) pe_int (pv 4))) (pe_op (EK.mul (K := K)) pe_int (pv 5)))))))))), ?_⟩
  apply w_seq; apply w_set; · walk_at "d"
  apply w_seq; apply w_if; · walk_at "t"
  · intro h
    apply w_ret; · walk_at "d"
    have h2 : (10:Int) ^ 18 ≤ c := of_decide_eq_true h
    show PyData.int c = PyData.int (mixed c u)
    rw [mixed, if_pos h2]
  · intro h
    have h2 : ¬ (10:Int) ^ 18 ≤ c := of_decide_eq_false h
    apply w_nxt
    apply w_seq; apply w_set; · walk_at "d"
    apply w_seq; apply w_set; · walk_at "d"
    apply w_seq; apply w_set; · walk_at "d"
    apply w_ret; · walk_at "d"
    show _ = PyData.int (mixed c u)
    rw [mixed, if_neg h2]
/-! ### sentences -/
inductive Se where
  | two (b : Bool) (x y : Nat)
  | one (b : Bool) (x : Nat)
  | at_ (p : Nat) (x : Nat)
  | neg (f : Se)
  | bin (b : Bool) (f g : Se)
  | qu (b : Bool) (x : Nat) (f : Se)
def wTwo (b : Bool) : Str := if b then "joined" else "within"
def wOne (b : Bool) : Str := if b then "empty" else "single"
def wBin (b : Bool) : Str := if b then "or" else "and"
def wQu (b : Bool) : Str := if b then "each" else "some"
def wAt : Str := "at"
def wNot : Str := "not"
def wordS : Se → Str
  | .two b _ _ => wTwo b
  | .one b _ => wOne b
  | .at_ _ _ => wAt
  | .neg _ => wNot
  | .bin b _ _ => wBin b
  | .qu b _ _ => wQu b
def encS : Se → D
  | .two b x y => .tuple [.str (wTwo b), nm x, nm y]
  | .one b x => .tuple [.str (wOne b), nm x]
  | .at_ p x => .tuple [.str wAt, .int (p : Int), nm x]
  | .neg f => .tuple [.str wNot, encS f]
  | .bin b f g => .tuple [.str (wBin b), encS f, encS g]
  | .qu b x f => .tuple [.str (wQu b), nm x, encS f]
/-- what stands behind the first word -/
inductive It where
  | n (c : Nat)
  | p (i : Nat)
  | s (f : Se)
def encI : It → D
  | .n c => nm c
  | .p i => .int (i : Int)
  | .s f => encS f
def items : Se → List It
  | .two _ x y => [.n x, .n y]
  | .one _ x => [.n x]
  | .at_ p x => [.p p, .n x]
  | .neg f => [.s f]
  | .bin _ f g => [.s f, .s g]
  | .qu _ x f => [.n x, .s f]
theorem encS_items (s : Se) : encS s = .tuple (.str (wordS s) :: (items s).map encI) := by cases s <;> rfl
def bindsS : Se → Bool
  | .qu _ _ _ => true
  | _ => false
def szS : Se → Nat
  | .two _ _ _ => 1
  | .one _ _ => 1
  | .at_ _ _ => 1
  | .neg f => szS f + 1
  | .bin _ f g => szS f + szS g + 1
  | .qu _ _ f => szS f + 1
theorem szS_pos (s : Se) : 1 ≤ szS s := by cases s <;> (unfold szS; omega)
/-- how deep a sentence is -/
def dpS : Se → Nat
  | .two _ _ _ => 0
  | .one _ _ => 0
  | .at_ _ _ => 0
  | .neg f => dpS f + 1
  | .bin _ f g => max (dpS f) (dpS g) + 1
  | .qu _ _ f => dpS f + 1
def rkS : Se → Nat
  | .two _ _ _ => 0
  | .one _ _ => 0
  | .at_ _ _ => 0
  | .neg f => rkS f
  | .bin _ f g => max (rkS f) (rkS g)
  | .qu _ _ f => rkS f + 1
/-- the name stands somewhere in it where nothing binds it -/
def freS (c : Nat) : Se → Bool
  | .two _ x y => decide (c = x) || decide (c = y)
  | .one _ x => decide (c = x)
  | .at_ _ x => decide (c = x)
  | .neg f => freS c f
  | .bin _ f g => freS c f || freS c g
  | .qu _ x f => !decide (c = x) && freS c f
/-- all names below 128 -/
def lowS : Se → Bool
  | .two _ x y => decide (x < 128) && decide (y < 128)
  | .one _ x => decide (x < 128)
  | .at_ _ x => decide (x < 128)
  | .neg f => lowS f
  | .bin _ f g => lowS f && lowS g
  | .qu _ x f => decide (x < 128) && lowS f
theorem fre_low {c : Nat} : ∀ {s : Se}, freS c s = true → lowS s = true → c < 128
  | .two _ x y, h, l => by
    obtain ⟨l1, l2⟩ := Bool.and_eq_true _ _ ▸ l
    rcases Bool.or_eq_true _ _ ▸ h with h | h
    · rw [of_decide_eq_true h]; exact of_decide_eq_true l1
    · rw [of_decide_eq_true h]; exact of_decide_eq_true l2
  | .one _ x, h, l => by rw [of_decide_eq_true h]; exact of_decide_eq_true l
  | .at_ _ x, h, l => by rw [of_decide_eq_true h]; exact of_decide_eq_true l
  | .neg f, h, l => fre_low (s := f) h l
  | .bin _ f g, h, l => by
    obtain ⟨l1, l2⟩ := Bool.and_eq_true _ _ ▸ l
    rcases Bool.or_eq_true _ _ ▸ h with h | h
    · exact fre_low h l1
    · exact fre_low h l2
  | .qu _ x f, h, l => fre_low (Bool.and_eq_true _ _ ▸ h).2 (Bool.and_eq_true _ _ ▸ l).2
/-- the free names in order -/
def fnS (s : Se) : List Nat := (List.range 128).filter fun c => freS c s
theorem fnS_lt (s : Se) : (fnS s).Pairwise (· < ·) := List.pairwise_lt_range.filter _
theorem fnS_mem {s : Se} (l : lowS s = true) (c : Nat) : c ∈ fnS s ↔ freS c s = true := by
  unfold fnS
  rw [List.mem_filter, List.mem_range]
  exact ⟨fun h => h.2, fun h => ⟨fre_low h l, h⟩⟩
/-- the names that stand alone among items, the sentences among them -/
def nmsI (b : List Nat) : List It → List Nat
  | [] => []
  | .n c :: l => if b.contains c then nmsI b l else c :: nmsI b l
  | _ :: l => nmsI b l
def subI : List It → List Se
  | [] => []
  | .s f :: l => f :: subI l
  | _ :: l => subI l
theorem nmsI_app (b : List Nat) : ∀ (l m : List It), nmsI b (l ++ m) = nmsI b l ++ nmsI b m
  | [], m => rfl
  | .n c :: l, m => by
    show (if b.contains c then nmsI b (l ++ m) else c :: nmsI b (l ++ m)) = _
    rw [nmsI_app b l m]
    show _ = (if b.contains c then nmsI b l else c :: nmsI b l) ++ _
    split <;> rfl
  | .p _ :: l, m => nmsI_app b l m
  | .s _ :: l, m => nmsI_app b l m
theorem subI_app : ∀ (l m : List It), subI (l ++ m) = subI l ++ subI m
  | [], m => rfl
  | .n _ :: l, m => subI_app l m
  | .p _ :: l, m => subI_app l m
  | .s f :: l, m => congrArg (f :: ·) (subI_app l m)
theorem nmsI_mem (b : List Nat) (c : Nat) : ∀ l : List It, c ∈ nmsI b l ↔ It.n c ∈ l ∧ c ∉ b
  | [] => ⟨fun h => (nomatch h), fun h => (nomatch h.1)⟩
  | .n d :: l => by
    show c ∈ (if b.contains d then nmsI b l else d :: nmsI b l) ↔ _
    split
    · rename_i h
      rw [nmsI_mem b c l, List.mem_cons]
      refine ⟨fun z => ⟨.inr z.1, z.2⟩, fun ⟨z, y⟩ => ⟨z.resolve_left fun e => ?_, y⟩⟩
      cases e
      exact y (List.contains_iff_mem.mp h)
    · rename_i h
      rw [List.mem_cons, nmsI_mem b c l, List.mem_cons]
      constructor
      · rintro (rfl | z)
        · exact ⟨.inl rfl, fun y => h (List.contains_iff_mem.mpr y)⟩
        · exact ⟨.inr z.1, z.2⟩
      · rintro ⟨z | z, y⟩
        · cases z; exact .inl rfl
        · exact .inr ⟨z, y⟩
  | .p i :: l => by
    show c ∈ nmsI b l ↔ _
    rw [nmsI_mem b c l, List.mem_cons]
    exact ⟨fun z => ⟨.inr z.1, z.2⟩, fun ⟨z, y⟩ => ⟨z.resolve_left (fun e => by cases e), y⟩⟩
  | .s f :: l => by
    show c ∈ nmsI b l ↔ _
    rw [nmsI_mem b c l, List.mem_cons]
    exact ⟨fun z => ⟨.inr z.1, z.2⟩, fun ⟨z, y⟩ => ⟨z.resolve_left (fun e => by cases e), y⟩⟩
/-- what is free in a sentence that binds nothing at its head -/
theorem fre_items {s : Se} (h : bindsS s = false) (c : Nat) : freS c s = true ↔ It.n c ∈ items s ∨ ∃ f ∈ subI (items s), freS c f = true := by
  cases s with
  | two b x y =>
    show (decide (c = x) || decide (c = y)) = true ↔ It.n c ∈ [It.n x, It.n y] ∨ ∃ f ∈ ([] : List Se), _
    rw [Bool.or_eq_true, decide_eq_true_iff, decide_eq_true_iff]
    simp
  | one b x =>
    show decide (c = x) = true ↔ It.n c ∈ [It.n x] ∨ ∃ f ∈ ([] : List Se), _
    rw [decide_eq_true_iff]
    simp
  | at_ p x =>
    show decide (c = x) = true ↔ It.n c ∈ [It.p p, It.n x] ∨ ∃ f ∈ ([] : List Se), _
    rw [decide_eq_true_iff]
    simp
  | neg f =>
    show freS c f = true ↔ It.n c ∈ [It.s f] ∨ ∃ g ∈ [f], _
    simp
  | bin b f g =>
    show (freS c f || freS c g) = true ↔ It.n c ∈ [It.s f, It.s g] ∨ ∃ h ∈ [f, g], _
    rw [Bool.or_eq_true]
    simp
  | qu b x f => cases h
def sumS (l : List Se) : Nat := (l.map szS).sum
theorem sz_items (s : Se) : sumS (subI (items s)) + 1 ≤ szS s ∧ (nmsI [] (items s)).length ≤ 2 := by
  cases s with
  | two b x y => exact ⟨by show 0 + 1 ≤ 1; omega, by show 2 ≤ 2; omega⟩
  | one b x => exact ⟨by show 0 + 1 ≤ 1; omega, by show 1 ≤ 2; omega⟩
  | at_ p x => exact ⟨by show 0 + 1 ≤ 1; omega, by show 1 ≤ 2; omega⟩
  | neg f => exact ⟨by show (szS f + 0) + 1 ≤ szS f + 1; omega, by show 0 ≤ 2; omega⟩
  | bin b f g => exact ⟨by show (szS f + (szS g + 0)) + 1 ≤ szS f + szS g + 1; omega, by show 0 ≤ 2; omega⟩
  | qu b x f => exact ⟨by show (szS f + 0) + 1 ≤ szS f + 1; omega, by show 1 ≤ 2; omega⟩
theorem nmsI_le (b : List Nat) : ∀ l : List It, (nmsI b l).length ≤ (nmsI [] l).length
  | [] => Nat.le_refl _
  | .n c :: l => by
    have := nmsI_le b l
    show (if b.contains c then nmsI b l else c :: nmsI b l).length ≤ (nmsI [] l).length + 1
    split
    · omega
    · show _ + 1 ≤ _; omega
  | .p _ :: l => nmsI_le b l
  | .s _ :: l => nmsI_le b l
theorem sub_len : ∀ l : List Se, l.length ≤ sumS l
  | [] => Nat.le_refl _
  | f :: l => by
    have := sub_len l
    have h := szS_pos f
    show l.length + 1 ≤ szS f + sumS l
    omega
theorem sumS_app (l m : List Se) : sumS (l ++ m) = sumS l + sumS m := by unfold sumS; rw [List.map_append, List.sum_append]
/-- the law's list of free names -/
def frL : Se → List Nat → List Nat
  | .two _ x y, b => nmsI b [.n x, .n y]
  | .one _ x, b => nmsI b [.n x]
  | .at_ _ x, b => nmsI b [.n x]
  | .neg f, b => frL f b
  | .bin _ f g, b => frL f b ++ frL g b
  | .qu _ x f, b => frL f (b ++ [x])
theorem frL_mem (c : Nat) : ∀ (s : Se) (b : List Nat), c ∈ frL s b ↔ freS c s = true ∧ c ∉ b
  | .two _ x y, b => by
    show c ∈ nmsI b [.n x, .n y] ↔ (decide (c = x) || decide (c = y)) = true ∧ _
    rw [nmsI_mem, Bool.or_eq_true, decide_eq_true_iff, decide_eq_true_iff]
    simp
  | .one _ x, b => by
    show c ∈ nmsI b [.n x] ↔ decide (c = x) = true ∧ _
    rw [nmsI_mem, decide_eq_true_iff]
    simp
  | .at_ _ x, b => by
    show c ∈ nmsI b [.n x] ↔ decide (c = x) = true ∧ _
    rw [nmsI_mem, decide_eq_true_iff]
    simp
  | .neg f, b => frL_mem c f b
  | .bin _ f g, b => by
    show c ∈ frL f b ++ frL g b ↔ (freS c f || freS c g) = true ∧ _
    rw [List.mem_append, frL_mem c f, frL_mem c g, Bool.or_eq_true]
    exact ⟨fun h => h.elim (fun z => ⟨.inl z.1, z.2⟩) fun z => ⟨.inr z.1, z.2⟩, fun ⟨z, y⟩ => z.imp (fun z => ⟨z, y⟩) fun z => ⟨z, y⟩⟩
  | .qu _ x f, b => by
    show c ∈ frL f (b ++ [x]) ↔ (!decide (c = x) && freS c f) = true ∧ _
    rw [frL_mem c f, Bool.and_eq_true, List.mem_append, List.mem_singleton, Bool.not_eq_true', decide_eq_false_iff_not]
    exact ⟨fun ⟨h1, h2⟩ => ⟨⟨fun e => h2 (.inr e), h1⟩, fun z => h2 (.inl z)⟩, fun ⟨⟨h1, h2⟩, h3⟩ => ⟨h2, fun z => z.elim h3 h1⟩⟩
theorem frL_len : ∀ (s : Se) (b : List Nat), (frL s b).length ≤ 2 * szS s
  | .two _ x y, b => Nat.le_trans (nmsI_le b _) (show 2 ≤ 2 by omega)
  | .one _ x, b => Nat.le_trans (nmsI_le b _) (show 1 ≤ 2 by omega)
  | .at_ _ x, b => Nat.le_trans (nmsI_le b _) (show 1 ≤ 2 by omega)
  | .neg f, b => by have := frL_len f b; show (frL f b).length ≤ 2 * (szS f + 1); omega
  | .bin _ f g, b => by
    have h1 := frL_len f b
    have h2 := frL_len g b
    show (frL f b ++ frL g b).length ≤ 2 * (szS f + szS g + 1)
    rw [List.length_append]; omega
  | .qu _ x f, b => by have := frL_len f (b ++ [x]); show (frL f (b ++ [x])).length ≤ 2 * (szS f + 1); omega
/-! ### the law's own sentences -/
def nmAt (ns : List Nat) (v : Int) : Nat := ns.getD (v % (ns.length : Int)).toNat 0
def atomF (v : Int) (ns : List Nat) : Se := if v % 4 = 0 then .two false (nmAt ns (v / 4)) (nmAt ns (v / 16)) else if v % 4 = 1 then .two true (nmAt ns (v / 4)) (nmAt ns (v / 16)) else .one (decide (v % 2 = 1)) (nmAt ns (v / 4))
def matF : Nat → Int → List Nat → Se
  | 0, v, ns => atomF (v / 5) ns
  | k + 1, v, ns => if v % 5 = 4 then atomF (v / 5) ns else if v % 5 = 3 then .neg (matF k (v / 5) ns) else .bin (decide (v % 2 = 1)) (matF k (v / 5) ns) (matF k (v / 625) ns)
def xyzw (v : Int) : Nat := nmAt [120, 121, 122, 119] v
def othF (v : Int) (ns : List Nat) : List Nat := (ns.filter fun c => !decide (c = xyzw v)) ++ [xyzw v]
def senF : Nat → Int → List Nat → Se
  | 0, v, ns => matF 2 (v / 8) ns
  | k + 1, v, ns =>
    let o := othF v ns
    let f := senF k (v / 8) o
    let f1 := if v / 8 % 7 = 0 then .bin (decide (v / 56 % 2 = 1)) f (matF 1 (v / 112) o) else f
    let f2 := if v / 8 % 7 = 1 then .neg f1 else f1
    .qu (decide (v / 4 % 2 = 1)) (xyzw v) f2
theorem nmAt_mem {ns : List Nat} (h : ns ≠ []) (v : Int) : nmAt ns v ∈ ns ∧ atI ns (v % (ns.length : Int)) = some (nmAt ns v) := by
  have hl : 0 < ns.length := List.length_pos_iff.mpr h
  have h0 : 0 ≤ v % (ns.length : Int) := Int.emod_nonneg _ (by omega)
  have h1 : v % (ns.length : Int) < (ns.length : Int) := Int.emod_lt_of_pos _ (by omega)
  have hi : (v % (ns.length : Int)).toNat < ns.length := by omega
  have e : nmAt ns v = ns[(v % (ns.length : Int)).toNat] := by
    unfold nmAt
    rw [List.getD_eq_getElem?_getD, List.getElem?_eq_getElem hi]
    rfl
  rw [e]
  refine ⟨List.getElem_mem hi, ?_⟩
  have := atI_nat (xs := ns) (j := (v % (ns.length : Int)).toNat) (List.getElem?_eq_getElem hi)
  rwa [Int.toNat_of_nonneg h0] at this
def OkN (ns : List Nat) : Prop := ns ≠ [] ∧ ns.length ≤ 20 ∧ ∀ c ∈ ns, c < 128
theorem xyzw_lt (v : Int) : xyzw v < 128 := by
  have := (nmAt_mem (ns := [120, 121, 122, 119]) (by decide) v).1
  unfold xyzw
  simp only [List.mem_cons, List.not_mem_nil, or_false] at this
  omega
theorem othF_ok {ns : List Nat} {m : Nat} (h : ∀ c ∈ ns, c < 128) (hl : ns.length ≤ m) (v : Int) : othF v ns ≠ [] ∧ (othF v ns).length ≤ m + 1 ∧ ∀ c ∈ othF v ns, c < 128 := by
  refine ⟨by unfold othF; simp, ?_, fun c hc => ?_⟩
  · unfold othF
    have := List.length_filter_le (fun c => !decide (c = xyzw v)) ns
    rw [List.length_append]
    show _ + 1 ≤ _
    omega
  · rcases List.mem_append.mp hc with hc | hc
    · exact h c (List.mem_filter.mp hc).1
    · rw [List.mem_singleton.mp hc]; exact xyzw_lt v
theorem atomF_ok {ns : List Nat} (h : ns ≠ []) (hl : ∀ c ∈ ns, c < 128) (v : Int) : lowS (atomF v ns) = true ∧ szS (atomF v ns) = 1 ∧ dpS (atomF v ns) = 0 ∧ rkS (atomF v ns) = 0 := by
  have a := hl _ (nmAt_mem h (v / 4)).1
  have b := hl _ (nmAt_mem h (v / 16)).1
  unfold atomF
  split
  · exact ⟨by show (decide _ && decide _) = true; rw [decide_eq_true a, decide_eq_true b]; rfl, rfl, rfl, rfl⟩
  · split
    · exact ⟨by show (decide _ && decide _) = true; rw [decide_eq_true a, decide_eq_true b]; rfl, rfl, rfl, rfl⟩
    · exact ⟨decide_eq_true a, rfl, rfl, rfl⟩
theorem matF_ok {ns : List Nat} (h : ns ≠ []) (hl : ∀ c ∈ ns, c < 128) : ∀ (k : Nat) (v : Int), lowS (matF k v ns) = true ∧ szS (matF k v ns) + 1 ≤ 2 ^ (k + 1) ∧ dpS (matF k v ns) ≤ k ∧ rkS (matF k v ns) = 0
  | 0, v => by
    obtain ⟨h1, h2, h3, h4⟩ := atomF_ok h hl (v / 5)
    exact ⟨h1, by show szS (atomF _ _) + 1 ≤ 2; omega, by show dpS (atomF _ _) ≤ 0; omega, h4⟩
  | k + 1, v => by
    obtain ⟨h1, h2, h3, h4⟩ := atomF_ok h hl (v / 5)
    obtain ⟨a1, a2, a3, a4⟩ := matF_ok h hl k (v / 5)
    obtain ⟨b1, b2, b3, b4⟩ := matF_ok h hl k (v / 625)
    have p1 : 2 ^ (k + 1 + 1) = 2 * 2 ^ (k + 1) := by rw [Nat.pow_succ, Nat.mul_comm]
    have p2 : 2 ≤ 2 ^ (k + 1) := by have := Nat.pow_le_pow_right (show 0 < 2 by decide) (show 1 ≤ k + 1 by omega); omega
    unfold matF
    split
    · exact ⟨h1, by omega, by omega, h4⟩
    · split
      · exact ⟨a1, by show szS _ + 1 + 1 ≤ _; omega, by show dpS _ + 1 ≤ _; omega, a4⟩
      · exact ⟨by show (_ && _) = true; rw [a1, b1]; rfl, by show szS _ + szS _ + 1 + 1 ≤ _; omega, by show max _ _ + 1 ≤ _; omega, by show max _ _ = 0; omega⟩
theorem senF_ok : ∀ (k : Nat) (v : Int) (ns : List Nat), ns ≠ [] → (∀ c ∈ ns, c < 128) → lowS (senF k v ns) = true ∧ szS (senF k v ns) ≤ 7 + 5 * k ∧ dpS (senF k v ns) ≤ 2 + 2 * k ∧ rkS (senF k v ns) ≤ k
  | 0, v, ns, h, hl => by
    obtain ⟨a1, a2, a3, a4⟩ := matF_ok h hl 2 (v / 8)
    exact ⟨a1, by show szS (matF _ _ _) ≤ 7; omega, a3, by show rkS (matF _ _ _) ≤ 0; omega⟩
  | k + 1, v, ns, h, hl => by
    obtain ⟨o1, _, o3⟩ := othF_ok hl (Nat.le_refl _) v
    obtain ⟨a1, a2, a3, a4⟩ := senF_ok k (v / 8) (othF v ns) o1 o3
    obtain ⟨b1, b2, b3, b4⟩ := matF_ok o1 o3 1 (v / 112)
    have x := xyzw_lt v
    have b2 : szS (matF 1 (v / 112) (othF v ns)) + 1 ≤ 4 := b2
    show (decide (xyzw v < 128) && lowS _) = true ∧ szS _ + 1 ≤ _ ∧ dpS _ + 1 ≤ _ ∧ rkS _ + 1 ≤ _
    rw [decide_eq_true x, Bool.true_and]
    generalize senF k (v / 8) (othF v ns) = f at a1 a2 a3 a4 ⊢
    generalize matF 1 (v / 112) (othF v ns) = m at b1 b2 b3 b4 ⊢
    have three : ∀ g : Se, (lowS g = true ∧ szS g ≤ 11 + 5 * k ∧ dpS g ≤ 3 + 2 * k ∧ rkS g ≤ k) → lowS g = true ∧ szS g + 1 ≤ 7 + 5 * (k + 1) ∧ dpS g + 1 ≤ 2 + 2 * (k + 1) ∧ rkS g + 1 ≤ k + 1 := fun g ⟨q1, q2, q3, q4⟩ => ⟨q1, by omega, by omega, by omega⟩
    refine three _ ?_
    by_cases c1 : v / 8 % 7 = 0
    · rw [if_pos c1, if_neg (by omega)]
      exact ⟨by show (_ && _) = true; rw [a1, b1]; rfl, by show szS _ + szS _ + 1 ≤ _; omega, by show max _ _ + 1 ≤ _; omega, by show max _ _ ≤ _; omega⟩
    · rw [if_neg c1]
      by_cases c2 : v / 8 % 7 = 1
      · rw [if_pos c2]
        exact ⟨a1, by show szS f + 1 ≤ _; omega, by show dpS f + 1 ≤ _; omega, by show rkS f ≤ _; omega⟩
      · rw [if_neg c2]
        exact ⟨a1, by omega, by omega, by omega⟩
/-! ### the law's own sentences, worked out -/
def decNm : D → Nat
  | .str s => s.cps.toList.headD 0
  | _ => 0
theorem decNm_names (ns : List Nat) : (ns.map nm).map decNm = ns := by
  rw [List.map_map]
  conv => rhs; rw [← List.map_id ns]
  rfl
def pre_atom (ds : List D) : Prop := ∃ v ns, ds = [.int v, .tuple (ns.map nm)] ∧ OkN ns
def res_atom : List D → D
  | [.int v, .tuple ns] => encS (atomF v (ns.map decNm))
  | _ => .none
theorem res_atom_ok (v : Int) (ns : List Nat) : res_atom [.int v, .tuple (ns.map nm)] = encS (atomF v ns) := by
  show encS (atomF v ((ns.map nm).map decNm)) = _
  rw [decNm_names]
theorem atI_nm {ns : List Nat} (h : ns ≠ []) (v : Int) : atI (ns.map nm) (v % (ns.length : Int)) = some (nm (nmAt ns v)) := atI_map (nmAt_mem h v).2
/-- one of two words -/
theorem ev_word2 {ρ : List Sl} {te : TE} {a b : Str} {j : Int} (h : EvQ K te ρ (.int (j % 2))) : EvD K (tOp (rIx K) (tLst (tCons (tC (.str a)) (tCons (tC (.str b)) tNil))) te) ρ (.str (if decide (j % 2 = 1) = true then b else a)) :=
  ev_op (EvF.q (ev_lst (ec_cons ev_cstr (ec_cons ev_cstr ec_nil)))) h (rd_ixL (by
    have h2 : j % 2 = 0 ∨ j % 2 = 1 := by omega
    rcases h2 with h2 | h2
    · rw [h2]; rfl
    · rw [h2]; rfl))
theorem ok_law_atom {f : Addr} {fd : FuncData} {k : Nat} (F : Fun K "_law_atom" "_law_atom" s_law_atom f fd) (m_len : mg "len" = none) : FnOk Pg w K mg base CX0 (k + 1) f fd ["value", "names"] (spD K pre_atom res_atom) := by
  refine fn_okD F sc_law_atom (fun ds ⟨_, _, e, _⟩ => by rw [e]; rfl) fun cdv A' outer s H E ds hr hp => ?_
  obtain ⟨v, ns, rfl, hne, h20, hlow⟩ := hp
  rw [res_atom_ok]
  refine ⟨_, (pss_cons (ps_set (i := 2) sc_law_atom.nd rfl (by first | exact Or.inl rfl | exact Or.inr rfl) (pe_ix (EK.ix (K := K)) (pv 1) (pe_op op_mod (pe_op op_fdiv (pv 0) pe_int) (pe_callB (EK.len (K := K)) (by rfl) m_len (by decide +kernel) (pa_cons (pv 1) pa_nil))) (fun _ _ => rfl)))
      (pss_cons (ps_set (i := 3) sc_law_atom.nd rfl (by first | exact Or.inl rfl | exact Or.inr rfl) (pe_ix (EK.ix (K := K)) (pv 1) (pe_op op_mod (pe_op op_fdiv (pv 0) pe_int) (pe_callB (EK.len (K := K)) (by rfl) m_len (by decide +kernel) (pa_cons (pv 1) pa_nil))) (fun _ _ => rfl)))
      (pss_cons (ps_if (pt_cmpR (EK.eq (K := K) hr.units) (pe_op op_mod (pv 0) pe_int) pe_int (nomark _))
      (pss_one (ps_ret (pe_tup (pa_cons pe_str (pa_cons (pv 2) (pa_cons (pv 3) pa_nil))))))
      pss_nil)
      (pss_cons (ps_if (pt_cmpR (EK.eq (K := K) hr.units) (pe_op op_mod (pv 0) pe_int) pe_int (nomark _))
      (pss_one (ps_ret (pe_tup (pa_cons pe_str (pa_cons (pv 2) (pa_cons (pv 3) pa_nil))))))
      pss_nil)
      (pss_one (ps_ret (pe_tup (pa_cons (pe_ix (EK.ix (K := K)) (pe_lst (pa_cons pe_str (pa_cons pe_str pa_nil))) (pe_op op_mod (pv 0) pe_int) (fun _ _ => rfl)) (pa_cons (pv 2) pa_nil))))))))), ?_⟩
  show Wp K _ [.dat (.int v), .dat (.tuple (ns.map nm)), .no, .no] _
  have hpos : 0 < (ns.length : Int) := by have := List.length_pos_iff.mpr hne; omega
  have el : ∀ ρ : List Sl, ρ[1]? = some (Sl.dat (.tuple (ns.map nm))) → EvQ K (tCB (EL.rLen K) (tCons (tVar 1) tNil)) ρ (.int (ns.length : Int)) := fun ρ h => by
    have := (ev_cb (K := K) (ea_cons (ev_var h).q ea_nil) (cd_lenT (ds := ns.map nm))).q
    rwa [List.length_map] at this
  refine w_seq (w_set (d := nm (nmAt ns (v / 4))) (ev_op (ev_var rfl).q (eq_op (eq_op (ev_var rfl).q ev_cint.q (rd_fdiv (by decide))) (el _ rfl) (rd_mod hpos)) (rd_ixT (atI_nm hne _))) (w_seq (w_set (d := nm (nmAt ns (v / 16))) (ev_op (ev_var rfl).q (eq_op (eq_op (ev_var rfl).q ev_cint.q (rd_fdiv (by decide))) (el _ rfl) (rd_mod hpos)) (rd_ixT (atI_nm hne _))) ?_)))
  show Wp K _ [.dat (.int v), .dat (.tuple (ns.map nm)), .dat (nm (nmAt ns (v / 4))), .dat (nm (nmAt ns (v / 16)))] _
  unfold atomF
  refine w_seq (w_if (b := decide (v % 4 = 0)) (et_test (eq_op (eq_op (ev_var rfl).q ev_cint.q (rd_mod (by decide))) ev_cint.q rd_eqI')) (fun h => ?_) fun h => w_nxt ?_)
  · rw [if_pos (of_decide_eq_true h)]
    exact w_ret (ev_tup (ec_cons ev_cstr (ec_cons (ev_var rfl) (ec_cons (ev_var rfl) ec_nil)))) rfl
  rw [if_neg (of_decide_eq_false h)]
  refine w_seq (w_if (b := decide (v % 4 = 1)) (et_test (eq_op (eq_op (ev_var rfl).q ev_cint.q (rd_mod (by decide))) ev_cint.q rd_eqI')) (fun h => ?_) fun h => w_nxt ?_)
  · rw [if_pos (of_decide_eq_true h)]
    exact w_ret (ev_tup (ec_cons ev_cstr (ec_cons (ev_var rfl) (ec_cons (ev_var rfl) ec_nil)))) rfl
  rw [if_neg (of_decide_eq_false h)]
  exact w_ret (d := .tuple [.str (wOne (decide (v % 2 = 1))), nm (nmAt ns (v / 4))]) (ev_tup (ec_cons (ev_word2 (eq_op (ev_var rfl).q ev_cint.q (rd_mod (by decide)))) (ec_cons (ev_var rfl) ec_nil))) rfl
def pre_mat (d : Nat) (ds : List D) : Prop := ∃ v ns, ∃ z : Nat, ds = [.int v, .tuple (ns.map nm), .int (z : Int)] ∧ OkN ns ∧ z < d
def res_mat : List D → D
  | [.int v, .tuple ns, .int z] => encS (matF z.toNat v (ns.map decNm))
  | _ => .none
theorem res_mat_ok (v : Int) (ns : List Nat) (z : Nat) : res_mat [.int v, .tuple (ns.map nm), .int (z : Int)] = encS (matF z v ns) := by
  show encS (matF ((z : Int)).toNat v ((ns.map nm).map decNm)) = _
  rw [decNm_names, Int.toNat_natCast]
theorem okd_law_matrix {f : Addr} {fd : FuncData} (F : Fun K "_law_matrix" "_law_matrix" s_law_matrix f fd) (c_law_atom : Cal Pg w K mg base "_law_atom" ["value", "names"] 1 (spD K pre_atom res_atom))
    (hm : mg "_law_matrix" = some (.ref f)) (hk : PySem.W.keepIn K (.ref f) = true) (hb : Binds K fd ["value", "names", "size"] []) : ∀ d k, FnOk Pg w K mg base CX0 (k + d + 2) f fd ["value", "names", "size"] (spD K (pre_mat d) res_mat) := by
  intro d
  induction d with
  | zero =>
    intro k
    refine fn_okD F sc_law_matrix (fun ds ⟨_, _, _, e, _⟩ => by rw [e]; rfl) fun cdv A' outer s H E ds hr hp => ?_
    obtain ⟨_, _, _, _, _, z⟩ := hp
    exact absurd z (Nat.not_lt_zero _)
  | succ d ih =>
    intro k
    have c_law_matrix : Cal Pg w K mg base "_law_matrix" ["value", "names", "size"] (0 + d + 2) (spD K (pre_mat d) res_mat) := ⟨f, fd, ih 0, hm, hk, hb⟩
    refine fn_okD F sc_law_matrix (fun ds ⟨_, _, _, e, _⟩ => by rw [e]; rfl) fun cdv A' outer s H E ds hr hp => ?_
    obtain ⟨v, ns, z, rfl, ho, hz⟩ := hp
    have hrec : Room (0 + d + 2) (_) := hr.mono (by omega)
    have hr : Room 1 (_) := hr.mono (by omega)
    rw [res_mat_ok]
    refine ⟨_, (pss_cons (ps_if (pw_or (pt_cmpR (EK.eq (K := K) hr.units) (pv 2) pe_int (nomark _)) (pw_or1 (pt_cmpR (EK.eq (K := K) hr.units) (pe_op op_mod (pv 0) pe_int) pe_int (nomark _)))).pt
      (pss_one (ps_ret (pe_cal c_law_atom (hr.mono (by decide)) (pa_cons (pe_op op_fdiv (pv 0) pe_int) (pa_cons (pv 1) pa_nil)))))
      pss_nil)
      (pss_cons (ps_if (pt_cmpR (EK.eq (K := K) hr.units) (pe_op op_mod (pv 0) pe_int) pe_int (nomark _))
      (pss_one (ps_ret (pe_tup (pa_cons pe_str (pa_cons (pe_cal c_law_matrix hrec (pa_cons (pe_op op_fdiv (pv 0) pe_int) (pa_cons (pv 1) (pa_cons (pe_op op_sub (pv 2) pe_int) pa_nil)))) pa_nil)))))
      pss_nil)
      (pss_cons (ps_set (i := 3) sc_law_matrix.nd rfl (by first | exact Or.inl rfl | exact Or.inr rfl) (pe_cal c_law_matrix hrec (pa_cons (pe_op op_fdiv (pv 0) pe_int) (pa_cons (pv 1) (pa_cons (pe_op op_sub (pv 2) pe_int) pa_nil)))))
      (pss_cons (ps_set (i := 4) sc_law_matrix.nd rfl (by first | exact Or.inl rfl | exact Or.inr rfl) (pe_cal c_law_matrix hrec (pa_cons (pe_op op_fdiv (pv 0) pe_int) (pa_cons (pv 1) (pa_cons (pe_op op_sub (pv 2) pe_int) pa_nil)))))
      (pss_one (ps_ret (pe_tup (pa_cons (pe_ix (EK.ix (K := K)) (pe_lst (pa_cons pe_str (pa_cons pe_str pa_nil))) (pe_op op_mod (pv 0) pe_int) (fun _ _ => rfl)) (pa_cons (pv 3) (pa_cons (pv 4) pa_nil)))))))))), ?_⟩
    show Wp K _ [.dat (.int v), .dat (.tuple (ns.map nm)), .dat (.int (z : Int)), .no, .no] _
    refine w_seq (w_if (b := decide ((z : Int) = 0) || decide (v % 5 = 4)) (et_or (et_test (eq_op (ev_var rfl).q ev_cint.q rd_eqI')) fun _ => et_test (eq_op (eq_op (ev_var rfl).q ev_cint.q (rd_mod (by decide))) ev_cint.q rd_eqI')) (fun h => ?_) fun h => w_nxt ?_)
    · refine w_ret ((ev_call (ec_cons (ev_op (ev_var rfl).q ev_cint.q (rd_fdiv (by decide))) (ec_cons (ev_var rfl) ec_nil)) (show pre_atom _ from ⟨_, ns, rfl, ho⟩)).to (res_atom_ok _ _)) ?_
      show encS (atomF (v / 5) ns) = encS (matF z v ns)
      cases z with
      | zero => rfl
      | succ z =>
        unfold matF
        rw [if_pos]
        rcases Bool.or_eq_true _ _ ▸ h with h | h
        · have := of_decide_eq_true h; omega
        · exact of_decide_eq_true h
    · rw [Bool.or_eq_false_iff] at h
      have hz0 := of_decide_eq_false h.1
      have h4 := of_decide_eq_false h.2
      cases z with
      | zero => exact absurd rfl hz0
      | succ z =>
        have esub : ∀ {ρ : List Sl}, ρ[2]? = some (Sl.dat (.int ((z + 1 : Nat) : Int))) → EvD K (tOp (rI0 fun i j => .int (i - j)) (tVar 2) (tC (.int 1))) ρ (.int (z : Int)) := fun h => (ev_op (ev_var h).q ev_cint.q rd_I0).to (congrArg PyData.int (by omega))
        have pm : ∀ u : Int, pre_mat d [.int u, .tuple (ns.map nm), .int (z : Int)] := fun u => ⟨u, ns, z, rfl, ho, by omega⟩
        unfold matF
        rw [if_neg h4]
        refine w_seq (w_if (b := decide (v % 5 = 3)) (et_test (eq_op (eq_op (ev_var rfl).q ev_cint.q (rd_mod (by decide))) ev_cint.q rd_eqI')) (fun h => ?_) fun h => w_nxt ?_)
        · rw [if_pos (of_decide_eq_true h)]
          exact w_ret (ev_tup (ec_cons ev_cstr (ec_cons ((ev_call (ec_cons (ev_op (ev_var rfl).q ev_cint.q (rd_fdiv (by decide))) (ec_cons (ev_var rfl) (ec_cons (esub rfl) ec_nil))) (pm _)).to (res_mat_ok _ _ _)) ec_nil))) rfl
        rw [if_neg (of_decide_eq_false h)]
        refine w_seq (w_set ((ev_call (ec_cons (ev_op (ev_var rfl).q ev_cint.q (rd_fdiv (by decide))) (ec_cons (ev_var rfl) (ec_cons (esub rfl) ec_nil))) (pm _)).to (res_mat_ok _ _ _)) (w_seq (w_set ((ev_call (ec_cons (ev_op (ev_var rfl).q ev_cint.q (rd_fdiv (by decide))) (ec_cons (ev_var rfl) (ec_cons (esub rfl) ec_nil))) (pm _)).to (res_mat_ok _ _ _)) ?_)))
        exact w_ret (d := .tuple [.str (wBin (decide (v % 2 = 1))), encS (matF z (v / 5) ns), encS (matF z (v / 625) ns)]) (ev_tup (ec_cons (ev_word2 (eq_op (ev_var rfl).q ev_cint.q (rd_mod (by decide)))) (ec_cons (ev_var rfl) (ec_cons (ev_var rfl) ec_nil)))) rfl
def pre_matM : List D → Prop := pre_mat 8
theorem ok_law_matrix {f : Addr} {fd : FuncData} (F : Fun K "_law_matrix" "_law_matrix" s_law_matrix f fd) (c_law_atom : Cal Pg w K mg base "_law_atom" ["value", "names"] 1 (spD K pre_atom res_atom))
    (hm : mg "_law_matrix" = some (.ref f)) (hk : PySem.W.keepIn K (.ref f) = true) (hb : Binds K fd ["value", "names", "size"] []) : FnOk Pg w K mg base CX0 10 f fd ["value", "names", "size"] (spD K pre_matM res_mat) := okd_law_matrix F c_law_atom hm hk hb 8 0
def pre_sen (d : Nat) (ds : List D) : Prop := ∃ v ns, ∃ z : Nat, ds = [.int v, .tuple (ns.map nm), .int (z : Int)] ∧ ns ≠ [] ∧ ns.length + z ≤ 20 ∧ (∀ c ∈ ns, c < 128) ∧ z < d
def res_sen : List D → D
  | [.int v, .tuple ns, .int z] => encS (senF z.toNat v (ns.map decNm))
  | _ => .none
theorem res_sen_ok (v : Int) (ns : List Nat) (z : Nat) : res_sen [.int v, .tuple (ns.map nm), .int (z : Int)] = encS (senF z v ns) := by
  show encS (senF ((z : Int)).toNat v ((ns.map nm).map decNm)) = _
  rw [decNm_names, Int.toNat_natCast]
theorem okd_law_sentence {f : Addr} {fd : FuncData} (F : Fun K "_law_sentence" "_law_sentence" s_law_sentence f fd) (m_tuple : mg "tuple" = none) (c_law_matrix : Cal Pg w K mg base "_law_matrix" ["value", "names", "size"] 10 (spD K pre_matM res_mat))
    (hm : mg "_law_sentence" = some (.ref f)) (hk : PySem.W.keepIn K (.ref f) = true) (hb : Binds K fd ["value", "names", "rank"] []) : ∀ d k, FnOk Pg w K mg base CX0 (k + d + 11) f fd ["value", "names", "rank"] (spD K (pre_sen d) res_sen) := by
  intro d
  induction d with
  | zero =>
    intro k
    refine fn_okD F sc_law_sentence (fun ds ⟨_, _, _, e, _⟩ => by rw [e]; rfl) fun cdv A' outer s H E ds hr hp => ?_
    obtain ⟨_, _, _, _, _, _, _, z⟩ := hp
    exact absurd z (Nat.not_lt_zero _)
  | succ d ih =>
    intro k
    have c_law_sentence : Cal Pg w K mg base "_law_sentence" ["value", "names", "rank"] (0 + d + 11) (spD K (pre_sen d) res_sen) := ⟨f, fd, ih 0, hm, hk, hb⟩
    refine fn_okD F sc_law_sentence (fun ds ⟨_, _, _, e, _⟩ => by rw [e]; rfl) fun cdv A' outer s H E ds hr hp => ?_
    obtain ⟨v, ns, z, rfl, hne, h20, hlow, hz⟩ := hp
    have hrec : Room (0 + d + 11) (_) := hr.mono (by omega)
    have hr : Room 10 (_) := hr.mono (by omega)
    rw [res_sen_ok]
    refine ⟨_, (pss_cons (ps_if (pt_cmpR (EK.eq (K := K) hr.units) (pv 2) pe_int (nomark _))
      (pss_one (ps_ret (pe_cal c_law_matrix (hr.mono (by decide)) (pa_cons (pe_op op_fdiv (pv 0) pe_int) (pa_cons (pv 1) (pa_cons pe_int pa_nil))))))
      pss_nil)
      (pss_cons (ps_set (i := 3) sc_law_sentence.nd rfl (by first | exact Or.inl rfl | exact Or.inr rfl) (pe_ix (EK.ix (K := K)) pe_str (pe_op op_mod (pv 0) pe_int) (fun _ _ => rfl)))
      (pss_cons (ps_set (i := 4) sc_law_sentence.nd rfl (by first | exact Or.inl rfl | exact Or.inr rfl) (pe_ix (EK.ix (K := K)) (pe_lst (pa_cons pe_str (pa_cons pe_str pa_nil))) (pe_op op_mod (pe_op op_fdiv (pv 0) pe_int) pe_int) (fun _ _ => rfl)))
      (pss_cons (ps_set (i := 5) sc_law_sentence.nd rfl (by first | exact Or.inl rfl | exact Or.inr rfl) (pe_op (EK.add (K := K)) (pe_callTy (EK.tuple (K := K)) (by rfl) m_tuple (by decide +kernel) (pa_cons (pe_lc (own := [("one", 6)]) (g := gName 6) (by rfl) sc_law_sentence.nd (EK.seq (K := K) (pv 1)) (blkOk_by (own := [("one", 6)]) (N := ["value", "names", "rank", "name", "word", "others", "one", "inner"]) (sc := defScope s_law_sentence) (by decide +kernel)) (fun _ _ _ _ _ => (pg_name (i := 6) sc_law_sentence.nd rfl (by first | exact Or.inl rfl | exact Or.inr rfl))) (fun _ _ _ _ _ => pts_one (pt_cmpR (EK.ne (K := K) hr.units) (pv 6) (pv 3) (nomark _))) (fun _ _ _ _ _ => (pv 6))) pa_nil)) (pe_tup (pa_cons (pv 3) pa_nil))))
      (pss_cons (ps_set (i := 7) sc_law_sentence.nd rfl (by first | exact Or.inl rfl | exact Or.inr rfl) (pe_cal c_law_sentence hrec (pa_cons (pe_op op_fdiv (pv 0) pe_int) (pa_cons (pv 5) (pa_cons (pe_op op_sub (pv 2) pe_int) pa_nil)))))
      (pss_cons (ps_if (pt_cmpR (EK.eq (K := K) hr.units) (pe_op op_mod (pe_op op_fdiv (pv 0) pe_int) pe_int) pe_int (nomark _))
      (pss_one (ps_set (i := 7) sc_law_sentence.nd rfl (by first | exact Or.inl rfl | exact Or.inr rfl) (pe_tup (pa_cons (pe_ix (EK.ix (K := K)) (pe_lst (pa_cons pe_str (pa_cons pe_str pa_nil))) (pe_op op_mod (pe_op op_fdiv (pv 0) pe_int) pe_int) (fun _ _ => rfl)) (pa_cons (pv 7) (pa_cons (pe_cal c_law_matrix (hr.mono (by decide)) (pa_cons (pe_op op_fdiv (pv 0) pe_int) (pa_cons (pv 5) (pa_cons pe_int pa_nil)))) pa_nil))))))
      pss_nil)
      (pss_cons (ps_if (pt_cmpR (EK.eq (K := K) hr.units) (pe_op op_mod (pe_op op_fdiv (pv 0) pe_int) pe_int) pe_int (nomark _))
      (pss_one (ps_set (i := 7) sc_law_sentence.nd rfl (by first | exact Or.inl rfl | exact Or.inr rfl) (pe_tup (pa_cons pe_str (pa_cons (pv 7) pa_nil)))))
      pss_nil)
      (pss_one (ps_ret (pe_tup (pa_cons (pv 4) (pa_cons (pv 3) (pa_cons (pv 7) pa_nil))))))))))))), ?_⟩
    show Wp K _ [.dat (.int v), .dat (.tuple (ns.map nm)), .dat (.int (z : Int)), .no, .no, .no, .no, .no] _
    refine w_seq (w_if (b := decide ((z : Int) = 0)) (et_test (eq_op (ev_var rfl).q ev_cint.q rd_eqI')) (fun h => ?_) fun h => w_nxt ?_)
    · have hz0 : z = 0 := by have := of_decide_eq_true h; omega
      subst hz0
      exact w_ret ((ev_call (ds := [.int (v / 8), .tuple (ns.map nm), .int ((2 : Nat) : Int)]) (ec_cons (ev_op (ev_var rfl).q ev_cint.q (rd_fdiv (by decide))) (ec_cons (ev_var rfl) (ec_cons ev_cint ec_nil))) (show pre_matM _ from ⟨_, ns, 2, rfl, ⟨hne, by omega, hlow⟩, by decide⟩)).to (res_mat_ok _ _ _)) rfl
    cases z with
    | zero => exact absurd rfl (of_decide_eq_false h)
    | succ z =>
      clear h
      have n4 : ([120, 121, 122, 119] : List Nat) ≠ [] := by decide
      refine w_seq (w_set (d := nm (xyzw v)) (ev_op (EvD.q (ev_cM (l := [120, 121, 122, 119]) (by decide))) (eq_op (ev_var rfl).q ev_cint.q (rd_mod (by decide))) (rd_ixM (by decide) (nmAt_mem n4 v).2)) ?_)
      refine w_seq (w_set (d := .str (wQu (decide (v / 4 % 2 = 1)))) (ev_word2 (j := v / 4) (eq_op (eq_op (ev_var rfl).q ev_cint.q (rd_fdiv (by decide))) ev_cint.q (rd_mod (by decide)))) ?_)
      show Wp K _ [.dat (.int v), .dat (.tuple (ns.map nm)), .dat (.int ((z + 1 : Nat) : Int)), .dat (nm (xyzw v)), .dat (.str (wQu (decide (v / 4 % 2 = 1)))), .no, .no, .no] _
      have xl := xyzw_lt v
      obtain ⟨o1, o2, o3⟩ := othF_ok hlow (Nat.le_refl _) v
      refine w_seq (w_set (d := .tuple ((othF v ns).map nm)) ((ev_op (EvD.q (ev_cb (ea_cons (EvF.q (EvF.to (ef_lc (is := [6]) (c := fun d => !decide (decNm d = xyzw v)) (f := fun d => d) (ei_tup (ds := ns.map nm) (ev_var rfl)) (fun i hi => hi) (fun i d hd => ?_) ?_) ?_)) ea_nil) (cd_tupL (ds := (ns.filter fun c => !decide (c = xyzw v)).map nm)))) (EvD.q (ev_tup (ec_cons (ev_var rfl) ec_nil))) (rd_addT (es := [nm (xyzw v)]) ?_)).to ?_) ?_)
      · obtain ⟨c, hc, rfl⟩ := map_get hd
        refine ⟨_, bd_name, ?_, fun _ => ev_var rfl⟩
        show EvT K _ [.dat (.int v), .dat (.tuple (ns.map nm)), .dat (.int ((z + 1 : Nat) : Int)), .dat (nm (xyzw v)), .dat (.str (wQu (decide (v / 4 % 2 = 1)))), .no, .dat (nm c), .no] _
        have cl := hlow c (List.mem_of_getElem? hc)
        refine (et_test (eq_op (ev_var rfl).q (ev_var rfl).q (rd_neM (a := [c]) (b := [xyzw v]) (fun x hx => by cases List.mem_singleton.mp hx; omega) fun x hx => by cases List.mem_singleton.mp hx; omega))).to ?_
        show (!decide ([c] = [xyzw v])) = !decide (decNm (nm c) = xyzw v)
        congr 1
        rw [Bool.eq_iff_iff, decide_eq_true_iff, decide_eq_true_iff]
        exact ⟨fun e => List.head_eq_of_cons_eq e, fun e => congrArg (fun x => [x]) e⟩
      · rw [List.length_map]; exact small1000 (by omega)
      · rw [List.map_id', List.filter_map]
        rfl
      · have := List.length_filter_le (fun c => !decide (c = xyzw v)) ns
        rw [List.length_map]
        show _ + 1 ≤ _
        exact sz_le (by omega)
      · unfold othF
        rw [List.map_append]
        rfl
      have eF : senF (z + 1) v ns = .qu (decide (v / 4 % 2 = 1)) (xyzw v) (if v / 8 % 7 = 1 then .neg (if v / 8 % 7 = 0 then .bin (decide (v / 56 % 2 = 1)) (senF z (v / 8) (othF v ns)) (matF 1 (v / 112) (othF v ns)) else senF z (v / 8) (othF v ns)) else if v / 8 % 7 = 0 then .bin (decide (v / 56 % 2 = 1)) (senF z (v / 8) (othF v ns)) (matF 1 (v / 112) (othF v ns)) else senF z (v / 8) (othF v ns)) := rfl
      rw [eF]
      clear eF
      generalize hn : xyzw v = x at xl
      generalize ho : othF v ns = o at o1 o2 o3
      generalize (Sl.dat (.tuple (ns.map nm))) = z1
      show Wp K _ [.dat (.int v), z1, .dat (.int ((z + 1 : Nat) : Int)), .dat (nm x), .dat (.str (wQu (decide (v / 4 % 2 = 1)))), .dat (.tuple (o.map nm)), .no, .no] _
      refine w_seq (w_set ((ev_call (ds := [.int (v / 8), .tuple (o.map nm), .int (z : Int)]) (ec_cons (ev_op (ev_var rfl).q ev_cint.q (rd_fdiv (by decide))) (ec_cons (ev_var rfl) (ec_cons ((ev_op (ev_var rfl).q ev_cint.q rd_I0).to (congrArg PyData.int (by omega))) ec_nil))) (show pre_sen d _ from ⟨_, o, z, rfl, o1, by omega, o3, by omega⟩)).to (res_sen_ok _ _ _)) ?_)
      generalize senF z (v / 8) o = f1
      show Wp K _ [.dat (.int v), z1, .dat (.int ((z + 1 : Nat) : Int)), .dat (nm x), .dat (.str (wQu (decide (v / 4 % 2 = 1)))), .dat (.tuple (o.map nm)), .no, .dat (encS f1)] _
      apply w_mid (fun ρ => ρ = [.dat (.int v), z1, .dat (.int ((z + 1 : Nat) : Int)), .dat (nm x), .dat (.str (wQu (decide (v / 4 % 2 = 1)))), .dat (.tuple (o.map nm)), .no, .dat (encS (if v / 8 % 7 = 0 then .bin (decide (v / 56 % 2 = 1)) f1 (matF 1 (v / 112) o) else f1))])
      · refine w_if (b := decide (v / 8 % 7 = 0)) (et_test (eq_op (eq_op (eq_op (ev_var rfl).q ev_cint.q (rd_fdiv (by decide))) ev_cint.q (rd_mod (by decide))) ev_cint.q rd_eqI')) (fun h => ?_) fun h => w_nxt ?_
        · rw [if_pos (of_decide_eq_true h)]
          exact w_set (d := .tuple [.str (wBin (decide (v / 56 % 2 = 1))), encS f1, encS (matF 1 (v / 112) o)]) (ev_tup (ec_cons (ev_word2 (j := v / 56) (eq_op (eq_op (ev_var rfl).q ev_cint.q (rd_fdiv (by decide))) ev_cint.q (rd_mod (by decide)))) (ec_cons (ev_var rfl) (ec_cons ((ev_call (ds := [.int (v / 112), .tuple (o.map nm), .int ((1 : Nat) : Int)]) (ec_cons (ev_op (ev_var rfl).q ev_cint.q (rd_fdiv (by decide))) (ec_cons (ev_var rfl) (ec_cons ev_cint ec_nil))) (show pre_matM _ from ⟨_, o, 1, rfl, ⟨o1, by omega, o3⟩, by decide⟩)).to (res_mat_ok _ _ _)) ec_nil)))) rfl
        · rw [if_neg (of_decide_eq_false h)]
      rintro ρ rfl
      generalize (if v / 8 % 7 = 0 then Se.bin (decide (v / 56 % 2 = 1)) f1 (matF 1 (v / 112) o) else f1) = f2
      apply w_mid (fun ρ => ρ = [.dat (.int v), z1, .dat (.int ((z + 1 : Nat) : Int)), .dat (nm x), .dat (.str (wQu (decide (v / 4 % 2 = 1)))), .dat (.tuple (o.map nm)), .no, .dat (encS (if v / 8 % 7 = 1 then .neg f2 else f2))])
      · refine w_if (b := decide (v / 8 % 7 = 1)) (et_test (eq_op (eq_op (eq_op (ev_var rfl).q ev_cint.q (rd_fdiv (by decide))) ev_cint.q (rd_mod (by decide))) ev_cint.q rd_eqI')) (fun h => ?_) fun h => w_nxt ?_
        · rw [if_pos (of_decide_eq_true h)]
          exact w_set (d := .tuple [.str wNot, encS f2]) (ev_tup (ec_cons ev_cstr (ec_cons (ev_var rfl) ec_nil))) rfl
        · rw [if_neg (of_decide_eq_false h)]
      rintro ρ rfl
      exact w_ret (ev_tup (ec_cons (ev_var rfl) (ec_cons (ev_var rfl) (ec_cons (ev_var rfl) ec_nil)))) rfl
def pre_senM : List D → Prop := pre_sen 9
theorem ok_law_sentence {f : Addr} {fd : FuncData} (F : Fun K "_law_sentence" "_law_sentence" s_law_sentence f fd) (m_tuple : mg "tuple" = none) (c_law_matrix : Cal Pg w K mg base "_law_matrix" ["value", "names", "size"] 10 (spD K pre_matM res_mat))
    (hm : mg "_law_sentence" = some (.ref f)) (hk : PySem.W.keepIn K (.ref f) = true) (hb : Binds K fd ["value", "names", "rank"] []) : FnOk Pg w K mg base CX0 20 f fd ["value", "names", "rank"] (spD K pre_senM res_sen) := okd_law_sentence F m_tuple c_law_matrix hm hk hb 9 0
/-! ### sentences as rows of words -/
def tokS : Se → List Str
  | .two b x y => [wTwo b, mkS [x], mkS [y]]
  | .one b x => [wOne b, mkS [x]]
  | .at_ p x => [wAt, mkS [48 + p], mkS [x]]
  | .neg f => wNot :: tokS f
  | .bin b f g => wBin b :: (tokS f ++ tokS g)
  | .qu b x f => wQu b :: mkS [x] :: tokS f
def tokI : It → List Str
  | .n c => [mkS [c]]
  | .p i => [mkS [48 + i]]
  | .s f => tokS f
theorem tokS_items (s : Se) : tokS s = wordS s :: (items s).flatMap tokI := by cases s <;> simp [tokS, wordS, items, tokI]
def okN (c : Nat) : Bool := decide (97 ≤ c) && decide (c ≤ 122)
theorem okN_iff (c : Nat) : okN c = true ↔ 97 ≤ c ∧ c ≤ 122 := by unfold okN; rw [Bool.and_eq_true, decide_eq_true_iff, decide_eq_true_iff]
def wfS : Se → Bool
  | .two _ x y => okN x && okN y
  | .one _ x => okN x
  | .at_ p x => decide (p ≤ 2) && okN x
  | .neg f => wfS f
  | .bin _ f g => wfS f && wfS g
  | .qu _ x f => okN x && wfS f
def wfI : It → Bool
  | .n c => okN c
  | .p i => decide (i ≤ 2)
  | .s f => wfS f
theorem wfS_items (s : Se) : wfS s = (items s).all wfI := by cases s <;> simp [wfS, wfI, items]
def behTab : List (Str × Str) := [("within", "nn"), ("joined", "nn"), ("single", "n"), ("empty", "n"), ("at", "pn"), ("not", "s"), ("and", "ss"), ("or", "ss"), ("some", "ns"), ("each", "ns")]
def behF (z : Str) : Option Str := (behTab.find? fun p => decide (p.1 = z)).map (·.2)
theorem behF_mem {z k : Str} (h : behF z = some k) : (z, k) ∈ behTab := by
  unfold behF at h
  cases e : behTab.find? fun p => decide (p.1 = z) with
  | none => rw [e] at h; cases h
  | some p =>
    rw [e] at h
    have e1 : p.2 = k := Option.some.inj h
    have e2 : p.1 = z := of_decide_eq_true (List.find?_some (p := fun p : Str × Str => decide (p.1 = z)) e)
    have := List.mem_of_find?_eq_some e
    rw [← e1, ← e2]
    exact this
def kd : It → Nat
  | .n _ => 110
  | .p _ => 112
  | .s _ => 115
theorem kd_n {a : It} (h : kd a = 110) : ∃ c, a = .n c := by cases a <;> first | exact ⟨_, rfl⟩ | cases h
theorem kd_p {a : It} (h : kd a = 112) : ∃ c, a = .p c := by cases a <;> first | exact ⟨_, rfl⟩ | cases h
theorem kd_s {a : It} (h : kd a = 115) : ∃ c, a = .s c := by cases a <;> first | exact ⟨_, rfl⟩ | cases h
theorem kds1 {l : List It} {a : Nat} (h : l.map kd = [a]) : ∃ x, l = [x] ∧ kd x = a := by
  match l, h with
  | [x], h => exact ⟨x, rfl, by simpa using h⟩
theorem kds2 {l : List It} {a b : Nat} (h : l.map kd = [a, b]) : ∃ x y, l = [x, y] ∧ kd x = a ∧ kd y = b := by
  match l, h with
  | [x, y], h =>
    have h : [kd x, kd y] = [a, b] := h
    exact ⟨x, y, rfl, by simpa using congrArg (fun l => l.headD 0) h, by simpa using congrArg (fun l => l.getD 1 0) h⟩
def build (z : Str) : List It → Option Se
  | [.n x, .n y] => some (.two (decide (z = "joined")) x y)
  | [.n x] => some (.one (decide (z = "empty")) x)
  | [.p i, .n x] => some (.at_ i x)
  | [.s f] => some (.neg f)
  | [.s f, .s g] => some (.bin (decide (z = "or")) f g)
  | [.n x, .s f] => some (.qu (decide (z = "each")) x f)
  | _ => none
theorem build_ok {z k : Str} {l : List It} (h : behF z = some k) (hk : l.map kd = k.cps.toList) : ∃ s, build z l = some s ∧ wordS s = z ∧ items s = l := by
  have m := behF_mem h
  clear h
  have nn : ∀ b : Bool, z = wTwo b → l.map kd = [110, 110] → decide (z = "joined") = b → ∃ s, build z l = some s ∧ wordS s = z ∧ items s = l := fun b e hl hz => by
    obtain ⟨x, y, rfl, hx, hy⟩ := kds2 hl
    obtain ⟨x, rfl⟩ := kd_n hx
    obtain ⟨y, rfl⟩ := kd_n hy
    exact ⟨_, rfl, by show wTwo (decide (z = "joined")) = z; rw [hz, e], rfl⟩
  have n1 : ∀ b : Bool, z = wOne b → l.map kd = [110] → decide (z = "empty") = b → ∃ s, build z l = some s ∧ wordS s = z ∧ items s = l := fun b e hl hz => by
    obtain ⟨x, rfl, hx⟩ := kds1 hl
    obtain ⟨x, rfl⟩ := kd_n hx
    exact ⟨_, rfl, by show wOne (decide (z = "empty")) = z; rw [hz, e], rfl⟩
  have ss : ∀ b : Bool, z = wBin b → l.map kd = [115, 115] → decide (z = "or") = b → ∃ s, build z l = some s ∧ wordS s = z ∧ items s = l := fun b e hl hz => by
    obtain ⟨x, y, rfl, hx, hy⟩ := kds2 hl
    obtain ⟨x, rfl⟩ := kd_s hx
    obtain ⟨y, rfl⟩ := kd_s hy
    exact ⟨_, rfl, by show wBin (decide (z = "or")) = z; rw [hz, e], rfl⟩
  have ns : ∀ b : Bool, z = wQu b → l.map kd = [110, 115] → decide (z = "each") = b → ∃ s, build z l = some s ∧ wordS s = z ∧ items s = l := fun b e hl hz => by
    obtain ⟨x, y, rfl, hx, hy⟩ := kds2 hl
    obtain ⟨x, rfl⟩ := kd_n hx
    obtain ⟨y, rfl⟩ := kd_s hy
    exact ⟨_, rfl, by show wQu (decide (z = "each")) = z; rw [hz, e], rfl⟩
  simp only [behTab, List.mem_cons, List.not_mem_nil, or_false, Prod.mk.injEq] at m
  rcases m with ⟨e1, e2⟩ | ⟨e1, e2⟩ | ⟨e1, e2⟩ | ⟨e1, e2⟩ | ⟨e1, e2⟩ | ⟨e1, e2⟩ | ⟨e1, e2⟩ | ⟨e1, e2⟩ | ⟨e1, e2⟩ | ⟨e1, e2⟩ <;> rw [e2] at hk
  · exact nn false (by rw [e1]; decide) hk (by rw [e1]; decide)
  · exact nn true (by rw [e1]; decide) hk (by rw [e1]; decide)
  · exact n1 false (by rw [e1]; decide) hk (by rw [e1]; decide)
  · exact n1 true (by rw [e1]; decide) hk (by rw [e1]; decide)
  · obtain ⟨x, y, rfl, hx, hy⟩ := kds2 (a := 112) (b := 110) hk
    obtain ⟨x, rfl⟩ := kd_p hx
    obtain ⟨y, rfl⟩ := kd_n hy
    exact ⟨_, rfl, e1.symm, rfl⟩
  · obtain ⟨x, rfl, hx⟩ := kds1 (a := 115) hk
    obtain ⟨x, rfl⟩ := kd_s hx
    exact ⟨_, rfl, e1.symm, rfl⟩
  · exact ss false (by rw [e1]; decide) hk (by rw [e1]; decide)
  · exact ss true (by rw [e1]; decide) hk (by rw [e1]; decide)
  · exact ns false (by rw [e1]; decide) hk (by rw [e1]; decide)
  · exact ns true (by rw [e1]; decide) hk (by rw [e1]; decide)
theorem behF_word (s : Se) : ∃ k, behF (wordS s) = some k ∧ (items s).map kd = k.cps.toList := by
  have key : ∀ b : Bool, behF (wTwo b) = some "nn" ∧ behF (wOne b) = some "n" ∧ behF (wBin b) = some "ss" ∧ behF (wQu b) = some "ns" := by decide
  cases s with
  | two b x y => exact ⟨"nn", (key b).1, rfl⟩
  | one b x => exact ⟨"n", (key b).2.1, rfl⟩
  | at_ p x => exact ⟨"pn", show behF wAt = some "pn" by decide, rfl⟩
  | neg f => exact ⟨"s", show behF wNot = some "s" by decide, rfl⟩
  | bin b f g => exact ⟨"ss", (key b).2.2.1, rfl⟩
  | qu b x f => exact ⟨"ns", (key b).2.2.2, rfl⟩
theorem behF_len {z k : Str} (h : behF z = some k) : 1 ≤ k.length ∧ k.length ≤ 2 ∧ ∀ c ∈ k.cps.toList, c = 110 ∨ c = 112 ∨ c = 115 := by
  have m := behF_mem h
  simp only [behTab, List.mem_cons, List.not_mem_nil, or_false, Prod.mk.injEq] at m
  rcases m with ⟨e1, e2⟩ | ⟨e1, e2⟩ | ⟨e1, e2⟩ | ⟨e1, e2⟩ | ⟨e1, e2⟩ | ⟨e1, e2⟩ | ⟨e1, e2⟩ | ⟨e1, e2⟩ | ⟨e1, e2⟩ | ⟨e1, e2⟩ <;> rw [e2] <;> decide
theorem behF_one (c : Nat) : behF (mkS [c]) = none := by
  cases h : behF (mkS [c]) with
  | none => rfl
  | some k =>
    have m := behF_mem h
    have len : ∀ {z : Str}, mkS [c] = z → z.length = 1 := fun e => by rw [← e, len_mkS]; rfl
    simp only [behTab, List.mem_cons, List.not_mem_nil, or_false, Prod.mk.injEq] at m
    rcases m with ⟨e1, _⟩ | ⟨e1, _⟩ | ⟨e1, _⟩ | ⟨e1, _⟩ | ⟨e1, _⟩ | ⟨e1, _⟩ | ⟨e1, _⟩ | ⟨e1, _⟩ | ⟨e1, _⟩ | ⟨e1, _⟩ <;> exact absurd (len e1) (by decide)
def itemF (z : Str) : Option It := match z.cps.toList with
  | [c] => if 97 ≤ c ∧ c ≤ 122 then some (.n c) else if 48 ≤ c ∧ c ≤ 50 then some (.p (c - 48)) else none
  | _ => none
theorem itemF_n {c : Nat} (h : okN c = true) : itemF (mkS [c]) = some (.n c) := if_pos ((okN_iff c).mp h)
theorem itemF_p {i : Nat} (h : i ≤ 2) : itemF (mkS [48 + i]) = some (.p i) := by
  show (if 97 ≤ 48 + i ∧ 48 + i ≤ 122 then _ else if 48 ≤ 48 + i ∧ 48 + i ≤ 50 then some (It.p (48 + i - 48)) else none) = _
  rw [if_neg (by omega), if_pos (by omega), Nat.add_sub_cancel_left]
theorem itemF_tok {z : Str} {a : It} (h : itemF z = some a) : tokI a = [z] ∧ wfI a = true := by
  have ez := mkS_tl z
  unfold itemF at h
  split at h
  · rename_i c e
    rw [e] at ez
    split at h
    · rename_i hc
      cases h
      exact ⟨by rw [← ez]; rfl, (okN_iff c).mpr hc⟩
    · split at h
      · rename_i hc
        cases h
        refine ⟨?_, by show decide (c - 48 ≤ 2) = true; rw [decide_eq_true_iff]; omega⟩
        show [mkS [48 + (c - 48)]] = [z]
        rw [show 48 + (c - 48) = c by omega, ez]
      · cases h
  · cases h
/-- one word more, from the last one on -/
def stepR (its : List It) (z : Str) : Option (List It) :=
  match behF z with
  | some k => if (its.drop (its.length - k.length)).reverse.map kd = k.cps.toList then (build z (its.drop (its.length - k.length)).reverse).map fun s => its.take (its.length - k.length) ++ [.s s] else none
  | none => (itemF z).map fun a => its ++ [a]
def readF (z : Str) : Option Se := match (Txt.split z (mkS [32])).reverse.foldlM stepR [] with
  | some [.s s] => some s
  | _ => none
theorem step_sound {its out : List It} {z : Str} (h : stepR its z = some out) (w : its.all wfI = true) : out.reverse.flatMap tokI = z :: its.reverse.flatMap tokI ∧ out.all wfI = true := by
  unfold stepR at h
  split at h
  · rename_i k hk
    split at h
    · rename_i hd
      obtain ⟨s, e1, e2, e3⟩ := build_ok hk hd
      rw [e1] at h
      cases h
      generalize hn : its.length - k.length = n at e3 ⊢
      have hw : (its.take n).all wfI = true ∧ (its.drop n).all wfI = true := by
        rw [← List.take_append_drop n its, List.all_append, Bool.and_eq_true] at w
        exact w
      constructor
      · rw [List.reverse_append, List.reverse_singleton, List.singleton_append, List.flatMap_cons]
        show tokS s ++ _ = _
        rw [tokS_items, e2, e3, List.cons_append, ← List.flatMap_append, ← List.reverse_append, List.take_append_drop]
      · rw [List.all_append, hw.1, Bool.true_and, List.all_cons, List.all_nil, Bool.and_true]
        show wfS s = true
        rw [wfS_items, e3, List.all_reverse]
        exact hw.2
    · cases h
  · cases e : itemF z with
    | none => rw [e] at h; cases h
    | some a =>
      rw [e] at h
      cases h
      obtain ⟨h1, h2⟩ := itemF_tok e
      constructor
      · rw [List.reverse_append, List.reverse_singleton, List.singleton_append, List.flatMap_cons, h1]; rfl
      · rw [List.all_append, w, Bool.true_and, List.all_cons, h2]; rfl
theorem fold_sound : ∀ (ws : List Str) {its out : List It}, ws.foldlM stepR its = some out → its.all wfI = true → out.reverse.flatMap tokI = ws.reverse ++ its.reverse.flatMap tokI ∧ out.all wfI = true
  | [], its, out, h, w => by cases h; exact ⟨rfl, w⟩
  | z :: ws, its, out, h, w => by
    rw [List.foldlM_cons] at h
    cases e : stepR its z with
    | none => rw [e] at h; cases h
    | some mid =>
      rw [e] at h
      obtain ⟨h1, h2⟩ := step_sound e w
      obtain ⟨g1, g2⟩ := fold_sound ws h h2
      refine ⟨?_, g2⟩
      rw [g1, h1, List.reverse_cons, List.append_assoc]
      rfl
theorem step_item {its : List It} {z : Str} {a : It} (h : itemF z = some a) (hb : behF z = none) : stepR its z = some (its ++ [a]) := by
  unfold stepR
  rw [hb]
  show (itemF z).map _ = _
  rw [h]; rfl
theorem se_eq {s t : Se} (h : wordS s = wordS t) (hi : items s = items t) : s = t := by
  have i2 : ∀ b c, wTwo b = wTwo c → b = c := by decide
  have i1 : ∀ b c, wOne b = wOne c → b = c := by decide
  have ib : ∀ b c, wBin b = wBin c → b = c := by decide
  have iq : ∀ b c, wQu b = wQu c → b = c := by decide
  cases s <;> cases t <;> simp only [items, List.cons.injEq, It.n.injEq, It.s.injEq, It.p.injEq, reduceCtorEq, and_true, and_false, false_and, true_and] at hi
  · obtain ⟨rfl, rfl⟩ := hi; rw [i2 _ _ h]
  · subst hi; rw [i1 _ _ h]
  · obtain ⟨rfl, rfl⟩ := hi; rfl
  · subst hi; rfl
  · obtain ⟨rfl, rfl⟩ := hi; rw [ib _ _ h]
  · obtain ⟨rfl, rfl⟩ := hi; rw [iq _ _ h]
theorem step_word (its : List It) (s : Se) : stepR (its ++ (items s).reverse) (wordS s) = some (its ++ [.s s]) := by
  obtain ⟨k, e1, e2⟩ := behF_word s
  have hl : k.length = (items s).length := by
    have := congrArg List.length e2
    rw [List.length_map] at this
    show k.cps.size = _
    rw [this, Array.length_toList]
  have hn : (its ++ (items s).reverse).length - k.length = its.length := by rw [List.length_append, List.length_reverse, hl]; omega
  unfold stepR
  rw [e1]
  dsimp only
  rw [hn, List.drop_left, List.take_left, List.reverse_reverse, if_pos e2]
  obtain ⟨s', b1, b2, b3⟩ := build_ok e1 e2
  rw [b1]
  rw [show s' = s from se_eq b2 b3]; rfl
theorem fold_tok : ∀ (s : Se) (its : List It), wfS s = true → (tokS s).reverse.foldlM stepR its = some (its ++ [.s s])
  | .two b x y, its, w => by
    obtain ⟨w1, w2⟩ := Bool.and_eq_true _ _ ▸ w
    show [mkS [y], mkS [x], wTwo b].foldlM stepR its = _
    rw [List.foldlM_cons, step_item (itemF_n w2) (behF_one y)]
    show [mkS [x], wTwo b].foldlM stepR (its ++ [.n y]) = _
    rw [List.foldlM_cons, step_item (itemF_n w1) (behF_one x)]
    show [wTwo b].foldlM stepR (its ++ [.n y] ++ [.n x]) = _
    rw [List.append_assoc, List.foldlM_cons, show its ++ ([It.n y] ++ [It.n x]) = its ++ (items (.two b x y)).reverse from rfl, show wTwo b = wordS (.two b x y) from rfl, step_word]
    rfl
  | .one b x, its, w => by
    show [mkS [x], wOne b].foldlM stepR its = _
    rw [List.foldlM_cons, step_item (itemF_n w) (behF_one x)]
    show [wOne b].foldlM stepR (its ++ [.n x]) = _
    rw [List.foldlM_cons, show its ++ [It.n x] = its ++ (items (.one b x)).reverse from rfl, show wOne b = wordS (.one b x) from rfl, step_word]
    rfl
  | .at_ p x, its, w => by
    obtain ⟨w1, w2⟩ := Bool.and_eq_true _ _ ▸ w
    show [mkS [x], mkS [48 + p], wAt].foldlM stepR its = _
    rw [List.foldlM_cons, step_item (itemF_n w2) (behF_one x)]
    show [mkS [48 + p], wAt].foldlM stepR (its ++ [.n x]) = _
    rw [List.foldlM_cons, step_item (itemF_p (of_decide_eq_true w1)) (behF_one _)]
    show [wAt].foldlM stepR (its ++ [.n x] ++ [.p p]) = _
    rw [List.append_assoc, List.foldlM_cons, show its ++ ([It.n x] ++ [It.p p]) = its ++ (items (.at_ p x)).reverse from rfl, show wAt = wordS (.at_ p x) from rfl, step_word]
    rfl
  | .neg f, its, w => by
    show (wNot :: tokS f).reverse.foldlM stepR its = _
    rw [List.reverse_cons, List.foldlM_append, fold_tok f its w]
    show [wNot].foldlM stepR (its ++ [.s f]) = _
    rw [List.foldlM_cons, show its ++ [It.s f] = its ++ (items (.neg f)).reverse from rfl, show wNot = wordS (.neg f) from rfl, step_word]
    rfl
  | .bin b f g, its, w => by
    obtain ⟨w1, w2⟩ := Bool.and_eq_true _ _ ▸ w
    show (wBin b :: (tokS f ++ tokS g)).reverse.foldlM stepR its = _
    rw [List.reverse_cons, List.reverse_append, List.foldlM_append, List.foldlM_append, fold_tok g its w2]
    show ((tokS f).reverse.foldlM stepR (its ++ [.s g]) >>= fun o => [wBin b].foldlM stepR o) = _
    rw [fold_tok f _ w1]
    show [wBin b].foldlM stepR (its ++ [.s g] ++ [.s f]) = _
    rw [List.append_assoc, List.foldlM_cons, show its ++ ([It.s g] ++ [It.s f]) = its ++ (items (.bin b f g)).reverse from rfl, show wBin b = wordS (.bin b f g) from rfl, step_word]
    rfl
  | .qu b x f, its, w => by
    obtain ⟨w1, w2⟩ := Bool.and_eq_true _ _ ▸ w
    show (wQu b :: mkS [x] :: tokS f).reverse.foldlM stepR its = _
    rw [List.reverse_cons, List.reverse_cons, List.foldlM_append, List.foldlM_append, fold_tok f its w2]
    show ([mkS [x]].foldlM stepR (its ++ [.s f]) >>= fun o => [wQu b].foldlM stepR o) = _
    rw [List.foldlM_cons, step_item (itemF_n w1) (behF_one x)]
    show [wQu b].foldlM stepR (its ++ [.s f] ++ [.n x]) = _
    rw [List.append_assoc, List.foldlM_cons, show its ++ ([It.s f] ++ [It.n x]) = its ++ (items (.qu b x f)).reverse from rfl, show wQu b = wordS (.qu b x f) from rfl, step_word]
    rfl
/-! ### words and texts -/
abbrev spc : Str := mkS [32]
def noSp (z : Str) : Bool := !(z.cps.toList.contains 32)
theorem noSp_iff {z : Str} : noSp z = true ↔ (32 : Nat) ∉ z.cps.toList := by unfold noSp; rw [Bool.not_eq_true', List.contains_eq_mem, decide_eq_false_iff_not]
theorem split_words {ws : List Str} (hne : ws ≠ []) (h : ∀ z ∈ ws, noSp z = true) : Txt.split (Txt.join spc ws) spc = ws :=
  TL.split_join (s := 32) (S := []) rfl (by decide +kernel) hne fun p hp => noSp_iff.mp (h p hp)
theorem pre_miss {c : Nat} (h : c ≠ 32) (r : List Nat) : TL.pre [32] (c :: r) = false := by
  show ((c :: r).take 1 == [32]) = false
  rw [beq_eq_false_iff_ne]
  intro e
  exact h (List.cons.inj e).1
theorem spl_back : ∀ (l acc : List Nat), TL.joinL [32] (TL.spl [32] 0 acc l) = acc ++ l ∧ TL.spl [32] 0 acc l ≠ [] ∧ ((32 : Nat) ∉ acc → ∀ p ∈ TL.spl [32] 0 acc l, (32 : Nat) ∉ p)
  | [], acc => by
    rw [TL.spl_nil]
    exact ⟨(List.append_nil _).symm, by simp, fun h p hp => by cases List.mem_singleton.mp hp; exact h⟩
  | c :: r, acc => by
    by_cases hc : c = 32
    · subst hc
      obtain ⟨h1, h2, h3⟩ := spl_back r []
      rw [TL.spl_hit (S := [32]) rfl]
      show TL.joinL [32] (acc :: TL.spl [32] 0 [] r) = _ ∧ _
      refine ⟨?_, by simp, fun h p hp => ?_⟩
      · cases e : TL.spl [32] 0 [] r with
        | nil => exact absurd e h2
        | cons q t =>
          show acc ++ ([32] ++ TL.joinL [32] (q :: t)) = _
          rw [← e, h1]; rfl
      · rcases List.mem_cons.mp hp with rfl | hp
        · exact h
        · exact h3 (by simp) p hp
    · obtain ⟨h1, h2, h3⟩ := spl_back r (acc ++ [c])
      rw [TL.spl_miss (pre_miss hc r)]
      refine ⟨by rw [h1, List.append_assoc]; rfl, h2, fun h p hp => h3 (fun z => ?_) p hp⟩
      rcases List.mem_append.mp z with z | z
      · exact h z
      · exact hc (List.mem_singleton.mp z).symm
theorem split_spl1 (z : Str) : (Txt.split z spc).map (fun p => p.cps.toList) = TL.spl [32] 0 [] z.cps.toList := TL.split_spl z spc (by decide) (TL.kind_ok (by decide +kernel))
theorem join_split (z : Str) : Txt.join spc (Txt.split z spc) = z := by
  refine TL.ext_tl ?_
  rw [TL.join_eq, TL.tl_join]
  show TL.joinL [32] ((Txt.split z spc).map fun p => p.cps.toList) = z.cps.toList
  rw [split_spl1, (spl_back _ _).1]; rfl
theorem split_ne (z : Str) : Txt.split z spc ≠ [] := fun e => by
  have := (spl_back z.cps.toList []).2.1
  rw [← split_spl1, e] at this
  exact this rfl
theorem split_noSp (z : Str) : ∀ p ∈ Txt.split z spc, noSp p = true := fun p hp => by
  have := (spl_back z.cps.toList []).2.2 (by simp) p.cps.toList
  rw [← split_spl1] at this
  exact noSp_iff.mpr (this (List.mem_map_of_mem hp))
/-- the sentence of a text -/
theorem tok_noSp : ∀ (s : Se), wfS s = true → ∀ z ∈ tokS s, noSp z = true := fun s => by
  have nm1 : ∀ c, okN c = true → noSp (mkS [c]) = true := fun c h => by
    rw [noSp_iff]
    have := (okN_iff c).mp h
    intro e
    have e : (32 : Nat) ∈ [c] := e
    rw [List.mem_singleton] at e
    omega
  have pl1 : ∀ p, noSp (mkS [48 + p]) = true := fun p => by
    rw [noSp_iff]
    intro e
    have e : (32 : Nat) ∈ [48 + p] := e
    rw [List.mem_singleton] at e
    omega
  have wds : ∀ b : Bool, noSp (wTwo b) = true ∧ noSp (wOne b) = true ∧ noSp (wBin b) = true ∧ noSp (wQu b) = true ∧ noSp wAt = true ∧ noSp wNot = true := by decide
  have wd : ∀ s : Se, noSp (wordS s) = true := fun s => by
    cases s with
    | two b x y => exact (wds b).1
    | one b x => exact (wds b).2.1
    | at_ p x => exact (wds true).2.2.2.2.1
    | neg f => exact (wds true).2.2.2.2.2
    | bin b f g => exact (wds b).2.2.1
    | qu b x f => exact (wds b).2.2.2.1
  induction s with
  | two b x y =>
    intro w z hz
    obtain ⟨w1, w2⟩ := Bool.and_eq_true _ _ ▸ w
    simp only [tokS, List.mem_cons, List.not_mem_nil, or_false] at hz
    rcases hz with rfl | rfl | rfl
    · exact wd (.two b x y)
    · exact nm1 _ w1
    · exact nm1 _ w2
  | one b x =>
    intro w z hz
    simp only [tokS, List.mem_cons, List.not_mem_nil, or_false] at hz
    rcases hz with rfl | rfl
    · exact wd (.one b x)
    · exact nm1 _ w
  | at_ p x =>
    intro w z hz
    obtain ⟨w1, w2⟩ := Bool.and_eq_true _ _ ▸ w
    simp only [tokS, List.mem_cons, List.not_mem_nil, or_false] at hz
    rcases hz with rfl | rfl | rfl
    · exact wd (.at_ p x)
    · exact pl1 p
    · exact nm1 _ w2
  | neg f ih =>
    intro w z hz
    simp only [tokS, List.mem_cons] at hz
    rcases hz with rfl | hz
    · exact wd (.neg f)
    · exact ih w z hz
  | bin b f g ih1 ih2 =>
    intro w z hz
    obtain ⟨w1, w2⟩ := Bool.and_eq_true _ _ ▸ w
    simp only [tokS, List.mem_cons, List.mem_append] at hz
    rcases hz with rfl | hz | hz
    · exact wd (.bin b f g)
    · exact ih1 w1 z hz
    · exact ih2 w2 z hz
  | qu b x f ih =>
    intro w z hz
    obtain ⟨w1, w2⟩ := Bool.and_eq_true _ _ ▸ w
    simp only [tokS, List.mem_cons] at hz
    rcases hz with rfl | rfl | hz
    · exact wd (.qu b x f)
    · exact nm1 _ w1
    · exact ih w2 z hz
def txtS (s : Se) : Str := Txt.join spc (tokS s)
theorem tokS_ne (s : Se) : tokS s ≠ [] := by rw [tokS_items]; simp
theorem read_own (s : Se) (w : wfS s = true) : readF (txtS s) = some s := by
  unfold readF txtS
  rw [show mkS [32] = spc from rfl, split_words (tokS_ne s) (tok_noSp s w), fold_tok s [] w]; rfl
theorem read_back {z : Str} {s : Se} (h : readF z = some s) : txtS s = z ∧ wfS s = true ∧ tokS s = Txt.split z spc := by
  unfold readF at h
  split at h
  · rename_i f e
    cases h
    obtain ⟨h1, h2⟩ := fold_sound _ e rfl
    have h1 : tokS s ++ [] = (Txt.split z spc).reverse.reverse ++ [] := h1
    rw [List.append_nil, List.append_nil, List.reverse_reverse] at h1
    refine ⟨by unfold txtS; rw [h1, join_split], by simpa [wfI] using h2, h1⟩
  · cases h
/-! ### reading -/
theorem noMix_nms : ∀ ns ms : List Nat, SeqAt.noMixAll (ns.map nm) (ms.map nm) = true
  | [], [] => by simp [SeqAt.noMixAll]
  | [], _ :: _ => by simp [SeqAt.noMixAll]
  | _ :: _, [] => by simp [SeqAt.noMixAll]
  | _ :: r, _ :: q => by simp [SeqAt.noMixAll, SeqAt.noMix, noMix_nms r q]
theorem same_nms : ∀ ns ms : List Nat, PySem.Spec.sameAll (ns.map nm) (ms.map nm) = decide (ns = ms)
  | [], [] => by simp [PySem.Spec.sameAll]
  | [], _ :: _ => by simp [PySem.Spec.sameAll]
  | _ :: _, [] => by simp [PySem.Spec.sameAll]
  | n :: r, k :: q => by
    have e : ((mkS [n] : Str) == mkS [k]) = decide (n = k) := by
      rw [Bool.beq_eq_decide_eq, decide_eq_decide]
      exact ⟨fun h => List.head_eq_of_cons_eq (mkS_inj h), fun h => by rw [h]⟩
    simp only [List.map_cons, PySem.Spec.sameAll, PySem.Spec.same, same_nms r q]
    rw [e]
    by_cases h : n = k <;> simp [h]
theorem eqv_nms (a b : List Nat) : PyData.eqv (.list (a.map nm)) (.list (b.map nm)) = decide (a = b) := by
  rw [← SeqAt.same_eq_eqv _ _ (by simp only [SeqAt.noMix]; exact noMix_nms a b)]
  simp only [PySem.Spec.same]
  exact same_nms a b
theorem shp_nms {l : List Nat} (h : ∀ c ∈ l, c < 128) : Shp 1 (.list (l.map nm)) := shp_list fun d hd => by
  obtain ⟨c, hc, rfl⟩ := List.mem_map.mp hd
  have := h c hc
  exact shp_mkS fun x hx => by cases List.mem_singleton.mp hx; omega
theorem rd_neNms {a b : List Nat} (ha : ∀ c ∈ a, c < 128) (hb : ∀ c ∈ b, c < 128) : RD K (rNeD K) (.list (a.map nm)) (.list (b.map nm)) (.bool (!decide (a = b))) := by
  rw [← eqv_nms]
  exact rd_ne ((shp_nms ha).shaped (by omega)) ((shp_nms hb).shaped (by omega))
theorem cut_end (ds : List D) (k : Nat) (h : 1 ≤ k) : EL.cutD ds (some (-(k : Int))) none = ds.drop (ds.length - k) := by
  unfold EL.cutD
  have e : HT.sIx ds.length 0 (some (-(k : Int))) = ds.length - k := by
    show (if -(k : Int) < 0 then (-(k : Int) + (ds.length : Int)).toNat else min (-(k : Int)).toNat ds.length) = _
    rw [if_pos (by omega)]; omega
  rw [HT.sIx_none, e, List.take_of_length_le (by rw [List.length_drop]; omega)]
theorem six_end (n k : Nat) (h : 1 ≤ k) : HT.sIx n 0 (some (-(k : Int))) = n - k := by
  show (if -(k : Int) < 0 then (-(k : Int) + (n : Int)).toNat else min (-(k : Int)).toNat n) = _
  rw [if_pos (by omega)]; omega
def proKind (K : PySem.W.Frag) : List Sl → Gn → Prop := fun as ψ => ∃ a : It, as = [.dat (encI a)] ∧ ψ = fun G v => Dp K G v (nm (kd a))
theorem kit_tup (a : It) : kitB (tyN (encI a)) "tuple" = some (decide (kd a = 115)) := by
  cases a with
  | n c => show kitB "str" "tuple" = some false; decide +kernel
  | p i => show kitB "int" "tuple" = some false; decide +kernel
  | s f =>
    show kitB (tyN (encS f)) "tuple" = some true
    rw [encS_items]
    show kitB "tuple" "tuple" = some true
    decide +kernel
theorem kit_str {a : It} (h : kd a ≠ 115) : kitB (tyN (encI a)) "str" = some (decide (kd a = 110)) := by
  cases a with
  | n c => show kitB "str" "str" = some true; decide +kernel
  | p i => show kitB "int" "str" = some false; decide +kernel
  | s f => exact absurd rfl h
theorem ok_kind_of {f : Addr} {fd : FuncData} {k : Nat} (F : Fun K "_kind_of" "_kind_of" s_kind_of f fd) (m_isinstance : mg "isinstance" = none) (m_tuple : mg "tuple" = none) (m_str : mg "str" = none) : FnOk Pg w K mg base CX0 (k + 1) f fd ["item"] (spG K (proKind K)) := by
  refine fn_okG F sc_kind_of (fun as ψ ⟨_, e, _⟩ => by rw [e]; rfl) fun cdv A' outer sh H E as ψ hr hp => ?_
  obtain ⟨a, rfl, rfl⟩ := hp
  refine ⟨_, (pss_cons (ps_if (EK.tru (K := K) (pe_callB (EK.isi (K := K)) (by rfl) m_isinstance (by decide +kernel) (pa_cons (pv 0) (pa_cons (pe_bltn (v := .ty "tuple") (by rfl) m_tuple (by decide +kernel) rfl) pa_nil))))
      (pss_one (ps_ret pe_str))
      pss_nil)
      (pss_one (ps_ret (pe_ifExp (EK.tru (K := K) (pe_callB (EK.isi (K := K)) (by rfl) m_isinstance (by decide +kernel) (pa_cons (pv 0) (pa_cons (pe_bltn (v := .ty "str") (by rfl) m_str (by decide +kernel) rfl) pa_nil)))) pe_str pe_str)))), ?_⟩
  show Wp K _ [.dat (encI a)] _
  refine w_seq (w_if (b := decide (kd a = 115)) (et_truB (ev_isi (ev_var rfl).q (kit_tup a)).q) (fun h => ?_) fun h => w_nxt ?_)
  · rw [of_decide_eq_true h]
    exact w_ret (ev_cM (l := [115]) rfl) fun _ _ z => z
  · have hn := of_decide_eq_false h
    refine w_ret (d := nm (kd a)) (ev_if (b := decide (kd a = 110)) (et_truB (ev_isi (ev_var rfl).q (kit_str hn)).q) (fun h1 => (ev_cM (l := [110]) rfl).to (by rw [of_decide_eq_true h1])) fun h1 => (ev_cM (l := [112]) rfl).to ?_) fun _ _ z => z
    have h1 := of_decide_eq_false h1
    cases a with
    | n c => exact absurd rfl h1
    | p i => rfl
    | s f => exact absurd rfl hn
def pre_item (ds : List D) : Prop := ∃ z : Str, ds = [.str z] ∧ z.length ≤ 1000
def res_item : List D → Option D
  | [.str z] => (itemF z).map encI
  | _ => none
theorem occ_places (c : Nat) (h : 48 ≤ c ∧ c ≤ 50) : Builtin.Str.occurrences (mkS [48, 49, 50]) (mkS [c]) 0 (mkS [48, 49, 50]).length 1 = [c - 48] := by
  obtain ⟨h1, h2⟩ := h
  have : c = 48 ∨ c = 49 ∨ c = 50 := by omega
  rcases this with rfl | rfl | rfl <;> decide +kernel
theorem lt_single (a b : Nat) : decide ([a] < [b]) = decide (a < b) := by
  rw [decide_eq_decide]
  constructor
  · intro h
    rcases List.cons_lt_cons_iff.mp h with h | ⟨_, h⟩
    · exact h
    · exact absurd h (by simp)
  · exact fun h => List.cons_lt_cons_iff.mpr (.inl h)
theorem ok_read_item {f : Addr} {fd : FuncData} {k : Nat} {C_BadText : Addr} {t__PLACES : Tok} (F : Fun K "_read_item" "_read_item" s_read_item f fd) (m_len : mg "len" = none) (g__PLACES : mg "_PLACES" = some (.str (Str.ofString "012") t__PLACES)) (e_BadText : OwnE K mg "BadText" C_BadText) :
    FnOk Pg w K mg base (L2.CX Pg w) (k + 1) f fd ["word"] (spX K (.ref C_BadText) pre_item res_item) := by
  refine fn_okB F sc_read_item (fun ds ⟨_, e, _⟩ => by rw [e]; rfl) fun cdv A outer s H E ds hr hp => ?_
  obtain ⟨z, rfl, hl⟩ := hp
  refine ⟨_, (pss_cons (ps_if (pw_and (pt_cmpR (EK.eq (K := K) hr.units) (pe_callB (EK.len (K := K)) (by rfl) m_len (by decide +kernel) (pa_cons (pv 0) pa_nil)) pe_int (nomark _)) (pw_and1 (pt_chain op_leS op_leS pe_str (pv 0) pe_str))).pt
      (pss_one (ps_ret (pv 0)))
      pss_nil)
      (pss_cons (ps_if (pw_and (pt_cmpR (EK.eq (K := K) hr.units) (pe_callB (EK.len (K := K)) (by rfl) m_len (by decide +kernel) (pa_cons (pv 0) pa_nil)) pe_int (nomark _)) (pw_and1 (pt_cmpR EK.inSign (pv 0) (pe_glob (v := V.str "012") (by rfl) g__PLACES ⟨_, rfl⟩) (by with_unfolding_all rfl)))).pt
      (pss_one (ps_ret (pe_m1 PySem.F.slot_str_index PySem.F.type_str_index mt_indexS (pe_glob (v := V.str "012") (by rfl) g__PLACES ⟨_, rfl⟩) (pv 0))))
      pss_nil)
      (pss_one (ps_raise0 (W := fun cls d _ H => E cls d H) rfl e_BadText (takes_of rfl rfl rfl rfl) (by rfl))))), fun H0 hx => ?_⟩
  obtain ⟨l, rfl⟩ : ∃ l, z = mkS l := ⟨z.cps.toList, (mkS_tl z).symm⟩
  rw [len_mkS] at hl
  show Wb K H H0 _ [.dat (.str (mkS l))] _
  have elen : ∀ {ρ : List Sl}, ρ[0]? = some (Sl.dat (.str (mkS l))) → EvT K (tTest (tOp (rEqD K) (tCB (EL.rLen K) (tCons (tVar 0) tNil)) (tC (.int 1)))) ρ (decide ((l.length : Int) = 1)) := fun h =>
    et_test (eq_op (ev_cb (ea_cons (ev_var h).q ea_nil) ((cd_lenS (K := K) (z := mkS l) (by rw [len_mkS]; exact sz_le hl)))).q ev_cint.q (by rw [← len_mkS l]; exact rd_eqI'))
  by_cases h1 : l.length = 1
  · obtain ⟨c, rfl⟩ : ∃ c, l = [c] := by
      match l, h1 with
      | [c], _ => exact ⟨c, rfl⟩
    have r0 : res_item [.str (mkS [c])] = (if 97 ≤ c ∧ c ≤ 122 then some (nm c) else if 48 ≤ c ∧ c ≤ 50 then some (.int ((c - 48 : Nat) : Int)) else none) := by
      show (if 97 ≤ c ∧ c ≤ 122 then some (It.n c) else if 48 ≤ c ∧ c ≤ 50 then some (It.p (c - 48)) else none).map encI = _
      split
      · rfl
      · split <;> rfl
    rw [r0] at hx ⊢
    refine wb_seq (wb_if (b := true && (!decide ([c] < [97]) && !decide ([122] < [c]))) (et_and (elen rfl) fun _ => et_test (EvD.q (ev_chain (ev_cM (l := [97]) rfl).q (ev_var rfl).q rd_leS (fun _ => (ev_cM (l := [122]) rfl).q) fun _ => rd_leS))) (fun h => ?_) fun h => (w_nxt ?_).b)
    · refine wb_ret (EvD.b (ev_var rfl)) fun _ => ?_
      rw [lt_single, lt_single, Bool.true_and, Bool.and_eq_true, Bool.not_eq_true', Bool.not_eq_true', decide_eq_false_iff_not, decide_eq_false_iff_not] at h
      show (if 97 ≤ c ∧ c ≤ 122 then some (nm c) else _) = some (nm c)
      exact if_pos ⟨by omega, by omega⟩
    · rw [lt_single, lt_single, Bool.true_and] at h
      have hn : ¬ (97 ≤ c ∧ c ≤ 122) := fun ⟨a, b⟩ => by
        rw [decide_eq_false (by omega), decide_eq_false (by omega)] at h
        cases h
      rw [if_neg hn] at hx ⊢
      refine wb_seq (wb_if (b := true && [48, 49, 50].contains c) (et_and (elen rfl) fun _ => et_test (eq_op (ev_var rfl).q ((ev_cM (l := [48, 49, 50]) rfl)).q rd_inSign)) (fun h => ?_) fun h => (w_nxt ?_).b)
      · rw [Bool.true_and, List.contains_iff_mem] at h
        have hc : 48 ≤ c ∧ c ≤ 50 := by
          simp only [List.mem_cons, List.not_mem_nil, or_false] at h
          omega
        exact wb_ret (EvD.b (ev_indexS ((ev_cM (l := [48, 49, 50]) rfl)).q (ev_var rfl).q (occ_places c hc))) fun _ => if_pos hc
      · refine wb_raise (hx (if_neg fun hc => ?_))
        have : c = 48 ∨ c = 49 ∨ c = 50 := by omega
        rcases this with rfl | rfl | rfl <;> cases h
  · have r0 : res_item [.str (mkS l)] = none := by
      show (itemF (mkS l)).map encI = none
      have : itemF (mkS l) = none := by
        match l, h1 with
        | [], _ => rfl
        | _ :: _ :: _, _ => rfl
      rw [this]; rfl
    have hf : decide ((l.length : Int) = 1) = false := decide_eq_false (by omega)
    refine wb_seq (wb_if (b := decide ((l.length : Int) = 1) && true) (et_and (elen rfl) fun z => by rw [hf] at z; cases z) (fun z => by rw [hf] at z; cases z) fun _ => (w_nxt ?_).b)
    refine wb_seq (wb_if (b := decide ((l.length : Int) = 1) && true) (et_and (elen rfl) fun z => by rw [hf] at z; cases z) (fun z => by rw [hf] at z; cases z) fun _ => (w_nxt ?_).b)
    exact wb_raise (hx r0)
/-- words with a text -/
structure Wok (ws : List Str) (n : Nat) : Prop where
  ne : ws ≠ []
  len : ws.length ≤ n
  sp : ∀ z ∈ ws, noSp z = true
  sz : ∀ z ∈ ws, z.length ≤ 1000
  low : ∀ z ∈ ws, ∀ c ∈ z.cps.toList, c < 128
theorem sum_le (ws : List Str) (h : ∀ z ∈ ws, z.length ≤ 1000) : (ws.map (·.length)).sum ≤ 1000 * ws.length := by
  induction ws with
  | nil => exact Nat.le_refl _
  | cons z ws ih =>
    have h1 := h z List.mem_cons_self
    have h2 := ih fun y hy => h y (List.mem_cons_of_mem _ hy)
    rw [List.map_cons, List.sum_cons, List.length_cons]
    omega
theorem join_len (ws : List Str) (h : ∀ z ∈ ws, z.length ≤ 1000) : (Txt.join spc ws).length ≤ 1001 * ws.length := by
  have h1 := StrLaws.join_length_le spc ws
  have h2 := sum_le ws h
  rw [TL.join_eq]
  have h3 : spc.length = 1 := rfl
  rw [h3] at h1
  omega
theorem Wok.split {ws : List Str} {n : Nat} (h : Wok ws n) : Txt.split (Txt.join spc ws) spc = ws := split_words h.ne h.sp
theorem Wok.txt {ws : List Str} {n : Nat} (h : Wok ws n) (hn : n ≤ 100) : (Txt.join spc ws).length + 2 ≤ sizeLine := by
  have := join_len ws h.sz
  have := h.len
  have : sizeLine = 16777216 := rfl
  omega
def kds (its : List It) : List Nat := its.map kd
theorem kd_low : ∀ a : It, kd a < 128
  | .n _ => (by decide : (110 : Nat) < 128)
  | .p _ => (by decide : (112 : Nat) < 128)
  | .s _ => (by decide : (115 : Nat) < 128)
def pre_read (ds : List D) : Prop := ∃ ws : List Str, ds = [.str (Txt.join spc ws)] ∧ Wok ws 60
noncomputable def res_read : List D → Option D
  | [.str z] => (readF z).map encS
  | _ => none
/-- the kinds of one's items, as a list -/
theorem ef_kinds {ρ : List Sl} {i : Nat} {its : List It} (h : ρ[i]? = some (Sl.dat (.list (its.map encI)))) (hi : 5 < ρ.length) (hne : i ≠ 5) (hl : its.length ≤ 100) :
    EvF K (tLc (iSeq K (tVar i)) (gName 5) tYes (tCall (spG K (proKind K)) [] E0 (tCons (tVar 5) tNil)) [5]) ρ ((kds its).map nm) := by
  refine ef_lcI (is := [5]) (ei_list (ev_var h)) (fun i hi => hi) (by unfold kds; rw [List.map_map, List.length_map, List.length_map]) (fun j d e hd he => ?_) (by rw [List.length_map]; exact small1000 (by omega))
  obtain ⟨a, ha, rfl⟩ := map_get hd
  obtain ⟨c, hc, rfl⟩ := map_get he
  unfold kds at hc
  rw [List.getElem?_map, ha] at hc
  cases hc
  refine ⟨_, bd_name, EvG.toD (ev_callG (eg_d (ev_var (d := encI a) ?_) eg_nil) ⟨a, rfl, rfl⟩) fun _ _ z => z⟩
  rw [List.getElem?_set_self]
  show 5 < (ρ.set 5 .no).length
  rw [List.length_set]; exact hi
theorem ok_read_sentence {f : Addr} {fd : FuncData} {k : Nat} {C_BadText p__BEHIND : Addr} (F : Fun K "read_sentence" "read_sentence" sread_sentence f fd) (m_len : mg "len" = none) (m_list : mg "list" = none) (g__BEHIND : mg "_BEHIND" = some (.ref p__BEHIND)) (hB : BehK K w p__BEHIND behF) (e_BadText : OwnE K mg "BadText" C_BadText)
    (c_kind_of : Cal Pg w K mg base "_kind_of" ["item"] 1 (spG K (proKind K))) (c_read_item : CalX Pg w K mg base "_read_item" ["word"] 1 (spX K (.ref C_BadText) pre_item res_item)) :
    FnOk Pg w K mg base (L2.CX Pg w) (k + 2) f fd ["text"] (spX K (.ref C_BadText) pre_read res_read) := by
  refine fn_okB F scread_sentence (fun ds ⟨_, e, _⟩ => by rw [e]; rfl) fun cdv A outer s H E ds hr hp => ?_
  obtain ⟨ws, rfl, W⟩ := hp
  have hr : Room 1 (_) := hr.mono (by omega)
  have rr : res_read [.str (Txt.join spc ws)] = (match ws.reverse.foldlM stepR [] with | some [.s s] => some s | _ => none).map encS := by
    show (readF _).map encS = _
    unfold readF
    rw [show mkS [32] = spc from rfl, W.split]
    try rfl
  rw [rr]
  clear rr
  refine ⟨_, (pss_cons (ps_set (i := 1) scread_sentence.nd rfl (by first | exact Or.inl rfl | exact Or.inr rfl) (pe_lst pa_nil))
      (pss_cons (ps_for (passes_of rfl) (by rfl) (EK.seq (K := K) (EK.revL (K := K) (pe_m1 PySem.F.slot_str_split PySem.F.type_str_split mt_splitA (pv 0) pe_str))) (pg_name (i := 2) scread_sentence.nd rfl (by first | exact Or.inl rfl | exact Or.inr rfl))
      (pss_one (ps_if (pt_cmpR (EK.inB (K := K) (w := w) (f := behF)) (pv 2) (pe_glob (v := .ref p__BEHIND) (by rfl) g__BEHIND rfl) (by with_unfolding_all rfl))
      (pss_cons (ps_set (i := 3) scread_sentence.nd rfl (by first | exact Or.inl rfl | exact Or.inr rfl) (pe_ix (EK.getB (K := K) (w := w)) (pe_glob (v := .ref p__BEHIND) (by rfl) g__BEHIND rfl) (pv 2) (fun _ _ => rfl)))
      (pss_cons (ps_set (i := 4) scread_sentence.nd rfl (by first | exact Or.inl rfl | exact Or.inr rfl) (EK.revL (K := K) (pe_slice (EK.sl (K := K)) (pv 1) (po_some (pe_un un_neg (pe_callB (EK.len (K := K)) (by rfl) m_len (by decide +kernel) (pa_cons (pv 3) pa_nil)))) po_none)))
      (pss_cons (ps_if (pt_cmpR (EK.ne (K := K) hr.units) (pe_lc (own := [("item", 5)]) (g := gName 5) (by rfl) scread_sentence.nd (EK.seq (K := K) (pv 4)) (blkOk_by (own := [("item", 5)]) (N := ["text", "waiting", "word", "needed", "found", "item"]) (sc := defScope sread_sentence) (by decide +kernel)) (fun _ _ _ _ _ => (pg_name (i := 5) scread_sentence.nd rfl (by first | exact Or.inl rfl | exact Or.inr rfl))) (fun _ _ _ _ _ => pts_nil) (fun _ _ _ _ _ => (pe_cal c_kind_of (hr.mono (by decide)) (pa_cons (pv 5) pa_nil)))) (pe_callTy (call_listS rfl) (by rfl) m_list (by decide +kernel) (pa_cons (pv 3) pa_nil)) (nomark _))
      (pss_one (ps_raise0 (W := fun cls d _ H => E cls d H) rfl e_BadText (takes_of rfl rfl rfl rfl) (by rfl)))
      pss_nil)
      (pss_cons (ps_delF (pv 1) (po_some (pe_un un_neg (pe_callB (EK.len (K := K)) (by rfl) m_len (by decide +kernel) (pa_cons (pv 3) pa_nil)))))
      (pss_one (ps_expr (pe_bm PySem.F.plainAttrs_list PySem.F.slot_list_append PySem.F.type_list_append mt_append (pv 1) (pa_cons (pe_tup (pa_cons (pv 2) (EK.star (K := K) (pv 4) pa_nil))) pa_nil))))))))
      (pss_one (ps_expr (pe_bm PySem.F.plainAttrs_list PySem.F.slot_list_append PySem.F.type_list_append mt_append (pv 1) (pa_cons (pe_calX (W := fun cls d _ H => E cls d H) c_read_item (takes_of rfl rfl rfl rfl) (hr.mono (by decide)) (pa_cons (pv 2) pa_nil)) pa_nil)))))))
      (pss_cons (ps_if (pt_cmpR (EK.ne (K := K) hr.units) (pe_lc (own := [("item", 5)]) (g := gName 5) (by rfl) scread_sentence.nd (EK.seq (K := K) (pv 1)) (blkOk_by (own := [("item", 5)]) (N := ["text", "waiting", "word", "needed", "found", "item"]) (sc := defScope sread_sentence) (by decide +kernel)) (fun _ _ _ _ _ => (pg_name (i := 5) scread_sentence.nd rfl (by first | exact Or.inl rfl | exact Or.inr rfl))) (fun _ _ _ _ _ => pts_nil) (fun _ _ _ _ _ => (pe_cal c_kind_of (hr.mono (by decide)) (pa_cons (pv 5) pa_nil)))) (pe_lst (pa_cons pe_str pa_nil)) (nomark _))
      (pss_one (ps_raise0 (W := fun cls d _ H => E cls d H) rfl e_BadText (takes_of rfl rfl rfl rfl) (by rfl)))
      pss_nil)
      (pss_one (ps_ret (pe_ix (EK.ix (K := K)) (pv 1) pe_int (fun _ _ => rfl))))))), fun H0 hx => ?_⟩
  have hWl := W.len
  generalize hws : ws.reverse = rs at hx ⊢
  have hrl : rs.length ≤ 60 := by rw [← hws, List.length_reverse]; exact hWl
  have hrs : ∀ z ∈ rs, z.length ≤ 1000 := fun z hz => W.sz z (by rw [← hws] at hz; exact List.mem_reverse.mp hz)
  show Wb K H H0 _ [.dat (.str (Txt.join spc ws)), .no, .no, .no, .no, .no] _
  refine wb_seq (w_own (ev_lst ec_nil) ?_).b
  show Wb K H H0 _ [.dat (.str (Txt.join spc ws)), .own [], .no, .no, .no, .no] _
  have esp : EvF K _ [.dat (.str (Txt.join spc ws)), .own [], .no, .no, .no, .no] (rs.map .str) :=
    (ev_revL (EvF.q (ef_split (ev_var (i := 0) (d := .str (Txt.join spc ws)) rfl).q (ev_cM (l := [32]) rfl).q rfl (W.txt (by omega))))).to (by rw [show mkS [32] = spc from rfl, W.split, ← List.map_reverse, hws])
  refine wb_seq (wb_for (is := [2]) (ei_list esp.cl) (fun i ρ => ∃ its x2 x3 x4 x5, ρ = [.dat (.str (Txt.join spc ws)), .own (its.map encI), x2, x3, x4, x5] ∧ (rs.take i).foldlM stepR [] = some its ∧ its.length ≤ i) ⟨[], _, _, _, _, rfl, rfl, Nat.le_refl _⟩ ?_ ?_)
  · rintro i d ρ1 hd ⟨its, x2, x3, x4, x5, rfl, hf, hil⟩
    obtain ⟨z, hz, rfl⟩ := map_get hd
    have hi : i < rs.length := (List.getElem?_eq_some_iff.mp hz).1
    have hzl := hrs z (List.mem_of_getElem? hz)
    have tk : rs.take (i + 1) = rs.take i ++ [z] := by rw [List.take_add_one, hz]; rfl
    have full : rs.foldlM stepR [] = (stepR its z >>= fun o => (rs.drop (i + 1)).foldlM stepR o) := by
      have e0 : rs = rs.take i ++ ([z] ++ rs.drop (i + 1)) := by rw [← List.append_assoc, ← tk, List.take_append_drop]
      generalize rs.drop (i + 1) = tl at e0 ⊢
      rw [e0, List.foldlM_append, hf]
      show ([z] ++ tl).foldlM stepR its = _
      rw [List.singleton_append, List.foldlM_cons]
    have bad : stepR its z = none → (match rs.foldlM stepR [] with | some [.s s] => some s | _ => none : Option Se).map encS = none := fun e => by rw [full, e]; rfl
    refine ⟨_, bd_name, fun B1 back => ?_⟩
    show Wb K H B1 _ [.dat (.str (Txt.join spc ws)), .own (its.map encI), .dat (.str z), x3, x4, x5] _
    generalize (Sl.dat (.str (Txt.join spc ws))) = z0
    refine wb_if (b := (behF z).isSome) (et_test (EvD.q (ev_inB hB (ev_var rfl).q))) (fun hb => ?_) fun hb => ?_
    · obtain ⟨q, hq⟩ := Option.isSome_iff_exists.mp hb
      obtain ⟨q1, q2, q3⟩ := behF_len hq
      have hqc : ∀ c ∈ q.cps.toList, c < 128 := fun c hc => by have := q3 c hc; omega
      refine wb_seq (w_set (d := .str q) (ev_getB hB (ev_var rfl).q hq) ?_).b
      show Wb K H B1 _ [z0, .own (its.map encI), .dat (.str z), .dat (.str q), x4, x5] _
      have eneg : ∀ {ρ : List Sl}, ρ[3]? = some (Sl.dat (.str q)) → EvO K (tPart (tUn (rU fun i => .int (-i)) (tCB (EL.rLen K) (tCons (tVar 3) tNil)))) ρ (some (-(q.length : Int))) := fun h =>
        eo_some (ev_neg (ev_cb (ea_cons (ev_var h).q ea_nil) (cd_lenS (K := K) (z := q) (sz_le (by omega)))).q).q
      have edr : (EL.cutD (its.map encI) (some (-(q.length : Int))) none).reverse = ((its.drop (its.length - q.length)).reverse).map encI := by
        rw [cut_end _ _ q1, List.length_map, ← List.map_drop, List.map_reverse]
      refine wb_seq (w_own ((ev_revL (EvF.q (es_L (ev_own rfl) (eneg rfl) eo_none))).to edr) ?_).b
      generalize hfd : (its.drop (its.length - q.length)).reverse = fd
      have hfl : fd.length ≤ 60 := by rw [← hfd, List.length_reverse, List.length_drop]; omega
      show Wb K H B1 _ [z0, .own (its.map encI), .dat (.str z), .dat (.str q), .own (fd.map encI), x5] _
      refine wb_freeze (i := 4) rfl ?_
      show Wb K H B1 _ [z0, .own (its.map encI), .dat (.str z), .dat (.str q), .dat (.list (fd.map encI)), x5] _
      refine wb_seq (wb_if (b := !decide (kds fd = q.cps.toList)) (et_test (eq_op (EvF.q (ef_kinds rfl (by simp) (by decide) (by omega))) (EvF.q (ev_cbF (ea_cons (ev_var rfl).q ea_nil) (cf_listS (sz_le (by omega))))) (rd_neNms (fun c hc => ?_) hqc))) (fun h => ?_) fun h => (w_nxt ?_).b)
      · obtain ⟨a, _, rfl⟩ := List.mem_map.mp hc
        exact kd_low a
      · refine wb_raise fun H' H0' w' => hx (bad ?_) H' H0' (back _ _ w')
        have h := of_decide_eq_false (Bool.not_eq_true' _ ▸ h)
        unfold stepR
        rw [hq]
        dsimp only
        rw [hfd]
        exact if_neg h
      · have hk : kds fd = q.cps.toList := by simpa using h
        have hk : fd.map kd = q.cps.toList := hk
        obtain ⟨sn, b1, b2, b3⟩ := build_ok hq hk
        have st : stepR its z = some (its.take (its.length - q.length) ++ [.s sn]) := by
          unfold stepR
          rw [hq]
          dsimp only
          rw [hfd, if_pos hk, b1]; rfl
        refine wb_seq (w_delF (i := 1) rfl (eneg rfl) ?_).b
        rw [six_end _ _ q1, List.length_map, ← List.map_take]
        show Wb K H B1 _ [z0, .own ((its.take (its.length - q.length)).map encI), .dat (.str z), .dat (.str q), .dat (.list (fd.map encI)), x5] _
        refine (w_append (i := 1) (d := encS sn) rfl ((ev_tup (ec_cons (ev_var rfl) (ec_star (ev_var rfl).q ec_nil)) ?_).to ?_) ?_ ?_).b
        · rw [List.append_nil, List.length_cons, List.length_map]; exact sz_le (by omega)
        · rw [encS_items, b2, b3, List.append_nil]
        · rw [List.length_map, List.length_take]; exact small1000 (by omega)
        · refine ⟨its.take (its.length - q.length) ++ [.s sn], _, _, _, _, by rw [List.map_append]; rfl, ?_, ?_⟩
          · rw [tk, List.foldlM_append, hf]
            show [z].foldlM stepR its = _
            rw [List.foldlM_cons, st]; rfl
          · rw [List.length_append, List.length_take]
            show _ + 1 ≤ _
            omega
    · have hn : behF z = none := by
        cases e : behF z with
        | none => rfl
        | some q => rw [e] at hb; cases hb
      have st : stepR its z = (itemF z).map fun a => its ++ [a] := by unfold stepR; rw [hn]
      refine wb_append (i := 1) (ok := ∃ a, itemF z = some a) (d := ((itemF z).map encI).getD .none) rfl (eb_callX (ec_cons (ev_var rfl) ec_nil) ⟨z, rfl, hzl⟩ (fun e he => ?_) fun e _ H' H0' w' => ?_) ?_ ?_
      · have he : (itemF z).map encI = some e := he
        cases h : itemF z with
        | none => rw [h] at he; cases he
        | some a => rw [h] at he; cases he; exact ⟨⟨a, rfl⟩, rfl⟩
      · refine hx (bad ?_) H' H0' (back _ _ w')
        have e : (itemF z).map encI = none := e
        rw [st]
        cases h : itemF z with
        | none => rfl
        | some a => rw [h] at e; cases e
      · rw [List.length_map]; exact small1000 (by omega)
      · rintro ⟨a, ha⟩
        refine ⟨its ++ [a], _, _, _, _, by rw [ha, List.map_append]; rfl, ?_, ?_⟩
        · rw [tk, List.foldlM_append, hf]
          show [z].foldlM stepR its = _
          rw [List.foldlM_cons, st, ha]; rfl
        · rw [List.length_append]
          show _ + 1 ≤ _
          omega
  · rintro ρ1 ⟨its, x2, x3, x4, x5, rfl, hf, hil⟩
    rw [List.length_map] at hf hil
    rw [List.take_length] at hf
    rw [hf] at hx ⊢
    refine wb_freeze (i := 1) rfl ?_
    show Wb K H H0 _ [.dat (.str (Txt.join spc ws)), .dat (.list (its.map encI)), x2, x3, x4, x5] _
    generalize (Sl.dat (.str (Txt.join spc ws))) = z0
    refine wb_seq (wb_if (b := !decide (kds its = [115])) (et_test (eq_op (EvF.q (ef_kinds rfl (by simp) (by decide) (by omega))) (EvF.q (ev_lst (ec_cons (ev_cM (l := [115]) rfl) ec_nil))) (rd_neNms (b := [115]) (fun c hc => ?_) (by decide)))) (fun h => ?_) fun h => (w_nxt ?_).b)
    · obtain ⟨a, _, rfl⟩ := List.mem_map.mp hc
      exact kd_low a
    · refine wb_raise (hx ?_)
      have h := of_decide_eq_false (Bool.not_eq_true' _ ▸ h)
      split
      · rename_i s e
        cases e
        exact absurd rfl h
      · rfl
    · have hk : kds its = [115] := by simpa [-List.map_eq_singleton_iff] using h
      have hk : its.map kd = [115] := hk
      obtain ⟨a, rfl, ha⟩ := kds1 hk
      obtain ⟨sn, rfl⟩ := kd_s ha
      refine wb_ret (EvD.b (ev_op (ev_var rfl).q ev_cint.q (rd_ixL (d := encS sn) (show atI [encS sn] ((0 : Nat) : Int) = _ from atI_nat rfl)))) fun _ => ?_
      rfl
/-! ### writing -/
inductive Wk where
  | w (z : Str)
  | p (i : Nat)
  | s (f : Se)
def encK : Wk → D
  | .w z => .str z
  | .p i => .int (i : Int)
  | .s f => encS f
def tokK : Wk → List Str
  | .w z => [z]
  | .p i => [mkS [48 + i]]
  | .s f => tokS f
def ofI : It → Wk
  | .n c => .w (mkS [c])
  | .p i => .p i
  | .s f => .s f
def kS (s : Se) : List Wk := .w (wordS s) :: (items s).map ofI
theorem encS_kS (s : Se) : encS s = .tuple ((kS s).map encK) := by cases s <;> rfl
theorem tokS_kS (s : Se) : tokS s = (kS s).flatMap tokK := by cases s <;> simp [tokS, kS, items, ofI, tokK, wordS]
theorem kS_len (s : Se) : (kS s).length ≤ 3 := by cases s <;> (unfold kS; simp [items])
def wfK : Wk → Bool
  | .w _ => true
  | .p i => decide (i ≤ 2)
  | .s f => wfS f
theorem kS_wf {s : Se} (h : wfS s = true) : ∀ a ∈ kS s, wfK a = true := fun a ha => by
  rcases List.mem_cons.mp ha with rfl | ha
  · rfl
  · obtain ⟨it, hi, rfl⟩ := List.mem_map.mp ha
    rw [wfS_items, List.all_eq_true] at h
    have := h it hi
    cases it with
    | n c => rfl
    | p i => exact this
    | s f => exact this
theorem kS_sub {s f : Se} (h : Wk.s f ∈ kS s) : It.s f ∈ items s := by
  rcases List.mem_cons.mp h with e | ha
  · cases e
  · obtain ⟨it, hi, e⟩ := List.mem_map.mp ha
    cases it with
    | n c => cases e
    | p i => cases e
    | s g => cases e; exact hi
theorem dp_sub {s f : Se} (h : It.s f ∈ items s) : dpS f + 1 ≤ dpS s := by
  cases s with
  | two b x y => simp [items] at h
  | one b x => simp [items] at h
  | at_ p x => simp [items] at h
  | neg g => simp [items] at h; subst h; exact Nat.le_refl _
  | bin b g k =>
    simp [items] at h
    show dpS f + 1 ≤ max (dpS g) (dpS k) + 1
    rcases h with rfl | rfl <;> omega
  | qu b x g => simp [items] at h; subst h; exact Nat.le_refl _
theorem tok_sub {s f : Se} (h : It.s f ∈ items s) : (tokS f).length < (tokS s).length := by
  cases s with
  | two b x y => simp [items] at h
  | one b x => simp [items] at h
  | at_ p x => simp [items] at h
  | neg g => simp [items] at h; subst h; exact Nat.lt_succ_self _
  | bin b g k =>
    simp [items] at h
    show (tokS f).length < (tokS g ++ tokS k).length + 1
    rw [List.length_append]
    rcases h with rfl | rfl <;> omega
  | qu b x g =>
    simp [items] at h; subst h
    show (tokS f).length < (tokS f).length + 1 + 1
    omega
theorem dp_tok (s : Se) : dpS s + 2 ≤ (tokS s).length := by
  induction s with
  | two b x y => show 0 + 2 ≤ 3; omega
  | one b x => show 0 + 2 ≤ 2; omega
  | at_ p x => show 0 + 2 ≤ 3; omega
  | neg f ih => show dpS f + 1 + 2 ≤ (tokS f).length + 1; omega
  | bin b f g h1 h2 =>
    show max (dpS f) (dpS g) + 1 + 2 ≤ (tokS f ++ tokS g).length + 1
    rw [List.length_append]; omega
  | qu b x f ih => show dpS f + 1 + 2 ≤ (tokS f).length + 1 + 1; omega
def costS : Se → Nat
  | .two _ _ _ => 4
  | .one _ _ => 3
  | .at_ _ _ => 4
  | .neg f => costS f + 2
  | .bin _ f g => costS f + costS g + 2
  | .qu _ _ f => costS f + 3
def costK : Wk → Nat
  | .w _ => 1
  | .p _ => 1
  | .s f => costS f
theorem cost_kS (s : Se) : ((kS s).map costK).sum + 1 = costS s := by
  cases s <;> simp [kS, items, ofI, costK, costS] <;> omega
theorem cost_le (s : Se) : costS s ≤ 2 * (tokS s).length := by
  induction s with
  | two b x y => show 4 ≤ 2 * 3; omega
  | one b x => show 3 ≤ 2 * 2; omega
  | at_ p x => show 4 ≤ 2 * 3; omega
  | neg f ih => show costS f + 2 ≤ 2 * ((tokS f).length + 1); omega
  | bin b f g h1 h2 =>
    show costS f + costS g + 2 ≤ 2 * ((tokS f ++ tokS g).length + 1)
    rw [List.length_append]; omega
  | qu b x f ih => show costS f + 3 ≤ 2 * ((tokS f).length + 1 + 1); omega
theorem costK_pos (a : Wk) : 1 ≤ costK a := by
  cases a with
  | w z => exact Nat.le_refl _
  | p i => exact Nat.le_refl _
  | s f => show 1 ≤ costS f; have := cost_kS f; omega
theorem cost_len : ∀ l : List Wk, l.length ≤ (l.map costK).sum
  | [] => Nat.le_refl _
  | a :: l => by
    have h1 := costK_pos a
    have h2 := cost_len l
    rw [List.map_cons, List.sum_cons, List.length_cons]; omega
/-- what holds of all words of a sentence -/
theorem tok_all {P : Str → Prop} (hw : ∀ s, P (wordS s)) (hn : ∀ c, okN c = true → P (mkS [c])) (hp : ∀ i, i ≤ 2 → P (mkS [48 + i])) : ∀ s, wfS s = true → ∀ z ∈ tokS s, P z := fun s => by
  induction s with
  | two b x y =>
    intro w z hz
    obtain ⟨w1, w2⟩ := Bool.and_eq_true _ _ ▸ w
    simp only [tokS, List.mem_cons, List.not_mem_nil, or_false] at hz
    rcases hz with rfl | rfl | rfl
    · exact hw (.two b x y)
    · exact hn _ w1
    · exact hn _ w2
  | one b x =>
    intro w z hz
    simp only [tokS, List.mem_cons, List.not_mem_nil, or_false] at hz
    rcases hz with rfl | rfl
    · exact hw (.one b x)
    · exact hn _ w
  | at_ p x =>
    intro w z hz
    obtain ⟨w1, w2⟩ := Bool.and_eq_true _ _ ▸ w
    simp only [tokS, List.mem_cons, List.not_mem_nil, or_false] at hz
    rcases hz with rfl | rfl | rfl
    · exact hw (.at_ p x)
    · exact hp p (of_decide_eq_true w1)
    · exact hn _ w2
  | neg f ih =>
    intro w z hz
    simp only [tokS, List.mem_cons] at hz
    rcases hz with rfl | hz
    · exact hw (.neg f)
    · exact ih w z hz
  | bin b f g ih1 ih2 =>
    intro w z hz
    obtain ⟨w1, w2⟩ := Bool.and_eq_true _ _ ▸ w
    simp only [tokS, List.mem_cons, List.mem_append] at hz
    rcases hz with rfl | hz | hz
    · exact hw (.bin b f g)
    · exact ih1 w1 z hz
    · exact ih2 w2 z hz
  | qu b x f ih =>
    intro w z hz
    obtain ⟨w1, w2⟩ := Bool.and_eq_true _ _ ▸ w
    simp only [tokS, List.mem_cons] at hz
    rcases hz with rfl | rfl | hz
    · exact hw (.qu b x f)
    · exact hn _ w1
    · exact ih w2 z hz
theorem words_all {P : Str → Prop} (h : ∀ b : Bool, P (wTwo b) ∧ P (wOne b) ∧ P (wBin b) ∧ P (wQu b) ∧ P wAt ∧ P wNot) (s : Se) : P (wordS s) := by
  cases s with
  | two b x y => exact (h b).1
  | one b x => exact (h b).2.1
  | at_ p x => exact (h true).2.2.2.2.1
  | neg f => exact (h true).2.2.2.2.2
  | bin b f g => exact (h b).2.2.1
  | qu b x f => exact (h b).2.2.2.1
theorem tok_Wok {s : Se} {n : Nat} (h : wfS s = true) (hl : (tokS s).length ≤ n) : Wok (tokS s) n where
  ne := tokS_ne s
  len := hl
  sp := tok_noSp s h
  sz := tok_all (fun s => words_all (P := fun z => z.length ≤ 1000) (by decide) s) (fun c _ => (show 1 ≤ 1000 by omega)) (fun i _ => (show 1 ≤ 1000 by omega)) s h
  low := tok_all (fun s => words_all (P := fun z => ∀ c ∈ z.cps.toList, c < 128) (by decide) s)
    (fun c hc x hx => by have := (okN_iff c).mp hc; cases List.mem_singleton.mp (show x ∈ [c] from hx); omega) (fun i hi x hx => by cases List.mem_singleton.mp (show x ∈ [48 + i] from hx); omega) s h
/-! joined texts joined -/
theorem joinL_app : ∀ {a b : List (List Nat)}, a ≠ [] → b ≠ [] → TL.joinL [32] (a ++ b) = TL.joinL [32] a ++ ([32] ++ TL.joinL [32] b)
  | [], _, h, _ => absurd rfl h
  | [p], q :: r, _, _ => rfl
  | [p], [], _, h => absurd rfl h
  | p :: q :: r, b, _, h => by
    show p ++ ([32] ++ TL.joinL [32] (q :: r ++ b)) = (p ++ ([32] ++ TL.joinL [32] (q :: r))) ++ _
    rw [joinL_app (by simp) h]
    simp only [List.append_assoc]
theorem tl_txt (ws : List Str) : (Txt.join spc ws).cps.toList = TL.joinL [32] (ws.map fun z => z.cps.toList) := by rw [TL.join_eq]; exact TL.tl_join spc ws
theorem join_one (z : Str) : Txt.join spc [z] = z := TL.ext_tl (tl_txt [z])
theorem join_app {a b : List Str} (ha : a ≠ []) (hb : b ≠ []) : (Txt.join spc (a ++ b)).cps.toList = (Txt.join spc a).cps.toList ++ ([32] ++ (Txt.join spc b).cps.toList) := by
  rw [tl_txt, tl_txt, tl_txt, List.map_append, joinL_app (by simpa using ha) (by simpa using hb)]
theorem join_flat {α : Type} (f : α → List Str) : ∀ (l : List α), (∀ a ∈ l, f a ≠ []) → Txt.join spc (l.map fun a => Txt.join spc (f a)) = Txt.join spc (l.flatMap f)
  | [], _ => rfl
  | [a], h => by
    show Txt.join spc [Txt.join spc (f a)] = Txt.join spc (f a ++ [])
    rw [join_one, List.append_nil]
  | a :: b :: l, h => by
    have ih := join_flat f (b :: l) fun x hx => h x (List.mem_cons_of_mem _ hx)
    have hne : (b :: l).flatMap f ≠ [] := by
      rw [List.flatMap_cons]
      have := h b (by simp)
      simp [this]
    refine TL.ext_tl ?_
    show (Txt.join spc ([Txt.join spc (f a)] ++ (b :: l).map fun a => Txt.join spc (f a))).cps.toList = (Txt.join spc (f a ++ (b :: l).flatMap f)).cps.toList
    rw [join_app (by simp) (by simp), join_app (h a (by simp)) hne, ih, join_one]
theorem tokK_ne (a : Wk) : tokK a ≠ [] := by
  cases a with
  | w z => simp [tokK]
  | p i => simp [tokK]
  | s f => exact tokS_ne f
def txtK (a : Wk) : Str := Txt.join spc (tokK a)
theorem txt_kS (s : Se) : Txt.join spc ((kS s).map txtK) = txtS s := by
  unfold txtS
  rw [tokS_kS]
  exact join_flat tokK (kS s) fun a _ => tokK_ne a
theorem kitK_tup (a : Wk) : kitB (tyN (encK a)) "tuple" = some (match a with | .s _ => true | _ => false) := by
  cases a with
  | w z => show kitB "str" "tuple" = some false; decide +kernel
  | p i => show kitB "int" "tuple" = some false; decide +kernel
  | s f =>
    show kitB (tyN (encS f)) "tuple" = some true
    rw [encS_items]
    show kitB "tuple" "tuple" = some true
    decide +kernel
/-- str(item) of a word or a place -/
theorem ev_strK {ρ : List Sl} {i : Nat} {a : Wk} (h : ρ[i]? = some (Sl.dat (encK a))) (hn : ∀ f, a ≠ .s f) (w : wfK a = true) : EvD K (tCB rStr (tCons (tVar i) tNil)) ρ (.str (txtK a)) := by
  cases a with
  | w z => exact (ev_cb (ea_cons (ev_var h).q ea_nil) cd_strS).to (congrArg PyData.str (join_one z).symm)
  | p j =>
    have hj : j ≤ 2 := of_decide_eq_true w
    exact (ev_cb (ea_cons (ev_var h).q ea_nil) (cd_strI (i := (j : Int)) (by omega) (by omega))).to (congrArg PyData.str (by rw [show ((j : Int)).toNat = j from rfl]; exact (join_one _).symm))
  | s f => exact absurd rfl (hn f)
def proWs (K : PySem.W.Frag) : List Sl → Gn → Prop := fun as ψ => ∃ s : Se, as = [.dat (encS s)] ∧ wfS s = true ∧ (tokS s).length ≤ 60 ∧ ψ = fun G v => Dp K G v (.str (txtS s))
theorem ok_write_sentence {f : Addr} {fd : FuncData} {k : Nat} (F : Fun K "write_sentence" "write_sentence" swrite_sentence f fd) (m_isinstance : mg "isinstance" = none) (m_tuple : mg "tuple" = none) (m_str : mg "str" = none) : FnOk Pg w K mg base CX0 (k + 1) f fd ["sentence"] (spG K (proWs K)) := by
  refine fn_okG F scwrite_sentence (fun as ψ ⟨_, e, _⟩ => by rw [e]; rfl) fun cdv A' outer sh H E as ψ hr hp => ?_
  obtain ⟨s, rfl, hw, hl, rfl⟩ := hp
  refine ⟨_, (pss_cons (ps_set (i := 1) scwrite_sentence.nd rfl (by first | exact Or.inl rfl | exact Or.inr rfl) (pe_lst pa_nil))
      (pss_cons (ps_set (i := 2) scwrite_sentence.nd rfl (by first | exact Or.inl rfl | exact Or.inr rfl) (pe_lst (pa_cons (pv 0) pa_nil)))
      (pss_cons (ps_while PassesOwn.never (EK.tru (K := K) (pv 2))
      (pss_cons (ps_set (i := 3) scwrite_sentence.nd rfl (by first | exact Or.inl rfl | exact Or.inr rfl) (pe_bm0 PySem.F.plainAttrs_list PySem.F.slot_list_pop PySem.F.type_list_pop mt_pop (pv 2)))
      (pss_one (ps_if (EK.tru (K := K) (pe_callB (EK.isi (K := K)) (by rfl) m_isinstance (by decide +kernel) (pa_cons (pv 3) (pa_cons (pe_bltn (v := .ty "tuple") (by rfl) m_tuple (by decide +kernel) rfl) pa_nil))))
      (pss_one (ps_expr (pe_bm PySem.F.plainAttrs_list PySem.F.slot_list_extend PySem.F.type_list_extend (EK.extendT (K := K)) (pv 2) (pa_cons (EK.revT (K := K) (pv 3)) pa_nil))))
      (pss_one (ps_expr (pe_bm PySem.F.plainAttrs_list PySem.F.slot_list_append PySem.F.type_list_append mt_append (pv 1) (pa_cons (pe_callTy call_strA (by rfl) m_str (by decide +kernel) (pa_cons (pv 3) pa_nil)) pa_nil))))))))
      (pss_one (ps_ret (pe_m1 PySem.F.slot_str_join PySem.F.type_str_join (EK.join (K := K)) pe_str (pv 1))))))), ?_⟩
  show Wp K _ [.dat (encS s), .no, .no, .no] _
  have hc := cost_le s
  have W := tok_Wok hw hl
  refine w_seq (w_own (ev_lst ec_nil) (w_seq (w_own (ds := [encK (.s s)]) (ev_lst (ec_cons (ev_var rfl) ec_nil)) ?_)))
  show Wp K _ [.dat (encS s), .own [], .own [encK (.s s)], .no] _
  let Inv : Nat → List Sl → Prop := fun n ρ => ∃ (st : List Wk) (out : List Str) (x3 : Sl), ρ = [.dat (encS s), .own (out.map .str), .own (st.map encK), x3] ∧ n = (st.map costK).sum ∧ out.length + n ≤ costS s ∧ (∀ a ∈ st, wfK a = true) ∧ out ++ st.reverse.flatMap tokK = tokS s
  apply w_mid (fun ρ => ∃ x2 x3, ρ = [.dat (encS s), .own ((tokS s).map .str), x2, x3])
  · refine w_whileN Inv (n0 := costS s) ⟨[.s s], [], .no, rfl, (show costS s = costS s + 0 from rfl), by simp, fun a ha => by cases List.mem_singleton.mp ha; exact hw, by simp [tokK]⟩ ?_
    rintro n ρ1 ⟨st, out, x3, rfl, hn, hb, hwf, ht⟩
    refine ⟨!(st.map encK).isEmpty, et_truL (ev_own rfl), fun hq => ?_, fun hq => ?_⟩
    · have hne : st ≠ [] := fun e => by rw [e] at hq; cases hq
      obtain ⟨st', a, rfl⟩ : ∃ st' p, st = st' ++ [p] := ⟨st.dropLast, st.getLast hne, (List.dropLast_concat_getLast hne).symm⟩
      have ha := hwf a (List.mem_append_right _ (List.mem_singleton.mpr rfl))
      have hst : ∀ b ∈ st', wfK b = true := fun b hb => hwf b (List.mem_append_left _ hb)
      rw [List.map_append, List.sum_append] at hn
      have hn : n = (st'.map costK).sum + (costK a + 0) := hn
      have hcl := cost_len st'
      rw [List.reverse_append, List.reverse_singleton, List.singleton_append, List.flatMap_cons] at ht
      rw [List.map_append]
      refine w_seq (w_popAsg (i := 2) (ds := st'.map encK) (d := encK a) rfl bd_name ?_)
      show Wp K _ [.dat (encS s), .own (out.map .str), .own (st'.map encK), .dat (encK a)] _
      refine w_if (et_truB (ev_isi (ev_var rfl).q (kitK_tup a)).q) (fun hq => ?_) fun hq => ?_
      · cases a with
        | s g =>
          have hk := cost_kS g
          have hkl := kS_len g
          have hn : n = (st'.map costK).sum + (costS g + 0) := hn
          refine w_extendT (i := 2) (es := (kS g).reverse.map encK) rfl ((EvD.to (ev_revT ((ev_var (i := 3) (d := encS g) rfl).to (encS_kS g)).q) (by rw [List.map_reverse])).q) (by rw [List.length_map, List.length_map, List.length_reverse]; exact sz_le (by omega)) ?_
          refine ⟨((st' ++ (kS g).reverse).map costK).sum, ?_, st' ++ (kS g).reverse, out, _, by rw [List.map_append]; rfl, rfl, ?_, fun b hb => ?_, ?_⟩
          · rw [List.map_append, List.sum_append, List.map_reverse, List.sum_reverse]; omega
          · rw [List.map_append, List.sum_append, List.map_reverse, List.sum_reverse]; omega
          · rcases List.mem_append.mp hb with hb | hb
            · exact hst b hb
            · exact kS_wf ha b (List.mem_reverse.mp hb)
          · rw [List.reverse_append, List.reverse_reverse, List.flatMap_append, ← tokS_kS]
            exact ht
        | w z => cases hq
        | p i => cases hq
      · have hna : ∀ f, a ≠ .s f := fun f e => by subst e; cases hq
        have h1 := costK_pos a
        refine w_append (i := 1) rfl (ev_strK (i := 3) rfl hna ha) (by rw [List.length_map]; exact small1000 (by omega)) ?_
        refine ⟨(st'.map costK).sum, by omega, st', out ++ [txtK a], _, by rw [List.map_append]; rfl, rfl, ?_, hst, ?_⟩
        · rw [List.length_append]
          show out.length + 1 + _ ≤ _
          omega
        · rw [← ht, List.append_assoc]
          congr 1
          cases a with
          | w z => show [txtK (.w z)] ++ _ = [z] ++ _; rw [show txtK (.w z) = z from join_one z]
          | p i => show [txtK (.p i)] ++ _ = [mkS [48 + i]] ++ _; rw [show txtK (.p i) = mkS [48 + i] from join_one _]
          | s f => exact absurd rfl (hna f)
    · have he : st = [] := by
        cases st with
        | nil => rfl
        | cons a l => cases hq
      subst he
      have ht : out ++ [] = tokS s := ht
      rw [List.append_nil] at ht
      rw [ht]
      exact ⟨_, _, rfl⟩
  rintro _ ⟨x2, x3, rfl⟩
  refine w_ret (d := .str (txtS s)) (ev_m1 (ev_cM (l := [32]) rfl).q (ev_own rfl) (md_join ?_)) fun _ _ z => z
  have h1 := sum_le (tokS s) W.sz
  have h2 : spc.length = 1 := rfl
  rw [h2]
  omega
theorem ev_head {ρ : List Sl} {i : Nat} {s : Se} (h : ρ[i]? = some (Sl.dat (encS s))) : EvD K (tOp (rIx K) (tVar i) (tC (.int 0))) ρ (.str (wordS s)) := by
  rw [encS_items] at h
  exact ev_op (ev_var h).q ev_cint.q (rd_ixT (show atI (PyData.str (wordS s) :: _) ((0 : Nat) : Int) = _ from atI_nat rfl))
theorem cut_tail (a : D) (l : List D) : EL.cutD (a :: l) (some 1) none = l := by
  unfold EL.cutD
  rw [HT.sIx_none, show (1 : Int) = ((1 : Nat) : Int) from rfl, HT.sIx_nat]
  have e : min 1 (a :: l).length = 1 := by rw [List.length_cons]; omega
  rw [e]
  exact List.take_of_length_le (by simp)
/-! ### the law's own texts, turned sentences, checks -/
def proLt (K : PySem.W.Frag) (d : Nat) : List Sl → Gn → Prop := fun as ψ => ∃ s : Se, as = [.dat (encS s)] ∧ wfS s = true ∧ (tokS s).length ≤ 60 ∧ dpS s < d ∧ ψ = fun G v => Dp K G v (.str (txtS s))
theorem txt_len {a : Wk} {s : Se} (h : a ∈ kS s) (hw : wfS s = true) (hl : (tokS s).length ≤ 60) : (txtK a).length ≤ 60060 := by
  cases a with
  | w z =>
    show (Txt.join spc [z]).length ≤ _
    rw [join_one]
    have : z ∈ tokS s := by rw [tokS_kS]; exact List.mem_flatMap.mpr ⟨_, h, by simp [tokK]⟩
    have := (tok_Wok hw hl).sz z this
    omega
  | p i =>
    show (Txt.join spc [mkS [48 + i]]).length ≤ _
    rw [join_one, len_mkS]
    show 1 ≤ _; omega
  | s f =>
    have hi := kS_sub h
    have hf := kS_wf hw _ h
    have hlf := tok_sub hi
    have := join_len (tokS f) (tok_Wok (n := 60) hf (by omega)).sz
    show (Txt.join spc (tokS f)).length ≤ _
    omega
theorem okd_law_text {f : Addr} {fd : FuncData} (F : Fun K "_law_text" "_law_text" s_law_text f fd) (m_isinstance : mg "isinstance" = none) (m_tuple : mg "tuple" = none) (m_str : mg "str" = none)
    (hm : mg "_law_text" = some (.ref f)) (hk : PySem.W.keepIn K (.ref f) = true) (hb : Binds K fd ["sentence"] []) : ∀ d k, FnOk Pg w K mg base CX0 (k + d + 2) f fd ["sentence"] (spG K (proLt K d)) := by
  intro d
  induction d with
  | zero =>
    intro k
    refine fn_okG F sc_law_text (fun as ψ ⟨_, e, _⟩ => by rw [e]; rfl) fun cdv A' outer sh H E as ψ hr hp => ?_
    obtain ⟨_, _, _, _, z, _⟩ := hp
    exact absurd z (Nat.not_lt_zero _)
  | succ d ih =>
    intro k
    have c_law_text : Cal Pg w K mg base "_law_text" ["sentence"] (0 + d + 2) (spG K (proLt K d)) := ⟨f, fd, ih 0, hm, hk, hb⟩
    refine fn_okG F sc_law_text (fun as ψ ⟨_, e, _⟩ => by rw [e]; rfl) fun cdv A' outer sh H E as ψ hr hp => ?_
    obtain ⟨s, rfl, hw, hl, hd, rfl⟩ := hp
    have hrec : Room (0 + d + 2) (_) := hr.mono (by omega)
    refine ⟨_, (pss_cons (ps_set (i := 1) sc_law_text.nd rfl (by first | exact Or.inl rfl | exact Or.inr rfl) (pe_lst pa_nil))
      (pss_cons (ps_for PassesOwn.never (by rfl) (EK.seq (K := K) (pv 0)) (pg_name (i := 2) sc_law_text.nd rfl (by first | exact Or.inl rfl | exact Or.inr rfl))
      (pss_one (ps_if (EK.tru (K := K) (pe_callB (EK.isi (K := K)) (by rfl) m_isinstance (by decide +kernel) (pa_cons (pv 2) (pa_cons (pe_bltn (v := .ty "tuple") (by rfl) m_tuple (by decide +kernel) rfl) pa_nil))))
      (pss_one (ps_expr (pe_bm PySem.F.plainAttrs_list PySem.F.slot_list_append PySem.F.type_list_append mt_append (pv 1) (pa_cons (pe_cal c_law_text hrec (pa_cons (pv 2) pa_nil)) pa_nil))))
      (pss_one (ps_expr (pe_bm PySem.F.plainAttrs_list PySem.F.slot_list_append PySem.F.type_list_append mt_append (pv 1) (pa_cons (pe_callTy call_strA (by rfl) m_str (by decide +kernel) (pa_cons (pv 2) pa_nil)) pa_nil)))))))
      (pss_one (ps_ret (pe_m1 PySem.F.slot_str_join PySem.F.type_str_join (EK.join (K := K)) pe_str (pv 1)))))), ?_⟩
    have hkl := kS_len s
    show Wp K _ [.dat (encS s), .no, .no] _
    refine w_seq (w_own (ev_lst ec_nil) ?_)
    show Wp K _ [.dat (encS s), .own [], .no] _
    apply w_mid (fun ρ => ∃ x2, ρ = [.dat (encS s), .own (((kS s).map txtK).map .str), x2])
    · refine w_for (is := [2]) (ei_tup ((ev_var (i := 0) rfl).to (encS_kS s))) (fun i ρ => ∃ x2, ρ = [.dat (encS s), .own ((((kS s).take i).map txtK).map .str), x2]) ⟨_, rfl⟩ ?_ ?_
      · rintro i e ρ1 he ⟨x2, rfl⟩
        obtain ⟨a, ha, rfl⟩ := map_get he
        have hm := List.mem_of_getElem? ha
        have tk : (kS s).take (i + 1) = (kS s).take i ++ [a] := by rw [List.take_add_one, ha]; rfl
        have hlen : ((((kS s).take i).map txtK).map PyData.str).length < sizeLine := by rw [List.length_map, List.length_map, List.length_take]; exact small1000 (by omega)
        refine ⟨_, bd_name, ?_⟩
        show Wp K _ [.dat (encS s), .own ((((kS s).take i).map txtK).map .str), .dat (encK a)] _
        have fin : ∀ {t : TE}, EvD K t [.dat (encS s), .own ((((kS s).take i).map txtK).map .str), .dat (encK a)] (.str (txtK a)) → Wp K (tDrop (tBM K "list" rAppend (tVar 1) (tCons t tNil))) [.dat (encS s), .own ((((kS s).take i).map txtK).map .str), .dat (encK a)] { nx := fun ρ => ∃ x2, ρ = [.dat (encS s), .own ((((kS s).take (i + 1)).map txtK).map .str), x2], ct := fun ρ => ∃ x2, ρ = [.dat (encS s), .own ((((kS s).take (i + 1)).map txtK).map .str), x2], bk := fun ρ => ∃ x2, ρ = [.dat (encS s), .own (((kS s).map txtK).map .str), x2], rt := fun d => ∀ G v, Dp K G v d → Dp K G v (.str (txtS s)) } := fun ht =>
          w_append (i := 1) rfl ht hlen ⟨_, by rw [tk, List.map_append, List.map_append]; rfl⟩
        refine w_if (et_truB (ev_isi (ev_var rfl).q (kitK_tup a)).q) (fun hq => ?_) fun hq => ?_
        · cases a with
          | s g =>
            have hi := kS_sub hm
            have h1 := dp_sub hi
            have h2 := tok_sub hi
            exact fin (EvG.toD (ev_callG (eg_d (ev_var rfl) eg_nil) ⟨g, rfl, kS_wf hw _ hm, by omega, by omega, rfl⟩) fun _ _ z => z)
          | w z => cases hq
          | p i => cases hq
        · exact fin (ev_strK rfl (fun g e => by subst e; cases hq) (kS_wf hw _ hm))
      · rintro ρ1 ⟨x2, rfl⟩
        rw [List.length_map, List.take_length]
        exact ⟨_, rfl⟩
    rintro _ ⟨x2, rfl⟩
    refine w_ret (d := .str (txtS s)) ((ev_m1 (ev_cM (l := [32]) rfl).q (ev_own rfl) (md_join ?_)).to (congrArg PyData.str (txt_kS s))) fun _ _ z => z
    have h2 : (mkS [32]).length = 1 := rfl
    rw [h2, List.length_map]
    have h1 : (((kS s).map txtK).map (·.length)).sum ≤ 60060 * (kS s).length := by
      have key : ∀ l : List Wk, (∀ a ∈ l, a ∈ kS s) → ((l.map txtK).map (·.length)).sum ≤ 60060 * l.length := fun l => by
        induction l with
        | nil => intro _; exact Nat.le_refl _
        | cons a l ih =>
          intro h
          have h1 := txt_len (h a List.mem_cons_self) hw hl
          have h2 := ih fun b hb => h b (List.mem_cons_of_mem _ hb)
          rw [List.map_cons, List.map_cons, List.sum_cons, List.length_cons]; omega
      exact key _ fun _ h => h
    omega
def proLtM (K : PySem.W.Frag) : List Sl → Gn → Prop := proLt K 58
theorem ok_law_text {f : Addr} {fd : FuncData} (F : Fun K "_law_text" "_law_text" s_law_text f fd) (m_isinstance : mg "isinstance" = none) (m_tuple : mg "tuple" = none) (m_str : mg "str" = none)
    (hm : mg "_law_text" = some (.ref f)) (hk : PySem.W.keepIn K (.ref f) = true) (hb : Binds K fd ["sentence"] []) : FnOk Pg w K mg base CX0 60 f fd ["sentence"] (spG K (proLtM K)) := okd_law_text F m_isinstance m_tuple m_str hm hk hb 58 0
/-! turned -/
def turnN (sh c : Nat) : Nat := 97 + (c - 97 + sh) % 26
theorem turnN_ok (sh c : Nat) : okN (turnN sh c) = true := by
  rw [okN_iff]
  unfold turnN
  omega
def turnS (sh : Nat) : Se → Se
  | .two b x y => .two b (turnN sh x) (turnN sh y)
  | .one b x => .one b (turnN sh x)
  | .at_ p x => .at_ p (turnN sh x)
  | .neg f => .neg (turnS sh f)
  | .bin b f g => .bin b (turnS sh f) (turnS sh g)
  | .qu b x f => .qu b (turnN sh x) (turnS sh f)
def turnI (sh : Nat) : It → It
  | .n c => .n (turnN sh c)
  | .p i => .p i
  | .s f => .s (turnS sh f)
theorem turn_items (sh : Nat) (s : Se) : items (turnS sh s) = (items s).map (turnI sh) ∧ wordS (turnS sh s) = wordS s := by cases s <;> exact ⟨rfl, rfl⟩
theorem turn_ok (sh : Nat) (s : Se) (h : wfS s = true) : wfS (turnS sh s) = true ∧ (tokS (turnS sh s)).length = (tokS s).length := by
  induction s with
  | two b x y => exact ⟨by show (okN _ && okN _) = true; rw [turnN_ok, turnN_ok]; rfl, rfl⟩
  | one b x => exact ⟨turnN_ok _ _, rfl⟩
  | at_ p x =>
    obtain ⟨w1, w2⟩ := Bool.and_eq_true _ _ ▸ h
    exact ⟨by show (decide (p ≤ 2) && okN _) = true; rw [w1, turnN_ok]; rfl, rfl⟩
  | neg f ih =>
    obtain ⟨h1, h2⟩ := ih h
    exact ⟨h1, by show _ + 1 = _ + 1; rw [h2]⟩
  | bin b f g ih1 ih2 =>
    obtain ⟨w1, w2⟩ := Bool.and_eq_true _ _ ▸ h
    obtain ⟨h1, h2⟩ := ih1 w1
    obtain ⟨g1, g2⟩ := ih2 w2
    refine ⟨by show (_ && _) = true; rw [h1, g1]; rfl, ?_⟩
    show (tokS (turnS sh f) ++ tokS (turnS sh g)).length + 1 = (tokS f ++ tokS g).length + 1
    rw [List.length_append, List.length_append, h2, g2]
  | qu b x f ih =>
    obtain ⟨w1, w2⟩ := Bool.and_eq_true _ _ ▸ h
    obtain ⟨h1, h2⟩ := ih w2
    exact ⟨by show (okN _ && _) = true; rw [h1, turnN_ok]; rfl, by show _ + 1 + 1 = _ + 1 + 1; rw [h2]⟩
def alph : List Nat := [97, 98, 99, 100, 101, 102, 103, 104, 105, 106, 107, 108, 109, 110, 111, 112, 113, 114, 115, 116, 117, 118, 119, 120, 121, 122]
theorem occ_alph {c : Nat} (h : okN c = true) : Builtin.Str.occurrences (mkS alph) (mkS [c]) 0 (mkS alph).length 1 = [c - 97] := by
  obtain ⟨h1, h2⟩ := (okN_iff c).mp h
  have key : ∀ k : Fin 26, Builtin.Str.occurrences (mkS alph) (mkS [97 + k.val]) 0 (mkS alph).length 1 = [97 + k.val - 97] := by decide +kernel
  have := key ⟨c - 97, by omega⟩
  rwa [show 97 + (c - 97) = c by omega] at this
theorem alph_at (sh c : Nat) : atI alph ((((c - 97 : Nat) : Int) + (sh : Int)) % 26) = some (turnN sh c) := by
  have e : (((c - 97 : Nat) : Int) + (sh : Int)) % 26 = (((c - 97 + sh) % 26 : Nat) : Int) := by
    omega
  rw [e]
  have hlt : (c - 97 + sh) % 26 < 26 := Nat.mod_lt _ (by omega)
  refine atI_nat ?_
  have key : ∀ k : Fin 26, alph[k.val]? = some (97 + k.val) := by decide
  exact key ⟨_, hlt⟩
def proLu (K : PySem.W.Frag) (d : Nat) : List Sl → Gn → Prop := fun as ψ => ∃ (s : Se) (sh : Nat), as = [.dat (encS s), .dat (.int (sh : Int))] ∧ wfS s = true ∧ sh < 26 ∧ dpS s < d ∧ ψ = fun G v => Dp K G v (encS (turnS sh s))
theorem okd_law_turned {f : Addr} {fd : FuncData} (F : Fun K "_law_turned" "_law_turned" s_law_turned f fd) (m_isinstance : mg "isinstance" = none) (m_tuple : mg "tuple" = none) (m_str : mg "str" = none)
    (hm : mg "_law_turned" = some (.ref f)) (hk : PySem.W.keepIn K (.ref f) = true) (hb : Binds K fd ["sentence", "shift"] []) : ∀ d k, FnOk Pg w K mg base CX0 (k + d + 2) f fd ["sentence", "shift"] (spG K (proLu K d)) := by
  intro d
  induction d with
  | zero =>
    intro k
    refine fn_okG F sc_law_turned (fun as ψ ⟨_, _, e, _⟩ => by rw [e]; rfl) fun cdv A' outer sh H E as ψ hr hp => ?_
    obtain ⟨_, _, _, _, _, z, _⟩ := hp
    exact absurd z (Nat.not_lt_zero _)
  | succ d ih =>
    intro k
    have c_law_turned : Cal Pg w K mg base "_law_turned" ["sentence", "shift"] (0 + d + 2) (spG K (proLu K d)) := ⟨f, fd, ih 0, hm, hk, hb⟩
    refine fn_okG F sc_law_turned (fun as ψ ⟨_, _, e, _⟩ => by rw [e]; rfl) fun cdv A' outer sh H E as ψ hr hp => ?_
    obtain ⟨s, sf, rfl, hw, hs, hd, rfl⟩ := hp
    have hrec : Room (0 + d + 2) (_) := hr.mono (by omega)
    refine ⟨_, (pss_cons (ps_set (i := 2) sc_law_turned.nd rfl (by first | exact Or.inl rfl | exact Or.inr rfl) pe_str)
      (pss_cons (ps_set (i := 3) sc_law_turned.nd rfl (by first | exact Or.inl rfl | exact Or.inr rfl) (pe_lst (pa_cons (pe_ix (EK.ix (K := K)) (pv 0) pe_int (fun _ _ => rfl)) pa_nil)))
      (pss_cons (ps_for PassesOwn.never (by rfl) (EK.seq (K := K) (pe_slice (EK.sl (K := K)) (pv 0) (po_some pe_int) po_none)) (pg_name (i := 4) sc_law_turned.nd rfl (by first | exact Or.inl rfl | exact Or.inr rfl))
      (pss_cons (ps_if (EK.tru (K := K) (pe_callB (EK.isi (K := K)) (by rfl) m_isinstance (by decide +kernel) (pa_cons (pv 4) (pa_cons (pe_bltn (v := .ty "tuple") (by rfl) m_tuple (by decide +kernel) rfl) pa_nil))))
      (pss_one (ps_set (i := 4) sc_law_turned.nd rfl (by first | exact Or.inl rfl | exact Or.inr rfl) (pe_cal c_law_turned hrec (pa_cons (pv 4) (pa_cons (pv 1) pa_nil)))))
      (pss_one (ps_if (EK.tru (K := K) (pe_callB (EK.isi (K := K)) (by rfl) m_isinstance (by decide +kernel) (pa_cons (pv 4) (pa_cons (pe_bltn (v := .ty "str") (by rfl) m_str (by decide +kernel) rfl) pa_nil))))
      (pss_one (ps_set (i := 4) sc_law_turned.nd rfl (by first | exact Or.inl rfl | exact Or.inr rfl) (pe_ix (EK.ix (K := K)) (pv 2) (pe_op op_mod (pe_op (EK.add (K := K)) (pe_m1 PySem.F.slot_str_index PySem.F.type_str_index mt_indexS (pv 2) (pv 4)) (pv 1)) pe_int) (fun _ _ => rfl))))
      pss_nil)))
      (pss_one (ps_expr (pe_bm PySem.F.plainAttrs_list PySem.F.slot_list_append PySem.F.type_list_append mt_append (pv 3) (pa_cons (pv 4) pa_nil))))))
      (pss_one (ps_ret (pe_callTy (EK.tuple (K := K)) (by rfl) m_tuple (by decide +kernel) (pa_cons (pv 3) pa_nil))))))), ?_⟩
    have hil : (items s).length ≤ 2 := by have := kS_len s; rw [show kS s = .w (wordS s) :: (items s).map ofI from rfl, List.length_cons, List.length_map] at this; omega
    show Wp K _ [.dat (encS s), .dat (.int (sf : Int)), .no, .no, .no] _
    refine w_seq (w_set (ev_cM (l := alph) (by decide)) (w_seq (w_own (ev_lst (ec_cons (ev_head rfl) ec_nil)) ?_)))
    show Wp K _ [.dat (encS s), .dat (.int (sf : Int)), .dat (.str (mkS alph)), .own [.str (wordS s)], .no] _
    let outI : Nat → List D := fun i => .str (wordS s) :: ((items s).take i).map fun a => encI (turnI sf a)
    apply w_mid (fun ρ => ∃ x4, ρ = [.dat (encS s), .dat (.int (sf : Int)), .dat (.str (mkS alph)), .own (outI (items s).length), x4])
    · refine w_for (is := [4]) (ei_tup (ds := (items s).map encI) ((es_T (ds := .str (wordS s) :: (items s).map encI) (EvD.q ((ev_var (i := 0) rfl).to (encS_items s))) (eo_some ev_cint.q) eo_none).to (congrArg PyData.tuple (cut_tail _ _)))) (fun i ρ => ∃ x4, ρ = [.dat (encS s), .dat (.int (sf : Int)), .dat (.str (mkS alph)), .own (outI i), x4]) ⟨_, rfl⟩ ?_ ?_
      · rintro i e ρ1 he ⟨x4, rfl⟩
        obtain ⟨a, ha, rfl⟩ := map_get he
        have hm := List.mem_of_getElem? ha
        have hwa : wfI a = true := by rw [wfS_items, List.all_eq_true] at hw; exact hw a hm
        have tk : outI (i + 1) = outI i ++ [encI (turnI sf a)] := by
          show PyData.str (wordS s) :: ((items s).take (i + 1)).map _ = PyData.str (wordS s) :: ((items s).take i).map _ ++ _
          rw [List.take_add_one, ha, List.map_append]; rfl
        have hlen : (outI i).length < sizeLine := by
          show (((items s).take i).map _).length + 1 < _
          rw [List.length_map, List.length_take]; exact small1000 (by omega)
        refine ⟨_, bd_name, ?_⟩
        show Wp K _ [.dat (encS s), .dat (.int (sf : Int)), .dat (.str (mkS alph)), .own (outI i), .dat (encI a)] _
        apply w_mid (fun ρ => ρ = [.dat (encS s), .dat (.int (sf : Int)), .dat (.str (mkS alph)), .own (outI i), .dat (encI (turnI sf a))])
        · refine w_if (et_truB (ev_isi (ev_var rfl).q (kit_tup a)).q) (fun hq => ?_) fun hq => ?_
          · obtain ⟨g, rfl⟩ := kd_s (of_decide_eq_true hq)
            have h1 := dp_sub hm
            exact w_set (EvG.toD (ev_callG (eg_d (ev_var rfl) (eg_d (ev_var rfl) eg_nil)) ⟨g, sf, rfl, hwa, hs, by omega, rfl⟩) fun _ _ z => z) rfl
          · have hn := of_decide_eq_false hq
            refine w_if (et_truB (ev_isi (ev_var rfl).q (kit_str hn)).q) (fun hq => ?_) fun hq => ?_
            · obtain ⟨c, rfl⟩ := kd_n (of_decide_eq_true hq)
              exact w_set (ev_op (ev_var rfl).q (eq_op (eq_op (EvD.q (ev_indexS (ev_var rfl).q (ev_var (d := nm c) rfl).q (occ_alph hwa))) (ev_var rfl).q rd_addI) ev_cint.q (rd_mod (by decide))) (rd_ixM (by decide) (alph_at sf c))) rfl
            · have hn2 := of_decide_eq_false hq
              cases a with
              | n c => exact absurd rfl hn2
              | p j => exact w_nxt rfl
              | s g => exact absurd rfl hn
        rintro _ rfl
        exact w_append (i := 3) rfl (ev_var rfl) hlen ⟨_, by rw [tk]; rfl⟩
      · rintro ρ1 ⟨x4, rfl⟩
        rw [List.length_map]
        exact ⟨_, rfl⟩
    rintro _ ⟨x4, rfl⟩
    refine w_ret (d := encS (turnS sf s)) ((ev_cb (ea_cons (ev_own rfl) ea_nil) cd_tupL).to ?_) fun _ _ z => z
    rw [encS_items, (turn_items sf s).1, (turn_items sf s).2, List.map_map]
    show PyData.tuple (.str (wordS s) :: ((items s).take (items s).length).map _) = _
    rw [List.take_length]; rfl
def proLuM (K : PySem.W.Frag) : List Sl → Gn → Prop := proLu K 28
theorem ok_law_turned {f : Addr} {fd : FuncData} (F : Fun K "_law_turned" "_law_turned" s_law_turned f fd) (m_isinstance : mg "isinstance" = none) (m_tuple : mg "tuple" = none) (m_str : mg "str" = none)
    (hm : mg "_law_turned" = some (.ref f)) (hk : PySem.W.keepIn K (.ref f) = true) (hb : Binds K fd ["sentence", "shift"] []) : FnOk Pg w K mg base CX0 30 f fd ["sentence", "shift"] (spG K (proLuM K)) := okd_law_turned F m_isinstance m_tuple m_str hm hk hb 28 0
/-! ### a text spoilt -/
/-- words, perhaps none -/
structure Wgd (us : List Str) (n : Nat) : Prop where
  len : us.length ≤ n
  sp : ∀ z ∈ us, noSp z = true
  sz : ∀ z ∈ us, z.length ≤ 1000
  low : ∀ z ∈ us, ∀ c ∈ z.cps.toList, c < 128
theorem Wok.gd {ws : List Str} {n : Nat} (h : Wok ws n) : Wgd ws n := ⟨h.len, h.sp, h.sz, h.low⟩
theorem Wgd.sub {us ws : List Str} {n m : Nat} (h : Wgd us n) (hs : ∀ z ∈ ws, z ∈ us) (hl : ws.length ≤ m) : Wgd ws m := ⟨hl, fun z hz => h.sp z (hs z hz), fun z hz => h.sz z (hs z hz), fun z hz => h.low z (hs z hz)⟩
theorem Wgd.ok {us : List Str} {n : Nat} (h : Wgd us n) (hn : 1 ≤ n) : ∃ ws, Wok ws n ∧ Txt.join spc ws = Txt.join spc us := by
  cases us with
  | nil => exact ⟨[mkS []], ⟨by simp, by simpa using hn, by decide, by decide, by decide⟩, rfl⟩
  | cons z us => exact ⟨z :: us, ⟨by simp, h.len, h.sp, h.sz, h.low⟩, rfl⟩
def wl16 : List Str := ["x", "and", "single", "7", "2", "some", "", "xy", "X", "at", "not", "within", "3", "00", "5", "m"]
theorem wl_at (j : Int) : ∃ z, atI (wl16.map PyData.str) (j % 16) = some (.str z) ∧ noSp z = true ∧ z.length ≤ 1000 ∧ ∀ c ∈ z.cps.toList, c < 128 := by
  have h0 : 0 ≤ j % 16 := Int.emod_nonneg _ (by decide)
  have h1 : j % 16 < 16 := Int.emod_lt_of_pos _ (by decide)
  have hi : (j % 16).toNat < wl16.length := by show _ < 16; omega
  refine ⟨wl16[(j % 16).toNat], ?_, ?_⟩
  · have := atI_nat (xs := wl16.map PyData.str) (j := (j % 16).toNat) (by rw [List.getElem?_map, List.getElem?_eq_getElem hi]; rfl)
    rwa [Int.toNat_of_nonneg h0] at this
  · have key : ∀ z ∈ wl16, noSp z = true ∧ z.length ≤ 1000 ∧ ∀ c ∈ z.cps.toList, c < 128 := by decide
    exact key _ (List.getElem_mem hi)
def proSpo (K : PySem.W.Frag) : List Sl → Gn → Prop := fun as ψ => ∃ (ws : List Str) (v : Int), as = [.dat (.str (Txt.join spc ws)), .dat (.int v)] ∧ Wok ws 55 ∧ ψ = fun G u => ∃ us, Wok us 56 ∧ Dp K G u (.str (Txt.join spc us))
theorem cut_to (us : List Str) (a : Nat) (h : a ≤ us.length) : EL.cutD (us.map PyData.str) none (some (a : Int)) = (us.take a).map .str := by
  unfold EL.cutD
  rw [HT.sIx_none, HT.sIx_nat, List.drop_zero, List.length_map, Nat.sub_zero, ← List.map_take, Nat.min_eq_left h]
theorem cut_fr (us : List Str) (a : Nat) (h : a ≤ us.length) : EL.cutD (us.map PyData.str) (some (a : Int)) none = (us.drop a).map .str := by
  unfold EL.cutD
  rw [HT.sIx_none, HT.sIx_nat, List.length_map, Nat.min_eq_left h, List.take_of_length_le (by rw [List.length_drop, List.length_map]; exact Nat.le_refl _), ← List.map_drop]
theorem ok_law_spoilt {f : Addr} {fd : FuncData} {k : Nat} (F : Fun K "_law_spoilt" "_law_spoilt" s_law_spoilt f fd) (m_len : mg "len" = none) : FnOk Pg w K mg base CX0 (k + 1) f fd ["text", "value"] (spG K (proSpo K)) := by
  refine fn_okG F sc_law_spoilt (fun as ψ ⟨_, _, e, _⟩ => by rw [e]; rfl) fun cdv A' outer sh H E as ψ hr hp => ?_
  obtain ⟨ws, v, rfl, W, rfl⟩ := hp
  refine ⟨_, (pss_cons (ps_set (i := 2) sc_law_spoilt.nd rfl (by first | exact Or.inl rfl | exact Or.inr rfl) (pe_m1 PySem.F.slot_str_split PySem.F.type_str_split mt_splitA (pv 0) pe_str))
      (pss_cons (ps_set (i := 3) sc_law_spoilt.nd rfl (by first | exact Or.inl rfl | exact Or.inr rfl) (pe_op op_mod (pe_op op_fdiv (pv 1) pe_int) (pe_callB (EK.len (K := K)) (by rfl) m_len (by decide +kernel) (pa_cons (pv 2) pa_nil))))
      (pss_cons (ps_set (i := 4) sc_law_spoilt.nd rfl (by first | exact Or.inl rfl | exact Or.inr rfl) (pe_ix (EK.ix (K := K)) (pe_lst (pa_cons pe_str (pa_cons pe_str (pa_cons pe_str (pa_cons pe_str (pa_cons pe_str (pa_cons pe_str (pa_cons pe_str (pa_cons pe_str (pa_cons pe_str (pa_cons pe_str (pa_cons pe_str (pa_cons pe_str (pa_cons pe_str (pa_cons pe_str (pa_cons pe_str (pa_cons pe_str pa_nil))))))))))))))))) (pe_op op_mod (pe_op op_fdiv (pv 1) pe_int) pe_int) (fun _ _ => rfl)))
      (pss_cons (ps_set (i := 5) sc_law_spoilt.nd rfl (by first | exact Or.inl rfl | exact Or.inr rfl) (pe_op op_mod (pv 1) pe_int))
      (pss_cons (ps_if (pt_cmpR (EK.lt (K := K) hr.units0) (pv 5) pe_int (nomark _))
      (pss_one (ps_asg (pv 4) (pg_sub (pv 2) (pv 3) set_list)))
      pss_nil)
      (pss_cons (ps_if (pt_cmpR (EK.eq (K := K) hr.units) (pv 5) pe_int (nomark _))
      (pss_one (ps_set (i := 2) sc_law_spoilt.nd rfl (by first | exact Or.inl rfl | exact Or.inr rfl) (pe_op (EK.add (K := K)) (pe_slice (EK.sl (K := K)) (pv 2) po_none (po_some (pv 3))) (pe_slice (EK.sl (K := K)) (pv 2) (po_some (pe_op (EK.add (K := K)) (pv 3) pe_int)) po_none))))
      pss_nil)
      (pss_cons (ps_if (pt_cmpR (EK.eq (K := K) hr.units) (pv 5) pe_int (nomark _))
      (pss_one (ps_set (i := 2) sc_law_spoilt.nd rfl (by first | exact Or.inl rfl | exact Or.inr rfl) (pe_op (EK.add (K := K)) (pe_op (EK.add (K := K)) (pe_slice (EK.sl (K := K)) (pv 2) po_none (po_some (pv 3))) (pe_lst (pa_cons (pe_ix (EK.ix (K := K)) (pv 2) (pv 3) (fun _ _ => rfl)) pa_nil))) (pe_slice (EK.sl (K := K)) (pv 2) (po_some (pv 3)) po_none))))
      pss_nil)
      (pss_cons (ps_if (pt_cmpR (EK.eq (K := K) hr.units) (pv 5) pe_int (nomark _))
      (pss_one (ps_set (i := 2) sc_law_spoilt.nd rfl (by first | exact Or.inl rfl | exact Or.inr rfl) (pe_op (EK.add (K := K)) (pe_op (EK.add (K := K)) (pe_slice (EK.sl (K := K)) (pv 2) po_none (po_some (pv 3))) (pe_lst (pa_cons (pv 4) pa_nil))) (pe_slice (EK.sl (K := K)) (pv 2) (po_some (pv 3)) po_none))))
      pss_nil)
      (pss_cons (ps_if (pt_cmpR (EK.eq (K := K) hr.units) (pv 5) pe_int (nomark _))
      (pss_one (ps_set (i := 2) sc_law_spoilt.nd rfl (by first | exact Or.inl rfl | exact Or.inr rfl) (pe_slice (EK.sl (K := K)) (pv 2) po_none (po_some (pv 3)))))
      pss_nil)
      (pss_cons (ps_if (pt_cmpR (EK.eq (K := K) hr.units) (pv 5) pe_int (nomark _))
      (pss_one (ps_ret (pe_op (EK.add (K := K)) (pv 0) pe_str)))
      pss_nil)
      (pss_one (ps_ret (pe_m1 PySem.F.slot_str_join PySem.F.type_str_join (EK.join (K := K)) pe_str (pv 2)))))))))))))), ?_⟩
  have hwl := W.len
  have hw1 : 1 ≤ ws.length := List.length_pos_iff.mpr W.ne
  have htx := W.txt (by omega)
  obtain ⟨z, hz, z1, z2, z3⟩ := wl_at (v / 64)
  have ha0 : 0 ≤ v / 8 % (ws.length : Int) := Int.emod_nonneg _ (by omega)
  have ha1 : v / 8 % (ws.length : Int) < (ws.length : Int) := Int.emod_lt_of_pos _ (by omega)
  obtain ⟨a, ha⟩ := Int.eq_ofNat_of_zero_le ha0
  rw [ha] at ha1
  have hal : a < ws.length := by omega
  have fin : ∀ (us : List Str), Wgd us 56 → ∀ G u, Dp K G u (.str (Txt.join spc us)) → ∃ us, Wok us 56 ∧ Dp K G u (.str (Txt.join spc us)) := fun us h G u hd => by
    obtain ⟨vs, h1, h2⟩ := h.ok (by omega)
    exact ⟨vs, h1, by rw [h2]; exact hd⟩
  show Wp K _ [.dat (.str (Txt.join spc ws)), .dat (.int v), .no, .no, .no, .no] _
  refine w_seq (w_own ((ef_split (ev_var (i := 0) (d := .str (Txt.join spc ws)) rfl).q (ev_cM (l := [32]) rfl).q rfl htx).to (by rw [show mkS [32] = spc from rfl, W.split])) ?_)
  show Wp K _ [.dat (.str (Txt.join spc ws)), .dat (.int v), .own (ws.map .str), .no, .no, .no] _
  refine w_seq (w_set (d := .int (a : Int)) ((ev_op (eq_op (ev_var rfl).q ev_cint.q (rd_fdiv (by decide))) (ev_cb (ea_cons (ev_own rfl) ea_nil) cd_lenL).q (rd_mod (by rw [List.length_map]; omega))).to (by rw [List.length_map, ha])) ?_)
  refine w_seq (w_set (d := .str z) (ev_op (EvF.q (ev_lst (ec_cons ev_cstr (ec_cons ev_cstr (ec_cons ev_cstr (ec_cons ev_cstr (ec_cons ev_cstr (ec_cons ev_cstr (ec_cons ev_cstr (ec_cons ev_cstr (ec_cons ev_cstr (ec_cons ev_cstr (ec_cons ev_cstr (ec_cons ev_cstr (ec_cons ev_cstr (ec_cons ev_cstr (ec_cons ev_cstr (ec_cons ev_cstr ec_nil))))))))))))))))))
    (eq_op (eq_op (ev_var rfl).q ev_cint.q (rd_fdiv (by decide))) ev_cint.q (rd_mod (by decide))) (rd_ixL hz)) ?_)
  refine w_seq (w_set (ev_op (ev_var rfl).q ev_cint.q (rd_mod (by decide))) ?_)
  show Wp K _ [.dat (.str (Txt.join spc ws)), .dat (.int v), .own (ws.map .str), .dat (.int (a : Int)), .dat (.str z), .dat (.int (v % 8))] _
  generalize v % 8 = kk
  generalize (Sl.dat (.int v)) = y1
  let S : List Str → List Sl := fun us => [.dat (.str (Txt.join spc ws)), y1, .own (us.map .str), .dat (.int (a : Int)), .dat (.str z), .dat (.int kk)]
  let M : Int → List Sl → Prop := fun j ρ => ∃ us, ρ = S us ∧ Wgd us 56 ∧ (j ≤ kk → us = ws)
  have W56 : Wgd ws 56 := W.gd.sub (fun _ h => h) (by omega)
  have etake : ∀ {ρ : List Sl} {us : List Str}, ρ[2]? = some (Sl.own (us.map PyData.str)) → ρ[3]? = some (Sl.dat (.int (a : Int))) → us.length = ws.length → EvF K (tSl (rSl K) (tVar 2) tNoPart (tPart (tVar 3))) ρ ((us.take a).map .str) := fun h1 h2 h3 =>
    (es_L (ev_own h1) eo_none (eo_some (ev_var h2).q)).to (cut_to _ _ (by omega))
  have edrop : ∀ {ρ : List Sl} {us : List Str}, ρ[2]? = some (Sl.own (us.map PyData.str)) → ρ[3]? = some (Sl.dat (.int (a : Int))) → us.length = ws.length → EvF K (tSl (rSl K) (tVar 2) (tPart (tVar 3)) tNoPart) ρ ((us.drop a).map .str) := fun h1 h2 h3 =>
    (es_L (ev_own h1) (eo_some (ev_var h2).q) eo_none).to (cut_fr _ _ (by omega))
  apply w_mid (M 2)
  · refine w_if (b := decide (kk < 2)) (et_test (eq_op (ev_var rfl).q ev_cint.q rd_lt)) (fun h => ?_) fun h => w_nxt ⟨ws, rfl, W56, fun _ => rfl⟩
    have h := of_decide_eq_true h
    refine w_setItem (i := 2) (j := (a : Int)) (ev_var rfl) rfl (ev_var rfl).q (by omega) (by rw [List.length_map]; omega) ?_
    refine ⟨ws.set a z, by rw [show ((a : Int)).toNat = a from rfl, ← List.map_set]; rfl, ⟨by rw [List.length_set]; omega, fun y hy => ?_, fun y hy => ?_, fun y hy => ?_⟩, fun z => by omega⟩
    · rcases List.mem_or_eq_of_mem_set hy with hy | rfl
      · exact W.sp y hy
      · exact z1
    · rcases List.mem_or_eq_of_mem_set hy with hy | rfl
      · exact W.sz y hy
      · exact z2
    · rcases List.mem_or_eq_of_mem_set hy with hy | rfl
      · exact W.low y hy
      · exact z3
  rintro _ ⟨us, rfl, G, hu⟩
  apply w_mid (M 3)
  · show Wp K _ [.dat (.str (Txt.join spc ws)), y1, .own (us.map .str), .dat (.int (a : Int)), .dat (.str z), .dat (.int kk)] _
    refine w_if (b := decide (kk = 2)) (et_test (eq_op (ev_var rfl).q ev_cint.q rd_eqI')) (fun h => ?_) fun h => w_nxt ⟨us, rfl, G, fun z => hu (by omega)⟩
    have h := of_decide_eq_true h
    obtain rfl := hu (by omega)
    refine w_own (ds := (us.take a ++ us.drop (a + 1)).map .str) ((ev_opF (EvF.q (etake rfl rfl rfl)) (EvF.q ((es_L (ev_own rfl) (eo_some (i := ((a + 1 : Nat) : Int)) (eq_op (ev_var rfl).q ev_cint.q rd_addI)) eo_none).to (cut_fr us (a + 1) (by omega)))) (rf_addL ?_)).to (by rw [List.map_append])) ?_
    · rw [List.length_map, List.length_map, List.length_take, List.length_drop]; exact sz_le (by omega)
    · refine ⟨us.take a ++ us.drop (a + 1), rfl, G.sub (fun y hy => ?_) ?_, fun z => by omega⟩
      · rcases List.mem_append.mp hy with hy | hy
        · exact List.mem_of_mem_take hy
        · exact List.mem_of_mem_drop hy
      · rw [List.length_append, List.length_take, List.length_drop]; omega
  rintro _ ⟨us, rfl, G, hu⟩
  apply w_mid (M 4)
  · show Wp K _ [.dat (.str (Txt.join spc ws)), y1, .own (us.map .str), .dat (.int (a : Int)), .dat (.str z), .dat (.int kk)] _
    refine w_if (b := decide (kk = 3)) (et_test (eq_op (ev_var rfl).q ev_cint.q rd_eqI')) (fun h => ?_) fun h => w_nxt ⟨us, rfl, G, fun z => hu (by omega)⟩
    have h := of_decide_eq_true h
    obtain rfl := hu (by omega)
    refine w_own (ds := (us.take a ++ [us[a]] ++ us.drop a).map .str) ((ev_opF (EvF.q (ev_opF (EvF.q (etake rfl rfl rfl)) (EvF.q (ev_lst (ec_cons (ev_op (ev_own rfl) (ev_var rfl).q (rd_ixL (d := .str us[a]) (atI_nat (by rw [List.getElem?_map, List.getElem?_eq_getElem hal]; rfl)))) ec_nil))) (rf_addL ?_))) (EvF.q (edrop rfl rfl rfl)) (rf_addL ?_)).to (by rw [List.map_append, List.map_append]; rfl)) ?_
    · rw [List.length_map, List.length_take]; exact sz_le (by show _ + 1 ≤ _; omega)
    · rw [List.length_append, List.length_map, List.length_map, List.length_take, List.length_drop]; exact sz_le (by show _ + 1 + _ ≤ _; omega)
    · refine ⟨us.take a ++ [us[a]] ++ us.drop a, rfl, G.sub (fun y hy => ?_) ?_, fun z => by omega⟩
      · rcases List.mem_append.mp hy with hy | hy
        · rcases List.mem_append.mp hy with hy | hy
          · exact List.mem_of_mem_take hy
          · rw [List.mem_singleton.mp hy]; exact List.getElem_mem hal
        · exact List.mem_of_mem_drop hy
      · rw [List.length_append, List.length_append, List.length_take, List.length_drop]; show _ + 1 + _ ≤ _; omega
  rintro _ ⟨us, rfl, G, hu⟩
  apply w_mid (M 5)
  · show Wp K _ [.dat (.str (Txt.join spc ws)), y1, .own (us.map .str), .dat (.int (a : Int)), .dat (.str z), .dat (.int kk)] _
    refine w_if (b := decide (kk = 4)) (et_test (eq_op (ev_var rfl).q ev_cint.q rd_eqI')) (fun h => ?_) fun h => w_nxt ⟨us, rfl, G, fun z => hu (by omega)⟩
    have h := of_decide_eq_true h
    obtain rfl := hu (by omega)
    refine w_own (ds := (us.take a ++ [z] ++ us.drop a).map .str) ((ev_opF (EvF.q (ev_opF (EvF.q (etake rfl rfl rfl)) (EvF.q (ev_lst (ec_cons (ev_var rfl) ec_nil))) (rf_addL ?_))) (EvF.q (edrop rfl rfl rfl)) (rf_addL ?_)).to (by rw [List.map_append, List.map_append]; rfl)) ?_
    · rw [List.length_map, List.length_take]; exact sz_le (by show _ + 1 ≤ _; omega)
    · rw [List.length_append, List.length_map, List.length_map, List.length_take, List.length_drop]; exact sz_le (by show _ + 1 + _ ≤ _; omega)
    · have mem : ∀ y ∈ us.take a ++ [z] ++ us.drop a, y ∈ us ∨ y = z := fun y hy => by
        rcases List.mem_append.mp hy with hy | hy
        · rcases List.mem_append.mp hy with hy | hy
          · exact .inl (List.mem_of_mem_take hy)
          · exact .inr (List.mem_singleton.mp hy)
        · exact .inl (List.mem_of_mem_drop hy)
      refine ⟨us.take a ++ [z] ++ us.drop a, rfl, ⟨?_, fun y hy => ?_, fun y hy => ?_, fun y hy => ?_⟩, fun z => by omega⟩
      · rw [List.length_append, List.length_append, List.length_take, List.length_drop]; show _ + 1 + _ ≤ _; omega
      · rcases mem y hy with hy | rfl
        · exact G.sp y hy
        · exact z1
      · rcases mem y hy with hy | rfl
        · exact G.sz y hy
        · exact z2
      · rcases mem y hy with hy | rfl
        · exact G.low y hy
        · exact z3
  rintro _ ⟨us, rfl, G, hu⟩
  apply w_mid (M 6)
  · show Wp K _ [.dat (.str (Txt.join spc ws)), y1, .own (us.map .str), .dat (.int (a : Int)), .dat (.str z), .dat (.int kk)] _
    refine w_if (b := decide (kk = 5)) (et_test (eq_op (ev_var rfl).q ev_cint.q rd_eqI')) (fun h => ?_) fun h => w_nxt ⟨us, rfl, G, fun z => hu (by omega)⟩
    have h := of_decide_eq_true h
    obtain rfl := hu (by omega)
    exact w_own (etake rfl rfl rfl) ⟨us.take a, rfl, G.sub (fun y hy => List.mem_of_mem_take hy) (by rw [List.length_take]; omega), fun z => by omega⟩
  rintro _ ⟨us, rfl, G, hu⟩
  show Wp K _ [.dat (.str (Txt.join spc ws)), y1, .own (us.map .str), .dat (.int (a : Int)), .dat (.str z), .dat (.int kk)] _
  refine w_seq (w_if (b := decide (kk = 6)) (et_test (eq_op (ev_var rfl).q ev_cint.q rd_eqI')) (fun h => ?_) fun h => w_nxt ?_)
  · refine w_ret (d := .str (Txt.join spc (ws ++ [mkS []]))) ((ev_op (ev_var (i := 0) rfl).q (ev_cM (l := [32]) rfl).q (rd_addS' ?_)).to ?_) fun G u hd => ⟨ws ++ [mkS []], ⟨by simp, by rw [List.length_append]; show _ + 1 ≤ _; omega, fun y hy => ?_, fun y hy => ?_, fun y hy => ?_⟩, hd⟩
    · show _ + 1 ≤ _; omega
    · refine congrArg PyData.str (TL.ext_tl ?_)
      rw [TL.tl_append]
      show _ = (Txt.join spc (ws ++ [mkS []])).cps.toList
      rw [join_app W.ne (by simp), join_one]; rfl
    · rcases List.mem_append.mp hy with hy | hy
      · exact W.sp y hy
      · rw [List.mem_singleton.mp hy]; decide
    · rcases List.mem_append.mp hy with hy | hy
      · exact W.sz y hy
      · rw [List.mem_singleton.mp hy]; decide
    · rcases List.mem_append.mp hy with hy | hy
      · exact W.low y hy
      · rw [List.mem_singleton.mp hy]; exact fun c hc => nomatch hc
  · refine w_ret (d := .str (Txt.join spc us)) (ev_m1 (ev_cM (l := [32]) rfl).q (ev_own rfl) (md_join ?_)) fun Gh u hd => fin us G Gh u hd
    have h1 := sum_le us G.sz
    have h2 : (mkS [32]).length = 1 := rfl
    have h3 := G.len
    rw [h2]
    omega
/-! ### reading in a try; the checks -/
def refD : D := .tuple [.str ("refused" : Str), .bool true]
noncomputable def readD (z : Str) : D := match readF z with
  | some s => encS s
  | none => refD
structure Kin23 (K : PySem.W.Frag) (BT GE : Addr) : Prop where
  ex : ExcC K BT
  bt : PySem.W.exmOne K (.ref BT) (.ref BT) = some true
  ge : PySem.W.kitOne K (.ref BT) (.ref GE) = some true
def proRd (K : PySem.W.Frag) : List Sl → Gn → Prop := fun as ψ => ∃ ws : List Str, as = [.dat (.str (Txt.join spc ws))] ∧ Wok ws 60 ∧ ψ = fun G v => Dp K G v (readD (Txt.join spc ws))
theorem wp_retS23 {B B0 H H0 : Hp} {σ : L2.St} {ρ : List Sl} {En : Ends} {ds : List D} {sp : Sp} {E : L2.St → XK} {ta : TA} (h : EvC K ta ρ ds) (rp : Rp K B B0 ρ σ H H0) (k : ∀ vs H1 H01, Wd H H0 H1 H01 → DpAll K H01 vs ds → sp vs H1 En.rt (E σ)) : tRet (tCallS sp E ta) En σ H := h B B0 σ H H0 rp _ k
theorem ok_law_read {f : Addr} {fd : FuncData} {k : Nat} {C_BadText C_GroundError : Addr} (F : Fun K "_law_read" "_law_read" s_law_read f fd) (m_isinstance : mg "isinstance" = none) (Y : Kin23 K C_BadText C_GroundError) (g_BadText : mg "BadText" = some (.ref C_BadText)) (g_GroundError : mg "GroundError" = some (.ref C_GroundError))
    (cread_sentence : CalX Pg w K mg base "read_sentence" ["text"] 2 (spX K (.ref C_BadText) pre_read res_read)) : FnOk Pg w K mg base CX0 (k + 3) f fd ["text"] (spG K (proRd K)) := by
  refine fn_okG F sc_law_read (fun as ψ ⟨_, e, _⟩ => by rw [e]; rfl) fun cdv A' outer s H E as ψ hr hp => ?_
  obtain ⟨ws, rfl, W, rfl⟩ := hp
  have hr : Room 2 (_) := hr.mono (by omega)
  refine ⟨_, (pss_one (ps_try_as (i := 1) (Wout := fun _ _ _ _ => False) rfl rfl sc_law_read.nd rfl rfl ⟨rfl, by decide, Or.inl g_BadText⟩ takes0 (fun W pn xe tk _ => (pss_one (ps_ret (pe_calX cread_sentence tk (hr.mono (by decide)) (pa_cons (pv 0) pa_nil))))) (fun a oe cls d pn hz hf => (pss_one (ps_ret (pe_tup (pa_cons pe_str (pa_cons (pe_callB (cr_isX (K := K) hz hf) (by rfl) m_isinstance (by decide +kernel) (pa_cons (pv 1) (pa_cons (pe_glob (v := .ref C_GroundError) (by rfl) g_GroundError rfl) pa_nil))) pa_nil)))))))), ?_⟩
  intro B B0 σ H H0 r En m
  refine wp_retS23 (ρ := [.dat (.str (Txt.join spc ws)), .no]) (ds := [.str (Txt.join spc ws)]) (ec_cons (ev_var rfl) ec_nil) r fun vs H1 H01 w1 k1 => ?_
  refine ⟨H01, _, w1.sub, w1.tb r.tab, k1, ⟨ws, rfl, W⟩, fun d e v H' H0' w2 kd => ?_, fun e H' H0' w2 => ⟨true, Y.bt, fun _ a na => ?_, fun z => nomatch z⟩⟩
  · have e : (readF (Txt.join spc ws)).map encS = some d := e
    refine m.rt d v H' H0' (fun G v h => ?_) ((r.wd.trans w1).trans w2) kd
    unfold readD
    cases q : readF (Txt.join spc ws) with
    | none => rw [q] at e; cases e
    | some s => rw [q] at e; cases e; exact h
  · have e : (readF (Txt.join spc ws)).map encS = none := e
    have hlen5 := r.len
    obtain ⟨s0, s1, rfl⟩ : ∃ a b, σ = [a, b] := by
      match σ, hlen5 with
      | [a, b], _ => exact ⟨a, b, rfl⟩
    refine ⟨_, rfl, .ref C_GroundError, C_BadText, true, rfl, rfl, Y.ex, rfl, .inl ⟨_, .own _, Y.ge⟩, ?_⟩
    refine ⟨sz_le (by simp), fun p np => ?_⟩
    have w12 := w1.trans w2
    refine m.rt refD _ _ (upd H0' p (.tup [.str ("refused" : Str), .bl true])) (fun G v h => ?_) ((r.wd.trans w12).trans (.clean w2.sub np)) (.tup (.of upd_same) (.cons (.str _) (.cons (.bl _) .nil)))
    unfold readD
    cases q : readF (Txt.join spc ws) with
    | none => exact h
    | some s => rw [q] at e; cases e
theorem ev_not23 {ρ : List Sl} {ta : TE} {b : Bool} (h : EvQ K ta ρ (.bool b)) : EvD K (tNotV ta) ρ (.bool (!b)) := fun B B0 σ H H0 r Q q => h B B0 σ H H0 r _ fun v H1 H01 w k => by
  rw [k.bl]
  exact ⟨b, rfl, q _ H1 H01 w (.bl _)⟩
def proLn (K : PySem.W.Frag) (d : Nat) : List Sl → Gn → Prop := fun as ψ => ∃ s : Se, as = [.dat (encS s)] ∧ wfS s = true ∧ dpS s < d ∧ ψ = fun G v => Dp K G v (.bool true)
theorem shp_word (s : Se) (n : Nat) : Shp n (.str (wordS s)) := by
  have h : ∀ c ∈ (wordS s).cps.toList, c < 128 := words_all (P := fun z => ∀ c ∈ z.cps.toList, c < 128) (by decide) s
  rw [← mkS_tl (wordS s)]
  exact shp_mkS fun c hc => by have := h c hc; omega
theorem et_neW {ρ : List Sl} {s : Se} {z : Str} (h : ρ[0]? = some (Sl.dat (encS s))) (hz : ∀ c ∈ z.cps.toList, c < 128) : EvT K (tTest (tOp (rNeD K) (tOp (rIx K) (tVar 0) (tC (.int 0))) (tC (.str z)))) ρ (!decide (wordS s = z)) :=
  et_test (eq_op (EvD.q (ev_head h)) ev_cstr.q (rd_neS' ((shp_word s 0).shaped (by omega)) (by rw [← mkS_tl z]; exact (shp_mkS (n := 0) fun c hc => by have := hz c hc; omega).shaped (by omega))))
theorem fm_none {α β : Type} : ∀ l : List α, (l.map fun _ => (none : Option β)).filterMap id = []
  | [] => rfl
  | _ :: l => fm_none l
/-- no part of a right sentence is not right -/
theorem ev_noBad {ρ : List Sl} {s : Se} {n : Str} {c : Str → List Sl → Prop} {d : Nat} (h : ρ[0]? = some (Sl.dat (encS s))) (hl : ρ.length = 2) (hw : wfS s = true) (hd : dpS s < d + 1) :
    EvD K (tOp (rEqD K) (tLc (iSeq K (tVar 0)) (gName 1) (tAnd (tTru K (tCB (rIsi K) (tCons (tVar 1) (tCons (tC (.ty "tuple")) tNil)))) (tNot (tTru K (tCall (spG K (proLn K d)) [] E0 (tCons (tVar 1) tNil))))) (tVar 1) [1]) (tLst tNil)) ρ (.bool true) := by
  have hkl := kS_len s
  refine ev_op (EvF.q (EvF.to (ef_lcO (is := [1]) (os := (kS s).map fun _ => none) (ei_tup ((ev_var h).to (encS_kS s))) (fun i hi => hi) (by rw [List.length_map, List.length_map]) (fun i e o he ho => ?_) (by rw [List.length_map]; exact small1000 (by omega))) (fm_none _))) (EvF.q (ev_lst ec_nil)) (rd_eqSame (n := 1) (shp_list (by simp)) (by omega))
  obtain ⟨a, ha, rfl⟩ := map_get he
  rw [List.getElem?_map, ha] at ho
  cases ho
  have hm := List.mem_of_getElem? ha
  refine ⟨_, bd_name, ?_, fun e z => nomatch z⟩
  have h1 : ((wipeS ρ [1]).set 1 (Sl.dat (encK a)))[1]? = some (Sl.dat (encK a)) := by
    rw [List.getElem?_set_self]
    show 1 < (ρ.set 1 .no).length
    rw [List.length_set]; omega
  refine EvT.to (et_and (et_truB (ev_isi (ev_var h1).q (kitK_tup a)).q) fun hq => et_not (b := true) ?_) ?_
  · cases a with
    | s g =>
      have hi := dp_sub (kS_sub hm)
      exact et_truB (EvD.q (EvG.toD (ev_callG (eg_d (ev_var h1) eg_nil) ⟨g, rfl, kS_wf hw _ hm, by omega, rfl⟩) fun _ _ z => z))
    | w z => cases hq
    | p i => cases hq
  · rw [show (!true) = false from rfl, Bool.and_false]; rfl
theorem okd_law_is_names {f : Addr} {fd : FuncData} (F : Fun K "_law_is_names" "_law_is_names" s_law_is_names f fd) (m_isinstance : mg "isinstance" = none) (m_tuple : mg "tuple" = none) (m_str : mg "str" = none) (m_len : mg "len" = none)
    (hm : mg "_law_is_names" = some (.ref f)) (hk : PySem.W.keepIn K (.ref f) = true) (hb : Binds K fd ["sentence"] []) : ∀ d k, FnOk Pg w K mg base CX0 (k + d + 2) f fd ["sentence"] (spG K (proLn K d)) := by
  intro d
  induction d with
  | zero =>
    intro k
    refine fn_okG F sc_law_is_names (fun as ψ ⟨_, e, _⟩ => by rw [e]; rfl) fun cdv A' outer sh H E as ψ hr hp => ?_
    obtain ⟨_, _, _, z, _⟩ := hp
    exact absurd z (Nat.not_lt_zero _)
  | succ d ih =>
    intro k
    have c_law_is_names : Cal Pg w K mg base "_law_is_names" ["sentence"] (0 + d + 2) (spG K (proLn K d)) := ⟨f, fd, ih 0, hm, hk, hb⟩
    refine fn_okG F sc_law_is_names (fun as ψ ⟨_, e, _⟩ => by rw [e]; rfl) fun cdv A' outer sh H E as ψ hr hp => ?_
    obtain ⟨s, rfl, hw, hd, rfl⟩ := hp
    have hrec : Room (0 + d + 2) (_) := hr.mono (by omega)
    refine ⟨_, (pss_cons (ps_if (pw_and (pt_cmpR (EK.ne (K := K) hr.units) (pe_ix (EK.ix (K := K)) (pv 0) pe_int (fun _ _ => rfl)) pe_str (nomark _)) (pw_and (pt_cmpR (EK.ne (K := K) hr.units) (pe_ix (EK.ix (K := K)) (pv 0) pe_int (fun _ _ => rfl)) pe_str (nomark _)) (pw_and1 (pt_cmpR (EK.ne (K := K) hr.units) (pe_ix (EK.ix (K := K)) (pv 0) pe_int (fun _ _ => rfl)) pe_str (nomark _))))).pt
      (pss_one (ps_for PassesOwn.never (by rfl) (EK.seq (K := K) (pe_slice (EK.sl (K := K)) (pv 0) (po_some pe_int) po_none)) (pg_name (i := 1) sc_law_is_names.nd rfl (by first | exact Or.inl rfl | exact Or.inr rfl))
      (pss_one (ps_if (pw_and (EK.tru (K := K) (pe_callB (EK.isi (K := K)) (by rfl) m_isinstance (by decide +kernel) (pa_cons (pv 1) (pa_cons (pe_bltn (v := .ty "str") (by rfl) m_str (by decide +kernel) rfl) pa_nil)))) (pw_and1 (pw_or (pt_cmpR (EK.ne (K := K) hr.units) (pe_callB (EK.len (K := K)) (by rfl) m_len (by decide +kernel) (pa_cons (pv 1) pa_nil)) pe_int (nomark _)) (pw_or1 (pt_not (pt_chain op_leS op_leS pe_str (pv 1) pe_str)))).pt)).pt
      (pss_one (ps_ret pe_bl))
      pss_nil))))
      pss_nil)
      (pss_one (ps_ret (pe_cmpR (EK.eq (K := K) hr.units) (pe_lc (own := [("part", 1)]) (g := gName 1) (by rfl) sc_law_is_names.nd (EK.seq (K := K) (pv 0)) (blkOk_by (own := [("part", 1)]) (N := ["sentence", "part"]) (sc := defScope s_law_is_names) (by decide +kernel)) (fun _ _ _ _ _ => (pg_name (i := 1) sc_law_is_names.nd rfl (by first | exact Or.inl rfl | exact Or.inr rfl))) (fun _ _ _ _ _ => pts_one (pw_and (EK.tru (K := K) (pe_callB (EK.isi (K := K)) (by rfl) m_isinstance (by decide +kernel) (pa_cons (pv 1) (pa_cons (pe_bltn (v := .ty "tuple") (by rfl) m_tuple (by decide +kernel) rfl) pa_nil)))) (pw_and1 (pt_not (EK.tru (K := K) (pe_cal c_law_is_names hrec (pa_cons (pv 1) pa_nil)))))).pt) (fun _ _ _ _ _ => (pv 1))) (pe_lst pa_nil) (nomark _))))), ?_⟩
    show Wp K _ [.dat (encS s), .no] _
    apply w_mid (fun ρ => ∃ x1, ρ = [.dat (encS s), x1])
    · refine w_if (et_and (et_neW (z := "not") rfl (by decide)) fun _ => et_and (et_neW (z := "and") rfl (by decide)) fun _ => et_neW (z := "or") rfl (by decide)) (fun _ => ?_) fun _ => w_nxt ⟨_, rfl⟩
      refine w_for (is := [1]) (ei_tup (ds := (items s).map encI) ((es_T (ds := .str (wordS s) :: (items s).map encI) (EvD.q ((ev_var (i := 0) rfl).to (encS_items s))) (eo_some ev_cint.q) eo_none).to (congrArg PyData.tuple (cut_tail _ _)))) (fun i ρ => ∃ x1, ρ = [.dat (encS s), x1]) ⟨_, rfl⟩ ?_ (fun ρ1 h => h)
      rintro i e ρ1 he ⟨x1, rfl⟩
      obtain ⟨a, ha, rfl⟩ := map_get he
      have hwa : wfI a = true := by rw [wfS_items, List.all_eq_true] at hw; exact hw a (List.mem_of_getElem? ha)
      refine ⟨_, bd_name, ?_⟩
      show Wp K _ [.dat (encS s), .dat (encI a)] _
      by_cases hs : kd a = 115
      · obtain ⟨g, rfl⟩ := kd_s hs
        refine w_if (b := false && false) (et_and (et_truB (ev_isi (ev_var rfl).q (by rw [show encI (.s g) = encS g from rfl, encS_items]; show kitB "tuple" "str" = some false; decide +kernel)).q) fun z => nomatch z) (fun z => nomatch z) fun _ => w_nxt ⟨_, rfl⟩
      · refine w_if (b := decide (kd a = 110) && false) (et_and (et_truB (ev_isi (ev_var rfl).q (kit_str hs)).q) fun hq => ?_) (fun z => by rw [Bool.and_false] at z; cases z) fun _ => w_nxt ⟨_, rfl⟩
        obtain ⟨c, rfl⟩ := kd_n (of_decide_eq_true hq)
        obtain ⟨c1, c2⟩ := (okN_iff c).mp hwa
        refine (et_or (a := !decide ((1 : Int) = 1)) (et_test (eq_op (ev_cb (ea_cons (ev_var rfl).q ea_nil) (cd_lenS (K := K) (z := mkS [c]) (sz_le (show 1 ≤ 1000 by omega)))).q ev_cint.q rd_neI')) fun _ => et_not (b := !decide ([c] < [97]) && !decide ([122] < [c])) (et_test (EvD.q (ev_chain (ev_cM (l := [97]) rfl).q (ev_var rfl).q rd_leS (fun _ => (ev_cM (l := [122]) rfl).q) fun _ => rd_leS)))).to ?_
        rw [lt_single, lt_single, decide_eq_false (show ¬ c < 97 by omega), decide_eq_false (show ¬ 122 < c by omega)]
        rfl
    rintro _ ⟨x1, rfl⟩
    exact w_ret (ev_noBad (n := "") (c := fun _ _ => True) rfl rfl hw hd) fun _ _ z => z
def proLnM (K : PySem.W.Frag) : List Sl → Gn → Prop := proLn K 58
theorem ok_law_is_names {f : Addr} {fd : FuncData} (F : Fun K "_law_is_names" "_law_is_names" s_law_is_names f fd) (m_isinstance : mg "isinstance" = none) (m_tuple : mg "tuple" = none) (m_str : mg "str" = none) (m_len : mg "len" = none)
    (hm : mg "_law_is_names" = some (.ref f)) (hk : PySem.W.keepIn K (.ref f) = true) (hb : Binds K fd ["sentence"] []) : FnOk Pg w K mg base CX0 60 f fd ["sentence"] (spG K (proLnM K)) := okd_law_is_names F m_isinstance m_tuple m_str m_len hm hk hb 58 0
theorem okd_law_is_places {f : Addr} {fd : FuncData} (F : Fun K "_law_is_places" "_law_is_places" s_law_is_places f fd) (m_isinstance : mg "isinstance" = none) (m_tuple : mg "tuple" = none) (m_int : mg "int" = none) (m_bool : mg "bool" = none)
    (hm : mg "_law_is_places" = some (.ref f)) (hk : PySem.W.keepIn K (.ref f) = true) (hb : Binds K fd ["sentence"] []) : ∀ d k, FnOk Pg w K mg base CX0 (k + d + 2) f fd ["sentence"] (spG K (proLn K d)) := by
  intro d
  induction d with
  | zero =>
    intro k
    refine fn_okG F sc_law_is_places (fun as ψ ⟨_, e, _⟩ => by rw [e]; rfl) fun cdv A' outer sh H E as ψ hr hp => ?_
    obtain ⟨_, _, _, z, _⟩ := hp
    exact absurd z (Nat.not_lt_zero _)
  | succ d ih =>
    intro k
    have c_law_is_places : Cal Pg w K mg base "_law_is_places" ["sentence"] (0 + d + 2) (spG K (proLn K d)) := ⟨f, fd, ih 0, hm, hk, hb⟩
    refine fn_okG F sc_law_is_places (fun as ψ ⟨_, e, _⟩ => by rw [e]; rfl) fun cdv A' outer sh H E as ψ hr hp => ?_
    obtain ⟨s, rfl, hw, hd, rfl⟩ := hp
    have hrec : Room (0 + d + 2) (_) := hr.mono (by omega)
    refine ⟨_, (pss_cons (ps_if (pt_cmpR (EK.eq (K := K) hr.units) (pe_ix (EK.ix (K := K)) (pv 0) pe_int (fun _ _ => rfl)) pe_str (nomark _))
      (pss_one (ps_ret (pe_and (pe_callB (EK.isi (K := K)) (by rfl) m_isinstance (by decide +kernel) (pa_cons (pe_ix (EK.ix (K := K)) (pv 0) pe_int (fun _ _ => rfl)) (pa_cons (pe_bltn (v := .ty "int") (by rfl) m_int (by decide +kernel) rfl) pa_nil))) (pe_and (pe_not (pe_callB (EK.isi (K := K)) (by rfl) m_isinstance (by decide +kernel) (pa_cons (pe_ix (EK.ix (K := K)) (pv 0) pe_int (fun _ _ => rfl)) (pa_cons (pe_bltn (v := .ty "bool") (by rfl) m_bool (by decide +kernel) rfl) pa_nil)))) (pe_one (pe_chain (EK.le (K := K) hr.units0) (EK.le (K := K) hr.units0) pe_int (pe_ix (EK.ix (K := K)) (pv 0) pe_int (fun _ _ => rfl)) pe_int))))))
      pss_nil)
      (pss_cons (ps_for PassesOwn.never (by rfl) (EK.seq (K := K) (pv 0)) (pg_name (i := 1) sc_law_is_places.nd rfl (by first | exact Or.inl rfl | exact Or.inr rfl))
      (pss_one (ps_if (pw_and (EK.tru (K := K) (pe_callB (EK.isi (K := K)) (by rfl) m_isinstance (by decide +kernel) (pa_cons (pv 1) (pa_cons (pe_bltn (v := .ty "tuple") (by rfl) m_tuple (by decide +kernel) rfl) pa_nil)))) (pw_and1 (pt_not (EK.tru (K := K) (pe_cal c_law_is_places hrec (pa_cons (pv 1) pa_nil)))))).pt
      (pss_one (ps_ret pe_bl))
      pss_nil)))
      (pss_one (ps_ret pe_bl)))), ?_⟩
    show Wp K _ [.dat (encS s), .no] _
    refine w_seq (w_if (b := decide (wordS s = wAt)) (et_test (eq_op (EvD.q (ev_head rfl)) ev_cstr.q (rd_eqS' ((shp_word s 0).shaped (by omega)) ((shp_mkS (n := 0) (l := [97, 116]) (by decide)).shaped (by omega))))) (fun h => ?_) fun _ => w_nxt ?_)
    · have h := of_decide_eq_true h
      obtain ⟨p, x, rfl⟩ : ∃ p x, s = .at_ p x := by
        cases s with
        | at_ p x => exact ⟨p, x, rfl⟩
        | two b x y => exact absurd h (by show wTwo b ≠ wAt; cases b <;> decide)
        | one b x => exact absurd h (by show wOne b ≠ wAt; cases b <;> decide)
        | neg f => exact absurd h (by show wNot ≠ wAt; decide)
        | bin b f g => exact absurd h (by show wBin b ≠ wAt; cases b <;> decide)
        | qu b x f => exact absurd h (by show wQu b ≠ wAt; cases b <;> decide)
      have hp : p ≤ 2 := of_decide_eq_true (Bool.and_eq_true _ _ ▸ hw).1
      have e1 : EvD K (tOp (rIx K) (tVar 0) (tC (.int 1))) [.dat (encS (.at_ p x)), .no] (.int (p : Int)) := ev_op (ev_var rfl).q ev_cint.q (rd_ixT (show atI [PyData.str wAt, .int (p : Int), nm x] ((1 : Nat) : Int) = _ from atI_nat rfl))
      refine w_ret (ev_andV (ev_isi e1.q (by show kitB "int" "int" = some true; decide +kernel)).q fun _ => ev_andV (EvD.q (ev_not23 (EvD.q (ev_isi e1.q (by show kitB "int" "bool" = some false; decide +kernel))))) fun _ => ev_chain ev_cint.q e1.q rd_le (fun _ => ev_cint.q) fun _ => rd_le) fun G v z => ?_
      have : (true && (!false && (decide ((0 : Int) ≤ (p : Int)) && decide ((p : Int) ≤ 2)))) = true := by
        rw [decide_eq_true (show (0 : Int) ≤ (p : Int) by omega), decide_eq_true (show (p : Int) ≤ 2 by omega)]; rfl
      rwa [this] at z
    apply w_mid (fun ρ => ∃ x1, ρ = [.dat (encS s), x1])
    · refine w_for (is := [1]) (ei_tup ((ev_var (i := 0) rfl).to (encS_kS s))) (fun i ρ => ∃ x1, ρ = [.dat (encS s), x1]) ⟨_, rfl⟩ ?_ (fun ρ1 h => h)
      rintro i e ρ1 he ⟨x1, rfl⟩
      obtain ⟨a, ha, rfl⟩ := map_get he
      have hm := List.mem_of_getElem? ha
      refine ⟨_, bd_name, ?_⟩
      show Wp K _ [.dat (encS s), .dat (encK a)] _
      refine w_if (et_and (b := !true) (et_truB (ev_isi (ev_var rfl).q (kitK_tup a)).q) fun hq => et_not ?_) (fun z => by rw [show (!true) = false from rfl, Bool.and_false] at z; cases z) fun _ => w_nxt ⟨_, rfl⟩
      cases a with
      | s g =>
        have hi := dp_sub (kS_sub hm)
        exact et_truB (EvD.q (EvG.toD (ev_callG (eg_d (ev_var rfl) eg_nil) ⟨g, rfl, kS_wf hw _ hm, by omega, rfl⟩) fun _ _ z => z))
      | w z => cases hq
      | p i => cases hq
    rintro _ ⟨x1, rfl⟩
    exact w_ret ev_cbl fun _ _ z => z
theorem ok_law_is_places {f : Addr} {fd : FuncData} (F : Fun K "_law_is_places" "_law_is_places" s_law_is_places f fd) (m_isinstance : mg "isinstance" = none) (m_tuple : mg "tuple" = none) (m_int : mg "int" = none) (m_bool : mg "bool" = none)
    (hm : mg "_law_is_places" = some (.ref f)) (hk : PySem.W.keepIn K (.ref f) = true) (hb : Binds K fd ["sentence"] []) : FnOk Pg w K mg base CX0 60 f fd ["sentence"] (spG K (proLnM K)) := okd_law_is_places F m_isinstance m_tuple m_int m_bool hm hk hb 58 0
def pre_law (ds : List D) : Prop := ∃ ns : List Int, ds = [.list (ns.map .int)] ∧ ns.length ≤ 63
def res_law : List D → D := fun _ => .bool true
/-! ### the written dict -/
def rowB (e : DictEntry) : Option (Str × Str) := match e.key, e.val with
  | .str k _, .str v _ => some (k, v)
  | _, _ => none
def tab_BEHIND : List (Str × Str) := behTab
theorem rowB_some {e : DictEntry} {k v : Str} (h : rowB e = some (k, v)) : (∃ t, e.key = .str k t) ∧ ∃ t, e.val = .str v t := by
  unfold rowB at h
  split at h
  · rename_i k' t v' t' e1 e2
    cases h
    exact ⟨⟨t, e1⟩, ⟨t', e2⟩⟩
  · cases h
theorem beh_find (z : Str) : ∀ {l : List DictEntry} {tab : List (Str × Str)}, l.map rowB = tab.map some →
    ((∃ y t e, l.find? (fun e => e.key.isStr z) = some e ∧ e.val = .str y t ∧ (tab.find? fun p => decide (p.1 = z)).map (·.2) = some y) ∨ (l.find? (fun e => e.key.isStr z) = none ∧ (tab.find? fun p => decide (p.1 = z)).map (·.2) = none)) ∧ l.any (·.refKey) = false
  | [], [], _ => ⟨.inr ⟨rfl, rfl⟩, rfl⟩
  | [], _ :: _, h => by cases h
  | _ :: _, [], h => by cases h
  | e :: l, (k, v) :: tab, h => by
    rw [List.map_cons, List.map_cons] at h
    injection h with h1 h2
    obtain ⟨⟨t1, e1⟩, ⟨t2, e2⟩⟩ := rowB_some h1
    obtain ⟨g1, g2⟩ := beh_find z h2
    have hs : e.key.isStr z = decide (k = z) := by
      rw [e1]
      show (k == z) = _
      exact Bool.beq_eq_decide_eq k z
    refine ⟨?_, ?_⟩
    · rw [List.find?_cons, List.find?_cons, hs]
      by_cases c : k = z
      · rw [decide_eq_true c]
        exact .inl ⟨v, t2, e, rfl, e2, rfl⟩
      · rw [decide_eq_false c]
        exact g1
    · rw [List.any_cons, g2, Bool.or_false]
      unfold DictEntry.refKey
      rw [e1]
theorem beh_of {w : World} {p : Addr} {es : Array DictEntry} {n : Nat} (lk : K.lookup p = some ⟨.type "dict", none, .dict es n, #[]⟩) (sm : (p == sysModules) = false) (kl : PySem.W.KeysLit w.params es.toList) (rw_ : es.toList.map rowB = tab_BEHIND.map some) : BehK K w p behF := by
  refine ⟨sm, es, n, lk, kl, fun z => ?_⟩
  obtain ⟨g1, g2⟩ := beh_find z rw_
  unfold PySem.W.nsIn
  rw [lk]
  dsimp only
  rcases g1 with ⟨y, t, e, h1, h2, h3⟩ | ⟨h1, h2⟩
  · rw [h1]
    exact .inl ⟨y, t, h3, by dsimp only; rw [h2]⟩
  · rw [h1, g2]
    exact .inr ⟨h2, rfl⟩
/-! ### the law's sentences are right -/
theorem atomF_wf {ns : List Nat} (h : ns ≠ []) (hl : ∀ c ∈ ns, okN c = true) (v : Int) : wfS (atomF v ns) = true ∧ (tokS (atomF v ns)).length ≤ 3 := by
  have a := hl _ (nmAt_mem h (v / 4)).1
  have b := hl _ (nmAt_mem h (v / 16)).1
  unfold atomF
  split
  · exact ⟨by show (okN _ && okN _) = true; rw [a, b]; rfl, Nat.le_refl _⟩
  · split
    · exact ⟨by show (okN _ && okN _) = true; rw [a, b]; rfl, Nat.le_refl _⟩
    · exact ⟨a, (show 2 ≤ 3 by omega)⟩
theorem matF_wf {ns : List Nat} (h : ns ≠ []) (hl : ∀ c ∈ ns, okN c = true) : ∀ (k : Nat) (v : Int), wfS (matF k v ns) = true ∧ (tokS (matF k v ns)).length + 1 ≤ 2 ^ (k + 2)
  | 0, v => by
    obtain ⟨h1, h2⟩ := atomF_wf h hl (v / 5)
    exact ⟨h1, by show (tokS (atomF _ _)).length + 1 ≤ 4; omega⟩
  | k + 1, v => by
    obtain ⟨h1, h2⟩ := atomF_wf h hl (v / 5)
    obtain ⟨a1, a2⟩ := matF_wf h hl k (v / 5)
    obtain ⟨b1, b2⟩ := matF_wf h hl k (v / 625)
    have p1 : 2 ^ (k + 1 + 2) = 2 * 2 ^ (k + 2) := by rw [show k + 1 + 2 = (k + 2) + 1 by omega, Nat.pow_succ, Nat.mul_comm]
    have p2 : 4 ≤ 2 ^ (k + 2) := by have := Nat.pow_le_pow_right (show 0 < 2 by decide) (show 2 ≤ k + 2 by omega); omega
    unfold matF
    split
    · exact ⟨h1, by omega⟩
    · split
      · exact ⟨a1, by show (tokS _).length + 1 + 1 ≤ _; omega⟩
      · refine ⟨by show (_ && _) = true; rw [a1, b1]; rfl, ?_⟩
        show (tokS _ ++ tokS _).length + 1 + 1 ≤ _
        rw [List.length_append]; omega
theorem xyzw_ok (v : Int) : okN (xyzw v) = true := by
  have := (nmAt_mem (ns := [120, 121, 122, 119]) (by decide) v).1
  unfold xyzw
  have key : ∀ c ∈ [120, 121, 122, 119], okN c = true := by decide
  exact key _ this
theorem othF_wf {ns : List Nat} (h : ∀ c ∈ ns, okN c = true) (v : Int) : othF v ns ≠ [] ∧ ∀ c ∈ othF v ns, okN c = true := by
  refine ⟨by unfold othF; simp, fun c hc => ?_⟩
  rcases List.mem_append.mp hc with hc | hc
  · exact h c (List.mem_filter.mp hc).1
  · rw [List.mem_singleton.mp hc]; exact xyzw_ok v
theorem senF_wf : ∀ (k : Nat) (v : Int) (ns : List Nat), ns ≠ [] → (∀ c ∈ ns, okN c = true) → wfS (senF k v ns) = true ∧ (tokS (senF k v ns)).length ≤ 15 + 10 * k
  | 0, v, ns, h, hl => by
    obtain ⟨a1, a2⟩ := matF_wf h hl 2 (v / 8)
    have a2 : (tokS (matF 2 (v / 8) ns)).length + 1 ≤ 16 := a2
    exact ⟨a1, by show (tokS (matF _ _ _)).length ≤ 15; omega⟩
  | k + 1, v, ns, h, hl => by
    obtain ⟨o1, o3⟩ := othF_wf hl v
    obtain ⟨a1, a2⟩ := senF_wf k (v / 8) (othF v ns) o1 o3
    obtain ⟨b1, b2⟩ := matF_wf o1 o3 1 (v / 112)
    have x := xyzw_ok v
    have b2 : (tokS (matF 1 (v / 112) (othF v ns))).length + 1 ≤ 8 := b2
    show (okN (xyzw v) && wfS _) = true ∧ (tokS _).length + 1 + 1 ≤ _
    rw [x, Bool.true_and]
    generalize senF k (v / 8) (othF v ns) = f at a1 a2 ⊢
    generalize matF 1 (v / 112) (othF v ns) = m at b1 b2 ⊢
    have three : ∀ g : Se, (wfS g = true ∧ (tokS g).length ≤ 23 + 10 * k) → wfS g = true ∧ (tokS g).length + 1 + 1 ≤ 15 + 10 * (k + 1) := fun g ⟨q1, q2⟩ => ⟨q1, by omega⟩
    refine three _ ?_
    by_cases c1 : v / 8 % 7 = 0
    · rw [if_pos c1, if_neg (by omega)]
      refine ⟨by show (_ && _) = true; rw [a1, b1]; rfl, ?_⟩
      show (tokS _ ++ tokS _).length + 1 ≤ _
      rw [List.length_append]; omega
    · rw [if_neg c1]
      by_cases c2 : v / 8 % 7 = 1
      · rw [if_pos c2]
        exact ⟨a1, by show (tokS f).length + 1 ≤ _; omega⟩
      · rw [if_neg c2]
        exact ⟨a1, by omega⟩
/-! a sentence as data that may be compared -/
theorem shp_encS : ∀ (s : Se), wfS s = true → Shp (dpS s + 1) (encS s) := fun s => by
  have nm1 : ∀ {n c : Nat}, okN c = true → Shp n (nm c) := fun {n c} h => shp_mkS fun x hx => by
    have := (okN_iff c).mp h
    cases List.mem_singleton.mp hx; omega
  have up : ∀ {n m : Nat} {d : D}, Shp n d → n ≤ m → Shp m d := fun h hm => ⟨h.1, Nat.le_trans h.2 hm⟩
  induction s with
  | two b x y =>
    intro w
    obtain ⟨w1, w2⟩ := Bool.and_eq_true _ _ ▸ w
    refine shp_tup fun d hd => ?_
    simp only [List.mem_cons, List.not_mem_nil, or_false] at hd
    rcases hd with rfl | rfl | rfl
    · exact shp_word (.two b x y) _
    · exact nm1 w1
    · exact nm1 w2
  | one b x =>
    intro w
    refine shp_tup fun d hd => ?_
    simp only [List.mem_cons, List.not_mem_nil, or_false] at hd
    rcases hd with rfl | rfl
    · exact shp_word (.one b x) _
    · exact nm1 w
  | at_ p x =>
    intro w
    obtain ⟨w1, w2⟩ := Bool.and_eq_true _ _ ▸ w
    refine shp_tup fun d hd => ?_
    simp only [List.mem_cons, List.not_mem_nil, or_false] at hd
    rcases hd with rfl | rfl | rfl
    · exact shp_word (.at_ p x) _
    · exact shp_int _
    · exact nm1 w2
  | neg f ih =>
    intro w
    refine shp_tup fun d hd => ?_
    simp only [List.mem_cons, List.not_mem_nil, or_false] at hd
    rcases hd with rfl | rfl
    · exact shp_word (.neg f) _
    · exact ih w
  | bin b f g h1 h2 =>
    intro w
    obtain ⟨w1, w2⟩ := Bool.and_eq_true _ _ ▸ w
    refine shp_tup fun d hd => ?_
    simp only [List.mem_cons, List.not_mem_nil, or_false] at hd
    rcases hd with rfl | rfl | rfl
    · exact shp_word (.bin b f g) _
    · exact up (h1 w1) (by show _ ≤ max (dpS f) (dpS g) + 1; omega)
    · exact up (h2 w2) (by show _ ≤ max (dpS f) (dpS g) + 1; omega)
  | qu b x f ih =>
    intro w
    obtain ⟨w1, w2⟩ := Bool.and_eq_true _ _ ▸ w
    refine shp_tup fun d hd => ?_
    simp only [List.mem_cons, List.not_mem_nil, or_false] at hd
    rcases hd with rfl | rfl | rfl
    · exact shp_word (.qu b x f) _
    · exact nm1 w1
    · exact ih w2
theorem shp_txt {ws : List Str} {n : Nat} (W : Wok ws n) : Shp 0 (.str (Txt.join spc ws)) := by
  have key : ∀ l : List (List Nat), (∀ p ∈ l, ∀ c ∈ p, c < 128) → ∀ c ∈ TL.joinL [32] l, c < 128 := fun l => by
    induction l with
    | nil => intro _ c hc; cases hc
    | cons p l ih =>
      intro h c hc
      cases l with
      | nil => exact h p List.mem_cons_self c hc
      | cons q r =>
        have hc : c ∈ p ++ ([32] ++ TL.joinL [32] (q :: r)) := hc
        rcases List.mem_append.mp hc with hc | hc
        · exact h p List.mem_cons_self c hc
        · rcases List.mem_append.mp hc with hc | hc
          · cases List.mem_singleton.mp hc; decide
          · exact ih (fun x hx => h x (List.mem_cons_of_mem _ hx)) c hc
  have hl : ∀ c ∈ (Txt.join spc ws).cps.toList, c < 128 := by
    rw [tl_txt]
    refine key _ fun p hp => ?_
    obtain ⟨z, hz, rfl⟩ := List.mem_map.mp hp
    exact W.low z hz
  rw [← mkS_tl (Txt.join spc ws)]
  exact shp_mkS fun c hc => by have := hl c hc; omega
theorem zip_at23 {l : List Int} {i : Nat} {d : D} (h : ((l.map PyData.int).zipIdx.map fun p => PyData.tuple [.int (p.2 : Nat), p.1])[i]? = some d) : ∃ n, d = .tuple [.int (i : Nat), .int n] := by
  rw [List.getElem?_map, List.getElem?_zipIdx, List.getElem?_map] at h
  cases e : l[i]? with
  | none => rw [e] at h; cases h
  | some n => rw [e] at h; cases h; exact ⟨n, by simp⟩
theorem cut_hd23 (l : List Int) (n : Nat) : EL.cutD (l.map PyData.int) none (some (n : Int)) = (l.take n).map .int := by
  unfold EL.cutD
  rw [HT.sIx_none, HT.sIx_nat, List.drop_zero, List.length_map, Nat.sub_zero, ← List.map_take]
  congr 1
  rw [List.take_eq_take_iff]
  omega
theorem readD_ref {ρ : List Sl} {t : TE} (hi : EvD K t ρ refD) : EvD K (tOp (rEqD K) t (tTup (tCons (tC (.str ("refused" : Str))) (tCons (tC (.bl true)) tNil)))) ρ (.bool true) :=
  ev_op hi.q (EvD.q (ev_tup (ec_cons ev_cstr (ec_cons ev_cbl ec_nil)))) (rd_eqSame (d := refD) (n := 1) (shp_tup fun d hd => by
    simp only [List.mem_cons, List.not_mem_nil, or_false] at hd
    rcases hd with rfl | rfl
    · exact (shp_mkS (n := 0) (l := [114, 101, 102, 117, 115, 101, 100]) (by decide))
    · exact shp_bool _) (by omega))
theorem read_none1 {z : Str} (h : (Txt.split z spc).reverse.foldlM stepR [] = none) : readD z = refD := by
  unfold readD readF
  rw [show mkS [32] = spc from rfl, h]
theorem fold_empty : ([mkS []] : List Str).foldlM stepR [] = none := by decide +kernel
theorem fold_some : ([("some" : Str)] : List Str).foldlM stepR [] = none := by decide +kernel
theorem ok_law {f : Addr} {fd : FuncData} (F : Fun K "law" "law" slaw f fd) (m_enumerate : mg "enumerate" = none) (m_isinstance : mg "isinstance" = none) (m_tuple : mg "tuple" = none) (m_str : mg "str" = none)
    (c_law_mixed : Cal Pg w K mg base "_law_mixed" ["cell", "turn"] 1 (spD K pre_mixed res_mixed)) (c_law_sentence : Cal Pg w K mg base "_law_sentence" ["value", "names", "rank"] 20 (spD K pre_senM res_sen)) (c_law_turned : Cal Pg w K mg base "_law_turned" ["sentence", "shift"] 30 (spG K (proLuM K)))
    (c_law_text : Cal Pg w K mg base "_law_text" ["sentence"] 60 (spG K (proLtM K))) (cwrite_sentence : Cal Pg w K mg base "write_sentence" ["sentence"] 1 (spG K (proWs K))) (c_law_read : Cal Pg w K mg base "_law_read" ["text"] 3 (spG K (proRd K)))
    (c_law_spoilt : Cal Pg w K mg base "_law_spoilt" ["text", "value"] 1 (spG K (proSpo K))) (c_law_is_names : Cal Pg w K mg base "_law_is_names" ["sentence"] 60 (spG K (proLnM K))) (c_law_is_places : Cal Pg w K mg base "_law_is_places" ["sentence"] 60 (spG K (proLnM K))) :
    FnOk Pg w K mg base CX0 61 f fd ["script"] (spD K pre_law res_law) := by
  refine fn_okD F sclaw (fun ds ⟨a, e, _⟩ => by rw [e]; rfl) fun cdv A outer s H E ds hr hp => ?_
  obtain ⟨ns, rfl, hn⟩ := hp
  refine ⟨_, (pss_cons (ps_for PassesOwn.never (by rfl) (EK.enum (K := K) (by rfl) m_enumerate (pa_cons (pe_slice (EK.sl (K := K)) (pv 0) po_none (po_some pe_int)) pa_nil)) (EK.tup (K := K) (by rfl) (pgs_cons (pg_name (i := 1) sclaw.nd rfl (by first | exact Or.inl rfl | exact Or.inr rfl)) (pgs_cons (pg_name (i := 2) sclaw.nd rfl (by first | exact Or.inl rfl | exact Or.inr rfl)) pgs_nil)))
      (pss_cons (ps_set (i := 3) sclaw.nd rfl (by first | exact Or.inl rfl | exact Or.inr rfl) (pe_cal c_law_mixed (hr.mono (by decide)) (pa_cons (pv 2) (pa_cons (pv 1) pa_nil))))
      (pss_cons (ps_set (i := 4) sclaw.nd rfl (by first | exact Or.inl rfl | exact Or.inr rfl) (pe_cal c_law_sentence (hr.mono (by decide)) (pa_cons (pe_op op_fdiv (pv 3) pe_int) (pa_cons (pe_tup (pa_cons pe_str (pa_cons pe_str pa_nil))) (pa_cons (pe_op op_mod (pv 3) pe_int) pa_nil)))))
      (pss_cons (ps_if (pt_cmpR (EK.eq (K := K) hr.units) (pe_op op_mod (pe_op op_fdiv (pv 3) pe_int) pe_int) pe_int (nomark _))
      (pss_one (ps_set (i := 4) sclaw.nd rfl (by first | exact Or.inl rfl | exact Or.inr rfl) (pe_tup (pa_cons pe_str (pa_cons (pe_tup (pa_cons pe_str (pa_cons (pe_op op_mod (pe_op op_fdiv (pv 3) pe_int) pe_int) (pa_cons pe_str pa_nil)))) (pa_cons (pv 4) pa_nil))))))
      pss_nil)
      (pss_cons (ps_set (i := 4) sclaw.nd rfl (by first | exact Or.inl rfl | exact Or.inr rfl) (pe_cal c_law_turned (hr.mono (by decide)) (pa_cons (pv 4) (pa_cons (pe_op op_mod (pe_op op_fdiv (pv 3) pe_int) pe_int) pa_nil))))
      (pss_cons (ps_set (i := 5) sclaw.nd rfl (by first | exact Or.inl rfl | exact Or.inr rfl) (pe_cal c_law_text (hr.mono (by decide)) (pa_cons (pv 4) pa_nil)))
      (pss_cons (ps_set (i := 6) sclaw.nd rfl (by first | exact Or.inl rfl | exact Or.inr rfl) (pe_cal cwrite_sentence (hr.mono (by decide)) (pa_cons (pv 4) pa_nil)))
      (pss_cons (ps_if (pw_or (pt_not (EK.tru (K := K) (pe_callB (EK.isi (K := K)) (by rfl) m_isinstance (by decide +kernel) (pa_cons (pv 6) (pa_cons (pe_bltn (v := .ty "str") (by rfl) m_str (by decide +kernel) rfl) pa_nil))))) (pw_or (pt_cmpR (EK.ne (K := K) hr.units) (pv 6) (pv 5) (nomark _)) (pw_or1 (pt_cmpR (EK.ne (K := K) hr.units) (pe_cal c_law_read (hr.mono (by decide)) (pa_cons (pv 5) pa_nil)) (pv 4) (nomark _))))).pt
      (pss_one (ps_ret pe_bl))
      pss_nil)
      (pss_cons (ps_set (i := 7) sclaw.nd rfl (by first | exact Or.inl rfl | exact Or.inr rfl) (pe_cal c_law_spoilt (hr.mono (by decide)) (pa_cons (pv 5) (pa_cons (pe_op op_fdiv (pv 3) pe_int) pa_nil))))
      (pss_cons (ps_set (i := 6) sclaw.nd rfl (by first | exact Or.inl rfl | exact Or.inr rfl) (pe_cal c_law_read (hr.mono (by decide)) (pa_cons (pv 7) pa_nil)))
      (pss_one (ps_if (pt_cmpR (EK.eq (K := K) hr.units) (pe_ix (EK.ix (K := K)) (pv 6) pe_int (fun _ _ => rfl)) pe_str (nomark _))
      (pss_one (ps_if (pt_cmpR EK.isntBl (pe_ix (EK.ix (K := K)) (pv 6) pe_int (fun _ _ => rfl)) pe_bl (nomark _))
      (pss_one (ps_ret pe_bl))
      pss_nil))
      (pss_one (ps_if (pw_or (pt_not (EK.tru (K := K) (pe_callB (EK.isi (K := K)) (by rfl) m_isinstance (by decide +kernel) (pa_cons (pv 6) (pa_cons (pe_bltn (v := .ty "tuple") (by rfl) m_tuple (by decide +kernel) rfl) pa_nil))))) (pw_or1 (pt_cmpR (EK.ne (K := K) hr.units) (pe_cal c_law_text (hr.mono (by decide)) (pa_cons (pv 6) pa_nil)) (pv 7) (nomark _)))).pt
      (pss_one (ps_ret pe_bl))
      (pss_one (ps_if (pw_or (pt_not (EK.tru (K := K) (pe_cal c_law_is_places (hr.mono (by decide)) (pa_cons (pv 6) pa_nil)))) (pw_or1 (pt_not (EK.tru (K := K) (pe_cal c_law_is_names (hr.mono (by decide)) (pa_cons (pv 6) pa_nil)))))).pt
      (pss_one (ps_ret pe_bl))
      pss_nil))))))))))))))))
      (pss_one (ps_ret (pe_and (pe_cmpR (EK.eq (K := K) hr.units) (pe_cal c_law_read (hr.mono (by decide)) (pa_cons pe_str pa_nil)) (pe_tup (pa_cons pe_str (pa_cons pe_bl pa_nil))) (nomark _)) (pe_one (pe_cmpR (EK.eq (K := K) hr.units) (pe_cal c_law_read (hr.mono (by decide)) (pa_cons pe_str pa_nil)) (pe_tup (pa_cons pe_str (pa_cons pe_bl pa_nil))) (nomark _))))))), ?_⟩
  show Wp K _ [.dat (.list (ns.map .int)), .no, .no, .no, .no, .no, .no, .no] _
  apply w_mid (fun ρ => ∃ x1 x2 x3 x4 x5 x6 x7, ρ = [.dat (.list (ns.map .int)), x1, x2, x3, x4, x5, x6, x7])
  · refine w_for (is := [1, 2]) (ei_enum (ds := (ns.take 20).map .int) (ec_cons (EvF.cl ((es_L (ev_var rfl).q eo_none (eo_some ev_cint.q)).to (cut_hd23 _ 20))) ec_nil)) (fun i ρ => ∃ x1 x2 x3 x4 x5 x6 x7, ρ = [.dat (.list (ns.map .int)), x1, x2, x3, x4, x5, x6, x7]) ⟨_, _, _, _, _, _, _, rfl⟩ ?_ (fun _ h => h)
    rintro i d ρ1 hd ⟨x1, x2, x3, x4, x5, x6, x7, rfl⟩
    obtain ⟨n, rfl⟩ := zip_at23 hd
    refine ⟨_, bd_tup (bds_cons bd_name (bds_cons bd_name bds_nil)), ?_⟩
    have nx : ∀ (P : List Sl → Prop) (y1 y2 y3 y4 y5 y6 y7 : Sl), P [.dat (.list (ns.map .int)), y1, y2, y3, y4, y5, y6, y7] → P [.dat (.list (ns.map .int)), y1, y2, y3, y4, y5, y6, y7] := fun _ _ _ _ _ _ _ _ h => h
    generalize (Sl.dat (.list (ns.map .int))) = z0
    show Wp K _ [z0, .dat (.int (i : Nat)), .dat (.int n), x3, x4, x5, x6, x7] _
    refine w_seq (w_set (d := .int (mixed n i)) (ev_call (ec_cons (ev_var rfl) (ec_cons (ev_var rfl) ec_nil)) (show pre_mixed _ from ⟨_, _, rfl⟩)) ?_)
    generalize mixed n i = v
    generalize (Sl.dat (.int (i : Nat))) = z1
    generalize (Sl.dat (.int n)) = z2
    show Wp K _ [z0, z1, z2, .dat (.int v), x4, x5, x6, x7] _
    have hk : ((v % 4).toNat : Int) = v % 4 := by omega
    have hk3 : (v % 4).toNat ≤ 3 := by omega
    refine w_seq (w_set (d := encS (senF (v % 4).toNat (v / 4) [120, 97])) ((ev_call (ds := [.int (v / 4), .tuple (([120, 97] : List Nat).map nm), .int ((v % 4).toNat : Int)]) (ec_cons (ev_op (ev_var rfl).q ev_cint.q (rd_fdiv (by decide))) (ec_cons (ev_tup (ec_cons (ev_cM (l := [120]) (by decide)) (ec_cons (ev_cM (l := [97]) (by decide)) ec_nil))) (ec_cons ((ev_op (ev_var rfl).q ev_cint.q (rd_mod (by decide))).to (congrArg PyData.int hk.symm)) ec_nil))) (show pre_senM _ from ⟨_, [120, 97], _, rfl, by decide, by show 2 + _ ≤ 20; omega, by decide, by omega⟩)).to (res_sen_ok _ _ _)) ?_)
    have t0 : wfS (senF (v % 4).toNat (v / 4) [120, 97]) = true ∧ (tokS (senF (v % 4).toNat (v / 4) [120, 97])).length ≤ 45 ∧ dpS (senF (v % 4).toNat (v / 4) [120, 97]) ≤ 8 := by
      obtain ⟨s1, s2⟩ := senF_wf (v % 4).toNat (v / 4) [120, 97] (by decide) (by decide)
      obtain ⟨_, _, s3, _⟩ := senF_ok (v % 4).toNat (v / 4) [120, 97] (by decide) (by decide)
      exact ⟨s1, by omega, by omega⟩
    generalize senF (v % 4).toNat (v / 4) [120, 97] = s0 at t0
    obtain ⟨t1, t2, t3⟩ := t0
    show Wp K _ [z0, z1, z2, .dat (.int v), .dat (encS s0), x5, x6, x7] _
    apply w_mid (fun ρ => ∃ s1, wfS s1 = true ∧ (tokS s1).length ≤ 49 ∧ dpS s1 ≤ 9 ∧ ρ = [z0, z1, z2, .dat (.int v), .dat (encS s1), x5, x6, x7])
    · refine w_if (b := decide (v / 4 % 3 = 0)) (et_test (eq_op (eq_op (eq_op (ev_var rfl).q ev_cint.q (rd_fdiv (by decide))) ev_cint.q (rd_mod (by decide))) ev_cint.q rd_eqI')) (fun h => ?_) fun h => w_nxt ⟨s0, t1, by omega, by omega, rfl⟩
      have hp : ((v / 12 % 3).toNat : Int) = v / 12 % 3 := by omega
      have hp2 : (v / 12 % 3).toNat ≤ 2 := by omega
      refine w_set (d := encS (.bin true (.at_ (v / 12 % 3).toNat 98) s0)) (ev_tup (ec_cons ev_cstr (ec_cons (ev_tup (ec_cons ev_cstr (ec_cons ((ev_op (EvD.q (ev_op (ev_var rfl).q ev_cint.q (rd_fdiv (by decide)))) ev_cint.q (rd_mod (by decide))).to (congrArg PyData.int hp.symm)) (ec_cons (ev_cM (l := [98]) (by decide)) ec_nil)))) (ec_cons (ev_var rfl) ec_nil)))) ⟨_, ?_, ?_, ?_, rfl⟩
      · show ((decide (_ ≤ 2) && okN 98) && wfS s0) = true
        rw [decide_eq_true hp2, t1]; rfl
      · show ([wAt, _, _] ++ tokS s0).length + 1 ≤ 49
        rw [List.length_append]; show 3 + _ + 1 ≤ 49; omega
      · show max 0 (dpS s0) + 1 ≤ 9; omega
    rintro _ ⟨s1, a1, a2, a3, rfl⟩
    clear t1 t2 t3
    have hs : ((v / 36 % 26).toNat : Int) = v / 36 % 26 := by omega
    have hs26 : (v / 36 % 26).toNat < 26 := by omega
    refine w_seq (w_set (d := encS (turnS (v / 36 % 26).toNat s1)) (EvG.toD (ev_callG (eg_d (ev_var rfl) (eg_d ((ev_op (EvD.q (ev_op (ev_var rfl).q ev_cint.q (rd_fdiv (by decide)))) ev_cint.q (rd_mod (by decide))).to (congrArg PyData.int hs.symm)) eg_nil)) ⟨s1, (v / 36 % 26).toNat, rfl, a1, hs26, by omega, rfl⟩) fun _ _ z => z) ?_)
    obtain ⟨b1, b2⟩ := turn_ok (v / 36 % 26).toNat s1 a1
    have b3 : dpS (turnS (v / 36 % 26).toNat s1) ≤ 47 := by have := dp_tok (turnS (v / 36 % 26).toNat s1); omega
    rw [← b2] at a2
    generalize turnS (v / 36 % 26).toNat s1 = s2 at a2 b1 b3
    clear a1 a3 b2 hs hs26
    show Wp K _ [z0, z1, z2, .dat (.int v), .dat (encS s2), x5, x6, x7] _
    have W := tok_Wok b1 (n := 55) (by omega)
    have W60 := tok_Wok b1 (n := 60) (by omega)
    refine w_seq (w_set (d := .str (txtS s2)) (EvG.toD (ev_callG (eg_d (ev_var rfl) eg_nil) ⟨s2, rfl, b1, by omega, by omega, rfl⟩) fun _ _ z => z) ?_)
    refine w_seq (w_set (d := .str (txtS s2)) (EvG.toD (ev_callG (eg_d (ev_var rfl) eg_nil) ⟨s2, rfl, b1, by omega, rfl⟩) fun _ _ z => z) ?_)
    show Wp K _ [z0, z1, z2, .dat (.int v), .dat (encS s2), .dat (.str (txtS s2)), .dat (.str (txtS s2)), x7] _
    have hS : Shp 0 (.str (txtS s2)) := shp_txt W
    have rd_own : readD (txtS s2) = encS s2 := by unfold readD; rw [read_own s2 b1]
    have e_rd : ∀ {ρ : List Sl}, ρ[5]? = some (Sl.dat (.str (txtS s2))) → EvD K (tCall (spG K (proRd K)) [] E0 (tCons (tVar 5) tNil)) ρ (encS s2) := fun h =>
      (EvG.toD (ev_callG (eg_d (ev_var h) eg_nil) ⟨tokS s2, rfl, W60, rfl⟩) fun _ _ z => z).to rd_own
    refine w_seq (w_if (b := !true || (false || false)) (et_or (et_not (et_truB (ev_isi (ev_var rfl).q (by show kitB "str" "str" = some true; decide +kernel)).q)) fun _ => et_or (et_test (eq_op (ev_var rfl).q (ev_var rfl).q (rd_neSame hS (by omega)))) fun _ => et_test (eq_op (e_rd rfl).q (ev_var rfl).q (rd_neSame (shp_encS s2 b1) (by omega)))) (fun h => by cases h) fun _ => w_nxt ?_)
    refine w_seq (w_setG (ev_callG (eg_d (ev_var rfl) (eg_d (ev_op (ev_var rfl).q ev_cint.q (rd_fdiv (by decide))) eg_nil)) ⟨tokS s2, v / 5, rfl, W, rfl⟩) (fun G G' u hm ⟨us, h1, h2⟩ => ⟨us, h1, dp_mono hm h2⟩) ?_)
    refine w_genE (i := 7) (M := fun d => ∃ us, Wok us 56 ∧ d = .str (Txt.join spc us)) rfl (fun G u ⟨us, h1, h2⟩ => ⟨_, ⟨us, h1, rfl⟩, h2⟩) ?_
    rintro _ ⟨us, U, rfl⟩
    have U60 : Wok us 60 := ⟨U.ne, by have := U.len; omega, U.sp, U.sz, U.low⟩
    show Wp K _ [z0, z1, z2, .dat (.int v), .dat (encS s2), .dat (.str (txtS s2)), .dat (.str (txtS s2)), .dat (.str (Txt.join spc us))] _
    refine w_seq (w_set (d := readD (Txt.join spc us)) (EvG.toD (ev_callG (eg_d (ev_var rfl) eg_nil) ⟨us, rfl, U60, rfl⟩) fun _ _ z => z) ?_)
    show Wp K _ [z0, z1, z2, .dat (.int v), .dat (encS s2), .dat (.str (txtS s2)), .dat (readD (Txt.join spc us)), .dat (.str (Txt.join spc us))] _
    have hU : Shp 0 (.str (Txt.join spc us)) := shp_txt U
    have shR : Shp 0 (.str ("refused" : Str)) := shp_mkS (n := 0) (l := [114, 101, 102, 117, 115, 101, 100]) (by decide)
    cases q : readF (Txt.join spc us) with
    | none =>
      have e : readD (Txt.join spc us) = refD := by unfold readD; rw [q]
      rw [e]
      refine w_if (b := true) (et_test (eq_op (eq_op (ev_var rfl).q ev_cint.q (rd_ixT (d := .str ("refused" : Str)) (show atI [PyData.str ("refused" : Str), .bool true] ((0 : Nat) : Int) = _ from atI_nat rfl))) ev_cstr.q (rd_eqSame shR (by omega)))) (fun _ => ?_) fun z => nomatch z
      refine w_if (b := false) (et_test (eq_op (eq_op (ev_var rfl).q ev_cint.q (rd_ixT (d := .bool true) (show atI [PyData.str ("refused" : Str), .bool true] ((1 : Nat) : Int) = _ from atI_nat rfl))) ev_cbl.q rd_isntB)) (fun z => nomatch z) fun _ => w_nxt ⟨_, _, _, _, _, _, _, rfl⟩
    | some t =>
      have e : readD (Txt.join spc us) = encS t := by unfold readD; rw [q]
      rw [e]
      obtain ⟨r1, r2, r3⟩ := read_back q
      rw [U.split] at r3
      have hul := U.len
      have hd := dp_tok t
      have nr : wordS t ≠ ("refused" : Str) := words_all (P := fun z => z ≠ ("refused" : Str)) (by decide) t
      have e6 : ∀ {ρ : List Sl}, ρ[6]? = some (Sl.dat (encS t)) → EvD K (tOp (rIx K) (tVar 6) (tC (.int 0))) ρ (.str (wordS t)) := fun h =>
        ev_op (EvD.q ((ev_var h).to (encS_items t))) ev_cint.q (rd_ixT (d := .str (wordS t)) (show atI (PyData.str (wordS t) :: (items t).map encI) ((0 : Nat) : Int) = _ from atI_nat rfl))
      refine w_if (b := decide (wordS t = ("refused" : Str))) (et_test (eq_op (EvD.q (e6 rfl)) ev_cstr.q (rd_eqS' ((shp_word t 0).shaped (by omega)) (shR.shaped (by omega))))) (fun z => absurd (of_decide_eq_true z) nr) fun _ => ?_
      refine w_if (b := !true || false) (et_or (et_not (et_truB (ev_isi (ev_var rfl).q (by rw [encS_items]; show kitB "tuple" "tuple" = some true; decide +kernel)).q)) fun _ => et_test (eq_op (EvD.q ((EvG.toD (ev_callG (eg_d (ev_var rfl) eg_nil) ⟨t, rfl, r2, by rw [r3]; omega, by rw [r3] at hd; omega, rfl⟩) fun _ _ z => z).to (congrArg PyData.str r1))) (ev_var rfl).q (rd_neSame hU (by omega)))) (fun z => by cases z) fun _ => ?_
      refine w_if (b := !true || !true) (et_or (et_not (et_truB (EvD.q (EvG.toD (ev_callG (eg_d (ev_var rfl) eg_nil) ⟨t, rfl, r2, by rw [r3] at hd; omega, rfl⟩) fun _ _ z => z)))) fun _ => et_not (et_truB (EvD.q (EvG.toD (ev_callG (eg_d (ev_var rfl) eg_nil) ⟨t, rfl, r2, by rw [r3] at hd; omega, rfl⟩) fun _ _ z => z)))) (fun z => by cases z) fun _ => w_nxt ⟨_, _, _, _, _, _, _, rfl⟩
  · rintro _ ⟨x1, x2, x3, x4, x5, x6, x7, rfl⟩
    have one : ∀ (z : Str), Wok [z] 60 → ([z] : List Str).foldlM stepR [] = none → ∀ {t : TE} {ρ : List Sl}, EvD K t ρ (.str z) → EvD K (tOp (rEqD K) (tCall (spG K (proRd K)) [] E0 (tCons t tNil)) (tTup (tCons (tC (.str ("refused" : Str))) (tCons (tC (.bl true)) tNil)))) ρ (.bool true) := fun z W h t ρ ht =>
      readD_ref ((EvG.toD (ev_callG (eg_d ht eg_nil) ⟨[z], by rw [join_one], W, rfl⟩) fun _ _ z => z).to (read_none1 (by rw [W.split]; exact h)))
    exact w_ret (ev_andV (one (mkS []) ⟨by simp, by decide, by decide, by decide, by decide⟩ fold_empty (ev_cM (l := []) rfl)).q fun _ => one "some" ⟨by simp, by decide, by decide, by decide, by decide⟩ fold_some ev_cstr) rfl
-- PR _law_mixed pre_mixed res_mixed
-- PR _law_atom pre_atom res_atom
-- PR _law_matrix pre_matM res_mat
-- PR _law_sentence pre_senM res_sen
-- PRG _kind_of proKind
-- PRX _read_item pre_item res_item BadText
-- PRX read_sentence pre_read res_read BadText
-- PRG write_sentence proWs
-- PRG _law_turned proLuM
-- PRG _law_text proLtM
-- PRG _law_spoilt proSpo
-- PRG _law_read proRd
-- PRG _law_is_names proLnM
-- PRG _law_is_places proLnM
-- EXTRA read_sentence (hB := beh_of lk__BEHIND sm__BEHIND kl__BEHIND rw__BEHIND)
-- HYP h_ga : PySem.W.findIn K (.ref C_BadText) "__getattribute__" = some (some (.builtin "BaseException.__getattribute__"))
-- HYP h_gt : PySem.W.findIn K (.ref C_BadText) "__getattr__" = some none
-- HYP h_hd : PySem.W.hasDictIn K C_BadText = true
-- HYP h_cl : PySem.W.findIn K (.ref C_BadText) "__class__" = some (some (.builtin "object.__class__"))
-- HYP h_sp : PySem.W.specialIn K (.builtin "object.__class__") "__get__" = some (some (.builtin "getset_descriptor.__get__"))
-- HYP h_tk : PySem.W.takesIn K (.builtin "object.__class__") = some true
-- HYP h_mo : PySem.W.mroIn K C_BadText (.type "object") = some true
-- HYP h_sf : PySem.W.subIn K (.ref C_BadText) (.ref C_BadText) = some true
-- HYP h_ge : PySem.W.kitOne K (.ref C_BadText) (.ref C_GroundError) = some true
-- EXTRA _law_read (Y := ⟨⟨h_ga, h_gt, xs_BadText, h_hd, h_cl, h_sp, h_tk, h_mo⟩, PySem.W.exm_ref xs_BadText h_hd xt_BadText h_sf, h_ge⟩)
end
theorem all_mk [TabC] {l : PySem.W.OpenLaw} {w : World} {K : PySem.W.Frag} {h : Heap} {mg : Str → Option Value} {fa f0 f1 f2 f3 f4 f5 f6 f7 f8 f9 f10 f11 f12 f13 f14 : Addr} (X : K.In h) (G : h.Ns mainGlobals mg) (hfa : mg "law" = some (.ref fa))
    {od0 an0 od1 an1 od2 an2 od3 an3 od4 an4 od5 an5 od6 an6 od7 an7 od8 an8 od9 an9 od10 an10 od11 an11 od12 an12 od13 an13 od14 an14 : Option Addr} {sl0 sl1 sl2 sl3 sl4 sl5 sl6 sl7 sl8 sl9 sl10 sl11 sl12 sl13 sl14 : Array (Option Value)} {oc0 kV0 dc0 pm0 cd0 ct0 oc1 kV1 dc1 pm1 cd1 ct1 oc2 kV2 dc2 pm2 cd2 ct2 oc3 kV3 dc3 pm3 cd3 ct3 oc4 kV4 dc4 pm4 cd4 ct4 oc5 kV5 dc5 pm5 cd5 ct5 oc6 kV6 dc6 pm6 cd6 ct6 oc7 kV7 dc7 pm7 cd7 ct7 oc8 kV8 dc8 pm8 cd8 ct8 oc9 kV9 dc9 pm9 cd9 ct9 oc10 kV10 dc10 pm10 cd10 ct10 oc11 kV11 dc11 pm11 cd11 ct11 oc12 kV12 dc12 pm12 cd12 ct12 oc13 kV13 dc13 pm13 cd13 ct13 oc14 kV14 dc14 pm14 cd14 ct14 : Value} {p__BEHIND : Addr} {es__BEHIND : Array DictEntry} {n__BEHIND : Nat} {t__PLACES : Tok}
    (a0 : PySem.W.nsIn K mainGlobals "_read_item" = some (some (.ref f0))) (l0 : K.lookup f0 = some ⟨oc0, od0, .func (PySem.W.fnOf "_read_item" "_read_item" (defArgs s_read_item) (defBody s_read_item) (defScope s_read_item) .none kV0 dc0 pm0 an0 cd0 ct0), sl0⟩) (c0 : PySem.W.codeIn K cd0 "_read_item" = true) (k0 : PySem.W.keepIn K (.ref f0) = true)
    (a1 : PySem.W.nsIn K mainGlobals "_kind_of" = some (some (.ref f1))) (l1 : K.lookup f1 = some ⟨oc1, od1, .func (PySem.W.fnOf "_kind_of" "_kind_of" (defArgs s_kind_of) (defBody s_kind_of) (defScope s_kind_of) .none kV1 dc1 pm1 an1 cd1 ct1), sl1⟩) (c1 : PySem.W.codeIn K cd1 "_kind_of" = true) (k1 : PySem.W.keepIn K (.ref f1) = true)
    (a2 : PySem.W.nsIn K mainGlobals "write_sentence" = some (some (.ref f2))) (l2 : K.lookup f2 = some ⟨oc2, od2, .func (PySem.W.fnOf "write_sentence" "write_sentence" (defArgs swrite_sentence) (defBody swrite_sentence) (defScope swrite_sentence) .none kV2 dc2 pm2 an2 cd2 ct2), sl2⟩) (c2 : PySem.W.codeIn K cd2 "write_sentence" = true) (k2 : PySem.W.keepIn K (.ref f2) = true)
    (a3 : PySem.W.nsIn K mainGlobals "_law_mixed" = some (some (.ref f3))) (l3 : K.lookup f3 = some ⟨oc3, od3, .func (PySem.W.fnOf "_law_mixed" "_law_mixed" (defArgs s_law_mixed) (defBody s_law_mixed) (defScope s_law_mixed) .none kV3 dc3 pm3 an3 cd3 ct3), sl3⟩) (c3 : PySem.W.codeIn K cd3 "_law_mixed" = true) (k3 : PySem.W.keepIn K (.ref f3) = true)
    (a4 : PySem.W.nsIn K mainGlobals "_law_atom" = some (some (.ref f4))) (l4 : K.lookup f4 = some ⟨oc4, od4, .func (PySem.W.fnOf "_law_atom" "_law_atom" (defArgs s_law_atom) (defBody s_law_atom) (defScope s_law_atom) .none kV4 dc4 pm4 an4 cd4 ct4), sl4⟩) (c4 : PySem.W.codeIn K cd4 "_law_atom" = true) (k4 : PySem.W.keepIn K (.ref f4) = true)
    (a5 : PySem.W.nsIn K mainGlobals "_law_spoilt" = some (some (.ref f5))) (l5 : K.lookup f5 = some ⟨oc5, od5, .func (PySem.W.fnOf "_law_spoilt" "_law_spoilt" (defArgs s_law_spoilt) (defBody s_law_spoilt) (defScope s_law_spoilt) .none kV5 dc5 pm5 an5 cd5 ct5), sl5⟩) (c5 : PySem.W.codeIn K cd5 "_law_spoilt" = true) (k5 : PySem.W.keepIn K (.ref f5) = true)
    (a6 : PySem.W.nsIn K mainGlobals "read_sentence" = some (some (.ref f6))) (l6 : K.lookup f6 = some ⟨oc6, od6, .func (PySem.W.fnOf "read_sentence" "read_sentence" (defArgs sread_sentence) (defBody sread_sentence) (defScope sread_sentence) .none kV6 dc6 pm6 an6 cd6 ct6), sl6⟩) (c6 : PySem.W.codeIn K cd6 "read_sentence" = true) (k6 : PySem.W.keepIn K (.ref f6) = true)
    (a7 : PySem.W.nsIn K mainGlobals "_law_read" = some (some (.ref f7))) (l7 : K.lookup f7 = some ⟨oc7, od7, .func (PySem.W.fnOf "_law_read" "_law_read" (defArgs s_law_read) (defBody s_law_read) (defScope s_law_read) .none kV7 dc7 pm7 an7 cd7 ct7), sl7⟩) (c7 : PySem.W.codeIn K cd7 "_law_read" = true) (k7 : PySem.W.keepIn K (.ref f7) = true)
    (a8 : PySem.W.nsIn K mainGlobals "_law_matrix" = some (some (.ref f8))) (l8 : K.lookup f8 = some ⟨oc8, od8, .func (PySem.W.fnOf "_law_matrix" "_law_matrix" (defArgs s_law_matrix) (defBody s_law_matrix) (defScope s_law_matrix) .none kV8 dc8 pm8 an8 cd8 ct8), sl8⟩) (c8 : PySem.W.codeIn K cd8 "_law_matrix" = true) (k8 : PySem.W.keepIn K (.ref f8) = true)
    (a9 : PySem.W.nsIn K mainGlobals "_law_sentence" = some (some (.ref f9))) (l9 : K.lookup f9 = some ⟨oc9, od9, .func (PySem.W.fnOf "_law_sentence" "_law_sentence" (defArgs s_law_sentence) (defBody s_law_sentence) (defScope s_law_sentence) .none kV9 dc9 pm9 an9 cd9 ct9), sl9⟩) (c9 : PySem.W.codeIn K cd9 "_law_sentence" = true) (k9 : PySem.W.keepIn K (.ref f9) = true)
    (a10 : PySem.W.nsIn K mainGlobals "_law_turned" = some (some (.ref f10))) (l10 : K.lookup f10 = some ⟨oc10, od10, .func (PySem.W.fnOf "_law_turned" "_law_turned" (defArgs s_law_turned) (defBody s_law_turned) (defScope s_law_turned) .none kV10 dc10 pm10 an10 cd10 ct10), sl10⟩) (c10 : PySem.W.codeIn K cd10 "_law_turned" = true) (k10 : PySem.W.keepIn K (.ref f10) = true)
    (a11 : PySem.W.nsIn K mainGlobals "_law_text" = some (some (.ref f11))) (l11 : K.lookup f11 = some ⟨oc11, od11, .func (PySem.W.fnOf "_law_text" "_law_text" (defArgs s_law_text) (defBody s_law_text) (defScope s_law_text) .none kV11 dc11 pm11 an11 cd11 ct11), sl11⟩) (c11 : PySem.W.codeIn K cd11 "_law_text" = true) (k11 : PySem.W.keepIn K (.ref f11) = true)
    (a12 : PySem.W.nsIn K mainGlobals "_law_is_names" = some (some (.ref f12))) (l12 : K.lookup f12 = some ⟨oc12, od12, .func (PySem.W.fnOf "_law_is_names" "_law_is_names" (defArgs s_law_is_names) (defBody s_law_is_names) (defScope s_law_is_names) .none kV12 dc12 pm12 an12 cd12 ct12), sl12⟩) (c12 : PySem.W.codeIn K cd12 "_law_is_names" = true) (k12 : PySem.W.keepIn K (.ref f12) = true)
    (a13 : PySem.W.nsIn K mainGlobals "_law_is_places" = some (some (.ref f13))) (l13 : K.lookup f13 = some ⟨oc13, od13, .func (PySem.W.fnOf "_law_is_places" "_law_is_places" (defArgs s_law_is_places) (defBody s_law_is_places) (defScope s_law_is_places) .none kV13 dc13 pm13 an13 cd13 ct13), sl13⟩) (c13 : PySem.W.codeIn K cd13 "_law_is_places" = true) (k13 : PySem.W.keepIn K (.ref f13) = true)
    (a14 : PySem.W.nsIn K mainGlobals "law" = some (some (.ref f14))) (l14 : K.lookup f14 = some ⟨oc14, od14, .func (PySem.W.fnOf "law" "law" (defArgs slaw) (defBody slaw) (defScope slaw) .none kV14 dc14 pm14 an14 cd14 ct14), sl14⟩) (c14 : PySem.W.codeIn K cd14 "law" = true) (k14 : PySem.W.keepIn K (.ref f14) = true)
    (z_list : PySem.W.nsIn K mainGlobals "list" = some none)
    (z_len : PySem.W.nsIn K mainGlobals "len" = some none)
    (z_isinstance : PySem.W.nsIn K mainGlobals "isinstance" = some none)
    (z_tuple : PySem.W.nsIn K mainGlobals "tuple" = some none)
    (z_str : PySem.W.nsIn K mainGlobals "str" = some none)
    (z_int : PySem.W.nsIn K mainGlobals "int" = some none)
    (z_bool : PySem.W.nsIn K mainGlobals "bool" = some none)
    (z_enumerate : PySem.W.nsIn K mainGlobals "enumerate" = some none)
    {C_BadText : Addr} (v_BadText : PySem.W.nsIn K mainGlobals "BadText" = some (some (.ref C_BadText)))
    {C_GroundError : Addr} (v_GroundError : PySem.W.nsIn K mainGlobals "GroundError" = some (some (.ref C_GroundError)))
    (xq_BadText : PySem.W.excIn K C_BadText EL.veM "ValueError.__new__" = true) (xk_BadText : PySem.W.keepIn K (.ref C_BadText) = true) (xs_BadText : PySem.W.subIn K (.ref C_BadText) (.type "BaseException") = some true) (xt_BadText : PySem.W.typeIn K (.ref C_BadText) = some (.type "type"))
    (h_ga : PySem.W.findIn K (.ref C_BadText) "__getattribute__" = some (some (.builtin "BaseException.__getattribute__")))
    (h_gt : PySem.W.findIn K (.ref C_BadText) "__getattr__" = some none)
    (h_hd : PySem.W.hasDictIn K C_BadText = true)
    (h_cl : PySem.W.findIn K (.ref C_BadText) "__class__" = some (some (.builtin "object.__class__")))
    (h_sp : PySem.W.specialIn K (.builtin "object.__class__") "__get__" = some (some (.builtin "getset_descriptor.__get__")))
    (h_tk : PySem.W.takesIn K (.builtin "object.__class__") = some true)
    (h_mo : PySem.W.mroIn K C_BadText (.type "object") = some true)
    (h_sf : PySem.W.subIn K (.ref C_BadText) (.ref C_BadText) = some true)
    (h_ge : PySem.W.kitOne K (.ref C_BadText) (.ref C_GroundError) = some true)
    (y__BEHIND : PySem.W.nsIn K mainGlobals "_BEHIND" = some (some (.ref p__BEHIND))) (lk__BEHIND : K.lookup p__BEHIND = some ⟨.type "dict", none, .dict es__BEHIND n__BEHIND, #[]⟩) (sm__BEHIND : (p__BEHIND == sysModules) = false) (kl__BEHIND : PySem.W.KeysLit w.params es__BEHIND.toList) (rw__BEHIND : es__BEHIND.toList.map rowB = (tab_BEHIND).map some)
    (y__PLACES : PySem.W.nsIn K mainGlobals "_PLACES" = some (some (.str (Str.ofString "012") t__PLACES)))
    : ∃ fd : FuncData, (∀ (s : Shared) (v : Value), BindsTo s fd ⟨[v], []⟩ [("script", v)]) ∧ ∀ base : Heap, K.In base → base.Ns mainGlobals mg → FnOk l.prog w K mg base CX0 61 fa fd ["script"] (spD K pre_law res_law) := by
  have e := hfa.symm.trans (PySem.W.mg_of X G a14)
  cases e
  have m_list := PySem.W.mg_none_of X G z_list
  have m_len := PySem.W.mg_none_of X G z_len
  have m_isinstance := PySem.W.mg_none_of X G z_isinstance
  have m_tuple := PySem.W.mg_none_of X G z_tuple
  have m_str := PySem.W.mg_none_of X G z_str
  have m_int := PySem.W.mg_none_of X G z_int
  have m_bool := PySem.W.mg_none_of X G z_bool
  have m_enumerate := PySem.W.mg_none_of X G z_enumerate
  have g__BEHIND := PySem.W.mg_of X G y__BEHIND
  have g__PLACES := PySem.W.mg_of X G y__PLACES
  have g_BadText := PySem.W.mg_of X G v_BadText
  have g_GroundError := PySem.W.mg_of X G v_GroundError
  have e_BadText : EL.OwnE K mg "BadText" C_BadText := ⟨xq_BadText, g_BadText, xk_BadText, xs_BadText, xt_BadText⟩
  have F0 := fun_mk (st := s_read_item) l0 c0 k0
  have F1 := fun_mk (st := s_kind_of) l1 c1 k1
  have F2 := fun_mk (st := swrite_sentence) l2 c2 k2
  have F3 := fun_mk (st := s_law_mixed) l3 c3 k3
  have F4 := fun_mk (st := s_law_atom) l4 c4 k4
  have F5 := fun_mk (st := s_law_spoilt) l5 c5 k5
  have F6 := fun_mk (st := sread_sentence) l6 c6 k6
  have F7 := fun_mk (st := s_law_read) l7 c7 k7
  have F8 := fun_mk (st := s_law_matrix) l8 c8 k8
  have F9 := fun_mk (st := s_law_sentence) l9 c9 k9
  have F10 := fun_mk (st := s_law_turned) l10 c10 k10
  have F11 := fun_mk (st := s_law_text) l11 c11 k11
  have F12 := fun_mk (st := s_law_is_names) l12 c12 k12
  have F13 := fun_mk (st := s_law_is_places) l13 c13 k13
  have F14 := fun_mk (st := slaw) l14 c14 k14
  have b0 := F0.binds (ps := ["word"]) fun _ _ _ _ _ _ us hl => match us, hl with | [_], _ => rfl
  have b1 := F1.binds (ps := ["item"]) fun _ _ _ _ _ _ us hl => match us, hl with | [_], _ => rfl
  have b2 := F2.binds (ps := ["sentence"]) fun _ _ _ _ _ _ us hl => match us, hl with | [_], _ => rfl
  have b3 := F3.binds (ps := ["cell", "turn"]) fun _ _ _ _ _ _ us hl => match us, hl with | [_, _], _ => rfl
  have b4 := F4.binds (ps := ["value", "names"]) fun _ _ _ _ _ _ us hl => match us, hl with | [_, _], _ => rfl
  have b5 := F5.binds (ps := ["text", "value"]) fun _ _ _ _ _ _ us hl => match us, hl with | [_, _], _ => rfl
  have b6 := F6.binds (ps := ["text"]) fun _ _ _ _ _ _ us hl => match us, hl with | [_], _ => rfl
  have b7 := F7.binds (ps := ["text"]) fun _ _ _ _ _ _ us hl => match us, hl with | [_], _ => rfl
  have b8 := F8.binds (ps := ["value", "names", "size"]) fun _ _ _ _ _ _ us hl => match us, hl with | [_, _, _], _ => rfl
  have b9 := F9.binds (ps := ["value", "names", "rank"]) fun _ _ _ _ _ _ us hl => match us, hl with | [_, _, _], _ => rfl
  have b10 := F10.binds (ps := ["sentence", "shift"]) fun _ _ _ _ _ _ us hl => match us, hl with | [_, _], _ => rfl
  have b11 := F11.binds (ps := ["sentence"]) fun _ _ _ _ _ _ us hl => match us, hl with | [_], _ => rfl
  have b12 := F12.binds (ps := ["sentence"]) fun _ _ _ _ _ _ us hl => match us, hl with | [_], _ => rfl
  have b13 := F13.binds (ps := ["sentence"]) fun _ _ _ _ _ _ us hl => match us, hl with | [_], _ => rfl
  refine ⟨PySem.W.fnOf "law" "law" (defArgs slaw) (defBody slaw) (defScope slaw) .none kV14 dc14 pm14 an14 cd14 ct14, fun s v => .of_eq rfl, fun base _ _ => ?_⟩
  have C0 : CalX l.prog w K mg base "_read_item" ["word"] 1 (spX K (.ref C_BadText) pre_item res_item) := ⟨_, _, ok_read_item F0 (m_len := m_len) (g__PLACES := g__PLACES) (e_BadText := e_BadText), PySem.W.mg_of X G a0, k0, b0⟩
  have C1 : Cal l.prog w K mg base "_kind_of" ["item"] 1 (spG K (proKind (K := K))) := ⟨_, _, ok_kind_of F1 (m_isinstance := m_isinstance) (m_tuple := m_tuple) (m_str := m_str), PySem.W.mg_of X G a1, k1, b1⟩
  have C2 : Cal l.prog w K mg base "write_sentence" ["sentence"] 1 (spG K (proWs (K := K))) := ⟨_, _, ok_write_sentence F2 (m_isinstance := m_isinstance) (m_tuple := m_tuple) (m_str := m_str), PySem.W.mg_of X G a2, k2, b2⟩
  have C3 : Cal l.prog w K mg base "_law_mixed" ["cell", "turn"] 1 (spD K pre_mixed res_mixed) := ⟨_, _, ok_law_mixed F3 (m_int := m_int), PySem.W.mg_of X G a3, k3, b3⟩
  have C4 : Cal l.prog w K mg base "_law_atom" ["value", "names"] 1 (spD K pre_atom res_atom) := ⟨_, _, ok_law_atom F4 (m_len := m_len), PySem.W.mg_of X G a4, k4, b4⟩
  have C5 : Cal l.prog w K mg base "_law_spoilt" ["text", "value"] 1 (spG K (proSpo (K := K))) := ⟨_, _, ok_law_spoilt F5 (m_len := m_len), PySem.W.mg_of X G a5, k5, b5⟩
  have C6 : CalX l.prog w K mg base "read_sentence" ["text"] 2 (spX K (.ref C_BadText) pre_read res_read) := ⟨_, _, ok_read_sentence F6 (m_list := m_list) (m_len := m_len) (g__BEHIND := g__BEHIND) (c_kind_of := C1) (c_read_item := C0) (e_BadText := e_BadText) (hB := beh_of lk__BEHIND sm__BEHIND kl__BEHIND rw__BEHIND), PySem.W.mg_of X G a6, k6, b6⟩
  have C7 : Cal l.prog w K mg base "_law_read" ["text"] 3 (spG K (proRd (K := K))) := ⟨_, _, ok_law_read F7 (m_isinstance := m_isinstance) (cread_sentence := C6) (g_BadText := g_BadText) (g_GroundError := g_GroundError) (Y := ⟨⟨h_ga, h_gt, xs_BadText, h_hd, h_cl, h_sp, h_tk, h_mo⟩, PySem.W.exm_ref xs_BadText h_hd xt_BadText h_sf, h_ge⟩), PySem.W.mg_of X G a7, k7, b7⟩
  have C8 : Cal l.prog w K mg base "_law_matrix" ["value", "names", "size"] 10 (spD K pre_matM res_mat) := ⟨_, _, ok_law_matrix F8 (c_law_atom := C4) (hm := PySem.W.mg_of X G a8) (hk := k8) (hb := b8), PySem.W.mg_of X G a8, k8, b8⟩
  have C9 : Cal l.prog w K mg base "_law_sentence" ["value", "names", "rank"] 20 (spD K pre_senM res_sen) := ⟨_, _, ok_law_sentence F9 (m_tuple := m_tuple) (c_law_matrix := C8) (hm := PySem.W.mg_of X G a9) (hk := k9) (hb := b9), PySem.W.mg_of X G a9, k9, b9⟩
  have C10 : Cal l.prog w K mg base "_law_turned" ["sentence", "shift"] 30 (spG K (proLuM (K := K))) := ⟨_, _, ok_law_turned F10 (m_tuple := m_tuple) (m_isinstance := m_isinstance) (m_str := m_str) (hm := PySem.W.mg_of X G a10) (hk := k10) (hb := b10), PySem.W.mg_of X G a10, k10, b10⟩
  have C11 : Cal l.prog w K mg base "_law_text" ["sentence"] 60 (spG K (proLtM (K := K))) := ⟨_, _, ok_law_text F11 (m_isinstance := m_isinstance) (m_tuple := m_tuple) (m_str := m_str) (hm := PySem.W.mg_of X G a11) (hk := k11) (hb := b11), PySem.W.mg_of X G a11, k11, b11⟩
  have C12 : Cal l.prog w K mg base "_law_is_names" ["sentence"] 60 (spG K (proLnM (K := K))) := ⟨_, _, ok_law_is_names F12 (m_isinstance := m_isinstance) (m_str := m_str) (m_tuple := m_tuple) (m_len := m_len) (hm := PySem.W.mg_of X G a12) (hk := k12) (hb := b12), PySem.W.mg_of X G a12, k12, b12⟩
  have C13 : Cal l.prog w K mg base "_law_is_places" ["sentence"] 60 (spG K (proLnM (K := K))) := ⟨_, _, ok_law_is_places F13 (m_isinstance := m_isinstance) (m_int := m_int) (m_tuple := m_tuple) (m_bool := m_bool) (hm := PySem.W.mg_of X G a13) (hk := k13) (hb := b13), PySem.W.mg_of X G a13, k13, b13⟩
  exact ok_law F14 (m_enumerate := m_enumerate) (m_isinstance := m_isinstance) (m_str := m_str) (m_tuple := m_tuple) (c_law_mixed := C3) (c_law_sentence := C9) (c_law_turned := C10) (c_law_text := C11) (cwrite_sentence := C2) (c_law_spoilt := C5) (c_law_read := C7) (c_law_is_places := C13) (c_law_is_names := C12)
end K23
open PySem PySem.W PyProof.Rows
set_option maxHeartbeats 0 in
theorem PySem.Challenge.cw_havenorhunt_k23_sentence_texts_holds : PySem.Challenge.rw_havenorhunt_k23_sentence_texts.Holds := by
  w_on; o_law; k_head; (case hw => w_witness2)
  k_fill
  letI : EL.TabC := ⟨[]⟩
  refine L2.walk_of (l := PySem.Challenge.rw_havenorhunt_k23_sentence_texts) (n := 63) (k := 61) (x := "script") (CX := fun _ => L2.CX0) (sp := fun w => EL.spD _ K23.pre_law K23.res_law) rfl (by decide) rfl ⟨rfl, by decide, by decide⟩ (fun w h Y => PySem.W.kIn_of Y) ?F (fun w H a ns hl _ hS => EL.law_sp hl hS ⟨ns, rfl, hl⟩ rfl) (fun _ _ _ _ _ h => h)
  case F =>
    intro w mg fa h KX G hmg
    refine' K23.all_mk KX G hmg ?a0 ?l0 ?c0 ?k0 ?a1 ?l1 ?c1 ?k1 ?a2 ?l2 ?c2 ?k2 ?a3 ?l3 ?c3 ?k3 ?a4 ?l4 ?c4 ?k4 ?a5 ?l5 ?c5 ?k5 ?a6 ?l6 ?c6 ?k6 ?a7 ?l7 ?c7 ?k7 ?a8 ?l8 ?c8 ?k8 ?a9 ?l9 ?c9 ?k9 ?a10 ?l10 ?c10 ?k10 ?a11 ?l11 ?c11 ?k11 ?a12 ?l12 ?c12 ?k12 ?a13 ?l13 ?c13 ?k13 ?a14 ?l14 ?c14 ?k14 ?z_list ?z_len ?z_isinstance ?z_tuple ?z_str ?z_int ?z_bool ?z_enumerate ?v_BadText ?v_GroundError ?xq_BadText ?xk_BadText ?xs_BadText ?xt_BadText ?h_ga ?h_gt ?h_hd ?h_cl ?h_sp ?h_tk ?h_mo ?h_sf ?h_ge ?y__BEHIND ?lk__BEHIND ?sm__BEHIND ?kl__BEHIND ?rw__BEHIND ?y__PLACES
    (case a0 => k_is); (case l0 => k_is); (case c0 => k_is); (case k0 => k_is); (case a1 => k_is); (case l1 => k_is); (case c1 => k_is); (case k1 => k_is); (case a2 => k_is); (case l2 => k_is); (case c2 => k_is); (case k2 => k_is); (case a3 => k_is); (case l3 => k_is); (case c3 => k_is); (case k3 => k_is); (case a4 => k_is); (case l4 => k_is); (case c4 => k_is); (case k4 => k_is); (case a5 => k_is); (case l5 => k_is); (case c5 => k_is); (case k5 => k_is); (case a6 => k_is); (case l6 => k_is); (case c6 => k_is); (case k6 => k_is); (case a7 => k_is); (case l7 => k_is); (case c7 => k_is); (case k7 => k_is); (case a8 => k_is); (case l8 => k_is); (case c8 => k_is); (case k8 => k_is); (case a9 => k_is); (case l9 => k_is); (case c9 => k_is); (case k9 => k_is); (case a10 => k_is); (case l10 => k_is); (case c10 => k_is); (case k10 => k_is); (case a11 => k_is); (case l11 => k_is); (case c11 => k_is); (case k11 => k_is); (case a12 => k_is); (case l12 => k_is); (case c12 => k_is); (case k12 => k_is); (case a13 => k_is); (case l13 => k_is); (case c13 => k_is); (case k13 => k_is); (case a14 => k_is); (case l14 => k_is); (case c14 => k_is); (case k14 => k_is); (case z_list => k_is); (case z_len => k_is); (case z_isinstance => k_is); (case z_tuple => k_is); (case z_str => k_is); (case z_int => k_is); (case z_bool => k_is); (case z_enumerate => k_is); (case v_BadText => k_is); (case v_GroundError => k_is); (case xq_BadText => k_exc); (case xk_BadText => k_is); (case xs_BadText => k_is); (case xt_BadText => k_is); (case h_ga => first | rfl | k_is); (case h_gt => first | rfl | k_is); (case h_hd => first | rfl | k_is); (case h_cl => first | rfl | k_is); (case h_sp => first | rfl | k_is); (case h_tk => first | rfl | k_is); (case h_mo => first | rfl | k_is); (case h_sf => first | rfl | k_is); (case h_ge => first | rfl | k_is); (case y__BEHIND => k_is); (case lk__BEHIND => k_is); (case sm__BEHIND => first | rfl | decide); (case kl__BEHIND => repeat (first | exact True.intro | refine ⟨⟨_, _, rfl, rfl⟩, ?_⟩)); (case rw__BEHIND => first | rfl | kernel_rfl | decide +kernel); (case y__PLACES => k_is)

