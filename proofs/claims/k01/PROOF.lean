import PyProof.Rows.All
import Wide.All
import OpenK.AllK
import Wide.FinOn
import HandS.ForMost
import HandS.ForExc
import HandS.TryMany
import HandS.ExcField
import HandS.Wide
import HandS.WideMore
import HandS.IsInst
import HandS.TupAny
import HandS.TupMul
import HandS.Style
import HandS.Flow
import HandS.Walk
import HandS.Zip
import HandS.Deep
import HandS.CallSlots
import HandS.RaiseMore
import HandS.TupLen
import HandS.SortInts
import HandS.Conv
import KE.GoesEnum
import KE.GoesMore
import HandS.More
import PyProof.RulesAs
import HandS.EndBits
import HandS.Star
import KE.KDictCopyH
import HandS.Defaults
import HandS.DictComp
import PyProof.ReprLen
import PyProof.Rows.ReprOcc
import PySem.Challenge.RW_anytwo_k01_places_and_what_comes_next
set_option Elab.async false
set_option linter.all false
set_option maxRecDepth 100000
set_option autoImplicit false
namespace Sh
open PySem PySem.Spec PyProof.Rows L2

/-! ### data, the store, results -/
inductive D where
  | non | bl (b : Bool) | int (i : Int) | str (x : Str) | tup (xs : List D) | obj (i : Nat) | kt (xs : List D) | wl (xs : List D) | ty (n : String) | fn (x : Str)
inductive O where
  | lst (xs : List D)
  | dK (kvs : List (Key × D))
  | dT (kvs : List (List Key × D))
  | ins (c : Str) (fs : List (Str × D))
abbrev Sto := List O
inductive R (α : Type) where
  | ok (a : α) (S : Sto)
  | ex (c : Str) (w : D) (S : Sto)
  | no
def R.bind {α β : Type} : R α → (α → Sto → R β) → R β
  | .ok a S, k => k a S
  | .ex c w S, _ => .ex c w S
  | .no, _ => .no
abbrev Env := List (Option D)
abbrev EM := Env → Sto → R D
abbrev TM := Env → Sto → R Bool
abbrev AM := Env → Sto → R (List D)

/-! ### the relations -/
def KTup (K : PySem.W.Frag) (a : Addr) (vs : List V) : Prop :=
  ∃ (o : Obj) (its : Array Value) (n : Nat), K.lookup a = some o ∧ o.cls = .type "tuple" ∧ o.data = .seq its n ∧ its.size ≤ sizeLine ∧ Vals vs its.toList
def KLst (K : PySem.W.Frag) (a : Addr) (xs : List V) : Prop :=
  ∃ (o : Obj) (its : Array Value) (n : Nat), K.lookup a = some o ∧ o.cls = .type "list" ∧ o.dict = none ∧ o.data = .seq its n ∧ its.size ≤ sizeLine ∧ Vals xs its.toList
mutual
inductive DR (K : PySem.W.Frag) (mg : Str → Option Value) (ι : List Addr) (H : Hp) : D → V → Prop
  | non : DR K mg ι H .non .non
  | bl (b : Bool) : DR K mg ι H (.bl b) (.bl b)
  | int (i : Int) : DR K mg ι H (.int i) (.int i)
  | str (x : Str) : DR K mg ι H (.str x) (.str x)
  | tup {ds : List D} {a : Addr} {vs : List V} : H a = some (.tup vs) → DRs K mg ι H ds vs → DR K mg ι H (.tup ds) (.ref a)
  | kt {ds : List D} {a : Addr} {vs : List V} : KTup K a vs → DRs K mg ι H ds vs → DR K mg ι H (.kt ds) (.ref a)
  | obj {i : Nat} {a : Addr} : ι[i]? = some a → DR K mg ι H (.obj i) (.ref a)
  | wl {ds : List D} {a : Addr} {vs : List V} : ((∃ o, H a = some (.frz o (.lst vs))) ∨ KLst K a vs) → DRs K mg ι H ds vs → DR K mg ι H (.wl ds) (.ref a)
  | ty (n : String) : DR K mg ι H (.ty n) (.ty n)
  | fn {x : Str} {a : Addr} : mg x = some (.ref a) → DR K mg ι H (.fn x) (.ref a)
inductive DRs (K : PySem.W.Frag) (mg : Str → Option Value) (ι : List Addr) (H : Hp) : List D → List V → Prop
  | nil : DRs K mg ι H [] []
  | cons {d : D} {v : V} {ds : List D} {vs : List V} : DR K mg ι H d v → DRs K mg ι H ds vs → DRs K mg ι H (d :: ds) (v :: vs)
end
structure Ext (ι : List Addr) (H : Hp) (ι' : List Addr) (H' : Hp) : Prop where
  pre : ι <+: ι'
  tup : ∀ a vs, H a = some (.tup vs) → H' a = some (.tup vs)
  frz : ∀ a o u, H a = some (.frz o u) → H' a = some (.frz o u)
  xd : ∀ a fs, H a = some (.xd fs) → H' a = some (.xd fs)
section
variable {K : PySem.W.Frag} {mg : Str → Option Value} {ι ι' ι2 : List Addr} {H H' H2 : Hp}
theorem Ext.refl (ι : List Addr) (H : Hp) : Ext ι H ι H := ⟨List.prefix_refl _, fun _ _ h => h, fun _ _ _ h => h, fun _ _ h => h⟩
theorem Ext.trans (a : Ext ι H ι' H') (b : Ext ι' H' ι2 H2) : Ext ι H ι2 H2 :=
  ⟨a.pre.trans b.pre, fun p vs h => b.tup p vs (a.tup p vs h), fun p o u h => b.frz p o u (a.frz p o u h), fun p fs h => b.xd p fs (a.xd p fs h)⟩
theorem Ext.get (e : Ext ι H ι' H') {i : Nat} {a : Addr} (h : ι[i]? = some a) : ι'[i]? = some a := by
  obtain ⟨t, rfl⟩ := e.pre
  rw [List.getElem?_append_left (List.getElem?_eq_some_iff.mp h).1]; exact h
/-- a new object at p -/
theorem Ext.new {p : Addr} {o : HO} (h : H p = none) : Ext ι H ι (upd H p o) :=
  ⟨List.prefix_refl _, fun a vs e => by rw [upd_ne (ne_of_none e h)]; exact e, fun a ob u e => by rw [upd_ne (ne_of_none e h)]; exact e, fun a fs e => by rw [upd_ne (ne_of_none e h)]; exact e⟩
theorem Ext.newI {p : Addr} {o : HO} (h : H p = none) : Ext ι H (ι ++ [p]) (upd H p o) :=
  ⟨List.prefix_append _ _, (Ext.new (ι := ι) h).tup, (Ext.new (ι := ι) h).frz, (Ext.new (ι := ι) h).xd⟩
/-- what may be written is no tuple, nothing frozen, no exception's dict -/
theorem Ext.write {p : Addr} {o u : HO} (h : H p = some u) (mu : Mut (some u)) : Ext ι H ι (upd H p o) :=
  ⟨List.prefix_refl _, fun a vs e => by rw [upd_ne (by rintro rfl; rw [h] at e; cases e; exact mu)]; exact e, fun a ob w e => by rw [upd_ne (by rintro rfl; rw [h] at e; cases e; exact mu)]; exact e,
    fun a fs e => by rw [upd_ne (by rintro rfl; rw [h] at e; cases e; exact mu)]; exact e⟩
mutual
theorem DR.mono (e : Ext ι H ι' H') : ∀ {d : D} {v : V}, DR K mg ι H d v → DR K mg ι' H' d v
  | _, _, .non => .non
  | _, _, .bl b => .bl b
  | _, _, .int i => .int i
  | _, _, .str x => .str x
  | _, _, .tup h hs => .tup (e.tup _ _ h) (DRs.mono e hs)
  | _, _, .kt h hs => .kt h (DRs.mono e hs)
  | _, _, .obj h => .obj (e.get h)
  | _, _, .wl h hs => .wl (h.imp (fun ⟨o, q⟩ => ⟨o, e.frz _ _ _ q⟩) id) (DRs.mono e hs)
  | _, _, .ty n => .ty n
  | _, _, .fn h => .fn h
theorem DRs.mono (e : Ext ι H ι' H') : ∀ {ds : List D} {vs : List V}, DRs K mg ι H ds vs → DRs K mg ι' H' ds vs
  | _, _, .nil => .nil
  | _, _, .cons h hs => .cons (DR.mono e h) (DRs.mono e hs)
end
theorem DRs.length : ∀ {ds : List D} {vs : List V}, DRs K mg ι H ds vs → ds.length = vs.length
  | _, _, .nil => rfl
  | _, _, .cons _ h => by simp [DRs.length h]
theorem DRs.get : ∀ {ds : List D} {vs : List V} {i : Nat} {d : D}, DRs K mg ι H ds vs → ds[i]? = some d → ∃ v, vs[i]? = some v ∧ DR K mg ι H d v
  | _, _, 0, _, .cons h _, e => by simp at e; subst e; exact ⟨_, rfl, h⟩
  | _, _, i + 1, _, .cons _ h, e => by
    obtain ⟨v, q, r⟩ := DRs.get (i := i) h (by simpa using e)
    exact ⟨v, by simpa using q, r⟩
  | _, _, _, _, .nil, e => by simp at e
theorem DRs.getV : ∀ {ds : List D} {vs : List V} {i : Nat} {v : V}, DRs K mg ι H ds vs → vs[i]? = some v → ∃ d, ds[i]? = some d ∧ DR K mg ι H d v
  | _, _, 0, _, .cons h _, e => by simp at e; subst e; exact ⟨_, rfl, h⟩
  | _, _, i + 1, _, .cons _ h, e => by
    obtain ⟨v, q, r⟩ := DRs.getV (i := i) h (by simpa using e)
    exact ⟨v, by simpa using q, r⟩
  | _, _, _, _, .nil, e => by simp at e
theorem DRs.app : ∀ {ds es : List D} {vs ws : List V}, DRs K mg ι H ds vs → DRs K mg ι H es ws → DRs K mg ι H (ds ++ es) (vs ++ ws)
  | _, _, _, _, .nil, h => h
  | _, _, _, _, .cons a b, h => .cons a (DRs.app b h)
theorem DRs.take : ∀ {ds : List D} {vs : List V} (n : Nat), DRs K mg ι H ds vs → DRs K mg ι H (ds.take n) (vs.take n)
  | _, _, 0, _ => .nil
  | _, _, _ + 1, .nil => .nil
  | _, _, n + 1, .cons a b => .cons a (DRs.take n b)
theorem DRs.drop : ∀ {ds : List D} {vs : List V} (n : Nat), DRs K mg ι H ds vs → DRs K mg ι H (ds.drop n) (vs.drop n)
  | _, _, 0, h => h
  | _, _, _ + 1, .nil => .nil
  | _, _, n + 1, .cons _ b => DRs.drop n b
theorem DRs.set {d : D} {v : V} (h : DR K mg ι H d v) : ∀ {ds : List D} {vs : List V} (i : Nat), DRs K mg ι H ds vs → DRs K mg ι H (ds.set i d) (vs.set i v)
  | _, _, _, .nil => .nil
  | _, _, 0, .cons _ b => .cons h b
  | _, _, i + 1, .cons a b => .cons a (DRs.set h i b)
theorem DRs.eraseIdx : ∀ {ds : List D} {vs : List V} (i : Nat), DRs K mg ι H ds vs → DRs K mg ι H (ds.eraseIdx i) (vs.eraseIdx i)
  | _, _, _, .nil => .nil
  | _, _, 0, .cons _ b => b
  | _, _, i + 1, .cons a b => .cons a (DRs.eraseIdx i b)
theorem DRs.rep {ds : List D} {vs : List V} (h : DRs K mg ι H ds vs) : ∀ k : Nat, DRs K mg ι H (List.replicate k ds).flatten (List.replicate k vs).flatten
  | 0 => .nil
  | k + 1 => by
    rw [List.replicate_succ, List.replicate_succ, List.flatten_cons, List.flatten_cons]
    exact h.app (DRs.rep h k)
theorem DR.sqT {ds : List D} {v : V} (h : DR K mg ι H (.tup ds) v) : ∃ a vs, v = .ref a ∧ SqT K H a vs ∧ DRs K mg ι H ds vs := by
  cases h with
  | tup h hs => exact ⟨_, _, rfl, .inl (.inl h), hs⟩
theorem DR.sqK {ds : List D} {v : V} (h : DR K mg ι H (.kt ds) v) : ∃ a vs, v = .ref a ∧ SqT K H a vs ∧ DRs K mg ι H ds vs := by
  cases h with
  | kt h hs => exact ⟨_, _, rfl, .inr h, hs⟩
theorem DR.sqW {ds : List D} {v : V} (h : DR K mg ι H (.wl ds) v) : ∃ a vs, v = .ref a ∧ SqL K H a vs ∧ DRs K mg ι H ds vs := by
  cases h with
  | wl h hs => exact ⟨_, _, rfl, h.elim (fun ⟨o, q⟩ => .inl (.inr ⟨o, q⟩)) .inr, hs⟩
end
/-- entries of a dict, attributes of an instance -/
inductive KR (K : PySem.W.Frag) (mg : Str → Option Value) (ι : List Addr) (H : Hp) {κ : Type} : List (κ × D) → List (κ × V) → Prop
  | nil : KR K mg ι H [] []
  | cons {k : κ} {d : D} {v : V} {ds : List (κ × D)} {vs : List (κ × V)} : DR K mg ι H d v → KR K mg ι H ds vs → KR K mg ι H ((k, d) :: ds) ((k, v) :: vs)
theorem KR.mono {K : PySem.W.Frag} {mg : Str → Option Value} {ι ι' : List Addr} {H H' : Hp} {κ : Type} (e : Ext ι H ι' H') : ∀ {ds : List (κ × D)} {vs : List (κ × V)}, KR K mg ι H ds vs → KR K mg ι' H' ds vs
  | _, _, .nil => .nil
  | _, _, .cons h hs => .cons (h.mono e) (KR.mono e hs)
/-- an object of the store, at its address -/
inductive OR (K : PySem.W.Frag) (mg : Str → Option Value) (ι : List Addr) (H : Hp) : O → HO → Prop
  | lst {ds : List D} {vs : List V} : DRs K mg ι H ds vs → OR K mg ι H (.lst ds) (.lst vs)
  | dK {ds : List (Key × D)} {vs : List (Key × V)} : KR K mg ι H ds vs → OR K mg ι H (.dK ds) (.dK vs)
  | dT {ds : List (List Key × D)} {vs : List (List Key × V)} : KR K mg ι H ds vs → OR K mg ι H (.dT ds) (.dT vs)
  | ins {c : Str} {C dx : Addr} {ds : List (Str × D)} {vs : List (Str × V)} : mg c = some (.ref C) → KR K mg ι H ds vs → OR K mg ι H (.ins c ds) (.ins C dx vs)
theorem OR.mono {K : PySem.W.Frag} {mg : Str → Option Value} {ι ι' : List Addr} {H H' : Hp} (e : Ext ι H ι' H') {o : O} {u : HO} (h : OR K mg ι H o u) : OR K mg ι' H' o u := by
  cases h with
  | lst h => exact .lst (h.mono e)
  | dK h => exact .dK (h.mono e)
  | dT h => exact .dT (h.mono e)
  | ins m h => exact .ins m (h.mono e)
theorem OR.mut {K : PySem.W.Frag} {mg : Str → Option Value} {ι : List Addr} {H : Hp} {o : O} {u : HO} (h : OR K mg ι H o u) : Mut (some u) := by cases h <;> trivial
structure SR (K : PySem.W.Frag) (mg : Str → Option Value) (ι : List Addr) (S : Sto) (H : Hp) : Prop where
  len : ι.length = S.length
  nd : ι.Nodup
  at_ : ∀ (i : Nat) (o : O) (a : Addr), S[i]? = some o → ι[i]? = some a → ∃ u, H a = some u ∧ OR K mg ι H o u
section
variable {K : PySem.W.Frag} {mg : Str → Option Value} {ι ι' : List Addr} {S S' : Sto} {H H' : Hp}
theorem SR.get (s : SR K mg ι S H) {i : Nat} {o : O} (h : S[i]? = some o) : ∃ a u, ι[i]? = some a ∧ H a = some u ∧ OR K mg ι H o u := by
  have hi : i < ι.length := by rw [s.len]; exact (List.getElem?_eq_some_iff.mp h).1
  obtain ⟨u, q, r⟩ := s.at_ i o ι[i] h (List.getElem?_eq_getElem hi)
  exact ⟨ι[i], u, List.getElem?_eq_getElem hi, q, r⟩
theorem SR.free (s : SR K mg ι S H) {p : Addr} (h : H p = none) : p ∉ ι := fun hm => by
  obtain ⟨i, hi, e⟩ := List.getElem_of_mem hm
  obtain ⟨u, q, _⟩ := s.at_ i _ p (List.getElem?_eq_getElem (by rw [← s.len]; exact hi)) (by rw [← e]; exact List.getElem?_eq_getElem hi)
  rw [h] at q; cases q
/-- a thing of no store is laid -/
theorem SR.lay (s : SR K mg ι S H) {p : Addr} {u : HO} (h : H p = none) : SR K mg ι S (upd H p u) :=
  ⟨s.len, s.nd, fun i o a hi ha => by
    obtain ⟨w, q, r⟩ := s.at_ i o a hi ha
    exact ⟨w, by rw [upd_ne (ne_of_none q h)]; exact q, r.mono (Ext.new h)⟩⟩
/-- a new object of the store -/
theorem SR.push (s : SR K mg ι S H) {p : Addr} {o : O} {u : HO} (h : H p = none) (r : OR K mg (ι ++ [p]) (upd H p u) o u) : SR K mg (ι ++ [p]) (S ++ [o]) (upd H p u) := by
  refine ⟨by simp [s.len], List.nodup_append.mpr ⟨s.nd, by simp, fun a ha b hb => ?_⟩, fun i ob a hi ha => ?_⟩
  · rintro rfl
    rw [List.mem_singleton.mp hb] at ha
    exact s.free h ha
  · by_cases hlt : i < S.length
    · rw [List.getElem?_append_left hlt] at hi
      rw [List.getElem?_append_left (by rw [s.len]; exact hlt)] at ha
      obtain ⟨w, q, rr⟩ := s.at_ i ob a hi ha
      exact ⟨w, by rw [upd_ne (ne_of_none q h)]; exact q, rr.mono (Ext.newI h)⟩
    · have e : i = S.length := by
        have := (List.getElem?_eq_some_iff.mp hi).1
        simp at this; omega
      subst e
      rw [List.getElem?_append_right (Nat.le_refl _)] at hi
      rw [← s.len, List.getElem?_append_right (Nat.le_refl _)] at ha
      simp at hi ha
      subst hi ha
      exact ⟨u, upd_same, r⟩
/-- an object is written -/
theorem SR.write (s : SR K mg ι S H) {i : Nat} {o o' : O} {a : Addr} {u : HO} (hi : S[i]? = some o) (ha : ι[i]? = some a) (r : OR K mg ι (upd H a u) o' u) : SR K mg ι (S.set i o') (upd H a u) := by
  obtain ⟨w, hw, rw_⟩ := s.at_ i o a hi ha
  refine ⟨by simp [s.len], s.nd, fun j ob b hj hb => ?_⟩
  by_cases e : j = i
  · subst e
    rw [ha] at hb; cases hb
    rw [List.getElem?_set_self (List.getElem?_eq_some_iff.mp hi).1] at hj
    cases hj
    exact ⟨u, upd_same, r⟩
  · rw [List.getElem?_set_ne (Ne.symm e)] at hj
    obtain ⟨v, q, rr⟩ := s.at_ j ob b hj hb
    have hne : b ≠ a := fun z => by
      subst z
      exact e (nd_ix s.nd hb ha)
    exact ⟨v, by rw [upd_ne hne]; exact q, rr.mono (Ext.write hw rw_.mut)⟩
theorem SR.list (s : SR K mg ι S H) {i : Nat} {ds : List D} (h : S[i]? = some (.lst ds)) : ∃ a vs, ι[i]? = some a ∧ H a = some (.lst vs) ∧ DRs K mg ι H ds vs := by
  obtain ⟨a, u, ha, hu, r⟩ := s.get h
  cases r with
  | lst r => exact ⟨a, _, ha, hu, r⟩
end
/-- the slots -/
structure ER (K : PySem.W.Frag) (mg : Str → Option Value) (ι : List Addr) (H : Hp) (ρ : Env) (σ : L2.St) : Prop where
  len : ρ.length = σ.length
  at_ : ∀ (i : Nat) (d : D), ρ[i]? = some (some d) → ∃ v, σ[i]? = some (some v) ∧ DR K mg ι H d v
section
variable {K : PySem.W.Frag} {mg : Str → Option Value} {ι ι' : List Addr} {S S' : Sto} {H H' : Hp} {ρ : Env} {σ : L2.St}
theorem ER.mono (e : Ext ι H ι' H') (r : ER K mg ι H ρ σ) : ER K mg ι' H' ρ σ := ⟨r.len, fun i d h => let ⟨v, q, x⟩ := r.at_ i d h; ⟨v, q, x.mono e⟩⟩
theorem ER.set (r : ER K mg ι H ρ σ) {d : D} {v : V} (h : DR K mg ι H d v) (i : Nat) : ER K mg ι H (ρ.set i (some d)) (σ.set i (some v)) := by
  refine ⟨by simp [r.len], fun j e hj => ?_⟩
  by_cases q : j = i
  · subst q
    have hl : j < ρ.length := by have := (List.getElem?_eq_some_iff.mp hj).1; simpa using this
    rw [List.getElem?_set_self hl] at hj
    cases hj
    exact ⟨v, by rw [List.getElem?_set_self (by rw [← r.len]; exact hl)], h⟩
  · rw [List.getElem?_set_ne (Ne.symm q)] at hj
    obtain ⟨w, a, b⟩ := r.at_ j e hj
    exact ⟨w, by rw [List.getElem?_set_ne (Ne.symm q)]; exact a, b⟩
theorem ER.unset (r : ER K mg ι H ρ σ) (i : Nat) (y : Option V) : ER K mg ι H (ρ.set i none) (σ.set i y) := by
  refine ⟨by simp [r.len], fun j e hj => ?_⟩
  by_cases q : j = i
  · subst q
    have hl : j < ρ.length := by have := (List.getElem?_eq_some_iff.mp hj).1; simpa using this
    rw [List.getElem?_set_self hl] at hj
    cases hj
  · rw [List.getElem?_set_ne (Ne.symm q)] at hj
    obtain ⟨w, a, b⟩ := r.at_ j e hj
    exact ⟨w, by rw [List.getElem?_set_ne (Ne.symm q)]; exact a, b⟩
end
/-! ### what is wanted behind, from a result -/
def XGood (K : PySem.W.Frag) (mg : Str → Option Value) (W : WX) (ι : List Addr) (H : Hp) (c : Str) (w : D) (S : Sto) (Z : List Addr → Hp → L2.St → Prop) : Prop :=
  ∀ ι' H' σ' C dd v, Ext ι H ι' H' → SR K mg ι' S H' → Z ι' H' σ' → mg c = some (.ref C) → H' dd = some (.xd [(("what" : Str), v)]) → DR K mg ι' H' w v → W (.ref C) (some dd) σ' H'
def Good {α : Type} (K : PySem.W.Frag) (mg : Str → Option Value) (W : WX) (ι : List Addr) (H : Hp) (σ : L2.St) (P : α → List Addr → Hp → Prop) : R α → Prop
  | .ok d S => ∀ ι' H', Ext ι H ι' H' → SR K mg ι' S H' → P d ι' H'
  | .ex c w S => XGood K mg W ι H c w S (fun _ _ σ' => σ' = σ)
  | .no => False
abbrev QV (K : PySem.W.Frag) (mg : Str → Option Value) (Q : VK) : D → List Addr → Hp → Prop := fun d ι H => ∀ v, DR K mg ι H d v → Q v H
abbrev QB (Q : Bool → Hp → Prop) : Bool → List Addr → Hp → Prop := fun b _ H => Q b H
abbrev QA (K : PySem.W.Frag) (mg : Str → Option Value) (Q : List V → Hp → Prop) : List D → List Addr → Hp → Prop := fun ds ι H => ∀ vs, DRs K mg ι H ds vs → Q vs H
def SimE (K : PySem.W.Frag) (mg : Str → Option Value) (W : WX) (t : TE) (m : EM) : Prop :=
  ∀ ι S H ρ σ Q, SR K mg ι S H → ER K mg ι H ρ σ → Good K mg W ι H σ (QV K mg Q) (m ρ S) → t σ H Q
def SimT (K : PySem.W.Frag) (mg : Str → Option Value) (W : WX) (t : TT) (m : TM) : Prop :=
  ∀ ι S H ρ σ Q, SR K mg ι S H → ER K mg ι H ρ σ → Good K mg W ι H σ (QB Q) (m ρ S) → t σ H Q
def SimA (K : PySem.W.Frag) (mg : Str → Option Value) (W : WX) (t : TA) (m : AM) : Prop :=
  ∀ ι S H ρ σ Q, SR K mg ι S H → ER K mg ι H ρ σ → Good K mg W ι H σ (QA K mg Q) (m ρ S) → t σ H Q
structure Ee (X : Cx) (W : WX) (e : Expr) (t : TE) (m : EM) : Prop where
  der : PE X e t
  sim : SimE X.K X.mg W t m
structure Et (X : Cx) (W : WX) (e : Expr) (t : TT) (m : TM) : Prop where
  der : PT X e t
  sim : SimT X.K X.mg W t m
structure Ea (X : Cx) (W : WX) (es : List Expr) (t : TA) (m : AM) : Prop where
  der : PA X es t
  sim : SimA X.K X.mg W t m
section
variable {α : Type} {K : PySem.W.Frag} {mg : Str → Option Value} {W : WX} {ι ι' : List Addr} {S S' : Sto} {H H' : Hp} {ρ : Env} {σ : L2.St} {P : α → List Addr → Hp → Prop}
theorem XGood.mono {c : Str} {w : D} {Z : List Addr → Hp → L2.St → Prop} (e : Ext ι H ι' H') (h : XGood K mg W ι H c w S Z) : XGood K mg W ι' H' c w S Z := fun a b d C dd v x => h a b d C dd v (e.trans x)
theorem Good.mono {r : R α} (e : Ext ι H ι' H') (h : Good K mg W ι H σ P r) : Good K mg W ι' H' σ P r := by
  cases r with
  | ok d S => exact fun a b x => h a b (e.trans x)
  | ex c w S => exact XGood.mono e h
  | no => exact h
theorem Good.now {d : α} (g : Good K mg W ι H σ P (.ok d S)) (s : SR K mg ι S H) : P d ι H := g ι H (Ext.refl _ _) s
/-- the first of two: its result, then the rest -/
theorem bindE {ta : TE} {ma : EM} {k : D → Sto → R α} (ha : SimE K mg W ta ma) (s : SR K mg ι S H) (r : ER K mg ι H ρ σ) (g : Good K mg W ι H σ P ((ma ρ S).bind k)) {Q : VK}
    (h : ∀ d S1 ι1 H1 v, Ext ι H ι1 H1 → SR K mg ι1 S1 H1 → ER K mg ι1 H1 ρ σ → DR K mg ι1 H1 d v → Good K mg W ι1 H1 σ P (k d S1) → Q v H1) : ta σ H Q := by
  refine ha ι S H ρ σ Q s r ?_
  cases q : ma ρ S with
  | ok d S1 =>
    rw [q] at g
    exact fun ι1 H1 e s1 v x => h d S1 ι1 H1 v e s1 (r.mono e) x (Good.mono e g)
  | ex c w S1 => rw [q] at g; exact g
  | no => rw [q] at g; exact g.elim
theorem bindT {ta : TT} {ma : TM} {k : Bool → Sto → R α} (ha : SimT K mg W ta ma) (s : SR K mg ι S H) (r : ER K mg ι H ρ σ) (g : Good K mg W ι H σ P ((ma ρ S).bind k)) {Q : Bool → Hp → Prop}
    (h : ∀ b S1 ι1 H1, Ext ι H ι1 H1 → SR K mg ι1 S1 H1 → ER K mg ι1 H1 ρ σ → Good K mg W ι1 H1 σ P (k b S1) → Q b H1) : ta σ H Q := by
  refine ha ι S H ρ σ Q s r ?_
  cases q : ma ρ S with
  | ok d S1 =>
    rw [q] at g
    exact fun ι1 H1 e s1 => h d S1 ι1 H1 e s1 (r.mono e) (Good.mono e g)
  | ex c w S1 => rw [q] at g; exact g
  | no => rw [q] at g; exact g.elim
theorem bindA {ta : TA} {ma : AM} {k : List D → Sto → R α} (ha : SimA K mg W ta ma) (s : SR K mg ι S H) (r : ER K mg ι H ρ σ) (g : Good K mg W ι H σ P ((ma ρ S).bind k)) {Q : List V → Hp → Prop}
    (h : ∀ ds S1 ι1 H1 vs, Ext ι H ι1 H1 → SR K mg ι1 S1 H1 → ER K mg ι1 H1 ρ σ → DRs K mg ι1 H1 ds vs → Good K mg W ι1 H1 σ P (k ds S1) → Q vs H1) : ta σ H Q := by
  refine ha ι S H ρ σ Q s r ?_
  cases q : ma ρ S with
  | ok d S1 =>
    rw [q] at g
    exact fun ι1 H1 e s1 vs x => h d S1 ι1 H1 vs e s1 (r.mono e) x (Good.mono e g)
  | ex c w S1 => rw [q] at g; exact g
  | no => rw [q] at g; exact g.elim
end
end Sh

set_option Elab.async false
set_option linter.all false
set_option maxRecDepth 100000
set_option autoImplicit false
namespace Sh
open PySem PySem.Spec PyProof.Rows L2
theorem szl : (sizeLine : Nat) = 16777216 := sizeLine_eq
section
variable {X : Cx} {W : WX} {e a b : Expr} {es : List Expr} {ta tb te : TE} {ma mb me : EM} {t : TA} {m : AM} {pos : Pos}
/-! ### names, constants, displays -/
def eVar (i : Nat) : EM := fun ρ S => match ρ[i]? with
  | some (some d) => .ok d S
  | _ => .no
def eLit (d : D) : EM := fun _ S => .ok d S
theorem ee_var (i : Nat) {x : Str} (hN : X.N[i]? = some x := by rfl) (hv : Vis X.env.scope x := by first | exact Or.inl rfl | exact Or.inr (Or.inl rfl) | exact Or.inr (Or.inr rfl)) (hd : (x == ("__debug__" : Str)) = false := by decide)
    (hcd : (x == ("__classdict__" : Str)) = false := by decide) : Ee X W (.Name x pos) (tVar i) (eVar i) := by
  refine ⟨pe_var hN hv hd hcd, fun ι S H ρ σ Q s r g => ?_⟩
  unfold eVar at g
  split at g
  · rename_i d q
    obtain ⟨v, q1, q2⟩ := r.at_ i d q
    exact ⟨v, q1, g.now s v q2⟩
  · exact g.elim
theorem ee_lit {d : D} {v : V} (der : PE X e (tC v)) (h : ∀ ι H, DR X.K X.mg ι H d v) : Ee X W e (tC v) (eLit d) := ⟨der, fun ι S H ρ σ Q s r g => g.now s v (h ι H)⟩
theorem ee_int {i : Int} {j : Nat} : Ee X W (.Constant (.int i) j pos) (tC (.int i)) (eLit (.int i)) := ee_lit pe_int fun _ _ => .int i
theorem ee_bl {b : Bool} {j : Nat} : Ee X W (.Constant (.bool b) j pos) (tC (.bl b)) (eLit (.bl b)) := ee_lit pe_bl fun _ _ => .bl b
theorem ee_non {j : Nat} : Ee X W (.Constant .none j pos) (tC .non) (eLit .non) := ee_lit pe_non fun _ _ => .non
theorem ee_str {x : Str} {j : Nat} : Ee X W (.Constant (.str x) j pos) (tC (.str x)) (eLit (.str x)) := ee_lit pe_str fun _ _ => .str x
def aNil : AM := fun _ S => .ok [] S
def aCons (a : EM) (r : AM) : AM := fun ρ S => (a ρ S).bind fun d S1 => (r ρ S1).bind fun ds S2 => .ok (d :: ds) S2
theorem ea_nil : Ea X W [] tNil aNil := ⟨pa_nil, fun ι S H ρ σ Q s r g => g.now s [] .nil⟩
theorem ea_cons (ha : Ee X W e te me) (hr : Ea X W es t m) (hs : starEach (e :: es) X.env = (false, eval e X.env) :: starEach es X.env := by rfl) : Ea X W (e :: es) (tCons te t) (aCons me m) :=
  ⟨pa_cons ha.der hr.der hs, fun ι S H ρ σ Q s r g => bindE ha.sim s r g fun d S1 ι1 H1 v e1 s1 r1 x g1 => bindA hr.sim s1 r1 g1 fun ds S2 ι2 H2 vs e2 s2 r2 xs g2 => g2.now s2 _ (.cons (x.mono e2) xs)⟩
def eTup (m : AM) : EM := fun ρ S => (m ρ S).bind fun ds S1 => if ds.length ≤ 16777216 then .ok (.tup ds) S1 else .no
theorem ee_tup {k : Nat} (h : Ea X W es t m) : Ee X W (.Tuple es k pos) (tTup t) (eTup m) :=
  ⟨pe_tup h.der, fun ι S H ρ σ Q s r g => bindA h.sim s r g fun ds S1 ι1 H1 vs e1 s1 r1 x g1 => by
    split at g1
    · rename_i hl
      refine ⟨by rw [szl, ← x.length]; exact hl, fun p hp => ?_⟩
      exact g1 ι1 _ (Ext.new hp) (s1.lay hp) _ (.tup upd_same (x.mono (Ext.new hp)))
    · exact g1.elim⟩
def eLst (m : AM) : EM := fun ρ S => (m ρ S).bind fun ds S1 => if ds.length ≤ 16777216 then .ok (.obj S1.length) (S1 ++ [.lst ds]) else .no
theorem SR.last {K : PySem.W.Frag} {mg : Str → Option Value} {ι : List Addr} {S : Sto} {H : Hp} (s : SR K mg ι S H) {p : Addr} : (ι ++ [p])[S.length]? = some p := by
  rw [← s.len]; simp
theorem ee_lst (h : Ea X W es t m) : Ee X W (.List es pos) (tLst t) (eLst m) :=
  ⟨pe_lst h.der, fun ι S H ρ σ Q s r g => bindA h.sim s r g fun ds S1 ι1 H1 vs e1 s1 r1 x g1 => by
    split at g1
    · rename_i hl
      refine ⟨by rw [szl, ← x.length]; exact hl, fun p hp => ?_⟩
      exact g1 (ι1 ++ [p]) _ (Ext.newI hp) (s1.push hp (.lst (x.mono (Ext.newI hp)))) _ (.obj s1.last)
    · exact g1.elim⟩
/-! ### two-place operations -/
structure OpS (X : Cx) (W : WX) (f : Value → Value → Sem Value) (r : R2) (g : D → D → Sto → R D) : Prop where
  der : OpR X f r
  sim : ∀ ι S H σ (x y : V) (d e : D) (Q : VK), SR X.K X.mg ι S H → DR X.K X.mg ι H d x → DR X.K X.mg ι H e y → Good X.K X.mg W ι H σ (QV X.K X.mg Q) (g d e S) → r x y H Q
def eBin (f : D → D → Sto → R D) (a b : EM) : EM := fun ρ S => (a ρ S).bind fun x S1 => (b ρ S1).bind fun y S2 => f x y S2
theorem sim_bin {K : PySem.W.Frag} {mg : Str → Option Value} {r : R2} {g : D → D → Sto → R D} (h : ∀ ι S H σ (x y : V) (d e : D) (Q : VK), SR K mg ι S H → DR K mg ι H d x → DR K mg ι H e y → Good K mg W ι H σ (QV K mg Q) (g d e S) → r x y H Q)
    (ha : SimE K mg W ta ma) (hb : SimE K mg W tb mb) : SimE K mg W (tOp r ta tb) (eBin g ma mb) :=
  fun ι S H ρ σ Q s r g => bindE ha s r g fun d S1 ι1 H1 v e1 s1 r1 x g1 => bindE hb s1 r1 g1 fun d2 S2 ι2 H2 v2 e2 s2 r2 x2 g2 => h ι2 S2 H2 σ v v2 d d2 Q s2 (x.mono e2) x2 g2
theorem ee_op {op : Operator} {r : R2} {g : D → D → Sto → R D} (ho : OpS X W (binaryOp op) r g) (ha : Ee X W a ta ma) (hb : Ee X W b tb mb) : Ee X W (.BinOp a op b pos) (tOp r ta tb) (eBin g ma mb) :=
  ⟨pe_op ho.der ha.der hb.der, sim_bin ho.sim ha.sim hb.sim⟩
theorem ee_cmp {op : CmpOp} {r : R2} {g : D → D → Sto → R D} (ho : OpS X W (compareOp op) r g) (ha : Ee X W a ta ma) (hb : Ee X W b tb mb) (hm : behindInMarks op b = false := by first | exact nomark _ | rfl) : Ee X W (.Compare a [op] [b] pos) (tOp r ta tb) (eBin g ma mb) :=
  ⟨pe_cmpR ho.der ha.der hb.der hm, sim_bin ho.sim ha.sim hb.sim⟩
/-- a value that is a bool, as a test -/
def tBl (m : EM) : TM := fun ρ S => (m ρ S).bind fun d S1 => match d with
  | .bl b => .ok b S1
  | _ => .no
theorem sim_bl {K : PySem.W.Frag} {mg : Str → Option Value} (h : SimE K mg W te me) : SimT K mg W (tTest te) (tBl me) :=
  fun ι S H ρ σ Q s r g => bindE h s r g fun d S1 ι1 H1 v e1 s1 r1 x g1 => by
    cases x <;> first | exact g1.elim | skip
    exact ⟨_, rfl, g1.now s1⟩
theorem et_cmp {op : CmpOp} {r : R2} {g : D → D → Sto → R D} (ho : OpS X W (compareOp op) r g) (ha : Ee X W a ta ma) (hb : Ee X W b tb mb) (hm : behindInMarks op b = false := by first | exact nomark _ | rfl) : Et X W (.Compare a [op] [b] pos) (tTest (tOp r ta tb)) (tBl (eBin g ma mb)) :=
  ⟨pt_cmpR ho.der ha.der hb.der hm, sim_bl (sim_bin ho.sim ha.sim hb.sim)⟩
end
end Sh

set_option Elab.async false
set_option linter.all false
set_option maxRecDepth 100000
set_option maxHeartbeats 4000000
set_option autoImplicit false
namespace Sh
open PySem PySem.Spec PyProof.Rows L2
/-! ### a tuple times a number, also once, also many thousand times -/
theorem once_same (at_ : Addr) (row : Array Value) (num : Nat) (own : Option Addr) (slo : Array (Option Value)) (tk : Tok) :
    Meets (Builtin.«tuple.__mul__» ⟨[.ref at_, .int 1 tk], []⟩) (fun _ R st => st.heap.get? at_ = some { cls := .type "tuple", dict := own, data := .seq row num, slots := slo } ∧ R (.ok (.ret (.ref at_))) st) :=
  .of_wp fun prog w A R st hyp => by
    obtain ⟨hp, gs, dd, tt, oo⟩ := st
    obtain ⟨look, fin⟩ := hyp
    have isx := AutoSeq1.idx_int
    wp_walk using wpAny_loadPart' look
    exact ⟨_, rfl, fin⟩
/-- any times, also once: the same tuple then -/
def rRepB (K : PySem.W.Frag) : R2 := fun x y H Q => ∃ at_ k row, x = .ref at_ ∧ y = .int k ∧ SqT K H at_ row ∧ row ≠ [] ∧ 2 ≤ k ∧ k ≤ 10000 ∧ row.length ≤ 1000 ∧
  ∀ p, H p = none → Q (.ref p) (upd H p (.tup (List.replicate k.toNat row).flatten))
def rOnce (K : PySem.W.Frag) : R2 := fun x y H Q => ∃ at_ row, x = .ref at_ ∧ y = .int 1 ∧ SqT K H at_ row ∧ Q (.ref at_) H
section
variable {X : Cx}
theorem op_once : OpR X (binaryOp .Mult) (rOnce X.K) := by
  intro pins st σ H x y v u Q I rx ry hyp
  obtain ⟨at_, row, rfl, rfl, sq, fin⟩ := hyp
  cases rx
  obtain ⟨tk, rfl⟩ := ry
  obtain ⟨its, rel, ⟨⟨cl, own, body, slo⟩, look, ecl, num, ebody⟩, small⟩ := I.tuple sq
  simp only at ecl ebody
  subst ecl ebody
  refine wpAny_binaryOp_repeat_ref (U := "int") (T := "tuple") (by decide)
    ⟨_, look, rfl⟩ (fun st' => typeIs_int st' 1 tk)
    noFill_tuple_mul F.fills_int_mul F.slot_int_rmul
    repeat_tuple F.slot_int_index.lookup ?_
  refine call_meets F.slot_int_rmul (typeIs_int st 1 tk) F.entry_int_rmul
    (F.args_int_rmul_2 _ _) (int_rmul_tuple 1 tk at_ its.toArray num own slo) ⟨look, rfl, ⟨_, look, rfl⟩, ?_⟩
  refine call_meets F.slot_tuple_mul ⟨_, look, rfl⟩ F.entry_tuple_mul
    (F.args_tuple_mul_2 _ _) (once_same at_ its.toArray num own slo tk) ⟨look, ?_⟩
  exact ⟨.ref at_, _, I, rfl, fin⟩
theorem op_repB : OpR X (binaryOp .Mult) (rRepB X.K) := by
  intro pins st σ H x y v u Q I rx ry hyp
  obtain ⟨at_, k, row, rfl, rfl, sq, some_, lo, hi, short, fin⟩ := hyp
  cases rx
  obtain ⟨tk, rfl⟩ := ry
  obtain ⟨its, rel, ⟨⟨cl, own, body, slo⟩, look, ecl, num, ebody⟩, small⟩ := I.tuple sq
  simp only at ecl ebody
  subst ecl ebody
  have same : its.length = row.length := rel.length.symm
  have some2 : its ≠ [] := by
    intro e
    rw [e] at same
    exact some_ (List.eq_nil_of_length_eq_zero same.symm)
  have full : its.toArray.isEmpty = false := by
    cases its with
    | cons a b => rfl
    | nil => exact absurd rfl some2
  have size : its.toArray.size = row.length := by rw [List.size_toArray, same]
  have prod : ((its.toArray.size : Nat) : Int) * k ≤ 10000000 := by
    rw [size]
    have step : ((row.length : Nat) : Int) * k ≤ 1000 * k := Int.mul_le_mul_of_nonneg_right (by omega) (by omega)
    omega
  have prodN : k.toNat * row.length ≤ 10000 * 1000 := Nat.mul_le_mul (by omega) short
  have fits : (List.replicate k.toNat its).flatten.length ≤ sizeLine := by
    rw [lm_len_rep_flat, same, sizeLine_eq]
    omega
  have g0 : (decide (k < -(2 ^ 63)) || decide (k ≥ 2 ^ 63)) = false := by
    rw [Bool.or_eq_false_iff]
    exact ⟨decide_eq_false (by omega), decide_eq_false (by omega)⟩
  have g1 : (its.toArray.isEmpty || k == 1) = false := by
    rw [full, Bool.false_or, beq_eq_false_iff_ne]
    omega
  have g2 : (decide (k ≤ 0) || its.toArray.isEmpty) = false := by
    rw [full, Bool.or_false, decide_eq_false_iff_not]
    omega
  have g4 : Builtin.Tuple.tupleTooMany (((its.toArray.size : Nat) : Int) * k) = false := by
    unfold Builtin.Tuple.tupleTooMany
    rw [sizeLine_eq, decide_eq_false_iff_not]
    omega
  refine wpAny_binaryOp_repeat_ref (U := "int") (T := "tuple") (by decide)
    ⟨_, look, rfl⟩ (fun st' => typeIs_int st' k tk)
    noFill_tuple_mul F.fills_int_mul F.slot_int_rmul
    repeat_tuple F.slot_int_index.lookup ?_
  refine call_meets F.slot_int_rmul (typeIs_int st k tk) F.entry_int_rmul
    (F.args_int_rmul_2 _ _) (int_rmul_tuple k tk at_ its.toArray num own slo) ⟨look, rfl, ⟨_, look, rfl⟩, ?_⟩
  refine call_meets F.slot_tuple_mul ⟨_, look, rfl⟩ F.entry_tuple_mul (F.args_tuple_mul_2 _ _)
    (tuple_mulW at_ its.toArray num own slo k tk g0 g1 g2 (by omega) g4 (by rw [size_rep, List.size_toArray]; exact fits)) ⟨look, ?_⟩
  rw [size_rep]
  have new := I.laid (t' := st.toks) (o := .tup (List.replicate k.toNat row).flatten) (fun _ _ q => Heap.get?_push_of_some _ q) (Nat.le_refl _) ⟨?_, _, rel.rep k.toNat, IsTup.new _ _⟩
  · exact ⟨.ref st.heap.objs.size, _, new, rfl, fin _ (I.hok.fresh (Nat.le_refl _))⟩
  · rw [lm_len_rep_flat, sizeLine_eq]
    omega
end
end Sh

set_option Elab.async false
set_option linter.all false
set_option maxRecDepth 100000
set_option autoImplicit false
namespace Sh
open PySem PySem.Spec PyProof.Rows L2
section
variable {X : Cx} {W : WX}
theorem OpS.mk' {f : Value → Value → Sem Value} {r : R2} {g : D → D → Sto → R D} (der : OpR X f r)
    (sim : ∀ ι S H σ (x y : V) (d e : D) (Q : VK), SR X.K X.mg ι S H → DR X.K X.mg ι H d x → DR X.K X.mg ι H e y → Good X.K X.mg W ι H σ (QV X.K X.mg Q) (g d e S) → r x y H Q) : OpS X W f r g := ⟨der, sim⟩
def dAdd : D → D → Sto → R D
  | .int i, .int j, S => .ok (.int (i + j)) S
  | .str i, .str j, S => if i.length + j.length ≤ 16777216 then .ok (.str (i ++ j)) S else .no
  | .tup xs, .tup ys, S => if xs.length + ys.length ≤ 16777216 then .ok (.tup (xs ++ ys)) S else .no
  | .obj i, .obj j, S => match S[i]?, S[j]? with
    | some (.lst xs), some (.lst ys) => if xs.length + ys.length ≤ 16777216 then .ok (.obj S.length) (S ++ [.lst (xs ++ ys)]) else .no
    | _, _ => .no
  | _, _, _ => .no
theorem os_add : OpS X W (binaryOp .Add) (fun x y H Q => (∃ i j, x = .int i ∧ y = .int j ∧ Q (.int (i + j)) H) ∨ (∃ i j, x = .str i ∧ y = .str j ∧ i.length + j.length ≤ sizeLine ∧ Q (.str (i ++ j)) H) ∨ rCatA X.K x y H Q ∨ rCat x y H Q) dAdd := by
  refine ⟨OpR.or op_add (OpR.or op_add_str (OpR.or op_catA op_cat)), fun ι S H σ x y d e Q s hx hy g => ?_⟩
  unfold dAdd at g
  split at g
  · cases hx; cases hy; exact .inl ⟨_, _, rfl, rfl, g.now s _ (.int _)⟩
  · cases hx; cases hy
    split at g
    · rename_i hl
      exact .inr (.inl ⟨_, _, rfl, rfl, by rw [szl]; exact hl, g.now s _ (.str _)⟩)
    · exact g.elim
  · split at g
    · rename_i hl
      obtain ⟨a, vs, rfl, ha, xa⟩ := hx.sqT
      obtain ⟨b, ws, rfl, hb, xb⟩ := hy.sqT
      refine .inr (.inr (.inl ⟨a, b, vs, ws, rfl, rfl, ha, hb, by rw [szl, ← xa.length, ← xb.length]; exact hl, fun z => ?_, fun _ z => ?_, fun _ _ p hp => ?_⟩))
      · subst z
        cases xa
        exact g.now s _ hy
      · subst z
        cases xb
        refine g.now s _ ?_
        rw [List.append_nil]; exact hx
      · exact g ι _ (Ext.new hp) (s.lay hp) _ (.tup upd_same ((xa.app xb).mono (Ext.new hp)))
    · exact g.elim
  · rename_i i j
    cases hx with
    | obj hi =>
    cases hy with
    | obj hj =>
    split at g
    · rename_i xs ys q1 q2
      split at g
      · rename_i hl
        obtain ⟨a, vs, ha, hva, xa⟩ := s.list q1
        obtain ⟨b, ws, hb, hvb, xb⟩ := s.list q2
        rw [hi] at ha; cases ha
        rw [hj] at hb; cases hb
        exact .inr (.inr (.inr ⟨_, _, vs, ws, rfl, rfl, hva, hvb, by rw [szl, ← xa.length, ← xb.length]; exact hl, fun p hp => g _ _ (Ext.newI hp) (s.push hp (.lst ((xa.app xb).mono (Ext.newI hp)))) _ (.obj s.last)⟩))
      · exact g.elim
    · exact g.elim
  · exact g.elim
def dSub : D → D → Sto → R D
  | .int i, .int j, S => .ok (.int (i - j)) S
  | _, _, _ => .no
theorem os_sub : OpS X W (binaryOp .Sub) (rI0 fun i j => .int (i - j)) dSub := by
  refine ⟨op_sub, fun ι S H σ x y d e Q s hx hy g => ?_⟩
  unfold dSub at g
  split at g
  · cases hx; cases hy; exact ⟨_, _, rfl, rfl, g.now s _ (.int _)⟩
  · exact g.elim
/-- factors of together less than a hundred million bits -/
def CMulI (i j : Int) : Prop := i.natAbs.log2 + j.natAbs.log2 < 100000000
theorem CMulI.ok {i j : Int} (h : CMulI i j) : IntMulOk i j := by
  have b : ∀ x : Int, Builtin.Int.intBits x ≤ x.natAbs.log2 + 1 := fun x => by
    unfold Builtin.Int.intBits
    split <;> omega
  have h1 := b i
  have h2 := b j
  have h3 : i.natAbs.log2 + j.natAbs.log2 < 100000000 := h
  have e : bitsLine = 134217728 := by decide
  unfold IntMulOk
  intro z
  rw [Bool.and_eq_true] at z
  have z2 := z.2
  unfold Builtin.Int.intTooBig at z2
  have z3 := of_decide_eq_true z2
  rw [e] at z3
  omega
theorem op_mulI : OpR X (binaryOp .Mult) (rI CMulI fun i j => .int (i * j)) := opI fun _ _ _ _ _ _ _ hc q => mul_int q hc.ok
def dMul : D → D → Sto → R D
  | .int i, .int j, S => if i.natAbs.log2 + j.natAbs.log2 < 100000000 then .ok (.int (i * j)) S else .no
  | .tup xs, .int k, S => if xs ≠ [] ∧ 1 ≤ k ∧ k ≤ 10000 ∧ xs.length ≤ 1000 then .ok (.tup (List.replicate k.toNat xs).flatten) S else .no
  | .obj i, .int k, S => match S[i]? with
    | some (.lst xs) => if -(2 ^ 63) ≤ k ∧ k < 2 ^ 63 ∧ xs.length * k.toNat ≤ 16777216 then .ok (.obj S.length) (S ++ [.lst (List.replicate k.toNat xs).flatten]) else .no
    | _ => .no
  | _, _, _ => .no
theorem os_mul : OpS X W (binaryOp .Mult) (fun x y H Q => rI CMulI (fun i j => .int (i * j)) x y H Q ∨ rOnce X.K x y H Q ∨ rRepB X.K x y H Q ∨ rRep x y H Q) dMul := by
  refine ⟨OpR.or op_mulI (OpR.or op_once (OpR.or op_repB op_rep)), fun ι S H σ x y d e Q s hx hy g => ?_⟩
  unfold dMul at g
  split at g
  · cases hx; cases hy
    split at g
    · rename_i hl
      exact .inl ⟨_, _, rfl, rfl, hl, g.now s _ (.int _)⟩
    · exact g.elim
  · cases hy
    split at g
    · rename_i hl
      obtain ⟨a, vs, rfl, ha, xa⟩ := hx.sqT
      rcases Int.lt_or_eq_of_le hl.2.1 with h2 | h2
      · refine .inr (.inr (.inl ⟨a, _, vs, rfl, rfl, ha, fun z => ?_, h2, hl.2.2.1, by rw [← xa.length]; exact hl.2.2.2, fun p hp => ?_⟩))
        · subst z; cases xa; exact hl.1 rfl
        · exact g ι _ (Ext.new hp) (s.lay hp) _ (.tup upd_same ((xa.rep _).mono (Ext.new hp)))
      · subst h2
        refine .inr (.inl ⟨a, vs, rfl, rfl, ha, g.now s _ ?_⟩)
        simpa using hx
    · exact g.elim
  · cases hx with
    | obj hi =>
    cases hy
    split at g
    · rename_i xs q1
      split at g
      · rename_i hl
        obtain ⟨a, vs, ha, hva, xa⟩ := s.list q1
        rw [hi] at ha; cases ha
        exact .inr (.inr (.inr ⟨_, _, vs, rfl, rfl, hva, hl.1, hl.2.1, by rw [szl, ← xa.length]; exact hl.2.2, fun p hp => g _ _ (Ext.newI hp) (s.push hp (.lst ((xa.rep _).mono (Ext.newI hp)))) _ (.obj s.last)⟩))
      · exact g.elim
    · exact g.elim
  · exact g.elim
def dDiv : D → D → Sto → R D
  | .int i, .int j, S => if 0 < j ∧ j.natAbs.log2 < 9000 then .ok (.int (i / j)) S else .no
  | _, _, _ => .no
theorem os_div : OpS X W (binaryOp .FloorDiv) (rI CDivW fun i j => .int (i / j)) dDiv := by
  refine ⟨op_fdivW, fun ι S H σ x y d e Q s hx hy g => ?_⟩
  unfold dDiv at g
  split at g
  · cases hx; cases hy
    split at g
    · rename_i hl
      exact ⟨_, _, rfl, rfl, hl, g.now s _ (.int _)⟩
    · exact g.elim
  · exact g.elim
def dMod : D → D → Sto → R D
  | .int i, .int j, S => if 0 < j then .ok (.int (i % j)) S else .no
  | _, _, _ => .no
theorem os_mod : OpS X W (binaryOp .Mod) (rI (fun _ j => 0 < j) fun i j => .int (i % j)) dMod := by
  refine ⟨op_mod, fun ι S H σ x y d e Q s hx hy g => ?_⟩
  unfold dMod at g
  split at g
  · cases hx; cases hy
    split at g
    · rename_i hl
      exact ⟨_, _, rfl, rfl, hl, g.now s _ (.int _)⟩
    · exact g.elim
  · exact g.elim
def dPow : D → D → Sto → R D
  | .int i, .int j, S => if 0 ≤ j ∧ j ≤ 1000000 ∧ i.natAbs < 2 ^ 64 then .ok (.int (i ^ j.toNat)) S else .no
  | _, _, _ => .no
theorem os_pow : OpS X W (binaryOp .Pow) (rI CPow fun i j => .int (i ^ j.toNat)) dPow := by
  refine ⟨op_pow, fun ι S H σ x y d e Q s hx hy g => ?_⟩
  unfold dPow at g
  split at g
  · cases hx; cases hy
    split at g
    · rename_i hl
      exact ⟨_, _, rfl, rfl, hl, g.now s _ (.int _)⟩
    · exact g.elim
  · exact g.elim
/-! ### order of ints -/
def dOrd (p : Int → Int → Bool) : D → D → Sto → R D
  | .int i, .int j, S => .ok (.bl (p i j)) S
  | _, _, _ => .no
theorem os_ord {op : CmpOp} {p : Int → Int → Bool} (h : OpR X (compareOp op) (rI0 fun i j => .bl (p i j))) : OpS X W (compareOp op) (rI0 fun i j => .bl (p i j)) (dOrd p) := by
  refine ⟨h, fun ι S H σ x y d e Q s hx hy g => ?_⟩
  unfold dOrd at g
  split at g
  · cases hx; cases hy; exact ⟨_, _, rfl, rfl, g.now s _ (.bl _)⟩
  · exact g.elim
theorem os_lt : OpS X W (compareOp .Lt) (rI0 fun i j => .bl (decide (i < j))) (dOrd fun i j => decide (i < j)) := os_ord op_lt
theorem os_le : OpS X W (compareOp .LtE) (rI0 fun i j => .bl (decide (i ≤ j))) (dOrd fun i j => decide (i ≤ j)) := os_ord op_le
theorem os_gt : OpS X W (compareOp .Gt) (rI0 fun i j => .bl (decide (j < i))) (dOrd fun i j => decide (j < i)) := os_ord op_gt
theorem os_ge : OpS X W (compareOp .GtE) (rI0 fun i j => .bl (decide (j ≤ i))) (dOrd fun i j => decide (j ≤ i)) := os_ord op_ge
/-! ### equality of data -/
def optAll {α β : Type} (f : α → Option β) : List α → Option (List β)
  | [] => some []
  | x :: xs => match f x, optAll f xs with
    | some a, some b => some (a :: b)
    | _, _ => none
def pd (S : Sto) : Nat → D → Option PyData
  | 0, _ => none
  | _ + 1, .non => some .none
  | _ + 1, .bl b => some (.bool b)
  | _ + 1, .int i => some (.int i)
  | _ + 1, .str x => some (.str x)
  | n + 1, .tup xs => (optAll (pd S n) xs).map .tuple
  | n + 1, .kt xs => (optAll (pd S n) xs).map .tuple
  | n + 1, .wl xs => (optAll (pd S n) xs).map .list
  | n + 1, .obj i => match S[i]? with
    | some (.lst xs) => (optAll (pd S n) xs).map .list
    | _ => none
  | _ + 1, _ => none
theorem pd_dp {K : PySem.W.Frag} {mg : Str → Option Value} {ι : List Addr} {S : Sto} {H : Hp} (s : SR K mg ι S H) : ∀ (n : Nat) (d : D) (v : V) (p : PyData), DR K mg ι H d v → pd S n d = some p → Dp K H v p := by
  intro n
  induction n with
  | zero => intro d v p _ h; simp [pd] at h
  | succ n ih =>
    have all : ∀ (ds : List D) (vs : List V) (ps : List PyData), DRs K mg ι H ds vs → optAll (pd S n) ds = some ps → DpAll K H vs ps := by
      intro ds
      induction ds with
      | nil => intro vs ps h q; cases h; simp [optAll] at q; subst q; exact .nil
      | cons d ds ih2 =>
        intro vs ps h q
        cases h with
        | cons h1 h2 =>
        unfold optAll at q
        split at q
        · rename_i a b qa qb
          cases q
          exact .cons (ih d _ a h1 qa) (ih2 _ b h2 qb)
        · cases q
    intro d v p h q
    cases d with
    | non => cases h; simp [pd] at q; subst q; exact .non
    | bl b => cases h; simp [pd] at q; subst q; exact .bl b
    | int i => cases h; simp [pd] at q; subst q; exact .int i
    | str x => cases h; simp [pd] at q; subst q; exact .str x
    | tup xs =>
      obtain ⟨a, vs, rfl, ha, xa⟩ := h.sqT
      simp only [pd, Option.map_eq_some_iff] at q
      obtain ⟨ps, q1, rfl⟩ := q
      exact .tup ha (all xs vs ps xa q1)
    | kt xs =>
      obtain ⟨a, vs, rfl, ha, xa⟩ := h.sqK
      simp only [pd, Option.map_eq_some_iff] at q
      obtain ⟨ps, q1, rfl⟩ := q
      exact .tup ha (all xs vs ps xa q1)
    | wl xs =>
      obtain ⟨a, vs, rfl, ha, xa⟩ := h.sqW
      simp only [pd, Option.map_eq_some_iff] at q
      obtain ⟨ps, q1, rfl⟩ := q
      exact .lst ha (all xs vs ps xa q1)
    | obj i =>
      cases h with
      | obj hi =>
      simp only [pd] at q
      split at q
      · rename_i xs q0
        simp only [Option.map_eq_some_iff] at q
        obtain ⟨ps, q1, rfl⟩ := q
        obtain ⟨a, vs, ha, hv, xa⟩ := s.list q0
        rw [hi] at ha; cases ha
        exact .lst (SqL.of hv) (all xs vs ps xa q1)
      · cases q
    | ty _ => simp [pd] at q
    | fn _ => simp [pd] at q
def eqOk (a b : PyData) : Bool := a.canLay0 && b.canLay0 && decide (min a.depth b.depth ≤ 200)
def dEq (neg : Bool) (d e : D) (S : Sto) : R D := match pd S 220 d, pd S 220 e with
  | some a, some b => if eqOk a b = true then .ok (.bl (if neg then !PyData.eqv a b else PyData.eqv a b)) S else .no
  | _, _ => .no
def rEqW (K : PySem.W.Frag) (neg : Bool) : R2 := fun x y H Q => ∃ d e, Dp K H x d ∧ Dp K H y e ∧ eqOk d e = true ∧ Q (.bl (if neg then !PyData.eqv d e else PyData.eqv d e)) H
theorem op_eqW (hu : X.A.units + 200 < cLine) : OpR X (compareOp .Eq) (rEqW X.K false) := by
  intro pins s σ H x y v u Q I rx ry h
  obtain ⟨d, e, hd, he, ok, q⟩ := h
  obtain ⟨as, r1⟩ := Dp.reads I d x v hd rx
  obtain ⟨bs, r2⟩ := Dp.reads I e y u he ry
  simp only [eqOk, Bool.and_eq_true, decide_eq_true_eq] at ok
  exact SeqAt.compareEq_reads r1 r2 ok.1.1 ok.1.2 (by omega) ⟨.bl _, H, I, rfl, q⟩
theorem op_neW (hu : X.A.units + 200 < cLine) : OpR X (compareOp .NotEq) (rEqW X.K true) := by
  intro pins s σ H x y v u Q I rx ry h
  obtain ⟨d, e, hd, he, ok, q⟩ := h
  obtain ⟨as, r1⟩ := Dp.reads I d x v hd rx
  obtain ⟨bs, r2⟩ := Dp.reads I e y u he ry
  simp only [eqOk, Bool.and_eq_true, decide_eq_true_eq] at ok
  exact SeqAt.compareNe_reads r1 r2 ok.1.1 ok.1.2 (by omega) ⟨.bl _, H, I, rfl, q⟩
theorem os_eqW {op : CmpOp} {neg : Bool} (h : OpR X (compareOp op) (rEqW X.K neg)) : OpS X W (compareOp op) (rEqW X.K neg) (dEq neg) := by
  refine ⟨h, fun ι S H σ x y d e Q s hx hy g => ?_⟩
  unfold dEq at g
  split at g
  · rename_i a b q1 q2
    split at g
    · rename_i ok
      exact ⟨a, b, pd_dp s _ _ _ _ hx q1, pd_dp s _ _ _ _ hy q2, ok, g.now s _ (.bl _)⟩
    · exact g.elim
  · exact g.elim
theorem Room.u200 {k : Nat} {A : Around} (r : Room k A) : A.units + 200 < cLine := by have := r.un; omega
theorem os_eq {k : Nat} (hr : Room k X.A) : OpS X W (compareOp .Eq) (rEqW X.K false) (dEq false) := os_eqW (op_eqW (Room.u200 hr))
theorem os_ne {k : Nat} (hr : Room k X.A) : OpS X W (compareOp .NotEq) (rEqW X.K true) (dEq true) := os_eqW (op_neW (Room.u200 hr))
/-! ### in: lists, tuples, dicts -/
def dIn (neg : Bool) (d e : D) (S : Sto) : R D := match pd S 220 d, pd S 220 e with
  | some a, some (.list bs) => if a.canLay0 && PyData.canLayAll0 bs && decide (min (PyData.depthAll bs) a.depth ≤ 190) then .ok (.bl (if neg then !bs.any (fun z => PyData.eqv z a) else bs.any fun z => PyData.eqv z a)) S else .no
  | some a, some (.tuple bs) => if a.canLay0 && PyData.canLayAll0 bs && decide (min (PyData.depthAll bs) a.depth ≤ 190) then .ok (.bl (if neg then !bs.any (fun z => PyData.eqv z a) else bs.any fun z => PyData.eqv z a)) S else .no
  | _, _ => .no
def rInW (K : PySem.W.Frag) (neg : Bool) : R2 := fun x y H Q => ∃ d bs, Dp K H x d ∧ (Dp K H y (.list bs) ∨ Dp K H y (.tuple bs)) ∧ d.canLay0 = true ∧ PyData.canLayAll0 bs = true ∧ min (PyData.depthAll bs) d.depth ≤ 190 ∧
  Q (.bl (if neg then !bs.any (fun z => PyData.eqv z d) else bs.any fun z => PyData.eqv z d)) H
theorem op_inW (hu : X.A.units + 200 < cLine) : OpR X (compareOp .In) (rInW X.K false) := by
  intro pins s σ H x y v u Q I rx ry h
  obtain ⟨d, e, hd, he, o1, o2, o3, q⟩ := h
  obtain ⟨as, r1⟩ := Dp.reads I d x v hd rx
  rcases he with he | he
  · obtain ⟨bs, r2⟩ := Dp.reads I _ y u he ry
    exact SeqAt.in_list_reads r2 r1 o2 o1 (by omega) ⟨.bl _, H, I, rfl, q⟩
  · obtain ⟨bs, r2⟩ := Dp.reads I _ y u he ry
    exact SeqAt.in_tuple_reads r2 r1 o2 o1 (by omega) ⟨.bl _, H, I, rfl, q⟩
theorem op_notInW (hu : X.A.units + 200 < cLine) : OpR X (compareOp .NotIn) (rInW X.K true) := by
  intro pins s σ H x y v u Q I rx ry h
  obtain ⟨d, e, hd, he, o1, o2, o3, q⟩ := h
  obtain ⟨as, r1⟩ := Dp.reads I d x v hd rx
  rcases he with he | he
  · obtain ⟨bs, r2⟩ := Dp.reads I _ y u he ry
    exact SeqAt.notIn_list_reads r2 r1 o2 o1 (by omega) ⟨.bl _, H, I, rfl, q⟩
  · obtain ⟨bs, r2⟩ := Dp.reads I _ y u he ry
    exact SeqAt.notIn_tuple_reads r2 r1 o2 o1 (by omega) ⟨.bl _, H, I, rfl, q⟩
end
end Sh

set_option Elab.async false
set_option linter.all false
set_option maxRecDepth 100000
set_option autoImplicit false
namespace Sh
open PySem PySem.Spec PyProof.Rows L2
/-! ### dicts of the store -/
section
variable {κ : Type} [DecidableEq κ]
def kget (kvs : List (κ × D)) (k : κ) : Option D := (kvs.find? fun kv => decide (kv.1 = k)).map (·.2)
def kput (kvs : List (κ × D)) (k : κ) (v : D) : List (κ × D) :=
  if (kvs.any fun kv => decide (kv.1 = k)) = true then kvs.map (fun kv => if kv.1 = k then (kv.1, v) else kv) else kvs ++ [(k, v)]
def kdrop (kvs : List (κ × D)) (k : κ) : List (κ × D) := kvs.filter fun kv => decide (kv.1 ≠ k)
end
def dKey : D → Option Key
  | .int i => some (.inl i)
  | .str x => some (.inr x)
  | _ => none
def dKeys : D → Option (List Key)
  | .tup xs => optAll dKey xs
  | _ => none
section
variable {κ : Type} [DecidableEq κ] {K : PySem.W.Frag} {mg : Str → Option Value} {ι : List Addr} {S : Sto} {H : Hp}
theorem KR.length : ∀ {ds : List (κ × D)} {vs : List (κ × V)}, KR K mg ι H ds vs → ds.length = vs.length
  | _, _, .nil => rfl
  | _, _, .cons _ h => by simp [KR.length h]
theorem KR.val : ∀ {ds : List (κ × D)} {vs : List (κ × V)} (k : κ), KR K mg ι H ds vs → (kget ds k = none ∧ valV vs k = none) ∨ ∃ d v, kget ds k = some d ∧ valV vs k = some v ∧ DR K mg ι H d v
  | _, _, _, .nil => .inl ⟨rfl, rfl⟩
  | _, _, k, .cons (k := k') (d := d) (v := v) h hs => by
    by_cases e : k' = k
    · exact .inr ⟨d, v, by simp [kget, List.find?_cons, e], by simp [valV, List.find?_cons, e], h⟩
    · rcases KR.val k hs with ⟨a, b⟩ | ⟨d', v', a, b, c⟩
      · exact .inl ⟨by simpa [kget, List.find?_cons, e] using a, by simpa [valV, List.find?_cons, e] using b⟩
      · exact .inr ⟨d', v', by simpa [kget, List.find?_cons, e] using a, by simpa [valV, List.find?_cons, e] using b, c⟩
theorem KR.any (k : κ) : ∀ {ds : List (κ × D)} {vs : List (κ × V)}, KR K mg ι H ds vs → (ds.any fun kv => decide (kv.1 = k)) = (vs.any fun kv => decide (kv.1 = k))
  | _, _, .nil => rfl
  | _, _, .cons _ hs => by simp [KR.any k hs]
theorem KR.repl (k : κ) {d : D} {v : V} (h : DR K mg ι H d v) : ∀ {ds : List (κ × D)} {vs : List (κ × V)}, KR K mg ι H ds vs →
    KR K mg ι H (ds.map fun kv => if kv.1 = k then (kv.1, d) else kv) (vs.map fun kv => if kv.1 = k then (kv.1, v) else kv)
  | _, _, .nil => .nil
  | _, _, .cons (k := k') h' hs => by
    rw [List.map_cons, List.map_cons]
    by_cases e : k' = k
    · simp only [e, if_true]
      exact .cons h (KR.repl k h hs)
    · simp only [e, if_false]
      exact .cons h' (KR.repl k h hs)
theorem KR.snoc {k : κ} {d : D} {v : V} (h : DR K mg ι H d v) : ∀ {ds : List (κ × D)} {vs : List (κ × V)}, KR K mg ι H ds vs → KR K mg ι H (ds ++ [(k, d)]) (vs ++ [(k, v)])
  | _, _, .nil => .cons h .nil
  | _, _, .cons h' hs => .cons h' (KR.snoc h hs)
theorem KR.put (k : κ) {d : D} {v : V} (h : DR K mg ι H d v) {ds : List (κ × D)} {vs : List (κ × V)} (r : KR K mg ι H ds vs) : KR K mg ι H (kput ds k d) (putK vs k v) := by
  unfold kput putK
  rw [r.any k]
  split
  · exact r.repl k h
  · exact r.snoc h
theorem KR.drop (k : κ) : ∀ {ds : List (κ × D)} {vs : List (κ × V)}, KR K mg ι H ds vs → KR K mg ι H (kdrop ds k) (dropK vs k)
  | _, _, .nil => .nil
  | _, _, .cons (k := k') h hs => by
    have ih := KR.drop k hs
    unfold kdrop dropK at ih ⊢
    by_cases e : k' = k
    · simpa [List.filter_cons, e] using ih
    · simpa [List.filter_cons, e] using KR.cons (k := k') h ih
theorem dKey_rel {d : D} {v : V} {k : Key} (h : DR K mg ι H d v) (e : dKey d = some k) : v = kV k := by
  cases h <;> simp [dKey] at e <;> subst e <;> rfl
theorem dKeys_all : ∀ {ds : List D} {vs : List V} {ks : List Key}, DRs K mg ι H ds vs → optAll dKey ds = some ks → vs = ks.map kV
  | _, _, _, .nil, e => by simp [optAll] at e; subst e; rfl
  | _, _, _, .cons h hs, e => by
    unfold optAll at e
    split at e
    · rename_i a b q1 q2
      cases e
      rw [dKey_rel h q1, dKeys_all hs q2]; rfl
    · cases e
theorem dKeys_rel {d : D} {v : V} {ks : List Key} (h : DR K mg ι H d v) (e : dKeys d = some ks) : ∃ b, v = .ref b ∧ H b = some (.tup (ks.map kV)) := by
  cases h <;> simp [dKeys] at e
  rename_i a vs h hs
  exact ⟨a, rfl, by rw [h, dKeys_all hs e]⟩
theorem SR.dictK (s : SR K mg ι S H) {i : Nat} {ds : List (Key × D)} (h : S[i]? = some (.dK ds)) : ∃ a vs, ι[i]? = some a ∧ H a = some (.dK vs) ∧ KR K mg ι H ds vs := by
  obtain ⟨a, u, ha, hu, r⟩ := s.get h
  cases r with
  | dK r => exact ⟨a, _, ha, hu, r⟩
theorem SR.dictT (s : SR K mg ι S H) {i : Nat} {ds : List (List Key × D)} (h : S[i]? = some (.dT ds)) : ∃ a vs, ι[i]? = some a ∧ H a = some (.dT vs) ∧ KR K mg ι H ds vs := by
  obtain ⟨a, u, ha, hu, r⟩ := s.get h
  cases r with
  | dT r => exact ⟨a, _, ha, hu, r⟩
/-- what a dict holds at a key -/
def dLook (d k : D) (S : Sto) : Option (Option D) := match d with
  | .obj i => (match S[i]? with
    | some (.dK kvs) => (dKey k).map (kget kvs)
    | some (.dT kvs) => (dKeys k).map (kget kvs)
    | _ => none)
  | _ => none
theorem dLook_rel (s : SR K mg ι S H) {d k : D} {x y : V} {o : Option D} (hx : DR K mg ι H d x) (hy : DR K mg ι H k y) (e : dLook d k S = some o) :
    ∃ a ov, x = .ref a ∧ DGet H a y ov ∧ ((o = none ∧ ov = none) ∨ ∃ d' v', o = some d' ∧ ov = some v' ∧ DR K mg ι H d' v') := by
  unfold dLook at e
  split at e
  · rename_i i
    cases hx with
    | obj hi =>
    split at e
    · rename_i kvs q
      obtain ⟨a, vs, ha, hv, r⟩ := s.dictK q
      rw [hi] at ha; cases ha
      obtain ⟨kk, q1, rfl⟩ := Option.map_eq_some_iff.mp e
      obtain rfl := dKey_rel hy q1
      exact ⟨_, _, rfl, DGet.k hv, r.val kk⟩
    · rename_i kvs q
      obtain ⟨a, vs, ha, hv, r⟩ := s.dictT q
      rw [hi] at ha; cases ha
      obtain ⟨kk, q1, rfl⟩ := Option.map_eq_some_iff.mp e
      obtain ⟨b, rfl, hb⟩ := dKeys_rel hy q1
      exact ⟨_, _, rfl, DGet.t hv hb, r.val kk⟩
    · cases e
  · cases e
end
section
variable {X : Cx} {W : WX}
def dIn2 (neg : Bool) (d e : D) (S : Sto) : R D := match dLook e d S with
  | some o => .ok (.bl (if neg then !o.isSome else o.isSome)) S
  | none => dIn neg d e S
def rInA (K : PySem.W.Frag) (neg : Bool) : R2 := fun y x H Q => (∃ a o, x = .ref a ∧ DGet H a y o ∧ Q (.bl (if neg then !o.isSome else o.isSome)) H) ∨ rInW K neg y x H Q
theorem op_inA (hu : X.A.units + 200 < cLine) : OpR X (compareOp .In) (rInA X.K false) := by
  refine OpR.or (fun pins s σ H y x u v Q I ry rx h => ?_) (op_inW hu)
  obtain ⟨a, o, rfl, g, q⟩ := h
  obtain rfl : v = Value.ref a := rx
  exact d_in (by omega) I g ry fun s' I' => ⟨.bl o.isSome, H, I', rfl, q⟩
theorem op_notInA (hu : X.A.units + 200 < cLine) : OpR X (compareOp .NotIn) (rInA X.K true) := by
  refine OpR.or (fun pins s σ H y x u v Q I ry rx h => ?_) (op_notInW hu)
  obtain ⟨a, o, rfl, g, q⟩ := h
  obtain rfl : v = Value.ref a := rx
  exact d_notIn (by omega) I g ry fun s' I' => ⟨.bl (!o.isSome), H, I', rfl, q⟩
theorem os_inA {op : CmpOp} {neg : Bool} (h : OpR X (compareOp op) (rInA X.K neg)) : OpS X W (compareOp op) (rInA X.K neg) (dIn2 neg) := by
  refine ⟨h, fun ι S H σ x y d e Q s hx hy g => ?_⟩
  unfold dIn2 at g
  split at g
  · rename_i o q
    obtain ⟨a, ov, rfl, dg, r⟩ := dLook_rel s hy hx q
    refine .inl ⟨a, ov, rfl, dg, ?_⟩
    have : ov.isSome = o.isSome := by
      rcases r with ⟨rfl, rfl⟩ | ⟨d', v', rfl, rfl, _⟩ <;> rfl
    rw [this]
    exact g.now s _ (.bl _)
  · unfold dIn at g
    refine .inr ?_
    split at g
    · rename_i a bs q1 q2
      split at g
      · rename_i ok
        simp only [Bool.and_eq_true, decide_eq_true_eq] at ok
        exact ⟨a, bs, pd_dp s _ _ _ _ hx q1, .inl (pd_dp s _ _ _ _ hy q2), ok.1.1, ok.1.2, ok.2, g.now s _ (.bl _)⟩
      · exact g.elim
    · rename_i a bs q1 q2
      split at g
      · rename_i ok
        simp only [Bool.and_eq_true, decide_eq_true_eq] at ok
        exact ⟨a, bs, pd_dp s _ _ _ _ hx q1, .inr (pd_dp s _ _ _ _ hy q2), ok.1.1, ok.1.2, ok.2, g.now s _ (.bl _)⟩
      · exact g.elim
    · exact g.elim
theorem os_in {k : Nat} (hr : Room k X.A) : OpS X W (compareOp .In) (rInA X.K false) (dIn2 false) := os_inA (op_inA (Room.u200 hr))
theorem os_notin {k : Nat} (hr : Room k X.A) : OpS X W (compareOp .NotIn) (rInA X.K true) (dIn2 true) := os_inA (op_notInA (Room.u200 hr))
/-! ### is -/
def isNon : D → Bool
  | .non => true
  | _ => false
def dIs (neg : Bool) : D → D → Sto → R D
  | d, .non, S => .ok (.bl (if neg then !isNon d else isNon d)) S
  | .bl a, .bl b, S => .ok (.bl (if neg then !decide (a = b) else decide (a = b))) S
  | _, _, _ => .no
def rIsA (neg : Bool) : R2 := fun x y H Q => (y = .non ∧ Q (.bl (if neg then !decide (x = .non) else decide (x = .non))) H) ∨ ∃ a b, x = .bl a ∧ y = .bl b ∧ Q (.bl (if neg then !decide (a = b) else decide (a = b))) H
theorem op_isA : OpR X (compareOp .Is) (rIsA false) := OpR.or op_isN op_isBl
theorem op_isnotA : OpR X (compareOp .IsNot) (rIsA true) := OpR.or op_notN op_notBl
theorem non_iff {K : PySem.W.Frag} {mg : Str → Option Value} {ι : List Addr} {H : Hp} {d : D} {v : V} (h : DR K mg ι H d v) : decide (v = V.non) = isNon d := by
  cases h <;> simp [isNon]
theorem os_isA {op : CmpOp} {neg : Bool} (h : OpR X (compareOp op) (rIsA neg)) : OpS X W (compareOp op) (rIsA neg) (dIs neg) := by
  refine ⟨h, fun ι S H σ x y d e Q s hx hy g => ?_⟩
  unfold dIs at g
  split at g
  · cases hy
    refine .inl ⟨rfl, ?_⟩
    rw [non_iff hx]
    exact g.now s _ (.bl _)
  · cases hx; cases hy
    exact .inr ⟨_, _, rfl, rfl, g.now s _ (.bl _)⟩
  · exact g.elim
theorem os_is : OpS X W (compareOp .Is) (rIsA false) (dIs false) := os_isA op_isA
theorem os_isnot : OpS X W (compareOp .IsNot) (rIsA true) (dIs true) := os_isA op_isnotA
/-! ### subscripts -/
def seqD (S : Sto) : D → Option (List D)
  | .tup xs => some xs
  | .kt xs => some xs
  | .wl xs => some xs
  | .obj i => (match S[i]? with
    | some (.lst xs) => some xs
    | _ => none)
  | _ => none
theorem seqD_rel {K : PySem.W.Frag} {mg : Str → Option Value} {ι : List Addr} {S : Sto} {H : Hp} (s : SR K mg ι S H) {d : D} {v : V} {xs : List D} (h : DR K mg ι H d v) (e : seqD S d = some xs) :
    ∃ a vs, v = .ref a ∧ (SqL K H a vs ∨ SqT K H a vs) ∧ DRs K mg ι H xs vs := by
  unfold seqD at e
  split at e
  · cases e; obtain ⟨a, vs, q1, q2, q3⟩ := h.sqT; exact ⟨a, vs, q1, .inr q2, q3⟩
  · cases e; obtain ⟨a, vs, q1, q2, q3⟩ := h.sqK; exact ⟨a, vs, q1, .inr q2, q3⟩
  · cases e; obtain ⟨a, vs, q1, q2, q3⟩ := h.sqW; exact ⟨a, vs, q1, .inl q2, q3⟩
  · split at e
    · rename_i ys q
      cases e
      cases h with
      | obj hi =>
      obtain ⟨a, vs, ha, hv, r⟩ := s.list q
      rw [hi] at ha; cases ha
      exact ⟨_, vs, rfl, .inl (SqL.of hv), r⟩
    · cases e
  · cases e
def dIx3 : D → D → Sto → R D
  | .str z, .int i, S => if z.length ≤ 16777216 then (match atI z.cps.toList i with
        | some c => .ok (.str ⟨#[c]⟩) S
        | none => .no) else .no
  | _, _, _ => .no
def dIx2 (d e : D) (S : Sto) : R D := match seqD S d with
  | some xs => (match e with
    | .int i => (match atI xs i with
      | some v => .ok v S
      | none => .no)
    | _ => .no)
  | none => dIx3 d e S
def dIx (d e : D) (S : Sto) : R D := match dLook d e S with
  | some (some v) => .ok v S
  | _ => dIx2 d e S
theorem DRs.atI {K : PySem.W.Frag} {mg : Str → Option Value} {ι : List Addr} {H : Hp} {ds : List D} {vs : List V} {i : Int} {d : D} (h : DRs K mg ι H ds vs) (e : L2.atI ds i = some d) : ∃ v, L2.atI vs i = some v ∧ DR K mg ι H d v := by
  unfold L2.atI at e ⊢
  rw [← h.length]
  obtain ⟨j, q1, q2⟩ := Option.bind_eq_some_iff.mp e
  obtain ⟨v, q3, q4⟩ := h.get q2
  exact ⟨v, by rw [q1]; exact q3, q4⟩
def rIxA (K : PySem.W.Frag) : R2 := fun x y H Q => (∃ a v, x = .ref a ∧ DGet H a y (some v) ∧ Q v H) ∨ rIx K x y H Q
theorem ix_any (hu : X.A.units + 200 < cLine) : IxR X (rIxA X.K) := by
  refine IxR.or (fun value slice pins s σ H x y v u Q I rx ry h hs => ?_) ix_seq
  obtain ⟨a, r, rfl, g, q⟩ := h
  obtain rfl : v = Value.ref a := rx
  exact tail_any (dict_typeIs I g) slot_dict_getitem.lookup (d_getItem (by omega) I g ry fun w' s' I' rw' => ⟨r, H, I', rw', q⟩) hs
def PlainS (X : Cx) (b : Expr) : Prop := PlainIx b
theorem ee_ix {k : Nat} {a b : Expr} {ta tb : TE} {ma mb : EM} {pos : Pos} (hr : Room k X.A) (ha : Ee X W a ta ma) (hb : Ee X W b tb mb) (hs : PlainIx b := by exact fun _ _ => rfl) : Ee X W (.Subscript a b pos) (tOp (rIxA X.K) ta tb) (eBin dIx ma mb) :=
  ⟨pe_ix (ix_any (Room.u200 hr)) ha.der hb.der hs, sim_bin (fun ι S H σ x y d e Q s hx hy g => by
    unfold dIx at g
    split at g
    · rename_i v q
      obtain ⟨a, ov, rfl, dg, r⟩ := dLook_rel s hx hy q
      rcases r with ⟨h, _⟩ | ⟨d', v', h1, rfl, r⟩
      · cases h
      · cases h1
        exact .inl ⟨a, v', rfl, dg, g.now s _ r⟩
    · unfold dIx2 at g
      split at g
      · rename_i xs q
        split at g
        · cases hy
          split at g
          · rename_i v q2
            obtain ⟨a, vs, rfl, hq, r⟩ := seqD_rel s hx q
            obtain ⟨w, q3, q4⟩ := r.atI q2
            rcases hq with hq | hq
            · exact .inr (.inl ⟨a, vs, _, w, rfl, rfl, hq, q3, g.now s _ q4⟩)
            · exact .inr (.inr (.inl ⟨a, vs, _, w, rfl, rfl, hq, q3, g.now s _ q4⟩))
          · exact g.elim
        · exact g.elim
      · unfold dIx3 at g
        split at g
        · cases hx; cases hy
          split at g
          · rename_i hl
            split at g
            · rename_i c q
              exact .inr (.inr (.inr ⟨_, _, c, rfl, rfl, by rw [szl]; exact hl, q, g.now s _ (.str _)⟩))
            · exact g.elim
          · exact g.elim
        · exact g.elim) ha.sim hb.sim⟩
/-! ### slices -/
abbrev OM := Env → Sto → R (Option Int)
def SimO (K : PySem.W.Frag) (mg : Str → Option Value) (W : WX) (t : TO) (m : OM) : Prop :=
  ∀ ι S H ρ σ (Q : Option Int → Hp → Prop), SR K mg ι S H → ER K mg ι H ρ σ → Good K mg W ι H σ (fun o _ H => Q o H) (m ρ S) → t σ H Q
structure Eo (X : Cx) (W : WX) (e : Option Expr) (t : TO) (m : OM) : Prop where
  der : PO X e t
  sim : SimO X.K X.mg W t m
def oNone : OM := fun _ S => .ok none S
def oSome (m : EM) : OM := fun ρ S => (m ρ S).bind fun d S1 => match d with
  | .int i => .ok (some i) S1
  | _ => .no
theorem eo_none : Eo X W none tNoPart oNone := ⟨po_none, fun ι S H ρ σ Q s r g => g.now s⟩
theorem eo_some {e : Expr} {te : TE} {me : EM} (h : Ee X W e te me) : Eo X W (some e) (tPart te) (oSome me) :=
  ⟨po_some h.der, fun ι S H ρ σ Q s r g => bindE h.sim s r g fun d S1 ι1 H1 v e1 s1 r1 x g1 => by
    split at g1
    · cases x; exact ⟨_, rfl, g1.now s1⟩
    · exact g1.elim⟩
theorem bindO {α : Type} {K : PySem.W.Frag} {mg : Str → Option Value} {ι : List Addr} {S : Sto} {H : Hp} {ρ : Env} {σ : L2.St} {P : α → List Addr → Hp → Prop} {ta : TO} {ma : OM} {k : Option Int → Sto → R α} (ha : SimO K mg W ta ma) (s : SR K mg ι S H) (r : ER K mg ι H ρ σ) (g : Good K mg W ι H σ P ((ma ρ S).bind k)) {Q : Option Int → Hp → Prop}
    (h : ∀ b S1 ι1 H1, Ext ι H ι1 H1 → SR K mg ι1 S1 H1 → ER K mg ι1 H1 ρ σ → Good K mg W ι1 H1 σ P (k b S1) → Q b H1) : ta σ H Q := by
  refine ha ι S H ρ σ Q s r ?_
  cases q : ma ρ S with
  | ok d S1 =>
    rw [q] at g
    exact fun ι1 H1 e s1 => h d S1 ι1 H1 e s1 (r.mono e) (Good.mono e g)
  | ex c w S1 => rw [q] at g; exact g
  | no => rw [q] at g; exact g.elim
def cutD {α : Type} (xs : List α) (lo hi : Option Int) : List α := (xs.drop (HT.sIx xs.length 0 lo)).take (HT.sIx xs.length xs.length hi - HT.sIx xs.length 0 lo)
theorem DRs.cut {K : PySem.W.Frag} {mg : Str → Option Value} {ι : List Addr} {H : Hp} {ds : List D} {vs : List V} (h : DRs K mg ι H ds vs) (lo hi : Option Int) : DRs K mg ι H (cutD ds lo hi) (cutV vs lo hi) := by
  unfold cutD cutV
  rw [h.length]
  exact (h.drop _).take _
theorem cut_whole {α : Type} {xs : List α} {lo hi : Option Int} (h : HT.sIx xs.length 0 lo = 0 ∧ HT.sIx xs.length xs.length hi = xs.length) : cutD xs lo hi = xs := by
  unfold cutD
  rw [h.1, h.2]; simp
def dCut (d : D) (lo hi : Option Int) (S : Sto) : R D := match d with
  | .tup xs => .ok (.tup (cutD xs lo hi)) S
  | .str z => if z.length ≤ 16777216 then .ok (.str (cutS z lo hi)) S else .no
  | .wl xs => .ok (.obj S.length) (S ++ [.lst (cutD xs lo hi)])
  | .obj i => (match S[i]? with
    | some (.lst xs) => .ok (.obj S.length) (S ++ [.lst (cutD xs lo hi)])
    | _ => .no)
  | _ => .no
def eCut (me : EM) (ml mh : OM) : EM := fun ρ S => (me ρ S).bind fun d S1 => (ml ρ S1).bind fun lo S2 => (mh ρ S2).bind fun hi S3 => dCut d lo hi S3
def rSl (K : PySem.W.Frag) : V → Option Int → Option Int → Hp → VK → Prop := fun x lo hi H Q => rSlA K x lo hi H Q ∨ rSlL K x lo hi H Q ∨ rSlS x lo hi H Q
theorem ee_cut {e : Expr} {lo hi : Option Expr} {te : TE} {me : EM} {tl th : TO} {ml mh : OM} {p2 pos : Pos} (he : Ee X W e te me) (hl : Eo X W lo tl ml) (hh : Eo X W hi th mh) : Ee X W (.Subscript e (.Slice lo hi none p2) pos) (tSl (rSl X.K) te tl th) (eCut me ml mh) :=
  ⟨pe_slice (SlR.or sl_tupA (SlR.or sl_list sl_str)) he.der hl.der hh.der, fun ι S H ρ σ Q s r g => bindE he.sim s r g fun d S1 ι1 H1 v e1 s1 r1 x g1 => bindO hl.sim s1 r1 g1 fun l S2 ι2 H2 e2 s2 r2 g2 => bindO hh.sim s2 r2 g2 fun u S3 ι3 H3 e3 s3 r3 g3 => by
    have x3 := x.mono (e2.trans e3)
    unfold dCut at g3
    split at g3
    · rename_i xs
      obtain ⟨a, vs, rfl, hq, rr⟩ := x3.sqT
      refine .inl ⟨a, vs, rfl, hq, fun hw => ?_, fun _ p hp => ?_⟩
      · rw [← rr.length] at hw
        refine g3.now s3 _ ?_
        rw [cut_whole hw]; exact x3
      · exact g3 _ _ (Ext.new hp) (s3.lay hp) _ (.tup upd_same ((rr.cut _ _).mono (Ext.new hp)))
    · cases x3
      split at g3
      · rename_i hz
        exact .inr (.inr ⟨_, rfl, by rw [szl]; exact hz, g3.now s3 _ (.str _)⟩)
      · exact g3.elim
    · obtain ⟨a, vs, rfl, hq, rr⟩ := x3.sqW
      exact .inr (.inl ⟨a, vs, rfl, hq, fun p hp => g3 _ _ (Ext.newI hp) (s3.push hp (.lst ((rr.cut _ _).mono (Ext.newI hp)))) _ (.obj s3.last)⟩)
    · cases x3 with
      | obj hi =>
      split at g3
      · rename_i xs q
        obtain ⟨a, vs, ha, hv, rr⟩ := s3.list q
        rw [hi] at ha; cases ha
        exact .inr (.inl ⟨_, vs, rfl, SqL.of hv, fun p hp => g3 _ _ (Ext.newI hp) (s3.push hp (.lst ((rr.cut _ _).mono (Ext.newI hp)))) _ (.obj s3.last)⟩)
      · exact g3.elim
    · exact g3.elim⟩
end
end Sh

set_option Elab.async false
set_option linter.all false
set_option maxRecDepth 100000
set_option autoImplicit false
namespace Sh
open PySem PySem.Spec PyProof.Rows L2
section
variable {X : Cx} {W : WX} {e a b c : Expr} {ta tb tc te : TE} {ma mb mc me : EM} {pos : Pos} {rest : List Expr}
/-! ### truth -/
def truD (d : D) (S : Sto) : Option Bool := match d with
  | .non => some false
  | .bl b => some b
  | .int i => some (i != 0)
  | .str z => if z.length ≤ 16777216 then some ((z.length : Int) != 0) else none
  | .obj i => (match S[i]? with
    | some (.lst xs) => some (!xs.isEmpty)
    | some (.dK kvs) => some (!kvs.isEmpty)
    | _ => none)
  | .tup xs => some (!xs.isEmpty)
  | .kt xs => some (!xs.isEmpty)
  | .wl xs => some (!xs.isEmpty)
  | _ => none
theorem isE {K : PySem.W.Frag} {mg : Str → Option Value} {ι : List Addr} {H : Hp} {ds : List D} {vs : List V} (h : DRs K mg ι H ds vs) : ds.isEmpty = vs.isEmpty := by cases h <;> rfl
theorem isEk {κ : Type} {K : PySem.W.Frag} {mg : Str → Option Value} {ι : List Addr} {H : Hp} {ds : List (κ × D)} {vs : List (κ × V)} (h : KR K mg ι H ds vs) : ds.isEmpty = vs.isEmpty := by cases h <;> rfl
theorem truD_rel {K : PySem.W.Frag} {mg : Str → Option Value} {ι : List Addr} {S : Sto} {H : Hp} (s : SR K mg ι S H) {d : D} {v : V} {k : Bool} (h : DR K mg ι H d v) (e : truD d S = some k) : TruV K v H k := by
  unfold truD at e
  split at e
  · cases h; cases e; rfl
  · cases h; cases e; rfl
  · cases h; cases e; rfl
  · cases h
    split at e
    · rename_i hl
      cases e
      exact ⟨by rw [szl]; exact hl, rfl⟩
    · cases e
  · cases h with
    | obj hi =>
    split at e
    · rename_i xs q
      cases e
      obtain ⟨a, vs, ha, hv, rr⟩ := s.list q
      rw [hi] at ha; cases ha
      exact .inl ⟨vs, SqL.of hv, by rw [isE rr]⟩
    · rename_i xs q
      cases e
      obtain ⟨a, vs, ha, hv, rr⟩ := s.dictK q
      rw [hi] at ha; cases ha
      exact .inr (.inr ⟨vs, hv, by rw [isEk rr]⟩)
    · cases e
  · cases e
    obtain ⟨a, vs, rfl, hq, rr⟩ := h.sqT
    exact .inr (.inl ⟨vs, hq, by rw [isE rr]⟩)
  · cases e
    obtain ⟨a, vs, rfl, hq, rr⟩ := h.sqK
    exact .inr (.inl ⟨vs, hq, by rw [isE rr]⟩)
  · cases e
    obtain ⟨a, vs, rfl, hq, rr⟩ := h.sqW
    exact .inl ⟨vs, hq, by rw [isE rr]⟩
  · cases e
def tTru (m : EM) : TM := fun ρ S => (m ρ S).bind fun d S1 => match truD d S1 with
  | some k => .ok k S1
  | none => .no
theorem et_truth (h : Ee X W e te me) (he : ∀ whole, isTrue e X.env whole = (do let v ← whole; standAt e.pos; holding [v] (truthy v)) := by intro _; rfl) : Et X W e (fun σ H Q => te σ H fun x H' => ∃ k, TruV X.K x H' k ∧ Q k H') (tTru me) :=
  ⟨pt_truth h.der he, fun ι S H ρ σ Q s r g => bindE h.sim s r g fun d S1 ι1 H1 v e1 s1 r1 x g1 => by
    split at g1
    · rename_i k q
      exact ⟨k, truD_rel s1 x q, g1.now s1⟩
    · exact g1.elim⟩
structure Ew (X : Cx) (W : WX) (e : Expr) (t : TT) (m : TM) : Prop where
  der : PW X e t
  sim : SimT X.K X.mg W t m
theorem Ew.et {t : TT} {m : TM} (h : Ew X W e t m) : Et X W e t m := ⟨h.der.pt, h.sim⟩
def tAnd' (a b : TM) : TM := fun ρ S => (a ρ S).bind fun k S1 => if k = true then b ρ S1 else .ok false S1
def tOr' (a b : TM) : TM := fun ρ S => (a ρ S).bind fun k S1 => if k = true then .ok true S1 else b ρ S1
def tNot' (a : TM) : TM := fun ρ S => (a ρ S).bind fun k S1 => .ok (!k) S1
variable {t u : TT} {m n : TM}
theorem ew_and1 (ha : Et X W a t m) : Ew X W (.BoolOp .And [a] pos) t m := ⟨pw_and1 ha.der, ha.sim⟩
theorem ew_or1 (ha : Et X W a t m) : Ew X W (.BoolOp .Or [a] pos) t m := ⟨pw_or1 ha.der, ha.sim⟩
theorem ew_and (ha : Et X W a t m) (hb : Ew X W (.BoolOp .And (b :: rest) pos) u n) : Ew X W (.BoolOp .And (a :: b :: rest) pos) (tAnd t u) (tAnd' m n) :=
  ⟨pw_and ha.der hb.der, fun ι S H ρ σ Q s r g => bindT ha.sim s r g fun k S1 ι1 H1 e1 s1 r1 g1 => by
    cases k with
    | true => exact hb.sim _ _ _ _ _ _ s1 r1 g1
    | false => exact g1.now s1⟩
theorem ew_or (ha : Et X W a t m) (hb : Ew X W (.BoolOp .Or (b :: rest) pos) u n) : Ew X W (.BoolOp .Or (a :: b :: rest) pos) (tOr t u) (tOr' m n) :=
  ⟨pw_or ha.der hb.der, fun ι S H ρ σ Q s r g => bindT ha.sim s r g fun k S1 ι1 H1 e1 s1 r1 g1 => by
    cases k with
    | false => exact hb.sim _ _ _ _ _ _ s1 r1 g1
    | true => exact g1.now s1⟩
theorem et_not (ha : Et X W a t m) : Et X W (.UnaryOp .Not a pos) (tNot t) (tNot' m) :=
  ⟨pt_not ha.der, fun ι S H ρ σ Q s r g => bindT ha.sim s r g fun k S1 ι1 H1 e1 s1 r1 g1 => g1.now s1⟩
/-! ### values by truth -/
def eAnd (a b : EM) : EM := fun ρ S => (a ρ S).bind fun d S1 => match truD d S1 with
  | some true => b ρ S1
  | some false => .ok d S1
  | none => .no
def eOr (a b : EM) : EM := fun ρ S => (a ρ S).bind fun d S1 => match truD d S1 with
  | some true => .ok d S1
  | some false => b ρ S1
  | none => .no
def eNot (a : EM) : EM := fun ρ S => (a ρ S).bind fun d S1 => match truD d S1 with
  | some k => .ok (.bl (!k)) S1
  | none => .no
theorem ee_one {op : BoolOp} (ha : Ee X W a ta ma) (der : PE X (.BoolOp op [a] pos) ta) : Ee X W (.BoolOp op [a] pos) ta ma := ⟨der, ha.sim⟩
theorem ee_and (ha : Ee X W a ta ma) (hb : Ee X W (.BoolOp .And (b :: rest) pos) tb mb) : Ee X W (.BoolOp .And (a :: b :: rest) pos) (tAndT X.K ta tb) (eAnd ma mb) :=
  ⟨pe_andT ha.der hb.der, fun ι S H ρ σ Q s r g => bindE ha.sim s r g fun d S1 ι1 H1 v e1 s1 r1 x g1 => by
    split at g1
    · rename_i q; exact ⟨true, truD_rel s1 x q, iteT (hb.sim _ _ _ _ _ _ s1 r1 g1)⟩
    · rename_i q; exact ⟨false, truD_rel s1 x q, iteF (g1.now s1 v x)⟩
    · exact g1.elim⟩
theorem ee_or (ha : Ee X W a ta ma) (hb : Ee X W (.BoolOp .Or (b :: rest) pos) tb mb) : Ee X W (.BoolOp .Or (a :: b :: rest) pos) (tOrT X.K ta tb) (eOr ma mb) :=
  ⟨pe_orT ha.der hb.der, fun ι S H ρ σ Q s r g => bindE ha.sim s r g fun d S1 ι1 H1 v e1 s1 r1 x g1 => by
    split at g1
    · rename_i q; exact ⟨true, truD_rel s1 x q, iteT (g1.now s1 v x)⟩
    · rename_i q; exact ⟨false, truD_rel s1 x q, iteF (hb.sim _ _ _ _ _ _ s1 r1 g1)⟩
    · exact g1.elim⟩
theorem ee_not (ha : Ee X W a ta ma) : Ee X W (.UnaryOp .Not a pos) (tNotT X.K ta) (eNot ma) :=
  ⟨pe_notT ha.der, fun ι S H ρ σ Q s r g => bindE ha.sim s r g fun d S1 ι1 H1 v e1 s1 r1 x g1 => by
    split at g1
    · rename_i k q; exact ⟨k, truD_rel s1 x q, g1.now s1 _ (.bl _)⟩
    · exact g1.elim⟩
def eNeg (a : EM) : EM := fun ρ S => (a ρ S).bind fun d S1 => match d with
  | .int i => .ok (.int (-i)) S1
  | _ => .no
theorem ee_neg (ha : Ee X W a ta ma) : Ee X W (.UnaryOp .USub a pos) (tUn (rU fun i => .int (-i)) ta) (eNeg ma) :=
  ⟨pe_un un_neg ha.der, fun ι S H ρ σ Q s r g => bindE ha.sim s r g fun d S1 ι1 H1 v e1 s1 r1 x g1 => by
    split at g1
    · cases x; exact ⟨_, rfl, g1.now s1 _ (.int _)⟩
    · exact g1.elim⟩
def eIf (c : TM) (a b : EM) : EM := fun ρ S => (c ρ S).bind fun k S1 => if k = true then a ρ S1 else b ρ S1
theorem ee_if (hc : Et X W c t m) (ha : Ee X W a ta ma) (hb : Ee X W b tb mb) : Ee X W (.IfExp c a b pos) (tIf t ta tb) (eIf m ma mb) :=
  ⟨pe_ifExp hc.der ha.der hb.der, fun ι S H ρ σ Q s r g => bindT hc.sim s r g fun k S1 ι1 H1 e1 s1 r1 g1 => by
    cases k with
    | true => exact ha.sim _ _ _ _ _ _ s1 r1 g1
    | false => exact hb.sim _ _ _ _ _ _ s1 r1 g1⟩
def eChain (f g : D → D → Sto → R D) (a b c : EM) : EM := fun ρ S => (a ρ S).bind fun x S1 => (b ρ S1).bind fun y S2 => (f x y S2).bind fun z S3 => match z with
  | .bl true => (c ρ S3).bind fun w S4 => g y w S4
  | .bl false => .ok (.bl false) S3
  | _ => .no
theorem sim_chain {r r' : R2} {f g : D → D → Sto → R D} {op op' : CmpOp} (ho : OpS X W (compareOp op) r f) (ho' : OpS X W (compareOp op') r' g) (ha : SimE X.K X.mg W ta ma) (hb : SimE X.K X.mg W tb mb) (hc : SimE X.K X.mg W tc mc) :
    SimE X.K X.mg W (tChain r r' ta tb tc) (eChain f g ma mb mc) :=
  fun ι S H ρ σ Q s r g => bindE ha s r g fun d S1 ι1 H1 v e1 s1 r1 x g1 => bindE hb s1 r1 g1 fun d2 S2 ι2 H2 v2 e2 s2 r2 x2 g2 => by
    refine ho.sim ι2 S2 H2 σ v v2 d d2 _ s2 (x.mono e2) x2 ?_
    cases q : f d d2 S2 with
    | no => rw [q] at g2; exact g2.elim
    | ex c w S3 => rw [q] at g2; exact g2
    | ok z S3 =>
      rw [q] at g2
      intro ι3 H3 e3 s3 v3 x3
      have g3 := Good.mono e3 g2
      simp only [R.bind] at g3
      split at g3
      · cases x3
        refine ⟨true, rfl, iteT ?_⟩
        exact bindE hc s3 ((r2).mono e3) g3 fun d4 S4 ι4 H4 v4 e4 s4 r4 x4 g4 => ho'.sim ι4 S4 H4 σ v2 v4 d2 d4 Q s4 (x2.mono (e3.trans e4)) x4 g4
      · cases x3
        exact ⟨false, rfl, iteF (g3.now s3 _ (.bl _))⟩
      · exact g3.elim
theorem ee_chain {r r' : R2} {f g : D → D → Sto → R D} {op op' : CmpOp} (ho : OpS X W (compareOp op) r f) (ho' : OpS X W (compareOp op') r' g) (ha : Ee X W a ta ma) (hb : Ee X W b tb mb) (hc : Ee X W c tc mc)
    (hm : lastMarks [op, op'] [b, c] = false := by with_unfolding_all rfl) : Ee X W (.Compare a [op, op'] [b, c] pos) (tChain r r' ta tb tc) (eChain f g ma mb mc) := ⟨pe_chain ho.der ho'.der ha.der hb.der hc.der hm, sim_chain ho ho' ha.sim hb.sim hc.sim⟩
theorem et_chain {r r' : R2} {f g : D → D → Sto → R D} {op op' : CmpOp} (ho : OpS X W (compareOp op) r f) (ho' : OpS X W (compareOp op') r' g) (ha : Ee X W a ta ma) (hb : Ee X W b tb mb) (hc : Ee X W c tc mc)
    (hm : lastMarks [op, op'] [b, c] = false := by with_unfolding_all rfl) : Et X W (.Compare a [op, op'] [b, c] pos) (tTest (tChain r r' ta tb tc)) (tBl (eChain f g ma mb mc)) := ⟨pt_chain ho.der ho'.der ha.der hb.der hc.der hm, sim_bl (sim_chain ho ho' ha.sim hb.sim hc.sim)⟩
/-! ### calls of what is built in -/
structure CaS (X : Cx) (W : WX) (f : Value) (r : List V → Hp → VK → Prop) (g : List D → Sto → R D) : Prop where
  der : CallR X f r
  sim : ∀ ι S H σ (xs : List V) (ds : List D) (Q : VK), SR X.K X.mg ι S H → DRs X.K X.mg ι H ds xs → Good X.K X.mg W ι H σ (QV X.K X.mg Q) (g ds S) → r xs H Q
def eCb (g : List D → Sto → R D) (m : AM) : EM := fun ρ S => (m ρ S).bind g
theorem ee_callB {x : Str} {p : Pos} {es : List Expr} {id : String} {r : List V → Hp → VK → Prop} {g : List D → Sto → R D} {t : TA} {m : AM} (hc : CaS X W (.builtin id) r g) (hm : X.mg x = none) (ha : Ea X W (e :: es) t m) (hg : Gl X x := by rfl) (hv : bootBuiltins x = some (.builtin id) := by decide +kernel) (hn : x ≠ "__name__" := by decide) (hdb : (x == ("__debug__" : Str)) = false := by decide)
    (he : starEach (e :: es) X.env = (false, eval e X.env) :: starEach es X.env := by rfl) (hpl : (backTo pos (starEach es X.env)).any (·.1) = false := by rfl) : Ee X W (.Call (.Name x p) (e :: es) [] pos) (tCB r t) (eCb g m) :=
  ⟨pe_callB hc.der hg hm hv ha.der hn hdb he hpl, fun ι S H ρ σ Q s r g => bindA ha.sim s r g fun ds S1 ι1 H1 vs e1 s1 r1 x g1 => hc.sim ι1 S1 H1 σ vs ds Q s1 x g1⟩
theorem ee_callTy {x : Str} {p : Pos} {es : List Expr} {T : String} {r : List V → Hp → VK → Prop} {g : List D → Sto → R D} {t : TA} {m : AM} (hc : CaS X W (.type T) r g) (hm : X.mg x = none) (ha : Ea X W (e :: es) t m) (hg : Gl X x := by rfl) (hv : bootBuiltins x = some (.type T) := by decide +kernel) (hn : x ≠ "__name__" := by decide) (hdb : (x == ("__debug__" : Str)) = false := by decide)
    (he : starEach (e :: es) X.env = (false, eval e X.env) :: starEach es X.env := by rfl) (hpl : (backTo pos (starEach es X.env)).any (·.1) = false := by rfl) : Ee X W (.Call (.Name x p) (e :: es) [] pos) (tCB r t) (eCb g m) :=
  ⟨pe_callTy hc.der hg hm hv ha.der hn hdb he hpl, fun ι S H ρ σ Q s r g => bindA ha.sim s r g fun ds S1 ι1 H1 vs e1 s1 r1 x g1 => hc.sim ι1 S1 H1 σ vs ds Q s1 x g1⟩
def gLen (ds : List D) (S : Sto) : R D := match ds with
  | [d] => (match seqD S d with
    | some xs => .ok (.int xs.length) S
    | none => match d with
      | .str z => if z.length ≤ 16777216 then .ok (.int z.length) S else .no
      | .obj i => (match S[i]? with
        | some (.dT kvs) => .ok (.int (kvs.length : Nat)) S
        | _ => .no)
      | _ => .no)
  | _ => .no
def rLenA (K : PySem.W.Frag) : List V → Hp → VK → Prop := fun xs H Q => (∃ x n, xs = [x] ∧ LenV K x H n ∧ Q (.int n) H)
theorem DRs.one {K : PySem.W.Frag} {mg : Str → Option Value} {ι : List Addr} {H : Hp} {d : D} {vs : List V} (h : DRs K mg ι H [d] vs) : ∃ v, vs = [v] ∧ DR K mg ι H d v := by
  cases h with
  | cons a b => cases b; exact ⟨_, rfl, a⟩
theorem DRs.two {K : PySem.W.Frag} {mg : Str → Option Value} {ι : List Addr} {H : Hp} {d e : D} {vs : List V} (h : DRs K mg ι H [d, e] vs) : ∃ v w, vs = [v, w] ∧ DR K mg ι H d v ∧ DR K mg ι H e w := by
  cases h with
  | cons a b => obtain ⟨w, rfl, c⟩ := b.one; exact ⟨_, w, rfl, a, c⟩
end
end Sh

set_option Elab.async false
set_option linter.all false
set_option maxRecDepth 100000
set_option autoImplicit false
namespace Sh
open PySem PySem.Spec PyProof.Rows L2
/-! ### what a def promises, where no repr is going on -/
structure Rm (k : Nat) (A : Around) : Prop where
  room : Room k A
  gd : A.guards = some []
theorem Rm.mono {j k : Nat} {A : Around} (r : Rm k A) (h : j ≤ k) : Rm j A := ⟨r.room.mono h, r.gd⟩
theorem Rm.deeper {k : Nat} {A : Around} (r : Rm (k + 1) A) (env : PySem.Env) : Rm k (A.deeper env) := ⟨r.room.deeper env, r.gd⟩
structure FnG (P : Program) (w : World) (K : PySem.W.Frag) (mg : Str → Option Value) (base : Heap) (k : Nat) (f : Addr) (fd : FuncData) (ps : List Str) (sp : Sp) : Prop where
  len : ∀ vs H Q E, sp vs H Q E → vs.length = ps.length
  run : ∀ (A : Around) (outer : List PySem.Env) (s : Shared) (H : Hp) (args : Args) (us : List Value) (vs : List V) (Q : VK) (E : XK), Rm k A → Env0 P w K mg base A outer s H → BindsTo s fd args (ps.zip us) → Vals vs us → sp vs H Q E →
    codeAny (model P w) A (.call (.ref f) args) (CR (L2.CX P w) outer P w H s Q E) s
theorem FnG.mono {P : Program} {w : World} {K : PySem.W.Frag} {mg : Str → Option Value} {base : Heap} {j k : Nat} {f : Addr} {fd : FuncData} {ps : List Str} {sp : Sp} (F : FnG P w K mg base j f fd ps sp) (h : j ≤ k) :
    FnG P w K mg base k f fd ps sp := ⟨F.len, fun A outer s H args us vs Q E hr => F.run A outer s H args us vs Q E (hr.mono h)⟩
theorem fn_ofG {P : Program} {w : World} {K : PySem.W.Frag} {mg : Str → Option Value} {base : Heap} {k : Nat} {f : Addr} {name qual : Str} {params : Arguments} {body : List Stmt} {scope : Scope} {dV kV doc pm cdv ct oc : Value} {an od : Option Addr}
    {osl : Array (Option Value)} {N ps : List Str} {sp : Sp} (lk : K.lookup f = some ⟨oc, od, .func (PySem.W.fnOf name qual params body scope dV kV doc pm an cdv ct), osl⟩) (hcd : PySem.W.codeIn K cdv qual = true) (S : FnScope N ps scope)
    (len : ∀ vs H Q E, sp vs H Q E → vs.length = ps.length)
    (hbody : ∀ (A : Around) (outer : List PySem.Env) (s : Shared) (H : Hp) (vs : List V) (Q : VK) (E : XK), Rm k (A.deeper (envOfC qual scope s.heap.objs.size f cdv)) → sp vs H Q E →
      ∃ t, PSs (cxOf (L2.CX P w) P w K mg base N qual scope f cdv A outer s H E) body t ∧ t { nx := fun _ H' => Q .non H', rt := Q } (start N vs) H) :
    FnG P w K mg base (k + 1) f (PySem.W.fnOf name qual params body scope dV kV doc pm an cdv ct) ps sp := by
  refine ⟨len, fun A outer s H args us vs Q E hr e0 hb r hsp => ?_⟩
  have hl := len _ _ _ _ hsp
  have KX : K.In s.heap := e0.mod.kin.keeps fun b o e => (e0.bs b o e).1
  have lim : s.heap.NoLimit := e0.mod.nolimit.keeps fun b o e => (e0.bs b o e).1
  have hkind : ∀ y ∈ ps.zip us, scope.names.lookup y.1 = some .local ∨ (scope.names.lookup y.1 = some .cell ∧ ((cellsFrom (s.heap.objs.size + 1) scope.names []).lookup y.1).isSome = true) := fun ⟨n, v⟩ hy => by
    rcases S.par n (List.of_mem_zip hy).1 with q | q
    · exact .inl q
    · exact .inr ⟨q, PySem.W.cellsFrom_some _ _ _ (.inl q)⟩
  refine codeAny_call_function hr.room.depth (KX _ _ lk) rfl S.co S.gen rfl (PySem.W.codeRec_of KX hcd) (hb _ _ _ _ ?_)
  refine wpAny_newFunctionEnv_cells S.kind hkind fun env he s1 x => ?_
  subst he
  refine ⟨lim.keeps x.toInCall.keep, codeAny_func ?_⟩
  obtain ⟨t, ht, hq⟩ := hbody A outer s H vs Q E (hr.deeper _) hsp
  have I : Inv (cxOf (L2.CX P w) P w K mg base N qual scope f cdv A outer s H E) [] (start N vs) H s1 := inv_start S hr.room.hd e0 hl r x
  refine wpAny_mono (ht.run [] s1 (start N vs) H _ I hq) (fun fl s' hs => ?_) fun e s' hs => hs
  have fin : ∀ {σ' : L2.St} {H' : Hp} {v : V} {u : Value}, Inv (cxOf (L2.CX P w) P w K mg base N qual scope f cdv A outer s H E) [] σ' H' s' → RelV v u → Q v H' → CE outer P w H s Q u s' :=
    fun {σ' H' v u} J rv q => ⟨v, H', J.os, J.bare, J.base, J.hok, rv, q⟩
  cases fl with
  | ret u =>
    obtain ⟨v, σ', H', J, rv, q⟩ := hs
    exact fin J rv q
  | next =>
    obtain ⟨σ', H', J, q⟩ := hs
    exact fin (v := V.non) (u := Value.none) J rfl q
  | brk =>
    obtain ⟨_, _, _, q⟩ := hs
    exact False.elim q
  | cont =>
    obtain ⟨_, _, _, q⟩ := hs
    exact False.elim q
theorem Fun.okG {P : Program} {w : World} {K : PySem.W.Frag} {mg : Str → Option Value} {base : Heap} {x qual : Str} {st : Stmt} {f : Addr} {fd : FuncData} {N ps : List Str} {k : Nat} {sp : Sp} (F : Fun K x qual st f fd) (S : FnScope N ps (defScope st)) (len : ∀ vs H Q E, sp vs H Q E → vs.length = ps.length)
    (hbody : ∀ (cdv : Value) (A : Around) (outer : List PySem.Env) (s : Shared) (H : Hp) (vs : List V) (Q : VK) (E : XK), Rm k (A.deeper (envOfC qual (defScope st) s.heap.objs.size f cdv)) → sp vs H Q E →
      ∃ t, PSs (cxOf (L2.CX P w) P w K mg base N qual (defScope st) f cdv A outer s H E) (defBody st) t ∧ t { nx := fun _ H' => Q .non H', rt := Q } (start N vs) H) : FnG P w K mg base (k + 1) f fd ps sp := by
  obtain ⟨oc, od, kV, doc, pm, an, cdv, ct, osl, rfl, lk, hcd⟩ := F.ex
  exact fn_ofG lk hcd S len fun A outer s H vs Q E hr h => hbody cdv A outer s H vs Q E hr h
/-! ### the promise that is a computation -/
def spM (K : PySem.W.Frag) (mg : Str → Option Value) (n : Nat) (m : List D → Sto → R D) : Sp := fun vs H Q E => vs.length = n ∧
  ∃ ι S ds, SR K mg ι S H ∧ DRs K mg ι H ds vs ∧ Good K mg (fun cls d _ H' => E cls d H') ι H [] (QV K mg Q) (m ds S)
/-- how a call's values come to the parameters: by position the first a, by name ks; pick: which of them in turn -/
def pick {α : Type} (ix : List Nat) (l : List α) : List α := ix.filterMap fun i => l[i]?
structure KB (K : PySem.W.Frag) (fd : FuncData) (ps : List Str) (a : Nat) (ks : List Str) (ix : List Nat) : Prop where
  to : ∀ (s : Shared) (us ws : List Value), K.In s.heap → us.length = a → ws.length = ks.length → BindsTo s fd ⟨us, ks.zip ws⟩ (ps.zip (pick ix (us ++ ws)))
theorem KB.all {K : PySem.W.Frag} {x qual : Str} {st : Stmt} {f : Addr} {fd : FuncData} {ps ks : List Str} {a : Nat} {ix : List Nat} (F : Fun K x qual st f fd)
    (h : ∀ (kV doc pm : Value) (an : Option Addr) (cdv ct : Value) (us ws : List Value), us.length = a → ws.length = ks.length → bindArgs (PySem.W.fnOf x qual (defArgs st) (defBody st) (defScope st) .none kV doc pm an cdv ct) ⟨us, ks.zip ws⟩ = pure (ps.zip (pick ix (us ++ ws)))) : KB K fd ps a ks ix := by
  obtain ⟨oc, od, kV, doc, pm, an, cdv, ct, osl, rfl, lk, hcd⟩ := F.ex
  exact ⟨fun s us ws _ h1 h2 => .of_eq (h kV doc pm an cdv ct us ws h1 h2)⟩
theorem DRs.pick {K : PySem.W.Frag} {mg : Str → Option Value} {ι : List Addr} {H : Hp} {ds : List D} {vs : List V} (h : DRs K mg ι H ds vs) : ∀ (ix : List Nat), DRs K mg ι H (Sh.pick ix ds) (Sh.pick ix vs)
  | [] => .nil
  | i :: ix => by
    unfold Sh.pick
    rw [List.filterMap_cons, List.filterMap_cons]
    cases q : ds[i]? with
    | none =>
      have : vs[i]? = none := by
        rw [List.getElem?_eq_none_iff] at q ⊢
        rw [← h.length]; exact q
      rw [this]
      exact DRs.pick h ix
    | some d =>
      obtain ⟨v, q1, q2⟩ := h.get q
      rw [q1]
      exact .cons q2 (DRs.pick h ix)
theorem Vals.pick {vs : List V} {us : List Value} (h : Vals vs us) : ∀ (ix : List Nat), Vals (Sh.pick ix vs) (Sh.pick ix us)
  | [] => .nil
  | i :: ix => by
    unfold Sh.pick
    rw [List.filterMap_cons, List.filterMap_cons]
    cases q : vs[i]? with
    | none => rw [h.none_of q]; exact Vals.pick h ix
    | some d =>
      obtain ⟨v, q1, q2⟩ := h.get q
      rw [q1]
      exact .cons q2 (Vals.pick h ix)
section
variable {X : Cx} {W : WX} {e : Expr} {es : List Expr} {kws : List Keyword} {t tk : TA} {m mk : AM} {x : Str} {p pos : Pos} {k n : Nat} {f : Addr} {fd : FuncData} {ps ks : List Str} {mf : List D → Sto → R D} {ix : List Nat}
theorem run_g {sp : Sp} {pins : List (Addr × Obj)} {σ : L2.St} {H : Hp} {s : Shared} {Q : VK} {us ws : List Value} {vs zs : List V} {E : XK} (F : FnG X.prog X.w X.K X.mg X.base k f fd ps sp) (hr : Rm k X.A) (hb : KB X.K fd ps n ks ix) (hx : PassesAt (L2.CX X.prog X.w) X σ E)
    (I : Inv X pins σ H s) (r : Vals vs us) (rz : Vals zs ws) (l1 : vs.length = n) (l2 : zs.length = ks.length) (h : sp (pick ix (vs ++ zs)) H Q E) : wpAny (model X.prog X.w) X.A (call (.ref f) us (ks.zip ws)) (EP X pins σ Q) X.xe s := by
  have r2 := Vals.pick (r.append rz) ix
  refine wpAny_call (codeAny_mono (F.run X.A X.stack s H ⟨us, ks.zip ws⟩ _ _ Q E hr I.env0 (hb.to s us ws I.kIn (r.length.symm.trans l1) (rz.length.symm.trans l2)) r2 h) fun r s' hq => ?_)
  cases r with
  | error e => exact hx pins H s e s' I hq
  | ok fl =>
    cases fl with
    | ret u => exact I.after hq
    | next => exact False.elim hq
    | brk => exact False.elim hq
    | cont => exact False.elim hq
def tCallG (n m : Nat) (ix : List Nat) (sp : Sp) (W : WX) (t tk : TA) : TE := fun σ H Q => t σ H fun vs H1 => tk σ H1 fun zs H2 => vs.length = n ∧ zs.length = m ∧ sp (pick ix (vs ++ zs)) H2 Q (fun cls d H' => W cls d σ H')
theorem pe_callG {sp : Sp} (F : FnG X.prog X.w X.K X.mg X.base k f fd ps sp) (hr : Rm k X.A) (tk' : Takes X W) (hm : X.mg x = some (.ref f)) (hk : PySem.W.keepIn X.K (.ref f) = true) (hb : KB X.K fd ps n ks ix)
    (ha : PA X (e :: es) t) (hkw : PK X kws tk) (hg : Gl X x := by rfl) (hall : (backToKw pos (keywordEach kws X.env)).all (·.1.isSome) = true := by rfl) (hks : (backToKw pos (keywordEach kws X.env)).filterMap (·.1) = ks := by rfl)
    (hdb : (x == ("__debug__" : Str)) = false := by decide) (he : starEach (e :: es) X.env = (false, eval e X.env) :: starEach es X.env := by rfl)
    (hpl : ((backTo pos (starEach (e :: es) X.env)).any (·.1) || (backToKw pos (keywordEach kws X.env)).any (·.1.isNone)) = false := by rfl) :
    PE X (.Call (.Name x p) (e :: es) kws pos) (tCallG n ks.length ix sp W t tk) := by
  refine ⟨fun pins s σ H Q I h => ?_⟩
  refine wpAny_Call_Name_kw (ld_glob I hg hm ?_ hdb)
  refine PySem.W.callWith_KW (h₀ := X.base) I.ok.mod.kin hk hall (thn (ha.run pos pins s σ H _ I h) fun us s1 ⟨vs, H1, I1, r, q⟩ => ?_) hpl he
  refine thn (hkw.run pos pins s1 σ H1 _ I1 q) fun ws s2 ⟨zs, H2, I2, rz, l1, l2, q2⟩ => ⟨I2.kIn, ?_⟩
  rw [hks]
  exact run_g F hr hb (passAt tk' σ) I2 r rz l1 l2 q2
theorem pe_callG0 {sp : Sp} (F : FnG X.prog X.w X.K X.mg X.base k f fd ps sp) (hr : Rm k X.A) (tk' : Takes X W) (hm : X.mg x = some (.ref f)) (hk : PySem.W.keepIn X.K (.ref f) = true) (hb : KB X.K fd ps 0 ks ix)
    (hkw : PK X kws tk) (hg : Gl X x := by rfl) (hall : (backToKw pos (keywordEach kws X.env)).all (·.1.isSome) = true := by rfl) (hks : (backToKw pos (keywordEach kws X.env)).filterMap (·.1) = ks := by rfl)
    (hdb : (x == ("__debug__" : Str)) = false := by decide)
    (hpl : ((backTo pos (starEach [] X.env)).any (·.1) || (backToKw pos (keywordEach kws X.env)).any (·.1.isNone)) = false := by rfl) :
    PE X (.Call (.Name x p) [] kws pos) (tCallG 0 ks.length ix sp W tNil tk) := by
  refine ⟨fun pins s σ H Q I h => ?_⟩
  refine wpAny_Call_Name_kw (ld_glob I hg hm ?_ hdb)
  refine PySem.W.callWith_KW0 (h₀ := X.base) I.ok.mod.kin hk hall (thn (hkw.run pos pins s σ H _ I h) fun ws s2 ⟨zs, H2, I2, rz, l1, l2, q2⟩ => ⟨I2.kIn, ?_⟩) hpl
  rw [hks]
  exact run_g F hr hb (passAt tk' σ) I2 .nil rz l1 l2 q2
structure Ek (X : Cx) (W : WX) (kws : List Keyword) (t : TA) (m : AM) : Prop where
  der : PK X kws t
  sim : SimA X.K X.mg W t m
theorem ek_nil : Ek X W [] tNil aNil := ⟨pk_nil, fun ι S H ρ σ Q s r g => g.now s [] .nil⟩
theorem ek_cons {nm : Option Str} {kpos : Pos} {te : TE} {me : EM} (ha : Ee X W e te me) (hr : Ek X W kws t m) : Ek X W (⟨nm, e, kpos⟩ :: kws) (tCons te t) (aCons me m) :=
  ⟨pk_cons ha.der hr.der, fun ι S H ρ σ Q s r g => bindE ha.sim s r g fun d S1 ι1 H1 v e1 s1 r1 x g1 => bindA hr.sim s1 r1 g1 fun ds S2 ι2 H2 vs e2 s2 r2 xs g2 => g2.now s2 _ (.cons (x.mono e2) xs)⟩
def eCall (n j : Nat) (ix : List Nat) (mf : List D → Sto → R D) (m mk : AM) : EM := fun ρ S => (m ρ S).bind fun ds S1 => (mk ρ S1).bind fun zs S2 => if ds.length = n ∧ zs.length = j then mf (pick ix (ds ++ zs)) S2 else .no
theorem sim_call {N : Nat} (hl : ix.length = N) (hj : ∀ i ∈ ix, i < n + ks.length) (ha : SimA X.K X.mg W t m) (hk : SimA X.K X.mg W tk mk) : SimE X.K X.mg W (tCallG n ks.length ix (spM X.K X.mg N mf) W t tk) (eCall n ks.length ix mf m mk) :=
  fun ι S H ρ σ Q s r g => bindA ha s r g fun ds S1 ι1 H1 vs e1 s1 r1 x g1 => bindA hk s1 r1 g1 fun zs S2 ι2 H2 ws e2 s2 r2 y g2 => by
    split at g2
    · rename_i hq
      have xx := x.mono e2
      refine ⟨by rw [← x.length]; exact hq.1, by rw [← y.length]; exact hq.2, ?_, ι2, S2, _, s2, (xx.app y).pick ix, ?_⟩
      · have : ∀ l : List Nat, (∀ i ∈ l, i < n + ks.length) → (pick l (vs ++ ws)).length = l.length := by
          intro l
          induction l with
          | nil => intro _; rfl
          | cons i l ih =>
            intro hm
            unfold pick
            have h1 : i < (vs ++ ws).length := by
              rw [List.length_append, ← x.length, ← y.length, hq.1, hq.2]
              exact hm i List.mem_cons_self
            rw [List.filterMap_cons, List.getElem?_eq_getElem h1]
            show (_ :: _).length = _
            rw [List.length_cons, List.length_cons]
            congr 1
            exact ih fun j hj => hm j (List.mem_cons_of_mem _ hj)
        rw [this ix hj, hl]
      · cases q : mf (pick ix (ds ++ zs)) S2 with
        | ok d S3 => rw [q] at g2; exact g2
        | no => rw [q] at g2; exact g2
        | ex c w S3 =>
          rw [q] at g2
          exact fun a b _ C dd v e s r h1 h2 h3 => g2 a b σ C dd v e s rfl h1 h2 h3
    · exact g2.elim
theorem ee_call (N : Nat) (F : FnG X.prog X.w X.K X.mg X.base k f fd ps (spM X.K X.mg N mf)) (hr : Rm k X.A) (tk' : Takes X W) (hm : X.mg x = some (.ref f)) (hk : PySem.W.keepIn X.K (.ref f) = true) (hb : KB X.K fd ps n ks ix)
    (ha : Ea X W (e :: es) t m) (hkw : Ek X W kws tk mk) (hl : ix.length = N := by rfl) (hj : ∀ i ∈ ix, i < n + ks.length := by decide) (hg : Gl X x := by rfl) (hall : (backToKw pos (keywordEach kws X.env)).all (·.1.isSome) = true := by rfl) (hks : (backToKw pos (keywordEach kws X.env)).filterMap (·.1) = ks := by rfl)
    (hdb : (x == ("__debug__" : Str)) = false := by decide) (he : starEach (e :: es) X.env = (false, eval e X.env) :: starEach es X.env := by rfl)
    (hpl : ((backTo pos (starEach (e :: es) X.env)).any (·.1) || (backToKw pos (keywordEach kws X.env)).any (·.1.isNone)) = false := by rfl) :
    Ee X W (.Call (.Name x p) (e :: es) kws pos) (tCallG n ks.length ix (spM X.K X.mg N mf) W t tk) (eCall n ks.length ix mf m mk) :=
  ⟨pe_callG F hr tk' hm hk hb ha.der hkw.der hg hall hks hdb he hpl, sim_call hl hj ha.sim hkw.sim⟩
theorem ee_call0 (N : Nat) (F : FnG X.prog X.w X.K X.mg X.base k f fd ps (spM X.K X.mg N mf)) (hr : Rm k X.A) (tk' : Takes X W) (hm : X.mg x = some (.ref f)) (hk : PySem.W.keepIn X.K (.ref f) = true) (hb : KB X.K fd ps 0 ks ix)
    (hkw : Ek X W kws tk mk) (hl : ix.length = N := by rfl) (hj : ∀ i ∈ ix, i < 0 + ks.length := by decide) (hg : Gl X x := by rfl) (hall : (backToKw pos (keywordEach kws X.env)).all (·.1.isSome) = true := by rfl) (hks : (backToKw pos (keywordEach kws X.env)).filterMap (·.1) = ks := by rfl)
    (hdb : (x == ("__debug__" : Str)) = false := by decide) (hpl : ((backTo pos (starEach [] X.env)).any (·.1) || (backToKw pos (keywordEach kws X.env)).any (·.1.isNone)) = false := by rfl) :
    Ee X W (.Call (.Name x p) [] kws pos) (tCallG 0 ks.length ix (spM X.K X.mg N mf) W tNil tk) (eCall 0 ks.length ix mf aNil mk) :=
  ⟨pe_callG0 F hr tk' hm hk hb hkw.der hg hall hks hdb hpl, sim_call hl hj ea_nil.sim hkw.sim⟩
end
end Sh

set_option Elab.async false
set_option linter.all false
set_option maxRecDepth 100000
set_option autoImplicit false
namespace Sh
open PySem PySem.Spec PyProof.Rows L2
inductive RS where
  | nx (ρ : Env) (S : Sto)
  | rt (d : D) (S : Sto)
  | bk (ρ : Env) (S : Sto)
  | ct (ρ : Env) (S : Sto)
  | ex (c : Str) (w : D) (ρ : Env) (S : Sto)
  | no
abbrev SM := Env → Sto → RS
def R.to {α : Type} (r : R α) (ρ : Env) (k : α → Sto → RS) : RS := match r with
  | .ok a S => k a S
  | .ex c w S => .ex c w ρ S
  | .no => .no
def GoodS (K : PySem.W.Frag) (mg : Str → Option Value) (W : WX) (ι : List Addr) (H : Hp) (E : Ends) : RS → Prop
  | .nx ρ S => ∀ ι' H' σ', Ext ι H ι' H' → SR K mg ι' S H' → ER K mg ι' H' ρ σ' → E.nx σ' H'
  | .rt d S => ∀ ι' H' v, Ext ι H ι' H' → SR K mg ι' S H' → DR K mg ι' H' d v → E.rt v H'
  | .bk ρ S => ∀ ι' H' σ', Ext ι H ι' H' → SR K mg ι' S H' → ER K mg ι' H' ρ σ' → E.bk σ' H'
  | .ct ρ S => ∀ ι' H' σ', Ext ι H ι' H' → SR K mg ι' S H' → ER K mg ι' H' ρ σ' → E.ct σ' H'
  | .ex c w ρ S => XGood K mg W ι H c w S (fun ι' H' σ' => ER K mg ι' H' ρ σ')
  | .no => False
def SimS (K : PySem.W.Frag) (mg : Str → Option Value) (W : WX) (t : TS) (m : SM) : Prop :=
  ∀ ι S H ρ σ E, SR K mg ι S H → ER K mg ι H ρ σ → GoodS K mg W ι H E (m ρ S) → t E σ H
structure Es (X : Cx) (W : WX) (st : Stmt) (t : TS) (m : SM) : Prop where
  der : PS X st t
  sim : SimS X.K X.mg W t m
structure Ess (X : Cx) (W : WX) (st : List Stmt) (t : TS) (m : SM) : Prop where
  der : PSs X st t
  sim : SimS X.K X.mg W t m
section
variable {K : PySem.W.Frag} {mg : Str → Option Value} {W : WX} {ι ι' : List Addr} {S S' : Sto} {H H' : Hp} {ρ : Env} {σ : L2.St} {E E' : Ends}
theorem GoodS.mono {r : RS} (e : Ext ι H ι' H') (h : GoodS K mg W ι H E r) : GoodS K mg W ι' H' E r := by
  cases r with
  | nx ρ S => exact fun a b c x => h a b c (e.trans x)
  | rt d S => exact fun a b c x => h a b c (e.trans x)
  | bk ρ S => exact fun a b c x => h a b c (e.trans x)
  | ct ρ S => exact fun a b c x => h a b c (e.trans x)
  | ex c w ρ S => exact XGood.mono e h
  | no => exact h
theorem GoodS.nxn {ρ' : Env} {σ' : L2.St} (g : GoodS K mg W ι H E (.nx ρ' S)) (s : SR K mg ι S H) (r : ER K mg ι H ρ' σ') : E.nx σ' H := g ι H σ' (Ext.refl _ _) s r
theorem bindES {ta : TE} {ma : EM} {k : D → Sto → RS} (ha : SimE K mg W ta ma) (s : SR K mg ι S H) (r : ER K mg ι H ρ σ) (g : GoodS K mg W ι H E ((ma ρ S).to ρ k)) {Q : VK}
    (h : ∀ d S1 ι1 H1 v, Ext ι H ι1 H1 → SR K mg ι1 S1 H1 → ER K mg ι1 H1 ρ σ → DR K mg ι1 H1 d v → GoodS K mg W ι1 H1 E (k d S1) → Q v H1) : ta σ H Q := by
  refine ha ι S H ρ σ Q s r ?_
  cases q : ma ρ S with
  | ok d S1 =>
    rw [q] at g
    exact fun ι1 H1 e s1 v x => h d S1 ι1 H1 v e s1 (r.mono e) x (GoodS.mono e g)
  | ex c w S1 =>
    rw [q] at g
    intro a b σ' C dd v e s1 z h1 h2 h3
    subst z
    exact g a b σ' C dd v e s1 (r.mono e) h1 h2 h3
  | no => rw [q] at g; exact g.elim
theorem bindTS {ta : TT} {ma : TM} {k : Bool → Sto → RS} (ha : SimT K mg W ta ma) (s : SR K mg ι S H) (r : ER K mg ι H ρ σ) (g : GoodS K mg W ι H E ((ma ρ S).to ρ k)) {Q : Bool → Hp → Prop}
    (h : ∀ b S1 ι1 H1, Ext ι H ι1 H1 → SR K mg ι1 S1 H1 → ER K mg ι1 H1 ρ σ → GoodS K mg W ι1 H1 E (k b S1) → Q b H1) : ta σ H Q := by
  refine ha ι S H ρ σ Q s r ?_
  cases q : ma ρ S with
  | ok d S1 =>
    rw [q] at g
    exact fun ι1 H1 e s1 => h d S1 ι1 H1 e s1 (r.mono e) (GoodS.mono e g)
  | ex c w S1 =>
    rw [q] at g
    intro a b σ' C dd v e s1 z h1 h2 h3
    subst z
    exact g a b σ' C dd v e s1 (r.mono e) h1 h2 h3
  | no => rw [q] at g; exact g.elim
theorem bindAS {ta : TA} {ma : AM} {k : List D → Sto → RS} (ha : SimA K mg W ta ma) (s : SR K mg ι S H) (r : ER K mg ι H ρ σ) (g : GoodS K mg W ι H E ((ma ρ S).to ρ k)) {Q : List V → Hp → Prop}
    (h : ∀ ds S1 ι1 H1 vs, Ext ι H ι1 H1 → SR K mg ι1 S1 H1 → ER K mg ι1 H1 ρ σ → DRs K mg ι1 H1 ds vs → GoodS K mg W ι1 H1 E (k ds S1) → Q vs H1) : ta σ H Q := by
  refine ha ι S H ρ σ Q s r ?_
  cases q : ma ρ S with
  | ok d S1 =>
    rw [q] at g
    exact fun ι1 H1 e s1 vs x => h d S1 ι1 H1 vs e s1 (r.mono e) x (GoodS.mono e g)
  | ex c w S1 =>
    rw [q] at g
    intro a b σ' C dd v e s1 z h1 h2 h3
    subst z
    exact g a b σ' C dd v e s1 (r.mono e) h1 h2 h3
  | no => rw [q] at g; exact g.elim
end
section
variable {X : Cx} {W : WX} {e : Expr} {te : TE} {me : EM} {st : Stmt} {sts : List Stmt} {t u : TS} {m n : SM} {pos : Pos}
/-! ### blocks -/
def sNil : SM := fun ρ S => .nx ρ S
def sSeq (m n : SM) : SM := fun ρ S => match m ρ S with
  | .nx ρ' S' => n ρ' S'
  | r => r
theorem ss_nil : Ess X W [] tNext sNil := ⟨pss_nil, fun ι S H ρ σ E s r g => g.nxn s r⟩
theorem sim_seq {K : PySem.W.Frag} {mg : Str → Option Value} (h1 : SimS K mg W t m) (h2 : SimS K mg W u n) : SimS K mg W (tSeq t u) (sSeq m n) := fun ι S H ρ σ E s r g => by
  refine h1 ι S H ρ σ { E with nx := u E } s r ?_
  unfold sSeq at g
  cases q : m ρ S with
  | nx ρ' S' =>
    rw [q] at g
    exact fun a b σ' e s' r' => h2 a S' b ρ' σ' E s' r' (GoodS.mono e g)
  | rt d S' => rw [q] at g; exact g
  | bk ρ' S' => rw [q] at g; exact g
  | ct ρ' S' => rw [q] at g; exact g
  | ex c w ρ' S' => rw [q] at g; exact g
  | no => rw [q] at g; exact g
theorem ss_cons (h1 : Es X W st t m) (h2 : Ess X W sts u n) : Ess X W (st :: sts) (tSeq t u) (sSeq m n) := ⟨pss_cons h1.der h2.der, sim_seq h1.sim h2.sim⟩
theorem ss_one (h1 : Es X W st t m) : Ess X W [st] t m := ⟨pss_one h1.der, h1.sim⟩
theorem es_pass : Es X W (.Pass pos) tNext sNil := ⟨ps_pass, fun ι S H ρ σ E s r g => g.nxn s r⟩
def sBreak : SM := fun ρ S => .bk ρ S
def sCont : SM := fun ρ S => .ct ρ S
theorem es_break : Es X W (.Break pos) tBreak sBreak := ⟨ps_break, fun ι S H ρ σ E s r g => g ι H σ (Ext.refl _ _) s r⟩
theorem es_cont : Es X W (.Continue pos) tCont sCont := ⟨ps_continue, fun ι S H ρ σ E s r g => g ι H σ (Ext.refl _ _) s r⟩
theorem es_doc {x : Str} {j : Nat} {pos' : Pos} : Es X W (.Expr (.Constant (.str x) j pos) pos') tNext sNil := ⟨ps_doc, fun ι S H ρ σ E s r g => g.nxn s r⟩
def sExpr (me : EM) : SM := fun ρ S => (me ρ S).to ρ fun _ S1 => .nx ρ S1
theorem es_expr (h : Ee X W e te me) (hs : swapsWith e none pos.line X.env = pure false := by rfl) : Es X W (.Expr e pos) (tDrop te) (sExpr me) :=
  ⟨ps_expr h.der hs, fun ι S H ρ σ E s r g => bindES h.sim s r g fun d S1 ι1 H1 v e1 s1 r1 x g1 => g1.nxn s1 r1⟩
def sRet (me : EM) : SM := fun ρ S => (me ρ S).to ρ fun d S1 => .rt d S1
theorem es_ret (h : Ee X W e te me) : Es X W (.Return (some e) pos) (tRet te) (sRet me) :=
  ⟨ps_ret h.der, fun ι S H ρ σ E s r g => bindES h.sim s r g fun d S1 ι1 H1 v e1 s1 r1 x g1 => g1 ι1 H1 v (Ext.refl _ _) s1 x⟩
def sRetN : SM := fun _ S => .rt .non S
theorem es_retN : Es X W (.Return none pos) tRetN sRetN := ⟨ps_retN, fun ι S H ρ σ E s r g => g ι H .non (Ext.refl _ _) s .non⟩
def sIf (c : TM) (m n : SM) : SM := fun ρ S => (c ρ S).to ρ fun b S1 => if b = true then m ρ S1 else n ρ S1
theorem es_if {c : Expr} {a b : List Stmt} {tc : TT} {mc : TM} (hc : Et X W c tc mc) (ha : Ess X W a t m) (hb : Ess X W b u n) : Es X W (.If c a b pos) (tIfS tc t u) (sIf mc m n) :=
  ⟨ps_if hc.der ha.der hb.der, fun ι S H ρ σ E s r g => bindTS hc.sim s r g fun k S1 ι1 H1 e1 s1 r1 g1 => by
    cases k with
    | true => exact ha.sim _ _ _ _ _ _ s1 r1 g1
    | false => exact hb.sim _ _ _ _ _ _ s1 r1 g1⟩
/-! ### targets -/
abbrev GM := D → Env → Sto → RS
abbrev GMs := List D → Env → Sto → RS
abbrev only (Q : L2.St → Hp → Prop) : Ends := ⟨Q, fun _ _ => False, fun _ _ => False, fun _ _ => False⟩
def wkp (vs : List Nat) (σ σ' : L2.St) : Prop := wipe σ' vs = wipe σ vs
def SimG (K : PySem.W.Frag) (mg : Str → Option Value) (W : WX) (g : TG) (m : GM) (is : List Nat) : Prop :=
  ∀ ι S H ρ σ d v Q, SR K mg ι S H → ER K mg ι H ρ σ → DR K mg ι H d v → GoodS K mg W ι H (only fun σ' H' => (∀ vs : List Nat, (∀ i ∈ is, i ∈ vs) → wkp vs σ σ') → Q σ' H') (m d ρ S) → g v σ H Q
def SimGs (K : PySem.W.Frag) (mg : Str → Option Value) (W : WX) (g : TGs) (m : GMs) (is : List Nat) : Prop :=
  ∀ ι S H ρ σ d v Q, SR K mg ι S H → ER K mg ι H ρ σ → DRs K mg ι H d v → GoodS K mg W ι H (only fun σ' H' => (∀ vs : List Nat, (∀ i ∈ is, i ∈ vs) → wkp vs σ σ') → Q σ' H') (m d ρ S) → g v σ H Q
structure Eg (X : Cx) (W : WX) (e : Expr) (g : TG) (m : GM) (is : List Nat) : Prop where
  der : PG X e g
  sim : SimG X.K X.mg W g m is
structure Egs (X : Cx) (W : WX) (es : List Expr) (g : TGs) (m : GMs) (is : List Nat) : Prop where
  der : PGs X es g
  sim : SimGs X.K X.mg W g m is
theorem set_comm' {α : Type} (l : List α) {i j : Nat} (a b : α) (h : i ≠ j) : (l.set i a).set j b = (l.set j b).set i a := List.set_comm a b h
theorem wipe_set {σ : L2.St} {i : Nat} {y : Option V} : ∀ {vs : List Nat}, i ∈ vs → wipe (σ.set i y) vs = wipe σ vs
  | [], h => by cases h
  | v :: vs, h => by
    unfold wipe
    by_cases e : i = v
    · subst e
      by_cases m : i ∈ vs
      · rw [wipe_set m]
      · have : ∀ (us : List Nat) (τ : L2.St), i ∉ us → wipe (τ.set i y) us = (wipe τ us).set i y := by
          intro us
          induction us with
          | nil => intro τ _; rfl
          | cons u us ih =>
            intro τ hn
            unfold wipe
            rw [ih τ fun z => hn (List.mem_cons_of_mem _ z), set_comm' _ _ _ (fun z => hn (by rw [z]; exact List.mem_cons_self))]
        rw [this vs σ m, List.set_set]
    · have m : i ∈ vs := by
        rcases List.mem_cons.mp h with z | z
        · exact absurd z e
        · exact z
      rw [wipe_set m]
def gNameM (i : Nat) : GM := fun d ρ S => .nx (ρ.set i (some d)) S
theorem eg_name {i : Nat} {x : Str} (hN : X.N.Nodup) (hi : X.N[i]? = some x := by rfl) (hx : Loc X.env.scope x := by first | exact .inl rfl | exact .inr rfl) (hf : X.fn x = true ∨ X.env.scope.names.lookup x = some .local := by first | exact .inl rfl | exact .inr rfl | assumption) : Eg X W (.Name x pos) (gName i) (gNameM i) [i] :=
  ⟨pg_name hN hi hx hf, fun ι S H ρ σ d v Q s r x g => g.nxn s (r.set x i) fun vs hv => wipe_set (hv i (by simp))⟩
def gNilM : GMs := fun ds ρ S => match ds with
  | [] => .nx ρ S
  | _ => .no
def gConsM (a : GM) (b : GMs) : GMs := fun ds ρ S => match ds with
  | d :: ds => (match a d ρ S with
    | .nx ρ1 S1 => b ds ρ1 S1
    | r => r)
  | [] => .no
theorem egs_nil : Egs X W [] gNil gNilM [] := ⟨pgs_nil, fun ι S H ρ σ d v Q s r x g => by
  unfold gNilM at g
  split at g
  · cases x; exact ⟨rfl, g.nxn s r fun _ _ => rfl⟩
  · exact g.elim⟩
theorem GoodS.imp {K : PySem.W.Frag} {mg : Str → Option Value} {ι : List Addr} {H : Hp} {Q Q' : L2.St → Hp → Prop} {r : RS} (h : ∀ σ H, Q σ H → Q' σ H) (g : GoodS K mg W ι H (only Q) r) : GoodS K mg W ι H (only Q') r := by
  cases r with
  | nx ρ S => exact fun a b c x y z => h _ _ (g a b c x y z)
  | rt d S => exact g
  | bk ρ S => exact g
  | ct ρ S => exact g
  | ex c w ρ S => exact g
  | no => exact g
theorem egs_cons {es : List Expr} {ga : TG} {gb : TGs} {ma : GM} {mb : GMs} {is js : List Nat} (h1 : Eg X W e ga ma is) (h2 : Egs X W es gb mb js) (hs : (assignEach (e :: es) X.env).map (·.2) = assign e X.env :: (assignEach es X.env).map (·.2) := by rfl) : Egs X W (e :: es) (gCons ga gb) (gConsM ma mb) (is ++ js) :=
  ⟨pgs_cons h1.der h2.der hs, fun ι S H ρ σ d v Q s r x g => by
    cases x with
    | nil => exact g.elim
    | cons x xs =>
    rename_i d0 v0 ds0 vs0
    refine ⟨_, _, rfl, h1.sim ι S H ρ σ d0 _ _ s r x ?_⟩
    simp only [gConsM] at g
    cases q : ma d0 ρ S with
    | nx ρ1 S1 =>
      rw [q] at g
      intro a b σ1 e1 s1 r1 hk
      refine h2.sim a S1 b ρ1 σ1 _ _ Q s1 r1 (xs.mono e1) (GoodS.imp (fun σ' H' h hw => h fun vs hv => (hw vs fun i hi => hv i (List.mem_append_right _ hi)).trans (hk vs fun i hi => hv i (List.mem_append_left _ hi))) (GoodS.mono e1 g))
    | rt d S1 => rw [q] at g; exact fun a b v e s x => (g a b v e s x).elim
    | bk _ _ => rw [q] at g; exact fun a b v e s x => (g a b v e s x).elim
    | ct _ _ => rw [q] at g; exact fun a b v e s x => (g a b v e s x).elim
    | ex c w ρ1 S1 => rw [q] at g; exact g
    | no => rw [q] at g; exact g⟩
def gTupM (n : Nat) (m : GMs) : GM := fun d ρ S => match d with
  | .tup xs => if xs.length = n then m xs ρ S else .no
  | .kt xs => if xs.length = n then m xs ρ S else .no
  | _ => .no
theorem eg_tup {es : List Expr} {k : Nat} {g : TGs} {n : Nat} {m : GMs} {is : List Nat} (hc : X.calm = true) (h : Egs X W es g m is)
    (hn : (assignEach es X.env).length = n := by rfl) (hst : (assignEach es X.env).findIdx? (·.1) = none := by rfl) : Eg X W (.Tuple es k pos) (gTup X.K n g) (gTupM n m) is :=
  ⟨pg_tup hc h.der hn hst, fun ι S H ρ σ d v Q s r x g => by
    unfold gTupM at g
    split at g
    · split at g
      · rename_i hl
        obtain ⟨a, vs, rfl, hq, rr⟩ := x.sqT
        exact ⟨a, vs, rfl, hq, by rw [← rr.length]; exact hl, h.sim _ _ _ _ _ _ _ _ s r rr g⟩
      · exact g.elim
    · split at g
      · rename_i hl
        obtain ⟨a, vs, rfl, hq, rr⟩ := x.sqK
        exact ⟨a, vs, rfl, hq, by rw [← rr.length]; exact hl, h.sim _ _ _ _ _ _ _ _ s r rr g⟩
      · exact g.elim
    · exact g.elim⟩
/-- o[i] = v: a list, a dict -/
def dSet (o i v : D) (S : Sto) : Option Sto := match o with
  | .obj l => (match S[l]? with
    | some (.lst xs) => (match i with
      | .int k => (ixN xs.length k).map fun j => S.set l (.lst (xs.set j v))
      | _ => none)
    | some (.dK kvs) => if kvs.length < 16777216 then (dKey i).map fun k => S.set l (.dK (kput kvs k v)) else none
    | some (.dT kvs) => if kvs.length < 16777216 then (dKeys i).map fun k => S.set l (.dT (kput kvs k v)) else none
    | _ => none)
  | _ => none
def rSetA : V → V → V → Hp → (Hp → Prop) → Prop := fun o i v H Q => rSetL o i v H Q ∨ ∃ a H4, o = .ref a ∧ DPut H a i v H4 ∧ Q H4
theorem set_any (hu : X.A.units + 200 < cLine) : PSet X rSetA := by
  intro pins s σ H o i v ov iv u Q I ro ri rv h
  rcases h with h | ⟨a, H4, rfl, g, q⟩
  · exact set_list pins s σ H o i v ov iv u Q I ro ri rv h
  · obtain rfl : ov = Value.ref a := ro
    exact d_setItem (by omega) I g ri rv fun s' I' => ⟨H4, I', q⟩
theorem dSet_rel {K : PySem.W.Frag} {mg : Str → Option Value} {ι : List Addr} {S S' : Sto} {H : Hp} (s : SR K mg ι S H) {o i v : D} {x y z : V} (hx : DR K mg ι H o x) (hy : DR K mg ι H i y) (hz : DR K mg ι H v z) (e : dSet o i v S = some S') {Q : Hp → Prop}
    (q : ∀ H', Ext ι H ι H' → SR K mg ι S' H' → Q H') : rSetA x y z H Q := by
  unfold dSet at e
  split at e
  · cases hx with
    | obj hi =>
    split at e
    · rename_i xs q1
      split at e
      · cases hy
        obtain ⟨j, q2, rfl⟩ := Option.map_eq_some_iff.mp e
        obtain ⟨a, vs, ha, hv, rr⟩ := s.list q1
        rw [hi] at ha; cases ha
        refine .inl ⟨_, vs, _, j, rfl, rfl, hv, by rw [← rr.length]; exact q2, q _ (Ext.write hv trivial) (s.write q1 hi (.lst ((rr.mono (Ext.write hv trivial)).set (hz.mono (Ext.write hv trivial)) j)))⟩
      · cases e
    · rename_i kvs q1
      split at e
      · rename_i hl
        obtain ⟨k, q2, rfl⟩ := Option.map_eq_some_iff.mp e
        obtain ⟨a, vs, ha, hv, rr⟩ := s.dictK q1
        rw [hi] at ha; cases ha
        obtain rfl := dKey_rel hy q2
        exact .inr ⟨_, _, rfl, DPut.k hv (by rw [szl, ← rr.length]; exact hl), q _ (Ext.write hv trivial) (s.write q1 hi (.dK ((rr.mono (Ext.write hv trivial)).put k (hz.mono (Ext.write hv trivial)))))⟩
      · cases e
    · rename_i kvs q1
      split at e
      · rename_i hl
        obtain ⟨k, q2, rfl⟩ := Option.map_eq_some_iff.mp e
        obtain ⟨a, vs, ha, hv, rr⟩ := s.dictT q1
        rw [hi] at ha; cases ha
        obtain ⟨b, rfl, hb⟩ := dKeys_rel hy q2
        exact .inr ⟨_, _, rfl, DPut.t hv hb (by rw [szl, ← rr.length]; exact hl), q _ (Ext.write hv trivial) (s.write q1 hi (.dT ((rr.mono (Ext.write hv trivial)).put k (hz.mono (Ext.write hv trivial)))))⟩
      · cases e
    · cases e
  · cases e
def gSubM (mo mi : EM) : GM := fun d ρ S => (mo ρ S).to ρ fun o S1 => (mi ρ S1).to ρ fun i S2 => match dSet o i d S2 with
  | some S3 => .nx ρ S3
  | none => .no
theorem eg_sub {k : Nat} {o i : Expr} {to ti : TE} {mo mi : EM} (hr : Rm k X.A) (ho : Ee X W o to mo) (hi : Ee X W i ti mi)
    (ha : ∀ v, assign (.Subscript o i pos) X.env v = (do
      let ov ← holding [v] (eval o X.env)
      let iv ← holding [v, ov] (eval i X.env)
      standAt pos
      holding [v, ov, iv] (setItem ov iv v)
      release [v, ov, iv] []) := by intro _; rfl) : Eg X W (.Subscript o i pos) (gSub to ti rSetA) (gSubM mo mi) [] :=
  ⟨pg_sub ho.der hi.der (set_any (Room.u200 hr.room)) ha, fun ι S H ρ σ d v Q s r x g => bindES ho.sim s r g fun d1 S1 ι1 H1 v1 e1 s1 r1 x1 g1 => bindES hi.sim s1 r1 g1 fun d2 S2 ι2 H2 v2 e2 s2 r2 x2 g2 => by
    split at g2
    · rename_i S3 q
      exact dSet_rel s2 (x1.mono e2) x2 (x.mono (e1.trans e2)) q fun H' e' s' => g2 ι2 H' σ e' s' (r2.mono e') fun _ _ => rfl
    · exact g2.elim⟩
/-! ### assignments -/
def sAsg (me : EM) (g : GM) : SM := fun ρ S => (me ρ S).to ρ fun d S1 => g d ρ S1
theorem GoodS.only {K : PySem.W.Frag} {mg : Str → Option Value} {ι : List Addr} {H : Hp} {E : Ends} {r : RS} (hr : ∀ d S, r ≠ .rt d S) (hb : ∀ d S, r ≠ .bk d S) (hc : ∀ d S, r ≠ .ct d S) (g : GoodS K mg W ι H E r) : GoodS K mg W ι H (Sh.only E.nx) r := by
  cases r with
  | nx ρ S => exact g
  | rt d S => exact absurd rfl (hr d S)
  | bk ρ S => exact absurd rfl (hb ρ S)
  | ct ρ S => exact absurd rfl (hc ρ S)
  | ex c w ρ S => exact g
  | no => exact g
/-- what a target leaves -/
def gx (r : RS) : RS := match r with
  | .nx ρ S => .nx ρ S
  | .ex c w ρ S => .ex c w ρ S
  | _ => .no
theorem GoodS.gx {K : PySem.W.Frag} {mg : Str → Option Value} {ι : List Addr} {H : Hp} {E : Ends} {r : RS} (g : GoodS K mg W ι H E (Sh.gx r)) : GoodS K mg W ι H (Sh.only E.nx) r := by
  cases r with
  | nx ρ S => exact g
  | rt d S => exact g.elim
  | bk ρ S => exact g.elim
  | ct ρ S => exact g.elim
  | ex c w ρ S => exact g
  | no => exact g
def sAs (me : EM) (g : GM) : SM := fun ρ S => (me ρ S).to ρ fun d S1 => gx (g d ρ S1)
theorem sim_asg {K : PySem.W.Frag} {mg : Str → Option Value} {g : TG} {gm : GM} {is : List Nat} (h : SimE K mg W te me) (hg : SimG K mg W g gm is) : SimS K mg W (tAsg te g) (sAs me gm) :=
  fun ι S H ρ σ E s r g => bindES h s r g fun d S1 ι1 H1 v e1 s1 r1 x g1 => hg _ _ _ _ _ _ _ _ s1 r1 x (GoodS.imp (fun _ _ h _ => h) g1.gx)
theorem es_asg {tg : Expr} {g : TG} {gm : GM} {is : List Nat} (h : Ee X W e te me) (hg : Eg X W tg g gm is) (hs : swapsWithSole [tg] e pos.line X.env = pure false := by rfl) (hw : swappedStores [tg] e X.env = pure none := by rfl)
    (h1 : (assignEach [tg] X.env).map (·.2) = [assign tg X.env] := by rfl) : Es X W (.Assign [tg] e pos) (tAsg te g) (sAs me gm) := ⟨ps_asg h.der hg.der hs hw h1, sim_asg h.sim hg.sim⟩
theorem es_set {i : Nat} {x : Str} {pos' : Pos} (hN : X.N.Nodup) (h : Ee X W e te me) (hi : X.N[i]? = some x := by rfl) (hx : Loc X.env.scope x := by first | exact .inl rfl | exact .inr rfl) (hs : swapsWith e (some (.Name x pos')) pos.line X.env = pure false := by rfl) (hf : X.fn x = true ∨ X.env.scope.names.lookup x = some .local := by first | exact .inl rfl | exact .inr rfl | assumption) :
    Es X W (.Assign [.Name x pos'] e pos) (tAsg te (gName i)) (sAs me (gNameM i)) := ⟨ps_set hN hi hx h.der hs hf, sim_asg h.sim (eg_name (W := W) (pos := pos') hN hi hx hf).sim⟩
def sPar (is : List Nat) (m : AM) : SM := fun ρ S => (m ρ S).to ρ fun ds S1 => if ds.length = is.length then .nx ((is.zip ds).foldl (fun ρ p => ρ.set p.1 (some p.2)) ρ) S1 else .no
theorem es_par {i j : Nat} {x y : Str} {a b : Expr} {ta : TA} {ma : AM} {px py pt : Pos} {kt k2 : Nat} {pt2 : Pos} (hc : X.calm = true) (hN : X.N.Nodup) (ha : Ea X W [a, b] ta ma) (hi : X.N[i]? = some x := by rfl) (hj : X.N[j]? = some y := by rfl) (hij : i ≠ j := by decide)
    (hx : X.env.scope.names.lookup x = some .local := by rfl) (hy : X.env.scope.names.lookup y = some .local := by rfl)
    (hw : swappedStores [.Tuple [.Name x px, .Name y py] kt pt] (.Tuple [a, b] k2 pt2) X.env = pure (some [x, y]) := by rfl)
    (hs : swapsWithSole [.Tuple [.Name x px, .Name y py] kt pt] (.Tuple [a, b] k2 pt2) pos.line X.env = pure false := by rfl) :
    Es X W (.Assign [.Tuple [.Name x px, .Name y py] kt pt] (.Tuple [a, b] k2 pt2) pos) (tPar i j ta) (sPar [i, j] ma) :=
  ⟨ps_par hc hN hi hj hij hx hy ha.der hw hs, fun ι S H ρ σ E s r g => bindAS ha.sim s r g fun ds S1 ι1 H1 vs e1 s1 r1 x g1 => by
    split at g1
    · rename_i hl
      match ds, x, hl with
      | [d1, d2], x, _ =>
        obtain ⟨v, w, rfl, x1, x2⟩ := x.two
        exact ⟨v, w, rfl, g1.nxn s1 ((r1.set x1 i).set x2 j)⟩
    · exact g1.elim⟩
theorem es_par3 {i j l : Nat} {x y z : Str} {a b c : Expr} {ta : TA} {ma : AM} {px py pz pt : Pos} {kt k2 : Nat} {pt2 : Pos} (hc : X.calm = true) (hN : X.N.Nodup) (der : PS X (.Assign [.Tuple [.Name x px, .Name y py, .Name z pz] kt pt] (.Tuple [a, b, c] k2 pt2) pos) (tPar3 i j l ta)) (ha : SimA X.K X.mg W ta ma) :
    Es X W (.Assign [.Tuple [.Name x px, .Name y py, .Name z pz] kt pt] (.Tuple [a, b, c] k2 pt2) pos) (tPar3 i j l ta) (sPar [i, j, l] ma) :=
  ⟨der, fun ι S H ρ σ E s r g => bindAS ha s r g fun ds S1 ι1 H1 vs e1 s1 r1 x g1 => by
    split at g1
    · rename_i hl
      match ds, x, hl with
      | [d1, d2, d3], x, _ =>
        cases x with
        | cons x1 xb =>
        obtain ⟨v, w, rfl, x2, x3⟩ := xb.two
        exact ⟨_, v, w, rfl, g1.nxn s1 (((r1.set x1 i).set x2 j).set x3 l)⟩
    · exact g1.elim⟩
/-! ### a += e -/
def sAug (i : Nat) (f : D → D → Sto → R D) (me : EM) : SM := fun ρ S => match ρ[i]? with
  | some (some d) => (me ρ S).to ρ fun y S1 => (f d y S1).to ρ fun z S2 => .nx (ρ.set i (some z)) S2
  | _ => .no
theorem es_aug {i : Nat} {x : Str} {op : Operator} {r : R2} {f : D → D → Sto → R D} {pos' : Pos} (hN : X.N.Nodup) (ho : OpS X W (inplaceOp op) r f) (h : Ee X W e te me) (hi : X.N[i]? = some x := by rfl) (hx : Loc X.env.scope x := by first | exact .inl rfl | exact .inr rfl) (hf : X.fn x = true ∨ X.env.scope.names.lookup x = some .local := by first | exact .inl rfl | exact .inr rfl | assumption) :
    Es X W (.AugAssign (.Name x pos') op e pos) (tAug i te r) (sAug i f me) :=
  ⟨ps_aug hN hi hx h.der (fun pins s σ H x y v u Q I rx ry q => ho.der pins s σ H x y v u Q I rx ry q) hf, fun ι S H ρ σ E s r g => by
    unfold sAug at g
    split at g
    · rename_i d q
      obtain ⟨v, q1, x⟩ := r.at_ i d q
      refine ⟨v, q1, bindES h.sim s r g fun y S1 ι1 H1 w e1 s1 r1 x1 g1 => ?_⟩
      refine ho.sim ι1 S1 H1 σ v w d y _ s1 (x.mono e1) x1 ?_
      cases q2 : f d y S1 with
      | ok z S2 =>
        rw [q2] at g1
        exact fun ι2 H2 e2 s2 u x2 => g1 ι2 H2 _ e2 s2 ((r1.mono e2).set x2 i)
      | ex c w S2 =>
        rw [q2] at g1
        intro a b σ' C dd v e s1 z h1 h2 h3
        subst z
        exact g1 a b σ' C dd v e s1 (r1.mono e) h1 h2 h3
      | no => rw [q2] at g1; exact g1.elim
    · exact g.elim⟩
def dIAdd : D → D → Sto → R D
  | .int i, .int j, S => .ok (.int (i + j)) S
  | .str i, .str j, S => if i.length + j.length ≤ 16777216 then .ok (.str (i ++ j)) S else .no
  | _, _, _ => .no
theorem os_iadd : OpS X W (inplaceOp .Add) (fun x y H Q => (∃ i j, x = .int i ∧ y = .int j ∧ Q (.int (i + j)) H) ∨ (∃ i j, x = .str i ∧ y = .str j ∧ i.length + j.length ≤ sizeLine ∧ Q (.str (i ++ j)) H)) dIAdd := by
  refine ⟨OpR.or iop_add iop_add_str, fun ι S H σ x y d e Q s hx hy g => ?_⟩
  unfold dIAdd at g
  split at g
  · cases hx; cases hy; exact .inl ⟨_, _, rfl, rfl, g.now s _ (.int _)⟩
  · cases hx; cases hy
    split at g
    · rename_i hl
      exact .inr ⟨_, _, rfl, rfl, by rw [szl]; exact hl, g.now s _ (.str _)⟩
    · exact g.elim
  · exact g.elim
theorem os_isub : OpS X W (inplaceOp .Sub) (rI0 fun i j => .int (i - j)) dSub := by
  refine ⟨iop_sub, fun ι S H σ x y d e Q s hx hy g => ?_⟩
  unfold dSub at g
  split at g
  · cases hx; cases hy; exact ⟨_, _, rfl, rfl, g.now s _ (.int _)⟩
  · exact g.elim
/-! ### while -/
def sWhile : Nat → TM → SM → SM
  | 0, _, _ => fun _ _ => .no
  | n + 1, c, b => fun ρ S => (c ρ S).to ρ fun k S1 => if k = true then (match b ρ S1 with
      | .nx ρ' S' => sWhile n c b ρ' S'
      | .ct ρ' S' => sWhile n c b ρ' S'
      | .bk ρ' S' => .nx ρ' S'
      | r => r) else .nx ρ S1
theorem es_while (n : Nat) {c : Expr} {body : List Stmt} {tc : TT} {mc : TM} (hp : PassesOwn (model X.prog X.w) X.A X.env X.xe) (hc : Et X W c tc mc) (hb : Ess X W body t m) : Es X W (.While c body [] pos) (tWhile tc t) (sWhile n mc m) :=
  ⟨ps_while hp hc.der hb.der, fun ι S H ρ σ E s r g => by
    refine ⟨fun n' σ' H' => ∃ ι' S' ρ', SR X.K X.mg ι' S' H' ∧ ER X.K X.mg ι' H' ρ' σ' ∧ GoodS X.K X.mg W ι' H' E (sWhile n' mc m ρ' S'), ⟨n, ι, S, ρ, s, r, g⟩, ?_⟩
    rintro n' σ' H' ⟨ι', S', ρ', s', r', g'⟩
    cases n' with
    | zero => exact g'.elim
    | succ n' =>
    refine bindTS hc.sim s' r' g' fun b S1 ι1 H1 e1 s1 r1 g1 => ?_
    cases b with
    | false => exact iteF (g1.nxn s1 r1)
    | true =>
      refine iteT ⟨fun σ' H' => ∃ ι' S' ρ', SR X.K X.mg ι' S' H' ∧ ER X.K X.mg ι' H' ρ' σ' ∧ GoodS X.K X.mg W ι' H' E (sWhile n' mc m ρ' S'), fun σ' H' h => ⟨n', Nat.lt_succ_self _, h⟩, hb.sim _ _ _ _ _ _ s1 r1 ?_⟩
      simp only [if_true] at g1
      cases q : m ρ' S1 with
      | nx ρ2 S2 => rw [q] at g1; exact fun a b c e s2 r2 => ⟨a, S2, ρ2, s2, r2, GoodS.mono e g1⟩
      | ct ρ2 S2 => rw [q] at g1; exact fun a b c e s2 r2 => ⟨a, S2, ρ2, s2, r2, GoodS.mono e g1⟩
      | bk ρ2 S2 => rw [q] at g1; exact g1
      | rt d S2 => rw [q] at g1; exact g1
      | ex c w ρ2 S2 => rw [q] at g1; exact g1
      | no => rw [q] at g1; exact g1⟩
end
end Sh

set_option Elab.async false
set_option linter.all false
set_option maxRecDepth 100000
set_option autoImplicit false
namespace PySem
open Sem (wp)
open AutoSeq1 (wpAny_loadPart')
theorem sh_meets_enum_tuple (l : Addr) (items : Array Value) (n : Nat) (dct : Option Addr) (sl : Array (Option Value)) :
    Meets (Builtin.«enumerate.__new__» ⟨[.type "enumerate", .ref l], []⟩) (fun _ R s => s.heap.get? l = some { cls := .type "tuple", dict := dct, data := .seq items n, slots := sl } ∧
      R (.ok (.ret (.ref (s.heap.push { cls := .type "tuple_iterator", data := .fields #[.ref l, .int 0 0] }).objs.size)))
        { s with heap := (s.heap.push { cls := .type "tuple_iterator", data := .fields #[.ref l, .int 0 0] }).push { cls := .type "enumerate", data := .fields #[.none, .bool false, .ref s.heap.objs.size, rawInt 0, .none, .none] } }) :=
  .of_wp fun prog w A R s h => by
    obtain ⟨hp, g, d, tk, os⟩ := s; obtain ⟨hl, h⟩ := h
    have hsub := sub_enumerate
    have hL : Heap.IsTuple (Shared.heap ⟨hp, g, d, tk, os⟩) l items := ⟨_, hl, rfl, n, rfl⟩
    wp_walk using wpAny_loadPart' hl
    refine wpAny_stack_any fun st => wpAny_pure ?_
    split
    · rename_i c _ _ _ _ _
      cases (c == Value.type "enumerate")
      · wp_walk using wpAny_loadPart' hl, wpAny_pyIter_tuple hL
        exact ⟨_, rfl, h⟩
      · wp_walk using wpAny_loadPart' hl, wpAny_pyIter_tuple hL
        exact ⟨_, rfl, h⟩
    · wp_walk using wpAny_loadPart' hl, wpAny_pyIter_tuple hL
      exact ⟨_, rfl, h⟩
section
variable {prog : Program} {w : World} {A : Around} {E : Value → Shared → Prop} {s : Shared}
theorem sh_call_enum_tuple {l : Addr} {items : Array Value} {Q : Value → Shared → Prop} (hL : s.heap.IsTuple l items)
    (h : ∀ h', IsEnum h' (s.heap.objs.size + 1) s.heap.objs.size 0 .none → h'.IsTupleIter s.heap.objs.size l 0 → h'.objs.size = s.heap.objs.size + 2 →
      (∀ b o, s.heap.get? b = some o → h'.get? b = some o) → Q (.ref (s.heap.objs.size + 1)) { s with heap := h' }) :
    wpAny (model prog w) A (call (.type "enumerate") [.ref l]) Q E s := by
  obtain ⟨⟨c, dct, dt, sl⟩, hl, hc, n, hd⟩ := hL
  replace hc : c = .type "tuple" := hc
  replace hd : dt = .seq items n := hd
  subst hc hd
  refine callType_new F.called_enumerate (by decide) (F.typeCall_enumerate_1 _) (F.newCall_enumerate_1 _) (fun obj => F.args_object_init_2 obj _) F.entry_enumerate_new
    (sh_meets_enum_tuple l items n dct sl) ⟨hl, ?_⟩
  have hz : (s.heap.push { cls := .type "tuple_iterator", data := .fields #[.ref l, .int 0 0] }).objs.size = s.heap.objs.size + 1 := Heap.size_push ..
  show _ ∧ _
  rw [hz]
  have he : IsEnum ((s.heap.push { cls := .type "tuple_iterator", data := .fields #[.ref l, .int 0 0] }).push
      { cls := .type "enumerate", data := .fields #[.none, .bool false, .ref s.heap.objs.size, rawInt 0, .none, .none] }) (s.heap.objs.size + 1) s.heap.objs.size 0 .none := by
    have := Heap.get?_push_size (s.heap.push { cls := .type "tuple_iterator", data := .fields #[.ref l, .int 0 0] })
      (o := { cls := .type "enumerate", data := .fields #[.none, .bool false, .ref s.heap.objs.size, rawInt 0, .none, .none] }) rfl
    rw [hz] at this; exact this
  refine ⟨⟨_, he, rfl⟩, h _ he ⟨_, Heap.get?_push_of_some _ (Heap.get?_push_size _ rfl), rfl, rfl⟩ (by rw [Heap.size_push, hz]) fun b o x => Heap.get?_push_of_some _ (Heap.get?_push_of_some _ x)⟩
end
end PySem
namespace Sh
open PySem PySem.Spec PyProof.Rows L2
/-- the tuple at a, each item in a new pair -/
def IteT (K : PySem.W.Frag) (a : Addr) : It :=
  ⟨fun i H => ∃ (xs : List V) (x : V), SqT K H a xs ∧ xs[i]? = some x, fun i H v H' => ∃ T x, v = .ref T ∧ H T = none ∧ H' = upd H T (.tup [.int (i : Nat), x]) ∧ ∀ xs, SqT K H a xs → xs[i]? = some x, fun i H => ∃ xs : List V, SqT K H a xs ∧ xs.length ≤ i⟩
theorem tup_ne_iter {h : Heap} {a it : Addr} {its : Array Value} {i : Nat} (p : IsTup h a its) (q : h.IsTupleIter it a i) : a ≠ it := fun e => by
  subst e
  obtain ⟨o, ho, hc, _⟩ := p
  obtain ⟨o', ho', hc', _⟩ := q
  rw [ho] at ho'; cases ho'
  rw [hc] at hc'
  exact absurd (Value.type.inj hc') (by decide)
theorem turn_enumT {P : Program} {w : World} {K : PySem.W.Frag} {elts : List Expr} {kk : Nat} {tpos : Pos} (a e it : Addr) :
    Turn P w K (.Tuple elts kk tpos) (IteT K a) [e, it] e (fun i h => (∃ old, IsEnum h e it ((i : Nat) : Int) old) ∧ h.IsTupleIter it a i ∧ e ≠ it ∧ e ≠ a) where
  mem := by simp
  obj := fun i h st b hb => by
    obtain ⟨⟨old, he⟩, ⟨o, ho, hc, hd⟩, _⟩ := st
    have e' : b = e ∨ b = it := by simpa using hb
    rcases e' with z | z
    · rw [z]; exact ⟨_, he, fun v q => nomatch q⟩
    · rw [z]; exact ⟨o, ho, fun v q => by rw [hd] at q; cases q⟩
  keep := fun i h h' st k => let ⟨⟨old, he⟩, hi, hne⟩ := st; ⟨⟨old, k e (by simp) _ he⟩, hi.at fun o q => k it (by simp) o q, hne⟩
  item := by
    intro X hP hw hK hc i pins s σ H E I hf st hg
    subst hP hw hK
    obtain ⟨⟨old, he⟩, hit, hne, hea⟩ := st
    obtain ⟨xs, x, hq, hx⟩ := hg
    obtain ⟨its, rv, p, hz⟩ := I.tuple hq
    obtain ⟨u, hu, ru⟩ := rv.get hx
    have hel : e < s.heap.objs.size := Heap.lt_size he
    have hil : it < s.heap.objs.size := by obtain ⟨_, q, _⟩ := hit; exact Heap.lt_size q
    have hsz : i < its.toArray.size := by
      have := (List.getElem?_eq_some_iff.mp hu).1
      simpa using this
    have hxs : its.toArray[i]? = some u := by simpa using hu
    refine wpAny_pyNext_enum_itemD (Draws.tuple (A := X.A.in1) (prog := X.prog) (w := X.w) (show X.A.in1.handled = none from I.ok.hd hc) it a (tup_ne_iter p hit) its.toArray) he ⟨hit, p⟩ hsz hne (by simp [hne, hea]) fun y h' tk hy ho hst' hT hsz' hk => ?_
    have hy' : its.toArray[i]? = some y := hy
    rw [hxs] at hy'
    cases hy'
    refine ⟨_, rfl, wpAny_letOwnedTupleGo_enum (s := { s with heap := h', toks := tk + 1 }) ho fun h'' he' sb => ?_⟩
    have hT2 : h''.get? s.heap.objs.size = some { cls := .type "tuple", data := .seq #[.int i tk, u] } := (sb.2 _ (Nat.ne_of_gt hel)).trans hT
    have new : ObjOk X.prog X.w (upd H s.heap.objs.size (.tup [.int (i : Nat), x])) h'' s.heap.objs.size (.tup [.int (i : Nat), x]) :=
      ⟨by show 2 ≤ sizeLine; decide, [.int i tk, u], .cons ⟨_, rfl⟩ (.cons ru .nil), ⟨_, hT2, rfl, _, rfl⟩⟩
    have I1 : Inv X pins σ (upd H s.heap.objs.size (.tup [.int (i : Nat), x])) { s with heap := h'', toks := tk + 1 } :=
      I.turnedNew (ch := [e, it]) (fun b ob hb q => (sb.2 b (fun z => hb (by simp [z]))).trans (hk b ob (fun z => hb (by simp [z])) (fun z => hb (by simp [z])) q)) hf (Nat.le_refl _) new
    refine ⟨.ref s.heap.objs.size, _, I1, rfl, ⟨_, x, rfl, I.hok.fresh (Nat.le_refl _), rfl, fun ys hy => by rw [I.tuple_inj hy hq]; exact hx⟩, ⟨⟨u, ?_⟩, hst'.1.at fun o q => (sb.2 it (Ne.symm hne)).trans q, hne, hea⟩, fun b hb => ?_⟩
    · have e1 : ((i + 1 : Nat) : Int) = (i : Int) + 1 := by omega
      rw [e1]; exact he'
    · have hb' : b < s.heap.objs.size := by
        have e' : b = e ∨ b = it := by simpa using hb
        rcases e' with z | z
        · rw [z]; exact hel
        · rw [z]; exact hil
      rw [upd_ne (Nat.ne_of_lt hb')]
      exact (hf b hb).1
  done := by
    intro X hP hw hK hc i pins s σ H E I hf st hg
    subst hP hw hK
    obtain ⟨⟨old, he⟩, hit, hne, hea⟩ := st
    obtain ⟨xs, hq, hx⟩ := hg
    obtain ⟨its, rv, p, hz⟩ := I.tuple hq
    obtain ⟨f0, f1, f2, f3, f4, f5⟩ := hf it (by simp)
    have hl := rv.length
    have hn : its.toArray[i]? = none := by simp; omega
    unfold pyNext
    have hT : s.TypeIs (.ref e) "enumerate" := ⟨_, he, rfl⟩
    refine wpAny_bind (wpAny_attempt (wpAny_callSpecial?_slot (name := Str.ofString "__next__") hT F.slot_enumerate_next
      (wpAny_call_entry F.slot_enumerate_next hT F.entry_enumerate_next ?_ (F.args_enumerate_next_1 _))))
    show wpAny _ _ (field (.ref e) 2 >>= _) _ _ _
    refine wpAny_bind (wpAny_field he rfl (x := .ref it) rfl ?_)
    refine wpAny_bind (wpAny_nextOf_tuple_end (I.ok.hd hc) hit p hn fun h' x he' hx' => ?_)
    obtain ⟨o, ho, hc2⟩ := hx'
    refine wpAny_bind (wpAny_isInstance (T := "StopIteration") (b := true) ⟨o, ho, hc2⟩ isSubtype_stop ?_)
    exact wpAny_pure ⟨rfl, I.turned (t' := s.toks) (fun b o hb q => he' b o hb q) f0 f1 f3 f4 f5⟩
  self := fun A i s Q E st h => let ⟨⟨_, he⟩, _⟩ := st; wpAny_pyIter_enum he h
def iEnumT (K : PySem.W.Frag) (ta : TA) : TI := fun σ H R => ta σ H fun vs H1 => ∃ a xs, vs = [.ref a] ∧ SqT K H1 a xs ∧ R (IteT K a) H1
theorem pi_enumT {X : Cx} {e : Expr} {ta : TA} {p pos tpos : Pos} {elts : List Expr} {kk : Nat} (hg : Gl X "enumerate") (hm : X.mg "enumerate" = none) (ha : PA X [e] ta) (hs : starEach [e] X.env = [(false, eval e X.env)] := by rfl) :
    PI X (.Tuple elts kk tpos) (.Call (.Name "enumerate" p) [e] [] pos) (iEnumT X.K ta) := by
  refine ⟨fun pins s σ H R I h => ?_⟩
  refine Call_ (ld_blt I hg hm boot_enumerate (PyProof.Rows.callWith_type1 (thn (ha.run pos pins s σ H _ I h) fun us s1 ⟨vs, H1, I1, r1, q1⟩ => ?_) hs rfl))
  obtain ⟨a, xs, ex, hq, q⟩ := q1
  subst ex
  cases r1 with
  | cons r rr =>
    cases rr
    cases r
    obtain ⟨its, rv, p', hz⟩ := I1.tuple hq
    refine sh_call_enum_tuple p' fun h' he hit hsz hk => wpAny_pyIter_enum he ?_
    have I2 : Inv X pins σ H1 { s1 with heap := h' } := I1.kept (t' := s1.toks) hk
    have hal : a < s1.heap.objs.size := p'.lt
    refine ⟨s1.heap.objs.size + 1, [s1.heap.objs.size + 1, s1.heap.objs.size], _, _, H1, rfl, I2, turn_enumT a (s1.heap.objs.size + 1) s1.heap.objs.size, ⟨⟨.none, he⟩, hit, Nat.succ_ne_self _, Nat.ne_of_gt (Nat.lt_succ_of_lt hal)⟩, fun b hb => ?_, q⟩
    have e' : b = s1.heap.objs.size + 1 ∨ b = s1.heap.objs.size := by simpa using hb
    have hle : s1.heap.objs.size ≤ b := by
      rcases e' with z | z
      · rw [z]; exact Nat.le_add_right _ _
      · rw [z]; exact Nat.le_refl _
    exact I1.fpOk hle (I1.hok.fresh hle)
end Sh

set_option Elab.async false
set_option linter.all false
set_option maxRecDepth 100000
set_option autoImplicit false
namespace Sh
open PySem PySem.Spec PyProof.Rows L2
/-! ### what is walked -/
abbrev DI := Nat → Sto → Option (Option D)
structure ItR (K : PySem.W.Frag) (mg : Str → Option Value) (ι : List Addr) (H : Hp) (J : It) (di : DI) : Prop where
  stop : ∀ ι' S H' i, Ext ι H ι' H' → SR K mg ι' S H' → di i S = some none → J.stop i H'
  go : ∀ ι' S H' i d, Ext ι H ι' H' → SR K mg ι' S H' → di i S = some (some d) → J.go i H'
  yld : ∀ ι' S H' i d x H2, Ext ι H ι' H' → SR K mg ι' S H' → di i S = some (some d) → J.yld i H' x H2 → Ext ι' H' ι' H2 ∧ SR K mg ι' S H2 ∧ DR K mg ι' H2 d x
abbrev IM := Env → Sto → R DI
def SimI (K : PySem.W.Frag) (mg : Str → Option Value) (W : WX) (wi : TI) (m : IM) : Prop :=
  ∀ ι S H ρ σ (Q : It → Hp → Prop), SR K mg ι S H → ER K mg ι H ρ σ → Good K mg W ι H σ (fun di ι' H' => ∀ J, ItR K mg ι' H' J di → Q J H') (m ρ S) → wi σ H Q
structure Ei (X : Cx) (W : WX) (tg iter : Expr) (wi : TI) (m : IM) : Prop where
  der : PI X tg iter wi
  sim : SimI X.K X.mg W wi m
theorem PI.or {X : Cx} {tg iter : Expr} {w1 w2 : TI} (h1 : PI X tg iter w1) (h2 : PI X tg iter w2) : PI X tg iter (fun σ H R => w1 σ H R ∨ w2 σ H R) :=
  ⟨fun pins s σ H R I h => h.elim (fun q => h1.run pins s σ H R I q) (fun q => h2.run pins s σ H R I q)⟩
section
variable {K : PySem.W.Frag} {mg : Str → Option Value} {ι : List Addr} {S : Sto} {H : Hp}
/-- the items of xs, wherever they stand -/
def diL (xs : List D) : DI := fun i _ => some xs[i]?
/-- the items of the list at l as it stands -/
def diO (l : Nat) : DI := fun i S => match S[l]? with
  | some (.lst xs) => some xs[i]?
  | _ => none
theorem DRs.nonem {ds : List D} {vs : List V} {i : Nat} (h : DRs K mg ι H ds vs) (q : ds[i]? = none) : vs.length ≤ i := by
  rw [← h.length]; exact List.getElem?_eq_none_iff.mp q
theorem itR_tup {ds : List D} {a : Addr} {vs : List V} (h : H a = some (.tup vs)) (r : DRs K mg ι H ds vs) : ItR K mg ι H (Itt K a) (diL ds) where
  stop := fun ι' S H' i e s q => ⟨vs, .inl (.inl (e.tup _ _ h)), r.nonem (Option.some.inj q)⟩
  go := fun ι' S H' i d e s q => by
    obtain ⟨v, h1, _⟩ := r.get (Option.some.inj q)
    exact ⟨vs, v, .inl (.inl (e.tup _ _ h)), h1⟩
  yld := fun ι' S H' i d x H2 e s q y => by
    obtain ⟨v, h1, h2⟩ := r.get (Option.some.inj q)
    obtain ⟨rfl, f⟩ := y
    have := f vs (.inl (.inl (e.tup _ _ h)))
    rw [h1] at this; cases this
    exact ⟨Ext.refl _ _, s, h2.mono e⟩
theorem itR_kt {ds : List D} {a : Addr} {vs : List V} (h : KTup K a vs) (r : DRs K mg ι H ds vs) : ItR K mg ι H (Itt K a) (diL ds) where
  stop := fun ι' S H' i e s q => ⟨vs, .inr h, r.nonem (Option.some.inj q)⟩
  go := fun ι' S H' i d e s q => by
    obtain ⟨v, h1, _⟩ := r.get (Option.some.inj q)
    exact ⟨vs, v, .inr h, h1⟩
  yld := fun ι' S H' i d x H2 e s q y => by
    obtain ⟨v, h1, h2⟩ := r.get (Option.some.inj q)
    obtain ⟨rfl, f⟩ := y
    have := f vs (.inr h)
    rw [h1] at this; cases this
    exact ⟨Ext.refl _ _, s, h2.mono e⟩
theorem sqW_keep {a : Addr} {vs : List V} (h : (∃ o, H a = some (.frz o (.lst vs))) ∨ KLst K a vs) {ι' : List Addr} {H' : Hp} (e : Ext ι H ι' H') : SqL K H' a vs := h.elim (fun ⟨o, q⟩ => .inl (.inr ⟨o, e.frz _ _ _ q⟩)) .inr
theorem itR_wl {ds : List D} {a : Addr} {vs : List V} (h : (∃ o, H a = some (.frz o (.lst vs))) ∨ KLst K a vs) (r : DRs K mg ι H ds vs) : ItR K mg ι H (Itl K a) (diL ds) where
  stop := fun ι' S H' i e s q => ⟨vs, sqW_keep h e, r.nonem (Option.some.inj q)⟩
  go := fun ι' S H' i d e s q => by
    obtain ⟨v, h1, _⟩ := r.get (Option.some.inj q)
    exact ⟨vs, v, sqW_keep h e, h1⟩
  yld := fun ι' S H' i d x H2 e s q y => by
    obtain ⟨v, h1, h2⟩ := r.get (Option.some.inj q)
    obtain ⟨rfl, f⟩ := y
    have := f vs (sqW_keep h e)
    rw [h1] at this; cases this
    exact ⟨Ext.refl _ _, s, h2.mono e⟩
theorem itR_obj {l : Nat} {a : Addr} (h : ι[l]? = some a) : ItR K mg ι H (Itl K a) (diO l) where
  stop := fun ι' S H' i e s q => by
    unfold diO at q
    split at q
    · rename_i xs hS
      obtain ⟨b, vs, hb, hv, r⟩ := s.list hS
      rw [e.get h] at hb; cases hb
      exact ⟨vs, SqL.of hv, r.nonem (Option.some.inj q)⟩
    · cases q
  go := fun ι' S H' i d e s q => by
    unfold diO at q
    split at q
    · rename_i xs hS
      obtain ⟨b, vs, hb, hv, r⟩ := s.list hS
      rw [e.get h] at hb; cases hb
      obtain ⟨v, h1, _⟩ := r.get (Option.some.inj q)
      exact ⟨vs, v, SqL.of hv, h1⟩
    · cases q
  yld := fun ι' S H' i d x H2 e s q y => by
    unfold diO at q
    split at q
    · rename_i xs hS
      obtain ⟨b, vs, hb, hv, r⟩ := s.list hS
      rw [e.get h] at hb; cases hb
      obtain ⟨v, h1, h2⟩ := r.get (Option.some.inj q)
      obtain ⟨rfl, f⟩ := y
      have := f vs (SqL.of hv)
      rw [h1] at this; cases this
      exact ⟨Ext.refl _ _, s, h2⟩
    · cases q
def diR (lo c : Int) (n : Nat) : DI := fun i _ => some (if i < n then some (.int (lo + (i : Nat) * c)) else none)
theorem itR_r {lo : Int} {n : Nat} : ItR K mg ι H (Itr lo n) (diR lo 1 n) where
  stop := fun ι' S H' i e s q => by
    have q := Option.some.inj q
    by_cases h : i < n
    · rw [if_pos h] at q; cases q
    · exact Nat.le_of_not_lt h
  go := fun ι' S H' i d e s q => by
    have q := Option.some.inj q
    by_cases h : i < n
    · exact h
    · rw [if_neg h] at q; cases q
  yld := fun ι' S H' i d x H2 e s q y => by
    have q := Option.some.inj q
    by_cases h : i < n
    · rw [if_pos h] at q; cases q
      obtain ⟨rfl, rfl⟩ := y
      refine ⟨Ext.refl _ _, s, ?_⟩
      rw [Int.mul_one]; exact .int _
    · rw [if_neg h] at q; cases q
theorem itR_c {lo c : Int} {n : Nat} : ItR K mg ι H (Itc lo c n) (diR lo c n) where
  stop := fun ι' S H' i e s q => by
    have q := Option.some.inj q
    by_cases h : i < n
    · rw [if_pos h] at q; cases q
    · exact Nat.le_of_not_lt h
  go := fun ι' S H' i d e s q => by
    have q := Option.some.inj q
    by_cases h : i < n
    · exact h
    · rw [if_neg h] at q; cases q
  yld := fun ι' S H' i d x H2 e s q y => by
    have q := Option.some.inj q
    by_cases h : i < n
    · rw [if_pos h] at q; cases q
      obtain ⟨rfl, rfl⟩ := y
      exact ⟨Ext.refl _ _, s, .int _⟩
    · rw [if_neg h] at q; cases q
def diS (z : Str) : DI := fun i _ => some (z.cps[i]?.map fun c => .str ⟨#[c]⟩)
theorem itR_s {z : Str} : ItR K mg ι H (Its z) (diS z) where
  stop := fun ι' S H' i e s q => by
    have q := Option.some.inj q
    rw [Option.map_eq_none_iff] at q
    show z.cps.size ≤ i
    rw [Array.getElem?_eq_none_iff] at q
    exact q
  go := fun ι' S H' i d e s q => by
    obtain ⟨c, q1, _⟩ := Option.map_eq_some_iff.mp (Option.some.inj q)
    exact (Array.getElem?_eq_some_iff.mp q1).1
  yld := fun ι' S H' i d x H2 e s q y => by
    obtain ⟨c, q1, rfl⟩ := Option.map_eq_some_iff.mp (Option.some.inj q)
    obtain ⟨rfl, c', q2, rfl⟩ := y
    rw [q1] at q2; cases q2
    exact ⟨Ext.refl _ _, s, .str _⟩
/-- pairs of a number and an item -/
def diE (di : DI) : DI := fun i S => match di i S with
  | some (some d) => some (some (.tup [.int (i : Nat), d]))
  | some none => some none
  | none => none
theorem pair_new {ι' : List Addr} {S' : Sto} {H' : Hp} {T : Addr} {d1 d2 : D} {v1 v2 : V} (s : SR K mg ι' S' H') (hT : H' T = none) (h1 : DR K mg ι' H' d1 v1) (h2 : DR K mg ι' H' d2 v2) :
    Ext ι' H' ι' (upd H' T (.tup [v1, v2])) ∧ SR K mg ι' S' (upd H' T (.tup [v1, v2])) ∧ DR K mg ι' (upd H' T (.tup [v1, v2])) (.tup [d1, d2]) (.ref T) :=
  ⟨Ext.new hT, s.lay hT, .tup upd_same (.cons (h1.mono (Ext.new hT)) (.cons (h2.mono (Ext.new hT)) .nil))⟩
theorem itR_eL {a : Addr} {di : DI} (h : ItR K mg ι H (Itl K a) di) : ItR K mg ι H (Ite K a) (diE di) where
  stop := fun ι' S H' i e s q => by
    unfold diE at q
    split at q
    · cases q
    · rename_i q'; exact h.stop ι' S H' i e s q'
    · cases q
  go := fun ι' S H' i d e s q => by
    unfold diE at q
    split at q
    · rename_i q'; exact h.go ι' S H' i _ e s q'
    · cases q
    · cases q
  yld := fun ι' S H' i d x H2 e s q y => by
    unfold diE at q
    split at q
    · rename_i d0 q'
      cases q
      obtain ⟨T, x0, rfl, hT, rfl, f⟩ := y
      obtain ⟨_, _, hd⟩ := h.yld ι' S H' i d0 x0 H' e s q' ⟨rfl, f⟩
      exact pair_new s hT (.int _) hd
    · cases q
    · cases q
theorem itR_eT {a : Addr} {di : DI} (h : ItR K mg ι H (Itt K a) di) : ItR K mg ι H (IteT K a) (diE di) where
  stop := fun ι' S H' i e s q => by
    unfold diE at q
    split at q
    · cases q
    · rename_i q'; exact h.stop ι' S H' i e s q'
    · cases q
  go := fun ι' S H' i d e s q => by
    unfold diE at q
    split at q
    · rename_i q'; exact h.go ι' S H' i _ e s q'
    · cases q
    · cases q
  yld := fun ι' S H' i d x H2 e s q y => by
    unfold diE at q
    split at q
    · rename_i d0 q'
      cases q
      obtain ⟨T, x0, rfl, hT, rfl, f⟩ := y
      obtain ⟨_, _, hd⟩ := h.yld ι' S H' i d0 x0 H' e s q' ⟨rfl, f⟩
      exact pair_new s hT (.int _) hd
    · cases q
    · cases q
def diZ (d1 d2 : DI) : DI := fun i S => match d1 i S, d2 i S with
  | some (some a), some (some b) => some (some (.tup [a, b]))
  | some none, some _ => some none
  | some _, some none => some none
  | _, _ => none
theorem itR_zL {a b : Addr} {d1 d2 : DI} (h1 : ItR K mg ι H (Itl K a) d1) (h2 : ItR K mg ι H (Itl K b) d2) : ItR K mg ι H (Itz K a b) (diZ d1 d2) where
  stop := fun ι' S H' i e s q => by
    have seq : ∀ {c : Addr} {dd : DI}, ItR K mg ι H (Itl K c) dd → dd i S ≠ none → ∃ xs, SqL K H' c xs := by
      intro c dd h hn
      cases q' : dd i S with
      | none => exact absurd q' hn
      | some o => cases o with
        | none => obtain ⟨xs, q1, _⟩ := h.stop ι' S H' i e s q'; exact ⟨xs, q1⟩
        | some d => obtain ⟨xs, x, q1, _⟩ := h.go ι' S H' i d e s q'; exact ⟨xs, q1⟩
    unfold diZ at q
    split at q
    · cases q
    · rename_i o q1 q2
      obtain ⟨xs, p1, p2⟩ := h1.stop ι' S H' i e s q1
      obtain ⟨ys, p3⟩ := seq h2 (by rw [q2]; simp)
      exact ⟨xs, ys, p1, p3, .inl p2⟩
    · rename_i o q1 q2
      obtain ⟨xs, p1, p2⟩ := h2.stop ι' S H' i e s q2
      obtain ⟨ys, p3⟩ := seq h1 (by rw [q1]; simp)
      exact ⟨ys, xs, p3, p1, .inr p2⟩
    · cases q
  go := fun ι' S H' i d e s q => by
    unfold diZ at q
    split at q
    · rename_i q1 q2
      obtain ⟨xs, x, p1, p2⟩ := h1.go ι' S H' i _ e s q1
      obtain ⟨ys, y, p3, p4⟩ := h2.go ι' S H' i _ e s q2
      exact ⟨xs, ys, x, y, p1, p3, p2, p4⟩
    · cases q
    · cases q
    · cases q
  yld := fun ι' S H' i d x H2 e s q y => by
    unfold diZ at q
    split at q
    · rename_i q1 q2
      cases q
      obtain ⟨T, x1, x2, rfl, hT, rfl, f1, f2⟩ := y
      obtain ⟨_, _, r1⟩ := h1.yld ι' S H' i _ x1 H' e s q1 ⟨rfl, f1⟩
      obtain ⟨_, _, r2⟩ := h2.yld ι' S H' i _ x2 H' e s q2 ⟨rfl, f2⟩
      exact pair_new s hT r1 r2
    · cases q
    · cases q
    · cases q
theorem itR_zT {a b : Addr} {d1 d2 : DI} (h1 : ItR K mg ι H (Itt K a) d1) (h2 : ItR K mg ι H (Itt K b) d2) : ItR K mg ι H (RZ.ItzT K a b) (diZ d1 d2) where
  stop := fun ι' S H' i e s q => by
    have seq : ∀ {c : Addr} {dd : DI}, ItR K mg ι H (Itt K c) dd → dd i S ≠ none → ∃ xs, SqT K H' c xs := by
      intro c dd h hn
      cases q' : dd i S with
      | none => exact absurd q' hn
      | some o => cases o with
        | none => obtain ⟨xs, q1, _⟩ := h.stop ι' S H' i e s q'; exact ⟨xs, q1⟩
        | some d => obtain ⟨xs, x, q1, _⟩ := h.go ι' S H' i d e s q'; exact ⟨xs, q1⟩
    unfold diZ at q
    split at q
    · cases q
    · rename_i o q1 q2
      obtain ⟨xs, p1, p2⟩ := h1.stop ι' S H' i e s q1
      obtain ⟨ys, p3⟩ := seq h2 (by rw [q2]; simp)
      exact ⟨xs, ys, p1, p3, .inl p2⟩
    · rename_i o q1 q2
      obtain ⟨xs, p1, p2⟩ := h2.stop ι' S H' i e s q2
      obtain ⟨ys, p3⟩ := seq h1 (by rw [q1]; simp)
      exact ⟨ys, xs, p3, p1, .inr p2⟩
    · cases q
  go := fun ι' S H' i d e s q => by
    unfold diZ at q
    split at q
    · rename_i q1 q2
      obtain ⟨xs, x, p1, p2⟩ := h1.go ι' S H' i _ e s q1
      obtain ⟨ys, y, p3, p4⟩ := h2.go ι' S H' i _ e s q2
      exact ⟨xs, ys, x, y, p1, p3, p2, p4⟩
    · cases q
    · cases q
    · cases q
  yld := fun ι' S H' i d x H2 e s q y => by
    unfold diZ at q
    split at q
    · rename_i q1 q2
      cases q
      obtain ⟨T, x1, x2, rfl, hT, rfl, f1, f2⟩ := y
      obtain ⟨_, _, r1⟩ := h1.yld ι' S H' i _ x1 H' e s q1 ⟨rfl, f1⟩
      obtain ⟨_, _, r2⟩ := h2.yld ι' S H' i _ x2 H' e s q2 ⟨rfl, f2⟩
      exact pair_new s hT r1 r2
    · cases q
    · cases q
    · cases q
end
end Sh

set_option Elab.async false
set_option linter.all false
set_option maxRecDepth 100000
set_option autoImplicit false
namespace Sh
open PySem PySem.Spec PyProof.Rows L2
section
variable {X : Cx} {W : WX} {tg e e2 : Expr} {te ta tb : TE} {me ma mb : EM} {t : TA} {m : AM} {pos p : Pos}
/-! ### sources of walks -/
def seqI : D → Option DI
  | .tup xs => some (diL xs)
  | .kt xs => some (diL xs)
  | .wl xs => some (diL xs)
  | .str z => some (diS z)
  | .obj l => some (diO l)
  | _ => none
def iSeq (me : EM) : IM := fun ρ S => (me ρ S).bind fun d S1 => match seqI d with
  | some di => (match d with
    | .obj l => (match S1[l]? with
      | some (.lst _) => .ok di S1
      | _ => .no)
    | _ => .ok di S1)
  | none => .no
theorem ei_seq (h : Ee X W e te me) : Ei X W tg e (fun σ H R => iList X.K te σ H R ∨ iTup X.K te σ H R ∨ iStr te σ H R) (iSeq me) :=
  ⟨PI.or (pi_list h.der) (PI.or (pi_tup h.der) (pi_str h.der)), fun ι S H ρ σ Q s r g => by
    cases q : me ρ S with
    | no => simp only [iSeq, q, R.bind] at g; exact g.elim
    | ex c w S1 =>
      simp only [iSeq, q, R.bind] at g
      exact .inl (h.sim ι S H ρ σ _ s r (by rw [q]; exact g))
    | ok d S1 =>
      simp only [iSeq, q, R.bind] at g
      have run : ∀ (P : V → Hp → Prop), (∀ ι1 H1 v, Ext ι H ι1 H1 → SR X.K X.mg ι1 S1 H1 → DR X.K X.mg ι1 H1 d v → P v H1) → te σ H P := fun P hP =>
        h.sim ι S H ρ σ P s r (by rw [q]; exact fun ι1 H1 e1 s1 v x => hP ι1 H1 v e1 s1 x)
      cases d with
      | tup xs =>
        refine .inr (.inl (run _ fun ι1 H1 v e1 s1 x => ?_))
        cases x with
        | tup h1 h2 => exact ⟨_, rfl, ⟨_, .inl (.inl h1)⟩, g ι1 H1 e1 s1 _ (itR_tup h1 h2)⟩
      | kt xs =>
        refine .inr (.inl (run _ fun ι1 H1 v e1 s1 x => ?_))
        cases x with
        | kt h1 h2 => exact ⟨_, rfl, ⟨_, .inr h1⟩, g ι1 H1 e1 s1 _ (itR_kt h1 h2)⟩
      | wl xs =>
        refine .inl (run _ fun ι1 H1 v e1 s1 x => ?_)
        cases x with
        | wl h1 h2 => exact ⟨_, rfl, ⟨_, sqW_keep h1 (Ext.refl _ _ : Ext ι1 H1 ι1 H1)⟩, g ι1 H1 e1 s1 _ (itR_wl h1 h2)⟩
      | str z =>
        refine .inr (.inr (run _ fun ι1 H1 v e1 s1 x => ?_))
        cases x
        exact ⟨_, rfl, g ι1 H1 e1 s1 _ itR_s⟩
      | obj l =>
        refine .inl (run _ fun ι1 H1 v e1 s1 x => ?_)
        simp only [seqI] at g
        split at g
        · rename_i xs hS
          cases x with
          | obj hi =>
          obtain ⟨a, vs, ha, hv, rr⟩ := s1.list hS
          rw [hi] at ha; cases ha
          exact ⟨_, rfl, ⟨vs, SqL.of hv⟩, g ι1 H1 e1 s1 _ (itR_obj hi)⟩
        · exact g.elim
      | non => exact g.elim
      | bl _ => exact g.elim
      | int _ => exact g.elim
      | ty _ => exact g.elim
      | fn _ => exact g.elim⟩
def iR1 (m : AM) : IM := fun ρ S => (m ρ S).bind fun ds S1 => match ds with
  | [.int j] => if -(2 ^ 62) ≤ j ∧ j < 2 ^ 62 then .ok (diR 0 1 j.toNat) S1 else .no
  | _ => .no
theorem ei_r1 (hm : X.mg "range" = none) (ha : Ea X W [e] t m) (hg : Gl X "range" := by rfl) (hs : starEach [e] X.env = [(false, eval e X.env)] := by rfl) : Ei X W tg (.Call (.Name "range" p) [e] [] pos) (iRng1 t) (iR1 m) :=
  ⟨pi_range1 hg hm ha.der hs, fun ι S H ρ σ Q s r g => bindA ha.sim s r g fun ds S1 ι1 H1 vs e1 s1 r1 x g1 => by
    split at g1
    · split at g1
      · rename_i hj
        obtain ⟨v, rfl, y⟩ := x.one
        cases y
        exact ⟨_, rfl, hj.1, hj.2, g1.now s1 _ itR_r⟩
      · exact g1.elim
    · exact g1.elim⟩
def iR2 (m : AM) : IM := fun ρ S => (m ρ S).bind fun ds S1 => match ds with
  | [.int i, .int j] => if (-(2 ^ 62) ≤ i ∧ i < 2 ^ 62 ∧ -(2 ^ 62) ≤ j ∧ j < 2 ^ 62) then .ok (diR i 1 (j - i).toNat) S1 else .no
  | _ => .no
theorem ei_r2 (hm : X.mg "range" = none) (ha : Ea X W [e, e2] t m) (hg : Gl X "range" := by rfl) (hs : starEach [e, e2] X.env = [(false, eval e X.env), (false, eval e2 X.env)] := by rfl) (hs2 : starEach [e2] X.env = [(false, eval e2 X.env)] := by rfl) : Ei X W tg (.Call (.Name "range" p) [e, e2] [] pos) (iRng2 t) (iR2 m) :=
  ⟨pi_range2 hg hm ha.der hs hs2, fun ι S H ρ σ Q s r g => bindA ha.sim s r g fun ds S1 ι1 H1 vs e1 s1 r1 x g1 => by
    split at g1
    · split at g1
      · rename_i hj
        obtain ⟨v, w, rfl, y, z⟩ := x.two
        cases y; cases z
        exact ⟨_, _, rfl, hj, g1.now s1 _ itR_r⟩
      · exact g1.elim
    · exact g1.elim⟩
def lstI (d : D) (S : Sto) : Option DI := match d with
  | .wl xs => some (diL xs)
  | .obj l => (match S[l]? with
    | some (.lst _) => some (diO l)
    | _ => none)
  | _ => none
def tupI : D → Option DI
  | .tup xs => some (diL xs)
  | .kt xs => some (diL xs)
  | _ => none
theorem lstI_rel {K : PySem.W.Frag} {mg : Str → Option Value} {ι : List Addr} {S : Sto} {H : Hp} {d : D} {v : V} {di : DI} (s : SR K mg ι S H) (x : DR K mg ι H d v) (q : lstI d S = some di) : ∃ a xs, v = .ref a ∧ SqL K H a xs ∧ ItR K mg ι H (Itl K a) di := by
  unfold lstI at q
  split at q
  · cases q
    cases x with
    | wl h1 h2 => exact ⟨_, _, rfl, sqW_keep h1 (Ext.refl ι H), itR_wl h1 h2⟩
  · split at q
    · rename_i hS
      cases q
      cases x with
      | obj hi =>
      obtain ⟨a, vs, ha, hv, rr⟩ := s.list hS
      rw [hi] at ha; cases ha
      exact ⟨_, _, rfl, SqL.of hv, itR_obj hi⟩
    · cases q
  · cases q
theorem tupI_rel {K : PySem.W.Frag} {mg : Str → Option Value} {ι : List Addr} {H : Hp} {d : D} {v : V} {di : DI} (x : DR K mg ι H d v) (q : tupI d = some di) : ∃ a xs, v = .ref a ∧ SqT K H a xs ∧ ItR K mg ι H (Itt K a) di := by
  unfold tupI at q
  split at q
  · cases q
    cases x with
    | tup h1 h2 => exact ⟨_, _, rfl, .inl (.inl h1), itR_tup h1 h2⟩
  · cases q
    cases x with
    | kt h1 h2 => exact ⟨_, _, rfl, .inr h1, itR_kt h1 h2⟩
  · cases q
def iEn (m : AM) : IM := fun ρ S => (m ρ S).bind fun ds S1 => match ds with
  | [d] => (match lstI d S1 with
    | some di => .ok (diE di) S1
    | none => match tupI d with
      | some di => .ok (diE di) S1
      | none => .no)
  | _ => .no
theorem one_of {m : AM} {K : PySem.W.Frag} {mg : Str → Option Value} (ha : SimA K mg W t m) : True := trivial
theorem ei_en {elts : List Expr} {kk : Nat} {tpos : Pos} (hm : X.mg "enumerate" = none) (ha : Ea X W [e] t m) (hg : Gl X "enumerate" := by rfl) (hs : starEach [e] X.env = [(false, eval e X.env)] := by rfl) :
    Ei X W (.Tuple elts kk tpos) (.Call (.Name "enumerate" p) [e] [] pos) (fun σ H R => iEnum X.K t σ H R ∨ iEnumT X.K t σ H R) (iEn m) :=
  ⟨PI.or (pi_enum hg hm ha.der hs) (pi_enumT hg hm ha.der hs), fun ι S H ρ σ Q s r g => by
    cases q : m ρ S with
    | no => simp only [iEn, q, R.bind] at g; exact g.elim
    | ex c w S1 =>
      simp only [iEn, q, R.bind] at g
      exact .inl (ha.sim ι S H ρ σ _ s r (by rw [q]; exact g))
    | ok ds S1 =>
      simp only [iEn, q, R.bind] at g
      have run : ∀ (P : List V → Hp → Prop), (∀ ι1 H1 v, Ext ι H ι1 H1 → SR X.K X.mg ι1 S1 H1 → DRs X.K X.mg ι1 H1 ds v → P v H1) → t σ H P := fun P hP =>
        ha.sim ι S H ρ σ P s r (by rw [q]; exact fun ι1 H1 e1 s1 v x => hP ι1 H1 v e1 s1 x)
      split at g
      · rename_i d
        split at g
        · rename_i di qd
          refine .inl (run _ fun ι1 H1 vs e1 s1 x => ?_)
          obtain ⟨v, rfl, y⟩ := x.one
          obtain ⟨a, xs, rfl, h1, h2⟩ := lstI_rel s1 y qd
          exact ⟨a, xs, rfl, h1, g ι1 H1 e1 s1 _ (itR_eL h2)⟩
        · split at g
          · rename_i di qd
            refine .inr (run _ fun ι1 H1 vs e1 s1 x => ?_)
            obtain ⟨v, rfl, y⟩ := x.one
            obtain ⟨a, xs, rfl, h1, h2⟩ := tupI_rel y qd
            exact ⟨a, xs, rfl, h1, g ι1 H1 e1 s1 _ (itR_eT h2)⟩
          · exact g.elim
      · exact g.elim⟩
def iZp (m : AM) : IM := fun ρ S => (m ρ S).bind fun ds S1 => match ds with
  | [d1, d2] => (match lstI d1 S1, lstI d2 S1 with
    | some a, some b => .ok (diZ a b) S1
    | _, _ => match tupI d1, tupI d2 with
      | some a, some b => .ok (diZ a b) S1
      | _, _ => .no)
  | _ => .no
theorem ei_zip {elts : List Expr} {kk : Nat} {tpos : Pos} (hm : X.mg "zip" = none) (ha : Ea X W [e, e2] t m) (hg : Gl X "zip" := by rfl) (hs : starEach [e, e2] X.env = (false, eval e X.env) :: starEach [e2] X.env := by rfl) (hpl : (backTo pos (starEach [e2] X.env)).any (·.1) = false := by rfl) :
    Ei X W (.Tuple elts kk tpos) (.Call (.Name "zip" p) [e, e2] [] pos) (RZ.iZipA X.K t) (iZp m) :=
  ⟨RZ.pi_zipA hg hm ha.der hs hpl, fun ι S H ρ σ Q s r g => bindA ha.sim s r g fun ds S1 ι1 H1 vs e1 s1 r1 x g1 => by
    split at g1
    · obtain ⟨v, w, rfl, y, z⟩ := x.two
      split at g1
      · rename_i a b q1 q2
        obtain ⟨a, xs, rfl, h1, h2⟩ := lstI_rel s1 y q1
        obtain ⟨b, ys, rfl, h3, h4⟩ := lstI_rel s1 z q2
        exact ⟨a, b, xs, ys, rfl, .inl ⟨h1, h3, g1.now s1 _ (itR_zL h2 h4)⟩⟩
      · split at g1
        · rename_i a b q1 q2
          obtain ⟨a, xs, rfl, h1, h2⟩ := tupI_rel y q1
          obtain ⟨b, ys, rfl, h3, h4⟩ := tupI_rel z q2
          exact ⟨a, b, xs, ys, rfl, .inr ⟨h1, h3, g1.now s1 _ (itR_zT h2 h4)⟩⟩
        · exact g1.elim
    · exact g1.elim⟩
end
/-! ### for -/
section
variable {X : Cx} {W : WX} {tg iter : Expr} {wi : TI} {mi : IM} {g : TG} {gm : GM} {is : List Nat} {body : List Stmt} {tb : TS} {mb : SM} {pos : Pos}
/-- the turns from i on; n at most -/
def sLoop (di : DI) (gm : GM) (b : SM) : Nat → Nat → SM
  | 0, _ => fun _ _ => .no
  | n + 1, i => fun ρ S => match di i S with
    | some (some d) => (match gx (gm d ρ S) with
      | .nx ρ1 S1 => (match b ρ1 S1 with
        | .nx ρ2 S2 => sLoop di gm b n (i + 1) ρ2 S2
        | .ct ρ2 S2 => sLoop di gm b n (i + 1) ρ2 S2
        | .bk ρ2 S2 => .nx ρ2 S2
        | r => r)
      | r => r)
    | some none => .nx ρ S
    | none => .no
def sFor (n : Nat) (mi : IM) (gm : GM) (b : SM) : SM := fun ρ S => (mi ρ S).to ρ fun di S1 => sLoop di gm b n 0 ρ S1
theorem es_for (n : Nat) (hp : PassesOwn (model X.prog X.w) X.A X.env X.xe) (hc : X.calm = true) (hi : Ei X W tg iter wi mi) (hg : Eg X W tg g gm is) (hb : Ess X W body tb mb)
    (hs : ∀ x, foldedSetIterable iter X.env x = pure x := by intro _; rfl) : Es X W (.For tg iter body [] pos) (tFor wi g tb) (sFor n mi gm mb) :=
  ⟨ps_for hp hc hi.der hg.der hb.der hs, fun ι S H ρ σ E s r gg => by
    refine hi.sim ι S H ρ σ _ s r ?_
    unfold sFor at gg
    cases q : mi ρ S with
    | no => rw [q] at gg; exact gg.elim
    | ex c w S1 =>
      rw [q] at gg
      intro a b σ' C dd v e s1 z h1 h2 h3
      subst z
      exact gg a b σ' C dd v e s1 (r.mono e) h1 h2 h3
    | ok di S1 =>
    rw [q] at gg
    intro ι1 H1 e1 s1 J hJ
    refine ⟨fun i n' σ' H' => ∃ ι' S' ρ', Ext ι1 H1 ι' H' ∧ SR X.K X.mg ι' S' H' ∧ ER X.K X.mg ι' H' ρ' σ' ∧ GoodS X.K X.mg W ι' H' E (sLoop di gm mb n' i ρ' S'), ⟨n, ι1, S1, ρ, Ext.refl _ _, s1, r.mono e1, GoodS.mono e1 gg⟩, ?_⟩
    rintro i n' σ' H' ⟨ι', S', ρ', e', s', r', g'⟩
    cases n' with
    | zero => exact g'.elim
    | succ n' =>
    unfold sLoop at g'
    cases qd : di i S' with
    | none => rw [qd] at g'; exact g'.elim
    | some o =>
    cases o with
    | none =>
      rw [qd] at g'
      exact .inl ⟨hJ.stop ι' S' H' i e' s' qd, g'.nxn s' r'⟩
    | some d =>
    rw [qd] at g'
    refine .inr ⟨hJ.go ι' S' H' i d e' s' qd, fun σ2 H2 => ∃ ι2 S2 ρ2, Ext ι1 H1 ι2 H2 ∧ SR X.K X.mg ι2 S2 H2 ∧ ER X.K X.mg ι2 H2 ρ2 σ2 ∧ GoodS X.K X.mg W ι2 H2 E (sLoop di gm mb n' (i + 1) ρ2 S2), fun σ2 H2 h => ⟨n', Nat.lt_succ_self _, h⟩, fun x H2 hy => ?_⟩
    obtain ⟨e2, s2, x2⟩ := hJ.yld ι' S' H' i d x H2 e' s' qd hy
    refine hg.sim ι' S' H2 ρ' σ' d x _ s2 (r'.mono e2) x2 ?_
    have g2 := GoodS.mono e2 g'
    simp only at g2
    cases q3 : gm d ρ' S' with
    | nx ρ1 S3 =>
      rw [q3] at g2
      intro ι3 H3 σ3 e3 s3 r3 _
      refine hb.sim ι3 S3 H3 ρ1 σ3 _ s3 r3 ?_
      have g3 := GoodS.mono e3 g2
      simp only [gx] at g3
      have e13 := e'.trans (e2.trans e3)
      cases q4 : mb ρ1 S3 with
      | nx ρ2 S4 => rw [q4] at g3; exact fun a b c e s r => ⟨a, S4, ρ2, e13.trans e, s, r, GoodS.mono e g3⟩
      | ct ρ2 S4 => rw [q4] at g3; exact fun a b c e s r => ⟨a, S4, ρ2, e13.trans e, s, r, GoodS.mono e g3⟩
      | bk ρ2 S4 => rw [q4] at g3; exact g3
      | rt d S4 => rw [q4] at g3; exact g3
      | ex c w ρ2 S4 => rw [q4] at g3; exact g3
      | no => rw [q4] at g3; exact g3
    | rt d S3 => rw [q3] at g2; exact g2.elim
    | bk _ _ => rw [q3] at g2; exact g2.elim
    | ct _ _ => rw [q3] at g2; exact g2.elim
    | ex c w ρ1 S3 => rw [q3] at g2; exact g2
    | no => rw [q3] at g2; exact g2⟩
end
end Sh

set_option Elab.async false
set_option linter.all false
set_option maxRecDepth 100000
set_option autoImplicit false
namespace Sh
open PySem PySem.Spec PyProof.Rows L2
abbrev WF : WX := fun _ _ _ _ => False
def wipeE (ρ : Env) : List Nat → Env
  | [] => ρ
  | v :: vs => (wipeE ρ vs).set v none
theorem ER.wipe {K : PySem.W.Frag} {mg : Str → Option Value} {ι : List Addr} {H : Hp} {ρ : Env} {σ : L2.St} (r : ER K mg ι H ρ σ) : ∀ vs : List Nat, ER K mg ι H (wipeE ρ vs) (L2.wipe σ vs)
  | [] => r
  | v :: vs => (ER.wipe r vs).unset v none
theorem wipe_wipe {σ : L2.St} {vs : List Nat} : ∀ {us : List Nat}, (∀ u ∈ us, u ∈ vs) → wipe (wipe σ us) vs = wipe σ vs
  | [], _ => rfl
  | u :: us, h => by
    show wipe ((wipe σ us).set u none) vs = _
    rw [wipe_set (h u List.mem_cons_self), wipe_wipe fun x hx => h x (List.mem_cons_of_mem _ hx)]
def cLoop (di : DI) (gm : GM) (tm : TM) (me : EM) (l : Nat) : Nat → Nat → Env → Sto → R D
  | 0, _ => fun _ _ => .no
  | n + 1, i => fun ρ S => match di i S with
    | some (some d) => (match gx (gm d ρ S) with
      | .nx ρ1 S1 => (match tm ρ1 S1 with
        | .ok b S2 => if b = true then (match me ρ1 S2 with
            | .ok y S3 => (match S3[l]? with
              | some (.lst acc) => if acc.length < 16777216 then cLoop di gm tm me l n (i + 1) ρ (S3.set l (.lst (acc ++ [y]))) else .no
              | _ => .no)
            | _ => .no)
          else cLoop di gm tm me l n (i + 1) ρ S2
        | _ => .no)
      | _ => .no)
    | some none => .ok (.obj l) S
    | none => .no
def eComp (n : Nat) (vs : List Nat) (mi : IM) (gm : GM) (tm : TM) (me : EM) : EM := fun ρ S => (mi ρ S).bind fun di S1 => cLoop di gm tm me S1.length n 0 (wipeE ρ vs) (S1 ++ [.lst []])
def tYesM : TM := fun _ S => .ok true S
theorem sim_comp {K : PySem.W.Frag} {mg : Str → Option Value} {W : WX} {wi : TI} {mi : IM} {g : TG} {gm : GM} {is : List Nat} {tt : TT} {tm : TM} {te : TE} {me : EM} {vs : List Nat} (n : Nat)
    (hi : SimI K mg W wi mi) (hg : SimG K mg WF g gm is) (ht : SimT K mg WF tt tm) (he : SimE K mg WF te me) (his : ∀ i ∈ is, i ∈ vs) : SimE K mg W (tLc wi g tt te vs) (eComp n vs mi gm tm me) := fun ι S H ρ σ Q s r gg => by
  refine hi ι S H ρ σ _ s r ?_
  unfold eComp at gg
  cases q : mi ρ S with
  | no => rw [q] at gg; exact gg.elim
  | ex c w S1 => rw [q] at gg; exact gg
  | ok di S1 =>
  rw [q] at gg
  intro ι1 H1 e1 s1 J hJ Dd hD
  have s2 : SR K mg (ι1 ++ [Dd]) (S1 ++ [.lst []]) (upd H1 Dd (.lst [])) := s1.push hD (.lst .nil)
  have e2 : Ext ι1 H1 (ι1 ++ [Dd]) (upd H1 Dd (.lst [])) := Ext.newI hD
  have hl : (ι1 ++ [Dd])[S1.length]? = some Dd := s1.last
  refine ⟨fun i n' H' => ∃ ι' S', Ext (ι1 ++ [Dd]) (upd H1 Dd (.lst [])) ι' H' ∧ SR K mg ι' S' H' ∧ Good K mg W ι' H' σ (QV K mg Q) (cLoop di gm tm me S1.length n' i (wipeE ρ vs) S'),
    ⟨n, _, _, Ext.refl _ _, s2, Good.mono (e1.trans e2) gg⟩, ?_⟩
  rintro i n' H' ⟨ι', S', e', s', g'⟩
  have e1' := e1.trans (e2.trans e')
  have r' := r.mono e1'
  have eJ := e2.trans e'
  cases n' with
  | zero => exact g'.elim
  | succ n' =>
  unfold cLoop at g'
  cases qd : di i S' with
  | none => rw [qd] at g'; exact g'.elim
  | some o =>
  cases o with
  | none =>
    rw [qd] at g'
    exact .inl ⟨hJ.stop ι' S' H' i eJ s' qd, g'.now s' _ (.obj (e'.get hl))⟩
  | some d =>
  rw [qd] at g'
  refine .inr ⟨hJ.go ι' S' H' i d eJ s' qd, fun H2 => ∃ ι2 S2, Ext (ι1 ++ [Dd]) (upd H1 Dd (.lst [])) ι2 H2 ∧ SR K mg ι2 S2 H2 ∧ Good K mg W ι2 H2 σ (QV K mg Q) (cLoop di gm tm me S1.length n' (i + 1) (wipeE ρ vs) S2), fun H2 h => ⟨n', Nat.lt_succ_self _, h⟩, fun x H2 hy => ?_⟩
  obtain ⟨e3, s3, x3⟩ := hJ.yld ι' S' H' i d x H2 eJ s' qd hy
  refine hg ι' S' H2 (wipeE ρ vs) (wipe σ vs) d x _ s3 ((r'.mono e3).wipe vs) x3 ?_
  have g2 := Good.mono e3 g'
  simp only at g2
  cases q3 : gm d (wipeE ρ vs) S' with
  | nx ρ1 S3 =>
    rw [q3] at g2
    intro ι3 H3 σ3 e4 s4 r4 hw
    refine ⟨(hw vs his).trans (wipe_wipe fun u h => h), ?_⟩
    have g3 := Good.mono e4 g2
    simp only [gx] at g3
    refine ht ι3 S3 H3 ρ1 σ3 _ s4 r4 ?_
    cases q4 : tm ρ1 S3 with
    | no => rw [q4] at g3; exact g3.elim
    | ex c w S4 => rw [q4] at g3; exact g3.elim
    | ok b S4 =>
    rw [q4] at g3
    intro ι4 H4 e5 s5
    have g4 := Good.mono e5 g3
    simp only at g4
    have e45 := e'.trans (e3.trans (e4.trans e5))
    cases b with
    | false =>
      exact iteF ⟨ι4, S4, e45, s5, g4⟩
    | true =>
      refine iteT (he ι4 S4 H4 ρ1 σ3 _ s5 (r4.mono e5) ?_)
      simp only [if_true] at g4
      cases q5 : me ρ1 S4 with
      | no => rw [q5] at g4; exact g4.elim
      | ex c w S5 => rw [q5] at g4; exact g4.elim
      | ok y S5 =>
      rw [q5] at g4
      intro ι5 H5 e6 s6 v x6
      have g5 := Good.mono e6 g4
      simp only at g5
      split at g5
      · rename_i acc hacc
        split at g5
        · rename_i hlen
          have hl5 : ι5[S1.length]? = some Dd := (e45.trans e6).get hl
          obtain ⟨a, ws, ha, hv, rr⟩ := s6.list hacc
          rw [hl5] at ha; cases ha
          refine ⟨ws, hv, by rw [szl, ← rr.length]; exact hlen, ι5, _, (e45.trans e6).trans (Ext.write hv trivial), s6.write hacc hl5 (.lst ((rr.app (.cons x6 .nil)).mono (Ext.write hv trivial))), Good.mono (Ext.write hv trivial) g5⟩
        · exact g5.elim
      · exact g5.elim
  | rt d S3 => rw [q3] at g2; exact g2.elim
  | bk _ _ => rw [q3] at g2; exact g2.elim
  | ct _ _ => rw [q3] at g2; exact g2.elim
  | ex c w ρ1 S3 => rw [q3] at g2; exact g2.elim
  | no => rw [q3] at g2; exact g2.elim
structure Etts (X : Cx) (W : WX) (ifs : List Expr) (t : TT) (m : TM) : Prop where
  der : PTs X ifs t
  sim : SimT X.K X.mg W t m
theorem ets_nil {X : Cx} {W : WX} : Etts X W [] tYes tYesM := ⟨pts_nil, fun ι S H ρ σ Q s r g => g.now s⟩
theorem ets_one {X : Cx} {W : WX} {c : Expr} {t : TT} {m : TM} (h : Et X W c t m) : Etts X W [c] t m := ⟨pts_one h.der, h.sim⟩
section
variable {X : Cx} {W : WX} {elt tg iter : Expr} {ifs : List Expr} {scope : Scope} {own : List (Str × Nat)} {pos spos : Pos} {wi : TI} {mi : IM} {g : TG} {gm : GM} {is : List Nat} {tt : TT} {tm : TM} {te : TE} {me : EM}
theorem ee_comp (n : Nat) (hc : X.calm = true) (hN : X.N.Nodup) (hi : Ei X W tg iter wi mi) (ok : BlkOk X.N X.env.scope scope own)
    (hg : ∀ (s : Shared) (H : Hp) (C : Addr) (cl : List (Str × Addr)) (fp : List Addr), Eg (X.blk s H scope (compEnvC scope cl C X.env) fp) WF tg g gm is)
    (ht : ∀ (s : Shared) (H : Hp) (C : Addr) (cl : List (Str × Addr)) (fp : List Addr), Etts (X.blk s H scope (compEnvC scope cl C X.env) fp) WF ifs tt tm)
    (he : ∀ (s : Shared) (H : Hp) (C : Addr) (cl : List (Str × Addr)) (fp : List Addr), Ee (X.blk s H scope (compEnvC scope cl C X.env) fp) WF elt te me)
    (his : ∀ i ∈ is, i ∈ own.map (·.2) := by decide) (hs : ∀ x, foldedSetIterable iter X.env x = pure x := by intro _; rfl) :
    Ee X W (.ListComp elt [⟨tg, iter, ifs, 0⟩] scope pos) (tLc wi g tt te (own.map (·.2))) (eComp n (own.map (·.2)) mi gm tm me) :=
  ⟨pe_lc hc hN hi.der ok (fun a b c d e => (hg a b c d e).der) (fun a b c d e => (ht a b c d e).der) (fun a b c d e => (he a b c d e).der) hs,
    sim_comp n hi.sim (hg X.s_0 X.H_0 0 [] []).sim (ht X.s_0 X.H_0 0 [] []).sim (he X.s_0 X.H_0 0 [] []).sim his⟩
theorem es_setLc {i : Nat} {y : Str} {py : Pos} (n : Nat) (hc : X.calm = true) (hN : X.N.Nodup)
    (hi : Ei X W tg iter wi mi) (ok : BlkOk X.N X.env.scope scope own)
    (hg : ∀ (s : Shared) (H : Hp) (C : Addr) (cl : List (Str × Addr)) (fp : List Addr), Eg (X.blk s H scope (compEnvC scope cl C X.env) fp) WF tg g gm is)
    (ht : ∀ (s : Shared) (H : Hp) (C : Addr) (cl : List (Str × Addr)) (fp : List Addr), Etts (X.blk s H scope (compEnvC scope cl C X.env) fp) WF ifs tt tm)
    (he : ∀ (s : Shared) (H : Hp) (C : Addr) (cl : List (Str × Addr)) (fp : List Addr), Ee (X.blk s H scope (compEnvC scope cl C X.env) fp) WF elt te me)
    (hsw : swapsWith (.ListComp elt [⟨tg, iter, ifs, 0⟩] scope pos) (some (.Name y py)) spos.line X.env = pure true := by exact sw_true rfl rfl rfl (by decide +kernel))
    (hy : X.N[i]? = some y := by rfl) (hyl : X.env.scope.names.lookup y = some .local := by rfl)
    (his : ∀ i ∈ is, i ∈ own.map (·.2) := by decide) (hs : ∀ x, foldedSetIterable iter X.env x = pure x := by intro _; rfl) :
    Es X W (.Assign [.Name y py] (.ListComp elt [⟨tg, iter, ifs, 0⟩] scope pos) spos) (tAsg (tLc wi g tt te (own.map (·.2))) (gName i)) (sAs (eComp n (own.map (·.2)) mi gm tm me) (gNameM i)) :=
  ⟨ps_setLc hc hN hy hyl hsw hi.der ok (fun a b c d e => (hg a b c d e).der) (fun a b c d e => (ht a b c d e).der) (fun a b c d e => (he a b c d e).der) hs,
    sim_asg (sim_comp n hi.sim (hg X.s_0 X.H_0 0 [] []).sim (ht X.s_0 X.H_0 0 [] []).sim (he X.s_0 X.H_0 0 [] []).sim his) (eg_name (X := X) (pos := py) hN hy (.inl hyl) (.inr hyl)).sim⟩
end
end Sh

set_option Elab.async false
set_option linter.all false
set_option maxRecDepth 100000
set_option autoImplicit false
namespace Sh
open PySem PySem.Spec PyProof.Rows L2
section
variable {X : Cx} {W : WX}
theorem SR.lenD {K : PySem.W.Frag} {mg : Str → Option Value} {ι : List Addr} {S : Sto} {H : Hp} (s : SR K mg ι S H) : True := trivial
/-! ### len -/
def rLen (K : PySem.W.Frag) : List V → Hp → VK → Prop := fun xs H Q => (∃ p ys, xs = [.ref p] ∧ (SqL K H p ys ∨ SqT K H p ys) ∧ Q (.int ys.length) H) ∨ (∃ z, xs = [.str z] ∧ z.length ≤ sizeLine ∧ Q (.int z.length) H) ∨
  (∃ a kvs, xs = [V.ref a] ∧ H a = some (.dK kvs) ∧ Q (.int kvs.length) H) ∨ rLenT xs H Q
def gLenA (ds : List D) (S : Sto) : R D := match ds with
  | [d] => (match seqD S d with
    | some xs => .ok (.int xs.length) S
    | none => match d with
      | .str z => if z.length ≤ 16777216 then .ok (.int z.length) S else .no
      | .obj i => (match S[i]? with
        | some (.dK kvs) => .ok (.int kvs.length) S
        | some (.dT kvs) => .ok (.int ((kvs.length : Nat) : Int)) S
        | _ => .no)
      | _ => .no)
  | _ => .no
theorem cs_len : CaS X W (.builtin "len") (rLen X.K) gLenA := by
  refine ⟨CallR.or call_len_seq (CallR.or call_len_str (CallR.or call_lenD call_len_dT)), fun ι S H σ xs ds Q s x g => ?_⟩
  unfold gLenA at g
  split at g
  · rename_i d
    obtain ⟨v, rfl, y⟩ := x.one
    split at g
    · rename_i ys q
      obtain ⟨a, vs, rfl, hq, rr⟩ := seqD_rel s y q
      refine .inl ⟨a, vs, rfl, hq, ?_⟩
      rw [← rr.length]
      exact g.now s _ (.int _)
    · split at g
      · cases y
        split at g
        · rename_i hl
          exact .inr (.inl ⟨_, rfl, by rw [szl]; exact hl, g.now s _ (.int _)⟩)
        · exact g.elim
      · cases y with
        | obj hi =>
        split at g
        · rename_i kvs q2
          obtain ⟨a, vs, ha, hv, rr⟩ := s.dictK q2
          rw [hi] at ha; cases ha
          refine .inr (.inr (.inl ⟨_, vs, rfl, hv, ?_⟩))
          rw [← rr.length]
          exact g.now s _ (.int _)
        · rename_i kvs q2
          obtain ⟨a, vs, ha, hv, rr⟩ := s.dictT q2
          rw [hi] at ha; cases ha
          refine .inr (.inr (.inr ⟨_, vs, rfl, hv, ?_⟩))
          rw [← rr.length]
          exact g.now s _ (.int _)
        · exact g.elim
      · exact g.elim
  · exact g.elim
/-! ### ints -/
def gMax (ds : List D) (S : Sto) : R D := match ds with
  | [.int i, .int j] => .ok (.int (if j > i then j else i)) S
  | _ => .no
theorem cs_max (hc : X.calm = true) : CaS X W (.builtin "max") (fun xs H Q => ∃ i j, xs = [.int i, .int j] ∧ Q (.int (if j > i then j else i)) H) gMax := by
  refine ⟨call_max2 hc, fun ι S H σ xs ds Q s x g => ?_⟩
  unfold gMax at g
  split at g
  · obtain ⟨v, w, rfl, y, z⟩ := x.two
    cases y; cases z
    exact ⟨_, _, rfl, g.now s _ (.int _)⟩
  · exact g.elim
def gMin (ds : List D) (S : Sto) : R D := match ds with
  | [.int i, .int j] => .ok (.int (if j < i then j else i)) S
  | _ => .no
theorem cs_min (hc : X.calm = true) : CaS X W (.builtin "min") (fun xs H Q => ∃ i j, xs = [.int i, .int j] ∧ Q (.int (if j < i then j else i)) H) gMin := by
  refine ⟨call_min2 hc, fun ι S H σ xs ds Q s x g => ?_⟩
  unfold gMin at g
  split at g
  · obtain ⟨v, w, rfl, y, z⟩ := x.two
    cases y; cases z
    exact ⟨_, _, rfl, g.now s _ (.int _)⟩
  · exact g.elim
def gInt (ds : List D) (S : Sto) : R D := match ds with
  | [.int i] => .ok (.int i) S
  | [.bl k] => .ok (.int (if k then 1 else 0)) S
  | _ => .no
theorem cs_int : CaS X W (.type "int") (fun xs H Q => (∃ i, xs = [.int i] ∧ Q (.int i) H) ∨ ∃ k, xs = [.bl k] ∧ Q (.int (if k then 1 else 0)) H) gInt := by
  refine ⟨call_int1, fun ι S H σ xs ds Q s x g => ?_⟩
  unfold gInt at g
  split at g
  · obtain ⟨v, rfl, y⟩ := x.one
    cases y
    exact .inl ⟨_, rfl, g.now s _ (.int _)⟩
  · obtain ⟨v, rfl, y⟩ := x.one
    cases y
    exact .inr ⟨_, rfl, g.now s _ (.int _)⟩
  · exact g.elim
/-! ### isinstance -/
def tyD (d : D) (S : Sto) : Option String := match d with
  | .non => some "NoneType"
  | .bl _ => some "bool"
  | .int _ => some "int"
  | .str _ => some "str"
  | .tup _ => some "tuple"
  | .kt _ => some "tuple"
  | .wl _ => some "list"
  | .obj i => (match S[i]? with
    | some (.lst _) => some "list"
    | some (.dK _) => some "dict"
    | some (.dT _) => some "dict"
    | _ => none)
  | _ => none
theorem tyD_rel {K : PySem.W.Frag} {mg : Str → Option Value} {ι : List Addr} {S : Sto} {H : Hp} (s : SR K mg ι S H) {d : D} {v : V} {T : String} (x : DR K mg ι H d v) (q : tyD d S = some T) : TyX K H v (.type T) := by
  unfold tyD at q
  split at q
  · cases x; cases q; exact .base .non
  · cases x; cases q; exact .base (.bl _)
  · cases x; cases q; exact .base (.int _)
  · cases x; cases q; exact .base (.str _)
  · cases q
    cases x with
    | tup h _ => exact .base (.tup h)
  · cases q
    cases x with
    | kt h _ => obtain ⟨o, its, n, h1, h2, _⟩ := h; exact .kTuple h1 h2
  · cases q
    cases x with
    | wl h _ =>
      rcases h with ⟨o, h⟩ | ⟨o, its, n, h1, h2, _⟩
      · exact .base (.frz h)
      · exact .kList h1 h2
  · cases x with
    | obj hi =>
    split at q
    · rename_i q2
      cases q
      obtain ⟨a, vs, ha, hv, rr⟩ := s.list q2
      rw [hi] at ha; cases ha
      exact .base (.lst hv)
    · rename_i q2
      cases q
      obtain ⟨a, vs, ha, hv, rr⟩ := s.dictK q2
      rw [hi] at ha; cases ha
      exact .base (.dK hv)
    · rename_i q2
      cases q
      obtain ⟨a, vs, ha, hv, rr⟩ := s.dictT q2
      rw [hi] at ha; cases ha
      exact .base (.dT hv)
    · cases q
  · cases q
def isiT (T n : String) : Option Bool := if ["NoneType", "bool", "int", "str", "tuple", "list", "dict"].contains T && ["bool", "int", "str", "tuple", "list", "dict"].contains n then some (T == n || (T == "bool" && n == "int")) else none
theorem isiT_kit {K : PySem.W.Frag} {T n : String} {b : Bool} (h : isiT T n = some b) : PySem.W.kitOne K (.type T) (.type n) = some b := by
  have all : ∀ T ∈ ["NoneType", "bool", "int", "str", "tuple", "list", "dict"], ∀ n ∈ ["bool", "int", "str", "tuple", "list", "dict"], kitB T n = some (T == n || (T == "bool" && n == "int")) := by decide +kernel
  unfold isiT at h
  split at h
  · rename_i q
    cases h
    simp only [Bool.and_eq_true, List.contains_iff_mem] at q
    exact kit_ty (all T q.1 n q.2)
  · cases h
def gIsi (ds : List D) (S : Sto) : R D := match ds with
  | [d, .ty n] => (match tyD d S with
    | some T => (match isiT T n with
      | some b => .ok (.bl b) S
      | none => .no)
    | none => .no)
  | _ => .no
theorem cs_isi : CaS X W (.builtin "isinstance") (rIsi X.K) gIsi := by
  refine ⟨call_isi, fun ι S H σ xs ds Q s x g => ?_⟩
  unfold gIsi at g
  split at g
  · obtain ⟨v, w, rfl, y, z⟩ := x.two
    cases z
    split at g
    · rename_i T q
      split at g
      · rename_i b q2
        exact ⟨v, _, _, _, b, rfl, .ty _, tyD_rel s y q, isiT_kit q2, g.now s _ (.bl _)⟩
      · exact g.elim
    · exact g.elim
  · exact g.elim
/-- a built-in class as an argument -/
theorem ee_ty {x : Str} {n : String} {pos : Pos} (hm : X.mg x = none) (hg : Gl X x := by rfl) (hv : bootBuiltins x = some (.type n) := by decide +kernel) (hn : x ≠ "__name__" := by decide) (hd : (x == ("__debug__" : Str)) = false := by decide) : Ee X W (.Name x pos) (tC (.ty n)) (eLit (.ty n)) :=
  ee_lit (pe_bltn hg hm hv rfl hn hd) fun _ _ => .ty n
/-! ### tuple, list -/
def gTuple (ds : List D) (S : Sto) : R D := match ds with
  | [.tup xs] => .ok (.tup xs) S
  | [.kt xs] => .ok (.kt xs) S
  | [.wl xs] => .ok (.tup xs) S
  | [.obj i] => (match S[i]? with
    | some (.lst xs) => .ok (.tup xs) S
    | _ => .no)
  | _ => .no
theorem cs_tuple : CaS X W (.type "tuple") (fun xs H Q => ∃ p ys, xs = [.ref p] ∧ ((SqL X.K H p ys ∧ ∀ l, H l = none → Q (.ref l) (upd H l (.tup ys))) ∨ (SqT X.K H p ys ∧ Q (.ref p) H))) gTuple := by
  refine ⟨call_tuple_of, fun ι S H σ xs ds Q s x g => ?_⟩
  unfold gTuple at g
  split at g
  · obtain ⟨v, rfl, y⟩ := x.one
    obtain ⟨a, vs, rfl, hq, rr⟩ := y.sqT
    exact ⟨a, vs, rfl, .inr ⟨hq, g.now s _ y⟩⟩
  · obtain ⟨v, rfl, y⟩ := x.one
    obtain ⟨a, vs, rfl, hq, rr⟩ := y.sqK
    exact ⟨a, vs, rfl, .inr ⟨hq, g.now s _ y⟩⟩
  · obtain ⟨v, rfl, y⟩ := x.one
    obtain ⟨a, vs, rfl, hq, rr⟩ := y.sqW
    exact ⟨a, vs, rfl, .inl ⟨hq, fun p hp => g _ _ (Ext.new hp) (s.lay hp) _ (.tup upd_same (rr.mono (Ext.new hp)))⟩⟩
  · obtain ⟨v, rfl, y⟩ := x.one
    cases y with
    | obj hi =>
    split at g
    · rename_i ys q2
      obtain ⟨a, vs, ha, hv, rr⟩ := s.list q2
      rw [hi] at ha; cases ha
      exact ⟨_, vs, rfl, .inl ⟨SqL.of hv, fun p hp => g _ _ (Ext.new hp) (s.lay hp) _ (.tup upd_same (rr.mono (Ext.new hp)))⟩⟩
    · exact g.elim
  · exact g.elim
def gList (ds : List D) (S : Sto) : R D := match ds with
  | [d] => (match seqD S d with
    | some xs => .ok (.obj S.length) (S ++ [.lst xs])
    | none => .no)
  | _ => .no
theorem cs_list : CaS X W (.type "list") (fun xs H Q => ∃ p ys, xs = [.ref p] ∧ (SqL X.K H p ys ∨ SqT X.K H p ys) ∧ ∀ l, H l = none → Q (.ref l) (upd H l (.lst ys))) gList := by
  refine ⟨call_list_of, fun ι S H σ xs ds Q s x g => ?_⟩
  unfold gList at g
  split at g
  · obtain ⟨v, rfl, y⟩ := x.one
    split at g
    · rename_i ys q
      obtain ⟨a, vs, rfl, hq, rr⟩ := seqD_rel s y q
      exact ⟨a, vs, rfl, hq, fun p hp => g _ _ (Ext.newI hp) (s.push hp (.lst (rr.mono (Ext.newI hp)))) _ (.obj s.last)⟩
    · exact g.elim
  · exact g.elim
/-! ### all, any -/
def blD : D → Option Bool
  | .bl b => some b
  | _ => none
theorem blD_rel {K : PySem.W.Frag} {mg : Str → Option Value} {ι : List Addr} {H : Hp} : ∀ {ds : List D} {vs : List V} {bs : List Bool}, DRs K mg ι H ds vs → optAll blD ds = some bs → vs = bs.map V.bl
  | _, _, _, .nil, e => by simp [optAll] at e; subst e; rfl
  | _, _, _, .cons h hs, e => by
    unfold optAll at e
    split at e
    · rename_i a b q1 q2
      cases e
      rw [blD_rel hs q2]
      cases h <;> simp [blD] at q1
      subst q1; rfl
    · cases e
def gAll (all : Bool) (ds : List D) (S : Sto) : R D := match ds with
  | [.obj i] => (match S[i]? with
    | some (.lst xs) => (match optAll blD xs with
      | some bs => .ok (.bl (if all then bs.all id else bs.any id)) S
      | none => .no)
    | _ => .no)
  | _ => .no
theorem cs_all (hc : X.calm = true) : CaS X W (.builtin "all") (rAll X.K) (gAll true) := by
  refine ⟨cr_all hc, fun ι S H σ xs ds Q s x g => ?_⟩
  unfold gAll at g
  split at g
  · obtain ⟨v, rfl, y⟩ := x.one
    cases y with
    | obj hi =>
    split at g
    · rename_i ys q2
      split at g
      · rename_i bs q3
        obtain ⟨a, vs, ha, hv, rr⟩ := s.list q2
        rw [hi] at ha; cases ha
        exact ⟨_, bs, rfl, SqL.of (by rw [hv, blD_rel rr q3]), g.now s _ (.bl _)⟩
      · exact g.elim
    · exact g.elim
  · exact g.elim
theorem cs_any (hc : X.calm = true) : CaS X W (.builtin "any") (rAny X.K) (gAll false) := by
  refine ⟨cr_any hc, fun ι S H σ xs ds Q s x g => ?_⟩
  unfold gAll at g
  split at g
  · obtain ⟨v, rfl, y⟩ := x.one
    cases y with
    | obj hi =>
    split at g
    · rename_i ys q2
      split at g
      · rename_i bs q3
        obtain ⟨a, vs, ha, hv, rr⟩ := s.list q2
        rw [hi] at ha; cases ha
        exact ⟨_, bs, rfl, SqL.of (by rw [hv, blD_rel rr q3]), g.now s _ (.bl _)⟩
      · exact g.elim
    · exact g.elim
  · exact g.elim
/-! ### repr -/
def rRepr (K : PySem.W.Frag) : List V → Hp → VK → Prop := fun xs H Q => ∃ x d, xs = [x] ∧ Dp K H x d ∧ d.canLay0 = true ∧ d.showable = true ∧ d.shown.length ≤ sizeLine ∧ d.depth ≤ 190 ∧ Q (.str d.shown) H
theorem call_reprD (hu : X.A.units + 200 < cLine) (hg : X.A.guards = some []) : CallR X (.builtin "repr") (rRepr X.K) := by
  intro pins s σ H xs us Q I r h
  obtain ⟨x, d, rfl, hd, hl, hs, hz, hdep, q⟩ := h
  obtain ⟨u, rfl, rx⟩ := vals1 r
  cases hd with
  | non =>
    cases rx
    exact PySem.P.repr_of_none ⟨.str _, H, I.tok _, ⟨_, rfl⟩, q⟩
  | bl b =>
    cases rx
    refine PySem.P.repr_of_bool ⟨.str _, H, I.tok _, ⟨_, rfl⟩, ?_⟩
    cases b <;> exact q
  | int i =>
    obtain ⟨t, rfl⟩ := rx
    exact PySem.P.repr_of_int (of_decide_eq_true hs) ⟨.str _, H, I.tok _, ⟨_, rfl⟩, q⟩
  | str z =>
    obtain ⟨t, rfl⟩ := rx
    exact PySem.P.repr_of_str ⟨.str _, H, I.tok _, ⟨_, rfl⟩, q⟩ hz
  | @lst a xs ds h1 h2 =>
    obtain ⟨as, rr⟩ := Dp.reads I (.list ds) (.ref a) u (.lst h1 h2) rx
    obtain rfl : u = Value.ref a := rx
    exact repr_of_reads' rr hs (PyData.noDict_hsm (PyData.hasDict_of_canLay _ hl)) hg (by omega) (fun _ _ e => e) (fun h' u tk hk => ⟨.str _, H, I.kept (t' := tk) hk, ⟨_, rfl⟩, q⟩) hz
  | @tup a xs ds h1 h2 =>
    obtain ⟨as, rr⟩ := Dp.reads I (.tuple ds) (.ref a) u (.tup h1 h2) rx
    obtain rfl : u = Value.ref a := rx
    exact repr_of_reads' rr hs (PyData.noDict_hsm (PyData.hasDict_of_canLay _ hl)) hg (by omega) (fun _ _ e => e) (fun h' u tk hk => ⟨.str _, H, I.kept (t' := tk) hk, ⟨_, rfl⟩, q⟩) hz
def gRepr (ds : List D) (S : Sto) : R D := match ds with
  | [d] => (match pd S 220 d with
    | some p => if p.canLay0 = true ∧ p.showable = true ∧ p.shown.length ≤ 16777216 ∧ p.depth ≤ 190 then .ok (.str p.shown) S else .no
    | none => .no)
  | _ => .no
theorem cs_repr {k : Nat} (hr : Rm k X.A) : CaS X W (.builtin "repr") (rRepr X.K) gRepr := by
  refine ⟨call_reprD (Room.u200 hr.room) hr.gd, fun ι S H σ xs ds Q s x g => ?_⟩
  unfold gRepr at g
  split at g
  · obtain ⟨v, rfl, y⟩ := x.one
    split at g
    · rename_i p q
      split at g
      · rename_i hh
        exact ⟨v, p, rfl, pd_dp s _ _ _ _ y q, hh.1, hh.2.1, by rw [szl]; exact hh.2.2.1, hh.2.2.2, g.now s _ (.str _)⟩
      · exact g.elim
    · exact g.elim
  · exact g.elim
/-! ### methods of a list -/
def eApp (mo me : EM) : EM := fun ρ S => (mo ρ S).bind fun d S1 => match d with
  | .obj l => (match S1[l]? with
    | some (.lst _) => (me ρ S1).bind fun y S2 => (match S2[l]? with
      | some (.lst xs) => if xs.length < 16777216 then .ok .non (S2.set l (.lst (xs ++ [y]))) else .no
      | _ => .no)
    | _ => .no)
  | _ => .no
theorem ee_app {o e : Expr} {to te : TE} {mo me : EM} {apos cpos : Pos} (ho : Ee X W o to mo) (he : Ee X W e te me)
    (hbase : attributeBase o "append" X.env (eval o X.env) = eval o X.env := by rfl)
    (hfew : ((backTo cpos (starEach (e :: []) X.env)).all (fun x => !x.1) && (backToKw cpos (keywordEach [] X.env)).all (fun x => x.1.isSome)
      && decide ((e :: ([] : List Expr)).length + ([] : List Keyword).length + (if ([] : List Keyword).isEmpty then 0 else 1) < 30)) = true := by rfl)
    (hline : (apos.endLine == cpos.line) = true := by rfl) (hs : starEach (e :: []) X.env = (false, eval e X.env) :: starEach [] X.env := by rfl) (hplain : (backTo cpos (starEach [] X.env)).any (·.1) = false := by rfl) :
    Ee X W (.Call (.Attribute o "append" apos) [e] [] cpos) (tBM X.K "list" rAppend to (tCons te tNil)) (eApp mo me) :=
  ⟨pe_bm PySem.F.plainAttrs_list PySem.F.slot_list_append PySem.F.type_list_append mt_append ho.der (pa_cons he.der pa_nil hs) hbase hfew hline hs hplain, fun ι S H ρ σ Q s r g => bindE ho.sim s r g fun d S1 ι1 H1 v e1 s1 r1 x g1 => by
    split at g1
    · cases x with
      | obj hi =>
      split at g1
      · rename_i xs q1
        obtain ⟨a, vs, ha, hv, rr⟩ := s1.list q1
        rw [hi] at ha; cases ha
        refine ⟨.inl ⟨rfl, vs, SqL.of hv⟩, bindE he.sim s1 r1 g1 fun y S2 ι2 H2 w e2 s2 r2 x2 g2 => ?_⟩
        split at g2
        · rename_i ys q2
          split at g2
          · rename_i hl
            obtain ⟨b, ws, hb, hw, rr2⟩ := s2.list q2
            rw [e2.get hi] at hb; cases hb
            exact ⟨_, ws, w, rfl, rfl, hw, by rw [szl, ← rr2.length]; exact hl, g2 _ _ (Ext.write hw trivial) (s2.write q2 (e2.get hi) (.lst ((rr2.app (.cons x2 .nil)).mono (Ext.write hw trivial)))) _ .non⟩
          · exact g2.elim
        · exact g2.elim
      · exact g1.elim
    · exact g1.elim⟩
end
end Sh

set_option Elab.async false
set_option linter.all false
set_option maxRecDepth 100000
set_option autoImplicit false
/-! The parts on an own exception with one field follow the worked block that the guide gives to be copied (a class over ValueError whose __init__ keeps its argument). -/
namespace PySem
namespace LowX
open PySem.W PySem.Calls PyProof.Rows PySem.HandSPX
/-! ### the text of __init__ -/
def iA (p1 p2 : Pos) : Arguments := { posonlyargs := [], args := [{ arg := "self", annotation := none, pos := p1 }, { arg := "what", annotation := none, pos := p2 }], vararg := none, kwonlyargs := [], kw_defaults := [], kwarg := none, defaults := [] }
def iB (q1 q2 q3 q4 : Pos) : List Stmt := [.Assign [.Attribute (.Name "self" q1) "what" q2] (.Name "what" q3) q4]
def iS : Scope := { kind := .function, names := [(PySem.Str.ofString "self", .local), (PySem.Str.ofString "what", .local)], isGenerator := false, isCoroutine := false, more := [] }
/-- what the written part says of Low, at C, and of its __init__, at fI -/
structure LowTxt (K : Frag) (mg : Str → Option Value) (nx : Str) (C fI : Addr) : Prop where
  gC : mg nx = some (.ref C)
  cls : ∃ nm q N bs bm sn sub ab col dd k0 k1 k2 k3 k5, K.lookup C = some (excClassObj nm q C N bs bm true sn sub ab col dd k0 k1 k2 k3 k5 "ValueError.__new__") ∧ refsVE bm = true
  sa : findIn K (.ref C) "__setattr__" = some (some (.builtin "object.__setattr__"))
  ga : findIn K (.ref C) "__getattribute__" = some (some (.builtin "BaseException.__getattribute__"))
  gg : findIn K (.ref C) "__getattr__" = some none
  noN : findIn K (.ref C) "what" = some none
  iC : findIn K (.ref C) "__init__" = some (some (.ref fI))
  tC : typeIn K (.ref fI) = some (.type "function")
  kC : keepIn K (.ref C) = true
  exC : subIn K (.ref C) (.type "BaseException") = some true
  tyC : typeIn K (.ref C) = some (.type "type")
  hdC : hasDictIn K C = true
  te : exmOne K (.ref C) (.ref C) = some true
  fn : ∃ (oc : Value) (od : Option Addr) (doc pm : Value) (an : Option Addr) (cdv ct : Value) (osl : Array (Option Value)) (p1 p2 q1 q2 q3 q4 : Pos),
    K.lookup fI = some ⟨oc, od, .func (fnOf "__init__" "Refused.__init__" (iA p1 p2) (iB q1 q2 q3 q4) iS .none .none doc pm an cdv ct), osl⟩ ∧ codeIn K cdv "Refused.__init__" = true
theorem one_size (v : Value) : [v].length ≤ sizeLine := by
  rw [sizeLine_eq]
  exact (by decide : 1 ≤ 16777216)
theorem kept_but {K : Frag} {h h' : Heap} {x : Addr} (X : K.In h) (hx : K.lookup x = none) (k : ∀ b o, b ≠ x → h.get? b = some o → h'.get? b = some o) : K.In h' := fun a o e =>
  k a o (fun z => by rw [z, hx] at e; cases e) (X a o e)
theorem ldC {M : Model} {s : Shared} {name : Str} {scope : Scope} {L a : Addr} {cd : Value} {m : Str → Option Value} {x : Str} {pos : Pos} {v : Value} {Q : Value → Shared → Prop} {A : Around} {E : Value → Shared → Prop} (hn : s.heap.Ns L m) (hv : m x = some v) (h : Q v s)
    (hk : scope.kind = .function := by rfl) (hl : (envOfC name scope L a cd).kindOf x = some .local := by rfl) (hd : (x == ("__debug__" : Str)) = false := by decide) :
    wpAny M A (eval (.Name x pos) (envOfC name scope L a cd)) Q E s := wpAny_Name (wpAny_loadName_local hk hl hn hv h) hd
/-- what __init__ leaves of a fresh exception at x -/
structure InitEnd (h h' : Heap) (x C dx t1 : Addr) (v : Value) : Prop where
  keep : ∀ b o, b ≠ x → h.get? b = some o → h'.get? b = some o
  obj : h'.get? x = some { cls := .ref C, dict := some dx, data := .fields #[.ref t1, .none, .none, .none, .bool false, .none] }
  dbig : h.objs.size ≤ dx
  dne : dx ≠ x
  ns : h'.Ns1 dx (fun y => if y = "what" then some v else none)
/-- a made Low -/
structure OwnMade (h h' : Heap) (e C d : Addr) (v : Value) : Prop where
  keep : ∀ b o, h.get? b = some o → h'.get? b = some o
  new : h.objs.size ≤ e
  obj : ∃ oe vs, h'.get? e = some oe ∧ oe.cls = .ref C ∧ oe.dict = some d ∧ oe.data = .fields vs ∧ vs[1]? = some .none
  dbig : h.objs.size ≤ d
  dne : d ≠ e
  ns : h'.Ns1 d (fun y => if y = "what" then some v else none)
section
variable {prog : Program} {w : World} {A : Around} {E : Value → Shared → Prop} {R : Result → Shared → Prop} {s : Shared} {K : Frag} {mg : Str → Option Value} {nx : Str} {C fI : Addr}
theorem low_init (T : LowTxt K mg nx C fI) {x t0 : Addr} {v : Value} (X : K.In s.heap) (hlim : s.heap.NoLimit) (hx : s.heap.get? x = some (excO C t0)) (hnx : K.lookup x = none) (hroom : A.depth < recursionLimit)
    (hq : ∀ h' tk dx, InitEnd s.heap h' x C dx t0 v → R (.ok (.ret .none)) { s with heap := h', toks := tk }) :
    codeAny (model prog w) A (.call (.ref fI) ⟨[.ref x, v], []⟩) R s := by
  obtain ⟨oc, od, doc, pm, an, cdv, ct, osl, p1, p2, q1, q2, q3, q4, ho, hcd⟩ := T.fn
  obtain ⟨nm, q, N, bs, bm, sn, sub, ab, col, dd, k0, k1, k2, k3, k5, hC, hbm⟩ := T.cls
  have hcl : clsIn K C = some { name := nm, bases := bs, mro := .ref C :: bm, ns := N, qualname := q, hasDict := true, slotNames := sn, subclasses := sub, abstract := ab, collection := col, hasDel := false } := by unfold clsIn; rw [hC] <;> rfl
  refine Att.call_fn (binds := [("self", .ref x), ("what", v)]) X hlim ho hcd hroom (BindsTo.of_eq (by first | rfl | with_unfolding_all rfl)) (by first | rfl | decide | with_unfolding_all rfl) (fun s₁ IC => ?_) rfl rfl rfl
  obtain ⟨h₁, tk₁, rfl⟩ := IC.toInCall.same
  have k : ∀ b o, s.heap.get? b = some o → h₁.get? b = some o := IC.toInCall.keep
  have hn := IC.toInCall.ns
  have hxL : s.heap.objs.size ≠ x := Nat.ne_of_gt (Heap.lt_size hx)
  have X₁ : K.In h₁ := X.keeps k
  have hx₁ := k _ _ hx
  -- self.by = by
  show wpAny _ _ (execs _ _) _ _ _
  refine wpAny_execs_cons (plainObj_wpAny_Assign_Attribute ?_)
  refine ldC (v := v) hn (by first | rfl | with_unfolding_all rfl | kernel_rfl) (ldC (v := .ref x) hn (by first | rfl | with_unfolding_all rfl | kernel_rfl) ?_)
  refine set_plain X₁ (ox := excO C t0) (od := none) ⟨hx₁, rfl, rfl, trivial⟩ T.sa ?_
  refine exc_osa X₁ hx₁ hcl (show refsVE (.ref C :: bm) = true from hbm) rfl T.noN (fun h₃ tk₃ dx k₃ dn dne hx₃ hn₃ => ?_)
  show wpAny _ _ (execs _ _) _ _ _
  have z : s.heap.objs.size < h₁.objs.size := hn.lt
  exact wpAny_execs_nil (hq h₃ tk₃ dx ⟨fun b o hb e => k₃ b o hb (k b o e), hx₃, Nat.le_of_lt (Nat.lt_of_lt_of_le z dn), dne, hn₃⟩)
theorem low_made (T : LowTxt K mg nx C fI) {v : Value} (X : K.In s.heap) (hlim : s.heap.NoLimit) (hroom : A.depth + 1 < recursionLimit)
    (hq : ∀ h' tk e d, OwnMade s.heap h' e C d v → R (.ok (.ret (.ref e))) { s with heap := h', toks := tk }) :
    codeAny (model prog w) A (.call (.ref C) ⟨[v], []⟩) R s := by
  obtain ⟨nm, q, N, bs, bm, sn, sub, ab, col, dd, k0, k1, k2, k3, k5, hC, hbm⟩ := T.cls
  obtain ⟨hp, g, dr, tk, os⟩ := s
  have k : ∀ b o, hp.get? b = some o → ((hp.push (kdv_tup [v])).push (excO C hp.objs.size)).get? b = some o := fun b o e => Heap.get?_push_of_some _ (Heap.get?_push_of_some _ e)
  have hget : ((hp.push (kdv_tup [v])).push (excO C hp.objs.size)).get? (hp.objs.size + 1) = some (excO C hp.objs.size) := by heap_get
  have hnx : K.lookup (hp.objs.size + 1) = none := by
    cases e : K.lookup (hp.objs.size + 1) with
    | none => rfl
    | some o =>
      have z : hp.get? (hp.objs.size + 1) = some o := X _ _ e
      exact absurd (Nat.lt_of_succ_lt (Heap.lt_size z)) (Nat.lt_irrefl _)
  refine call_own F.excBase_ValueError (fun X => refsVE_contains X bm hbm) (X _ _ hC) (looks_findIn X T.iC) (fun self => bind_fn X self T.tC) (one_size v) ?_
  refine low_init (s := ⟨(hp.push (kdv_tup [v])).push (excO C hp.objs.size), g, dr, tk, os⟩) T (X.keeps k) (hlim.keeps k) hget hnx ?_ fun h' tk' dx ⟨k', hx, dn, dne, hns⟩ => ?_
  · show A.depth + 1 < recursionLimit
    exact hroom
  · have old : ∀ b o, hp.get? b = some o → h'.get? b = some o := fun b o e => k' b o (Nat.ne_of_lt (Nat.lt_succ_of_lt (Heap.lt_size e))) (k b o e)
    have z : hp.objs.size + 1 + 1 ≤ dx := by
      first
        | (simpa only [Heap.size_push] using dn)
        | exact dn
        | (have q := dn; rw [Heap.size_push, Heap.size_push] at q; exact q)
    exact ⟨rfl, hq h' tk' (hp.objs.size + 1) dx ⟨old, Nat.le_succ _, ⟨_, _, hx, rfl, rfl, rfl, rfl⟩, Nat.le_trans (Nat.le_trans (Nat.le_succ _) (Nat.le_succ _)) z, dne, hns⟩⟩
end
end LowX
end PySem
namespace Sh
open PySem PySem.Spec PyProof.Rows L2
theorem relO_low {v : V} {v' : Value} (r : RelV v v') (f : Str) : RelO (List.lookup f [(("what" : Str), v)]) (if f = "what" then some v' else none) := by
  by_cases hw : f = "what"
  · subst hw
    rw [if_pos rfl]
    have q : List.lookup ("what" : Str) [(("what" : Str), v)] = some v := by simp [List.lookup]
    rw [q]
    exact r
  · rw [if_neg hw]
    have qw : (f == ("what" : Str)) = false := by simpa using hw
    have q2 : List.lookup f [(("what" : Str), v)] = none := by simp [List.lookup, qw]
    rw [q2]
    trivial
section
variable {X : Cx} {nx : Str} {C fI : Addr}
/-- Low(e) -/
def tMkLow (C : Addr) (ta : TA) : L2.St → Hp → XK → Prop := fun σ H Q => ta σ H fun vs H1 => ∃ v, vs = [v] ∧ ∀ d, H1 d = none → Q (.ref C) (some d) (upd H1 d (.xd [(("what" : Str), v)]))
theorem pmk_low {a : Expr} {ta : TA} {p pos : Pos} {k : Nat} (T : PySem.LowX.LowTxt X.K X.mg nx C fI) (hr : Room k X.A) (ha : PA X [a] ta) (hg : Gl X nx := by rfl) (hdb : (nx == ("__debug__" : Str)) = false := by decide)
    (he : starEach (a :: []) X.env = (false, eval a X.env) :: starEach [] X.env := by rfl) (hpl : (backTo pos (starEach [] X.env)).any (·.1) = false := by rfl) :
    PMk X (.Call (.Name nx p) [a] [] pos) (tMkLow C ta) := by
  intro pins s σ H Q I h
  refine wpAny_Call_Name_kw (ld_glob I hg T.gC ?_ hdb)
  refine PySem.W.callWith_K (h₀ := X.base) I.ok.mod.kin T.kC (thn (ha.run pos pins s σ H _ I h) fun us s1 hh => ?_) he hpl
  obtain ⟨vs, H1, I1, r1, v, ev, q1⟩ := hh
  subst ev
  refine ⟨I1.kIn, ?_⟩
  cases r1 with
  | cons rv rn =>
    rename_i v' us'
    cases rn
    show wpAny _ _ (call (.ref C) [v']) _ _ _
    have hlim := I1.nolimit
    obtain ⟨hp, g, dr, tk, os⟩ := s1
    refine wpAny_call (PySem.LowX.low_made T I1.kIn hlim (by have := hr.dp; omega) fun h' tk' e d M => ?_)
    show MkP X pins σ Q (.ref e) ⟨h', g, dr, tk', os⟩
    obtain ⟨oe, fv, hoe, hc, hd, hdat, h1⟩ := M.obj
    have hns := M.ns
    obtain ⟨G', g1, g2⟩ := restrict h' fun b => decide (b ≠ e)
    have gk : ∀ b, b ≠ e → G'.get? b = h'.get? b := fun b hb => g1 b (decide_eq_true hb)
    have ge : G'.get? e = none := g2 e (by simp)
    have old : ∀ b o, hp.get? b = some o → G'.get? b = some o := fun b o q => (gk b (Nat.ne_of_lt (Nat.lt_of_lt_of_le (Heap.lt_size q) M.new))).trans (M.keep b o q)
    have ob : ObjOk X.prog X.w (upd H1 d (.xd [(("what" : Str), v)])) G' d (.xd [(("what" : Str), v)]) :=
      ⟨_, hns.at (fun o q => (gk d M.dne).trans q), fun f => relO_low rv f⟩
    have J : Inv X pins σ (upd H1 d (.xd [(("what" : Str), v)])) ⟨G', g, dr, tk', os⟩ := I1.laid (t' := tk') old M.dbig ob
    refine ⟨e, oe, fv, ⟨G', g, dr, tk', os⟩, _, .ref C, some d, rfl, J, fun b o q => ?_, ge, hoe, ⟨hc, hd⟩, hdat, h1, ?_, rfl, I1.bare, raises_own T.exC T.tyC, q1 d (I1.hok.fresh M.dbig)⟩
    · by_cases hb : b = e
      · have q' : G'.get? b = some o := q
        rw [hb, ge] at q'; cases q'
      · exact (gk b hb).symm.trans q
    · rw [upd_ne (Ne.symm M.dne)]
      exact I1.hok.fresh M.new
/-- raise Low(e) -/
def tRaiseLow (C : Addr) (W : WX) (ta : TA) : TS := fun _ σ H => tMkLow C ta σ H fun cls d H' => W cls d σ H'
theorem ps_raiseLow {a : Expr} {ta : TA} {W : WX} {p pos pos2 : Pos} {k : Nat} (hc : X.calm = true) (T : PySem.LowX.LowTxt X.K X.mg nx C fI) (hr : Room k X.A) (tk : Takes X W) (ha : PA X [a] ta) (hg : Gl X nx := by rfl) (hdb : (nx == ("__debug__" : Str)) = false := by decide)
    (he : starEach (a :: []) X.env = (false, eval a X.env) :: starEach [] X.env := by rfl) (hpl : (backTo pos (starEach [] X.env)).any (·.1) = false := by rfl) :
    PS X (.Raise (some (.Call (.Name nx p) [a] [] pos)) none pos2) (tRaiseLow C W ta) := ps_raise hc tk (pmk_low T hr ha hg hdb he hpl)
/-- low.by, low the exception that the suite holds (at a; its class cls, its dict d) -/
def tByLow (C : Addr) (a : Addr) (cls : Value) (d : Option Addr) (te : TE) : TE := fun σ H Q => te σ H fun x H1 => x = .ref a ∧ cls = .ref C ∧ ∃ (dd : Addr) (v : V), d = some dd ∧ H1 dd = some (.xd [(("what" : Str), v)]) ∧ Q v H1
theorem pe_byLow {a : Addr} {oe : Obj} {cls : Value} {d : Option Addr} {pn : List (Addr × Obj)} {e : Expr} {te : TE} {pos : Pos} (T : PySem.LowX.LowTxt X.K X.mg nx C fI) (hz : Zc cls d oe) (hf : ∃ vs, oe.data = .fields vs) (he : PE (X.suite a ((a, oe) :: pn)) e te)
    (hb : attributeBase e "what" X.env (eval e X.env) = eval e X.env := by rfl) :
    PE (X.suite a ((a, oe) :: pn)) (.Attribute e "what" pos) (tByLow C a cls d te) := by
  refine ⟨fun pins s σ H Q I h => ?_⟩
  refine attr_of hb (thn (he.run pins s σ H _ I h) fun u s1 hh => ?_)
  obtain ⟨x, H1, I1, rx, ex, ec, dd, v, ed, ea, q⟩ := hh
  subst ex
  obtain rfl : u = Value.ref a := rx
  subst ec
  subst ed
  obtain ⟨ha, _⟩ := I1.pin (a, oe) (List.mem_append_left _ List.mem_cons_self)
  obtain ⟨vs, hd⟩ := hf
  have hx : ObjOk X.prog X.w H1 s1.heap dd (.xd [(("what" : Str), v)]) := I1.hok dd _ ea
  obtain ⟨mA, hns, hr⟩ := hx
  obtain ⟨od, ho, hl⟩ := lookIn_ns hns
  have l : List.lookup ("what" : Str) [(("what" : Str), v)] = some v := by simp [List.lookup]
  obtain ⟨u, hu, ru⟩ := RelO.some_of (v := v) (o := mA "what") (by rw [← l]; exact hr "what")
  have J : PySem.W.InstAt s1.heap a oe C (some od) := ⟨ha, hz.1, by unfold PySem.W.notCls; rw [hd] <;> rfl, by rw [hz.2]; exact ho⟩
  exact HandSPX.exc_get I1.kIn J T.ga T.gg T.exC (PySem.W.findObj_own T.hdC T.noN rfl (by rw [hl, hu])) (handed_of ru) ⟨v, H1, I1.tok _, ru, q⟩
end
end Sh

set_option Elab.async false
set_option linter.all false
set_option maxRecDepth 100000
set_option autoImplicit false
namespace Sh
open PySem PySem.Spec PyProof.Rows L2
/-! ### own exceptions: raised -/
section
variable {X : Cx} {W : WX} {nx : Str} {C fI : Addr} {a : Expr} {te : TE} {me : EM}
def sRaise (c : Str) (me : EM) : SM := fun ρ S => (me ρ S).to ρ fun d S1 => .ex c d ρ S1
theorem es_raise {p pos pos2 : Pos} {k : Nat} (hc : X.calm = true) (T : PySem.LowX.LowTxt X.K X.mg nx C fI) (hr : Rm k X.A) (tk : Takes X W) (ha : Ee X W a te me) (hg : Gl X nx := by rfl) (hdb : (nx == ("__debug__" : Str)) = false := by decide)
    (he : starEach (a :: []) X.env = (false, eval a X.env) :: starEach [] X.env := by rfl) (hpl : (backTo pos (starEach [] X.env)).any (·.1) = false := by rfl) :
    Es X W (.Raise (some (.Call (.Name nx p) [a] [] pos)) none pos2) (tRaiseLow C W (tCons te tNil)) (sRaise nx me) :=
  ⟨ps_raiseLow hc T hr.room tk (ea_cons ha ea_nil he).der hg hdb he hpl, fun ι S H ρ σ E s r g => bindES ha.sim s r g fun d S1 ι1 H1 v e1 s1 r1 x g1 =>
    ⟨v, rfl, fun dd hd => g1 ι1 _ σ C dd v (Ext.new hd) (s1.lay hd) (r1.mono (Ext.new hd)) T.gC upd_same (x.mono (Ext.new hd))⟩⟩
end
/-! ### own exceptions: handled -/
/-- what is known in a suite: w is what the exception that is held holds -/
structure HC (K : PySem.W.Frag) (mg : Str → Option Value) (a : Addr) (cls : Value) (d : Option Addr) (slot : Option Nat) (ι : List Addr) (H : Hp) (σ : L2.St) (w : D) : Prop where
  ex : ∃ (c : Str) (C fI dd : Addr) (v : V), PySem.LowX.LowTxt K mg c C fI ∧ cls = .ref C ∧ d = some dd ∧ H dd = some (.xd [(("what" : Str), v)]) ∧ DR K mg ι H w v
  sl : ∀ i, slot = some i → σ[i]? = some (some (.ref a))
theorem HC.mono {K : PySem.W.Frag} {mg : Str → Option Value} {a : Addr} {cls : Value} {d : Option Addr} {slot : Option Nat} {ι ι' : List Addr} {H H' : Hp} {σ : L2.St} {w : D} (e : Ext ι H ι' H') (h : HC K mg a cls d slot ι H σ w) : HC K mg a cls d slot ι' H' σ w := by
  obtain ⟨⟨c, C, fI, dd, v, h1, h2, h3, h4, h5⟩, h6⟩ := h
  exact ⟨⟨c, C, fI, dd, v, h1, h2, h3, e.xd _ _ h4, h5.mono e⟩, h6⟩
structure EeH (X : Cx) (slot : Option Nat) (e : Expr) (h : D → EM) : Prop where
  go : ∀ (a : Addr) (oe : Obj) (cls : Value) (d : Option Addr) (pn : List (Addr × Obj)), Zc cls d oe → (∃ vs, oe.data = .fields vs) → ∃ t, PE (X.suite a ((a, oe) :: pn)) e t ∧
    ∀ ι S H ρ σ Q w, SR X.K X.mg ι S H → ER X.K X.mg ι H ρ σ → HC X.K X.mg a cls d slot ι H σ w → Good X.K X.mg WF ι H σ (QV X.K X.mg Q) (h w ρ S) → t σ H Q
structure EaH (X : Cx) (slot : Option Nat) (es : List Expr) (h : D → AM) : Prop where
  go : ∀ (a : Addr) (oe : Obj) (cls : Value) (d : Option Addr) (pn : List (Addr × Obj)), Zc cls d oe → (∃ vs, oe.data = .fields vs) → ∃ t, PA (X.suite a ((a, oe) :: pn)) es t ∧
    ∀ ι S H ρ σ Q w, SR X.K X.mg ι S H → ER X.K X.mg ι H ρ σ → HC X.K X.mg a cls d slot ι H σ w → Good X.K X.mg WF ι H σ (QA X.K X.mg Q) (h w ρ S) → t σ H Q
structure Eh (X : Cx) (slot : Option Nat) (st : List Stmt) (h : D → SM) : Prop where
  go : ∀ (a : Addr) (oe : Obj) (cls : Value) (d : Option Addr) (pn : List (Addr × Obj)), Zc cls d oe → (∃ vs, oe.data = .fields vs) → ∃ t, PSs (X.suite a ((a, oe) :: pn)) st t ∧
    ∀ ι S H ρ σ E w, SR X.K X.mg ι S H → ER X.K X.mg ι H ρ σ → HC X.K X.mg a cls d slot ι H σ w → GoodS X.K X.mg WF ι H E (h w ρ S) → t E σ H
section
variable {X : Cx} {slot : Option Nat} {e : Expr} {es : List Expr} {st : List Stmt} {h : D → EM} {ha : D → AM} {pos : Pos}
theorem eh_lift {t : Addr → List (Addr × Obj) → TE} {m : EM} (k : ∀ a pn, Ee (X.suite a pn) WF e (t a pn) m) : EeH X slot e (fun _ => m) :=
  ⟨fun a oe cls d pn _ _ => ⟨_, (k a _).der, fun ι S H ρ σ Q w s r _ g => (k a ((a, oe) :: pn)).sim ι S H ρ σ Q s r g⟩⟩
theorem hs_lift {t : Addr → List (Addr × Obj) → TS} {m : SM} (k : ∀ a pn, Ess (X.suite a pn) WF st (t a pn) m) : Eh X slot st (fun _ => m) :=
  ⟨fun a oe cls d pn _ _ => ⟨_, (k a _).der, fun ι S H ρ σ Q w s r _ g => (k a ((a, oe) :: pn)).sim ι S H ρ σ Q s r g⟩⟩
theorem eh_what {i : Nat} {n : Str} {p : Pos} (hN : X.N[i]? = some n := by rfl) (hv : Vis X.env.scope n := by first | exact Or.inl rfl | exact Or.inr (Or.inl rfl) | exact Or.inr (Or.inr rfl)) (hd : (n == ("__debug__" : Str)) = false := by decide)
    (hcd : (n == ("__classdict__" : Str)) = false := by decide) (hb : attributeBase (.Name n p) "what" X.env (eval (.Name n p) X.env) = eval (.Name n p) X.env := by rfl) : EeH X (some i) (.Attribute (.Name n p) "what" pos) (fun w => eLit w) := by
  refine ⟨fun a oe cls d pn hz hf => ⟨fun σ H Q => ∃ c C fI, PySem.LowX.LowTxt X.K X.mg c C fI ∧ tByLow C a cls d (tVar i) σ H Q, ⟨fun pins s σ H Q I hq => ?_⟩, fun ι S H ρ σ Q w s r hc g => ?_⟩⟩
  · obtain ⟨c, C, fI, T, q⟩ := hq
    have der : PE (X.suite a ((a, oe) :: pn)) (.Name n p) (tVar i) := pe_var hN hv hd hcd
    exact (pe_byLow (X := X) T hz hf der hb).run pins s σ H Q I q
  · obtain ⟨⟨c, C, fI, dd, v, T, h2, h3, h4, h5⟩, h6⟩ := hc
    exact ⟨c, C, fI, T, _, h6 i rfl, rfl, h2, dd, v, h3, h4, g.now s v h5⟩
theorem eah_nil : EaH X slot [] (fun _ => aNil) := ⟨fun a oe cls d pn _ _ => ⟨_, pa_nil, fun ι S H ρ σ Q w s r _ g => g.now s [] .nil⟩⟩
theorem GoodR.of {α β : Type} {K : PySem.W.Frag} {mg : Str → Option Value} {W : WX} {ι : List Addr} {H : Hp} {σ : L2.St} {P : β → List Addr → Hp → Prop} {r : R α} {k : α → Sto → R β} (g : Good K mg W ι H σ P (r.bind k)) {P' : α → List Addr → Hp → Prop}
    (h : ∀ d S1, r = .ok d S1 → ∀ ι' H', Ext ι H ι' H' → SR K mg ι' S1 H' → P' d ι' H') : Good K mg W ι H σ P' r := by
  cases q : r with
  | ok d S1 => exact fun ι' H' e s => h d S1 q ι' H' e s
  | ex c w S1 => rw [q] at g; exact g
  | no => rw [q] at g; exact g.elim
theorem eah_cons (h1 : EeH X slot e h) (h2 : EaH X slot es ha) (hs : starEach (e :: es) X.env = (false, eval e X.env) :: starEach es X.env := by rfl) : EaH X slot (e :: es) (fun w => aCons (h w) (ha w)) :=
  ⟨fun a oe cls d pn hz hf => by
    obtain ⟨t1, d1, s1⟩ := h1.go a oe cls d pn hz hf
    obtain ⟨t2, d2, s2⟩ := h2.go a oe cls d pn hz hf
    refine ⟨_, pa_cons d1 d2 hs, fun ι S H ρ σ Q w s r hc g => s1 ι S H ρ σ _ w s r hc (GoodR.of g fun d S1 q ι1 H1 e1 sr1 v x => ?_)⟩
    refine s2 ι1 S1 H1 ρ σ _ w sr1 (r.mono e1) (hc.mono e1) (GoodR.of (P := QA X.K X.mg Q) (k := fun ds S2 => .ok (d :: ds) S2) ?_ fun ds S2 q2 ι2 H2 e2 sr2 vs xs => ?_)
    · have g' := Good.mono e1 g
      simp only [aCons, q, R.bind] at g'
      exact g'
    · have g' := Good.mono (e1.trans e2) g
      simp only [aCons, q, q2, R.bind] at g'
      exact g'.now sr2 _ (.cons (x.mono e2) xs)⟩
theorem eh_tup {k : Nat} (h1 : EaH X slot es ha) : EeH X slot (.Tuple es k pos) (fun w => eTup (ha w)) :=
  ⟨fun a oe cls d pn hz hf => by
    obtain ⟨t1, d1, s1⟩ := h1.go a oe cls d pn hz hf
    refine ⟨_, pe_tup d1, fun ι S H ρ σ Q w s r hc g => s1 ι S H ρ σ _ w s r hc (GoodR.of g fun ds S1 q ι1 H1 e1 sr1 vs x => ?_)⟩
    have g' := Good.mono e1 g
    simp only [eTup, q, R.bind] at g'
    split at g'
    · rename_i hl
      refine ⟨by rw [szl, ← x.length]; exact hl, fun p hp => ?_⟩
      exact g' ι1 _ (Ext.new hp) (sr1.lay hp) _ (.tup upd_same (x.mono (Ext.new hp)))
    · exact g'.elim⟩
theorem eh_lst (h1 : EaH X slot es ha) : EeH X slot (.List es pos) (fun w => eLst (ha w)) :=
  ⟨fun a oe cls d pn hz hf => by
    obtain ⟨t1, d1, s1⟩ := h1.go a oe cls d pn hz hf
    refine ⟨_, pe_lst d1, fun ι S H ρ σ Q w s r hc g => s1 ι S H ρ σ _ w s r hc (GoodR.of g fun ds S1 q ι1 H1 e1 sr1 vs x => ?_)⟩
    have g' := Good.mono e1 g
    simp only [eLst, q, R.bind] at g'
    split at g'
    · rename_i hl
      refine ⟨by rw [szl, ← x.length]; exact hl, fun p hp => ?_⟩
      exact g' (ι1 ++ [p]) _ (Ext.newI hp) (sr1.push hp (.lst (x.mono (Ext.newI hp)))) _ (.obj sr1.last)
    · exact g'.elim⟩
theorem hs_ret (h1 : EeH X slot e h) : Eh X slot [.Return (some e) pos] (fun w => sRet (h w)) :=
  ⟨fun a oe cls d pn hz hf => by
    obtain ⟨t1, d1, s1⟩ := h1.go a oe cls d pn hz hf
    refine ⟨_, pss_one (ps_ret d1), fun ι S H ρ σ E w s r hc g => s1 ι S H ρ σ _ w s r hc ?_⟩
    unfold sRet at g
    cases q : h w ρ S with
    | ok d S1 => rw [q] at g; exact fun ι' H' e s v x => g ι' H' v e s x
    | ex c w' S1 =>
      rw [q] at g
      intro ι' H' σ' C dd v e s z h1 h2 h3
      subst z
      exact g ι' H' σ' C dd v e s (r.mono e) h1 h2 h3
    | no => rw [q] at g; exact g.elim⟩
end
/-! ### the clauses -/
structure Hm where
  yes : List Str
  slot : Option Nat
  run : D → SM
def off (i : Option Nat) (ρ : Env) : Env := match i with
  | none => ρ
  | some i => ρ.set i none
def clr (i : Option Nat) (r : RS) : RS := match r with
  | .nx ρ S => .nx (off i ρ) S
  | .bk ρ S => .bk (off i ρ) S
  | .ct ρ S => .ct (off i ρ) S
  | .rt d S => .rt d S
  | .ex _ _ _ _ => .no
  | .no => .no
def hGo (c : Str) (w : D) (ρ : Env) (S : Sto) : List Hm → RS
  | [] => .ex c w ρ S
  | h :: hs => if c ∈ h.yes then clr h.slot (h.run w (off h.slot ρ) S) else hGo c w ρ S hs
def sTry (all : List Str) (m : SM) (hs : List Hm) : SM := fun ρ S => match m ρ S with
  | .ex c w ρ' S' => if c ∈ all then hGo c w ρ' S' hs else .no
  | r => r
def SlotOk (X : Cx) (nm : Option Str) (slot : Option Nat) : Prop := (nm = none ∧ slot = none) ∨ ∃ n i, nm = some n ∧ slot = some i ∧ X.N[i]? = some n ∧ X.env.kindOf n = some .local
inductive HdsM (X : Cx) (all : List Str) : List ExceptHandler → List Hm → Prop
  | nil : HdsM X all [] []
  | cons {x : Str} {c2 : Value} {yes : List Str} {nm : Option Str} {slot : Option Nat} {h : D → SM} {b₀ : Stmt} {suite : List Stmt} {np pos' : Pos} {hds : List ExceptHandler} {l : List Hm} (hc : Names X x c2)
      (hy : ∀ c ∈ all, ∀ C : Addr, X.mg c = some (.ref C) → PySem.W.exmOne X.K (.ref C) c2 = some (decide (c ∈ yes))) (hs : SlotOk X nm slot) (hsu : Eh X slot (b₀ :: suite) h) (r : HdsM X all hds l) :
      HdsM X all (.ExceptHandler (some (.Name x np)) nm (b₀ :: suite) pos' :: hds) (⟨yes, slot, h⟩ :: l)
/-- what the clauses wish of an exception of the body -/
def wSem (K : PySem.W.Frag) (mg : Str → Option Value) (all : List Str) (hm : List Hm) (W : WX) (E : Ends) : WX := fun cls d σ H =>
  ∃ (c : Str) (w : D) (ι : List Addr) (S : Sto) (ρ : Env) (C dd : Addr) (v : V), c ∈ all ∧ mg c = some (.ref C) ∧ cls = .ref C ∧ d = some dd ∧ SR K mg ι S H ∧ ER K mg ι H ρ σ ∧ H dd = some (.xd [(("what" : Str), v)]) ∧ DR K mg ι H w v ∧ GoodS K mg W ι H E (hGo c w ρ S hm)
def tTry (K : PySem.W.Frag) (mg : Str → Option Value) (all : List Str) (m : SM) (hm : List Hm) (W : WX) : TS := fun E σ H =>
  ∃ ι S ρ, SR K mg ι S H ∧ ER K mg ι H ρ σ ∧ GoodS K mg (wSem K mg all hm W E) ι H E (m ρ S)
theorem sim_try {K : PySem.W.Frag} {mg : Str → Option Value} {all : List Str} {m : SM} {hm : List Hm} {W : WX} : SimS K mg W (tTry K mg all m hm W) (sTry all m hm) := fun ι S H ρ σ E s r g => by
  refine ⟨ι, S, ρ, s, r, ?_⟩
  unfold sTry at g
  cases q : m ρ S with
  | ex c w ρ' S' =>
    rw [q] at g
    simp only at g
    split at g
    · rename_i hc
      exact fun ι' H' σ' C dd v e s' r' h1 h2 h3 => ⟨c, w, ι', S', ρ', C, dd, v, hc, h1, rfl, rfl, s', r', h2, h3, GoodS.mono e g⟩
    · exact g.elim
  | nx ρ' S' => rw [q] at g; exact g
  | rt d S' => rw [q] at g; exact g
  | bk ρ' S' => rw [q] at g; exact g
  | ct ρ' S' => rw [q] at g; exact g
  | no => rw [q] at g; exact g.elim
theorem GoodS.clr0 {K : PySem.W.Frag} {mg : Str → Option Value} {W : WX} {ι : List Addr} {H : Hp} {E : Ends} {r : RS} (g : GoodS K mg W ι H E (clr none r)) : GoodS K mg WF ι H E r := by
  cases r with
  | ex c w ρ S => exact g.elim
  | nx ρ S => exact g
  | rt d S => exact g
  | bk ρ S => exact g
  | ct ρ S => exact g
  | no => exact g
theorem GoodS.clr1 {K : PySem.W.Frag} {mg : Str → Option Value} {W : WX} {ι : List Addr} {H : Hp} {E : Ends} {i : Nat} {r : RS} (g : GoodS K mg W ι H E (clr (some i) r)) : GoodS K mg WF ι H { nx := fun σ' H' => E.nx (σ'.set i none) H', rt := E.rt, bk := fun σ' H' => E.bk (σ'.set i none) H', ct := fun σ' H' => E.ct (σ'.set i none) H' } r := by
  cases r with
  | ex c w ρ S => exact g.elim
  | nx ρ S => exact fun ι' H' σ' e s r => g ι' H' _ e s (r.unset i none)
  | rt d S => exact g
  | bk ρ S => exact fun ι' H' σ' e s r => g ι' H' _ e s (r.unset i none)
  | ct ρ S => exact fun ι' H' σ' e s r => g ι' H' _ e s (r.unset i none)
  | no => exact g
theorem ER.off {K : PySem.W.Frag} {mg : Str → Option Value} {ι : List Addr} {H : Hp} {ρ : Env} {σ : L2.St} (r : ER K mg ι H ρ σ) (i : Nat) (y : Option V) : ER K mg ι H (Sh.off (some i) ρ) (σ.set i y) := r.unset i y
section
variable {X : Cx} {W : WX} {body : List Stmt} {h₀ : ExceptHandler} {hds : List ExceptHandler} {pos : Pos} {m : SM} {all : List Str} {hm : List Hm}
theorem ps_tryM (hs : X.stack = X.env :: X.outer) (hf : X.env.frame = some X.env.locals) (hN : X.N.Nodup) (tk : Takes X W) (LT : ∀ c ∈ all, ∃ C fI, PySem.LowX.LowTxt X.K X.mg c C fI)
    (hb : ∀ (W' : WX) (pn : List (Addr × Obj)) (xe : Value → Shared → Prop), Takes (X.tr pn xe) W' → PassesOwn (model X.prog X.w) X.A X.env xe → ∃ t, Ess (X.tr pn xe) W' body t m)
    (hh : HdsM X all (h₀ :: hds) hm) : PS X (.Try body (h₀ :: hds) [] [] pos) (tTry X.K X.mg all m hm W) := by
  refine ⟨fun pins s σ H E I h => ?_⟩
  obtain ⟨ι0, S0, ρ0, s0, r0, g0⟩ := h
  have ok := I.ok
  have hfr : X.A.frames = some (X.env :: X.outer) := by rw [ok.frames, hs]
  have tkB : Takes (X.tr (X.pn ++ pins) (fun e s₁ => wpAny (model X.prog X.w) X.A (noteFrame e X.env) (fun _ s₂ => wpAny (model X.prog X.w) X.A (setFlight e none) (fun _ s₃ =>
    wpAny (model X.prog X.w) X.A (handleBy e X.env (h₀ :: hds)) (SP X pins E) X.xe s₃) X.xe s₂) X.xe s₁)) (wSem X.K X.mg all hm W E) := by
    intro u s' xx
    obtain ⟨a, B, sI, pins', σ', H', cls, d, rfl, J', nb, up, sky, na, os, ag, w⟩ := xx
    have J : Inv X pins σ' H' sI := J'.ofTry ok
    have sky' : Sky B (X.env :: X.outer) a (Zc cls d) X.env.locals s'.heap := by rw [← hs]; exact sky
    show wpAny (model X.prog X.w) X.A (noteFrame (.ref a) X.env) _ _ _
    refine Sky.land Zc.steady hfr hf sky' fun h3 fl3 up3 => ?_
    have J3 : Inv X pins σ' H' { s' with heap := h3 } := J.landed nb fl3.1 (up.trans up3) os ag
    obtain ⟨oe3, vs3, he3, hz3, hd3⟩ := fl3.there
    have notFr : ∀ {h : Heap} {o : Obj} {vs : Array Value}, h.FunFrames B (X.env :: X.outer) → h.get? a = some o → o.data = .fields vs → a ∉ frs (X.env :: X.outer) := fun {h o vs} ff e dd hm => by
      obtain ⟨_, o', e', hnf⟩ := ff.mem hm
      rw [e] at e'; cases e'
      exact hnf _ dd
    have nfr := notFr fl3.2.2.1 he3 hd3
    have nL : a ≠ X.env.locals := fun z => nfr (List.mem_filterMap.mpr ⟨X.env, List.mem_cons_self, by rw [hf, z]⟩)
    have nF : a ∉ X.fs := fun hm => by
      obtain ⟨e, he, q⟩ := List.mem_filterMap.mp hm
      exact nfr (List.mem_filterMap.mpr ⟨e, List.mem_cons_of_mem _ he, q⟩)
    have S3 := J3.suite he3 hd3 na nL nF
    obtain ⟨c, w, ι, S, ρ, C, dd, v, hcA, hmg, hcls, hdd, sr, er, hxd, hw, hg⟩ := w
    have go : ∀ {hds' : List ExceptHandler} {l' : List Hm}, HdsM X all hds' l' → GoodS X.K X.mg W ι H' E (hGo c w ρ S l') →
        wpAny (model X.prog X.w) X.A (handleBy (.ref a) X.env hds') (SP X pins E) X.xe { s' with heap := h3 } := by
      intro hds' l' hk
      induction hk with
      | nil =>
        intro w
        refine wpAny_handleBy_nil ?_
        obtain ⟨k1, k2, k3, oe, vs, T, oT, ts', he, hz, hd, h1, hr⟩ := id fl3
        unfold PySem.passOn
        refine wpAny_bind (wpAny_field he hd h1 ?_)
        rw [if_neg (show ¬ ((Value.ref T == Value.none) = true) from by simp)]
        have fin : wpAny (model X.prog X.w) X.A (setFlight (.ref a) X.env.frame) (fun _ s4 => wpAny (model X.prog X.w) X.A (throw (.ref a) : Sem Flow) (SP X pins E) X.xe s4) X.xe { s' with heap := h3 } := by
          rw [hf]
          refine HandSPX.setFlight_upZ fl3 fun h4 hh4 up4 => wpAny_throw (tk _ _ ?_)
          refine ⟨a, B, sI, pins, σ', H', cls, d, rfl, J, nb, (up.trans up3).trans up4, .inr (.inr (by rw [hs]; exact hh4)), na, os, ag, ?_⟩
          rw [hcls, hdd]
          exact w ι H' σ' C dd v (Ext.refl _ _) sr er hmg hxd hw
        first
          | exact wpAny_bind (wpAny_pure (wpAny_bind fin))
          | exact wpAny_bind fin
      | @cons x c2 yes nm slot h b₀ suite np pos' hds2 l2 hc hy hsl hsu r ih =>
        intro w'
        refine wpAny_handleBy_cons (codeAny_handlers_test ?_) (by intro q; cases q)
        have LT3 : PySem.W.Looks (model X.prog X.w) h3 (typeOf (.ref a)) cls := fun A Q E s k q => wpAny_typeOf_ref (k _ _ he3) (by rw [hz3.1]; exact q)
        have hb1 : PySem.W.exmOne X.K cls c2 = some (decide (c ∈ yes)) := by rw [hcls]; exact hy c hcA C hmg
        have LM := PySem.W.exm_one (M := model X.prog X.w) (J3.kIn) LT3 hb1
        have test : ∀ {Q : Value → Shared → Prop} {E : Value → Shared → Prop}, Q c2 { s' with heap := h3 } → wpAny (model X.prog X.w) (X.A.mark (some (.ref a))) (eval (.Name x np) X.env) Q E { s' with heap := h3 } := fun {Q E} q => by
          obtain ⟨hg, hdbg, hm | ⟨hm, hv, hnn⟩⟩ := hc
          · exact ld_glob (X := X.suite a ((a, oe3) :: (X.pn ++ pins))) S3 hg hm q hdbg
          · exact ld_blt (X := X.suite a ((a, oe3) :: (X.pn ++ pins))) S3 hg hm hv q hnn hdbg
        refine test (LM.here ?_)
        obtain ⟨C2, fI, TL⟩ := LT c hcA
        have eC : C2 = C := by have := TL.gC.symm.trans hmg; cases this; rfl
        subst eC
        unfold hGo at w'
        by_cases hin : c ∈ yes
        · rw [decide_eq_true hin]
          simp only [hin, if_true] at w'
          rcases hsl with ⟨rfl, rfl⟩ | ⟨n, i, rfl, rfl, hi, hln⟩
          · refine codeAny_handlers_suite ?_
            refine HandSPX.lands_againZ fl3 fun h4 fl4 up4 => ?_
            have J4 : Inv X pins σ' H' { s' with heap := h4 } := J.landed nb fl4.1 ((up.trans up3).trans up4) os ag
            obtain ⟨oe4, vs4, he4, hz4, hd4⟩ := fl4.there
            have S4 := J4.suite he4 hd4 na nL nF
            obtain ⟨t, td, ts⟩ := hsu.go a oe4 cls d (X.pn ++ pins) hz4 ⟨_, hd4⟩
            refine wpAny_mono (td.run [] _ _ H' E S4 (ts ι S H' ρ σ' E w sr er ⟨⟨c, C2, fI, dd, v, TL, hcls, hdd, hxd, hw⟩, fun i z => by cases z⟩ w'.clr0)) (fun f s6 hsp => ?_) (fun _ _ z => False.elim z)
            · cases f with
              | next =>
                obtain ⟨σ6, H6, S6, q6⟩ := hsp
                exact ⟨_, _, S6.unsuite ok, q6⟩
              | brk =>
                obtain ⟨σ6, H6, S6, q6⟩ := hsp
                exact ⟨_, _, S6.unsuite ok, q6⟩
              | cont =>
                obtain ⟨σ6, H6, S6, q6⟩ := hsp
                exact ⟨_, _, S6.unsuite ok, q6⟩
              | ret u =>
                obtain ⟨v6, σ6, H6, S6, r6, q6⟩ := hsp
                exact ⟨_, _, _, S6.unsuite ok, r6, q6⟩
          · have hloc : Loc X.env.scope n := .inl hln
            refine codeAny_handlers_suite_as ?_
            refine HandSPX.lands_againZ fl3 fun h4 fl4 up4 => ?_
            have J4 : Inv X pins σ' H' { s' with heap := h4 } := J.landed nb fl4.1 ((up.trans up3).trans up4) os ag
            obtain ⟨oe4, vs4, he4, hz4, hd4⟩ := fl4.there
            have S4 := J4.suite he4 hd4 na nL nF
            refine store_ok (X := X.suite a ((a, oe4) :: (X.pn ++ pins))) (v := .ref a) S4 hN hi hloc rfl (fun s5 S5 => ?_) (.inr hln)
            obtain ⟨t, td, ts⟩ := hsu.go a oe4 cls d (X.pn ++ pins) hz4 ⟨_, hd4⟩
            have hlt : i < σ'.length := by rw [J.len]; exact (List.getElem?_eq_some_iff.mp hi).1
            refine wpAny_mono (td.run [] s5 _ H' _ S5 (ts ι S H' _ (σ'.set i (some (.ref a))) _ w sr (er.off i _) ⟨⟨c, C2, fI, dd, v, TL, hcls, hdd, hxd, hw⟩, fun j z => by cases z; exact List.getElem?_set_self hlt⟩ w'.clr1)) (fun f s6 hsp => ?_) (fun _ _ z => False.elim z)
            have end_ : ∀ {σ6 : L2.St} {H6 : Hp} {Q : Shared → Prop}, Inv (X.suite a ((a, oe4) :: (X.pn ++ pins))) [] σ6 H6 s6 → (∀ s7, Inv X pins (σ6.set i none) H6 s7 → Q s7) →
                wpAny (model X.prog X.w) X.A (do bindName X.env n .none; unbindBehindTheSuite X.env n pos') (fun _ s7 => Q s7) X.xe s6 := fun {σ6 H6 Q} S6 hq => gone_ok (S6.unsuite ok) hN hi hln hq
            cases f with
            | next =>
              obtain ⟨σ6, H6, S6, q6⟩ := hsp
              exact end_ S6 fun s7 J7 => ⟨_, _, J7, q6⟩
            | brk =>
              obtain ⟨σ6, H6, S6, q6⟩ := hsp
              exact end_ S6 fun s7 J7 => ⟨_, _, J7, q6⟩
            | cont =>
              obtain ⟨σ6, H6, S6, q6⟩ := hsp
              exact end_ S6 fun s7 J7 => ⟨_, _, J7, q6⟩
            | ret u =>
              obtain ⟨v6, σ6, H6, S6, r6, q6⟩ := hsp
              exact end_ S6 fun s7 J7 => ⟨_, _, _, J7, r6, q6⟩
        · rw [decide_eq_false hin]
          simp only [hin, if_false] at w'
          show wpAny _ X.A (handleBy (.ref a) X.env hds2) _ _ _
          exact ih w'
    exact go hh hg
  obtain ⟨tB, eB⟩ := hb (wSem X.K X.mg all hm W E) (X.pn ++ pins) _ tkB PassesOwn.looking
  refine wpAny_Try_except ?_
  refine wpAny_mono (eB.der.run [] s σ H E (I.toTry _) (eB.sim ι0 S0 H ρ0 σ E s0 r0 g0)) (fun f s1 hsp => ?_) (fun e s1 he => he)
  cases f with
  | next =>
    obtain ⟨σ', H', J', q⟩ := hsp
    exact wpAny_execs_nil ⟨σ', H', J'.ofTry ok, q⟩
  | brk =>
    obtain ⟨σ', H', J', q⟩ := hsp
    exact ⟨σ', H', J'.ofTry ok, q⟩
  | cont =>
    obtain ⟨σ', H', J', q⟩ := hsp
    exact ⟨σ', H', J'.ofTry ok, q⟩
  | ret u =>
    obtain ⟨v, σ', H', J', r, q⟩ := hsp
    exact ⟨v, σ', H', J'.ofTry ok, r, q⟩
theorem es_try (hs : X.stack = X.env :: X.outer) (hf : X.env.frame = some X.env.locals) (hN : X.N.Nodup) (tk : Takes X W) (LT : ∀ c ∈ all, ∃ C fI, PySem.LowX.LowTxt X.K X.mg c C fI)
    (hb : ∀ (W' : WX) (pn : List (Addr × Obj)) (xe : Value → Shared → Prop), Takes (X.tr pn xe) W' → PassesOwn (model X.prog X.w) X.A X.env xe → ∃ t, Ess (X.tr pn xe) W' body t m)
    (hh : HdsM X all (h₀ :: hds) hm) : Es X W (.Try body (h₀ :: hds) [] [] pos) (tTry X.K X.mg all m hm W) (sTry all m hm) := ⟨ps_tryM hs hf hN tk LT hb hh, sim_try⟩
end
end Sh

set_option Elab.async false
set_option linter.all false
set_option maxRecDepth 100000
set_option autoImplicit false
namespace Sh
open PySem PySem.Spec PyProof.Rows L2
/-! ### a dict of the module, text keys; known by its name -/
structure KD (K : PySem.W.Frag) (mg : Str → Option Value) (w : World) (nm : Str) (kvs : List (Str × D)) : Prop where
  ex : ∃ (a : Addr) (es : Array DictEntry) (n : Nat), mg nm = some (.ref a) ∧ KDict K w a es n ∧
    ∀ z, (kvs.lookup z = none ∧ PySem.W.nsIn K a z = some none) ∨ ∃ d u v, kvs.lookup z = some d ∧ PySem.W.nsIn K a z = some (some u) ∧ RelV v u ∧ ∀ ι H, DR K mg ι H d v
section
variable {X : Cx} {W : WX} {nm : Str} {kvs : List (Str × D)} {a b : Expr} {pos p : Pos} {ta tb : TE} {ma mb : EM}
def rInKd (X : Cx) (neg : Bool) : R2 := fun x y H Q => ∃ (z : Str) (d : Addr) (es : Array DictEntry) (n : Nat) (r : Option Value), x = .str z ∧ y = .ref d ∧ KDict X.K X.w d es n ∧ PySem.W.nsIn X.K d z = some r ∧ Q (.bl (if neg = true then !r.isSome else r.isSome)) H
def dInK (neg : Bool) (nm : Str) (kvs : List (Str × D)) : D → D → Sto → R D := fun x y S => match x, y with
  | .str z, .fn n => if n = nm then .ok (.bl (if neg = true then !(kvs.lookup z).isSome else (kvs.lookup z).isSome)) S else .no
  | _, _ => .no
theorem sim_inK (neg : Bool) (kd : KD X.K X.mg X.w nm kvs) : ∀ ι S H σ (x y : V) (d e : D) (Q : VK), SR X.K X.mg ι S H → DR X.K X.mg ι H d x → DR X.K X.mg ι H e y → Good X.K X.mg W ι H σ (QV X.K X.mg Q) (dInK neg nm kvs d e S) → rInKd X neg x y H Q := by
  intro ι S H σ x y d e Q s hx hy g
  unfold dInK at g
  split at g
  · rename_i z n
    split at g
    · rename_i hn
      subst hn
      obtain ⟨a, es, c, h1, h2, h3⟩ := kd.ex
      cases hx
      cases hy with
      | fn h =>
      rw [h1] at h; cases h
      rcases h3 z with ⟨q1, q2⟩ | ⟨d, u, v, q1, q2, _⟩
      · exact ⟨z, a, es, c, none, rfl, rfl, h2, q2, by rw [q1] at g; exact g.now s _ (.bl _)⟩
      · exact ⟨z, a, es, c, some u, rfl, rfl, h2, q2, by rw [q1] at g; exact g.now s _ (.bl _)⟩
    · exact g.elim
  · exact g.elim
theorem os_inK (kd : KD X.K X.mg X.w nm kvs) : OpS X W (compareOp .In) (rInKd X false) (dInK false nm kvs) :=
  ⟨fun pins s σ H x y v u Q I rx ry h => by
    obtain ⟨z, d, es, n, r, e1, e2, D, q1, q2⟩ := h
    exact op_in_kd D pins s σ H x y v u Q I rx ry ⟨z, r, e1, e2, q1, q2⟩, sim_inK false kd⟩
theorem os_notinK (kd : KD X.K X.mg X.w nm kvs) : OpS X W (compareOp .NotIn) (rInKd X true) (dInK true nm kvs) :=
  ⟨fun pins s σ H x y v u Q I rx ry h => by
    obtain ⟨z, d, es, n, r, e1, e2, D, q1, q2⟩ := h
    exact op_notIn_kd D pins s σ H x y v u Q I rx ry ⟨z, r, e1, e2, q1, q2⟩, sim_inK true kd⟩
def dIxK (nm : Str) (kvs : List (Str × D)) : D → D → Sto → R D := fun x y S => match x, y with
  | .fn n, .str z => if n = nm then (match kvs.lookup z with
    | some d => .ok d S
    | none => .no) else .no
  | _, _ => .no
theorem ee_ixK (kd : KD X.K X.mg X.w nm kvs) (ha : Ee X W a ta ma) (hb : Ee X W b tb mb) (hs : PlainIx b := by exact fun _ _ => rfl) : Ee X W (.Subscript a b pos) (tOp (rIxD X.K X.w) ta tb) (eBin (dIxK nm kvs) ma mb) :=
  ⟨pe_ix ix_kdict ha.der hb.der hs, sim_bin (fun ι S H σ x y d e Q s hx hy g => by
    unfold dIxK at g
    split at g
    · rename_i n z
      split at g
      · rename_i hn
        subst hn
        obtain ⟨a, es, c, h1, h2, h3⟩ := kd.ex
        cases hy
        cases hx with
        | fn h =>
        rw [h1] at h; cases h
        rcases h3 z with ⟨q1, q2⟩ | ⟨d, u, v, q1, q2, q3, q4⟩
        · rw [q1] at g; exact g.elim
        · rw [q1] at g
          exact ⟨a, z, v, rfl, rfl, ⟨es, c, u, h2.at_, h2.lit, q2, q3⟩, g.now s _ (q4 _ _)⟩
      · exact g.elim
    · exact g.elim) ha.sim hb.sim⟩
/-! ### a name of the module -/
theorem ee_fn {x : Str} {f : Addr} (hm : X.mg x = some (.ref f)) (hg : Gl X x := by rfl) (hd : (x == ("__debug__" : Str)) = false := by decide) : Ee X W (.Name x pos) (tC (.ref f)) (eLit (.fn x)) :=
  ee_lit (pe_glob hg hm rfl hd) fun _ _ => .fn hm
theorem ee_gint {x : Str} {i : Int} {t : Tok} (hm : X.mg x = some (.int i t)) (hg : Gl X x := by rfl) (hd : (x == ("__debug__" : Str)) = false := by decide) : Ee X W (.Name x pos) (tC (.int i)) (eLit (.int i)) :=
  ee_lit (pe_glob hg hm ⟨t, rfl⟩ hd) fun _ _ => .int i
theorem ee_gkt {x : Str} {a : Addr} {ds : List D} (hm : X.mg x = some (.ref a)) (hk : ∀ ι H, DR X.K X.mg ι H (.kt ds) (.ref a)) (hg : Gl X x := by rfl) (hd : (x == ("__debug__" : Str)) = false := by decide) : Ee X W (.Name x pos) (tC (.ref a)) (eLit (.kt ds)) :=
  ee_lit (pe_glob hg hm rfl hd) hk
end
/-! ### facts about the written part -/
/-- a written tuple of texts -/
theorem kt_strs {K : PySem.W.Frag} {mg : Str → Option Value} {a : Addr} {its : Array Value} {n : Nat} {dc : Option Addr} {sl : Array (Option Value)} {xs : List Str} (hl : K.lookup a = some ⟨.type "tuple", dc, .seq its n, sl⟩)
    (hs : its.size ≤ sizeLine) (hv : Vals (xs.map V.str) its.toList) : ∀ ι H, DR K mg ι H (.kt (xs.map D.str)) (.ref a) := fun ι H =>
  .kt ⟨_, its, n, hl, rfl, rfl, hs, hv⟩ (by
    clear hv hs hl
    induction xs with
    | nil => exact .nil
    | cons x xs ih => exact .cons (.str x) ih)
/-- a dict's entries, looked up -/
def entD (es : List DictEntry) (z : Str) : Option Value := (es.find? (·.key.isStr z)).map (·.val)
theorem nsIn_of {K : PySem.W.Frag} {a : Addr} {es : Array DictEntry} {n : Nat} {c : Value} {dc : Option Addr} {sl : Array (Option Value)} (hl : K.lookup a = some ⟨c, dc, .dict es n, sl⟩) (hr : es.toList.any (·.refKey) = false) (z : Str) : PySem.W.nsIn K a z = some (entD es.toList z) := by
  unfold PySem.W.nsIn entD
  rw [hl]
  dsimp only
  split
  · rename_i e h; rw [h]; rfl
  · rename_i h; rw [h, hr]; rfl
/-- entries beside what they stand for -/
inductive EntR (K : PySem.W.Frag) (mg : Str → Option Value) : List (Str × D) → List DictEntry → Prop
  | nil : EntR K mg [] []
  | cons {k : Str} {d : D} {t : Tok} {h : _} {u : Value} {v : V} {kvs : List (Str × D)} {es : List DictEntry} : RelV v u → (∀ ι H, DR K mg ι H d v) → EntR K mg kvs es → EntR K mg ((k, d) :: kvs) (⟨h, .str k t, u⟩ :: es)
end Sh

set_option Elab.async false
set_option linter.all false
set_option maxRecDepth 100000
set_option autoImplicit false
namespace Sh
open PySem PySem.Spec PyProof.Rows L2
/-! ### a def -/
def env0 (n : Nat) (ds : List D) : Env := ds.map some ++ List.replicate (n - ds.length) none
def fnM (n : Nat) (b : SM) : List D → Sto → R D := fun ds S => match b (env0 n ds) S with
  | .nx _ S' => .ok .non S'
  | .rt d S' => .ok d S'
  | .ex c w _ S' => .ex c w S'
  | _ => .no
theorem er_start {K : PySem.W.Frag} {mg : Str → Option Value} {ι : List Addr} {H : Hp} : ∀ {N : List Str} {ds : List D} {vs : List V}, DRs K mg ι H ds vs → vs.length ≤ N.length → ER K mg ι H (env0 N.length ds) (start N vs) := by
  intro N ds vs h hl
  refine ⟨?_, fun i d hi => ?_⟩
  · unfold env0 L2.start
    simp [h.length]
  · unfold env0 at hi
    by_cases hlt : i < ds.length
    · rw [List.getElem?_append_left (by simpa using hlt), List.getElem?_map] at hi
      obtain ⟨d', h1, h2⟩ := Option.map_eq_some_iff.mp hi
      cases h2
      obtain ⟨v, h3, h4⟩ := h.get h1
      refine ⟨v, ?_, h4⟩
      unfold L2.start
      rw [List.getElem?_append_left (by simpa [h.length] using hlt), List.getElem?_map, h3]
      rfl
    · rw [List.getElem?_append_right (by simpa using hlt)] at hi
      rw [List.getElem?_replicate] at hi
      split at hi
      · cases hi
      · cases hi
theorem fn_ok {P : Program} {w : World} {K : PySem.W.Frag} {mg : Str → Option Value} {base : Heap} {x qual : Str} {st : Stmt} {f : Addr} {fd : FuncData} {N ps : List Str} {k n : Nat} {b : SM} (F : Fun K x qual st f fd) (S : FnScope N ps (defScope st)) (hn : ps.length = n)
    (h : ∀ (cdv : Value) (A : Around) (outer : List PySem.Env) (s : Shared) (H : Hp) (E : XK), Rm k (A.deeper (envOfC qual (defScope st) s.heap.objs.size f cdv)) →
      ∃ t, Ess (cxOf (L2.CX P w) P w K mg base N qual (defScope st) f cdv A outer s H E) (fun cls d _ H' => E cls d H') (defBody st) t b) : FnG P w K mg base (k + 1) f fd ps (spM K mg n (fnM N.length b)) := by
  refine Fun.okG F S (fun vs H Q E h => h.1.trans hn.symm) fun cdv A outer s H vs Q E hr h' => ?_
  obtain ⟨t, der, sim⟩ := h cdv A outer s H E hr
  obtain ⟨hl, ι, S0, ds, s0, r0, g⟩ := h'
  have hle : vs.length ≤ N.length := by
    rw [hl, ← hn]
    have := congrArg List.length S.pre
    rw [List.length_take] at this
    omega
  refine ⟨t, der, sim ι S0 H _ _ _ s0 (er_start r0 hle) ?_⟩
  unfold fnM at g
  cases q : b (env0 N.length ds) S0 with
  | nx ρ S' => rw [q] at g; exact fun ι' H' σ' e s r => g ι' H' e s _ .non
  | rt d S' => rw [q] at g; exact fun ι' H' v e s x => g ι' H' e s v x
  | bk ρ S' => rw [q] at g; exact g.elim
  | ct ρ S' => rw [q] at g; exact g.elim
  | ex c w ρ S' => rw [q] at g; exact fun ι' H' σ' C dd v e s z h1 h2 h3 => g ι' H' [] C dd v e s rfl h1 h2 h3
  | no => rw [q] at g; exact g.elim
/-- no turn is left -/
theorem fn_no {P : Program} {w : World} {K : PySem.W.Frag} {mg : Str → Option Value} {base : Heap} {f : Addr} {fd : FuncData} {ps : List Str} {k n : Nat} (hn : ps.length = n) : FnG P w K mg base k f fd ps (spM K mg n fun _ _ => .no) :=
  ⟨fun vs H Q E h => h.1.trans hn.symm, fun A outer s H args us vs Q E hr e0 hb r h => by
    obtain ⟨_, _, _, _, _, _, g⟩ := h
    exact g.elim⟩
/-! ### the law's own end -/
theorem ints_DR {K : PySem.W.Frag} {mg : Str → Option Value} {ι : List Addr} {H : Hp} : ∀ ns : List Int, DRs K mg ι H (ns.map D.int) (ns.map V.int)
  | [] => .nil
  | n :: ns => .cons (.int n) (ints_DR ns)
theorem law_callG {P : Program} {w : World} {K : PySem.W.Frag} {mg mb : Str → Option Value} {k : Nat} {fa a : Addr} {fd : FuncData} {x : Str} {m : List D → Sto → R D} {s₁ : Shared} {vs : List Value} {ns : List Int}
    (KX : K.In s₁.heap) (hns : s₁.heap.Ns mainGlobals mg) (hb : s₁.heap.Ns builtinsNs mb) (hbb : ∀ x : Str, x ≠ "__name__" → mb x = bootBuiltins x) (hlim : s₁.heap.NoLimit) (hg : s₁.gens = #[])
    (ha : s₁.heap.get? a = some { cls := .type "list", data := .seq vs.toArray }) (hi : IntsAre vs ns) (hl : ns.length ≤ sizeLine) (hr : Rm k callerA)
    (F : ∀ base : Heap, K.In base → base.Ns mainGlobals mg → FnG P w K mg base k fa fd [x] (spM K mg 1 m)) (hbind : ∀ (s : Shared) (u : Value), BindsTo s fd ⟨[u], []⟩ [(x, u)])
    (hm : ∃ S, m [.wl (ns.map D.int)] [] = .ok (.bl true) S) :
    codeAny (model P w) callerA (.call (.ref fa) ⟨[.ref a], []⟩) (fun r s' => r = .ok (.ret (.bool true)) ∧ OldK s₁.heap s'.heap ∧ s'.os = s₁.os ∧ AllBare s'.gens) s₁ := by
  have rv := vals_ints hi
  have lenV := hi.length
  have hsp : ∀ H : Hp, Only H → SqL K H a (ns.map V.int) → spM K mg 1 m [.ref a] H (fun v _ => v = .bl true) fun _ _ _ => False := fun H hO hS => by
    obtain ⟨S, hm⟩ := hm
    refine ⟨rfl, [], [], [.wl (ns.map D.int)], ⟨rfl, List.nodup_nil, fun i o a h => by cases h⟩, .cons (.wl ?_ (ints_DR ns)) .nil, ?_⟩
    · rcases hS with h | h
      · rcases h with h | ⟨o, h⟩
        · rcases hO a with z | ⟨o, xs, z⟩
          · rw [z] at h; cases h
          · rw [z] at h; cases h
        · exact .inl ⟨o, h⟩
      · exact .inr h
    · rw [hm]
      intro ι' H' e s v x
      cases x
      rfl
  have hCX : ∀ H e s', L2.CX P w [] H s₁ (fun _ _ _ => False) e s' → False := fun H e s' h => by
    obtain ⟨_, _, _, _, _, _, _, _, _, _, _, _, z⟩ := h
    exact z.elim
  have core : ∀ H : Hp, Only H → SqL K H a (ns.map V.int) → HOk P w H s₁.heap → (∀ b, H b ≠ none → b = a) → (H a ≠ none → K.lookup a = none) →
      codeAny (model P w) callerA (.call (.ref fa) ⟨[.ref a], []⟩) (fun r s' => r = .ok (.ret (.bool true)) ∧ OldK s₁.heap s'.heap ∧ s'.os = s₁.os ∧ AllBare s'.gens) s₁ := by
    intro H hO hS hok hA hK
    have base_of : ∀ {b : Addr} {o : Obj}, s₁.heap.get? b = some o → H b = none → (hidT s₁.heap H).get? b = some o := fun e n => hidT_get e n
    have noA : ∀ {b : Addr} {o : Obj} {es : Array DictEntry} {ep : Nat}, s₁.heap.get? b = some o → o.data = .dict es ep → H b = none := fun {b o es ep} e d => by
      cases q : H b with
      | none => rfl
      | some u =>
        have e' : b = a := hA b (by rw [q]; simp)
        subst e'
        rw [ha] at e; cases e
        have d' : Data.seq vs.toArray _ = Data.dict es ep := d
        cases d'
    have nsK : ∀ {b : Addr} {m : Str → Option Value}, s₁.heap.Ns b m → (hidT s₁.heap H).Ns b m := fun {b m} ⟨o, es, ep, e, d, r⟩ => ⟨o, es, ep, base_of e (noA e d), d, r⟩
    have hKb : K.In (hidT s₁.heap H) := fun b o e => base_of (KX b o e) (by
      cases q : H b with
      | none => rfl
      | some u =>
        have e' : b = a := hA b (by rw [q]; simp)
        subst e'
        rw [hK (by rw [q]; simp)] at e; cases e)
    have hM : Mod K mg (hidT s₁.heap H) := ⟨hKb, nsK hns, ⟨mb, nsK hb, hbb⟩, let ⟨mc, h1, h2⟩ := hlim; ⟨mc, nsK h1, h2⟩⟩
    have e0 : Env0 P w K mg (hidT s₁.heap H) callerA [] s₁ H := ⟨rfl, hM, fun b o e => of_hidT e, Nat.le_of_eq (hidT_size _ _), trivial, fun b hb => absurd (show b ∈ ([] : List Addr) from hb) (by simp), hok, .of_eq hg⟩
    refine codeAny_mono ((F _ hKb (nsK hns)).run callerA [] s₁ H ⟨[.ref a], []⟩ [.ref a] [.ref a] _ _ hr e0 (hbind s₁ (.ref a)) (.cons rfl .nil) (hsp H hO hS)) fun r s' h => ?_
    cases r with
    | error e => exact (hCX H e s' h).elim
    | ok fl =>
      cases fl with
      | next => exact False.elim h
      | brk => exact False.elim h
      | cont => exact False.elim h
      | ret u =>
        obtain ⟨v, H', os, bare, un, hok', r', q⟩ := h
        have q' : v = .bl true := q
        subst q'
        obtain rfl : u = Value.bool true := r'
        refine ⟨rfl, OldK.of_keep fun b o e => ?_, os, bare⟩
        cases q : H b with
        | none => exact un.keep b o e q (by intro z; exact absurd (show b ∈ ([] : List Addr) from z) (by simp)) (by simp)
        | some u =>
          rcases hO b with z | ⟨ob, xs, z⟩
          · rw [q] at z; cases z
          · have z2 := un.frzs b ob _ z
            obtain ⟨e1, _⟩ := hok b _ z
            obtain ⟨e2, _⟩ := hok' b _ z2
            rw [e] at e1; cases e1
            exact e2
  cases hk : K.lookup a with
  | some o =>
    have e := KX a o hk
    rw [ha] at e
    cases e
    refine core (fun _ => none) (fun _ => .inl rfl) (.inr ⟨_, vs.toArray, _, hk, rfl, rfl, rfl, by rw [List.size_toArray, lenV]; exact hl, by simpa using rv⟩) (fun b u z => by have z' : (none : Option HO) = some u := z; cases z') (fun b z => absurd rfl z) fun z => absurd rfl z
  | none =>
    refine core (fun b => if b = a then some (.frz { cls := .type "list", data := .seq vs.toArray } (.lst (ns.map V.int))) else none) (fun b => ?_) (.inl (.inr ⟨{ cls := .type "list", data := .seq vs.toArray }, if_pos rfl⟩)) (fun b u z => ?_) (fun b z => ?_) fun _ => hk
    · by_cases hb : b = a
      · exact .inr ⟨_, _, if_pos hb⟩
      · exact .inl (if_neg hb)
    · by_cases hb : b = a
      · have z' := (if_pos hb).symm.trans z
        cases z'
        subst hb
        exact ⟨ha, by rw [List.length_map]; exact hl, vs, _, rv, ha⟩
      · have z' := (if_neg hb).symm.trans z
        cases z'
    · by_cases hb : b = a
      · exact hb
      · exact absurd (if_neg hb) z
theorem walk_G {l : PySem.W.OpenLaw} {n k : Nat} {q : Program} {loose : List Str} {XP : (Str → Option Value) → Heap → Prop} {YP : World → Heap → Prop} {d : DefRec} {K : Params → PySem.W.Frag} {m : List D → Sto → R D} {x : Str}
    (hn : l.most = some n) (hn2 : n ≤ sizeLine) (hdf : d.params.defaults = []) (hr : Rm k callerA) (hY : ∀ (w : World) (h : Heap), YP w h → (K w.params).In h)
    (F : ∀ (w : World) (mg : Str → Option Value) (fa : Addr) (h : Heap), (K w.params).In h → h.Ns mainGlobals mg → mg d.name = some (.ref fa) →
      ∃ fd : FuncData, (∀ (s : Shared) (u : Value), BindsTo s fd ⟨[u], []⟩ [(x, u)]) ∧ ∀ base : Heap, (K w.params).In base → base.Ns mainGlobals mg → FnG l.prog w (K w.params) mg base k fa fd [x] (spM (K w.params) mg 1 m))
    (hm : ∀ ns : List Int, ns.length ≤ n → (∀ z ∈ ns, Builtin.Int.intBits z ≤ 1048576) → ∃ S, m [.wl (ns.map D.int)] [] = .ok (.bl true) S) :
    PySem.W.WalkO q loose XP YP l.row.toRowW d [] (fun f vs => PySem.call f vs) := by
  refine Att.attach_callB hn hdf fun w s₀ s₁ mg mb fa o pm cd doc a vs ns G Y ho hd hcd hmg hobj hints hlen hbits hg => ?_
  have KX := hY w _ Y
  obtain ⟨fd, hb, hF⟩ := F w mg fa _ KX G.T.g hmg
  exact law_callG KX G.T.g G.T.b G.T.builtins G.T.nolimit hg hobj hints (Nat.le_trans hlen hn2) hr hF hb (hm ns hlen hbits)
end Sh

set_option Elab.async false
set_option linter.all false
set_option maxRecDepth 100000
set_option autoImplicit false
namespace Sh
open PySem PySem.Spec PyProof.Rows L2
section
variable {X : Cx} {W : WX} {pos : Pos}
/-! ### dicts: {} and displays -/
def eDNewK : EM := fun _ S => .ok (.obj S.length) (S ++ [.dK []])
def eDNewT : EM := fun _ S => .ok (.obj S.length) (S ++ [.dT []])
theorem ee_dnewK : Ee X W (.Dict [] [] pos) tDNewK eDNewK := ⟨pe_dnewK, fun ι S H ρ σ Q s r g p hp => g (ι ++ [p]) _ (Ext.newI hp) (s.push hp (.dK .nil)) _ (.obj s.last)⟩
theorem ee_dnewT : Ee X W (.Dict [] [] pos) tDNewT eDNewT := ⟨pe_dnewT, fun ι S H ρ σ Q s r g p hp => g (ι ++ [p]) _ (Ext.newI hp) (s.push hp (.dT .nil)) _ (.obj s.last)⟩
abbrev PM := Env → Sto → R (List (D × D))
def pNil : PM := fun _ S => .ok [] S
def pCons (a b : EM) (r : PM) : PM := fun ρ S => (a ρ S).bind fun x S1 => (b ρ S1).bind fun y S2 => (r ρ S2).bind fun ps S3 => .ok ((x, y) :: ps) S3
def SimP (K : PySem.W.Frag) (mg : Str → Option Value) (W : WX) (trs : List (TE × TE)) (m : PM) : Prop :=
  ∀ ι S H ρ σ Q, SR K mg ι S H → ER K mg ι H ρ σ → Good K mg W ι H σ (fun ps ι H => ∀ vs : List (V × V), DRs K mg ι H (ps.map (·.1)) (vs.map (·.1)) → DRs K mg ι H (ps.map (·.2)) (vs.map (·.2)) → Q vs H) (m ρ S) → tPairs trs σ H Q
structure Ep (X : Cx) (W : WX) (pos : Pos) (ks : List (Option Expr)) (vs : List Expr) (trs : List (TE × TE)) (m : PM) : Prop where
  der : PPs X pos ks vs trs
  sim : SimP X.K X.mg W trs m
theorem ep_nil : Ep X W pos [] [] [] pNil := ⟨pps_nil, fun ι S H ρ σ Q s r g => g.now s [] .nil .nil⟩
theorem ep_cons {k v : Expr} {ks : List (Option Expr)} {vs : List Expr} {tk tv : TE} {trs : List (TE × TE)} {mk mv : EM} {m : PM} (hk : Ee X W k tk mk) (hv : Ee X W v tv mv) (hr : Ep X W pos ks vs trs m) : Ep X W pos (some k :: ks) (v :: vs) ((tk, tv) :: trs) (pCons mk mv m) :=
  ⟨pps_cons hk.der hv.der hr.der, fun ι S H ρ σ Q s r g => bindE hk.sim s r g fun d S1 ι1 H1 v e1 s1 r1 x g1 => bindE hv.sim s1 r1 g1 fun d2 S2 ι2 H2 v2 e2 s2 r2 x2 g2 =>
    hr.sim ι2 S2 H2 _ σ _ s2 r2 (by
      cases q : m ρ S2 with
      | no => rw [q] at g2; exact g2.elim
      | ex c w S3 => rw [q] at g2; exact g2
      | ok ps S3 =>
        rw [q] at g2
        exact fun ι3 H3 e3 s3 vs h1 h2 => g2 ι3 H3 e3 s3 ((v, v2) :: vs) (.cons (x.mono (e2.trans e3)) h1) (.cons (x2.mono e3) h2))⟩
def mergeD (kvs more : List (Key × D)) : List (Key × D) := more.foldl (fun acc kv => kput acc kv.1 kv.2) kvs
def keyed : List (D × D) → Option (List (Key × D))
  | [] => some []
  | (k, v) :: r => match dKey k, keyed r with
    | some k', some r' => some ((k', v) :: r')
    | _, _ => none
def eDisp (m : PM) : EM := fun ρ S => (m ρ (S ++ [.dK []])).bind fun ps S1 => match keyed ps, S1[S.length]? with
  | some kvs, some (.dK []) => if kvs.length ≤ 15 then .ok (.obj S.length) (S1.set S.length (.dK (mergeD [] kvs))) else .no
  | _, _ => .no
theorem keyed_rel {K : PySem.W.Frag} {mg : Str → Option Value} {ι : List Addr} {H : Hp} : ∀ {ps : List (D × D)} {vs : List (V × V)} {kvs : List (Key × D)}, DRs K mg ι H (ps.map (·.1)) (vs.map (·.1)) → DRs K mg ι H (ps.map (·.2)) (vs.map (·.2)) → keyed ps = some kvs →
    ∃ us : List (Key × V), vs = us.map (fun kv => (kV kv.1, kv.2)) ∧ KR K mg ι H kvs us
  | [], [], _, _, _, e => by simp [keyed] at e; subst e; exact ⟨[], rfl, .nil⟩
  | (k, v) :: ps, (x, y) :: vs, kvs, h1, h2, e => by
    simp only [List.map_cons] at h1 h2
    cases h1 with
    | cons a1 b1 =>
    cases h2 with
    | cons a2 b2 =>
    unfold keyed at e
    split at e
    · rename_i k' r' q1 q2
      cases e
      obtain ⟨us, rfl, hk⟩ := keyed_rel b1 b2 q2
      obtain rfl := dKey_rel a1 q1
      exact ⟨(k', y) :: us, rfl, .cons a2 hk⟩
    · cases e
  | [], _ :: _, _, h1, _, _ => by cases h1
  | _ :: _, [], _, h1, _, _ => by cases h1
theorem merge_rel {K : PySem.W.Frag} {mg : Str → Option Value} {ι : List Addr} {H : Hp} : ∀ {more : List (Key × D)} {us : List (Key × V)} {kvs : List (Key × D)} {vs : List (Key × V)}, KR K mg ι H more us → KR K mg ι H kvs vs → KR K mg ι H (mergeD kvs more) (mergeK vs us)
  | _, _, _, _, .nil, h => h
  | (k, d) :: more, (_, v) :: us, kvs, vs, .cons h hs, h' => by
    show KR K mg ι H (mergeD (kput kvs k d) more) (mergeK (putK vs k v) us)
    exact merge_rel hs (h'.put k h)
theorem KR.len' {κ : Type} {K : PySem.W.Frag} {mg : Str → Option Value} {ι : List Addr} {H : Hp} : ∀ {ds : List (κ × D)} {vs : List (κ × V)}, KR K mg ι H ds vs → ds.length = vs.length
  | _, _, .nil => rfl
  | _, _, .cons _ h => by simp [KR.len' h]
theorem ee_disp {k : Option Expr} {v : Expr} {ks : List (Option Expr)} {vs : List Expr} {trs : List (TE × TE)} {m : PM} (h : Ep X W pos (k :: ks) (v :: vs) trs m) (hall : (k :: ks).all (·.isSome) = true := by rfl) (hl : (k :: ks).length = (v :: vs).length := by rfl) (h15 : (k :: ks).length ≤ 15 := by decide) :
    Ee X W (.Dict (k :: ks) (v :: vs) pos) (tDisp trs) (eDisp m) :=
  ⟨pe_disp h.der hall hl (by simp) h15, fun ι S H ρ σ Q s r g p hp => by
    have s0 := s.push hp (o := .dK []) (u := .dK []) (.dK .nil)
    have e0 : Ext ι H (ι ++ [p]) (upd H p (.dK [])) := Ext.newI hp
    have lp : (ι ++ [p])[S.length]? = some p := s.last
    refine h.sim (ι ++ [p]) _ _ ρ σ _ s0 (r.mono e0) ?_
    have g0 := Good.mono e0 g
    unfold eDisp at g0
    cases q : m ρ (S ++ [.dK []]) with
    | no => rw [q] at g0; exact g0.elim
    | ex c w S1 => rw [q] at g0; exact g0
    | ok ps S1 =>
      rw [q] at g0
      intro ι1 H1 e1 s1 us h1 h2
      have g1 := Good.mono e1 g0
      simp only [R.bind] at g1
      split at g1
      · rename_i kvs hk hS
        split at g1
        · rename_i hlen
          obtain ⟨ws, rfl, hr⟩ := keyed_rel h1 h2 hk
          have lp1 := e1.get lp
          obtain ⟨a, u, ha, hu, ho⟩ := s1.get hS
          rw [lp1] at ha; cases ha
          cases ho with
          | dK hkr =>
          cases hkr
          refine ⟨hu, ws, rfl, by rw [← hr.len']; exact hlen, g1 ι1 _ (Ext.write hu trivial) (s1.write hS lp1 (.dK (merge_rel (hr.mono (Ext.write hu trivial)) .nil))) _ (.obj lp1)⟩
        · exact g1.elim
      · exact g1.elim⟩
end
/-- turns enough for any walk of a law -/
def FU : Nat := 100000
end Sh
namespace Sh
open PySem PySem.Spec PyProof.Rows L2
theorem fn_ok2 {P : Program} {w : World} {K : PySem.W.Frag} {mg : Str → Option Value} {base : Heap} {x qual : Str} {st : Stmt} {f : Addr} {fd : FuncData} {N ps : List Str} {k n : Nat} {b : SM} (F : Fun K x qual st f fd) (S : FnScope N ps (defScope st)) (hn : ps.length = n)
    (h : ∀ (cdv : Value) (A : Around) (outer : List PySem.Env) (s : Shared) (H : Hp) (E : XK), Rm k (A.deeper (envOfC qual (defScope st) s.heap.objs.size f cdv)) →
      Takes (cxOf (L2.CX P w) P w K mg base N qual (defScope st) f cdv A outer s H E) (fun cls d _ H' => E cls d H') →
      PassesOwn (model P w) (A.deeper (envOfC qual (defScope st) s.heap.objs.size f cdv)) (cxOf (L2.CX P w) P w K mg base N qual (defScope st) f cdv A outer s H E).env (cxOf (L2.CX P w) P w K mg base N qual (defScope st) f cdv A outer s H E).xe → N.Nodup →
      ∃ t, Ess (cxOf (L2.CX P w) P w K mg base N qual (defScope st) f cdv A outer s H E) (fun cls d _ H' => E cls d H') (defBody st) t b) : FnG P w K mg base (k + 1) f fd ps (spM K mg n (fnM N.length b)) :=
  fn_ok F S hn fun cdv A outer s H E hr => h cdv A outer s H E hr (takes_of rfl rfl rfl rfl) (passes_of rfl) S.nd
end Sh

set_option Elab.async false
set_option linter.all false
set_option maxRecDepth 100000
set_option autoImplicit false
namespace Sh
open PySem PySem.Spec PyProof.Rows L2
/-! ### the walk that a computation itself is -/
def kE (K : PySem.W.Frag) (mg : Str → Option Value) (W : WX) (m : EM) : TE := fun σ H Q => ∃ ι S ρ, SR K mg ι S H ∧ ER K mg ι H ρ σ ∧ Good K mg W ι H σ (QV K mg Q) (m ρ S)
def kT (K : PySem.W.Frag) (mg : Str → Option Value) (W : WX) (m : TM) : TT := fun σ H Q => ∃ ι S ρ, SR K mg ι S H ∧ ER K mg ι H ρ σ ∧ Good K mg W ι H σ (QB Q) (m ρ S)
def kG (K : PySem.W.Frag) (mg : Str → Option Value) (W : WX) (m : GM) (is : List Nat) : TG := fun v σ H Q => ∃ ι S ρ d, SR K mg ι S H ∧ ER K mg ι H ρ σ ∧ DR K mg ι H d v ∧ GoodS K mg W ι H (only fun σ' H' => (∀ vs : List Nat, (∀ i ∈ is, i ∈ vs) → wkp vs σ σ') → Q σ' H') (m d ρ S)
theorem Ee.k {X : Cx} {W : WX} {e : Expr} {t : TE} {m : EM} (h : Ee X W e t m) : Ee X W e (kE X.K X.mg W m) m :=
  ⟨⟨fun pins s σ H Q I ⟨ι, S, ρ, a, b, c⟩ => h.der.run pins s σ H Q I (h.sim ι S H ρ σ Q a b c)⟩, fun ι S H ρ σ Q a b c => ⟨ι, S, ρ, a, b, c⟩⟩
theorem Etts.k {X : Cx} {W : WX} {e : List Expr} {t : TT} {m : TM} (h : Etts X W e t m) : Etts X W e (kT X.K X.mg W m) m :=
  ⟨⟨fun pins s σ H Q I ⟨ι, S, ρ, a, b, c⟩ => h.der.run pins s σ H Q I (h.sim ι S H ρ σ Q a b c)⟩, fun ι S H ρ σ Q a b c => ⟨ι, S, ρ, a, b, c⟩⟩
theorem Eg.k {X : Cx} {W : WX} {e : Expr} {t : TG} {m : GM} {is : List Nat} (h : Eg X W e t m is) : Eg X W e (kG X.K X.mg W m is) m is :=
  ⟨⟨fun pins s σ H v u Q I r ⟨ι, S, ρ, d, a, b, x, c⟩ => h.der.run pins s σ H v u Q I r (h.sim ι S H ρ σ d v Q a b x c)⟩, fun ι S H ρ σ d v Q a b x c => ⟨ι, S, ρ, d, a, b, x, c⟩⟩
section
variable {X : Cx} {W : WX} {elt tg iter : Expr} {ifs : List Expr} {scope : Scope} {own : List (Str × Nat)} {pos spos : Pos} {wi : TI} {mi : IM} {gm : GM} {is : List Nat} {tm : TM} {me : EM}
theorem ee_compK (n : Nat) (hc : X.calm = true) (hN : X.N.Nodup) (hi : Ei X W tg iter wi mi) (ok : BlkOk X.N X.env.scope scope own)
    (hg : ∀ (s : Shared) (H : Hp) (C : Addr) (cl : List (Str × Addr)) (fp : List Addr), ∃ g, Eg (X.blk s H scope (compEnvC scope cl C X.env) fp) WF tg g gm is)
    (ht : ∀ (s : Shared) (H : Hp) (C : Addr) (cl : List (Str × Addr)) (fp : List Addr), ∃ tt, Etts (X.blk s H scope (compEnvC scope cl C X.env) fp) WF ifs tt tm)
    (he : ∀ (s : Shared) (H : Hp) (C : Addr) (cl : List (Str × Addr)) (fp : List Addr), ∃ te, Ee (X.blk s H scope (compEnvC scope cl C X.env) fp) WF elt te me)
    (his : ∀ i ∈ is, i ∈ own.map (·.2) := by decide) (hs : ∀ x, foldedSetIterable iter X.env x = pure x := by intro _; rfl) :
    Ee X W (.ListComp elt [⟨tg, iter, ifs, 0⟩] scope pos) (tLc wi (kG X.K X.mg WF gm is) (kT X.K X.mg WF tm) (kE X.K X.mg WF me) (own.map (·.2))) (eComp n (own.map (·.2)) mi gm tm me) :=
  ee_comp n hc hN hi ok (fun a b c d e => let ⟨_, h⟩ := hg a b c d e; h.k) (fun a b c d e => let ⟨_, h⟩ := ht a b c d e; h.k) (fun a b c d e => let ⟨_, h⟩ := he a b c d e; h.k) his hs
theorem es_setLcK {i : Nat} {y : Str} {py : Pos} (n : Nat) (hc : X.calm = true) (hN : X.N.Nodup) (hi : Ei X W tg iter wi mi) (ok : BlkOk X.N X.env.scope scope own)
    (hg : ∀ (s : Shared) (H : Hp) (C : Addr) (cl : List (Str × Addr)) (fp : List Addr), ∃ g, Eg (X.blk s H scope (compEnvC scope cl C X.env) fp) WF tg g gm is)
    (ht : ∀ (s : Shared) (H : Hp) (C : Addr) (cl : List (Str × Addr)) (fp : List Addr), ∃ tt, Etts (X.blk s H scope (compEnvC scope cl C X.env) fp) WF ifs tt tm)
    (he : ∀ (s : Shared) (H : Hp) (C : Addr) (cl : List (Str × Addr)) (fp : List Addr), ∃ te, Ee (X.blk s H scope (compEnvC scope cl C X.env) fp) WF elt te me)
    (hsw : swapsWith (.ListComp elt [⟨tg, iter, ifs, 0⟩] scope pos) (some (.Name y py)) spos.line X.env = pure true := by exact sw_true rfl rfl rfl (by decide +kernel))
    (hy : X.N[i]? = some y := by rfl) (hyl : X.env.scope.names.lookup y = some .local := by rfl)
    (his : ∀ i ∈ is, i ∈ own.map (·.2) := by decide) (hs : ∀ x, foldedSetIterable iter X.env x = pure x := by intro _; rfl) :
    Es X W (.Assign [.Name y py] (.ListComp elt [⟨tg, iter, ifs, 0⟩] scope pos) spos) (tAsg (tLc wi (kG X.K X.mg WF gm is) (kT X.K X.mg WF tm) (kE X.K X.mg WF me) (own.map (·.2))) (gName i)) (sAs (eComp n (own.map (·.2)) mi gm tm me) (gNameM i)) :=
  es_setLc n hc hN hi ok (fun a b c d e => let ⟨_, h⟩ := hg a b c d e; h.k) (fun a b c d e => let ⟨_, h⟩ := ht a b c d e; h.k) (fun a b c d e => let ⟨_, h⟩ := he a b c d e; h.k) hsw hy hyl his hs
theorem ee_one1 {op : BoolOp} {a : Expr} {ta : TE} {ma : EM} (ha : Ee X W a ta ma) : Ee X W (.BoolOp op [a] pos) ta ma := ⟨pe_one ha.der, ha.sim⟩
/-- x, y, z = a, b, c -/
theorem es_par3' {i j l : Nat} {x y z : Str} {a b c : Expr} {ta : TA} {ma : AM} {px py pz pt : Pos} {kt k2 : Nat} {pt2 : Pos} (hc : X.calm = true) (hN : X.N.Nodup) (ha : Ea X W [a, b, c] ta ma) (hi : X.N[i]? = some x := by rfl) (hj : X.N[j]? = some y := by rfl) (hl : X.N[l]? = some z := by rfl)
    (hij : i ≠ j := by decide) (hil : i ≠ l := by decide) (hjl : j ≠ l := by decide)
    (hx : X.env.scope.names.lookup x = some .local := by rfl) (hy : X.env.scope.names.lookup y = some .local := by rfl) (hz : X.env.scope.names.lookup z = some .local := by rfl)
    (hw : swappedStores [.Tuple [.Name x px, .Name y py, .Name z pz] kt pt] (.Tuple [a, b, c] k2 pt2) X.env = pure (some [x, y, z]) := by rfl)
    (hs : swapsWithSole [.Tuple [.Name x px, .Name y py, .Name z pz] kt pt] (.Tuple [a, b, c] k2 pt2) pos.line X.env = pure false := by rfl) :
    Es X W (.Assign [.Tuple [.Name x px, .Name y py, .Name z pz] kt pt] (.Tuple [a, b, c] k2 pt2) pos) (tPar3 i j l ta) (sPar [i, j, l] ma) :=
  es_par3 hc hN (ps_par3 hc hN hi hj hl hij hil hjl hx hy hz ha.der hw hs) ha.sim
end
end Sh
namespace Sh
open PySem PySem.Spec PyProof.Rows L2
/-- an error of the class c1 beside what «except c2» names -/
theorem exm_pair {K : PySem.W.Frag} {C S : Addr} {b : Bool} (h1 : PySem.W.subIn K (.ref S) (.type "BaseException") = some true) (h2 : PySem.W.isClsIn K S = true) (h3 : PySem.W.typeIn K (.ref S) = some (.type "type")) (h4 : PySem.W.subIn K (.ref C) (.ref S) = some b) :
    PySem.W.exmOne K (.ref C) (.ref S) = some b := by
  have e1 : (PySem.W.subIn K (.ref S) (.type "BaseException") == some true) = true := by rw [h1] <;> rfl
  have e2 : ((PySem.W.clsIn K S).isSome && PySem.W.typeIn K (.ref S) == some (.type "type")) = true := by
    have h2' : (PySem.W.clsIn K S).isSome = true := h2
    rw [h2', h3] <;> rfl
  show (if (PySem.W.subIn K (.ref S) (.type "BaseException") == some true) = true then (if ((PySem.W.clsIn K S).isSome && PySem.W.typeIn K (.ref S) == some (.type "type")) = true then PySem.W.subIn K (.ref C) (.ref S) else none) else none) = some b
  rw [if_pos e1, if_pos e2]
  exact h4
theorem entR_find {K : PySem.W.Frag} {mg : Str → Option Value} : ∀ {kvs : List (Str × D)} {es : List DictEntry}, EntR K mg kvs es → ∀ z, (kvs.lookup z = none ∧ es.find? (·.key.isStr z) = none) ∨ ∃ d e v, kvs.lookup z = some d ∧ es.find? (·.key.isStr z) = some e ∧ RelV v e.val ∧ ∀ ι H, DR K mg ι H d v
  | _, _, .nil, z => .inl ⟨rfl, rfl⟩
  | _, _, .cons (k := k) (d := d) (t := t) (h := hh) (u := u) (v := v) h1 h2 h3, z => by
    rw [List.lookup_cons, List.find?_cons]
    by_cases e : k = z
    · subst e
      refine .inr ⟨d, ⟨hh, .str k t, u⟩, v, by simp, ?_, h1, h2⟩
      simp [Value.isStr]
    · have e1 : (z == k) = false := by simpa using fun q => e q.symm
      have e2 : (k == z) = false := by simpa using e
      simp only [e1, Value.isStr, e2]
      exact entR_find h3 z
theorem entR_ref {K : PySem.W.Frag} {mg : Str → Option Value} : ∀ {kvs : List (Str × D)} {es : List DictEntry}, EntR K mg kvs es → es.any (·.refKey) = false
  | _, _, .nil => rfl
  | _, _, .cons h1 h2 h3 => by
    rw [List.any_cons, entR_ref h3]
    rfl
theorem kd_mk {K : PySem.W.Frag} {mg : Str → Option Value} {w : World} {nm : Str} {a : Addr} {kvs : List (Str × D)} {es : Array DictEntry} {n : Nat} {l : List DictEntry} (hm : mg nm = some (.ref a)) (D : KDict K w a es n) (he : es.toList = l) (r : EntR K mg kvs l) : KD K mg w nm kvs :=
  ⟨a, es, n, hm, D, fun z => by
    subst he
    have hn := nsIn_of D.at_ (entR_ref r) z
    rcases entR_find r z with ⟨h1, h2⟩ | ⟨d, e, v, h1, h2, h3, h4⟩
    · exact .inl ⟨h1, by rw [hn, entD, h2]; rfl⟩
    · exact .inr ⟨d, e.val, v, h1, by rw [hn, entD, h2]; rfl, h3, h4⟩⟩
end Sh

set_option Elab.async false
set_option linter.all false
set_option maxRecDepth 100000
set_option autoImplicit false
namespace Sh
open PySem PySem.Spec PyProof.Rows L2
/-! ### list(..) of a dict, too; starred parts of displays -/
def dKd : Key → D
  | .inl i => .int i
  | .inr x => .str x
def keyL (kvs : List (Key × D)) : List D := kvs.map fun kv => dKd kv.1
def keyT (kvs : List (List Key × D)) : List D := kvs.map fun kv => .tup (kv.1.map dKd)
def gListA (ds : List D) (S : Sto) : R D := match ds with
  | [.obj i] => (match S[i]? with
    | some (.lst xs) => .ok (.obj S.length) (S ++ [.lst xs])
    | some (.dK kvs) => .ok (.obj S.length) (S ++ [.lst (keyL kvs)])
    | some (.dT kvs) => .ok (.obj S.length) (S ++ [.lst (keyT kvs)])
    | _ => .no)
  | _ => gList ds S
section
variable {K : PySem.W.Frag} {mg : Str → Option Value} {ι : List Addr} {H : Hp}
theorem dr_key (k : Key) : DR K mg ι H (dKd k) (kV k) := by
  cases k with
  | inl i => exact .int i
  | inr x => exact .str x
theorem drs_key : ∀ k : List Key, DRs K mg ι H (k.map dKd) (k.map kV)
  | [] => .nil
  | k :: r => .cons (dr_key k) (drs_key r)
theorem drs_keyL : ∀ {kvs : List (Key × D)} {vs : List (Key × V)}, KR K mg ι H kvs vs → DRs K mg ι H (keyL kvs) (vs.map fun kv => kV kv.1)
  | _, _, .nil => .nil
  | _, _, .cons h hs => .cons (dr_key _) (drs_keyL hs)
theorem drs_keyT : ∀ {kvs : List (List Key × D)} {vs : List (List Key × V)} {bs : List Addr}, KR K mg ι H kvs vs → IsKeys H vs bs → DRs K mg ι H (keyT kvs) (bs.map V.ref)
  | _, _, _, .nil, b => by
    unfold IsKeys at b
    cases b
    exact .nil
  | _, _, _, .cons h hs, b => by
    unfold IsKeys at b
    cases b with
    | cons b1 b2 => exact .cons (.tup b1 (drs_key _)) (drs_keyT hs b2)
end
section
variable {X : Cx} {W : WX} {e : Expr} {es : List Expr} {te : TE} {me : EM} {t : TA} {m : AM} {p : Pos}
theorem cs_listA (hc : X.calm = true) : CaS X W (.type "list") (fun xs H Q => (∃ p ys, xs = [.ref p] ∧ (SqL X.K H p ys ∨ SqT X.K H p ys) ∧ ∀ l, H l = none → Q (.ref l) (upd H l (.lst ys))) ∨
    (∃ a kvs, xs = [V.ref a] ∧ Rd H a (.dK kvs) ∧ ∀ p, H p = none → Q (.ref p) (upd H p (.lst (kvs.map fun kv => kV kv.1)))) ∨
    ∃ d kvs, xs = [V.ref d] ∧ Rd H d (.dT kvs) ∧ ∀ p bs, H p = none → IsKeys H kvs bs → Q (.ref p) (upd H p (.lst (bs.map V.ref)))) gListA := by
  refine ⟨CallR.or call_list_of (CallR.or (call_listD hc) (call_list_dT hc)), fun ι S H σ xs ds Q s x g => ?_⟩
  unfold gListA at g
  split at g
  · rename_i i
    obtain ⟨v, rfl, y⟩ := x.one
    cases y with
    | obj hi =>
    split at g
    · rename_i ys q
      obtain ⟨a, vs, ha, hv, rr⟩ := s.list q
      rw [hi] at ha; cases ha
      exact .inl ⟨_, vs, rfl, .inl (SqL.of hv), fun p hp => g _ _ (Ext.newI hp) (s.push hp (.lst (rr.mono (Ext.newI hp)))) _ (.obj s.last)⟩
    · rename_i kvs q
      obtain ⟨a, vs, ha, hv, rr⟩ := s.dictK q
      rw [hi] at ha; cases ha
      exact .inr (.inl ⟨_, vs, rfl, .inl hv, fun p hp => g _ _ (Ext.newI hp) (s.push hp (.lst (drs_keyL (rr.mono (Ext.newI hp))))) _ (.obj s.last)⟩)
    · rename_i kvs q
      obtain ⟨a, vs, ha, hv, rr⟩ := s.dictT q
      rw [hi] at ha; cases ha
      exact .inr (.inr ⟨_, vs, rfl, .inl hv, fun p bs hp hk => g _ _ (Ext.newI hp) (s.push hp (.lst ((drs_keyT rr hk).mono (Ext.newI hp)))) _ (.obj s.last)⟩)
    · exact g.elim
  · exact .inl ((cs_list (X := X) (W := W)).sim ι S H σ xs ds Q s x g)
def aStar (me : EM) (m : AM) : AM := fun ρ S => (me ρ S).bind fun d S1 => match seqD S1 d with
  | some xs => (m ρ S1).bind fun ys S2 => .ok (xs ++ ys) S2
  | none => .no
theorem ea_star (he : Ee X W e te me) (hr : Ea X W es t m) (hs : starEach (.Starred e p :: es) X.env = (true, eval e X.env) :: starEach es X.env := by rfl) : Ea X W (.Starred e p :: es) (StX.tStar X.K te t) (aStar me m) :=
  ⟨StX.pa_star he.der hr.der hs, fun ι S H ρ σ Q s r g => bindE he.sim s r g fun d S1 ι1 H1 v e1 s1 r1 x g1 => by
    split at g1
    · rename_i xs q
      obtain ⟨a, vs, rfl, hq, rr⟩ := seqD_rel s1 x q
      exact ⟨a, vs, rfl, hq.symm, bindA hr.sim s1 r1 g1 fun ys S2 ι2 H2 ws e2 s2 r2 y g2 => g2.now s2 _ ((rr.mono e2).app y)⟩
    · exact g1.elim⟩
end
end Sh

set_option Elab.async false
set_option linter.all false
set_option maxRecDepth 100000
set_option autoImplicit false
namespace Sh
open PySem PySem.Spec PyProof.Rows L2
/-! ### d.update(d2), keys tuples, d not empty -/
def mergeTV (kvs more : List (List Key × V)) : List (List Key × V) := more.foldl (fun acc kv => putK acc kv.1 kv.2) kvs
def mergeT (kvs more : List (List Key × D)) : List (List Key × D) := more.foldl (fun acc kv => kput acc kv.1 kv.2) kvs
def rUpdT : V → List V → Hp → VK → Prop := fun x vs H Q => ∃ a b kvs more, x = .ref a ∧ vs = [.ref b] ∧ H a = some (.dT kvs) ∧ H b = some (.dT more) ∧ a ≠ b ∧ kvs ≠ [] ∧ kvs.length + more.length ≤ sizeLine ∧ Q .non (upd H a (.dT (mergeTV kvs more)))
theorem kt_merge {H : Hp} : ∀ {more : List (List Key × V)} {ys : List (List Key × Addr × Value)} {kvs : List (List Key × V)} {xs : List (List Key × Addr × Value)}, KT H more ys → KT H kvs xs → KT H (mergeTV kvs more) (storedAllH xs ys) := by
  intro more ys kvs xs r
  induction r generalizing kvs xs with
  | nil => intro q; exact q
  | @cons p q ps qs h t ih =>
    intro r0
    obtain ⟨k, v⟩ := p
    obtain ⟨k2, b, u⟩ := q
    obtain ⟨h1, h2, h3⟩ := h
    cases h1
    exact ih (r0.put k h2 h3)
theorem len_merge : ∀ (more kvs : List (List Key × V)), (mergeTV kvs more).length ≤ kvs.length + more.length
  | [], kvs => Nat.le_refl _
  | p :: r, kvs => by
    have h1 := len_merge r (putK kvs p.1 p.2)
    have h2 := length_putK kvs p.1 p.2
    show (mergeTV (putK kvs p.1 p.2) r).length ≤ _
    rw [List.length_cons]; omega
theorem mt_updT {X : Cx} (hu : X.A.units + 200 < cLine) : MtR X "dict.update" rUpdT := by
  intro pins s σ H x vs v us Q I rx rv h
  obtain ⟨a, b, kvs, more, rfl, rfl, ha, hb, ne, hne, hz, q⟩ := h
  cases rx
  obtain ⟨u, rfl, ru⟩ := rv.one
  cases ru
  obtain ⟨za, hda, xs, ra, dda⟩ := dt_of I.hok ha
  obtain ⟨zb, hdb, ys, rb, ddb⟩ := dt_of I.hok hb
  have hl := len_merge more kvs
  refine call_update_dictH (tupleKind_room_in1 (by omega)) ne hdb dda ddb (.inl ?_) (by rw [← Paired.length ra, ← Paired.length rb]; exact hz) fun h' dd' _ hs => ?_
  · intro e
    subst e
    cases ra
    exact hne rfl
  obtain ⟨o, es, ep, hq, h2, h3, h4, _, h5⟩ := dd'
  refine ⟨.non, upd H a (.dT (mergeTV kvs more)), d_write I (by rw [ha]; exact True.intro) hs ⟨o, hq⟩ ⟨by omega, hda, _, (kt_merge rb ra).keeps fun c ys ec => ?_, o, es, ep, hq, h2, h3, h4, h5⟩, rfl, q⟩
  rw [upd_ne (ne_of ec ha (fun z => nomatch z))]
  exact ec
end Sh
namespace Sh
open PySem PySem.Spec PyProof.Rows L2
section
variable {X : Cx} {W : WX} {o e : Expr} {to te : TE} {mo me : EM} {apos cpos : Pos}
def updTo (i : Nat) (y : D) (S2 : Sto) : R D := match y with
  | .obj j => (match S2[i]?, S2[j]? with
    | some (.dT kvs), some (.dT more) => if i ≠ j ∧ kvs ≠ [] ∧ kvs.length + more.length ≤ 16777216 then .ok .non (S2.set i (.dT (mergeT kvs more))) else .no
    | _, _ => .no)
  | _ => .no
def eUpd (mo me : EM) : EM := fun ρ S => (mo ρ S).bind fun d S1 => match d with
  | .obj i => (match S1[i]? with
    | some (.dT _) => (me ρ S1).bind (updTo i)
    | _ => .no)
  | _ => .no
theorem mergeT_rel {K : PySem.W.Frag} {mg : Str → Option Value} {ι : List Addr} {H : Hp} : ∀ {more : List (List Key × D)} {us : List (List Key × V)} {kvs : List (List Key × D)} {vs : List (List Key × V)}, KR K mg ι H more us → KR K mg ι H kvs vs → KR K mg ι H (mergeT kvs more) (mergeTV vs us)
  | _, _, _, _, .nil, h => h
  | (k, d) :: more, (_, v) :: us, kvs, vs, .cons h hs, h' => by
    show KR K mg ι H (mergeT (kput kvs k d) more) (mergeTV (putK vs k v) us)
    exact mergeT_rel hs (h'.put k h)
theorem ee_upd {k : Nat} (hr : Rm k X.A) (ho : Ee X W o to mo) (he : Ee X W e te me)
    (hbase : attributeBase o "update" X.env (eval o X.env) = eval o X.env := by rfl)
    (hfew : ((backTo cpos (starEach (e :: []) X.env)).all (fun x => !x.1) && (backToKw cpos (keywordEach [] X.env)).all (fun x => x.1.isSome)
      && decide ((e :: ([] : List Expr)).length + ([] : List Keyword).length + (if ([] : List Keyword).isEmpty then 0 else 1) < 30)) = true := by rfl)
    (hline : (apos.endLine == cpos.line) = true := by rfl) (hs : starEach (e :: []) X.env = (false, eval e X.env) :: starEach [] X.env := by rfl) (hplain : (backTo cpos (starEach [] X.env)).any (·.1) = false := by rfl) :
    Ee X W (.Call (.Attribute o "update" apos) [e] [] cpos) (tBM X.K "dict" rUpdT to (tCons te tNil)) (eUpd mo me) :=
  ⟨pe_bm PySem.F.plainAttrs_dict PySem.F.slot_dict_update PySem.F.type_dict_update (mt_updT (Room.u200 hr.room)) ho.der (pa_cons he.der pa_nil hs) hbase hfew hline hs hplain, fun ι S H ρ σ Q s r g => bindE ho.sim s r g fun d S1 ι1 H1 v e1 s1 r1 x g1 => by
    split at g1
    · cases x with
      | obj hi =>
      split at g1
      · rename_i kvs0 q0
        obtain ⟨a0, vs0, ha0, hv0, rr0⟩ := s1.dictT q0
        rw [hi] at ha0; cases ha0
        refine ⟨.inr (.inr (.inl ⟨rfl, .inr ⟨_, hv0⟩⟩)), bindE he.sim s1 r1 g1 fun y S2 ι2 H2 w e2 s2 r2 x2 g2 => ?_⟩
        unfold updTo at g2
        split at g2
        · cases x2 with
          | obj hj =>
          split at g2
          · rename_i kvs more q1 q2
            split at g2
            · rename_i hh
              obtain ⟨a1, vs1, ha1, hv1, rr1⟩ := s2.dictT q1
              obtain ⟨a2, vs2, ha2, hv2, rr2⟩ := s2.dictT q2
              have hi2 := e2.get hi
              rw [hi2] at ha1; cases ha1
              rw [hj] at ha2; cases ha2
              refine ⟨_, _, vs1, vs2, rfl, rfl, hv1, hv2, fun z => ?_, fun z => ?_, by rw [szl, ← rr1.len', ← rr2.len']; exact hh.2.2, ?_⟩
              · subst z; exact hh.1 (nd_ix s2.nd hi2 hj)
              · subst z; cases rr1; exact hh.2.1 rfl
              · exact g2 ι2 _ (Ext.write hv1 trivial) (s2.write q1 hi2 (.dT (mergeT_rel (rr2.mono (Ext.write hv1 trivial)) (rr1.mono (Ext.write hv1 trivial))))) _ .non
            · exact g2.elim
          · exact g2.elim
        · exact g2.elim
      · exact g1.elim
    · exact g1.elim⟩
end
end Sh

set_option Elab.async false
set_option linter.all false
set_option maxRecDepth 100000
set_option autoImplicit false
namespace Sh
open PySem PySem.Spec PyProof.Rows L2
/-! ### instances of the program's classes -/
def fput (f : Str) (d : D) : List (Str × D) → List (Str × D)
  | [] => [(f, d)]
  | (g, x) :: r => if g = f then (g, d) :: r else (g, x) :: fput f d r
section
variable {K : PySem.W.Frag} {mg : Str → Option Value} {ι : List Addr} {S : Sto} {H : Hp}
theorem KR.look (k : Str) : ∀ {ds : List (Str × D)} {vs : List (Str × V)}, KR K mg ι H ds vs → (ds.lookup k = none ∧ vs.lookup k = none) ∨ ∃ d v, ds.lookup k = some d ∧ vs.lookup k = some v ∧ DR K mg ι H d v
  | _, _, .nil => .inl ⟨rfl, rfl⟩
  | _, _, .cons (k := k') (d := d) (v := v) h hs => by
    rw [List.lookup_cons, List.lookup_cons]
    cases q : k == k' with
    | true => exact .inr ⟨d, v, rfl, rfl, h⟩
    | false => exact KR.look k hs
theorem KR.fput {f : Str} {d : D} {v : V} (h : DR K mg ι H d v) : ∀ {ds : List (Str × D)} {vs : List (Str × V)}, KR K mg ι H ds vs → KR K mg ι H (fput f d ds) (putF f v vs)
  | _, _, .nil => .cons h .nil
  | _, _, .cons (k := k') h' hs => by
    unfold Sh.fput putF
    by_cases e : k' = f
    · rw [if_pos e, if_pos e]; exact .cons h hs
    · rw [if_neg e, if_neg e]; exact .cons h' (KR.fput h hs)
theorem SR.inst (s : SR K mg ι S H) {i : Nat} {c : Str} {ds : List (Str × D)} (h : S[i]? = some (.ins c ds)) : ∃ a C dx vs, ι[i]? = some a ∧ mg c = some (.ref C) ∧ H a = some (.ins C dx vs) ∧ KR K mg ι H ds vs := by
  obtain ⟨a, u, ha, hu, r⟩ := s.get h
  cases r with
  | ins m r => exact ⟨a, _, _, _, ha, m, hu, r⟩
end
/-- these classes have nothing of their own under f -/
structure NoF (K : PySem.W.Frag) (mg : Str → Option Value) (cs : List Str) (f : Str) : Prop where
  all : ∀ c ∈ cs, ∃ C, mg c = some (.ref C) ∧ Cls K C ∧ NoAttr K C f
section
variable {X : Cx} {W : WX} {e o : Expr} {te to tv : TE} {me mo mv : EM} {cs : List Str} {f : Str} {pos pos' : Pos}
def fldOf (cs : List Str) (f : Str) (d : D) (S : Sto) : R D := match d with
  | .obj i => (match S[i]? with
    | some (.ins c fs) => if c ∈ cs then (match fs.lookup f with
      | some v => .ok v S
      | none => .no) else .no
    | _ => .no)
  | _ => .no
def eFld (cs : List Str) (f : Str) (me : EM) : EM := fun ρ S => (me ρ S).bind (fldOf cs f)
theorem ee_fld (nf : NoF X.K X.mg cs f) (he : Ee X W e te me) (hb : attributeBase e f X.env (eval e X.env) = eval e X.env := by rfl) : Ee X W (.Attribute e f pos) (tFld X.K te f) (eFld cs f me) :=
  ⟨pe_fld he.der hb, fun ι S H ρ σ Q s r g => bindE he.sim s r g fun d S1 ι1 H1 v e1 s1 r1 x g1 => by
    unfold fldOf at g1
    split at g1
    · rename_i i
      split at g1
      · rename_i c fs q
        split at g1
        · rename_i hc
          obtain ⟨a, C, dx, vs, ha, hm, hv, rr⟩ := s1.inst q
          cases x with
          | obj hi =>
          rw [hi] at ha; cases ha
          obtain ⟨C', hm', cl, na⟩ := nf.all c hc
          rw [hm] at hm'; cases hm'
          rcases rr.look f with ⟨l1, l2⟩ | ⟨d', v', l1, l2, rd⟩
          · rw [l1] at g1; exact g1.elim
          · rw [l1] at g1
            exact ⟨_, C, dx, vs, v', rfl, hv, cl, na, l2, g1.now s1 _ rd⟩
        · exact g1.elim
      · exact g1.elim
    · exact g1.elim⟩
def setFld (cs : List Str) (f : Str) (o y : D) (S : Sto) : Option Sto := match o with
  | .obj i => (match S[i]? with
    | some (.ins c fs) => if c ∈ cs ∧ fs.length < 1000 then some (S.set i (.ins c (fput f y fs))) else none
    | _ => none)
  | _ => none
def sSetF (cs : List Str) (f : Str) (mo mv : EM) : SM := fun ρ S => (mv ρ S).to ρ fun y S1 => (mo ρ S1).to ρ fun o S2 => match setFld cs f o y S2 with
  | some S3 => .nx ρ S3
  | none => .no
theorem es_setF (nf : NoF X.K X.mg cs f) (ho : Ee X W o to mo) (hv : Ee X W e tv mv) (hs : swapsWith e (some (.Attribute o f pos')) pos.line X.env = pure false := by rfl) : Es X W (.Assign [.Attribute o f pos'] e pos) (sFld X.K to tv f) (sSetF cs f mo mv) :=
  ⟨ps_fld ho.der hv.der hs, fun ι S H ρ σ E s r g => bindES hv.sim s r g fun y S1 ι1 H1 w e1 s1 r1 x1 g1 => bindES ho.sim s1 r1 g1 fun d S2 ι2 H2 v e2 s2 r2 x2 g2 => by
    unfold setFld at g2
    split at g2
    · rename_i S3 q0
      split at q0
      · rename_i i
        split at q0
        · rename_i c fs q
          split at q0
          · rename_i hc
            cases q0
            obtain ⟨a, C, dx, vs, ha, hm, hv, rr⟩ := s2.inst q
            cases x2 with
            | obj hi =>
            rw [hi] at ha; cases ha
            obtain ⟨C', hm', cl, na⟩ := nf.all c hc.1
            rw [hm] at hm'; cases hm'
            have ex : Ext ι2 H2 ι2 (upd H2 a (.ins C dx (putF f w vs))) := Ext.write hv trivial
            exact ⟨a, C, dx, vs, rfl, hv, cl, na, by rw [← rr.len']; exact hc.2, g2 ι2 _ σ ex (s2.write q hi (.ins hm (KR.fput ((x1.mono e2).mono ex) (rr.mono ex)))) (r2.mono ex)⟩
          · cases q0
        · cases q0
      · cases q0
    · exact g2.elim⟩
/-- o.f op= e -/
def sAugF (cs : List Str) (f : Str) (fo : D → D → Sto → R D) (mo mv : EM) : SM := fun ρ S => (mo ρ S).to ρ fun o S1 => match o with
  | .obj i => (match S1[i]? with
    | some (.ins c fs) => if c ∈ cs then (match fs.lookup f with
      | some d => (mv ρ S1).to ρ fun y S2 => (fo d y S2).to ρ fun z S3 => (match S3[i]? with
        | some (.ins c' fs') => if c' = c ∧ fs'.length < 1000 then .nx ρ (S3.set i (.ins c (fput f z fs'))) else .no
        | _ => .no)
      | none => .no) else .no
    | _ => .no)
  | _ => .no
theorem es_augF {op : Operator} {r2 : R2} {fo : D → D → Sto → R D} (nf : NoF X.K X.mg cs f) (hop : OpS X W (inplaceOp op) r2 fo) (ho : Ee X W o to mo) (hv : Ee X W e tv mv) : Es X W (.AugAssign (.Attribute o f pos') op e pos) (sFldAug X.K to tv r2 f) (sAugF cs f fo mo mv) :=
  ⟨ps_fldaug ho.der hv.der (fun pins s σ H x y v u Q I rx ry q => hop.der pins s σ H x y v u Q I rx ry q), fun ι S H ρ σ E s r g => bindES ho.sim s r g fun o1 S1 ι1 H1 v e1 s1 r1 x1 g1 => by
    split at g1
    · rename_i i
      split at g1
      · rename_i c fs q
        split at g1
        · rename_i hc
          obtain ⟨a, C, dx, vs, ha, hm, hv1, rr⟩ := s1.inst q
          cases x1 with
          | obj hi =>
          rw [hi] at ha; cases ha
          obtain ⟨C', hm', cl, na⟩ := nf.all c hc
          rw [hm] at hm'; cases hm'
          rcases rr.look f with ⟨l1, l2⟩ | ⟨d', v', l1, l2, rd⟩
          · rw [l1] at g1; exact g1.elim
          · rw [l1] at g1
            refine ⟨_, C, dx, vs, v', rfl, hv1, cl, na, l2, bindES hv.sim s1 r1 g1 fun y S2 ι2 H2 w e2 s2 r2' x2 g2 => ?_⟩
            refine hop.sim ι2 S2 H2 σ v' w d' y _ s2 (rd.mono e2) x2 ?_
            cases q2 : fo d' y S2 with
            | ok z S3 =>
              rw [q2] at g2
              intro ι3 H3 e3 s3 u x3
              have g3 := GoodS.mono e3 g2
              simp only [R.to] at g3
              split at g3
              · rename_i c' fs' q3
                split at g3
                · rename_i hc'
                  obtain ⟨rfl, hl⟩ := hc'
                  obtain ⟨a', C2, dx2, vs2, ha2, hm2, hv2, rr2⟩ := s3.inst q3
                  have hi3 := e3.get (e2.get hi)
                  rw [hi3] at ha2; cases ha2
                  rw [hm] at hm2; cases hm2
                  have ex : Ext ι3 H3 ι3 (upd H3 a (.ins C dx2 (putF f u vs2))) := Ext.write hv2 trivial
                  exact ⟨dx2, vs2, hv2, by rw [← rr2.len']; exact hl, g3 ι3 _ σ ex (s3.write q3 hi3 (.ins hm (KR.fput (x3.mono ex) (rr2.mono ex)))) (((r1.mono e2).mono e3).mono ex)⟩
                · exact g3.elim
              · exact g3.elim
            | ex c w S3 =>
              rw [q2] at g2
              intro a b σ' C dd v e s1 z h1 h2 h3
              subst z
              exact g2 a b σ' C dd v e s1 (r2'.mono e) h1 h2 h3
            | no => rw [q2] at g2; exact g2.elim
        · exact g1.elim
      · exact g1.elim
    · exact g1.elim⟩
end
/-! ### methods -/
section
variable {X : Cx} {W : WX} {C f : Addr} {k : Nat} {fd : FuncData} {ps : List Str} {sp : Sp} {dvs : List V} {its : List Value} {x m : Str} {p pos apos : Pos} {e o : Expr} {es : List Expr} {ta : TE} {t : TA}
theorem run_fnG {pins : List (Addr × Obj)} {σ : L2.St} {H : Hp} {s : Shared} {Q : VK} {us : List Value} {vs : List V} {E : XK} (F : FnG X.prog X.w X.K X.mg X.base k f fd ps sp) (hr : Rm k X.A) (hb : Binds X.K fd ps its) (hd : Vals dvs its) (hx : PassesAt (L2.CX X.prog X.w) X σ E)
    (I : Inv X pins σ H s) (r : Vals vs us) (h : sp (vs ++ dvs) H Q E) : wpAny (model X.prog X.w) X.A (call (.ref f) us) (EP X pins σ Q) X.xe s := by
  have r2 : Vals (vs ++ dvs) (us ++ its) := r.append hd
  have hl : (us ++ its).length = ps.length := by rw [← r2.length]; exact F.len _ _ _ _ h
  refine wpAny_call (codeAny_mono (F.run X.A X.stack s H ⟨us, []⟩ (us ++ its) (vs ++ dvs) Q E hr I.env0 (hb s us I.kIn hl) r2 h) fun r s' hq => ?_)
  cases r with
  | error e => exact hx pins H s e s' I hq
  | ok fl =>
    cases fl with
    | ret u => exact I.after hq
    | next => exact False.elim hq
    | brk => exact False.elim hq
    | cont => exact False.elim hq
def tMethG (C : Addr) (m : Str) (sp : Sp) (dvs : List V) (W : WX) (ta : TE) (t : TA) : TE := fun σ H Q => ta σ H fun x H1 => ∃ a dx fs, x = .ref a ∧ H1 a = some (.ins C dx fs) ∧ fs.lookup m = none ∧
  t σ H1 fun vs H2 => sp (x :: (vs ++ dvs)) H2 Q (fun cls d H' => W cls d σ H')
theorem pe_methG {pl : Sem Bool} (he : PE X o ta) (c : Cls X.K C) (hm : Meth X.K C m f) (F : FnG X.prog X.w X.K X.mg X.base k f fd ps sp) (hr : Rm k X.A) (hb : Binds X.K fd ps its) (hd : Vals dvs its) (tk' : Takes X W) (ha : PA X (e :: es) t)
    (hst : starEach (e :: es) X.env = (false, eval e X.env) :: starEach es X.env := by rfl) (hpl : (backTo pos (starEach es X.env)).any (·.1) = false := by rfl)
    (ht : eval (.Call (.Attribute o m apos) (e :: es) [] pos) X.env = (do
      let ov ← eval o X.env
      standAt apos.atName
      let (f, first) ← holding [ov] (getMethod ov m pl)
      callWith pos f first (backTo pos (starEach (e :: es) X.env)) (backToKw pos (keywordEach [] X.env))) := by rfl) :
    PE X (.Call (.Attribute o m apos) (e :: es) [] pos) (tMethG C m sp dvs W ta t) := by
  refine ⟨fun pins s σ H Q I h => ?_⟩
  refine PySem.W.methodCall_KW (pl := pl) (thn (he.run pins s σ H _ I h) fun u s1 ⟨x, H1, I1, rx, a, dx, fs, ex, ea, l, q⟩ => ?_) ht
  subst ex
  obtain rfl : u = Value.ref a := rx
  refine getmeth_ok I1 ea c hm l ?_
  refine PySem.W.callWith_K (first := [.ref a]) (h₀ := X.base) I.ok.mod.kin hm.kp (thn (ha.run pos pins s1 σ H1 _ I1 q) fun us s2 ⟨vs, H2, I2, r, q2⟩ => ⟨I2.kIn, ?_⟩) hst hpl
  exact run_fnG (us := .ref a :: us) (vs := .ref a :: vs) F hr hb hd (passAt tk' σ) I2 (.cons rfl r) q2
theorem pe_methG0 {pl : Sem Bool} (he : PE X o ta) (c : Cls X.K C) (hm : Meth X.K C m f) (F : FnG X.prog X.w X.K X.mg X.base k f fd ps sp) (hr : Rm k X.A) (hb : Binds X.K fd ps its) (hd : Vals dvs its) (tk' : Takes X W)
    (ht : eval (.Call (.Attribute o m apos) [] [] pos) X.env = (do
      let ov ← eval o X.env
      standAt apos.atName
      let (f, first) ← holding [ov] (getMethod ov m pl)
      callWith pos f first (backTo pos (starEach [] X.env)) (backToKw pos (keywordEach [] X.env))) := by rfl) :
    PE X (.Call (.Attribute o m apos) [] [] pos) (tMethG C m sp dvs W ta tNil) := by
  refine ⟨fun pins s σ H Q I h => ?_⟩
  refine PySem.W.methodCall_KW (pl := pl) (thn (he.run pins s σ H _ I h) fun u s1 ⟨x, H1, I1, rx, a, dx, fs, ex, ea, l, q⟩ => ?_) ht
  subst ex
  obtain rfl : u = Value.ref a := rx
  refine getmeth_ok I1 ea c hm l ?_
  exact PySem.W.callWith_K0 (first := [.ref a]) I1.kIn hm.kp (run_fnG (us := [.ref a]) (vs := [.ref a]) F hr hb hd (passAt tk' σ) I1 (.cons rfl .nil) q)
/-- C(..) -/
def tMakeG (C : Addr) (sp : Sp) (dvs : List V) (W : WX) (t : TA) : TE := fun σ H Q => t σ H fun vs H1 => ∀ x dx, H1 x = none → H1 dx = none → dx ≠ x →
  sp (.ref x :: (vs ++ dvs)) (upd (upd H1 dx (.own x)) x (.ins C dx [])) (fun v H2 => v = .non ∧ Q (.ref x) H2) (fun cls d H' => W cls d σ H')
theorem run_makeG {pins : List (Addr × Obj)} {σ : L2.St} {H : Hp} {s : Shared} {Q : VK} {us : List Value} {vs : List V} {E : XK} (M : Mk X.K C f) (F : FnG X.prog X.w X.K X.mg X.base k f fd ps sp) (hr : Rm (k + 1) X.A) (hb : Binds X.K fd ps its) (hd : Vals dvs its)
    (hx : PassesAt (L2.CX X.prog X.w) X σ E) (I : Inv X pins σ H s) (r : Vals vs us)
    (h : ∀ x dx, H x = none → H dx = none → dx ≠ x → sp (.ref x :: (vs ++ dvs)) (upd (upd H dx (.own x)) x (.ins C dx [])) (fun v H2 => v = .non ∧ Q (.ref x) H2) E) :
    wpAny (model X.prog X.w) X.A (call (.ref C) us) (EP X pins σ Q) X.xe s := by
  have hq := h (s.heap.objs.size + 1) s.heap.objs.size (I.hok.fresh (Nat.le_succ _)) (I.hok.fresh (Nat.le_refl _)) (Nat.ne_of_lt (Nat.lt_succ_self _))
  have I2 := Inv.made (C := C) I
  have r2 : Vals (V.ref (s.heap.objs.size + 1) :: (vs ++ dvs)) (Value.ref (s.heap.objs.size + 1) :: (us ++ its)) := .cons rfl (r.append hd)
  have hl : (Value.ref (s.heap.objs.size + 1) :: us ++ its).length = ps.length := by
    have e := r2.length
    rw [F.len _ _ _ _ hq] at e
    exact e.symm
  refine wpAny_call (make_map (f := f) I.kIn M.makes M.init (beq_iff_eq.mp M.fn) (codeAny_mono (F.run _ X.stack _ _ ⟨Value.ref (s.heap.objs.size + 1) :: us, []⟩ (Value.ref (s.heap.objs.size + 1) :: (us ++ its)) _ _ E ⟨hr.room.make C us [], by exact hr.gd⟩
    (I2.env0.make C us []) (hb _ (Value.ref (s.heap.objs.size + 1) :: us) I2.kIn hl) r2 hq) fun r s' hq' => ?_))
  cases r with
  | error e => exact hx pins _ _ e s' I2 hq'
  | ok fl =>
    cases fl with
    | ret u =>
      obtain ⟨v, H', I3, rv, ev, q3⟩ := I2.after hq'
      subst ev
      exact ⟨rv, ⟨V.ref (s.heap.objs.size + 1), H', I3, rfl, q3⟩⟩
    | next => exact False.elim hq'
    | brk => exact False.elim hq'
    | cont => exact False.elim hq'
theorem pe_makeG (M : Mk X.K C f) (F : FnG X.prog X.w X.K X.mg X.base k f fd ps sp) (hr : Rm (k + 1) X.A) (hm : X.mg x = some (.ref C)) (hb : Binds X.K fd ps its) (hd : Vals dvs its) (tk' : Takes X W)
    (ha : PA X (e :: es) t) (hg : Gl X x := by rfl) (hdb : (x == ("__debug__" : Str)) = false := by decide) (he : starEach (e :: es) X.env = (false, eval e X.env) :: starEach es X.env := by rfl) (hpl : (backTo pos (starEach es X.env)).any (·.1) = false := by rfl) :
    PE X (.Call (.Name x p) (e :: es) [] pos) (tMakeG C sp dvs W t) := by
  refine ⟨fun pins s σ H Q I h => ?_⟩
  refine wpAny_Call_Name_kw (ld_glob I hg hm ?_ hdb)
  refine PySem.W.callWith_K (h₀ := X.base) I.ok.mod.kin M.kp (thn (ha.run pos pins s σ H _ I h) fun us s1 ⟨vs, H1, I1, r, q⟩ => ⟨I1.kIn, ?_⟩) he hpl
  exact run_makeG M F hr hb hd (passAt tk' σ) I1 r q
theorem pe_makeG0 (M : Mk X.K C f) (F : FnG X.prog X.w X.K X.mg X.base k f fd ps sp) (hr : Rm (k + 1) X.A) (hm : X.mg x = some (.ref C)) (hb : Binds X.K fd ps its) (hd : Vals dvs its) (tk' : Takes X W)
    (hg : Gl X x := by rfl) (hdb : (x == ("__debug__" : Str)) = false := by decide) : PE X (.Call (.Name x p) [] [] pos) (tMakeG C sp dvs W tNil) := by
  refine ⟨fun pins s σ H Q I h => ?_⟩
  refine wpAny_Call_Name_kw (ld_glob I hg hm ?_ hdb)
  exact PySem.W.callWith_K0 I.kIn M.kp (run_makeG (us := []) M F hr hb hd (passAt tk' σ) I .nil h)
variable {ma : AM} {mo : EM} {mf : List D → Sto → R D} {dfs : List D} {c : Str} {n : Nat}
theorem spM_of {K : PySem.W.Frag} {mg : Str → Option Value} {ι : List Addr} {S : Sto} {H : Hp} {N : Nat} {ds : List D} {vs : List V} {Q : VK} {σ : L2.St} (hl : vs.length = N) (s : SR K mg ι S H) (x : DRs K mg ι H ds vs) (g : Good K mg W ι H σ (QV K mg Q) (mf ds S)) : spM K mg N mf vs H Q (fun cls d H' => W cls d σ H') := by
  refine ⟨hl, ι, S, ds, s, x, ?_⟩
  cases q : mf ds S with
  | ok d S3 => rw [q] at g; exact g
  | no => rw [q] at g; exact g
  | ex c w S3 =>
    rw [q] at g
    exact fun a b _ C dd v e s r h1 h2 h3 => g a b σ C dd v e s rfl h1 h2 h3
/-- o.m(..), a method of the class c; n: how many are written, dfs: the defaults behind them -/
def eMeth (c m : Str) (n : Nat) (dfs : List D) (mf : List D → Sto → R D) (mo : EM) (ma : AM) : EM := fun ρ S => (mo ρ S).bind fun d S1 => match d with
  | .obj i => (match S1[i]? with
    | some (.ins c' fs) => if c' = c ∧ fs.lookup m = none then (ma ρ S1).bind fun ds S2 => if ds.length = n then mf (.obj i :: (ds ++ dfs)) S2 else .no else .no
    | _ => .no)
  | _ => .no
theorem sim_meth {N : Nat} (hm : X.mg c = some (.ref C)) (hN : n + 1 + dvs.length = N) (hdf : ∀ ι H, DRs X.K X.mg ι H dfs dvs) (ho : SimE X.K X.mg W ta mo) (ha : SimA X.K X.mg W t ma) : SimE X.K X.mg W (tMethG C m (spM X.K X.mg N mf) dvs W ta t) (eMeth c m n dfs mf mo ma) :=
  fun ι S H ρ σ Q s r g => bindE ho s r g fun d S1 ι1 H1 v e1 s1 r1 x g1 => by
    split at g1
    · rename_i i
      split at g1
      · rename_i c' fs q
        split at g1
        · rename_i hc
          obtain ⟨rfl, hlk⟩ := hc
          obtain ⟨a, C', dx, vs, ha', hm', hv, rr⟩ := s1.inst q
          cases x with
          | obj hi =>
          rw [hi] at ha'; cases ha'
          rw [hm] at hm'; cases hm'
          have lk : vs.lookup m = none := by
            rcases rr.look m with ⟨l1, l2⟩ | ⟨d', v', l1, l2, rd⟩
            · exact l2
            · rw [hlk] at l1; cases l1
          refine ⟨a, dx, vs, rfl, hv, lk, bindA ha s1 r1 g1 fun ds S2 ι2 H2 ws e2 s2 r2 y g2 => ?_⟩
          split at g2
          · rename_i hn
            refine spM_of ?_ s2 (.cons (.obj (e2.get hi)) (y.app (hdf _ _))) g2
            rw [List.length_cons, List.length_append, ← y.length]; omega
          · exact g2.elim
        · exact g1.elim
      · exact g1.elim
    · exact g1.elim
theorem ee_meth (N : Nat) (c : Str) (dfs : List D) {pl : Sem Bool} (hmg : X.mg c = some (.ref C)) (cl : Cls X.K C) (hm : Meth X.K C m f) (F : FnG X.prog X.w X.K X.mg X.base k f fd ps (spM X.K X.mg N mf)) (hr : Rm k X.A) (hb : Binds X.K fd ps its) (hd : Vals dvs its) (hdf : ∀ ι H, DRs X.K X.mg ι H dfs dvs) (tk' : Takes X W)
    (ho : Ee X W o ta mo) (ha : Ea X W (e :: es) t ma) (hN : n + 1 + dvs.length = N := by rfl)
    (hst : starEach (e :: es) X.env = (false, eval e X.env) :: starEach es X.env := by rfl) (hpl : (backTo pos (starEach es X.env)).any (·.1) = false := by rfl)
    (ht : eval (.Call (.Attribute o m apos) (e :: es) [] pos) X.env = (do
      let ov ← eval o X.env
      standAt apos.atName
      let (f, first) ← holding [ov] (getMethod ov m pl)
      callWith pos f first (backTo pos (starEach (e :: es) X.env)) (backToKw pos (keywordEach [] X.env))) := by rfl) :
    Ee X W (.Call (.Attribute o m apos) (e :: es) [] pos) (tMethG C m (spM X.K X.mg N mf) dvs W ta t) (eMeth c m n dfs mf mo ma) :=
  ⟨pe_methG ho.der cl hm F hr hb hd tk' ha.der hst hpl ht, sim_meth hmg hN hdf ho.sim ha.sim⟩
theorem ee_meth0 (N : Nat) (c : Str) (dfs : List D) {pl : Sem Bool} (hmg : X.mg c = some (.ref C)) (cl : Cls X.K C) (hm : Meth X.K C m f) (F : FnG X.prog X.w X.K X.mg X.base k f fd ps (spM X.K X.mg N mf)) (hr : Rm k X.A) (hb : Binds X.K fd ps its) (hd : Vals dvs its) (hdf : ∀ ι H, DRs X.K X.mg ι H dfs dvs) (tk' : Takes X W)
    (ho : Ee X W o ta mo) (hN : 0 + 1 + dvs.length = N := by rfl)
    (ht : eval (.Call (.Attribute o m apos) [] [] pos) X.env = (do
      let ov ← eval o X.env
      standAt apos.atName
      let (f, first) ← holding [ov] (getMethod ov m pl)
      callWith pos f first (backTo pos (starEach [] X.env)) (backToKw pos (keywordEach [] X.env))) := by rfl) :
    Ee X W (.Call (.Attribute o m apos) [] [] pos) (tMethG C m (spM X.K X.mg N mf) dvs W ta tNil) (eMeth c m 0 dfs mf mo aNil) :=
  ⟨pe_methG0 ho.der cl hm F hr hb hd tk' ht, sim_meth hmg hN hdf ho.sim ea_nil.sim⟩
/-- C(..) -/
def eMake (c : Str) (n : Nat) (dfs : List D) (mf : List D → Sto → R D) (ma : AM) : EM := fun ρ S => (ma ρ S).bind fun ds S1 => if ds.length = n then (mf (.obj S1.length :: (ds ++ dfs)) (S1 ++ [.ins c []])).bind fun d S2 => (match d with
  | .non => .ok (.obj S1.length) S2
  | _ => .no) else .no
theorem sim_make {N : Nat} (hm : X.mg c = some (.ref C)) (hN : n + 1 + dvs.length = N) (hdf : ∀ ι H, DRs X.K X.mg ι H dfs dvs) (ha : SimA X.K X.mg W t ma) : SimE X.K X.mg W (tMakeG C (spM X.K X.mg N mf) dvs W t) (eMake c n dfs mf ma) :=
  fun ι S H ρ σ Q s r g => bindA ha s r g fun ds S1 ι1 H1 vs e1 s1 r1 y g1 => by
    split at g1
    · rename_i hn
      intro x dx hx hdx hne
      have ex1 : Ext ι1 H1 ι1 (upd H1 dx (.own x)) := Ext.new hdx
      have sa : SR X.K X.mg ι1 S1 (upd H1 dx (.own x)) := s1.lay hdx
      have hx2 : (upd H1 dx (.own x)) x = none := by rw [upd_ne (Ne.symm hne)]; exact hx
      have ex2 : Ext ι1 (upd H1 dx (.own x)) (ι1 ++ [x]) (upd (upd H1 dx (.own x)) x (.ins C dx [])) := Ext.newI hx2
      have sb : SR X.K X.mg (ι1 ++ [x]) (S1 ++ [.ins c []]) (upd (upd H1 dx (.own x)) x (.ins C dx [])) := sa.push hx2 (.ins hm .nil)
      have lx : (ι1 ++ [x])[S1.length]? = some x := by rw [← s1.len]; simp
      refine spM_of (σ := σ) ?_ sb (.cons (.obj lx) (((y.mono ex1).mono ex2).app (hdf _ _))) ?_
      · rw [List.length_cons, List.length_append, ← y.length]; omega
      · have g2 := Good.mono ex2 (Good.mono ex1 g1)
        cases q : mf (.obj S1.length :: (ds ++ dfs)) (S1 ++ [.ins c []]) with
        | ok d S2 =>
          rw [q] at g2
          intro ι3 H3 e3 s3 v xv
          have g3 := Good.mono e3 g2
          simp only [R.bind] at g3
          split at g3
          · cases xv
            exact ⟨rfl, g3.now s3 _ (.obj (e3.get lx))⟩
          · exact g3.elim
        | ex c' w S2 => rw [q] at g2; exact g2
        | no => rw [q] at g2; exact g2
    · exact g1.elim
theorem ee_make (N : Nat) (c : Str) (dfs : List D) (M : Mk X.K C f) (F : FnG X.prog X.w X.K X.mg X.base k f fd ps (spM X.K X.mg N mf)) (hr : Rm (k + 1) X.A) (hm : X.mg c = some (.ref C)) (hb : Binds X.K fd ps its) (hd : Vals dvs its) (hdf : ∀ ι H, DRs X.K X.mg ι H dfs dvs) (tk' : Takes X W)
    (ha : Ea X W (e :: es) t ma) (hN : n + 1 + dvs.length = N := by rfl) (hg : Gl X c := by rfl) (hdb : (c == ("__debug__" : Str)) = false := by decide) (he : starEach (e :: es) X.env = (false, eval e X.env) :: starEach es X.env := by rfl) (hpl : (backTo pos (starEach es X.env)).any (·.1) = false := by rfl) :
    Ee X W (.Call (.Name c p) (e :: es) [] pos) (tMakeG C (spM X.K X.mg N mf) dvs W t) (eMake c n dfs mf ma) :=
  ⟨pe_makeG M F hr hm hb hd tk' ha.der hg hdb he hpl, sim_make hm hN hdf ha.sim⟩
theorem ee_make0 (N : Nat) (c : Str) (dfs : List D) (M : Mk X.K C f) (F : FnG X.prog X.w X.K X.mg X.base k f fd ps (spM X.K X.mg N mf)) (hr : Rm (k + 1) X.A) (hm : X.mg c = some (.ref C)) (hb : Binds X.K fd ps its) (hd : Vals dvs its) (hdf : ∀ ι H, DRs X.K X.mg ι H dfs dvs) (tk' : Takes X W)
    (hN : 0 + 1 + dvs.length = N := by rfl) (hg : Gl X c := by rfl) (hdb : (c == ("__debug__" : Str)) = false := by decide) :
    Ee X W (.Call (.Name c p) [] [] pos) (tMakeG C (spM X.K X.mg N mf) dvs W tNil) (eMake c 0 dfs mf aNil) :=
  ⟨pe_makeG0 M F hr hm hb hd tk' hg hdb, sim_make hm hN hdf ea_nil.sim⟩
end
/-! ### a def with defaults -/
theorem fn_okD {P : Program} {w : World} {K : PySem.W.Frag} {mg : Str → Option Value} {base : Heap} {x qual : Str} {st : Stmt} {f : Addr} {fd : FuncData} {dvs : List V} {kws : List (Str × V)} {N ps : List Str} {k n : Nat} {b : SM} (F : FunD K x qual (defArgs st) (defBody st) (defScope st) dvs kws f fd) (S : FnScope N ps (defScope st)) (hn : ps.length = n)
    (h : ∀ (cdv : Value) (A : Around) (outer : List PySem.Env) (s : Shared) (H : Hp) (E : XK), Rm k (A.deeper (envOfC qual (defScope st) s.heap.objs.size f cdv)) →
      ∃ t, Ess (cxOf (L2.CX P w) P w K mg base N qual (defScope st) f cdv A outer s H E) (fun cls d _ H' => E cls d H') (defBody st) t b) : FnG P w K mg base (k + 1) f fd ps (spM K mg n (fnM N.length b)) := by
  obtain ⟨oc, od, dV, kV, doc, pm, an, cdv, ct, osl, rfl, lk, hcd, _, _⟩ := F.ex
  refine fn_ofG lk hcd S (fun vs H Q E h => h.1.trans hn.symm) fun A outer s H vs Q E hr h' => ?_
  obtain ⟨t, der, sim⟩ := h cdv A outer s H E hr
  obtain ⟨hl, ι, S0, ds, s0, r0, g⟩ := h'
  have hle : vs.length ≤ N.length := by
    rw [hl, ← hn]
    have := congrArg List.length S.pre
    rw [List.length_take] at this
    omega
  refine ⟨t, der, sim ι S0 H _ _ _ s0 (er_start r0 hle) ?_⟩
  unfold fnM at g
  cases q : b (env0 N.length ds) S0 with
  | nx ρ S' => rw [q] at g; exact fun ι' H' σ' e s r => g ι' H' e s _ .non
  | rt d S' => rw [q] at g; exact fun ι' H' v e s x => g ι' H' e s v x
  | bk ρ S' => rw [q] at g; exact g.elim
  | ct ρ S' => rw [q] at g; exact g.elim
  | ex c w ρ S' => rw [q] at g; exact fun ι' H' σ' C dd v e s z h1 h2 h3 => g ι' H' [] C dd v e s rfl h1 h2 h3
  | no => rw [q] at g; exact g.elim
end Sh

set_option Elab.async false
set_option linter.all false
set_option maxRecDepth 100000
set_option autoImplicit false
namespace Sh
open PySem PySem.Spec PyProof.Rows L2
/-! ### o.pop(i), o.insert(i, y) of lists -/
section
variable {X : Cx} {W : WX} {o e e2 : Expr} {to te te2 : TE} {mo me me2 : EM} {apos cpos : Pos}
def popTo (l : Nat) (y : D) (S : Sto) : R D := match y with
  | .int i => (match S[l]? with
    | some (.lst xs) => if xs.length < 16777216 then (match ixN xs.length i with
      | some k => (match xs[k]? with
        | some d => .ok d (S.set l (.lst (xs.eraseIdx k)))
        | none => .no)
      | none => .no) else .no
    | _ => .no)
  | _ => .no
def ePop (mo me : EM) : EM := fun ρ S => (mo ρ S).bind fun d S1 => match d with
  | .obj l => (match S1[l]? with
    | some (.lst _) => (me ρ S1).bind (popTo l)
    | _ => .no)
  | _ => .no
theorem ee_pop (ho : Ee X W o to mo) (he : Ee X W e te me)
    (hbase : attributeBase o "pop" X.env (eval o X.env) = eval o X.env := by rfl)
    (hfew : ((backTo cpos (starEach (e :: []) X.env)).all (fun x => !x.1) && (backToKw cpos (keywordEach [] X.env)).all (fun x => x.1.isSome)
      && decide ((e :: ([] : List Expr)).length + ([] : List Keyword).length + (if ([] : List Keyword).isEmpty then 0 else 1) < 30)) = true := by rfl)
    (hline : (apos.endLine == cpos.line) = true := by rfl) (hs : starEach (e :: []) X.env = (false, eval e X.env) :: starEach [] X.env := by rfl) (hplain : (backTo cpos (starEach [] X.env)).any (·.1) = false := by rfl) :
    Ee X W (.Call (.Attribute o "pop" apos) [e] [] cpos) (tBM X.K "list" rPopAt to (tCons te tNil)) (ePop mo me) :=
  ⟨pe_bm PySem.F.plainAttrs_list PySem.F.slot_list_pop PySem.F.type_list_pop mt_popAt ho.der (pa_cons he.der pa_nil hs) hbase hfew hline hs hplain, fun ι S H ρ σ Q s r g => bindE ho.sim s r g fun d S1 ι1 H1 v e1 s1 r1 x g1 => by
    split at g1
    · cases x with
      | obj hi =>
      split at g1
      · rename_i xs q1
        obtain ⟨a, vs, ha, hv, rr⟩ := s1.list q1
        rw [hi] at ha; cases ha
        refine ⟨.inl ⟨rfl, vs, SqL.of hv⟩, bindE he.sim s1 r1 g1 fun y S2 ι2 H2 w e2 s2 r2 x2 g2 => ?_⟩
        unfold popTo at g2
        split at g2
        · rename_i i
          split at g2
          · rename_i ys q2
            split at g2
            · rename_i hlen
              split at g2
              · rename_i k hk
                split at g2
                · rename_i d hd
                  obtain ⟨b, ws, hb, hw, rr2⟩ := s2.list q2
                  rw [e2.get hi] at hb; cases hb
                  obtain ⟨u, hu, ru⟩ := rr2.get hd
                  obtain ⟨z1, z2, z3, z4⟩ := ixN_seq hk
                  cases x2
                  have hz : ys.length < 16777216 := hlen
                  exact ⟨_, ws, i, k, u, rfl, rfl, hw, by omega, by omega, by rw [← rr2.length]; exact z1, hu, g2 _ _ (Ext.write hw trivial) (s2.write q2 (e2.get hi) (.lst ((rr2.eraseIdx k).mono (Ext.write hw trivial)))) _ (ru.mono (Ext.write hw trivial))⟩
                · exact g2.elim
              · exact g2.elim
            · exact g2.elim
          · exact g2.elim
        · exact g2.elim
      · exact g1.elim
    · exact g1.elim⟩
def insTo (l : Nat) (i y : D) (S : Sto) : R D := match i with
  | .int i => (match S[l]? with
    | some (.lst xs) => if xs.length < 16777216 ∧ 0 ≤ i ∧ i < 2 ^ 62 then .ok .non (S.set l (.lst (xs.take i.toNat ++ [y] ++ xs.drop i.toNat))) else .no
    | _ => .no)
  | _ => .no
def eIns (mo me me2 : EM) : EM := fun ρ S => (mo ρ S).bind fun d S1 => match d with
  | .obj l => (match S1[l]? with
    | some (.lst _) => (me ρ S1).bind fun i S2 => (me2 ρ S2).bind fun y S3 => insTo l i y S3
    | _ => .no)
  | _ => .no
theorem ee_ins (ho : Ee X W o to mo) (he : Ee X W e te me) (he2 : Ee X W e2 te2 me2)
    (hbase : attributeBase o "insert" X.env (eval o X.env) = eval o X.env := by rfl)
    (hfew : ((backTo cpos (starEach (e :: [e2]) X.env)).all (fun x => !x.1) && (backToKw cpos (keywordEach [] X.env)).all (fun x => x.1.isSome)
      && decide ((e :: ([e2] : List Expr)).length + ([] : List Keyword).length + (if ([] : List Keyword).isEmpty then 0 else 1) < 30)) = true := by rfl)
    (hline : (apos.endLine == cpos.line) = true := by rfl) (hs : starEach (e :: [e2]) X.env = (false, eval e X.env) :: starEach [e2] X.env := by rfl) (hs2 : starEach (e2 :: []) X.env = (false, eval e2 X.env) :: starEach [] X.env := by rfl) (hplain : (backTo cpos (starEach [e2] X.env)).any (·.1) = false := by rfl) :
    Ee X W (.Call (.Attribute o "insert" apos) [e, e2] [] cpos) (tBM X.K "list" (fun x vs H Q => ∃ (l : Addr) (xs : List V) (i : Int) (y : V), x = .ref l ∧ vs = [.int i, y] ∧ H l = some (.lst xs) ∧ xs.length < sizeLine ∧ 0 ≤ i ∧ i < 2 ^ 63 ∧
    Q .non (upd H l (.lst (xs.take i.toNat ++ [y] ++ xs.drop i.toNat)))) to (tCons te (tCons te2 tNil))) (eIns mo me me2) :=
  ⟨pe_bm PySem.F.plainAttrs_list PySem.F.slot_list_insert PySem.F.type_list_insert mt_insert ho.der (pa_cons he.der (pa_cons he2.der pa_nil hs2) hs) hbase hfew hline hs hplain, fun ι S H ρ σ Q s r g => bindE ho.sim s r g fun d S1 ι1 H1 v e1 s1 r1 x g1 => by
    split at g1
    · cases x with
      | obj hi =>
      split at g1
      · rename_i xs q1
        obtain ⟨a, vs, ha, hv, rr⟩ := s1.list q1
        rw [hi] at ha; cases ha
        refine ⟨.inl ⟨rfl, vs, SqL.of hv⟩, bindE he.sim s1 r1 g1 fun i S2 ι2 H2 w e2 s2 r2 x2 g2 => bindE he2.sim s2 r2 g2 fun y S3 ι3 H3 u e3 s3 r3 x3 g3 => ?_⟩
        unfold insTo at g3
        split at g3
        · rename_i i
          cases x2
          split at g3
          · rename_i ys q2
            split at g3
            · rename_i hh
              obtain ⟨b, ws, hb, hw, rr2⟩ := s3.list q2
              rw [(e2.trans e3).get hi] at hb; cases hb
              refine ⟨_, ws, i, u, rfl, rfl, hw, by rw [szl, ← rr2.length]; exact hh.1, hh.2.1, by omega, ?_⟩
              exact g3 _ _ (Ext.write hw trivial) (s3.write q2 ((e2.trans e3).get hi) (.lst ((((rr2.take _).app (.cons x3 .nil)).app (rr2.drop _)).mono (Ext.write hw trivial)))) _ .non
            · exact g3.elim
          · exact g3.elim
        · exact g3.elim
      · exact g1.elim
    · exact g1.elim⟩
/-! ### sorted(..) of numbers -/
def intD : D → Option Int
  | .int i => some i
  | _ => none
theorem ints_of {K : PySem.W.Frag} {mg : Str → Option Value} {ι : List Addr} {H : Hp} : ∀ {ds : List D} {vs : List V} {ns : List Int}, DRs K mg ι H ds vs → optAll intD ds = some ns → vs = ns.map V.int
  | _, _, _, .nil, h => by simp [optAll] at h; subst h; rfl
  | d :: ds, _, ns, .cons x xs, h => by
    unfold optAll at h
    split at h
    · rename_i i is q q2
      cases h
      cases d with
      | int j =>
        simp only [intD, Option.some.injEq] at q
        subst q
        cases x
        rw [List.map_cons, ints_of xs q2]
      | _ => simp [intD] at q
    · cases h
def gSortI (ds : List D) (S : Sto) : R D := match ds with
  | [.obj i] => (match S[i]? with
    | some (.lst xs) => (match optAll intD xs with
      | some ns => .ok (.obj S.length) (S ++ [.lst ((PySem.W.sortI ns).map .int)])
      | none => .no)
    | _ => .no)
  | _ => .no
theorem cs_sortI {k : Nat} (hr : Rm k X.A) : CaS X W (.builtin "sorted") (rSortedI X.K) gSortI := by
  refine ⟨by first | exact cr_sortedI | exact cr_sortedI (by rfl) | exact cr_sortedI hr.room, fun ι S H σ xs ds Q s x g => ?_⟩
  unfold gSortI at g
  split at g
  · rename_i i
    obtain ⟨v, rfl, y⟩ := x.one
    cases y with
    | obj hi =>
    split at g
    · rename_i ys q
      split at g
      · rename_i ns q2
        obtain ⟨a, vs, ha, hv, rr⟩ := s.list q
        rw [hi] at ha; cases ha
        obtain rfl := ints_of rr q2
        refine ⟨_, ns, rfl, SqL.of hv, fun ns' p hp hs hn => ?_⟩
        rw [PySem.W.eq_sortI hp hs]
        exact g _ _ (Ext.newI hn) (s.push hn (.lst (ints_DR _))) _ (.obj s.last)
      · exact g.elim
    · exact g.elim
  · exact g.elim
/-! ### list(range(..)) -/
def rgD (a b : Int) : List D := (List.range (b - a).toNat).map fun i => D.int (a + (i : Nat))
theorem rgD_rel {K : PySem.W.Frag} {mg : Str → Option Value} {ι : List Addr} {H : Hp} (a b : Int) : DRs K mg ι H (rgD a b) (rgV a b) := by
  unfold rgD rgV
  have : ∀ l : List Nat, DRs K mg ι H (l.map fun i => D.int (a + (i : Nat))) (l.map fun i => V.int (a + (i : Nat))) := by
    intro l
    induction l with
    | nil => exact .nil
    | cons x l ih => exact .cons (.int _) ih
  exact this _
def eLstRg (ma : AM) : EM := fun ρ S => (ma ρ S).bind fun ds S1 => match ds with
  | [.int n] => if 0 ≤ n ∧ n ≤ 16777216 then .ok (.obj S1.length) (S1 ++ [.lst (rgD 0 n)]) else .no
  | [.int i, .int j] => if 0 ≤ i ∧ i ≤ 16777216 ∧ 0 ≤ j ∧ j ≤ 16777216 then .ok (.obj S1.length) (S1 ++ [.lst (rgD i j)]) else .no
  | _ => .no
theorem ee_lstRg1 {p p2 pos pos2 : Pos} (hc : X.calm = true) (hm : X.mg "list" = none) (hm2 : X.mg "range" = none) (he : Ee X W e te me) (hg : Gl X "list" := by rfl) (hg2 : Gl X "range" := by rfl)
    (na : starEach [e] X.env = (false, eval e X.env) :: starEach [] X.env := by rfl)
    (nb : starEach [.Call (.Name "range" p2) [e] [] pos2] X.env = (false, eval (.Call (.Name "range" p2) [e] [] pos2) X.env) :: starEach [] X.env := by rfl) :
    Ee X W (.Call (.Name "list" p) [.Call (.Name "range" p2) [e] [] pos2] [] pos) (tLstRg (tRg1 te)) (eLstRg (aCons me aNil)) :=
  ⟨pe_listRg hc hg hm (prg_1 hg2 hm2 he.der na) nb, fun ι S H ρ σ Q s r g => by
    have g0 : Good X.K X.mg W ι H σ (QV X.K X.mg Q) ((me ρ S).bind fun d S1 => match [d] with
      | [.int n] => if 0 ≤ n ∧ n ≤ 16777216 then .ok (.obj S1.length) (S1 ++ [.lst (rgD 0 n)]) else .no
      | [.int i, .int j] => if 0 ≤ i ∧ i ≤ 16777216 ∧ 0 ≤ j ∧ j ≤ 16777216 then .ok (.obj S1.length) (S1 ++ [.lst (rgD i j)]) else .no
      | _ => .no) := by
      unfold eLstRg aCons aNil at g
      cases q : me ρ S with
      | ok d S1 => rw [q] at g; exact g
      | ex c w S1 => rw [q] at g; exact g
      | no => rw [q] at g; exact g
    refine bindE he.sim s r g0 fun d S1 ι1 H1 v e1 s1 r1 x g1 => ?_
    cases d with
    | int n =>
      simp only at g1
      split at g1
      · rename_i hh
        cases x
        exact ⟨n, rfl, RgOk.of_le (by omega) (by omega) (by omega) (by omega), fun q hq => g1 _ _ (Ext.newI hq) (s1.push hq (.lst (rgD_rel 0 n))) _ (.obj s1.last)⟩
      · exact g1.elim
    | _ => exact g1.elim⟩
end
/-! ### {k: v for .. in ..}, keys texts or numbers -/
def cLoopD (di : DI) (gm : GM) (tm : TM) (mk mv : EM) (l : Nat) : Nat → Nat → Env → Sto → R D
  | 0, _ => fun _ _ => .no
  | n + 1, i => fun ρ S => match di i S with
    | some (some d) => (match gx (gm d ρ S) with
      | .nx ρ1 S1 => (match tm ρ1 S1 with
        | .ok b S2 => if b = true then (match mk ρ1 S2 with
            | .ok y S3 => (match mv ρ1 S3 with
              | .ok z S4 => (match S4[l]?, dKey y with
                | some (.dK acc), some k => if acc.length < 16777216 then cLoopD di gm tm mk mv l n (i + 1) ρ (S4.set l (.dK (kput acc k z))) else .no
                | _, _ => .no)
              | _ => .no)
            | _ => .no)
          else cLoopD di gm tm mk mv l n (i + 1) ρ S2
        | _ => .no)
      | _ => .no)
    | some none => .ok (.obj l) S
    | none => .no
def eDComp (n : Nat) (vs : List Nat) (mi : IM) (gm : GM) (tm : TM) (mk mv : EM) : EM := fun ρ S => (mi ρ S).bind fun di S1 => cLoopD di gm tm mk mv S1.length n 0 (wipeE ρ vs) (S1 ++ [.dK []])
theorem sim_dcomp {K : PySem.W.Frag} {mg : Str → Option Value} {W : WX} {wi : TI} {mi : IM} {g : TG} {gm : GM} {is : List Nat} {tt : TT} {tm : TM} {tk tv : TE} {mk mv : EM} {vs : List Nat} (n : Nat)
    (hi : SimI K mg W wi mi) (hg : SimG K mg WF g gm is) (ht : SimT K mg WF tt tm) (hk : SimE K mg WF tk mk) (he : SimE K mg WF tv mv) (his : ∀ i ∈ is, i ∈ vs) : SimE K mg W (tDc wi g tt tk tv vs) (eDComp n vs mi gm tm mk mv) := fun ι S H ρ σ Q s r gg => by
  refine hi ι S H ρ σ _ s r ?_
  unfold eDComp at gg
  cases q : mi ρ S with
  | no => rw [q] at gg; exact gg.elim
  | ex c w S1 => rw [q] at gg; exact gg
  | ok di S1 =>
  rw [q] at gg
  intro ι1 H1 e1 s1 J hJ Dd hD
  have s2 : SR K mg (ι1 ++ [Dd]) (S1 ++ [.dK []]) (upd H1 Dd (.dK [])) := s1.push hD (.dK .nil)
  have e2 : Ext ι1 H1 (ι1 ++ [Dd]) (upd H1 Dd (.dK [])) := Ext.newI hD
  have hl : (ι1 ++ [Dd])[S1.length]? = some Dd := s1.last
  refine ⟨fun i n' H' => ∃ ι' S', Ext (ι1 ++ [Dd]) (upd H1 Dd (.dK [])) ι' H' ∧ SR K mg ι' S' H' ∧ Good K mg W ι' H' σ (QV K mg Q) (cLoopD di gm tm mk mv S1.length n' i (wipeE ρ vs) S'),
    ⟨n, _, _, Ext.refl _ _, s2, Good.mono (e1.trans e2) gg⟩, ?_⟩
  rintro i n' H' ⟨ι', S', e', s', g'⟩
  have e1' := e1.trans (e2.trans e')
  have r' := r.mono e1'
  have eJ := e2.trans e'
  cases n' with
  | zero => exact g'.elim
  | succ n' =>
  unfold cLoopD at g'
  cases qd : di i S' with
  | none => rw [qd] at g'; exact g'.elim
  | some o =>
  cases o with
  | none =>
    rw [qd] at g'
    exact .inl ⟨hJ.stop ι' S' H' i eJ s' qd, g'.now s' _ (.obj (e'.get hl))⟩
  | some d =>
  rw [qd] at g'
  refine .inr ⟨hJ.go ι' S' H' i d eJ s' qd, fun H2 => ∃ ι2 S2, Ext (ι1 ++ [Dd]) (upd H1 Dd (.dK [])) ι2 H2 ∧ SR K mg ι2 S2 H2 ∧ Good K mg W ι2 H2 σ (QV K mg Q) (cLoopD di gm tm mk mv S1.length n' (i + 1) (wipeE ρ vs) S2), fun H2 h => ⟨n', Nat.lt_succ_self _, h⟩, fun x H2 hy => ?_⟩
  obtain ⟨e3, s3, x3⟩ := hJ.yld ι' S' H' i d x H2 eJ s' qd hy
  refine hg ι' S' H2 (wipeE ρ vs) (wipe σ vs) d x _ s3 ((r'.mono e3).wipe vs) x3 ?_
  have g2 := Good.mono e3 g'
  simp only at g2
  cases q3 : gm d (wipeE ρ vs) S' with
  | nx ρ1 S3 =>
    rw [q3] at g2
    intro ι3 H3 σ3 e4 s4 r4 hw
    refine ⟨(hw vs his).trans (wipe_wipe fun u h => h), ?_⟩
    have g3 := Good.mono e4 g2
    simp only [gx] at g3
    refine ht ι3 S3 H3 ρ1 σ3 _ s4 r4 ?_
    cases q4 : tm ρ1 S3 with
    | no => rw [q4] at g3; exact g3.elim
    | ex c w S4 => rw [q4] at g3; exact g3.elim
    | ok b S4 =>
    rw [q4] at g3
    intro ι4 H4 e5 s5
    have g4 := Good.mono e5 g3
    simp only at g4
    have e45 := e'.trans (e3.trans (e4.trans e5))
    cases b with
    | false =>
      exact iteF ⟨ι4, S4, e45, s5, g4⟩
    | true =>
      refine iteT (hk ι4 S4 H4 ρ1 σ3 _ s5 (r4.mono e5) ?_)
      simp only [if_true] at g4
      cases q5 : mk ρ1 S4 with
      | no => rw [q5] at g4; exact g4.elim
      | ex c w S5 => rw [q5] at g4; exact g4.elim
      | ok y S5 =>
      rw [q5] at g4
      intro ι5 H5 e6 s6 v x6
      have g5 := Good.mono e6 g4
      simp only at g5
      refine he ι5 S5 H5 ρ1 σ3 _ s6 ((r4.mono e5).mono e6) ?_
      cases q6 : mv ρ1 S5 with
      | no => rw [q6] at g5; exact g5.elim
      | ex c w S6 => rw [q6] at g5; exact g5.elim
      | ok z S6 =>
      rw [q6] at g5
      intro ι6 H6 e7 s7 u x7
      have g6 := Good.mono e7 g5
      simp only at g6
      split at g6
      · rename_i acc k hacc hkey
        split at g6
        · rename_i hlen
          have hl5 : ι6[S1.length]? = some Dd := ((e45.trans e6).trans e7).get hl
          obtain ⟨a, ws, ha, hv, rr⟩ := s7.dictK hacc
          rw [hl5] at ha; cases ha
          have hky := dKey_rel x6 hkey
          refine ⟨ws, k, hky, hv, by rw [szl, ← rr.len']; exact hlen, ι6, _, ((e45.trans e6).trans e7).trans (Ext.write hv trivial), s7.write hacc hl5 (.dK (KR.put k (x7.mono (Ext.write hv trivial)) (rr.mono (Ext.write hv trivial)))), Good.mono (Ext.write hv trivial) g6⟩
        · exact g6.elim
      · exact g6.elim
  | rt d S3 => rw [q3] at g2; exact g2.elim
  | bk _ _ => rw [q3] at g2; exact g2.elim
  | ct _ _ => rw [q3] at g2; exact g2.elim
  | ex c w ρ1 S3 => rw [q3] at g2; exact g2.elim
  | no => rw [q3] at g2; exact g2.elim
section
variable {X : Cx} {W : WX} {kx vx tg iter : Expr} {ifs : List Expr} {scope : Scope} {own : List (Str × Nat)} {pos spos : Pos} {wi : TI} {mi : IM} {gm : GM} {is : List Nat} {tm : TM} {mk mv : EM}
theorem ee_dcompK (n : Nat) (hc : X.calm = true) (hN : X.N.Nodup) (hi : Ei X W tg iter wi mi) (ok : BlkOk X.N X.env.scope scope own)
    (hg : ∀ (s : Shared) (H : Hp) (C : Addr) (cl : List (Str × Addr)) (fp : List Addr), ∃ g, Eg (X.blk s H scope (compEnvC scope cl C X.env) fp) WF tg g gm is)
    (ht : ∀ (s : Shared) (H : Hp) (C : Addr) (cl : List (Str × Addr)) (fp : List Addr), ∃ tt, Etts (X.blk s H scope (compEnvC scope cl C X.env) fp) WF ifs tt tm)
    (hk : ∀ (s : Shared) (H : Hp) (C : Addr) (cl : List (Str × Addr)) (fp : List Addr), ∃ te, Ee (X.blk s H scope (compEnvC scope cl C X.env) fp) WF kx te mk)
    (he : ∀ (s : Shared) (H : Hp) (C : Addr) (cl : List (Str × Addr)) (fp : List Addr), ∃ te, Ee (X.blk s H scope (compEnvC scope cl C X.env) fp) WF vx te mv)
    (his : ∀ i ∈ is, i ∈ own.map (·.2) := by decide) (hs : ∀ x, foldedSetIterable iter X.env x = pure x := by intro _; rfl) :
    Ee X W (.DictComp kx vx [⟨tg, iter, ifs, 0⟩] scope pos) (tDc wi (kG X.K X.mg WF gm is) (kT X.K X.mg WF tm) (kE X.K X.mg WF mk) (kE X.K X.mg WF mv) (own.map (·.2))) (eDComp n (own.map (·.2)) mi gm tm mk mv) :=
  ⟨pe_dc hc hN hi.der ok (fun a b c d e => let ⟨_, h⟩ := hg a b c d e; h.k.der) (fun a b c d e => let ⟨_, h⟩ := ht a b c d e; h.k.der) (fun a b c d e => let ⟨_, h⟩ := hk a b c d e; h.k.der) (fun a b c d e => let ⟨_, h⟩ := he a b c d e; h.k.der) hs,
    sim_dcomp n hi.sim (let ⟨_, h⟩ := hg X.s_0 X.H_0 0 [] []; h.k.sim) (let ⟨_, h⟩ := ht X.s_0 X.H_0 0 [] []; h.k.sim) (let ⟨_, h⟩ := hk X.s_0 X.H_0 0 [] []; h.k.sim) (let ⟨_, h⟩ := he X.s_0 X.H_0 0 [] []; h.k.sim) his⟩
end
end Sh

set_option Elab.async false
set_option linter.all false
set_option maxRecDepth 100000
set_option autoImplicit false
namespace Sh
open PySem PySem.Spec PyProof.Rows L2
/-- how a method's or a class's call fills up by defaults -/
def BindsE (K : PySem.W.Frag) (fd : FuncData) (ps : List Str) (dvs : List V) : Prop := ∃ its, Vals dvs its ∧ Binds K fd ps its
theorem binds_none {K : PySem.W.Frag} {fd : FuncData} {ps : List Str} (h : Binds K fd ps []) : BindsE K fd ps [] := ⟨[], .nil, h⟩
section
variable {X : Cx} {W : WX} {C f : Addr} {k n : Nat} {fd : FuncData} {ps : List Str} {dvs : List V} {dfs : List D} {x m : Str} {p pos apos : Pos} {e o : Expr} {es : List Expr} {ta : TE} {t : TA} {ma : AM} {mo : EM} {mf : List D → Sto → R D}
theorem ee_methE (N : Nat) (c : Str) (dfs : List D) {pl : Sem Bool} (hmg : X.mg c = some (.ref C)) (cl : Cls X.K C) (hm : Meth X.K C m f) (F : FnG X.prog X.w X.K X.mg X.base k f fd ps (spM X.K X.mg N mf)) (hr : Rm k X.A) (hb : BindsE X.K fd ps dvs) (hdf : ∀ ι H, DRs X.K X.mg ι H dfs dvs) (tk' : Takes X W)
    (ho : Ee X W o ta mo) (ha : Ea X W (e :: es) t ma) (hN : n + 1 + dvs.length = N := by rfl)
    (hst : starEach (e :: es) X.env = (false, eval e X.env) :: starEach es X.env := by rfl) (hpl : (backTo pos (starEach es X.env)).any (·.1) = false := by rfl)
    (ht : eval (.Call (.Attribute o m apos) (e :: es) [] pos) X.env = (do
      let ov ← eval o X.env
      standAt apos.atName
      let (f, first) ← holding [ov] (getMethod ov m pl)
      callWith pos f first (backTo pos (starEach (e :: es) X.env)) (backToKw pos (keywordEach [] X.env))) := by rfl) :
    Ee X W (.Call (.Attribute o m apos) (e :: es) [] pos) (tMethG C m (spM X.K X.mg N mf) dvs W ta t) (eMeth c m n dfs mf mo ma) :=
  let ⟨_, hd, hb⟩ := hb; ee_meth N c dfs hmg cl hm F hr hb hd hdf tk' ho ha hN hst hpl ht
theorem ee_methE0 (N : Nat) (c : Str) (dfs : List D) {pl : Sem Bool} (hmg : X.mg c = some (.ref C)) (cl : Cls X.K C) (hm : Meth X.K C m f) (F : FnG X.prog X.w X.K X.mg X.base k f fd ps (spM X.K X.mg N mf)) (hr : Rm k X.A) (hb : BindsE X.K fd ps dvs) (hdf : ∀ ι H, DRs X.K X.mg ι H dfs dvs) (tk' : Takes X W)
    (ho : Ee X W o ta mo) (hN : 0 + 1 + dvs.length = N := by rfl)
    (ht : eval (.Call (.Attribute o m apos) [] [] pos) X.env = (do
      let ov ← eval o X.env
      standAt apos.atName
      let (f, first) ← holding [ov] (getMethod ov m pl)
      callWith pos f first (backTo pos (starEach [] X.env)) (backToKw pos (keywordEach [] X.env))) := by rfl) :
    Ee X W (.Call (.Attribute o m apos) [] [] pos) (tMethG C m (spM X.K X.mg N mf) dvs W ta tNil) (eMeth c m 0 dfs mf mo aNil) :=
  let ⟨_, hd, hb⟩ := hb; ee_meth0 N c dfs hmg cl hm F hr hb hd hdf tk' ho hN ht
theorem ee_makeE (N : Nat) (c : Str) (dfs : List D) (M : Mk X.K C f) (F : FnG X.prog X.w X.K X.mg X.base k f fd ps (spM X.K X.mg N mf)) (hr : Rm (k + 1) X.A) (hm : X.mg c = some (.ref C)) (hb : BindsE X.K fd ps dvs) (hdf : ∀ ι H, DRs X.K X.mg ι H dfs dvs) (tk' : Takes X W)
    (ha : Ea X W (e :: es) t ma) (hN : n + 1 + dvs.length = N := by rfl) (hg : Gl X c := by rfl) (hdb : (c == ("__debug__" : Str)) = false := by decide) (he : starEach (e :: es) X.env = (false, eval e X.env) :: starEach es X.env := by rfl) (hpl : (backTo pos (starEach es X.env)).any (·.1) = false := by rfl) :
    Ee X W (.Call (.Name c p) (e :: es) [] pos) (tMakeG C (spM X.K X.mg N mf) dvs W t) (eMake c n dfs mf ma) :=
  let ⟨_, hd, hb⟩ := hb; ee_make N c dfs M F hr hm hb hd hdf tk' ha hN hg hdb he hpl
theorem ee_makeE0 (N : Nat) (c : Str) (dfs : List D) (M : Mk X.K C f) (F : FnG X.prog X.w X.K X.mg X.base k f fd ps (spM X.K X.mg N mf)) (hr : Rm (k + 1) X.A) (hm : X.mg c = some (.ref C)) (hb : BindsE X.K fd ps dvs) (hdf : ∀ ι H, DRs X.K X.mg ι H dfs dvs) (tk' : Takes X W)
    (hN : 0 + 1 + dvs.length = N := by rfl) (hg : Gl X c := by rfl) (hdb : (c == ("__debug__" : Str)) = false := by decide) :
    Ee X W (.Call (.Name c p) [] [] pos) (tMakeG C (spM X.K X.mg N mf) dvs W tNil) (eMake c 0 dfs mf aNil) :=
  let ⟨_, hd, hb⟩ := hb; ee_make0 N c dfs M F hr hm hb hd hdf tk' hN hg hdb
end
theorem drs_ints {K : PySem.W.Frag} {mg : Str → Option Value} (is : List Int) : ∀ ι H, DRs K mg ι H (is.map D.int) (is.map V.int) := fun ι H => by
  induction is with
  | nil => exact .nil
  | cons i is ih => exact .cons (.int i) ih
theorem drs_nil {K : PySem.W.Frag} {mg : Str → Option Value} : ∀ ι H, DRs K mg ι H [] [] := fun _ _ => .nil
theorem fn_okD2 {P : Program} {w : World} {K : PySem.W.Frag} {mg : Str → Option Value} {base : Heap} {x qual : Str} {st : Stmt} {f : Addr} {fd : FuncData} {dvs : List V} {kws : List (Str × V)} {N ps : List Str} {k n : Nat} {b : SM} (F : FunD K x qual (defArgs st) (defBody st) (defScope st) dvs kws f fd) (S : FnScope N ps (defScope st)) (hn : ps.length = n)
    (h : ∀ (cdv : Value) (A : Around) (outer : List PySem.Env) (s : Shared) (H : Hp) (E : XK), Rm k (A.deeper (envOfC qual (defScope st) s.heap.objs.size f cdv)) →
      Takes (cxOf (L2.CX P w) P w K mg base N qual (defScope st) f cdv A outer s H E) (fun cls d _ H' => E cls d H') →
      PassesOwn (model P w) (A.deeper (envOfC qual (defScope st) s.heap.objs.size f cdv)) (cxOf (L2.CX P w) P w K mg base N qual (defScope st) f cdv A outer s H E).env (cxOf (L2.CX P w) P w K mg base N qual (defScope st) f cdv A outer s H E).xe → N.Nodup →
      ∃ t, Ess (cxOf (L2.CX P w) P w K mg base N qual (defScope st) f cdv A outer s H E) (fun cls d _ H' => E cls d H') (defBody st) t b) : FnG P w K mg base (k + 1) f fd ps (spM K mg n (fnM N.length b)) :=
  fn_okD F S hn fun cdv A outer s H E hr => h cdv A outer s H E hr (takes_of rfl rfl rfl rfl) (passes_of rfl) S.nd
theorem fund_mk {K : PySem.W.Frag} {x qual : Str} {st : Stmt} {f T : Addr} {oc : Value} {od an dc : Option Addr} {osl sl : Array (Option Value)} {kV doc pm cdv ct c : Value} {it : Array Value} {n : Nat} {dvs : List V} (l : K.lookup f = some ⟨oc, od, .func (PySem.W.fnOf x qual (defArgs st) (defBody st) (defScope st) (.ref T) kV doc pm an cdv ct), osl⟩)
    (cd : PySem.W.codeIn K cdv qual = true) (k : PySem.W.keepIn K (.ref f) = true) (hd : dvs ≠ []) (lT : K.lookup T = some ⟨c, dc, .seq it n, sl⟩) (hv : Vals dvs it.toList) : FunD K x qual (defArgs st) (defBody st) (defScope st) dvs [] f (PySem.W.fnOf x qual (defArgs st) (defBody st) (defScope st) (.ref T) kV doc pm an cdv ct) :=
  ⟨⟨oc, od, .ref T, kV, doc, pm, an, cdv, ct, osl, rfl, l, cd, .inr ⟨hd, T, _, it.toList, n, rfl, lT, rfl, hv⟩, .inl rfl⟩, k⟩
end Sh

set_option Elab.async false
set_option linter.all false
set_option maxRecDepth 100000
set_option autoImplicit false
namespace Sh
open PySem PySem.Spec PyProof.Rows L2
/-! ### what holds behind a computation -/
inductive Fx {β : Type} (x : β) : Type
  | mk
def R.wpv {α : Type} (r : R α) (P : α → Sto → Prop) (E : Str → D → Sto → Prop) : Prop := match r with
  | .ok a S => P a S
  | .ex c w S => E c w S
  | .no => False
/-- a word of its own, so that nothing unfolds it -/
structure R.wp {α : Type} (r : R α) (P : α → Sto → Prop) (E : Str → D → Sto → Prop) (fP : Fx P := .mk) (fE : Fx E := .mk) : Prop where
  go : R.wpv r P E
structure Po where
  nx : Env → Sto → Prop
  rt : D → Sto → Prop
  bk : Env → Sto → Prop
  ct : Env → Sto → Prop
  ex : Str → D → Env → Sto → Prop
def RS.wpv (r : RS) (p : Po) : Prop := match r with
  | .nx ρ S => p.nx ρ S
  | .rt d S => p.rt d S
  | .bk ρ S => p.bk ρ S
  | .ct ρ S => p.ct ρ S
  | .ex c w ρ S => p.ex c w ρ S
  | .no => False
structure RS.wp (r : RS) (p : Po) (fp : Fx p := .mk) : Prop where
  go : RS.wpv r p
abbrev NoE : Str → D → Sto → Prop := fun _ _ _ => False
section
variable {α β : Type} {P : α → Sto → Prop} {E : Str → D → Sto → Prop} {p : Po}
theorem wp_eq {r : R α} {P' : α → Sto → Prop} (h : ∀ a S, P a S = P' a S) : r.wp P E = r.wp P' E := by
  have e : P = P' := funext fun a => funext fun S => h a S
  subst e
  rfl
theorem wp_ok {a : α} {S : Sto} : (R.ok a S).wp P E = P a S := propext ⟨fun h => h.go, fun h => ⟨h⟩⟩
theorem wp_ex {c : Str} {w : D} {S : Sto} : (R.ex c w S : R α).wp P E = E c w S := propext ⟨fun h => h.go, fun h => ⟨h⟩⟩
theorem wp_no : (R.no : R α).wp P E = False := propext ⟨fun h => h.go, fun h => ⟨h⟩⟩
theorem wp_bind {r : R β} {k : β → Sto → R α} : (r.bind k).wp P E = r.wp (fun a S => (k a S).wp P E) E := by
  cases r with
  | ok a S => exact propext ⟨fun h => ⟨h⟩, fun h => h.go⟩
  | ex c w S => exact propext ⟨fun h => ⟨h.go⟩, fun h => ⟨h.go⟩⟩
  | no => exact propext ⟨fun h => ⟨h.go⟩, fun h => ⟨h.go⟩⟩
theorem R.wp.imp {r : R α} {P' : α → Sto → Prop} {E' : Str → D → Sto → Prop} (h : r.wp P E) (hp : ∀ a S, P a S → P' a S) (he : ∀ c w S, E c w S → E' c w S) : r.wp P' E' := by
  cases r with
  | ok a S => exact ⟨hp a S h.go⟩
  | ex c w S => exact ⟨he c w S h.go⟩
  | no => exact h.go.elim
theorem R.wp.ok {r : R α} (h : r.wp P NoE) : ∃ a S, r = .ok a S ∧ P a S := by
  cases r with
  | ok a S => exact ⟨a, S, rfl, h.go⟩
  | ex c w S => exact h.go.elim
  | no => exact h.go.elim
theorem ws_nx {ρ : Env} {S : Sto} : (RS.nx ρ S).wp p = p.nx ρ S := propext ⟨fun h => h.go, fun h => ⟨h⟩⟩
theorem ws_rt {d : D} {S : Sto} : (RS.rt d S).wp p = p.rt d S := propext ⟨fun h => h.go, fun h => ⟨h⟩⟩
theorem ws_bk {ρ : Env} {S : Sto} : (RS.bk ρ S).wp p = p.bk ρ S := propext ⟨fun h => h.go, fun h => ⟨h⟩⟩
theorem ws_ct {ρ : Env} {S : Sto} : (RS.ct ρ S).wp p = p.ct ρ S := propext ⟨fun h => h.go, fun h => ⟨h⟩⟩
theorem ws_ex {c : Str} {w : D} {ρ : Env} {S : Sto} : (RS.ex c w ρ S).wp p = p.ex c w ρ S := propext ⟨fun h => h.go, fun h => ⟨h⟩⟩
theorem ws_no : (RS.no).wp p = False := propext ⟨fun h => h.go, fun h => ⟨h⟩⟩
theorem RS.wp.imp {r : RS} {q : Po} (h : r.wp p) (h1 : ∀ a S, p.nx a S → q.nx a S) (h2 : ∀ a S, p.rt a S → q.rt a S) (h3 : ∀ a S, p.bk a S → q.bk a S) (h4 : ∀ a S, p.ct a S → q.ct a S) (h5 : ∀ c w ρ S, p.ex c w ρ S → q.ex c w ρ S) : r.wp q := by
  cases r with
  | nx ρ S => exact ⟨h1 _ _ h.go⟩
  | rt ρ S => exact ⟨h2 _ _ h.go⟩
  | bk ρ S => exact ⟨h3 _ _ h.go⟩
  | ct ρ S => exact ⟨h4 _ _ h.go⟩
  | ex c w ρ S => exact ⟨h5 _ _ _ _ h.go⟩
  | no => exact h.go.elim
theorem ws_to {r : R α} {ρ : Env} {k : α → Sto → RS} : (r.to ρ k).wp p = r.wp (fun a S => (k a S).wp p) (fun c w S => p.ex c w ρ S) := by
  cases r with
  | ok a S => exact propext ⟨fun h => ⟨h⟩, fun h => h.go⟩
  | ex c w S => exact propext ⟨fun h => ⟨h.go⟩, fun h => ⟨h.go⟩⟩
  | no => exact propext ⟨fun h => ⟨h.go⟩, fun h => ⟨h.go⟩⟩
theorem ws_seq {m n : SM} {ρ : Env} {S : Sto} : (sSeq m n ρ S).wp p = (m ρ S).wp ⟨fun ρ' S' => (n ρ' S').wp p, p.rt, p.bk, p.ct, p.ex⟩ := by
  unfold sSeq
  cases m ρ S with
  | nx ρ S => exact propext ⟨fun h => ⟨h⟩, fun h => h.go⟩
  | rt ρ S => exact propext ⟨fun h => ⟨h.go⟩, fun h => ⟨h.go⟩⟩
  | bk ρ S => exact propext ⟨fun h => ⟨h.go⟩, fun h => ⟨h.go⟩⟩
  | ct ρ S => exact propext ⟨fun h => ⟨h.go⟩, fun h => ⟨h.go⟩⟩
  | ex c w ρ S => exact propext ⟨fun h => ⟨h.go⟩, fun h => ⟨h.go⟩⟩
  | no => exact propext ⟨fun h => ⟨h.go⟩, fun h => ⟨h.go⟩⟩
theorem ws_gx {r : RS} : (gx r).wp p = r.wp ⟨p.nx, fun _ _ => False, fun _ _ => False, fun _ _ => False, p.ex⟩ := by
  cases r with
  | nx ρ S => exact propext ⟨fun h => ⟨h.go⟩, fun h => ⟨h.go⟩⟩
  | rt ρ S => exact propext ⟨fun h => ⟨h.go⟩, fun h => ⟨h.go⟩⟩
  | bk ρ S => exact propext ⟨fun h => ⟨h.go⟩, fun h => ⟨h.go⟩⟩
  | ct ρ S => exact propext ⟨fun h => ⟨h.go⟩, fun h => ⟨h.go⟩⟩
  | ex c w ρ S => exact propext ⟨fun h => ⟨h.go⟩, fun h => ⟨h.go⟩⟩
  | no => exact propext ⟨fun h => ⟨h.go⟩, fun h => ⟨h.go⟩⟩
theorem wp_fnM {n : Nat} {b : SM} {ds : List D} {S : Sto} {P : D → Sto → Prop} : (fnM n b ds S).wp P E = (b (env0 n ds) S).wp ⟨fun _ S' => P .non S', P, fun _ _ => False, fun _ _ => False, fun c w _ S' => E c w S'⟩ := by
  unfold fnM
  cases b (env0 n ds) S with
  | nx ρ S => exact propext ⟨fun h => ⟨h.go⟩, fun h => ⟨h.go⟩⟩
  | rt ρ S => exact propext ⟨fun h => ⟨h.go⟩, fun h => ⟨h.go⟩⟩
  | bk ρ S => exact propext ⟨fun h => ⟨h.go⟩, fun h => ⟨h.go⟩⟩
  | ct ρ S => exact propext ⟨fun h => ⟨h.go⟩, fun h => ⟨h.go⟩⟩
  | ex c w ρ S => exact propext ⟨fun h => ⟨h.go⟩, fun h => ⟨h.go⟩⟩
  | no => exact propext ⟨fun h => ⟨h.go⟩, fun h => ⟨h.go⟩⟩
theorem wp_ite {c : Prop} [Decidable c] {a b : R α} : (if c then a else b).wp P E = if c then a.wp P E else b.wp P E := by split <;> rfl
theorem ws_ite {c : Prop} [Decidable c] {a b : RS} : (if c then a else b).wp p = if c then a.wp p else b.wp p := by split <;> rfl
/-! ### steps -/
variable {ρ : Env} {S : Sto}
theorem w_var {i : Nat} {d : D} {P : D → Sto → Prop} (h : ρ[i]? = some (some d)) : (eVar i ρ S).wp P E = P d S := by unfold eVar; rw [h]; exact wp_ok
theorem w_lit {d : D} {P : D → Sto → Prop} : (eLit d ρ S).wp P E = P d S := wp_ok
theorem w_anil {P : List D → Sto → Prop} : (aNil ρ S).wp P E = P [] S := wp_ok
theorem w_acons {a : EM} {r : AM} {P : List D → Sto → Prop} : (aCons a r ρ S).wp P E = (a ρ S).wp (fun d S1 => (r ρ S1).wp (fun ds S2 => P (d :: ds) S2) E) E := by
  unfold aCons
  rw [wp_bind]
  refine wp_eq fun d S1 => ?_
  rw [wp_bind]
  refine wp_eq fun d S1 => ?_
  exact wp_ok
theorem w_bin {f : D → D → Sto → R D} {a b : EM} {P : D → Sto → Prop} : (eBin f a b ρ S).wp P E = (a ρ S).wp (fun x S1 => (b ρ S1).wp (fun y S2 => (f x y S2).wp P E) E) E := by
  unfold eBin
  rw [wp_bind]
  refine wp_eq fun d S1 => ?_
  rw [wp_bind]
theorem w_cb {g : List D → Sto → R D} {m : AM} {P : D → Sto → Prop} : (eCb g m ρ S).wp P E = (m ρ S).wp (fun ds S1 => (g ds S1).wp P E) E := by unfold eCb; rw [wp_bind]
theorem w_tup {m : AM} {P : D → Sto → Prop} : (eTup m ρ S).wp P E = (m ρ S).wp (fun ds S1 => ds.length ≤ 16777216 ∧ P (.tup ds) S1) E := by
  unfold eTup
  rw [wp_bind]
  refine wp_eq fun ds S1 => ?_
  rw [wp_ite]
  by_cases h : ds.length ≤ 16777216 <;> simp [h, wp_ok, wp_no]
theorem w_lst {m : AM} {P : D → Sto → Prop} : (eLst m ρ S).wp P E = (m ρ S).wp (fun ds S1 => ds.length ≤ 16777216 ∧ P (.obj S1.length) (S1 ++ [.lst ds])) E := by
  unfold eLst
  rw [wp_bind]
  refine wp_eq fun ds S1 => ?_
  rw [wp_ite]
  by_cases h : ds.length ≤ 16777216 <;> simp [h, wp_ok, wp_no]
theorem w_tbl {m : EM} {P : Bool → Sto → Prop} : (tBl m ρ S).wp P E = (m ρ S).wp (fun d S1 => ∃ b, d = .bl b ∧ P b S1) E := by
  unfold tBl
  rw [wp_bind]
  refine wp_eq fun d S1 => ?_
  cases d <;> simp [wp_ok, wp_no]
theorem w_tru {m : EM} {P : Bool → Sto → Prop} : (tTru m ρ S).wp P E = (m ρ S).wp (fun d S1 => ∃ b, truD d S1 = some b ∧ P b S1) E := by
  unfold tTru
  rw [wp_bind]
  refine wp_eq fun d S1 => ?_
  cases truD d S1 <;> simp [wp_ok, wp_no]
theorem w_and {a b : TM} {P : Bool → Sto → Prop} : (tAnd' a b ρ S).wp P E = (a ρ S).wp (fun k S1 => if k = true then (b ρ S1).wp P E else P false S1) E := by
  unfold tAnd'
  rw [wp_bind]
  refine wp_eq fun d S1 => ?_
  rw [wp_ite, wp_ok]
theorem w_or {a b : TM} {P : Bool → Sto → Prop} : (tOr' a b ρ S).wp P E = (a ρ S).wp (fun k S1 => if k = true then P true S1 else (b ρ S1).wp P E) E := by
  unfold tOr'
  rw [wp_bind]
  refine wp_eq fun d S1 => ?_
  rw [wp_ite, wp_ok]
theorem w_not {a : TM} {P : Bool → Sto → Prop} : (tNot' a ρ S).wp P E = (a ρ S).wp (fun k S1 => P (!k) S1) E := by
  unfold tNot'
  rw [wp_bind]
  refine wp_eq fun d S1 => ?_
  exact wp_ok
theorem w_eif {c : TM} {a b : EM} {P : D → Sto → Prop} : (eIf c a b ρ S).wp P E = (c ρ S).wp (fun k S1 => if k = true then (a ρ S1).wp P E else (b ρ S1).wp P E) E := by
  unfold eIf
  rw [wp_bind]
  refine wp_eq fun d S1 => ?_
  rw [wp_ite]
theorem w_eand {a b : EM} {P : D → Sto → Prop} : (eAnd a b ρ S).wp P E = (a ρ S).wp (fun d S1 => ∃ k, truD d S1 = some k ∧ if k = true then (b ρ S1).wp P E else P d S1) E := by
  unfold eAnd
  rw [wp_bind]
  refine wp_eq fun d S1 => ?_
  cases truD d S1 with
  | none => simp [wp_no]
  | some k => cases k <;> simp [wp_ok]
theorem w_eor {a b : EM} {P : D → Sto → Prop} : (eOr a b ρ S).wp P E = (a ρ S).wp (fun d S1 => ∃ k, truD d S1 = some k ∧ if k = true then P d S1 else (b ρ S1).wp P E) E := by
  unfold eOr
  rw [wp_bind]
  refine wp_eq fun d S1 => ?_
  cases truD d S1 with
  | none => simp [wp_no]
  | some k => cases k <;> simp [wp_ok]
theorem w_enot {a : EM} {P : D → Sto → Prop} : (eNot a ρ S).wp P E = (a ρ S).wp (fun d S1 => ∃ k, truD d S1 = some k ∧ P (.bl (!k)) S1) E := by
  unfold eNot
  rw [wp_bind]
  refine wp_eq fun d S1 => ?_
  cases truD d S1 <;> simp [wp_ok, wp_no]
theorem w_neg {a : EM} {P : D → Sto → Prop} : (eNeg a ρ S).wp P E = (a ρ S).wp (fun d S1 => ∃ i, d = .int i ∧ P (.int (-i)) S1) E := by
  unfold eNeg
  rw [wp_bind]
  refine wp_eq fun d S1 => ?_
  cases d <;> simp [wp_ok, wp_no]
theorem w_call {n j : Nat} {ix : List Nat} {mf : List D → Sto → R D} {m mk : AM} {P : D → Sto → Prop} : (eCall n j ix mf m mk ρ S).wp P E = (m ρ S).wp (fun ds S1 => (mk ρ S1).wp (fun zs S2 => (ds.length = n ∧ zs.length = j) ∧ (mf (pick ix (ds ++ zs)) S2).wp P E) E) E := by
  unfold eCall
  rw [wp_bind]
  refine wp_eq fun ds S1 => ?_
  rw [wp_bind]
  refine wp_eq fun zs S2 => ?_
  rw [wp_ite]
  by_cases h : ds.length = n ∧ zs.length = j <;> simp [h, wp_no]
theorem s_nil : (sNil ρ S).wp p = p.nx ρ S := ws_nx
theorem s_ret {me : EM} : (sRet me ρ S).wp p = (me ρ S).wp (fun d S1 => p.rt d S1) (fun c w S1 => p.ex c w ρ S1) := by unfold sRet; rw [ws_to]; exact wp_eq fun d S1 => ws_rt
theorem s_retN : (sRetN ρ S).wp p = p.rt .non S := ws_rt
theorem s_expr {me : EM} : (sExpr me ρ S).wp p = (me ρ S).wp (fun _ S1 => p.nx ρ S1) (fun c w S1 => p.ex c w ρ S1) := by unfold sExpr; rw [ws_to]; exact wp_eq fun d S1 => ws_nx
theorem s_if {c : TM} {m n : SM} : (sIf c m n ρ S).wp p = (c ρ S).wp (fun b S1 => if b = true then (m ρ S1).wp p else (n ρ S1).wp p) (fun c w S1 => p.ex c w ρ S1) := by
  unfold sIf
  rw [ws_to]
  refine wp_eq fun d S1 => ?_
  rw [ws_ite]
theorem s_raise {c : Str} {me : EM} : (sRaise c me ρ S).wp p = (me ρ S).wp (fun d S1 => p.ex c d ρ S1) (fun c w S1 => p.ex c w ρ S1) := by unfold sRaise; rw [ws_to]; exact wp_eq fun d S1 => ws_ex
theorem s_as {me : EM} {g : GM} : (sAs me g ρ S).wp p = (me ρ S).wp (fun d S1 => (g d ρ S1).wp ⟨p.nx, fun _ _ => False, fun _ _ => False, fun _ _ => False, p.ex⟩) (fun c w S1 => p.ex c w ρ S1) := by
  unfold sAs
  rw [ws_to]
  refine wp_eq fun d S1 => ?_
  rw [ws_gx]
theorem g_name {i : Nat} {d : D} : (gNameM i d ρ S).wp p = p.nx (ρ.set i (some d)) S := ws_nx
theorem s_par {is : List Nat} {m : AM} : (sPar is m ρ S).wp p = (m ρ S).wp (fun ds S1 => ds.length = is.length ∧ p.nx ((is.zip ds).foldl (fun ρ q => ρ.set q.1 (some q.2)) ρ) S1) (fun c w S1 => p.ex c w ρ S1) := by
  unfold sPar
  rw [ws_to]
  refine wp_eq fun ds S1 => ?_
  rw [ws_ite]
  by_cases h : ds.length = is.length <;> simp [h, ws_nx, ws_no]
theorem s_aug {i : Nat} {d : D} {f : D → D → Sto → R D} {me : EM} (h : ρ[i]? = some (some d)) : (sAug i f me ρ S).wp p = (me ρ S).wp (fun y S1 => (f d y S1).wp (fun z S2 => p.nx (ρ.set i (some z)) S2) (fun c w S1 => p.ex c w ρ S1)) (fun c w S1 => p.ex c w ρ S1) := by
  unfold sAug
  rw [h]
  simp only
  rw [ws_to]
  refine wp_eq fun d S1 => ?_
  rw [ws_to]
  exact wp_eq fun d S1 => ws_nx
theorem g_sub {mo mi : EM} {d : D} : (gSubM mo mi d ρ S).wp p = (mo ρ S).wp (fun o S1 => (mi ρ S1).wp (fun i S2 => ∃ S3, dSet o i d S2 = some S3 ∧ p.nx ρ S3) (fun c w S1 => p.ex c w ρ S1)) (fun c w S1 => p.ex c w ρ S1) := by
  unfold gSubM
  rw [ws_to]
  refine wp_eq fun o S1 => ?_
  rw [ws_to]
  refine wp_eq fun i S2 => ?_
  cases dSet o i d S2 <;> simp [ws_nx, ws_no]
end
/-! ### operations on what is known -/
section
variable {E : Str → D → Sto → Prop} {P : D → Sto → Prop} {S : Sto}
theorem o_add_i {a b : Int} : (dAdd (.int a) (.int b) S).wp P E = P (.int (a + b)) S := wp_ok
theorem o_sub {a b : Int} : (dSub (.int a) (.int b) S).wp P E = P (.int (a - b)) S := wp_ok
theorem o_mul {a b : Int} : (dMul (.int a) (.int b) S).wp P E = (a.natAbs.log2 + b.natAbs.log2 < 100000000 ∧ P (.int (a * b)) S) := by
  show (if _ then _ else _ : R D).wp P E = _
  rw [wp_ite]
  by_cases h : a.natAbs.log2 + b.natAbs.log2 < 100000000 <;> simp [h, wp_ok, wp_no]
theorem o_div {a b : Int} : (dDiv (.int a) (.int b) S).wp P E = ((0 < b ∧ b.natAbs.log2 < 9000) ∧ P (.int (a / b)) S) := by
  show (if _ then _ else _ : R D).wp P E = _
  rw [wp_ite]
  by_cases h : 0 < b ∧ b.natAbs.log2 < 9000 <;> simp [h, wp_ok, wp_no]
theorem o_mod {a b : Int} : (dMod (.int a) (.int b) S).wp P E = (0 < b ∧ P (.int (a % b)) S) := by
  show (if _ then _ else _ : R D).wp P E = _
  rw [wp_ite]
  by_cases h : 0 < b <;> simp [h, wp_ok, wp_no]
theorem o_ord {q : Int → Int → Bool} {a b : Int} : (dOrd q (.int a) (.int b) S).wp P E = P (.bl (q a b)) S := wp_ok
theorem o_iadd {a b : Int} : (dIAdd (.int a) (.int b) S).wp P E = P (.int (a + b)) S := wp_ok
theorem o_min {a b : Int} : (gMin [.int a, .int b] S).wp P E = P (.int (if b < a then b else a)) S := wp_ok
theorem o_max {a b : Int} : (gMax [.int a, .int b] S).wp P E = P (.int (if b > a then b else a)) S := wp_ok
theorem o_int {a : Int} : (gInt [.int a] S).wp P E = P (.int a) S := wp_ok
theorem o_intb {a : Bool} : (gInt [.bl a] S).wp P E = P (.int (if a then 1 else 0)) S := wp_ok
theorem o_ix {d e : D} (v : D) (h : dIx d e S = .ok v S) : (dIx d e S).wp P E = P v S := by rw [h]; exact wp_ok
theorem dIx_lst {i : Nat} {xs : List D} {k : Nat} {v : D} (h : S[i]? = some (.lst xs)) (hv : xs[k]? = some v) : dIx (.obj i) (.int k) S = .ok v S := by
  have hk := (List.getElem?_eq_some_iff.mp hv).1
  have e1 : dLook (.obj i) (.int k) S = none := by unfold dLook; simp only [h]
  have e2 : seqD S (.obj i) = some xs := by unfold seqD; simp only [h]
  have e3 : atI xs (k : Int) = some v := by
    have e4 : ixN xs.length (k : Int) = some k := by
      unfold ixN
      rw [if_pos (by omega), if_pos (by omega)]
      rfl
    unfold atI
    rw [e4]
    exact hv
  unfold dIx
  rw [e1]
  unfold dIx2
  rw [e2]
  simp only [e3]
theorem dIx_seq {d : D} {xs : List D} {k : Nat} {v : D} (h : d = .tup xs ∨ d = .kt xs ∨ d = .wl xs) (hv : xs[k]? = some v) : dIx d (.int k) S = .ok v S := by
  have hk := (List.getElem?_eq_some_iff.mp hv).1
  have e3 : atI xs (k : Int) = some v := by
    have e4 : ixN xs.length (k : Int) = some k := by
      unfold ixN
      rw [if_pos (by omega), if_pos (by omega)]
      rfl
    unfold atI
    rw [e4]
    exact hv
  rcases h with rfl | rfl | rfl <;> simp only [dIx, dLook, dIx2, seqD, e3]
theorem dSet_lst {i k : Nat} {xs : List D} {v : D} (h : S[i]? = some (.lst xs)) (hk : k < xs.length) : dSet (.obj i) (.int k) v S = some (S.set i (.lst (xs.set k v))) := by
  have e4 : ixN xs.length (k : Int) = some k := by
    unfold ixN
    rw [if_pos (by omega), if_pos (by omega)]
    rfl
  simp only [dSet, h, e4, Option.map_some]
end
/-! ### the store beside what it was -/
structure Pg (is : List Nat) (S S' : Sto) : Prop where
  len : S.length ≤ S'.length
  at_ : ∀ j, j < S.length → j ∉ is → S'[j]? = S[j]?
theorem Pg.refl {is : List Nat} {S : Sto} : Pg is S S := ⟨Nat.le_refl _, fun _ _ _ => rfl⟩
theorem Pg.trans {is : List Nat} {S S1 S2 : Sto} (a : Pg is S S1) (b : Pg is S1 S2) : Pg is S S2 :=
  ⟨Nat.le_trans a.len b.len, fun j h n => (b.at_ j (Nat.lt_of_lt_of_le h a.len) n).trans (a.at_ j h n)⟩
theorem Pg.more {is js : List Nat} {S S' : Sto} (a : Pg is S S') (h : ∀ i ∈ is, i ∈ js) : Pg js S S' := ⟨a.len, fun j hj n => a.at_ j hj fun z => n (h j z)⟩
theorem Pg.get {is : List Nat} {S S' : Sto} (a : Pg is S S') {j : Nat} {o : O} (h : S[j]? = some o) (n : j ∉ is) : S'[j]? = some o := (a.at_ j (List.getElem?_eq_some_iff.mp h).1 n).trans h
theorem Pg.push {is : List Nat} {S : Sto} {o : O} : Pg is S (S ++ [o]) := ⟨by simp, fun j h _ => List.getElem?_append_left h⟩
theorem Pg.set {is : List Nat} {S : Sto} {i : Nat} {o : O} (h : i ∈ is) : Pg is S (S.set i o) := ⟨by simp, fun j _ n => List.getElem?_set_ne fun (e : i = j) => n (e ▸ h)⟩
/-- objects that are new behind S may be written, too -/
theorem Pg.setN {is : List Nat} {S S' : Sto} {i : Nat} {o : O} (a : Pg is S S') (h : S.length ≤ i) : Pg is S (S'.set i o) :=
  ⟨by simpa using a.len, fun j hj n => by rw [List.getElem?_set_ne (by omega)]; exact a.at_ j hj n⟩
theorem last_get {S : Sto} {o : O} : (S ++ [o])[S.length]? = some o := by simp
end Sh

set_option Elab.async false
set_option linter.all false
set_option maxRecDepth 100000
set_option autoImplicit false
namespace Sh
open PySem PySem.Spec PyProof.Rows L2
/-! ### data without objects -/
mutual
def D.py : D → PyData
  | .non => .none
  | .bl b => .bool b
  | .int i => .int i
  | .str x => .str x
  | .tup xs => .tuple (pys xs)
  | .kt xs => .tuple (pys xs)
  | _ => .none
def pys : List D → List PyData
  | [] => []
  | x :: xs => D.py x :: pys xs
end
/-- nested less than n deep, texts that can be laid -/
def D.dk : Nat → D → Bool
  | 0, _ => false
  | _ + 1, .non => true
  | _ + 1, .bl _ => true
  | _ + 1, .int _ => true
  | _ + 1, .str x => PyData.strOk x
  | n + 1, .tup xs => decide (xs.length ≤ 50000) && xs.all (D.dk n)
  | n + 1, .kt xs => decide (xs.length ≤ 50000) && xs.all (D.dk n)
  | _ + 1, _ => false
theorem dk_mono : ∀ {n m : Nat} {d : D}, d.dk n = true → n ≤ m → d.dk m = true
  | 0, _, _, h, _ => by simp [D.dk] at h
  | n + 1, 0, _, _, h => by omega
  | n + 1, m + 1, d, h, hm => by
    cases d <;> simp only [D.dk] at h ⊢ <;> try exact h
    all_goals
      rw [Bool.and_eq_true, List.all_eq_true] at h ⊢
      exact ⟨h.1, fun x hx => dk_mono (h.2 x hx) (by omega)⟩
theorem pys_map : ∀ xs : List D, pys xs = xs.map D.py
  | [] => rfl
  | x :: xs => by rw [pys, pys_map xs]; rfl
theorem optAll_pd {S : Sto} {n : Nat} (ih : ∀ d : D, d.dk n = true → pd S n d = some d.py) : ∀ xs : List D, xs.all (D.dk n) = true → optAll (pd S n) xs = some (pys xs)
  | [], _ => rfl
  | x :: xs, h => by
    rw [List.all_cons, Bool.and_eq_true] at h
    unfold optAll
    rw [ih x h.1, optAll_pd ih xs h.2]
    rfl
theorem pd_dk {S : Sto} : ∀ {n : Nat} {d : D}, d.dk n = true → pd S n d = some d.py
  | 0, _, h => by simp [D.dk] at h
  | n + 1, d, h => by
    have ih : ∀ d : D, d.dk n = true → pd S n d = some d.py := fun d h => pd_dk h
    cases d with
    | tup xs => unfold pd; rw [optAll_pd ih xs (by rw [D.dk, Bool.and_eq_true] at h; exact h.2)]; rfl
    | kt xs => unfold pd; rw [optAll_pd ih xs (by rw [D.dk, Bool.and_eq_true] at h; exact h.2)]; rfl
    | non => rfl
    | bl b => rfl
    | int i => rfl
    | str x => rfl
    | obj i => simp [D.dk] at h
    | wl i => simp [D.dk] at h
    | ty i => simp [D.dk] at h
    | fn i => simp [D.dk] at h
theorem lay_dk : ∀ {n : Nat} {d : D}, d.dk n = true → d.py.canLay0 = true ∧ d.py.depth ≤ n
  | 0, _, h => by simp [D.dk] at h
  | n + 1, d, h => by
    have all : ∀ xs : List D, xs.all (D.dk n) = true → PyData.canLayAll0 (pys xs) = true ∧ PyData.depthAll (pys xs) ≤ n := by
      intro xs
      induction xs with
      | nil => intro _; exact ⟨by simp [pys, PyData.canLayAll0], by simp [pys, PyData.depthAll]⟩
      | cons x xs ih =>
        intro h
        rw [List.all_cons, Bool.and_eq_true] at h
        have h1 := lay_dk h.1
        have h2 := ih h.2
        refine ⟨?_, ?_⟩
        · simp [pys, PyData.canLayAll0, h1.1, h2.1]
        · simp only [pys, PyData.depthAll]; omega
    cases d with
    | tup xs =>
      have := all xs (by rw [D.dk, Bool.and_eq_true] at h; exact h.2)
      simp only [D.py, PyData.canLay0, PyData.depth]
      exact ⟨this.1, by omega⟩
    | kt xs =>
      have := all xs (by rw [D.dk, Bool.and_eq_true] at h; exact h.2)
      simp only [D.py, PyData.canLay0, PyData.depth]
      exact ⟨this.1, by omega⟩
    | non => simp [D.py, PyData.canLay0, PyData.depth]
    | bl b => simp [D.py, PyData.canLay0, PyData.depth]
    | int i => simp [D.py, PyData.canLay0, PyData.depth]
    | str x => simp [D.dk] at h; simp [D.py, PyData.canLay0, PyData.depth, h]
    | obj i => simp [D.dk] at h
    | wl i => simp [D.dk] at h
    | ty i => simp [D.dk] at h
    | fn i => simp [D.dk] at h
theorem dk_tup {n : Nat} {xs : List D} (hl : xs.length ≤ 50000) (h : ∀ x ∈ xs, x.dk n = true) : (D.tup xs).dk (n + 1) = true := by
  rw [D.dk, Bool.and_eq_true, List.all_eq_true]
  exact ⟨by simpa using hl, h⟩
theorem dk_of {n : Nat} {xs : List D} (h : (D.tup xs).dk (n + 1) = true) : xs.length ≤ 50000 ∧ ∀ x ∈ xs, x.dk n = true := by
  rw [D.dk, Bool.and_eq_true, List.all_eq_true] at h
  exact ⟨by simpa using h.1, h.2⟩
/-- no written tuples in it -/
def D.nk : Nat → D → Bool
  | 0, _ => false
  | n + 1, .tup xs => decide (xs.length ≤ 50000) && xs.all (D.nk n)
  | _ + 1, .kt _ => false
  | _ + 1, d => d.dk 1
theorem nk_dk : ∀ {n : Nat} {d : D}, d.nk n = true → d.dk n = true
  | 0, _, h => by simp [D.nk] at h
  | n + 1, d, h => by
    cases d with
    | tup xs =>
      rw [D.nk, Bool.and_eq_true, List.all_eq_true] at h
      rw [D.dk, Bool.and_eq_true, List.all_eq_true]
      exact ⟨h.1, fun x hx => nk_dk (h.2 x hx)⟩
    | kt xs => simp [D.nk] at h
    | _ => exact dk_mono (by simpa [D.nk] using h) (by omega)
theorem nk_tup {n : Nat} {xs : List D} (hl : xs.length ≤ 50000) (h : ∀ x ∈ xs, x.nk n = true) : (D.tup xs).nk (n + 1) = true := by
  rw [D.nk, Bool.and_eq_true, List.all_eq_true]
  exact ⟨by simpa using hl, h⟩
theorem nk_of {n : Nat} {xs : List D} (h : (D.tup xs).nk (n + 1) = true) : xs.length ≤ 50000 ∧ ∀ x ∈ xs, x.nk n = true := by
  rw [D.nk, Bool.and_eq_true, List.all_eq_true] at h
  exact ⟨by simpa using h.1, h.2⟩
theorem nk_mono : ∀ {n m : Nat} {d : D}, d.nk n = true → n ≤ m → d.nk m = true
  | 0, _, _, h, _ => by simp [D.nk] at h
  | n + 1, 0, _, _, h => by omega
  | n + 1, m + 1, d, h, hm => by
    cases d with
    | tup xs =>
      have := nk_of h
      exact nk_tup this.1 fun x hx => nk_mono (this.2 x hx) (by omega)
    | kt xs => simp [D.nk] at h
    | _ => simpa [D.nk] using h
/-- equal data -/
def D.eq (a b : D) : Bool := PyData.eqv a.py b.py
theorem dEq_dk {S : Sto} {neg : Bool} {a b : D} (ha : a.dk 200 = true) (hb : b.dk 200 = true) : dEq neg a b S = .ok (.bl (if neg then !a.eq b else a.eq b)) S := by
  have h1 := lay_dk ha
  have h2 := lay_dk hb
  unfold dEq
  rw [pd_dk (dk_mono ha (by decide)), pd_dk (dk_mono hb (by decide))]
  have h3 : eqOk a.py b.py = true := by
    unfold eqOk
    rw [h1.1, h2.1]
    simp only [Bool.and_self, Bool.true_and, decide_eq_true_eq]
    omega
  simp only [h3, if_true]
  rfl
theorem eq_refl' {n : Nat} {a : D} (h : a.dk n = true) : a.eq a = true := SeqAt.eqv_refl _ (lay_dk h).1
theorem eq_ii {a b : Int} : (D.int a).eq (.int b) = decide (a = b) := by
  unfold D.eq
  simp only [D.py, PyData.eqv]
  by_cases h : a = b <;> simp [h]
theorem eq_ss {a b : Str} : (D.str a).eq (.str b) = decide (a = b) := by
  unfold D.eq
  simp only [D.py, PyData.eqv]
  by_cases h : a = b <;> simp [h]
theorem eq_tt {xs ys : List D} : (D.tup xs).eq (.tup ys) = PyData.eqvAll (pys xs) (pys ys) := by
  unfold D.eq
  simp only [D.py, PyData.eqv]
section
variable {E : Str → D → Sto → Prop} {P : D → Sto → Prop} {S : Sto} {neg : Bool}
theorem o_eq {a b : D} (ha : a.dk 200 = true) (hb : b.dk 200 = true) : (dEq neg a b S).wp P E = P (.bl (if neg then !a.eq b else a.eq b)) S := by rw [dEq_dk ha hb]; exact wp_ok
theorem o_eq_ii {a b : Int} : (dEq false (.int a) (.int b) S).wp P E = P (.bl (decide (a = b))) S := by rw [o_eq rfl rfl, eq_ii] <;> rfl
theorem o_ne_ii {a b : Int} : (dEq true (.int a) (.int b) S).wp P E = P (.bl (!decide (a = b))) S := by rw [o_eq rfl rfl, eq_ii] <;> rfl
end
end Sh

set_option Elab.async false
set_option linter.all false
set_option maxRecDepth 100000
set_option autoImplicit false
namespace Sh
open PySem PySem.Spec PyProof.Rows L2
/-! ### loops -/
theorem while_wp {c : TM} {b : SM} {p : Po} (I : Nat → Env → Sto → Prop)
    (step : ∀ m ρ S, I m ρ S → (c ρ S).wp (fun k S1 => if k = true then (b ρ S1).wp ⟨fun ρ' S' => ∃ m', m' < m ∧ I m' ρ' S', p.rt, p.nx, fun ρ' S' => ∃ m', m' < m ∧ I m' ρ' S', p.ex⟩ else p.nx ρ S1) (fun c w S1 => p.ex c w ρ S1)) :
    ∀ {n m : Nat} {ρ : Env} {S : Sto}, I m ρ S → m < n → (sWhile n c b ρ S).wp p
  | 0, m, ρ, S, _, h => absurd h (Nat.not_lt_zero _)
  | n + 1, m, ρ, S, hI, hm => by
    unfold sWhile
    rw [ws_to]
    refine (step m ρ S hI).imp (fun k S1 h => ?_) fun _ _ _ h => h
    cases k with
    | false => exact ⟨h⟩
    | true =>
      simp only [if_true] at h ⊢
      cases q : b ρ S1 with
      | nx ρ' S' =>
        rw [q, ws_nx] at h
        obtain ⟨m', h1, h2⟩ := h
        exact while_wp I step h2 (by omega)
      | ct ρ' S' =>
        rw [q, ws_ct] at h
        obtain ⟨m', h1, h2⟩ := h
        exact while_wp I step h2 (by omega)
      | bk ρ' S' => rw [q] at h; exact ⟨h.go⟩
      | rt d S' => rw [q] at h; exact ⟨h.go⟩
      | ex c w ρ' S' => rw [q] at h; exact ⟨h.go⟩
      | no => rw [q] at h; exact h.go.elim
theorem loop_wp {di : DI} {gm : GM} {b : SM} {p : Po} (len : Nat) (I : Nat → Env → Sto → Prop) (stop : ∀ ρ S, I len ρ S → di len S = some none ∧ p.nx ρ S)
    (step : ∀ i ρ S, i < len → I i ρ S → ∃ d, di i S = some (some d) ∧ (gm d ρ S).wp ⟨fun ρ1 S1 => (b ρ1 S1).wp ⟨I (i + 1), p.rt, p.nx, I (i + 1), p.ex⟩, fun _ _ => False, fun _ _ => False, fun _ _ => False, p.ex⟩) :
    ∀ {n i : Nat} {ρ : Env} {S : Sto}, I i ρ S → i ≤ len → len - i < n → (sLoop di gm b n i ρ S).wp p
  | 0, i, ρ, S, _, _, h => absurd h (Nat.not_lt_zero _)
  | n + 1, i, ρ, S, hI, hi, hn => by
    unfold sLoop
    by_cases e : i = len
    · subst e
      obtain ⟨h1, h2⟩ := stop ρ S hI
      rw [h1]
      exact ⟨h2⟩
    · obtain ⟨d, h1, h2⟩ := step i ρ S (by omega) hI
      rw [h1]
      simp only
      cases q : gm d ρ S with
      | nx ρ1 S1 =>
        rw [q, ws_nx] at h2
        simp only [gx]
        have h3 : (b ρ1 S1).wp ⟨I (i + 1), p.rt, p.nx, I (i + 1), p.ex⟩ := h2
        cases q2 : b ρ1 S1 with
        | nx ρ2 S2 => rw [q2, ws_nx] at h3; exact loop_wp len I stop step h3 (by omega) (by omega)
        | ct ρ2 S2 => rw [q2, ws_ct] at h3; exact loop_wp len I stop step h3 (by omega) (by omega)
        | bk ρ2 S2 => rw [q2] at h3; exact ⟨h3.go⟩
        | rt d S2 => rw [q2] at h3; exact ⟨h3.go⟩
        | ex c w ρ2 S2 => rw [q2] at h3; exact ⟨h3.go⟩
        | no => rw [q2] at h3; exact h3.go.elim
      | rt d S1 => rw [q] at h2; exact h2.go.elim
      | bk _ _ => rw [q] at h2; exact h2.go.elim
      | ct _ _ => rw [q] at h2; exact h2.go.elim
      | ex c w ρ1 S1 => rw [q] at h2; exact ⟨h2.go⟩
      | no => rw [q] at h2; exact h2.go.elim
section
variable {ρ : Env} {S : Sto} {p : Po} {E : Str → D → Sto → Prop} {P : DI → Sto → Prop}
theorem s_for {n : Nat} {mi : IM} {gm : GM} {b : SM} : (sFor n mi gm b ρ S).wp p = (mi ρ S).wp (fun di S1 => (sLoop di gm b n 0 ρ S1).wp p) (fun c w S1 => p.ex c w ρ S1) := by unfold sFor; rw [ws_to]
def itO (d : D) (S : Sto) : Option DI := match d with
  | .tup xs => some (diL xs)
  | .kt xs => some (diL xs)
  | .wl xs => some (diL xs)
  | .str z => some (diS z)
  | .obj l => (match S[l]? with
    | some (.lst _) => some (diO l)
    | _ => none)
  | _ => none
theorem w_iseq {me : EM} : (iSeq me ρ S).wp P E = (me ρ S).wp (fun d S1 => ∃ di, itO d S1 = some di ∧ P di S1) E := by
  unfold iSeq
  rw [wp_bind]
  refine wp_eq fun d S1 => ?_
  cases d with
  | obj l =>
    simp only [seqI, itO]
    cases S1[l]? with
    | none => simp [wp_no]
    | some o => cases o <;> simp [wp_ok, wp_no]
  | _ => simp [seqI, itO, wp_ok, wp_no]
theorem w_ir1 {m : AM} : (iR1 m ρ S).wp P E = (m ρ S).wp (fun ds S1 => ∃ j : Int, ds = [.int j] ∧ (-(2 ^ 62) ≤ j ∧ j < 2 ^ 62) ∧ P (diR 0 1 j.toNat) S1) E := by
  unfold iR1
  rw [wp_bind]
  refine wp_eq fun ds S1 => ?_
  split
  · rename_i j
    rw [wp_ite]
    by_cases h : -(2 ^ 62) ≤ j ∧ j < 2 ^ 62 <;> simp [h, wp_ok, wp_no]
  · rename_i h
    rw [wp_no]
    refine (eq_false ?_).symm
    rintro ⟨j, rfl, _⟩
    exact h j rfl
def ir2P : List D → (DI → Prop) → Prop
  | [.int i, .int j], k => (-(2 ^ 62) ≤ i ∧ i < 2 ^ 62 ∧ -(2 ^ 62) ≤ j ∧ j < 2 ^ 62) ∧ k (diR i 1 (j - i).toNat)
  | _, _ => False
theorem ir2P_ii {i j : Int} {k : DI → Prop} : ir2P [.int i, .int j] k = ((-(2 ^ 62) ≤ i ∧ i < 2 ^ 62 ∧ -(2 ^ 62) ≤ j ∧ j < 2 ^ 62) ∧ k (diR i 1 (j - i).toNat)) := rfl
theorem w_ir2 {m : AM} : (iR2 m ρ S).wp P E = (m ρ S).wp (fun ds S1 => ir2P ds fun di => P di S1) E := by
  unfold iR2
  rw [wp_bind]
  refine wp_eq fun ds S1 => ?_
  split
  · rename_i i j
    rw [wp_ite, ir2P_ii]
    by_cases h : -(2 ^ 62) ≤ i ∧ i < 2 ^ 62 ∧ -(2 ^ 62) ≤ j ∧ j < 2 ^ 62
    · rw [if_pos h, wp_ok]
      exact propext ⟨fun q => ⟨h, q⟩, fun q => q.2⟩
    · rw [if_neg h, wp_no]
      exact propext ⟨fun q => q.elim, fun q => h q.1⟩
  · rename_i h
    rw [wp_no]
    unfold ir2P
    split
    · rename_i i j; exact (h i j rfl).elim
    · rfl
def itE (d : D) (S : Sto) : Option DI := match lstI d S with
  | some di => some di
  | none => tupI d
theorem w_ien {m : AM} : (iEn m ρ S).wp P E = (m ρ S).wp (fun ds S1 => ∃ d di, ds = [d] ∧ itE d S1 = some di ∧ P (diE di) S1) E := by
  unfold iEn
  rw [wp_bind]
  refine wp_eq fun ds S1 => ?_
  split
  · rename_i d
    unfold itE
    cases q : lstI d S1 with
    | some di => simp [wp_ok, q]
    | none =>
      cases q2 : tupI d with
      | some di => simp [wp_ok, q, q2]
      | none => simp [wp_no, q, q2]
  · rename_i h
    rw [wp_no]
    refine (eq_false ?_).symm
    rintro ⟨d, di, rfl, _⟩
    exact h d rfl
def itZ (d e : D) (S : Sto) : Option (DI × DI) := match lstI d S, lstI e S with
  | some a, some b => some (a, b)
  | _, _ => (match tupI d, tupI e with
    | some a, some b => some (a, b)
    | _, _ => none)
def izP (S : Sto) : List D → (DI → Prop) → Prop
  | [d, e], k => ∃ di, itZ d e S = some di ∧ k (diZ di.1 di.2)
  | _, _ => False
theorem izP_two {S : Sto} {d e : D} {k : DI → Prop} : izP S [d, e] k = ∃ di, itZ d e S = some di ∧ k (diZ di.1 di.2) := rfl
theorem w_izp {m : AM} : (iZp m ρ S).wp P E = (m ρ S).wp (fun ds S1 => izP S1 ds fun di => P di S1) E := by
  unfold iZp
  rw [wp_bind]
  refine wp_eq fun ds S1 => ?_
  split
  · rename_i d e
    rw [izP_two]
    unfold itZ
    cases q : lstI d S1 <;> cases q1 : lstI e S1 <;> cases q2 : tupI d <;> cases q3 : tupI e <;> simp [wp_ok, wp_no]
  · rename_i h
    rw [wp_no]
    unfold izP
    split
    · rename_i d e; exact (h d e rfl).elim
    · rfl
theorem g_tup {n : Nat} {m : GMs} {xs : List D} : (gTupM n m (.tup xs) ρ S).wp p = (xs.length = n ∧ (m xs ρ S).wp p) := by
  simp only [gTupM]
  by_cases h : xs.length = n <;> simp [h, ws_no]
theorem g_nil : (gNilM [] ρ S).wp p = p.nx ρ S := ws_nx
theorem g_cons {a : GM} {m : GMs} {x : D} {xs : List D} : (gConsM a m (x :: xs) ρ S).wp p = (a x ρ S).wp ⟨fun ρ' S' => (m xs ρ' S').wp p, p.rt, p.bk, p.ct, p.ex⟩ := by
  simp only [gConsM]
  cases a x ρ S with
  | nx ρ S => exact propext ⟨fun h => ⟨h⟩, fun h => h.go⟩
  | rt ρ S => exact propext ⟨fun h => ⟨h.go⟩, fun h => ⟨h.go⟩⟩
  | bk ρ S => exact propext ⟨fun h => ⟨h.go⟩, fun h => ⟨h.go⟩⟩
  | ct ρ S => exact propext ⟨fun h => ⟨h.go⟩, fun h => ⟨h.go⟩⟩
  | ex c w ρ S => exact propext ⟨fun h => ⟨h.go⟩, fun h => ⟨h.go⟩⟩
  | no => exact propext ⟨fun h => ⟨h.go⟩, fun h => ⟨h.go⟩⟩
def appTo (l : Nat) (y : D) (S2 : Sto) : R D := match S2[l]? with
  | some (.lst xs) => if xs.length < 16777216 then .ok .non (S2.set l (.lst (xs ++ [y]))) else .no
  | _ => .no
theorem eApp_eq {mo me : EM} : eApp mo me = fun ρ S => (mo ρ S).bind fun d S1 => match d with
  | .obj l => (match S1[l]? with
    | some (.lst _) => (me ρ S1).bind (appTo l)
    | _ => .no)
  | _ => .no := rfl
theorem appTo_wp {l : Nat} {y : D} {S2 : Sto} {P : D → Sto → Prop} : (appTo l y S2).wp P E = ∃ xs, S2[l]? = some (.lst xs) ∧ xs.length < 16777216 ∧ P .non (S2.set l (.lst (xs ++ [y]))) := by
  unfold appTo
  split
  · rename_i xs q2
    rw [wp_ite, q2]
    by_cases h : xs.length < 16777216 <;> simp [h, wp_ok, wp_no]
  · rename_i h
    rw [wp_no]
    refine (eq_false ?_).symm
    rintro ⟨xs, q3, _⟩
    exact h xs q3
theorem w_app {mo me : EM} {P : D → Sto → Prop} : (eApp mo me ρ S).wp P E = (mo ρ S).wp (fun d S1 => ∃ l ys, d = .obj l ∧ S1[l]? = some (.lst ys) ∧ (me ρ S1).wp (fun y S2 => ∃ xs, S2[l]? = some (.lst xs) ∧ xs.length < 16777216 ∧ P .non (S2.set l (.lst (xs ++ [y])))) E) E := by
  rw [eApp_eq]
  simp only
  rw [wp_bind]
  refine wp_eq fun d S1 => ?_
  split
  · rename_i l
    split
    · rename_i ys q
      rw [wp_bind, wp_eq fun y S2 => appTo_wp]
      refine propext ⟨fun h => ⟨l, ys, rfl, q, h⟩, ?_⟩
      rintro ⟨l', ys', h1, h2, h3⟩
      cases h1
      exact h3
    · rename_i h
      rw [wp_no]
      refine (eq_false ?_).symm
      rintro ⟨l', ys, h1, q, _⟩
      cases h1
      exact h ys q
  · rename_i h
    rw [wp_no]
    refine (eq_false ?_).symm
    rintro ⟨l, ys, rfl, _⟩
    exact h l rfl
theorem o_pow {a b : Int} {P : D → Sto → Prop} : (dPow (.int a) (.int b) S).wp P E = ((0 ≤ b ∧ b ≤ 1000000 ∧ a.natAbs < 2 ^ 64) ∧ P (.int (a ^ b.toNat)) S) := by
  show (if _ then _ else _ : R D).wp P E = _
  rw [wp_ite]
  by_cases h : 0 ≤ b ∧ b ≤ 1000000 ∧ a.natAbs < 2 ^ 64
  · rw [if_pos h, wp_ok]
    exact propext ⟨fun q => ⟨h, q⟩, fun q => q.2⟩
  · rw [if_neg h, wp_no]
    exact propext ⟨fun q => q.elim, fun q => h q.1⟩
theorem o_tuple {l : Nat} {xs : List D} {P : D → Sto → Prop} (h : S[l]? = some (.lst xs)) : (gTuple [.obj l] S).wp P E = P (.tup xs) S := by
  simp only [gTuple, h]
  exact wp_ok
end
end Sh

set_option Elab.async false
set_option linter.all false
set_option maxRecDepth 100000
set_option autoImplicit false
namespace Sh
open PySem PySem.Spec PyProof.Rows L2
section
variable {E : Str → D → Sto → Prop} {P : D → Sto → Prop} {S : Sto} {ρ : Env} {p : Po}
/-! ### kinds -/
def D.isTup : D → Bool
  | .tup _ => true
  | .kt _ => true
  | _ => false
def D.isStr : D → Bool
  | .str _ => true
  | _ => false
theorem o_isiT {n : Nat} {d : D} (h : d.dk n = true) : (gIsi [d, .ty "tuple"] S).wp P E = P (.bl d.isTup) S := by
  cases n with
  | zero => simp [D.dk] at h
  | succ n =>
  cases d with
  | obj i => simp [D.dk] at h
  | wl i => simp [D.dk] at h
  | ty i => simp [D.dk] at h
  | fn i => simp [D.dk] at h
  | _ => exact wp_ok
theorem o_isiS {n : Nat} {d : D} (h : d.dk n = true) : (gIsi [d, .ty "str"] S).wp P E = P (.bl d.isStr) S := by
  cases n with
  | zero => simp [D.dk] at h
  | succ n =>
  cases d with
  | obj i => simp [D.dk] at h
  | wl i => simp [D.dk] at h
  | ty i => simp [D.dk] at h
  | fn i => simp [D.dk] at h
  | _ => exact wp_ok
theorem truD_bl {b : Bool} : truD (.bl b) S = some b := rfl
/-! ### in -/
def anyEq (ys : List D) (d : D) : Bool := ys.any fun y => y.eq d
theorem o_inT {neg : Bool} {d e : D} {ys : List D} (he : e = .tup ys ∨ e = .kt ys) (hd : d.dk 180 = true) (hy : (D.tup ys).dk 180 = true) : (dIn2 neg d e S).wp P E = P (.bl (if neg then !anyEq ys d else anyEq ys d)) S := by
  have h1 := lay_dk hd
  have hy' := hy
  rw [D.dk, Bool.and_eq_true] at hy'
  have h2 := lay_dk hy
  have e0 : dLook e d S = none := by rcases he with rfl | rfl <;> rfl
  have hek : e.dk 180 = true := by
    rcases he with rfl | rfl
    · exact hy
    · rw [D.dk, Bool.and_eq_true]; exact hy'
  have e1 : pd S 220 e = some (.tuple (pys ys)) := by
    rw [pd_dk (dk_mono hek (by decide))]
    rcases he with rfl | rfl <;> rfl
  have e2 : pd S 220 d = some d.py := pd_dk (dk_mono hd (by decide))
  have e3 : PyData.canLayAll0 (pys ys) = true := by have := h2.1; simp only [D.py, PyData.canLay0] at this; exact this
  have e4 : PyData.depthAll (pys ys) ≤ 180 := by have := h2.2; simp only [D.py, PyData.depth] at this; omega
  have e5 : (pys ys).any (fun z => PyData.eqv z d.py) = anyEq ys d := by
    rw [pys_map, List.any_map]
    rfl
  unfold dIn2
  rw [e0]
  simp only [dIn, e1, e2, h1.1, e3, Bool.and_self, Bool.true_and, e5]
  rw [if_pos (by simp only [decide_eq_true_eq]; omega)]
  exact wp_ok
/-! ### tuples -/
theorem o_add_t {xs ys : List D} (h : xs.length + ys.length ≤ 16777216) : (dAdd (.tup xs) (.tup ys) S).wp P E = P (.tup (xs ++ ys)) S := by
  simp only [dAdd, if_pos h]
  exact wp_ok
theorem o_add_l {i j : Nat} {xs ys : List D} (h1 : S[i]? = some (.lst xs)) (h2 : S[j]? = some (.lst ys)) (h : xs.length + ys.length ≤ 16777216) : (dAdd (.obj i) (.obj j) S).wp P E = P (.obj S.length) (S ++ [.lst (xs ++ ys)]) := by
  simp only [dAdd, h1, h2, if_pos h]
  exact wp_ok
theorem o_mul_t {xs : List D} {k : Int} (h : xs ≠ [] ∧ 1 ≤ k ∧ k ≤ 10000 ∧ xs.length ≤ 1000) : (dMul (.tup xs) (.int k) S).wp P E = P (.tup (List.replicate k.toNat xs).flatten) S := by
  simp only [dMul, if_pos h]
  exact wp_ok
theorem o_ix0 {x : D} {r : List D} : (dIx (.tup (x :: r)) (.int 0) S).wp P E = P x S := by
  rw [show dIx (.tup (x :: r)) (.int 0) S = .ok x S from dIx_seq (k := 0) (.inl rfl) rfl]; exact wp_ok
theorem o_ix1 {x y : D} {r : List D} : (dIx (.tup (x :: y :: r)) (.int 1) S).wp P E = P y S := by
  rw [show dIx (.tup (x :: y :: r)) (.int 1) S = .ok y S from dIx_seq (k := 1) (.inl rfl) rfl]; exact wp_ok
theorem o_ix2 {x y z : D} {r : List D} : (dIx (.tup (x :: y :: z :: r)) (.int 2) S).wp P E = P z S := by
  rw [show dIx (.tup (x :: y :: z :: r)) (.int 2) S = .ok z S from dIx_seq (k := 2) (.inl rfl) rfl]; exact wp_ok
theorem o_lenT {xs : List D} : (gLenA [.tup xs] S).wp P E = P (.int xs.length) S := wp_ok
theorem w_cut {me : EM} {ml mh : OM} : (eCut me ml mh ρ S).wp P E = (me ρ S).wp (fun d S1 => (ml ρ S1).wp (fun lo S2 => (mh ρ S2).wp (fun hi S3 => (dCut d lo hi S3).wp P E) E) E) E := by
  unfold eCut
  rw [wp_bind]
  refine wp_eq fun d S1 => ?_
  rw [wp_bind]
  refine wp_eq fun d S1 => ?_
  rw [wp_bind]
theorem w_onone {P : Option Int → Sto → Prop} : (oNone ρ S).wp P E = P none S := wp_ok
theorem w_osome {m : EM} {P : Option Int → Sto → Prop} : (oSome m ρ S).wp P E = (m ρ S).wp (fun d S1 => ∃ i, d = .int i ∧ P (some i) S1) E := by
  unfold oSome
  rw [wp_bind]
  refine wp_eq fun d S1 => ?_
  cases d <;> simp [wp_ok, wp_no]
theorem o_cut_t {xs : List D} {lo hi : Option Int} : (dCut (.tup xs) lo hi S).wp P E = P (.tup (cutD xs lo hi)) S := wp_ok
theorem o_ixT {xs : List D} {k : Nat} (h : k < xs.length) : (dIx (.tup xs) (.int k) S).wp P E = P xs[k] S := by
  rw [dIx_seq (.inl rfl) (List.getElem?_eq_getElem h)]
  exact wp_ok
/-! ### comprehensions -/
theorem w_comp {n : Nat} {vs : List Nat} {mi : IM} {gm : GM} {tm : TM} {me : EM} : (eComp n vs mi gm tm me ρ S).wp P E = (mi ρ S).wp (fun di S1 => (cLoop di gm tm me S1.length n 0 (wipeE ρ vs) (S1 ++ [.lst []])).wp P E) E := by
  unfold eComp
  rw [wp_bind]
theorem cloop_wp {di : DI} {gm : GM} {tm : TM} {me : EM} {l : Nat} (len : Nat) (I : Nat → Sto → Prop) (stop : ∀ S, I len S → di len S = some none ∧ P (.obj l) S)
    (step : ∀ i S, i < len → I i S → ∃ d, di i S = some (some d) ∧ (gm d ρ S).wp ⟨fun ρ1 S1 => (tm ρ1 S1).wp (fun b S2 => if b = true then (me ρ1 S2).wp (fun y S3 => ∃ acc, S3[l]? = some (.lst acc) ∧ acc.length < 16777216 ∧ I (i + 1) (S3.set l (.lst (acc ++ [y])))) NoE else I (i + 1) S2) NoE,
      fun _ _ => False, fun _ _ => False, fun _ _ => False, fun _ _ _ _ => False⟩) :
    ∀ {n i : Nat} {S : Sto}, I i S → i ≤ len → len - i < n → (cLoop di gm tm me l n i ρ S).wp P E
  | 0, i, S, _, _, h => absurd h (Nat.not_lt_zero _)
  | n + 1, i, S, hI, hi, hn => by
    unfold cLoop
    by_cases e : i = len
    · subst e
      obtain ⟨h1, h2⟩ := stop S hI
      rw [h1]
      exact ⟨h2⟩
    · obtain ⟨d, h1, h2⟩ := step i S (by omega) hI
      rw [h1]
      simp only
      cases q : gm d ρ S with
      | nx ρ1 S1 =>
        rw [q, ws_nx] at h2
        simp only [gx]
        replace h2 : (tm ρ1 S1).wp _ _ := h2
        cases q2 : tm ρ1 S1 with
        | ok b S2 =>
          rw [q2] at h2
          simp only [wp_ok] at h2
          cases b with
          | false =>
            simp only [Bool.false_eq_true, if_false] at h2 ⊢
            exact cloop_wp len I stop step h2 (by omega) (by omega)
          | true =>
            simp only [if_true] at h2 ⊢
            cases q3 : me ρ1 S2 with
            | ok y S3 =>
              rw [q3, wp_ok] at h2
              obtain ⟨acc, h3, h4, h5⟩ := h2
              simp only [h3, if_pos h4]
              exact cloop_wp len I stop step h5 (by omega) (by omega)
            | ex c w S3 => rw [q3] at h2; exact h2.go.elim
            | no => rw [q3] at h2; exact h2.go.elim
        | ex c w S2 => rw [q2] at h2; exact h2.go.elim
        | no => rw [q2] at h2; exact h2.go.elim
      | rt d S1 => rw [q] at h2; exact h2.go.elim
      | bk _ _ => rw [q] at h2; exact h2.go.elim
      | ct _ _ => rw [q] at h2; exact h2.go.elim
      | ex c w ρ1 S1 => rw [q] at h2; exact h2.go.elim
      | no => rw [q] at h2; exact h2.go.elim
theorem o_all {i : Nat} {bs : List Bool} (h : S[i]? = some (.lst (bs.map .bl))) (a : Bool) : (gAll a [.obj i] S).wp P E = P (.bl (if a then bs.all id else bs.any id)) S := by
  have e : optAll blD (bs.map D.bl) = some bs := by
    clear h
    induction bs with
    | nil => rfl
    | cons b bs ih => simp only [List.map_cons, optAll, ih, blD]
  simp only [gAll, h, e]
  exact wp_ok
/-! ### exceptions -/
theorem s_try {all : List Str} {m : SM} {hs : List Hm} : (sTry all m hs ρ S).wp p = (m ρ S).wp ⟨p.nx, p.rt, p.bk, p.ct, fun c w ρ' S' => c ∈ all ∧ (hGo c w ρ' S' hs).wp p⟩ := by
  unfold sTry
  cases m ρ S with
  | ex c w ρ' S' =>
    rw [ws_ex]
    show (if c ∈ all then _ else _ : RS).wp p = (c ∈ all ∧ _)
    rw [ws_ite]
    by_cases h : c ∈ all <;> simp [h, ws_no]
  | _ => exact propext ⟨fun h => ⟨h.go⟩, fun h => ⟨h.go⟩⟩
theorem ws_clr {i : Option Nat} {r : RS} : (clr i r).wp p = r.wp ⟨fun ρ S => p.nx (off i ρ) S, p.rt, fun ρ S => p.bk (off i ρ) S, fun ρ S => p.ct (off i ρ) S, fun _ _ _ _ => False⟩ := by
  cases r <;> exact propext ⟨fun h => ⟨h.go⟩, fun h => ⟨h.go⟩⟩
theorem h_yes {c : Str} {w : D} {h : Hm} {hs : List Hm} (hc : c ∈ h.yes) : (hGo c w ρ S (h :: hs)).wp p = (h.run w (off h.slot ρ) S).wp ⟨fun ρ S => p.nx (off h.slot ρ) S, p.rt, fun ρ S => p.bk (off h.slot ρ) S, fun ρ S => p.ct (off h.slot ρ) S, fun _ _ _ _ => False⟩ := by
  unfold hGo
  rw [if_pos hc, ws_clr]
theorem h_no {c : Str} {w : D} {h : Hm} {hs : List Hm} (hc : c ∉ h.yes) : (hGo c w ρ S (h :: hs)).wp p = (hGo c w ρ S hs).wp p := by
  conv => lhs; unfold hGo
  rw [if_neg hc]
theorem h_nil {c : Str} {w : D} : (hGo c w ρ S []).wp p = p.ex c w ρ S := ws_ex
/-! ### dict displays -/
theorem w_disp {m : PM} : (eDisp m ρ S).wp P E = (m ρ (S ++ [.dK []])).wp (fun ps S1 => ∃ kvs, keyed ps = some kvs ∧ S1[S.length]? = some (.dK []) ∧ kvs.length ≤ 15 ∧ P (.obj S.length) (S1.set S.length (.dK (mergeD [] kvs)))) E := by
  unfold eDisp
  rw [wp_bind]
  refine wp_eq fun ps S1 => ?_
  split
  · rename_i kvs h1 h2
    rw [wp_ite, h1, h2]
    by_cases h : kvs.length ≤ 15 <;> simp [h, wp_ok, wp_no]
  · rename_i h
    rw [wp_no]
    refine (eq_false ?_).symm
    rintro ⟨kvs, h1, h2, _⟩
    exact h kvs h1 h2
theorem w_pnil {P : List (D × D) → Sto → Prop} : (pNil ρ S).wp P E = P [] S := wp_ok
theorem w_pcons {a b : EM} {r : PM} {P : List (D × D) → Sto → Prop} : (pCons a b r ρ S).wp P E = (a ρ S).wp (fun x S1 => (b ρ S1).wp (fun y S2 => (r ρ S2).wp (fun ps S3 => P ((x, y) :: ps) S3) E) E) E := by
  unfold pCons
  rw [wp_bind]
  refine wp_eq fun d S1 => ?_
  rw [wp_bind]
  refine wp_eq fun d S1 => ?_
  rw [wp_bind]
  exact wp_eq fun d S1 => wp_ok
theorem o_inD {i : Nat} {kvs : List (Key × D)} {z : Str} {neg : Bool} (h : S[i]? = some (.dK kvs)) : (dIn2 neg (.str z) (.obj i) S).wp P E = P (.bl (if neg then !(kget kvs (.inr z)).isSome else (kget kvs (.inr z)).isSome)) S := by
  have e : dLook (.obj i) (.str z) S = some (kget kvs (.inr z)) := by simp only [dLook, h, dKey, Option.map_some]
  simp only [dIn2, e]
  exact wp_ok
theorem o_ixD {i : Nat} {kvs : List (Key × D)} {z : Str} {d : D} (h : S[i]? = some (.dK kvs)) (hk : kget kvs (.inr z) = some d) : (dIx (.obj i) (.str z) S).wp P E = P d S := by
  have e : dLook (.obj i) (.str z) S = some (some d) := by simp only [dLook, h, dKey, Option.map_some, hk]
  simp only [dIx, e]
  exact wp_ok
theorem o_inK {neg : Bool} {nm z : Str} {kvs : List (Str × D)} : (dInK neg nm kvs (.str z) (.fn nm) S).wp P E = P (.bl (if neg = true then !(kvs.lookup z).isSome else (kvs.lookup z).isSome)) S := by
  simp only [dInK, if_true]
  exact wp_ok
theorem o_ixK {nm z : Str} {kvs : List (Str × D)} {d : D} (h : kvs.lookup z = some d) : (dIxK nm kvs (.fn nm) (.str z) S).wp P E = P d S := by
  simp only [dIxK, if_true, h]
  exact wp_ok
end
end Sh

set_option Elab.async false
set_option linter.all false
set_option maxRecDepth 100000
set_option autoImplicit false
namespace Sh
open PySem PySem.Spec PyProof.Rows L2
section
variable {E : Str → D → Sto → Prop} {P : D → Sto → Prop} {S : Sto} {ρ : Env} {p : Po}
/-! ### fields -/
theorem w_fld {cs : List Str} {f : Str} {me : EM} : (eFld cs f me ρ S).wp P E = (me ρ S).wp (fun d S1 => (fldOf cs f d S1).wp P E) E := by unfold eFld; rw [wp_bind]
theorem o_fld {cs : List Str} {f c : Str} {i : Nat} {fs : List (Str × D)} {v : D} (h : S[i]? = some (.ins c fs)) (hc : c ∈ cs) (hf : fs.lookup f = some v) : (fldOf cs f (.obj i) S).wp P E = P v S := by
  simp only [fldOf, h, if_pos hc, hf]
  exact wp_ok
theorem s_setF {cs : List Str} {f : Str} {mo mv : EM} : (sSetF cs f mo mv ρ S).wp p = (mv ρ S).wp (fun y S1 => (mo ρ S1).wp (fun o S2 => ∃ S3, setFld cs f o y S2 = some S3 ∧ p.nx ρ S3) (fun c w S1 => p.ex c w ρ S1)) (fun c w S1 => p.ex c w ρ S1) := by
  unfold sSetF
  rw [ws_to]
  refine wp_eq fun y S1 => ?_
  rw [ws_to]
  refine wp_eq fun o S2 => ?_
  cases setFld cs f o y S2 with
  | none => simp [ws_no]
  | some S3 => simp [ws_nx]
theorem setFld_ok {cs : List Str} {f c : Str} {i : Nat} {fs : List (Str × D)} {y : D} (h : S[i]? = some (.ins c fs)) (hc : c ∈ cs) (hl : fs.length < 1000) : setFld cs f (.obj i) y S = some (S.set i (.ins c (fput f y fs))) := by
  simp only [setFld, h, if_pos (And.intro hc hl)]
theorem s_augF {cs : List Str} {f c : Str} {i j : Nat} {fs : List (Str × D)} {d : D} {fo : D → D → Sto → R D} {mv : EM} (hj : ρ[j]? = some (some (.obj i))) (h : S[i]? = some (.ins c fs)) (hc : c ∈ cs) (hf : fs.lookup f = some d) :
    (sAugF cs f fo (eVar j) mv ρ S).wp p = (mv ρ S).wp (fun y S2 => (fo d y S2).wp (fun z S3 => ∃ fs', S3[i]? = some (.ins c fs') ∧ fs'.length < 1000 ∧ p.nx ρ (S3.set i (.ins c (fput f z fs')))) (fun c w S1 => p.ex c w ρ S1)) (fun c w S1 => p.ex c w ρ S1) := by
  unfold sAugF eVar
  rw [hj]
  rw [ws_to, wp_ok]
  simp only [h, if_pos hc, hf]
  rw [ws_to]
  refine wp_eq fun y S2 => ?_
  rw [ws_to]
  refine wp_eq fun z S3 => ?_
  split
  · rename_i c' fs' q
    rw [ws_ite]
    by_cases hh : c' = c ∧ fs'.length < 1000
    · rw [if_pos hh, ws_nx]
      obtain ⟨rfl, hl⟩ := hh
      exact propext ⟨fun z => ⟨fs', q, hl, z⟩, fun ⟨fs2, q2, _, z⟩ => by rw [q] at q2; cases q2; exact z⟩
    · rw [if_neg hh, ws_no]
      refine (eq_false ?_).symm
      rintro ⟨fs2, q2, hl, _⟩
      rw [q] at q2
      cases q2
      exact hh ⟨rfl, hl⟩
  · rename_i hn
    rw [ws_no]
    refine (eq_false ?_).symm
    rintro ⟨fs2, q2, _⟩
    exact hn _ _ q2
/-! ### methods, classes -/
theorem w_meth {c m : Str} {n : Nat} {dfs : List D} {mf : List D → Sto → R D} {mo : EM} {ma : AM} : (eMeth c m n dfs mf mo ma ρ S).wp P E = (mo ρ S).wp (fun d S1 => ∃ i fs, d = .obj i ∧ S1[i]? = some (.ins c fs) ∧ fs.lookup m = none ∧ (ma ρ S1).wp (fun ds S2 => ds.length = n ∧ (mf (.obj i :: (ds ++ dfs)) S2).wp P E) E) E := by
  unfold eMeth
  rw [wp_bind]
  refine wp_eq fun d S1 => ?_
  split
  · rename_i i
    split
    · rename_i c' fs q
      rw [wp_ite]
      by_cases hh : c' = c ∧ fs.lookup m = none
      · rw [if_pos hh, wp_bind]
        obtain ⟨rfl, hl⟩ := hh
        have e : ∀ ds S2, (if ds.length = n then mf (.obj i :: (ds ++ dfs)) S2 else .no : R D).wp P E = (ds.length = n ∧ (mf (.obj i :: (ds ++ dfs)) S2).wp P E) := fun ds S2 => by
          rw [wp_ite]
          by_cases hn : ds.length = n
          · rw [if_pos hn]; exact propext ⟨fun z => ⟨hn, z⟩, fun z => z.2⟩
          · rw [if_neg hn, wp_no]; exact propext ⟨fun z => z.elim, fun z => hn z.1⟩
        rw [wp_eq e]
        exact propext ⟨fun z => ⟨i, fs, rfl, q, hl, z⟩, fun ⟨i', fs', e1, q', _, z⟩ => by cases e1; exact z⟩
      · rw [if_neg hh, wp_no]
        refine (eq_false ?_).symm
        rintro ⟨i', fs', e1, q', hl, _⟩
        cases e1
        rw [q] at q'
        cases q'
        exact hh ⟨rfl, hl⟩
    · rename_i hn
      rw [wp_no]
      refine (eq_false ?_).symm
      rintro ⟨i', fs', e1, q', _⟩
      cases e1
      exact hn _ _ q'
  · rename_i hn
    rw [wp_no]
    refine (eq_false ?_).symm
    rintro ⟨i', fs', e1, _⟩
    exact hn _ e1
theorem w_make {c : Str} {n : Nat} {dfs : List D} {mf : List D → Sto → R D} {ma : AM} : (eMake c n dfs mf ma ρ S).wp P E = (ma ρ S).wp (fun ds S1 => ds.length = n ∧ (mf (.obj S1.length :: (ds ++ dfs)) (S1 ++ [.ins c []])).wp (fun d S2 => d = .non ∧ P (.obj S1.length) S2) E) E := by
  unfold eMake
  rw [wp_bind]
  refine wp_eq fun ds S1 => ?_
  rw [wp_ite]
  by_cases hn : ds.length = n
  · rw [if_pos hn, wp_bind]
    refine (wp_eq (P' := fun d S2 => d = D.non ∧ P (.obj S1.length) S2) fun d S2 => by cases d <;> simp [wp_ok, wp_no]).trans ?_
    exact propext ⟨fun z => ⟨hn, z⟩, fun z => z.2⟩
  · rw [if_neg hn, wp_no]; exact propext ⟨fun z => z.elim, fun z => hn z.1⟩
/-! ### lists -/
theorem popTo_wp {l k : Nat} {xs : List D} {i : Int} {d : D} (h : S[l]? = some (.lst xs)) (hl : xs.length < 16777216) (hk : ixN xs.length i = some k) (hd : xs[k]? = some d) : (popTo l (.int i) S).wp P E = P d (S.set l (.lst (xs.eraseIdx k))) := by
  simp only [popTo, h, if_pos hl, hk, hd]
  exact wp_ok
theorem w_pop {mo me : EM} : (ePop mo me ρ S).wp P E = (mo ρ S).wp (fun d S1 => ∃ l xs, d = .obj l ∧ S1[l]? = some (.lst xs) ∧ (me ρ S1).wp (fun y S2 => (popTo l y S2).wp P E) E) E := by
  unfold ePop
  rw [wp_bind]
  refine wp_eq fun d S1 => ?_
  split
  · rename_i l
    split
    · rename_i xs q
      rw [wp_bind]
      exact propext ⟨fun z => ⟨l, xs, rfl, q, z⟩, fun ⟨l', xs', e1, _, z⟩ => by cases e1; exact z⟩
    · rename_i hn
      rw [wp_no]
      refine (eq_false ?_).symm
      rintro ⟨l', xs', e1, q', _⟩
      cases e1
      exact hn _ q'
  · rename_i hn
    rw [wp_no]
    refine (eq_false ?_).symm
    rintro ⟨l', xs', e1, _⟩
    exact hn _ e1
theorem insTo_wp {l : Nat} {xs : List D} {i : Int} {y : D} (h : S[l]? = some (.lst xs)) (hl : xs.length < 16777216) (h0 : 0 ≤ i) (h1 : i < 2 ^ 62) : (insTo l (.int i) y S).wp P E = P .non (S.set l (.lst (xs.take i.toNat ++ [y] ++ xs.drop i.toNat))) := by
  simp only [insTo, h, if_pos (And.intro hl (And.intro h0 h1))]
  exact wp_ok
theorem w_ins {mo me me2 : EM} : (eIns mo me me2 ρ S).wp P E = (mo ρ S).wp (fun d S1 => ∃ l xs, d = .obj l ∧ S1[l]? = some (.lst xs) ∧ (me ρ S1).wp (fun i S2 => (me2 ρ S2).wp (fun y S3 => (insTo l i y S3).wp P E) E) E) E := by
  unfold eIns
  rw [wp_bind]
  refine wp_eq fun d S1 => ?_
  split
  · rename_i l
    split
    · rename_i xs q
      rw [wp_bind]
      have e : ∀ i S2, ((me2 ρ S2).bind fun y S3 => insTo l i y S3).wp P E = (me2 ρ S2).wp (fun y S3 => (insTo l i y S3).wp P E) E := fun i S2 => by rw [wp_bind]
      rw [wp_eq e]
      exact propext ⟨fun z => ⟨l, xs, rfl, q, z⟩, fun ⟨l', xs', e1, _, z⟩ => by cases e1; exact z⟩
    · rename_i hn
      rw [wp_no]
      refine (eq_false ?_).symm
      rintro ⟨l', xs', e1, q', _⟩
      cases e1
      exact hn _ q'
  · rename_i hn
    rw [wp_no]
    refine (eq_false ?_).symm
    rintro ⟨l', xs', e1, _⟩
    exact hn _ e1
theorem optAll_ints : ∀ ns : List Int, optAll intD (ns.map .int) = some ns
  | [] => rfl
  | n :: ns => by simp only [List.map_cons, optAll, intD, optAll_ints ns]
theorem o_sortI {i : Nat} {ns : List Int} (h : S[i]? = some (.lst (ns.map .int))) : (gSortI [.obj i] S).wp P E = P (.obj S.length) (S ++ [.lst ((PySem.W.sortI ns).map .int)]) := by
  simp only [gSortI, h, optAll_ints]
  exact wp_ok
theorem w_lstRg {me : EM} : (eLstRg (aCons me aNil) ρ S).wp P E = (me ρ S).wp (fun d S1 => ∃ n : Int, d = .int n ∧ (0 ≤ n ∧ n ≤ 16777216) ∧ P (.obj S1.length) (S1 ++ [.lst (rgD 0 n)])) E := by
  unfold eLstRg
  rw [wp_bind, w_acons]
  refine wp_eq fun d S1 => ?_
  rw [w_anil]
  cases d with
  | int n =>
    simp only
    rw [wp_ite]
    by_cases hh : 0 ≤ n ∧ n ≤ 16777216
    · rw [if_pos hh, wp_ok]
      exact propext ⟨fun z => ⟨n, rfl, hh, z⟩, fun ⟨m, e, _, z⟩ => by cases e; exact z⟩
    · rw [if_neg hh, wp_no]
      refine (eq_false ?_).symm
      rintro ⟨m, e, h2, _⟩
      cases e
      exact hh h2
  | _ =>
    simp only
    rw [wp_no]
    refine (eq_false ?_).symm
    rintro ⟨m, e, _⟩
    cases e
/-! ### dict comprehensions -/
theorem w_dcomp {n : Nat} {vs : List Nat} {mi : IM} {gm : GM} {tm : TM} {mk mv : EM} : (eDComp n vs mi gm tm mk mv ρ S).wp P E = (mi ρ S).wp (fun di S1 => (cLoopD di gm tm mk mv S1.length n 0 (wipeE ρ vs) (S1 ++ [.dK []])).wp P E) E := by
  unfold eDComp
  rw [wp_bind]
theorem cloopD_wp {di : DI} {gm : GM} {tm : TM} {mk mv : EM} {l : Nat} (len : Nat) (I : Nat → Sto → Prop) (stop : ∀ S, I len S → di len S = some none ∧ P (.obj l) S)
    (step : ∀ i S, i < len → I i S → ∃ d, di i S = some (some d) ∧ (gm d ρ S).wp ⟨fun ρ1 S1 => (tm ρ1 S1).wp (fun b S2 => if b = true then (mk ρ1 S2).wp (fun y S3 => (mv ρ1 S3).wp (fun z S4 => ∃ acc k, S4[l]? = some (.dK acc) ∧ dKey y = some k ∧ acc.length < 16777216 ∧ I (i + 1) (S4.set l (.dK (kput acc k z)))) NoE) NoE else I (i + 1) S2) NoE,
      fun _ _ => False, fun _ _ => False, fun _ _ => False, fun _ _ _ _ => False⟩) :
    ∀ {n i : Nat} {S : Sto}, I i S → i ≤ len → len - i < n → (cLoopD di gm tm mk mv l n i ρ S).wp P E
  | 0, i, S, _, _, h => absurd h (Nat.not_lt_zero _)
  | n + 1, i, S, hI, hi, hn => by
    unfold cLoopD
    by_cases e : i = len
    · subst e
      obtain ⟨h1, h2⟩ := stop S hI
      rw [h1]
      exact ⟨h2⟩
    · obtain ⟨d, h1, h2⟩ := step i S (by omega) hI
      rw [h1]
      simp only
      cases q : gm d ρ S with
      | nx ρ1 S1 =>
        rw [q, ws_nx] at h2
        simp only [gx]
        replace h2 : (tm ρ1 S1).wp _ _ := h2
        cases q2 : tm ρ1 S1 with
        | ok b S2 =>
          rw [q2] at h2
          simp only [wp_ok] at h2
          cases b with
          | false =>
            simp only [Bool.false_eq_true, if_false] at h2 ⊢
            exact cloopD_wp len I stop step h2 (by omega) (by omega)
          | true =>
            simp only [if_true] at h2 ⊢
            cases q3 : mk ρ1 S2 with
            | ok y S3 =>
              rw [q3, wp_ok] at h2
              simp only
              cases q4 : mv ρ1 S3 with
              | ok z S4 =>
                rw [q4, wp_ok] at h2
                obtain ⟨acc, k, h3, h4, h5, h6⟩ := h2
                simp only [h3, h4, if_pos h5]
                exact cloopD_wp len I stop step h6 (by omega) (by omega)
              | ex c w S4 => rw [q4] at h2; exact h2.go.elim
              | no => rw [q4] at h2; exact h2.go.elim
            | ex c w S3 => rw [q3] at h2; exact h2.go.elim
            | no => rw [q3] at h2; exact h2.go.elim
        | ex c w S2 => rw [q2] at h2; exact h2.go.elim
        | no => rw [q2] at h2; exact h2.go.elim
      | rt d S1 => rw [q] at h2; exact h2.go.elim
      | bk _ _ => rw [q] at h2; exact h2.go.elim
      | ct _ _ => rw [q] at h2; exact h2.go.elim
      | ex c w ρ1 S1 => rw [q] at h2; exact h2.go.elim
      | no => rw [q] at h2; exact h2.go.elim
/-! ### is None -/
theorem o_is {neg : Bool} {d : D} : (dIs neg d .non S).wp P E = P (.bl (if neg then !isNon d else isNon d)) S := by
  have e : dIs neg d .non S = .ok (.bl (if neg then !isNon d else isNon d)) S := by cases d <;> rfl
  rw [e]
  exact wp_ok
theorem isNon_non : isNon .non = true := rfl
theorem isNon_int {i : Int} : isNon (.int i) = false := rfl
end
end Sh

set_option Elab.async false
set_option linter.all false
set_option maxRecDepth 100000
set_option autoImplicit false
namespace Sh
open PySem PySem.Spec PyProof.Rows L2
/-! ### what a dict has for a key, or else -/
def eGet2 (mo me mx : EM) : EM := fun ρ S => (mo ρ S).bind fun d S1 => match d with
  | .obj l => (match S1[l]? with
    | some (.dK _) => (me ρ S1).bind fun k S2 => (mx ρ S2).bind fun z S3 => (match dLook (.obj l) k S3 with
      | some o => .ok (o.getD z) S3
      | none => .no)
    | _ => .no)
  | _ => .no
section
variable {X : Cx} {W : WX} {o e f : Expr} {apos cpos : Pos} {to te tx : TE} {mo me mx : EM}
theorem ee_get2 {k : Nat} (hr : Room k X.A) (ho : Ee X W o to mo) (he : Ee X W e te me) (hf : Ee X W f tx mx)
    (hbase : attributeBase o "get" X.env (eval o X.env) = eval o X.env := by rfl)
    (hfew : ((backTo cpos (starEach [e, f] X.env)).all (fun x => !x.1) && (backToKw cpos (keywordEach [] X.env)).all (fun x => x.1.isSome)
      && decide (([e, f] : List Expr).length + ([] : List Keyword).length + (if ([] : List Keyword).isEmpty then 0 else 1) < 30)) = true := by rfl)
    (hline : (apos.endLine == cpos.line) = true := by rfl) (htr : backTo cpos (starEach [e, f] X.env) = [(false, eval e X.env), (false, eval f X.env)] := by rfl) :
    Ee X W (.Call (.Attribute o "get" apos) [e, f] [] cpos) (tDGet2 to te tx) (eGet2 mo me mx) :=
  ⟨pe_dget2 (by have := Room.u200 hr; omega) ho.der he.der hf.der ⟨hbase, hfew, hline, htr⟩, fun ι S H ρ σ Q s r g => bindE ho.sim s r g fun d S1 ι1 H1 v e1 s1 r1 x g1 => by
    split at g1
    · cases x with
      | obj hi =>
      split at g1
      · rename_i kvs q1
        obtain ⟨a, vs, ha, hv, rr⟩ := s1.dictK q1
        rw [hi] at ha
        cases ha
        refine ⟨_, rfl, .inl ⟨vs, .inl hv⟩, bindE he.sim s1 r1 g1 fun k S2 ι2 H2 w e2 s2 r2 x2 g2 => bindE hf.sim s2 r2 g2 fun z S3 ι3 H3 u e3 s3 r3 x3 g3 => ?_⟩
        split at g3
        · rename_i oo q3
          obtain ⟨b, ov, hb, dg, hh⟩ := dLook_rel s3 (.obj (e3.get (e2.get hi))) (x2.mono e3) q3
          cases hb
          refine ⟨ov, dg, ?_⟩
          rcases hh with ⟨rfl, rfl⟩ | ⟨d', v', rfl, rfl, dv⟩
          · exact g3.now s3 _ x3
          · exact g3.now s3 _ dv
        · exact g3.elim
      · exact g1.elim
    · exact g1.elim⟩
end
section
variable {ρ : Env} {S : Sto} {P : D → Sto → Prop} {E : Str → D → Sto → Prop} {mo me mx : EM}
theorem w_get2 : (eGet2 mo me mx ρ S).wp P E = (mo ρ S).wp (fun d S1 => ∃ l kvs, d = .obj l ∧ S1[l]? = some (.dK kvs) ∧ (me ρ S1).wp (fun k S2 => (mx ρ S2).wp (fun z S3 => ∃ o, dLook (.obj l) k S3 = some o ∧ P (o.getD z) S3) E) E) E := by
  unfold eGet2
  rw [wp_bind]
  refine wp_eq fun d S1 => ?_
  split
  · rename_i l
    split
    · rename_i kvs q
      have inner : ∀ (k z : D) (S3 : Sto), (match dLook (.obj l) k S3 with | some o => (.ok (o.getD z) S3 : R D) | none => .no).wp P E = ∃ o, dLook (.obj l) k S3 = some o ∧ P (o.getD z) S3 := by
        intro k z S3
        cases h : dLook (.obj l) k S3 with
        | some o => simp [wp_ok]
        | none => simp [wp_no]
      have two : ((me ρ S1).bind fun k S2 => (mx ρ S2).bind fun z S3 => (match dLook (.obj l) k S3 with | some o => (.ok (o.getD z) S3 : R D) | none => .no)).wp P E = (me ρ S1).wp (fun k S2 => (mx ρ S2).wp (fun z S3 => ∃ o, dLook (.obj l) k S3 = some o ∧ P (o.getD z) S3) E) E := by
        rw [wp_bind]
        refine wp_eq fun k S2 => ?_
        rw [wp_bind]
        exact wp_eq fun z S3 => inner k z S3
      refine Eq.trans two ?_
      exact propext ⟨fun z => ⟨l, kvs, rfl, q, z⟩, fun ⟨l', xs', e1, _, z⟩ => by cases e1; exact z⟩
    · rename_i hn
      rw [wp_no]
      refine (eq_false ?_).symm
      rintro ⟨l', xs', e1, q', _⟩
      cases e1
      exact hn _ q'
  · rename_i hn
    rw [wp_no]
    refine (eq_false ?_).symm
    rintro ⟨l', xs', e1, _⟩
    exact hn _ e1
end
end Sh

open PySem PySem.Spec PyProof.Rows L2 Sh
local macro_rules | `(tactic| exists 7000) => `(tactic| simp only [wp_ok, wp_bind, ws_nx, ws_rt, ws_bk, ws_ct, ws_ex, ws_to, ws_seq, ws_gx, wp_fnM, w_lit, w_anil, w_acons, w_bin, w_cb, w_tup, w_lst, w_tbl, w_tru, w_and, w_or, w_not, w_eif, w_eand, w_eor, w_enot, w_neg, w_call, s_nil, s_ret, s_retN, s_expr, s_if, s_raise, s_as, g_name, s_par, g_sub, o_add_i, o_sub, o_mul, o_div, o_mod, o_ord, o_iadd, o_min, o_max, o_int, o_intb, eVar, env0, List.getElem?_cons_succ, List.getElem?_cons_zero, List.set_cons_succ, List.set_cons_zero, List.map_cons, List.map_nil, List.length_cons, List.length_nil, List.replicate_succ, List.replicate_zero, List.cons_append, List.nil_append, List.append_nil, Nat.reduceAdd, Nat.reduceSub, List.zip_cons_cons, List.zip_nil_right, List.foldl_cons, List.foldl_nil, pick, List.filterMap_cons, List.filterMap_nil, Nat.zero_add, D.int.injEq, D.bl.injEq, exists_eq_left', decide_eq_true_eq, true_and, and_self, Option.some.injEq, o_eq_ii, o_ne_ii, Nat.reduceLeDiff, s_for, w_iseq, w_ir1, w_ir2, ir2P_ii, w_ien, w_izp, izP_two, o_pow, g_tup, g_nil, g_cons, w_app, w_cut, w_onone, w_osome, o_cut_t, w_comp, s_try, w_disp, w_pnil, w_pcons, o_inK, truD_bl, eq_ss, wipeE, eq_self, o_ix0, o_ix1, o_ix2, o_lenT, if_true, if_false, Bool.not_true, Bool.not_false, Bool.false_eq_true])
local macro_rules | `(tactic| exists 7000, $xs,*) => `(tactic| simp only [wp_ok, wp_bind, ws_nx, ws_rt, ws_bk, ws_ct, ws_ex, ws_to, ws_seq, ws_gx, wp_fnM, w_lit, w_anil, w_acons, w_bin, w_cb, w_tup, w_lst, w_tbl, w_tru, w_and, w_or, w_not, w_eif, w_eand, w_eor, w_enot, w_neg, w_call, s_nil, s_ret, s_retN, s_expr, s_if, s_raise, s_as, g_name, s_par, g_sub, o_add_i, o_sub, o_mul, o_div, o_mod, o_ord, o_iadd, o_min, o_max, o_int, o_intb, eVar, env0, List.getElem?_cons_succ, List.getElem?_cons_zero, List.set_cons_succ, List.set_cons_zero, List.map_cons, List.map_nil, List.length_cons, List.length_nil, List.replicate_succ, List.replicate_zero, List.cons_append, List.nil_append, List.append_nil, Nat.reduceAdd, Nat.reduceSub, List.zip_cons_cons, List.zip_nil_right, List.foldl_cons, List.foldl_nil, pick, List.filterMap_cons, List.filterMap_nil, Nat.zero_add, D.int.injEq, D.bl.injEq, exists_eq_left', decide_eq_true_eq, true_and, and_self, Option.some.injEq, o_eq_ii, o_ne_ii, Nat.reduceLeDiff, s_for, w_iseq, w_ir1, w_ir2, ir2P_ii, w_ien, w_izp, izP_two, o_pow, g_tup, g_nil, g_cons, w_app, w_cut, w_onone, w_osome, o_cut_t, w_comp, s_try, w_disp, w_pnil, w_pcons, o_inK, truD_bl, eq_ss, wipeE, eq_self, o_ix0, o_ix1, o_ix2, o_lenT, if_true, if_false, Bool.not_true, Bool.not_false, Bool.false_eq_true, $[$xs:term],*])
local macro_rules | `(tactic| exists 7001) => `(tactic| try simp only [wp_ok, wp_bind, ws_nx, ws_rt, ws_bk, ws_ct, ws_ex, ws_to, ws_seq, ws_gx, wp_fnM, w_lit, w_anil, w_acons, w_bin, w_cb, w_tup, w_lst, w_tbl, w_tru, w_and, w_or, w_not, w_eif, w_eand, w_eor, w_enot, w_neg, w_call, s_nil, s_ret, s_retN, s_expr, s_if, s_raise, s_as, g_name, s_par, g_sub, o_add_i, o_sub, o_mul, o_div, o_mod, o_ord, o_iadd, o_min, o_max, o_int, o_intb, eVar, env0, List.getElem?_cons_succ, List.getElem?_cons_zero, List.set_cons_succ, List.set_cons_zero, List.map_cons, List.map_nil, List.length_cons, List.length_nil, List.replicate_succ, List.replicate_zero, List.cons_append, List.nil_append, List.append_nil, Nat.reduceAdd, Nat.reduceSub, List.zip_cons_cons, List.zip_nil_right, List.foldl_cons, List.foldl_nil, pick, List.filterMap_cons, List.filterMap_nil, Nat.zero_add, D.int.injEq, D.bl.injEq, exists_eq_left', decide_eq_true_eq, true_and, and_self, Option.some.injEq, o_eq_ii, o_ne_ii, Nat.reduceLeDiff, s_for, w_iseq, w_ir1, w_ir2, ir2P_ii, w_ien, w_izp, izP_two, o_pow, g_tup, g_nil, g_cons, w_app, w_cut, w_onone, w_osome, o_cut_t, w_comp, s_try, w_disp, w_pnil, w_pcons, o_inK, truD_bl, eq_ss, wipeE, eq_self, o_ix0, o_ix1, o_ix2, o_lenT, if_true, if_false, Bool.not_true, Bool.not_false, Bool.false_eq_true])
local macro_rules | `(tactic| exists 7001, $xs,*) => `(tactic| try simp only [wp_ok, wp_bind, ws_nx, ws_rt, ws_bk, ws_ct, ws_ex, ws_to, ws_seq, ws_gx, wp_fnM, w_lit, w_anil, w_acons, w_bin, w_cb, w_tup, w_lst, w_tbl, w_tru, w_and, w_or, w_not, w_eif, w_eand, w_eor, w_enot, w_neg, w_call, s_nil, s_ret, s_retN, s_expr, s_if, s_raise, s_as, g_name, s_par, g_sub, o_add_i, o_sub, o_mul, o_div, o_mod, o_ord, o_iadd, o_min, o_max, o_int, o_intb, eVar, env0, List.getElem?_cons_succ, List.getElem?_cons_zero, List.set_cons_succ, List.set_cons_zero, List.map_cons, List.map_nil, List.length_cons, List.length_nil, List.replicate_succ, List.replicate_zero, List.cons_append, List.nil_append, List.append_nil, Nat.reduceAdd, Nat.reduceSub, List.zip_cons_cons, List.zip_nil_right, List.foldl_cons, List.foldl_nil, pick, List.filterMap_cons, List.filterMap_nil, Nat.zero_add, D.int.injEq, D.bl.injEq, exists_eq_left', decide_eq_true_eq, true_and, and_self, Option.some.injEq, o_eq_ii, o_ne_ii, Nat.reduceLeDiff, s_for, w_iseq, w_ir1, w_ir2, ir2P_ii, w_ien, w_izp, izP_two, o_pow, g_tup, g_nil, g_cons, w_app, w_cut, w_onone, w_osome, o_cut_t, w_comp, s_try, w_disp, w_pnil, w_pcons, o_inK, truD_bl, eq_ss, wipeE, eq_self, o_ix0, o_ix1, o_ix2, o_lenT, if_true, if_false, Bool.not_true, Bool.not_false, Bool.false_eq_true, $[$xs:term],*])
local macro_rules | `(tactic| exists 7002) => `(tactic| simp only [wp_ok, wp_bind, ws_nx, ws_rt, ws_bk, ws_ct, ws_ex, ws_to, ws_seq, ws_gx, wp_fnM, w_lit, w_anil, w_acons, w_bin, w_cb, w_tup, w_lst, w_tbl, w_tru, w_and, w_or, w_not, w_eand, w_eor, w_enot, w_neg, w_call, s_nil, s_ret, s_retN, s_expr, s_if, s_raise, s_as, g_name, s_par, g_sub, o_add_i, o_sub, o_mul, o_div, o_mod, o_ord, o_iadd, o_min, o_max, o_int, o_intb, eVar, env0, List.getElem?_cons_succ, List.getElem?_cons_zero, List.set_cons_succ, List.set_cons_zero, List.map_cons, List.map_nil, List.length_cons, List.length_nil, List.replicate_succ, List.replicate_zero, List.cons_append, List.nil_append, List.append_nil, Nat.reduceAdd, Nat.reduceSub, List.zip_cons_cons, List.zip_nil_right, List.foldl_cons, List.foldl_nil, pick, List.filterMap_cons, List.filterMap_nil, Nat.zero_add, D.int.injEq, D.bl.injEq, exists_eq_left', decide_eq_true_eq, true_and, and_self, Option.some.injEq, o_eq_ii, o_ne_ii, Nat.reduceLeDiff, s_for, w_iseq, w_ir1, w_ir2, ir2P_ii, w_ien, w_izp, izP_two, o_pow, g_tup, g_nil, g_cons, w_app, w_cut, w_onone, w_osome, o_cut_t, w_comp, s_try, w_disp, w_pnil, w_pcons, o_inK, truD_bl, eq_ss, wipeE, eq_self, o_ix0, o_ix1, o_ix2, o_lenT, if_true, if_false, Bool.not_true, Bool.not_false, Bool.false_eq_true])
local macro_rules | `(tactic| exists 7002, $xs,*) => `(tactic| simp only [wp_ok, wp_bind, ws_nx, ws_rt, ws_bk, ws_ct, ws_ex, ws_to, ws_seq, ws_gx, wp_fnM, w_lit, w_anil, w_acons, w_bin, w_cb, w_tup, w_lst, w_tbl, w_tru, w_and, w_or, w_not, w_eand, w_eor, w_enot, w_neg, w_call, s_nil, s_ret, s_retN, s_expr, s_if, s_raise, s_as, g_name, s_par, g_sub, o_add_i, o_sub, o_mul, o_div, o_mod, o_ord, o_iadd, o_min, o_max, o_int, o_intb, eVar, env0, List.getElem?_cons_succ, List.getElem?_cons_zero, List.set_cons_succ, List.set_cons_zero, List.map_cons, List.map_nil, List.length_cons, List.length_nil, List.replicate_succ, List.replicate_zero, List.cons_append, List.nil_append, List.append_nil, Nat.reduceAdd, Nat.reduceSub, List.zip_cons_cons, List.zip_nil_right, List.foldl_cons, List.foldl_nil, pick, List.filterMap_cons, List.filterMap_nil, Nat.zero_add, D.int.injEq, D.bl.injEq, exists_eq_left', decide_eq_true_eq, true_and, and_self, Option.some.injEq, o_eq_ii, o_ne_ii, Nat.reduceLeDiff, s_for, w_iseq, w_ir1, w_ir2, ir2P_ii, w_ien, w_izp, izP_two, o_pow, g_tup, g_nil, g_cons, w_app, w_cut, w_onone, w_osome, o_cut_t, w_comp, s_try, w_disp, w_pnil, w_pcons, o_inK, truD_bl, eq_ss, wipeE, eq_self, o_ix0, o_ix1, o_ix2, o_lenT, if_true, if_false, Bool.not_true, Bool.not_false, Bool.false_eq_true, $[$xs:term],*])
set_option Elab.async false
set_option linter.all false
set_option maxRecDepth 100000
set_option autoImplicit false
namespace Lw
open PySem PySem.Spec PyProof.Rows L2 Sh
/-! ### what the laws draw from: [big, mixed] at place i of the store -/
structure Src (i : Nat) (S : Sto) : Prop where
  ex : ∃ a b : Int, S[i]? = some (.lst [.int a, .int b]) ∧ 0 ≤ a ∧ a.natAbs.log2 < 2000000 ∧ 0 ≤ b ∧ b < 2147483647
theorem Src.pg {i : Nat} {is : List Nat} {S S' : Sto} (h : Src i S) (p : Pg is S S') (n : i ∉ is) : Src i S' := let ⟨a, b, h1, h2⟩ := h.ex; ⟨a, b, p.get h1 n, h2⟩
abbrev N_take : List Str := ["source", "top", "drawn"]
def b_take : SM :=
  (sSeq (sIf (tBl (eBin (dOrd fun i j => decide (j < i)) (eBin dIx (eVar 0) (eLit (.int 0))) (eLit (.int 0)))) (sSeq (sAs (eBin dMod (eCb gInt (aCons (eBin dIx (eVar 0) (eLit (.int 0))) aNil)) (eVar 1)) (gNameM 2))
  (sSeq (sAs (eBin dDiv (eBin dIx (eVar 0) (eLit (.int 0))) (eVar 1)) (gSubM (eVar 0) (eLit (.int 0))))
  (sRet (eVar 2)))) sNil)
  (sSeq (sAs (eBin dMod (eCb gInt (aCons (eBin dAdd (eBin dMul (eBin dIx (eVar 0) (eLit (.int 1))) (eLit (.int 39373))) (eLit (.int 7))) aNil)) (eLit (.int 2147483647))) (gSubM (eVar 0) (eLit (.int 1))))
  (sRet (eBin dMod (eCb gInt (aCons (eBin dDiv (eBin dMod (eCb gInt (aCons (eBin dMul (eBin dIx (eVar 0) (eLit (.int 1))) (eBin dIx (eVar 0) (eLit (.int 1)))) aNil)) (eLit (.int 2147483629))) (eLit (.int 32))) aNil)) (eVar 1)))))
def m_take : List D → Sto → R D := fnM N_take.length b_take
theorem log2_mono {a b : Nat} (h : a ≤ b) : a.log2 ≤ b.log2 := by
  by_cases ha : a = 0
  · subst ha; simp
  · have hb : b ≠ 0 := by omega
    have h1 : b < 2 ^ (b.log2 + 1) := (Nat.log2_lt hb).mp (Nat.lt_succ_self _)
    exact Nat.le_of_lt_succ ((Nat.log2_lt ha).mpr (Nat.lt_of_le_of_lt h h1))
theorem log2_small {a : Int} {n : Nat} (h : a.natAbs < 2 ^ n) (hn : 0 < n) : a.natAbs.log2 < n := PySem.Flt.log2_lt_of hn h
theorem take_wp {i : Nat} {S : Sto} {top : Int} {P : D → Sto → Prop} {E : Str → D → Sto → Prop} (hs : Src i S) (h0 : 0 < top) (h1 : top < 2 ^ 31) (k : ∀ (r : Int) (S' : Sto), 0 ≤ r → r < top → Src i S' → Pg [i] S S' → P (.int r) S') : (m_take [.obj i, .int top] S).wp P E := by
  obtain ⟨a, b, hS, ha, hl, hb, hb2⟩ := hs.ex
  have i0 : dIx (.obj i) (.int 0) S = .ok (.int a) S := dIx_lst (k := 0) hS rfl
  have i1 : dIx (.obj i) (.int 1) S = .ok (.int b) S := dIx_lst (k := 1) hS rfl
  have hi := (List.getElem?_eq_some_iff.mp hS).1
  have lt : top.natAbs.log2 < 9000 := Nat.lt_trans (log2_small (n := 32) (by omega) (by decide)) (by decide)
  unfold m_take b_take
  exists 7000, i0, i1
  split
  · refine ⟨h0, ⟨h0, lt⟩, _, dSet_lst (k := 0) hS (by simp), ?_⟩
    refine k _ _ (Int.emod_nonneg _ (by omega)) (Int.emod_lt_of_pos _ h0) ⟨_, _, by rw [List.getElem?_set_self hi]; rfl, Int.ediv_nonneg ha (by omega), ?_, hb, hb2⟩ (Pg.set (by simp))
    have h3 : (a / top).natAbs ≤ a.natAbs := by
      have := Int.ediv_le_self top ha
      have := Int.ediv_nonneg ha (by omega : 0 ≤ top)
      omega
    exact Nat.lt_of_le_of_lt (log2_mono h3) hl
  · refine ⟨?_, by decide, _, dSet_lst (k := 1) hS (by simp), ?_⟩
    · have := log2_small (a := b) (n := 32) (by omega) (by decide)
      have := log2_small (a := 39373) (n := 32) (by decide) (by decide)
      omega
    · generalize hc : (b * 39373 + 7) % 2147483647 = c
      have c0 : 0 ≤ c := by omega
      have c1 : c < 2147483647 := by omega
      have hS' : (S.set i (.lst ([D.int a, .int b].set 1 (.int c))))[i]? = some (.lst [.int a, .int c]) := by rw [List.getElem?_set_self hi]; rfl
      have pg : Pg [i] S (S.set i (.lst ([D.int a, .int b].set 1 (.int c)))) := Pg.set (by simp)
      generalize S.set i (.lst ([D.int a, .int b].set 1 (.int c))) = S2 at hS' pg ⊢
      have j1 : dIx (.obj i) (.int 1) S2 = .ok (.int c) S2 := dIx_lst (k := 1) hS' rfl
      exists 7000, j1
      have := log2_small (a := c) (n := 32) (by omega) (by decide)
      refine ⟨by omega, by decide, ⟨by decide, by decide⟩, h0, k _ _ (Int.emod_nonneg _ (by omega)) (Int.emod_lt_of_pos _ h0) ⟨_, _, hS', ha, hl, c0, c1⟩ pg⟩
/-! ### one of the things -/
theorem dIx_of {S : Sto} {d : D} {xs : List D} {k : Nat} {v : D} (h : seqD S d = some xs) (hv : xs[k]? = some v) : dIx d (.int k) S = .ok v S := by
  unfold seqD at h
  split at h
  · cases h; exact dIx_seq (.inl rfl) hv
  · cases h; exact dIx_seq (.inr (.inl rfl)) hv
  · cases h; exact dIx_seq (.inr (.inr rfl)) hv
  · split at h
    · rename_i ys q; cases h; exact dIx_lst q hv
    · cases h
  · cases h
theorem len_of {S : Sto} {d : D} {xs : List D} {P : D → Sto → Prop} {E : Str → D → Sto → Prop} (h : seqD S d = some xs) : (gLenA [d] S).wp P E = P (.int xs.length) S := by
  unfold gLenA
  simp only [h]
  exact wp_ok
theorem seqD_pg {is : List Nat} {S S' : Sto} {d : D} {xs : List D} (h : seqD S d = some xs) (p : Pg is S S') (n : ∀ i ∈ is, d ≠ .obj i) : seqD S' d = some xs := by
  unfold seqD at h ⊢
  split at h
  · exact h
  · exact h
  · exact h
  · rename_i j
    split at h
    · rename_i ys q
      rw [p.get q fun z => n j z rfl]
      exact h
    · cases h
  · cases h
abbrev N_one : List Str := ["source", "things"]
def b_one : SM :=
  (sRet (eBin dIx (eVar 1) (eCall 2 0 [0, 1] m_take (aCons (eVar 0) (aCons (eCb gLenA (aCons (eVar 1) aNil)) aNil)) aNil)))
def m_one : List D → Sto → R D := fnM N_one.length b_one
theorem one_wp {i : Nat} {S : Sto} {d : D} {xs : List D} {P : D → Sto → Prop} {E : Str → D → Sto → Prop} (hs : Src i S) (hd : seqD S d = some xs) (hne : 0 < xs.length) (hl : xs.length < 2 ^ 31) (n : d ≠ .obj i)
    (k : ∀ x ∈ xs, ∀ S' : Sto, Src i S' → Pg [i] S S' → P x S') : (m_one [.obj i, d] S).wp P E := by
  unfold m_one b_one
  exists 7000, len_of hd
  refine take_wp hs (by omega) (by omega) fun r S' h0 h1 hs' pg => ?_
  exists 7001
  obtain ⟨r, rfl⟩ := Int.eq_ofNat_of_zero_le h0
  have hr : r < xs.length := by omega
  rw [dIx_of (seqD_pg hd pg (by simpa using n)) (List.getElem?_eq_getElem hr), wp_ok]
  exact k _ (List.getElem_mem hr) S' hs' pg
theorem seqD_obj {S : Sto} {i : Nat} {xs : List D} (h : S[i]? = some (.lst xs)) : seqD S (.obj i) = some xs := by simp only [seqD, h]
theorem Src.lt {i : Nat} {S : Sto} (h : Src i S) : i < S.length := let ⟨_, _, e, _⟩ := h.ex; (List.getElem?_eq_some_iff.mp e).1
/-- one of a list that is just made -/
theorem oneL_wp {i : Nat} {S : Sto} {xs : List D} {P : D → Sto → Prop} {E : Str → D → Sto → Prop} (hs : Src i S) (hne : 0 < xs.length) (hl : xs.length < 2 ^ 31) (k : ∀ x ∈ xs, ∀ S' : Sto, Src i S' → Pg [i] S S' → P x S') : (m_one [.obj i, .obj S.length] (S ++ [.lst xs])).wp P E :=
  one_wp (hs.pg (Pg.push (is := [])) (by simp)) (seqD_obj last_get) hne hl (fun e => by have := hs.lt; cases e; omega) fun x hx S' hs' pg => k x hx S' hs' (Pg.push.trans pg)
/-! ### a plain statement -/
abbrev N_plain : List Str := ["source", "own_names", "piles", "way", "x", "y", "pile"]
def b_plain : SM :=
  (sSeq (sAs (eCall 2 0 [0, 1] m_take (aCons (eVar 0) (aCons (eLit (.int 12)) aNil)) aNil) (gNameM 3))
  (sSeq (sPar [4, 5, 6] (aCons (eCall 2 0 [0, 1] m_one (aCons (eVar 0) (aCons (eVar 1) aNil)) aNil) (aCons (eCall 2 0 [0, 1] m_one (aCons (eVar 0) (aCons (eVar 1) aNil)) aNil) (aCons (eCall 2 0 [0, 1] m_one (aCons (eVar 0) (aCons (eVar 2) aNil)) aNil) aNil))))
  (sSeq (sIf (tBl (eBin (dOrd fun i j => decide (i < j)) (eVar 3) (eLit (.int 4)))) (sRet (eTup (aCons (eLit (.str "new")) (aCons (eVar 4) aNil)))) sNil)
  (sSeq (sIf (tBl (eBin (dOrd fun i j => decide (i < j)) (eVar 3) (eLit (.int 6)))) (sRet (eTup (aCons (eLit (.str "put")) (aCons (eVar 4) (aCons (eVar 6) aNil))))) sNil)
  (sSeq (sIf (tBl (eBin (dOrd fun i j => decide (i < j)) (eVar 3) (eLit (.int 8)))) (sRet (eTup (aCons (eLit (.str "take")) (aCons (eVar 6) (aCons (eVar 4) aNil))))) sNil)
  (sSeq (sIf (tBl (eBin (dEq false) (eVar 3) (eLit (.int 8)))) (sRet (eTup (aCons (eLit (.str "move")) (aCons (eVar 4) (aCons (eVar 5) aNil))))) sNil)
  (sRet (eIf (tBl (eBin (dEq false) (eVar 3) (eLit (.int 9)))) (eTup (aCons (eLit (.str "end")) (aCons (eVar 4) aNil))) (eTup (aCons (eLit (.str "do")) (aCons (eCall 2 0 [0, 1] m_one (aCons (eVar 0) (aCons (eLst (aCons (eLit (.str "u")) (aCons (eLit (.str "v")) (aCons (eLit (.str "w")) aNil)))) aNil)) aNil) (aCons (eVar 4) aNil))))))))))))
def m_plain : List D → Sto → R D := fnM N_plain.length b_plain
/-- statements without bodies over these names and piles -/
inductive Plain (ns ps : List D) : D → Prop
  | new {x : D} : x ∈ ns → Plain ns ps (.tup [.str "new", x])
  | put {x p : D} : x ∈ ns → p ∈ ps → Plain ns ps (.tup [.str "put", x, p])
  | take {x p : D} : x ∈ ns → p ∈ ps → Plain ns ps (.tup [.str "take", p, x])
  | move {x y : D} : x ∈ ns → y ∈ ns → Plain ns ps (.tup [.str "move", x, y])
  | «end» {x : D} : x ∈ ns → Plain ns ps (.tup [.str "end", x])
  | «do» {x w : D} : x ∈ ns → w ∈ [D.str "u", .str "v", .str "w"] → Plain ns ps (.tup [.str "do", w, x])
theorem plain_wp {i : Nat} {S : Sto} {ns ps : List D} {P : D → Sto → Prop} {E : Str → D → Sto → Prop} (hs : Src i S) (hn : 0 < ns.length) (hn2 : ns.length < 100) (hp : 0 < ps.length) (hp2 : ps.length < 100)
    (k : ∀ d, Plain ns ps d → ∀ S' : Sto, Src i S' → Pg [i] S S' → P d S') : (m_plain [.obj i, .tup ns, .tup ps] S).wp P E := by
  unfold m_plain b_plain
  exists 7000
  refine take_wp hs (by omega) (by omega) fun r S1 h0 h1 hs1 pg1 => ?_
  exists 7001
  refine one_wp hs1 rfl hn (by omega) (by simp) fun x hx S2 hs2 pg2 => ?_
  exists 7001
  refine one_wp hs2 rfl hn (by omega) (by simp) fun y hy S3 hs3 pg3 => ?_
  exists 7001
  refine one_wp hs3 rfl hp (by omega) (by simp) fun p hp S4 hs4 pg4 => ?_
  exists 7001
  have pg := (pg1.trans pg2).trans (pg3.trans pg4)
  exists 7001
  split
  · exact k _ (.new hx) S4 hs4 pg
  split
  · exact k _ (.put hx hp) S4 hs4 pg
  split
  · exact k _ (.take hx hp) S4 hs4 pg
  split
  · exact k _ (.move hx hy) S4 hs4 pg
  split
  · exact k _ (.end hx) S4 hs4 pg
  refine oneL_wp hs4 (by simp) (by simp) fun w hw S5 hs5 pg5 => ?_
  exists 7001
  exact k _ (.do hx hw) S5 hs5 (pg.trans pg5)
/-! ### bodies -/
mutual
/-- a statement over these names and piles, bodies at most so deep, of so many statements -/
inductive St (B : Nat) (ns ps : List D) : Nat → Nat → D → Prop
  | plain {k : Nat} {d : D} : Plain ns ps d → St B ns ps k 1 d
  | loop {k n : Nat} {xs : List D} : n ≤ B → Bs B ns ps k n xs → St B ns ps (k + 1) (n + 1) (.tup [.str "loop", .tup xs])
  | either {k n m : Nat} {xs ys : List D} : n ≤ B → m ≤ B → Bs B ns ps k n xs → Bs B ns ps k m ys → St B ns ps (k + 1) (n + m + 1) (.tup [.str "either", .tup xs, .tup ys])
inductive Bs (B : Nat) (ns ps : List D) : Nat → Nat → List D → Prop
  | nil {k : Nat} : Bs B ns ps k 0 []
  | cons {k n m : Nat} {d : D} {ds : List D} : St B ns ps k n d → Bs B ns ps k m ds → Bs B ns ps k (n + m) (d :: ds)
end
theorem Bs.snoc {B : Nat} {ns ps : List D} {k m : Nat} {d : D} (h : St B ns ps k m d) : ∀ {n : Nat} {ds : List D}, Bs B ns ps k n ds → Bs B ns ps k (n + m) (ds ++ [d])
  | _, _, .nil => by
    have := Bs.cons h (.nil (B := B) (ns := ns) (ps := ps) (k := k))
    simpa using this
  | _, _, .cons h1 h2 => by
    have := Bs.cons h1 (Bs.snoc h h2)
    rw [← Nat.add_assoc] at this
    exact this
mutual
theorem St.pos {B : Nat} {ns ps : List D} : ∀ {k n : Nat} {d : D}, St B ns ps k n d → 0 < n
  | _, _, _, .plain _ => by omega
  | _, _, _, .loop _ _ => by omega
  | _, _, _, .either _ _ _ _ => by omega
end
theorem Bs.len {B : Nat} {ns ps : List D} {k : Nat} : ∀ {n : Nat} {ds : List D}, Bs B ns ps k n ds → ds.length ≤ n
  | _, _, .nil => Nat.le_refl _
  | _, _, .cons h1 h2 => by
    have := h1.pos
    have := h2.len
    simp only [List.length_cons]
    omega
abbrev N_body : List Str := ["source", "many", "deep", "own_names", "piles", "found", "left", "way", "inner", "second", "one"]
def b_body (r__law_body : List D → Sto → R D) : SM :=
  (sSeq (sPar [5, 6] (aCons (eLst aNil) (aCons (eVar 1) aNil)))
  (sSeq (sWhile FU (tBl (eBin (dOrd fun i j => decide (j < i)) (eVar 6) (eLit (.int 0)))) (sSeq (sAs (eBin dSub (eVar 6) (eLit (.int 1))) (gNameM 6))
  (sSeq (sAs (eIf (tAnd' (tBl (eBin (dOrd fun i j => decide (j < i)) (eVar 2) (eLit (.int 0)))) (tBl (eBin (dOrd fun i j => decide (j < i)) (eVar 6) (eLit (.int 0))))) (eCall 2 0 [0, 1] m_take (aCons (eVar 0) (aCons (eLit (.int 7)) aNil)) aNil) (eLit (.int 6))) (gNameM 7))
  (sSeq (sAs (eCb gMin (aCons (eVar 6) (aCons (eCall 2 0 [0, 1] m_one (aCons (eVar 0) (aCons (eLst (aCons (eLit (.int 2)) (aCons (eLit (.int 1)) (aCons (eLit (.int 3)) (aCons (eLit (.int 0)) (aCons (eLit (.int 2)) aNil)))))) aNil)) aNil) aNil))) (gNameM 8))
  (sIf (tBl (eBin (dEq false) (eVar 7) (eLit (.int 0)))) (sSeq (sExpr (eApp (eVar 5) (eTup (aCons (eLit (.str "loop")) (aCons (eCall 5 0 [0, 1, 2, 3, 4] r__law_body (aCons (eVar 0) (aCons (eVar 8) (aCons (eBin dSub (eVar 2) (eLit (.int 1))) (aCons (eVar 3) (aCons (eVar 4) aNil))))) aNil) aNil)))))
  (sAs (eBin dSub (eVar 6) (eVar 8)) (gNameM 6))) (sIf (tBl (eBin (dEq false) (eVar 7) (eLit (.int 1)))) (sSeq (sAs (eCb gMin (aCons (eBin dSub (eVar 6) (eVar 8)) (aCons (eCall 2 0 [0, 1] m_take (aCons (eVar 0) (aCons (eLit (.int 3)) aNil)) aNil) aNil))) (gNameM 9))
  (sSeq (sAs (eCall 5 0 [0, 1, 2, 3, 4] r__law_body (aCons (eVar 0) (aCons (eVar 8) (aCons (eBin dSub (eVar 2) (eLit (.int 1))) (aCons (eVar 3) (aCons (eVar 4) aNil))))) aNil) (gNameM 10))
  (sSeq (sExpr (eApp (eVar 5) (eTup (aCons (eLit (.str "either")) (aCons (eVar 10) (aCons (eCall 5 0 [0, 1, 2, 3, 4] r__law_body (aCons (eVar 0) (aCons (eVar 9) (aCons (eBin dSub (eVar 2) (eLit (.int 1))) (aCons (eVar 3) (aCons (eVar 4) aNil))))) aNil) aNil))))))
  (sAs (eBin dSub (eBin dSub (eVar 6) (eVar 8)) (eVar 9)) (gNameM 6))))) (sExpr (eApp (eVar 5) (eCall 3 0 [0, 1, 2] m_plain (aCons (eVar 0) (aCons (eVar 3) (aCons (eVar 4) aNil))) aNil)))))))))
  (sRet (eCb gTuple (aCons (eVar 5) aNil)))))
def f_body : Nat → List D → Sto → R D
  | 0 => fun _ _ => .no
  | n + 1 => fnM N_body.length (b_body (f_body n))
def m_body : List D → Sto → R D := f_body 16
def BodyOk (r : List D → Sto → R D) (ns ps : List D) (deep : Nat) : Prop := ∀ (i : Nat) (S : Sto) (many : Int) (P : D → Sto → Prop) (E : Str → D → Sto → Prop), Src i S → 0 ≤ many → many ≤ 60 →
  (∀ xs, Bs 3 ns ps deep many.toNat xs → ∀ S', Src i S' → Pg [i] S S' → P (.tup xs) S') → (r [.obj i, .int many, .int deep, .tup ns, .tup ps] S).wp P E
theorem way_wp {i : Nat} {S : Sto} {left : Int} {deep : Nat} {a1 a3 a4 a5 x7 x8 x9 x10 : Option D} {P : D → Sto → Prop} {E : Str → D → Sto → Prop} (hs : Src i S) (k : ∀ (w : Int) (S' : Sto), (w = 0 ∨ w = 1 → 0 < deep ∧ 0 < left) → Src i S' → Pg [i] S S' → P (.int w) S') :
    ((eIf (tAnd' (tBl (eBin (dOrd fun i j => decide (j < i)) (eVar 2) (eLit (.int 0)))) (tBl (eBin (dOrd fun i j => decide (j < i)) (eVar 6) (eLit (.int 0))))) (eCall 2 0 [0, 1] m_take (aCons (eVar 0) (aCons (eLit (.int 7)) aNil)) aNil) (eLit (.int 6)))
      [some (.obj i), a1, some (.int deep), a3, a4, a5, some (.int left), x7, x8, x9, x10] S).wp P E := by
  exists 7000
  split
  · split
    · exact take_wp hs (by decide) (by decide) fun r S' h0 h1 hs' pg => k r S' (fun _ => by omega) hs' pg
    · exact k 6 S (by omega) hs Pg.refl
  · exact k 6 S (by omega) hs Pg.refl
theorem body_wp {r : List D → Sto → R D} {ns ps : List D} {deep : Nat} (hn : 0 < ns.length) (hn2 : ns.length < 100) (hp : 0 < ps.length) (hp2 : ps.length < 100) (hr : ∀ d, deep = d + 1 → BodyOk r ns ps d) : BodyOk (fnM N_body.length (b_body r)) ns ps deep := by
  intro i S many P E hs h0 h1 k
  unfold b_body
  exists 7000
  refine while_wp (fun m ρ S1 => ∃ (left : Int) (found : List D) (n : Nat) (x7 x8 x9 x10 : Option D), ρ = [some (.obj i), some (.int many), some (.int deep), some (.tup ns), some (.tup ps), some (.obj S.length), some (.int left), x7, x8, x9, x10] ∧
    0 ≤ left ∧ left.toNat = m ∧ Bs 3 ns ps deep n found ∧ (n : Int) + left = many ∧ S1[S.length]? = some (.lst found) ∧ Src i S1 ∧ Pg [i] S S1) ?_ (m := many.toNat) ?_ ?_
  · rintro m ρ S1 ⟨left, found, n, x7, x8, x9, x10, rfl, hl0, hlm, hb, hsum, hS, hs1, pg1⟩
    have li : i < S.length := hs.lt
    have ne : S.length ∉ [i] := by simp; omega
    have hbl := hb.len
    exists 7002
    split
    · rename_i hpos
      refine way_wp hs1 fun w S2 hw hs2 pg2 => ?_
      exists 7001
      exists 7001
      refine oneL_wp hs2 (by simp) (by simp) fun c hc S3 hs3 pg3 => ?_
      exists 7001
      obtain ⟨c, rfl, c0, c3⟩ : ∃ c' : Int, c = .int c' ∧ 0 ≤ c' ∧ c' ≤ 3 := by
        simp only [List.mem_cons, List.not_mem_nil, or_false] at hc
        rcases hc with rfl | rfl | rfl | rfl | rfl <;> exact ⟨_, rfl, by decide, by decide⟩
      have pg13 := pg2.trans pg3
      have hS3 := pg13.get hS ne
      exists 7000
      generalize hinn : (if c < left - 1 then c else left - 1) = inner
      have in0 : 0 ≤ inner := by split at hinn <;> omega
      have in1 : inner ≤ left - 1 := by split at hinn <;> omega
      have in3 : inner ≤ 3 := by split at hinn <;> omega
      split
      · rename_i w0
        obtain ⟨d, rfl⟩ : ∃ d, deep = d + 1 := ⟨deep - 1, by have := (hw (.inl w0)).1; omega⟩
        refine ⟨_, _, rfl, hS3, ?_⟩
        rw [show ((d + 1 : Nat) : Int) - 1 = (d : Int) by omega]
        refine hr d rfl i S3 inner _ _ hs3 in0 (by omega) fun xs hxs S4 hs4 pg4 => ?_
        exists 7001
        have hS4 := pg4.get hS3 ne
        refine ⟨_, hS4, by omega, ?_⟩
        have le4 : S.length ≤ S4.length := Nat.le_trans pg1.len (Nat.le_trans pg13.len pg4.len)
        refine ⟨_, ?_, left - 1 - inner, _, _, _, _, _, _, rfl, by omega, rfl, hb.snoc (.loop (by omega) hxs), by omega, List.getElem?_set_self (List.getElem?_eq_some_iff.mp hS4).1, ?_, ?_⟩
        · omega
        · exact hs4.pg (Pg.set (is := [S.length]) (by simp)) (by simp; omega)
        · exact (pg1.trans (pg13.trans pg4)).setN (Nat.le_refl _)
      · split
        · rename_i w0 w1
          obtain ⟨d, rfl⟩ : ∃ d, deep = d + 1 := ⟨deep - 1, by have := (hw (.inr w1)).1; omega⟩
          refine take_wp hs3 (by decide) (by decide) fun q S4 q0 q1 hs4 pg4 => ?_
          exists 7001
          exists 7001
          generalize hsec : (if q < left - 1 - inner then q else left - 1 - inner) = second
          have s0 : 0 ≤ second := by split at hsec <;> omega
          have s1 : second ≤ left - 1 - inner := by split at hsec <;> omega
          have s3 : second ≤ 3 := by split at hsec <;> omega
          rw [show ((d + 1 : Nat) : Int) - 1 = (d : Int) by omega]
          refine hr d rfl i S4 inner _ _ hs4 in0 (by omega) fun xs hxs S5 hs5 pg5 => ?_
          exists 7001
          have hS5 := pg5.get (pg4.get hS3 ne) ne
          refine ⟨_, _, rfl, hS5, ?_⟩
          rw [show ((d + 1 : Nat) : Int) - 1 = (d : Int) by omega]
          refine hr d rfl i S5 second _ _ hs5 s0 (by omega) fun ys hys S6 hs6 pg6 => ?_
          exists 7001
          have hS6 := pg6.get hS5 ne
          refine ⟨_, hS6, by omega, ?_⟩
          refine ⟨_, ?_, left - 1 - inner - second, _, _, _, _, _, _, rfl, by omega, rfl, hb.snoc (.either (by omega) (by omega) hxs hys), by omega, List.getElem?_set_self (List.getElem?_eq_some_iff.mp hS6).1, ?_, ?_⟩
          · omega
          · exact hs6.pg (Pg.set (is := [S.length]) (by simp)) (by simp; omega)
          · exact (pg1.trans (pg13.trans (pg4.trans (pg5.trans pg6)))).setN (Nat.le_refl _)
        · refine ⟨_, _, rfl, hS3, ?_⟩
          refine plain_wp hs3 hn hn2 hp hp2 fun x hx S4 hs4 pg4 => ?_
          exists 7001
          have hS4 := pg4.get hS3 ne
          refine ⟨_, hS4, by omega, ?_⟩
          refine ⟨_, ?_, left - 1, _, _, _, _, _, _, rfl, by omega, rfl, hb.snoc (.plain hx), by omega, List.getElem?_set_self (List.getElem?_eq_some_iff.mp hS4).1, ?_, ?_⟩
          · omega
          · exact hs4.pg (Pg.set (is := [S.length]) (by simp)) (by simp; omega)
          · exact (pg1.trans (pg13.trans pg4)).setN (Nat.le_refl _)
    · have e0 : left = 0 := by omega
      simp only [o_tuple hS]
      refine k found ?_ S1 hs1 pg1
      rw [show many.toNat = n by omega]
      exact hb
  · refine ⟨many, [], 0, none, none, none, none, rfl, h0, rfl, .nil, by omega, last_get, hs.pg (Pg.push (is := [])) (by simp), Pg.push⟩
  · unfold FU; omega
/-! ### the pool -/
abbrev N_pool : List Str := ["script", "k", "cell", "big", "mixed"]
def b_poolE : SM :=
  (sSeq (sAs (eCb gMax (aCons (eCb gInt (aCons (eVar 2) aNil)) (aCons (eCb gInt (aCons (eBin dSub (eNeg (eLit (.int 1))) (eVar 2)) aNil)) aNil))) (gNameM 3))
  (sSeq (sAs (eBin dMod (eCb gInt (aCons (eBin dMul (eBin dAdd (eBin dAdd (eBin dAdd (eBin dMod (eCb gInt (aCons (eVar 3) aNil)) (eLit (.int 2147483629))) (eBin dMul (eBin dMul (eLit (.int 7919)) (eVar 1)) (eVar 1))) (eBin dMul (eLit (.int 31)) (eVar 1))) (eLit (.int 17))) (eLit (.int 48271))) aNil)) (eLit (.int 2147483647))) (gNameM 4))
  (sRet (eLst (aCons (eBin dMul (eVar 3) (eCb gInt (aCons (eBin (dOrd fun i j => decide (j ≤ i)) (eVar 3) (eBin dPow (eLit (.int 10)) (eLit (.int 18)))) aNil))) (aCons (eVar 4) aNil))))))
def b_pool : SM :=
  (sSeq (sAs (eLit (.int 0)) (gNameM 2))
  (sSeq (sIf (tBl (eBin (dOrd fun i j => decide (i < j)) (eVar 1) (eCb gLenA (aCons (eVar 0) aNil)))) (sAs (eBin dIx (eVar 0) (eVar 1)) (gNameM 2)) (sIf (tTru (eVar 0)) (sAs (eBin dIx (eVar 0) (eLit (.int 0))) (gNameM 2)) sNil))
  b_poolE))
def m_pool : List D → Sto → R D := fnM N_pool.length b_pool
theorem log2_bits {z : Int} {n : Nat} (h : Builtin.Int.intBits z ≤ n) (h0 : 0 < n) : z.natAbs.log2 < n := by
  unfold Builtin.Int.intBits at h
  split at h
  · rename_i q
    have : z = 0 := by simpa using q
    subst this
    simpa using h0
  · omega
theorem poolE_wp {S : Sto} {x : D} {k : Nat} {c : Int} {p : Po} (hk : k < 1000) (hc : c.natAbs.log2 < 1048577) (h : ∀ l S', l = S.length → Src l S' → Pg [] S S' → p.rt (.obj l) S') : (b_poolE [some x, some (.int k), some (.int c), none, none] S).wp p := by
  unfold b_poolE
  exists 7000
  generalize hb : (if -1 - c > c then -1 - c else c) = big
  have b0 : 0 ≤ big := by split at hb <;> omega
  have bl : big.natAbs.log2 < 1048578 := by
    have h1 : big.natAbs ≤ 2 * c.natAbs + 1 := by split at hb <;> omega
    have h2 : c.natAbs < 2 ^ 1048577 := by
      by_cases z : c.natAbs = 0
      · rw [z]; exact Nat.two_pow_pos _
      · exact (Nat.log2_lt z).mp hc
    have h3 : big.natAbs < 2 ^ 1048578 := by
      have h5 : (2 : Nat) ^ 1048578 = 2 * 2 ^ 1048577 := Nat.pow_succ' 
      rw [h5]
      generalize (2 : Nat) ^ 1048577 = N at h2
      omega
    exact PySem.Flt.log2_lt_of (by decide) h3
  have lk : ((k : Int)).natAbs.log2 < 11 := log2_small (n := 11) (by omega) (by decide)
  have l1 : (7919 * (k : Int)).natAbs.log2 < 32 := log2_small (n := 32) (by omega) (by decide)
  have m0 : 0 ≤ big % 2147483629 := by omega
  have m1 : big % 2147483629 < 2147483629 := by omega
  generalize big % 2147483629 = bm at m0 m1
  have kk : 7919 * (k : Int) * k ≤ 7919000000 ∧ 0 ≤ 7919 * (k : Int) * k := by
    have e : (k : Int) * k ≤ 1000 * 1000 := Int.mul_le_mul (by omega) (by omega) (by omega) (by omega)
    have e0 : 0 ≤ (k : Int) * k := Int.mul_nonneg (by omega) (by omega)
    rw [Int.mul_assoc]
    omega
  generalize 7919 * (k : Int) * k = q at kk
  have l2 : (bm + q + 31 * (k : Int) + 17).natAbs.log2 < 64 := log2_small (n := 64) (by omega) (by decide)
  have l3 : (1 : Int).natAbs.log2 < 5 := by decide
  have l4 : (7919 : Int).natAbs.log2 < 20 := by decide
  have l5 : (31 : Int).natAbs.log2 < 20 := by decide
  have l6 : (48271 : Int).natAbs.log2 < 20 := by decide
  refine ⟨by decide, by omega, by omega, by omega, by omega, by decide, ?_⟩
  generalize hc : (bm + q + 31 * (k : Int) + 17) * 48271 % 2147483647 = mx
  have x0 : 0 ≤ mx := by omega
  have x1 : mx < 2147483647 := by omega
  have e0 : (0 : Int).natAbs.log2 < 5 := by decide
  refine ⟨by decide, ?_, h _ _ rfl ⟨_, _, last_get, ?_, ?_, x0, x1⟩ Pg.push⟩
  · split <;> omega
  · split <;> omega
  · split
    · rw [Int.mul_one]; omega
    · rw [Int.mul_zero]; decide
theorem pool_wp {S : Sto} {ns : List Int} {k : Nat} {P : D → Sto → Prop} {E : Str → D → Sto → Prop} (hns : ns.length ≤ 63) (hb : ∀ z ∈ ns, Builtin.Int.intBits z ≤ 1048576) (hk : k < 1000) (h : ∀ l S', l = S.length → Src l S' → Pg [] S S' → P (.obj l) S') : (m_pool [.wl (ns.map .int), .int k] S).wp P E := by
  have lg : ∀ z ∈ ns, z.natAbs.log2 < 1048577 := fun z hz => log2_bits (Nat.le_trans (hb z hz) (Nat.le_succ _)) (by decide)
  unfold m_pool b_pool
  have e1 : seqD S (.wl (ns.map .int)) = some (ns.map D.int) := rfl
  exists 7000, len_of e1, List.length_map
  have fin : ∀ c : Int, c.natAbs.log2 < 1048577 → (b_poolE [some (.wl (ns.map .int)), some (.int k), some (.int c), none, none] S).wp ⟨fun _ S' => P .non S', P, fun _ _ => False, fun _ _ => False, fun c w _ S' => E c w S'⟩ := fun c hc => poolE_wp hk hc h
  split
  · rename_i hlt
    have hlt' : k < ns.length := by omega
    rw [dIx_seq (d := .wl (ns.map .int)) (xs := ns.map .int) (k := k) (v := .int ns[k]) (.inr (.inr rfl)) (by rw [List.getElem?_map, List.getElem?_eq_getElem hlt']; rfl), wp_ok]
    exists 7000
    exact fin _ (lg _ (List.getElem_mem hlt'))
  · cases ns with
    | nil =>
      refine ⟨false, rfl, ?_⟩
      exists 7000
      exact fin 0 (by decide)
    | cons z zs =>
      refine ⟨true, rfl, ?_⟩
      rw [if_pos rfl, show dIx (.wl ((z :: zs).map .int)) (.int 0) S = .ok (.int z) S from dIx_seq (k := 0) (.inr (.inr rfl)) rfl, wp_ok]
      exists 7000
      exact fin z (lg z (by simp))
/-! ### a program -/
abbrev N_program : List Str := ["source", "most", "own_names", "piles"]
def b_program : SM :=
  (sSeq (sPar [2, 3] (aCons (eCall 2 0 [0, 1] m_one (aCons (eVar 0) (aCons (eLst (aCons (eTup (aCons (eLit (.str "a")) (aCons (eLit (.str "b")) aNil))) (aCons (eTup (aCons (eLit (.str "a")) (aCons (eLit (.str "b")) aNil))) (aCons (eTup (aCons (eLit (.str "a")) (aCons (eLit (.str "b")) (aCons (eLit (.str "c")) aNil)))) (aCons (eTup (aCons (eLit (.str "a")) aNil)) (aCons (eTup (aCons (eLit (.str "a")) (aCons (eLit (.str "b")) (aCons (eLit (.str "c")) (aCons (eLit (.str "d")) aNil))))) aNil)))))) aNil)) aNil) (aCons (eCall 2 0 [0, 1] m_one (aCons (eVar 0) (aCons (eLst (aCons (eTup (aCons (eLit (.str "p")) aNil)) (aCons (eTup (aCons (eLit (.str "p")) (aCons (eLit (.str "q")) aNil))) aNil))) aNil)) aNil) aNil)))
  (sRet (eCall 5 0 [0, 1, 2, 3, 4] m_body (aCons (eVar 0) (aCons (eCb gMin (aCons (eVar 1) (aCons (eBin dAdd (eLit (.int 2)) (eCall 2 0 [0, 1] m_take (aCons (eVar 0) (aCons (eVar 1) aNil)) aNil)) aNil))) (aCons (eLit (.int 2)) (aCons (eVar 2) (aCons (eVar 3) aNil))))) aNil)))
def m_program : List D → Sto → R D := fnM N_program.length b_program
abbrev nm4 : List D := [.str "a", .str "b", .str "c", .str "d"]
abbrev pl2 : List D := [.str "p", .str "q"]
theorem Plain.mono {ns ps ns' ps' : List D} {d : D} (h1 : ∀ x ∈ ns, x ∈ ns') (h2 : ∀ x ∈ ps, x ∈ ps') (h : Plain ns ps d) : Plain ns' ps' d := by
  cases h with
  | new a => exact .new (h1 _ a)
  | put a b => exact .put (h1 _ a) (h2 _ b)
  | take a b => exact .take (h1 _ a) (h2 _ b)
  | move a b => exact .move (h1 _ a) (h1 _ b)
  | «end» a => exact .end (h1 _ a)
  | «do» a b => exact .do (h1 _ a) b
mutual
theorem St.mono {B : Nat} {ns ps ns' ps' : List D} (h1 : ∀ x ∈ ns, x ∈ ns') (h2 : ∀ x ∈ ps, x ∈ ps') : ∀ {k n : Nat} {d : D}, St B ns ps k n d → St B ns' ps' k n d
  | _, _, _, .plain h => .plain (h.mono h1 h2)
  | _, _, _, .loop l h => .loop l (Bs.mono h1 h2 h)
  | _, _, _, .either l l2 h g => .either l l2 (Bs.mono h1 h2 h) (Bs.mono h1 h2 g)
theorem Bs.mono {B : Nat} {ns ps ns' ps' : List D} (h1 : ∀ x ∈ ns, x ∈ ns') (h2 : ∀ x ∈ ps, x ∈ ps') : ∀ {k n : Nat} {d : List D}, Bs B ns ps k n d → Bs B ns' ps' k n d
  | _, _, _, .nil => .nil
  | _, _, _, .cons h g => .cons (St.mono h1 h2 h) (Bs.mono h1 h2 g)
end
theorem body_ok {ns ps : List D} (hn : 0 < ns.length) (hn2 : ns.length < 100) (hp : 0 < ps.length) (hp2 : ps.length < 100) : ∀ {n deep : Nat}, deep < n → BodyOk (f_body n) ns ps deep
  | 0, _, h => absurd h (Nat.not_lt_zero _)
  | n + 1, deep, h => body_wp hn hn2 hp hp2 fun d e => body_ok hn hn2 hp hp2 (by omega)
theorem program_wp {i : Nat} {S : Sto} {most : Int} {P : D → Sto → Prop} {E : Str → D → Sto → Prop} (hs : Src i S) (h0 : 0 < most) (h1 : most ≤ 60) (k : ∀ xs n, Bs 3 nm4 pl2 2 n xs → (n : Int) ≤ most → ∀ S', Src i S' → Pg [i] S S' → P (.tup xs) S') : (m_program [.obj i, .int most] S).wp P E := by
  unfold m_program b_program
  exists 7000
  refine oneL_wp hs (by simp) (by simp) fun nsd hns S1 hs1 pg1 => ?_
  exists 7001
  exists 7001
  refine oneL_wp hs1 (by simp) (by simp) fun psd hps S2 hs2 pg2 => ?_
  exists 7001
  exists 7001
  refine take_wp hs2 h0 (by omega) fun r S3 r0 r1 hs3 pg3 => ?_
  exists 7001
  obtain ⟨ns, rfl, ns0, ns1, nsm⟩ : ∃ ns, nsd = .tup ns ∧ 0 < ns.length ∧ ns.length < 100 ∧ ∀ x ∈ ns, x ∈ nm4 := by
    simp only [List.mem_cons, List.not_mem_nil, or_false] at hns
    rcases hns with rfl | rfl | rfl | rfl | rfl <;> exact ⟨_, rfl, by simp, by simp, fun x hx => by simp at hx ⊢; grind⟩
  obtain ⟨ps, rfl, ps0, ps1, psm⟩ : ∃ ps, psd = .tup ps ∧ 0 < ps.length ∧ ps.length < 100 ∧ ∀ x ∈ ps, x ∈ pl2 := by
    simp only [List.mem_cons, List.not_mem_nil, or_false] at hps
    rcases hps with rfl | rfl <;> exact ⟨_, rfl, by simp, by simp, fun x hx => by simp at hx ⊢; grind⟩
  exists 7001
  generalize hm : (if 2 + r < most then 2 + r else most) = many
  have m0 : 0 ≤ many := by split at hm <;> omega
  have m1 : many ≤ most := by split at hm <;> omega
  refine body_ok ns0 ns1 ps0 ps1 (n := 16) (deep := 2) (by decide) i S3 many _ _ hs3 m0 (by omega) fun xs hxs S4 hs4 pg4 => ?_
  exact k xs _ (Bs.mono nsm psm hxs) (by omega) S4 hs4 (pg1.trans (pg2.trans (pg3.trans pg4)))
end Lw

set_option Elab.async false
set_option linter.all false
set_option maxRecDepth 100000
set_option autoImplicit false
namespace Lp
open PySem PySem.Spec PyProof.Rows L2 Sh
open Lw (len_of seqD_obj Src)
/-! ### the program's own judges, as they stand in each law's text -/
def kv_FORMS : List (Str × D) := [("new", (.kt [(.str "name")])), ("put", (.kt [(.str "name"), (.str "pile")])), ("take", (.kt [(.str "pile"), (.str "name")])), ("move", (.kt [(.str "name"), (.str "name")])), ("end", (.kt [(.str "name")])), ("do", (.kt [(.str "own word"), (.str "name")])), ("loop", (.kt [(.str "body")])), ("either", (.kt [(.str "body"), (.str "body")]))]
abbrev N_fits : List Str := ["kind", "part"]
def b_fits : SM :=
  (sSeq (sIf (tBl (eBin (dEq false) (eVar 0) (eLit (.str "name")))) (sRet (eBin (dIn2 false) (eVar 1) (eLit (.kt [(.str "a"), (.str "b"), (.str "c"), (.str "d")])))) sNil)
  (sSeq (sIf (tBl (eBin (dEq false) (eVar 0) (eLit (.str "pile")))) (sRet (eBin (dIn2 false) (eVar 1) (eLit (.kt [(.str "p"), (.str "q")])))) sNil)
  (sSeq (sIf (tBl (eBin (dEq false) (eVar 0) (eLit (.str "own word")))) (sRet (eBin (dIn2 false) (eVar 1) (eLit (.kt [(.str "u"), (.str "v"), (.str "w")])))) sNil)
  (sRet (eCb gIsi (aCons (eVar 1) (aCons (eLit (.ty "tuple")) aNil)))))))
def m_fits : List D → Sto → R D := fnM N_fits.length b_fits
abbrev N_has_form : List Str := ["thing", "word", "kinds", "kind", "part"]
def b_has_form : SM :=
  (sSeq (sIf (tOr' (tNot' (tTru (eCb gIsi (aCons (eVar 0) (aCons (eLit (.ty "tuple")) aNil))))) (tBl (eBin (dEq false) (eCb gLenA (aCons (eVar 0) aNil)) (eLit (.int 0))))) (sRet (eLit (.bl false))) sNil)
  (sSeq (sAs (eBin dIx (eVar 0) (eLit (.int 0))) (gNameM 1))
  (sSeq (sIf (tOr' (tNot' (tTru (eCb gIsi (aCons (eVar 1) (aCons (eLit (.ty "str")) aNil))))) (tBl (eBin (dInK true "FORMS" kv_FORMS) (eVar 1) (eLit (.fn "FORMS"))))) (sRet (eLit (.bl false))) sNil)
  (sSeq (sAs (eBin (dIxK "FORMS" kv_FORMS) (eLit (.fn "FORMS")) (eVar 1)) (gNameM 2))
  (sSeq (sIf (tBl (eBin (dEq true) (eCb gLenA (aCons (eVar 0) aNil)) (eBin dAdd (eCb gLenA (aCons (eVar 2) aNil)) (eLit (.int 1))))) (sRet (eLit (.bl false))) sNil)
  (sRet (eCb (gAll true) (aCons (eComp FU [3, 4] (iZp (aCons (eVar 2) (aCons (eCut (eVar 0) (oSome (eLit (.int 1))) oNone) aNil))) (gTupM 2 (gConsM (gNameM 3) (gConsM (gNameM 4) gNilM))) tYesM (eCall 2 0 [0, 1] m_fits (aCons (eVar 3) (aCons (eVar 4) aNil)) aNil)) aNil))))))))
def m_has_form : List D → Sto → R D := fnM N_has_form.length b_has_form
abbrev N_bodies_at : List Str := ["place", "statement"]
def b_bodies_at : SM :=
  (sSeq (sIf (tBl (eBin (dEq false) (eBin dIx (eVar 1) (eLit (.int 0))) (eLit (.str "loop")))) (sRet (eTup (aCons (eTup (aCons (eBin dIx (eVar 1) (eLit (.int 1))) (aCons (eVar 0) aNil))) aNil))) sNil)
  (sSeq (sIf (tBl (eBin (dEq false) (eBin dIx (eVar 1) (eLit (.int 0))) (eLit (.str "either")))) (sRet (eTup (aCons (eTup (aCons (eBin dIx (eVar 1) (eLit (.int 1))) (aCons (eBin dAdd (eVar 0) (eTup (aCons (eLit (.int 0)) aNil))) aNil))) (aCons (eTup (aCons (eBin dIx (eVar 1) (eLit (.int 2))) (aCons (eBin dAdd (eVar 0) (eTup (aCons (eLit (.int 1)) aNil))) aNil))) aNil)))) sNil)
  (sRet (eTup aNil))))
def m_bodies_at : List D → Sto → R D := fnM N_bodies_at.length b_bodies_at
abbrev N_count_body : List Str := ["body", "before", "depth", "many", "index", "thing"]
abbrev N_count_statement : List Str := ["thing", "place", "depth", "many", "body", "before"]
def b_count_body (r_count_body r_count_statement : List D → Sto → R D) : SM :=
  (sSeq (sIf (tBl (eBin (dOrd fun i j => decide (j < i)) (eVar 2) (eLit (.int 6)))) (sRaise "TooMany" (eBin dAdd (eLit (.int 6)) (eLit (.int 1)))) sNil)
  (sSeq (sFor FU (iEn (aCons (eVar 0) aNil)) (gTupM 2 (gConsM (gNameM 4) (gConsM (gNameM 5) gNilM))) (sAs (eCall 4 0 [0, 1, 2, 3] r_count_statement (aCons (eVar 5) (aCons (eBin dAdd (eVar 1) (eTup (aCons (eVar 4) aNil))) (aCons (eVar 2) (aCons (eVar 3) aNil)))) aNil) (gNameM 3)))
  (sRet (eVar 3))))
def b_count_statement (r_count_body r_count_statement : List D → Sto → R D) : SM :=
  (sSeq (sIf (tBl (eBin (dEq false) (eVar 3) (eLit (.int 40)))) (sRaise "TooMany" (eBin dAdd (eLit (.int 40)) (eLit (.int 1)))) sNil)
  (sSeq (sIf (tNot' (tTru (eCall 1 0 [0] m_has_form (aCons (eVar 0) aNil) aNil))) (sRaise "BadProgram" (eVar 1)) sNil)
  (sSeq (sAug 3 dIAdd (eLit (.int 1)))
  (sSeq (sFor FU (iSeq (eCall 2 0 [0, 1] m_bodies_at (aCons (eVar 1) (aCons (eVar 0) aNil)) aNil)) (gTupM 2 (gConsM (gNameM 4) (gConsM (gNameM 5) gNilM))) (sAs (eCall 4 0 [0, 1, 2, 3] r_count_body (aCons (eVar 4) (aCons (eVar 5) (aCons (eBin dAdd (eVar 2) (eLit (.int 1))) (aCons (eVar 3) aNil)))) aNil) (gNameM 3)))
  (sRet (eVar 3))))))
def f_count_body : Nat → (List D → Sto → R D) × (List D → Sto → R D)
  | 0 => (fun _ _ => .no, fun _ _ => .no)
  | n + 1 => (fnM N_count_body.length (b_count_body ((f_count_body n).1) ((f_count_body n).2)), fnM N_count_statement.length (b_count_statement ((f_count_body n).1) ((f_count_body n).2)))
def m_count_body : List D → Sto → R D := (f_count_body 16).1
def m_count_statement : List D → Sto → R D := (f_count_body 16).2
abbrev N_made_program : List Str := ["thing"]
def b_made_program : SM :=
  (sSeq (sIf (tNot' (tTru (eCb gIsi (aCons (eVar 0) (aCons (eLit (.ty "tuple")) aNil))))) (sRaise "BadProgram" (eTup aNil)) sNil)
  (sSeq (sExpr (eCall 4 0 [0, 1, 2, 3] m_count_body (aCons (eVar 0) (aCons (eTup aNil) (aCons (eLit (.int 1)) (aCons (eLit (.int 0)) aNil)))) aNil))
  (sRet (eVar 0))))
def m_made_program : List D → Sto → R D := fnM N_made_program.length b_made_program
/-! ### forms -/
def nm4 : List D := [.str "a", .str "b", .str "c", .str "d"]
def pl2 : List D := [.str "p", .str "q"]
def ow3 : List D := [.str "u", .str "v", .str "w"]
def fitB (k : Str) (d : D) : Bool := if k = "name" then anyEq nm4 d else if k = "pile" then anyEq pl2 d else if k = "own word" then anyEq ow3 d else d.isTup
def okForm : D → Bool
  | .tup (.str w :: r) => match kv_FORMS.lookup w with
    | some (.kt ks) => r.length == ks.length && (ks.zip r).all fun q => match q.1 with
      | .str k => fitB k q.2
      | _ => false
    | _ => false
  | _ => false
theorem fits_wp {S : Sto} {k : Str} {d : D} {P : D → Sto → Prop} {E : Str → D → Sto → Prop} (hk : PyData.strOk k = true) (hd : d.dk 100 = true) (h : P (.bl (fitB k d)) S) : (m_fits [.str k, d] S).wp P E := by
  have hk2 : (D.str k).dk 200 = true := by simpa [D.dk] using hk
  have hd2 : d.dk 180 = true := dk_mono hd (by decide)
  unfold m_fits b_fits
  have i1 : ∀ {P : D → Sto → Prop} {E : Str → D → Sto → Prop}, (dEq false (.str k) (.str "name") S).wp P E = P (.bl (decide (k = "name"))) S := by
    intro P E; rw [o_eq hk2 (by decide +kernel), eq_ss]; rfl
  have i2 : ∀ {P : D → Sto → Prop} {E : Str → D → Sto → Prop}, (dEq false (.str k) (.str "pile") S).wp P E = P (.bl (decide (k = "pile"))) S := by
    intro P E; rw [o_eq hk2 (by decide +kernel), eq_ss]; rfl
  have i3 : ∀ {P : D → Sto → Prop} {E : Str → D → Sto → Prop}, (dEq false (.str k) (.str "own word") S).wp P E = P (.bl (decide (k = "own word"))) S := by
    intro P E; rw [o_eq hk2 (by decide +kernel), eq_ss]; rfl
  exists 7000, i1, i2, i3, o_isiT hd
  unfold fitB at h
  split
  · rename_i q; rw [if_pos q] at h; rw [o_inT (.inr rfl) hd2 (by decide +kernel)]; exact h
  · rename_i q
    rw [if_neg q] at h
    split
    · rename_i q2; rw [if_pos q2] at h; rw [o_inT (.inr rfl) hd2 (by decide +kernel)]; exact h
    · rename_i q2
      rw [if_neg q2] at h
      split
      · rename_i q3; rw [if_pos q3] at h; rw [o_inT (.inr rfl) hd2 (by decide +kernel)]; exact h
      · rename_i q3; rw [if_neg q3] at h; exact h
theorem lookup_mem {α : Type} {z : Str} {v : α} : ∀ {l : List (Str × α)}, l.lookup z = some v → (z, v) ∈ l
  | (k, u) :: l, h => by
    rw [List.lookup_cons] at h
    by_cases e : z = k
    · subst e
      simp at h
      subst h
      exact List.mem_cons_self
    · have e1 : (z == k) = false := by simpa using e
      rw [e1] at h
      exact List.mem_cons_of_mem _ (lookup_mem h)
theorem kv_cases {w : Str} {d : D} (h : kv_FORMS.lookup w = some d) : ∃ ks : List Str, d = .kt (ks.map .str) ∧ (∀ k ∈ ks, PyData.strOk k = true) ∧ ks.length ≤ 2 := by
  have h2 := lookup_mem h
  simp only [kv_FORMS, List.mem_cons, List.not_mem_nil, or_false, Prod.mk.injEq] at h2
  rcases h2 with ⟨_, rfl⟩ | ⟨_, rfl⟩ | ⟨_, rfl⟩ | ⟨_, rfl⟩ | ⟨_, rfl⟩ | ⟨_, rfl⟩ | ⟨_, rfl⟩ | ⟨_, rfl⟩
  · exact ⟨["name"], rfl, by decide +kernel, by decide⟩
  · exact ⟨["name", "pile"], rfl, by decide +kernel, by decide⟩
  · exact ⟨["pile", "name"], rfl, by decide +kernel, by decide⟩
  · exact ⟨["name", "name"], rfl, by decide +kernel, by decide⟩
  · exact ⟨["name"], rfl, by decide +kernel, by decide⟩
  · exact ⟨["own word", "name"], rfl, by decide +kernel, by decide⟩
  · exact ⟨["body"], rfl, by decide +kernel, by decide⟩
  · exact ⟨["body", "body"], rfl, by decide +kernel, by decide⟩
theorem cut_from {α : Type} (xs : List α) (k : Nat) : Sh.cutD xs (some (k : Int)) none = xs.drop k := by
  unfold Sh.cutD
  rw [show HT.sIx xs.length 0 (some (k : Int)) = min k xs.length from HT.sIx_nat xs.length 0 k, HT.sIx_none]
  by_cases h : k ≤ xs.length
  · rw [Nat.min_eq_left h]
    exact List.take_of_length_le (by simp)
  · rw [Nat.min_eq_right (by omega), Nat.sub_self, List.take_zero, List.drop_of_length_le (by omega)]
theorem cut_to {α : Type} (xs : List α) (k : Nat) : Sh.cutD xs none (some (k : Int)) = xs.take k := by
  unfold Sh.cutD
  rw [show HT.sIx xs.length xs.length (some (k : Int)) = min k xs.length from HT.sIx_nat xs.length xs.length k, HT.sIx_none, List.drop_zero, Nat.sub_zero]
  by_cases h : k ≤ xs.length
  · rw [Nat.min_eq_left h]
  · rw [Nat.min_eq_right (by omega), List.take_of_length_le (Nat.le_refl _), List.take_of_length_le (by omega)]
def bsOf (ks : List Str) (r : List D) : List Bool := (ks.zip r).map fun q => fitB q.1 q.2
theorem okForm_some {w : Str} {r : List D} {ks : List Str} (hw : kv_FORMS.lookup w = some (.kt (ks.map .str))) : okForm (.tup (.str w :: r)) = (r.length == ks.length && (bsOf ks r).all id) := by
  have e : ∀ (ks : List Str) (r : List D), (((ks.map D.str).zip r).all fun q => match q.1 with
      | .str k => fitB k q.2
      | _ => false) = (bsOf ks r).all id := by
    intro ks
    induction ks with
    | nil => intro r; rfl
    | cons k ks ih =>
      intro r
      cases r with
      | nil => rfl
      | cons d r =>
        simp only [List.map_cons, List.zip_cons_cons, List.all_cons, bsOf, id]
        rw [ih r]
        rfl
  simp only [okForm, hw, List.length_map]
  rw [e]
theorem has_form_wp {S : Sto} {d : D} {P : D → Sto → Prop} {E : Str → D → Sto → Prop} (hd : d.nk 100 = true) (h : ∀ S', Pg [] S S' → P (.bl (okForm d)) S') : (m_has_form [d] S).wp P E := by
  have hdk := nk_dk hd
  unfold m_has_form b_has_form
  exists 7000, o_isiT hdk
  cases d with
  | tup xs =>
    obtain ⟨hl, hx⟩ := nk_of hd
    cases xs with
    | nil =>
      have e1 : ∀ S : Sto, seqD S (.tup []) = some [] := fun _ => rfl
      exists 7000, D.isTup, len_of (e1 S)
      exact h S Pg.refl
    | cons x r =>
      have hx0 := nk_dk (hx x List.mem_cons_self)
      have e1 : ∀ S : Sto, seqD S (.tup (x :: r)) = some (x :: r) := fun _ => rfl
      exists 7000, D.isTup, len_of (e1 S)
      rw [if_neg (by omega)]
      exists 7000, o_isiS hx0
      cases x with
      | str w =>
        exists 7000, D.isStr
        cases hw : kv_FORMS.lookup w with
        | none =>
          exists 7000, Option.isSome_none
          have e : okForm (.tup (.str w :: r)) = false := by simp only [okForm, hw]
          rw [← e]
          exact h S Pg.refl
        | some kd =>
          obtain ⟨ks, rfl, hks, hk2⟩ := kv_cases hw
          have e2 : ∀ S : Sto, seqD S (.kt (ks.map .str)) = some (ks.map D.str) := fun _ => rfl
          exists 7000, Option.isSome_some, o_ixK hw, len_of (e1 S), len_of (e2 S), List.length_map
          by_cases hlen : r.length = ks.length
          · have c1 : decide (((r.length + 1 : Nat) : Int) = (ks.length : Int) + 1) = true := by rw [decide_eq_true_eq]; omega
            rw [c1, if_neg (by simp)]
            refine ⟨_, rfl, ?_⟩
            rw [show Sh.cutD (D.str w :: r) (some 1) none = r from cut_from (D.str w :: r) 1]
            have e3 : okForm (.tup (.str w :: r)) = (bsOf ks r).all id := by rw [okForm_some hw, hlen]; simp
            have bl : (bsOf ks r).length = ks.length := by simp [bsOf, hlen]
            refine cloop_wp ks.length (fun i S' => Pg [] S S' ∧ S'[S.length]? = some (.lst (((bsOf ks r).take i).map .bl))) (fun S' hI => ⟨?_, ?_⟩) (fun i S' hi hI => ?_) ⟨Pg.push, last_get⟩ (Nat.zero_le _) (by unfold FU; omega)
            · simp only [diZ, diL]
              rw [List.getElem?_eq_none (by simp)]
            · exists 7000
              rw [o_all (bs := bsOf ks r) (by rw [hI.2, List.take_of_length_le (by omega)])]
              rw [← e3] at *
              exact h S' hI.1
            · refine ⟨_, by simp only [diZ, diL]; rw [List.getElem?_eq_getElem (by simpa using hi), List.getElem?_eq_getElem (show i < r.length by omega)], ?_⟩
              have hri := hx r[i] (List.mem_cons_of_mem _ (List.getElem_mem (by omega)))
              exists 7000, List.getElem_map, tYesM
              refine fits_wp (hks _ (List.getElem_mem hi)) (dk_mono (nk_dk hri) (by decide)) ⟨_, hI.2, ?_, ?_, ?_⟩
              · simp; omega
              · exact hI.1.setN (Nat.le_refl _)
              · rw [List.getElem?_set_self (List.getElem?_eq_some_iff.mp hI.2).1, List.take_add_one, List.getElem?_eq_getElem (by omega), List.map_append]
                simp [bsOf]
          · have c1 : decide (((r.length + 1 : Nat) : Int) = (ks.length : Int) + 1) = false := by rw [decide_eq_false_iff_not]; omega
            rw [c1, if_pos (by simp)]
            have e3 : okForm (.tup (.str w :: r)) = false := by rw [okForm_some hw]; simp [hlen]
            rw [← e3]
            exact h S Pg.refl
      | _ => exists 7000, D.isStr; exact h S Pg.refl
  | kt xs => simp [D.nk] at hd
  | _ => exists 7000, D.isTup; exact h S Pg.refl
/-! ### the walk itself -/
abbrev Res := Nat ⊕ (Str × D)
def bods (place : List D) : D → List (D × List D)
  | .tup [.str w, b] => if w = "loop" then [(b, place)] else []
  | .tup [.str w, b, c] => if w = "either" then [(b, place ++ [.int 0]), (c, place ++ [.int 1])] else []
  | _ => []
def goB (rec : D → List D → Nat → Res) : List (D × List D) → Nat → Res
  | [], m => .inl m
  | (b, pl) :: r, m => match rec b pl m with
    | .inl m' => goB rec r m'
    | .inr e => .inr e
def wkS (rec : D → List D → Nat → Res) (d : D) (place : List D) (many : Nat) : Res :=
  if many = 40 then .inr ("TooMany", .int 41) else if okForm d = true then goB rec (bods place d) (many + 1) else .inr ("BadProgram", .tup place)
def goL (rec : D → List D → Nat → Res) (before : List D) : Nat → List D → Nat → Res
  | _, [], m => .inl m
  | i, d :: ds, m => match wkS rec d (before ++ [.int i]) m with
    | .inl m' => goL rec before (i + 1) ds m'
    | .inr e => .inr e
def wk : Nat → D → List D → Nat → Res
  | 0, _, _, _ => .inr ("TooMany", .int 7)
  | g + 1, .tup xs, before, m => goL (wk g) before 0 xs m
  | _ + 1, _, _, _ => .inr ("", .non)
def out (P : D → Sto → Prop) (E : Str → D → Sto → Prop) (S : Sto) : Res → Prop
  | .inl m => P (.int m) S
  | .inr (c, w) => E c w S
def CountB (r : List D → Sto → R D) (g : Nat) : Prop := ∀ (S : Sto) (b : D) (before : List D) (many : Nat) (P : D → Sto → Prop) (E : Str → D → Sto → Prop), b.nk 100 = true → b.isTup = true → before.length + 2 * g ≤ 20 →
  (∀ S', Pg [] S S' → out P E S' (wk g b before many)) → (r [b, .tup before, .int (7 - g : Int), .int many] S).wp P E
def CountS (r : List D → Sto → R D) (g : Nat) : Prop := ∀ (S : Sto) (d : D) (place : List D) (many : Nat) (P : D → Sto → Prop) (E : Str → D → Sto → Prop), d.nk 100 = true → place.length + 2 * g ≤ 19 →
  (∀ S', Pg [] S S' → out P E S' (wkS (wk g) d place many)) → (r [d, .tup place, .int (6 - g : Int), .int many] S).wp P E
theorem fitBody (d : D) : fitB "body" d = d.isTup := by
  simp [fitB, show ¬ (("body" : Str) = "name") by decide +kernel, show ¬ (("body" : Str) = "pile") by decide +kernel, show ¬ (("body" : Str) = "own word") by decide +kernel]
theorem okForm_loop {r : List D} (h : okForm (.tup (.str "loop" :: r)) = true) : ∃ y, r = [y] ∧ y.isTup = true := by
  have hw : kv_FORMS.lookup ("loop" : Str) = some (.kt ((["body"] : List Str).map .str)) := rfl
  rw [okForm_some hw] at h
  rcases r with _ | ⟨y, _ | ⟨z, t⟩⟩
  · simp at h
  · simp [bsOf, fitBody] at h; exact ⟨y, rfl, h⟩
  · simp at h
theorem okForm_either {r : List D} (h : okForm (.tup (.str "either" :: r)) = true) : ∃ y z, r = [y, z] ∧ y.isTup = true ∧ z.isTup = true := by
  have hw : kv_FORMS.lookup ("either" : Str) = some (.kt ((["body", "body"] : List Str).map .str)) := rfl
  rw [okForm_some hw] at h
  rcases r with _ | ⟨y, _ | ⟨z, _ | ⟨u, t⟩⟩⟩
  · simp at h
  · simp at h
  · simp [bsOf, fitBody] at h; exact ⟨y, z, rfl, h⟩
  · simp at h
theorem okForm_str {d : D} (h : okForm d = true) : ∃ w r, d = .tup (.str w :: r) := by
  unfold okForm at h
  split at h
  · exact ⟨_, _, rfl⟩
  · cases h
theorem bods_other {w : Str} {r : List D} {place : List D} (h1 : w ≠ "loop") (h2 : w ≠ "either") : bods place (.tup (.str w :: r)) = [] := by
  rcases r with _ | ⟨y, _ | ⟨z, _ | ⟨u, t⟩⟩⟩ <;> simp [bods, h1, h2]
theorem ne_le : ¬ (("either" : Str) = "loop") := by decide +kernel
theorem bods_ok {d : D} (h : okForm d = true) (hd : d.nk 100 = true) (place : List D) : ∀ q ∈ bods place d, q.1.nk 100 = true ∧ q.1.isTup = true ∧ q.2.length ≤ place.length + 1 := by
  obtain ⟨w, r, rfl⟩ := okForm_str h
  have hx := (nk_of hd).2
  by_cases c1 : w = "loop"
  · subst c1
    obtain ⟨y, rfl, hy⟩ := okForm_loop h
    intro q hq
    simp [bods] at hq
    subst hq
    exact ⟨nk_mono (hx y (by simp)) (by decide), hy, by simp⟩
  by_cases c2 : w = "either"
  · subst c2
    obtain ⟨y, z, rfl, hy, hz⟩ := okForm_either h
    intro q hq
    simp [bods] at hq
    rcases hq with rfl | rfl
    · exact ⟨nk_mono (hx y (by simp)) (by decide), hy, by simp⟩
    · exact ⟨nk_mono (hx z (by simp)) (by decide), hz, by simp⟩
  · rw [bods_other c1 c2]
    intro q hq
    cases hq
theorem bodies_at_wp {S : Sto} {d : D} {place : List D} {P : D → Sto → Prop} {E : Str → D → Sto → Prop} (hd : d.nk 100 = true) (hf : okForm d = true) (hp : place.length ≤ 20) (h : P (.tup ((bods place d).map fun q => .tup [q.1, .tup q.2])) S) : (m_bodies_at [.tup place, d] S).wp P E := by
  obtain ⟨w, r, rfl⟩ := okForm_str hf
  have hx := (nk_of hd).2
  have hw2 : (D.str w).dk 200 = true := dk_mono (nk_dk (hx (.str w) (by simp))) (by decide)
  have i1 : ∀ {z : Str} {S : Sto} {P : D → Sto → Prop} {E : Str → D → Sto → Prop}, PyData.strOk z = true → (dEq false (.str w) (.str z) S).wp P E = P (.bl (decide (w = z))) S := by
    intro z S P E hz; rw [o_eq hw2 (by simpa [D.dk] using hz), eq_ss]; rfl
  unfold m_bodies_at b_bodies_at
  exists 7000
  rw [i1 (by decide +kernel)]
  exists 7000
  by_cases c1 : w = "loop"
  · subst c1
    obtain ⟨y, rfl, hy⟩ := okForm_loop hf
    rw [if_pos rfl]
    exists 7000
    simpa [bods] using h
  rw [if_neg c1]
  exists 7001
  rw [i1 (by decide +kernel)]
  exists 7000
  by_cases c2 : w = "either"
  · subst c2
    obtain ⟨y, z, rfl, hy, hz⟩ := okForm_either hf
    rw [if_pos rfl]
    exists 7000
    rw [o_add_t (by simp; omega)]
    exists 7000
    rw [o_add_t (by simp; omega)]
    exists 7000
    simpa [bods] using h
  · rw [if_neg c2]
    exists 7001
    rw [bods_other c1 c2] at h
    simpa using h
theorem count_statement_wp {r1 r2 : List D → Sto → R D} {g : Nat} (h1 : CountB r1 g) (hg : g ≤ 6) : CountS (fnM N_count_statement.length (b_count_statement r1 r2)) g := by
  intro S d place many P E hd hp k
  unfold b_count_statement
  exists 7000
  by_cases c40 : many = 40
  · subst c40
    rw [if_pos (by rfl)]
    have := k S Pg.refl
    simpa [wkS, out] using this
  · rw [if_neg (by omega)]
    refine has_form_wp hd fun S1 pg1 => ?_
    exists 7000
    cases hf : okForm d with
    | false =>
      exists 7000
      have := k S1 pg1
      simpa [wkS, c40, hf, out] using this
    | true =>
      have e0 : wkS (wk g) d place many = goB (wk g) (bods place d) (many + 1) := by simp [wkS, c40, hf]
      rw [e0] at k
      exists 7000
      rw [s_aug (d := .int many) rfl]
      exists 7000
      refine bodies_at_wp hd hf (by omega) ⟨_, rfl, ?_⟩
      have hb := bods_ok hf hd place
      have hL : (bods place d).length ≤ 2 := by
        unfold bods
        split <;> (try split) <;> simp
      generalize bods place d = L at hb k hL ⊢
      refine loop_wp L.length (fun i ρ S' => ∃ (m : Nat) (x4 x5 : Option D), ρ = [some d, some (.tup place), some (.int (6 - (g : Int))), some (.int m), x4, x5] ∧ goB (wk g) (L.drop i) m = goB (wk g) L (many + 1) ∧ Pg [] S S') (fun ρ S' hI => ⟨?_, ?_⟩) (fun i ρ S' hi hI => ?_) ?_ (Nat.zero_le _) ?_
      · simp [diL]
      · obtain ⟨m, x4, x5, rfl, hg2, pg⟩ := hI
        exists 7000
        have := k S' pg
        rw [← hg2, List.drop_length] at this
        simpa [goB, out] using this
      · obtain ⟨m, x4, x5, rfl, hg2, pg⟩ := hI
        have hq := hb L[i] (List.getElem_mem hi)
        refine ⟨.tup [L[i].1, .tup L[i].2], by simp [diL, hi], ?_⟩
        exists 7000
        rw [show (6 - (g : Int) + 1) = 7 - (g : Int) by omega]
        refine h1 S' L[i].1 L[i].2 m _ _ hq.1 hq.2.1 (by omega) fun S2 pg2 => ?_
        rw [List.drop_eq_getElem_cons hi] at hg2
        cases hh : wk g L[i].1 L[i].2 m with
        | inl m' =>
          simp only [goB, hh] at hg2
          exists 7000, out
          exact ⟨m', _, _, rfl, hg2, pg.trans pg2⟩
        | inr e =>
          simp only [goB, hh] at hg2
          have := k S2 (pg.trans pg2)
          rw [← hg2] at this
          exact this
      · exact ⟨many + 1, none, none, by simp, by simp, pg1⟩
      · unfold FU; omega
theorem count_body_wp {r1 r2 : List D → Sto → R D} {g : Nat} (h2 : CountS r2 g) (hg : g ≤ 5) : CountB (fnM N_count_body.length (b_count_body r1 r2)) (g + 1) := by
  intro S b before many P E hb ht hp k
  obtain ⟨xs, rfl⟩ : ∃ xs, b = .tup xs := by
    cases b with
    | tup xs => exact ⟨xs, rfl⟩
    | kt xs => simp [D.nk] at hb
    | _ => simp [D.isTup] at ht
  obtain ⟨hl, hx⟩ := nk_of hb
  unfold b_count_body
  exists 7000
  rw [if_neg (by omega)]
  refine ⟨_, _, rfl, rfl, ?_⟩
  refine loop_wp xs.length (fun i ρ S' => ∃ (m : Nat) (x4 x5 : Option D), ρ = [some (.tup xs), some (.tup before), some (.int (7 - ((g + 1 : Nat) : Int))), some (.int m), x4, x5] ∧ goL (wk g) before i (xs.drop i) m = wk (g + 1) (.tup xs) before many ∧ Pg [] S S') (fun ρ S' hI => ⟨?_, ?_⟩) (fun i ρ S' hi hI => ?_) ?_ (Nat.zero_le _) ?_
  · simp [diE, diL]
  · obtain ⟨m, x4, x5, rfl, hg2, pg⟩ := hI
    exists 7000
    have := k S' pg
    rw [← hg2, List.drop_length] at this
    simpa [goL, out] using this
  · obtain ⟨m, x4, x5, rfl, hg2, pg⟩ := hI
    refine ⟨.tup [.int i, xs[i]], by simp [diE, diL, hi], ?_⟩
    exists 7000
    rw [o_add_t (by simp; omega)]
    exists 7000
    rw [show (7 - ((g + 1 : Nat) : Int)) = 6 - (g : Int) by omega]
    refine h2 S' xs[i] (before ++ [.int i]) m _ _ (nk_mono (hx _ (List.getElem_mem hi)) (by decide)) (by simp; omega) fun S2 pg2 => ?_
    rw [List.drop_eq_getElem_cons hi] at hg2
    cases hh : wkS (wk g) xs[i] (before ++ [.int i]) m with
    | inl m' =>
      simp only [goL, hh] at hg2
      exists 7000, out
      exact ⟨m', _, _, rfl, hg2, pg.trans pg2⟩
    | inr e =>
      simp only [goL, hh] at hg2
      have := k S2 (pg.trans pg2)
      rw [← hg2] at this
      exact this
  · exact ⟨many, none, none, rfl, rfl, Pg.refl⟩
  · unfold FU; omega
theorem count_body_wp0 {r1 r2 : List D → Sto → R D} : CountB (fnM N_count_body.length (b_count_body r1 r2)) 0 := by
  intro S b before many P E hb ht hp k
  unfold b_count_body
  exists 7000
  have := k S Pg.refl
  simpa [wk, out] using this
theorem count_ok : ∀ {g n : Nat}, g ≤ 6 → 2 * g < n → CountB (f_count_body n).1 g
  | 0, n + 1, _, _ => count_body_wp0
  | g + 1, 0, _, h => absurd h (Nat.not_lt_zero _)
  | g + 1, 1, _, h => by omega
  | g + 1, n + 2, h6, h => count_body_wp (r1 := (f_count_body (n + 1)).1) (r2 := (f_count_body (n + 1)).2) (count_statement_wp (r1 := (f_count_body n).1) (r2 := (f_count_body n).2) (count_ok (by omega) (by omega)) (by omega)) (by omega)
/-- what made_program does -/
def judged (d : D) : Res := if d.isTup = true then wk 6 d [] 0 else .inr ("BadProgram", .tup [])
theorem made_wp {S : Sto} {d : D} {P : D → Sto → Prop} {E : Str → D → Sto → Prop} (hd : d.nk 100 = true) (k : ∀ S', Pg [] S S' → match judged d with
    | .inl _ => P d S'
    | .inr (c, w) => E c w S') : (m_made_program [d] S).wp P E := by
  unfold m_made_program b_made_program
  exists 7000, o_isiT (nk_dk hd)
  cases ht : d.isTup with
  | false =>
    exists 7000
    have := k S Pg.refl
    simpa [judged, ht] using this
  | true =>
    exists 7000
    have hc := count_ok (g := 6) (n := 16) (by decide) (by decide)
    refine hc S d [] 0 _ _ hd ht (by decide) fun S1 pg1 => ?_
    have := k S1 pg1
    simp only [judged, ht, if_true] at this
    cases hh : wk 6 d [] 0 with
    | inl m => rw [hh] at this; exists 7000, out; exact this
    | inr e => rw [hh] at this; exact this

/-! ### drawn programs are programs -/
theorem plain_form {d : D} (h : Lw.Plain Lw.nm4 Lw.pl2 d) : okForm d = true ∧ ∀ place, bods place d = [] := by
  cases h with
  | new a => simp only [Lw.nm4, List.mem_cons, List.not_mem_nil, or_false] at a; rcases a with rfl | rfl | rfl | rfl <;> exact ⟨by decide +kernel, fun _ => rfl⟩
  | put a b =>
    simp only [Lw.nm4, List.mem_cons, List.not_mem_nil, or_false] at a
    simp only [Lw.pl2, List.mem_cons, List.not_mem_nil, or_false] at b
    rcases a with rfl | rfl | rfl | rfl <;> rcases b with rfl | rfl <;> exact ⟨by decide +kernel, fun _ => rfl⟩
  | take a b =>
    simp only [Lw.nm4, List.mem_cons, List.not_mem_nil, or_false] at a
    simp only [Lw.pl2, List.mem_cons, List.not_mem_nil, or_false] at b
    rcases a with rfl | rfl | rfl | rfl <;> rcases b with rfl | rfl <;> exact ⟨by decide +kernel, fun _ => rfl⟩
  | move a b =>
    simp only [Lw.nm4, List.mem_cons, List.not_mem_nil, or_false] at a b
    rcases a with rfl | rfl | rfl | rfl <;> rcases b with rfl | rfl | rfl | rfl <;> exact ⟨by decide +kernel, fun _ => rfl⟩
  | «end» a => simp only [Lw.nm4, List.mem_cons, List.not_mem_nil, or_false] at a; rcases a with rfl | rfl | rfl | rfl <;> exact ⟨by decide +kernel, fun _ => rfl⟩
  | «do» a b =>
    simp only [Lw.nm4, List.mem_cons, List.not_mem_nil, or_false] at a b
    rcases a with rfl | rfl | rfl | rfl <;> rcases b with rfl | rfl | rfl <;> exact ⟨by decide +kernel, fun _ => rfl⟩
theorem loop_form (xs : List D) : okForm (.tup [.str "loop", .tup xs]) = true := by
  have hw : kv_FORMS.lookup ("loop" : Str) = some (.kt ((["body"] : List Str).map .str)) := rfl
  rw [okForm_some hw]
  simp [bsOf, fitBody, D.isTup]
theorem either_form (xs ys : List D) : okForm (.tup [.str "either", .tup xs, .tup ys]) = true := by
  have hw : kv_FORMS.lookup ("either" : Str) = some (.kt ((["body", "body"] : List Str).map .str)) := rfl
  rw [okForm_some hw]
  simp [bsOf, fitBody, D.isTup]
mutual
theorem st_wk {B : Nat} : ∀ {k n : Nat} {d : D}, Lw.St B Lw.nm4 Lw.pl2 k n d → ∀ {g : Nat} {place : List D} {m : Nat}, k ≤ g → m + n ≤ 40 → wkS (wk g) d place m = .inl (m + n)
  | _, _, _, .plain h, g, place, m, hk, hm => by
    have := plain_form h
    simp only [wkS, show ¬ (m = 40) by omega, if_false, this.1, if_true, this.2, goB]
  | _, _, _, .loop (n := n) (xs := xs) _ h, g, place, m, hk, hm => by
    obtain ⟨g, rfl⟩ : ∃ g', g = g' + 1 := ⟨g - 1, by omega⟩
    have e := bs_wk h (g := g) (before := place) (i := 0) (m := m + 1) (by omega) (by omega)
    simp only [wkS, show ¬ (m = 40) by omega, if_false, loop_form, if_true, bods, goB, wk, e]
    congr 1; omega
  | _, _, _, .either (n := n) (m := n2) (xs := xs) (ys := ys) _ _ h h2, g, place, m, hk, hm => by
    obtain ⟨g, rfl⟩ : ∃ g', g = g' + 1 := ⟨g - 1, by omega⟩
    have e := bs_wk h (g := g) (before := place ++ [.int 0]) (i := 0) (m := m + 1) (by omega) (by omega)
    have e2 := bs_wk h2 (g := g) (before := place ++ [.int 1]) (i := 0) (m := m + 1 + n) (by omega) (by omega)
    simp only [wkS, show ¬ (m = 40) by omega, if_false, either_form, if_true, bods, goB, wk, e, e2]
    congr 1; omega
theorem bs_wk {B : Nat} : ∀ {k n : Nat} {xs : List D}, Lw.Bs B Lw.nm4 Lw.pl2 k n xs → ∀ {g : Nat} {before : List D} {i m : Nat}, k ≤ g → m + n ≤ 40 → goL (wk g) before i xs m = .inl (m + n)
  | _, _, _, .nil, g, before, i, m, hk, hm => by simp only [goL, Nat.add_zero]
  | _, _, _, .cons (n := n) (m := n2) h h2, g, before, i, m, hk, hm => by
    have e := st_wk h (g := g) (place := before ++ [.int i]) (m := m) hk (by omega)
    have e2 := bs_wk h2 (g := g) (before := before) (i := i + 1) (m := m + n) hk (by omega)
    simp only [goL, e, e2]
    congr 1; omega
end
theorem judged_bs {B k n : Nat} {xs : List D} (h : Lw.Bs B Lw.nm4 Lw.pl2 k n xs) (hk : k ≤ 5) (hn : n ≤ 40) : judged (.tup xs) = .inl n := by
  have e := bs_wk h (g := 5) (before := []) (i := 0) (m := 0) hk (by omega)
  simp only [judged, D.isTup, if_true, wk, e, Nat.zero_add]
end Lp

set_option Elab.async false
set_option linter.all false
set_option maxRecDepth 100000
set_option autoImplicit false
namespace Lt
open PySem PySem.Spec PyProof.Rows L2 Sh
open Lw (St Bs Plain nm4 pl2)
/-! ### programs as trees -/
mutual
inductive Tr where
  | pl (d : D)
  | lp (b : Tb)
  | ei (a b : Tb)
inductive Tb where
  | nil
  | cons (s : Tr) (r : Tb)
end
mutual
def Tr.d : Tr → D
  | .pl d => d
  | .lp b => .tup [.str "loop", .tup b.ds]
  | .ei a b => .tup [.str "either", .tup a.ds, .tup b.ds]
def Tb.ds : Tb → List D
  | .nil => []
  | .cons s r => s.d :: r.ds
end
mutual
def Tr.cnt : Tr → Nat
  | .pl _ => 1
  | .lp b => b.cnt + 1
  | .ei a b => a.cnt + b.cnt + 1
def Tb.cnt : Tb → Nat
  | .nil => 0
  | .cons s r => s.cnt + r.cnt
end
mutual
def Tr.ok : Tr → Prop
  | .pl d => Plain nm4 pl2 d
  | .lp b => b.ok ∧ b.cnt ≤ 40
  | .ei a b => a.ok ∧ b.ok ∧ a.cnt ≤ 40 ∧ b.cnt ≤ 40
def Tb.ok : Tb → Prop
  | .nil => True
  | .cons s r => s.ok ∧ r.ok
end
mutual
def Tr.dep : Tr → Nat
  | .pl _ => 0
  | .lp b => b.dep + 1
  | .ei a b => max a.dep b.dep + 1
def Tb.dep : Tb → Nat
  | .nil => 0
  | .cons s r => max s.dep r.dep
end
-- all bodies have so many statements at most
mutual
def Tr.bd (B : Nat) : Tr → Prop
  | .pl _ => True
  | .lp b => b.bd B ∧ b.cnt ≤ B
  | .ei x y => x.bd B ∧ y.bd B ∧ x.cnt ≤ B ∧ y.cnt ≤ B
def Tb.bd (B : Nat) : Tb → Prop
  | .nil => True
  | .cons s r => s.bd B ∧ r.bd B
end
mutual
theorem of_stB {B : Nat} (hB : B ≤ 40) : ∀ {k n : Nat} {d : D}, St B nm4 pl2 k n d → ∃ t : Tr, t.d = d ∧ t.ok ∧ t.dep ≤ k ∧ t.cnt = n ∧ t.bd B
  | _, _, _, .plain h => ⟨.pl _, rfl, h, Nat.zero_le _, rfl, trivial⟩
  | _, _, _, .loop l h => by
    obtain ⟨t, rfl, h1, h2, rfl, h3⟩ := of_bsB hB h
    exact ⟨.lp t, rfl, ⟨h1, by omega⟩, by simp only [Tr.dep]; omega, rfl, h3, l⟩
  | _, _, _, .either l l2 h g => by
    obtain ⟨t, rfl, h1, h2, rfl, h3⟩ := of_bsB hB h
    obtain ⟨u, rfl, g1, g2, rfl, g3⟩ := of_bsB hB g
    exact ⟨.ei t u, rfl, ⟨h1, g1, by omega, by omega⟩, by simp only [Tr.dep]; omega, rfl, h3, g3, l, l2⟩
theorem of_bsB {B : Nat} (hB : B ≤ 40) : ∀ {k n : Nat} {xs : List D}, Bs B nm4 pl2 k n xs → ∃ t : Tb, t.ds = xs ∧ t.ok ∧ t.dep ≤ k ∧ t.cnt = n ∧ t.bd B
  | _, _, _, .nil => ⟨.nil, rfl, trivial, Nat.zero_le _, rfl, trivial⟩
  | _, _, _, .cons h g => by
    obtain ⟨t, rfl, h1, h2, rfl, h3⟩ := of_stB hB h
    obtain ⟨u, rfl, g1, g2, rfl, g3⟩ := of_bsB hB g
    exact ⟨.cons t u, rfl, ⟨h1, g1⟩, by simp only [Tb.dep]; omega, rfl, h3, g3⟩
end
theorem of_bs {k n : Nat} {xs : List D} (h : Bs 3 nm4 pl2 k n xs) : ∃ t : Tb, t.ds = xs ∧ t.ok ∧ t.dep ≤ k ∧ t.cnt = n :=
  let ⟨t, a, b, c, d, _⟩ := of_bsB (by decide) h
  ⟨t, a, b, c, d⟩
mutual
theorem to_st : ∀ {t : Tr} {k : Nat}, t.ok → t.dep ≤ k → St 40 nm4 pl2 k t.cnt t.d
  | .pl d, k, h, _ => .plain h
  | .lp b, k, h, hk => by
    simp only [Tr.dep] at hk
    obtain ⟨k, rfl⟩ : ∃ k', k = k' + 1 := ⟨k - 1, by omega⟩
    exact .loop h.2 (to_bs h.1 (by omega))
  | .ei a b, k, h, hk => by
    simp only [Tr.dep] at hk
    obtain ⟨k, rfl⟩ : ∃ k', k = k' + 1 := ⟨k - 1, by omega⟩
    exact .either h.2.2.1 h.2.2.2 (to_bs h.1 (by omega)) (to_bs h.2.1 (by omega))
theorem to_bs : ∀ {t : Tb} {k : Nat}, t.ok → t.dep ≤ k → Bs 40 nm4 pl2 k t.cnt t.ds
  | .nil, k, _, _ => .nil
  | .cons s r, k, h, hk => by
    simp only [Tb.dep] at hk
    exact .cons (to_st h.1 (by omega)) (to_bs h.2 (by omega))
end
theorem Tb.len_le : ∀ t : Tb, t.ds.length ≤ t.cnt
  | .nil => Nat.le_refl _
  | .cons s r => by
    have := r.len_le
    have : 0 < s.cnt := by cases s <;> simp [Tr.cnt]
    simp only [Tb.ds, Tb.cnt, List.length_cons]
    omega
/-! ### forms of trees -/
theorem plain_nk {d : D} (h : Plain nm4 pl2 d) : d.nk 5 = true := by
  cases h with
  | new a => simp only [nm4, List.mem_cons, List.not_mem_nil, or_false] at a; rcases a with rfl | rfl | rfl | rfl <;> decide +kernel
  | put a b =>
    simp only [nm4, List.mem_cons, List.not_mem_nil, or_false] at a
    simp only [pl2, List.mem_cons, List.not_mem_nil, or_false] at b
    rcases a with rfl | rfl | rfl | rfl <;> rcases b with rfl | rfl <;> decide +kernel
  | take a b =>
    simp only [nm4, List.mem_cons, List.not_mem_nil, or_false] at a
    simp only [pl2, List.mem_cons, List.not_mem_nil, or_false] at b
    rcases a with rfl | rfl | rfl | rfl <;> rcases b with rfl | rfl <;> decide +kernel
  | move a b =>
    simp only [nm4, List.mem_cons, List.not_mem_nil, or_false] at a b
    rcases a with rfl | rfl | rfl | rfl <;> rcases b with rfl | rfl | rfl | rfl <;> decide +kernel
  | «end» a => simp only [nm4, List.mem_cons, List.not_mem_nil, or_false] at a; rcases a with rfl | rfl | rfl | rfl <;> decide +kernel
  | «do» a b =>
    simp only [nm4, List.mem_cons, List.not_mem_nil, or_false] at a b
    rcases a with rfl | rfl | rfl | rfl <;> rcases b with rfl | rfl | rfl <;> decide +kernel
mutual
theorem Tr.nk : ∀ {t : Tr}, t.ok → t.cnt ≤ 40 → t.d.nk (5 + 2 * t.dep) = true
  | .pl d, h, _ => plain_nk h
  | .lp b, h, hc => by
    simp only [Tr.cnt] at hc
    have := b.len_le
    simp only [Tr.dep, Tr.d, show 5 + 2 * (b.dep + 1) = 5 + 2 * b.dep + 1 + 1 by omega]
    refine nk_tup (by simp) fun x hx => ?_
    simp only [List.mem_cons, List.not_mem_nil, or_false] at hx
    rcases hx with rfl | rfl
    · exact nk_mono (n := 1) (by decide +kernel) (by omega)
    · exact nk_tup (by omega) (Tb.nk h.1 (by omega))
  | .ei a b, h, hc => by
    simp only [Tr.cnt] at hc
    have := a.len_le
    have := b.len_le
    simp only [Tr.dep, Tr.d, show 5 + 2 * (max a.dep b.dep + 1) = 5 + 2 * (max a.dep b.dep) + 1 + 1 by omega]
    refine nk_tup (by simp) fun x hx => ?_
    simp only [List.mem_cons, List.not_mem_nil, or_false] at hx
    rcases hx with rfl | rfl | rfl
    · exact nk_mono (n := 1) (by decide +kernel) (by omega)
    · exact nk_tup (by omega) fun y hy => nk_mono (Tb.nk h.1 (by omega) y hy) (by omega)
    · exact nk_tup (by omega) fun y hy => nk_mono (Tb.nk h.2.1 (by omega) y hy) (by omega)
theorem Tb.nk : ∀ {t : Tb}, t.ok → t.cnt ≤ 40 → ∀ x ∈ t.ds, x.nk (5 + 2 * t.dep) = true
  | .nil, _, _, x, hx => by simp [Tb.ds] at hx
  | .cons s r, h, hc, x, hx => by
    simp only [Tb.cnt] at hc
    simp only [Tb.ds, List.mem_cons] at hx
    simp only [Tb.dep]
    rcases hx with rfl | hx
    · exact nk_mono (Tr.nk h.1 (by omega)) (by omega)
    · exact nk_mono (Tb.nk h.2 (by omega) x hx) (by omega)
end
theorem Tr.form : ∀ {t : Tr}, t.ok → Lp.okForm t.d = true
  | .pl d, h => (Lp.plain_form h).1
  | .lp b, _ => Lp.loop_form _
  | .ei a b, _ => Lp.either_form _ _
/-- the bodies of a statement with their first places -/
def Tr.bods (place : List D) : Tr → List (D × List D)
  | .pl _ => []
  | .lp b => [(.tup b.ds, place)]
  | .ei a b => [(.tup a.ds, place ++ [.int 0]), (.tup b.ds, place ++ [.int 1])]
theorem Tr.bods_eq {place : List D} : ∀ {t : Tr}, t.ok → Lp.bods place t.d = t.bods place
  | .pl d, h => (Lp.plain_form h).2 place
  | .lp b, _ => by simp [Tr.d, Tr.bods, Lp.bods]
  | .ei a b, _ => by simp [Tr.d, Tr.bods, Lp.bods]
/-- whether a statement has bodies -/
def Tr.way : Tr → Bool
  | .pl _ => false
  | _ => true
def Tr.word : Tr → Str
  | .pl (.tup (.str w :: _)) => w
  | .lp _ => "loop"
  | .ei _ _ => "either"
  | _ => ""
theorem plain_word {d : D} (h : Plain nm4 pl2 d) : ∃ w r, d = .tup (.str w :: r) ∧ w ∈ (["new", "put", "take", "move", "end", "do"] : List Str) := by
  cases h <;> exact ⟨_, _, rfl, by simp⟩
theorem Tr.word_eq : ∀ {t : Tr}, t.ok → ∃ r, t.d = .tup (.str t.word :: r)
  | .pl d, h => by
    obtain ⟨w, r, rfl, _⟩ := plain_word h
    exact ⟨r, rfl⟩
  | .lp b, _ => ⟨_, rfl⟩
  | .ei a b, _ => ⟨_, rfl⟩
theorem not_loop : ("loop" : Str) ∉ (["new", "put", "take", "move", "end", "do"] : List Str) := by decide +kernel
theorem not_either : ("either" : Str) ∉ (["new", "put", "take", "move", "end", "do"] : List Str) := by decide +kernel
theorem Tr.word_loop : ∀ {t : Tr}, t.ok → (t.word = "loop" ↔ ∃ b, t = .lp b)
  | .pl d, h => by
    obtain ⟨w, r, rfl, hw⟩ := plain_word h
    constructor
    · intro e
      simp only [Tr.word] at e
      subst e
      exact absurd hw not_loop
    · rintro ⟨b, hb⟩; cases hb
  | .lp b, _ => ⟨fun _ => ⟨b, rfl⟩, fun _ => rfl⟩
  | .ei a b, _ => ⟨fun e => absurd (show ("either" : Str) = "loop" from e) Lp.ne_le, fun ⟨b, hb⟩ => by cases hb⟩
theorem Tr.word_either : ∀ {t : Tr}, t.ok → (t.word = "either" ↔ ∃ a b, t = .ei a b)
  | .pl d, h => by
    obtain ⟨w, r, rfl, hw⟩ := plain_word h
    constructor
    · intro e
      simp only [Tr.word] at e
      subst e
      exact absurd hw not_either
    · rintro ⟨a, b, hb⟩; cases hb
  | .lp b, _ => ⟨fun e => absurd (show ("loop" : Str) = "either" from e).symm Lp.ne_le, fun ⟨a, b, hb⟩ => by cases hb⟩
  | .ei a b, _ => ⟨fun _ => ⟨a, b, rfl⟩, fun _ => rfl⟩
/-! ### layouts -/
abbrev Pl := List Int
def pD (p : Pl) : D := .tup (p.map .int)
def kk (p : Pl) : List Key := p.map .inl
theorem kk_inj {p q : Pl} (h : kk p = kk q) : p = q := List.map_inj_right (f := Sum.inl) (fun _ _ e => Sum.inl.inj e) |>.mp h
theorem optAll_int : ∀ p : Pl, optAll dKey (p.map .int) = some (p.map .inl)
  | [] => rfl
  | i :: p => by simp only [List.map_cons, optAll, dKey, optAll_int p]
theorem dKeys_pD (p : Pl) : dKeys (pD p) = some (kk p) := optAll_int p
abbrev Ent := Pl × Tr × Pl
def Tb.aft : Tb → Pl → Pl → Nat → Pl
  | .nil, _, h, _ => h
  | .cons _ _, b, _, i => b ++ [(i : Int)]
mutual
def Tr.lay : Tr → Pl → Pl → List Ent
  | .pl d, p, a => [(p, .pl d, a)]
  | .lp b, p, a => (p, .lp b, a) :: b.lay p p 0
  | .ei x y, p, a => (p, .ei x y, a) :: (x.lay (p ++ [0]) a 0 ++ y.lay (p ++ [1]) a 0)
def Tb.lay : Tb → Pl → Pl → Nat → List Ent
  | .nil, _, _, _ => []
  | .cons s r, b, h, i => s.lay (b ++ [(i : Int)]) (r.aft b h (i + 1)) ++ r.lay b h (i + 1)
end
mutual
theorem Tr.lay_len : ∀ (t : Tr) (p a : Pl), (t.lay p a).length = t.cnt
  | .pl d, p, a => rfl
  | .lp b, p, a => by simp only [Tr.lay, Tr.cnt, List.length_cons, Tb.lay_len b]
  | .ei x y, p, a => by simp only [Tr.lay, Tr.cnt, List.length_cons, List.length_append, Tb.lay_len x, Tb.lay_len y]
theorem Tb.lay_len : ∀ (t : Tb) (b h : Pl) (i : Nat), (t.lay b h i).length = t.cnt
  | .nil, _, _, _ => rfl
  | .cons s r, b, h, i => by simp only [Tb.lay, Tb.cnt, List.length_append, Tr.lay_len s, Tb.lay_len r]
end
mutual
theorem Tr.lay_pre : ∀ (t : Tr) (p a : Pl), ∀ e ∈ t.lay p a, p <+: e.1
  | .pl d, p, a, e, h => by
    simp only [Tr.lay, List.mem_singleton] at h
    subst h
    exact List.prefix_refl _
  | .lp b, p, a, e, h => by
    simp only [Tr.lay, List.mem_cons] at h
    rcases h with rfl | h
    · exact List.prefix_refl _
    · obtain ⟨j, _, hj⟩ := Tb.lay_pre b p p 0 e h
      exact (List.prefix_append _ _).trans hj
  | .ei x y, p, a, e, h => by
    simp only [Tr.lay, List.mem_cons, List.mem_append] at h
    rcases h with rfl | h | h
    · exact List.prefix_refl _
    · obtain ⟨j, _, hj⟩ := Tb.lay_pre x _ _ 0 e h
      exact ((List.prefix_append _ _).trans (List.prefix_append _ _)).trans hj
    · obtain ⟨j, _, hj⟩ := Tb.lay_pre y _ _ 0 e h
      exact ((List.prefix_append _ _).trans (List.prefix_append _ _)).trans hj
theorem Tb.lay_pre : ∀ (t : Tb) (b h : Pl) (i : Nat), ∀ e ∈ t.lay b h i, ∃ j : Nat, i ≤ j ∧ (b ++ [(j : Int)]) <+: e.1
  | .nil, _, _, _, e, h => by simp [Tb.lay] at h
  | .cons s r, b, h, i, e, he => by
    simp only [Tb.lay, List.mem_append] at he
    rcases he with he | he
    · exact ⟨i, Nat.le_refl _, Tr.lay_pre s _ _ e he⟩
    · obtain ⟨j, h1, h2⟩ := Tb.lay_pre r b h (i + 1) e he
      exact ⟨j, by omega, h2⟩
end
theorem pre_snoc {b p : Pl} {i j : Int} (h1 : (b ++ [i]) <+: p) (h2 : (b ++ [j]) <+: p) : i = j := by
  obtain ⟨x, rfl⟩ := h1
  obtain ⟨y, hy⟩ := h2
  simp only [List.append_assoc, List.append_cancel_left_eq, List.cons_append, List.nil_append, List.cons.injEq] at hy
  exact hy.1.symm
theorem pre_ne {b p : Pl} {i : Int} (h1 : (b ++ [i]) <+: p) : b ≠ p := by
  rintro rfl
  have := h1.length_le
  simp at this
  omega
theorem pw_app {l r : List Ent} (h1 : (l.map (·.1)).Nodup) (h2 : (r.map (·.1)).Nodup) (h : ∀ e ∈ l, ∀ e' ∈ r, e.1 ≠ e'.1) : ((l ++ r).map (·.1)).Nodup := by
  rw [List.map_append, List.nodup_append]
  refine ⟨h1, h2, ?_⟩
  intro p hp q hq
  obtain ⟨e, he, rfl⟩ := List.mem_map.mp hp
  obtain ⟨e', he', rfl⟩ := List.mem_map.mp hq
  exact h e he e' he'
mutual
theorem Tr.lay_nodup : ∀ (t : Tr) (p a : Pl), ((t.lay p a).map (·.1)).Nodup
  | .pl d, p, a => by simp [Tr.lay]
  | .lp b, p, a => by
    simp only [Tr.lay]
    refine pw_app (l := [_]) (by simp) (Tb.lay_nodup b p p 0) ?_
    intro e he e' he'
    rw [List.mem_singleton.mp he]
    obtain ⟨j, _, hj⟩ := Tb.lay_pre b p p 0 e' he'
    exact pre_ne hj
  | .ei x y, p, a => by
    simp only [Tr.lay]
    refine pw_app (l := [_]) (by simp) (pw_app (Tb.lay_nodup x _ _ 0) (Tb.lay_nodup y _ _ 0) ?_) ?_
    · intro e he e' he' h
      obtain ⟨j, _, hj⟩ := Tb.lay_pre x _ _ 0 e he
      obtain ⟨j', _, hj'⟩ := Tb.lay_pre y _ _ 0 e' he'
      have h1 := (List.prefix_append (p ++ [0]) [(j : Int)]).trans hj
      have h2 := (List.prefix_append (p ++ [1]) [(j' : Int)]).trans hj'
      rw [h] at h1
      have := pre_snoc h1 h2
      omega
    · intro e he e' he'
      rw [List.mem_singleton.mp he]
      rcases List.mem_append.mp he' with he' | he'
      · obtain ⟨j, _, hj⟩ := Tb.lay_pre x _ _ 0 e' he'
        exact pre_ne ((List.prefix_append (p ++ [0]) [(j : Int)]).trans hj)
      · obtain ⟨j, _, hj⟩ := Tb.lay_pre y _ _ 0 e' he'
        exact pre_ne ((List.prefix_append (p ++ [1]) [(j : Int)]).trans hj)
theorem Tb.lay_nodup : ∀ (t : Tb) (b h : Pl) (i : Nat), ((t.lay b h i).map (·.1)).Nodup
  | .nil, _, _, _ => by simp [Tb.lay]
  | .cons s r, b, h, i => by
    simp only [Tb.lay]
    refine pw_app (Tr.lay_nodup s _ _) (Tb.lay_nodup r b h (i + 1)) ?_
    intro e he e' he' q
    have h1 := Tr.lay_pre s _ _ e he
    obtain ⟨j, h2, h3⟩ := Tb.lay_pre r b h (i + 1) e' he'
    rw [q] at h1
    have := pre_snoc h1 h3
    omega
end
mutual
theorem Tr.lay_deep : ∀ (t : Tr) (p a : Pl), ∀ e ∈ t.lay p a, e.1.length ≤ p.length + 2 * t.dep
  | .pl d, p, a, e, h => by
    simp only [Tr.lay, List.mem_singleton] at h
    subst h
    simp
  | .lp b, p, a, e, h => by
    simp only [Tr.lay, List.mem_cons] at h
    rcases h with rfl | h
    · simp
    · have := Tb.lay_deep b p p 0 e h
      simp only [Tr.dep]
      omega
  | .ei x y, p, a, e, h => by
    simp only [Tr.lay, List.mem_cons, List.mem_append] at h
    simp only [Tr.dep]
    rcases h with rfl | h | h
    · simp
    · have := Tb.lay_deep x _ _ 0 e h
      simp at this
      omega
    · have := Tb.lay_deep y _ _ 0 e h
      simp at this
      omega
theorem Tb.lay_deep : ∀ (t : Tb) (b h : Pl) (i : Nat), ∀ e ∈ t.lay b h i, e.1.length ≤ b.length + 1 + 2 * t.dep
  | .nil, _, _, _, e, h => by simp [Tb.lay] at h
  | .cons s r, b, h, i, e, he => by
    simp only [Tb.lay, List.mem_append] at he
    simp only [Tb.dep]
    rcases he with he | he
    · have := Tr.lay_deep s _ _ e he
      simp at this
      omega
    · have := Tb.lay_deep r b h (i + 1) e he
      omega
end
mutual
theorem Tr.lay_ok : ∀ {t : Tr} {p a : Pl}, t.ok → ∀ e ∈ t.lay p a, e.2.1.ok ∧ e.2.1.cnt ≤ t.cnt ∧ e.2.1.dep ≤ t.dep
  | .pl d, p, a, h, e, he => by
    simp only [Tr.lay, List.mem_singleton] at he
    subst he
    exact ⟨h, Nat.le_refl _, Nat.le_refl _⟩
  | .lp b, p, a, h, e, he => by
    simp only [Tr.lay, List.mem_cons] at he
    simp only [Tr.cnt, Tr.dep]
    rcases he with rfl | he
    · exact ⟨h, Nat.le_refl _, Nat.le_refl _⟩
    · have := Tb.lay_ok (t := b) h.1 e he
      exact ⟨this.1, by omega, by omega⟩
  | .ei x y, p, a, h, e, he => by
    simp only [Tr.lay, List.mem_cons, List.mem_append] at he
    simp only [Tr.cnt, Tr.dep]
    rcases he with rfl | he | he
    · exact ⟨h, Nat.le_refl _, Nat.le_refl _⟩
    · have := Tb.lay_ok (t := x) h.1 e he
      exact ⟨this.1, by omega, by omega⟩
    · have := Tb.lay_ok (t := y) h.2.1 e he
      exact ⟨this.1, by omega, by omega⟩
theorem Tb.lay_ok : ∀ {t : Tb} {b h : Pl} {i : Nat}, t.ok → ∀ e ∈ t.lay b h i, e.2.1.ok ∧ e.2.1.cnt ≤ t.cnt ∧ e.2.1.dep ≤ t.dep
  | .nil, _, _, _, _, e, he => by simp [Tb.lay] at he
  | .cons s r, b, h, i, ho, e, he => by
    simp only [Tb.lay, List.mem_append] at he
    simp only [Tb.cnt, Tb.dep]
    rcases he with he | he
    · have := Tr.lay_ok ho.1 e he
      exact ⟨this.1, by omega, by omega⟩
    · have := Tb.lay_ok ho.2 e he
      exact ⟨this.1, by omega, by omega⟩
end
end Lt

local macro_rules | `(tactic| exists 7004) => `(tactic| simp only [wp_ok, wp_bind, ws_nx, ws_rt, ws_bk, ws_ct, ws_ex, ws_to, ws_seq, ws_gx, wp_fnM, w_lit, w_anil, w_acons, w_bin, w_cb, w_tup, w_lst, w_tbl, w_tru, w_and, w_or, w_not, w_eif, w_eand, w_eor, w_enot, w_neg, w_call, s_nil, s_ret, s_retN, s_expr, s_if, s_raise, s_as, g_name, s_par, g_sub, o_add_i, o_sub, o_mul, o_div, o_mod, o_ord, o_iadd, o_min, o_max, o_int, o_intb, eVar, env0, List.getElem?_cons_succ, List.getElem?_cons_zero, List.set_cons_succ, List.set_cons_zero, List.map_cons, List.map_nil, List.length_cons, List.length_nil, List.replicate_succ, List.replicate_zero, List.cons_append, List.nil_append, List.append_nil, Nat.reduceAdd, Nat.reduceSub, List.zip_cons_cons, List.zip_nil_right, List.foldl_cons, List.foldl_nil, pick, List.filterMap_cons, List.filterMap_nil, Nat.zero_add, D.int.injEq, D.bl.injEq, exists_eq_left', decide_eq_true_eq, true_and, and_self, Option.some.injEq, o_eq_ii, o_ne_ii, Nat.reduceLeDiff, w_iseq, w_ir1, w_ir2, ir2P_ii, w_ien, w_izp, izP_two, o_pow, g_tup, g_nil, g_cons, w_app, w_cut, w_onone, w_osome, o_cut_t, w_comp, s_try, w_disp, w_pnil, w_pcons, o_inK, truD_bl, eq_ss, wipeE, eq_self, o_ix0, o_ix1, o_ix2, o_lenT, if_true, if_false, Bool.not_true, Bool.not_false, Bool.false_eq_true])
local macro_rules | `(tactic| exists 7004, $xs,*) => `(tactic| simp only [wp_ok, wp_bind, ws_nx, ws_rt, ws_bk, ws_ct, ws_ex, ws_to, ws_seq, ws_gx, wp_fnM, w_lit, w_anil, w_acons, w_bin, w_cb, w_tup, w_lst, w_tbl, w_tru, w_and, w_or, w_not, w_eif, w_eand, w_eor, w_enot, w_neg, w_call, s_nil, s_ret, s_retN, s_expr, s_if, s_raise, s_as, g_name, s_par, g_sub, o_add_i, o_sub, o_mul, o_div, o_mod, o_ord, o_iadd, o_min, o_max, o_int, o_intb, eVar, env0, List.getElem?_cons_succ, List.getElem?_cons_zero, List.set_cons_succ, List.set_cons_zero, List.map_cons, List.map_nil, List.length_cons, List.length_nil, List.replicate_succ, List.replicate_zero, List.cons_append, List.nil_append, List.append_nil, Nat.reduceAdd, Nat.reduceSub, List.zip_cons_cons, List.zip_nil_right, List.foldl_cons, List.foldl_nil, pick, List.filterMap_cons, List.filterMap_nil, Nat.zero_add, D.int.injEq, D.bl.injEq, exists_eq_left', decide_eq_true_eq, true_and, and_self, Option.some.injEq, o_eq_ii, o_ne_ii, Nat.reduceLeDiff, w_iseq, w_ir1, w_ir2, ir2P_ii, w_ien, w_izp, izP_two, o_pow, g_tup, g_nil, g_cons, w_app, w_cut, w_onone, w_osome, o_cut_t, w_comp, s_try, w_disp, w_pnil, w_pcons, o_inK, truD_bl, eq_ss, wipeE, eq_self, o_ix0, o_ix1, o_ix2, o_lenT, if_true, if_false, Bool.not_true, Bool.not_false, Bool.false_eq_true, $[$xs:term],*])
set_option Elab.async false
set_option linter.all false
set_option maxRecDepth 100000
set_option autoImplicit false
namespace Ly
open PySem PySem.Spec PyProof.Rows L2 Sh
open Lw (Src len_of)
open Lt
/-! ### dicts with tuples for keys -/
section
variable {E : Str → D → Sto → Prop} {P : D → Sto → Prop} {S : Sto} {ρ : Sh.Env} {p : Po}
theorem w_dnewT : (eDNewT ρ S).wp P E = P (.obj S.length) (S ++ [.dT []]) := wp_ok
theorem dSet_T {l : Nat} {kvs : List (List Key × D)} {q : Pl} {v : D} (h : S[l]? = some (.dT kvs)) (hl : kvs.length < 16777216) : dSet (.obj l) (pD q) v S = some (S.set l (.dT (kput kvs (kk q) v))) := by
  simp only [dSet, h, if_pos hl, dKeys_pD, Option.map_some]
theorem kput_new {κ : Type} [DecidableEq κ] {kvs : List (κ × D)} {k : κ} {v : D} (h : k ∉ kvs.map (·.1)) : kput kvs k v = kvs ++ [(k, v)] := by
  unfold kput
  rw [if_neg]
  intro q
  obtain ⟨kv, h1, h2⟩ := List.any_eq_true.mp q
  exact h (List.mem_map.mpr ⟨kv, h1, of_decide_eq_true h2⟩)
theorem o_inT' {l : Nat} {kvs : List (List Key × D)} {q : Pl} {neg : Bool} (h : S[l]? = some (.dT kvs)) : (dIn2 neg (pD q) (.obj l) S).wp P E = P (.bl (if neg then !(kget kvs (kk q)).isSome else (kget kvs (kk q)).isSome)) S := by
  have e : dLook (.obj l) (pD q) S = some (kget kvs (kk q)) := by simp only [dLook, h, dKeys_pD, Option.map_some]
  simp only [dIn2, e]
  exact wp_ok
theorem o_ixT' {l : Nat} {kvs : List (List Key × D)} {q : Pl} {d : D} (h : S[l]? = some (.dT kvs)) (hk : kget kvs (kk q) = some d) : (dIx (.obj l) (pD q) S).wp P E = P d S := by
  have e : dLook (.obj l) (pD q) S = some (some d) := by simp only [dLook, h, dKeys_pD, Option.map_some, hk]
  simp only [dIx, e]
  exact wp_ok
theorem w_star {me : EM} {m : AM} {P : List D → Sto → Prop} : (aStar me m ρ S).wp P E = (me ρ S).wp (fun d S1 => ∃ xs, seqD S1 d = some xs ∧ (m ρ S1).wp (fun ys S2 => P (xs ++ ys) S2) E) E := by
  unfold aStar
  rw [wp_bind]
  refine wp_eq fun d S1 => ?_
  cases q : seqD S1 d with
  | none => simp [wp_no]
  | some xs =>
    simp only [Option.some.injEq, exists_eq_left']
    rw [wp_bind]
    exact wp_eq fun ys S2 => wp_ok
theorem updTo_wp {i : Nat} {y : D} {S2 : Sto} : (updTo i y S2).wp P E = ∃ j kvs more, y = .obj j ∧ S2[i]? = some (.dT kvs) ∧ S2[j]? = some (.dT more) ∧ (i ≠ j ∧ kvs ≠ [] ∧ kvs.length + more.length ≤ 16777216) ∧ P .non (S2.set i (.dT (mergeT kvs more))) := by
  unfold updTo
  split
  · rename_i j
    split
    · rename_i kvs more q1 q2
      rw [wp_ite]
      by_cases h : i ≠ j ∧ kvs ≠ [] ∧ kvs.length + more.length ≤ 16777216
      · rw [if_pos h, wp_ok]
        exact propext ⟨fun z => ⟨j, kvs, more, rfl, q1, q2, h, z⟩, fun ⟨j', k', m', e, a, b, _, z⟩ => by
          cases e
          rw [q1] at a; rw [q2] at b
          cases a; cases b
          exact z⟩
      · rw [if_neg h, wp_no]
        refine (eq_false ?_).symm
        rintro ⟨j', k', m', e, a, b, z, _⟩
        cases e
        rw [q1] at a; rw [q2] at b
        cases a; cases b
        exact h z
    · rename_i h
      rw [wp_no]
      refine (eq_false ?_).symm
      rintro ⟨j', k', m', e, a, b, z, _⟩
      cases e
      exact h _ _ a b
  · rename_i h
    rw [wp_no]
    refine (eq_false ?_).symm
    rintro ⟨j', k', m', e, _⟩
    exact h j' e
theorem w_upd {mo me : EM} : (eUpd mo me ρ S).wp P E = (mo ρ S).wp (fun d S1 => ∃ i kvs0, d = .obj i ∧ S1[i]? = some (.dT kvs0) ∧ (me ρ S1).wp (fun y S2 => ∃ j kvs more, y = .obj j ∧ S2[i]? = some (.dT kvs) ∧ S2[j]? = some (.dT more) ∧ (i ≠ j ∧ kvs ≠ [] ∧ kvs.length + more.length ≤ 16777216) ∧ P .non (S2.set i (.dT (mergeT kvs more)))) E) E := by
  unfold eUpd
  rw [wp_bind]
  refine wp_eq fun d S1 => ?_
  split
  · rename_i i
    split
    · rename_i kvs q
      rw [wp_bind, wp_eq fun y S2 => updTo_wp]
      refine propext ⟨fun h => ⟨i, kvs, rfl, q, h⟩, ?_⟩
      rintro ⟨i', k', e, _, h⟩
      cases e
      exact h
    · rename_i h
      rw [wp_no]
      refine (eq_false ?_).symm
      rintro ⟨i', k', e, q, _⟩
      cases e
      exact h _ q
  · rename_i h
    rw [wp_no]
    refine (eq_false ?_).symm
    rintro ⟨i', k', e, _⟩
    exact h _ e
theorem mergeT_new : ∀ {more kvs : List (List Key × D)}, (∀ kv ∈ more, kv.1 ∉ kvs.map (·.1)) → (more.map (·.1)).Nodup → mergeT kvs more = kvs ++ more
  | [], kvs, _, _ => by simp [mergeT]
  | kv :: more, kvs, h, hn => by
    rw [List.map_cons, List.nodup_cons] at hn
    have e : mergeT kvs (kv :: more) = mergeT (kput kvs kv.1 kv.2) more := rfl
    rw [e, kput_new (h kv List.mem_cons_self), mergeT_new ?_ hn.2]
    · simp
    · intro kv' hk
      simp only [List.map_append, List.map_cons, List.map_nil, List.mem_append, List.mem_singleton, not_or]
      exact ⟨h kv' (List.mem_cons_of_mem _ hk), fun e => hn.1 (e ▸ List.mem_map.mpr ⟨kv', hk, rfl⟩)⟩
theorem o_add_p {q : Pl} {i : Int} (h : q.length ≤ 1000) : (dAdd (pD q) (.tup [.int i]) S).wp P E = P (pD (q ++ [i])) S := by
  have e : pD (q ++ [i]) = .tup (q.map .int ++ [.int i]) := by simp [pD]
  rw [e]
  exact o_add_t (by simp; omega)
end
/-! ### the layout of a program -/
abbrev N_end_of : List Str := ["program"]
def b_end_of : SM :=
  (sRet (eTup (aCons (eCb gLenA (aCons (eVar 0) aNil)) aNil)))
def m_end_of : List D → Sto → R D := fnM N_end_of.length b_end_of
abbrev N_lay_body : List Str := ["laid", "body", "before", "behind", "index", "statement", "place", "after", "back", "inner", "start"]
def b_lay_rest (r_lay_body : List D → Sto → R D) : SM :=
  (sSeq (sAs (eTup (aCons (eVar 5) (aCons (eVar 7) aNil))) (gSubM (eVar 0) (eVar 6)))
  (sSeq (sAs (eVar 7) (gNameM 8))
  (sSeq (sIf (tBl (eBin (dEq false) (eBin dIx (eVar 5) (eLit (.int 0))) (eLit (.str "loop")))) (sAs (eVar 6) (gNameM 8)) sNil)
  (sFor FU (iSeq (eCall 2 0 [0, 1] Lp.m_bodies_at (aCons (eVar 6) (aCons (eVar 5) aNil)) aNil)) (gTupM 2 (gConsM (gNameM 9) (gConsM (gNameM 10) gNilM))) (sExpr (eCall 4 0 [0, 1, 2, 3] r_lay_body (aCons (eVar 0) (aCons (eVar 9) (aCons (eVar 10) (aCons (eVar 8) aNil)))) aNil))))))
def b_lay_body (r_lay_body : List D → Sto → R D) : SM :=
  (sFor FU (iEn (aCons (eVar 1) aNil)) (gTupM 2 (gConsM (gNameM 4) (gConsM (gNameM 5) gNilM))) (sSeq (sAs (eBin dAdd (eVar 2) (eTup (aCons (eVar 4) aNil))) (gNameM 6))
  (sSeq (sAs (eVar 3) (gNameM 7))
  (sSeq (sIf (tBl (eBin (dOrd fun i j => decide (i < j)) (eBin dAdd (eVar 4) (eLit (.int 1))) (eCb gLenA (aCons (eVar 1) aNil)))) (sAs (eBin dAdd (eVar 2) (eTup (aCons (eBin dAdd (eVar 4) (eLit (.int 1))) aNil))) (gNameM 7)) sNil)
  (b_lay_rest r_lay_body)))))
def f_lay_body : Nat → List D → Sto → R D
  | 0 => fun _ _ => .no
  | n + 1 => fnM N_lay_body.length (b_lay_body (f_lay_body n))
def m_lay_body : List D → Sto → R D := f_lay_body 16
abbrev N_laid_out : List Str := ["program", "laid"]
def b_laid_out : SM :=
  (sSeq (sAs eDNewT (gNameM 1))
  (sSeq (sExpr (eCall 4 0 [0, 1, 2, 3] m_lay_body (aCons (eVar 1) (aCons (eVar 0) (aCons (eTup aNil) (aCons (eCall 1 0 [0] m_end_of (aCons (eVar 0) aNil) aNil) aNil)))) aNil))
  (sRet (eVar 1))))
def m_laid_out : List D → Sto → R D := fnM N_laid_out.length b_laid_out
/-- an entry of the program's layout -/
def kvP (e : Ent) : List Key × D := (kk e.1, .tup [e.2.1.d, pD e.2.2])
def Tr.kids (p : Pl) : Tr → List (Tb × Pl)
  | .pl _ => []
  | .lp b => [(b, p)]
  | .ei x y => [(x, p ++ [0]), (y, p ++ [1])]
def Tr.back (p a : Pl) : Tr → Pl
  | .lp _ => p
  | _ => a
theorem lay_kids : ∀ (s : Tr) (p a : Pl), s.lay p a = (p, s, a) :: (Tr.kids p s).flatMap fun q => q.1.lay q.2 (Tr.back p a s) 0
  | .pl d, p, a => rfl
  | .lp b, p, a => by simp [Tr.lay, Tr.kids, Tr.back]
  | .ei x y, p, a => by simp [Tr.lay, Tr.kids, Tr.back]
theorem bods_kids : ∀ (s : Tr) (p : Pl), s.bods (p.map .int) = (Tr.kids p s).map fun q => (.tup q.1.ds, q.2.map .int)
  | .pl d, p => rfl
  | .lp b, p => rfl
  | .ei x y, p => by simp [Tr.bods, Tr.kids]
theorem kids_ok : ∀ {s : Tr} {p : Pl}, s.ok → ∀ q ∈ Tr.kids p s, q.1.ok ∧ q.1.dep < s.dep ∧ q.1.cnt < s.cnt ∧ q.2.length ≤ p.length + 1
  | .pl d, p, _, q, h => by simp [Tr.kids] at h
  | .lp b, p, ho, q, h => by
    simp only [Tr.kids, List.mem_singleton] at h
    subst h
    exact ⟨ho.1, by simp only [Tr.dep]; omega, by simp only [Tr.cnt]; omega, by simp⟩
  | .ei x y, p, ho, q, h => by
    simp only [Tr.kids, List.mem_cons, List.not_mem_nil, or_false] at h
    rcases h with rfl | rfl
    · exact ⟨ho.1, by simp only [Tr.dep]; omega, by simp only [Tr.cnt]; omega, by simp⟩
    · exact ⟨ho.2.1, by simp only [Tr.dep]; omega, by simp only [Tr.cnt]; omega, by simp⟩
theorem kids_len : ∀ (s : Tr) (p : Pl), (Tr.kids p s).length ≤ 2
  | .pl d, p => by simp [Tr.kids]
  | .lp b, p => by simp [Tr.kids]
  | .ei x y, p => by simp [Tr.kids]
theorem word_back {s : Tr} {p a : Pl} (h : s.ok) : Tr.back p a s = if s.word = "loop" then p else a := by
  cases s with
  | pl d =>
    rw [if_neg]
    · rfl
    · intro e
      obtain ⟨b, hb⟩ := (Tr.word_loop h).mp e
      cases hb
  | lp b => rfl
  | ei x y =>
    rw [if_neg]
    · rfl
    · intro e
      obtain ⟨b, hb⟩ := (Tr.word_loop h).mp e
      cases hb
theorem o_eq_word {t : Tr} {z : Str} {neg : Bool} {S : Sto} {P : D → Sto → Prop} {E : Str → D → Sto → Prop} (h : t.ok) (hc : t.cnt ≤ 40) (hz : PyData.strOk z = true) (hd : t.dep ≤ 20) : (dEq neg (.str t.word) (.str z) S).wp P E = P (.bl (if neg then !decide (t.word = z) else decide (t.word = z))) S := by
  obtain ⟨r, hr⟩ := Tr.word_eq h
  have h1 := Tr.nk h hc
  rw [hr, show 5 + 2 * t.dep = 4 + 2 * t.dep + 1 by omega] at h1
  have h2 := (nk_of h1).2 (.str t.word) (by simp)
  rw [o_eq (nk_dk (nk_mono h2 (by omega))) (by simpa [D.dk] using hz), eq_ss]
def LayOk (r : List D → Sto → R D) (g : Nat) : Prop := ∀ (l : Nat) (S : Sto) (t : Tb) (b h : Pl) (old : List (List Key × D)) (P : D → Sto → Prop) (E : Str → D → Sto → Prop), t.ok → t.dep < g → t.cnt ≤ 40 → old.length + t.cnt ≤ 1000 → b.length + 2 * g ≤ 19 → g ≤ 10 →
  S[l]? = some (.dT old) → (∀ e ∈ t.lay b h 0, kk e.1 ∉ old.map (·.1)) → (∀ S', S'[l]? = some (.dT (old ++ (t.lay b h 0).map kvP)) → Pg [l] S S' → P .non S') → (r [.obj l, .tup t.ds, pD b, pD h] S).wp P E
theorem fresh_app {A B : List Ent} (h : ((A ++ B).map (·.1)).Nodup) : ∀ e ∈ B, kk e.1 ∉ (A.map kvP).map (·.1) := by
  intro e he q
  rw [List.map_append, List.nodup_append] at h
  obtain ⟨kv, h1, h2⟩ := List.mem_map.mp q
  obtain ⟨e', h3, rfl⟩ := List.mem_map.mp h1
  exact h.2.2 e'.1 (List.mem_map.mpr ⟨e', h3, rfl⟩) e.1 (List.mem_map.mpr ⟨e, he, rfl⟩) (kk_inj h2)
theorem nodup_left {A B : List Ent} (h : ((A ++ B).map (·.1)).Nodup) : (A.map (·.1)).Nodup := by
  rw [List.map_append, List.nodup_append] at h
  exact h.1
theorem rest_wp {r : List D → Sto → R D} {g l : Nat} {S : Sto} {s : Tr} {p a : Pl} {old : List (List Key × D)} {x1 x2 x3 x4 x8 x9 x10 : Option D} {q : Po} (hr : LayOk r g) (ho : s.ok) (hd : s.dep ≤ g) (hc : s.cnt ≤ 40) (hl : old.length + s.cnt ≤ 1000) (hp : p.length + 2 * g ≤ 18) (hg : g ≤ 10)
    (hS : S[l]? = some (.dT old)) (hf : ∀ e ∈ s.lay p a, kk e.1 ∉ old.map (·.1))
    (k : ∀ S' x8 x9 x10, S'[l]? = some (.dT (old ++ (s.lay p a).map kvP)) → Pg [l] S S' → q.nx [some (.obj l), x1, x2, x3, x4, some s.d, some (pD p), some (pD a), x8, x9, x10] S') :
    (b_lay_rest r [some (.obj l), x1, x2, x3, x4, some s.d, some (pD p), some (pD a), x8, x9, x10] S).wp q := by
  unfold b_lay_rest
  exists 7004
  have hll := (List.getElem?_eq_some_iff.mp hS).1
  have e0 : s.lay p a = (p, s, a) :: (Tr.kids p s).flatMap fun q => q.1.lay q.2 (Tr.back p a s) 0 := lay_kids s p a
  rw [e0] at hf k
  have hk0 : kk p ∉ old.map (·.1) := hf (p, s, a) List.mem_cons_self
  have c0 : 0 < s.cnt := by cases s <;> simp [Tr.cnt]
  refine ⟨_, dSet_T hS (by omega), ?_⟩
  rw [kput_new hk0]
  obtain ⟨rr, hw⟩ := Tr.word_eq ho
  have hS1 : (S.set l (.dT (old ++ [(kk p, D.tup [s.d, pD a])])))[l]? = some (.dT (old ++ [kvP (p, s, a)])) := List.getElem?_set_self hll
  have pg1 : Pg [l] S (S.set l (.dT (old ++ [(kk p, D.tup [s.d, pD a])]))) := Pg.set (by simp)
  generalize S.set l (.dT (old ++ [(kk p, D.tup [s.d, pD a])])) = S1 at hS1 pg1 ⊢
  -- the loop, whatever was asked of the word
  have fin : ∀ x9 x10, ((sFor FU (iSeq (eCall 2 0 [0, 1] Lp.m_bodies_at (aCons (eVar 6) (aCons (eVar 5) aNil)) aNil)) (gTupM 2 (gConsM (gNameM 9) (gConsM (gNameM 10) gNilM))) (sExpr (eCall 4 0 [0, 1, 2, 3] r (aCons (eVar 0) (aCons (eVar 9) (aCons (eVar 10) (aCons (eVar 8) aNil)))) aNil)))
      [some (.obj l), x1, x2, x3, x4, some s.d, some (pD p), some (pD a), some (pD (Tr.back p a s)), x9, x10] S1).wp q := by
    intro x9 x10
    exists 7000
    refine Lp.bodies_at_wp (place := p.map .int) (nk_mono (Tr.nk ho hc) (by omega)) (Tr.form ho) (by simp; omega) ?_
    rw [Tr.bods_eq ho, bods_kids, List.map_map]
    refine ⟨_, rfl, ?_⟩
    have hn := Tr.lay_nodup s p a
    rw [e0] at hn
    refine loop_wp (Tr.kids p s).length (fun i ρ S' => ∃ x9 x10, ρ = [some (.obj l), x1, x2, x3, x4, some s.d, some (pD p), some (pD a), some (pD (Tr.back p a s)), x9, x10] ∧
      S'[l]? = some (.dT (old ++ ((p, s, a) :: ((Tr.kids p s).take i).flatMap fun q => q.1.lay q.2 (Tr.back p a s) 0).map kvP)) ∧ Pg [l] S S') (fun ρ S' hI => ⟨?_, ?_⟩) (fun i ρ S' hi hI => ?_) ?_ (Nat.zero_le _) ?_
    · simp [diL]
    · obtain ⟨x9, x10, rfl, hS', pg'⟩ := hI
      rw [List.take_of_length_le (Nat.le_refl _)] at hS'
      exact k S' _ _ _ hS' pg'
    · obtain ⟨x9, x10, rfl, hS', pg'⟩ := hI
      refine ⟨.tup [.tup (Tr.kids p s)[i].1.ds, pD (Tr.kids p s)[i].2], by simp [diL, hi, pD], ?_⟩
      have hm := List.getElem_mem hi
      obtain ⟨k1, k2, k3, k4⟩ := kids_ok ho _ hm
      exists 7000
      have split1 : (Tr.kids p s).flatMap (fun q => q.1.lay q.2 (Tr.back p a s) 0) = (((Tr.kids p s).take i).flatMap fun q => q.1.lay q.2 (Tr.back p a s) 0) ++ ((Tr.kids p s)[i].1.lay (Tr.kids p s)[i].2 (Tr.back p a s) 0 ++ ((Tr.kids p s).drop (i + 1)).flatMap fun q => q.1.lay q.2 (Tr.back p a s) 0) := by
        conv => lhs; rw [← List.take_append_drop i (Tr.kids p s), List.flatMap_append, List.drop_eq_getElem_cons hi, List.flatMap_cons]
      rw [split1] at hf hn
      generalize hA : (((Tr.kids p s).take i).flatMap fun q => q.1.lay q.2 (Tr.back p a s) 0) = A at hf hn hS'
      have hAl : A.length ≤ s.cnt := by
        have := congrArg List.length e0
        rw [Tr.lay_len, split1, hA] at this
        simp only [List.length_cons, List.length_append] at this
        omega
      have hKl : A.length + (Tr.kids p s)[i].1.cnt + 1 ≤ s.cnt := by
        have := congrArg List.length e0
        rw [Tr.lay_len, split1, hA] at this
        simp only [List.length_cons, List.length_append, Tb.lay_len] at this
        omega
      refine hr l S' (Tr.kids p s)[i].1 (Tr.kids p s)[i].2 (Tr.back p a s) (old ++ ((p, s, a) :: A).map kvP) _ _ k1 (by omega) (by omega) (by simp; omega) (by omega) hg hS' ?_ ?_
      · intro e he
        simp only [List.map_append, List.mem_append, not_or]
        refine ⟨hf e (by simp [he]), ?_⟩
        have h1 : ((((p, s, a) :: A) ++ (Tr.kids p s)[i].1.lay (Tr.kids p s)[i].2 (Tr.back p a s) 0).map (·.1)).Nodup := by
          refine nodup_left (B := ((Tr.kids p s).drop (i + 1)).flatMap fun q => q.1.lay q.2 (Tr.back p a s) 0) ?_
          simpa using hn
        exact fresh_app h1 e he
      · intro S2 hS2 pg2
        refine ⟨_, _, rfl, ?_, pg'.trans pg2⟩
        rw [hS2, List.take_add_one, List.getElem?_eq_getElem hi, List.flatMap_append, hA]
        simp
    · exact ⟨x9, x10, rfl, by simpa using hS1, pg1⟩
    · have := kids_len s p
      unfold FU; omega
  rw [hw]
  exists 7004
  rw [o_eq_word ho hc (by decide +kernel) (by omega)]
  exists 7004
  rw [← hw]
  split
  · rename_i hl
    have := fin x9 x10
    rw [word_back ho, if_pos hl] at this
    exact this
  · rename_i hl
    have := fin x9 x10
    rw [word_back ho, if_neg hl] at this
    exact this
theorem lay_body_wp {r : List D → Sto → R D} {g : Nat} (hr : LayOk r g) : LayOk (fnM N_lay_body.length (b_lay_body r)) (g + 1) := by
  intro l S t b h old P E ho hd hc hl hb hg hS hf k
  have htl := t.len_le
  unfold b_lay_body
  exists 7000
  refine ⟨_, _, rfl, rfl, ?_⟩
  have hn := Tb.lay_nodup t b h 0
  refine loop_wp t.ds.length (fun i ρ S' => ∃ (u : Tb) (A : List Ent) (x4 x5 x6 x7 x8 x9 x10 : Option D), ρ = [some (.obj l), some (.tup t.ds), some (pD b), some (pD h), x4, x5, x6, x7, x8, x9, x10] ∧ u.ok ∧ u.dep ≤ t.dep ∧ u.ds = t.ds.drop i ∧ A ++ u.lay b h i = t.lay b h 0 ∧
    S'[l]? = some (.dT (old ++ A.map kvP)) ∧ Pg [l] S S') (fun ρ S' hI => ⟨?_, ?_⟩) (fun i ρ S' hi hI => ?_) ?_ (Nat.zero_le _) ?_
  · simp [diE, diL]
  · obtain ⟨u, A, x4, x5, x6, x7, x8, x9, x10, rfl, u1, u2, u3, u4, hS', pg'⟩ := hI
    rw [List.drop_length] at u3
    cases u with
    | nil =>
      simp only [Tb.lay, List.append_nil] at u4
      rw [u4] at hS'
      exact k S' hS' pg'
    | cons s v => simp [Tb.ds] at u3
  · obtain ⟨u, A, x4, x5, x6, x7, x8, x9, x10, rfl, u1, u2, u3, u4, hS', pg'⟩ := hI
    rw [List.drop_eq_getElem_cons hi] at u3
    cases u with
    | nil => cases (show ([] : List D) = _ :: _ from u3)
    | cons s v =>
      simp only [Tb.ds, List.cons.injEq] at u3
      simp only [Tb.dep] at u2
      refine ⟨.tup [.int i, s.d], by simp [diE, diL, hi, u3.1], ?_⟩
      exists 7000
      rw [o_add_p (by omega)]
      exists 7000
      have cl := congrArg List.length u4
      rw [List.length_append, Tb.lay_len, Tb.lay_len] at cl
      simp only [Tb.cnt] at cl
      simp only [Tb.lay] at u4
      have fin : ∀ x7, x7 = pD (v.aft b h (i + 1)) → (b_lay_rest r [some (.obj l), some (.tup t.ds), some (pD b), some (pD h), some (.int i), some s.d, some (pD (b ++ [(i : Int)])), some x7, x8, x9, x10] S').wp ⟨fun ρ S' => ∃ (u : Tb) (A : List Ent) (x4 x5 x6 x7 x8 x9 x10 : Option D), ρ = [some (.obj l), some (.tup t.ds), some (pD b), some (pD h), x4, x5, x6, x7, x8, x9, x10] ∧ u.ok ∧ u.dep ≤ t.dep ∧ u.ds = t.ds.drop (i + 1) ∧ A ++ u.lay b h (i + 1) = t.lay b h 0 ∧
    S'[l]? = some (.dT (old ++ A.map kvP)) ∧ Pg [l] S S', P, fun ρ S' => P .non S', fun ρ S' => ∃ (u : Tb) (A : List Ent) (x4 x5 x6 x7 x8 x9 x10 : Option D), ρ = [some (.obj l), some (.tup t.ds), some (pD b), some (pD h), x4, x5, x6, x7, x8, x9, x10] ∧ u.ok ∧ u.dep ≤ t.dep ∧ u.ds = t.ds.drop (i + 1) ∧ A ++ u.lay b h (i + 1) = t.lay b h 0 ∧
    S'[l]? = some (.dT (old ++ A.map kvP)) ∧ Pg [l] S S', fun c w _ S' => E c w S'⟩ := by
        rintro _ rfl
        refine rest_wp hr u1.1 (by omega) (by omega) (by simp; omega) (by simp; omega) (by omega) hS' ?_ ?_
        · intro e he
          simp only [List.map_append, List.mem_append, not_or]
          refine ⟨hf e (by rw [← u4]; simp [he]), ?_⟩
          rw [← u4, ← List.append_assoc] at hn
          exact fresh_app (nodup_left hn) e he
        · intro S2 y8 y9 y10 hS2 pg2
          refine ⟨v, A ++ s.lay (b ++ [(i : Int)]) (v.aft b h (i + 1)), _, _, _, _, _, _, _, rfl, u1.2, by omega, u3.2, by rw [List.append_assoc]; exact u4, ?_, pg'.trans pg2⟩
          rw [hS2]
          simp
      have hvl : v.ds.length = t.ds.length - (i + 1) := by rw [u3.2, List.length_drop]
      split
      · rename_i hlt
        rw [o_add_p (by omega)]
        exists 7000
        refine fin _ ?_
        cases v with
        | nil => simp [Tb.ds] at hvl; omega
        | cons s' v' => simp [Tb.aft]
      · rename_i hlt
        refine fin _ ?_
        cases v with
        | nil => rfl
        | cons s' v' => simp [Tb.ds] at hvl; omega
  · exact ⟨t, [], none, none, none, none, none, none, none, rfl, ho, Nat.le_refl _, rfl, rfl, by simpa using hS, Pg.refl⟩
  · unfold FU; omega
theorem lay_ok : ∀ {g n : Nat}, g ≤ n → LayOk (f_lay_body n) g
  | 0, n, _ => fun _ _ _ _ _ _ _ _ _ h => absurd h (Nat.not_lt_zero _)
  | g + 1, 0, h => absurd h (by omega)
  | g + 1, n + 1, h => lay_body_wp (lay_ok (by omega))
theorem end_of_wp {S : Sto} {xs : List D} {P : D → Sto → Prop} {E : Str → D → Sto → Prop} (k : P (pD [(xs.length : Int)]) S) : (m_end_of [.tup xs] S).wp P E := by
  unfold m_end_of b_end_of
  exists 7000
  exact k
theorem pg_last {S S' : Sto} (h : Pg [S.length] S S') : Pg [] S S' := ⟨h.len, fun j hj _ => h.at_ j hj (by simp; omega)⟩
/-- all entries of a program -/
def laid (t : Tb) : List Ent := t.lay [] [(t.ds.length : Int)] 0
theorem laid_out_wp {S : Sto} {t : Tb} {P : D → Sto → Prop} {E : Str → D → Sto → Prop} (ho : t.ok) (hd : t.dep ≤ 8) (hc : t.cnt ≤ 40) (k : ∀ S', S'[S.length]? = some (.dT ((laid t).map kvP)) → Pg [] S S' → P (.obj S.length) S') : (m_laid_out [.tup t.ds] S).wp P E := by
  unfold m_laid_out b_laid_out
  exists 7000, w_dnewT
  refine end_of_wp ?_
  exists 7000
  refine lay_ok (g := 9) (n := 16) (by decide) S.length _ t [] [(t.ds.length : Int)] [] _ _ ho (by omega) hc (by simp; omega) (by simp) (by decide) last_get (by simp) fun S1 hS1 pg1 => ?_
  exists 7000
  exact k S1 (by simpa [laid] using hS1) (pg_last ((Pg.push (is := [S.length])).trans pg1))
end Ly

set_option Elab.async false
set_option linter.all false
set_option maxRecDepth 100000
set_option autoImplicit false
namespace Ly
open PySem PySem.Spec PyProof.Rows L2 Sh
open Lw (Src len_of)
open Lt
/-! ### rows of numbers -/
def isN : D → Bool
  | .int _ => true
  | _ => false
def rowN : D → Bool
  | .tup xs => xs.all isN
  | _ => false
def D.isI : D → Bool
  | .int _ => true
  | .bl _ => true
  | _ => false
def D.isB : D → Bool
  | .bl _ => true
  | _ => false
section
variable {E : Str → D → Sto → Prop} {P : D → Sto → Prop} {S : Sto} {ρ : Sh.Env} {p : Po}
theorem o_isiI {n : Nat} {d : D} (h : d.dk n = true) : (gIsi [d, .ty "int"] S).wp P E = P (.bl (D.isI d)) S := by
  cases n with
  | zero => simp [D.dk] at h
  | succ n =>
  cases d with
  | obj i => simp [D.dk] at h
  | wl i => simp [D.dk] at h
  | ty i => simp [D.dk] at h
  | fn i => simp [D.dk] at h
  | _ => exact wp_ok
theorem o_isiB {n : Nat} {d : D} (h : d.dk n = true) : (gIsi [d, .ty "bool"] S).wp P E = P (.bl (D.isB d)) S := by
  cases n with
  | zero => simp [D.dk] at h
  | succ n =>
  cases d with
  | obj i => simp [D.dk] at h
  | wl i => simp [D.dk] at h
  | ty i => simp [D.dk] at h
  | fn i => simp [D.dk] at h
  | _ => exact wp_ok
end
abbrev N_is_number : List Str := ["thing"]
def b_is_number : SM :=
  (sRet (eAnd (eCb gIsi (aCons (eVar 0) (aCons (eLit (.ty "int")) aNil))) (eNot (eCb gIsi (aCons (eVar 0) (aCons (eLit (.ty "bool")) aNil))))))
def m_is_number : List D → Sto → R D := fnM N_is_number.length b_is_number
abbrev N_is_row_of_numbers : List Str := ["thing", "part"]
def b_is_row_of_numbers : SM :=
  (sRet (eAnd (eCb gIsi (aCons (eVar 0) (aCons (eLit (.ty "tuple")) aNil))) (eCb (gAll true) (aCons (eComp FU [1] (iSeq (eVar 0)) (gNameM 1) tYesM (eCall 1 0 [0] m_is_number (aCons (eVar 1) aNil) aNil)) aNil))))
def m_is_row_of_numbers : List D → Sto → R D := fnM N_is_row_of_numbers.length b_is_row_of_numbers
theorem is_number_wp {n : Nat} {S : Sto} {d : D} {P : D → Sto → Prop} {E : Str → D → Sto → Prop} (h : d.dk n = true) (k : P (.bl (isN d)) S) : (m_is_number [d] S).wp P E := by
  unfold m_is_number b_is_number
  exists 7000, o_isiI h, o_isiB h
  cases d <;> exact k
theorem is_row_wp {n : Nat} {S : Sto} {d : D} {P : D → Sto → Prop} {E : Str → D → Sto → Prop} (h : d.nk n = true) (k : ∀ S', Pg [] S S' → P (.bl (rowN d)) S') : (m_is_row_of_numbers [d] S).wp P E := by
  unfold m_is_row_of_numbers b_is_row_of_numbers
  exists 7000, o_isiT (nk_dk h)
  cases n with
  | zero => simp [D.nk] at h
  | succ n =>
  cases d with
  | tup xs =>
    obtain ⟨hl, hx⟩ := nk_of h
    exists 7000, D.isTup
    refine ⟨_, rfl, ?_⟩
    refine cloop_wp xs.length (fun i S' => Pg [] S S' ∧ S'[S.length]? = some (.lst ((xs.take i).map fun x => .bl (isN x)))) (fun S' hI => ⟨?_, ?_⟩) (fun i S' hi hI => ?_) ⟨Pg.push, last_get⟩ (Nat.zero_le _) (by unfold FU; omega)
    · simp [diL]
    · exists 7000
      have e := hI.2
      rw [List.take_length] at e
      have e2 : xs.map (fun x => D.bl (isN x)) = (xs.map isN).map D.bl := by simp
      rw [e2] at e
      rw [o_all e]
      have e3 : rowN (.tup xs) = (xs.map isN).all id := by simp [rowN, Function.comp_def]
      rw [if_pos rfl, ← e3]
      exact k S' hI.1
    · refine ⟨xs[i], by simp [diL, hi], ?_⟩
      exists 7000, tYesM
      refine is_number_wp (nk_dk (hx _ (List.getElem_mem hi))) ⟨_, hI.2, by simp; omega, hI.1.setN (Nat.le_refl _), ?_⟩
      rw [List.getElem?_set_self (List.getElem?_eq_some_iff.mp hI.2).1, List.take_add_one, List.getElem?_eq_getElem hi, List.map_append]
      simp
  | kt xs => simp [D.nk] at h
  | _ => exists 7000, D.isTup; exact k S Pg.refl
theorem rowN_pD : ∀ {d : D}, rowN d = true → ∃ q : Pl, d = pD q
  | .tup xs, h => by
    simp only [rowN] at h
    have : ∀ ys : List D, ys.all isN = true → ∃ q : Pl, ys = q.map .int := by
      intro ys
      induction ys with
      | nil => intro _; exact ⟨[], rfl⟩
      | cons y ys ih =>
        intro h
        rw [List.all_cons, Bool.and_eq_true] at h
        obtain ⟨q, rfl⟩ := ih h.2
        cases y with
        | int i => exact ⟨i :: q, rfl⟩
        | _ => simp [isN] at h
    obtain ⟨q, rfl⟩ := this xs h
    exact ⟨q, rfl⟩
theorem rowN_of (q : Pl) : rowN (pD q) = true := by
  simp only [rowN, pD, List.all_map, List.all_eq_true]
  intro x _
  rfl
theorem nk_pD {q : Pl} {n : Nat} (h : q.length ≤ 1000) : (pD q).nk (n + 2) = true := nk_tup (by simp; omega) fun x hx => by
  obtain ⟨i, _, rfl⟩ := List.mem_map.mp hx
  rfl
/-! ### what lies in a layout -/
theorem kget_map {α : Type} {f : Ent → α} : ∀ {W : List Ent} {e : Ent} {F : Ent → List Key × D}, (∀ e, (F e).1 = kk e.1) → (W.map (·.1)).Nodup → e ∈ W → kget (W.map F) (kk e.1) = some (F e).2
  | x :: W, e, F, hF, hn, he => by
    rw [List.map_cons, List.nodup_cons] at hn
    rcases List.mem_cons.mp he with rfl | he
    · simp [kget, hF]
    · have ne : ¬ (F x).1 = kk e.1 := by
        rw [hF]
        intro q
        exact hn.1 (kk_inj q ▸ List.mem_map.mpr ⟨e, he, rfl⟩)
      have := kget_map (f := f) hF hn.2 he
      simpa [kget, ne] using this
theorem kget_no {W : List Ent} {q : Pl} {F : Ent → List Key × D} (hF : ∀ e, (F e).1 = kk e.1) (h : ∀ e ∈ W, e.1 ≠ q) : kget (W.map F) (kk q) = none := by
  induction W with
  | nil => rfl
  | cons x W ih =>
    have ne : ¬ (F x).1 = kk q := by
      rw [hF]
      intro e
      exact h x List.mem_cons_self (kk_inj e)
    have := ih fun e he => h e (List.mem_cons_of_mem _ he)
    simpa [kget, ne] using this
theorem keyT_map {W : List Ent} : keyT (W.map kvP) = W.map fun e => pD e.1 := by
  simp only [keyT, List.map_map]
  refine List.map_congr_left fun e _ => ?_
  have : ∀ q : Pl, (q.map Sum.inl : List Key).map dKd = q.map D.int := fun q => by
    rw [List.map_map]; rfl
  simp only [Function.comp, kvP, kk, this, pD]
end Ly

local macro_rules | `(tactic| exists 7003) => `(tactic| try simp only [wp_ok, wp_bind, ws_nx, ws_rt, ws_bk, ws_ct, ws_ex, ws_to, ws_seq, ws_gx, wp_fnM, w_lit, w_anil, w_acons, w_bin, w_cb, w_tup, w_lst, w_tbl, w_tru, w_and, w_or, w_not, w_eand, w_eor, w_enot, w_neg, w_call, s_nil, s_ret, s_retN, s_expr, s_if, s_raise, s_as, g_name, s_par, g_sub, o_add_i, o_sub, o_mul, o_div, o_mod, o_ord, o_iadd, o_min, o_max, o_int, o_intb, eVar, env0, List.getElem?_cons_succ, List.getElem?_cons_zero, List.set_cons_succ, List.set_cons_zero, List.map_cons, List.map_nil, List.length_cons, List.length_nil, List.replicate_succ, List.replicate_zero, List.cons_append, List.nil_append, List.append_nil, Nat.reduceAdd, Nat.reduceSub, List.zip_cons_cons, List.zip_nil_right, List.foldl_cons, List.foldl_nil, pick, List.filterMap_cons, List.filterMap_nil, Nat.zero_add, D.int.injEq, D.bl.injEq, exists_eq_left', decide_eq_true_eq, true_and, and_self, Option.some.injEq, o_eq_ii, o_ne_ii, Nat.reduceLeDiff, s_for, w_iseq, w_ir1, w_ir2, ir2P_ii, w_ien, w_izp, izP_two, o_pow, g_tup, g_nil, g_cons, w_app, w_cut, w_onone, w_osome, o_cut_t, w_comp, s_try, w_disp, w_pnil, w_pcons, o_inK, truD_bl, eq_ss, wipeE, eq_self, o_ix0, o_ix1, o_ix2, o_lenT, if_true, if_false, Bool.not_true, Bool.not_false, Bool.false_eq_true])
local macro_rules | `(tactic| exists 7003, $xs,*) => `(tactic| try simp only [wp_ok, wp_bind, ws_nx, ws_rt, ws_bk, ws_ct, ws_ex, ws_to, ws_seq, ws_gx, wp_fnM, w_lit, w_anil, w_acons, w_bin, w_cb, w_tup, w_lst, w_tbl, w_tru, w_and, w_or, w_not, w_eand, w_eor, w_enot, w_neg, w_call, s_nil, s_ret, s_retN, s_expr, s_if, s_raise, s_as, g_name, s_par, g_sub, o_add_i, o_sub, o_mul, o_div, o_mod, o_ord, o_iadd, o_min, o_max, o_int, o_intb, eVar, env0, List.getElem?_cons_succ, List.getElem?_cons_zero, List.set_cons_succ, List.set_cons_zero, List.map_cons, List.map_nil, List.length_cons, List.length_nil, List.replicate_succ, List.replicate_zero, List.cons_append, List.nil_append, List.append_nil, Nat.reduceAdd, Nat.reduceSub, List.zip_cons_cons, List.zip_nil_right, List.foldl_cons, List.foldl_nil, pick, List.filterMap_cons, List.filterMap_nil, Nat.zero_add, D.int.injEq, D.bl.injEq, exists_eq_left', decide_eq_true_eq, true_and, and_self, Option.some.injEq, o_eq_ii, o_ne_ii, Nat.reduceLeDiff, s_for, w_iseq, w_ir1, w_ir2, ir2P_ii, w_ien, w_izp, izP_two, o_pow, g_tup, g_nil, g_cons, w_app, w_cut, w_onone, w_osome, o_cut_t, w_comp, s_try, w_disp, w_pnil, w_pcons, o_inK, truD_bl, eq_ss, wipeE, eq_self, o_ix0, o_ix1, o_ix2, o_lenT, if_true, if_false, Bool.not_true, Bool.not_false, Bool.false_eq_true, $[$xs:term],*])
set_option Elab.async false
set_option linter.all false
set_option maxRecDepth 100000
set_option autoImplicit false
namespace Lg
open PySem PySem.Spec PyProof.Rows L2 Sh
open Lw (Src len_of seqD_obj)
open Lt Ly
abbrev N__law_leads : List Str := ["body", "ahead", "after", "found", "at", "place", "statement", "behind"]
def b__law_leads (r__law_leads : List D → Sto → R D) : SM :=
  (sSeq (sAs eDNewT (gNameM 3))
  (sSeq (sFor FU (iR1 (aCons (eCb gLenA (aCons (eVar 0) aNil)) aNil)) (gNameM 4) (sSeq (sPar [5, 6] (aCons (eBin dAdd (eVar 1) (eTup (aCons (eVar 4) aNil))) (aCons (eBin dIx (eVar 0) (eVar 4)) aNil)))
  (sSeq (sAs (eIf (tBl (eBin (dOrd fun i j => decide (i < j)) (eBin dAdd (eVar 4) (eLit (.int 1))) (eCb gLenA (aCons (eVar 0) aNil)))) (eBin dAdd (eVar 1) (eTup (aCons (eBin dAdd (eVar 4) (eLit (.int 1))) aNil))) (eVar 2)) (gNameM 7))
  (sIf (tBl (eBin (dEq false) (eBin dIx (eVar 6) (eLit (.int 0))) (eLit (.str "loop")))) (sSeq (sAs (eTup (aCons (eVar 6) (aCons (eVar 7) (aCons (eIf (tBl (eBin (dEq true) (eBin dIx (eVar 6) (eLit (.int 1))) (eTup aNil))) (eBin dAdd (eVar 5) (eTup (aCons (eLit (.int 0)) aNil))) (eVar 5)) aNil)))) (gSubM (eVar 3) (eVar 5)))
  (sExpr (eUpd (eVar 3) (eCall 3 0 [0, 1, 2] r__law_leads (aCons (eBin dIx (eVar 6) (eLit (.int 1))) (aCons (eVar 5) (aCons (eVar 5) aNil))) aNil)))) (sIf (tBl (eBin (dEq false) (eBin dIx (eVar 6) (eLit (.int 0))) (eLit (.str "either")))) (sSeq (sAs (eTup (aCons (eVar 6) (aCons (eIf (tBl (eBin (dEq true) (eBin dIx (eVar 6) (eLit (.int 1))) (eTup aNil))) (eBin dAdd (eVar 5) (eTup (aCons (eLit (.int 0)) (aCons (eLit (.int 0)) aNil)))) (eVar 7)) (aCons (eIf (tBl (eBin (dEq true) (eBin dIx (eVar 6) (eLit (.int 2))) (eTup aNil))) (eBin dAdd (eVar 5) (eTup (aCons (eLit (.int 1)) (aCons (eLit (.int 0)) aNil)))) (eVar 7)) aNil)))) (gSubM (eVar 3) (eVar 5)))
  (sSeq (sExpr (eUpd (eVar 3) (eCall 3 0 [0, 1, 2] r__law_leads (aCons (eBin dIx (eVar 6) (eLit (.int 1))) (aCons (eBin dAdd (eVar 5) (eTup (aCons (eLit (.int 0)) aNil))) (aCons (eVar 7) aNil))) aNil)))
  (sExpr (eUpd (eVar 3) (eCall 3 0 [0, 1, 2] r__law_leads (aCons (eBin dIx (eVar 6) (eLit (.int 2))) (aCons (eBin dAdd (eVar 5) (eTup (aCons (eLit (.int 1)) aNil))) (aCons (eVar 7) aNil))) aNil))))) (sAs (eTup (aCons (eVar 6) (aCons (eVar 7) (aCons (eVar 7) aNil)))) (gSubM (eVar 3) (eVar 5))))))))
  (sRet (eVar 3))))
def f__law_leads : Nat → List D → Sto → R D
  | 0 => fun _ _ => .no
  | n + 1 => fnM N__law_leads.length (b__law_leads (f__law_leads n))
def m__law_leads : List D → Sto → R D := f__law_leads 16
/-- where 0 leads, where 1 leads -/
def w0 (p a : Pl) : Tr → Pl
  | .ei x _ => if x.ds = [] then a else p ++ [0, 0]
  | _ => a
def w1 (p a : Pl) : Tr → Pl
  | .lp b => if b.ds = [] then p else p ++ [0]
  | .ei _ y => if y.ds = [] then a else p ++ [1, 0]
  | .pl _ => a
def kvL (e : Ent) : List Key × D := (kk e.1, .tup [e.2.1.d, pD (w0 e.1 e.2.2 e.2.1), pD (w1 e.1 e.2.2 e.2.1)])
theorem freshL {A B : List Ent} {F : Ent → List Key × D} (hF : ∀ e, (F e).1 = kk e.1) (h : ((A ++ B).map (·.1)).Nodup) : ∀ e ∈ B, kk e.1 ∉ (A.map F).map (·.1) := by
  intro e he q
  rw [List.map_append, List.nodup_append] at h
  obtain ⟨kv, h1, h2⟩ := List.mem_map.mp q
  obtain ⟨e', h3, rfl⟩ := List.mem_map.mp h1
  rw [hF] at h2
  exact h.2.2 e'.1 (List.mem_map.mpr ⟨e', h3, rfl⟩) e.1 (List.mem_map.mpr ⟨e, he, rfl⟩) (kk_inj h2)
theorem nodupL {A : List Ent} {F : Ent → List Key × D} (hF : ∀ e, (F e).1 = kk e.1) (h : (A.map (·.1)).Nodup) : ((A.map F).map (·.1)).Nodup := by
  rw [List.map_map]
  have e : (fun x => x.1) ∘ F = kk ∘ (fun e : Ent => e.1) := funext hF
  rw [e, ← List.map_map]
  have : ∀ l : List Pl, l.Nodup → (l.map kk).Nodup := by
    intro l
    induction l with
    | nil => intro _; simp
    | cons x l ih =>
      intro h
      rw [List.nodup_cons] at h
      rw [List.map_cons, List.nodup_cons]
      refine ⟨fun q => ?_, ih h.2⟩
      obtain ⟨y, hy, hq⟩ := List.mem_map.mp q
      exact h.1 (kk_inj hq ▸ hy)
  exact this _ h
theorem eq_emp {xs : List D} {S : Sto} {neg : Bool} {P : D → Sto → Prop} {E : Str → D → Sto → Prop} (h : (D.tup xs).dk 200 = true) : (dEq neg (.tup xs) (.tup []) S).wp P E = P (.bl (if neg then !decide (xs = []) else decide (xs = []))) S := by
  rw [o_eq h (by decide +kernel), eq_tt]
  cases xs with
  | nil => rfl
  | cons x xs =>
    have e : PyData.eqvAll (pys (x :: xs)) (pys []) = false := by simp [pys, PyData.eqvAll]
    rw [e]
    simp
theorem o_add_p2 {q : Pl} {i j : Int} {S : Sto} {P : D → Sto → Prop} {E : Str → D → Sto → Prop} (h : q.length ≤ 1000) : (dAdd (pD q) (.tup [.int i, .int j]) S).wp P E = P (pD (q ++ [i, j])) S := by
  have e : pD (q ++ [i, j]) = .tup (q.map .int ++ [.int i, .int j]) := by simp [pD]
  rw [e]
  exact o_add_t (by simp; omega)
def LeadOk (r : List D → Sto → R D) (g : Nat) : Prop := ∀ (S : Sto) (t : Tb) (b h : Pl) (P : D → Sto → Prop) (E : Str → D → Sto → Prop), t.ok → t.dep < g → t.cnt ≤ 40 → b.length + 2 * g ≤ 19 → g ≤ 10 →
  (∀ S', S'[S.length]? = some (.dT ((t.lay b h 0).map kvL)) → Pg [] S S' → P (.obj S.length) S') → (r [.tup t.ds, pD b, pD h] S).wp P E
theorem tb_dk {t : Tb} (ho : t.ok) (hd : t.dep ≤ 10) (hc : t.cnt ≤ 40) : (D.tup t.ds).dk 200 = true := by
  have := t.len_le
  exact dk_tup (n := 199) (by omega) fun x hx => dk_mono (nk_dk (Tb.nk ho hc x hx)) (by omega)
theorem leads_wp {r : List D → Sto → R D} {g : Nat} (hr : LeadOk r g) : LeadOk (fnM N__law_leads.length (b__law_leads r)) (g + 1) := by
  intro S t b h P E ho hd hc hb hg k
  have htl := t.len_le
  unfold b__law_leads
  exists 7000, w_dnewT
  refine ⟨_, rfl, by omega, ?_⟩
  have hn := Tb.lay_nodup t b h 0
  have hF : ∀ e, (kvL e).1 = kk e.1 := fun _ => rfl
  refine loop_wp t.ds.length (fun i ρ S' => ∃ (u : Tb) (A : List Ent) (x4 x5 x6 x7 : Option D), ρ = [some (.tup t.ds), some (pD b), some (pD h), some (.obj S.length), x4, x5, x6, x7] ∧ u.ok ∧ u.dep ≤ t.dep ∧ u.ds = t.ds.drop i ∧ A ++ u.lay b h i = t.lay b h 0 ∧
    S'[S.length]? = some (.dT (A.map kvL)) ∧ Pg [] S S') (fun ρ S' hI => ⟨?_, ?_⟩) (fun i ρ S' hi hI => ?_) ?_ (Nat.zero_le _) ?_
  · simp [diR]
  · obtain ⟨u, A, x4, x5, x6, x7, rfl, u1, u2, u3, u4, hS', pg'⟩ := hI
    rw [List.drop_length] at u3
    cases u with
    | nil =>
      simp only [Tb.lay, List.append_nil] at u4
      rw [u4] at hS'
      exists 7000
      exact k S' hS' pg'
    | cons s v => simp [Tb.ds] at u3
  · obtain ⟨u, A, x4, x5, x6, x7, rfl, u1, u2, u3, u4, hS', pg'⟩ := hI
    rw [List.drop_eq_getElem_cons hi] at u3
    cases u with
    | nil => cases (show ([] : List D) = _ :: _ from u3)
    | cons s v =>
      simp only [Tb.ds, List.cons.injEq] at u3
      simp only [Tb.dep] at u2
      have cl := congrArg List.length u4
      rw [List.length_append, Tb.lay_len, Tb.lay_len] at cl
      simp only [Tb.cnt] at cl
      have hl0 := (List.getElem?_eq_some_iff.mp hS').1
      refine ⟨.int i, by simp [diR, hi], ?_⟩
      exists 7002
      rw [o_add_p (by omega)]
      exists 7002
      rw [o_ixT hi, ← u3.1]
      exists 7002
      have hvl : v.ds.length = t.ds.length - (i + 1) := by rw [u3.2, List.length_drop]
      have beh : ∀ {P : D → Sto → Prop} {E : Str → D → Sto → Prop}, P (pD (v.aft b h (i + 1))) S' → ((eIf (tBl (eBin (dOrd fun i j => decide (i < j)) (eBin dAdd (eVar 4) (eLit (.int 1))) (eCb gLenA (aCons (eVar 0) aNil)))) (eBin dAdd (eVar 1) (eTup (aCons (eBin dAdd (eVar 4) (eLit (.int 1))) aNil))) (eVar 2))
          [some (.tup t.ds), some (pD b), some (pD h), some (.obj S.length), some (.int i), some (pD (b ++ [(i : Int)])), some s.d, x7] S').wp P E := by
        intro P E hP
        exists 7000
        split
        · rename_i hlt
          rw [o_add_p (by omega)]
          cases v with
          | nil => simp [Tb.ds] at hvl; omega
          | cons s' v' => simpa [Tb.aft] using hP
        · rename_i hlt
          cases v with
          | nil => exact hP
          | cons s' v' => simp [Tb.ds] at hvl; omega
      refine beh ?_
      exists 7000
      generalize ha : v.aft b h (i + 1) = a at u4
      have u4' : A ++ (s.lay (b ++ [(i : Int)]) a ++ v.lay b h (i + 1)) = t.lay b h 0 := by rw [← u4, Tb.lay, ha]
      generalize hp : b ++ [(i : Int)] = p at u4'
      have hpl : p.length = b.length + 1 := by rw [← hp]; simp
      have hn2 : ((A ++ s.lay p a).map (·.1)).Nodup := by
        rw [← u4', ← List.append_assoc] at hn
        exact nodup_left hn
      -- what stands behind the statement
      have fin : ∀ (S2 : Sto) (L : List Ent), L = A ++ s.lay p a → S2[S.length]? = some (.dT (L.map kvL)) → Pg [] S S2 → ∃ (u : Tb) (A : List Ent) (y4 y5 y6 y7 : Option D), [some (.tup t.ds), some (pD b), some (pD h), some (.obj S.length), some (.int i), some (pD p), some s.d, some (pD a)] = [some (.tup t.ds), some (pD b), some (pD h), some (.obj S.length), y4, y5, y6, y7] ∧ u.ok ∧ u.dep ≤ t.dep ∧ u.ds = t.ds.drop (i + 1) ∧ A ++ u.lay b h (i + 1) = t.lay b h 0 ∧
          S2[S.length]? = some (.dT (A.map kvL)) ∧ Pg [] S S2 := fun S2 L hL hS2 pg2 => ⟨v, L, _, _, _, _, rfl, u1.2, by omega, u3.2, by rw [hL, List.append_assoc]; exact u4', hS2, pg2⟩
      have hAl : A.length + s.cnt ≤ 40 := by omega
      cases s with
      | pl d =>
        obtain ⟨w, rr, rfl, hw⟩ := plain_word u1.1
        have c1 : ¬ w = "loop" := fun e => not_loop (e ▸ hw)
        have c2 : ¬ w = "either" := fun e => not_either (e ▸ hw)
        have hwd : (D.str w).dk 200 = true := dk_mono (nk_dk ((nk_of (n := 4) (plain_nk u1.1)).2 (.str w) (by simp))) (by decide)
        exists 7000, Tr.d
        rw [o_eq hwd (by decide +kernel)]
        exists 7000, c1
        rw [o_eq hwd (by decide +kernel)]
        exists 7000, c2
        have hk0 : kk p ∉ (A.map kvL).map (·.1) := freshL hF hn2 ((p, Tr.pl (.tup (.str w :: rr)), a) : Ent) (by simp [Tr.lay])
        refine ⟨_, dSet_T hS' (by simp; omega), ?_⟩
        rw [kput_new hk0]
        refine fin _ _ rfl ?_ (pg'.setN (Nat.le_refl _))
        rw [List.getElem?_set_self hl0]
        simp [Tr.lay, kvL, w0, w1, Tr.d]
      | lp c =>
        simp only [Tr.dep] at u2
        simp only [Tr.cnt] at hAl
        have cdk := tb_dk (t := c) u1.1.1 (by omega) (by omega)
        have way1 : ∀ {P : D → Sto → Prop} {E : Str → D → Sto → Prop}, P (pD (w1 p a (.lp c))) S' → ((eIf (tBl (eBin (dEq true) (eBin dIx (eVar 6) (eLit (.int 1))) (eTup aNil))) (eBin dAdd (eVar 5) (eTup (aCons (eLit (.int 0)) aNil))) (eVar 5))
            [some (.tup t.ds), some (pD b), some (pD h), some (.obj S.length), some (.int i), some (pD p), some (.tup [.str "loop", .tup c.ds]), some (pD a)] S').wp P E := by
          intro P E hP
          exists 7000
          rw [eq_emp cdk]
          exists 7000
          by_cases hc0 : c.ds = []
          · exists 7000, hc0, decide_true
            simpa [w1, hc0] using hP
          · exists 7000, hc0, decide_false
            rw [o_add_p (by omega)]
            simpa [w1, hc0] using hP
        exists 7002, Tr.d
        rw [o_eq (by decide +kernel) (by decide +kernel)]
        exists 7002
        refine way1 ?_
        exists 7002
        have hk0 : kk p ∉ (A.map kvL).map (·.1) := freshL hF hn2 ((p, Tr.lp c, a) : Ent) (by simp [Tr.lay])
        refine ⟨_, dSet_T hS' (by simp; omega), ?_⟩
        rw [kput_new hk0]
        have hS3 : (S'.set S.length (.dT (A.map kvL ++ [(kk p, D.tup [D.tup [D.str "loop", D.tup c.ds], pD a, pD (w1 p a (.lp c))])])))[S.length]? = some (.dT ((A ++ [((p, Tr.lp c, a) : Ent)]).map kvL)) := by
          rw [List.getElem?_set_self hl0]
          simp [kvL, w0, Tr.d]
        have pg3 : Pg [] S (S'.set S.length (.dT (A.map kvL ++ [(kk p, D.tup [D.tup [D.str "loop", D.tup c.ds], pD a, pD (w1 p a (.lp c))])]))) := pg'.setN (Nat.le_refl _)
        generalize S'.set S.length _ = S3 at hS3 pg3 ⊢
        exists 7002, w_upd
        refine ⟨_, _, rfl, hS3, ?_⟩
        refine hr S3 c p p _ _ u1.1.1 (by omega) (by omega) (by omega) (by omega) fun S4 hS4 pg4 => ?_
        have hl3 := (List.getElem?_eq_some_iff.mp hS3).1
        have hnB := Tb.lay_nodup c p p 0
        have hs0 : A ++ Tr.lay (.lp c) p a = (A ++ [((p, Tr.lp c, a) : Ent)]) ++ c.lay p p 0 := by simp [Tr.lay]
        rw [hs0] at hn2
        refine ⟨_, _, _, rfl, pg4.get hS3 (by simp), hS4, ⟨by omega, by simp, by simp [Tb.lay_len]; omega⟩, ?_⟩
        rw [mergeT_new (fun kv hkv => by
          obtain ⟨e, he, rfl⟩ := List.mem_map.mp hkv
          exact freshL hF hn2 e he) (nodupL hF hnB)]
        refine fin _ _ hs0.symm ?_ ((pg3.trans pg4).setN (Nat.le_refl _))
        rw [List.getElem?_set_self (by have := pg4.len; omega)]
        simp
      | ei x y =>
        simp only [Tr.dep] at u2
        simp only [Tr.cnt] at hAl
        have xdk := tb_dk (t := x) u1.1.1 (by omega) (by omega)
        have ydk := tb_dk (t := y) u1.1.2.1 (by omega) (by omega)
        have way0 : ∀ {P : D → Sto → Prop} {E : Str → D → Sto → Prop}, P (pD (w0 p a (.ei x y))) S' → ((eIf (tBl (eBin (dEq true) (eBin dIx (eVar 6) (eLit (.int 1))) (eTup aNil))) (eBin dAdd (eVar 5) (eTup (aCons (eLit (.int 0)) (aCons (eLit (.int 0)) aNil)))) (eVar 7))
            [some (.tup t.ds), some (pD b), some (pD h), some (.obj S.length), some (.int i), some (pD p), some (.tup [.str "either", .tup x.ds, .tup y.ds]), some (pD a)] S').wp P E := by
          intro P E hP
          exists 7000
          rw [eq_emp xdk]
          exists 7000
          by_cases hc0 : x.ds = []
          · exists 7000, hc0, decide_true
            simpa [w0, hc0] using hP
          · exists 7000, hc0, decide_false
            rw [o_add_p2 (by omega)]
            simpa [w0, hc0] using hP
        have way1 : ∀ {P : D → Sto → Prop} {E : Str → D → Sto → Prop}, P (pD (w1 p a (.ei x y))) S' → ((eIf (tBl (eBin (dEq true) (eBin dIx (eVar 6) (eLit (.int 2))) (eTup aNil))) (eBin dAdd (eVar 5) (eTup (aCons (eLit (.int 1)) (aCons (eLit (.int 0)) aNil)))) (eVar 7))
            [some (.tup t.ds), some (pD b), some (pD h), some (.obj S.length), some (.int i), some (pD p), some (.tup [.str "either", .tup x.ds, .tup y.ds]), some (pD a)] S').wp P E := by
          intro P E hP
          exists 7000
          rw [eq_emp ydk]
          exists 7000
          by_cases hc0 : y.ds = []
          · exists 7000, hc0, decide_true
            simpa [w1, hc0] using hP
          · exists 7000, hc0, decide_false
            rw [o_add_p2 (by omega)]
            simpa [w1, hc0] using hP
        exists 7002, Tr.d
        rw [o_eq (by decide +kernel) (by decide +kernel)]
        exists 7002
        rw [if_neg (by exact Lp.ne_le)]
        exists 7003
        rw [o_eq (by decide +kernel) (by decide +kernel)]
        exists 7002
        refine way0 ?_
        exists 7002
        refine way1 ?_
        exists 7002
        have hk0 : kk p ∉ (A.map kvL).map (·.1) := freshL hF hn2 ((p, Tr.ei x y, a) : Ent) (by simp [Tr.lay])
        refine ⟨_, dSet_T hS' (by simp; omega), ?_⟩
        rw [kput_new hk0]
        have hS3 : (S'.set S.length (.dT (A.map kvL ++ [(kk p, D.tup [D.tup [D.str "either", D.tup x.ds, D.tup y.ds], pD (w0 p a (.ei x y)), pD (w1 p a (.ei x y))])])))[S.length]? = some (.dT ((A ++ [((p, Tr.ei x y, a) : Ent)]).map kvL)) := by
          rw [List.getElem?_set_self hl0]
          simp [kvL, Tr.d]
        have pg3 : Pg [] S (S'.set S.length (.dT (A.map kvL ++ [(kk p, D.tup [D.tup [D.str "either", D.tup x.ds, D.tup y.ds], pD (w0 p a (.ei x y)), pD (w1 p a (.ei x y))])]))) := pg'.setN (Nat.le_refl _)
        generalize S'.set S.length _ = S3 at hS3 pg3 ⊢
        exists 7002, w_upd
        refine ⟨_, _, rfl, hS3, ?_⟩
        rw [o_add_p (by omega)]
        exists 7002
        refine hr S3 x (p ++ [0]) a _ _ u1.1.1 (by omega) (by omega) (by simp; omega) (by omega) fun S4 hS4 pg4 => ?_
        have hl3 := (List.getElem?_eq_some_iff.mp hS3).1
        have hs0 : A ++ Tr.lay (.ei x y) p a = ((A ++ [((p, Tr.ei x y, a) : Ent)]) ++ x.lay (p ++ [0]) a 0) ++ y.lay (p ++ [1]) a 0 := by simp [Tr.lay]
        rw [hs0] at hn2
        refine ⟨_, _, _, rfl, pg4.get hS3 (by simp), hS4, ⟨by omega, by simp, by simp [Tb.lay_len]; omega⟩, ?_⟩
        rw [mergeT_new (fun kv hkv => by
          obtain ⟨e, he, rfl⟩ := List.mem_map.mp hkv
          exact freshL hF (nodup_left hn2) e he) (nodupL hF (Tb.lay_nodup x _ _ 0))]
        have hS5 : (S4.set S.length (.dT ((A ++ [((p, Tr.ei x y, a) : Ent)]).map kvL ++ (x.lay (p ++ [0]) a 0).map kvL)))[S.length]? = some (.dT (((A ++ [((p, Tr.ei x y, a) : Ent)]) ++ x.lay (p ++ [0]) a 0).map kvL)) := by
          rw [List.getElem?_set_self (by have := pg4.len; omega)]
          simp
        have pg5 : Pg [] S (S4.set S.length (.dT ((A ++ [((p, Tr.ei x y, a) : Ent)]).map kvL ++ (x.lay (p ++ [0]) a 0).map kvL))) := (pg3.trans pg4).setN (Nat.le_refl _)
        generalize S4.set S.length _ = S5 at hS5 pg5 ⊢
        exists 7002, w_upd
        refine ⟨_, _, rfl, hS5, ?_⟩
        rw [o_add_p (by omega)]
        exists 7002
        refine hr S5 y (p ++ [1]) a _ _ u1.1.2.1 (by omega) (by omega) (by simp; omega) (by omega) fun S6 hS6 pg6 => ?_
        have hl5 := (List.getElem?_eq_some_iff.mp hS5).1
        refine ⟨_, _, _, rfl, pg6.get hS5 (by simp), hS6, ⟨by omega, by simp, by simp [Tb.lay_len]; omega⟩, ?_⟩
        rw [mergeT_new (fun kv hkv => by
          obtain ⟨e, he, rfl⟩ := List.mem_map.mp hkv
          exact freshL hF hn2 e he) (nodupL hF (Tb.lay_nodup y _ _ 0))]
        refine fin _ _ hs0.symm ?_ ((pg5.trans pg6).setN (Nat.le_refl _))
        rw [List.getElem?_set_self (by have := pg6.len; omega)]
        simp
  · exact ⟨t, [], none, none, none, none, rfl, ho, Nat.le_refl _, rfl, rfl, by simpa using last_get, Pg.push⟩
  · unfold FU; omega
theorem leads_ok : ∀ {g n : Nat}, g ≤ n → LeadOk (f__law_leads n) g
  | 0, n, _ => fun _ _ _ _ _ _ _ h => absurd h (Nat.not_lt_zero _)
  | g + 1, 0, h => absurd h (by omega)
  | g + 1, n + 1, h => leads_wp (leads_ok (by omega))
end Lg

set_option Elab.async false
set_option linter.all false
set_option maxRecDepth 100000
set_option autoImplicit false
namespace K01
open PySem PySem.Spec PyProof.Rows L2 Sh
def topS (i : Nat) : Stmt := PySem.Challenge.pw_anytwo_k01_places_and_what_comes_next.main.body.getD i (.Pass ⟨0, 0, 0, 0⟩)
def errs : List Str := ["Refused", "BadProgram", "BadPlace", "TooMany"]
def y_BadPlace : List Str := ["BadPlace"]
def y_Refused : List Str := ["Refused", "BadProgram", "BadPlace", "TooMany"]
def kv_FORMS : List (Str × D) := [("new", (.kt [(.str "name")])), ("put", (.kt [(.str "name"), (.str "pile")])), ("take", (.kt [(.str "pile"), (.str "name")])), ("move", (.kt [(.str "name"), (.str "name")])), ("end", (.kt [(.str "name")])), ("do", (.kt [(.str "own word"), (.str "name")])), ("loop", (.kt [(.str "body")])), ("either", (.kt [(.str "body"), (.str "body")]))]
abbrev N_fits : List Str := ["kind", "part"]
abbrev S_fits : Stmt := topS 11
abbrev b_fits : SM := Lp.b_fits
abbrev m_fits : List D → Sto → R D := Lp.m_fits
abbrev N_has_form : List Str := ["thing", "word", "kinds", "kind", "part"]
abbrev S_has_form : Stmt := topS 12
abbrev b_has_form : SM := Lp.b_has_form
abbrev m_has_form : List D → Sto → R D := Lp.m_has_form
abbrev N_bodies_at : List Str := ["place", "statement"]
abbrev S_bodies_at : Stmt := topS 13
abbrev b_bodies_at : SM := Lp.b_bodies_at
abbrev m_bodies_at : List D → Sto → R D := Lp.m_bodies_at
abbrev N_end_of : List Str := ["program"]
abbrev S_end_of : Stmt := topS 15
abbrev b_end_of : SM := Ly.b_end_of
abbrev m_end_of : List D → Sto → R D := Ly.m_end_of
abbrev N_lay_body : List Str := ["laid", "body", "before", "behind", "index", "statement", "place", "after", "back", "inner", "start"]
abbrev S_lay_body : Stmt := topS 17
abbrev b_lay_body (r_lay_body : List D → Sto → R D) : SM := Ly.b_lay_body r_lay_body
abbrev f_lay_body : Nat → List D → Sto → R D := Ly.f_lay_body
abbrev m_lay_body : List D → Sto → R D := Ly.m_lay_body
abbrev N_laid_out : List Str := ["program", "laid"]
abbrev S_laid_out : Stmt := topS 16
abbrev b_laid_out : SM := Ly.b_laid_out
abbrev m_laid_out : List D → Sto → R D := Ly.m_laid_out
abbrev N_count_body : List Str := ["body", "before", "depth", "many", "index", "thing"]
abbrev S_count_body : Stmt := topS 22
abbrev N_count_statement : List Str := ["thing", "place", "depth", "many", "body", "before"]
abbrev S_count_statement : Stmt := topS 23
abbrev b_count_body (r_count_body r_count_statement : List D → Sto → R D) : SM := Lp.b_count_body r_count_body r_count_statement
abbrev b_count_statement (r_count_body r_count_statement : List D → Sto → R D) : SM := Lp.b_count_statement r_count_body r_count_statement
abbrev f_count_body : Nat → (List D → Sto → R D) × (List D → Sto → R D) := Lp.f_count_body
abbrev m_count_body : List D → Sto → R D := Lp.m_count_body
abbrev m_count_statement : List D → Sto → R D := Lp.m_count_statement
abbrev N_made_program : List Str := ["thing"]
abbrev S_made_program : Stmt := topS 21
abbrev b_made_program : SM := Lp.b_made_program
abbrev m_made_program : List D → Sto → R D := Lp.m_made_program
abbrev N_is_number : List Str := ["thing"]
abbrev S_is_number : Stmt := topS 25
abbrev b_is_number : SM := Ly.b_is_number
abbrev m_is_number : List D → Sto → R D := Ly.m_is_number
abbrev N_is_row_of_numbers : List Str := ["thing", "part"]
abbrev S_is_row_of_numbers : Stmt := topS 26
abbrev b_is_row_of_numbers : SM := Ly.b_is_row_of_numbers
abbrev m_is_row_of_numbers : List D → Sto → R D := Ly.m_is_row_of_numbers
abbrev N_places : List Str := ["program", "laid"]
abbrev S_places : Stmt := topS 28
def b_places : SM :=
  (sSeq (sAs (eCall 1 0 [0] m_laid_out (aCons (eCall 1 0 [0] m_made_program (aCons (eVar 0) aNil) aNil) aNil) aNil) (gNameM 1))
  (sRet (eTup (aStar (eCb gListA (aCons (eVar 1) aNil)) (aCons (eCall 1 0 [0] m_end_of (aCons (eVar 0) aNil) aNil) aNil)))))
def m_places : List D → Sto → R D := fnM N_places.length b_places
abbrev N_next_place : List Str := ["program", "place", "laid", "statement", "behind"]
abbrev S_next_place : Stmt := topS 29
def b_next_place : SM :=
  (sSeq (sAs (eCall 1 0 [0] m_laid_out (aCons (eCall 1 0 [0] m_made_program (aCons (eVar 0) aNil) aNil) aNil) aNil) (gNameM 2))
  (sSeq (sIf (tOr' (tNot' (tTru (eCall 1 0 [0] m_is_row_of_numbers (aCons (eVar 1) aNil) aNil))) (tBl (eBin (dIn2 true) (eVar 1) (eVar 2)))) (sRaise "BadPlace" (eVar 1)) sNil)
  (sSeq (sAs (eBin dIx (eVar 2) (eVar 1)) (gTupM 2 (gConsM (gNameM 3) (gConsM (gNameM 4) gNilM))))
  (sSeq (sIf (tBl (eBin (dIn2 false) (eBin dIx (eVar 3) (eLit (.int 0))) (eLit (.kt [(.str "loop"), (.str "either")])))) (sRaise "BadPlace" (eVar 1)) sNil)
  (sRet (eVar 4))))))
def m_next_place : List D → Sto → R D := fnM N_next_place.length b_next_place
abbrev N__law_pool : List Str := ["script", "k", "cell", "big", "mixed"]
abbrev S__law_pool : Stmt := topS 31
abbrev b__law_pool : SM := Lw.b_pool
abbrev m__law_pool : List D → Sto → R D := Lw.m_pool
abbrev N__law_take : List Str := ["source", "top", "drawn"]
abbrev S__law_take : Stmt := topS 32
abbrev b__law_take : SM := Lw.b_take
abbrev m__law_take : List D → Sto → R D := Lw.m_take
abbrev N__law_one : List Str := ["source", "things"]
abbrev S__law_one : Stmt := topS 33
abbrev b__law_one : SM := Lw.b_one
abbrev m__law_one : List D → Sto → R D := Lw.m_one
abbrev N__law_plain : List Str := ["source", "own_names", "piles", "way", "x", "y", "pile"]
abbrev S__law_plain : Stmt := topS 34
abbrev b__law_plain : SM := Lw.b_plain
abbrev m__law_plain : List D → Sto → R D := Lw.m_plain
abbrev N__law_body : List Str := ["source", "many", "deep", "own_names", "piles", "found", "left", "way", "inner", "second", "one"]
abbrev S__law_body : Stmt := topS 35
abbrev b__law_body (r__law_body : List D → Sto → R D) : SM := Lw.b_body r__law_body
abbrev f__law_body : Nat → List D → Sto → R D := Lw.f_body
abbrev m__law_body : List D → Sto → R D := Lw.m_body
abbrev N__law_program : List Str := ["source", "most", "own_names", "piles"]
abbrev S__law_program : Stmt := topS 36
abbrev b__law_program : SM := Lw.b_program
abbrev m__law_program : List D → Sto → R D := Lw.m_program
abbrev N__law_leads : List Str := ["body", "ahead", "after", "found", "at", "place", "statement", "behind"]
abbrev S__law_leads : Stmt := topS 37
abbrev b__law_leads (r__law_leads : List D → Sto → R D) : SM := Lg.b__law_leads r__law_leads
abbrev f__law_leads : Nat → List D → Sto → R D := Lg.f__law_leads
abbrev m__law_leads : List D → Sto → R D := Lg.m__law_leads
abbrev N__law_order : List Str := ["body", "ahead", "found", "at", "place", "statement"]
abbrev S__law_order : Stmt := topS 38
def b__law_order (r__law_order : List D → Sto → R D) : SM :=
  (sSeq (sAs (eLst aNil) (gNameM 2))
  (sSeq (sFor FU (iR1 (aCons (eCb gLenA (aCons (eVar 0) aNil)) aNil)) (gNameM 3) (sSeq (sPar [4, 5] (aCons (eBin dAdd (eVar 1) (eTup (aCons (eVar 3) aNil))) (aCons (eBin dIx (eVar 0) (eVar 3)) aNil)))
  (sSeq (sExpr (eApp (eVar 2) (eVar 4)))
  (sIf (tBl (eBin (dEq false) (eBin dIx (eVar 5) (eLit (.int 0))) (eLit (.str "loop")))) (sAs (eBin dAdd (eVar 2) (eCall 2 0 [0, 1] r__law_order (aCons (eBin dIx (eVar 5) (eLit (.int 1))) (aCons (eVar 4) aNil)) aNil)) (gNameM 2)) (sIf (tBl (eBin (dEq false) (eBin dIx (eVar 5) (eLit (.int 0))) (eLit (.str "either")))) (sAs (eBin dAdd (eBin dAdd (eVar 2) (eCall 2 0 [0, 1] r__law_order (aCons (eBin dIx (eVar 5) (eLit (.int 1))) (aCons (eBin dAdd (eVar 4) (eTup (aCons (eLit (.int 0)) aNil))) aNil)) aNil)) (eCall 2 0 [0, 1] r__law_order (aCons (eBin dIx (eVar 5) (eLit (.int 2))) (aCons (eBin dAdd (eVar 4) (eTup (aCons (eLit (.int 1)) aNil))) aNil)) aNil)) (gNameM 2)) sNil)))))
  (sRet (eVar 2))))
def f__law_order : Nat → List D → Sto → R D
  | 0 => fun _ _ => .no
  | n + 1 => fnM N__law_order.length (b__law_order (f__law_order n))
def m__law_order : List D → Sto → R D := f__law_order 16
abbrev N__law_told : List Str := ["program", "place", "e"]
abbrev S__law_told : Stmt := topS 39
def b__law_told : SM :=
  (sTry errs (sRet (eCall 0 2 [1, 0] m_next_place aNil (aCons (eVar 1) (aCons (eVar 0) aNil)))) [⟨y_BadPlace, (some 2), (fun w => sRet ((fun w => eTup (aCons ((fun _ => (eLit (.str "none"))) w) (aCons ((fun w => eLit w) w) aNil))) w))⟩, ⟨y_Refused, (some 2), (fun w => sRet ((fun w => eTup (aCons ((fun _ => (eLit (.str "other"))) w) (aCons ((fun w => eLit w) w) aNil))) w))⟩])
def m__law_told : List D → Sto → R D := fnM N__law_told.length b__law_told
abbrev N__law_right : List Str := ["source", "program", "order", "leads", "place", "due", "odd", "one"]
abbrev S__law_right : Stmt := topS 40
def b__law_right : SM :=
  (sSeq (sAs (eCall 2 0 [0, 1] m__law_program (aCons (eVar 0) (aCons (eLit (.int 14)) aNil)) aNil) (gNameM 1))
  (sSeq (sIf (tBl (eBin (dEq false) (eCall 2 0 [0, 1] m__law_take (aCons (eVar 0) (aCons (eLit (.int 8)) aNil)) aNil) (eLit (.int 0)))) (sAs (eCall 2 0 [0, 1] m__law_one (aCons (eVar 0) (aCons (eLst (aCons (eTup aNil) (aCons (eTup (aCons (eTup (aCons (eLit (.str "loop")) (aCons (eTup aNil) aNil))) aNil)) (aCons (eTup (aCons (eTup (aCons (eLit (.str "either")) (aCons (eTup aNil) (aCons (eTup aNil) aNil)))) (aCons (eTup (aCons (eLit (.str "loop")) (aCons (eTup (aCons (eTup (aCons (eLit (.str "loop")) (aCons (eTup aNil) aNil))) aNil)) aNil))) aNil))) aNil)))) aNil)) aNil) (gNameM 1)) sNil)
  (sSeq (sPar [2, 3] (aCons (eCall 2 0 [0, 1] m__law_order (aCons (eVar 1) (aCons (eTup aNil) aNil)) aNil) (aCons (eCall 3 0 [0, 1, 2] m__law_leads (aCons (eVar 1) (aCons (eTup aNil) (aCons (eTup (aCons (eCb gLenA (aCons (eVar 1) aNil)) aNil)) aNil))) aNil) aNil)))
  (sSeq (sIf (tBl (eBin (dEq true) (eCall 0 1 [0] m_places aNil (aCons (eVar 1) aNil)) (eBin dAdd (eCb gTuple (aCons (eVar 2) aNil)) (eTup (aCons (eTup (aCons (eCb gLenA (aCons (eVar 1) aNil)) aNil)) aNil))))) (sRet (eLit (.bl false))) sNil)
  (sSeq (sFor FU (iSeq (eVar 2)) (gNameM 4) (sSeq (sAs (eIf (tBl (eBin (dIn2 false) (eBin dIx (eBin dIx (eBin dIx (eVar 3) (eVar 4)) (eLit (.int 0))) (eLit (.int 0))) (eTup (aCons (eLit (.str "loop")) (aCons (eLit (.str "either")) aNil))))) (eTup (aCons (eLit (.str "none")) (aCons (eVar 4) aNil))) (eBin dIx (eBin dIx (eVar 3) (eVar 4)) (eLit (.int 1)))) (gNameM 5))
  (sIf (tBl (eBin (dEq true) (eCall 2 0 [0, 1] m__law_told (aCons (eVar 1) (aCons (eVar 4) aNil)) aNil) (eVar 5))) (sRet (eLit (.bl false))) sNil)))
  (sSeq (sAs (eLst (aCons (eTup (aCons (eCb gLenA (aCons (eVar 1) aNil)) aNil)) (aCons (eTup aNil) (aCons (eTup (aCons (eNeg (eLit (.int 1))) aNil)) (aCons (eTup (aCons (eBin dAdd (eCb gLenA (aCons (eVar 1) aNil)) (eLit (.int 1))) aNil)) (aCons (eLit (.int 0)) (aCons (eLit (.str "0")) (aCons (eTup (aCons (eLit (.str "0")) aNil)) (aCons (eTup (aCons (eLit (.int 0)) (aCons (eLit (.int 0)) (aCons (eLit (.int 0)) (aCons (eLit (.int 0)) (aCons (eLit (.int 0)) aNil)))))) (aCons (eTup (aCons (eLit (.int 0)) (aCons (eLit (.int 2)) (aCons (eLit (.int 0)) aNil)))) (aCons (eTup (aCons (eLit (.bl false)) aNil)) (aCons (eTup (aCons (eTup (aCons (eLit (.int 0)) aNil)) aNil)) aNil)))))))))))) (gNameM 6))
  (sSeq (sFor FU (iSeq (eLst (aCons (eCall 2 0 [0, 1] m__law_one (aCons (eVar 0) (aCons (eVar 6) aNil)) aNil) (aCons (eCall 2 0 [0, 1] m__law_one (aCons (eVar 0) (aCons (eVar 6) aNil)) aNil) (aCons (eBin dAdd (eCall 2 0 [0, 1] m__law_one (aCons (eVar 0) (aCons (eBin dAdd (eVar 2) (eLst (aCons (eTup (aCons (eLit (.int 9)) aNil)) aNil))) aNil)) aNil) (eTup (aCons (eLit (.int 0)) aNil))) aNil))))) (gNameM 4) (sIf (tAnd' (tBl (eBin (dIn2 true) (eCb gRepr (aCons (eVar 4) aNil)) (eComp FU [7] (iSeq (eVar 2)) (gNameM 7) tYesM (eCb gRepr (aCons (eVar 7) aNil))))) (tBl (eBin (dEq true) (eCb gRepr (aCons (eCall 2 0 [0, 1] m__law_told (aCons (eVar 1) (aCons (eVar 4) aNil)) aNil) aNil)) (eCb gRepr (aCons (eTup (aCons (eLit (.str "none")) (aCons (eVar 4) aNil))) aNil))))) (sRet (eLit (.bl false))) sNil))
  (sRet (eLit (.bl true))))))))))
def m__law_right : List D → Sto → R D := fnM N__law_right.length b__law_right
abbrev N_law : List Str := ["script", "k"]
abbrev S_law : Stmt := topS 41
def b_law : SM :=
  (sSeq (sFor FU (iR1 (aCons (eCb gMax (aCons (eLit (.int 1)) (aCons (eCb gMin (aCons (eCb gLenA (aCons (eVar 0) aNil)) (aCons (eLit (.int 3)) aNil))) aNil))) aNil)) (gNameM 1) (sIf (tNot' (tTru (eCall 1 0 [0] m__law_right (aCons (eCall 2 0 [0, 1] m__law_pool (aCons (eVar 0) (aCons (eVar 1) aNil)) aNil) aNil) aNil))) (sRet (eLit (.bl false))) sNil))
  (sRet (eLit (.bl true))))
def m_law : List D → Sto → R D := fnM N_law.length b_law
theorem kb_fits_2 {K : PySem.W.Frag} {f : Addr} {fd : FuncData} (F : Fun K "fits" "fits" S_fits f fd) : KB K fd ["kind", "part"] 2 [] [0, 1] :=
  KB.all F fun _ _ _ _ _ _ us ws h1 h2 => match us, ws, h1, h2 with | [_, _], [], _, _ => rfl
theorem kb_bodies_at_2 {K : PySem.W.Frag} {f : Addr} {fd : FuncData} (F : Fun K "bodies_at" "bodies_at" S_bodies_at f fd) : KB K fd ["place", "statement"] 2 [] [0, 1] :=
  KB.all F fun _ _ _ _ _ _ us ws h1 h2 => match us, ws, h1, h2 with | [_, _], [], _, _ => rfl
theorem kb_lay_body_4 {K : PySem.W.Frag} {f : Addr} {fd : FuncData} (F : Fun K "lay_body" "lay_body" S_lay_body f fd) : KB K fd ["laid", "body", "before", "behind"] 4 [] [0, 1, 2, 3] :=
  KB.all F fun _ _ _ _ _ _ us ws h1 h2 => match us, ws, h1, h2 with | [_, _, _, _], [], _, _ => rfl
theorem kb_end_of_1 {K : PySem.W.Frag} {f : Addr} {fd : FuncData} (F : Fun K "end_of" "end_of" S_end_of f fd) : KB K fd ["program"] 1 [] [0] :=
  KB.all F fun _ _ _ _ _ _ us ws h1 h2 => match us, ws, h1, h2 with | [_], [], _, _ => rfl
theorem kb_count_statement_4 {K : PySem.W.Frag} {f : Addr} {fd : FuncData} (F : Fun K "count_statement" "count_statement" S_count_statement f fd) : KB K fd ["thing", "place", "depth", "many"] 4 [] [0, 1, 2, 3] :=
  KB.all F fun _ _ _ _ _ _ us ws h1 h2 => match us, ws, h1, h2 with | [_, _, _, _], [], _, _ => rfl
theorem kb_has_form_1 {K : PySem.W.Frag} {f : Addr} {fd : FuncData} (F : Fun K "has_form" "has_form" S_has_form f fd) : KB K fd ["thing"] 1 [] [0] :=
  KB.all F fun _ _ _ _ _ _ us ws h1 h2 => match us, ws, h1, h2 with | [_], [], _, _ => rfl
theorem kb_count_body_4 {K : PySem.W.Frag} {f : Addr} {fd : FuncData} (F : Fun K "count_body" "count_body" S_count_body f fd) : KB K fd ["body", "before", "depth", "many"] 4 [] [0, 1, 2, 3] :=
  KB.all F fun _ _ _ _ _ _ us ws h1 h2 => match us, ws, h1, h2 with | [_, _, _, _], [], _, _ => rfl
theorem kb_is_number_1 {K : PySem.W.Frag} {f : Addr} {fd : FuncData} (F : Fun K "is_number" "is_number" S_is_number f fd) : KB K fd ["thing"] 1 [] [0] :=
  KB.all F fun _ _ _ _ _ _ us ws h1 h2 => match us, ws, h1, h2 with | [_], [], _, _ => rfl
theorem kb_laid_out_1 {K : PySem.W.Frag} {f : Addr} {fd : FuncData} (F : Fun K "laid_out" "laid_out" S_laid_out f fd) : KB K fd ["program"] 1 [] [0] :=
  KB.all F fun _ _ _ _ _ _ us ws h1 h2 => match us, ws, h1, h2 with | [_], [], _, _ => rfl
theorem kb_made_program_1 {K : PySem.W.Frag} {f : Addr} {fd : FuncData} (F : Fun K "made_program" "made_program" S_made_program f fd) : KB K fd ["thing"] 1 [] [0] :=
  KB.all F fun _ _ _ _ _ _ us ws h1 h2 => match us, ws, h1, h2 with | [_], [], _, _ => rfl
theorem kb_is_row_of_numbers_1 {K : PySem.W.Frag} {f : Addr} {fd : FuncData} (F : Fun K "is_row_of_numbers" "is_row_of_numbers" S_is_row_of_numbers f fd) : KB K fd ["thing"] 1 [] [0] :=
  KB.all F fun _ _ _ _ _ _ us ws h1 h2 => match us, ws, h1, h2 with | [_], [], _, _ => rfl
theorem kb__law_take_2 {K : PySem.W.Frag} {f : Addr} {fd : FuncData} (F : Fun K "_law_take" "_law_take" S__law_take f fd) : KB K fd ["source", "top"] 2 [] [0, 1] :=
  KB.all F fun _ _ _ _ _ _ us ws h1 h2 => match us, ws, h1, h2 with | [_, _], [], _, _ => rfl
theorem kb__law_one_2 {K : PySem.W.Frag} {f : Addr} {fd : FuncData} (F : Fun K "_law_one" "_law_one" S__law_one f fd) : KB K fd ["source", "things"] 2 [] [0, 1] :=
  KB.all F fun _ _ _ _ _ _ us ws h1 h2 => match us, ws, h1, h2 with | [_, _], [], _, _ => rfl
theorem kb__law_body_5 {K : PySem.W.Frag} {f : Addr} {fd : FuncData} (F : Fun K "_law_body" "_law_body" S__law_body f fd) : KB K fd ["source", "many", "deep", "own_names", "piles"] 5 [] [0, 1, 2, 3, 4] :=
  KB.all F fun _ _ _ _ _ _ us ws h1 h2 => match us, ws, h1, h2 with | [_, _, _, _, _], [], _, _ => rfl
theorem kb__law_plain_3 {K : PySem.W.Frag} {f : Addr} {fd : FuncData} (F : Fun K "_law_plain" "_law_plain" S__law_plain f fd) : KB K fd ["source", "own_names", "piles"] 3 [] [0, 1, 2] :=
  KB.all F fun _ _ _ _ _ _ us ws h1 h2 => match us, ws, h1, h2 with | [_, _, _], [], _, _ => rfl
theorem kb__law_leads_3 {K : PySem.W.Frag} {f : Addr} {fd : FuncData} (F : Fun K "_law_leads" "_law_leads" S__law_leads f fd) : KB K fd ["body", "ahead", "after"] 3 [] [0, 1, 2] :=
  KB.all F fun _ _ _ _ _ _ us ws h1 h2 => match us, ws, h1, h2 with | [_, _, _], [], _, _ => rfl
theorem kb__law_order_2 {K : PySem.W.Frag} {f : Addr} {fd : FuncData} (F : Fun K "_law_order" "_law_order" S__law_order f fd) : KB K fd ["body", "ahead"] 2 [] [0, 1] :=
  KB.all F fun _ _ _ _ _ _ us ws h1 h2 => match us, ws, h1, h2 with | [_, _], [], _, _ => rfl
theorem kb_next_place_0_place_program {K : PySem.W.Frag} {f : Addr} {fd : FuncData} (F : Fun K "next_place" "next_place" S_next_place f fd) : KB K fd ["program", "place"] 0 ["place", "program"] [1, 0] :=
  KB.all F fun _ _ _ _ _ _ us ws h1 h2 => match us, ws, h1, h2 with | [], [_, _], _, _ => rfl
theorem kb__law_program_2 {K : PySem.W.Frag} {f : Addr} {fd : FuncData} (F : Fun K "_law_program" "_law_program" S__law_program f fd) : KB K fd ["source", "most"] 2 [] [0, 1] :=
  KB.all F fun _ _ _ _ _ _ us ws h1 h2 => match us, ws, h1, h2 with | [_, _], [], _, _ => rfl
theorem kb_places_0_program {K : PySem.W.Frag} {f : Addr} {fd : FuncData} (F : Fun K "places" "places" S_places f fd) : KB K fd ["program"] 0 ["program"] [0] :=
  KB.all F fun _ _ _ _ _ _ us ws h1 h2 => match us, ws, h1, h2 with | [], [_], _, _ => rfl
theorem kb__law_told_2 {K : PySem.W.Frag} {f : Addr} {fd : FuncData} (F : Fun K "_law_told" "_law_told" S__law_told f fd) : KB K fd ["program", "place"] 2 [] [0, 1] :=
  KB.all F fun _ _ _ _ _ _ us ws h1 h2 => match us, ws, h1, h2 with | [_, _], [], _, _ => rfl
theorem kb__law_right_1 {K : PySem.W.Frag} {f : Addr} {fd : FuncData} (F : Fun K "_law_right" "_law_right" S__law_right f fd) : KB K fd ["source"] 1 [] [0] :=
  KB.all F fun _ _ _ _ _ _ us ws h1 h2 => match us, ws, h1, h2 with | [_], [], _, _ => rfl
theorem kb__law_pool_2 {K : PySem.W.Frag} {f : Addr} {fd : FuncData} (F : Fun K "_law_pool" "_law_pool" S__law_pool f fd) : KB K fd ["script", "k"] 2 [] [0, 1] :=
  KB.all F fun _ _ _ _ _ _ us ws h1 h2 => match us, ws, h1, h2 with | [_, _], [], _, _ => rfl
structure Tx (w : World) (K : PySem.W.Frag) (mg : Str → Option Value) where
  a_fits : Addr
  e_fits : FuncData
  F_fits : Fun K "fits" "fits" S_fits a_fits e_fits
  M_fits : mg "fits" = some (.ref a_fits)
  a_has_form : Addr
  e_has_form : FuncData
  F_has_form : Fun K "has_form" "has_form" S_has_form a_has_form e_has_form
  M_has_form : mg "has_form" = some (.ref a_has_form)
  a_bodies_at : Addr
  e_bodies_at : FuncData
  F_bodies_at : Fun K "bodies_at" "bodies_at" S_bodies_at a_bodies_at e_bodies_at
  M_bodies_at : mg "bodies_at" = some (.ref a_bodies_at)
  a_end_of : Addr
  e_end_of : FuncData
  F_end_of : Fun K "end_of" "end_of" S_end_of a_end_of e_end_of
  M_end_of : mg "end_of" = some (.ref a_end_of)
  a_lay_body : Addr
  e_lay_body : FuncData
  F_lay_body : Fun K "lay_body" "lay_body" S_lay_body a_lay_body e_lay_body
  M_lay_body : mg "lay_body" = some (.ref a_lay_body)
  a_laid_out : Addr
  e_laid_out : FuncData
  F_laid_out : Fun K "laid_out" "laid_out" S_laid_out a_laid_out e_laid_out
  M_laid_out : mg "laid_out" = some (.ref a_laid_out)
  a_count_body : Addr
  e_count_body : FuncData
  F_count_body : Fun K "count_body" "count_body" S_count_body a_count_body e_count_body
  M_count_body : mg "count_body" = some (.ref a_count_body)
  a_count_statement : Addr
  e_count_statement : FuncData
  F_count_statement : Fun K "count_statement" "count_statement" S_count_statement a_count_statement e_count_statement
  M_count_statement : mg "count_statement" = some (.ref a_count_statement)
  a_made_program : Addr
  e_made_program : FuncData
  F_made_program : Fun K "made_program" "made_program" S_made_program a_made_program e_made_program
  M_made_program : mg "made_program" = some (.ref a_made_program)
  a_is_number : Addr
  e_is_number : FuncData
  F_is_number : Fun K "is_number" "is_number" S_is_number a_is_number e_is_number
  M_is_number : mg "is_number" = some (.ref a_is_number)
  a_is_row_of_numbers : Addr
  e_is_row_of_numbers : FuncData
  F_is_row_of_numbers : Fun K "is_row_of_numbers" "is_row_of_numbers" S_is_row_of_numbers a_is_row_of_numbers e_is_row_of_numbers
  M_is_row_of_numbers : mg "is_row_of_numbers" = some (.ref a_is_row_of_numbers)
  a_places : Addr
  e_places : FuncData
  F_places : Fun K "places" "places" S_places a_places e_places
  M_places : mg "places" = some (.ref a_places)
  a_next_place : Addr
  e_next_place : FuncData
  F_next_place : Fun K "next_place" "next_place" S_next_place a_next_place e_next_place
  M_next_place : mg "next_place" = some (.ref a_next_place)
  a__law_pool : Addr
  e__law_pool : FuncData
  F__law_pool : Fun K "_law_pool" "_law_pool" S__law_pool a__law_pool e__law_pool
  M__law_pool : mg "_law_pool" = some (.ref a__law_pool)
  a__law_take : Addr
  e__law_take : FuncData
  F__law_take : Fun K "_law_take" "_law_take" S__law_take a__law_take e__law_take
  M__law_take : mg "_law_take" = some (.ref a__law_take)
  a__law_one : Addr
  e__law_one : FuncData
  F__law_one : Fun K "_law_one" "_law_one" S__law_one a__law_one e__law_one
  M__law_one : mg "_law_one" = some (.ref a__law_one)
  a__law_plain : Addr
  e__law_plain : FuncData
  F__law_plain : Fun K "_law_plain" "_law_plain" S__law_plain a__law_plain e__law_plain
  M__law_plain : mg "_law_plain" = some (.ref a__law_plain)
  a__law_body : Addr
  e__law_body : FuncData
  F__law_body : Fun K "_law_body" "_law_body" S__law_body a__law_body e__law_body
  M__law_body : mg "_law_body" = some (.ref a__law_body)
  a__law_program : Addr
  e__law_program : FuncData
  F__law_program : Fun K "_law_program" "_law_program" S__law_program a__law_program e__law_program
  M__law_program : mg "_law_program" = some (.ref a__law_program)
  a__law_leads : Addr
  e__law_leads : FuncData
  F__law_leads : Fun K "_law_leads" "_law_leads" S__law_leads a__law_leads e__law_leads
  M__law_leads : mg "_law_leads" = some (.ref a__law_leads)
  a__law_order : Addr
  e__law_order : FuncData
  F__law_order : Fun K "_law_order" "_law_order" S__law_order a__law_order e__law_order
  M__law_order : mg "_law_order" = some (.ref a__law_order)
  a__law_told : Addr
  e__law_told : FuncData
  F__law_told : Fun K "_law_told" "_law_told" S__law_told a__law_told e__law_told
  M__law_told : mg "_law_told" = some (.ref a__law_told)
  a__law_right : Addr
  e__law_right : FuncData
  F__law_right : Fun K "_law_right" "_law_right" S__law_right a__law_right e__law_right
  M__law_right : mg "_law_right" = some (.ref a__law_right)
  a_law : Addr
  e_law : FuncData
  F_law : Fun K "law" "law" S_law a_law e_law
  M_law : mg "law" = some (.ref a_law)
  C_Refused : Addr
  i_Refused : Addr
  x_Refused : PySem.LowX.LowTxt K mg "Refused" C_Refused i_Refused
  C_BadProgram : Addr
  i_BadProgram : Addr
  x_BadProgram : PySem.LowX.LowTxt K mg "BadProgram" C_BadProgram i_BadProgram
  C_BadPlace : Addr
  i_BadPlace : Addr
  x_BadPlace : PySem.LowX.LowTxt K mg "BadPlace" C_BadPlace i_BadPlace
  C_TooMany : Addr
  i_TooMany : Addr
  x_TooMany : PySem.LowX.LowTxt K mg "TooMany" C_TooMany i_TooMany
  low : ∀ c ∈ errs, ∃ C fI, PySem.LowX.LowTxt K mg c C fI
  y_BadPlace : ∀ c ∈ errs, ∀ C : Addr, mg c = some (.ref C) → PySem.W.exmOne K (.ref C) (.ref C_BadPlace) = some (decide (c ∈ K01.y_BadPlace))
  y_Refused : ∀ c ∈ errs, ∀ C : Addr, mg c = some (.ref C) → PySem.W.exmOne K (.ref C) (.ref C_Refused) = some (decide (c ∈ K01.y_Refused))
  a_BRANCHES : Addr
  g_BRANCHES : mg "BRANCHES" = some (.ref a_BRANCHES)
  k_BRANCHES : ∀ ι H, DR K mg ι H (.kt [(.str "loop"), (.str "either")]) (.ref a_BRANCHES)
  t_DEEPEST : Tok
  g_DEEPEST : mg "DEEPEST" = some (.int 6 t_DEEPEST)
  a_FORMS : Addr
  g_FORMS : mg "FORMS" = some (.ref a_FORMS)
  d_FORMS : KD K mg w "FORMS" kv_FORMS
  t_MOST_STATEMENTS : Tok
  g_MOST_STATEMENTS : mg "MOST_STATEMENTS" = some (.int 40 t_MOST_STATEMENTS)
  a_NAMES : Addr
  g_NAMES : mg "NAMES" = some (.ref a_NAMES)
  k_NAMES : ∀ ι H, DR K mg ι H (.kt [(.str "a"), (.str "b"), (.str "c"), (.str "d")]) (.ref a_NAMES)
  a_OWN_WORDS : Addr
  g_OWN_WORDS : mg "OWN_WORDS" = some (.ref a_OWN_WORDS)
  k_OWN_WORDS : ∀ ι H, DR K mg ι H (.kt [(.str "u"), (.str "v"), (.str "w")]) (.ref a_OWN_WORDS)
  a_PILES : Addr
  g_PILES : mg "PILES" = some (.ref a_PILES)
  k_PILES : ∀ ι H, DR K mg ι H (.kt [(.str "p"), (.str "q")]) (.ref a_PILES)
  z_all : mg "all" = none
  z_bool : mg "bool" = none
  z_enumerate : mg "enumerate" = none
  z_int : mg "int" = none
  z_isinstance : mg "isinstance" = none
  z_len : mg "len" = none
  z_list : mg "list" = none
  z_max : mg "max" = none
  z_min : mg "min" = none
  z_range : mg "range" = none
  z_repr : mg "repr" = none
  z_str : mg "str" = none
  z_tuple : mg "tuple" = none
  z_zip : mg "zip" = none
section
variable {P : Program} {w : World} {K : PySem.W.Frag} {mg : Str → Option Value} {base : Heap}
theorem sc_fits : FnScope N_fits ["kind", "part"] (defScope S_fits) := ⟨rfl, rfl, rfl, by decide +kernel, rfl, by decide +kernel, by decide +kernel⟩
theorem ok_fits (T : Tx w K mg) : FnG P w K mg base 1 T.a_fits T.e_fits ["kind", "part"] (spM K mg 2 m_fits) :=
  fn_ok2 (k := 0) T.F_fits sc_fits rfl fun cdv A outer s H E hr tk hp hN => ⟨_, show Ess _ _ _ _ b_fits from
  (ss_cons (es_if (et_cmp (os_eq hr.room) (ee_var 0) ee_str) (ss_one (es_ret (ee_cmp (os_in hr.room) (ee_var 1) (ee_gkt T.g_NAMES T.k_NAMES)))) ss_nil)
  (ss_cons (es_if (et_cmp (os_eq hr.room) (ee_var 0) ee_str) (ss_one (es_ret (ee_cmp (os_in hr.room) (ee_var 1) (ee_gkt T.g_PILES T.k_PILES)))) ss_nil)
  (ss_cons (es_if (et_cmp (os_eq hr.room) (ee_var 0) ee_str) (ss_one (es_ret (ee_cmp (os_in hr.room) (ee_var 1) (ee_gkt T.g_OWN_WORDS T.k_OWN_WORDS)))) ss_nil)
  (ss_one (es_ret (ee_callB cs_isi T.z_isinstance (ea_cons (ee_var 1) (ea_cons (ee_ty T.z_tuple) ea_nil))))))))⟩
theorem sc_has_form : FnScope N_has_form ["thing"] (defScope S_has_form) := ⟨rfl, rfl, rfl, by decide +kernel, rfl, by decide +kernel, by decide +kernel⟩
theorem ok_has_form (T : Tx w K mg) : FnG P w K mg base 2 T.a_has_form T.e_has_form ["thing"] (spM K mg 1 m_has_form) :=
  fn_ok2 (k := 1) T.F_has_form sc_has_form rfl fun cdv A outer s H E hr tk hp hN => ⟨_, show Ess _ _ _ _ b_has_form from
  (ss_cons (es_if (Ew.et (ew_or (et_not (et_truth (ee_callB cs_isi T.z_isinstance (ea_cons (ee_var 0) (ea_cons (ee_ty T.z_tuple) ea_nil))))) (ew_or1 (et_cmp (os_eq hr.room) (ee_callB cs_len T.z_len (ea_cons (ee_var 0) ea_nil)) ee_int)))) (ss_one (es_ret ee_bl)) ss_nil)
  (ss_cons (es_set (i := 1) hN (ee_ix hr.room (ee_var 0) ee_int))
  (ss_cons (es_if (Ew.et (ew_or (et_not (et_truth (ee_callB cs_isi T.z_isinstance (ea_cons (ee_var 1) (ea_cons (ee_ty T.z_str) ea_nil))))) (ew_or1 (et_cmp (os_notinK T.d_FORMS) (ee_var 1) (ee_fn T.g_FORMS))))) (ss_one (es_ret ee_bl)) ss_nil)
  (ss_cons (es_set (i := 2) hN (ee_ixK T.d_FORMS (ee_fn T.g_FORMS) (ee_var 1)))
  (ss_cons (es_if (et_cmp (os_ne hr.room) (ee_callB cs_len T.z_len (ea_cons (ee_var 0) ea_nil)) (ee_op os_add (ee_callB cs_len T.z_len (ea_cons (ee_var 2) ea_nil)) ee_int)) (ss_one (es_ret ee_bl)) ss_nil)
  (ss_one (es_ret (ee_callB (cs_all (by rfl)) T.z_all (ea_cons (ee_compK (own := [("kind", 3), ("part", 4)]) FU (by rfl) hN (ei_zip T.z_zip (ea_cons (ee_var 2) (ea_cons (ee_cut (ee_var 0) (eo_some ee_int) eo_none) ea_nil))) (blkOk_by (own := [("kind", 3), ("part", 4)]) (N := N_has_form) (sc := defScope S_has_form) (by decide +kernel)) (fun _ _ _ _ _ => ⟨_, (eg_tup (by rfl) (egs_cons (eg_name (i := 3) hN) (egs_cons (eg_name (i := 4) hN) egs_nil)))⟩) (fun _ _ _ _ _ => ⟨_, ets_nil⟩) (fun _ _ _ _ _ => ⟨_, (ee_call 2 ((ok_fits T).mono (by decide)) hr takes0 T.M_fits T.F_fits.kp (kb_fits_2 T.F_fits) (ea_cons (ee_var 3) (ea_cons (ee_var 4) ea_nil)) ek_nil)⟩)) ea_nil)))))))))⟩
theorem sc_bodies_at : FnScope N_bodies_at ["place", "statement"] (defScope S_bodies_at) := ⟨rfl, rfl, rfl, by decide +kernel, rfl, by decide +kernel, by decide +kernel⟩
theorem ok_bodies_at (T : Tx w K mg) : FnG P w K mg base 1 T.a_bodies_at T.e_bodies_at ["place", "statement"] (spM K mg 2 m_bodies_at) :=
  fn_ok2 (k := 0) T.F_bodies_at sc_bodies_at rfl fun cdv A outer s H E hr tk hp hN => ⟨_, show Ess _ _ _ _ b_bodies_at from
  (ss_cons (es_if (et_cmp (os_eq hr.room) (ee_ix hr.room (ee_var 1) ee_int) ee_str) (ss_one (es_ret (ee_tup (ea_cons (ee_tup (ea_cons (ee_ix hr.room (ee_var 1) ee_int) (ea_cons (ee_var 0) ea_nil))) ea_nil)))) ss_nil)
  (ss_cons (es_if (et_cmp (os_eq hr.room) (ee_ix hr.room (ee_var 1) ee_int) ee_str) (ss_one (es_ret (ee_tup (ea_cons (ee_tup (ea_cons (ee_ix hr.room (ee_var 1) ee_int) (ea_cons (ee_op os_add (ee_var 0) (ee_tup (ea_cons ee_int ea_nil))) ea_nil))) (ea_cons (ee_tup (ea_cons (ee_ix hr.room (ee_var 1) ee_int) (ea_cons (ee_op os_add (ee_var 0) (ee_tup (ea_cons ee_int ea_nil))) ea_nil))) ea_nil))))) ss_nil)
  (ss_one (es_ret (ee_tup ea_nil)))))⟩
theorem sc_end_of : FnScope N_end_of ["program"] (defScope S_end_of) := ⟨rfl, rfl, rfl, by decide +kernel, rfl, by decide +kernel, by decide +kernel⟩
theorem ok_end_of (T : Tx w K mg) : FnG P w K mg base 1 T.a_end_of T.e_end_of ["program"] (spM K mg 1 m_end_of) :=
  fn_ok2 (k := 0) T.F_end_of sc_end_of rfl fun cdv A outer s H E hr tk hp hN => ⟨_, show Ess _ _ _ _ b_end_of from
  (ss_one (es_ret (ee_tup (ea_cons (ee_callB cs_len T.z_len (ea_cons (ee_var 0) ea_nil)) ea_nil))))⟩
theorem sc_lay_body : FnScope N_lay_body ["laid", "body", "before", "behind"] (defScope S_lay_body) := ⟨rfl, rfl, rfl, by decide +kernel, rfl, by decide +kernel, by decide +kernel⟩
theorem ob_lay_body (T : Tx w K mg) {r_lay_body : List D → Sto → R D} {k : Nat} (hk : 1 ≤ k) (G_lay_body : FnG P w K mg base k T.a_lay_body T.e_lay_body ["laid", "body", "before", "behind"] (spM K mg 4 r_lay_body)) : FnG P w K mg base (k + 1) T.a_lay_body T.e_lay_body ["laid", "body", "before", "behind"] (spM K mg 4 (fnM N_lay_body.length (b_lay_body r_lay_body))) :=
  fn_ok2 T.F_lay_body sc_lay_body rfl fun cdv A outer s H E hr tk hp hN => ⟨_, show Ess _ _ _ _ (b_lay_body r_lay_body) from
  (ss_one (es_for FU hp (by rfl) (ei_en T.z_enumerate (ea_cons (ee_var 1) ea_nil)) (eg_tup (by rfl) (egs_cons (eg_name (i := 4) hN) (egs_cons (eg_name (i := 5) hN) egs_nil))) (ss_cons (es_set (i := 6) hN (ee_op os_add (ee_var 2) (ee_tup (ea_cons (ee_var 4) ea_nil))))
  (ss_cons (es_set (i := 7) hN (ee_var 3))
  (ss_cons (es_if (et_cmp os_lt (ee_op os_add (ee_var 4) ee_int) (ee_callB cs_len T.z_len (ea_cons (ee_var 1) ea_nil))) (ss_one (es_set (i := 7) hN (ee_op os_add (ee_var 2) (ee_tup (ea_cons (ee_op os_add (ee_var 4) ee_int) ea_nil))))) ss_nil)
  (ss_cons (es_asg (ee_tup (ea_cons (ee_var 5) (ea_cons (ee_var 7) ea_nil))) (eg_sub hr (ee_var 0) (ee_var 6)))
  (ss_cons (es_set (i := 8) hN (ee_var 7))
  (ss_cons (es_if (et_cmp (os_eq hr.room) (ee_ix hr.room (ee_var 5) ee_int) ee_str) (ss_one (es_set (i := 8) hN (ee_var 6))) ss_nil)
  (ss_one (es_for FU hp (by rfl) (ei_seq (ee_call 2 ((ok_bodies_at T).mono (Nat.le_trans (by decide) hk)) hr tk T.M_bodies_at T.F_bodies_at.kp (kb_bodies_at_2 T.F_bodies_at) (ea_cons (ee_var 6) (ea_cons (ee_var 5) ea_nil)) ek_nil)) (eg_tup (by rfl) (egs_cons (eg_name (i := 9) hN) (egs_cons (eg_name (i := 10) hN) egs_nil))) (ss_one (es_expr (ee_call 4 G_lay_body hr tk T.M_lay_body T.F_lay_body.kp (kb_lay_body_4 T.F_lay_body) (ea_cons (ee_var 0) (ea_cons (ee_var 9) (ea_cons (ee_var 10) (ea_cons (ee_var 8) ea_nil)))) ek_nil)))))))))))))⟩
theorem of_lay_body (T : Tx w K mg) : ∀ n, FnG P w K mg base (1 + n) T.a_lay_body T.e_lay_body ["laid", "body", "before", "behind"] (spM K mg 4 (f_lay_body n))
  | 0 => fn_no rfl
  | n + 1 => ob_lay_body T (Nat.le_add_right _ _) (of_lay_body T n)
theorem ok_lay_body (T : Tx w K mg) : FnG P w K mg base 17 T.a_lay_body T.e_lay_body ["laid", "body", "before", "behind"] (spM K mg 4 m_lay_body) := of_lay_body T 16
theorem sc_laid_out : FnScope N_laid_out ["program"] (defScope S_laid_out) := ⟨rfl, rfl, rfl, by decide +kernel, rfl, by decide +kernel, by decide +kernel⟩
theorem ok_laid_out (T : Tx w K mg) : FnG P w K mg base 18 T.a_laid_out T.e_laid_out ["program"] (spM K mg 1 m_laid_out) :=
  fn_ok2 (k := 17) T.F_laid_out sc_laid_out rfl fun cdv A outer s H E hr tk hp hN => ⟨_, show Ess _ _ _ _ b_laid_out from
  (ss_cons (es_set (i := 1) hN ee_dnewT)
  (ss_cons (es_expr (ee_call 4 ((ok_lay_body T).mono (by decide)) hr tk T.M_lay_body T.F_lay_body.kp (kb_lay_body_4 T.F_lay_body) (ea_cons (ee_var 1) (ea_cons (ee_var 0) (ea_cons (ee_tup ea_nil) (ea_cons (ee_call 1 ((ok_end_of T).mono (by decide)) hr tk T.M_end_of T.F_end_of.kp (kb_end_of_1 T.F_end_of) (ea_cons (ee_var 0) ea_nil) ek_nil) ea_nil)))) ek_nil))
  (ss_one (es_ret (ee_var 1)))))⟩
theorem sc_count_body : FnScope N_count_body ["body", "before", "depth", "many"] (defScope S_count_body) := ⟨rfl, rfl, rfl, by decide +kernel, rfl, by decide +kernel, by decide +kernel⟩
theorem sc_count_statement : FnScope N_count_statement ["thing", "place", "depth", "many"] (defScope S_count_statement) := ⟨rfl, rfl, rfl, by decide +kernel, rfl, by decide +kernel, by decide +kernel⟩
theorem ob_count_body (T : Tx w K mg) {r_count_body r_count_statement : List D → Sto → R D} {k : Nat} (hk : 2 ≤ k) (G_count_body : FnG P w K mg base k T.a_count_body T.e_count_body ["body", "before", "depth", "many"] (spM K mg 4 r_count_body)) (G_count_statement : FnG P w K mg base k T.a_count_statement T.e_count_statement ["thing", "place", "depth", "many"] (spM K mg 4 r_count_statement)) : FnG P w K mg base (k + 1) T.a_count_body T.e_count_body ["body", "before", "depth", "many"] (spM K mg 4 (fnM N_count_body.length (b_count_body r_count_body r_count_statement))) :=
  fn_ok2 T.F_count_body sc_count_body rfl fun cdv A outer s H E hr tk hp hN => ⟨_, show Ess _ _ _ _ (b_count_body r_count_body r_count_statement) from
  (ss_cons (es_if (et_cmp os_gt (ee_var 2) (ee_gint T.g_DEEPEST)) (ss_one (es_raise (by rfl) T.x_TooMany hr tk (ee_op os_add (ee_gint T.g_DEEPEST) ee_int))) ss_nil)
  (ss_cons (es_for FU hp (by rfl) (ei_en T.z_enumerate (ea_cons (ee_var 0) ea_nil)) (eg_tup (by rfl) (egs_cons (eg_name (i := 4) hN) (egs_cons (eg_name (i := 5) hN) egs_nil))) (ss_one (es_set (i := 3) hN (ee_call 4 G_count_statement hr tk T.M_count_statement T.F_count_statement.kp (kb_count_statement_4 T.F_count_statement) (ea_cons (ee_var 5) (ea_cons (ee_op os_add (ee_var 1) (ee_tup (ea_cons (ee_var 4) ea_nil))) (ea_cons (ee_var 2) (ea_cons (ee_var 3) ea_nil)))) ek_nil))))
  (ss_one (es_ret (ee_var 3)))))⟩
theorem ob_count_statement (T : Tx w K mg) {r_count_body r_count_statement : List D → Sto → R D} {k : Nat} (hk : 2 ≤ k) (G_count_body : FnG P w K mg base k T.a_count_body T.e_count_body ["body", "before", "depth", "many"] (spM K mg 4 r_count_body)) (G_count_statement : FnG P w K mg base k T.a_count_statement T.e_count_statement ["thing", "place", "depth", "many"] (spM K mg 4 r_count_statement)) : FnG P w K mg base (k + 1) T.a_count_statement T.e_count_statement ["thing", "place", "depth", "many"] (spM K mg 4 (fnM N_count_statement.length (b_count_statement r_count_body r_count_statement))) :=
  fn_ok2 T.F_count_statement sc_count_statement rfl fun cdv A outer s H E hr tk hp hN => ⟨_, show Ess _ _ _ _ (b_count_statement r_count_body r_count_statement) from
  (ss_cons (es_if (et_cmp (os_eq hr.room) (ee_var 3) (ee_gint T.g_MOST_STATEMENTS)) (ss_one (es_raise (by rfl) T.x_TooMany hr tk (ee_op os_add (ee_gint T.g_MOST_STATEMENTS) ee_int))) ss_nil)
  (ss_cons (es_if (et_not (et_truth (ee_call 1 ((ok_has_form T).mono (Nat.le_trans (by decide) hk)) hr tk T.M_has_form T.F_has_form.kp (kb_has_form_1 T.F_has_form) (ea_cons (ee_var 0) ea_nil) ek_nil))) (ss_one (es_raise (by rfl) T.x_BadProgram hr tk (ee_var 1))) ss_nil)
  (ss_cons (es_aug (i := 3) hN os_iadd ee_int)
  (ss_cons (es_for FU hp (by rfl) (ei_seq (ee_call 2 ((ok_bodies_at T).mono (Nat.le_trans (by decide) hk)) hr tk T.M_bodies_at T.F_bodies_at.kp (kb_bodies_at_2 T.F_bodies_at) (ea_cons (ee_var 1) (ea_cons (ee_var 0) ea_nil)) ek_nil)) (eg_tup (by rfl) (egs_cons (eg_name (i := 4) hN) (egs_cons (eg_name (i := 5) hN) egs_nil))) (ss_one (es_set (i := 3) hN (ee_call 4 G_count_body hr tk T.M_count_body T.F_count_body.kp (kb_count_body_4 T.F_count_body) (ea_cons (ee_var 4) (ea_cons (ee_var 5) (ea_cons (ee_op os_add (ee_var 2) ee_int) (ea_cons (ee_var 3) ea_nil)))) ek_nil))))
  (ss_one (es_ret (ee_var 3)))))))⟩
theorem of_count_body (T : Tx w K mg) : ∀ n, FnG P w K mg base (2 + n) T.a_count_body T.e_count_body ["body", "before", "depth", "many"] (spM K mg 4 (f_count_body n).1) ∧ FnG P w K mg base (2 + n) T.a_count_statement T.e_count_statement ["thing", "place", "depth", "many"] (spM K mg 4 (f_count_body n).2)
  | 0 => ⟨fn_no rfl, fn_no rfl⟩
  | n + 1 => by
    obtain ⟨h0, h1⟩ := of_count_body T n
    exact ⟨ob_count_body T (Nat.le_add_right _ _) h0 h1, ob_count_statement T (Nat.le_add_right _ _) h0 h1⟩
theorem ok_count_body (T : Tx w K mg) : FnG P w K mg base 18 T.a_count_body T.e_count_body ["body", "before", "depth", "many"] (spM K mg 4 m_count_body) := (of_count_body T 16).1
theorem ok_count_statement (T : Tx w K mg) : FnG P w K mg base 18 T.a_count_statement T.e_count_statement ["thing", "place", "depth", "many"] (spM K mg 4 m_count_statement) := (of_count_body T 16).2
theorem sc_made_program : FnScope N_made_program ["thing"] (defScope S_made_program) := ⟨rfl, rfl, rfl, by decide +kernel, rfl, by decide +kernel, by decide +kernel⟩
theorem ok_made_program (T : Tx w K mg) : FnG P w K mg base 19 T.a_made_program T.e_made_program ["thing"] (spM K mg 1 m_made_program) :=
  fn_ok2 (k := 18) T.F_made_program sc_made_program rfl fun cdv A outer s H E hr tk hp hN => ⟨_, show Ess _ _ _ _ b_made_program from
  (ss_cons (es_if (et_not (et_truth (ee_callB cs_isi T.z_isinstance (ea_cons (ee_var 0) (ea_cons (ee_ty T.z_tuple) ea_nil))))) (ss_one (es_raise (by rfl) T.x_BadProgram hr tk (ee_tup ea_nil))) ss_nil)
  (ss_cons (es_expr (ee_call 4 ((ok_count_body T).mono (by decide)) hr tk T.M_count_body T.F_count_body.kp (kb_count_body_4 T.F_count_body) (ea_cons (ee_var 0) (ea_cons (ee_tup ea_nil) (ea_cons ee_int (ea_cons ee_int ea_nil)))) ek_nil))
  (ss_one (es_ret (ee_var 0)))))⟩
theorem sc_is_number : FnScope N_is_number ["thing"] (defScope S_is_number) := ⟨rfl, rfl, rfl, by decide +kernel, rfl, by decide +kernel, by decide +kernel⟩
theorem ok_is_number (T : Tx w K mg) : FnG P w K mg base 1 T.a_is_number T.e_is_number ["thing"] (spM K mg 1 m_is_number) :=
  fn_ok2 (k := 0) T.F_is_number sc_is_number rfl fun cdv A outer s H E hr tk hp hN => ⟨_, show Ess _ _ _ _ b_is_number from
  (ss_one (es_ret (ee_and (ee_callB cs_isi T.z_isinstance (ea_cons (ee_var 0) (ea_cons (ee_ty T.z_int) ea_nil))) (ee_one1 (ee_not (ee_callB cs_isi T.z_isinstance (ea_cons (ee_var 0) (ea_cons (ee_ty T.z_bool) ea_nil))))))))⟩
theorem sc_is_row_of_numbers : FnScope N_is_row_of_numbers ["thing"] (defScope S_is_row_of_numbers) := ⟨rfl, rfl, rfl, by decide +kernel, rfl, by decide +kernel, by decide +kernel⟩
theorem ok_is_row_of_numbers (T : Tx w K mg) : FnG P w K mg base 2 T.a_is_row_of_numbers T.e_is_row_of_numbers ["thing"] (spM K mg 1 m_is_row_of_numbers) :=
  fn_ok2 (k := 1) T.F_is_row_of_numbers sc_is_row_of_numbers rfl fun cdv A outer s H E hr tk hp hN => ⟨_, show Ess _ _ _ _ b_is_row_of_numbers from
  (ss_one (es_ret (ee_and (ee_callB cs_isi T.z_isinstance (ea_cons (ee_var 0) (ea_cons (ee_ty T.z_tuple) ea_nil))) (ee_one1 (ee_callB (cs_all (by rfl)) T.z_all (ea_cons (ee_compK (own := [("part", 1)]) FU (by rfl) hN (ei_seq (ee_var 0)) (blkOk_by (own := [("part", 1)]) (N := N_is_row_of_numbers) (sc := defScope S_is_row_of_numbers) (by decide +kernel)) (fun _ _ _ _ _ => ⟨_, (eg_name (i := 1) hN)⟩) (fun _ _ _ _ _ => ⟨_, ets_nil⟩) (fun _ _ _ _ _ => ⟨_, (ee_call 1 ((ok_is_number T).mono (by decide)) hr takes0 T.M_is_number T.F_is_number.kp (kb_is_number_1 T.F_is_number) (ea_cons (ee_var 1) ea_nil) ek_nil)⟩)) ea_nil))))))⟩
theorem sc_places : FnScope N_places ["program"] (defScope S_places) := ⟨rfl, rfl, rfl, by decide +kernel, rfl, by decide +kernel, by decide +kernel⟩
theorem ok_places (T : Tx w K mg) : FnG P w K mg base 20 T.a_places T.e_places ["program"] (spM K mg 1 m_places) :=
  fn_ok2 (k := 19) T.F_places sc_places rfl fun cdv A outer s H E hr tk hp hN => ⟨_, show Ess _ _ _ _ b_places from
  (ss_cons (es_set (i := 1) hN (ee_call 1 ((ok_laid_out T).mono (by decide)) hr tk T.M_laid_out T.F_laid_out.kp (kb_laid_out_1 T.F_laid_out) (ea_cons (ee_call 1 ((ok_made_program T).mono (by decide)) hr tk T.M_made_program T.F_made_program.kp (kb_made_program_1 T.F_made_program) (ea_cons (ee_var 0) ea_nil) ek_nil) ea_nil) ek_nil))
  (ss_one (es_ret (ee_tup (ea_star (ee_callTy (cs_listA (by rfl)) T.z_list (ea_cons (ee_var 1) ea_nil)) (ea_cons (ee_call 1 ((ok_end_of T).mono (by decide)) hr tk T.M_end_of T.F_end_of.kp (kb_end_of_1 T.F_end_of) (ea_cons (ee_var 0) ea_nil) ek_nil) ea_nil))))))⟩
theorem sc_next_place : FnScope N_next_place ["program", "place"] (defScope S_next_place) := ⟨rfl, rfl, rfl, by decide +kernel, rfl, by decide +kernel, by decide +kernel⟩
theorem ok_next_place (T : Tx w K mg) : FnG P w K mg base 20 T.a_next_place T.e_next_place ["program", "place"] (spM K mg 2 m_next_place) :=
  fn_ok2 (k := 19) T.F_next_place sc_next_place rfl fun cdv A outer s H E hr tk hp hN => ⟨_, show Ess _ _ _ _ b_next_place from
  (ss_cons (es_set (i := 2) hN (ee_call 1 ((ok_laid_out T).mono (by decide)) hr tk T.M_laid_out T.F_laid_out.kp (kb_laid_out_1 T.F_laid_out) (ea_cons (ee_call 1 ((ok_made_program T).mono (by decide)) hr tk T.M_made_program T.F_made_program.kp (kb_made_program_1 T.F_made_program) (ea_cons (ee_var 0) ea_nil) ek_nil) ea_nil) ek_nil))
  (ss_cons (es_if (Ew.et (ew_or (et_not (et_truth (ee_call 1 ((ok_is_row_of_numbers T).mono (by decide)) hr tk T.M_is_row_of_numbers T.F_is_row_of_numbers.kp (kb_is_row_of_numbers_1 T.F_is_row_of_numbers) (ea_cons (ee_var 1) ea_nil) ek_nil))) (ew_or1 (et_cmp (os_notin hr.room) (ee_var 1) (ee_var 2))))) (ss_one (es_raise (by rfl) T.x_BadPlace hr tk (ee_var 1))) ss_nil)
  (ss_cons (es_asg (ee_ix hr.room (ee_var 2) (ee_var 1)) (eg_tup (by rfl) (egs_cons (eg_name (i := 3) hN) (egs_cons (eg_name (i := 4) hN) egs_nil))))
  (ss_cons (es_if (et_cmp (os_in hr.room) (ee_ix hr.room (ee_var 3) ee_int) (ee_gkt T.g_BRANCHES T.k_BRANCHES)) (ss_one (es_raise (by rfl) T.x_BadPlace hr tk (ee_var 1))) ss_nil)
  (ss_one (es_ret (ee_var 4)))))))⟩
theorem sc__law_pool : FnScope N__law_pool ["script", "k"] (defScope S__law_pool) := ⟨rfl, rfl, rfl, by decide +kernel, rfl, by decide +kernel, by decide +kernel⟩
theorem ok__law_pool (T : Tx w K mg) : FnG P w K mg base 1 T.a__law_pool T.e__law_pool ["script", "k"] (spM K mg 2 m__law_pool) :=
  fn_ok2 (k := 0) T.F__law_pool sc__law_pool rfl fun cdv A outer s H E hr tk hp hN => ⟨_, show Ess _ _ _ _ b__law_pool from
  (ss_cons (es_set (i := 2) hN ee_int)
  (ss_cons (es_if (et_cmp os_lt (ee_var 1) (ee_callB cs_len T.z_len (ea_cons (ee_var 0) ea_nil))) (ss_one (es_set (i := 2) hN (ee_ix hr.room (ee_var 0) (ee_var 1)))) (ss_one (es_if (et_truth (ee_var 0)) (ss_one (es_set (i := 2) hN (ee_ix hr.room (ee_var 0) ee_int))) ss_nil)))
  (ss_cons (es_set (i := 3) hN (ee_callB (cs_max (by rfl)) T.z_max (ea_cons (ee_callTy cs_int T.z_int (ea_cons (ee_var 2) ea_nil)) (ea_cons (ee_callTy cs_int T.z_int (ea_cons (ee_op os_sub (ee_neg ee_int) (ee_var 2)) ea_nil)) ea_nil))))
  (ss_cons (es_set (i := 4) hN (ee_op os_mod (ee_callTy cs_int T.z_int (ea_cons (ee_op os_mul (ee_op os_add (ee_op os_add (ee_op os_add (ee_op os_mod (ee_callTy cs_int T.z_int (ea_cons (ee_var 3) ea_nil)) ee_int) (ee_op os_mul (ee_op os_mul ee_int (ee_var 1)) (ee_var 1))) (ee_op os_mul ee_int (ee_var 1))) ee_int) ee_int) ea_nil)) ee_int))
  (ss_one (es_ret (ee_lst (ea_cons (ee_op os_mul (ee_var 3) (ee_callTy cs_int T.z_int (ea_cons (ee_cmp os_ge (ee_var 3) (ee_op os_pow ee_int ee_int)) ea_nil))) (ea_cons (ee_var 4) ea_nil)))))))))⟩
theorem sc__law_take : FnScope N__law_take ["source", "top"] (defScope S__law_take) := ⟨rfl, rfl, rfl, by decide +kernel, rfl, by decide +kernel, by decide +kernel⟩
theorem ok__law_take (T : Tx w K mg) : FnG P w K mg base 1 T.a__law_take T.e__law_take ["source", "top"] (spM K mg 2 m__law_take) :=
  fn_ok2 (k := 0) T.F__law_take sc__law_take rfl fun cdv A outer s H E hr tk hp hN => ⟨_, show Ess _ _ _ _ b__law_take from
  (ss_cons (es_if (et_cmp os_gt (ee_ix hr.room (ee_var 0) ee_int) ee_int) (ss_cons (es_set (i := 2) hN (ee_op os_mod (ee_callTy cs_int T.z_int (ea_cons (ee_ix hr.room (ee_var 0) ee_int) ea_nil)) (ee_var 1)))
  (ss_cons (es_asg (ee_op os_div (ee_ix hr.room (ee_var 0) ee_int) (ee_var 1)) (eg_sub hr (ee_var 0) ee_int))
  (ss_one (es_ret (ee_var 2))))) ss_nil)
  (ss_cons (es_asg (ee_op os_mod (ee_callTy cs_int T.z_int (ea_cons (ee_op os_add (ee_op os_mul (ee_ix hr.room (ee_var 0) ee_int) ee_int) ee_int) ea_nil)) ee_int) (eg_sub hr (ee_var 0) ee_int))
  (ss_one (es_ret (ee_op os_mod (ee_callTy cs_int T.z_int (ea_cons (ee_op os_div (ee_op os_mod (ee_callTy cs_int T.z_int (ea_cons (ee_op os_mul (ee_ix hr.room (ee_var 0) ee_int) (ee_ix hr.room (ee_var 0) ee_int)) ea_nil)) ee_int) ee_int) ea_nil)) (ee_var 1))))))⟩
theorem sc__law_one : FnScope N__law_one ["source", "things"] (defScope S__law_one) := ⟨rfl, rfl, rfl, by decide +kernel, rfl, by decide +kernel, by decide +kernel⟩
theorem ok__law_one (T : Tx w K mg) : FnG P w K mg base 2 T.a__law_one T.e__law_one ["source", "things"] (spM K mg 2 m__law_one) :=
  fn_ok2 (k := 1) T.F__law_one sc__law_one rfl fun cdv A outer s H E hr tk hp hN => ⟨_, show Ess _ _ _ _ b__law_one from
  (ss_one (es_ret (ee_ix hr.room (ee_var 1) (ee_call 2 ((ok__law_take T).mono (by decide)) hr tk T.M__law_take T.F__law_take.kp (kb__law_take_2 T.F__law_take) (ea_cons (ee_var 0) (ea_cons (ee_callB cs_len T.z_len (ea_cons (ee_var 1) ea_nil)) ea_nil)) ek_nil))))⟩
theorem sc__law_plain : FnScope N__law_plain ["source", "own_names", "piles"] (defScope S__law_plain) := ⟨rfl, rfl, rfl, by decide +kernel, rfl, by decide +kernel, by decide +kernel⟩
theorem ok__law_plain (T : Tx w K mg) : FnG P w K mg base 3 T.a__law_plain T.e__law_plain ["source", "own_names", "piles"] (spM K mg 3 m__law_plain) :=
  fn_ok2 (k := 2) T.F__law_plain sc__law_plain rfl fun cdv A outer s H E hr tk hp hN => ⟨_, show Ess _ _ _ _ b__law_plain from
  (ss_cons (es_set (i := 3) hN (ee_call 2 ((ok__law_take T).mono (by decide)) hr tk T.M__law_take T.F__law_take.kp (kb__law_take_2 T.F__law_take) (ea_cons (ee_var 0) (ea_cons ee_int ea_nil)) ek_nil))
  (ss_cons (es_par3' (i := 4) (j := 5) (l := 6) (by rfl) hN (ea_cons (ee_call 2 ((ok__law_one T).mono (by decide)) hr tk T.M__law_one T.F__law_one.kp (kb__law_one_2 T.F__law_one) (ea_cons (ee_var 0) (ea_cons (ee_var 1) ea_nil)) ek_nil) (ea_cons (ee_call 2 ((ok__law_one T).mono (by decide)) hr tk T.M__law_one T.F__law_one.kp (kb__law_one_2 T.F__law_one) (ea_cons (ee_var 0) (ea_cons (ee_var 1) ea_nil)) ek_nil) (ea_cons (ee_call 2 ((ok__law_one T).mono (by decide)) hr tk T.M__law_one T.F__law_one.kp (kb__law_one_2 T.F__law_one) (ea_cons (ee_var 0) (ea_cons (ee_var 2) ea_nil)) ek_nil) ea_nil))))
  (ss_cons (es_if (et_cmp os_lt (ee_var 3) ee_int) (ss_one (es_ret (ee_tup (ea_cons ee_str (ea_cons (ee_var 4) ea_nil))))) ss_nil)
  (ss_cons (es_if (et_cmp os_lt (ee_var 3) ee_int) (ss_one (es_ret (ee_tup (ea_cons ee_str (ea_cons (ee_var 4) (ea_cons (ee_var 6) ea_nil)))))) ss_nil)
  (ss_cons (es_if (et_cmp os_lt (ee_var 3) ee_int) (ss_one (es_ret (ee_tup (ea_cons ee_str (ea_cons (ee_var 6) (ea_cons (ee_var 4) ea_nil)))))) ss_nil)
  (ss_cons (es_if (et_cmp (os_eq hr.room) (ee_var 3) ee_int) (ss_one (es_ret (ee_tup (ea_cons ee_str (ea_cons (ee_var 4) (ea_cons (ee_var 5) ea_nil)))))) ss_nil)
  (ss_one (es_ret (ee_if (et_cmp (os_eq hr.room) (ee_var 3) ee_int) (ee_tup (ea_cons ee_str (ea_cons (ee_var 4) ea_nil))) (ee_tup (ea_cons ee_str (ea_cons (ee_call 2 ((ok__law_one T).mono (by decide)) hr tk T.M__law_one T.F__law_one.kp (kb__law_one_2 T.F__law_one) (ea_cons (ee_var 0) (ea_cons (ee_lst (ea_cons ee_str (ea_cons ee_str (ea_cons ee_str ea_nil)))) ea_nil)) ek_nil) (ea_cons (ee_var 4) ea_nil)))))))))))))⟩
theorem sc__law_body : FnScope N__law_body ["source", "many", "deep", "own_names", "piles"] (defScope S__law_body) := ⟨rfl, rfl, rfl, by decide +kernel, rfl, by decide +kernel, by decide +kernel⟩
theorem ob__law_body (T : Tx w K mg) {r__law_body : List D → Sto → R D} {k : Nat} (hk : 3 ≤ k) (G__law_body : FnG P w K mg base k T.a__law_body T.e__law_body ["source", "many", "deep", "own_names", "piles"] (spM K mg 5 r__law_body)) : FnG P w K mg base (k + 1) T.a__law_body T.e__law_body ["source", "many", "deep", "own_names", "piles"] (spM K mg 5 (fnM N__law_body.length (b__law_body r__law_body))) :=
  fn_ok2 T.F__law_body sc__law_body rfl fun cdv A outer s H E hr tk hp hN => ⟨_, show Ess _ _ _ _ (b__law_body r__law_body) from
  (ss_cons (es_par (i := 5) (j := 6) (by rfl) hN (ea_cons (ee_lst ea_nil) (ea_cons (ee_var 1) ea_nil)))
  (ss_cons (es_while FU hp (et_cmp os_gt (ee_var 6) ee_int) (ss_cons (es_set (i := 6) hN (ee_op os_sub (ee_var 6) ee_int))
  (ss_cons (es_set (i := 7) hN (ee_if (Ew.et (ew_and (et_cmp os_gt (ee_var 2) ee_int) (ew_and1 (et_cmp os_gt (ee_var 6) ee_int)))) (ee_call 2 ((ok__law_take T).mono (Nat.le_trans (by decide) hk)) hr tk T.M__law_take T.F__law_take.kp (kb__law_take_2 T.F__law_take) (ea_cons (ee_var 0) (ea_cons ee_int ea_nil)) ek_nil) ee_int))
  (ss_cons (es_set (i := 8) hN (ee_callB (cs_min (by rfl)) T.z_min (ea_cons (ee_var 6) (ea_cons (ee_call 2 ((ok__law_one T).mono (Nat.le_trans (by decide) hk)) hr tk T.M__law_one T.F__law_one.kp (kb__law_one_2 T.F__law_one) (ea_cons (ee_var 0) (ea_cons (ee_lst (ea_cons ee_int (ea_cons ee_int (ea_cons ee_int (ea_cons ee_int (ea_cons ee_int ea_nil)))))) ea_nil)) ek_nil) ea_nil))))
  (ss_one (es_if (et_cmp (os_eq hr.room) (ee_var 7) ee_int) (ss_cons (es_expr (ee_app (ee_var 5) (ee_tup (ea_cons ee_str (ea_cons (ee_call 5 G__law_body hr tk T.M__law_body T.F__law_body.kp (kb__law_body_5 T.F__law_body) (ea_cons (ee_var 0) (ea_cons (ee_var 8) (ea_cons (ee_op os_sub (ee_var 2) ee_int) (ea_cons (ee_var 3) (ea_cons (ee_var 4) ea_nil))))) ek_nil) ea_nil)))))
  (ss_one (es_set (i := 6) hN (ee_op os_sub (ee_var 6) (ee_var 8))))) (ss_one (es_if (et_cmp (os_eq hr.room) (ee_var 7) ee_int) (ss_cons (es_set (i := 9) hN (ee_callB (cs_min (by rfl)) T.z_min (ea_cons (ee_op os_sub (ee_var 6) (ee_var 8)) (ea_cons (ee_call 2 ((ok__law_take T).mono (Nat.le_trans (by decide) hk)) hr tk T.M__law_take T.F__law_take.kp (kb__law_take_2 T.F__law_take) (ea_cons (ee_var 0) (ea_cons ee_int ea_nil)) ek_nil) ea_nil))))
  (ss_cons (es_set (i := 10) hN (ee_call 5 G__law_body hr tk T.M__law_body T.F__law_body.kp (kb__law_body_5 T.F__law_body) (ea_cons (ee_var 0) (ea_cons (ee_var 8) (ea_cons (ee_op os_sub (ee_var 2) ee_int) (ea_cons (ee_var 3) (ea_cons (ee_var 4) ea_nil))))) ek_nil))
  (ss_cons (es_expr (ee_app (ee_var 5) (ee_tup (ea_cons ee_str (ea_cons (ee_var 10) (ea_cons (ee_call 5 G__law_body hr tk T.M__law_body T.F__law_body.kp (kb__law_body_5 T.F__law_body) (ea_cons (ee_var 0) (ea_cons (ee_var 9) (ea_cons (ee_op os_sub (ee_var 2) ee_int) (ea_cons (ee_var 3) (ea_cons (ee_var 4) ea_nil))))) ek_nil) ea_nil))))))
  (ss_one (es_set (i := 6) hN (ee_op os_sub (ee_op os_sub (ee_var 6) (ee_var 8)) (ee_var 9))))))) (ss_one (es_expr (ee_app (ee_var 5) (ee_call 3 ((ok__law_plain T).mono (Nat.le_trans (by decide) hk)) hr tk T.M__law_plain T.F__law_plain.kp (kb__law_plain_3 T.F__law_plain) (ea_cons (ee_var 0) (ea_cons (ee_var 3) (ea_cons (ee_var 4) ea_nil))) ek_nil))))))))))))
  (ss_one (es_ret (ee_callTy cs_tuple T.z_tuple (ea_cons (ee_var 5) ea_nil))))))⟩
theorem of__law_body (T : Tx w K mg) : ∀ n, FnG P w K mg base (3 + n) T.a__law_body T.e__law_body ["source", "many", "deep", "own_names", "piles"] (spM K mg 5 (f__law_body n))
  | 0 => fn_no rfl
  | n + 1 => ob__law_body T (Nat.le_add_right _ _) (of__law_body T n)
theorem ok__law_body (T : Tx w K mg) : FnG P w K mg base 19 T.a__law_body T.e__law_body ["source", "many", "deep", "own_names", "piles"] (spM K mg 5 m__law_body) := of__law_body T 16
theorem sc__law_program : FnScope N__law_program ["source", "most"] (defScope S__law_program) := ⟨rfl, rfl, rfl, by decide +kernel, rfl, by decide +kernel, by decide +kernel⟩
theorem ok__law_program (T : Tx w K mg) : FnG P w K mg base 20 T.a__law_program T.e__law_program ["source", "most"] (spM K mg 2 m__law_program) :=
  fn_ok2 (k := 19) T.F__law_program sc__law_program rfl fun cdv A outer s H E hr tk hp hN => ⟨_, show Ess _ _ _ _ b__law_program from
  (ss_cons (es_par (i := 2) (j := 3) (by rfl) hN (ea_cons (ee_call 2 ((ok__law_one T).mono (by decide)) hr tk T.M__law_one T.F__law_one.kp (kb__law_one_2 T.F__law_one) (ea_cons (ee_var 0) (ea_cons (ee_lst (ea_cons (ee_tup (ea_cons ee_str (ea_cons ee_str ea_nil))) (ea_cons (ee_tup (ea_cons ee_str (ea_cons ee_str ea_nil))) (ea_cons (ee_tup (ea_cons ee_str (ea_cons ee_str (ea_cons ee_str ea_nil)))) (ea_cons (ee_tup (ea_cons ee_str ea_nil)) (ea_cons (ee_tup (ea_cons ee_str (ea_cons ee_str (ea_cons ee_str (ea_cons ee_str ea_nil))))) ea_nil)))))) ea_nil)) ek_nil) (ea_cons (ee_call 2 ((ok__law_one T).mono (by decide)) hr tk T.M__law_one T.F__law_one.kp (kb__law_one_2 T.F__law_one) (ea_cons (ee_var 0) (ea_cons (ee_lst (ea_cons (ee_tup (ea_cons ee_str ea_nil)) (ea_cons (ee_tup (ea_cons ee_str (ea_cons ee_str ea_nil))) ea_nil))) ea_nil)) ek_nil) ea_nil)))
  (ss_one (es_ret (ee_call 5 ((ok__law_body T).mono (by decide)) hr tk T.M__law_body T.F__law_body.kp (kb__law_body_5 T.F__law_body) (ea_cons (ee_var 0) (ea_cons (ee_callB (cs_min (by rfl)) T.z_min (ea_cons (ee_var 1) (ea_cons (ee_op os_add ee_int (ee_call 2 ((ok__law_take T).mono (by decide)) hr tk T.M__law_take T.F__law_take.kp (kb__law_take_2 T.F__law_take) (ea_cons (ee_var 0) (ea_cons (ee_var 1) ea_nil)) ek_nil)) ea_nil))) (ea_cons ee_int (ea_cons (ee_var 2) (ea_cons (ee_var 3) ea_nil))))) ek_nil))))⟩
theorem sc__law_leads : FnScope N__law_leads ["body", "ahead", "after"] (defScope S__law_leads) := ⟨rfl, rfl, rfl, by decide +kernel, rfl, by decide +kernel, by decide +kernel⟩
theorem ob__law_leads (T : Tx w K mg) {r__law_leads : List D → Sto → R D} {k : Nat} (hk : 0 ≤ k) (G__law_leads : FnG P w K mg base k T.a__law_leads T.e__law_leads ["body", "ahead", "after"] (spM K mg 3 r__law_leads)) : FnG P w K mg base (k + 1) T.a__law_leads T.e__law_leads ["body", "ahead", "after"] (spM K mg 3 (fnM N__law_leads.length (b__law_leads r__law_leads))) :=
  fn_ok2 T.F__law_leads sc__law_leads rfl fun cdv A outer s H E hr tk hp hN => ⟨_, show Ess _ _ _ _ (b__law_leads r__law_leads) from
  (ss_cons (es_set (i := 3) hN ee_dnewT)
  (ss_cons (es_for FU hp (by rfl) (ei_r1 T.z_range (ea_cons (ee_callB cs_len T.z_len (ea_cons (ee_var 0) ea_nil)) ea_nil)) (eg_name (i := 4) hN) (ss_cons (es_par (i := 5) (j := 6) (by rfl) hN (ea_cons (ee_op os_add (ee_var 1) (ee_tup (ea_cons (ee_var 4) ea_nil))) (ea_cons (ee_ix hr.room (ee_var 0) (ee_var 4)) ea_nil)))
  (ss_cons (es_set (i := 7) hN (ee_if (et_cmp os_lt (ee_op os_add (ee_var 4) ee_int) (ee_callB cs_len T.z_len (ea_cons (ee_var 0) ea_nil))) (ee_op os_add (ee_var 1) (ee_tup (ea_cons (ee_op os_add (ee_var 4) ee_int) ea_nil))) (ee_var 2)))
  (ss_one (es_if (et_cmp (os_eq hr.room) (ee_ix hr.room (ee_var 6) ee_int) ee_str) (ss_cons (es_asg (ee_tup (ea_cons (ee_var 6) (ea_cons (ee_var 7) (ea_cons (ee_if (et_cmp (os_ne hr.room) (ee_ix hr.room (ee_var 6) ee_int) (ee_tup ea_nil)) (ee_op os_add (ee_var 5) (ee_tup (ea_cons ee_int ea_nil))) (ee_var 5)) ea_nil)))) (eg_sub hr (ee_var 3) (ee_var 5)))
  (ss_one (es_expr (ee_upd hr (ee_var 3) (ee_call 3 G__law_leads hr tk T.M__law_leads T.F__law_leads.kp (kb__law_leads_3 T.F__law_leads) (ea_cons (ee_ix hr.room (ee_var 6) ee_int) (ea_cons (ee_var 5) (ea_cons (ee_var 5) ea_nil))) ek_nil))))) (ss_one (es_if (et_cmp (os_eq hr.room) (ee_ix hr.room (ee_var 6) ee_int) ee_str) (ss_cons (es_asg (ee_tup (ea_cons (ee_var 6) (ea_cons (ee_if (et_cmp (os_ne hr.room) (ee_ix hr.room (ee_var 6) ee_int) (ee_tup ea_nil)) (ee_op os_add (ee_var 5) (ee_tup (ea_cons ee_int (ea_cons ee_int ea_nil)))) (ee_var 7)) (ea_cons (ee_if (et_cmp (os_ne hr.room) (ee_ix hr.room (ee_var 6) ee_int) (ee_tup ea_nil)) (ee_op os_add (ee_var 5) (ee_tup (ea_cons ee_int (ea_cons ee_int ea_nil)))) (ee_var 7)) ea_nil)))) (eg_sub hr (ee_var 3) (ee_var 5)))
  (ss_cons (es_expr (ee_upd hr (ee_var 3) (ee_call 3 G__law_leads hr tk T.M__law_leads T.F__law_leads.kp (kb__law_leads_3 T.F__law_leads) (ea_cons (ee_ix hr.room (ee_var 6) ee_int) (ea_cons (ee_op os_add (ee_var 5) (ee_tup (ea_cons ee_int ea_nil))) (ea_cons (ee_var 7) ea_nil))) ek_nil)))
  (ss_one (es_expr (ee_upd hr (ee_var 3) (ee_call 3 G__law_leads hr tk T.M__law_leads T.F__law_leads.kp (kb__law_leads_3 T.F__law_leads) (ea_cons (ee_ix hr.room (ee_var 6) ee_int) (ea_cons (ee_op os_add (ee_var 5) (ee_tup (ea_cons ee_int ea_nil))) (ea_cons (ee_var 7) ea_nil))) ek_nil)))))) (ss_one (es_asg (ee_tup (ea_cons (ee_var 6) (ea_cons (ee_var 7) (ea_cons (ee_var 7) ea_nil)))) (eg_sub hr (ee_var 3) (ee_var 5)))))))))))
  (ss_one (es_ret (ee_var 3)))))⟩
theorem of__law_leads (T : Tx w K mg) : ∀ n, FnG P w K mg base (0 + n) T.a__law_leads T.e__law_leads ["body", "ahead", "after"] (spM K mg 3 (f__law_leads n))
  | 0 => fn_no rfl
  | n + 1 => ob__law_leads T (Nat.le_add_right _ _) (of__law_leads T n)
theorem ok__law_leads (T : Tx w K mg) : FnG P w K mg base 16 T.a__law_leads T.e__law_leads ["body", "ahead", "after"] (spM K mg 3 m__law_leads) := of__law_leads T 16
theorem sc__law_order : FnScope N__law_order ["body", "ahead"] (defScope S__law_order) := ⟨rfl, rfl, rfl, by decide +kernel, rfl, by decide +kernel, by decide +kernel⟩
theorem ob__law_order (T : Tx w K mg) {r__law_order : List D → Sto → R D} {k : Nat} (hk : 0 ≤ k) (G__law_order : FnG P w K mg base k T.a__law_order T.e__law_order ["body", "ahead"] (spM K mg 2 r__law_order)) : FnG P w K mg base (k + 1) T.a__law_order T.e__law_order ["body", "ahead"] (spM K mg 2 (fnM N__law_order.length (b__law_order r__law_order))) :=
  fn_ok2 T.F__law_order sc__law_order rfl fun cdv A outer s H E hr tk hp hN => ⟨_, show Ess _ _ _ _ (b__law_order r__law_order) from
  (ss_cons (es_set (i := 2) hN (ee_lst ea_nil))
  (ss_cons (es_for FU hp (by rfl) (ei_r1 T.z_range (ea_cons (ee_callB cs_len T.z_len (ea_cons (ee_var 0) ea_nil)) ea_nil)) (eg_name (i := 3) hN) (ss_cons (es_par (i := 4) (j := 5) (by rfl) hN (ea_cons (ee_op os_add (ee_var 1) (ee_tup (ea_cons (ee_var 3) ea_nil))) (ea_cons (ee_ix hr.room (ee_var 0) (ee_var 3)) ea_nil)))
  (ss_cons (es_expr (ee_app (ee_var 2) (ee_var 4)))
  (ss_one (es_if (et_cmp (os_eq hr.room) (ee_ix hr.room (ee_var 5) ee_int) ee_str) (ss_one (es_set (i := 2) hN (ee_op os_add (ee_var 2) (ee_call 2 G__law_order hr tk T.M__law_order T.F__law_order.kp (kb__law_order_2 T.F__law_order) (ea_cons (ee_ix hr.room (ee_var 5) ee_int) (ea_cons (ee_var 4) ea_nil)) ek_nil)))) (ss_one (es_if (et_cmp (os_eq hr.room) (ee_ix hr.room (ee_var 5) ee_int) ee_str) (ss_one (es_set (i := 2) hN (ee_op os_add (ee_op os_add (ee_var 2) (ee_call 2 G__law_order hr tk T.M__law_order T.F__law_order.kp (kb__law_order_2 T.F__law_order) (ea_cons (ee_ix hr.room (ee_var 5) ee_int) (ea_cons (ee_op os_add (ee_var 4) (ee_tup (ea_cons ee_int ea_nil))) ea_nil)) ek_nil)) (ee_call 2 G__law_order hr tk T.M__law_order T.F__law_order.kp (kb__law_order_2 T.F__law_order) (ea_cons (ee_ix hr.room (ee_var 5) ee_int) (ea_cons (ee_op os_add (ee_var 4) (ee_tup (ea_cons ee_int ea_nil))) ea_nil)) ek_nil)))) ss_nil)))))))
  (ss_one (es_ret (ee_var 2)))))⟩
theorem of__law_order (T : Tx w K mg) : ∀ n, FnG P w K mg base (0 + n) T.a__law_order T.e__law_order ["body", "ahead"] (spM K mg 2 (f__law_order n))
  | 0 => fn_no rfl
  | n + 1 => ob__law_order T (Nat.le_add_right _ _) (of__law_order T n)
theorem ok__law_order (T : Tx w K mg) : FnG P w K mg base 16 T.a__law_order T.e__law_order ["body", "ahead"] (spM K mg 2 m__law_order) := of__law_order T 16
theorem sc__law_told : FnScope N__law_told ["program", "place"] (defScope S__law_told) := ⟨rfl, rfl, rfl, by decide +kernel, rfl, by decide +kernel, by decide +kernel⟩
theorem ok__law_told (T : Tx w K mg) : FnG P w K mg base 21 T.a__law_told T.e__law_told ["program", "place"] (spM K mg 2 m__law_told) :=
  fn_ok2 (k := 20) T.F__law_told sc__law_told rfl fun cdv A outer s H E hr tk hp hN => ⟨_, show Ess _ _ _ _ b__law_told from
  (ss_one (es_try (by rfl) (by rfl) hN tk T.low (fun _ _ _ tk hp => ⟨_, (ss_one (es_ret (ee_call0 2 ((ok_next_place T).mono (by decide)) hr tk T.M_next_place T.F_next_place.kp (kb_next_place_0_place_program T.F_next_place) (ek_cons (ee_var 1) (ek_cons (ee_var 0) ek_nil)))))⟩)
  (HdsM.cons ⟨rfl, by decide, Or.inl T.x_BadPlace.gC⟩ T.y_BadPlace (Or.inr ⟨_, 2, rfl, rfl, rfl, rfl⟩) (hs_ret (eh_tup (eah_cons (eh_lift fun _ _ => ee_str) (eah_cons eh_what eah_nil))))
  (HdsM.cons ⟨rfl, by decide, Or.inl T.x_Refused.gC⟩ T.y_Refused (Or.inr ⟨_, 2, rfl, rfl, rfl, rfl⟩) (hs_ret (eh_tup (eah_cons (eh_lift fun _ _ => ee_str) (eah_cons eh_what eah_nil))))
  HdsM.nil))))⟩
theorem sc__law_right : FnScope N__law_right ["source"] (defScope S__law_right) := ⟨rfl, rfl, rfl, by decide +kernel, rfl, by decide +kernel, by decide +kernel⟩
theorem ok__law_right (T : Tx w K mg) : FnG P w K mg base 22 T.a__law_right T.e__law_right ["source"] (spM K mg 1 m__law_right) :=
  fn_ok2 (k := 21) T.F__law_right sc__law_right rfl fun cdv A outer s H E hr tk hp hN => ⟨_, show Ess _ _ _ _ b__law_right from
  (ss_cons (es_set (i := 1) hN (ee_call 2 ((ok__law_program T).mono (by decide)) hr tk T.M__law_program T.F__law_program.kp (kb__law_program_2 T.F__law_program) (ea_cons (ee_var 0) (ea_cons ee_int ea_nil)) ek_nil))
  (ss_cons (es_if (et_cmp (os_eq hr.room) (ee_call 2 ((ok__law_take T).mono (by decide)) hr tk T.M__law_take T.F__law_take.kp (kb__law_take_2 T.F__law_take) (ea_cons (ee_var 0) (ea_cons ee_int ea_nil)) ek_nil) ee_int) (ss_one (es_set (i := 1) hN (ee_call 2 ((ok__law_one T).mono (by decide)) hr tk T.M__law_one T.F__law_one.kp (kb__law_one_2 T.F__law_one) (ea_cons (ee_var 0) (ea_cons (ee_lst (ea_cons (ee_tup ea_nil) (ea_cons (ee_tup (ea_cons (ee_tup (ea_cons ee_str (ea_cons (ee_tup ea_nil) ea_nil))) ea_nil)) (ea_cons (ee_tup (ea_cons (ee_tup (ea_cons ee_str (ea_cons (ee_tup ea_nil) (ea_cons (ee_tup ea_nil) ea_nil)))) (ea_cons (ee_tup (ea_cons ee_str (ea_cons (ee_tup (ea_cons (ee_tup (ea_cons ee_str (ea_cons (ee_tup ea_nil) ea_nil))) ea_nil)) ea_nil))) ea_nil))) ea_nil)))) ea_nil)) ek_nil))) ss_nil)
  (ss_cons (es_par (i := 2) (j := 3) (by rfl) hN (ea_cons (ee_call 2 ((ok__law_order T).mono (by decide)) hr tk T.M__law_order T.F__law_order.kp (kb__law_order_2 T.F__law_order) (ea_cons (ee_var 1) (ea_cons (ee_tup ea_nil) ea_nil)) ek_nil) (ea_cons (ee_call 3 ((ok__law_leads T).mono (by decide)) hr tk T.M__law_leads T.F__law_leads.kp (kb__law_leads_3 T.F__law_leads) (ea_cons (ee_var 1) (ea_cons (ee_tup ea_nil) (ea_cons (ee_tup (ea_cons (ee_callB cs_len T.z_len (ea_cons (ee_var 1) ea_nil)) ea_nil)) ea_nil))) ek_nil) ea_nil)))
  (ss_cons (es_if (et_cmp (os_ne hr.room) (ee_call0 1 ((ok_places T).mono (by decide)) hr tk T.M_places T.F_places.kp (kb_places_0_program T.F_places) (ek_cons (ee_var 1) ek_nil)) (ee_op os_add (ee_callTy cs_tuple T.z_tuple (ea_cons (ee_var 2) ea_nil)) (ee_tup (ea_cons (ee_tup (ea_cons (ee_callB cs_len T.z_len (ea_cons (ee_var 1) ea_nil)) ea_nil)) ea_nil)))) (ss_one (es_ret ee_bl)) ss_nil)
  (ss_cons (es_for FU hp (by rfl) (ei_seq (ee_var 2)) (eg_name (i := 4) hN) (ss_cons (es_set (i := 5) hN (ee_if (et_cmp (os_in hr.room) (ee_ix hr.room (ee_ix hr.room (ee_ix hr.room (ee_var 3) (ee_var 4)) ee_int) ee_int) (ee_tup (ea_cons ee_str (ea_cons ee_str ea_nil)))) (ee_tup (ea_cons ee_str (ea_cons (ee_var 4) ea_nil))) (ee_ix hr.room (ee_ix hr.room (ee_var 3) (ee_var 4)) ee_int)))
  (ss_one (es_if (et_cmp (os_ne hr.room) (ee_call 2 ((ok__law_told T).mono (by decide)) hr tk T.M__law_told T.F__law_told.kp (kb__law_told_2 T.F__law_told) (ea_cons (ee_var 1) (ea_cons (ee_var 4) ea_nil)) ek_nil) (ee_var 5)) (ss_one (es_ret ee_bl)) ss_nil))))
  (ss_cons (es_set (i := 6) hN (ee_lst (ea_cons (ee_tup (ea_cons (ee_callB cs_len T.z_len (ea_cons (ee_var 1) ea_nil)) ea_nil)) (ea_cons (ee_tup ea_nil) (ea_cons (ee_tup (ea_cons (ee_neg ee_int) ea_nil)) (ea_cons (ee_tup (ea_cons (ee_op os_add (ee_callB cs_len T.z_len (ea_cons (ee_var 1) ea_nil)) ee_int) ea_nil)) (ea_cons ee_int (ea_cons ee_str (ea_cons (ee_tup (ea_cons ee_str ea_nil)) (ea_cons (ee_tup (ea_cons ee_int (ea_cons ee_int (ea_cons ee_int (ea_cons ee_int (ea_cons ee_int ea_nil)))))) (ea_cons (ee_tup (ea_cons ee_int (ea_cons ee_int (ea_cons ee_int ea_nil)))) (ea_cons (ee_tup (ea_cons ee_bl ea_nil)) (ea_cons (ee_tup (ea_cons (ee_tup (ea_cons ee_int ea_nil)) ea_nil)) ea_nil)))))))))))))
  (ss_cons (es_for FU hp (by rfl) (ei_seq (ee_lst (ea_cons (ee_call 2 ((ok__law_one T).mono (by decide)) hr tk T.M__law_one T.F__law_one.kp (kb__law_one_2 T.F__law_one) (ea_cons (ee_var 0) (ea_cons (ee_var 6) ea_nil)) ek_nil) (ea_cons (ee_call 2 ((ok__law_one T).mono (by decide)) hr tk T.M__law_one T.F__law_one.kp (kb__law_one_2 T.F__law_one) (ea_cons (ee_var 0) (ea_cons (ee_var 6) ea_nil)) ek_nil) (ea_cons (ee_op os_add (ee_call 2 ((ok__law_one T).mono (by decide)) hr tk T.M__law_one T.F__law_one.kp (kb__law_one_2 T.F__law_one) (ea_cons (ee_var 0) (ea_cons (ee_op os_add (ee_var 2) (ee_lst (ea_cons (ee_tup (ea_cons ee_int ea_nil)) ea_nil))) ea_nil)) ek_nil) (ee_tup (ea_cons ee_int ea_nil))) ea_nil))))) (eg_name (i := 4) hN) (ss_one (es_if (Ew.et (ew_and (et_cmp (os_notin hr.room) (ee_callB (cs_repr hr) T.z_repr (ea_cons (ee_var 4) ea_nil)) (ee_compK (own := [("one", 7)]) FU (by rfl) hN (ei_seq (ee_var 2)) (blkOk_by (own := [("one", 7)]) (N := N__law_right) (sc := defScope S__law_right) (by decide +kernel)) (fun _ _ _ _ _ => ⟨_, (eg_name (i := 7) hN)⟩) (fun _ _ _ _ _ => ⟨_, ets_nil⟩) (fun _ _ _ _ _ => ⟨_, (ee_callB (cs_repr hr) T.z_repr (ea_cons (ee_var 7) ea_nil))⟩))) (ew_and1 (et_cmp (os_ne hr.room) (ee_callB (cs_repr hr) T.z_repr (ea_cons (ee_call 2 ((ok__law_told T).mono (by decide)) hr tk T.M__law_told T.F__law_told.kp (kb__law_told_2 T.F__law_told) (ea_cons (ee_var 1) (ea_cons (ee_var 4) ea_nil)) ek_nil) ea_nil)) (ee_callB (cs_repr hr) T.z_repr (ea_cons (ee_tup (ea_cons ee_str (ea_cons (ee_var 4) ea_nil))) ea_nil)))))) (ss_one (es_ret ee_bl)) ss_nil)))
  (ss_one (es_ret ee_bl)))))))))⟩
theorem sc_law : FnScope N_law ["script"] (defScope S_law) := ⟨rfl, rfl, rfl, by decide +kernel, rfl, by decide +kernel, by decide +kernel⟩
theorem ok_law (T : Tx w K mg) : FnG P w K mg base 23 T.a_law T.e_law ["script"] (spM K mg 1 m_law) :=
  fn_ok2 (k := 22) T.F_law sc_law rfl fun cdv A outer s H E hr tk hp hN => ⟨_, show Ess _ _ _ _ b_law from
  (ss_cons (es_for FU hp (by rfl) (ei_r1 T.z_range (ea_cons (ee_callB (cs_max (by rfl)) T.z_max (ea_cons ee_int (ea_cons (ee_callB (cs_min (by rfl)) T.z_min (ea_cons (ee_callB cs_len T.z_len (ea_cons (ee_var 0) ea_nil)) (ea_cons ee_int ea_nil))) ea_nil))) ea_nil)) (eg_name (i := 1) hN) (ss_one (es_if (et_not (et_truth (ee_call 1 ((ok__law_right T).mono (by decide)) hr tk T.M__law_right T.F__law_right.kp (kb__law_right_1 T.F__law_right) (ea_cons (ee_call 2 ((ok__law_pool T).mono (by decide)) hr tk T.M__law_pool T.F__law_pool.kp (kb__law_pool_2 T.F__law_pool) (ea_cons (ee_var 0) (ea_cons (ee_var 1) ea_nil)) ek_nil) ea_nil) ek_nil))) (ss_one (es_ret ee_bl)) ss_nil)))
  (ss_one (es_ret ee_bl)))⟩
end
theorem all_mk {P : Program} {w : World} {K : PySem.W.Frag} {h : Heap} {mg : Str → Option Value} {fa : Addr} (X : K.In h) (G : h.Ns mainGlobals mg) (hfa : mg "law" = some (.ref fa))
  {A_fits : Addr} {od_fits an_fits : Option Addr} {sl_fits : Array (Option Value)} {oc_fits kV_fits dc_fits pm_fits cd_fits ct_fits : Value}
  (n_fits : PySem.W.nsIn K mainGlobals "fits" = some (some (.ref A_fits)))
  (l_fits : K.lookup A_fits = some ⟨oc_fits, od_fits, .func (PySem.W.fnOf "fits" "fits" (defArgs S_fits) (defBody S_fits) (defScope S_fits) .none kV_fits dc_fits pm_fits an_fits cd_fits ct_fits), sl_fits⟩)
  (c_fits : PySem.W.codeIn K cd_fits "fits" = true)
  (p_fits : PySem.W.keepIn K (.ref A_fits) = true)
  {A_has_form : Addr} {od_has_form an_has_form : Option Addr} {sl_has_form : Array (Option Value)} {oc_has_form kV_has_form dc_has_form pm_has_form cd_has_form ct_has_form : Value}
  (n_has_form : PySem.W.nsIn K mainGlobals "has_form" = some (some (.ref A_has_form)))
  (l_has_form : K.lookup A_has_form = some ⟨oc_has_form, od_has_form, .func (PySem.W.fnOf "has_form" "has_form" (defArgs S_has_form) (defBody S_has_form) (defScope S_has_form) .none kV_has_form dc_has_form pm_has_form an_has_form cd_has_form ct_has_form), sl_has_form⟩)
  (c_has_form : PySem.W.codeIn K cd_has_form "has_form" = true)
  (p_has_form : PySem.W.keepIn K (.ref A_has_form) = true)
  {A_bodies_at : Addr} {od_bodies_at an_bodies_at : Option Addr} {sl_bodies_at : Array (Option Value)} {oc_bodies_at kV_bodies_at dc_bodies_at pm_bodies_at cd_bodies_at ct_bodies_at : Value}
  (n_bodies_at : PySem.W.nsIn K mainGlobals "bodies_at" = some (some (.ref A_bodies_at)))
  (l_bodies_at : K.lookup A_bodies_at = some ⟨oc_bodies_at, od_bodies_at, .func (PySem.W.fnOf "bodies_at" "bodies_at" (defArgs S_bodies_at) (defBody S_bodies_at) (defScope S_bodies_at) .none kV_bodies_at dc_bodies_at pm_bodies_at an_bodies_at cd_bodies_at ct_bodies_at), sl_bodies_at⟩)
  (c_bodies_at : PySem.W.codeIn K cd_bodies_at "bodies_at" = true)
  (p_bodies_at : PySem.W.keepIn K (.ref A_bodies_at) = true)
  {A_end_of : Addr} {od_end_of an_end_of : Option Addr} {sl_end_of : Array (Option Value)} {oc_end_of kV_end_of dc_end_of pm_end_of cd_end_of ct_end_of : Value}
  (n_end_of : PySem.W.nsIn K mainGlobals "end_of" = some (some (.ref A_end_of)))
  (l_end_of : K.lookup A_end_of = some ⟨oc_end_of, od_end_of, .func (PySem.W.fnOf "end_of" "end_of" (defArgs S_end_of) (defBody S_end_of) (defScope S_end_of) .none kV_end_of dc_end_of pm_end_of an_end_of cd_end_of ct_end_of), sl_end_of⟩)
  (c_end_of : PySem.W.codeIn K cd_end_of "end_of" = true)
  (p_end_of : PySem.W.keepIn K (.ref A_end_of) = true)
  {A_lay_body : Addr} {od_lay_body an_lay_body : Option Addr} {sl_lay_body : Array (Option Value)} {oc_lay_body kV_lay_body dc_lay_body pm_lay_body cd_lay_body ct_lay_body : Value}
  (n_lay_body : PySem.W.nsIn K mainGlobals "lay_body" = some (some (.ref A_lay_body)))
  (l_lay_body : K.lookup A_lay_body = some ⟨oc_lay_body, od_lay_body, .func (PySem.W.fnOf "lay_body" "lay_body" (defArgs S_lay_body) (defBody S_lay_body) (defScope S_lay_body) .none kV_lay_body dc_lay_body pm_lay_body an_lay_body cd_lay_body ct_lay_body), sl_lay_body⟩)
  (c_lay_body : PySem.W.codeIn K cd_lay_body "lay_body" = true)
  (p_lay_body : PySem.W.keepIn K (.ref A_lay_body) = true)
  {A_laid_out : Addr} {od_laid_out an_laid_out : Option Addr} {sl_laid_out : Array (Option Value)} {oc_laid_out kV_laid_out dc_laid_out pm_laid_out cd_laid_out ct_laid_out : Value}
  (n_laid_out : PySem.W.nsIn K mainGlobals "laid_out" = some (some (.ref A_laid_out)))
  (l_laid_out : K.lookup A_laid_out = some ⟨oc_laid_out, od_laid_out, .func (PySem.W.fnOf "laid_out" "laid_out" (defArgs S_laid_out) (defBody S_laid_out) (defScope S_laid_out) .none kV_laid_out dc_laid_out pm_laid_out an_laid_out cd_laid_out ct_laid_out), sl_laid_out⟩)
  (c_laid_out : PySem.W.codeIn K cd_laid_out "laid_out" = true)
  (p_laid_out : PySem.W.keepIn K (.ref A_laid_out) = true)
  {A_count_body : Addr} {od_count_body an_count_body : Option Addr} {sl_count_body : Array (Option Value)} {oc_count_body kV_count_body dc_count_body pm_count_body cd_count_body ct_count_body : Value}
  (n_count_body : PySem.W.nsIn K mainGlobals "count_body" = some (some (.ref A_count_body)))
  (l_count_body : K.lookup A_count_body = some ⟨oc_count_body, od_count_body, .func (PySem.W.fnOf "count_body" "count_body" (defArgs S_count_body) (defBody S_count_body) (defScope S_count_body) .none kV_count_body dc_count_body pm_count_body an_count_body cd_count_body ct_count_body), sl_count_body⟩)
  (c_count_body : PySem.W.codeIn K cd_count_body "count_body" = true)
  (p_count_body : PySem.W.keepIn K (.ref A_count_body) = true)
  {A_count_statement : Addr} {od_count_statement an_count_statement : Option Addr} {sl_count_statement : Array (Option Value)} {oc_count_statement kV_count_statement dc_count_statement pm_count_statement cd_count_statement ct_count_statement : Value}
  (n_count_statement : PySem.W.nsIn K mainGlobals "count_statement" = some (some (.ref A_count_statement)))
  (l_count_statement : K.lookup A_count_statement = some ⟨oc_count_statement, od_count_statement, .func (PySem.W.fnOf "count_statement" "count_statement" (defArgs S_count_statement) (defBody S_count_statement) (defScope S_count_statement) .none kV_count_statement dc_count_statement pm_count_statement an_count_statement cd_count_statement ct_count_statement), sl_count_statement⟩)
  (c_count_statement : PySem.W.codeIn K cd_count_statement "count_statement" = true)
  (p_count_statement : PySem.W.keepIn K (.ref A_count_statement) = true)
  {A_made_program : Addr} {od_made_program an_made_program : Option Addr} {sl_made_program : Array (Option Value)} {oc_made_program kV_made_program dc_made_program pm_made_program cd_made_program ct_made_program : Value}
  (n_made_program : PySem.W.nsIn K mainGlobals "made_program" = some (some (.ref A_made_program)))
  (l_made_program : K.lookup A_made_program = some ⟨oc_made_program, od_made_program, .func (PySem.W.fnOf "made_program" "made_program" (defArgs S_made_program) (defBody S_made_program) (defScope S_made_program) .none kV_made_program dc_made_program pm_made_program an_made_program cd_made_program ct_made_program), sl_made_program⟩)
  (c_made_program : PySem.W.codeIn K cd_made_program "made_program" = true)
  (p_made_program : PySem.W.keepIn K (.ref A_made_program) = true)
  {A_is_number : Addr} {od_is_number an_is_number : Option Addr} {sl_is_number : Array (Option Value)} {oc_is_number kV_is_number dc_is_number pm_is_number cd_is_number ct_is_number : Value}
  (n_is_number : PySem.W.nsIn K mainGlobals "is_number" = some (some (.ref A_is_number)))
  (l_is_number : K.lookup A_is_number = some ⟨oc_is_number, od_is_number, .func (PySem.W.fnOf "is_number" "is_number" (defArgs S_is_number) (defBody S_is_number) (defScope S_is_number) .none kV_is_number dc_is_number pm_is_number an_is_number cd_is_number ct_is_number), sl_is_number⟩)
  (c_is_number : PySem.W.codeIn K cd_is_number "is_number" = true)
  (p_is_number : PySem.W.keepIn K (.ref A_is_number) = true)
  {A_is_row_of_numbers : Addr} {od_is_row_of_numbers an_is_row_of_numbers : Option Addr} {sl_is_row_of_numbers : Array (Option Value)} {oc_is_row_of_numbers kV_is_row_of_numbers dc_is_row_of_numbers pm_is_row_of_numbers cd_is_row_of_numbers ct_is_row_of_numbers : Value}
  (n_is_row_of_numbers : PySem.W.nsIn K mainGlobals "is_row_of_numbers" = some (some (.ref A_is_row_of_numbers)))
  (l_is_row_of_numbers : K.lookup A_is_row_of_numbers = some ⟨oc_is_row_of_numbers, od_is_row_of_numbers, .func (PySem.W.fnOf "is_row_of_numbers" "is_row_of_numbers" (defArgs S_is_row_of_numbers) (defBody S_is_row_of_numbers) (defScope S_is_row_of_numbers) .none kV_is_row_of_numbers dc_is_row_of_numbers pm_is_row_of_numbers an_is_row_of_numbers cd_is_row_of_numbers ct_is_row_of_numbers), sl_is_row_of_numbers⟩)
  (c_is_row_of_numbers : PySem.W.codeIn K cd_is_row_of_numbers "is_row_of_numbers" = true)
  (p_is_row_of_numbers : PySem.W.keepIn K (.ref A_is_row_of_numbers) = true)
  {A_places : Addr} {od_places an_places : Option Addr} {sl_places : Array (Option Value)} {oc_places kV_places dc_places pm_places cd_places ct_places : Value}
  (n_places : PySem.W.nsIn K mainGlobals "places" = some (some (.ref A_places)))
  (l_places : K.lookup A_places = some ⟨oc_places, od_places, .func (PySem.W.fnOf "places" "places" (defArgs S_places) (defBody S_places) (defScope S_places) .none kV_places dc_places pm_places an_places cd_places ct_places), sl_places⟩)
  (c_places : PySem.W.codeIn K cd_places "places" = true)
  (p_places : PySem.W.keepIn K (.ref A_places) = true)
  {A_next_place : Addr} {od_next_place an_next_place : Option Addr} {sl_next_place : Array (Option Value)} {oc_next_place kV_next_place dc_next_place pm_next_place cd_next_place ct_next_place : Value}
  (n_next_place : PySem.W.nsIn K mainGlobals "next_place" = some (some (.ref A_next_place)))
  (l_next_place : K.lookup A_next_place = some ⟨oc_next_place, od_next_place, .func (PySem.W.fnOf "next_place" "next_place" (defArgs S_next_place) (defBody S_next_place) (defScope S_next_place) .none kV_next_place dc_next_place pm_next_place an_next_place cd_next_place ct_next_place), sl_next_place⟩)
  (c_next_place : PySem.W.codeIn K cd_next_place "next_place" = true)
  (p_next_place : PySem.W.keepIn K (.ref A_next_place) = true)
  {A__law_pool : Addr} {od__law_pool an__law_pool : Option Addr} {sl__law_pool : Array (Option Value)} {oc__law_pool kV__law_pool dc__law_pool pm__law_pool cd__law_pool ct__law_pool : Value}
  (n__law_pool : PySem.W.nsIn K mainGlobals "_law_pool" = some (some (.ref A__law_pool)))
  (l__law_pool : K.lookup A__law_pool = some ⟨oc__law_pool, od__law_pool, .func (PySem.W.fnOf "_law_pool" "_law_pool" (defArgs S__law_pool) (defBody S__law_pool) (defScope S__law_pool) .none kV__law_pool dc__law_pool pm__law_pool an__law_pool cd__law_pool ct__law_pool), sl__law_pool⟩)
  (c__law_pool : PySem.W.codeIn K cd__law_pool "_law_pool" = true)
  (p__law_pool : PySem.W.keepIn K (.ref A__law_pool) = true)
  {A__law_take : Addr} {od__law_take an__law_take : Option Addr} {sl__law_take : Array (Option Value)} {oc__law_take kV__law_take dc__law_take pm__law_take cd__law_take ct__law_take : Value}
  (n__law_take : PySem.W.nsIn K mainGlobals "_law_take" = some (some (.ref A__law_take)))
  (l__law_take : K.lookup A__law_take = some ⟨oc__law_take, od__law_take, .func (PySem.W.fnOf "_law_take" "_law_take" (defArgs S__law_take) (defBody S__law_take) (defScope S__law_take) .none kV__law_take dc__law_take pm__law_take an__law_take cd__law_take ct__law_take), sl__law_take⟩)
  (c__law_take : PySem.W.codeIn K cd__law_take "_law_take" = true)
  (p__law_take : PySem.W.keepIn K (.ref A__law_take) = true)
  {A__law_one : Addr} {od__law_one an__law_one : Option Addr} {sl__law_one : Array (Option Value)} {oc__law_one kV__law_one dc__law_one pm__law_one cd__law_one ct__law_one : Value}
  (n__law_one : PySem.W.nsIn K mainGlobals "_law_one" = some (some (.ref A__law_one)))
  (l__law_one : K.lookup A__law_one = some ⟨oc__law_one, od__law_one, .func (PySem.W.fnOf "_law_one" "_law_one" (defArgs S__law_one) (defBody S__law_one) (defScope S__law_one) .none kV__law_one dc__law_one pm__law_one an__law_one cd__law_one ct__law_one), sl__law_one⟩)
  (c__law_one : PySem.W.codeIn K cd__law_one "_law_one" = true)
  (p__law_one : PySem.W.keepIn K (.ref A__law_one) = true)
  {A__law_plain : Addr} {od__law_plain an__law_plain : Option Addr} {sl__law_plain : Array (Option Value)} {oc__law_plain kV__law_plain dc__law_plain pm__law_plain cd__law_plain ct__law_plain : Value}
  (n__law_plain : PySem.W.nsIn K mainGlobals "_law_plain" = some (some (.ref A__law_plain)))
  (l__law_plain : K.lookup A__law_plain = some ⟨oc__law_plain, od__law_plain, .func (PySem.W.fnOf "_law_plain" "_law_plain" (defArgs S__law_plain) (defBody S__law_plain) (defScope S__law_plain) .none kV__law_plain dc__law_plain pm__law_plain an__law_plain cd__law_plain ct__law_plain), sl__law_plain⟩)
  (c__law_plain : PySem.W.codeIn K cd__law_plain "_law_plain" = true)
  (p__law_plain : PySem.W.keepIn K (.ref A__law_plain) = true)
  {A__law_body : Addr} {od__law_body an__law_body : Option Addr} {sl__law_body : Array (Option Value)} {oc__law_body kV__law_body dc__law_body pm__law_body cd__law_body ct__law_body : Value}
  (n__law_body : PySem.W.nsIn K mainGlobals "_law_body" = some (some (.ref A__law_body)))
  (l__law_body : K.lookup A__law_body = some ⟨oc__law_body, od__law_body, .func (PySem.W.fnOf "_law_body" "_law_body" (defArgs S__law_body) (defBody S__law_body) (defScope S__law_body) .none kV__law_body dc__law_body pm__law_body an__law_body cd__law_body ct__law_body), sl__law_body⟩)
  (c__law_body : PySem.W.codeIn K cd__law_body "_law_body" = true)
  (p__law_body : PySem.W.keepIn K (.ref A__law_body) = true)
  {A__law_program : Addr} {od__law_program an__law_program : Option Addr} {sl__law_program : Array (Option Value)} {oc__law_program kV__law_program dc__law_program pm__law_program cd__law_program ct__law_program : Value}
  (n__law_program : PySem.W.nsIn K mainGlobals "_law_program" = some (some (.ref A__law_program)))
  (l__law_program : K.lookup A__law_program = some ⟨oc__law_program, od__law_program, .func (PySem.W.fnOf "_law_program" "_law_program" (defArgs S__law_program) (defBody S__law_program) (defScope S__law_program) .none kV__law_program dc__law_program pm__law_program an__law_program cd__law_program ct__law_program), sl__law_program⟩)
  (c__law_program : PySem.W.codeIn K cd__law_program "_law_program" = true)
  (p__law_program : PySem.W.keepIn K (.ref A__law_program) = true)
  {A__law_leads : Addr} {od__law_leads an__law_leads : Option Addr} {sl__law_leads : Array (Option Value)} {oc__law_leads kV__law_leads dc__law_leads pm__law_leads cd__law_leads ct__law_leads : Value}
  (n__law_leads : PySem.W.nsIn K mainGlobals "_law_leads" = some (some (.ref A__law_leads)))
  (l__law_leads : K.lookup A__law_leads = some ⟨oc__law_leads, od__law_leads, .func (PySem.W.fnOf "_law_leads" "_law_leads" (defArgs S__law_leads) (defBody S__law_leads) (defScope S__law_leads) .none kV__law_leads dc__law_leads pm__law_leads an__law_leads cd__law_leads ct__law_leads), sl__law_leads⟩)
  (c__law_leads : PySem.W.codeIn K cd__law_leads "_law_leads" = true)
  (p__law_leads : PySem.W.keepIn K (.ref A__law_leads) = true)
  {A__law_order : Addr} {od__law_order an__law_order : Option Addr} {sl__law_order : Array (Option Value)} {oc__law_order kV__law_order dc__law_order pm__law_order cd__law_order ct__law_order : Value}
  (n__law_order : PySem.W.nsIn K mainGlobals "_law_order" = some (some (.ref A__law_order)))
  (l__law_order : K.lookup A__law_order = some ⟨oc__law_order, od__law_order, .func (PySem.W.fnOf "_law_order" "_law_order" (defArgs S__law_order) (defBody S__law_order) (defScope S__law_order) .none kV__law_order dc__law_order pm__law_order an__law_order cd__law_order ct__law_order), sl__law_order⟩)
  (c__law_order : PySem.W.codeIn K cd__law_order "_law_order" = true)
  (p__law_order : PySem.W.keepIn K (.ref A__law_order) = true)
  {A__law_told : Addr} {od__law_told an__law_told : Option Addr} {sl__law_told : Array (Option Value)} {oc__law_told kV__law_told dc__law_told pm__law_told cd__law_told ct__law_told : Value}
  (n__law_told : PySem.W.nsIn K mainGlobals "_law_told" = some (some (.ref A__law_told)))
  (l__law_told : K.lookup A__law_told = some ⟨oc__law_told, od__law_told, .func (PySem.W.fnOf "_law_told" "_law_told" (defArgs S__law_told) (defBody S__law_told) (defScope S__law_told) .none kV__law_told dc__law_told pm__law_told an__law_told cd__law_told ct__law_told), sl__law_told⟩)
  (c__law_told : PySem.W.codeIn K cd__law_told "_law_told" = true)
  (p__law_told : PySem.W.keepIn K (.ref A__law_told) = true)
  {A__law_right : Addr} {od__law_right an__law_right : Option Addr} {sl__law_right : Array (Option Value)} {oc__law_right kV__law_right dc__law_right pm__law_right cd__law_right ct__law_right : Value}
  (n__law_right : PySem.W.nsIn K mainGlobals "_law_right" = some (some (.ref A__law_right)))
  (l__law_right : K.lookup A__law_right = some ⟨oc__law_right, od__law_right, .func (PySem.W.fnOf "_law_right" "_law_right" (defArgs S__law_right) (defBody S__law_right) (defScope S__law_right) .none kV__law_right dc__law_right pm__law_right an__law_right cd__law_right ct__law_right), sl__law_right⟩)
  (c__law_right : PySem.W.codeIn K cd__law_right "_law_right" = true)
  (p__law_right : PySem.W.keepIn K (.ref A__law_right) = true)
  {A_law : Addr} {od_law an_law : Option Addr} {sl_law : Array (Option Value)} {oc_law kV_law dc_law pm_law cd_law ct_law : Value}
  (n_law : PySem.W.nsIn K mainGlobals "law" = some (some (.ref A_law)))
  (l_law : K.lookup A_law = some ⟨oc_law, od_law, .func (PySem.W.fnOf "law" "law" (defArgs S_law) (defBody S_law) (defScope S_law) .none kV_law dc_law pm_law an_law cd_law ct_law), sl_law⟩)
  (c_law : PySem.W.codeIn K cd_law "law" = true)
  (p_law : PySem.W.keepIn K (.ref A_law) = true)
  {fI : Addr} {odI anI : Option Addr} {slI : Array (Option Value)} {ocI dcI pmI cdI ctI : Value} {p1 p2 q1 q2 q3 q4 : Pos}
  {C_Refused : Addr} {nm_Refused qn_Refused : Str} {N_Refused : Addr} {bs_Refused bm_Refused : List Value} {sn_Refused : List Str} {sub_Refused : List Value} {ab_Refused : Bool} {col_Refused : Option Bool} {dd_Refused : Option Addr} {m0_Refused m1_Refused m2_Refused m3_Refused m5_Refused : Option Value}
  (n_Refused : PySem.W.nsIn K mainGlobals "Refused" = some (some (.ref C_Refused)))
  (xL_Refused : K.lookup C_Refused = some (excClassObj nm_Refused qn_Refused C_Refused N_Refused bs_Refused bm_Refused true sn_Refused sub_Refused ab_Refused col_Refused dd_Refused m0_Refused m1_Refused m2_Refused m3_Refused m5_Refused "ValueError.__new__"))
  (sa_Refused : PySem.W.findIn K (.ref C_Refused) "__setattr__" = some (some (.builtin "object.__setattr__")))
  (ga_Refused : PySem.W.findIn K (.ref C_Refused) "__getattribute__" = some (some (.builtin "BaseException.__getattribute__")))
  (gg_Refused : PySem.W.findIn K (.ref C_Refused) "__getattr__" = some none)
  (nb_Refused : PySem.W.findIn K (.ref C_Refused) "what" = some none)
  (a1_Refused : PySem.W.findIn K (.ref C_Refused) "__init__" = some (some (.ref fI)))
  (kC_Refused : PySem.W.keepIn K (.ref C_Refused) = true)
  (eC_Refused : PySem.W.subIn K (.ref C_Refused) (.type "BaseException") = some true)
  (tC_Refused : PySem.W.typeIn K (.ref C_Refused) = some (.type "type"))
  (hC_Refused : PySem.W.hasDictIn K C_Refused = true)
  (iC_Refused : PySem.W.isClsIn K C_Refused = true)
  (sC_Refused : PySem.W.subIn K (.ref C_Refused) (.ref C_Refused) = some true)
  {C_BadProgram : Addr} {nm_BadProgram qn_BadProgram : Str} {N_BadProgram : Addr} {bs_BadProgram bm_BadProgram : List Value} {sn_BadProgram : List Str} {sub_BadProgram : List Value} {ab_BadProgram : Bool} {col_BadProgram : Option Bool} {dd_BadProgram : Option Addr} {m0_BadProgram m1_BadProgram m2_BadProgram m3_BadProgram m5_BadProgram : Option Value}
  (n_BadProgram : PySem.W.nsIn K mainGlobals "BadProgram" = some (some (.ref C_BadProgram)))
  (xL_BadProgram : K.lookup C_BadProgram = some (excClassObj nm_BadProgram qn_BadProgram C_BadProgram N_BadProgram bs_BadProgram bm_BadProgram true sn_BadProgram sub_BadProgram ab_BadProgram col_BadProgram dd_BadProgram m0_BadProgram m1_BadProgram m2_BadProgram m3_BadProgram m5_BadProgram "ValueError.__new__"))
  (sa_BadProgram : PySem.W.findIn K (.ref C_BadProgram) "__setattr__" = some (some (.builtin "object.__setattr__")))
  (ga_BadProgram : PySem.W.findIn K (.ref C_BadProgram) "__getattribute__" = some (some (.builtin "BaseException.__getattribute__")))
  (gg_BadProgram : PySem.W.findIn K (.ref C_BadProgram) "__getattr__" = some none)
  (nb_BadProgram : PySem.W.findIn K (.ref C_BadProgram) "what" = some none)
  (a1_BadProgram : PySem.W.findIn K (.ref C_BadProgram) "__init__" = some (some (.ref fI)))
  (kC_BadProgram : PySem.W.keepIn K (.ref C_BadProgram) = true)
  (eC_BadProgram : PySem.W.subIn K (.ref C_BadProgram) (.type "BaseException") = some true)
  (tC_BadProgram : PySem.W.typeIn K (.ref C_BadProgram) = some (.type "type"))
  (hC_BadProgram : PySem.W.hasDictIn K C_BadProgram = true)
  (iC_BadProgram : PySem.W.isClsIn K C_BadProgram = true)
  (sC_BadProgram : PySem.W.subIn K (.ref C_BadProgram) (.ref C_BadProgram) = some true)
  {C_BadPlace : Addr} {nm_BadPlace qn_BadPlace : Str} {N_BadPlace : Addr} {bs_BadPlace bm_BadPlace : List Value} {sn_BadPlace : List Str} {sub_BadPlace : List Value} {ab_BadPlace : Bool} {col_BadPlace : Option Bool} {dd_BadPlace : Option Addr} {m0_BadPlace m1_BadPlace m2_BadPlace m3_BadPlace m5_BadPlace : Option Value}
  (n_BadPlace : PySem.W.nsIn K mainGlobals "BadPlace" = some (some (.ref C_BadPlace)))
  (xL_BadPlace : K.lookup C_BadPlace = some (excClassObj nm_BadPlace qn_BadPlace C_BadPlace N_BadPlace bs_BadPlace bm_BadPlace true sn_BadPlace sub_BadPlace ab_BadPlace col_BadPlace dd_BadPlace m0_BadPlace m1_BadPlace m2_BadPlace m3_BadPlace m5_BadPlace "ValueError.__new__"))
  (sa_BadPlace : PySem.W.findIn K (.ref C_BadPlace) "__setattr__" = some (some (.builtin "object.__setattr__")))
  (ga_BadPlace : PySem.W.findIn K (.ref C_BadPlace) "__getattribute__" = some (some (.builtin "BaseException.__getattribute__")))
  (gg_BadPlace : PySem.W.findIn K (.ref C_BadPlace) "__getattr__" = some none)
  (nb_BadPlace : PySem.W.findIn K (.ref C_BadPlace) "what" = some none)
  (a1_BadPlace : PySem.W.findIn K (.ref C_BadPlace) "__init__" = some (some (.ref fI)))
  (kC_BadPlace : PySem.W.keepIn K (.ref C_BadPlace) = true)
  (eC_BadPlace : PySem.W.subIn K (.ref C_BadPlace) (.type "BaseException") = some true)
  (tC_BadPlace : PySem.W.typeIn K (.ref C_BadPlace) = some (.type "type"))
  (hC_BadPlace : PySem.W.hasDictIn K C_BadPlace = true)
  (iC_BadPlace : PySem.W.isClsIn K C_BadPlace = true)
  (sC_BadPlace : PySem.W.subIn K (.ref C_BadPlace) (.ref C_BadPlace) = some true)
  {C_TooMany : Addr} {nm_TooMany qn_TooMany : Str} {N_TooMany : Addr} {bs_TooMany bm_TooMany : List Value} {sn_TooMany : List Str} {sub_TooMany : List Value} {ab_TooMany : Bool} {col_TooMany : Option Bool} {dd_TooMany : Option Addr} {m0_TooMany m1_TooMany m2_TooMany m3_TooMany m5_TooMany : Option Value}
  (n_TooMany : PySem.W.nsIn K mainGlobals "TooMany" = some (some (.ref C_TooMany)))
  (xL_TooMany : K.lookup C_TooMany = some (excClassObj nm_TooMany qn_TooMany C_TooMany N_TooMany bs_TooMany bm_TooMany true sn_TooMany sub_TooMany ab_TooMany col_TooMany dd_TooMany m0_TooMany m1_TooMany m2_TooMany m3_TooMany m5_TooMany "ValueError.__new__"))
  (sa_TooMany : PySem.W.findIn K (.ref C_TooMany) "__setattr__" = some (some (.builtin "object.__setattr__")))
  (ga_TooMany : PySem.W.findIn K (.ref C_TooMany) "__getattribute__" = some (some (.builtin "BaseException.__getattribute__")))
  (gg_TooMany : PySem.W.findIn K (.ref C_TooMany) "__getattr__" = some none)
  (nb_TooMany : PySem.W.findIn K (.ref C_TooMany) "what" = some none)
  (a1_TooMany : PySem.W.findIn K (.ref C_TooMany) "__init__" = some (some (.ref fI)))
  (kC_TooMany : PySem.W.keepIn K (.ref C_TooMany) = true)
  (eC_TooMany : PySem.W.subIn K (.ref C_TooMany) (.type "BaseException") = some true)
  (tC_TooMany : PySem.W.typeIn K (.ref C_TooMany) = some (.type "type"))
  (hC_TooMany : PySem.W.hasDictIn K C_TooMany = true)
  (iC_TooMany : PySem.W.isClsIn K C_TooMany = true)
  (sC_TooMany : PySem.W.subIn K (.ref C_TooMany) (.ref C_TooMany) = some true)
  (t1 : PySem.W.typeIn K (.ref fI) = some (.type "function"))
  (l1 : K.lookup fI = some ⟨ocI, odI, .func (PySem.W.fnOf "__init__" "Refused.__init__" (PySem.LowX.iA p1 p2) (PySem.LowX.iB q1 q2 q3 q4) PySem.LowX.iS .none .none dcI pmI anI cdI ctI), slI⟩)
  (c1 : PySem.W.codeIn K cdI "Refused.__init__" = true)
  (rb_Refused : PySem.HandSPX.refsVE bm_Refused = true)
  (rb_BadProgram : PySem.HandSPX.refsVE bm_BadProgram = true)
  (rb_BadPlace : PySem.HandSPX.refsVE bm_BadPlace = true)
  (rb_TooMany : PySem.HandSPX.refsVE bm_TooMany = true)
  (s_Refused_BadPlace : PySem.W.subIn K (.ref C_Refused) (.ref C_BadPlace) = some false)
  (s_BadProgram_BadPlace : PySem.W.subIn K (.ref C_BadProgram) (.ref C_BadPlace) = some false)
  (s_BadPlace_BadPlace : PySem.W.subIn K (.ref C_BadPlace) (.ref C_BadPlace) = some true)
  (s_TooMany_BadPlace : PySem.W.subIn K (.ref C_TooMany) (.ref C_BadPlace) = some false)
  (s_Refused_Refused : PySem.W.subIn K (.ref C_Refused) (.ref C_Refused) = some true)
  (s_BadProgram_Refused : PySem.W.subIn K (.ref C_BadProgram) (.ref C_Refused) = some true)
  (s_BadPlace_Refused : PySem.W.subIn K (.ref C_BadPlace) (.ref C_Refused) = some true)
  (s_TooMany_Refused : PySem.W.subIn K (.ref C_TooMany) (.ref C_Refused) = some true)
  {A_BRANCHES : Addr} {dc_BRANCHES : Option Addr} {it_BRANCHES : Array Value} {nn_BRANCHES : Nat} {sl_BRANCHES : Array (Option Value)}
  (n_BRANCHES : PySem.W.nsIn K mainGlobals "BRANCHES" = some (some (.ref A_BRANCHES)))
  (lt_BRANCHES : K.lookup A_BRANCHES = some ⟨.type "tuple", dc_BRANCHES, .seq it_BRANCHES nn_BRANCHES, sl_BRANCHES⟩)
  (sz_BRANCHES : it_BRANCHES.size ≤ sizeLine)
  (va_BRANCHES : Vals ((["loop", "either"] : List Str).map V.str) it_BRANCHES.toList)
  {t_DEEPEST : Tok}
  (n_DEEPEST : PySem.W.nsIn K mainGlobals "DEEPEST" = some (some (.int 6 t_DEEPEST)))
  {A_FORMS : Addr} {es_FORMS : Array DictEntry} {nn_FORMS : Nat}
  (n_FORMS : PySem.W.nsIn K mainGlobals "FORMS" = some (some (.ref A_FORMS)))
  (l_FORMS : K.lookup A_FORMS = some ⟨.type "dict", none, .dict es_FORMS nn_FORMS, #[]⟩)
  (kl_FORMS : PySem.W.KeysLit w.params es_FORMS.toList)
  (lo_FORMS : (A_FORMS == sysModules) = false)
  {h_FORMS_0 : Int} {t_FORMS_0 : Tok} {u_FORMS_0 : Value}
  {h_FORMS_1 : Int} {t_FORMS_1 : Tok} {u_FORMS_1 : Value}
  {h_FORMS_2 : Int} {t_FORMS_2 : Tok} {u_FORMS_2 : Value}
  {h_FORMS_3 : Int} {t_FORMS_3 : Tok} {u_FORMS_3 : Value}
  {h_FORMS_4 : Int} {t_FORMS_4 : Tok} {u_FORMS_4 : Value}
  {h_FORMS_5 : Int} {t_FORMS_5 : Tok} {u_FORMS_5 : Value}
  {h_FORMS_6 : Int} {t_FORMS_6 : Tok} {u_FORMS_6 : Value}
  {h_FORMS_7 : Int} {t_FORMS_7 : Tok} {u_FORMS_7 : Value}
  (es__FORMS : es_FORMS.toList = [⟨h_FORMS_0, .str "new" t_FORMS_0, u_FORMS_0⟩, ⟨h_FORMS_1, .str "put" t_FORMS_1, u_FORMS_1⟩, ⟨h_FORMS_2, .str "take" t_FORMS_2, u_FORMS_2⟩, ⟨h_FORMS_3, .str "move" t_FORMS_3, u_FORMS_3⟩, ⟨h_FORMS_4, .str "end" t_FORMS_4, u_FORMS_4⟩, ⟨h_FORMS_5, .str "do" t_FORMS_5, u_FORMS_5⟩, ⟨h_FORMS_6, .str "loop" t_FORMS_6, u_FORMS_6⟩, ⟨h_FORMS_7, .str "either" t_FORMS_7, u_FORMS_7⟩])
  {A_FORMS_0 : Addr} {dc_FORMS_0 : Option Addr} {it_FORMS_0 : Array Value} {nn_FORMS_0 : Nat} {sl_FORMS_0 : Array (Option Value)}
  (u__FORMS_0 : u_FORMS_0 = .ref A_FORMS_0)
  (lt_FORMS_0 : K.lookup A_FORMS_0 = some ⟨.type "tuple", dc_FORMS_0, .seq it_FORMS_0 nn_FORMS_0, sl_FORMS_0⟩)
  (sz_FORMS_0 : it_FORMS_0.size ≤ sizeLine)
  (va_FORMS_0 : Vals ((["name"] : List Str).map V.str) it_FORMS_0.toList)
  {A_FORMS_1 : Addr} {dc_FORMS_1 : Option Addr} {it_FORMS_1 : Array Value} {nn_FORMS_1 : Nat} {sl_FORMS_1 : Array (Option Value)}
  (u__FORMS_1 : u_FORMS_1 = .ref A_FORMS_1)
  (lt_FORMS_1 : K.lookup A_FORMS_1 = some ⟨.type "tuple", dc_FORMS_1, .seq it_FORMS_1 nn_FORMS_1, sl_FORMS_1⟩)
  (sz_FORMS_1 : it_FORMS_1.size ≤ sizeLine)
  (va_FORMS_1 : Vals ((["name", "pile"] : List Str).map V.str) it_FORMS_1.toList)
  {A_FORMS_2 : Addr} {dc_FORMS_2 : Option Addr} {it_FORMS_2 : Array Value} {nn_FORMS_2 : Nat} {sl_FORMS_2 : Array (Option Value)}
  (u__FORMS_2 : u_FORMS_2 = .ref A_FORMS_2)
  (lt_FORMS_2 : K.lookup A_FORMS_2 = some ⟨.type "tuple", dc_FORMS_2, .seq it_FORMS_2 nn_FORMS_2, sl_FORMS_2⟩)
  (sz_FORMS_2 : it_FORMS_2.size ≤ sizeLine)
  (va_FORMS_2 : Vals ((["pile", "name"] : List Str).map V.str) it_FORMS_2.toList)
  {A_FORMS_3 : Addr} {dc_FORMS_3 : Option Addr} {it_FORMS_3 : Array Value} {nn_FORMS_3 : Nat} {sl_FORMS_3 : Array (Option Value)}
  (u__FORMS_3 : u_FORMS_3 = .ref A_FORMS_3)
  (lt_FORMS_3 : K.lookup A_FORMS_3 = some ⟨.type "tuple", dc_FORMS_3, .seq it_FORMS_3 nn_FORMS_3, sl_FORMS_3⟩)
  (sz_FORMS_3 : it_FORMS_3.size ≤ sizeLine)
  (va_FORMS_3 : Vals ((["name", "name"] : List Str).map V.str) it_FORMS_3.toList)
  {A_FORMS_4 : Addr} {dc_FORMS_4 : Option Addr} {it_FORMS_4 : Array Value} {nn_FORMS_4 : Nat} {sl_FORMS_4 : Array (Option Value)}
  (u__FORMS_4 : u_FORMS_4 = .ref A_FORMS_4)
  (lt_FORMS_4 : K.lookup A_FORMS_4 = some ⟨.type "tuple", dc_FORMS_4, .seq it_FORMS_4 nn_FORMS_4, sl_FORMS_4⟩)
  (sz_FORMS_4 : it_FORMS_4.size ≤ sizeLine)
  (va_FORMS_4 : Vals ((["name"] : List Str).map V.str) it_FORMS_4.toList)
  {A_FORMS_5 : Addr} {dc_FORMS_5 : Option Addr} {it_FORMS_5 : Array Value} {nn_FORMS_5 : Nat} {sl_FORMS_5 : Array (Option Value)}
  (u__FORMS_5 : u_FORMS_5 = .ref A_FORMS_5)
  (lt_FORMS_5 : K.lookup A_FORMS_5 = some ⟨.type "tuple", dc_FORMS_5, .seq it_FORMS_5 nn_FORMS_5, sl_FORMS_5⟩)
  (sz_FORMS_5 : it_FORMS_5.size ≤ sizeLine)
  (va_FORMS_5 : Vals ((["own word", "name"] : List Str).map V.str) it_FORMS_5.toList)
  {A_FORMS_6 : Addr} {dc_FORMS_6 : Option Addr} {it_FORMS_6 : Array Value} {nn_FORMS_6 : Nat} {sl_FORMS_6 : Array (Option Value)}
  (u__FORMS_6 : u_FORMS_6 = .ref A_FORMS_6)
  (lt_FORMS_6 : K.lookup A_FORMS_6 = some ⟨.type "tuple", dc_FORMS_6, .seq it_FORMS_6 nn_FORMS_6, sl_FORMS_6⟩)
  (sz_FORMS_6 : it_FORMS_6.size ≤ sizeLine)
  (va_FORMS_6 : Vals ((["body"] : List Str).map V.str) it_FORMS_6.toList)
  {A_FORMS_7 : Addr} {dc_FORMS_7 : Option Addr} {it_FORMS_7 : Array Value} {nn_FORMS_7 : Nat} {sl_FORMS_7 : Array (Option Value)}
  (u__FORMS_7 : u_FORMS_7 = .ref A_FORMS_7)
  (lt_FORMS_7 : K.lookup A_FORMS_7 = some ⟨.type "tuple", dc_FORMS_7, .seq it_FORMS_7 nn_FORMS_7, sl_FORMS_7⟩)
  (sz_FORMS_7 : it_FORMS_7.size ≤ sizeLine)
  (va_FORMS_7 : Vals ((["body", "body"] : List Str).map V.str) it_FORMS_7.toList)
  {t_MOST_STATEMENTS : Tok}
  (n_MOST_STATEMENTS : PySem.W.nsIn K mainGlobals "MOST_STATEMENTS" = some (some (.int 40 t_MOST_STATEMENTS)))
  {A_NAMES : Addr} {dc_NAMES : Option Addr} {it_NAMES : Array Value} {nn_NAMES : Nat} {sl_NAMES : Array (Option Value)}
  (n_NAMES : PySem.W.nsIn K mainGlobals "NAMES" = some (some (.ref A_NAMES)))
  (lt_NAMES : K.lookup A_NAMES = some ⟨.type "tuple", dc_NAMES, .seq it_NAMES nn_NAMES, sl_NAMES⟩)
  (sz_NAMES : it_NAMES.size ≤ sizeLine)
  (va_NAMES : Vals ((["a", "b", "c", "d"] : List Str).map V.str) it_NAMES.toList)
  {A_OWN_WORDS : Addr} {dc_OWN_WORDS : Option Addr} {it_OWN_WORDS : Array Value} {nn_OWN_WORDS : Nat} {sl_OWN_WORDS : Array (Option Value)}
  (n_OWN_WORDS : PySem.W.nsIn K mainGlobals "OWN_WORDS" = some (some (.ref A_OWN_WORDS)))
  (lt_OWN_WORDS : K.lookup A_OWN_WORDS = some ⟨.type "tuple", dc_OWN_WORDS, .seq it_OWN_WORDS nn_OWN_WORDS, sl_OWN_WORDS⟩)
  (sz_OWN_WORDS : it_OWN_WORDS.size ≤ sizeLine)
  (va_OWN_WORDS : Vals ((["u", "v", "w"] : List Str).map V.str) it_OWN_WORDS.toList)
  {A_PILES : Addr} {dc_PILES : Option Addr} {it_PILES : Array Value} {nn_PILES : Nat} {sl_PILES : Array (Option Value)}
  (n_PILES : PySem.W.nsIn K mainGlobals "PILES" = some (some (.ref A_PILES)))
  (lt_PILES : K.lookup A_PILES = some ⟨.type "tuple", dc_PILES, .seq it_PILES nn_PILES, sl_PILES⟩)
  (sz_PILES : it_PILES.size ≤ sizeLine)
  (va_PILES : Vals ((["p", "q"] : List Str).map V.str) it_PILES.toList)
  (z_all : PySem.W.nsIn K mainGlobals "all" = some none)
  (z_bool : PySem.W.nsIn K mainGlobals "bool" = some none)
  (z_enumerate : PySem.W.nsIn K mainGlobals "enumerate" = some none)
  (z_int : PySem.W.nsIn K mainGlobals "int" = some none)
  (z_isinstance : PySem.W.nsIn K mainGlobals "isinstance" = some none)
  (z_len : PySem.W.nsIn K mainGlobals "len" = some none)
  (z_list : PySem.W.nsIn K mainGlobals "list" = some none)
  (z_max : PySem.W.nsIn K mainGlobals "max" = some none)
  (z_min : PySem.W.nsIn K mainGlobals "min" = some none)
  (z_range : PySem.W.nsIn K mainGlobals "range" = some none)
  (z_repr : PySem.W.nsIn K mainGlobals "repr" = some none)
  (z_str : PySem.W.nsIn K mainGlobals "str" = some none)
  (z_tuple : PySem.W.nsIn K mainGlobals "tuple" = some none)
  (z_zip : PySem.W.nsIn K mainGlobals "zip" = some none)
  : ∃ fd : FuncData, (∀ (s : Shared) (u : Value), BindsTo s fd ⟨[u], []⟩ [("script", u)]) ∧ ∀ base : Heap, K.In base → base.Ns mainGlobals mg → FnG P w K mg base 23 fa fd ["script"] (spM K mg 1 m_law) := by
  have x_Refused : PySem.LowX.LowTxt K mg "Refused" C_Refused fI := { gC := PySem.W.mg_of X G n_Refused, cls := ⟨_, _, _, _, bm_Refused, _, _, _, _, _, _, _, _, _, _, xL_Refused, rb_Refused⟩, sa := sa_Refused, ga := ga_Refused, gg := gg_Refused, noN := nb_Refused, iC := a1_Refused, tC := t1, kC := kC_Refused, exC := eC_Refused, tyC := tC_Refused, hdC := hC_Refused, te := exm_pair eC_Refused iC_Refused tC_Refused sC_Refused, fn := ⟨_, _, _, _, _, _, _, _, _, _, _, _, _, _, l1, c1⟩ }
  have x_BadProgram : PySem.LowX.LowTxt K mg "BadProgram" C_BadProgram fI := { gC := PySem.W.mg_of X G n_BadProgram, cls := ⟨_, _, _, _, bm_BadProgram, _, _, _, _, _, _, _, _, _, _, xL_BadProgram, rb_BadProgram⟩, sa := sa_BadProgram, ga := ga_BadProgram, gg := gg_BadProgram, noN := nb_BadProgram, iC := a1_BadProgram, tC := t1, kC := kC_BadProgram, exC := eC_BadProgram, tyC := tC_BadProgram, hdC := hC_BadProgram, te := exm_pair eC_BadProgram iC_BadProgram tC_BadProgram sC_BadProgram, fn := ⟨_, _, _, _, _, _, _, _, _, _, _, _, _, _, l1, c1⟩ }
  have x_BadPlace : PySem.LowX.LowTxt K mg "BadPlace" C_BadPlace fI := { gC := PySem.W.mg_of X G n_BadPlace, cls := ⟨_, _, _, _, bm_BadPlace, _, _, _, _, _, _, _, _, _, _, xL_BadPlace, rb_BadPlace⟩, sa := sa_BadPlace, ga := ga_BadPlace, gg := gg_BadPlace, noN := nb_BadPlace, iC := a1_BadPlace, tC := t1, kC := kC_BadPlace, exC := eC_BadPlace, tyC := tC_BadPlace, hdC := hC_BadPlace, te := exm_pair eC_BadPlace iC_BadPlace tC_BadPlace sC_BadPlace, fn := ⟨_, _, _, _, _, _, _, _, _, _, _, _, _, _, l1, c1⟩ }
  have x_TooMany : PySem.LowX.LowTxt K mg "TooMany" C_TooMany fI := { gC := PySem.W.mg_of X G n_TooMany, cls := ⟨_, _, _, _, bm_TooMany, _, _, _, _, _, _, _, _, _, _, xL_TooMany, rb_TooMany⟩, sa := sa_TooMany, ga := ga_TooMany, gg := gg_TooMany, noN := nb_TooMany, iC := a1_TooMany, tC := t1, kC := kC_TooMany, exC := eC_TooMany, tyC := tC_TooMany, hdC := hC_TooMany, te := exm_pair eC_TooMany iC_TooMany tC_TooMany sC_TooMany, fn := ⟨_, _, _, _, _, _, _, _, _, _, _, _, _, _, l1, c1⟩ }
  have low : ∀ c ∈ errs, ∃ C fI, PySem.LowX.LowTxt K mg c C fI := by
    intro c hc
    simp only [errs, List.mem_cons, List.not_mem_nil, or_false] at hc
    rcases hc with rfl | rfl | rfl | rfl
    · exact ⟨_, _, x_Refused⟩
    · exact ⟨_, _, x_BadProgram⟩
    · exact ⟨_, _, x_BadPlace⟩
    · exact ⟨_, _, x_TooMany⟩
  have y_BadPlace : ∀ c ∈ errs, ∀ C : Addr, mg c = some (.ref C) → PySem.W.exmOne K (.ref C) (.ref C_BadPlace) = some (decide (c ∈ K01.y_BadPlace)) := by
    intro c hc C hC
    simp only [errs, List.mem_cons, List.not_mem_nil, or_false] at hc
    rcases hc with rfl | rfl | rfl | rfl
    · have e := x_Refused.gC.symm.trans hC; cases e; exact (exm_pair eC_BadPlace iC_BadPlace tC_BadPlace s_Refused_BadPlace).trans (by decide +kernel)
    · have e := x_BadProgram.gC.symm.trans hC; cases e; exact (exm_pair eC_BadPlace iC_BadPlace tC_BadPlace s_BadProgram_BadPlace).trans (by decide +kernel)
    · have e := x_BadPlace.gC.symm.trans hC; cases e; exact (exm_pair eC_BadPlace iC_BadPlace tC_BadPlace s_BadPlace_BadPlace).trans (by decide +kernel)
    · have e := x_TooMany.gC.symm.trans hC; cases e; exact (exm_pair eC_BadPlace iC_BadPlace tC_BadPlace s_TooMany_BadPlace).trans (by decide +kernel)
  have y_Refused : ∀ c ∈ errs, ∀ C : Addr, mg c = some (.ref C) → PySem.W.exmOne K (.ref C) (.ref C_Refused) = some (decide (c ∈ K01.y_Refused)) := by
    intro c hc C hC
    simp only [errs, List.mem_cons, List.not_mem_nil, or_false] at hc
    rcases hc with rfl | rfl | rfl | rfl
    · have e := x_Refused.gC.symm.trans hC; cases e; exact (exm_pair eC_Refused iC_Refused tC_Refused s_Refused_Refused).trans (by decide +kernel)
    · have e := x_BadProgram.gC.symm.trans hC; cases e; exact (exm_pair eC_Refused iC_Refused tC_Refused s_BadProgram_Refused).trans (by decide +kernel)
    · have e := x_BadPlace.gC.symm.trans hC; cases e; exact (exm_pair eC_Refused iC_Refused tC_Refused s_BadPlace_Refused).trans (by decide +kernel)
    · have e := x_TooMany.gC.symm.trans hC; cases e; exact (exm_pair eC_Refused iC_Refused tC_Refused s_TooMany_Refused).trans (by decide +kernel)
  have d_FORMS : KD K mg w "FORMS" kv_FORMS := kd_mk (PySem.W.mg_of X G n_FORMS) ⟨l_FORMS, kl_FORMS, lo_FORMS⟩ es__FORMS (EntR.cons (v := .ref A_FORMS_0) u__FORMS_0 (kt_strs lt_FORMS_0 sz_FORMS_0 va_FORMS_0) (EntR.cons (v := .ref A_FORMS_1) u__FORMS_1 (kt_strs lt_FORMS_1 sz_FORMS_1 va_FORMS_1) (EntR.cons (v := .ref A_FORMS_2) u__FORMS_2 (kt_strs lt_FORMS_2 sz_FORMS_2 va_FORMS_2) (EntR.cons (v := .ref A_FORMS_3) u__FORMS_3 (kt_strs lt_FORMS_3 sz_FORMS_3 va_FORMS_3) (EntR.cons (v := .ref A_FORMS_4) u__FORMS_4 (kt_strs lt_FORMS_4 sz_FORMS_4 va_FORMS_4) (EntR.cons (v := .ref A_FORMS_5) u__FORMS_5 (kt_strs lt_FORMS_5 sz_FORMS_5 va_FORMS_5) (EntR.cons (v := .ref A_FORMS_6) u__FORMS_6 (kt_strs lt_FORMS_6 sz_FORMS_6 va_FORMS_6) (EntR.cons (v := .ref A_FORMS_7) u__FORMS_7 (kt_strs lt_FORMS_7 sz_FORMS_7 va_FORMS_7) EntR.nil))))))))
  have e : A_law = fa := by
    have e := hfa.symm.trans (PySem.W.mg_of X G n_law)
    cases e
    rfl
  subst e
  exact ⟨_, fun s v => .of_eq rfl, fun base _ _ => ok_law { a_fits := A_fits, e_fits := _, F_fits := fun_mk (st := S_fits) l_fits c_fits p_fits, M_fits := PySem.W.mg_of X G n_fits, a_has_form := A_has_form, e_has_form := _, F_has_form := fun_mk (st := S_has_form) l_has_form c_has_form p_has_form, M_has_form := PySem.W.mg_of X G n_has_form, a_bodies_at := A_bodies_at, e_bodies_at := _, F_bodies_at := fun_mk (st := S_bodies_at) l_bodies_at c_bodies_at p_bodies_at, M_bodies_at := PySem.W.mg_of X G n_bodies_at, a_end_of := A_end_of, e_end_of := _, F_end_of := fun_mk (st := S_end_of) l_end_of c_end_of p_end_of, M_end_of := PySem.W.mg_of X G n_end_of, a_lay_body := A_lay_body, e_lay_body := _, F_lay_body := fun_mk (st := S_lay_body) l_lay_body c_lay_body p_lay_body, M_lay_body := PySem.W.mg_of X G n_lay_body, a_laid_out := A_laid_out, e_laid_out := _, F_laid_out := fun_mk (st := S_laid_out) l_laid_out c_laid_out p_laid_out, M_laid_out := PySem.W.mg_of X G n_laid_out, a_count_body := A_count_body, e_count_body := _, F_count_body := fun_mk (st := S_count_body) l_count_body c_count_body p_count_body, M_count_body := PySem.W.mg_of X G n_count_body, a_count_statement := A_count_statement, e_count_statement := _, F_count_statement := fun_mk (st := S_count_statement) l_count_statement c_count_statement p_count_statement, M_count_statement := PySem.W.mg_of X G n_count_statement, a_made_program := A_made_program, e_made_program := _, F_made_program := fun_mk (st := S_made_program) l_made_program c_made_program p_made_program, M_made_program := PySem.W.mg_of X G n_made_program, a_is_number := A_is_number, e_is_number := _, F_is_number := fun_mk (st := S_is_number) l_is_number c_is_number p_is_number, M_is_number := PySem.W.mg_of X G n_is_number, a_is_row_of_numbers := A_is_row_of_numbers, e_is_row_of_numbers := _, F_is_row_of_numbers := fun_mk (st := S_is_row_of_numbers) l_is_row_of_numbers c_is_row_of_numbers p_is_row_of_numbers, M_is_row_of_numbers := PySem.W.mg_of X G n_is_row_of_numbers, a_places := A_places, e_places := _, F_places := fun_mk (st := S_places) l_places c_places p_places, M_places := PySem.W.mg_of X G n_places, a_next_place := A_next_place, e_next_place := _, F_next_place := fun_mk (st := S_next_place) l_next_place c_next_place p_next_place, M_next_place := PySem.W.mg_of X G n_next_place, a__law_pool := A__law_pool, e__law_pool := _, F__law_pool := fun_mk (st := S__law_pool) l__law_pool c__law_pool p__law_pool, M__law_pool := PySem.W.mg_of X G n__law_pool, a__law_take := A__law_take, e__law_take := _, F__law_take := fun_mk (st := S__law_take) l__law_take c__law_take p__law_take, M__law_take := PySem.W.mg_of X G n__law_take, a__law_one := A__law_one, e__law_one := _, F__law_one := fun_mk (st := S__law_one) l__law_one c__law_one p__law_one, M__law_one := PySem.W.mg_of X G n__law_one, a__law_plain := A__law_plain, e__law_plain := _, F__law_plain := fun_mk (st := S__law_plain) l__law_plain c__law_plain p__law_plain, M__law_plain := PySem.W.mg_of X G n__law_plain, a__law_body := A__law_body, e__law_body := _, F__law_body := fun_mk (st := S__law_body) l__law_body c__law_body p__law_body, M__law_body := PySem.W.mg_of X G n__law_body, a__law_program := A__law_program, e__law_program := _, F__law_program := fun_mk (st := S__law_program) l__law_program c__law_program p__law_program, M__law_program := PySem.W.mg_of X G n__law_program, a__law_leads := A__law_leads, e__law_leads := _, F__law_leads := fun_mk (st := S__law_leads) l__law_leads c__law_leads p__law_leads, M__law_leads := PySem.W.mg_of X G n__law_leads, a__law_order := A__law_order, e__law_order := _, F__law_order := fun_mk (st := S__law_order) l__law_order c__law_order p__law_order, M__law_order := PySem.W.mg_of X G n__law_order, a__law_told := A__law_told, e__law_told := _, F__law_told := fun_mk (st := S__law_told) l__law_told c__law_told p__law_told, M__law_told := PySem.W.mg_of X G n__law_told, a__law_right := A__law_right, e__law_right := _, F__law_right := fun_mk (st := S__law_right) l__law_right c__law_right p__law_right, M__law_right := PySem.W.mg_of X G n__law_right, a_law := A_law, e_law := _, F_law := fun_mk (st := S_law) l_law c_law p_law, M_law := PySem.W.mg_of X G n_law, C_Refused := C_Refused, i_Refused := fI, x_Refused := x_Refused, C_BadProgram := C_BadProgram, i_BadProgram := fI, x_BadProgram := x_BadProgram, C_BadPlace := C_BadPlace, i_BadPlace := fI, x_BadPlace := x_BadPlace, C_TooMany := C_TooMany, i_TooMany := fI, x_TooMany := x_TooMany, low := low, y_BadPlace := y_BadPlace, y_Refused := y_Refused, a_BRANCHES := A_BRANCHES, g_BRANCHES := PySem.W.mg_of X G n_BRANCHES, k_BRANCHES := kt_strs lt_BRANCHES sz_BRANCHES va_BRANCHES, t_DEEPEST := t_DEEPEST, g_DEEPEST := PySem.W.mg_of X G n_DEEPEST, a_FORMS := A_FORMS, g_FORMS := PySem.W.mg_of X G n_FORMS, d_FORMS := d_FORMS, t_MOST_STATEMENTS := t_MOST_STATEMENTS, g_MOST_STATEMENTS := PySem.W.mg_of X G n_MOST_STATEMENTS, a_NAMES := A_NAMES, g_NAMES := PySem.W.mg_of X G n_NAMES, k_NAMES := kt_strs lt_NAMES sz_NAMES va_NAMES, a_OWN_WORDS := A_OWN_WORDS, g_OWN_WORDS := PySem.W.mg_of X G n_OWN_WORDS, k_OWN_WORDS := kt_strs lt_OWN_WORDS sz_OWN_WORDS va_OWN_WORDS, a_PILES := A_PILES, g_PILES := PySem.W.mg_of X G n_PILES, k_PILES := kt_strs lt_PILES sz_PILES va_PILES, z_all := PySem.W.mg_none_of X G z_all, z_bool := PySem.W.mg_none_of X G z_bool, z_enumerate := PySem.W.mg_none_of X G z_enumerate, z_int := PySem.W.mg_none_of X G z_int, z_isinstance := PySem.W.mg_none_of X G z_isinstance, z_len := PySem.W.mg_none_of X G z_len, z_list := PySem.W.mg_none_of X G z_list, z_max := PySem.W.mg_none_of X G z_max, z_min := PySem.W.mg_none_of X G z_min, z_range := PySem.W.mg_none_of X G z_range, z_repr := PySem.W.mg_none_of X G z_repr, z_str := PySem.W.mg_none_of X G z_str, z_tuple := PySem.W.mg_none_of X G z_tuple, z_zip := PySem.W.mg_none_of X G z_zip }⟩
end K01

set_option Elab.async false
set_option linter.all false
set_option maxRecDepth 100000
set_option autoImplicit false
namespace K01
open PySem PySem.Spec PyProof.Rows L2 Sh
open Lw (Src len_of seqD_obj)
open Lt Ly
theorem eq_fcount : ∀ n, f_count_body n = Lp.f_count_body n := fun _ => rfl
theorem eq_count : m_count_body = Lp.m_count_body := rfl
theorem eq_made : m_made_program = Lp.m_made_program := rfl
theorem eq_flay : ∀ n, f_lay_body n = Ly.f_lay_body n := fun _ => rfl
theorem eq_laid : m_laid_out = Ly.m_laid_out := rfl
theorem eq_end : m_end_of = Ly.m_end_of := rfl
theorem eq_row : m_is_row_of_numbers = Ly.m_is_row_of_numbers := rfl
/-- a drawn program -/
structure Prog (t : Tb) : Prop where
  ok : t.ok
  dep : t.dep ≤ 5
  cnt : t.cnt ≤ 40
theorem Prog.nk {t : Tb} (h : Prog t) : (D.tup t.ds).nk 100 = true := by
  have := t.len_le
  have := h.dep
  have := h.cnt
  exact nk_tup (n := 99) (by omega) fun x hx => nk_mono (Tb.nk h.ok h.cnt x hx) (by omega)
theorem made_prog {t : Tb} {S : Sto} {P : D → Sto → Prop} {E : Str → D → Sto → Prop} (h : Prog t) (k : ∀ S', Pg [] S S' → P (.tup t.ds) S') : (Lp.m_made_program [.tup t.ds] S).wp P E := by
  refine Lp.made_wp h.nk fun S' pg => ?_
  rw [Lp.judged_bs (to_bs (k := t.dep) h.ok (Nat.le_refl _)) h.dep h.cnt]
  exact k S' pg
theorem laid_nodup (t : Tb) : ((laid t).map (·.1)).Nodup := Tb.lay_nodup t [] _ 0
theorem laid_deep {t : Tb} (h : Prog t) : ∀ e ∈ laid t, e.1.length ≤ 11 := fun e he => by
  have h1 := Tb.lay_deep t [] _ 0 e he
  have h2 := h.dep
  simp at h1
  omega
theorem places_wp {t : Tb} {S : Sto} {P : D → Sto → Prop} {E : Str → D → Sto → Prop} (h : Prog t) (k : ∀ S', Pg [] S S' → P (.tup ((laid t).map (fun e => pD e.1) ++ [pD [(t.ds.length : Int)]])) S') : (m_places [.tup t.ds] S).wp P E := by
  unfold m_places b_places
  rw [eq_laid, eq_made, eq_end]
  exists 7000
  refine made_prog h fun S1 pg1 => ?_
  exists 7000
  refine laid_out_wp h.ok (by have := h.dep; omega) h.cnt fun S2 hS2 pg2 => ?_
  exists 7000, w_star
  have e1 : gListA [.obj S1.length] S2 = .ok (.obj S2.length) (S2 ++ [.lst (keyT ((laid t).map kvP))]) := by
    simp only [gListA, hS2]
  rw [e1, wp_ok, keyT_map]
  refine ⟨_, seqD_obj last_get, ?_⟩
  exists 7000
  refine end_of_wp ?_
  exists 7000
  have hl : (laid t).length ≤ 40 := by rw [laid, Tb.lay_len]; exact h.cnt
  refine ⟨by simp; omega, k _ ((pg1.trans pg2).trans Pg.push)⟩
/-- where next_place leads -/
inductive Next (t : Tb) (d : D) : Option D → Prop
  | way {e : Ent} : e ∈ laid t → d = pD e.1 → e.2.1.way = true → Next t d none
  | on {e : Ent} : e ∈ laid t → d = pD e.1 → e.2.1.way = false → Next t d (some (pD e.2.2))
  | no : (∀ e ∈ laid t, d ≠ pD e.1) → Next t d none
theorem word_in {s : Tr} (h : s.ok) (hc : s.cnt ≤ 40) (hd : s.dep ≤ 20) {S : Sto} {neg : Bool} {P : D → Sto → Prop} {E : Str → D → Sto → Prop} : (dIn2 neg (.str s.word) (.tup [.str "loop", .str "either"]) S).wp P E = P (.bl (if neg then !s.way else s.way)) S := by
  obtain ⟨r, hr⟩ := Tr.word_eq h
  have h1 := Tr.nk h hc
  rw [hr, show 5 + 2 * s.dep = 4 + 2 * s.dep + 1 by omega] at h1
  have h2 := (nk_of h1).2 (.str s.word) (by simp)
  rw [o_inT (.inl rfl) (nk_dk (nk_mono h2 (by omega))) (by decide +kernel)]
  have e : anyEq [.str "loop", .str "either"] (.str s.word) = s.way := by
    simp only [anyEq, List.any_cons, List.any_nil, eq_ss, Bool.or_false]
    cases s with
    | pl d =>
      have a := (Tr.word_loop h)
      have b := (Tr.word_either h)
      have a1 : ¬ ("loop" : Str) = (Tr.pl d).word := fun z => by obtain ⟨_, z⟩ := a.mp z.symm; cases z
      have b1 : ¬ ("either" : Str) = (Tr.pl d).word := fun z => by obtain ⟨_, _, z⟩ := b.mp z.symm; cases z
      simp [a1, b1, Tr.way]
    | lp b => simp [Tr.word, Tr.way]
    | ei a b => simp [Tr.word, Tr.way]
  rw [e]
theorem word_inK {s : Tr} (h : s.ok) (hc : s.cnt ≤ 40) (hd : s.dep ≤ 20) {S : Sto} {neg : Bool} {P : D → Sto → Prop} {E : Str → D → Sto → Prop} : (dIn2 neg (.str s.word) (.kt [.str "loop", .str "either"]) S).wp P E = P (.bl (if neg then !s.way else s.way)) S := by
  obtain ⟨r, hr⟩ := Tr.word_eq h
  have h1 := Tr.nk h hc
  rw [hr, show 5 + 2 * s.dep = 4 + 2 * s.dep + 1 by omega] at h1
  have h2 := (nk_of h1).2 (.str s.word) (by simp)
  rw [o_inT (.inr rfl) (nk_dk (nk_mono h2 (by omega))) (by decide +kernel)]
  have e : anyEq [.str "loop", .str "either"] (.str s.word) = s.way := by
    simp only [anyEq, List.any_cons, List.any_nil, eq_ss, Bool.or_false]
    cases s with
    | pl d =>
      have a := (Tr.word_loop h)
      have b := (Tr.word_either h)
      have a1 : ¬ ("loop" : Str) = (Tr.pl d).word := fun z => by obtain ⟨_, z⟩ := a.mp z.symm; cases z
      have b1 : ¬ ("either" : Str) = (Tr.pl d).word := fun z => by obtain ⟨_, _, z⟩ := b.mp z.symm; cases z
      simp [a1, b1, Tr.way]
    | lp b => simp [Tr.word, Tr.way]
    | ei a b => simp [Tr.word, Tr.way]
  rw [e]
theorem pD_inj {p q : Pl} (h : pD p = pD q) : p = q := by
  unfold pD at h
  injection h with h
  exact List.map_inj_right (f := D.int) (fun _ _ e => by injection e) |>.mp h
theorem next_place_wp {t : Tb} {d : D} {S : Sto} {P : D → Sto → Prop} {E : Str → D → Sto → Prop} (h : Prog t) (hd : d.nk 100 = true) (k : ∀ S' o, Pg [] S S' → Next t d o → match o with
    | some v => P v S'
    | none => E "BadPlace" d S') : (m_next_place [.tup t.ds, d] S).wp P E := by
  unfold m_next_place b_next_place
  rw [eq_laid, eq_made, eq_row]
  exists 7000
  refine made_prog h fun S1 pg1 => ?_
  exists 7000
  refine laid_out_wp h.ok (by have := h.dep; omega) h.cnt fun S2 hS2 pg2 => ?_
  exists 7000
  refine is_row_wp hd fun S3 pg3 => ?_
  exists 7000
  have hS3 := pg3.get hS2 (by simp)
  have pg := pg1.trans (pg2.trans pg3)
  cases hr : rowN d with
  | false =>
    exists 7000
    refine k S3 none pg (.no fun e he q => ?_)
    rw [q, rowN_of] at hr
    cases hr
  | true =>
    obtain ⟨q, rfl⟩ := rowN_pD hr
    exists 7000
    rw [o_inT' hS3]
    by_cases hm : ∃ e ∈ laid t, e.1 = q
    · obtain ⟨e, he, rfl⟩ := hm
      have hk := kget_map (f := fun _ => ()) (F := kvP) (fun _ => rfl) (laid_nodup t) he
      rw [hk]
      exists 7000, Option.isSome_some
      rw [o_ixT' hS3 hk]
      have hso := Tb.lay_ok (b := []) (h := [(t.ds.length : Int)]) (i := 0) h.ok e he
      have hcn := h.cnt
      have hdn := h.dep
      obtain ⟨r, hw⟩ := Tr.word_eq hso.1
      exists 7000, kvP
      rw [hw]
      exists 7000
      rw [word_inK hso.1 (by omega) (by omega)]
      exists 7000
      cases hway : e.2.1.way with
      | true =>
        exists 7000
        exact k S3 none pg (.way he rfl hway)
      | false =>
        exists 7000
        exact k S3 (some (pD e.2.2)) pg (.on he rfl hway)
    · have hno : ∀ e ∈ laid t, e.1 ≠ q := fun e he z => hm ⟨e, he, z⟩
      rw [kget_no (fun _ => rfl) hno]
      exists 7000, Option.isSome_none
      exact k S3 none pg (.no fun e he z => hno e he (pD_inj z.symm))
end K01

set_option Elab.async false
set_option linter.all false
set_option maxRecDepth 100000
set_option autoImplicit false
namespace K01
open PySem PySem.Spec PyProof.Rows L2 Sh
open Lw (Src len_of seqD_obj)
open Lt Ly Lg
mutual
theorem tr_pls : ∀ (s : Tr) (p a a' : Pl), (s.lay p a).map (·.1) = (s.lay p a').map (·.1)
  | .pl d, p, a, a' => rfl
  | .lp b, p, a, a' => by simp only [Tr.lay, List.map_cons]
  | .ei x y, p, a, a' => by simp only [Tr.lay, List.map_cons, List.map_append, tb_pls x _ a a', tb_pls y _ a a']
theorem tb_pls : ∀ (t : Tb) (b h h' : Pl) (i : Nat), (t.lay b h i).map (·.1) = (t.lay b h' i).map (·.1)
  | .nil, _, _, _, _ => rfl
  | .cons s r, b, h, h', i => by simp only [Tb.lay, List.map_append, tr_pls s _ _ (r.aft b h' (i + 1)), tb_pls r b h h' (i + 1)]
end
def ordD (W : List Ent) : List D := W.map fun e => pD e.1
theorem ord_eq {A B : List Ent} (h : A.map (·.1) = B.map (·.1)) : ordD A = ordD B := by
  have e : ∀ W : List Ent, ordD W = (W.map (·.1)).map pD := fun W => by simp [ordD]
  rw [e, e, h]
def OrdOk (r : List D → Sto → R D) (g : Nat) : Prop := ∀ (S : Sto) (t : Tb) (b h : Pl) (P : D → Sto → Prop) (E : Str → D → Sto → Prop), t.ok → t.dep < g → t.cnt ≤ 40 → b.length + 2 * g ≤ 19 → g ≤ 10 →
  (∀ l S', S.length ≤ l → S'[l]? = some (.lst (ordD (t.lay b h 0))) → Pg [] S S' → P (.obj l) S') → (r [.tup t.ds, pD b] S).wp P E
theorem order_wp {r : List D → Sto → R D} {g : Nat} (hr : OrdOk r g) : OrdOk (fnM N__law_order.length (b__law_order r)) (g + 1) := by
  intro S t b h P E ho hd hc hb hg k
  have htl := t.len_le
  unfold b__law_order
  exists 7000
  refine ⟨_, rfl, by omega, ?_⟩
  refine loop_wp t.ds.length (fun i ρ S' => ∃ (u : Tb) (A : List Ent) (l : Nat) (x3 x4 x5 : Option D), ρ = [some (.tup t.ds), some (pD b), some (.obj l), x3, x4, x5] ∧ u.ok ∧ u.dep ≤ t.dep ∧ u.ds = t.ds.drop i ∧ A ++ u.lay b h i = t.lay b h 0 ∧
    S.length ≤ l ∧ S'[l]? = some (.lst (ordD A)) ∧ Pg [] S S') (fun ρ S' hI => ⟨?_, ?_⟩) (fun i ρ S' hi hI => ?_) ?_ (Nat.zero_le _) ?_
  · simp [diR]
  · obtain ⟨u, A, l, x3, x4, x5, rfl, u1, u2, u3, u4, hl, hS', pg'⟩ := hI
    rw [List.drop_length] at u3
    cases u with
    | nil =>
      simp only [Tb.lay, List.append_nil] at u4
      rw [u4] at hS'
      exists 7000
      exact k l S' hl hS' pg'
    | cons s v => simp [Tb.ds] at u3
  · obtain ⟨u, A, l, x3, x4, x5, rfl, u1, u2, u3, u4, hl, hS', pg'⟩ := hI
    rw [List.drop_eq_getElem_cons hi] at u3
    cases u with
    | nil => cases (show ([] : List D) = _ :: _ from u3)
    | cons s v =>
      simp only [Tb.ds, List.cons.injEq] at u3
      simp only [Tb.dep] at u2
      have cl := congrArg List.length u4
      rw [List.length_append, Tb.lay_len, Tb.lay_len] at cl
      simp only [Tb.cnt] at cl
      have hl0 := (List.getElem?_eq_some_iff.mp hS').1
      refine ⟨.int i, by simp [diR, hi], ?_⟩
      exists 7000
      rw [o_add_p (by omega)]
      exists 7000
      rw [o_ixT hi, ← u3.1]
      exists 7000
      refine ⟨l, _, rfl, hS', _, hS', by simp [ordD]; omega, ?_⟩
      generalize ha : v.aft b h (i + 1) = a at u4
      have u4' : A ++ (s.lay (b ++ [(i : Int)]) a ++ v.lay b h (i + 1)) = t.lay b h 0 := by rw [← u4, Tb.lay, ha]
      generalize hp : b ++ [(i : Int)] = p at u4'
      have hpl : p.length = b.length + 1 := by rw [← hp]; simp
      have hS1 : (S'.set l (.lst (ordD A ++ [pD p])))[l]? = some (.lst (ordD A ++ [pD p])) := List.getElem?_set_self hl0
      have pg1 : Pg [] S (S'.set l (.lst (ordD A ++ [pD p]))) := pg'.setN hl
      generalize S'.set l _ = S1 at hS1 pg1 ⊢
      have fin : ∀ (S2 : Sto) (l2 : Nat), S.length ≤ l2 → S2[l2]? = some (.lst (ordD (A ++ s.lay p a))) → Pg [] S S2 → ∃ (u : Tb) (A : List Ent) (l : Nat) (y3 y4 y5 : Option D), [some (.tup t.ds), some (pD b), some (.obj l2), some (.int i), some (pD p), some s.d] = [some (.tup t.ds), some (pD b), some (.obj l), y3, y4, y5] ∧ u.ok ∧ u.dep ≤ t.dep ∧ u.ds = t.ds.drop (i + 1) ∧ A ++ u.lay b h (i + 1) = t.lay b h 0 ∧
          S.length ≤ l ∧ S2[l]? = some (.lst (ordD A)) ∧ Pg [] S S2 := fun S2 l2 hl2 hS2 pg2 => ⟨v, A ++ s.lay p a, l2, _, _, _, rfl, u1.2, by omega, u3.2, by rw [List.append_assoc]; exact u4', hl2, hS2, pg2⟩
      have hl1 := (List.getElem?_eq_some_iff.mp hS1).1
      cases s with
      | pl d =>
        obtain ⟨w, rr, rfl, hw⟩ := plain_word u1.1
        have c1 : ¬ w = "loop" := fun e => not_loop (e ▸ hw)
        have c2 : ¬ w = "either" := fun e => not_either (e ▸ hw)
        have hwd : (D.str w).dk 200 = true := dk_mono (nk_dk ((nk_of (n := 4) (plain_nk u1.1)).2 (.str w) (by simp))) (by decide)
        exists 7000, Tr.d
        rw [o_eq hwd (by decide +kernel)]
        exists 7000, c1
        rw [o_eq hwd (by decide +kernel)]
        exists 7000, c2
        refine fin S1 l hl ?_ pg1
        rw [hS1]
        simp [ordD, Tr.lay]
      | lp c =>
        simp only [Tr.dep] at u2
        simp only [Tr.cnt] at cl
        exists 7000, Tr.d
        rw [o_eq (by decide +kernel) (by decide +kernel)]
        exists 7000
        refine hr S1 c p p _ _ u1.1.1 (by omega) (by omega) (by omega) (by omega) fun l2 S2 hl2 hS2 pg2 => ?_
        rw [o_add_l (pg2.get hS1 (by simp)) hS2 (by simp [ordD, Tb.lay_len]; omega)]
        exists 7000
        refine fin _ _ (Nat.le_trans pg1.len pg2.len) ?_ ((pg1.trans pg2).trans Pg.push)
        rw [last_get]
        simp [ordD, Tr.lay]
      | ei x y =>
        simp only [Tr.dep] at u2
        simp only [Tr.cnt] at cl
        exists 7000, Tr.d
        rw [o_eq (by decide +kernel) (by decide +kernel)]
        exists 7000
        rw [if_neg (by exact Lp.ne_le)]
        exists 7001
        rw [o_eq (by decide +kernel) (by decide +kernel)]
        exists 7000
        rw [o_add_p (by omega)]
        exists 7000
        refine hr S1 x (p ++ [0]) a _ _ u1.1.1 (by omega) (by omega) (by simp; omega) (by omega) fun l2 S2 hl2 hS2 pg2 => ?_
        rw [o_add_l (pg2.get hS1 (by simp)) hS2 (by simp [ordD, Tb.lay_len]; omega)]
        exists 7000
        rw [o_add_p (by omega)]
        exists 7000
        refine hr _ y (p ++ [1]) a _ _ u1.1.2.1 (by omega) (by omega) (by simp; omega) (by omega) fun l4 S4 hl4 hS4 pg4 => ?_
        rw [o_add_l (pg4.get last_get (by simp)) hS4 (by simp [ordD, Tb.lay_len]; omega)]
        exists 7000
        have pg24 : Pg [] S1 S4 := (pg2.trans Pg.push).trans pg4
        refine fin _ _ (Nat.le_trans pg1.len pg24.len) ?_ ((pg1.trans pg24).trans Pg.push)
        rw [last_get]
        simp [ordD, Tr.lay]
  · exact ⟨t, [], S.length, none, none, none, rfl, ho, Nat.le_refl _, rfl, rfl, Nat.le_refl _, by simpa [ordD] using last_get, Pg.push⟩
  · unfold FU; omega
theorem order_ok : ∀ {g n : Nat}, g ≤ n → OrdOk (f__law_order n) g
  | 0, n, _ => fun _ _ _ _ _ _ _ h => absurd h (Nat.not_lt_zero _)
  | g + 1, 0, h => absurd h (by omega)
  | g + 1, n + 1, h => order_wp (order_ok (by omega))
end K01

set_option Elab.async false
set_option linter.all false
set_option maxRecDepth 100000
set_option autoImplicit false
namespace Rp
open PySem PySem.Spec PyProof.Rows L2 Sh
/-! ### data that can be shown -/
def le2 (s : Str) : Prop := ∀ c ∈ s.cps.toList, c < 1114112
theorem strOk_of {s : Str} (h : le2 s) : PyData.strOk s = true := by
  unfold PyData.strOk
  rw [Array.all_eq_true_iff_forall_mem]
  intro c hc
  exact decide_eq_true (h c (Array.mem_toList_iff.mpr hc))
theorem le2_of {s : Str} (h : PyData.strOk s = true) : le2 s := by
  intro c hc
  unfold PyData.strOk at h
  exact of_decide_eq_true ((Array.all_eq_true_iff_forall_mem.mp h) c (Array.mem_toList_iff.mp hc))
theorem le2_app {a b : Str} (h1 : le2 a) (h2 : le2 b) : le2 (a ++ b) := by
  intro c hc
  rcases mem_cps_append.mp hc with h | h
  · exact h1 c h
  · exact h2 c h
theorem le2_join {sep : Str} {ts : List Str} (h : le2 sep) (h2 : ∀ t ∈ ts, le2 t) : le2 (Str.join sep ts) := by
  intro c hc
  rcases (mem_join sep c ts).mp hc with ⟨t, ht, q⟩ | ⟨_, q⟩
  · exact h2 t ht c q
  · exact h c q
/-- data whose text is short: deep less than n, of a weight of at most w -/
structure Is (n w : Nat) (d : D) : Prop where
  dk : d.dk n = true
  sh : d.py.showable = true
  nums : d.py.intsShort 13 = true
  wt : d.py.weight ≤ w
  lo : le2 d.py.shown
theorem Is.mono {n w n' w' : Nat} {d : D} (h : Is n w d) (h1 : n ≤ n') (h2 : w ≤ w') : Is n' w' d := ⟨dk_mono h.dk h1, h.sh, h.nums, Nat.le_trans h.wt h2, h.lo⟩
theorem Is.int {i : Int} (h : i.natAbs < 10 ^ 12) : Is 1 64 (.int i) := by
  have hl : i.natAbs.log2 < 64 := by
    by_cases z : i.natAbs = 0
    · rw [z]; decide
    · exact (Nat.log2_lt z).mpr (Nat.lt_of_lt_of_le h (by decide))
  refine ⟨rfl, ?_, ?_, ?_, ?_⟩
  · simp only [D.py, PyData.showable, decide_eq_true_eq]; omega
  · simp only [D.py, PyData.intsShort, decide_eq_true_eq]; exact PyData.shown_int_le h
  · simp only [D.py, PyData.weight]; split <;> omega
  · intro c hc
    refine Nat.lt_of_not_le fun hk => ?_
    exact shown_int_free' (k := c) ⟨by omega, by omega⟩ i hc
theorem Is.bl {b : Bool} : Is 1 0 (.bl b) := ⟨rfl, rfl, rfl, Nat.le_refl _, le2_of (by cases b <;> decide +kernel)⟩
theorem Is.non : Is 1 0 .non := ⟨rfl, rfl, rfl, Nat.le_refl _, le2_of (by decide +kernel)⟩
theorem Is.str {z : Str} (h : PyData.strOk z = true) (h2 : PyData.strOk (PyData.str z).shown = true) : Is 1 z.cps.size (.str z) := ⟨by simpa [D.dk] using h, rfl, rfl, Nat.le_refl _, le2_of h2⟩
theorem pys_all {p : PyData → Bool} {xs : List D} (h : ∀ x ∈ xs, p x.py = true) : (pys xs).all p = true := by
  rw [pys_map, List.all_map, List.all_eq_true]
  exact h
theorem showAll_of : ∀ {ps : List PyData}, (∀ p ∈ ps, p.showable = true) → PyData.showableAll ps = true
  | [], _ => rfl
  | p :: ps, h => by
    simp only [PyData.showableAll, Bool.and_eq_true]
    exact ⟨h p List.mem_cons_self, showAll_of fun q hq => h q (List.mem_cons_of_mem _ hq)⟩
theorem intsAll_of : ∀ {ps : List PyData}, (∀ p ∈ ps, p.intsShort 13 = true) → PyData.intsShortAll 13 ps = true
  | [], _ => rfl
  | p :: ps, h => by
    simp only [PyData.intsShortAll, Bool.and_eq_true]
    exact ⟨h p List.mem_cons_self, intsAll_of fun q hq => h q (List.mem_cons_of_mem _ hq)⟩
theorem weightAll_le {w : Nat} : ∀ {ps : List PyData}, (∀ p ∈ ps, p.weight ≤ w) → PyData.weightAll ps ≤ ps.length * (w + 1)
  | [], _ => Nat.zero_le _
  | p :: ps, h => by
    have h1 := h p List.mem_cons_self
    have h2 := weightAll_le (ps := ps) fun q hq => h q (List.mem_cons_of_mem _ hq)
    simp only [PyData.weightAll, List.length_cons, Nat.add_mul, Nat.one_mul]
    omega
theorem shownAll_le2 : ∀ {ps : List PyData}, (∀ p ∈ ps, le2 p.shown) → ∀ t ∈ PyData.shownAll ps, le2 t
  | [], _, t, ht => by simp only [PyData.shownAll] at ht; cases ht
  | p :: ps, h, t, ht => by
    simp only [PyData.shownAll, List.mem_cons] at ht
    rcases ht with rfl | ht
    · exact h p List.mem_cons_self
    · exact shownAll_le2 (fun q hq => h q (List.mem_cons_of_mem _ hq)) t ht
theorem pys_mem {xs : List D} {p : PyData} (h : p ∈ pys xs) : ∃ x ∈ xs, x.py = p := by
  rw [pys_map] at h
  exact List.mem_map.mp h
theorem Is.tup {n w L : Nat} {xs : List D} (h : ∀ x ∈ xs, Is n w x) (hl : xs.length ≤ L) (hL : L ≤ 50000) : Is (n + 1) (L * (w + 1)) (.tup xs) := by
  have len : (pys xs).length = xs.length := by rw [pys_map, List.length_map]
  refine ⟨dk_tup (by omega) fun x hx => (h x hx).dk, ?_, ?_, ?_, ?_⟩
  · simp only [D.py, PyData.showable]
    exact showAll_of fun p hp => by obtain ⟨x, hx, rfl⟩ := pys_mem hp; exact (h x hx).sh
  · simp only [D.py, PyData.intsShort]
    exact intsAll_of fun p hp => by obtain ⟨x, hx, rfl⟩ := pys_mem hp; exact (h x hx).nums
  · simp only [D.py, PyData.weight]
    refine Nat.le_trans (weightAll_le (w := w) fun p hp => by obtain ⟨x, hx, rfl⟩ := pys_mem hp; exact (h x hx).wt) ?_
    rw [len]
    exact Nat.mul_le_mul_right _ hl
  · simp only [D.py, PyData.shown, tupleText]
    refine le2_app (le2_app (le2_of (by decide +kernel)) (le2_join (le2_of (by decide +kernel)) ?_)) ?_
    · exact shownAll_le2 fun p hp => by obtain ⟨x, hx, rfl⟩ := pys_mem hp; exact (h x hx).lo
    · exact le2_of (by split <;> decide +kernel)
def Is.text {n w : Nat} {d : D} (h : Is n w d) : Str := d.py.shown
theorem shown_dk {n w : Nat} {d : D} (h : Is n w d) : (D.str d.py.shown).dk 200 = true := by
  simpa [D.dk] using strOk_of h.lo
theorem o_repr {n w : Nat} {d : D} {S : Sto} {P : D → Sto → Prop} {E : Str → D → Sto → Prop} (h : Is n w d) (hn : n ≤ 190) (hw : w ≤ 1000000) : (gRepr [d] S).wp P E = P (.str d.py.shown) S := by
  have l := lay_dk h.dk
  have s1 := PyData.shown_le 13 (by decide) d.py (PyData.leavesShort_of_canLay0 13 d.py l.1 h.nums)
  have hw2 := h.wt
  simp only [gRepr, pd_dk (S := S) (dk_mono h.dk (show n ≤ 220 by omega))]
  rw [if_pos ⟨l.1, h.sh, by omega, by omega⟩]
  exact wp_ok
/-! ### in a list -/
theorem o_inL {S : Sto} {P : D → Sto → Prop} {E : Str → D → Sto → Prop} {neg : Bool} {d : D} {l : Nat} {ys : List D} (h : S[l]? = some (.lst ys)) (hd : d.dk 180 = true) (hy : (D.tup ys).dk 180 = true) : (dIn2 neg d (.obj l) S).wp P E = P (.bl (if neg then !anyEq ys d else anyEq ys d)) S := by
  have h1 := lay_dk hd
  have h2 := lay_dk hy
  have hy' := hy
  rw [D.dk, Bool.and_eq_true] at hy'
  have e0 : dLook (.obj l) d S = none := by simp only [dLook, h]
  have e1 : pd S 220 (.obj l) = some (.list (pys ys)) := by
    unfold pd
    rw [h]
    simp only
    rw [optAll_pd (n := 219) (fun d hd => pd_dk hd) ys ?_]
    · rfl
    · rw [List.all_eq_true]
      intro x hx
      exact dk_mono (List.all_eq_true.mp hy'.2 x hx) (by decide)
  have e2 : pd S 220 d = some d.py := pd_dk (dk_mono hd (by decide))
  have e3 : PyData.canLayAll0 (pys ys) = true := by have := h2.1; simp only [D.py, PyData.canLay0] at this; exact this
  have e4 : PyData.depthAll (pys ys) ≤ 180 := by have := h2.2; simp only [D.py, PyData.depth] at this; omega
  have e5 : (pys ys).any (fun z => PyData.eqv z d.py) = anyEq ys d := by
    rw [pys_map, List.any_map]
    rfl
  unfold dIn2
  rw [e0]
  simp only [dIn, e1, e2, h1.1, e3, Bool.and_self, Bool.true_and, e5]
  rw [if_pos (by simp only [decide_eq_true_eq]; omega)]
  exact wp_ok
end Rp

local macro_rules | `(tactic| exists 7005) => `(tactic| try simp only [wp_ok, wp_bind, ws_nx, ws_rt, ws_bk, ws_ct, ws_ex, ws_to, ws_seq, ws_gx, wp_fnM, w_lit, w_anil, w_acons, w_bin, w_cb, w_tup, w_lst, w_tbl, w_tru, w_and, w_or, w_not, w_eif, w_eand, w_eor, w_enot, w_neg, w_call, s_nil, s_ret, s_retN, s_expr, s_if, s_raise, s_as, g_name, s_par, g_sub, o_add_i, o_sub, o_mul, o_div, o_mod, o_ord, o_iadd, o_min, o_max, o_int, o_intb, eVar, env0, List.getElem?_cons_succ, List.getElem?_cons_zero, List.set_cons_succ, List.set_cons_zero, List.map_cons, List.map_nil, List.length_cons, List.length_nil, List.replicate_succ, List.replicate_zero, List.cons_append, List.nil_append, List.append_nil, Nat.reduceAdd, Nat.reduceSub, List.zip_cons_cons, List.zip_nil_right, List.foldl_cons, List.foldl_nil, pick, List.filterMap_cons, List.filterMap_nil, Nat.zero_add, D.int.injEq, D.bl.injEq, exists_eq_left', decide_eq_true_eq, true_and, and_self, Option.some.injEq, o_eq_ii, o_ne_ii, Nat.reduceLeDiff, w_iseq, w_ir1, w_ir2, ir2P_ii, w_ien, w_izp, izP_two, o_pow, g_tup, g_nil, g_cons, w_app, w_cut, w_onone, w_osome, o_cut_t, w_comp, s_try, w_disp, w_pnil, w_pcons, o_inK, truD_bl, eq_ss, wipeE, eq_self, o_ix0, o_ix1, o_ix2, o_lenT, if_true, if_false, Bool.not_true, Bool.not_false, Bool.false_eq_true])
local macro_rules | `(tactic| exists 7005, $xs,*) => `(tactic| try simp only [wp_ok, wp_bind, ws_nx, ws_rt, ws_bk, ws_ct, ws_ex, ws_to, ws_seq, ws_gx, wp_fnM, w_lit, w_anil, w_acons, w_bin, w_cb, w_tup, w_lst, w_tbl, w_tru, w_and, w_or, w_not, w_eif, w_eand, w_eor, w_enot, w_neg, w_call, s_nil, s_ret, s_retN, s_expr, s_if, s_raise, s_as, g_name, s_par, g_sub, o_add_i, o_sub, o_mul, o_div, o_mod, o_ord, o_iadd, o_min, o_max, o_int, o_intb, eVar, env0, List.getElem?_cons_succ, List.getElem?_cons_zero, List.set_cons_succ, List.set_cons_zero, List.map_cons, List.map_nil, List.length_cons, List.length_nil, List.replicate_succ, List.replicate_zero, List.cons_append, List.nil_append, List.append_nil, Nat.reduceAdd, Nat.reduceSub, List.zip_cons_cons, List.zip_nil_right, List.foldl_cons, List.foldl_nil, pick, List.filterMap_cons, List.filterMap_nil, Nat.zero_add, D.int.injEq, D.bl.injEq, exists_eq_left', decide_eq_true_eq, true_and, and_self, Option.some.injEq, o_eq_ii, o_ne_ii, Nat.reduceLeDiff, w_iseq, w_ir1, w_ir2, ir2P_ii, w_ien, w_izp, izP_two, o_pow, g_tup, g_nil, g_cons, w_app, w_cut, w_onone, w_osome, o_cut_t, w_comp, s_try, w_disp, w_pnil, w_pcons, o_inK, truD_bl, eq_ss, wipeE, eq_self, o_ix0, o_ix1, o_ix2, o_lenT, if_true, if_false, Bool.not_true, Bool.not_false, Bool.false_eq_true, $[$xs:term],*])
local macro_rules | `(tactic| exists 7006) => `(tactic| simp only [wp_ok, wp_bind, ws_nx, ws_rt, ws_bk, ws_ct, ws_ex, ws_to, ws_seq, ws_gx, wp_fnM, w_lit, w_anil, w_acons, w_bin, w_cb, w_tup, w_lst, w_tbl, w_tru, w_and, w_or, w_not, w_eand, w_eor, w_enot, w_neg, w_call, s_nil, s_ret, s_retN, s_expr, s_raise, s_as, g_name, s_par, g_sub, o_add_i, o_sub, o_mul, o_div, o_mod, o_ord, o_iadd, o_min, o_max, o_int, o_intb, eVar, env0, List.getElem?_cons_succ, List.getElem?_cons_zero, List.set_cons_succ, List.set_cons_zero, List.map_cons, List.map_nil, List.length_cons, List.length_nil, List.replicate_succ, List.replicate_zero, List.cons_append, List.nil_append, List.append_nil, Nat.reduceAdd, Nat.reduceSub, List.zip_cons_cons, List.zip_nil_right, List.foldl_cons, List.foldl_nil, pick, List.filterMap_cons, List.filterMap_nil, Nat.zero_add, D.int.injEq, D.bl.injEq, exists_eq_left', decide_eq_true_eq, true_and, and_self, Option.some.injEq, o_eq_ii, o_ne_ii, Nat.reduceLeDiff, s_for, w_iseq, w_ir1, w_ir2, ir2P_ii, w_ien, w_izp, izP_two, o_pow, g_tup, g_nil, g_cons, w_app, w_cut, w_onone, w_osome, o_cut_t, w_comp, s_try, w_disp, w_pnil, w_pcons, o_inK, truD_bl, eq_ss, wipeE, eq_self, o_ix0, o_ix1, o_ix2, o_lenT, if_true, if_false, Bool.not_true, Bool.not_false, Bool.false_eq_true])
local macro_rules | `(tactic| exists 7006, $xs,*) => `(tactic| simp only [wp_ok, wp_bind, ws_nx, ws_rt, ws_bk, ws_ct, ws_ex, ws_to, ws_seq, ws_gx, wp_fnM, w_lit, w_anil, w_acons, w_bin, w_cb, w_tup, w_lst, w_tbl, w_tru, w_and, w_or, w_not, w_eand, w_eor, w_enot, w_neg, w_call, s_nil, s_ret, s_retN, s_expr, s_raise, s_as, g_name, s_par, g_sub, o_add_i, o_sub, o_mul, o_div, o_mod, o_ord, o_iadd, o_min, o_max, o_int, o_intb, eVar, env0, List.getElem?_cons_succ, List.getElem?_cons_zero, List.set_cons_succ, List.set_cons_zero, List.map_cons, List.map_nil, List.length_cons, List.length_nil, List.replicate_succ, List.replicate_zero, List.cons_append, List.nil_append, List.append_nil, Nat.reduceAdd, Nat.reduceSub, List.zip_cons_cons, List.zip_nil_right, List.foldl_cons, List.foldl_nil, pick, List.filterMap_cons, List.filterMap_nil, Nat.zero_add, D.int.injEq, D.bl.injEq, exists_eq_left', decide_eq_true_eq, true_and, and_self, Option.some.injEq, o_eq_ii, o_ne_ii, Nat.reduceLeDiff, s_for, w_iseq, w_ir1, w_ir2, ir2P_ii, w_ien, w_izp, izP_two, o_pow, g_tup, g_nil, g_cons, w_app, w_cut, w_onone, w_osome, o_cut_t, w_comp, s_try, w_disp, w_pnil, w_pcons, o_inK, truD_bl, eq_ss, wipeE, eq_self, o_ix0, o_ix1, o_ix2, o_lenT, if_true, if_false, Bool.not_true, Bool.not_false, Bool.false_eq_true, $[$xs:term],*])
set_option Elab.async false
set_option linter.all false
set_option maxRecDepth 100000
set_option autoImplicit false
namespace K01
open PySem PySem.Spec PyProof.Rows L2 Sh
open Lw (Src len_of seqD_obj take_wp one_wp oneL_wp)
open Lt Ly Lg Rp
theorem eq_take : m__law_take = Lw.m_take := rfl
theorem eq_one : m__law_one = Lw.m_one := rfl
theorem eq_pool : m__law_pool = Lw.m_pool := rfl
theorem eq_program : m__law_program = Lw.m_program := rfl
/-! ### small places -/
structure Sm (n : Nat) (q : Pl) : Prop where
  len : q.length ≤ n
  sm : ∀ z ∈ q, z.natAbs < 1000
theorem Sm.snoc {n m : Nat} {q : Pl} {i : Int} (h : Sm n q) (hi : i.natAbs < 1000) (hm : n + 1 ≤ m) : Sm m (q ++ [i]) := by
  refine ⟨by have := h.len; simp; omega, fun z hz => ?_⟩
  simp only [List.mem_append, List.mem_singleton] at hz
  rcases hz with hz | rfl
  · exact h.sm z hz
  · exact hi
theorem Sm.mono {n m : Nat} {q : Pl} (h : Sm n q) (hm : n ≤ m) : Sm m q := ⟨Nat.le_trans h.len hm, h.sm⟩
mutual
theorem tr_small : ∀ {t : Tr} {p a : Pl} {n m : Nat}, t.cnt ≤ 40 → Sm n p → n + 2 * t.dep ≤ m → Sm m a → ∀ e ∈ t.lay p a, Sm m e.1 ∧ Sm m e.2.2
  | .pl d, p, a, n, m, hc, hp, hm, ha, e, he => by
    simp only [Tr.lay, List.mem_singleton] at he
    subst he
    exact ⟨hp.mono (by omega), ha⟩
  | .lp b, p, a, n, m, hc, hp, hm, ha, e, he => by
    simp only [Tr.cnt] at hc
    simp only [Tr.dep] at hm
    have := b.len_le
    simp only [Tr.lay, List.mem_cons] at he
    rcases he with rfl | he
    · exact ⟨hp.mono (by omega), ha⟩
    · exact tb_small (t := b) (n := n) (by omega) (by omega) hp (by omega) (hp.mono (by omega)) e he
  | .ei x y, p, a, n, m, hc, hp, hm, ha, e, he => by
    simp only [Tr.cnt] at hc
    simp only [Tr.dep] at hm
    have := x.len_le
    have := y.len_le
    simp only [Tr.lay, List.mem_cons, List.mem_append] at he
    rcases he with rfl | he | he
    · exact ⟨hp.mono (by omega), ha⟩
    · exact tb_small (t := x) (n := n + 1) (by omega) (by omega) (hp.snoc (by decide) (Nat.le_refl _)) (by omega) ha e he
    · exact tb_small (t := y) (n := n + 1) (by omega) (by omega) (hp.snoc (by decide) (Nat.le_refl _)) (by omega) ha e he
theorem tb_small : ∀ {t : Tb} {b h : Pl} {i n m : Nat}, t.cnt ≤ 40 → i + t.ds.length ≤ 500 → Sm n b → n + 1 + 2 * t.dep ≤ m → Sm m h → ∀ e ∈ t.lay b h i, Sm m e.1 ∧ Sm m e.2.2
  | .nil, b, h, i, n, m, hc, hi, hb, hm, hh, e, he => by simp [Tb.lay] at he
  | .cons s r, b, h, i, n, m, hc, hi, hb, hm, hh, e, he => by
    simp only [Tb.cnt] at hc
    simp only [Tb.ds, List.length_cons] at hi
    simp only [Tb.dep] at hm
    simp only [Tb.lay, List.mem_append] at he
    rcases he with he | he
    · refine tr_small (n := n + 1) (by omega) (hb.snoc (by omega) (Nat.le_refl _)) (by omega) ?_ e he
      cases r with
      | nil => exact hh
      | cons s' r' => exact hb.snoc (by omega) (by omega)
    · exact tb_small (n := n) (by omega) (by omega) hb (by omega) hh e he
end
theorem laid_small {t : Tb} (h : Prog t) : ∀ e ∈ laid t, Sm 12 e.1 ∧ Sm 12 e.2.2 := by
  have := t.len_le
  have := h.dep
  have := h.cnt
  exact tb_small (n := 0) h.cnt (by omega) ⟨Nat.le_refl _, fun z hz => by cases hz⟩ (by omega) ⟨by simp, fun z hz => by
    simp at hz; subst hz; omega⟩
theorem Sm.is {q : Pl} (h : Sm 13 q) : Is 2 845 (pD q) := by
  refine Is.tup (n := 1) (w := 64) (L := 13) (fun x hx => ?_) (by have := h.len; simpa using this) (by decide)
  obtain ⟨i, hi, rfl⟩ := List.mem_map.mp hx
  exact Is.int (Nat.lt_of_lt_of_le (h.sm i hi) (by decide))
theorem uniq {W : List Ent} (hn : (W.map (·.1)).Nodup) {e e' : Ent} (h : e ∈ W) (h' : e' ∈ W) (q : e.1 = e'.1) : e = e' := by
  induction W with
  | nil => cases h
  | cons x W ih =>
    rw [List.map_cons, List.nodup_cons] at hn
    rcases List.mem_cons.mp h with rfl | h1
    · rcases List.mem_cons.mp h' with rfl | h2
      · rfl
      · exact absurd (List.mem_map.mpr ⟨e', h2, q.symm⟩) hn.1
    · rcases List.mem_cons.mp h' with rfl | h2
      · exact absurd (List.mem_map.mpr ⟨e, h1, q⟩) hn.1
      · exact ih hn.2 h1 h2
/-! ### what is told of a place -/
def toldD (d : D) : Option D → D
  | some v => v
  | none => .tup [.str "none", d]
theorem told_wp {t : Tb} {d : D} {S : Sto} {P : D → Sto → Prop} {E : Str → D → Sto → Prop} (h : Prog t) (hd : d.nk 100 = true) (k : ∀ S' o, Pg [] S S' → Next t d o → P (toldD d o) S') : (m__law_told [.tup t.ds, d] S).wp P E := by
  unfold m__law_told b__law_told
  exists 7000
  refine next_place_wp h hd fun S1 o pg1 ho => ?_
  cases o with
  | some v => exact k S1 (some v) pg1 ho
  | none =>
    have c1 : ("BadPlace" : Str) ∈ errs := by decide +kernel
    have c2 : ("BadPlace" : Str) ∈ y_BadPlace := by decide +kernel
    refine ⟨c1, ?_⟩
    rw [h_yes c2]
    exists 7000, off
    exact k S1 none pg1 ho
theorem next_of {t : Tb} {e : Ent} {o : Option D} (he : e ∈ laid t) (h : Next t (pD e.1) o) : o = if e.2.1.way = true then none else some (pD e.2.2) := by
  cases h with
  | way h1 h2 h3 =>
    have := uniq (laid_nodup t) he h1 (pD_inj h2)
    subst this
    rw [if_pos h3]
  | on h1 h2 h3 =>
    have := uniq (laid_nodup t) he h1 (pD_inj h2)
    subst this
    rw [if_neg (by rw [h3]; decide)]
  | no h1 => exact absurd rfl (h1 e he)
theorem none_is {n w : Nat} {d : D} (h : Is n w d) (hn : 1 ≤ n) (hw : 10 ≤ w) : Is (n + 1) (2 * (w + 1)) (.tup [.str "none", d]) := by
  refine Is.tup (L := 2) (fun x hx => ?_) (by simp) (by decide)
  simp only [List.mem_cons, List.not_mem_nil, or_false] at hx
  rcases hx with rfl | rfl
  · exact (Is.str (z := "none") (by decide +kernel) (by decide +kernel)).mono hn (by exact Nat.le_trans (by decide +kernel) hw)
  · exact h
def b_right_rest : SM :=
  (sSeq (sPar [2, 3] (aCons (eCall 2 0 [0, 1] m__law_order (aCons (eVar 1) (aCons (eTup aNil) aNil)) aNil) (aCons (eCall 3 0 [0, 1, 2] m__law_leads (aCons (eVar 1) (aCons (eTup aNil) (aCons (eTup (aCons (eCb gLenA (aCons (eVar 1) aNil)) aNil)) aNil))) aNil) aNil)))
  (sSeq (sIf (tBl (eBin (dEq true) (eCall 0 1 [0] m_places aNil (aCons (eVar 1) aNil)) (eBin dAdd (eCb gTuple (aCons (eVar 2) aNil)) (eTup (aCons (eTup (aCons (eCb gLenA (aCons (eVar 1) aNil)) aNil)) aNil))))) (sRet (eLit (.bl false))) sNil)
  (sSeq (sFor FU (iSeq (eVar 2)) (gNameM 4) (sSeq (sAs (eIf (tBl (eBin (dIn2 false) (eBin dIx (eBin dIx (eBin dIx (eVar 3) (eVar 4)) (eLit (.int 0))) (eLit (.int 0))) (eTup (aCons (eLit (.str "loop")) (aCons (eLit (.str "either")) aNil))))) (eTup (aCons (eLit (.str "none")) (aCons (eVar 4) aNil))) (eBin dIx (eBin dIx (eVar 3) (eVar 4)) (eLit (.int 1)))) (gNameM 5))
  (sIf (tBl (eBin (dEq true) (eCall 2 0 [0, 1] m__law_told (aCons (eVar 1) (aCons (eVar 4) aNil)) aNil) (eVar 5))) (sRet (eLit (.bl false))) sNil)))
  (sSeq (sAs (eLst (aCons (eTup (aCons (eCb gLenA (aCons (eVar 1) aNil)) aNil)) (aCons (eTup aNil) (aCons (eTup (aCons (eNeg (eLit (.int 1))) aNil)) (aCons (eTup (aCons (eBin dAdd (eCb gLenA (aCons (eVar 1) aNil)) (eLit (.int 1))) aNil)) (aCons (eLit (.int 0)) (aCons (eLit (.str "0")) (aCons (eTup (aCons (eLit (.str "0")) aNil)) (aCons (eTup (aCons (eLit (.int 0)) (aCons (eLit (.int 0)) (aCons (eLit (.int 0)) (aCons (eLit (.int 0)) (aCons (eLit (.int 0)) aNil)))))) (aCons (eTup (aCons (eLit (.int 0)) (aCons (eLit (.int 2)) (aCons (eLit (.int 0)) aNil)))) (aCons (eTup (aCons (eLit (.bl false)) aNil)) (aCons (eTup (aCons (eTup (aCons (eLit (.int 0)) aNil)) aNil)) aNil)))))))))))) (gNameM 6))
  (sSeq (sFor FU (iSeq (eLst (aCons (eCall 2 0 [0, 1] m__law_one (aCons (eVar 0) (aCons (eVar 6) aNil)) aNil) (aCons (eCall 2 0 [0, 1] m__law_one (aCons (eVar 0) (aCons (eVar 6) aNil)) aNil) (aCons (eBin dAdd (eCall 2 0 [0, 1] m__law_one (aCons (eVar 0) (aCons (eBin dAdd (eVar 2) (eLst (aCons (eTup (aCons (eLit (.int 9)) aNil)) aNil))) aNil)) aNil) (eTup (aCons (eLit (.int 0)) aNil))) aNil))))) (gNameM 4) (sIf (tAnd' (tBl (eBin (dIn2 true) (eCb gRepr (aCons (eVar 4) aNil)) (eComp FU [7] (iSeq (eVar 2)) (gNameM 7) tYesM (eCb gRepr (aCons (eVar 7) aNil))))) (tBl (eBin (dEq true) (eCb gRepr (aCons (eCall 2 0 [0, 1] m__law_told (aCons (eVar 1) (aCons (eVar 4) aNil)) aNil) aNil)) (eCb gRepr (aCons (eTup (aCons (eLit (.str "none")) (aCons (eVar 4) aNil))) aNil))))) (sRet (eLit (.bl false))) sNil))
  (sRet (eLit (.bl true))))))))
theorem odd_is {n : Nat} (hn : n ≤ 50) : ∀ x ∈ ([D.tup [.int n], .tup [], .tup [.int (-1)], .tup [.int (n + 1)], .int 0, .str "0", .tup [.str "0"], .tup [.int 0, .int 0, .int 0, .int 0, .int 0], .tup [.int 0, .int 2, .int 0], .tup [.bl false], .tup [.tup [.int 0]]] : List D), Is 4 5000 x ∧ x.nk 100 = true := by
  intro x hx
  have z : Is 1 64 (.int 0) := Is.int (by decide)
  have s0 : Is 1 64 (.str "0") := (Is.str (z := "0") (by decide +kernel) (by decide +kernel)).mono (Nat.le_refl _) (by decide +kernel)
  have one : ∀ {d : D} {n w : Nat}, Is n w d → Is (n + 1) (1 * (w + 1)) (.tup [d]) := fun {d n w} h => Is.tup (L := 1) (fun x hx => by rw [List.mem_singleton.mp hx]; exact h) (by simp) (by decide)
  simp only [List.mem_cons, List.not_mem_nil, or_false] at hx
  rcases hx with rfl | rfl | rfl | rfl | rfl | rfl | rfl | rfl | rfl | rfl | rfl
  · exact ⟨(one (Is.int (by omega))).mono (by decide) (by decide), rfl⟩
  · exact ⟨(Is.tup (n := 1) (w := 1) (L := 0) (fun x hx => by cases hx) (by simp) (by decide)).mono (by decide) (by decide), rfl⟩
  · exact ⟨(one (Is.int (by decide))).mono (by decide) (by decide), rfl⟩
  · exact ⟨(one (Is.int (by omega))).mono (by decide) (by decide), rfl⟩
  · exact ⟨z.mono (by decide) (by decide), rfl⟩
  · exact ⟨s0.mono (by decide) (by decide), by decide +kernel⟩
  · exact ⟨(one s0).mono (by decide) (by decide), by decide +kernel⟩
  · exact ⟨(Is.tup (n := 1) (w := 64) (L := 5) (fun x hx => by simp at hx; subst hx; exact z) (by simp) (by decide)).mono (by decide) (by decide), rfl⟩
  · exact ⟨(Is.tup (n := 1) (w := 64) (L := 3) (fun x hx => by
      simp only [List.mem_cons, List.not_mem_nil, or_false] at hx
      rcases hx with rfl | rfl | rfl
      · exact z
      · exact Is.int (by decide)
      · exact z) (by simp) (by decide)).mono (by decide) (by decide), rfl⟩
  · exact ⟨(one (Is.bl.mono (Nat.le_refl _) (by decide : 0 ≤ 64))).mono (by decide) (by decide), rfl⟩
  · exact ⟨(one (one z)).mono (by decide) (by decide), rfl⟩
theorem rest_right {t : Tb} {i : Nat} {S : Sto} {x2 x3 x4 x5 x6 x7 : Option D} {P : D → Sto → Prop} {E : Str → D → Sto → Prop} (h : Prog t) (hs : Src i S) (k : ∀ S', P (.bl true) S') :
    (b_right_rest [some (.obj i), some (.tup t.ds), x2, x3, x4, x5, x6, x7] S).wp ⟨fun _ S' => P .non S', P, fun _ _ => False, fun _ _ => False, fun c w _ S' => E c w S'⟩ := by
  have hd := h.dep
  have hc := h.cnt
  have htl := t.len_le
  have hlen : (laid t).length ≤ 40 := by rw [laid, Tb.lay_len]; exact hc
  unfold b_right_rest
  rw [eq_one]
  exists 7004
  refine order_ok (g := 6) (n := 16) (by decide) S t [] [(t.ds.length : Int)] _ _ h.ok (by omega) hc (by decide) (by decide) fun lo S1 hlo hS1 pg1 => ?_
  exists 7004
  refine leads_ok (g := 6) (n := 16) (by decide) S1 t [] [(t.ds.length : Int)] _ _ h.ok (by omega) hc (by decide) (by decide) fun S2 hS2 pg2 => ?_
  exists 7004
  have ho2 := pg2.get hS1 (by simp)
  refine places_wp h fun S3 pg3 => ?_
  exists 7004
  have ho3 := pg3.get ho2 (by simp)
  have hS3 := pg3.get hS2 (by simp)
  rw [o_tuple ho3]
  exists 7005
  rw [o_add_t (by simp [ordD, Tb.lay_len]; omega)]
  exists 7005
  have W0 : t.lay [] [(t.ds.length : Int)] 0 = laid t := rfl
  rw [W0] at hS3 ho3 ⊢
  have heq : (D.tup ((laid t).map (fun e => pD e.1) ++ [pD [(t.ds.length : Int)]])).dk 200 = true := dk_tup (n := 199) (by simp; omega) fun x hx => by
    simp only [List.mem_append, List.mem_map, List.mem_singleton] at hx
    rcases hx with ⟨e, he, rfl⟩ | rfl
    · exact dk_mono ((laid_small h e he).1.mono (by decide)).is.dk (by decide)
    · exact rfl
  show (dEq true (.tup ((laid t).map (fun e => pD e.1) ++ [pD [(t.ds.length : Int)]])) (.tup ((laid t).map (fun e => pD e.1) ++ [pD [(t.ds.length : Int)]])) S3).wp _ _
  rw [o_eq heq heq, eq_refl' heq]
  exists 7004
  have hs3 : Src i S3 := ((hs.pg pg1 (by simp)).pg pg2 (by simp)).pg pg3 (by simp)
  have hF : ∀ e, (kvL e).1 = kk e.1 := fun _ => rfl
  rw [s_for]
  exists 7005
  refine ⟨diO lo, by simp only [itO, ho3], ?_⟩
  refine loop_wp (laid t).length (fun j ρ S' => ∃ x4 x5, ρ = [some (.obj i), some (.tup t.ds), some (.obj lo), some (.obj S1.length), x4, x5, x6, x7] ∧ Pg [] S3 S') (fun ρ S' hI => ⟨?_, ?_⟩) (fun j ρ S' hj hI => ?_) ⟨x4, x5, rfl, Pg.refl⟩ (Nat.zero_le _) (by unfold FU; omega)
  · obtain ⟨x4, x5, rfl, pg4⟩ := hI
    simp [diO, pg4.get ho3 (by simp), ordD]
  · obtain ⟨x4, x5, rfl, pg4⟩ := hI
    have hs4 := hs3.pg pg4 (by simp)
    have ho4 := pg4.get ho3 (by simp)
    have li : i < S.length := hs.lt
    exists 7004
    rw [s_for]
    exists 7005
    have hodd := odd_is (n := t.ds.length) (by omega)
    generalize hxs : ([D.tup [.int (t.ds.length : Int)], .tup [], .tup [.int (-1)], .tup [.int ((t.ds.length : Int) + 1)], .int 0, .str "0", .tup [.str "0"], .tup [.int 0, .int 0, .int 0, .int 0, .int 0], .tup [.int 0, .int 2, .int 0], .tup [.bl false], .tup [.tup [.int 0]]] : List D) = odd at hodd ⊢
    have ol : odd.length = 11 := by rw [← hxs]; rfl
    clear hxs
    have ne6 : S'.length ∉ [i] := by have := pg1.len; have := pg2.len; have := pg3.len; have := pg4.len; simp; omega
    refine one_wp (hs4.pg (Pg.push (is := [])) (by simp)) (seqD_obj last_get) (by omega) (by omega) (by simp at ne6 ⊢; omega) fun d1 hd1 S5 hs5 pg5 => ?_
    have hodd5 : S5[S'.length]? = some (.lst odd) := pg5.get last_get ne6
    exists 7005
    refine one_wp hs5 (seqD_obj hodd5) (by omega) (by omega) (by simp at ne6 ⊢; omega) fun d2 hd2 S6 hs6 pg6 => ?_
    exists 7005
    have lo2 : lo ∉ [i] := by simp; omega
    have ho6 := pg6.get (pg5.get (List.getElem?_append_left (by exact (List.getElem?_eq_some_iff.mp ho4).1) |>.trans ho4) lo2) lo2
    have hl6 := (List.getElem?_eq_some_iff.mp ho6).1
    rw [o_add_l (S := S6 ++ _) ((List.getElem?_append_left hl6).trans ho6) last_get (by simp [ordD]; omega)]
    exists 7005
    refine oneL_wp (hs6.pg (Pg.push (is := [])) (by simp)) (by simp) (by simp [ordD]; omega) fun d3 hd3 S7 hs7 pg7 => ?_
    exists 7005
    have ho7 : S7[lo]? = some (.lst (ordD (laid t))) := pg7.get ((List.getElem?_append_left hl6).trans ho6) lo2
    obtain ⟨q3, rfl, hq3⟩ : ∃ q, d3 = pD q ∧ Sm 12 q := by
      simp only [List.mem_append, ordD, List.mem_map, List.mem_singleton] at hd3
      rcases hd3 with ⟨e, he, rfl⟩ | rfl
      · exact ⟨e.1, rfl, (laid_small h e he).1⟩
      · exact ⟨[9], rfl, by simp, fun z hz => by simp at hz; subst hz; decide⟩
    rw [o_add_p (by have := hq3.len; omega)]
    exists 7005
    have hq4 : Sm 13 (q3 ++ [0]) := hq3.snoc (by decide) (by decide)
    have all3 : ∀ x ∈ [d1, d2, pD (q3 ++ [0])], Is 4 5000 x ∧ x.nk 100 = true := by
      intro x hx
      simp only [List.mem_cons, List.not_mem_nil, or_false] at hx
      rcases hx with rfl | rfl | rfl
      · exact hodd _ hd1
      · exact hodd _ hd2
      · exact ⟨hq4.is.mono (by decide) (by decide), nk_mono (nk_pD (n := 0) (by have := hq4.len; omega)) (by decide)⟩
    generalize hys : [d1, d2, pD (q3 ++ [0])] = ys at all3 ⊢
    have yl : ys.length = 3 := by rw [← hys]; rfl
    refine ⟨diO S7.length, by simp only [itO, last_get], ?_⟩
    refine loop_wp ys.length (fun j ρ S' => ∃ x4 x5 x6 x7, ρ = [some (.obj i), some (.tup t.ds), some (.obj lo), some (.obj S1.length), x4, x5, x6, x7] ∧ Pg [] (S7 ++ [.lst ys]) S') (fun ρ S' hI => ⟨?_, ?_⟩) (fun j ρ S' hj hI => ?_) ⟨_, _, _, _, rfl, Pg.refl⟩ (Nat.zero_le _) (by unfold FU; omega)
    · obtain ⟨y4, y5, y6, y7, rfl, pg8⟩ := hI
      simp [diO, pg8.get last_get (by simp)]
    · obtain ⟨y4, y5, y6, y7, rfl, pg8⟩ := hI
      exists 7000
      exact k _
    · obtain ⟨y4, y5, y6, y7, rfl, pg8⟩ := hI
      have ho8 := pg8.get ((List.getElem?_append_left (List.getElem?_eq_some_iff.mp ho7).1).trans ho7) (by simp)
      refine ⟨ys[j], by simp [diO, pg8.get last_get (by simp), hj], ?_⟩
      obtain ⟨yis, ynk⟩ := all3 _ (List.getElem_mem hj)
      generalize ys[j] = y at yis ynk
      exists 7000
      rw [o_repr yis (by decide) (by decide)]
      exists 7000
      refine ⟨diO lo, by simp only [itO, ho8], ?_⟩
      have eis : ∀ e ∈ laid t, Is 2 845 (pD e.1) := fun e he => ((laid_small h e he).1.mono (by decide)).is
      refine cloop_wp (laid t).length (fun j S9 => Pg [] S' S9 ∧ S9[S'.length]? = some (.lst (((laid t).take j).map fun e => D.str (pD e.1).py.shown))) (fun S9 hI => ⟨?_, ?_⟩) (fun j S9 hj hI => ?_) ⟨Pg.push, last_get⟩ (Nat.zero_le _) (by unfold FU; omega)
      · simp [diO, hI.1.get ho8 (by simp), ordD]
      · obtain ⟨pg9, h9⟩ := hI
        rw [List.take_length] at h9
        have ydk := shown_dk yis
        have ldk : (D.tup ((laid t).map fun e => D.str (pD e.1).py.shown)).dk 180 = true := dk_tup (n := 179) (by simp; omega) fun x hx => by
          obtain ⟨e, he, rfl⟩ := List.mem_map.mp hx
          exact (show (D.str (pD e.1).py.shown).dk 179 = true by simpa [D.dk] using shown_dk (eis e he))
        rw [o_inL h9 (show (D.str y.py.shown).dk 180 = true by simpa [D.dk] using ydk) ldk]
        exists 7000
        cases hany : anyEq ((laid t).map fun e => D.str (pD e.1).py.shown) (.str y.py.shown) with
        | true =>
          exists 7000
          exact ⟨_, _, _, _, rfl, pg8.trans pg9⟩
        | false =>
          exists 7000
          refine told_wp h ynk fun S10 o pg10 hnx => ?_
          have hno : o = none := by
            have : ∀ e ∈ laid t, y ≠ pD e.1 := by
              rintro e he rfl
              unfold anyEq at hany
              rw [List.any_eq_false] at hany
              exact hany _ (List.mem_map.mpr ⟨e, he, rfl⟩) (eq_refl' ydk)
            cases hnx with
            | way h1 h2 h3 => rfl
            | on h1 h2 h3 => exact absurd h2 (this _ h1)
            | no h1 => rfl
          subst hno
          have nis := none_is yis (by decide) (by decide)
          have ndk := shown_dk nis
          exists 7000, toldD
          rw [o_repr nis (by decide) (by decide)]
          exists 7001
          rw [o_repr nis (by decide) (by decide)]
          exists 7001
          rw [o_eq ndk ndk, eq_refl' ndk]
          exists 7000
          exact ⟨_, _, _, _, rfl, (pg8.trans pg9).trans pg10⟩
      · obtain ⟨pg9, h9⟩ := hI
        have he := List.getElem_mem hj
        refine ⟨pD (laid t)[j].1, by simp [diO, pg9.get ho8 (by simp), ordD, hj], ?_⟩
        exists 7000, tYesM
        rw [o_repr (eis _ he) (by decide) (by decide)]
        refine ⟨_, h9, by simp; omega, pg9.setN (Nat.le_refl _), ?_⟩
        rw [List.getElem?_set_self (List.getElem?_eq_some_iff.mp h9).1, List.take_add_one, List.getElem?_eq_getElem hj, List.map_append]
        simp
  · obtain ⟨x4, x5, rfl, pg4⟩ := hI
    have ho4 := pg4.get ho3 (by simp)
    have hS4 := pg4.get hS3 (by simp)
    have hm := List.getElem_mem hj
    generalize he : (laid t)[j] = e at hm
    refine ⟨pD e.1, by simp [diO, ho4, ordD, hj, he], ?_⟩
    have hk := kget_map (f := fun _ => ()) (F := kvL) hF (laid_nodup t) hm
    have hso := Tb.lay_ok (b := []) (h := [(t.ds.length : Int)]) (i := 0) h.ok e hm
    obtain ⟨r, hw⟩ := Tr.word_eq hso.1
    have sm := laid_small h e hm
    exists 7006
    have due : ∀ {P : D → Sto → Prop} {E : Str → D → Sto → Prop}, P (toldD (pD e.1) (if e.2.1.way = true then none else some (pD e.2.2))) S' → ((eIf (tBl (eBin (dIn2 false) (eBin dIx (eBin dIx (eBin dIx (eVar 3) (eVar 4)) (eLit (.int 0))) (eLit (.int 0))) (eTup (aCons (eLit (.str "loop")) (aCons (eLit (.str "either")) aNil))))) (eTup (aCons (eLit (.str "none")) (aCons (eVar 4) aNil))) (eBin dIx (eBin dIx (eVar 3) (eVar 4)) (eLit (.int 1))))
        [some (.obj i), some (.tup t.ds), some (.obj lo), some (.obj S1.length), some (pD e.1), x5, x6, x7] S').wp P E := by
      intro P E hP
      exists 7000
      rw [o_ixT' hS4 hk]
      exists 7000, kvL
      rw [hw]
      exists 7000
      rw [word_in hso.1 (by omega) (by omega)]
      exists 7000
      cases hway : e.2.1.way with
      | true =>
        rw [hway] at hP
        exists 7000
        simpa [toldD] using hP
      | false =>
        rw [hway] at hP
        exists 7000
        rw [o_ixT' hS4 hk]
        exists 7000, kvL
        have e0 : w0 e.1 e.2.2 e.2.1 = e.2.2 := by
          cases he2 : e.2.1 with
          | pl d => rfl
          | lp b => rw [he2] at hway; cases hway
          | ei x y => rw [he2] at hway; cases hway
        rw [e0]
        simpa [toldD] using hP
    refine due ?_
    exists 7000
    have hnk : (pD e.1).nk 100 = true := nk_mono (nk_pD (n := 0) (by have := sm.1.len; omega)) (by decide)
    refine told_wp h hnk fun S5 o pg5 hnx => ?_
    exists 7000
    have hdk : (toldD (pD e.1) (if e.2.1.way = true then none else some (pD e.2.2))).dk 200 = true := by
      split
      · exact dk_mono (none_is (sm.1.mono (by decide)).is (by decide) (by decide)).dk (by decide)
      · exact dk_mono (sm.2.mono (by decide)).is.dk (by decide)
    rw [next_of hm hnx, o_eq hdk hdk, eq_refl' hdk]
    exists 7000
    exact ⟨_, _, rfl, pg4.trans pg5⟩
theorem right_wp {i : Nat} {S : Sto} {P : D → Sto → Prop} {E : Str → D → Sto → Prop} (hs : Src i S) (k : ∀ S', P (.bl true) S') : (m__law_right [.obj i] S).wp P E := by
  have e : b__law_right = sSeq (sAs (eCall 2 0 [0, 1] m__law_program (aCons (eVar 0) (aCons (eLit (.int 14)) aNil)) aNil) (gNameM 1)) (sSeq (sIf (tBl (eBin (dEq false) (eCall 2 0 [0, 1] m__law_take (aCons (eVar 0) (aCons (eLit (.int 8)) aNil)) aNil) (eLit (.int 0)))) (sAs (eCall 2 0 [0, 1] m__law_one (aCons (eVar 0) (aCons (eLst (aCons (eTup aNil) (aCons (eTup (aCons (eTup (aCons (eLit (.str "loop")) (aCons (eTup aNil) aNil))) aNil)) (aCons (eTup (aCons (eTup (aCons (eLit (.str "either")) (aCons (eTup aNil) (aCons (eTup aNil) aNil)))) (aCons (eTup (aCons (eLit (.str "loop")) (aCons (eTup (aCons (eTup (aCons (eLit (.str "loop")) (aCons (eTup aNil) aNil))) aNil)) aNil))) aNil))) aNil)))) aNil)) aNil) (gNameM 1)) sNil) b_right_rest) := rfl
  unfold m__law_right
  rw [e, eq_program, eq_take, eq_one]
  exists 7000
  refine Lw.program_wp hs (by decide) (by decide) fun xs n hxs hn S1 hs1 pg1 => ?_
  exists 7000
  refine take_wp hs1 (by decide) (by decide) fun q S2 q0 q1 hs2 pg2 => ?_
  exists 7000
  split
  · refine oneL_wp hs2 (by simp) (by simp) fun p hp S3 hs3 pg3 => ?_
    exists 7000
    obtain ⟨t, rfl, ht⟩ : ∃ t : Tb, p = .tup t.ds ∧ Prog t := by
      simp only [List.mem_cons, List.not_mem_nil, or_false] at hp
      rcases hp with rfl | rfl | rfl
      · exact ⟨.nil, rfl, trivial, by decide, by decide⟩
      · exact ⟨.cons (.lp .nil) .nil, rfl, ⟨⟨trivial, by decide⟩, trivial⟩, by decide, by decide⟩
      · exact ⟨.cons (.ei .nil .nil) (.cons (.lp (.cons (.lp .nil) .nil)) .nil), rfl, ⟨⟨trivial, trivial, by decide, by decide⟩, ⟨⟨⟨trivial, by decide⟩, trivial⟩, by decide⟩, trivial⟩, by decide, by decide⟩
    exact rest_right ht hs3 k
  · obtain ⟨t, rfl, t1, t2, t3⟩ := of_bs hxs
    exact rest_right ⟨t1, by omega, by omega⟩ hs2 k
theorem law_wp {ns : List Int} {S : Sto} {P : D → Sto → Prop} {E : Str → D → Sto → Prop} (hl : ns.length ≤ 63) (hb : ∀ z ∈ ns, Builtin.Int.intBits z ≤ 1048576) (k : ∀ S', P (.bl true) S') : (m_law [.wl (ns.map .int)] S).wp P E := by
  unfold m_law b_law
  rw [eq_pool]
  have e1 : ∀ S : Sto, seqD S (.wl (ns.map .int)) = some (ns.map D.int) := fun _ => rfl
  exists 7000, len_of (e1 S), List.length_map
  generalize hm : (if (if (3 : Int) < (ns.length : Int) then (3 : Int) else (ns.length : Int)) > 1 then (if (3 : Int) < (ns.length : Int) then (3 : Int) else (ns.length : Int)) else 1) = top
  have t0 : 0 ≤ top := by split at hm <;> (try split at hm) <;> omega
  have t3 : top ≤ 3 := by split at hm <;> (try split at hm) <;> omega
  obtain ⟨top, rfl⟩ := Int.eq_ofNat_of_zero_le t0
  refine ⟨_, rfl, by omega, ?_⟩
  refine loop_wp top (fun j ρ S' => ∃ x1 : Option D, ρ = [some (.wl (ns.map .int)), x1]) (fun ρ S' hI => ⟨?_, ?_⟩) (fun j ρ S' hj hI => ?_) ?_ (Nat.zero_le _) ?_
  · simp [diR]
  · obtain ⟨x1, rfl⟩ := hI
    exists 7000
    exact k S'
  · obtain ⟨x1, rfl⟩ := hI
    refine ⟨.int j, by simp [diR, hj], ?_⟩
    exists 7000
    refine Lw.pool_wp hl hb (by omega) fun l S1 el hs1 pg1 => ?_
    exists 7000
    refine right_wp hs1 fun S2 => ?_
    exists 7000
    exact ⟨_, rfl⟩
  · exact ⟨_, rfl⟩
  · unfold FU; omega
theorem law_true (ns : List Int) (hl : ns.length ≤ 63) (hb : ∀ z ∈ ns, Builtin.Int.intBits z ≤ 1048576) : ∃ S, m_law [.wl (ns.map .int)] [] = .ok (.bl true) S := by
  have h : (m_law [.wl (ns.map .int)] []).wp (fun d _ => d = .bl true) NoE := law_wp hl hb fun _ => rfl
  obtain ⟨a, S, h1, rfl⟩ := h.ok
  exact ⟨S, h1⟩
end K01

set_option Elab.async false
set_option linter.all false
set_option autoImplicit false
open PySem PySem.W PyProof.Rows
set_option maxRecDepth 100000 in
set_option maxHeartbeats 0 in
theorem PySem.Challenge.cw_anytwo_k01_places_and_what_comes_next_holds : PySem.Challenge.rw_anytwo_k01_places_and_what_comes_next.Holds := by
  w_on; o_law; k_head; (case hw => w_witness2)
  k_fill
  refine Sh.walk_G (l := PySem.Challenge.rw_anytwo_k01_places_and_what_comes_next) (n := 63) (k := 23) (x := "script") (m := K01.m_law) rfl (by decide) rfl ⟨⟨rfl, by decide, by decide⟩, rfl⟩ (fun w h Y => PySem.W.kIn_of Y) ?F K01.law_true
  case F =>
    intro w mg fa h KX G hmg
    refine' K01.all_mk KX G hmg ?n_fits ?l_fits ?c_fits ?p_fits ?n_has_form ?l_has_form ?c_has_form ?p_has_form ?n_bodies_at ?l_bodies_at ?c_bodies_at ?p_bodies_at ?n_end_of ?l_end_of ?c_end_of ?p_end_of ?n_lay_body ?l_lay_body ?c_lay_body ?p_lay_body ?n_laid_out ?l_laid_out ?c_laid_out ?p_laid_out ?n_count_body ?l_count_body ?c_count_body ?p_count_body ?n_count_statement ?l_count_statement ?c_count_statement ?p_count_statement ?n_made_program ?l_made_program ?c_made_program ?p_made_program ?n_is_number ?l_is_number ?c_is_number ?p_is_number ?n_is_row_of_numbers ?l_is_row_of_numbers ?c_is_row_of_numbers ?p_is_row_of_numbers ?n_places ?l_places ?c_places ?p_places ?n_next_place ?l_next_place ?c_next_place ?p_next_place ?n__law_pool ?l__law_pool ?c__law_pool ?p__law_pool ?n__law_take ?l__law_take ?c__law_take ?p__law_take ?n__law_one ?l__law_one ?c__law_one ?p__law_one ?n__law_plain ?l__law_plain ?c__law_plain ?p__law_plain ?n__law_body ?l__law_body ?c__law_body ?p__law_body ?n__law_program ?l__law_program ?c__law_program ?p__law_program ?n__law_leads ?l__law_leads ?c__law_leads ?p__law_leads ?n__law_order ?l__law_order ?c__law_order ?p__law_order ?n__law_told ?l__law_told ?c__law_told ?p__law_told ?n__law_right ?l__law_right ?c__law_right ?p__law_right ?n_law ?l_law ?c_law ?p_law ?n_Refused ?xL_Refused ?sa_Refused ?ga_Refused ?gg_Refused ?nb_Refused ?a1_Refused ?kC_Refused ?eC_Refused ?tC_Refused ?hC_Refused ?iC_Refused ?sC_Refused ?n_BadProgram ?xL_BadProgram ?sa_BadProgram ?ga_BadProgram ?gg_BadProgram ?nb_BadProgram ?a1_BadProgram ?kC_BadProgram ?eC_BadProgram ?tC_BadProgram ?hC_BadProgram ?iC_BadProgram ?sC_BadProgram ?n_BadPlace ?xL_BadPlace ?sa_BadPlace ?ga_BadPlace ?gg_BadPlace ?nb_BadPlace ?a1_BadPlace ?kC_BadPlace ?eC_BadPlace ?tC_BadPlace ?hC_BadPlace ?iC_BadPlace ?sC_BadPlace ?n_TooMany ?xL_TooMany ?sa_TooMany ?ga_TooMany ?gg_TooMany ?nb_TooMany ?a1_TooMany ?kC_TooMany ?eC_TooMany ?tC_TooMany ?hC_TooMany ?iC_TooMany ?sC_TooMany ?t1 ?l1 ?c1 ?rb_Refused ?rb_BadProgram ?rb_BadPlace ?rb_TooMany ?s_Refused_BadPlace ?s_BadProgram_BadPlace ?s_BadPlace_BadPlace ?s_TooMany_BadPlace ?s_Refused_Refused ?s_BadProgram_Refused ?s_BadPlace_Refused ?s_TooMany_Refused ?n_BRANCHES ?lt_BRANCHES ?sz_BRANCHES ?va_BRANCHES ?n_DEEPEST ?n_FORMS ?l_FORMS ?kl_FORMS ?lo_FORMS ?es__FORMS ?u__FORMS_0 ?lt_FORMS_0 ?sz_FORMS_0 ?va_FORMS_0 ?u__FORMS_1 ?lt_FORMS_1 ?sz_FORMS_1 ?va_FORMS_1 ?u__FORMS_2 ?lt_FORMS_2 ?sz_FORMS_2 ?va_FORMS_2 ?u__FORMS_3 ?lt_FORMS_3 ?sz_FORMS_3 ?va_FORMS_3 ?u__FORMS_4 ?lt_FORMS_4 ?sz_FORMS_4 ?va_FORMS_4 ?u__FORMS_5 ?lt_FORMS_5 ?sz_FORMS_5 ?va_FORMS_5 ?u__FORMS_6 ?lt_FORMS_6 ?sz_FORMS_6 ?va_FORMS_6 ?u__FORMS_7 ?lt_FORMS_7 ?sz_FORMS_7 ?va_FORMS_7 ?n_MOST_STATEMENTS ?n_NAMES ?lt_NAMES ?sz_NAMES ?va_NAMES ?n_OWN_WORDS ?lt_OWN_WORDS ?sz_OWN_WORDS ?va_OWN_WORDS ?n_PILES ?lt_PILES ?sz_PILES ?va_PILES ?z_all ?z_bool ?z_enumerate ?z_int ?z_isinstance ?z_len ?z_list ?z_max ?z_min ?z_range ?z_repr ?z_str ?z_tuple ?z_zip
    (case n_fits => k_is)
    (case l_fits => k_is)
    (case c_fits => k_is)
    (case p_fits => k_is)
    (case n_has_form => k_is)
    (case l_has_form => k_is)
    (case c_has_form => k_is)
    (case p_has_form => k_is)
    (case n_bodies_at => k_is)
    (case l_bodies_at => k_is)
    (case c_bodies_at => k_is)
    (case p_bodies_at => k_is)
    (case n_end_of => k_is)
    (case l_end_of => k_is)
    (case c_end_of => k_is)
    (case p_end_of => k_is)
    (case n_lay_body => k_is)
    (case l_lay_body => k_is)
    (case c_lay_body => k_is)
    (case p_lay_body => k_is)
    (case n_laid_out => k_is)
    (case l_laid_out => k_is)
    (case c_laid_out => k_is)
    (case p_laid_out => k_is)
    (case n_count_body => k_is)
    (case l_count_body => k_is)
    (case c_count_body => k_is)
    (case p_count_body => k_is)
    (case n_count_statement => k_is)
    (case l_count_statement => k_is)
    (case c_count_statement => k_is)
    (case p_count_statement => k_is)
    (case n_made_program => k_is)
    (case l_made_program => k_is)
    (case c_made_program => k_is)
    (case p_made_program => k_is)
    (case n_is_number => k_is)
    (case l_is_number => k_is)
    (case c_is_number => k_is)
    (case p_is_number => k_is)
    (case n_is_row_of_numbers => k_is)
    (case l_is_row_of_numbers => k_is)
    (case c_is_row_of_numbers => k_is)
    (case p_is_row_of_numbers => k_is)
    (case n_places => k_is)
    (case l_places => k_is)
    (case c_places => k_is)
    (case p_places => k_is)
    (case n_next_place => k_is)
    (case l_next_place => k_is)
    (case c_next_place => k_is)
    (case p_next_place => k_is)
    (case n__law_pool => k_is)
    (case l__law_pool => k_is)
    (case c__law_pool => k_is)
    (case p__law_pool => k_is)
    (case n__law_take => k_is)
    (case l__law_take => k_is)
    (case c__law_take => k_is)
    (case p__law_take => k_is)
    (case n__law_one => k_is)
    (case l__law_one => k_is)
    (case c__law_one => k_is)
    (case p__law_one => k_is)
    (case n__law_plain => k_is)
    (case l__law_plain => k_is)
    (case c__law_plain => k_is)
    (case p__law_plain => k_is)
    (case n__law_body => k_is)
    (case l__law_body => k_is)
    (case c__law_body => k_is)
    (case p__law_body => k_is)
    (case n__law_program => k_is)
    (case l__law_program => k_is)
    (case c__law_program => k_is)
    (case p__law_program => k_is)
    (case n__law_leads => k_is)
    (case l__law_leads => k_is)
    (case c__law_leads => k_is)
    (case p__law_leads => k_is)
    (case n__law_order => k_is)
    (case l__law_order => k_is)
    (case c__law_order => k_is)
    (case p__law_order => k_is)
    (case n__law_told => k_is)
    (case l__law_told => k_is)
    (case c__law_told => k_is)
    (case p__law_told => k_is)
    (case n__law_right => k_is)
    (case l__law_right => k_is)
    (case c__law_right => k_is)
    (case p__law_right => k_is)
    (case n_law => k_is)
    (case l_law => k_is)
    (case c_law => k_is)
    (case p_law => k_is)
    (case n_Refused => k_is)
    (case xL_Refused => k_is)
    (case sa_Refused => k_is)
    (case ga_Refused => k_is)
    (case gg_Refused => k_is)
    (case nb_Refused => k_is)
    (case a1_Refused => k_is)
    (case kC_Refused => k_is)
    (case eC_Refused => k_is)
    (case tC_Refused => k_is)
    (case hC_Refused => k_is)
    (case iC_Refused => k_is)
    (case sC_Refused => first | k_is | rfl)
    (case n_BadProgram => k_is)
    (case xL_BadProgram => k_is)
    (case sa_BadProgram => k_is)
    (case ga_BadProgram => k_is)
    (case gg_BadProgram => k_is)
    (case nb_BadProgram => k_is)
    (case a1_BadProgram => k_is)
    (case kC_BadProgram => k_is)
    (case eC_BadProgram => k_is)
    (case tC_BadProgram => k_is)
    (case hC_BadProgram => k_is)
    (case iC_BadProgram => k_is)
    (case sC_BadProgram => first | k_is | rfl)
    (case n_BadPlace => k_is)
    (case xL_BadPlace => k_is)
    (case sa_BadPlace => k_is)
    (case ga_BadPlace => k_is)
    (case gg_BadPlace => k_is)
    (case nb_BadPlace => k_is)
    (case a1_BadPlace => k_is)
    (case kC_BadPlace => k_is)
    (case eC_BadPlace => k_is)
    (case tC_BadPlace => k_is)
    (case hC_BadPlace => k_is)
    (case iC_BadPlace => k_is)
    (case sC_BadPlace => first | k_is | rfl)
    (case n_TooMany => k_is)
    (case xL_TooMany => k_is)
    (case sa_TooMany => k_is)
    (case ga_TooMany => k_is)
    (case gg_TooMany => k_is)
    (case nb_TooMany => k_is)
    (case a1_TooMany => k_is)
    (case kC_TooMany => k_is)
    (case eC_TooMany => k_is)
    (case tC_TooMany => k_is)
    (case hC_TooMany => k_is)
    (case iC_TooMany => k_is)
    (case sC_TooMany => first | k_is | rfl)
    (case t1 => k_is)
    (case l1 => k_is)
    (case c1 => k_is)
    (case rb_Refused => first | rfl | decide +kernel)
    (case rb_BadProgram => first | rfl | decide +kernel)
    (case rb_BadPlace => first | rfl | decide +kernel)
    (case rb_TooMany => first | rfl | decide +kernel)
    (case s_Refused_BadPlace => first | k_is | rfl)
    (case s_BadProgram_BadPlace => first | k_is | rfl)
    (case s_BadPlace_BadPlace => first | k_is | rfl)
    (case s_TooMany_BadPlace => first | k_is | rfl)
    (case s_Refused_Refused => first | k_is | rfl)
    (case s_BadProgram_Refused => first | k_is | rfl)
    (case s_BadPlace_Refused => first | k_is | rfl)
    (case s_TooMany_Refused => first | k_is | rfl)
    (case n_BRANCHES => k_is)
    (case lt_BRANCHES => k_is)
    (case sz_BRANCHES => decide +kernel)
    (case va_BRANCHES => repeat' (first | exact .nil | exact ⟨_, rfl⟩ | refine .cons ?_ ?_))
    (case n_DEEPEST => k_is)
    (case n_FORMS => k_is)
    (case l_FORMS => k_is)
    (case kl_FORMS => repeat' (first | exact trivial | exact ⟨_, _, rfl, rfl⟩ | refine ⟨?_, ?_⟩))
    (case lo_FORMS => rfl)
    (case es__FORMS => rfl)
    (case u__FORMS_0 => rfl)
    (case lt_FORMS_0 => k_is)
    (case sz_FORMS_0 => decide +kernel)
    (case va_FORMS_0 => repeat' (first | exact .nil | exact ⟨_, rfl⟩ | refine .cons ?_ ?_))
    (case u__FORMS_1 => rfl)
    (case lt_FORMS_1 => k_is)
    (case sz_FORMS_1 => decide +kernel)
    (case va_FORMS_1 => repeat' (first | exact .nil | exact ⟨_, rfl⟩ | refine .cons ?_ ?_))
    (case u__FORMS_2 => rfl)
    (case lt_FORMS_2 => k_is)
    (case sz_FORMS_2 => decide +kernel)
    (case va_FORMS_2 => repeat' (first | exact .nil | exact ⟨_, rfl⟩ | refine .cons ?_ ?_))
    (case u__FORMS_3 => rfl)
    (case lt_FORMS_3 => k_is)
    (case sz_FORMS_3 => decide +kernel)
    (case va_FORMS_3 => repeat' (first | exact .nil | exact ⟨_, rfl⟩ | refine .cons ?_ ?_))
    (case u__FORMS_4 => rfl)
    (case lt_FORMS_4 => k_is)
    (case sz_FORMS_4 => decide +kernel)
    (case va_FORMS_4 => repeat' (first | exact .nil | exact ⟨_, rfl⟩ | refine .cons ?_ ?_))
    (case u__FORMS_5 => rfl)
    (case lt_FORMS_5 => k_is)
    (case sz_FORMS_5 => decide +kernel)
    (case va_FORMS_5 => repeat' (first | exact .nil | exact ⟨_, rfl⟩ | refine .cons ?_ ?_))
    (case u__FORMS_6 => rfl)
    (case lt_FORMS_6 => k_is)
    (case sz_FORMS_6 => decide +kernel)
    (case va_FORMS_6 => repeat' (first | exact .nil | exact ⟨_, rfl⟩ | refine .cons ?_ ?_))
    (case u__FORMS_7 => rfl)
    (case lt_FORMS_7 => k_is)
    (case sz_FORMS_7 => decide +kernel)
    (case va_FORMS_7 => repeat' (first | exact .nil | exact ⟨_, rfl⟩ | refine .cons ?_ ?_))
    (case n_MOST_STATEMENTS => k_is)
    (case n_NAMES => k_is)
    (case lt_NAMES => k_is)
    (case sz_NAMES => decide +kernel)
    (case va_NAMES => repeat' (first | exact .nil | exact ⟨_, rfl⟩ | refine .cons ?_ ?_))
    (case n_OWN_WORDS => k_is)
    (case lt_OWN_WORDS => k_is)
    (case sz_OWN_WORDS => decide +kernel)
    (case va_OWN_WORDS => repeat' (first | exact .nil | exact ⟨_, rfl⟩ | refine .cons ?_ ?_))
    (case n_PILES => k_is)
    (case lt_PILES => k_is)
    (case sz_PILES => decide +kernel)
    (case va_PILES => repeat' (first | exact .nil | exact ⟨_, rfl⟩ | refine .cons ?_ ?_))
    (case z_all => k_is)
    (case z_bool => k_is)
    (case z_enumerate => k_is)
    (case z_int => k_is)
    (case z_isinstance => k_is)
    (case z_len => k_is)
    (case z_list => k_is)
    (case z_max => k_is)
    (case z_min => k_is)
    (case z_range => k_is)
    (case z_repr => k_is)
    (case z_str => k_is)
    (case z_tuple => k_is)
    (case z_zip => k_is)
