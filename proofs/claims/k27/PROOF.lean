import PyProof.Rows.All
import Wide.All
import OpenK.AllK
import Wide.FinOn
import HandS.ForMost
import HandS.Flow
import HandS.ForExc
import HandS.IsInst
import HandS.TupAny
import HandS.TupMul
import HandS.Deep
import HandS.Style
import HandS.Conv
import PyProof.Rows.ListMulArg
import HandS.Zip
import HandS.Star
import HandS.TryOnly
import KE.GoesMore
import HandS.SortRule
import HandS.SetFor
import HandS.Strs
import HandS.SetBool
import HandS.SortInts
import KE.DataMinMax
import HandS.DictComp
import PySem.Challenge.RW_notchledger_k27_unary_and_twice
set_option Elab.async false
set_option linter.all false
set_option maxRecDepth 100000
/-! DL: a layer over HandS: what an expression or a statement of the text does, told over plain data (PyData). -/
namespace DL
open PySem L2

/-! ### heaps -/
def Ex (H H' : Hp) : Prop := ∀ a o, H a = some o → H' a = some o
theorem Ex.refl (H : Hp) : Ex H H := fun _ _ h => h
theorem Ex.trans {H H1 H2 : Hp} (a : Ex H H1) (b : Ex H1 H2) : Ex H H2 := fun x o h => b x o (a x o h)
theorem Ex.new {H : Hp} {p : Addr} {o : HO} (h : H p = none) : Ex H (upd H p o) := fun a u e => by
  rw [upd_ne (ne_of_none e h)]
  exact e
theorem Ex.nn {H H' : Hp} (e : Ex H H') {a : Addr} (h : H' a = none) : H a = none := by
  cases q : H a with
  | none => rfl
  | some o => rw [e a o q] at h; cases h
theorem Ex.sm {H H' : Hp} (e : Ex H H') {a : Addr} (h : H a ≠ none) : H' a ≠ none := fun q => h (e.nn q)
theorem ex_rd {H H' : Hp} {a : Addr} {u : HO} (e : Ex H H') (h : Rd H a u) : Rd H' a u := by
  rcases h with h | ⟨o, h⟩
  · exact Or.inl (e a _ h)
  · exact Or.inr ⟨o, e a _ h⟩
theorem ex_l {K : PySem.W.Frag} {H H' : Hp} {a : Addr} {xs : List V} (e : Ex H H') (h : SqL K H a xs) : SqL K H' a xs := by
  rcases h with h | h
  · exact Or.inl (ex_rd e h)
  · exact Or.inr h
theorem ex_t {K : PySem.W.Frag} {H H' : Hp} {a : Addr} {xs : List V} (e : Ex H H') (h : SqT K H a xs) : SqT K H' a xs := by
  rcases h with h | h
  · exact Or.inl (ex_rd e h)
  · exact Or.inr h
theorem some_ne {α : Type} {x : Option α} {y : α} (h : x = some y) : x ≠ none := fun q => by rw [q] at h; cases h
theorem ne_some {α : Type} {x : Option α} (h : x ≠ none) : ∃ y, x = some y := by
  cases x with
  | none => exact absurd rfl h
  | some y => exact ⟨y, rfl⟩

/-! ### data in the heap -/
/-- a key as data -/
abbrev kD (k : Key) : PyData := match k with
  | .inl i => .int i
  | .inr x => .str x
/-- an exception object, whatever became of it -/
def exH (cls : Value) (d : Option Addr) (a : Addr) : HO := .ext fun h => ∃ (oe : Obj) (vs : Array Value), h.get? a = some oe ∧ Zc cls d oe ∧ oe.data = .fields vs
/-- an exception of the class that the program calls c, as data -/
abbrev exD (c : Str) : PyData := .dict [(.none, .str c)]
mutual
inductive Da (K : PySem.W.Frag) (H : Hp) : V → PyData → Prop
  | non : Da K H .non .none
  | bl (b : Bool) : Da K H (.bl b) (.bool b)
  | int (i : Int) : Da K H (.int i) (.int i)
  | str (x : Str) : Da K H (.str x) (.str x)
  | lst {a : Addr} {xs : List V} {ds : List PyData} : SqL K H a xs → DaAll K H xs ds → Da K H (.ref a) (.list ds)
  | tup {a : Addr} {xs : List V} {ds : List PyData} : SqT K H a xs → DaAll K H xs ds → Da K H (.ref a) (.tuple ds)
  | dct {a : Addr} {kvs : List (Key × V)} {ds : List PyData} : Rd H a (.dK kvs) → DaAll K H (kvs.map (·.2)) ds → Da K H (.ref a) (.dict ((kvs.map fun kv => kD kv.1).zip ds))
  | exc {a C : Addr} {c : Str} : PySem.W.nsIn K mainGlobals c = some (some (.ref C)) → H a = some (exH (.ref C) none a) → Da K H (.ref a) (exD c)
inductive DaAll (K : PySem.W.Frag) (H : Hp) : List V → List PyData → Prop
  | nil : DaAll K H [] []
  | cons {v : V} {vs : List V} {d : PyData} {ds : List PyData} : Da K H v d → DaAll K H vs ds → DaAll K H (v :: vs) (d :: ds)
end
mutual
theorem da_ex {K : PySem.W.Frag} {G G' : Hp} (e : Ex G G') : ∀ {d : PyData} {v : V}, Da K G v d → Da K G' v d
  | _, _, .non => .non
  | _, _, .bl b => .bl b
  | _, _, .int i => .int i
  | _, _, .str x => .str x
  | _, _, .lst h a => .lst (ex_l e h) (daAll_ex e a)
  | _, _, .tup h a => .tup (ex_t e h) (daAll_ex e a)
  | _, _, .dct h a => .dct (ex_rd e h) (daAll_ex e a)
  | _, _, .exc h a => .exc h (e _ _ a)
theorem daAll_ex {K : PySem.W.Frag} {G G' : Hp} (e : Ex G G') : ∀ {ds : List PyData} {vs : List V}, DaAll K G vs ds → DaAll K G' vs ds
  | _, _, .nil => .nil
  | _, _, .cons h1 h2 => .cons (da_ex e h1) (daAll_ex e h2)
end
mutual
theorem da_dp {K : PySem.W.Frag} {G : Hp} : ∀ {d : PyData} {v : V}, Da K G v d → d.canLay0 = true → L2.Dp K G v d
  | _, _, .non, _ => .non
  | _, _, .bl b, _ => .bl b
  | _, _, .int i, _ => .int i
  | _, _, .str x, _ => .str x
  | _, _, .lst h a, c => .lst h (daAll_dp a (by simpa [PyData.canLay0] using c))
  | _, _, .tup h a, c => .tup h (daAll_dp a (by simpa [PyData.canLay0] using c))
  | _, _, .dct h a, c => by simp [PyData.canLay0] at c
  | _, _, .exc h a, c => by simp [PyData.canLay0] at c
theorem daAll_dp {K : PySem.W.Frag} {G : Hp} : ∀ {ds : List PyData} {vs : List V}, DaAll K G vs ds → PyData.canLayAll0 ds = true → L2.DpAll K G vs ds
  | _, _, .nil, _ => .nil
  | _, _, .cons h1 h2, c => by
    simp only [PyData.canLayAll0, Bool.and_eq_true] at c
    exact .cons (da_dp h1 c.1) (daAll_dp h2 c.2)
end
theorem Da.ex {K : PySem.W.Frag} {G G' : Hp} {v : V} {d : PyData} (h : Da K G v d) (e : Ex G G') : Da K G' v d := da_ex e h
theorem DaAll.ex {K : PySem.W.Frag} {G G' : Hp} {vs : List V} {ds : List PyData} (h : DaAll K G vs ds) (e : Ex G G') : DaAll K G' vs ds := daAll_ex e h
theorem DaAll.len {K : PySem.W.Frag} {G : Hp} : ∀ {vs : List V} {ds : List PyData}, DaAll K G vs ds → vs.length = ds.length
  | _, [], h => by cases h; rfl
  | _, d :: ds, h => by
    cases h with
    | cons h1 h2 => rw [List.length_cons, List.length_cons, DaAll.len h2]
theorem DaAll.get {K : PySem.W.Frag} {G : Hp} : ∀ {vs : List V} {ds : List PyData} {i : Nat} {v : V}, DaAll K G vs ds → vs[i]? = some v → ∃ d, ds[i]? = some d ∧ Da K G v d
  | _, [], _, _, h, e => by cases h; simp at e
  | _, d :: ds, 0, v, h, e => by
    cases h with
    | cons h1 h2 => simp at e; subst e; exact ⟨d, rfl, h1⟩
  | _, d :: ds, i + 1, v, h, e => by
    cases h with
    | cons h1 h2 => simpa using DaAll.get (i := i) h2 (by simpa using e)
theorem DaAll.at {K : PySem.W.Frag} {G : Hp} : ∀ {vs : List V} {ds : List PyData} {i : Nat} {d : PyData}, DaAll K G vs ds → ds[i]? = some d → ∃ v, vs[i]? = some v ∧ Da K G v d
  | _, [], _, _, h, e => by simp at e
  | _, d :: ds, 0, v, h, e => by
    cases h with
    | cons h1 h2 => simp at e; subst e; exact ⟨_, rfl, h1⟩
  | _, d :: ds, i + 1, v, h, e => by
    cases h with
    | cons h1 h2 => simpa using DaAll.at (i := i) h2 (by simpa using e)
theorem DaAll.append {K : PySem.W.Frag} {G : Hp} : ∀ {vs : List V} {ds : List PyData} {us : List V} {es : List PyData}, DaAll K G vs ds → DaAll K G us es → DaAll K G (vs ++ us) (ds ++ es)
  | _, [], _, _, h, k => by cases h; exact k
  | _, d :: ds, _, _, h, k => by
    cases h with
    | cons h1 h2 => exact .cons h1 (DaAll.append h2 k)
theorem DaAll.take {K : PySem.W.Frag} {G : Hp} : ∀ {vs : List V} {ds : List PyData} (n : Nat), DaAll K G vs ds → DaAll K G (vs.take n) (ds.take n)
  | _, _, 0, _ => .nil
  | _, [], n + 1, h => by cases h; exact .nil
  | _, d :: ds, n + 1, h => by
    cases h with
    | cons h1 h2 => exact .cons h1 (DaAll.take n h2)
theorem DaAll.drop {K : PySem.W.Frag} {G : Hp} : ∀ {vs : List V} {ds : List PyData} (n : Nat), DaAll K G vs ds → DaAll K G (vs.drop n) (ds.drop n)
  | _, _, 0, h => h
  | _, [], n + 1, h => by cases h; exact .nil
  | _, d :: ds, n + 1, h => by
    cases h with
    | cons h1 h2 => exact DaAll.drop n h2
theorem DaAll.set {K : PySem.W.Frag} {G : Hp} {v : V} {d : PyData} (hd : Da K G v d) : ∀ {vs : List V} {ds : List PyData} (i : Nat), DaAll K G vs ds → DaAll K G (vs.set i v) (ds.set i d)
  | _, [], i, h => by cases h; exact .nil
  | _, e :: ds, 0, h => by
    cases h with
    | cons h1 h2 => exact .cons hd h2
  | _, e :: ds, i + 1, h => by
    cases h with
    | cons h1 h2 => exact .cons h1 (DaAll.set hd i h2)
theorem DaAll.rev {K : PySem.W.Frag} {G : Hp} : ∀ {vs : List V} {ds : List PyData}, DaAll K G vs ds → DaAll K G vs.reverse ds.reverse
  | _, [], h => by cases h; exact .nil
  | _, d :: ds, h => by
    cases h with
    | cons h1 h2 => rw [List.reverse_cons, List.reverse_cons]; exact DaAll.append (DaAll.rev h2) (.cons h1 .nil)
theorem DaAll.ints {K : PySem.W.Frag} {G : Hp} : ∀ {vs : List V} {ns : List Int}, DaAll K G vs (ns.map PyData.int) → vs = ns.map V.int
  | _, [], h => by cases h; rfl
  | _, n :: ns, h => by
    cases h with
    | cons h1 h2 => cases h1; rw [DaAll.ints h2]; rfl
theorem DaAll.bools {K : PySem.W.Frag} {G : Hp} : ∀ {vs : List V} {ns : List Bool}, DaAll K G vs (ns.map PyData.bool) → vs = ns.map V.bl
  | _, [], h => by cases h; rfl
  | _, n :: ns, h => by
    cases h with
    | cons h1 h2 => cases h1; rw [DaAll.bools h2]; rfl
theorem DaAll.ofInts {K : PySem.W.Frag} {G : Hp} : ∀ (ns : List Int), DaAll K G (ns.map V.int) (ns.map PyData.int)
  | [] => .nil
  | n :: ns => .cons (.int n) (DaAll.ofInts ns)

/-! ### things of several objects that one name alone holds -/
/-- dS: a dict of things that nobody changes; dL: a dict of lists of such; lL: a list of lists of such -/
inductive Mk where
  | dS (kds : List (Key × PyData))
  | dL (kls : List (Key × List PyData))
  | lL (dss : List (List PyData))
/-- the objects of m at v -/
def Fp (H : Hp) (v : V) : Mk → Addr → Prop
  | .dS _, a => v = .ref a
  | .dL _, a => v = .ref a ∨ ∃ p kvs k, v = .ref p ∧ H p = some (.dK kvs) ∧ (k, V.ref a) ∈ kvs
  | .lL _, a => v = .ref a ∨ ∃ p vs, v = .ref p ∧ H p = some (.lst vs) ∧ V.ref a ∈ vs
/-- a list of its own -/
def LiOk (K : PySem.W.Frag) (G H : Hp) (v : V) (ds : List PyData) : Prop := ∃ q us, v = .ref q ∧ H q = some (.lst us) ∧ DaAll K G us ds
def MkOk (K : PySem.W.Frag) (G H : Hp) (v : V) : Mk → Prop
  | .dS kds => ∃ p kvs, v = .ref p ∧ H p = some (.dK kvs) ∧ kvs.map (·.1) = kds.map (·.1) ∧ DaAll K G (kvs.map (·.2)) (kds.map (·.2))
  | .dL kls => ∃ p kvs, v = .ref p ∧ H p = some (.dK kvs) ∧ Paired (fun kv kl => kv.1 = kl.1 ∧ LiOk K G H kv.2 kl.2) kvs kls ∧ (kvs.map (·.2)).Nodup
  | .lL dss => ∃ p vs, v = .ref p ∧ H p = some (.lst vs) ∧ Paired (fun u ds => LiOk K G H u ds) vs dss ∧ vs.Nodup ∧ V.ref p ∉ vs
def dicD (acc : List (Key × PyData)) : PyData := .dict (acc.map fun kv => (kD kv.1, kv.2))
def mkD : Mk → PyData
  | .dS kds => dicD kds
  | .dL kls => dicD (kls.map fun kl => (kl.1, PyData.list kl.2))
  | .lL dss => .list (dss.map PyData.list)
theorem paired_mem {A B : Type} {R : A → B → Prop} : ∀ {xs : List A} {ys : List B}, Paired R xs ys → ∀ x ∈ xs, ∃ y, R x y
  | _, _, .nil, x, h => nomatch h
  | _, _, .cons h t, x, hx => by
    rcases List.mem_cons.mp hx with rfl | hx
    · exact ⟨_, h⟩
    · exact paired_mem t x hx
theorem paired_imp {A B : Type} {R R' : A → B → Prop} : ∀ {xs : List A} {ys : List B}, Paired R xs ys → (∀ x y, x ∈ xs → R x y → R' x y) → Paired R' xs ys
  | _, _, .nil, _ => .nil
  | _, _, .cons h t, f => .cons (f _ _ List.mem_cons_self h) (paired_imp t fun x y hx => f x y (List.mem_cons_of_mem _ hx))
theorem li_mono {K : PySem.W.Frag} {G G' H H' : Hp} {v : V} {ds : List PyData} (h : LiOk K G H v ds) (e : Ex G G') (f : ∀ a, v = .ref a → H' a = H a) : LiOk K G' H' v ds := by
  obtain ⟨q, us, rfl, h1, h2⟩ := h
  exact ⟨q, us, rfl, (f q rfl).trans h1, h2.ex e⟩
theorem mk_mono {K : PySem.W.Frag} {G G' H H' : Hp} {v : V} {m : Mk} (h : MkOk K G H v m) (e : Ex G G') (f : ∀ a, Fp H v m a → H' a = H a) : MkOk K G' H' v m := by
  cases m with
  | dS kds =>
    obtain ⟨p, kvs, rfl, h1, h2, h3⟩ := h
    exact ⟨p, kvs, rfl, (f p rfl).trans h1, h2, h3.ex e⟩
  | dL kls =>
    obtain ⟨p, kvs, rfl, h1, h2, h3⟩ := h
    exact ⟨p, kvs, rfl, (f p (.inl rfl)).trans h1, paired_imp h2 fun x y hx h => ⟨h.1, li_mono h.2 e fun a ha => f a (.inr ⟨p, kvs, x.1, rfl, h1, by rw [← ha]; exact hx⟩)⟩, h3⟩
  | lL dss =>
    obtain ⟨p, vs, rfl, h1, h2, h3, h4⟩ := h
    exact ⟨p, vs, rfl, (f p (.inl rfl)).trans h1, paired_imp h2 fun x y hx h => li_mono h e fun a ha => f a (.inr ⟨p, vs, rfl, h1, by rw [← ha]; exact hx⟩), h3, h4⟩
theorem fp_mono {H H' : Hp} {v : V} : ∀ {m : Mk}, (∀ a, Fp H v m a → H' a = H a) → ∀ a, Fp H' v m a → Fp H v m a
  | .dS kds, f, a, h => h
  | .dL kls, f, a, h => by
    rcases h with h | ⟨p, kvs, k, hv, h1, h2⟩
    · exact .inl h
    · exact .inr ⟨p, kvs, k, hv, (f p (.inl hv)).symm.trans h1, h2⟩
  | .lL dss, f, a, h => by
    rcases h with h | ⟨p, vs, hv, h1, h2⟩
    · exact .inl h
    · exact .inr ⟨p, vs, hv, (f p (.inl hv)).symm.trans h1, h2⟩
theorem fp_live {K : PySem.W.Frag} {G H : Hp} {v : V} {m : Mk} (h : MkOk K G H v m) : ∀ a, Fp H v m a → H a ≠ none := by
  cases m with
  | dS kds =>
    obtain ⟨p, kvs, rfl, h1, h2, h3⟩ := h
    intro a h
    cases h
    exact some_ne h1
  | dL kls =>
    obtain ⟨p, kvs, rfl, h1, h2, h3⟩ := h
    intro a h
    rcases h with h | ⟨p', kvs', k, e, h4, h5⟩
    · cases h; exact some_ne h1
    · cases e
      rw [h1] at h4
      cases h4
      obtain ⟨y, _, q, us, e, h6, _⟩ := paired_mem h2 _ h5
      cases e
      exact some_ne h6
  | lL dss =>
    obtain ⟨p, vs, rfl, h1, h2, h3, _⟩ := h
    intro a h
    rcases h with h | ⟨p', vs', e, h4, h5⟩
    · cases h; exact some_ne h1
    · cases e
      rw [h1] at h4
      cases h4
      obtain ⟨y, q, us, e, h6, _⟩ := paired_mem h2 _ h5
      cases e
      exact some_ne h6
/-! ### slots over data -/
/-- a local name over data: nothing is known; it holds a thing that nobody changes; it alone holds a list of such (io: the caller's) -/
inductive Sl where
  | no
  | val (d : PyData)
  | own (io : Bool) (ds : List PyData)
  | big (m : Mk)
abbrev S := List Sl

/-- the objects that a slot alone holds -/
def Fs (H : Hp) (s : Sl) (v : V) (a : Addr) : Prop := match s with
  | .own _ _ => v = .ref a
  | .big m => Fp H v m a
  | _ => False
def SlOk (K : PySem.W.Frag) (G H : Hp) (s : Sl) (v : V) : Prop := match s with
  | .own _ ds => LiOk K G H v ds
  | .big m => MkOk K G H v m
  | _ => True
def mine : Sl → Bool
  | .own _ _ => true
  | .big _ => true
  | _ => false
theorem fs_mine {H : Hp} {s : Sl} {v : V} {a : Addr} (h : Fs H s v a) : mine s = true := by
  cases s with
  | no => exact h.elim
  | val _ => exact h.elim
  | own _ _ => rfl
  | big _ => rfl
theorem sl_mono {K : PySem.W.Frag} {G G' H H' : Hp} {s : Sl} {v : V} (h : SlOk K G H s v) (e : Ex G G') (f : ∀ a, Fs H s v a → H' a = H a) : SlOk K G' H' s v := by
  cases s with
  | no => exact h
  | val _ => exact h
  | own _ ds => exact li_mono h e f
  | big m => exact mk_mono h e f
theorem fs_mono {H H' : Hp} {s : Sl} {v : V} (f : ∀ a, Fs H s v a → H' a = H a) : ∀ a, Fs H' s v a → Fs H s v a := by
  cases s with
  | no => exact fun _ h => h
  | val _ => exact fun _ h => h
  | own _ ds => exact fun _ h => h
  | big m => exact fp_mono f
theorem fs_live {K : PySem.W.Frag} {G H : Hp} {s : Sl} {v : V} (h : SlOk K G H s v) : ∀ a, Fs H s v a → H a ≠ none := by
  cases s with
  | no => exact fun _ h => h.elim
  | val _ => exact fun _ h => h.elim
  | own _ ds =>
    obtain ⟨q, us, rfl, h1, _⟩ := h
    intro a ha
    cases ha
    exact some_ne h1
  | big m => exact fp_live h
/-- p is an object of a slot that owns it -/
def Ow (H : Hp) (sg : St) (dl : S) (p : Addr) : Prop := ∃ (i : Nat) (s : Sl) (v : V), dl[i]? = some s ∧ sg[i]? = some (some v) ∧ Fs H s v p
theorem Ow.own {H : Hp} {sg : St} {dl : S} {i : Nat} {b : Bool} {ds : List PyData} {p : Addr} (h1 : dl[i]? = some (.own b ds)) (h2 : sg[i]? = some (some (.ref p))) : Ow H sg dl p := ⟨i, _, _, h1, h2, rfl⟩
/-- G: the part of the heap that nobody changes -/
structure Rel (K : PySem.W.Frag) (G H : Hp) (sg : St) (dl : S) : Prop where
  len : sg.length = dl.length
  ex : Ex G H
  val : ∀ (i : Nat) (d : PyData), dl[i]? = some (.val d) → ∃ v, sg[i]? = some (some v) ∧ Da K G v d
  mn : ∀ (i : Nat) (s : Sl), dl[i]? = some s → mine s = true → ∃ v, sg[i]? = some (some v) ∧ SlOk K G H s v ∧ ∀ a, Fs H s v a → G a = none
  dj : ∀ (i j : Nat) (s s' : Sl) (v v' : V) (a : Addr), dl[i]? = some s → dl[j]? = some s' → sg[i]? = some (some v) → sg[j]? = some (some v') → Fs H s v a → Fs H s' v' a → i = j
theorem Rel.own {K : PySem.W.Frag} {G H : Hp} {sg : St} {dl : S} (r : Rel K G H sg dl) (i : Nat) (b : Bool) (ds : List PyData) (h : dl[i]? = some (.own b ds)) : ∃ p vs, sg[i]? = some (some (.ref p)) ∧ G p = none ∧ H p = some (.lst vs) ∧ DaAll K G vs ds := by
  obtain ⟨v, h1, ⟨q, us, rfl, h2, h3⟩, h4⟩ := r.mn i _ h rfl
  exact ⟨q, us, h1, h4 q rfl, h2, h3⟩
theorem Rel.inj {K : PySem.W.Frag} {G H : Hp} {sg : St} {dl : S} (r : Rel K G H sg dl) (i j : Nat) (b b' : Bool) (ds ds' : List PyData) (p : Addr) (h1 : dl[i]? = some (.own b ds)) (h2 : dl[j]? = some (.own b' ds')) (h3 : sg[i]? = some (some (.ref p))) (h4 : sg[j]? = some (some (.ref p))) : i = j :=
  r.dj i j _ _ _ _ p h1 h2 h3 h4 rfl rfl
theorem Rel.mo {K : PySem.W.Frag} {G H : Hp} {sg : St} {dl : S} (r : Rel K G H sg dl) {i : Nat} {s : Sl} {v : V} {a : Addr} (h : dl[i]? = some s) (h2 : sg[i]? = some (some v)) (h3 : Fs H s v a) : SlOk K G H s v ∧ G a = none ∧ H a ≠ none := by
  obtain ⟨v', e1, e2, e3⟩ := r.mn i s h (fs_mine h3)
  rw [h2] at e1
  cases e1
  exact ⟨e2, e3 a h3, fs_live e2 a h3⟩
theorem Rel.ow {K : PySem.W.Frag} {G H : Hp} {sg : St} {dl : S} (r : Rel K G H sg dl) {p : Addr} (h : Ow H sg dl p) : G p = none ∧ H p ≠ none := by
  obtain ⟨i, s, v, h1, h2, h3⟩ := h
  exact (r.mo h1 h2 h3).2
theorem Rel.back {K : PySem.W.Frag} {G H H' : Hp} {sg : St} {dl : S} (r : Rel K G H sg dl) (e : Ex H H') {p : Addr} (h : Ow H' sg dl p) : Ow H sg dl p := by
  obtain ⟨i, s, v, h1, h2, h3⟩ := h
  refine ⟨i, s, v, h1, h2, fs_mono (fun a ha => ?_) p h3⟩
  obtain ⟨o, ho⟩ := ne_some (r.mo h1 h2 ha).2.2
  rw [ho]; exact e a o ho
/-- the same slots and names, the objects of the slots as they were -/
theorem Rel.keep {K : PySem.W.Frag} {G H G' H' : Hp} {sg : St} {dl : S} (r : Rel K G H sg dl) (eg : Ex G G') (ex : Ex G' H') (f : ∀ a, Ow H sg dl a → H' a = H a) (g : ∀ a, Ow H sg dl a → G' a = none) : Rel K G' H' sg dl ∧ ∀ a, Ow H' sg dl a → Ow H sg dl a := by
  have ff : ∀ {i : Nat} {s : Sl} {v : V}, dl[i]? = some s → sg[i]? = some (some v) → ∀ a, Fs H s v a → H' a = H a := fun h1 h2 a h3 => f a ⟨_, _, _, h1, h2, h3⟩
  refine ⟨⟨r.len, ex, fun i d h => let ⟨v, h1, h2⟩ := r.val i d h; ⟨v, h1, h2.ex eg⟩, fun i s h hm => ?_, fun i j s s' v v' a h1 h2 h3 h4 h5 h6 => r.dj i j s s' v v' a h1 h2 h3 h4 (fs_mono (ff h1 h3) a h5) (fs_mono (ff h2 h4) a h6)⟩, fun a ⟨i, s, v, h1, h2, h3⟩ => ⟨i, s, v, h1, h2, fs_mono (ff h1 h2) a h3⟩⟩
  obtain ⟨v, h1, h2, h3⟩ := r.mn i s h hm
  exact ⟨v, h1, sl_mono h2 eg (ff h h1), fun a ha => g a ⟨i, s, v, h, h1, fs_mono (ff h h1) a ha⟩⟩

/-- from one state to a later one -/
structure Stp (K : PySem.W.Frag) (G H : Hp) (sg : St) (dl : S) (G' H' : Hp) (sg' : St) (dl' : S) : Prop where
  rel : Rel K G' H' sg' dl'
  g : Ex G G'
  k : ∀ a o, ¬ Ow H sg dl a → H a = some o → H' a = some o
  n : ∀ a, ¬ Ow H sg dl a → H a ≠ none → G a = none → G' a = none
  w : ∀ p, Ow H' sg' dl' p → Ow H sg dl p ∨ H p = none
  d : ∀ a, H a ≠ none → H' a ≠ none
  io : ∀ (j : Nat) (ds : List PyData), dl'[j]? = some (.own true ds) → (∃ ds0, dl[j]? = some (.own true ds0)) ∧ sg'[j]? = sg[j]?
theorem Stp.refl {K : PySem.W.Frag} {G H : Hp} {sg : St} {dl : S} (r : Rel K G H sg dl) : Stp K G H sg dl G H sg dl :=
  ⟨r, Ex.refl G, fun _ _ _ h => h, fun _ _ _ h => h, fun _ h => .inl h, fun _ h => h, fun _ ds h => ⟨⟨ds, h⟩, rfl⟩⟩
theorem Stp.nw {K : PySem.W.Frag} {G H G1 H1 : Hp} {sg sg1 : St} {dl dl1 : S} (a : Stp K G H sg dl G1 H1 sg1 dl1) {p : Addr} (h : ¬ Ow H sg dl p) (hp : H p ≠ none) : ¬ Ow H1 sg1 dl1 p := fun q =>
  (a.w p q).elim h hp
theorem Stp.trans {K : PySem.W.Frag} {G H G1 H1 G2 H2 : Hp} {sg sg1 sg2 : St} {dl dl1 dl2 : S} (a : Stp K G H sg dl G1 H1 sg1 dl1) (b : Stp K G1 H1 sg1 dl1 G2 H2 sg2 dl2) : Stp K G H sg dl G2 H2 sg2 dl2 where
  rel := b.rel
  g := a.g.trans b.g
  k := fun x o h e => b.k x o (a.nw h (some_ne e)) (a.k x o h e)
  n := fun x h e z => b.n x (a.nw h e) (a.d x e) (a.n x h e z)
  w := fun p h => by
    rcases b.w p h with q | q
    · exact a.w p q
    · refine .inr ?_
      cases e : H p with
      | none => rfl
      | some o => exact absurd q (a.d p (some_ne e))
  d := fun x h => b.d x (a.d x h)
  io := fun j ds h => by
    obtain ⟨⟨ds0, e0⟩, e1⟩ := b.io j ds h
    obtain ⟨e2, e3⟩ := a.io j ds0 e0
    exact ⟨e2, e1.trans e3⟩

/-- how the slots of an expression's ground may turn -/
def Kp (dl dl' : S) : Prop := dl'.length = dl.length ∧ ∀ i : Nat, match dl[i]? with
  | some (.val d) => dl'[i]? = some (.val d)
  | some (.own b _) => (∃ ds', dl'[i]? = some (.own b ds')) ∨ (b = false ∧ ∃ ds', dl'[i]? = some (.val (.list ds')))
  | some (.big _) => (∃ m', dl'[i]? = some (.big m')) ∨ ∃ d, dl'[i]? = some (.val d)
  | some .no => dl'[i]? = some .no
  | none => dl'[i]? = none
theorem Kp.refl (dl : S) : Kp dl dl := ⟨rfl, fun i => by
  cases h : dl[i]? with
  | none => rfl
  | some s =>
    cases s with
    | no => rfl
    | val d => rfl
    | own b ds => exact .inl ⟨ds, rfl⟩
    | big m => exact .inl ⟨m, rfl⟩⟩
theorem Kp.trans {d0 d1 d2 : S} (a : Kp d0 d1) (b : Kp d1 d2) : Kp d0 d2 := ⟨b.1.trans a.1, fun i => by
  have ha := a.2 i
  have hb := b.2 i
  cases h : d0[i]? with
  | none =>
    rw [h] at ha
    dsimp only at ha
    rw [ha] at hb
    exact hb
  | some s =>
    rw [h] at ha
    cases s with
    | no =>
      dsimp only at ha
      rw [ha] at hb
      exact hb
    | val d =>
      dsimp only at ha
      rw [ha] at hb
      exact hb
    | own c ds =>
      dsimp only at ha
      rcases ha with ⟨ds', e⟩ | ⟨hc, ds', e⟩
      · rw [e] at hb
        exact hb
      · rw [e] at hb
        exact .inr ⟨hc, ds', hb⟩
    | big m =>
      dsimp only at ha
      rcases ha with ⟨m', e⟩ | ⟨d, e⟩
      · rw [e] at hb
        exact hb
      · rw [e] at hb
        exact .inr ⟨d, hb⟩⟩

/-! ### results -/
/-- what an expression comes to: a thing that nobody changes; the list that slot i owns; a new list that nobody else holds -/
inductive Rv where
  | val (d : PyData)
  | loc (i : Nat)
  | new (ds : List PyData)
def rdS (dl : S) (i : Nat) : Option PyData := match dl[i]? with
  | some (.val d) => some d
  | some (.own _ ds) => some (.list ds)
  | _ => none
def rd (dl : S) : Rv → Option PyData
  | .val d => some d
  | .new ds => some (.list ds)
  | .loc i => rdS dl i
/-- H0: the heap ahead of the expression -/
def RvOk (K : PySem.W.Frag) (G H : Hp) (sg : St) (dl : S) (H0 : Hp) (v : V) : Rv → Prop
  | .val d => Da K G v d
  | .loc i => sg[i]? = some (some v) ∧ ∃ d, rdS dl i = some d
  | .new ds => ∃ p vs, v = .ref p ∧ H0 p = none ∧ H p = some (.lst vs) ∧ G p = none ∧ ¬ Ow H sg dl p ∧ DaAll K G vs ds
theorem Kp.rd {dl dl' : S} (h : Kp dl dl') {i : Nat} {d : PyData} (e : rdS dl i = some d) : ∃ d', rdS dl' i = some d' := by
  have q := h.2 i
  unfold rdS at e ⊢
  cases hs : dl[i]? with
  | none => rw [hs] at e; cases e
  | some s =>
    rw [hs] at e q
    cases s with
    | no => cases e
    | val x => dsimp only at q; rw [q]; exact ⟨x, rfl⟩
    | own b ds =>
      dsimp only at q
      rcases q with ⟨ds', q⟩ | ⟨_, ds', q⟩
      · rw [q]; exact ⟨_, rfl⟩
      · rw [q]; exact ⟨_, rfl⟩
    | big m => cases e
theorem RvOk.mono {K : PySem.W.Frag} {G H G' H' H0 : Hp} {sg : St} {dl dl' : S} {v : V} {r : Rv} (h : RvOk K G H sg dl H0 v r) (s : Stp K G H sg dl G' H' sg dl') (k : Kp dl dl') : RvOk K G' H' sg dl' H0 v r := by
  cases r with
  | val d => exact Da.ex h s.g
  | loc i =>
    obtain ⟨h1, d, h2⟩ := h
    exact ⟨h1, k.rd h2⟩
  | new ds =>
    obtain ⟨p, vs, e, h0, hp, hg, hw, ha⟩ := h
    exact ⟨p, vs, e, h0, s.k p _ hw hp, s.n p hw (some_ne hp) hg, s.nw hw (some_ne hp), ha.ex s.g⟩
theorem RvOk.from {K : PySem.W.Frag} {G H H0 H1 : Hp} {sg : St} {dl : S} {v : V} {r : Rv} (h : RvOk K G H sg dl H1 v r) (d : ∀ a, H0 a ≠ none → H1 a ≠ none) : RvOk K G H sg dl H0 v r := by
  cases r with
  | val d => exact h
  | loc i => exact h
  | new ds =>
    obtain ⟨p, vs, e, h0, r⟩ := h
    refine ⟨p, vs, e, ?_, r⟩
    cases q : H0 p with
    | none => rfl
    | some o => exact absurd h0 (d p (some_ne q))

/-- readable as d: its items at least are such as nobody changes -/
inductive Tr (K : PySem.W.Frag) (G H : Hp) (v : V) : PyData → Prop
  | st {d : PyData} : Da K G v d → Tr K G H v d
  | li {p : Addr} {vs : List V} {ds : List PyData} : v = .ref p → H p = some (.lst vs) → DaAll K G vs ds → Tr K G H v (.list ds)
theorem RvOk.tr {K : PySem.W.Frag} {G H H0 : Hp} {sg : St} {dl : S} {v : V} {r : Rv} {d : PyData} (h : RvOk K G H sg dl H0 v r) (re : Rel K G H sg dl) (e : rd dl r = some d) : Tr K G H v d := by
  cases r with
  | val d' => cases e; exact .st h
  | new ds =>
    cases e
    obtain ⟨p, vs, e, _, hp, _, _, ha⟩ := h
    exact .li e hp ha
  | loc i =>
    obtain ⟨h1, _⟩ := h
    have e' : rdS dl i = some d := e
    unfold rdS at e'
    cases hs : dl[i]? with
    | none => rw [hs] at e'; cases e'
    | some s =>
      rw [hs] at e'
      cases s with
      | no => cases e'
      | val x =>
        cases e'
        obtain ⟨v', q1, q2⟩ := re.val i d hs
        rw [h1] at q1
        cases q1
        exact .st q2
      | own b ds =>
        cases e'
        obtain ⟨p, vs, q1, _, q3, q4⟩ := re.own i b ds hs
        rw [h1] at q1
        cases q1
        exact .li rfl q3 q4
      | big m => cases e'
theorem Tr.da {K : PySem.W.Frag} {G H : Hp} {v : V} {d : PyData} (h : Tr K G H v d) (e : Ex G H) : Da K H v d := by
  cases h with
  | st h => exact h.ex e
  | li e1 e2 e3 => subst e1; exact .lst (.inl (.inl e2)) (e3.ex e)
theorem Tr.dp {K : PySem.W.Frag} {G H : Hp} {v : V} {d : PyData} (h : Tr K G H v d) (e : Ex G H) (hs : SeqAt.shaped d = true) : L2.Dp K H v d := da_dp (h.da e) (SeqAt.canLay_of_shaped hs)
theorem Tr.lst {K : PySem.W.Frag} {G H : Hp} {v : V} {ds : List PyData} (h : Tr K G H v (.list ds)) (e : Ex G H) : ∃ p vs, v = .ref p ∧ SqL K H p vs ∧ DaAll K G vs ds := by
  cases h with
  | st h =>
    cases h with
    | lst hs ha => exact ⟨_, _, rfl, ex_l e hs, ha⟩
  | li e1 e2 e3 => exact ⟨_, _, e1, .inl (.inl e2), e3⟩
theorem Tr.tup {K : PySem.W.Frag} {G H : Hp} {v : V} {ds : List PyData} (h : Tr K G H v (.tuple ds)) (e : Ex G H) : ∃ p vs, v = .ref p ∧ SqT K H p vs ∧ DaAll K G vs ds := by
  cases h with
  | st h =>
    cases h with
    | tup hs ha => exact ⟨_, _, rfl, ex_t e hs, ha⟩
theorem Tr.int {K : PySem.W.Frag} {G H : Hp} {v : V} {i : Int} (h : Tr K G H v (.int i)) : v = .int i := by
  cases h with
  | st h => cases h; rfl
theorem Tr.bl {K : PySem.W.Frag} {G H : Hp} {v : V} {b : Bool} (h : Tr K G H v (.bool b)) : v = .bl b := by
  cases h with
  | st h => cases h; rfl
theorem Tr.str {K : PySem.W.Frag} {G H : Hp} {v : V} {x : Str} (h : Tr K G H v (.str x)) : v = .str x := by
  cases h with
  | st h => cases h; rfl
theorem Tr.non {K : PySem.W.Frag} {G H : Hp} {v : V} (h : Tr K G H v .none) : v = .non := by
  cases h with
  | st h => cases h; rfl

/-- objects are made, nothing else -/
structure Alc (G H G' H' : Hp) : Prop where
  g : Ex G G'
  h : Ex H H'
  n : ∀ a, H a ≠ none → G' a = G a
  s : Ex G' H'
theorem Alc.refl {G H : Hp} (e : Ex G H) : Alc G H G H := ⟨Ex.refl G, Ex.refl H, fun _ _ => rfl, e⟩
/-- a thing that nobody changes is made -/
theorem Alc.made {G H : Hp} (e : Ex G H) {p : Addr} (hp : H p = none) (o : HO) : Alc G H (upd G p o) (upd H p o) where
  g := Ex.new (e.nn hp)
  h := Ex.new hp
  n := fun a ha => upd_ne fun z => ha (by rw [z]; exact hp)
  s := fun a u h => by
    by_cases z : a = p
    · subst z; rw [upd_same] at h ⊢; exact h
    · rw [upd_ne z] at h ⊢; exact e a u h
/-- a list that may be changed is made -/
theorem Alc.li {G H : Hp} (e : Ex G H) {p : Addr} (hp : H p = none) (o : HO) : Alc G H G (upd H p o) where
  g := Ex.refl G
  h := Ex.new hp
  n := fun a ha => rfl
  s := e.trans (Ex.new hp)
theorem Alc.trans {G H G1 H1 G2 H2 : Hp} (a : Alc G H G1 H1) (b : Alc G1 H1 G2 H2) : Alc G H G2 H2 :=
  ⟨a.g.trans b.g, a.h.trans b.h, fun x h => (b.n x (a.h.sm h)).trans (a.n x h), b.s⟩
theorem Alc.stp {K : PySem.W.Frag} {G H G' H' : Hp} {sg : St} {dl : S} (a : Alc G H G' H') (r : Rel K G H sg dl) : Stp K G H sg dl G' H' sg dl := by
  have f : ∀ x, Ow H sg dl x → H' x = H x := fun x hx => by
    obtain ⟨o, ho⟩ := ne_some (r.ow hx).2
    rw [ho]; exact a.h x o ho
  obtain ⟨r', w'⟩ := r.keep a.g a.s f fun x hx => (a.n x (r.ow hx).2).trans (r.ow hx).1
  exact ⟨r', a.g, fun x o _ h => a.h x o h, fun x _ h e => (a.n x h).trans e, fun p h => .inl (w' p h), fun x h => a.h.sm h, fun _ ds h => ⟨⟨ds, h⟩, rfl⟩⟩

/-! ### outcomes -/
inductive Out (A : Type) where
  | ok (a : A) (dl : S)
  | ex (c : Str) (dl : S)
  | bad
def Out.bind {A B : Type} : Out A → (A → S → Out B) → Out B
  | .ok a dl, k => k a dl
  | .ex c dl, _ => .ex c dl
  | .bad, _ => .bad
/-- what is to be shown behind an outcome -/
def Post {A : Type} (X : Cx) (W : WX) (G H : Hp) (sg : St) (dl : S) (P : A → S → Hp → Hp → Prop) : Out A → Prop
  | .ok a dl' => ∀ G' H', Stp X.K G H sg dl G' H' sg dl' → Kp dl dl' → P a dl' G' H'
  | .ex c dl' => ∀ C G' H', X.mg c = some (.ref C) → Stp X.K G H sg dl G' H' sg dl' → W (.ref C) none sg H'
  | .bad => False
theorem post_bind {A B : Type} {X : Cx} {W : WX} {G H : Hp} {sg : St} {dl : S} {P : B → S → Hp → Hp → Prop} {o : Out A} {k : A → S → Out B} (h : Post X W G H sg dl P (o.bind k)) :
    Post X W G H sg dl (fun a d1 G1 H1 => Post X W G1 H1 sg d1 P (k a d1)) o := by
  cases o with
  | bad => exact h
  | ex c d1 => exact h
  | ok a d1 =>
    intro G1 H1 s1 k1
    have h' : Post X W G H sg dl P (k a d1) := h
    show Post X W G1 H1 sg d1 P (k a d1)
    cases q : k a d1 with
    | bad => rw [q] at h'; exact h'
    | ex c d2 =>
      rw [q] at h'
      exact fun C G2 H2 hc s2 => h' C G2 H2 hc (s1.trans s2)
    | ok b d2 =>
      rw [q] at h'
      exact fun G2 H2 s2 k2 => h' G2 H2 (s1.trans s2) (k1.trans k2)
/-- the same with the way so far told from the start -/
theorem post_bind0 {A B : Type} {X : Cx} {W : WX} {G H : Hp} {sg : L2.St} {dl : S} {P : B → S → Hp → Hp → Prop} {o : Out A} {k : A → S → Out B} (h : Post X W G H sg dl P (o.bind k)) :
    Post X W G H sg dl (fun a d1 _ _ => ∀ G1 H1, Stp X.K G H sg dl G1 H1 sg d1 → Kp dl d1 → Post X W G1 H1 sg d1 P (k a d1)) o := by
  have h' := post_bind h
  cases o with
  | bad => exact h'
  | ex c d1 => exact h'
  | ok a d1 => exact fun _ _ _ _ G1 H1 s k => h' G1 H1 s k
theorem Post.imp {A : Type} {X : Cx} {W : WX} {G H : Hp} {sg : St} {dl : S} {P P' : A → S → Hp → Hp → Prop} {o : Out A} (h : Post X W G H sg dl P o)
    (f : ∀ a d1 G1 H1, Stp X.K G H sg dl G1 H1 sg d1 → Kp dl d1 → P a d1 G1 H1 → P' a d1 G1 H1) : Post X W G H sg dl P' o := by
  cases o with
  | bad => exact h
  | ex c d1 => exact h
  | ok a d1 => exact fun G1 H1 s k => f a d1 G1 H1 s k (h G1 H1 s k)

theorem Post.imp0 {A : Type} {X : Cx} {W : WX} {G H : Hp} {sg : L2.St} {dl : S} {P P' : A → S → Hp → Hp → Prop} {o : Out A} (h : Post X W G H sg dl P o)
    (f : ∀ a d1 G1 H1, Stp X.K G H sg dl G1 H1 sg d1 → Kp dl d1 → P a d1 G1 H1 → P' a d1 G1 H1) : Post X W G H sg dl P' o := h.imp f
/-! ### the judgements -/
/-- the wish behind an expression -/
def wE (X : Cx) (sg : St) (H : Hp) (Q : VK) : Rv → S → Hp → Hp → Prop := fun r dl' G' H' => ∀ v, RvOk X.K G' H' sg dl' H v r → Q v H'
/-- a reading does f -/
def SoE (X : Cx) (W : WX) (t : TE) (f : S → Out Rv) : Prop := ∀ G H sg dl Q, Rel X.K G H sg dl → Post X W G H sg dl (wE X sg H Q) (f dl) → t sg H Q
def SoT (X : Cx) (W : WX) (t : TT) (f : S → Out Bool) : Prop := ∀ G H sg dl (Q : Bool → Hp → Prop), Rel X.K G H sg dl → Post X W G H sg dl (fun b _ _ H' => Q b H') (f dl) → t sg H Q
def isNew : Rv → Bool
  | .new _ => true
  | _ => false
def RvsOk (K : PySem.W.Frag) (G H : Hp) (sg : L2.St) (dl : S) (H0 : Hp) : List V → List Rv → Prop := Paired (fun v r => RvOk K G H sg dl H0 v r ∧ isNew r = false)
def wA (X : Cx) (sg : L2.St) (H : Hp) (Q : List V → Hp → Prop) : List Rv → S → Hp → Hp → Prop := fun rs dl' G' H' => ∀ vs, RvsOk X.K G' H' sg dl' H vs rs → Q vs H'
def SoA (X : Cx) (W : WX) (t : TA) (f : S → Out (List Rv)) : Prop := ∀ G H sg dl Q, Rel X.K G H sg dl → Post X W G H sg dl (wA X sg H Q) (f dl) → t sg H Q
/-- e does f -/
def SE (X : Cx) (W : WX) (e : Expr) (f : S → Out Rv) : Prop := ∃ t, PE X e t ∧ SoE X W t f
def ST (X : Cx) (W : WX) (e : Expr) (f : S → Out Bool) : Prop := ∃ t, PT X e t ∧ SoT X W t f
def SW (X : Cx) (W : WX) (e : Expr) (f : S → Out Bool) : Prop := ∃ t, PW X e t ∧ SoT X W t f
def SA (X : Cx) (W : WX) (es : List Expr) (f : S → Out (List Rv)) : Prop := ∃ t, PA X es t ∧ SoA X W t f
end DL

namespace DL
open PySem L2
section
variable {X : Cx} {W : WX}

/-! ### names and constants -/
def dVar (i : Nat) : S → Out Rv := fun dl => match dl[i]? with
  | some (.val d) => .ok (.val d) dl
  | some (.own _ _) => .ok (.loc i) dl
  | _ => .bad
theorem se_var (i : Nat) {x : Str} {pos : Pos} (hN : X.N[i]? = some x := by rfl) (hv : Vis X.env.scope x := by first | exact Or.inl rfl | exact Or.inr (Or.inl rfl) | exact Or.inr (Or.inr rfl)) (hd : (x == ("__debug__" : Str)) = false := by decide)
    (hcd : (x == ("__classdict__" : Str)) = false := by decide) : SE X W (.Name x pos) (dVar i) := by
  refine ⟨tVar i, pe_var hN hv hd hcd, fun G H sg dl Q re h => ?_⟩
  unfold dVar at h
  cases hs : dl[i]? with
  | none => rw [hs] at h; exact h.elim
  | some s =>
    rw [hs] at h
    cases s with
    | no => exact h.elim
    | val d =>
      obtain ⟨v, h1, h2⟩ := re.val i d hs
      exact ⟨v, h1, h G H (Stp.refl re) (Kp.refl dl) v h2⟩
    | own b ds =>
      obtain ⟨p, vs, h1, _⟩ := re.own i b ds hs
      exact ⟨.ref p, h1, h G H (Stp.refl re) (Kp.refl dl) (.ref p) ⟨h1, .list ds, by unfold rdS; rw [hs]⟩⟩
    | big m => exact h.elim
def dC (d : PyData) : S → Out Rv := fun dl => .ok (.val d) dl
theorem se_c {e : Expr} {v : V} {d : PyData} (hp : PE X e (tC v)) (hd : ∀ G, Da X.K G v d) : SE X W e (dC d) :=
  ⟨tC v, hp, fun G H sg dl Q re h => h G H (Stp.refl re) (Kp.refl dl) v (hd G)⟩
theorem se_int {i : Int} {j : Nat} {pos : Pos} : SE X W (.Constant (.int i) j pos) (dC (.int i)) := se_c pe_int fun _ => .int i
theorem se_bl {b : Bool} {j : Nat} {pos : Pos} : SE X W (.Constant (.bool b) j pos) (dC (.bool b)) := se_c pe_bl fun _ => .bl b
theorem se_non {j : Nat} {pos : Pos} : SE X W (.Constant .none j pos) (dC .none) := se_c pe_non fun _ => .non
theorem se_str {x : Str} {j : Nat} {pos : Pos} : SE X W (.Constant (.str x) j pos) (dC (.str x)) := se_c pe_str fun _ => .str x
/-- a module's constant int -/
theorem se_gint {x : Str} {i : Int} {t : Tok} {pos : Pos} (hg : Gl X x) (hm : X.mg x = some (.int i t)) (hd : (x == ("__debug__" : Str)) = false := by decide) : SE X W (.Name x pos) (dC (.int i)) := se_c (v := .int i) (pe_glob hg hm ⟨t, rfl⟩ hd) fun _ => .int i
theorem se_gstr {x : Str} {i : Str} {t : Tok} {pos : Pos} (hg : Gl X x) (hm : X.mg x = some (.str i t)) (hd : (x == ("__debug__" : Str)) = false := by decide) : SE X W (.Name x pos) (dC (.str i)) := se_c (v := .str i) (pe_glob hg hm ⟨t, rfl⟩ hd) fun _ => .str i

/-! ### operators by data -/
def AtOk (K : PySem.W.Frag) (G' H' H : Hp) (w : V) : Rv → Prop
  | .val d => Da K G' w d
  | .new ds => ∃ p vs, w = .ref p ∧ H p = none ∧ H' p = some (.lst vs) ∧ G' p = none ∧ DaAll K G' vs ds
  | .loc _ => False
theorem AtOk.rv {K : PySem.W.Frag} {G H G' H' : Hp} {sg : L2.St} {dl : S} {w : V} {r : Rv} (h : AtOk K G' H' H w r) (re : Rel K G H sg dl) (ex : Ex H H') : RvOk K G' H' sg dl H w r := by
  cases r with
  | val d => exact h
  | loc i => exact h.elim
  | new ds =>
    obtain ⟨p, vs, e, h0, h1, h2, h3⟩ := h
    exact ⟨p, vs, e, h0, h1, h2, fun q => (re.ow (re.back ex q)).2 h0, h3⟩
def fin (o : Option Rv) (dl : S) : Out Rv := match o with
  | some r => .ok r dl
  | none => .bad
def o1 (op : PyData → Option Rv) (x : Option PyData) : Option Rv := x.bind op
def o2 (op : PyData → PyData → Option Rv) (x y : Option PyData) : Option Rv := x.bind fun a => y.bind fun b => op a b
def d1 (op : PyData → Option Rv) (f : S → Out Rv) : S → Out Rv := fun dl => (f dl).bind fun r1 d1 => fin (o1 op (rd d1 r1)) d1
def d2 (op : PyData → PyData → Option Rv) (f g : S → Out Rv) : S → Out Rv := fun dl => (f dl).bind fun r1 d1 => (g d1).bind fun r2 d2 => fin (o2 op (rd d2 r1) (rd d2 r2)) d2
/-- what is wished behind an operator -/
abbrev wO (K : PySem.W.Frag) (G H : Hp) (r : Rv) (Q : VK) : Prop := ∀ w G' H', Alc G H G' H' → AtOk K G' H' H w r → Q w H'
def OpS (K : PySem.W.Frag) (r2 : R2) (op : PyData → PyData → Option Rv) : Prop := ∀ (G H : Hp) (v u : V) (a b : PyData) (r : Rv), Ex G H → Tr K G H v a → Tr K G H u b → op a b = some r → ∀ Q : VK, wO K G H r Q → r2 v u H Q
def UnS (K : PySem.W.Frag) (r1 : V → Hp → VK → Prop) (op : PyData → Option Rv) : Prop := ∀ (G H : Hp) (v : V) (a : PyData) (r : Rv), Ex G H → Tr K G H v a → op a = some r → ∀ Q : VK, wO K G H r Q → r1 v H Q
theorem wO.fin {K : PySem.W.Frag} {G H H0 : Hp} {sg : L2.St} {dl : S} {r : Rv} {Q : VK} (hX : K = X.K) (re : Rel K G H sg dl) (h0 : ∀ a, H0 a ≠ none → H a ≠ none) (h : Post X W G H sg dl (wE X sg H0 Q) (.ok r dl)) : wO K G H r Q := by
  subst hX
  exact fun w G' H' al at' => h G' H' (al.stp re) (Kp.refl dl) w ((at'.rv re al.h).from h0)
theorem so_2 {r2 : R2} {op : PyData → PyData → Option Rv} {ta tb : TE} {f g : S → Out Rv} (ho : OpS X.K r2 op) (sa : SoE X W ta f) (sb : SoE X W tb g) : SoE X W (tOp r2 ta tb) (d2 op f g) := by
  intro G H sg dl Q re h
  refine sa G H sg dl _ re ((post_bind h).imp fun r1 d1 G1 H1 s1 k1 h1 v1 q1 => ?_)
  refine sb G1 H1 sg d1 _ s1.rel ((post_bind h1).imp fun r2 d2 G2 H2 s2 k2 h2 v2 q2 => ?_)
  have q1' := q1.mono s2 k2
  cases e1 : rd d2 r1 with
  | none => rw [e1] at h2; exact h2.elim
  | some x =>
    cases e2 : rd d2 r2 with
    | none => rw [e1, e2] at h2; exact h2.elim
    | some y =>
      rw [e1, e2] at h2
      have h2' : Post X W G2 H2 sg d2 (wE X sg H Q) (fin (op x y) d2) := h2
      cases e3 : op x y with
      | none => rw [e3] at h2'; exact h2'.elim
      | some r =>
        rw [e3] at h2'
        exact ho G2 H2 v1 v2 x y r s2.rel.ex (q1'.tr s2.rel e1) (q2.tr s2.rel e2) e3 Q (wO.fin rfl s2.rel (fun a z => s2.d a (s1.d a z)) h2')
theorem se_2 {r2 : R2} {op : PyData → PyData → Option Rv} {e a b : Expr} {f g : S → Out Rv} (he : ∀ ta tb, PE X a ta → PE X b tb → PE X e (tOp r2 ta tb)) (ho : OpS X.K r2 op) (ha : SE X W a f) (hb : SE X W b g) : SE X W e (d2 op f g) :=
  let ⟨ta, pa, sa⟩ := ha
  let ⟨tb, pb, sb⟩ := hb
  ⟨tOp r2 ta tb, he ta tb pa pb, so_2 ho sa sb⟩
theorem se_1 {r1 : V → Hp → VK → Prop} {op : PyData → Option Rv} {e a : Expr} {f : S → Out Rv} (he : ∀ ta, PE X a ta → PE X e (tUn r1 ta)) (ho : UnS X.K r1 op) (ha : SE X W a f) : SE X W e (d1 op f) := by
  obtain ⟨ta, pa, sa⟩ := ha
  refine ⟨tUn r1 ta, he ta pa, fun G H sg dl Q re h => ?_⟩
  refine sa G H sg dl _ re ((post_bind h).imp fun r1 d1 G1 H1 s1 k1 h1 v1 q1 => ?_)
  cases e1 : rd d1 r1 with
  | none => rw [e1] at h1; exact h1.elim
  | some x =>
    rw [e1] at h1
    have h1' : Post X W G1 H1 sg d1 (wE X sg H Q) (fin (op x) d1) := h1
    cases e3 : op x with
    | none => rw [e3] at h1'; exact h1'.elim
    | some r =>
      rw [e3] at h1'
      exact ho G1 H1 v1 x r s1.rel.ex (q1.tr s1.rel e1) e3 Q (wO.fin rfl s1.rel s1.d h1')
theorem se_bin {r2 : R2} {op : PyData → PyData → Option Rv} {o : Operator} {a b : Expr} {pos : Pos} {f g : S → Out Rv} (hr : OpR X (binaryOp o) r2) (ho : OpS X.K r2 op) (ha : SE X W a f) (hb : SE X W b g) : SE X W (.BinOp a o b pos) (d2 op f g) :=
  se_2 (fun _ _ pa pb => pe_op hr pa pb) ho ha hb
theorem se_cmp {r2 : R2} {op : PyData → PyData → Option Rv} {o : CmpOp} {a b : Expr} {pos : Pos} {f g : S → Out Rv} (hr : OpR X (compareOp o) r2) (ho : OpS X.K r2 op) (ha : SE X W a f) (hb : SE X W b g) (hm : behindInMarks o b = false := by first | exact nomark _ | rfl) : SE X W (.Compare a [o] [b] pos) (d2 op f g) :=
  se_2 (fun _ _ pa pb => pe_cmpR hr pa pb hm) ho ha hb
theorem se_ix {r2 : R2} {op : PyData → PyData → Option Rv} {a b : Expr} {pos : Pos} {f g : S → Out Rv} (hr : IxR X r2) (ho : OpS X.K r2 op) (ha : SE X W a f) (hb : SE X W b g) (hs : PlainIx b := by exact fun _ _ => rfl) : SE X W (.Subscript a b pos) (d2 op f g) :=
  se_2 (fun _ _ pa pb => pe_ix hr pa pb hs) ho ha hb
theorem se_un {r1 : V → Hp → VK → Prop} {op : PyData → Option Rv} {o : UnaryOp} {a : Expr} {pos : Pos} {f : S → Out Rv} (hr : UnR X (unaryOp o) r1) (ho : UnS X.K r1 op) (ha : SE X W a f) : SE X W (.UnaryOp o a pos) (d1 op f) :=
  se_1 (fun _ pa => pe_un hr pa) ho ha

/-! ### argument lists -/
/-- a new list is given away -/
def stl : Rv → Rv
  | .new ds => .val (.list ds)
  | r => r
theorem stl_ok {K : PySem.W.Frag} {G H H0 G0 : Hp} {sg sg0 : L2.St} {dl dl0 : S} {v : V} {r : Rv} (s : Stp K G0 H0 sg0 dl0 G H sg dl) (q : RvOk K G H sg dl H0 v r) : ∃ G', Stp K G0 H0 sg0 dl0 G' H sg dl ∧ RvOk K G' H sg dl H0 v (stl r) ∧ Ex G G' := by
  cases r with
  | val d => exact ⟨G, s, q, Ex.refl G⟩
  | loc i => exact ⟨G, s, q, Ex.refl G⟩
  | new ds =>
    obtain ⟨p, vs, e, h0, hp, hg, hw, ha⟩ := q
    subst e
    have re := s.rel
    have ne : Ex G (upd G p (.lst vs)) := Ex.new hg
    have ex' : Ex (upd G p (.lst vs)) H := fun a o z => by
      by_cases za : a = p
      · subst za; rw [upd_same] at z; cases z; exact hp
      · rw [upd_ne za] at z; exact re.ex a o z
    obtain ⟨r', w'⟩ := re.keep ne ex' (fun _ _ => rfl) fun a ha => by
      rw [upd_ne fun zz => hw (by rw [← zz]; exact ha)]
      exact (re.ow ha).1
    refine ⟨upd G p (.lst vs), ⟨r', s.g.trans ne, s.k, fun a h1 h2 h3 => ?_, s.w, s.d, s.io⟩, .lst (.inl (.inl upd_same)) (ha.ex ne), ne⟩
    have h4 := s.n a h1 h2 h3
    rw [upd_ne fun zz => h2 (by rw [zz]; exact h0)]
    exact h4
def dNil : S → Out (List Rv) := fun dl => .ok [] dl
def dCons (f : S → Out Rv) (g : S → Out (List Rv)) : S → Out (List Rv) := fun dl => (f dl).bind fun r d1 => (g d1).bind fun rs d2 => .ok (stl r :: rs) d2
theorem RvsOk.mono {K : PySem.W.Frag} {G H G' H' H0 : Hp} {sg : L2.St} {dl dl' : S} {vs : List V} {rs : List Rv} (h : RvsOk K G H sg dl H0 vs rs) (s : Stp K G H sg dl G' H' sg dl') (k : Kp dl dl') : RvsOk K G' H' sg dl' H0 vs rs :=
  Paired.mapP h fun _ _ q => ⟨q.1.mono s k, q.2⟩
theorem RvsOk.from {K : PySem.W.Frag} {G H H0 H1 : Hp} {sg : L2.St} {dl : S} {vs : List V} {rs : List Rv} (h : RvsOk K G H sg dl H1 vs rs) (d : ∀ a, H0 a ≠ none → H1 a ≠ none) : RvsOk K G H sg dl H0 vs rs :=
  Paired.mapP h fun _ _ q => ⟨q.1.from d, q.2⟩
theorem sa_nil : SA X W [] dNil := ⟨tNil, pa_nil, fun G H sg dl Q re h => h G H (Stp.refl re) (Kp.refl dl) [] .nil⟩
theorem sa_cons {e : Expr} {es : List Expr} {f : S → Out Rv} {g : S → Out (List Rv)} (ha : SE X W e f) (hr : SA X W es g) (hs : starEach (e :: es) X.env = (false, eval e X.env) :: starEach es X.env := by rfl) : SA X W (e :: es) (dCons f g) := by
  obtain ⟨ta, pa, sa⟩ := ha
  obtain ⟨tb, pb, sb⟩ := hr
  refine ⟨tCons ta tb, pa_cons pa pb hs, fun G H sg dl Q re h => ?_⟩
  refine sa G H sg dl _ re (Post.imp0 (post_bind0 h) fun r1 d1 G1 H1 s1 k1 h1 v1 q1 => ?_)
  obtain ⟨G1', s1', q1', _⟩ := stl_ok s1 q1
  refine sb G1' H1 sg d1 _ s1'.rel (Post.imp0 (post_bind0 (h1 G1' H1 s1' k1)) fun rs d2 G2 H2 s2 k2 h2 vs q2 => ?_)
  exact h2 G2 H2 s2 k2 G2 H2 (Stp.refl s2.rel) (Kp.refl d2) (v1 :: vs) (.cons ⟨q1'.mono s2 k2, by cases r1 <;> rfl⟩ (q2.from s1.d))
def rds (dl : S) : List Rv → Option (List PyData)
  | [] => some []
  | r :: rs => (rd dl r).bind fun d => (rds dl rs).bind fun ds => some (d :: ds)
abbrev TrAll (K : PySem.W.Frag) (G H : Hp) : List V → List PyData → Prop := Paired (fun v d => Tr K G H v d)
theorem RvsOk.tr {K : PySem.W.Frag} {G H H0 : Hp} {sg : L2.St} {dl : S} (re : Rel K G H sg dl) : ∀ {vs : List V} {rs : List Rv} {ds : List PyData}, RvsOk K G H sg dl H0 vs rs → rds dl rs = some ds → TrAll K G H vs ds
  | _, [], ds, h, e => by cases h; cases e; exact .nil
  | _, r :: rs, ds, h, e => by
    cases h with
    | cons h1 h2 =>
      unfold rds at e
      cases e1 : rd dl r with
      | none => rw [e1] at e; cases e
      | some d =>
        cases e2 : rds dl rs with
        | none => rw [e1, e2] at e; cases e
        | some ds' =>
          rw [e1, e2] at e
          cases e
          exact .cons (h1.1.tr re e1) (RvsOk.tr re h2 e2)
def dB (op : List PyData → Option Rv) (f : S → Out (List Rv)) : S → Out Rv := fun dl => (f dl).bind fun rs d1 => fin ((rds d1 rs).bind op) d1
def CaS (K : PySem.W.Frag) (r : List V → Hp → VK → Prop) (op : List PyData → Option Rv) : Prop := ∀ (G H : Hp) (vs : List V) (ds : List PyData) (rv : Rv), Ex G H → TrAll K G H vs ds → op ds = some rv → ∀ Q : VK, wO K G H rv Q → r vs H Q
theorem se_n {r : List V → Hp → VK → Prop} {op : List PyData → Option Rv} {e : Expr} {es : List Expr} {f : S → Out (List Rv)} (he : ∀ t, PA X es t → PE X e (tCB r t)) (ho : CaS X.K r op) (ha : SA X W es f) : SE X W e (dB op f) := by
  obtain ⟨ta, pa, sa⟩ := ha
  refine ⟨tCB r ta, he ta pa, fun G H sg dl Q re h => ?_⟩
  refine sa G H sg dl _ re ((post_bind h).imp fun rs d1 G1 H1 s1 k1 h1 vs q1 => ?_)
  cases e1 : rds d1 rs with
  | none => rw [e1] at h1; exact h1.elim
  | some ds =>
    rw [e1] at h1
    have h1' : Post X W G1 H1 sg d1 (wE X sg H Q) (fin (op ds) d1) := h1
    cases e3 : op ds with
    | none => rw [e3] at h1'; exact h1'.elim
    | some rv =>
      rw [e3] at h1'
      exact ho G1 H1 vs ds rv s1.rel.ex (RvsOk.tr s1.rel q1 e1) e3 Q (wO.fin rfl s1.rel s1.d h1')
theorem se_callB {id : String} {r : List V → Hp → VK → Prop} {op : List PyData → Option Rv} {x : Str} {p pos : Pos} {e : Expr} {es : List Expr} {f : S → Out (List Rv)} (hc : CallR X (.builtin id) r) (ho : CaS X.K r op) (hg : Gl X x) (hm : X.mg x = none) (hv : bootBuiltins x = some (.builtin id)) (ha : SA X W (e :: es) f)
    (hn : x ≠ "__name__" := by decide) (hdb : (x == ("__debug__" : Str)) = false := by decide)
    (he : starEach (e :: es) X.env = (false, eval e X.env) :: starEach es X.env := by rfl) (hpl : (backTo pos (starEach es X.env)).any (·.1) = false := by rfl) : SE X W (.Call (.Name x p) (e :: es) [] pos) (dB op f) :=
  se_n (fun _ pa => pe_callB hc hg hm hv pa hn hdb he hpl) ho ha
theorem se_callTy {T : String} {r : List V → Hp → VK → Prop} {op : List PyData → Option Rv} {x : Str} {p pos : Pos} {e : Expr} {es : List Expr} {f : S → Out (List Rv)} (hc : CallR X (.type T) r) (ho : CaS X.K r op) (hg : Gl X x) (hm : X.mg x = none) (hv : bootBuiltins x = some (.type T)) (ha : SA X W (e :: es) f)
    (hn : x ≠ "__name__" := by decide) (hdb : (x == ("__debug__" : Str)) = false := by decide)
    (he : starEach (e :: es) X.env = (false, eval e X.env) :: starEach es X.env := by rfl) (hpl : (backTo pos (starEach es X.env)).any (·.1) = false := by rfl) : SE X W (.Call (.Name x p) (e :: es) [] pos) (dB op f) :=
  se_n (fun _ pa => pe_callTy hc hg hm hv pa hn hdb he hpl) ho ha

/-! ### stable things -/
/-- slot i gives up its list: nobody changes it from then on -/
def stb (dl : S) : Rv → Option (PyData × S)
  | .val d => some (d, dl)
  | .new ds => some (.list ds, dl)
  | .loc i => match dl[i]? with
    | some (.val d) => some (d, dl)
    | some (.own false ds) => some (.list ds, dl.set i (.val (.list ds)))
    | _ => none
/-- slot i's objects are given up -/
theorem frz_any {K : PySem.W.Frag} {G G' H : Hp} {sg : L2.St} {dl : S} {i : Nat} {s : Sl} {v : V} {d : PyData} (re : Rel K G H sg dl) (e : dl[i]? = some s) (h2 : sg[i]? = some (some v)) (eg : Ex G G') (ex : Ex G' H) (hG : ∀ a, ¬ Fs H s v a → G' a = G a) (hd : Da K G' v d) :
    Stp K G H sg dl G' H sg (dl.set i (.val d)) := by
  have hi : i < dl.length := (List.getElem?_eq_some_iff.mp e).1
  have hs : ∀ j, j ≠ i → (dl.set i (.val d))[j]? = dl[j]? := fun j hj => List.getElem?_set_ne (Ne.symm hj)
  have hi' : (dl.set i (.val d))[i]? = some (.val d) := List.getElem?_set_self hi
  have key : ∀ {j : Nat} {s' : Sl}, (dl.set i (.val d))[j]? = some s' → mine s' = true → j ≠ i ∧ dl[j]? = some s' := fun {j s'} z hm => by
    by_cases hj : j = i
    · subst hj; rw [hi'] at z; cases z; cases hm
    · rw [hs j hj] at z; exact ⟨hj, z⟩
  have ow : ∀ q, Ow H sg (dl.set i (.val d)) q → Ow H sg dl q ∧ ¬ Fs H s v q := fun q ⟨j, s', v', z1, z2, z3⟩ => by
    obtain ⟨hj, z1'⟩ := key z1 (fs_mine z3)
    exact ⟨⟨j, s', v', z1', z2, z3⟩, fun zz => hj (re.dj j i s' s v' v q z1' e z2 h2 z3 zz)⟩
  refine ⟨⟨by rw [List.length_set]; exact re.len, ex, fun j d' z => ?_, fun j s' z hm => ?_, fun j j' s1 s2 v1 v2 a z1 z2 z3 z4 z5 z6 => re.dj j j' s1 s2 v1 v2 a (key z1 (fs_mine z5)).2 (key z2 (fs_mine z6)).2 z3 z4 z5 z6⟩, eg, fun _ _ _ h => h, fun a h1 _ h3 => (hG a fun z => h1 ⟨i, s, v, e, h2, z⟩).trans h3, fun q z => .inl (ow q z).1, fun _ h => h, fun j ds' z => ⟨⟨ds', (key z rfl).2⟩, rfl⟩⟩
  · by_cases hj : j = i
    · subst hj; rw [hi'] at z; cases z; exact ⟨v, h2, hd⟩
    · rw [hs j hj] at z
      obtain ⟨u, z1, z2⟩ := re.val j d' z
      exact ⟨u, z1, z2.ex eg⟩
  · obtain ⟨hj, z'⟩ := key z hm
    obtain ⟨u, z1, z2, z3⟩ := re.mn j s' z' hm
    exact ⟨u, z1, sl_mono z2 eg (fun _ _ => rfl), fun a ha => (hG a (ow a ⟨j, s', u, z, z1, ha⟩).2).trans (z3 a ha)⟩
theorem frz_ok2 {K : PySem.W.Frag} {G H : Hp} {sg : L2.St} {dl : S} {i : Nat} {ds : List PyData} (re : Rel K G H sg dl) (e : dl[i]? = some (.own false ds)) :
    ∃ G' v, Stp K G H sg dl G' H sg (dl.set i (.val (.list ds))) ∧ Kp dl (dl.set i (.val (.list ds))) ∧ sg[i]? = some (some v) ∧ Da K G' v (.list ds) ∧ ∃ p vs, v = .ref p ∧ G p = none ∧ G' p = some (.lst vs) ∧ DaAll K G vs ds := by
  obtain ⟨p, vs, q1, q2, q3, q4⟩ := re.own i false ds e
  have hi : i < dl.length := (List.getElem?_eq_some_iff.mp e).1
  have ne : Ex G (upd G p (.lst vs)) := Ex.new q2
  have hs : ∀ j, j ≠ i → (dl.set i (.val (.list ds)))[j]? = dl[j]? := fun j hj => List.getElem?_set_ne (Ne.symm hj)
  have hi' : (dl.set i (.val (.list ds)))[i]? = some (.val (.list ds)) := List.getElem?_set_self hi
  have dd : Da K (upd G p (.lst vs)) (.ref p) (.list ds) := .lst (.inl (.inl upd_same)) (q4.ex ne)
  refine ⟨upd G p (.lst vs), .ref p, frz_any re e q1 ne (fun a o z => ?_) (fun a ha => upd_ne fun z => ha (by rw [z]; rfl)) dd, ⟨List.length_set, fun j => ?_⟩, q1, dd, p, vs, rfl, q2, upd_same, q4⟩
  · by_cases za : a = p
    · subst za; rw [upd_same] at z; cases z; exact q3
    · rw [upd_ne za] at z; exact re.ex a o z
  · by_cases hj : j = i
    · subst hj
      rw [e, hi']
      exact .inr ⟨rfl, ds, rfl⟩
    · rw [hs j hj]
      exact (Kp.refl dl).2 j
theorem frz_ok {K : PySem.W.Frag} {G H : Hp} {sg : L2.St} {dl : S} {i : Nat} {ds : List PyData} (re : Rel K G H sg dl) (e : dl[i]? = some (.own false ds)) :
    ∃ G' v, Stp K G H sg dl G' H sg (dl.set i (.val (.list ds))) ∧ Kp dl (dl.set i (.val (.list ds))) ∧ sg[i]? = some (some v) ∧ Da K G' v (.list ds) := by
  obtain ⟨G', v, a, b, c, d, _⟩ := frz_ok2 re e
  exact ⟨G', v, a, b, c, d⟩
theorem stb_ok {K : PySem.W.Frag} {G H H0 G0 : Hp} {sg sg0 : L2.St} {dl dl0 dl' : S} {v : V} {r : Rv} {d : PyData} (s : Stp K G0 H0 sg0 dl0 G H sg dl) (q : RvOk K G H sg dl H0 v r) (e : stb dl r = some (d, dl')) :
    ∃ G', Stp K G0 H0 sg0 dl0 G' H sg dl' ∧ Kp dl dl' ∧ Da K G' v d ∧ Ex G G' := by
  cases r with
  | val x => cases e; exact ⟨G, s, Kp.refl dl, q, Ex.refl G⟩
  | new ds =>
    cases e
    obtain ⟨G', s', q', ne⟩ := stl_ok s q
    exact ⟨G', s', Kp.refl dl, q', ne⟩
  | loc i =>
    have e' : (match dl[i]? with
      | some (.val d) => some (d, dl)
      | some (.own false ds) => some (PyData.list ds, dl.set i (.val (.list ds)))
      | _ => none) = some (d, dl') := e
    cases hs : dl[i]? with
    | none => rw [hs] at e'; cases e'
    | some sl =>
      rw [hs] at e'
      cases sl with
      | no => cases e'
      | val x =>
        cases e'
        obtain ⟨v', z1, z2⟩ := s.rel.val i d hs
        have q1 := q.1
        rw [q1] at z1
        cases z1
        exact ⟨G, s, Kp.refl dl, z2, Ex.refl G⟩
      | own b ds =>
        cases b with
        | true => cases e'
        | false =>
          cases e'
          obtain ⟨G', v', s', k', z1, z2⟩ := frz_ok s.rel hs
          have q1 := q.1
          rw [q1] at z1
          cases z1
          exact ⟨G', s.trans s', k', z2, s'.g⟩
      | big m => cases e'
theorem stbL_ok {K : PySem.W.Frag} {G H H0 : Hp} {sg : L2.St} {dl dl' : S} {v : V} {r : Rv} {d : PyData} (re : Rel K G H sg dl) (q : RvOk K G H sg dl H0 v r) (hn : isNew r = false) (e : stb dl r = some (d, dl')) :
    ∃ G', Stp K G H sg dl G' H sg dl' ∧ Kp dl dl' ∧ Da K G' v d := by
  obtain ⟨G', s, k, z, _⟩ := stb_ok (H0 := H) (Stp.refl re) (v := v) (r := r) (d := d) (dl' := dl') (by
    cases r with
    | val d => exact q
    | loc i => exact q
    | new ds => exact nomatch hn) e
  exact ⟨G', s, k, z⟩
def stbs : S → List Rv → Option (List PyData × S)
  | dl, [] => some ([], dl)
  | dl, r :: rs => (stb dl r).bind fun x => (stbs x.2 rs).bind fun y => some (x.1 :: y.1, y.2)
theorem stbs_ok {K : PySem.W.Frag} {H H0 : Hp} {sg : L2.St} : ∀ {rs : List Rv} {G : Hp} {dl dl' : S} {vs : List V} {ds : List PyData}, Rel K G H sg dl → RvsOk K G H sg dl H0 vs rs → stbs dl rs = some (ds, dl') →
    ∃ G', Stp K G H sg dl G' H sg dl' ∧ Kp dl dl' ∧ DaAll K G' vs ds
  | [], G, dl, dl', vs, ds, re, q, e => by
    cases q
    cases e
    exact ⟨G, Stp.refl re, Kp.refl dl, .nil⟩
  | r :: rs, G, dl, dl', vs, ds, re, q, e => by
    cases q with
    | cons q1 q2 =>
      unfold stbs at e
      cases e1 : stb dl r with
      | none => rw [e1] at e; cases e
      | some x =>
        obtain ⟨d, d1⟩ := x
        rw [e1] at e
        have e' : (stbs d1 rs).bind (fun y => some (d :: y.1, y.2)) = some (ds, dl') := e
        cases e2 : stbs d1 rs with
        | none => rw [e2] at e'; cases e'
        | some y =>
          obtain ⟨ds1, d2⟩ := y
          rw [e2] at e'
          cases e'
          obtain ⟨G1, s1, k1, z1⟩ := stbL_ok re q1.1 q1.2 e1
          obtain ⟨G2, s2, k2, z2⟩ := stbs_ok s1.rel (RvsOk.mono q2 s1 k1) e2
          exact ⟨G2, s1.trans s2, k1.trans k2, .cons (z1.ex s2.g) z2⟩
/-! ### displays -/
theorem sz_of {n : Nat} (h : n ≤ 100000) : n ≤ sizeLine := Nat.le_trans h (by decide)
theorem sz_lt {n : Nat} (h : n < 100000) : n < sizeLine := Nat.lt_of_lt_of_le h (by decide)
def mkTup (o : Option (List PyData × S)) : Out Rv := match o with
  | some (ds, d2) => if ds.length ≤ 100000 then .ok (.val (.tuple ds)) d2 else .bad
  | none => .bad
def mkLst (o : Option (List PyData × S)) : Out Rv := match o with
  | some (ds, d2) => if ds.length ≤ 100000 then .ok (.new ds) d2 else .bad
  | none => .bad
def dTup (f : S → Out (List Rv)) : S → Out Rv := fun dl => (f dl).bind fun rs d1 => mkTup (stbs d1 rs)
def dLst (f : S → Out (List Rv)) : S → Out Rv := fun dl => (f dl).bind fun rs d1 => mkLst (stbs d1 rs)
theorem se_tup {es : List Expr} {k : Nat} {pos : Pos} {f : S → Out (List Rv)} (ha : SA X W es f) : SE X W (.Tuple es k pos) (dTup f) := by
  obtain ⟨ta, pa, sa⟩ := ha
  refine ⟨tTup ta, pe_tup pa, fun G H sg dl Q re h => ?_⟩
  refine sa G H sg dl _ re ((post_bind h).imp fun rs d1 G1 H1 s1 k1 h1 vs q1 => ?_)
  cases e : stbs d1 rs with
  | none => rw [e] at h1; exact h1.elim
  | some y =>
    obtain ⟨ds, d2⟩ := y
    rw [e] at h1
    have h2 : Post X W G1 H1 sg d1 (wE X sg H Q) (if ds.length ≤ 100000 then .ok (.val (.tuple ds)) d2 else .bad) := h1
    obtain ⟨G2, s2, k2, z2⟩ := stbs_ok s1.rel q1 e
    by_cases hl : ds.length ≤ 100000
    · rw [if_pos hl] at h2
      refine ⟨by rw [z2.len]; exact sz_of hl, fun p hp => ?_⟩
      have al := Alc.made s2.rel.ex hp (.tup vs)
      exact h2 _ _ (s2.trans (al.stp s2.rel)) k2 (.ref p) (.tup (.inl (.inl upd_same)) (z2.ex al.g))
    · rw [if_neg hl] at h2; exact h2.elim
theorem se_lst {es : List Expr} {pos : Pos} {f : S → Out (List Rv)} (ha : SA X W es f) : SE X W (.List es pos) (dLst f) := by
  obtain ⟨ta, pa, sa⟩ := ha
  refine ⟨tLst ta, pe_lst pa, fun G H sg dl Q re h => ?_⟩
  refine sa G H sg dl _ re ((post_bind h).imp fun rs d1 G1 H1 s1 k1 h1 vs q1 => ?_)
  cases e : stbs d1 rs with
  | none => rw [e] at h1; exact h1.elim
  | some y =>
    obtain ⟨ds, d2⟩ := y
    rw [e] at h1
    have h2 : Post X W G1 H1 sg d1 (wE X sg H Q) (if ds.length ≤ 100000 then .ok (.new ds) d2 else .bad) := h1
    obtain ⟨G2, s2, k2, z2⟩ := stbs_ok s1.rel q1 e
    by_cases hl : ds.length ≤ 100000
    · rw [if_pos hl] at h2
      refine ⟨by rw [z2.len]; exact sz_of hl, fun p hp => ?_⟩
      have al := Alc.li s2.rel.ex hp (.lst vs)
      have s3 := al.stp s2.rel
      refine h2 _ _ (s2.trans s3) k2 (.ref p) ⟨p, vs, rfl, ?_, upd_same, s2.rel.ex.nn hp, fun z => (s2.rel.ow (s2.rel.back al.h z)).2 hp, z2⟩
      cases hq : H p with
      | none => rfl
      | some o => exact absurd hp (s1.d p (some_ne hq))
    · rw [if_neg hl] at h2; exact h2.elim

/-! ### tests -/
def asB : Option PyData → S → Out Bool := fun o dl => match o with
  | some (.bool b) => .ok b dl
  | _ => .bad
def dT (f : S → Out Rv) : S → Out Bool := fun dl => (f dl).bind fun r d1 => asB (rd d1 r) d1
theorem so_T {t : TE} {f : S → Out Rv} (sa : SoE X W t f) : SoT X W (tB t) (dT f) := by
  intro G H sg dl Q re h
  refine sa G H sg dl _ re ((post_bind h).imp fun r1 d1 G1 H1 s1 k1 h1 v1 q1 => ?_)
  cases e1 : rd d1 r1 with
  | none => rw [e1] at h1; exact h1.elim
  | some x =>
    rw [e1] at h1
    cases x with
    | bool b =>
      have z := (q1.tr s1.rel e1).bl
      exact ⟨b, z, h1 G1 H1 (Stp.refl s1.rel) (Kp.refl d1)⟩
    | none => exact h1.elim
    | int i => exact h1.elim
    | str i => exact h1.elim
    | list i => exact h1.elim
    | tuple i => exact h1.elim
    | dict i => exact h1.elim
theorem st_val {e : Expr} {f : S → Out Rv} (h : SE X W e f) (he : ∀ whole, isTrue e X.env whole = (do let v ← whole; standAt e.pos; holding [v] (truthy v)) := by intro _; rfl) : ST X W e (dT f) :=
  let ⟨t, p, s⟩ := h
  ⟨tB t, pt_val p he, so_T s⟩
theorem st_cmp {r2 : R2} {op : PyData → PyData → Option Rv} {o : CmpOp} {a b : Expr} {pos : Pos} {f g : S → Out Rv} (hr : OpR X (compareOp o) r2) (ho : OpS X.K r2 op) (ha : SE X W a f) (hb : SE X W b g) (hm : behindInMarks o b = false := by first | exact nomark _ | rfl) : ST X W (.Compare a [o] [b] pos) (dT (d2 op f g)) :=
  let ⟨_, pa, sa⟩ := ha
  let ⟨_, pb, sb⟩ := hb
  ⟨_, pt_cmpR hr pa pb hm, so_T (so_2 ho sa sb)⟩
/-- a chain of two comparisons -/
def dCh (op1 op2 : PyData → PyData → Option Rv) (f g h : S → Out Rv) : S → Out Rv := fun dl => (f dl).bind fun r1 d1 => (g d1).bind fun r2 d2 => (asB ((o2 op1 (rd d2 r1) (rd d2 r2)).bind (rd d2)) d2).bind fun c d3 =>
  if c then (h d3).bind fun r3 d4 => fin (o2 op2 (rd d4 r2) (rd d4 r3)) d4 else .ok (.val (.bool false)) d3
theorem so_ch {ra rb : R2} {op1 op2 : PyData → PyData → Option Rv} {ta tb tc : TE} {f g h : S → Out Rv} (ho : OpS X.K ra op1) (ho2 : OpS X.K rb op2) (sa : SoE X W ta f) (sb : SoE X W tb g) (sc : SoE X W tc h) : SoE X W (tChain ra rb ta tb tc) (dCh op1 op2 f g h) := by
  intro G H sg dl Q re hh
  refine sa G H sg dl _ re ((post_bind hh).imp fun r1 d1 G1 H1 s1 k1 h1 v1 q1 => ?_)
  refine sb G1 H1 sg d1 _ s1.rel ((post_bind h1).imp fun r2 d2 G2 H2 s2 k2 h2 v2 q2 => ?_)
  have q1' := q1.mono s2 k2
  cases e1 : rd d2 r1 with
  | none => rw [e1] at h2; exact h2.elim
  | some x =>
    cases e2 : rd d2 r2 with
    | none => rw [e1, e2] at h2; exact h2.elim
    | some y =>
      rw [e1, e2] at h2
      cases e3 : op1 x y with
      | none =>
        have h2' : Post X W G2 H2 sg d2 (wE X sg H Q) ((asB ((op1 x y).bind (rd d2)) d2).bind fun c d3 => if c then (h d3).bind fun r3 d4 => fin (o2 op2 (rd d4 r2) (rd d4 r3)) d4 else .ok (.val (.bool false)) d3) := h2
        rw [e3] at h2'; exact h2'.elim
      | some r =>
        have h2' : Post X W G2 H2 sg d2 (wE X sg H Q) ((asB ((op1 x y).bind (rd d2)) d2).bind fun c d3 => if c then (h d3).bind fun r3 d4 => fin (o2 op2 (rd d4 r2) (rd d4 r3)) d4 else .ok (.val (.bool false)) d3) := h2
        rw [e3] at h2'
        refine ho G2 H2 v1 v2 x y r s2.rel.ex (q1'.tr s2.rel e1) (q2.tr s2.rel e2) e3 _ fun w G3 H3 al at3 => ?_
        have s3 := al.stp s2.rel
        cases r with
        | loc i => exact at3.elim
        | new ds => exact h2'.elim
        | val d =>
          cases d with
          | bool b =>
            have z := (Tr.st at3 : Tr X.K G3 H3 w (.bool b)).bl
            refine ⟨b, z, ?_⟩
            have h3 : Post X W G2 H2 sg d2 (wE X sg H Q) (if b = true then (h d2).bind fun r3 d4 => fin (o2 op2 (rd d4 r2) (rd d4 r3)) d4 else .ok (.val (.bool false)) d2) := h2'
            cases b with
            | false =>
              show Q (.bl false) H3
              exact h3 G3 H3 s3 (Kp.refl d2) (.bl false) (.bl false)
            | true =>
              have h3' : Post X W G2 H2 sg d2 (wE X sg H Q) ((Out.ok () d2).bind fun _ dd => (h dd).bind fun r3 d4 => fin (o2 op2 (rd d4 r2) (rd d4 r3)) d4) := h3
              have h4 := (post_bind h3') G3 H3 s3 (Kp.refl d2)
              have q2' := q2.mono s3 (Kp.refl d2)
              refine sc G3 H3 sg d2 _ s3.rel ((post_bind h4).imp fun r3 d4 G4 H4 s4 k4 h5 v3 q3 => ?_)
              have q2'' := q2'.mono s4 k4
              cases e4 : rd d4 r2 with
              | none => rw [e4] at h5; exact h5.elim
              | some y' =>
                cases e5 : rd d4 r3 with
                | none => rw [e4, e5] at h5; exact h5.elim
                | some z' =>
                  rw [e4, e5] at h5
                  have h5' : Post X W G4 H4 sg d4 (wE X sg H Q) (fin (op2 y' z') d4) := h5
                  cases e6 : op2 y' z' with
                  | none => rw [e6] at h5'; exact h5'.elim
                  | some r4 =>
                    rw [e6] at h5'
                    exact ho2 G4 H4 v2 v3 y' z' r4 s4.rel.ex (q2''.tr s4.rel e4) (q3.tr s4.rel e5) e6 Q (wO.fin rfl s4.rel (fun a z => s4.d a (s3.d a (s2.d a (s1.d a z)))) h5')
          | none => exact h2'.elim
          | int i => exact h2'.elim
          | str i => exact h2'.elim
          | list i => exact h2'.elim
          | tuple i => exact h2'.elim
          | dict i => exact h2'.elim
theorem se_ch {ra rb : R2} {op1 op2 : PyData → PyData → Option Rv} {o o' : CmpOp} {a b c : Expr} {pos : Pos} {f g h : S → Out Rv} (hr : OpR X (compareOp o) ra) (ho : OpS X.K ra op1) (hr2 : OpR X (compareOp o') rb) (ho2 : OpS X.K rb op2) (ha : SE X W a f) (hb : SE X W b g) (hc : SE X W c h) (hm : lastMarks [o, o'] [b, c] = false := by rfl) :
    SE X W (.Compare a [o, o'] [b, c] pos) (dCh op1 op2 f g h) :=
  let ⟨_, pa, sa⟩ := ha
  let ⟨_, pb, sb⟩ := hb
  let ⟨_, pc, sc⟩ := hc
  ⟨_, pe_chain hr hr2 pa pb pc hm, so_ch ho ho2 sa sb sc⟩
theorem st_ch {ra rb : R2} {op1 op2 : PyData → PyData → Option Rv} {o o' : CmpOp} {a b c : Expr} {pos : Pos} {f g h : S → Out Rv} (hr : OpR X (compareOp o) ra) (ho : OpS X.K ra op1) (hr2 : OpR X (compareOp o') rb) (ho2 : OpS X.K rb op2) (ha : SE X W a f) (hb : SE X W b g) (hc : SE X W c h) (hm : lastMarks [o, o'] [b, c] = false := by rfl) :
    ST X W (.Compare a [o, o'] [b, c] pos) (dT (dCh op1 op2 f g h)) :=
  let ⟨_, pa, sa⟩ := ha
  let ⟨_, pb, sb⟩ := hb
  let ⟨_, pc, sc⟩ := hc
  ⟨_, pt_chain hr hr2 pa pb pc hm, so_T (so_ch ho ho2 sa sb sc)⟩
/-- and, or, not as tests -/
def tnAnd (f g : S → Out Bool) : S → Out Bool := fun dl => (f dl).bind fun c d1 => if c then g d1 else .ok false d1
def tnOr (f g : S → Out Bool) : S → Out Bool := fun dl => (f dl).bind fun c d1 => if c then .ok true d1 else g d1
def tnNot (f : S → Out Bool) : S → Out Bool := fun dl => (f dl).bind fun c d1 => .ok (!c) d1
theorem so_and {t u : TT} {f g : S → Out Bool} (sa : SoT X W t f) (sb : SoT X W u g) : SoT X W (tAnd t u) (tnAnd f g) := by
  intro G H sg dl Q re h
  refine sa G H sg dl _ re ((post_bind h).imp fun c d1 G1 H1 s1 k1 h1 => ?_)
  cases c with
  | true => exact sb G1 H1 sg d1 Q s1.rel h1
  | false => exact h1 G1 H1 (Stp.refl s1.rel) (Kp.refl d1)
theorem so_or {t u : TT} {f g : S → Out Bool} (sa : SoT X W t f) (sb : SoT X W u g) : SoT X W (tOr t u) (tnOr f g) := by
  intro G H sg dl Q re h
  refine sa G H sg dl _ re ((post_bind h).imp fun c d1 G1 H1 s1 k1 h1 => ?_)
  cases c with
  | false => exact sb G1 H1 sg d1 Q s1.rel h1
  | true => exact h1 G1 H1 (Stp.refl s1.rel) (Kp.refl d1)
theorem so_not {t : TT} {f : S → Out Bool} (sa : SoT X W t f) : SoT X W (tNot t) (tnNot f) := by
  intro G H sg dl Q re h
  exact sa G H sg dl _ re ((post_bind h).imp fun c d1 G1 H1 s1 k1 h1 => h1 G1 H1 (Stp.refl s1.rel) (Kp.refl d1))
section
variable {a b : Expr} {rest : List Expr} {pos : Pos} {f g : S → Out Bool}
theorem sw_and1 (h : ST X W a f) : SW X W (.BoolOp .And [a] pos) f := let ⟨t, p, s⟩ := h; ⟨t, pw_and1 p, s⟩
theorem sw_or1 (h : ST X W a f) : SW X W (.BoolOp .Or [a] pos) f := let ⟨t, p, s⟩ := h; ⟨t, pw_or1 p, s⟩
theorem sw_and (h : ST X W a f) (k : SW X W (.BoolOp .And (b :: rest) pos) g) : SW X W (.BoolOp .And (a :: b :: rest) pos) (tnAnd f g) :=
  let ⟨_, p, s⟩ := h
  let ⟨_, q, u⟩ := k
  ⟨_, pw_and p q, so_and s u⟩
theorem sw_or (h : ST X W a f) (k : SW X W (.BoolOp .Or (b :: rest) pos) g) : SW X W (.BoolOp .Or (a :: b :: rest) pos) (tnOr f g) :=
  let ⟨_, p, s⟩ := h
  let ⟨_, q, u⟩ := k
  ⟨_, pw_or p q, so_or s u⟩
theorem st_w {e : Expr} (h : SW X W e f) : ST X W e f := let ⟨t, p, s⟩ := h; ⟨t, p.pt, s⟩
theorem st_not (h : ST X W a f) : ST X W (.UnaryOp .Not a pos) (tnNot f) := let ⟨_, p, s⟩ := h; ⟨_, pt_not p, so_not s⟩
end
/-- .. as values -/
def dAnd (f g : S → Out Rv) : S → Out Rv := fun dl => (dT f dl).bind fun c d1 => if c then g d1 else .ok (.val (.bool false)) d1
def dOr (f g : S → Out Rv) : S → Out Rv := fun dl => (dT f dl).bind fun c d1 => if c then .ok (.val (.bool true)) d1 else g d1
def dNot (f : S → Out Rv) : S → Out Rv := fun dl => (dT f dl).bind fun c d1 => .ok (.val (.bool (!c))) d1
theorem so_andV {t u : TE} {f g : S → Out Rv} (sa : SoE X W t f) (sb : SoE X W u g) : SoE X W (tAndV t u) (dAnd f g) := by
  intro G H sg dl Q re h
  refine so_T sa G H sg dl (fun c H1 => if c = true then u sg H1 Q else Q (.bl false) H1) re ((post_bind h).imp fun c d1 G1 H1 s1 k1 h1 => ?_)
  cases c with
  | true => exact sb G1 H1 sg d1 Q s1.rel (h1.imp fun r d2 G2 H2 s2 k2 z v q => z v (q.from s1.d))
  | false => exact h1 G1 H1 (Stp.refl s1.rel) (Kp.refl d1) (.bl false) (.bl false)
theorem so_orV {t u : TE} {f g : S → Out Rv} (sa : SoE X W t f) (sb : SoE X W u g) : SoE X W (tOrV t u) (dOr f g) := by
  intro G H sg dl Q re h
  refine so_T sa G H sg dl (fun c H1 => if c = true then Q (.bl true) H1 else u sg H1 Q) re ((post_bind h).imp fun c d1 G1 H1 s1 k1 h1 => ?_)
  cases c with
  | false => exact sb G1 H1 sg d1 Q s1.rel (h1.imp fun r d2 G2 H2 s2 k2 z v q => z v (q.from s1.d))
  | true => exact h1 G1 H1 (Stp.refl s1.rel) (Kp.refl d1) (.bl true) (.bl true)
theorem so_notV {t : TE} {f : S → Out Rv} (sa : SoE X W t f) : SoE X W (tNotV t) (dNot f) := by
  intro G H sg dl Q re h
  refine so_T sa G H sg dl (fun c H1 => Q (.bl (!c)) H1) re ((post_bind h).imp fun c d1 G1 H1 s1 k1 h1 => ?_)
  exact h1 G1 H1 (Stp.refl s1.rel) (Kp.refl d1) (.bl (!c)) (.bl (!c))
section
variable {a b : Expr} {rest : List Expr} {pos : Pos} {f g : S → Out Rv}
theorem se_one {op : BoolOp} (h : SE X W a f) : SE X W (.BoolOp op [a] pos) f := let ⟨t, p, s⟩ := h; ⟨t, pe_one p, s⟩
theorem se_and (h : SE X W a f) (k : SE X W (.BoolOp .And (b :: rest) pos) g) : SE X W (.BoolOp .And (a :: b :: rest) pos) (dAnd f g) :=
  let ⟨_, p, s⟩ := h
  let ⟨_, q, u⟩ := k
  ⟨_, pe_and p q, so_andV s u⟩
theorem se_or (h : SE X W a f) (k : SE X W (.BoolOp .Or (b :: rest) pos) g) : SE X W (.BoolOp .Or (a :: b :: rest) pos) (dOr f g) :=
  let ⟨_, p, s⟩ := h
  let ⟨_, q, u⟩ := k
  ⟨_, pe_or p q, so_orV s u⟩
theorem se_not (h : SE X W a f) : SE X W (.UnaryOp .Not a pos) (dNot f) := let ⟨_, p, s⟩ := h; ⟨_, pe_not p, so_notV s⟩
end
/-- a if c else b -/
def dIte (c : S → Out Bool) (f g : S → Out Rv) : S → Out Rv := fun dl => (c dl).bind fun b d1 => if b then f d1 else g d1
theorem se_ite {c a b : Expr} {pos : Pos} {h : S → Out Bool} {f g : S → Out Rv} (hc : ST X W c h) (ha : SE X W a f) (hb : SE X W b g) : SE X W (.IfExp c a b pos) (dIte h f g) := by
  obtain ⟨tc, pc, sc⟩ := hc
  obtain ⟨ta, pa, sa⟩ := ha
  obtain ⟨tb, pb, sb⟩ := hb
  refine ⟨_, pe_ifExp pc pa pb, fun G H sg dl Q re h => ?_⟩
  refine sc G H sg dl _ re ((post_bind h).imp fun c d1 G1 H1 s1 k1 h1 => ?_)
  cases c with
  | true => exact sa G1 H1 sg d1 Q s1.rel (h1.imp fun r d2 G2 H2 s2 k2 z v q => z v (q.from s1.d))
  | false => exact sb G1 H1 sg d1 Q s1.rel (h1.imp fun r d2 G2 H2 s2 k2 z v q => z v (q.from s1.d))
end
end DL

namespace DL
open PySem L2
section
variable {X : Cx} {K : PySem.W.Frag}
/-- a plain value, nothing made -/
theorem wO.val {G H : Hp} {d : PyData} {Q : VK} {w : V} (h : wO K G H (.val d) Q) (e : Ex G H) (hd : Da K G w d) : Q w H := h w G H (Alc.refl e) hd
theorem wO.tup {G H : Hp} {ds : List PyData} {Q : VK} {vs : List V} (h : wO K G H (.val (.tuple ds)) Q) (e : Ex G H) (hd : DaAll K G vs ds) : ∀ p, H p = none → Q (.ref p) (upd H p (.tup vs)) := fun p hp =>
  have al := Alc.made e hp (.tup vs)
  h (.ref p) _ _ al (.tup (.inl (.inl upd_same)) (hd.ex al.g))
theorem wO.lst {G H : Hp} {ds : List PyData} {Q : VK} {vs : List V} (h : wO K G H (.new ds) Q) (e : Ex G H) (hd : DaAll K G vs ds) : ∀ p, H p = none → Q (.ref p) (upd H p (.lst vs)) := fun p hp =>
  h (.ref p) _ _ (Alc.li e hp (.lst vs)) ⟨p, vs, rfl, hp, upd_same, e.nn hp, hd⟩
/-! ### ints -/
def vI (i : Int) : Option Rv := some (.val (.int i))
def vB (b : Bool) : Option Rv := some (.val (.bool b))
/-- two ints, under c -/
def oII (c : Int → Int → Bool) (g : Int → Int → Int) : PyData → PyData → Option Rv
  | .int i, .int j => if c i j then vI (g i j) else none
  | _, _ => none
def oIB (g : Int → Int → Bool) : PyData → PyData → Option Rv
  | .int i, .int j => vB (g i j)
  | _, _ => none
theorem os_II {C : Int → Int → Prop} {c : Int → Int → Bool} {g : Int → Int → Int} (hc : ∀ i j, c i j = true → C i j) : OpS K (rI C fun i j => .int (g i j)) (oII c g) := by
  intro G H v u a b r e ta tb h Q q
  cases a <;> try (cases h)
  cases b <;> try (cases h)
  rename_i i j
  have h' : (if c i j then vI (g i j) else none) = some r := h
  cases hcc : c i j with
  | false => rw [hcc] at h'; cases h'
  | true =>
    rw [hcc] at h'
    cases h'
    exact ⟨i, j, ta.int, tb.int, hc i j hcc, q.val e (.int _)⟩
theorem os_I0 {g : Int → Int → Int} : OpS K (rI0 fun i j => .int (g i j)) (oII (fun _ _ => true) g) := by
  intro G H v u a b r e ta tb h Q q
  cases a <;> try (cases h)
  cases b <;> try (cases h)
  rename_i i j
  exact ⟨i, j, ta.int, tb.int, q.val e (.int _)⟩
theorem os_IB {g : Int → Int → Bool} : OpS K (rI0 fun i j => .bl (g i j)) (oIB g) := by
  intro G H v u a b r e ta tb h Q q
  cases a <;> try (cases h)
  cases b <;> try (cases h)
  rename_i i j
  exact ⟨i, j, ta.int, tb.int, q.val e (.bl _)⟩
def oSub := oII (fun _ _ => true) fun i j => i - j
def oAnd := oII (fun _ _ => true) fun i j => Builtin.bitAnd i j
def oOr := oII (fun _ _ => true) fun i j => Builtin.bitOr i j
def oXor := oII (fun _ _ => true) fun i j => Builtin.bitXor i j
def oMod := oII (fun _ j => decide (0 < j)) fun i j => i % j
def oDiv := oII (fun _ j => decide (0 < j) && decide (j < 1073741824)) fun i j => i / j
def oShr := oII (fun _ j => decide (0 ≤ j)) fun i j => i / 2 ^ j.toNat
def cPow (i j : Int) : Bool := decide (0 ≤ j) && (decide (j ≤ 1000000) && decide (i.natAbs < 18446744073709551616))
def oPow := oII cPow fun i j => i ^ j.toNat
def oShl := oII cPow fun i j => i * 2 ^ j.toNat
def oLt := oIB fun i j => decide (i < j)
def oLe := oIB fun i j => decide (i ≤ j)
def oGt := oIB fun i j => decide (j < i)
def oGe := oIB fun i j => decide (j ≤ i)
theorem cPow_ok (i j : Int) (h : cPow i j = true) : CPow i j := by
  unfold cPow at h
  simp only [Bool.and_eq_true, decide_eq_true_eq] at h
  exact ⟨h.1, h.2.1, h.2.2⟩
theorem os_sub : OpS K (rI0 fun i j => .int (i - j)) oSub := os_I0
theorem os_and : OpS K (rI0 fun i j => .int (Builtin.bitAnd i j)) oAnd := os_I0
theorem os_or : OpS K (rI0 fun i j => .int (Builtin.bitOr i j)) oOr := os_I0
theorem os_xor : OpS K (rI0 fun i j => .int (Builtin.bitXor i j)) oXor := os_I0
theorem os_mod : OpS K (rI (fun _ j => 0 < j) fun i j => .int (i % j)) oMod := os_II fun _ _ h => by simpa using h
theorem os_div : OpS K (rI CDiv fun i j => .int (i / j)) oDiv := os_II fun _ _ h => by simpa [CDiv] using h
theorem os_shr : OpS K (rI (fun _ j => 0 ≤ j) fun i j => .int (i / 2 ^ j.toNat)) oShr := os_II fun _ _ h => by simpa using h
theorem os_pow : OpS K (rI CPow fun i j => .int (i ^ j.toNat)) oPow := os_II cPow_ok
theorem os_shl : OpS K (rI CPow fun i j => .int (i * 2 ^ j.toNat)) oShl := os_II cPow_ok
theorem os_lt : OpS K (rI0 fun i j => .bl (decide (i < j))) oLt := os_IB
theorem os_le : OpS K (rI0 fun i j => .bl (decide (i ≤ j))) oLe := os_IB
theorem os_gt : OpS K (rI0 fun i j => .bl (decide (j < i))) oGt := os_IB
theorem os_ge : OpS K (rI0 fun i j => .bl (decide (j ≤ i))) oGe := os_IB
def oNeg : PyData → Option Rv
  | .int i => vI (-i)
  | _ => none
theorem us_neg : UnS K (rU fun i => .int (-i)) oNeg := by
  intro G H v a r e ta h Q q
  cases a <;> try (cases h)
  rename_i i
  exact ⟨i, ta.int, q.val e (.int _)⟩
/-! ### + -/
/-- list + list, read as they stand -/
def rCatL (K : PySem.W.Frag) : R2 := fun x y H Q => ∃ l b xs zs, x = .ref l ∧ y = .ref b ∧ SqL K H l xs ∧ SqL K H b zs ∧ xs.length + zs.length ≤ sizeLine ∧ ∀ p, H p = none → Q (.ref p) (upd H p (.lst (xs ++ zs)))
theorem op_catL : OpR X (binaryOp .Add) (rCatL X.K) := by
  intro pins s σ H x y v u Q I rx ry h
  obtain ⟨l, b, xs, zs, rfl, rfl, hH, hB, hz, q⟩ := h
  cases rx
  cases ry
  obtain ⟨its, r, ⟨o1, n1, g1, c1, d1, e1⟩, z⟩ := I.list hH
  obtain ⟨its2, r2, ⟨o2, n2, g2, c2, d2, e2⟩, z2⟩ := I.list hB
  have l1 := r.length
  have l2 := r2.length
  obtain ⟨cls, dd, data, sl⟩ := o1
  obtain ⟨cls2, dd2, data2, sl2⟩ := o2
  simp only at c1 e1 c2 e2
  subst c1 e1 c2 e2
  refine concat_meets ⟨_, g1, rfl⟩ ⟨_, g2, rfl⟩ noFill_list_add seq_list_add PySem.F.slot_list_add PySem.F.entry_list_add (PySem.F.args_list_add_2 _ _) (PyProof.Rows.list_addW l b its.toArray its2.toArray n1 n2 dd dd2 sl sl2 (by rw [List.size_toArray, List.size_toArray]; omega)) ⟨g1, g2, ?_⟩
  have ea : its.toArray ++ its2.toArray = (its ++ its2).toArray := by simp
  rw [ea]
  exact ⟨.ref _, _, I.lnew (t' := s.toks) (r.append r2) (by rw [List.length_append]; omega), rfl, q _ I.fresh⟩
def rAddA (K : PySem.W.Frag) : R2 := fun x y H Q => (rI0 (fun i j => .int (i + j)) x y H Q ∨ (∃ i j, x = .str i ∧ y = .str j ∧ i.length + j.length ≤ sizeLine ∧ Q (.str (i ++ j)) H)) ∨ (rCatL K x y H Q ∨ rCatA K x y H Q)
theorem op_addA : OpR X (binaryOp .Add) (rAddA X.K) := OpR.or (OpR.or op_add op_add_str) (OpR.or op_catL op_catA)
def oAdd : PyData → PyData → Option Rv
  | .int i, .int j => vI (i + j)
  | .str i, .str j => if i.length + j.length ≤ 100000 then some (.val (.str (i ++ j))) else none
  | .list a, .list b => if a.length + b.length ≤ 100000 then some (.new (a ++ b)) else none
  | .tuple a, .tuple b => if a.length + b.length ≤ 100000 then some (.val (.tuple (a ++ b))) else none
  | _, _ => none
theorem os_add : OpS K (rAddA K) oAdd := by
  intro G H v u a b r e ta tb h Q q
  cases a with
  | int i =>
    cases b <;> try (cases h)
    rename_i j
    exact .inl (.inl ⟨i, j, ta.int, tb.int, q.val e (.int _)⟩)
  | str i =>
    cases b <;> try (cases h)
    rename_i j
    have h' : (if i.length + j.length ≤ 100000 then some (Rv.val (.str (i ++ j))) else none) = some r := h
    by_cases hl : i.length + j.length ≤ 100000
    · rw [if_pos hl] at h'
      cases h'
      exact .inl (.inr ⟨i, j, ta.str, tb.str, sz_of hl, q.val e (.str _)⟩)
    · rw [if_neg hl] at h'; cases h'
  | list xs =>
    cases b <;> try (cases h)
    rename_i ys
    have h' : (if xs.length + ys.length ≤ 100000 then some (Rv.new (xs ++ ys)) else none) = some r := h
    by_cases hl : xs.length + ys.length ≤ 100000
    · rw [if_pos hl] at h'
      cases h'
      obtain ⟨p1, v1, e1, q1, z1⟩ := ta.lst e
      obtain ⟨p2, v2, e2, q2, z2⟩ := tb.lst e
      exact .inr (.inl ⟨p1, p2, v1, v2, e1, e2, q1, q2, by rw [z1.len, z2.len]; exact sz_of hl, q.lst e (z1.append z2)⟩)
    · rw [if_neg hl] at h'; cases h'
  | tuple xs =>
    cases b <;> try (cases h)
    rename_i ys
    have h' : (if xs.length + ys.length ≤ 100000 then some (Rv.val (.tuple (xs ++ ys))) else none) = some r := h
    by_cases hl : xs.length + ys.length ≤ 100000
    · rw [if_pos hl] at h'
      cases h'
      have ta' : Da K G v (.tuple xs) := by cases ta with | st h => exact h
      have tb' : Da K G u (.tuple ys) := by cases tb with | st h => exact h
      obtain ⟨p1, v1, e1, q1, z1⟩ := ta.tup e
      obtain ⟨p2, v2, e2, q2, z2⟩ := tb.tup e
      refine .inr (.inr ⟨p1, p2, v1, v2, e1, e2, q1, q2, by rw [z1.len, z2.len]; exact sz_of hl, fun hn => ?_, fun _ hn => ?_, fun _ _ => q.tup e (z1.append z2)⟩)
      · subst hn
        cases xs with
        | cons x xs => exact nomatch z1
        | nil => exact q.val e (by rw [← e2]; exact tb')
      · subst hn
        cases ys with
        | cons x xs => exact nomatch z2
        | nil => exact q.val e (by rw [← e1, List.append_nil]; exact ta')
    · rw [if_neg hl] at h'; cases h'
  | none => cases b <;> cases h
  | bool _ => cases b <;> cases h
  | dict _ => cases b <;> cases h
/-! ### * -/
def rRepL (K : PySem.W.Frag) : R2 := fun x y H Q => ∃ l k xs, x = .ref l ∧ y = .int k ∧ H l = some (.lst xs) ∧ -(2 ^ 63) ≤ k ∧ k < 2 ^ 63 ∧ xs.length * k.toNat ≤ sizeLine ∧
  ∀ p, H p = none → Q (.ref p) (upd H p (.lst (List.replicate k.toNat xs).flatten))
def cMul (i j : Int) : Bool := decide (i.natAbs < 18446744073709551616) || decide (j.natAbs < 18446744073709551616)
def oMul := oII cMul fun i j => i * j
theorem os_mul : OpS K (rI CMul fun i j => .int (i * j)) oMul := os_II fun i j h => by
  unfold cMul at h
  simp only [Bool.or_eq_true, decide_eq_true_eq] at h
  unfold CMul
  omega
/-! ### comparisons -/
def isSc : PyData → Bool
  | .none | .bool _ | .int _ | .str _ => true
  | _ => false
def oEq : PyData → PyData → Option Rv := fun a b => if SeqAt.shaped a && SeqAt.shaped b then vB (PyData.eqv a b) else none
def oNe : PyData → PyData → Option Rv := fun a b => if SeqAt.shaped a && SeqAt.shaped b then vB (!PyData.eqv a b) else none
theorem os_eq : OpS K (rEqD K) oEq := by
  intro G H v u a b r e ta tb h Q q
  unfold oEq at h
  cases hs : SeqAt.shaped a && SeqAt.shaped b with
  | false => rw [hs] at h; cases h
  | true =>
    rw [hs] at h
    cases h
    rw [Bool.and_eq_true] at hs
    exact ⟨a, b, ta.dp e hs.1, tb.dp e hs.2, hs.1, hs.2, q.val e (.bl _)⟩
theorem os_ne : OpS K (rNeD K) oNe := by
  intro G H v u a b r e ta tb h Q q
  unfold oNe at h
  cases hs : SeqAt.shaped a && SeqAt.shaped b with
  | false => rw [hs] at h; cases h
  | true =>
    rw [hs] at h
    cases h
    rw [Bool.and_eq_true] at hs
    exact ⟨a, b, ta.dp e hs.1, tb.dp e hs.2, hs.1, hs.2, q.val e (.bl _)⟩
def isNone : PyData → Bool
  | .none => true
  | _ => false
def oIsN : PyData → PyData → Option Rv := fun a b => if isNone b then vB (isNone a) else none
def oNotN : PyData → PyData → Option Rv := fun a b => if isNone b then vB (!isNone a) else none
theorem tr_non {G H : Hp} {v : V} {a : PyData} (t : Tr K G H v a) : decide (v = .non) = isNone a := by
  cases t with
  | st h => cases h <;> simp [isNone]
  | li e _ _ => subst e; simp [isNone]
theorem os_isN : OpS K (fun x y H Q => y = .non ∧ Q (.bl (decide (x = .non))) H) oIsN := by
  intro G H v u a b r e ta tb h Q q
  unfold oIsN at h
  cases b <;> try (cases h)
  exact ⟨tb.non, by rw [tr_non ta]; exact q.val e (.bl _)⟩
theorem os_notN : OpS K (fun x y H Q => y = .non ∧ Q (.bl (!decide (x = .non))) H) oNotN := by
  intro G H v u a b r e ta tb h Q q
  unfold oNotN at h
  cases b <;> try (cases h)
  exact ⟨tb.non, by rw [tr_non ta]; exact q.val e (.bl _)⟩
/-! ### in -/
/-- plain data as values -/
def eqS : PyData → PyData → Bool := PyData.eqv
end
end DL

namespace DL
open PySem L2
section
variable {X : Cx} {K : PySem.W.Frag}
/-! ### in -/
theorem sc_flat {G : Hp} {v : V} {d : PyData} (h : Da K G v d) (s : isSc d = true) : flatV v = true := by
  cases h <;> first | rfl | (simp [isSc] at s; done)
theorem sc_eq {G : Hp} {v u : V} {d e : PyData} (h : Da K G v d) (s : isSc d = true) (h2 : Da K G u e) (s2 : isSc e = true) : eqV v u = PyData.eqv d e := by
  cases h <;> cases h2 <;> first | rfl | (simp [isSc] at s; done) | (simp [isSc] at s2; done) | simp [eqV, PyData.eqv]
theorem sc_all {G : Hp} : ∀ {vs : List V} {ds : List PyData}, DaAll K G vs ds → ds.all isSc = true → vs.all flatV = true
  | _, [], h, _ => by cases h; rfl
  | _, d :: ds, h, s => by
    cases h with
    | cons h1 h2 =>
      rw [List.all_cons, Bool.and_eq_true] at s
      rw [List.all_cons, sc_flat h1 s.1, sc_all h2 s.2]
      rfl
theorem sc_any {G : Hp} {u : V} {e : PyData} (hu : Da K G u e) (su : isSc e = true) : ∀ {vs : List V} {ds : List PyData}, DaAll K G vs ds → ds.all isSc = true → inV u vs = ds.any fun y => PyData.eqv y e
  | _, [], h, _ => by cases h; rfl
  | _, d :: ds, h, s => by
    cases h with
    | cons h1 h2 =>
      rw [List.all_cons, Bool.and_eq_true] at s
      have ih := sc_any hu su h2 s.2
      unfold inV at ih ⊢
      rw [List.any_cons, List.any_cons, sc_eq h1 s.1 hu su, ih]
/-- the items of a list or a tuple -/
def items : PyData → Option (List PyData)
  | .list ds => some ds
  | .tuple ds => some ds
  | _ => none
theorem items_ok {G H : Hp} {v : V} {d : PyData} {ds : List PyData} (e : Ex G H) (t : Tr K G H v d) (h : items d = some ds) : ∃ p vs, v = .ref p ∧ (SqL K H p vs ∨ SqT K H p vs) ∧ DaAll K G vs ds := by
  cases d <;> try (cases h)
  · obtain ⟨p, vs, e1, q, z⟩ := t.lst e
    exact ⟨p, vs, e1, .inl q, z⟩
  · obtain ⟨p, vs, e1, q, z⟩ := t.tup e
    exact ⟨p, vs, e1, .inr q, z⟩
def oIn (neg : Bool) : PyData → PyData → Option Rv := fun a b => match items b with
  | some ds => if isSc a && ds.all isSc then vB (if neg then !ds.any fun y => PyData.eqv y a else ds.any fun y => PyData.eqv y a) else none
  | none => none
theorem os_in {neg : Bool} : OpS K (rIn K neg) (oIn neg) := by
  intro G H v u a b r e ta tb h Q q
  unfold oIn at h
  cases hi : items b with
  | none => rw [hi] at h; cases h
  | some ds =>
    rw [hi] at h
    obtain ⟨p, vs, e1, sq, z⟩ := items_ok e tb hi
    have h' : (if isSc a && ds.all isSc then vB (if neg then !ds.any fun y => PyData.eqv y a else ds.any fun y => PyData.eqv y a) else none) = some r := h
    cases hc : isSc a && ds.all isSc with
    | false => rw [hc] at h'; cases h'
    | true =>
      rw [hc] at h'
      cases h'
      rw [Bool.and_eq_true] at hc
      have ta' : Da K G v a := by
        cases ta with
        | st h => exact h
        | li _ _ _ => exact nomatch hc.1
      refine ⟨p, vs, e1, sq, sc_flat ta' hc.1, sc_all z hc.2, ?_⟩
      rw [sc_any ta' hc.1 z hc.2]
      exact q.val e (.bl _)
def oInD : PyData → PyData → Option Rv := fun a b => match b with
  | .list ds => if SeqAt.shaped a && SeqAt.shaped (.list ds) then vB (ds.any fun z => PyData.eqv z a) else none
  | _ => none
def oNotInD : PyData → PyData → Option Rv := fun a b => match b with
  | .list ds => if SeqAt.shaped a && SeqAt.shaped (.list ds) then vB (!ds.any fun z => PyData.eqv z a) else none
  | _ => none
theorem os_inD : OpS K (rInD K) oInD := by
  intro G H v u a b r e ta tb h Q q
  cases b <;> try (cases h)
  rename_i ds
  have h' : (if SeqAt.shaped a && SeqAt.shaped (.list ds) then vB (ds.any fun z => PyData.eqv z a) else none) = some r := h
  cases hc : SeqAt.shaped a && SeqAt.shaped (.list ds) with
  | false => rw [hc] at h'; cases h'
  | true =>
    rw [hc] at h'
    cases h'
    rw [Bool.and_eq_true] at hc
    exact ⟨a, ds, ta.dp e hc.1, tb.dp e hc.2, hc.1, hc.2, q.val e (.bl _)⟩
theorem os_notInD : OpS K (rNotInD K) oNotInD := by
  intro G H v u a b r e ta tb h Q q
  cases b <;> try (cases h)
  rename_i ds
  have h' : (if SeqAt.shaped a && SeqAt.shaped (.list ds) then vB (!ds.any fun z => PyData.eqv z a) else none) = some r := h
  cases hc : SeqAt.shaped a && SeqAt.shaped (.list ds) with
  | false => rw [hc] at h'; cases h'
  | true =>
    rw [hc] at h'
    cases h'
    rw [Bool.and_eq_true] at hc
    exact ⟨a, ds, ta.dp e hc.1, tb.dp e hc.2, hc.1, hc.2, q.val e (.bl _)⟩
/-! ### items -/
def oIx : PyData → PyData → Option Rv
  | .list ds, .int i => (atI ds i).map Rv.val
  | .tuple ds, .int i => (atI ds i).map Rv.val
  | .str z, .int i => if z.length ≤ 100000 then (atI z.cps.toList i).map fun c => .val (.str ⟨#[c]⟩) else none
  | _, _ => none
theorem at_da {G : Hp} {vs : List V} {ds : List PyData} {i : Int} {d : PyData} (z : DaAll K G vs ds) (h : atI ds i = some d) : ∃ v, atI vs i = some v ∧ Da K G v d := by
  unfold atI at h ⊢
  rw [z.len]
  cases hj : ixN ds.length i with
  | none => rw [hj] at h; cases h
  | some j =>
    rw [hj] at h
    obtain ⟨v, h1, h2⟩ := z.at (show ds[j]? = some d from h)
    exact ⟨v, h1, h2⟩
theorem os_ix : OpS K (rIx K) oIx := by
  intro G H v u a b r e ta tb h Q q
  cases a with
  | list ds =>
    cases b <;> try (cases h)
    rename_i i
    have h' : (atI ds i).map Rv.val = some r := h
    cases hd : atI ds i with
    | none => rw [hd] at h'; cases h'
    | some d =>
      rw [hd] at h'
      cases h'
      obtain ⟨p, vs, e1, sq, z⟩ := ta.lst e
      obtain ⟨w, h1, h2⟩ := at_da z hd
      exact .inl ⟨p, vs, i, w, e1, tb.int, sq, h1, q.val e h2⟩
  | tuple ds =>
    cases b <;> try (cases h)
    rename_i i
    have h' : (atI ds i).map Rv.val = some r := h
    cases hd : atI ds i with
    | none => rw [hd] at h'; cases h'
    | some d =>
      rw [hd] at h'
      cases h'
      obtain ⟨p, vs, e1, sq, z⟩ := ta.tup e
      obtain ⟨w, h1, h2⟩ := at_da z hd
      exact .inr (.inl ⟨p, vs, i, w, e1, tb.int, sq, h1, q.val e h2⟩)
  | str z =>
    cases b <;> try (cases h)
    rename_i i
    have h' : (if z.length ≤ 100000 then (atI z.cps.toList i).map fun c => Rv.val (.str ⟨#[c]⟩) else none) = some r := h
    by_cases hl : z.length ≤ 100000
    · rw [if_pos hl] at h'
      cases hd : atI z.cps.toList i with
      | none => rw [hd] at h'; cases h'
      | some c =>
        rw [hd] at h'
        cases h'
        exact .inr (.inr ⟨z, i, c, ta.str, tb.int, sz_of hl, hd, q.val e (.str _)⟩)
    · rw [if_neg hl] at h'; cases h'
  | none => cases b <;> cases h
  | bool _ => cases b <;> cases h
  | int _ => cases b <;> cases h
  | dict _ => cases b <;> cases h
/-! ### slices -/
def cutD (ds : List PyData) (lo hi : Option Int) : List PyData := (ds.drop (HT.sIx ds.length 0 lo)).take (HT.sIx ds.length ds.length hi - HT.sIx ds.length 0 lo)
theorem cut_da {G : Hp} {vs : List V} {ds : List PyData} (z : DaAll K G vs ds) (lo hi : Option Int) : DaAll K G (cutV vs lo hi) (cutD ds lo hi) := by
  unfold cutV cutD
  rw [z.len]
  exact (z.drop _).take _
def oSl (a : PyData) (lo hi : Option Int) : Option Rv := match a with
  | .list ds => some (.new (cutD ds lo hi))
  | .tuple ds => some (.val (.tuple (cutD ds lo hi)))
  | _ => none
abbrev rSl (K : PySem.W.Frag) : V → Option Int → Option Int → Hp → VK → Prop := fun x lo hi H Q => rSlL K x lo hi H Q ∨ rSlA K x lo hi H Q
theorem sl_any : SlR X (rSl X.K) := SlR.or sl_list sl_tupA
theorem sl_ok {G H : Hp} {v : V} {a : PyData} {lo hi : Option Int} {r : Rv} (e : Ex G H) (ta : Tr K G H v a) (h : oSl a lo hi = some r) {Q : VK} (q : wO K G H r Q) : rSl K v lo hi H Q := by
  cases a <;> try (cases h)
  · rename_i ds
    obtain ⟨p, vs, e1, sq, z⟩ := ta.lst e
    exact .inl ⟨p, vs, e1, sq, q.lst e (cut_da z lo hi)⟩
  · rename_i ds
    have ta' : Da K G v (.tuple ds) := by cases ta with | st h => exact h
    obtain ⟨p, vs, e1, sq, z⟩ := ta.tup e
    refine .inr ⟨p, vs, e1, sq, fun hw => ?_, fun _ => q.tup e (cut_da z lo hi)⟩
    have ec : cutD ds lo hi = ds := by
      unfold cutD
      rw [z.len] at hw
      rw [hw.1, hw.2]
      simp
    rw [ec] at q
    exact q.val e (by rw [← e1]; exact ta')
def dPart (f : S → Out Rv) : S → Out (Option Int) := fun dl => (f dl).bind fun r d1 => match rd d1 r with
  | some (.int i) => .ok (some i) d1
  | _ => .bad
def dNoPart : S → Out (Option Int) := fun dl => .ok none dl
def SoO (X : Cx) (W : WX) (t : TO) (f : S → Out (Option Int)) : Prop := ∀ G H sg dl (Q : Option Int → Hp → Prop), Rel X.K G H sg dl → Post X W G H sg dl (fun b _ _ H' => Q b H') (f dl) → t sg H Q
def SO (X : Cx) (W : WX) (e : Option Expr) (f : S → Out (Option Int)) : Prop := ∃ t, PO X e t ∧ SoO X W t f
theorem so_none {W : WX} : SO X W none dNoPart := ⟨tNoPart, po_none, fun G H sg dl Q re h => h G H (Stp.refl re) (Kp.refl dl)⟩
theorem so_some {W : WX} {e : Expr} {f : S → Out Rv} (h : SE X W e f) : SO X W (some e) (dPart f) := by
  obtain ⟨t, p, s⟩ := h
  refine ⟨tPart t, po_some p, fun G H sg dl Q re h => ?_⟩
  refine s G H sg dl _ re ((post_bind h).imp fun r1 d1 G1 H1 s1 k1 h1 v1 q1 => ?_)
  cases e1 : rd d1 r1 with
  | none => rw [e1] at h1; exact h1.elim
  | some x =>
    rw [e1] at h1
    cases x with
    | int i => exact ⟨i, (q1.tr s1.rel e1).int, h1 G1 H1 (Stp.refl s1.rel) (Kp.refl d1)⟩
    | none => exact h1.elim
    | bool i => exact h1.elim
    | str i => exact h1.elim
    | list i => exact h1.elim
    | tuple i => exact h1.elim
    | dict i => exact h1.elim
def dSl (f : S → Out Rv) (lo hi : S → Out (Option Int)) : S → Out Rv := fun dl => (f dl).bind fun r d1 => (lo d1).bind fun l d2 => (hi d2).bind fun u d3 => fin ((rd d3 r).bind fun a => oSl a l u) d3
theorem se_sl {W : WX} {e : Expr} {l u : Option Expr} {p2 pos : Pos} {f : S → Out Rv} {lo hi : S → Out (Option Int)} (ha : SE X W e f) (hl : SO X W l lo) (hu : SO X W u hi) : SE X W (.Subscript e (.Slice l u none p2) pos) (dSl f lo hi) := by
  obtain ⟨ta, pa, sa⟩ := ha
  obtain ⟨tl, pl, sl⟩ := hl
  obtain ⟨th, ph, sh⟩ := hu
  refine ⟨tSl (rSl X.K) ta tl th, pe_slice sl_any pa pl ph, fun G H sg dl Q re h => ?_⟩
  refine sa G H sg dl _ re ((post_bind h).imp fun r1 d1 G1 H1 s1 k1 h1 v1 q1 => ?_)
  refine sl G1 H1 sg d1 _ s1.rel ((post_bind h1).imp fun l d2 G2 H2 s2 k2 h2 => ?_)
  refine sh G2 H2 sg d2 _ s2.rel ((post_bind h2).imp fun u d3 G3 H3 s3 k3 h3 => ?_)
  have q3 := (q1.mono s2 k2).mono s3 k3
  cases e1 : rd d3 r1 with
  | none => rw [e1] at h3; exact h3.elim
  | some x =>
    rw [e1] at h3
    have h3' : Post X W G3 H3 sg d3 (wE X sg H Q) (fin (oSl x l u) d3) := h3
    cases e3 : oSl x l u with
    | none => rw [e3] at h3'; exact h3'.elim
    | some r =>
      rw [e3] at h3'
      exact sl_ok s3.rel.ex (q3.tr s3.rel e1) e3 (wO.fin rfl s3.rel (fun a z => s3.d a (s2.d a (s1.d a z))) h3')
/-! ### built-ins -/
theorem tr1 {G H : Hp} {vs : List V} {d : PyData} (t : TrAll K G H vs [d]) : ∃ v, vs = [v] ∧ Tr K G H v d := by
  cases t with
  | cons a b => cases b; exact ⟨_, rfl, a⟩
theorem tr2 {G H : Hp} {vs : List V} {d e : PyData} (t : TrAll K G H vs [d, e]) : ∃ v u, vs = [v, u] ∧ Tr K G H v d ∧ Tr K G H u e := by
  cases t with
  | cons a b =>
    obtain ⟨u, rfl, c⟩ := tr1 b
    exact ⟨_, u, rfl, a, c⟩
def bLen : List PyData → Option Rv
  | [.list ds] => vI ds.length
  | [.tuple ds] => vI ds.length
  | [.str z] => if z.length ≤ 100000 then vI z.length else none
  | _ => none
theorem cs_len : CaS K (fun xs H Q => ∃ x n, xs = [x] ∧ LenV K x H n ∧ Q (.int n) H) bLen := by
  intro G H vs ds rv e t h Q q
  unfold bLen at h
  split at h
  · obtain ⟨v, rfl, t'⟩ := tr1 t
    cases h
    obtain ⟨p, us, rfl, sq, z⟩ := t'.lst e
    exact ⟨.ref p, us.length, rfl, .inl ⟨us, sq, rfl⟩, by rw [z.len]; exact q.val e (.int _)⟩
  · obtain ⟨v, rfl, t'⟩ := tr1 t
    cases h
    obtain ⟨p, us, rfl, sq, z⟩ := t'.tup e
    exact ⟨.ref p, us.length, rfl, .inr ⟨us, sq, rfl⟩, by rw [z.len]; exact q.val e (.int _)⟩
  · obtain ⟨v, rfl, t'⟩ := tr1 t
    rename_i z
    by_cases hl : z.length ≤ 100000
    · rw [if_pos hl] at h
      cases h
      have := t'.str
      subst this
      exact ⟨.str z, z.length, rfl, ⟨sz_of hl, rfl⟩, q.val e (.int _)⟩
    · rw [if_neg hl] at h; cases h
  · cases h
def bAbs : List PyData → Option Rv
  | [.int i] => vI (if i < 0 then -i else i)
  | _ => none
theorem cs_abs : CaS K (fun xs H Q => ∃ i, xs = [.int i] ∧ Q (.int (if i < 0 then -i else i)) H) bAbs := by
  intro G H vs ds rv e t h Q q
  unfold bAbs at h
  split at h
  · obtain ⟨v, rfl, t'⟩ := tr1 t
    cases h
    exact ⟨_, by rw [t'.int], q.val e (.int _)⟩
  · cases h
def bII (g : Int → Int → Int) : List PyData → Option Rv
  | [.int i, .int j] => vI (g i j)
  | _ => none
theorem cs_II {g : Int → Int → Int} : CaS K (fun xs H Q => ∃ i j, xs = [.int i, .int j] ∧ Q (.int (g i j)) H) (bII g) := by
  intro G H vs ds rv e t h Q q
  unfold bII at h
  split at h
  · obtain ⟨v, u, rfl, t1, t2⟩ := tr2 t
    cases h
    exact ⟨_, _, by rw [t1.int, t2.int], q.val e (.int _)⟩
  · cases h
def bMax2 := bII fun i j => if j > i then j else i
def bMin2 := bII fun i j => if j < i then j else i
theorem cs_max2 : CaS K (fun xs H Q => ∃ i j, xs = [.int i, .int j] ∧ Q (.int (if j > i then j else i)) H) bMax2 := cs_II
theorem cs_min2 : CaS K (fun xs H Q => ∃ i j, xs = [.int i, .int j] ∧ Q (.int (if j < i then j else i)) H) bMin2 := cs_II
def bInt : List PyData → Option Rv
  | [.int i] => vI i
  | [.bool b] => vI (if b then 1 else 0)
  | _ => none
theorem cs_int : CaS K (fun xs H Q => (∃ i, xs = [.int i] ∧ Q (.int i) H) ∨ ∃ k, xs = [.bl k] ∧ Q (.int (if k then 1 else 0)) H) bInt := by
  intro G H vs ds rv e t h Q q
  unfold bInt at h
  split at h
  · obtain ⟨v, rfl, t'⟩ := tr1 t
    cases h
    exact .inl ⟨_, by rw [t'.int], q.val e (.int _)⟩
  · obtain ⟨v, rfl, t'⟩ := tr1 t
    cases h
    exact .inr ⟨_, by rw [t'.bl], q.val e (.int _)⟩
  · cases h
def bList : List PyData → Option Rv
  | [.list ds] => some (.new ds)
  | [.tuple ds] => some (.new ds)
  | _ => none
theorem cs_list : CaS K (fun xs H Q => ∃ p ys, xs = [.ref p] ∧ (SqL K H p ys ∨ SqT K H p ys) ∧ ∀ l, H l = none → Q (.ref l) (upd H l (.lst ys))) bList := by
  intro G H vs ds rv e t h Q q
  unfold bList at h
  split at h
  · obtain ⟨v, rfl, t'⟩ := tr1 t
    cases h
    obtain ⟨p, us, rfl, sq, z⟩ := t'.lst e
    exact ⟨p, us, rfl, .inl sq, q.lst e z⟩
  · obtain ⟨v, rfl, t'⟩ := tr1 t
    cases h
    obtain ⟨p, us, rfl, sq, z⟩ := t'.tup e
    exact ⟨p, us, rfl, .inr sq, q.lst e z⟩
  · cases h
def bTup : List PyData → Option Rv
  | [.list ds] => some (.val (.tuple ds))
  | [.tuple ds] => some (.val (.tuple ds))
  | _ => none
theorem cs_tup : CaS K (fun xs H Q => ∃ p ys, xs = [.ref p] ∧ ((SqL K H p ys ∧ ∀ l, H l = none → Q (.ref l) (upd H l (.tup ys))) ∨ (SqT K H p ys ∧ Q (.ref p) H))) bTup := by
  intro G H vs ds rv e t h Q q
  unfold bTup at h
  split at h
  · obtain ⟨v, rfl, t'⟩ := tr1 t
    cases h
    obtain ⟨p, us, rfl, sq, z⟩ := t'.lst e
    exact ⟨p, us, rfl, .inl ⟨sq, q.tup e z⟩⟩
  · obtain ⟨v, rfl, t'⟩ := tr1 t
    cases h
    rename_i ds
    have ta' : Da K G v (.tuple ds) := by cases t' with | st h => exact h
    obtain ⟨p, us, rfl, sq, z⟩ := t'.tup e
    exact ⟨p, us, rfl, .inr ⟨sq, q.val e ta'⟩⟩
  · cases h
/-! ### lists of ints, of bools -/
def toI : PyData → Option Int
  | .int i => some i
  | _ => none
def toB : PyData → Option Bool
  | .bool i => some i
  | _ => none
def allI : List PyData → Option (List Int)
  | [] => some []
  | d :: ds => (toI d).bind fun i => (allI ds).bind fun is => some (i :: is)
def allB : List PyData → Option (List Bool)
  | [] => some []
  | d :: ds => (toB d).bind fun i => (allB ds).bind fun is => some (i :: is)
theorem allI_map : ∀ {ds : List PyData} {ns : List Int}, allI ds = some ns → ds = ns.map PyData.int
  | [], ns, h => by cases h; rfl
  | d :: ds, ns, h => by
    unfold allI at h
    cases d <;> try (cases h)
    rename_i i
    have h' : (allI ds).bind (fun is => some (i :: is)) = some ns := h
    cases e : allI ds with
    | none => rw [e] at h'; cases h'
    | some is =>
      rw [e] at h'
      cases h'
      rw [allI_map e]
      rfl
theorem allB_map : ∀ {ds : List PyData} {ns : List Bool}, allB ds = some ns → ds = ns.map PyData.bool
  | [], ns, h => by cases h; rfl
  | d :: ds, ns, h => by
    unfold allB at h
    cases d <;> try (cases h)
    rename_i i
    have h' : (allB ds).bind (fun is => some (i :: is)) = some ns := h
    cases e : allB ds with
    | none => rw [e] at h'; cases h'
    | some is =>
      rw [e] at h'
      cases h'
      rw [allB_map e]
      rfl
theorem allI_ints : ∀ (ns : List Int), allI (ns.map PyData.int) = some ns
  | [] => rfl
  | n :: ns => by
    show (allI (ns.map PyData.int)).bind (fun is => some (n :: is)) = some (n :: ns)
    rw [allI_ints ns]
    rfl
theorem allB_bools : ∀ (ns : List Bool), allB (ns.map PyData.bool) = some ns
  | [] => rfl
  | n :: ns => by
    show (allB (ns.map PyData.bool)).bind (fun is => some (n :: is)) = some (n :: ns)
    rw [allB_bools ns]
    rfl
def bLI (g : List Int → Option Rv) : List PyData → Option Rv
  | [.list ds] => (allI ds).bind g
  | _ => none
def bLB (g : List Bool → Option Rv) : List PyData → Option Rv
  | [.list ds] => (allB ds).bind g
  | _ => none
theorem bLI_ok {G H : Hp} {vs : List V} {ds : List PyData} {rv : Rv} {g : List Int → Option Rv} (e : Ex G H) (t : TrAll K G H vs ds) (h : bLI g ds = some rv) : ∃ p ns, vs = [.ref p] ∧ SqL K H p (ns.map V.int) ∧ g ns = some rv := by
  unfold bLI at h
  split at h
  · obtain ⟨v, rfl, t'⟩ := tr1 t
    rename_i ds
    obtain ⟨p, us, rfl, sq, z⟩ := t'.lst e
    cases hn : allI ds with
    | none => rw [hn] at h; cases h
    | some ns =>
      rw [hn] at h
      rw [allI_map hn] at z
      rw [z.ints] at sq
      exact ⟨p, ns, rfl, sq, h⟩
  · cases h
theorem bLB_ok {G H : Hp} {vs : List V} {ds : List PyData} {rv : Rv} {g : List Bool → Option Rv} (e : Ex G H) (t : TrAll K G H vs ds) (h : bLB g ds = some rv) : ∃ p ns, vs = [.ref p] ∧ SqL K H p (ns.map V.bl) ∧ g ns = some rv := by
  unfold bLB at h
  split at h
  · obtain ⟨v, rfl, t'⟩ := tr1 t
    rename_i ds
    obtain ⟨p, us, rfl, sq, z⟩ := t'.lst e
    cases hn : allB ds with
    | none => rw [hn] at h; cases h
    | some ns =>
      rw [hn] at h
      rw [allB_map hn] at z
      rw [z.bools] at sq
      exact ⟨p, ns, rfl, sq, h⟩
  · cases h
def bSum := bLI fun ns => vI ns.sum
def bAny := bLB fun bs => vB (bs.any id)
def bAll := bLB fun bs => vB (bs.all id)
theorem cs_sum : CaS K (rSum K) bSum := by
  intro G H vs ds rv e t h Q q
  obtain ⟨p, ns, rfl, sq, h'⟩ := bLI_ok e t h
  cases h'
  exact ⟨p, ns, rfl, sq, q.val e (.int _)⟩
theorem cs_any : CaS K (rAny K) bAny := by
  intro G H vs ds rv e t h Q q
  obtain ⟨p, ns, rfl, sq, h'⟩ := bLB_ok e t h
  cases h'
  exact ⟨p, ns, rfl, sq, q.val e (.bl _)⟩
theorem cs_all : CaS K (rAll K) bAll := by
  intro G H vs ds rv e t h Q q
  obtain ⟨p, ns, rfl, sq, h'⟩ := bLB_ok e t h
  cases h'
  exact ⟨p, ns, rfl, sq, q.val e (.bl _)⟩
/-- the least, the greatest of some ints -/
def minL : Int → List Int → Int
  | m, [] => m
  | m, n :: ns => minL (if n < m then n else m) ns
def maxL : Int → List Int → Int
  | m, [] => m
  | m, n :: ns => maxL (if n > m then n else m) ns
theorem minL_ok : ∀ (ns : List Int) (m : Int), (minL m ns = m ∨ minL m ns ∈ ns) ∧ minL m ns ≤ m ∧ ∀ y ∈ ns, minL m ns ≤ y
  | [], m => ⟨.inl rfl, Int.le_refl _, fun _ h => nomatch h⟩
  | n :: ns, m => by
    unfold minL
    obtain ⟨h1, h2, h3⟩ := minL_ok ns (if n < m then n else m)
    by_cases hn : n < m
    · rw [if_pos hn] at h1 h2 h3 ⊢
      refine ⟨?_, by omega, fun y hy => ?_⟩
      · rcases h1 with h1 | h1
        · exact .inr (by rw [h1]; exact List.mem_cons_self)
        · exact .inr (List.mem_cons_of_mem _ h1)
      · rcases List.mem_cons.mp hy with e | hy
        · subst e; exact h2
        · exact h3 y hy
    · rw [if_neg hn] at h1 h2 h3 ⊢
      refine ⟨?_, h2, fun y hy => ?_⟩
      · rcases h1 with h1 | h1
        · exact .inl h1
        · exact .inr (List.mem_cons_of_mem _ h1)
      · rcases List.mem_cons.mp hy with e | hy
        · subst e; omega
        · exact h3 y hy
theorem maxL_ok : ∀ (ns : List Int) (m : Int), (maxL m ns = m ∨ maxL m ns ∈ ns) ∧ m ≤ maxL m ns ∧ ∀ y ∈ ns, y ≤ maxL m ns
  | [], m => ⟨.inl rfl, Int.le_refl _, fun _ h => nomatch h⟩
  | n :: ns, m => by
    unfold maxL
    obtain ⟨h1, h2, h3⟩ := maxL_ok ns (if n > m then n else m)
    by_cases hn : n > m
    · rw [if_pos hn] at h1 h2 h3 ⊢
      refine ⟨?_, by omega, fun y hy => ?_⟩
      · rcases h1 with h1 | h1
        · exact .inr (by rw [h1]; exact List.mem_cons_self)
        · exact .inr (List.mem_cons_of_mem _ h1)
      · rcases List.mem_cons.mp hy with e | hy
        · subst e; exact h2
        · exact h3 y hy
    · rw [if_neg hn] at h1 h2 h3 ⊢
      refine ⟨?_, h2, fun y hy => ?_⟩
      · rcases h1 with h1 | h1
        · exact .inl h1
        · exact .inr (List.mem_cons_of_mem _ h1)
      · rcases List.mem_cons.mp hy with e | hy
        · subst e; omega
        · exact h3 y hy
def mins : List Int → Option Rv
  | [] => none
  | n :: ns => vI (minL n ns)
def maxs : List Int → Option Rv
  | [] => none
  | n :: ns => vI (maxL n ns)
def bMin := bLI mins
def bMax := bLI maxs
theorem cs_min : CaS K (rMin K) bMin := by
  intro G H vs ds rv e t h Q q
  obtain ⟨p, ns, rfl, sq, h'⟩ := bLI_ok e t h
  cases ns with
  | nil => cases h'
  | cons n ns =>
    cases h'
    refine ⟨p, n :: ns, rfl, sq, Nat.succ_pos _, fun m hm hle => ?_⟩
    obtain ⟨h1, h2, h3⟩ := minL_ok ns n
    have e1 : m = minL n ns := by
      have a1 : m ≤ minL n ns := hle _ (by
        rcases h1 with h1 | h1
        · rw [h1]; exact List.mem_cons_self
        · exact List.mem_cons_of_mem _ h1)
      have a2 : minL n ns ≤ m := by
        rcases List.mem_cons.mp hm with z | z
        · rw [z]; exact h2
        · exact h3 m z
      omega
    rw [e1]
    exact q.val e (.int _)
theorem cs_max : CaS K (rMax K) bMax := by
  intro G H vs ds rv e t h Q q
  obtain ⟨p, ns, rfl, sq, h'⟩ := bLI_ok e t h
  cases ns with
  | nil => cases h'
  | cons n ns =>
    cases h'
    refine ⟨p, n :: ns, rfl, sq, Nat.succ_pos _, fun m hm hle => ?_⟩
    obtain ⟨h1, h2, h3⟩ := maxL_ok ns n
    have e1 : m = maxL n ns := by
      have a1 : maxL n ns ≤ m := hle _ (by
        rcases h1 with h1 | h1
        · rw [h1]; exact List.mem_cons_self
        · exact List.mem_cons_of_mem _ h1)
      have a2 : m ≤ maxL n ns := by
        rcases List.mem_cons.mp hm with z | z
        · rw [z]; exact h2
        · exact h3 m z
      omega
    rw [e1]
    exact q.val e (.int _)
/-! ### isinstance -/
def tyD : PyData → String
  | .none => "NoneType"
  | .bool _ => "bool"
  | .int _ => "int"
  | .str _ => "str"
  | .list _ => "list"
  | .tuple _ => "tuple"
  | .dict _ => "dict"
def isDic : PyData → Bool
  | .dict _ => true
  | _ => false
theorem ty_ok {H : Hp} {v : V} {d : PyData} (h : Da K H v d) (hd : isDic d = false) : TyX K H v (.type (tyD d)) := by
  cases h with
  | non => exact .base .non
  | bl b => exact .base (.bl b)
  | int i => exact .base (.int i)
  | str x => exact .base (.str x)
  | lst hs ha =>
    rcases hs with (h | ⟨o, h⟩) | ⟨o, its, n, h, hc, _⟩
    · exact .base (.lst h)
    · exact .base (.frz h)
    · exact .kList h hc
  | tup hs ha =>
    rcases hs with (h | ⟨o, h⟩) | ⟨o, its, n, h, hc, _⟩
    · exact .base (.tup h)
    · exact .fTuple h
    · exact .kTuple h hc
  | dct hs ha => cases hd
  | exc hs ha => cases hd
/-- isinstance(e, T), T a built-in class -/
def oIsi (T : String) : PyData → Option Rv := fun d => if isDic d then none else (kitB (tyD d) T).bind vB
theorem se_isi {W : WX} {T : String} {x : Str} {e : Expr} {p p2 pos : Pos} {f : S → Out Rv} (hg : Gl X "isinstance") (hm : X.mg "isinstance" = none) (hgT : Gl X x) (hmT : X.mg x = none) (hvT : bootBuiltins x = some (.type T)) (ha : SE X W e f)
    (hn : x ≠ "__name__" := by decide) (hdb : (x == ("__debug__" : Str)) = false := by decide)
    (he : starEach [e, .Name x p2] X.env = (false, eval e X.env) :: starEach [.Name x p2] X.env := by rfl) (he2 : starEach [.Name x p2] X.env = (false, eval (.Name x p2) X.env) :: starEach [] X.env := by rfl) (hpl : (backTo pos (starEach [.Name x p2] X.env)).any (·.1) = false := by rfl) :
    SE X W (.Call (.Name "isinstance" p) [e, .Name x p2] [] pos) (d1 (oIsi T) f) := by
  obtain ⟨ta, pa, sa⟩ := ha
  refine ⟨_, pe_callB call_isi hg hm (by decide +kernel) (pa_cons pa (pa_cons (pe_bltn (v := .ty T) hgT hmT hvT rfl hn hdb) pa_nil he2) he) (by decide) (by decide) he hpl, fun G H sg dl Q re h => ?_⟩
  refine sa G H sg dl _ re ((post_bind h).imp fun r1 d1 G1 H1 s1 k1 h1 v1 q1 => ?_)
  cases e1 : rd d1 r1 with
  | none => rw [e1] at h1; exact h1.elim
  | some x =>
    rw [e1] at h1
    have h0 : Post X W G1 H1 sg d1 (wE X sg H Q) (fin (if isDic x then none else (kitB (tyD x) T).bind vB) d1) := h1
    cases e0 : isDic x with
    | true => rw [e0] at h0; exact h0.elim
    | false =>
    rw [e0] at h0
    have h1' : Post X W G1 H1 sg d1 (wE X sg H Q) (fin ((kitB (tyD x) T).bind vB) d1) := h0
    cases e3 : kitB (tyD x) T with
    | none => rw [e3] at h1'; exact h1'.elim
    | some b =>
      rw [e3] at h1'
      exact ⟨v1, .ty T, .type (tyD x), .type T, b, rfl, .ty T, ty_ok ((q1.tr s1.rel e1).da s1.rel.ex) e0, kit_ty e3, (wO.fin rfl s1.rel s1.d h1').val s1.rel.ex (.bl b)⟩
end
end DL

namespace DL
open PySem L2
/-! ### statements -/
inductive Fl where
  | nx (dl : S)
  | ret (r : Rv) (dl : S)
  | brk (dl : S)
  | cnt (dl : S)
  | ex (c : Str) (dl : S)
  | bad
def Out.fl {A : Type} : Out A → (A → S → Fl) → Fl
  | .ok a dl, k => k a dl
  | .ex c dl, _ => .ex c dl
  | .bad, _ => .bad
def PostS (X : Cx) (W : WX) (G H : Hp) (sg : L2.St) (dl : S) (D : Ends) : Fl → Prop
  | .nx dl' => ∀ G' H' sg', Stp X.K G H sg dl G' H' sg' dl' → D.nx sg' H'
  | .brk dl' => ∀ G' H' sg', Stp X.K G H sg dl G' H' sg' dl' → D.bk sg' H'
  | .cnt dl' => ∀ G' H' sg', Stp X.K G H sg dl G' H' sg' dl' → D.ct sg' H'
  | .ret r dl' => ∀ v G' H' sg', Stp X.K G H sg dl G' H' sg' dl' → RvOk X.K G' H' sg' dl' H v r → D.rt v H'
  | .ex c dl' => ∀ C G' H' sg', X.mg c = some (.ref C) → Stp X.K G H sg dl G' H' sg' dl' → W (.ref C) none sg' H'
  | .bad => False
def SoS (X : Cx) (W : WX) (t : TS) (f : S → Fl) : Prop := ∀ G H sg dl D, Rel X.K G H sg dl → PostS X W G H sg dl D (f dl) → t D sg H
def SS (X : Cx) (W : WX) (st : Stmt) (f : S → Fl) : Prop := ∃ t, PS X st t ∧ SoS X W t f
def SB (X : Cx) (W : WX) (sts : List Stmt) (f : S → Fl) : Prop := ∃ t, PSs X sts t ∧ SoS X W t f
section
variable {X : Cx} {W : WX}
theorem PostS.from {G H G1 H1 : Hp} {sg sg1 : L2.St} {dl d1 : S} {D : Ends} {o : Fl} (h : PostS X W G H sg dl D o) (s : Stp X.K G H sg dl G1 H1 sg1 d1) : PostS X W G1 H1 sg1 d1 D o := by
  cases o with
  | bad => exact h
  | nx d2 => exact fun G2 H2 sg2 s2 => h G2 H2 sg2 (s.trans s2)
  | brk d2 => exact fun G2 H2 sg2 s2 => h G2 H2 sg2 (s.trans s2)
  | cnt d2 => exact fun G2 H2 sg2 s2 => h G2 H2 sg2 (s.trans s2)
  | ret r d2 => exact fun v G2 H2 sg2 s2 q => h v G2 H2 sg2 (s.trans s2) (q.from s.d)
  | ex c d2 => exact fun C G2 H2 sg2 hc s2 => h C G2 H2 sg2 hc (s.trans s2)
theorem post_fl {A : Type} {G H : Hp} {sg : L2.St} {dl : S} {D : Ends} {o : Out A} {k : A → S → Fl} (h : PostS X W G H sg dl D (o.fl k)) : Post X W G H sg dl (fun a d1 _ _ => PostS X W G H sg dl D (k a d1)) o := by
  cases o with
  | bad => exact h
  | ex c d1 => exact fun C G1 H1 hc s => h C G1 H1 sg hc s
  | ok a d1 => exact fun _ _ _ _ => h
theorem post_fl2 {A : Type} {G H G1 H1 : Hp} {sg sg1 : L2.St} {dl d1 : S} {D : Ends} {o : Out A} {k : A → S → Fl} (h : PostS X W G H sg dl D (o.fl k)) (s : Stp X.K G H sg dl G1 H1 sg1 d1) : Post X W G1 H1 sg1 d1 (fun a d2 _ _ => PostS X W G H sg dl D (k a d2)) o := by
  cases o with
  | bad => exact h
  | ex c d2 => exact fun C G2 H2 hc s2 => h C G2 H2 sg1 hc (s.trans s2)
  | ok a d2 => exact fun _ _ _ _ => h
def dSeq (f g : S → Fl) : S → Fl := fun dl => match f dl with
  | .nx d1 => g d1
  | o => o
def dNx : S → Fl := fun dl => .nx dl
theorem sb_nil : SB X W [] dNx := ⟨tNext, pss_nil, fun G H sg dl D re h => h G H sg (Stp.refl re)⟩
theorem sb_one {st : Stmt} {f : S → Fl} (h : SS X W st f) : SB X W [st] f := let ⟨t, p, s⟩ := h; ⟨t, pss_one p, s⟩
theorem sb_cons {st : Stmt} {rest : List Stmt} {f g : S → Fl} (h : SS X W st f) (k : SB X W rest g) : SB X W (st :: rest) (dSeq f g) := by
  obtain ⟨t, p, s⟩ := h
  obtain ⟨u, q, v⟩ := k
  refine ⟨tSeq t u, pss_cons p q, fun G H sg dl D re h => ?_⟩
  refine s G H sg dl _ re ?_
  unfold dSeq at h
  cases e : f dl with
  | bad => rw [e] at h; exact h
  | brk d1 => rw [e] at h; exact h
  | cnt d1 => rw [e] at h; exact h
  | ret r d1 => rw [e] at h; exact h
  | ex c d1 => rw [e] at h; exact h
  | nx d1 =>
    rw [e] at h
    exact fun G1 H1 sg1 s1 => v G1 H1 sg1 d1 D s1.rel (h.from s1)
theorem ss_pass {pos : Pos} : SS X W (.Pass pos) dNx := ⟨tNext, ps_pass, fun G H sg dl D re h => h G H sg (Stp.refl re)⟩
theorem ss_break {pos : Pos} : SS X W (.Break pos) (fun dl => .brk dl) := ⟨tBreak, ps_break, fun G H sg dl D re h => h G H sg (Stp.refl re)⟩
theorem ss_continue {pos : Pos} : SS X W (.Continue pos) (fun dl => .cnt dl) := ⟨tCont, ps_continue, fun G H sg dl D re h => h G H sg (Stp.refl re)⟩
/-- what no way comes to -/
theorem ss_never {st : Stmt} : SS X W st (fun _ => .bad) := ⟨tNever, ps_never, fun _ _ _ _ _ _ h => h⟩
def dDo (f : S → Out Rv) : S → Fl := fun dl => (f dl).fl fun _ d1 => .nx d1
theorem ss_expr {e : Expr} {pos : Pos} {f : S → Out Rv} (h : SE X W e f) (hs : swapsWith e none pos.line X.env = pure false := by rfl) : SS X W (.Expr e pos) (dDo f) := by
  obtain ⟨t, p, s⟩ := h
  refine ⟨tDrop t, ps_expr p hs, fun G H sg dl D re h => ?_⟩
  exact s G H sg dl _ re ((post_fl h).imp fun r d1 G1 H1 s1 k1 h1 v q => h1 G1 H1 sg s1)
def dRet (f : S → Out Rv) : S → Fl := fun dl => (f dl).fl fun r d1 => .ret r d1
theorem ss_ret {e : Expr} {pos : Pos} {f : S → Out Rv} (h : SE X W e f) : SS X W (.Return (some e) pos) (dRet f) := by
  obtain ⟨t, p, s⟩ := h
  refine ⟨tRet t, ps_ret p, fun G H sg dl D re h => ?_⟩
  exact s G H sg dl _ re ((post_fl h).imp fun r d1 G1 H1 s1 k1 h1 v q => h1 v G1 H1 sg s1 q)
theorem ss_retN {pos : Pos} : SS X W (.Return none pos) (fun dl => .ret (.val .none) dl) := ⟨tRetN, ps_retN, fun G H sg dl D re h => h .non G H sg (Stp.refl re) .non⟩
def dIf (c : S → Out Bool) (f g : S → Fl) : S → Fl := fun dl => (c dl).fl fun b d1 => if b then f d1 else g d1
theorem ss_if {c : Expr} {a b : List Stmt} {pos : Pos} {h : S → Out Bool} {f g : S → Fl} (hc : ST X W c h) (ha : SB X W a f) (hb : SB X W b g) : SS X W (.If c a b pos) (dIf h f g) := by
  obtain ⟨tc, pc, sc⟩ := hc
  obtain ⟨ta, pa, sa⟩ := ha
  obtain ⟨tb, pb, sb⟩ := hb
  refine ⟨tIfS tc ta tb, ps_if pc pa pb, fun G H sg dl D re h => ?_⟩
  refine sc G H sg dl _ re ((post_fl h).imp fun c d1 G1 H1 s1 k1 h1 => ?_)
  cases c with
  | true => exact sa G1 H1 sg d1 D s1.rel (h1.from s1)
  | false => exact sb G1 H1 sg d1 D s1.rel (h1.from s1)

/-! ### stores -/
theorem get_set {A : Type} {l : List A} {i j : Nat} {a b : A} (h : (l.set i a)[j]? = some b) : (j = i ∧ b = a ∧ i < l.length) ∨ (j ≠ i ∧ l[j]? = some b) := by
  by_cases hj : i = j
  · subst hj
    by_cases hl : i < l.length
    · rw [List.getElem?_set_self hl] at h
      cases h
      exact .inl ⟨rfl, rfl, hl⟩
    · rw [List.getElem?_eq_none (by simpa using hl)] at h; cases h
  · rw [List.getElem?_set_ne hj] at h
    exact .inr ⟨fun z => hj z.symm, h⟩
theorem set_ne {A : Type} {l : List A} {i j : Nat} {a : A} (h : j ≠ i) : (l.set i a)[j]? = l[j]? := List.getElem?_set_ne (Ne.symm h)
theorem lt_of_get {A : Type} {l : List A} {i : Nat} {a : A} (h : l[i]? = some a) : i < l.length := (List.getElem?_eq_some_iff.mp h).1
/-- slot i gets v -/
theorem setS_ok {K : PySem.W.Frag} {G H H0 G0 : Hp} {sg sg0 : L2.St} {dl dl0 : S} {v : V} {sl : Sl} (s : Stp K G0 H0 sg0 dl0 G H sg dl) (i : Nat) (hd : ∀ d, sl = .val d → Da K G v d) (hm : mine sl = true → SlOk K G H sl v ∧ ∀ a, Fs H sl v a → G a = none)
    (hw : ∀ a, Fs H sl v a → ¬ Ow H sg dl a) (h0 : ∀ a, Fs H sl v a → H0 a = none) (hio : ∀ ds, sl ≠ .own true ds) : Stp K G0 H0 sg0 dl0 G H (sg.set i (some v)) (dl.set i sl) := by
  have re := s.rel
  refine ⟨⟨by rw [List.length_set, List.length_set]; exact re.len, re.ex, fun j d' z => ?_, fun j s' z hm' => ?_, fun j j' s1 s2 v1 v2 a z1 z2 z3 z4 z5 z6 => ?_⟩, s.g, s.k, s.n, fun p z => ?_, s.d, fun j ds z => ?_⟩
  · rcases get_set z with ⟨rfl, e, hl⟩ | ⟨hj, z⟩
    · exact ⟨v, List.getElem?_set_self (by rw [re.len]; exact hl), hd d' e.symm⟩
    · obtain ⟨u, q1, q2⟩ := re.val j d' z
      exact ⟨u, by rw [set_ne hj]; exact q1, q2⟩
  · rcases get_set z with ⟨rfl, e, hl⟩ | ⟨hj, z⟩
    · subst e
      exact ⟨v, List.getElem?_set_self (by rw [re.len]; exact hl), (hm hm').1, (hm hm').2⟩
    · obtain ⟨u, q1, q2⟩ := re.mn j s' z hm'
      exact ⟨u, by rw [set_ne hj]; exact q1, q2⟩
  · rcases get_set z1 with ⟨rfl, e, hl⟩ | ⟨hj, z1⟩
    · subst e
      rcases get_set z2 with ⟨hj2, e, _⟩ | ⟨hj', z2⟩
      · exact hj2.symm
      · rw [List.getElem?_set_self (by rw [re.len]; exact hl)] at z3
        rw [set_ne hj'] at z4
        cases z3
        exact absurd ⟨j', s2, v2, z2, z4, z6⟩ (hw a z5)
    · have z1' := z1
      rcases get_set z2 with ⟨rfl, e, hl⟩ | ⟨hj', z2⟩
      · subst e
        rw [List.getElem?_set_self (by rw [re.len]; exact hl)] at z4
        rw [set_ne hj] at z3
        cases z4
        exact absurd ⟨j, s1, v1, z1', z3, z5⟩ (hw a z6)
      · rw [set_ne hj] at z3
        rw [set_ne hj'] at z4
        exact re.dj j j' s1 s2 v1 v2 a z1 z2 z3 z4 z5 z6
  · obtain ⟨j, s1, v1, z1, z2, z3⟩ := z
    rcases get_set z1 with ⟨rfl, e, hl⟩ | ⟨hj, z1⟩
    · subst e
      rw [List.getElem?_set_self (by rw [re.len]; exact hl)] at z2
      cases z2
      exact .inr (h0 p z3)
    · rw [set_ne hj] at z2
      exact s.w p ⟨j, s1, v1, z1, z2, z3⟩
  · rcases get_set z with ⟨_, e, _⟩ | ⟨hj, z⟩
    · exact absurd e.symm (hio ds)
    · rw [set_ne hj]
      exact s.io j ds z
theorem setV_ok {K : PySem.W.Frag} {G H H0 G0 : Hp} {sg sg0 : L2.St} {dl dl0 : S} {v : V} {d : PyData} (s : Stp K G0 H0 sg0 dl0 G H sg dl) (hd : Da K G v d) (i : Nat) : Stp K G0 H0 sg0 dl0 G H (sg.set i (some v)) (dl.set i (.val d)) :=
  setS_ok s i (fun d' e => by cases e; exact hd) (fun h => by cases h) (fun _ h => h.elim) (fun _ h => h.elim) (fun _ h => by cases h)
theorem setN_ok {K : PySem.W.Frag} {G H H0 G0 : Hp} {sg sg0 : L2.St} {dl dl0 : S} {v : V} {ds0 : List PyData} (s : Stp K G0 H0 sg0 dl0 G H sg dl) (q : RvOk K G H sg dl H0 v (.new ds0)) (i : Nat) : Stp K G0 H0 sg0 dl0 G H (sg.set i (some v)) (dl.set i (.own false ds0)) := by
  obtain ⟨p0, vs0, rfl, h0, hp, hg, hw, ha⟩ := q
  exact setS_ok s i (fun d' e => by cases e) (fun _ => ⟨⟨p0, vs0, rfl, hp, ha⟩, fun a h => by cases h; exact hg⟩) (fun a h => by cases h; exact hw) (fun a h => by cases h; exact h0) (fun _ h => by cases h)
def putR (dl : S) (i : Nat) (r : Rv) : Option S := match r with
  | .new ds => some (dl.set i (.own false ds))
  | r => (stb dl r).map fun x => x.2.set i (.val x.1)
theorem put_ok {K : PySem.W.Frag} {G H H0 G0 : Hp} {sg sg0 : L2.St} {dl dl0 dl' : S} {v : V} {r : Rv} {i : Nat} (s : Stp K G0 H0 sg0 dl0 G H sg dl) (q : RvOk K G H sg dl H0 v r) (e : putR dl i r = some dl') : ∃ G', Stp K G0 H0 sg0 dl0 G' H (sg.set i (some v)) dl' := by
  cases r with
  | new ds => cases e; exact ⟨G, setN_ok s q i⟩
  | val d => cases e; exact ⟨G, setV_ok s q i⟩
  | loc j =>
    have e' : (stb dl (.loc j)).map (fun x => x.2.set i (.val x.1)) = some dl' := e
    cases h : stb dl (.loc j) with
    | none => rw [h] at e'; cases e'
    | some x =>
      obtain ⟨d, d1⟩ := x
      rw [h] at e'
      cases e'
      obtain ⟨G', s', _, z, _⟩ := stb_ok s q h
      exact ⟨G', setV_ok s' z i⟩
def ofO (o : Option S) : Fl := match o with
  | some dl => .nx dl
  | none => .bad
def dSet (i : Nat) (f : S → Out Rv) : S → Fl := fun dl => (f dl).fl fun r d1 => ofO (putR d1 i r)
theorem so_set {i : Nat} {t : TE} {f : S → Out Rv} (s : SoE X W t f) : SoS X W (tAsg t (gName i)) (dSet i f) := by
  intro G H sg dl D re h
  refine s G H sg dl _ re ((post_fl h).imp fun r d1 G1 H1 s1 k1 h1 v q => ?_)
  cases e : putR d1 i r with
  | none => rw [e] at h1; exact h1.elim
  | some d2 =>
    rw [e] at h1
    obtain ⟨G2, s2⟩ := put_ok s1 q e
    exact h1 G2 H1 _ s2
theorem ss_set (i : Nat) {x : Str} {e : Expr} {pos pos' : Pos} {f : S → Out Rv} (hN : X.N.Nodup) (hi : X.N[i]? = some x) (hx : Loc X.env.scope x) (he : SE X W e f) (hs : swapsWith e (some (.Name x pos')) pos.line X.env = pure false := by rfl) (hf : X.fn x = true ∨ X.env.scope.names.lookup x = some .local := by first | exact .inl rfl | exact .inr rfl | assumption) :
    SS X W (.Assign [.Name x pos'] e pos) (dSet i f) :=
  let ⟨_, p, s⟩ := he
  ⟨_, ps_set hN hi hx p hs hf, so_set s⟩
/-- x op= e, ints -/
def dAug (i : Nat) (g : Int → Int → Int) (f : S → Out Rv) : S → Fl := fun dl => match dl[i]? with
  | some (.val (.int a)) => (f dl).fl fun r d1 => match rd d1 r with
    | some (.int b) => .nx (d1.set i (.val (.int (g a b))))
    | _ => .bad
  | _ => .bad
theorem ss_aug (i : Nat) {x : Str} {e : Expr} {pos pos' : Pos} {op : Operator} {g : Int → Int → Int} {f : S → Out Rv} (hN : X.N.Nodup) (hi : X.N[i]? = some x) (hx : Loc X.env.scope x) (he : SE X W e f) (ho : PIp X op (ipI g)) (hf : X.fn x = true ∨ X.env.scope.names.lookup x = some .local := by first | exact .inl rfl | exact .inr rfl | assumption) :
    SS X W (.AugAssign (.Name x pos') op e pos) (dAug i g f) := by
  obtain ⟨t, p, s⟩ := he
  refine ⟨tAug i t (ipI g), ps_aug hN hi hx p ho hf, fun G H sg dl D re h => ?_⟩
  unfold dAug at h
  split at h
  · rename_i a hs
    obtain ⟨v, q1, q2⟩ := re.val i _ hs
    cases q2
    refine ⟨.int a, q1, s G H sg dl _ re ((post_fl h).imp fun r d1 G1 H1 s1 k1 h1 v q => ?_)⟩
    cases e : rd d1 r with
    | none => rw [e] at h1; exact h1.elim
    | some y =>
      rw [e] at h1
      cases y with
      | int b =>
        have z := (q.tr s1.rel e).int
        exact ⟨a, b, rfl, z, h1 G1 H1 _ (setV_ok s1 (.int _) i)⟩
      | none => exact h1.elim
      | bool i => exact h1.elim
      | str i => exact h1.elim
      | list i => exact h1.elim
      | tuple i => exact h1.elim
      | dict i => exact h1.elim
  · exact h.elim
/-- a, b, .. = a tuple -/
def setAll : S → List Nat → List PyData → S
  | dl, i :: is, d :: ds => setAll (dl.set i (.val d)) is ds
  | dl, _, _ => dl
def gAll : List Nat → TGs
  | [] => gNil
  | i :: is => gCons (gName i) (gAll is)
theorem gAll_ok {K : PySem.W.Frag} {G H H0 G0 : Hp} {sg0 : L2.St} {dl0 : S} {Q : L2.St → Hp → Prop} : ∀ {is : List Nat} {sg : L2.St} {dl : S} {vs : List V} {ds : List PyData}, Stp K G0 H0 sg0 dl0 G H sg dl → DaAll K G vs ds → ds.length = is.length →
    (∀ sg', Stp K G0 H0 sg0 dl0 G H sg' (setAll dl is ds) → Q sg' H) → gAll is vs sg H Q
  | [], sg, dl, vs, ds, s, z, hl, q => by
    cases ds with
    | cons _ _ => cases hl
    | nil => cases z; exact ⟨rfl, q sg s⟩
  | i :: is, sg, dl, vs, ds, s, z, hl, q => by
    cases ds with
    | nil => cases hl
    | cons d ds =>
      cases z with
      | cons z1 z2 => exact ⟨_, _, rfl, gAll_ok (setV_ok s z1 i) z2 (Nat.succ.inj hl) q⟩
def dUnp (is : List Nat) (f : S → Out Rv) : S → Fl := fun dl => (f dl).fl fun r d1 => match rd d1 r with
  | some (.tuple ds) => if ds.length = is.length then .nx (setAll d1 is ds) else .bad
  | _ => .bad
theorem tr_tup {K : PySem.W.Frag} {G H : Hp} {v : V} {ds : List PyData} (t : Tr K G H v (.tuple ds)) : Da K G v (.tuple ds) := by
  cases t with
  | st h => exact h
theorem ss_unp (is : List Nat) {es : List Expr} {e : Expr} {k : Nat} {pos pos' : Pos} {f : S → Out Rv} (he : SE X W e f) (hc : X.calm = true) (hg : PGs X es (gAll is)) (hn : (assignEach es X.env).length = is.length := by rfl) (hst : (assignEach es X.env).findIdx? (·.1) = none := by rfl)
    (hs : swapsWithSole [.Tuple es k pos'] e pos.line X.env = pure false := by rfl) (hw : swappedStores [.Tuple es k pos'] e X.env = pure none := by rfl) (h1 : (assignEach [.Tuple es k pos'] X.env).map (·.2) = [assign (.Tuple es k pos') X.env] := by rfl) :
    SS X W (.Assign [.Tuple es k pos'] e pos) (dUnp is f) := by
  obtain ⟨t, p, s⟩ := he
  refine ⟨tAsg t (gTup X.K is.length (gAll is)), ps_asg p (pg_tup hc hg hn hst) hs hw h1, fun G H sg dl D re h => ?_⟩
  refine s G H sg dl _ re ((post_fl h).imp fun r d1 G1 H1 s1 k1 h1 v q => ?_)
  cases e : rd d1 r with
  | none => rw [e] at h1; exact h1.elim
  | some y =>
    rw [e] at h1
    cases y with
    | tuple ds =>
      have h1' : PostS X W G H sg dl D (if ds.length = is.length then .nx (setAll d1 is ds) else .bad) := h1
      by_cases hl : ds.length = is.length
      · rw [if_pos hl] at h1'
        have z := q.tr s1.rel e
        obtain ⟨pp, vs, e1, sq, za⟩ := z.tup s1.rel.ex
        exact ⟨pp, vs, e1, sq, by rw [za.len]; exact hl, gAll_ok s1 za hl fun sg' s' => h1' G1 H1 sg' s'⟩
      · rw [if_neg hl] at h1'; exact h1'.elim
    | none => exact h1.elim
    | bool i => exact h1.elim
    | str i => exact h1.elim
    | list i => exact h1.elim
    | int i => exact h1.elim
    | dict i => exact h1.elim

/-! ### a slot's own list is changed -/
/-- slot i's objects become others: H' is H but for these and new ones -/
theorem mutG_ok {K : PySem.W.Frag} {G G' H H' : Hp} {sg : L2.St} {dl : S} {i : Nat} {s s' : Sl} {v : V} (re : Rel K G H sg dl) (e : dl[i]? = some s) (hp : sg[i]? = some (some v)) (hm : mine s' = true) (ha : SlOk K G' H' s' v) (hf : ∀ a, Fs H' s' v a → Fs H s v a ∨ H a = none) (g0 : ∀ a, Fs H' s' v a → G' a = none)
    (eg : Ex G G') (ex : Ex G' H') (hk : ∀ a o, ¬ Fs H s v a → H a = some o → H' a = some o) (hn : ∀ a, ¬ Fs H s v a → H a ≠ none → G a = none → G' a = none) (hd : ∀ a, H a ≠ none → H' a ≠ none) (hio : ∀ ds, s' = .own true ds → ∃ ds0, s = .own true ds0) :
    Stp K G H sg dl G' H' sg (dl.set i s') := by
  have hi := lt_of_get e
  have no : ∀ {j : Nat} {s1 : Sl} {v1 : V}, j ≠ i → dl[j]? = some s1 → sg[j]? = some (some v1) → ∀ a, Fs H s1 v1 a → ¬ Fs H s v a := fun {j s1 v1} hj z1 z2 a z3 zz => hj (re.dj j i s1 s v1 v a z1 e z2 hp z3 zz)
  have kp : ∀ {j : Nat} {s1 : Sl} {v1 : V}, j ≠ i → dl[j]? = some s1 → sg[j]? = some (some v1) → ∀ a, Fs H s1 v1 a → H' a = H a := fun {j s1 v1} hj z1 z2 a z3 => by
    obtain ⟨o, ho⟩ := ne_some (re.mo z1 z2 z3).2.2
    rw [ho]
    exact hk a o (no hj z1 z2 a z3) ho
  have key : ∀ {j : Nat} {s1 : Sl} {v1 : V} {a : Addr}, (dl.set i s')[j]? = some s1 → sg[j]? = some (some v1) → Fs H' s1 v1 a → (j = i ∧ s1 = s' ∧ v1 = v) ∨ (j ≠ i ∧ dl[j]? = some s1 ∧ Fs H s1 v1 a) := fun {j s1 v1 a} z1 z2 z3 => by
    rcases get_set z1 with ⟨rfl, rfl, _⟩ | ⟨hj, z1⟩
    · rw [hp] at z2; cases z2; exact .inl ⟨rfl, rfl, rfl⟩
    · exact .inr ⟨hj, z1, fs_mono (kp hj z1 z2) a z3⟩
  have cross : ∀ {j : Nat} {s1 : Sl} {v1 : V} {a : Addr}, j ≠ i → dl[j]? = some s1 → sg[j]? = some (some v1) → Fs H s1 v1 a → Fs H' s' v a → False := fun {j s1 v1 a} hj z1 z2 z3 z4 => by
    rcases hf a z4 with q | q
    · exact no hj z1 z2 a z3 q
    · exact (re.mo z1 z2 z3).2.2 q
  refine ⟨⟨by rw [List.length_set]; exact re.len, ex, fun j d z => ?_, fun j s1 z hm1 => ?_, fun j j' s1 s2 v1 v2 a z1 z2 z3 z4 z5 z6 => ?_⟩, eg, fun a o h1 h2 => hk a o (fun zz => h1 ⟨i, s, v, e, hp, zz⟩) h2, fun a h1 h2 h3 => hn a (fun zz => h1 ⟨i, s, v, e, hp, zz⟩) h2 h3, fun q z => ?_, hd, fun j x z => ?_⟩
  · rcases get_set z with ⟨rfl, e1, _⟩ | ⟨hj, z⟩
    · subst e1; cases hm
    · obtain ⟨u, q1, q2⟩ := re.val j d z
      exact ⟨u, q1, q2.ex eg⟩
  · rcases get_set z with ⟨rfl, rfl, _⟩ | ⟨hj, z⟩
    · exact ⟨v, hp, ha, g0⟩
    · obtain ⟨u, q1, q2, q3⟩ := re.mn j s1 z hm1
      refine ⟨u, q1, sl_mono q2 eg (kp hj z q1), fun a h => ?_⟩
      have h' := fs_mono (kp hj z q1) a h
      exact hn a (no hj z q1 a h') (re.mo z q1 h').2.2 (q3 a h')
  · rcases key z1 z3 z5 with ⟨r1, r2, r3⟩ | ⟨r1, r2, r3⟩
    · rcases key z2 z4 z6 with ⟨t1, t2, t3⟩ | ⟨t1, t2, t3⟩
      · exact r1.trans t1.symm
      · subst r2 r3
        exact (cross t1 t2 z4 t3 z5).elim
    · rcases key z2 z4 z6 with ⟨t1, t2, t3⟩ | ⟨t1, t2, t3⟩
      · subst t2 t3
        exact (cross r1 r2 z3 r3 z6).elim
      · exact re.dj j j' s1 s2 v1 v2 a r2 t2 z3 z4 r3 t3
  · obtain ⟨j, s1, v1, z1, z2, z3⟩ := z
    rcases key z1 z2 z3 with ⟨r1, r2, r3⟩ | ⟨r1, r2, r3⟩
    · subst r2 r3
      rcases hf q z3 with h | h
      · exact .inl ⟨i, s, v1, e, hp, h⟩
      · exact .inr h
    · exact .inl ⟨j, s1, v1, r2, z2, r3⟩
  · rcases get_set z with ⟨rfl, e1, _⟩ | ⟨hj, z⟩
    · obtain ⟨ds0, q⟩ := hio x e1.symm
      exact ⟨⟨ds0, by rw [e, q]⟩, rfl⟩
    · exact ⟨⟨x, z⟩, rfl⟩
theorem mutS_ok {K : PySem.W.Frag} {G H H' : Hp} {sg : L2.St} {dl : S} {i : Nat} {s s' : Sl} {v : V} (re : Rel K G H sg dl) (e : dl[i]? = some s) (hp : sg[i]? = some (some v)) (hm : mine s' = true) (ha : SlOk K G H' s' v) (hf : ∀ a, Fs H' s' v a → Fs H s v a ∨ H a = none)
    (hk : ∀ a, ¬ Fs H s v a → H a ≠ none → H' a = H a) (hd : ∀ a, H a ≠ none → H' a ≠ none) (hg : ∀ a, Fs H s v a → G a = none) (hio : ∀ ds, s' = .own true ds → ∃ ds0, s = .own true ds0) :
    Stp K G H sg dl G H' sg (dl.set i s') := by
  have hgn : ∀ a, H a = none → G a = none := fun a h => by
    cases q : G a with
    | none => rfl
    | some o => rw [re.ex a o q] at h; cases h
  refine mutG_ok re e hp hm ha hf (fun a h => (hf a h).elim (hg a) (hgn a)) (Ex.refl G) (fun a o z => ?_) (fun a o h1 h2 => (hk a h1 (some_ne h2)).trans h2) (fun _ _ _ h => h) hd hio
  have h1 := re.ex a o z
  rw [hk a (fun zz => by rw [hg a zz] at z; cases z) (some_ne h1)]
  exact h1
theorem mut_ok {K : PySem.W.Frag} {G H : Hp} {sg : L2.St} {dl : S} {i : Nat} {b : Bool} {ds ds' : List PyData} {p : Addr} {vs' : List V} (re : Rel K G H sg dl) (e : dl[i]? = some (.own b ds)) (hp : sg[i]? = some (some (.ref p))) (ha : DaAll K G vs' ds') :
    Stp K G H sg dl G (upd H p (.lst vs')) sg (dl.set i (.own b ds')) ∧ Kp dl (dl.set i (.own b ds')) := by
  obtain ⟨p1, vs1, q1, q2, q3, q4⟩ := re.own i b ds e
  rw [hp] at q1
  cases q1
  have hi := lt_of_get e
  have hs : (dl.set i (.own b ds'))[i]? = some (.own b ds') := List.getElem?_set_self hi
  refine ⟨mutS_ok re e hp rfl ⟨p, vs', rfl, upd_same, ha⟩ (fun a h => .inl h) (fun a h _ => upd_ne fun z => h (by rw [z]; rfl)) (fun a h => ?_) (fun a h => by cases h; exact q2) (fun x h => by cases h; exact ⟨ds, rfl⟩), List.length_set, fun j => ?_⟩
  · by_cases zz : a = p
    · subst zz; rw [upd_same]; exact fun q => nomatch q
    · rw [upd_ne zz]; exact h
  · by_cases hj : j = i
    · subst hj
      rw [e, hs]
      exact .inl ⟨ds', rfl⟩
    · rw [set_ne hj]
      exact (Kp.refl dl).2 j
theorem kp_own {dl dl' : S} (k : Kp dl dl') {i : Nat} {b : Bool} {ds : List PyData} (e : dl'[i]? = some (.own b ds)) : ∃ ds0, dl[i]? = some (.own b ds0) := by
  have q := k.2 i
  cases h : dl[i]? with
  | none => rw [h] at q; dsimp only at q; rw [q] at e; cases e
  | some s =>
    rw [h] at q
    cases s with
    | no => dsimp only at q; rw [q] at e; cases e
    | val d => dsimp only at q; rw [q] at e; cases e
    | own c x =>
      dsimp only at q
      rcases q with ⟨y, q⟩ | ⟨_, y, q⟩
      · rw [q] at e; cases e; exact ⟨x, rfl⟩
      · rw [q] at e; cases e
    | big m =>
      dsimp only at q
      rcases q with ⟨y, q⟩ | ⟨y, q⟩
      · rw [q] at e; cases e
      · rw [q] at e; cases e
/-- slot i's list becomes g of it -/
def chg (dl : S) (i : Nat) (g : List PyData → Option (List PyData)) : Option S := match dl[i]? with
  | some (.own b ds) => (g ds).map fun ds' => dl.set i (.own b ds')
  | _ => none
def isOwn (dl : S) (i : Nat) : Bool := match dl[i]? with
  | some (.own _ _) => true
  | _ => false
theorem isOwn_ok {dl : S} {i : Nat} (h : isOwn dl i = true) : ∃ b ds, dl[i]? = some (.own b ds) := by
  unfold isOwn at h
  split at h
  · exact ⟨_, _, by assumption⟩
  · cases h
/-- x.append(e) -/
def app1 (d : PyData) (ds : List PyData) : Option (List PyData) := if ds.length < 100000 then some (ds ++ [d]) else none
def appR (dl : S) (i : Nat) (r : Rv) : Option S := (stb dl r).bind fun x => chg x.2 i (app1 x.1)
def dApp (i : Nat) (f : S → Out Rv) : S → Fl := fun dl => if isOwn dl i then (f dl).fl fun r d1 => ofO (appR d1 i r) else .bad
theorem ss_app (i : Nat) {x : Str} {e : Expr} {p0 apos cpos pos : Pos} {f : S → Out Rv} (he : SE X W e f) (hN : X.N[i]? = some x := by rfl) (hv : Vis X.env.scope x := by first | exact Or.inl rfl | exact Or.inr (Or.inl rfl) | exact Or.inr (Or.inr rfl)) (hd : (x == ("__debug__" : Str)) = false := by decide)
    (hcd : (x == ("__classdict__" : Str)) = false := by decide) (hbase : attributeBase (.Name x p0) "append" X.env (eval (.Name x p0) X.env) = eval (.Name x p0) X.env := by rfl)
    (hfew : ((backTo cpos (starEach [e] X.env)).all (fun x => !x.1) && (backToKw cpos (keywordEach [] X.env)).all (fun x => x.1.isSome)
      && decide ([e].length + ([] : List Keyword).length + (if ([] : List Keyword).isEmpty then 0 else 1) < 30)) = true := by rfl)
    (hline : (apos.endLine == cpos.line) = true := by rfl) (hst : starEach [e] X.env = (false, eval e X.env) :: starEach [] X.env := by rfl)
    (hs : swapsWith (.Call (.Attribute (.Name x p0) "append" apos) [e] [] cpos) none pos.line X.env = pure false := by rfl) :
    SS X W (.Expr (.Call (.Attribute (.Name x p0) "append" apos) [e] [] cpos) pos) (dApp i f) := by
  obtain ⟨t, p, s⟩ := he
  refine ⟨_, ps_expr (pe_bm PySem.F.plainAttrs_list PySem.F.slot_list_append PySem.F.type_list_append mt_append (pe_var hN hv hd hcd) (pa_cons p pa_nil hst) hbase hfew hline hst rfl) hs, fun G H sg dl D re h => ?_⟩
  unfold dApp at h
  cases hi : isOwn dl i with
  | false => rw [hi] at h; exact h.elim
  | true =>
    rw [hi] at h
    obtain ⟨b, ds, ei⟩ := isOwn_ok hi
    obtain ⟨pa, vs, q1, q2, q3, q4⟩ := re.own i b ds ei
    refine ⟨.ref pa, q1, .inl ⟨rfl, vs, .inl (.inl q3)⟩, ?_⟩
    refine s G H sg dl _ re ((post_fl h).imp fun r d1 G1 H1 s1 k1 h1 v q => ?_)
    unfold appR at h1
    cases e1 : stb d1 r with
    | none => rw [e1] at h1; exact h1.elim
    | some y =>
      obtain ⟨d, d2⟩ := y
      rw [e1] at h1
      obtain ⟨G2, s2, _, z2, _⟩ := stb_ok s1 q e1
      have h1' : PostS X W G H sg dl D (ofO (chg d2 i (app1 d))) := h1
      unfold chg at h1'
      cases e2 : d2[i]? with
      | none => rw [e2] at h1'; exact h1'.elim
      | some sl =>
        rw [e2] at h1'
        cases sl with
        | no => exact h1'.elim
        | val _ => exact h1'.elim
        | big _ => exact h1'.elim
        | own b2 ds2 =>
          have h2 : PostS X W G H sg dl D (ofO ((app1 d ds2).map fun ds' => d2.set i (.own b2 ds'))) := h1'
          unfold app1 at h2
          by_cases hl : ds2.length < 100000
          · rw [if_pos hl] at h2
            obtain ⟨p2, vs2, w1, w2, w3, w4⟩ := s2.rel.own i b2 ds2 e2
            rw [q1] at w1
            cases w1
            refine ⟨pa, vs2, v, rfl, rfl, w3, by rw [w4.len]; exact sz_lt hl, ?_⟩
            exact h2 _ _ _ (s2.trans (mut_ok s2.rel e2 q1 (w4.append (.cons z2 .nil))).1)
          · rw [if_neg hl] at h2; exact h2.elim
/-- x[k] = e -/
def put1 (k : Int) (d : PyData) (ds : List PyData) : Option (List PyData) := (ixN ds.length k).map fun j => ds.set j d
def stIR (dl : S) (i : Nat) (r ri : Rv) : Option S := match rd dl ri with
  | some (.int k) => (stb dl r).bind fun x => chg x.2 i (put1 k x.1)
  | _ => none
def dStI (i : Nat) (fi fe : S → Out Rv) : S → Fl := fun dl => (fe dl).fl fun r d1 => if isOwn d1 i then (fi d1).fl fun ri d2 => ofO (stIR d2 i r ri) else .bad
theorem ss_stI (i : Nat) {x : Str} {ei e : Expr} {p0 p1 pos : Pos} {fi fe : S → Out Rv} (he : SE X W e fe) (hi : SE X W ei fi) (hN : X.N[i]? = some x := by rfl) (hv : Vis X.env.scope x := by first | exact Or.inl rfl | exact Or.inr (Or.inl rfl) | exact Or.inr (Or.inr rfl)) (hd : (x == ("__debug__" : Str)) = false := by decide)
    (hcd : (x == ("__classdict__" : Str)) = false := by decide)
    (ha : ∀ v, assign (.Subscript (.Name x p0) ei p1) X.env v = (do
      let ov ← holding [v] (eval (.Name x p0) X.env)
      let iv ← holding [v, ov] (eval ei X.env)
      standAt p1
      holding [v, ov, iv] (setItem ov iv v)
      release [v, ov, iv] []) := by intro _; rfl)
    (hs : swapsWithSole [.Subscript (.Name x p0) ei p1] e pos.line X.env = pure false := by rfl) (hw : swappedStores [.Subscript (.Name x p0) ei p1] e X.env = pure none := by rfl)
    (h1 : (assignEach [.Subscript (.Name x p0) ei p1] X.env).map (·.2) = [assign (.Subscript (.Name x p0) ei p1) X.env] := by rfl) :
    SS X W (.Assign [.Subscript (.Name x p0) ei p1] e pos) (dStI i fi fe) := by
  obtain ⟨t, p, s⟩ := he
  obtain ⟨ti, pi, si⟩ := hi
  refine ⟨_, ps_asg p (pg_sub (pe_var hN hv hd hcd) pi set_list ha) hs hw h1, fun G H sg dl D re h => ?_⟩
  refine s G H sg dl _ re ((post_fl h).imp fun r d1 G1 H1 s1 k1 h1 v q => ?_)
  cases hi : isOwn d1 i with
  | false => rw [hi] at h1; exact h1.elim
  | true =>
    rw [hi] at h1
    obtain ⟨b, ds, ei⟩ := isOwn_ok hi
    obtain ⟨pa, vs, q1, q2, q3, q4⟩ := s1.rel.own i b ds ei
    refine ⟨.ref pa, q1, ?_⟩
    refine si G1 H1 sg d1 _ s1.rel ((post_fl2 h1 s1).imp fun ri d2 G2 H2 s2 k2 h2 vi qi => ?_)
    have q' := q.mono s2 k2
    have s12 := s1.trans s2
    unfold stIR at h2
    cases er : rd d2 ri with
    | none => rw [er] at h2; exact h2.elim
    | some xi =>
      rw [er] at h2
      cases xi with
      | int k =>
        have zi := (qi.tr s2.rel er).int
        have h2' : PostS X W G H sg dl D (ofO ((stb d2 r).bind fun x => chg x.2 i (put1 k x.1))) := h2
        cases e1 : stb d2 r with
        | none => rw [e1] at h2'; exact h2'.elim
        | some y =>
          obtain ⟨d, d3⟩ := y
          rw [e1] at h2'
          obtain ⟨G3, s3, _, z3, _⟩ := stb_ok s12 q' e1
          have h3 : PostS X W G H sg dl D (ofO (chg d3 i (put1 k d))) := h2'
          unfold chg at h3
          cases e2 : d3[i]? with
          | none => rw [e2] at h3; exact h3.elim
          | some sl =>
            rw [e2] at h3
            cases sl with
            | no => exact h3.elim
            | val _ => exact h3.elim
            | big _ => exact h3.elim
            | own b2 ds2 =>
              have h4 : PostS X W G H sg dl D (ofO ((put1 k d ds2).map fun ds' => d3.set i (.own b2 ds'))) := h3
              unfold put1 at h4
              cases e3 : ixN ds2.length k with
              | none => rw [e3] at h4; exact h4.elim
              | some j =>
                rw [e3] at h4
                obtain ⟨p2, vs2, w1, w2, w3, w4⟩ := s3.rel.own i b2 ds2 e2
                rw [q1] at w1
                cases w1
                refine ⟨pa, vs2, k, j, rfl, zi, w3, by rw [w4.len]; exact e3, ?_⟩
                exact h4 _ _ _ (s3.trans (mut_ok s3.rel e2 q1 (w4.set z3 j)).1)
      | none => exact h2.elim
      | bool i => exact h2.elim
      | str i => exact h2.elim
      | list i => exact h2.elim
      | tuple i => exact h2.elim
      | dict i => exact h2.elim
end
end DL

namespace DL
open PySem L2
/-! ### what is walked -/
def Wk (K : PySem.W.Frag) (J : It) (G : Hp) (ds : List PyData) : Prop := ∀ (i : Nat) (G' H' : Hp), Ex G G' → Ex G' H' →
  (∀ d, ds[i]? = some d → J.go i H' ∧ ∀ x H2, J.yld i H' x H2 → ∃ G2, Alc G' H' G2 H2 ∧ Da K G2 x d) ∧ (ds.length ≤ i → J.stop i H')
def SoI (X : Cx) (W : WX) (wi : TI) (f : S → Out (List PyData)) : Prop := ∀ G H sg dl (R : It → Hp → Prop), Rel X.K G H sg dl →
  Post X W G H sg dl (fun ds _ G1 H1 => ∀ J, Wk X.K J G1 ds → R J H1) (f dl) → wi sg H R
def SI (X : Cx) (W : WX) (tg iter : Expr) (f : S → Out (List PyData)) : Prop := ∃ wi, PI X tg iter wi ∧ SoI X W wi f
section
variable {X : Cx} {W : WX} {K : PySem.W.Frag}
theorem wk_list {G : Hp} {a : Addr} {vs : List V} {ds : List PyData} (h : SqL K G a vs) (z : DaAll K G vs ds) : Wk K (Itl K a) G ds := by
  intro i G' H' e1 e2
  have h' : SqL K H' a vs := ex_l (e1.trans e2) h
  refine ⟨fun d hd => ?_, fun hl => ⟨vs, h', by rw [z.len]; exact hl⟩⟩
  obtain ⟨v, hv, dv⟩ := z.at hd
  refine ⟨⟨vs, v, h', hv⟩, fun x H2 y => ?_⟩
  obtain ⟨e, y⟩ := y
  subst e
  have e3 := y vs h'
  rw [hv] at e3
  cases e3
  exact ⟨G', Alc.refl e2, dv.ex e1⟩
theorem wk_tup {G : Hp} {a : Addr} {vs : List V} {ds : List PyData} (h : SqT K G a vs) (z : DaAll K G vs ds) : Wk K (Itt K a) G ds := by
  intro i G' H' e1 e2
  have h' : SqT K H' a vs := ex_t (e1.trans e2) h
  refine ⟨fun d hd => ?_, fun hl => ⟨vs, h', by rw [z.len]; exact hl⟩⟩
  obtain ⟨v, hv, dv⟩ := z.at hd
  refine ⟨⟨vs, v, h', hv⟩, fun x H2 y => ?_⟩
  obtain ⟨e, y⟩ := y
  subst e
  have e3 := y vs h'
  rw [hv] at e3
  cases e3
  exact ⟨G', Alc.refl e2, dv.ex e1⟩
def rngD (lo : Int) (n : Nat) : List PyData := (List.range n).map fun (k : Nat) => PyData.int (lo + (k : Int))
theorem rngD_len (lo : Int) (n : Nat) : (rngD lo n).length = n := by unfold rngD; rw [List.length_map, List.length_range]
theorem wk_rng {G : Hp} {lo : Int} {n : Nat} : Wk K (Itr lo n) G (rngD lo n) := by
  intro i G' H' e1 e2
  refine ⟨fun d hd => ?_, fun hl => by rw [rngD_len] at hl; exact hl⟩
  have hi : i < n := by have := lt_of_get hd; rw [rngD_len] at this; exact this
  have ed : d = .int (lo + (i : Int)) := by
    unfold rngD at hd
    rw [List.getElem?_map, List.getElem?_range hi] at hd
    exact (Option.some.inj hd).symm
  refine ⟨hi, fun x H2 y => ?_⟩
  obtain ⟨e, y⟩ := y
  subst e y ed
  exact ⟨G', Alc.refl e2, .int _⟩
/-- over a list or a tuple (a slot's own list is given up) -/
def itD : Option (PyData × S) → Out (List PyData) := fun o => match o with
  | some (.list ds, d2) => .ok ds d2
  | some (.tuple ds, d2) => .ok ds d2
  | _ => .bad
def dIt (f : S → Out Rv) : S → Out (List PyData) := fun dl => (f dl).bind fun r d1 => itD (stb d1 r)
theorem pi_or {tg l : Expr} {w1 w2 : TI} (h1 : PI X tg l w1) (h2 : PI X tg l w2) : PI X tg l (fun sg H R => w1 sg H R ∨ w2 sg H R) :=
  ⟨fun pins s σ H R I h => h.elim (h1.run pins s σ H R I) (h2.run pins s σ H R I)⟩
theorem si_seq {tg e : Expr} {f : S → Out Rv} (he : SE X W e f) : SI X W tg e (dIt f) := by
  obtain ⟨t, p, s⟩ := he
  refine ⟨_, pi_or (pi_list p) (pi_tup p), fun G H sg dl R re h => ?_⟩
  unfold dIt at h
  cases ho : f dl with
  | bad => rw [ho] at h; exact h.elim
  | ex c d1 =>
    rw [ho] at h
    refine .inl (s G H sg dl _ re ?_)
    rw [ho]
    exact h
  | ok r d1 =>
    rw [ho] at h
    have h' : Post X W G H sg dl (fun ds _ G1 H1 => ∀ J, Wk X.K J G1 ds → R J H1) (itD (stb d1 r)) := h
    cases e1 : stb d1 r with
    | none => rw [e1] at h'; exact h'.elim
    | some y =>
      obtain ⟨d, d2⟩ := y
      rw [e1] at h'
      cases d with
      | list ds =>
        refine .inl (s G H sg dl _ re ?_)
        rw [ho]
        intro G1 H1 s1 k1 v q
        obtain ⟨G2, s2, k2, z2, _⟩ := stb_ok s1 q e1
        cases z2 with
        | lst hs ha => exact ⟨_, rfl, ⟨_, ex_l s2.rel.ex hs⟩, h' G2 H1 s2 (k1.trans k2) _ (wk_list hs ha)⟩
      | tuple ds =>
        refine .inr (s G H sg dl _ re ?_)
        rw [ho]
        intro G1 H1 s1 k1 v q
        obtain ⟨G2, s2, k2, z2, _⟩ := stb_ok s1 q e1
        cases z2 with
        | tup hs ha => exact ⟨_, rfl, ⟨_, ex_t s2.rel.ex hs⟩, h' G2 H1 s2 (k1.trans k2) _ (wk_tup hs ha)⟩
      | none => exact h'.elim
      | bool _ => exact h'.elim
      | int _ => exact h'.elim
      | str _ => exact h'.elim
      | dict _ => exact h'.elim
/-- range(n), range(a, b) -/
def rngA1 : Option (List PyData) → S → Out (List PyData) := fun o dl => match o with
  | some [.int j] => if j ≤ 1000000 ∧ -1000000 ≤ j then .ok (rngD 0 j.toNat) dl else .bad
  | _ => .bad
def rngA2 : Option (List PyData) → S → Out (List PyData) := fun o dl => match o with
  | some [.int i, .int j] => if (j ≤ 1000000 ∧ -1000000 ≤ j) ∧ (i ≤ 1000000 ∧ -1000000 ≤ i) then .ok (rngD i (j - i).toNat) dl else .bad
  | _ => .bad
def dRng1 (f : S → Out (List Rv)) : S → Out (List PyData) := fun dl => (f dl).bind fun rs d1 => rngA1 (rds d1 rs) d1
def dRng2 (f : S → Out (List Rv)) : S → Out (List PyData) := fun dl => (f dl).bind fun rs d1 => rngA2 (rds d1 rs) d1
theorem si_rng1 {tg a : Expr} {p pos : Pos} {f : S → Out (List Rv)} (hg : Gl X "range") (hm : X.mg "range" = none) (ha : SA X W [a] f) (hs : starEach [a] X.env = [(false, eval a X.env)] := by rfl) : SI X W tg (.Call (.Name "range" p) [a] [] pos) (dRng1 f) := by
  obtain ⟨t, pa, sa⟩ := ha
  refine ⟨_, pi_range1 hg hm pa hs, fun G H sg dl R re h => ?_⟩
  refine sa G H sg dl _ re ((post_bind h).imp fun rs d1 G1 H1 s1 k1 h1 vs q => ?_)
  unfold rngA1 at h1
  split at h1
  · rename_i j e1
    have tr := RvsOk.tr s1.rel q e1
    obtain ⟨v, rfl, tv⟩ := tr1 tr
    have ev := tv.int
    subst ev
    by_cases hj : j ≤ 1000000 ∧ -1000000 ≤ j
    · rw [if_pos hj] at h1
      exact ⟨j, rfl, by omega, by omega, h1 G1 H1 (Stp.refl s1.rel) (Kp.refl d1) _ wk_rng⟩
    · rw [if_neg hj] at h1; exact h1.elim
  · exact h1.elim
theorem si_rng2 {tg a b : Expr} {p pos : Pos} {f : S → Out (List Rv)} (hg : Gl X "range") (hm : X.mg "range" = none) (ha : SA X W [a, b] f) (hs : starEach [a, b] X.env = [(false, eval a X.env), (false, eval b X.env)] := by rfl) (hs2 : starEach [b] X.env = [(false, eval b X.env)] := by rfl) : SI X W tg (.Call (.Name "range" p) [a, b] [] pos) (dRng2 f) := by
  obtain ⟨t, pa, sa⟩ := ha
  refine ⟨_, pi_range2 hg hm pa hs hs2, fun G H sg dl R re h => ?_⟩
  refine sa G H sg dl _ re ((post_bind h).imp fun rs d1 G1 H1 s1 k1 h1 vs q => ?_)
  unfold rngA2 at h1
  split at h1
  · rename_i i j e1
    have tr := RvsOk.tr s1.rel q e1
    obtain ⟨v, u, rfl, tv, tu⟩ := tr2 tr
    have ev := tv.int
    have eu := tu.int
    subst ev eu
    by_cases hj : (j ≤ 1000000 ∧ -1000000 ≤ j) ∧ (i ≤ 1000000 ∧ -1000000 ≤ i)
    · rw [if_pos hj] at h1
      exact ⟨i, j, rfl, ⟨by omega, by omega, by omega, by omega⟩, h1 G1 H1 (Stp.refl s1.rel) (Kp.refl d1) _ wk_rng⟩
    · rw [if_neg hj] at h1; exact h1.elim
  · exact h1.elim

/-! ### targets -/
def SoG (K : PySem.W.Frag) (vs : List Nat) (g : TG) (put : S → PyData → Option S) : Prop := (∀ dl d dl', put dl d = some dl' → dl'.length = dl.length ∧ ∀ i, i ∉ vs → dl'[i]? = dl[i]?) ∧
  ∀ (G0 H0 : Hp) (sg0 : L2.St) (dl0 : S) (G H : Hp) (sg : L2.St) (dl : S) (x : V) (d : PyData) (dl' : S) (Q : L2.St → Hp → Prop),
  Stp K G0 H0 sg0 dl0 G H sg dl → Da K G x d → put dl d = some dl' → (∀ sg', Stp K G0 H0 sg0 dl0 G H sg' dl' → sg'.length = sg.length → (∀ i, i ∉ vs → sg'[i]? = sg[i]?) → Q sg' H) → g x sg H Q
def tgN (i : Nat) : S → PyData → Option S := fun dl d => some (dl.set i (.val d))
def tgT (is : List Nat) : S → PyData → Option S := fun dl d => match d with
  | .tuple ds => if ds.length = is.length then some (setAll dl is ds) else none
  | _ => none
theorem sog_n (i : Nat) : SoG K [i] (gName i) (tgN i) := by
  refine ⟨fun dl d dl' e => ?_, fun G0 H0 sg0 dl0 G H sg dl x d dl' Q s z e q => ?_⟩
  · cases e
    exact ⟨List.length_set, fun j hj => set_ne fun z => hj (by rw [z]; exact List.mem_cons_self)⟩
  · cases e
    exact q _ (setV_ok s z i) List.length_set fun j hj => set_ne fun z => hj (by rw [z]; exact List.mem_cons_self)
theorem setAll_out : ∀ (is : List Nat) (ds : List PyData) (dl : S), (setAll dl is ds).length = dl.length ∧ ∀ i, i ∉ is → (setAll dl is ds)[i]? = dl[i]?
  | [], ds, dl => by unfold setAll; exact ⟨rfl, fun _ _ => rfl⟩
  | i :: is, [], dl => by unfold setAll; exact ⟨rfl, fun _ _ => rfl⟩
  | i :: is, d :: ds, dl => by
    unfold setAll
    obtain ⟨h1, h2⟩ := setAll_out is ds (dl.set i (.val d))
    refine ⟨h1.trans List.length_set, fun j hj => ?_⟩
    rw [h2 j fun z => hj (List.mem_cons_of_mem _ z)]
    exact set_ne fun z => hj (by rw [z]; exact List.mem_cons_self)
theorem gAll_okS {K : PySem.W.Frag} {G H H0 G0 : Hp} {sg0 : L2.St} {dl0 : S} {Q : L2.St → Hp → Prop} : ∀ {is : List Nat} {sg : L2.St} {dl : S} {vs : List V} {ds : List PyData}, Stp K G0 H0 sg0 dl0 G H sg dl → DaAll K G vs ds → ds.length = is.length →
    (∀ sg', Stp K G0 H0 sg0 dl0 G H sg' (setAll dl is ds) → sg'.length = sg.length → (∀ i, i ∉ is → sg'[i]? = sg[i]?) → Q sg' H) → gAll is vs sg H Q
  | [], sg, dl, vs, ds, s, z, hl, q => by
    cases ds with
    | cons _ _ => cases hl
    | nil => cases z; exact ⟨rfl, q sg s rfl fun _ _ => rfl⟩
  | i :: is, sg, dl, vs, ds, s, z, hl, q => by
    cases ds with
    | nil => cases hl
    | cons d ds =>
      cases z with
      | cons z1 z2 =>
        refine ⟨_, _, rfl, gAll_okS (setV_ok s z1 i) z2 (Nat.succ.inj hl) fun sg' s' l' o' => q sg' s' (l'.trans List.length_set) fun j hj => ?_⟩
        rw [o' j fun z => hj (List.mem_cons_of_mem _ z)]
        exact set_ne fun z => hj (by rw [z]; exact List.mem_cons_self)
theorem sog_t (is : List Nat) : SoG K is (gTup K is.length (gAll is)) (tgT is) := by
  refine ⟨fun dl d dl' e => ?_, fun G0 H0 sg0 dl0 G H sg dl x d dl' Q s z e q => ?_⟩
  · cases d <;> try (cases e)
    rename_i ds
    have e' : (if ds.length = is.length then some (setAll dl is ds) else none) = some dl' := e
    by_cases hl : ds.length = is.length
    · rw [if_pos hl] at e'
      cases e'
      exact setAll_out is ds dl
    · rw [if_neg hl] at e'; cases e'
  · cases d <;> try (cases e)
    rename_i ds
    have e' : (if ds.length = is.length then some (setAll dl is ds) else none) = some dl' := e
    by_cases hl : ds.length = is.length
    · rw [if_pos hl] at e'
      cases e'
      cases z with
      | tup hs ha => exact ⟨_, _, rfl, ex_t s.rel.ex hs, by rw [ha.len]; exact hl, gAll_okS s ha hl q⟩
    · rw [if_neg hl] at e'; cases e'

/-! ### for -/
def forD (put : S → PyData → Option S) (body : S → Fl) : List PyData → S → Fl
  | [], dl => .nx dl
  | d :: ds, dl => match put dl d with
    | none => .bad
    | some d1 => match body d1 with
      | .nx d2 => forD put body ds d2
      | .cnt d2 => forD put body ds d2
      | .brk d2 => .nx d2
      | o => o
def dFor (it : S → Out (List PyData)) (put : S → PyData → Option S) (body : S → Fl) : S → Fl := fun dl => (it dl).fl fun ds d1 => forD put body ds d1
theorem so_for {wi : TI} {g : TG} {tb : TS} {it : S → Out (List PyData)} {put : S → PyData → Option S} {body : S → Fl} {vs0 : List Nat} (si : SoI X W wi it) (sg' : SoG X.K vs0 g put) (sb : SoS X W tb body) : SoS X W (tFor wi g tb) (dFor it put body) := by
  intro G H sg dl D re h
  refine si G H sg dl _ re ((post_fl h).imp fun ds d1 G1 H1 s1 k1 h1 J wk => ?_)
  refine ⟨fun i m sgi Hi => ∃ Gi di, Stp X.K G H sg dl Gi Hi sgi di ∧ Ex G1 Gi ∧ i ≤ ds.length ∧ m = ds.length - i ∧ PostS X W G H sg dl D (forD put body (ds.drop i) di),
    ⟨ds.length, G1, d1, s1, Ex.refl G1, Nat.zero_le _, rfl, h1⟩, ?_⟩
  rintro i m sgi Hi ⟨Gi, di, s, e1, hi, rfl, hp⟩
  obtain ⟨go, stop⟩ := wk i Gi Hi e1 s.rel.ex
  by_cases hlt : i < ds.length
  · have hd : ds[i]? = some ds[i] := List.getElem?_eq_getElem hlt
    obtain ⟨g1, y1⟩ := go ds[i] hd
    have ed : ds.drop i = ds[i] :: ds.drop (i + 1) := List.drop_eq_getElem_cons hlt
    rw [ed] at hp
    unfold forD at hp
    refine .inr ⟨g1, fun sg2 H2 => ∃ G2 d2, Stp X.K G H sg dl G2 H2 sg2 d2 ∧ Ex G1 G2 ∧ PostS X W G H sg dl D (forD put body (ds.drop (i + 1)) d2), fun sg2 H2 ⟨G2, d2, z1, z2, z3⟩ => ⟨ds.length - (i + 1), by omega, G2, d2, z1, z2, hlt, rfl, z3⟩, fun x H2 y => ?_⟩
    obtain ⟨G2, al, dx⟩ := y1 x H2 y
    have s2 := s.trans (al.stp s.rel)
    cases ep : put di ds[i] with
    | none => rw [ep] at hp; exact hp.elim
    | some d3 =>
      rw [ep] at hp
      refine sg'.2 G H sg dl G2 H2 sgi di x ds[i] d3 _ s2 dx ep fun sg3 s3 _ _ => ?_
      refine sb G2 H2 sg3 d3 _ s3.rel ?_
      dsimp only at hp
      cases eb : body d3 with
      | bad => rw [eb] at hp; exact hp
      | nx d4 =>
        rw [eb] at hp
        exact fun G4 H4 sg4 s4 => ⟨G4, d4, s3.trans s4, (e1.trans al.g).trans s4.g, hp⟩
      | cnt d4 =>
        rw [eb] at hp
        exact fun G4 H4 sg4 s4 => ⟨G4, d4, s3.trans s4, (e1.trans al.g).trans s4.g, hp⟩
      | brk d4 =>
        rw [eb] at hp
        exact fun G4 H4 sg4 s4 => hp G4 H4 sg4 (s3.trans s4)
      | ret r d4 =>
        rw [eb] at hp
        exact fun v G4 H4 sg4 s4 q => hp v G4 H4 sg4 (s3.trans s4) (q.from s3.d)
      | ex c d4 =>
        rw [eb] at hp
        exact fun C G4 H4 sg4 hc s4 => hp C G4 H4 sg4 hc (s3.trans s4)
  · have ei : i = ds.length := by omega
    subst ei
    refine .inl ⟨stop (Nat.le_refl _), ?_⟩
    rw [List.drop_length] at hp
    exact hp Gi Hi sgi s
theorem ss_for {tg iter : Expr} {body : List Stmt} {pos : Pos} {g : TG} {it : S → Out (List PyData)} {put : S → PyData → Option S} {fb : S → Fl} (hp : PassesOwn (model X.prog X.w) X.A X.env X.xe) (hc : X.calm = true) (hi : SI X W tg iter it) {vs0 : List Nat} (hg : PG X tg g) (hs : SoG X.K vs0 g put) (hb : SB X W body fb)
    (hf : ∀ x, foldedSetIterable iter X.env x = pure x := by intro _; rfl) : SS X W (.For tg iter body [] pos) (dFor it put fb) :=
  let ⟨_, pi, si⟩ := hi
  let ⟨_, pb, sb⟩ := hb
  ⟨_, ps_for hp hc pi hg pb hf, so_for si hs sb⟩

/-! ### while -/
def whD (c : S → Out Bool) (body : S → Fl) : Nat → S → Fl
  | 0, _ => .bad
  | n + 1, dl => (c dl).fl fun b d1 => if b then match body d1 with
    | .nx d2 => whD c body n d2
    | .cnt d2 => whD c body n d2
    | .brk d2 => .nx d2
    | o => o
    else .nx d1
theorem so_while (n : Nat) {tc : TT} {tb : TS} {c : S → Out Bool} {body : S → Fl} (sc : SoT X W tc c) (sb : SoS X W tb body) : SoS X W (tWhile tc tb) (whD c body n) := by
  intro G H sg dl D re h
  refine ⟨fun m sgi Hi => ∃ Gi di, Stp X.K G H sg dl Gi Hi sgi di ∧ PostS X W G H sg dl D (whD c body m di), ⟨n, G, dl, Stp.refl re, h⟩, ?_⟩
  rintro m sgi Hi ⟨Gi, di, s, hp⟩
  cases m with
  | zero => exact hp.elim
  | succ m =>
    unfold whD at hp
    refine sc Gi Hi sgi di _ s.rel ((post_fl2 hp s).imp fun b d1 G1 H1 s1 k1 h1 => ?_)
    have s' := s.trans s1
    cases b with
    | false => exact h1 G1 H1 sgi s'
    | true =>
      refine ⟨fun sg2 H2 => ∃ G2 d2, Stp X.K G H sg dl G2 H2 sg2 d2 ∧ PostS X W G H sg dl D (whD c body m d2), fun sg2 H2 ⟨G2, d2, z1, z2⟩ => ⟨m, Nat.lt_succ_self m, G2, d2, z1, z2⟩, ?_⟩
      refine sb G1 H1 sgi d1 _ s1.rel ?_
      have h2 : PostS X W G H sg dl D (match body d1 with
        | .nx d2 => whD c body m d2
        | .cnt d2 => whD c body m d2
        | .brk d2 => .nx d2
        | o => o) := h1
      cases eb : body d1 with
      | bad => rw [eb] at h2; exact h2
      | nx d4 =>
        rw [eb] at h2
        exact fun G4 H4 sg4 s4 => ⟨G4, d4, s'.trans s4, h2⟩
      | cnt d4 =>
        rw [eb] at h2
        exact fun G4 H4 sg4 s4 => ⟨G4, d4, s'.trans s4, h2⟩
      | brk d4 =>
        rw [eb] at h2
        exact fun G4 H4 sg4 s4 => h2 G4 H4 sg4 (s'.trans s4)
      | ret r d4 =>
        rw [eb] at h2
        exact fun v G4 H4 sg4 s4 q => h2 v G4 H4 sg4 (s'.trans s4) (q.from s'.d)
      | ex c d4 =>
        rw [eb] at h2
        exact fun C G4 H4 sg4 hc s4 => h2 C G4 H4 sg4 hc (s'.trans s4)
theorem ss_while (n : Nat) {c : Expr} {body : List Stmt} {pos : Pos} {fc : S → Out Bool} {fb : S → Fl} (hp : PassesOwn (model X.prog X.w) X.A X.env X.xe) (hc : ST X W c fc) (hb : SB X W body fb) : SS X W (.While c body [] pos) (whD fc fb n) :=
  let ⟨_, pc, sc⟩ := hc
  let ⟨_, pb, sb⟩ := hb
  ⟨_, ps_while hp pc pb, so_while n sc sb⟩
end
end DL

namespace DL
open PySem L2
/-! ### a comprehension's block: its own slots forgotten -/
def wipeD (dl : S) : List Nat → S
  | [] => dl
  | v :: vs => (wipeD dl vs).set v .no
def restD (dl : S) : List Nat → S → S
  | [], dl' => dl'
  | v :: vs, dl' => (restD dl vs dl').set v (dl[v]?.getD .no)
theorem wipeD_len (dl : S) : ∀ vs : List Nat, (wipeD dl vs).length = dl.length
  | [] => rfl
  | v :: vs => by unfold wipeD; rw [List.length_set, wipeD_len dl vs]
theorem restD_len (dl dl' : S) : ∀ vs : List Nat, (restD dl vs dl').length = dl'.length
  | [] => rfl
  | v :: vs => by unfold restD; rw [List.length_set, restD_len dl dl' vs]
theorem wipeD_out {dl : S} {i : Nat} : ∀ {vs : List Nat}, i ∉ vs → (wipeD dl vs)[i]? = dl[i]?
  | [], _ => rfl
  | v :: vs, h => by
    unfold wipeD
    rw [set_ne fun z => h (by rw [z]; exact List.mem_cons_self)]
    exact wipeD_out fun z => h (List.mem_cons_of_mem _ z)
theorem wipeD_in {dl : S} {i : Nat} : ∀ {vs : List Nat}, i ∈ vs → i < dl.length → (wipeD dl vs)[i]? = some .no
  | v :: vs, h, hl => by
    unfold wipeD
    by_cases hv : i = v
    · subst hv
      exact List.getElem?_set_self (by rw [wipeD_len]; exact hl)
    · rw [set_ne hv]
      rcases List.mem_cons.mp h with z | z
      · exact absurd z hv
      · exact wipeD_in z hl
theorem restD_out {dl dl' : S} {i : Nat} : ∀ {vs : List Nat}, i ∉ vs → (restD dl vs dl')[i]? = dl'[i]?
  | [], _ => rfl
  | v :: vs, h => by
    unfold restD
    rw [set_ne fun z => h (by rw [z]; exact List.mem_cons_self)]
    exact restD_out fun z => h (List.mem_cons_of_mem _ z)
theorem restD_in {dl dl' : S} {i : Nat} (he : dl'.length = dl.length) : ∀ {vs : List Nat}, i ∈ vs → (restD dl vs dl')[i]? = dl[i]?
  | v :: vs, h => by
    unfold restD
    by_cases hv : i = v
    · subst hv
      by_cases hl : i < dl.length
      · rw [List.getElem?_set_self (by rw [restD_len, he]; exact hl), List.getElem?_eq_getElem hl]
        rfl
      · rw [List.getElem?_eq_none (by rw [List.length_set, restD_len, he]; omega), List.getElem?_eq_none (by omega)]
    · rw [set_ne hv]
      rcases List.mem_cons.mp h with z | z
      · exact absurd z hv
      · exact restD_in he z
theorem wipe_out {sg : L2.St} {i : Nat} : ∀ {vs : List Nat}, i ∉ vs → (wipe sg vs)[i]? = sg[i]?
  | [], _ => rfl
  | v :: vs, h => by
    unfold wipe
    rw [set_ne fun z => h (by rw [z]; exact List.mem_cons_self)]
    exact wipe_out fun z => h (List.mem_cons_of_mem _ z)
theorem wipe_in {sg : L2.St} {i : Nat} : ∀ {vs : List Nat}, i ∈ vs → i < sg.length → (wipe sg vs)[i]? = some none
  | v :: vs, h, hl => by
    unfold wipe
    by_cases hv : i = v
    · subst hv
      exact List.getElem?_set_self (by rw [wipe_length]; exact hl)
    · rw [set_ne hv]
      rcases List.mem_cons.mp h with z | z
      · exact absurd z hv
      · exact wipe_in z hl
theorem wipe_same {sg sg' : L2.St} {vs : List Nat} (hl : sg'.length = sg.length) (h : ∀ i, i ∉ vs → sg'[i]? = sg[i]?) : wipe sg' vs = wipe sg vs := by
  refine List.ext_getElem? fun i => ?_
  by_cases hi : i ∈ vs
  · by_cases hlt : i < sg.length
    · rw [wipe_in hi hlt, wipe_in hi (by rw [hl]; exact hlt)]
    · rw [List.getElem?_eq_none (by rw [wipe_length, hl]; omega), List.getElem?_eq_none (by rw [wipe_length]; omega)]
  · rw [wipe_out hi, wipe_out hi]
    exact h i hi
theorem wipe_wipe {sg : L2.St} {vs : List Nat} : wipe (wipe sg vs) vs = wipe sg vs := wipe_same (wipe_length sg vs) fun _ h => wipe_out h
section
variable {K : PySem.W.Frag}
theorem wipe_key {dl : S} {vs : List Nat} {i : Nat} {s : Sl} (h : (wipeD dl vs)[i]? = some s) (hn : s ≠ .no) : i ∉ vs ∧ dl[i]? = some s := by
  by_cases hi : i ∈ vs
  · have hl := lt_of_get h
    rw [wipeD_len] at hl
    rw [wipeD_in hi hl] at h
    cases h
    exact absurd rfl hn
  · rw [wipeD_out hi] at h
    exact ⟨hi, h⟩
theorem fs_no {H : Hp} {s : Sl} {v : V} {a : Addr} (h : Fs H s v a) : s ≠ .no := fun z => by subst z; exact h
theorem mine_no {s : Sl} (h : mine s = true) : s ≠ .no := fun z => by subst z; cases h
theorem ow_wipe {H : Hp} {sg : L2.St} {dl : S} {vs : List Nat} {p : Addr} (h : Ow H (wipe sg vs) (wipeD dl vs) p) : ∃ (i : Nat) (s : Sl) (v : V), i ∉ vs ∧ dl[i]? = some s ∧ sg[i]? = some (some v) ∧ Fs H s v p := by
  obtain ⟨i, s, v, h1, h2, h3⟩ := h
  obtain ⟨hi, h1'⟩ := wipe_key h1 (fs_no h3)
  rw [wipe_out hi] at h2
  exact ⟨i, s, v, hi, h1', h2, h3⟩
theorem rel_wipe {G H : Hp} {sg : L2.St} {dl : S} {vs : List Nat} (re : Rel K G H sg dl) : Rel K G H (wipe sg vs) (wipeD dl vs) := by
  refine ⟨by rw [wipe_length, wipeD_len]; exact re.len, re.ex, fun i d h => ?_, fun i s h hm => ?_, fun i j s s' v v' p h1 h2 h3 h4 h5 h6 => ?_⟩
  · obtain ⟨hi, h'⟩ := wipe_key h (fun z => nomatch z)
    rw [wipe_out hi]
    exact re.val i d h'
  · obtain ⟨hi, h'⟩ := wipe_key h (mine_no hm)
    rw [wipe_out hi]
    exact re.mn i s h' hm
  · obtain ⟨hi, h1'⟩ := wipe_key h1 (fs_no h5)
    obtain ⟨hj, h2'⟩ := wipe_key h2 (fs_no h6)
    rw [wipe_out hi] at h3
    rw [wipe_out hj] at h4
    exact re.dj i j s s' v v' p h1' h2' h3 h4 h5 h6
theorem stp_wipe {G H H0 G0 : Hp} {sg sg0 : L2.St} {dl dl0 : S} {vs : List Nat} (s : Stp K G0 H0 sg0 dl0 G H sg dl) : Stp K G0 H0 sg0 dl0 G H (wipe sg vs) (wipeD dl vs) where
  rel := rel_wipe s.rel
  g := s.g
  k := s.k
  n := s.n
  w := fun p h => by
    obtain ⟨i, b, ds, _, h1, h2⟩ := ow_wipe h
    exact s.w p ⟨i, b, ds, h1, h2⟩
  d := s.d
  io := fun j ds h => by
    obtain ⟨hi, h'⟩ := wipe_key h (fun z => nomatch z)
    rw [wipe_out hi]
    exact s.io j ds h'
theorem stp_rest3 {G H G1 H1 : Hp} {sg : L2.St} {dl dn : S} {vs : List Nat} (re : Rel K G1 H1 sg dl) (s : Stp K G1 H1 (wipe sg vs) (wipeD dl vs) G H (wipe sg vs) dn) (k : Kp (wipeD dl vs) dn) : Stp K G1 H1 sg dl G H sg (restD dl vs dn) ∧ Kp dl (restD dl vs dn) ∧ ∀ p, Ow H sg (restD dl vs dn) p → Ow H1 sg dl p ∨ Ow H (wipe sg vs) dn p := by
  have hl : dn.length = dl.length := k.1.trans (wipeD_len dl vs)
  have hnw : ∀ (i : Nat) (s : Sl) (v : V) (p : Addr), i ∈ vs → dl[i]? = some s → sg[i]? = some (some v) → Fs H1 s v p → ¬ Ow H1 (wipe sg vs) (wipeD dl vs) p := fun i s v p hi h1 h2 h3 q => by
    obtain ⟨j, s', v', hj, h4, h5, h6⟩ := ow_wipe q
    have := re.dj i j s s' v v' p h1 h4 h2 h5 h3 h6
    subst this
    exact hj hi
  have owd : ∀ p, Ow H1 (wipe sg vs) (wipeD dl vs) p → Ow H1 sg dl p := fun p q => by
    obtain ⟨j, b', ds', _, h3, h4⟩ := ow_wipe q
    exact ⟨j, b', ds', h3, h4⟩
  have out : ∀ {i : Nat} {x : Sl}, i ∉ vs → (restD dl vs dn)[i]? = some x → dn[i]? = some x := fun hi h => by rw [restD_out hi] at h; exact h
  have inn : ∀ {i : Nat} {x : Sl}, i ∈ vs → (restD dl vs dn)[i]? = some x → dl[i]? = some x := fun hi h => by rw [restD_in hl hi] at h; exact h
  have kpi : ∀ {i : Nat} {x : Sl} {v : V}, i ∈ vs → dl[i]? = some x → sg[i]? = some (some v) → ∀ a, Fs H1 x v a → H a = H1 a := fun {i x v} hi h1 h2 a h3 => by
    obtain ⟨o, ho⟩ := ne_some (re.mo h1 h2 h3).2.2
    rw [ho]
    exact s.k a o (hnw i x v a hi h1 h2 h3) ho
  have ownp : ∀ {i : Nat} {x : Sl} {v : V} {p : Addr}, (restD dl vs dn)[i]? = some x → sg[i]? = some (some v) → Fs H x v p → (i ∈ vs ∧ dl[i]? = some x ∧ Fs H1 x v p) ∨ (i ∉ vs ∧ dn[i]? = some x ∧ (wipe sg vs)[i]? = some (some v)) := fun {i x v p} h hp hf => by
    by_cases hi : i ∈ vs
    · exact .inl ⟨hi, inn hi h, fs_mono (kpi hi (inn hi h) hp) p hf⟩
    · exact .inr ⟨hi, out hi h, by rw [wipe_out hi]; exact hp⟩
  refine ⟨⟨⟨by rw [restD_len, hl]; exact re.len, s.rel.ex, fun i d h => ?_, fun i x h hm => ?_, fun i j x x' v v' p h1 h2 h3 h4 h5 h6 => ?_⟩, s.g, fun a o h1 h2 => s.k a o (fun z => h1 (owd a z)) h2, fun a h1 h2 h3 => s.n a (fun z => h1 (owd a z)) h2 h3, fun p h => ?_, s.d, fun j ds h => ?_⟩, ⟨?_, fun i => ?_⟩, fun p h => ?_⟩
  · by_cases hi : i ∈ vs
    · obtain ⟨v, q1, q2⟩ := re.val i d (inn hi h)
      exact ⟨v, q1, q2.ex s.g⟩
    · obtain ⟨v, q1, q2⟩ := s.rel.val i d (out hi h)
      rw [wipe_out hi] at q1
      exact ⟨v, q1, q2⟩
  · by_cases hi : i ∈ vs
    · have h' := inn hi h
      obtain ⟨v, q1, q2, q3⟩ := re.mn i x h' hm
      refine ⟨v, q1, sl_mono q2 s.g (kpi hi h' q1), fun a ha => ?_⟩
      have ha' := fs_mono (kpi hi h' q1) a ha
      exact s.n a (hnw i x v a hi h' q1 ha') (fs_live q2 a ha') (q3 a ha')
    · obtain ⟨v, q1, q2⟩ := s.rel.mn i x (out hi h) hm
      rw [wipe_out hi] at q1
      exact ⟨v, q1, q2⟩
  · have mixed : ∀ {i j : Nat} {x x' : Sl} {v v' : V}, i ∈ vs → dl[i]? = some x → sg[i]? = some (some v) → Fs H1 x v p → dn[j]? = some x' → (wipe sg vs)[j]? = some (some v') → Fs H x' v' p → False := fun {i j x x' v v'} hi z1 z2 z3 z4 z5 z6 => by
      rcases s.w p ⟨j, x', v', z4, z5, z6⟩ with q | q
      · exact hnw i x v p hi z1 z2 z3 q
      · exact (re.mo z1 z2 z3).2.2 q
    rcases ownp h1 h3 h5 with ⟨hi, z1, y1⟩ | ⟨hi, z1, z1'⟩
    · rcases ownp h2 h4 h6 with ⟨hj, z2, y2⟩ | ⟨hj, z2, z2'⟩
      · exact re.dj i j x x' v v' p z1 z2 h3 h4 y1 y2
      · exact (mixed hi z1 h3 y1 z2 z2' h6).elim
    · rcases ownp h2 h4 h6 with ⟨hj, z2, y2⟩ | ⟨hj, z2, z2'⟩
      · exact (mixed hj z2 h4 y2 z1 z1' h5).elim
      · exact s.rel.dj i j x x' v v' p z1 z2 z1' z2' h5 h6
  · obtain ⟨i, x, v, h1, h2, h3⟩ := h
    rcases ownp h1 h2 h3 with ⟨hi, z1, y1⟩ | ⟨hi, z1, z1'⟩
    · exact .inl ⟨i, x, v, z1, h2, y1⟩
    · rcases s.w p ⟨i, x, v, z1, z1', h3⟩ with q | q
      · exact .inl (owd p q)
      · exact .inr q
  · by_cases hi : j ∈ vs
    · exact ⟨⟨ds, inn hi h⟩, rfl⟩
    · obtain ⟨⟨ds0, q1⟩, _⟩ := s.io j ds (out hi h)
      rw [wipeD_out hi] at q1
      exact ⟨⟨ds0, q1⟩, rfl⟩
  · rw [restD_len]; exact hl
  · by_cases hi : i ∈ vs
    · rw [restD_in hl hi]
      exact (Kp.refl dl).2 i
    · rw [restD_out hi]
      have := k.2 i
      rw [wipeD_out hi] at this
      exact this
  · obtain ⟨i, x, v, h1, h2, h3⟩ := h
    rcases ownp h1 h2 h3 with ⟨hi, z1, y1⟩ | ⟨hi, z1, z1'⟩
    · exact .inl ⟨i, x, v, z1, h2, y1⟩
    · exact .inr ⟨i, x, v, z1, z1', h3⟩
theorem stp_rest {G H G1 H1 : Hp} {sg : L2.St} {dl dn : S} {vs : List Nat} (re : Rel K G1 H1 sg dl) (s : Stp K G1 H1 (wipe sg vs) (wipeD dl vs) G H (wipe sg vs) dn) (k : Kp (wipeD dl vs) dn) : Stp K G1 H1 sg dl G H sg (restD dl vs dn) ∧ Kp dl (restD dl vs dn) :=
  let ⟨a, b, _⟩ := stp_rest3 re s k
  ⟨a, b⟩
theorem ow_rest {G H G1 H1 : Hp} {sg : L2.St} {dl dn : S} {vs : List Nat} {p : Addr} (re : Rel K G1 H1 sg dl) (s : Stp K G1 H1 (wipe sg vs) (wipeD dl vs) G H (wipe sg vs) dn) (k : Kp (wipeD dl vs) dn) (h1 : H1 p = none) (h2 : ¬ Ow H (wipe sg vs) dn p) : ¬ Ow H sg (restD dl vs dn) p := fun q => by
  rcases (stp_rest3 re s k).2.2 p q with q | q
  · exact (re.ow q).2 h1
  · exact h2 q
theorem ow_fly {G H : Hp} {sg : L2.St} {dl : S} {D : Addr} {o : HO} (re : Rel K G H sg dl) (hw : ¬ Ow H sg dl D) : ¬ Ow (upd H D o) sg dl D := fun ⟨i, s, v, h1, h2, h3⟩ =>
  hw ⟨i, s, v, h1, h2, fs_mono (fun a ha => upd_ne fun zz => hw (by rw [← zz]; exact ⟨i, s, v, h1, h2, ha⟩)) D h3⟩
/-- a list in the making, that nobody knows yet, is changed -/
theorem stp_fly {G H H0 G0 : Hp} {sg sg0 : L2.St} {dl dl0 : S} {D : Addr} {o : HO} (s : Stp K G0 H0 sg0 dl0 G H sg dl) (h0 : H0 D = none) (hg : G D = none) (hw : ¬ Ow H sg dl D) : Stp K G0 H0 sg0 dl0 G (upd H D o) sg dl := by
  have re := s.rel
  obtain ⟨r', w'⟩ := re.keep (H' := upd H D o) (Ex.refl G) (fun a u z => by
    rw [upd_ne fun zz => by rw [zz, hg] at z; cases z]
    exact re.ex a u z) (fun a ha => upd_ne fun zz => hw (by rw [← zz]; exact ha)) fun a ha => (re.ow ha).1
  refine ⟨r', s.g, fun a u h1 h2 => ?_, s.n, fun p h => s.w p (w' p h), fun a h => ?_, s.io⟩
  · rw [upd_ne fun zz => by rw [zz, h0] at h2; cases h2]
    exact s.k a u h1 h2
  · by_cases zz : a = D
    · subst zz; exact absurd h0 h
    · rw [upd_ne zz]; exact s.d a h
theorem kp_turn {dn d3 d6 : S} {vs : List Nat} (h1 : d3.length = dn.length) (h2 : ∀ i, i ∉ vs → d3[i]? = dn[i]?) (h3 : ∀ i, i ∈ vs → i < dn.length → dn[i]? = some .no) (k : Kp d3 d6) : Kp dn (wipeD d6 vs) := by
  have hl : d6.length = dn.length := k.1.trans h1
  refine ⟨(wipeD_len d6 vs).trans hl, fun i => ?_⟩
  by_cases hi : i ∈ vs
  · by_cases hlt : i < dn.length
    · rw [h3 i hi hlt]
      exact wipeD_in hi (by rw [hl]; exact hlt)
    · rw [List.getElem?_eq_none (by omega : dn.length ≤ i)]
      exact List.getElem?_eq_none (by rw [wipeD_len, hl]; omega)
  · rw [wipeD_out hi]
    have := k.2 i
    rw [h2 i hi] at this
    exact this
end
/-! ### list comprehensions -/
def compD (vs : List Nat) (put : S → PyData → Option S) (c : S → Out Bool) (f : S → Out Rv) : List PyData → S → List PyData → Option (List PyData × S)
  | [], dn, acc => some (acc, dn)
  | d :: ds, dn, acc => match put dn d with
    | none => none
    | some d1 => match c d1 with
      | .ok true d2 => match f d2 with
        | .ok r d3 => match stb d3 r with
          | some (y, d4) => if acc.length < 100000 then compD vs put c f ds (wipeD d4 vs) (acc ++ [y]) else none
          | none => none
        | _ => none
      | .ok false d2 => compD vs put c f ds (wipeD d2 vs) acc
      | _ => none
def endC (dl : S) (vs : List Nat) (o : Option (List PyData × S)) : Out Rv := match o with
  | some (acc, dn) => .ok (.new acc) (restD dl vs dn)
  | none => .bad
def dComp (it : S → Out (List PyData)) (vs : List Nat) (put : S → PyData → Option S) (c : S → Out Bool) (f : S → Out Rv) : S → Out Rv := fun dl => (it dl).bind fun ds d1 => endC d1 vs (compD vs put c f ds (wipeD d1 vs) [])
abbrev W0 : WX := fun _ _ _ _ => False
section
variable {X : Cx} {W : WX}
theorem so_comp {wi : TI} {g : TG} {tt : TT} {te : TE} {it : S → Out (List PyData)} {put : S → PyData → Option S} {c : S → Out Bool} {f : S → Out Rv} {vs vs0 : List Nat} (si : SoI X W wi it) (sg' : SoG X.K vs0 g put) (sub : ∀ i ∈ vs0, i ∈ vs) (st : SoT X W0 tt c) (se : SoE X W0 te f) :
    SoE X W (tLc wi g tt te vs) (dComp it vs put c f) := by
  intro G H sg dl Q re h
  refine si G H sg dl _ re ((post_bind h).imp fun ds d1 G1 H1 s1 k1 h1 J wk D hD => ?_)
  cases ec : compD vs put c f ds (wipeD d1 vs) [] with
  | none => rw [ec] at h1; exact h1.elim
  | some y =>
    obtain ⟨accF, dnF⟩ := y
    rw [ec] at h1
    have h1' : Post X W G1 H1 sg d1 (wE X sg H Q) (.ok (.new accF) (restD d1 vs dnF)) := h1
    have reW : Rel X.K G1 H1 (wipe sg vs) (wipeD d1 vs) := rel_wipe s1.rel
    have no0 : ∀ i, i ∈ vs → i < (wipeD d1 vs).length → (wipeD d1 vs)[i]? = some .no := fun i hi hl => wipeD_in hi (by rw [wipeD_len] at hl; exact hl)
    refine ⟨fun i m Hh => ∃ G' dn vD acc, Stp X.K G1 H1 (wipe sg vs) (wipeD d1 vs) G' Hh (wipe sg vs) dn ∧ Kp (wipeD d1 vs) dn ∧ ¬ Ow Hh (wipe sg vs) dn D ∧ Hh D = some (.lst vD) ∧ G' D = none ∧ DaAll X.K G' vD acc ∧ i ≤ ds.length ∧ m = ds.length - i ∧ compD vs put c f (ds.drop i) dn acc = some (accF, dnF),
      ⟨ds.length, G1, wipeD d1 vs, [], [], (Alc.li s1.rel.ex hD (.lst [])).stp reW, Kp.refl _, fun q => (reW.ow (reW.back (Ex.new hD) q)).2 hD, upd_same, s1.rel.ex.nn hD, .nil, Nat.zero_le _, rfl, ec⟩, ?_⟩
    rintro i m Hh ⟨G', dn, vD, acc, s, k, nw, hDh, hDg, da, hi, rfl, he⟩
    obtain ⟨go, stop⟩ := wk i G' Hh s.g s.rel.ex
    have noN : ∀ i, i ∈ vs → i < dn.length → dn[i]? = some .no := fun i hi hl => by
      have := k.2 i
      rw [no0 i hi (by rw [← k.1]; exact hl)] at this
      exact this
    by_cases hlt : i < ds.length
    · have hd : ds[i]? = some ds[i] := List.getElem?_eq_getElem hlt
      obtain ⟨g1, y1⟩ := go ds[i] hd
      have ed : ds.drop i = ds[i] :: ds.drop (i + 1) := List.drop_eq_getElem_cons hlt
      rw [ed] at he
      unfold compD at he
      refine .inr ⟨g1, fun Hn => ∃ G' dn vD acc, Stp X.K G1 H1 (wipe sg vs) (wipeD d1 vs) G' Hn (wipe sg vs) dn ∧ Kp (wipeD d1 vs) dn ∧ ¬ Ow Hn (wipe sg vs) dn D ∧ Hn D = some (.lst vD) ∧ G' D = none ∧ DaAll X.K G' vD acc ∧ compD vs put c f (ds.drop (i + 1)) dn acc = some (accF, dnF),
        fun Hn ⟨G', dn, vD, acc, z1, z2, z3, z4, z5, z6, z7⟩ => ⟨ds.length - (i + 1), by omega, G', dn, vD, acc, z1, z2, z3, z4, z5, z6, hlt, rfl, z7⟩, fun x H2 y => ?_⟩
      obtain ⟨G2, al, dx⟩ := y1 x H2 y
      have s2 := al.stp s.rel
      cases ep : put dn ds[i] with
      | none => rw [ep] at he; cases he
      | some d3 =>
        rw [ep] at he
        obtain ⟨p1, p2⟩ := sg'.1 dn ds[i] d3 ep
        refine sg'.2 G' Hh (wipe sg vs) dn G2 H2 (wipe sg vs) dn x ds[i] d3 _ s2 dx ep fun sg3 s3 l3 o3 => ?_
        have ew : wipe sg3 vs = wipe sg vs := (wipe_same l3 fun i hi => o3 i fun z => hi (sub i z)).trans wipe_wipe
        refine ⟨ew, ?_⟩
        have tn : ∀ {G6 H6 : Hp} {d6 : S}, Stp X.K G' Hh (wipe sg vs) dn G6 H6 sg3 d6 → Kp d3 d6 → Stp X.K G1 H1 (wipe sg vs) (wipeD d1 vs) G6 H6 (wipe sg vs) (wipeD d6 vs) ∧ Kp (wipeD d1 vs) (wipeD d6 vs) ∧ ¬ Ow H6 (wipe sg vs) (wipeD d6 vs) D ∧ H6 D = some (.lst vD) ∧ G6 D = none ∧ DaAll X.K G6 vD acc := fun {G6 H6 d6} sl kl => by
          have s6 := stp_wipe (vs := vs) sl
          rw [ew] at s6
          exact ⟨s.trans s6, k.trans (kp_turn p1 (fun i hi => p2 i fun z => hi (sub i z)) noN kl), s6.nw nw (some_ne hDh), sl.k D _ nw hDh, sl.n D nw (some_ne hDh) hDg, da.ex sl.g⟩
        have he' : (match c d3 with
          | .ok true d2 => match f d2 with
            | .ok r d3 => match stb d3 r with
              | some (y, d4) => if acc.length < 100000 then compD vs put c f (ds.drop (i + 1)) (wipeD d4 vs) (acc ++ [y]) else none
              | none => none
            | _ => none
          | .ok false d2 => compD vs put c f (ds.drop (i + 1)) (wipeD d2 vs) acc
          | _ => none) = some (accF, dnF) := he
        refine st G2 H2 sg3 d3 _ s3.rel ?_
        cases eb : c d3 with
        | bad => rw [eb] at he'; cases he'
        | ex cc dd => rw [eb] at he'; cases he'
        | ok b d4 =>
          rw [eb] at he'
          intro G4 H4 s4 k4
          have s34 := s3.trans s4
          cases b with
          | false =>
            obtain ⟨z1, z2, z3, z4, z5, z6⟩ := tn s34 k4
            exact ⟨G4, wipeD d4 vs, vD, acc, z1, z2, z3, z4, z5, z6, he'⟩
          | true =>
            have he2 : (match f d4 with
              | .ok r d3 => match stb d3 r with
                | some (y, d4) => if acc.length < 100000 then compD vs put c f (ds.drop (i + 1)) (wipeD d4 vs) (acc ++ [y]) else none
                | none => none
              | _ => none) = some (accF, dnF) := he'
            refine se G4 H4 sg3 d4 _ s4.rel ?_
            cases ef : f d4 with
            | bad => rw [ef] at he2; cases he2
            | ex cc dd => rw [ef] at he2; cases he2
            | ok r d5 =>
              rw [ef] at he2
              intro G5 H5 s5 k5 v q
              have he3 : (match stb d5 r with
                | some (y, d4) => if acc.length < 100000 then compD vs put c f (ds.drop (i + 1)) (wipeD d4 vs) (acc ++ [y]) else none
                | none => none) = some (accF, dnF) := he2
              cases es : stb d5 r with
              | none => rw [es] at he3; cases he3
              | some yy =>
                obtain ⟨y, d6⟩ := yy
                rw [es] at he3
                obtain ⟨G6, s6, k6, z6, _⟩ := stb_ok s5 q es
                obtain ⟨z1, z2, z3, z4, z5, z7⟩ := tn (s34.trans s6) (k4.trans (k5.trans k6))
                have he4 : (if acc.length < 100000 then compD vs put c f (ds.drop (i + 1)) (wipeD d6 vs) (acc ++ [y]) else none) = some (accF, dnF) := he3
                by_cases hl : acc.length < 100000
                · rw [if_pos hl] at he4
                  refine ⟨vD, z4, by rw [z7.len]; exact sz_lt hl, G6, wipeD d6 vs, vD ++ [v], acc ++ [y], stp_fly z1 hD z5 z3, z2, ow_fly z1.rel z3, upd_same, z5, z7.append (.cons z6 .nil), he4⟩
                · rw [if_neg hl] at he4; cases he4
    · have ei : i = ds.length := by omega
      subst ei
      rw [List.drop_length] at he
      cases he
      refine .inl ⟨stop (Nat.le_refl _), ?_⟩
      obtain ⟨sr, kr⟩ := stp_rest s1.rel s k
      refine h1' G' Hh sr kr (.ref D) ⟨D, vD, rfl, ?_, hDh, hDg, ow_rest s1.rel s k hD nw, da⟩
      · cases hq : H D with
        | none => rfl
        | some o => exact absurd hD (s1.d D (some_ne hq))
/-- the ifs of a comprehension -/
def STs (X : Cx) (W : WX) (ifs : List Expr) (f : S → Out Bool) : Prop := ∃ t, PTs X ifs t ∧ SoT X W t f
def dYes : S → Out Bool := fun dl => .ok true dl
theorem sts_nil : STs X W [] dYes := ⟨tYes, pts_nil, fun G H sg dl Q re h => h G H (Stp.refl re) (Kp.refl dl)⟩
theorem sts_one {c : Expr} {f : S → Out Bool} (h : ST X W c f) : STs X W [c] f := let ⟨t, p, s⟩ := h; ⟨t, pts_one p, s⟩
/-- one reading for all blocks -/
theorem meetE {I : Type} {Xi : I → Cx} {W : WX} {e : Expr} {f : S → Out Rv} (hK : ∀ i, (Xi i).K = X.K) (hm : ∀ i, (Xi i).mg = X.mg) (h : ∀ i, SE (Xi i) W e f) : ∃ t, (∀ i, PE (Xi i) e t) ∧ SoE X W t f := by
  refine ⟨fun sg H Q => ∀ i, Classical.choose (h i) sg H Q, fun i => ⟨fun pins s σ H Q I w => (Classical.choose_spec (h i)).1.run pins s σ H Q I (w i)⟩, fun G H sg dl Q re p i => ?_⟩
  refine (Classical.choose_spec (h i)).2 G H sg dl Q (by rw [hK i]; exact re) ?_
  cases ho : f dl with
  | bad => rw [ho] at p; exact p
  | ok r d1 =>
    rw [ho] at p
    intro G1 H1 s k v q
    rw [hK i] at s q
    exact p G1 H1 s k v q
  | ex c d1 =>
    rw [ho] at p
    intro C G1 H1 hc s
    rw [hK i] at s
    rw [hm i] at hc
    exact p C G1 H1 hc s
theorem meetT {I : Type} {Xi : I → Cx} {W : WX} {e : List Expr} {f : S → Out Bool} (hK : ∀ i, (Xi i).K = X.K) (hm : ∀ i, (Xi i).mg = X.mg) (h : ∀ i, STs (Xi i) W e f) : ∃ t, (∀ i, PTs (Xi i) e t) ∧ SoT X W t f := by
  refine ⟨fun sg H Q => ∀ i, Classical.choose (h i) sg H Q, fun i => ⟨fun pins s σ H Q I w => (Classical.choose_spec (h i)).1.run pins s σ H Q I (w i)⟩, fun G H sg dl Q re p i => ?_⟩
  refine (Classical.choose_spec (h i)).2 G H sg dl Q (by rw [hK i]; exact re) ?_
  cases ho : f dl with
  | bad => rw [ho] at p; exact p
  | ok r d1 =>
    rw [ho] at p
    intro G1 H1 s k
    rw [hK i] at s
    exact p G1 H1 s k
  | ex c d1 =>
    rw [ho] at p
    intro C G1 H1 hc s
    rw [hK i] at s
    rw [hm i] at hc
    exact p C G1 H1 hc s
/-- what tells a block's context -/
structure BI where
  s : Shared
  H : Hp
  C : Addr
  cl : List (Str × Addr)
  fp : List Addr
abbrev bX (X : Cx) (scope : Scope) (i : BI) : Cx := X.blk i.s i.H scope (compEnvC scope i.cl i.C X.env) i.fp
theorem se_comp (own : List (Str × Nat)) {elt tg iter : Expr} {ifs : List Expr} {scope : Scope} {pos : Pos} {g : TG} {it : S → Out (List PyData)} {put : S → PyData → Option S} {c : S → Out Bool} {f : S → Out Rv} {vs0 : List Nat} (hc : X.calm = true) (hN : X.N.Nodup) (hi : SI X W tg iter it) (ok : BlkOk X.N X.env.scope scope own)
    (hg : ∀ i, PG (bX X scope i) tg g) (sg : SoG X.K vs0 g put) (sub : ∀ i ∈ vs0, i ∈ own.map (·.2)) (ht : ∀ i, STs (bX X scope i) W0 ifs c) (he : ∀ i, SE (bX X scope i) W0 elt f) (hs : ∀ x, foldedSetIterable iter X.env x = pure x := by intro _; rfl) :
    SE X W (.ListComp elt [⟨tg, iter, ifs, 0⟩] scope pos) (dComp it (own.map (·.2)) put c f) := by
  obtain ⟨wi, pi, si⟩ := hi
  obtain ⟨tt, pt, st⟩ := meetT (X := X) (Xi := bX X scope) (fun _ => rfl) (fun _ => rfl) ht
  obtain ⟨te, pe, se⟩ := meetE (X := X) (Xi := bX X scope) (fun _ => rfl) (fun _ => rfl) he
  exact ⟨_, pe_lc hc hN pi ok (fun s H C cl fp => hg ⟨s, H, C, cl, fp⟩) (fun s H C cl fp => pt ⟨s, H, C, cl, fp⟩) (fun s H C cl fp => pe ⟨s, H, C, cl, fp⟩) hs, so_comp si sg sub st se⟩
/-- y = [..], y a plain local -/
theorem ss_comp (iy : Nat) (own : List (Str × Nat)) {y : Str} {elt tg iter : Expr} {ifs : List Expr} {scope : Scope} {py pos spos : Pos} {g : TG} {it : S → Out (List PyData)} {put : S → PyData → Option S} {c : S → Out Bool} {f : S → Out Rv} {vs0 : List Nat} (hc : X.calm = true) (hN : X.N.Nodup) (hy : X.N[iy]? = some y) (hyl : X.env.scope.names.lookup y = some .local)
    (hsw : swapsWith (.ListComp elt [⟨tg, iter, ifs, 0⟩] scope pos) (some (.Name y py)) spos.line X.env = pure true) (hi : SI X W tg iter it) (ok : BlkOk X.N X.env.scope scope own)
    (hg : ∀ i, PG (bX X scope i) tg g) (sg : SoG X.K vs0 g put) (sub : ∀ i ∈ vs0, i ∈ own.map (·.2)) (ht : ∀ i, STs (bX X scope i) W0 ifs c) (he : ∀ i, SE (bX X scope i) W0 elt f) (hs : ∀ x, foldedSetIterable iter X.env x = pure x := by intro _; rfl) :
    SS X W (.Assign [.Name y py] (.ListComp elt [⟨tg, iter, ifs, 0⟩] scope pos) spos) (dSet iy (dComp it (own.map (·.2)) put c f)) := by
  obtain ⟨wi, pi, si⟩ := hi
  obtain ⟨tt, pt, st⟩ := meetT (X := X) (Xi := bX X scope) (fun _ => rfl) (fun _ => rfl) ht
  obtain ⟨te, pe, se⟩ := meetE (X := X) (Xi := bX X scope) (fun _ => rfl) (fun _ => rfl) he
  exact ⟨_, ps_setLc hc hN hy hyl hsw pi ok (fun s H C cl fp => hg ⟨s, H, C, cl, fp⟩) (fun s H C cl fp => pt ⟨s, H, C, cl, fp⟩) (fun s H C cl fp => pe ⟨s, H, C, cl, fp⟩) hs, so_set (so_comp si sg sub st se)⟩
end
end DL

namespace DL
open PySem L2
/-! ### defs and their calls -/
/-- what a def does: with the list that it may change (its first argument) and the others, as data -/
inductive Fo where
  | val (d : PyData) (st : List PyData)
  | new (ds : List PyData) (st : List PyData)
  | ex (c : Str) (st : List PyData)
  | bad
abbrev Fn := List PyData → List PyData → Fo
def mkA (io : Bool) (st ds : List PyData) : S := if io then .own true st :: ds.map Sl.val else ds.map Sl.val
def PostC (K : PySem.W.Frag) (mg : Str → Option Value) (E : XK) (io : Bool) (G H : Hp) (vs : List V) (st ds : List PyData) (Q : VK) : Fo → Prop
  | .val d st' => ∀ v G' H', Stp K G H (vs.map some) (mkA io st ds) G' H' (vs.map some) (mkA io st' ds) → Da K G' v d → Q v H'
  | .new x st' => ∀ v G' H', Stp K G H (vs.map some) (mkA io st ds) G' H' (vs.map some) (mkA io st' ds) → RvOk K G' H' (vs.map some) (mkA io st' ds) H v (.new x) → Q v H'
  | .ex c st' => ∀ C G' H', mg c = some (.ref C) → Stp K G H (vs.map some) (mkA io st ds) G' H' (vs.map some) (mkA io st' ds) → E (.ref C) none H'
  | .bad => False
def spD (K : PySem.W.Frag) (mg : Str → Option Value) (io : Bool) (n : Nat) (g : Fn) : Sp := fun vs H Q E => vs.length = n ∧ ∃ G st ds, Rel K G H (vs.map some) (mkA io st ds) ∧ PostC K mg E io G H vs st ds Q (g st ds)
/-- x is a def of the text that does g -/
def FnD (X : Cx) (x : Str) (io : Bool) (n : Nat) (g : Fn) : Prop := ∃ k f fd ps, FnOk X.prog X.w X.K X.mg X.base (L2.CX X.prog X.w) k f fd ps (spD X.K X.mg io n g) ∧ Room k X.A ∧ X.mg x = some (.ref f) ∧ PySem.W.keepIn X.K (.ref f) = true ∧ Binds X.K fd ps []
def asE (o : Fo) (dl : S) : Out Rv := match o with
  | .val d _ => .ok (.val d) dl
  | .new ds _ => .ok (.new ds) dl
  | .ex c _ => .ex c dl
  | .bad => .bad
def callP (n : Nat) (g : Fn) (o : Option (List PyData × S)) : Out Rv := match o with
  | some (ds, d2) => if ds.length = n then asE (g [] ds) d2 else .bad
  | none => .bad
def dCall (n : Nat) (g : Fn) (fa : S → Out (List Rv)) : S → Out Rv := fun dl => (fa dl).bind fun rs d1 => callP n g (stbs d1 rs)
def stF : Fo → List PyData
  | .val _ st => st
  | .new _ st => st
  | .ex _ st => st
  | .bad => []
def callI (n : Nat) (g : Fn) (i : Nat) (o : Option (List PyData × S)) : Out Rv := match o with
  | some (ds, d2) => match d2[i]? with
    | some (.own b st) => if ds.length + 1 = n then asE (g st ds) (d2.set i (.own b (stF (g st ds)))) else .bad
    | _ => .bad
  | none => .bad
def dCallI (n : Nat) (g : Fn) (i : Nat) (fr : S → Out (List Rv)) : S → Out Rv := fun dl => if isOwn dl i then (fr dl).bind fun rs d1 => callI n g i (stbs d1 rs) else .bad
section
variable {K : PySem.W.Frag}
theorem mkA_f {st ds : List PyData} {j : Nat} {s : Sl} (h : (mkA false st ds)[j]? = some s) : ∃ d, s = .val d ∧ ds[j]? = some d := by
  have h' : (ds.map Sl.val)[j]? = some s := h
  rw [List.getElem?_map] at h'
  cases e : ds[j]? with
  | none => rw [e] at h'; cases h'
  | some d => rw [e] at h'; cases h'; exact ⟨d, rfl, rfl⟩
theorem mkA_t {st ds : List PyData} {j : Nat} {s : Sl} (h : (mkA true st ds)[j]? = some s) : (j = 0 ∧ s = .own true st) ∨ ∃ i d, j = i + 1 ∧ s = .val d ∧ ds[i]? = some d := by
  have h' : (Sl.own true st :: ds.map Sl.val)[j]? = some s := h
  cases j with
  | zero => cases h'; exact .inl ⟨rfl, rfl⟩
  | succ i =>
    have h2 : (ds.map Sl.val)[i]? = some s := by simpa using h'
    rw [List.getElem?_map] at h2
    cases e : ds[i]? with
    | none => rw [e] at h2; cases h2
    | some d => rw [e] at h2; cases h2; exact .inr ⟨i, d, rfl, rfl, e⟩
theorem vs_at {vs : List V} {j : Nat} {v : V} (h : vs[j]? = some v) : (vs.map some)[j]? = some (some v) := by rw [List.getElem?_map, h]; rfl
theorem rel_argsF {G H : Hp} {vs : List V} {st ds : List PyData} (e : Ex G H) (z : DaAll K G vs ds) : Rel K G H (vs.map some) (mkA false st ds) := by
  refine ⟨?_, e, fun j d h => ?_, fun j s h hm => ?_, fun i j s s' v v' p h1 _ _ _ h5 _ => ?_⟩
  · show (vs.map some).length = (ds.map Sl.val).length
    rw [List.length_map, List.length_map]
    exact z.len
  · obtain ⟨d', e1, e2⟩ := mkA_f h
    cases e1
    obtain ⟨v, q1, q2⟩ := z.at e2
    exact ⟨v, vs_at q1, q2⟩
  · obtain ⟨d', e1, e2⟩ := mkA_f h
    subst e1
    cases hm
  · obtain ⟨d', e1, e2⟩ := mkA_f h1
    subst e1
    exact h5.elim
theorem ow_F {H : Hp} {vs : List V} {st ds : List PyData} {p : Addr} : ¬ Ow H (vs.map some) (mkA false st ds) p := fun ⟨i, s, v, h, _, h3⟩ => by
  obtain ⟨d', e1, e2⟩ := mkA_f h
  subst e1
  exact h3
/-- behind a call that changes no list of ours -/
theorem stp_callF3 {G H G' H' : Hp} {sg : L2.St} {dl : S} {vs : List V} {st st' ds : List PyData} (re : Rel K G H sg dl) (c : Stp K G H (vs.map some) (mkA false st ds) G' H' (vs.map some) (mkA false st' ds)) : Stp K G H sg dl G' H' sg dl ∧ ∀ p, Ow H' sg dl p → Ow H sg dl p := by
  obtain ⟨r', w'⟩ := re.keep c.g c.rel.ex (fun a ha => by
    obtain ⟨o, ho⟩ := ne_some (re.ow ha).2
    rw [ho]; exact c.k a o ow_F ho) fun a ha => c.n a ow_F (re.ow ha).2 (re.ow ha).1
  exact ⟨⟨r', c.g, fun a o _ h => c.k a o ow_F h, fun a _ h1 h2 => c.n a ow_F h1 h2, fun p h => .inl (w' p h), c.d, fun j ds h => ⟨⟨ds, h⟩, rfl⟩⟩, w'⟩
theorem stp_callF {G H G' H' : Hp} {sg : L2.St} {dl : S} {vs : List V} {st st' ds : List PyData} (re : Rel K G H sg dl) (c : Stp K G H (vs.map some) (mkA false st ds) G' H' (vs.map some) (mkA false st' ds)) : Stp K G H sg dl G' H' sg dl := (stp_callF3 re c).1
theorem rv_call {G H H0 : Hp} {sg sg' : L2.St} {dl dl' : S} {v : V} {x : List PyData} (q : RvOk K G H sg dl H0 v (.new x)) (hw : ∀ p, H0 p = none → ¬ Ow H sg' dl' p) : RvOk K G H sg' dl' H0 v (.new x) := by
  obtain ⟨p, vs, e, h0, h1, h2, _, h4⟩ := q
  exact ⟨p, vs, e, h0, h1, h2, hw p h0, h4⟩
theorem rel_argsT {G H : Hp} {v0 : V} {vs : List V} {st ds : List PyData} {p : Addr} {us : List V} (e : Ex G H) (e0 : v0 = .ref p) (hg : G p = none) (hh : H p = some (.lst us)) (za : DaAll K G us st) (z : DaAll K G vs ds) : Rel K G H ((v0 :: vs).map some) (mkA true st ds) := by
  refine ⟨?_, e, fun j d h => ?_, fun j s h hm => ?_, fun i j s s' v v' q h1 h2 _ _ h5 h6 => ?_⟩
  · show ((v0 :: vs).map some).length = (Sl.own true st :: ds.map Sl.val).length
    rw [List.length_map, List.length_cons, List.length_cons, List.length_map, z.len]
  · rcases mkA_t h with ⟨_, e1⟩ | ⟨i, d', rfl, e1, e2⟩
    · cases e1
    · cases e1
      obtain ⟨v, q1, q2⟩ := z.at e2
      exact ⟨v, vs_at (vs := v0 :: vs) (by simpa using q1), q2⟩
  · rcases mkA_t h with ⟨rfl, e1⟩ | ⟨i, d', rfl, e1, e2⟩
    · subst e1
      refine ⟨v0, rfl, ⟨p, us, e0, hh, za⟩, fun a ha => ?_⟩
      have ha' : v0 = V.ref a := ha
      rw [e0] at ha'
      cases ha'
      exact hg
    · subst e1
      cases hm
  · rcases mkA_t h1 with ⟨rfl, _⟩ | ⟨_, _, _, e1, _⟩
    · rcases mkA_t h2 with ⟨rfl, _⟩ | ⟨_, _, _, e1, _⟩
      · rfl
      · subst e1
        exact h6.elim
    · subst e1
      exact h5.elim
theorem ow_T {H : Hp} {p q : Addr} {vs : List V} {st ds : List PyData} (h : Ow H ((V.ref p :: vs).map some) (mkA true st ds) q) : q = p := by
  obtain ⟨i, s, v, h1, h2, h3⟩ := h
  rcases mkA_t h1 with ⟨rfl, e1⟩ | ⟨_, _, _, e1, _⟩
  · subst e1
    have h2' : some (some (V.ref p)) = some (some v) := h2
    cases h2'
    cases h3
    rfl
  · subst e1
    exact h3.elim
/-- behind a call that may change the list of slot i -/
theorem stp_callT3 {G H G' H' : Hp} {sg : L2.St} {dl : S} {p : Addr} {vs : List V} {st st' ds : List PyData} {i : Nat} {b : Bool} (re : Rel K G H sg dl) (ei : dl[i]? = some (.own b st)) (hp : sg[i]? = some (some (.ref p)))
    (c : Stp K G H ((V.ref p :: vs).map some) (mkA true st ds) G' H' ((V.ref p :: vs).map some) (mkA true st' ds)) : Stp K G H sg dl G' H' sg (dl.set i (.own b st')) ∧ Kp dl (dl.set i (.own b st')) ∧ ∀ q, H q = none → ¬ Ow H' sg (dl.set i (.own b st')) q := by
  have hi := lt_of_get ei
  have hs : (dl.set i (.own b st'))[i]? = some (.own b st') := List.getElem?_set_self hi
  have na : ∀ a, ¬ Fs H (.own b st) (.ref p) a → ¬ Ow H ((V.ref p :: vs).map some) (mkA true st ds) a := fun a h z => h (by rw [ow_T z]; rfl)
  obtain ⟨p', us, q1, q2, q3, q4⟩ := c.rel.own 0 true st' rfl
  have q1' : some (some (V.ref p)) = some (some (V.ref p')) := q1
  cases q1'
  have st3 : Stp K G H sg dl G' H' sg (dl.set i (.own b st')) := mutG_ok re ei hp rfl ⟨p, us, rfl, q3, q4⟩ (fun a h => .inl h) (fun a h => by cases h; exact q2) c.g c.rel.ex (fun a o h1 h2 => c.k a o (na a h1) h2) (fun a h1 h2 h3 => c.n a (na a h1) h2 h3) c.d (fun x h => by cases h; exact ⟨st, rfl⟩)
  refine ⟨st3, ⟨List.length_set, fun j => ?_⟩, fun q hq z => ?_⟩
  · by_cases hj : j = i
    · subst hj
      rw [ei, hs]
      exact .inl ⟨st', rfl⟩
    · rw [set_ne hj]
      exact (Kp.refl dl).2 j
  · obtain ⟨j, s1, v1, z1, z2, z3⟩ := z
    rcases get_set z1 with ⟨rfl, rfl, _⟩ | ⟨hj, z1⟩
    · rw [hp] at z2
      cases z2
      cases z3
      exact (re.ow (Ow.own ei hp)).2 hq
    · have kp : ∀ a, Fs H s1 v1 a → H' a = H a := fun a ha => by
        obtain ⟨o, ho⟩ := ne_some (re.mo z1 z2 ha).2.2
        rw [ho]
        exact c.k a o (na a fun zz => hj (re.dj j i s1 _ v1 _ a z1 ei z2 hp ha zz)) ho
      exact (re.mo z1 z2 (fs_mono kp q z3)).2.2 hq
theorem stp_callT {G H G' H' : Hp} {sg : L2.St} {dl : S} {p : Addr} {vs : List V} {st st' ds : List PyData} {i : Nat} {b : Bool} (re : Rel K G H sg dl) (ei : dl[i]? = some (.own b st)) (hp : sg[i]? = some (some (.ref p)))
    (c : Stp K G H ((V.ref p :: vs).map some) (mkA true st ds) G' H' ((V.ref p :: vs).map some) (mkA true st' ds)) : Stp K G H sg dl G' H' sg (dl.set i (.own b st')) ∧ Kp dl (dl.set i (.own b st')) :=
  let ⟨a, b, _⟩ := stp_callT3 re ei hp c
  ⟨a, b⟩
end
section
variable {X : Cx} {W : WX}
theorem so_call {n : Nat} {g : Fn} {t : TA} {f : S → Out (List Rv)} (sa : SoA X W t f) : SoE X W (tCallS (spD X.K X.mg false n g) (WE W) t) (dCall n g f) := by
  intro G H sg dl Q re h
  refine sa G H sg dl _ re ((post_bind h).imp fun rs d1 G1 H1 s1 k1 h1 vs q => ?_)
  cases es : stbs d1 rs with
  | none => rw [es] at h1; exact h1.elim
  | some y =>
    obtain ⟨ds, d2⟩ := y
    rw [es] at h1
    obtain ⟨G2, s2, k2, z2⟩ := stbs_ok s1.rel q es
    have h2 : Post X W G1 H1 sg d1 (wE X sg H Q) (if ds.length = n then asE (g [] ds) d2 else .bad) := h1
    by_cases hl : ds.length = n
    · rw [if_pos hl] at h2
      refine ⟨by rw [z2.len]; exact hl, G2, [], ds, rel_argsF s2.rel.ex z2, ?_⟩
      cases ho : g [] ds with
      | bad => rw [ho] at h2; exact h2
      | val d st' =>
        rw [ho] at h2
        intro v G' H' c dv
        have s3 := stp_callF s2.rel c
        exact h2 G' H' (s2.trans s3) k2 v dv
      | new x st' =>
        rw [ho] at h2
        intro v G' H' c q
        obtain ⟨s3, w3⟩ := stp_callF3 s2.rel c
        exact h2 G' H' (s2.trans s3) k2 v ((rv_call q fun p hp z => (s2.rel.ow (w3 p z)).2 hp).from s1.d)
      | ex c st' =>
        rw [ho] at h2
        intro C G' H' hc cc
        have s3 := stp_callF s2.rel cc
        exact h2 C G' H' hc (s2.trans s3)
    · rw [if_neg hl] at h2; exact h2.elim
theorem se_call {x : Str} {n : Nat} {g : Fn} {e : Expr} {es : List Expr} {p pos : Pos} {f : S → Out (List Rv)} (tk : Takes X W) (F : FnD X x false n g) (hg : Gl X x) (ha : SA X W (e :: es) f) (hdb : (x == ("__debug__" : Str)) = false := by decide)
    (he : starEach (e :: es) X.env = (false, eval e X.env) :: starEach es X.env := by rfl) (hpl : (backTo pos (starEach es X.env)).any (·.1) = false := by rfl) : SE X W (.Call (.Name x p) (e :: es) [] pos) (dCall n g f) := by
  obtain ⟨t, pa, sa⟩ := ha
  obtain ⟨k, ff, fd, ps, F, hr, hm, hk, hb⟩ := F
  exact ⟨_, pe_callS F hr hg hm hk hb (fun σ => passAt tk σ) pa hdb he hpl, so_call sa⟩
/-- the first argument a slot's own list, that the def may change -/
theorem se_callI (i : Nat) {x y : Str} {n : Nat} {g : Fn} {es : List Expr} {p py pos : Pos} {f : S → Out (List Rv)} (tk : Takes X W) (F : FnD X x true n g) (hg : Gl X x) (ha : SA X W es f) (hN : X.N[i]? = some y := by rfl) (hv : Vis X.env.scope y := by first | exact Or.inl rfl | exact Or.inr (Or.inl rfl) | exact Or.inr (Or.inr rfl)) (hd : (y == ("__debug__" : Str)) = false := by decide)
    (hcd : (y == ("__classdict__" : Str)) = false := by decide) (hdb : (x == ("__debug__" : Str)) = false := by decide)
    (he : starEach (.Name y py :: es) X.env = (false, eval (.Name y py) X.env) :: starEach es X.env := by rfl) (hpl : (backTo pos (starEach es X.env)).any (·.1) = false := by rfl) : SE X W (.Call (.Name x p) (.Name y py :: es) [] pos) (dCallI n g i f) := by
  obtain ⟨t, pa, sa⟩ := ha
  obtain ⟨k, ff, fd, ps, F, hr, hm, hk, hb⟩ := F
  refine ⟨_, pe_callS F hr hg hm hk hb (fun σ => passAt tk σ) (pa_cons (pe_var hN hv hd hcd) pa he) hdb he hpl, fun G H sg dl Q re h => ?_⟩
  unfold dCallI at h
  cases hi : isOwn dl i with
  | false => rw [hi] at h; exact h.elim
  | true =>
    rw [hi] at h
    obtain ⟨b0, st0, ei⟩ := isOwn_ok hi
    obtain ⟨pp, us0, q1, _, _, _⟩ := re.own i b0 st0 ei
    refine ⟨.ref pp, q1, ?_⟩
    refine sa G H sg dl _ re ((post_bind h).imp fun rs d1 G1 H1 s1 k1 h1 vs q => ?_)
    cases es : stbs d1 rs with
    | none => rw [es] at h1; exact h1.elim
    | some y =>
      obtain ⟨ds, d2⟩ := y
      rw [es] at h1
      obtain ⟨G2, s2, k2, z2⟩ := stbs_ok s1.rel q es
      have h2 : Post X W G1 H1 sg d1 (wE X sg H Q) (match d2[i]? with
        | some (.own b st) => if ds.length + 1 = n then asE (g st ds) (d2.set i (.own b (stF (g st ds)))) else .bad
        | _ => .bad) := h1
      cases e2 : d2[i]? with
      | none => rw [e2] at h2; exact h2.elim
      | some sl =>
        rw [e2] at h2
        cases sl with
        | no => exact h2.elim
        | val _ => exact h2.elim
        | big _ => exact h2.elim
        | own b st =>
          have h3 : Post X W G1 H1 sg d1 (wE X sg H Q) (if ds.length + 1 = n then asE (g st ds) (d2.set i (.own b (stF (g st ds)))) else .bad) := h2
          by_cases hl : ds.length + 1 = n
          · rw [if_pos hl] at h3
            obtain ⟨p2, us, w1, w2, w3, w4⟩ := s2.rel.own i b st e2
            rw [q1] at w1
            cases w1
            refine ⟨by rw [List.length_cons, z2.len]; exact hl, G2, st, ds, rel_argsT s2.rel.ex rfl w2 w3 w4 z2, ?_⟩
            cases ho : g st ds with
            | bad => rw [ho] at h3; exact h3
            | val d st' =>
              rw [ho] at h3
              intro v G' H' c dv
              obtain ⟨s3, k3⟩ := stp_callT s2.rel e2 q1 c
              exact h3 G' H' (s2.trans s3) (k2.trans k3) v dv
            | new x st' =>
              rw [ho] at h3
              intro v G' H' c q
              obtain ⟨s3, k3, w3⟩ := stp_callT3 s2.rel e2 q1 c
              exact h3 G' H' (s2.trans s3) (k2.trans k3) v ((rv_call q w3).from s1.d)
            | ex c st' =>
              rw [ho] at h3
              intro C G' H' hc cc
              obtain ⟨s3, k3⟩ := stp_callT s2.rel e2 q1 cc
              exact h3 C G' H' hc (s2.trans s3)
          · rw [if_neg hl] at h3; exact h3.elim
end
/-! ### a def by its body -/
def stO (io : Bool) (dl : S) : Option (List PyData) := if io then match dl[(0 : Nat)]? with
  | some (.own true st) => some st
  | _ => none
  else some []
def retF (r : Rv) (dl : S) (st : List PyData) : Fo := match r with
  | .val d => .val d st
  | .new ds => .new ds st
  | .loc i => match dl[i]? with
    | some (.val d) => .val d st
    | some (.own false ds) => .new ds st
    | _ => .bad
def finF (io : Bool) : Fl → Fo
  | .ret r dl => match stO io dl with
    | some st => retF r dl st
    | none => .bad
  | .nx dl => match stO io dl with
    | some st => .val .none st
    | none => .bad
  | .ex c dl => match stO io dl with
    | some st => .ex c st
    | none => .bad
  | _ => .bad
/-- m parameters, n names -/
def runF (io : Bool) (m n : Nat) (fb : S → Fl) : Fn := fun st ds => finF io (fb (mkA io st ds ++ List.replicate (n - m) Sl.no))
section
variable {K : PySem.W.Frag}
theorem get_app {A : Type} {l : List A} {n : Nat} {a b : A} {j : Nat} (h : (l ++ List.replicate n a)[j]? = some b) : l[j]? = some b ∨ b = a := by
  by_cases hj : j < l.length
  · rw [List.getElem?_append_left hj] at h
    exact .inl h
  · rw [List.getElem?_append_right (by omega)] at h
    have := List.mem_of_getElem? h
    exact .inr (List.eq_of_mem_replicate this)
theorem app_get {A : Type} {l : List A} {n : Nat} {a b : A} {j : Nat} (h : l[j]? = some b) : (l ++ List.replicate n a)[j]? = some b := by
  rw [List.getElem?_append_left (lt_of_get h)]
  exact h
theorem rel_start {G H : Hp} {sg : L2.St} {dl : S} {n n' : Nat} (re : Rel K G H sg dl) (hn : n = n') : Rel K G H (sg ++ List.replicate n none) (dl ++ List.replicate n' Sl.no) := by
  subst hn
  have key : ∀ {i : Nat} {s : Sl}, (dl ++ List.replicate n Sl.no)[i]? = some s → s ≠ .no → dl[i]? = some s := fun h hn => by
    rcases get_app h with z | z
    · exact z
    · exact absurd z hn
  have sgk : ∀ {i : Nat} {s : Sl} {v : Option V}, dl[i]? = some s → (sg ++ List.replicate n none)[i]? = some v → sg[i]? = some v := fun {i s v} h1 h2 => by
    have hl := lt_of_get h1
    rw [← re.len] at hl
    rw [List.getElem?_append_left hl] at h2
    exact h2
  refine ⟨by rw [List.length_append, List.length_append, List.length_replicate, List.length_replicate, re.len], re.ex, fun i d h => ?_, fun i s h hm => ?_, fun i j s s' v v' p h1 h2 h3 h4 h5 h6 => ?_⟩
  · obtain ⟨v, q1, q2⟩ := re.val i d (key h fun z => nomatch z)
    exact ⟨v, app_get q1, q2⟩
  · obtain ⟨v, q1, q2⟩ := re.mn i s (key h (mine_no hm)) hm
    exact ⟨v, app_get q1, q2⟩
  · have h1' := key h1 (fs_no h5)
    have h2' := key h2 (fs_no h6)
    exact re.dj i j s s' v v' p h1' h2' (sgk h1' h3) (sgk h2' h4) h5 h6
theorem ow_start {H : Hp} {sg : L2.St} {dl : S} {n n' : Nat} {p : Addr} (hl : sg.length = dl.length) : Ow H (sg ++ List.replicate n none) (dl ++ List.replicate n' Sl.no) p ↔ Ow H sg dl p := by
  constructor
  · rintro ⟨i, s, v, h1, h2, h3⟩
    rcases get_app h1 with z | z
    · have hi := lt_of_get z
      rw [← hl] at hi
      rw [List.getElem?_append_left hi] at h2
      exact ⟨i, s, v, z, h2, h3⟩
    · subst z
      exact h3.elim
  · rintro ⟨i, b, ds, h1, h2, h3⟩
    exact ⟨i, b, ds, app_get h1, app_get h2, h3⟩
theorem ow_mk {H H' : Hp} {sg : L2.St} {io : Bool} {st st' ds : List PyData} {p : Addr} (h : Ow H' sg (mkA io st' ds) p) : Ow H sg (mkA io st ds) p := by
  obtain ⟨j, s, v, h1, h2, h3⟩ := h
  cases io with
  | false =>
    obtain ⟨d', e1, e2⟩ := mkA_f h1
    subst e1
    exact h3.elim
  | true =>
    rcases mkA_t h1 with ⟨rfl, e1⟩ | ⟨_, _, _, e1, _⟩
    · subst e1
      exact ⟨0, .own true st, v, rfl, h2, h3⟩
    · subst e1
      exact h3.elim
/-- a def's way from its entry, seen by the caller -/
theorem stp_out {G H G' H' : Hp} {vs : List V} {io : Bool} {st st' ds : List PyData} {n : Nat} {sg' : L2.St} {dl' : S} (re : Rel K G H (vs.map some) (mkA io st ds)) (s : Stp K G H (vs.map some ++ List.replicate n none) (mkA io st ds ++ List.replicate n Sl.no) G' H' sg' dl') (ho : stO io dl' = some st') :
    Stp K G H (vs.map some) (mkA io st ds) G' H' (vs.map some) (mkA io st' ds) := by
  have os : ∀ p, Ow H (vs.map some ++ List.replicate n none) (mkA io st ds ++ List.replicate n Sl.no) p ↔ Ow H (vs.map some) (mkA io st ds) p := fun p => ow_start re.len
  cases io with
  | false =>
    refine ⟨rel_argsF s.rel.ex ?_, s.g, fun a o h1 h2 => s.k a o (fun z => h1 ((os a).mp z)) h2, fun a h1 h2 h3 => s.n a (fun z => h1 ((os a).mp z)) h2 h3, fun p h => (ow_F h).elim, s.d, fun j x h => ?_⟩
    · have z : DaAll K G vs ds := by
        have hl : vs.length = ds.length := by
          have := re.len
          rw [List.length_map] at this
          exact this.trans (List.length_map ..)
        have go : ∀ (us : List V) (es : List PyData), us.length = es.length → (∀ (i : Nat) (d : PyData), es[i]? = some d → ∃ v, us[i]? = some v ∧ Da K G v d) → DaAll K G us es := by
          intro us
          induction us with
          | nil =>
            intro es hl _
            cases es with
            | nil => exact .nil
            | cons _ _ => cases hl
          | cons u us ih =>
            intro es hl h
            cases es with
            | nil => cases hl
            | cons e es =>
              obtain ⟨v, q1, q2⟩ := h 0 e rfl
              cases q1
              exact .cons q2 (ih es (Nat.succ.inj hl) fun i d hd => by simpa using h (i + 1) d (by simpa using hd))
        refine go vs ds hl fun i d hd => ?_
        obtain ⟨v, q1, q2⟩ := re.val i d (by show (ds.map Sl.val)[i]? = _; rw [List.getElem?_map, hd]; rfl)
        rw [List.getElem?_map] at q1
        cases hv : vs[i]? with
        | none => rw [hv] at q1; cases q1
        | some w => rw [hv] at q1; cases q1; exact ⟨v, rfl, q2⟩
      exact z.ex s.g
    · obtain ⟨d', e1, e2⟩ := mkA_f h
      cases e1
  | true =>
    have ho' : (match dl'[(0 : Nat)]? with
      | some (.own true st) => some st
      | _ => none) = some st' := ho
    have h0 : dl'[(0 : Nat)]? = some (.own true st') := by
      split at ho'
      · cases ho'; assumption
      · cases ho'
    obtain ⟨p', us', q1, q2, q3, q4⟩ := s.rel.own 0 true st' h0
    obtain ⟨_, e0⟩ := s.io 0 st' h0
    obtain ⟨p, us, r1, r2, r3, r4⟩ := re.own 0 true st rfl
    have ep : p = p' := by
      have a1 : (vs.map some ++ List.replicate n none)[0]? = some (some (V.ref p)) := app_get r1
      rw [e0, a1] at q1
      cases q1
      rfl
    subst ep
    have op : Ow H (vs.map some) (mkA true st ds) p := Ow.own (i := 0) (b := true) (ds := st) rfl r1
    refine ⟨⟨?_, s.rel.ex, fun j d h => ?_, fun j s1 h hm => ?_, fun i j s1 s2 v1 v2 q h1 h2 _ _ h5 h6 => ?_⟩, s.g, fun a o h1 h2 => s.k a o (fun z => h1 ((os a).mp z)) h2, fun a h1 h2 h3 => s.n a (fun z => h1 ((os a).mp z)) h2 h3, fun q h => ?_, s.d, fun j x h => ?_⟩
    · have := re.len
      exact this
    · rcases mkA_t h with ⟨_, e1⟩ | ⟨i, d', rfl, e1, e2⟩
      · cases e1
      · cases e1
        obtain ⟨v, w1, w2⟩ := re.val (i + 1) d (by show (Sl.own true st :: ds.map Sl.val)[i + 1]? = _; simp [e2])
        exact ⟨v, w1, w2.ex s.g⟩
    · rcases mkA_t h with ⟨rfl, e1⟩ | ⟨i, d', rfl, e1, e2⟩
      · subst e1
        exact ⟨.ref p, r1, ⟨p, us', rfl, q3, q4⟩, fun a ha => by cases ha; exact q2⟩
      · subst e1
        cases hm
    · rcases mkA_t h1 with ⟨rfl, _⟩ | ⟨_, _, _, e1, _⟩
      · rcases mkA_t h2 with ⟨rfl, _⟩ | ⟨_, _, _, e1, _⟩
        · rfl
        · subst e1
          exact h6.elim
      · subst e1
        exact h5.elim
    · exact .inl (ow_mk h)
    · rcases mkA_t h with ⟨rfl, e1⟩ | ⟨_, _, _, e1, _⟩
      · exact ⟨⟨st, rfl⟩, rfl⟩
      · cases e1
end
section
variable {P : Program} {w : World} {K : PySem.W.Frag} {mg : Str → Option Value} {base : Heap}
theorem fn_def {x qual : Str} {st : Stmt} {f : Addr} {fd : FuncData} {N ps : List Str} {k : Nat} (F : Fun K x qual st f fd) (Sc : FnScope N ps (defScope st)) (io : Bool) {fb : S → Fl}
    (hbody : ∀ (cdv : Value) (A : Around) (outer : List Env) (s : Shared) (H : Hp) (E : XK), Room k (A.deeper (PyProof.Rows.envOfC qual (defScope st) s.heap.objs.size f cdv)) →
      SB (cxOf (L2.CX P w) P w K mg base N qual (defScope st) f cdv A outer s H E) (fun cls d _ H => E cls d H) (defBody st) fb) :
    FnOk P w K mg base (L2.CX P w) (k + 1) f fd ps (spD K mg io ps.length (runF io ps.length N.length fb)) := by
  refine F.okX Sc (fun vs H Q E h => h.1) fun cdv A outer s H vs Q E hr h => ?_
  obtain ⟨t, p, so⟩ := hbody cdv A outer s H E hr
  refine ⟨t, p, ?_⟩
  obtain ⟨hn, G, ss, ds, re, hp⟩ := h
  have hlen : (mkA io ss ds).length = vs.length := by rw [← re.len, List.length_map]
  unfold L2.start
  rw [hn]
  have re0 := rel_start (n := N.length - ps.length) re rfl
  refine so G H _ _ _ re0 ?_
  unfold runF at hp
  generalize hfl : fb (mkA io ss ds ++ List.replicate (N.length - ps.length) Sl.no) = fl at hp ⊢
  cases fl with
  | bad => exact hp
  | brk _ => exact hp.elim
  | cnt _ => exact hp.elim
  | nx dl' =>
    intro G' H' sg' s'
    have hp' : PostC K mg E io G H vs ss ds Q (match stO io dl' with
      | some st => .val .none st
      | none => .bad) := hp
    cases ho : stO io dl' with
    | none => rw [ho] at hp'; exact hp'.elim
    | some st' =>
      rw [ho] at hp'
      exact hp' .non G' H' (stp_out re s' ho) .non
  | ex c dl' =>
    intro C G' H' sg' hc s'
    have hp' : PostC K mg E io G H vs ss ds Q (match stO io dl' with
      | some st => .ex c st
      | none => .bad) := hp
    cases ho : stO io dl' with
    | none => rw [ho] at hp'; exact hp'.elim
    | some st' =>
      rw [ho] at hp'
      exact hp' C G' H' hc (stp_out re s' ho)
  | ret r dl' =>
    intro v G' H' sg' s' q
    have hp' : PostC K mg E io G H vs ss ds Q (match stO io dl' with
      | some st => retF r dl' st
      | none => .bad) := hp
    cases ho : stO io dl' with
    | none => rw [ho] at hp'; exact hp'.elim
    | some st' =>
      rw [ho] at hp'
      have so' := stp_out re s' ho
      have now : ∀ p, H p = none → ¬ Ow H' (vs.map some) (mkA io st' ds) p := fun p hp z => (re.ow (ow_mk z)).2 hp
      cases r with
      | val d => exact hp' v G' H' so' q
      | new x => exact hp' v G' H' so' (rv_call q now)
      | loc i =>
        have hp2 : PostC K mg E io G H vs ss ds Q (match dl'[i]? with
          | some (.val d) => .val d st'
          | some (.own false ds) => .new ds st'
          | _ => .bad) := hp'
        obtain ⟨qi, _⟩ := q
        cases hs : dl'[i]? with
        | none => rw [hs] at hp2; exact hp2.elim
        | some sl =>
          rw [hs] at hp2
          cases sl with
          | no => exact hp2.elim
          | big _ => exact hp2.elim
          | val d =>
            obtain ⟨v', z1, z2⟩ := s'.rel.val i d hs
            rw [qi] at z1
            cases z1
            exact hp2 v G' H' so' z2
          | own b x =>
            cases b with
            | true => exact hp2.elim
            | false =>
              obtain ⟨p1, us, z1, z2, z3, z4⟩ := s'.rel.own i false x hs
              rw [qi] at z1
              cases z1
              have h0 : H p1 = none := by
                rcases s'.w p1 (Ow.own hs qi) with y | y
                · exfalso
                  have y' := (ow_start re.len).mp y
                  cases io with
                  | false => exact ow_F y'
                  | true =>
                    obtain ⟨j, b', x', y1, y2, y3⟩ := y'
                    rcases mkA_t y1 with ⟨rfl, e1⟩ | ⟨_, _, _, e1, _⟩
                    · subst e1
                      cases y3
                      have ho' : (match dl'[(0 : Nat)]? with
                        | some (.own true st) => some st
                        | _ => none) = some st' := ho
                      have h0 : dl'[(0 : Nat)]? = some (.own true st') := by
                        split at ho'
                        · cases ho'; assumption
                        · cases ho'
                      obtain ⟨_, e0⟩ := s'.io 0 st' h0
                      have e3 : sg'[(0 : Nat)]? = some (some (V.ref p1)) := by rw [e0]; exact app_get y2
                      have e4 := s'.rel.inj i 0 false true x st' p1 hs h0 qi e3
                      subst e4
                      rw [h0] at hs
                      cases hs
                    · subst e1
                      exact y3
                · exact y
              exact hp2 (.ref p1) G' H' so' ⟨p1, us, rfl, h0, z3, z2, now p1 h0, z4⟩
end
end DL

namespace DL
open PySem L2
section
variable {X : Cx} {W : WX} {K : PySem.W.Frag}
/-! ### list * n, tuple * n -/
def rRepS (K : PySem.W.Frag) : R2 := fun x y H Q => ∃ l k xs, x = .ref l ∧ y = .int k ∧ SqL K H l xs ∧ -(2 ^ 63) ≤ k ∧ k < 2 ^ 63 ∧ xs.length * k.toNat ≤ 2 ^ 24 ∧
  ∀ p, H p = none → Q (.ref p) (upd H p (.lst (List.replicate k.toNat xs).flatten))
theorem vals_rep {xs : List V} {us : List Value} (r : Vals xs us) : ∀ n : Nat, Vals (List.replicate n xs).flatten (List.replicate n us).flatten
  | 0 => .nil
  | n + 1 => by
    rw [List.replicate_succ, List.replicate_succ, List.flatten_cons, List.flatten_cons]
    exact Vals.append r (vals_rep r n)
theorem len_rep {A : Type} (xs : List A) : ∀ n : Nat, (List.replicate n xs).flatten.length = n * xs.length
  | 0 => by simp
  | n + 1 => by rw [List.replicate_succ, List.flatten_cons, List.length_append, len_rep xs n, Nat.succ_mul]; omega
theorem op_repS : OpR X (binaryOp .Mult) (rRepS X.K) := by
  intro pins s σ H x y v u Q I rx ry h
  obtain ⟨l, k, xs, rfl, rfl, hH, h1, h2, hz, q⟩ := h
  cases rx
  obtain ⟨t, rfl⟩ := ry
  obtain ⟨its, r, ⟨o1, n1, ho, c1, d1, e1⟩, z⟩ := I.list hH
  have l1 := r.length
  obtain ⟨cls, d, data, sl⟩ := o1
  simp only at c1 e1
  subst c1 e1
  have hsz' : its.toArray.size * k.toNat ≤ 2 ^ 24 := by rw [List.size_toArray, ← l1]; exact hz
  refine wpAny_binaryOp_repeat_ref (T := "list") (U := "int") (by decide) ⟨_, ho, rfl⟩ (fun s' => typeIs_int s' k t) noFill_list_mul F.fills_int_mul F.slot_int_rmul repeat_list F.slot_int_index.lookup
    (call_meets F.slot_int_rmul (typeIs_int s k t) F.entry_int_rmul (F.args_int_rmul_2 _ _) (lm_int_rmul_list_any k t l its.toArray n1 d sl)
      ⟨ho, rfl, ⟨_, ho, rfl⟩, call_meets F.slot_list_mul ⟨_, ho, rfl⟩ F.entry_list_mul (F.args_list_mul_2 _ _)
        (lm_list_mul_any l its.toArray n1 d sl k t (by simp [Builtin.List.listFitsIndex]; omega) (by omega) (by simp [Builtin.List.listTooLong, sizeLine]; omega))
        ⟨ho, ?_⟩⟩)
  rw [PyProof.Rows.listMul_foldl_if]
  exact ⟨.ref _, _, I.lnew (t' := s.toks) (vals_rep r k.toNat) (by rw [len_rep, Nat.mul_comm]; exact Nat.le_trans hz (by decide)), rfl, q _ I.fresh⟩
abbrev rRepA (K : PySem.W.Frag) : R2 := fun x y H Q => rRepS K x y H Q ∨ rRepT K x y H Q
theorem op_repA : OpR X (binaryOp .Mult) (rRepA X.K) := OpR.or op_repS op_repT
theorem da_rep {G : Hp} {vs : List V} {ds : List PyData} (r : DaAll K G vs ds) : ∀ n : Nat, DaAll K G (List.replicate n vs).flatten (List.replicate n ds).flatten
  | 0 => .nil
  | n + 1 => by
    rw [List.replicate_succ, List.replicate_succ, List.flatten_cons, List.flatten_cons]
    exact DaAll.append r (da_rep r n)
def oRep : PyData → PyData → Option Rv
  | .list ds, .int k => if k < 100000 ∧ -100000 ≤ k ∧ ds.length * k.toNat ≤ 100000 then some (.new (List.replicate k.toNat ds).flatten) else none
  | .tuple ds, .int k => if ds ≠ [] ∧ 2 ≤ k ∧ k ≤ 1000 ∧ ds.length ≤ 1000 then some (.val (.tuple (List.replicate k.toNat ds).flatten)) else none
  | _, _ => none
theorem os_rep : OpS K (rRepA K) oRep := by
  intro G H v u a b r e ta tb h Q q
  cases a <;> try (cases b <;> cases h; done)
  · cases b <;> try (cases h)
    rename_i ds k
    have h' : (if k < 100000 ∧ -100000 ≤ k ∧ ds.length * k.toNat ≤ 100000 then some (Rv.new (List.replicate k.toNat ds).flatten) else none) = some r := h
    by_cases hc : k < 100000 ∧ -100000 ≤ k ∧ ds.length * k.toNat ≤ 100000
    · rw [if_pos hc] at h'
      cases h'
      obtain ⟨p, vs, e1, sq, z⟩ := ta.lst e
      exact .inl ⟨p, k, vs, e1, tb.int, sq, by omega, by omega, by rw [z.len]; omega, q.lst e (da_rep z _)⟩
    · rw [if_neg hc] at h'; cases h'
  · cases b <;> try (cases h)
    rename_i ds k
    have h' : (if ds ≠ [] ∧ 2 ≤ k ∧ k ≤ 1000 ∧ ds.length ≤ 1000 then some (Rv.val (.tuple (List.replicate k.toNat ds).flatten)) else none) = some r := h
    by_cases hc : ds ≠ [] ∧ 2 ≤ k ∧ k ≤ 1000 ∧ ds.length ≤ 1000
    · rw [if_pos hc] at h'
      cases h'
      obtain ⟨p, vs, e1, sq, z⟩ := ta.tup e
      refine .inr ⟨p, k, vs, e1, tb.int, sq, fun hv => hc.1 ?_, hc.2.1, hc.2.2.1, by rw [z.len]; exact hc.2.2.2, q.tup e (da_rep z _)⟩
      subst hv
      cases ds with
      | nil => rfl
      | cons _ _ => exact nomatch z
    · rw [if_neg hc] at h'; cases h'
/-! ### xs[::-1] -/
def oRevL : PyData → Option Rv
  | .list ds => some (.new ds.reverse)
  | _ => none
theorem se_revL {e : Expr} {k : Nat} {p1 p2 p3 pos : Pos} {f : S → Out Rv} (he : SE X W e f) : SE X W (.Subscript e (.Slice none none (some (.UnaryOp .USub (.Constant (.int 1) k p1) p2)) p3) pos) (d1 oRevL f) := by
  refine se_1 (r1 := fun x H1 Q => ∃ a xs, x = .ref a ∧ SqL X.K H1 a xs ∧ ∀ p, H1 p = none → Q (.ref p) (upd H1 p (.lst xs.reverse))) (fun ta pa => pe_revL pa) ?_ he
  intro G H v a r e ta h Q q
  cases a <;> try (cases h)
  obtain ⟨p, vs, e1, sq, z⟩ := ta.lst e
  exact ⟨p, vs, e1, sq, q.lst e z.rev⟩
/-! ### zip, enumerate, reversed -/
def dIt2 (g : List PyData → List PyData → List PyData) (f : S → Out (List Rv)) : S → Out (List PyData) := fun dl => (f dl).bind fun rs d1 => match stbs d1 rs with
  | some ([.list a, .list b], d2) => .ok (g a b) d2
  | _ => .bad
def dIt1 (g : List PyData → List PyData) (f : S → Out (List Rv)) : S → Out (List PyData) := fun dl => (f dl).bind fun rs d1 => match stbs d1 rs with
  | some ([.list a], d2) => .ok (g a) d2
  | _ => .bad
def zipD (a b : List PyData) : List PyData := (a.zip b).map fun p => .tuple [p.1, p.2]
theorem zipD_at {a b : List PyData} {i : Nat} {d : PyData} (h : (zipD a b)[i]? = some d) : ∃ x y, a[i]? = some x ∧ b[i]? = some y ∧ d = .tuple [x, y] := by
  unfold zipD at h
  rw [List.getElem?_map] at h
  cases e : (a.zip b)[i]? with
  | none => rw [e] at h; cases h
  | some p =>
    rw [e] at h
    cases h
    rw [List.getElem?_zip_eq_some] at e
    exact ⟨p.1, p.2, e.1, e.2, rfl⟩
theorem wk_zip {G : Hp} {a b : Addr} {va vb : List V} {da db : List PyData} (h : SqL K G a va) (z : DaAll K G va da) (h2 : SqL K G b vb) (z2 : DaAll K G vb db) : Wk K (Itz K a b) G (zipD da db) := by
  intro i G' H' e1 e2
  have ha := ex_l (e1.trans e2) h
  have hb := ex_l (e1.trans e2) h2
  refine ⟨fun d hd => ?_, fun hl => ⟨va, vb, ha, hb, ?_⟩⟩
  · obtain ⟨x, y, q1, q2, rfl⟩ := zipD_at hd
    obtain ⟨v, hv, dv⟩ := z.at q1
    obtain ⟨u, hu, du⟩ := z2.at q2
    refine ⟨⟨va, vb, v, u, ha, hb, hv, hu⟩, fun w H2 y' => ?_⟩
    obtain ⟨T, x', y', rfl, hT, rfl, y1, y2⟩ := y'
    have e3 := y1 va ha
    have e4 := y2 vb hb
    rw [hv] at e3
    rw [hu] at e4
    cases e3
    cases e4
    have al := Alc.made e2 hT (.tup [v, u])
    exact ⟨_, al, .tup (.inl (.inl upd_same)) (.cons ((dv.ex e1).ex al.g) (.cons ((du.ex e1).ex al.g) .nil))⟩
  · unfold zipD at hl
    rw [List.length_map, List.length_zip] at hl
    rw [z.len, z2.len]
    omega
theorem si_zip {elts : List Expr} {kk : Nat} {tpos p pos : Pos} {e e2 : Expr} {f : S → Out (List Rv)} (hg : Gl X "zip") (hm : X.mg "zip" = none) (ha : SA X W [e, e2] f)
    (hs : starEach [e, e2] X.env = (false, eval e X.env) :: starEach [e2] X.env := by rfl) (hpl : (backTo pos (starEach [e2] X.env)).any (·.1) = false := by rfl) : SI X W (.Tuple elts kk tpos) (.Call (.Name "zip" p) [e, e2] [] pos) (dIt2 zipD f) := by
  obtain ⟨t, pa, sa⟩ := ha
  refine ⟨_, pi_zip hg hm pa hs hpl, fun G H sg dl R re h => ?_⟩
  refine sa G H sg dl _ re ((post_bind h).imp fun rs d1 G1 H1 s1 k1 h1 vs q => ?_)
  split at h1
  · rename_i a b d2 es
    obtain ⟨G2, s2, k2, z2⟩ := stbs_ok s1.rel q es
    cases z2 with
    | cons z3 z4 =>
      cases z4 with
      | cons z5 z6 =>
        cases z6
        cases z3 with
        | lst hs ha =>
          cases z5 with
          | lst hs2 ha2 => exact ⟨_, _, _, _, rfl, ex_l s2.rel.ex hs, ex_l s2.rel.ex hs2, h1 G2 H1 s2 k2 _ (wk_zip hs ha hs2 ha2)⟩
  · exact h1.elim
def enumD (a : List PyData) : List PyData := a.mapIdx fun i d => .tuple [.int (i : Nat), d]
theorem wk_enum {G : Hp} {a : Addr} {va : List V} {da : List PyData} (h : SqL K G a va) (z : DaAll K G va da) : Wk K (Ite K a) G (enumD da) := by
  intro i G' H' e1 e2
  have ha := ex_l (e1.trans e2) h
  refine ⟨fun d hd => ?_, fun hl => ⟨va, ha, ?_⟩⟩
  · unfold enumD at hd
    rw [List.getElem?_mapIdx] at hd
    cases q1 : da[i]? with
    | none => rw [q1] at hd; cases hd
    | some x =>
      rw [q1] at hd
      cases hd
      obtain ⟨v, hv, dv⟩ := z.at q1
      refine ⟨⟨va, v, ha, hv⟩, fun w H2 y' => ?_⟩
      obtain ⟨T, x', rfl, hT, rfl, y1⟩ := y'
      have e3 := y1 va ha
      rw [hv] at e3
      cases e3
      have al := Alc.made e2 hT (.tup [.int (i : Nat), v])
      exact ⟨_, al, .tup (.inl (.inl upd_same)) (.cons (.int _) (.cons ((dv.ex e1).ex al.g) .nil))⟩
  · unfold enumD at hl
    rw [List.length_mapIdx] at hl
    rw [z.len]
    exact hl
theorem si_enum {elts : List Expr} {kk : Nat} {tpos p pos : Pos} {e : Expr} {f : S → Out (List Rv)} (hg : Gl X "enumerate") (hm : X.mg "enumerate" = none) (ha : SA X W [e] f) (hs : starEach [e] X.env = [(false, eval e X.env)] := by rfl) : SI X W (.Tuple elts kk tpos) (.Call (.Name "enumerate" p) [e] [] pos) (dIt1 enumD f) := by
  obtain ⟨t, pa, sa⟩ := ha
  refine ⟨_, pi_enum hg hm pa hs, fun G H sg dl R re h => ?_⟩
  refine sa G H sg dl _ re ((post_bind h).imp fun rs d1 G1 H1 s1 k1 h1 vs q => ?_)
  split at h1
  · rename_i a d2 es
    obtain ⟨G2, s2, k2, z2⟩ := stbs_ok s1.rel q es
    cases z2 with
    | cons z3 z4 =>
      cases z4
      cases z3 with
      | lst hs ha => exact ⟨_, _, rfl, ex_l s2.rel.ex hs, h1 G2 H1 s2 k2 _ (wk_enum hs ha)⟩
  · exact h1.elim
theorem wk_rev {G : Hp} {a : Addr} {va : List V} {da : List PyData} (h : SqL K G a va) (z : DaAll K G va da) : Wk K (Itv K a va.length) G da.reverse := by
  intro i G' H' e1 e2
  have ha := ex_l (e1.trans e2) h
  have hlen := z.len
  refine ⟨fun d hd => ?_, fun hl => ?_⟩
  · have hi := lt_of_get hd
    rw [List.length_reverse] at hi
    rw [List.getElem?_reverse hi] at hd
    have hd' : da[va.length - 1 - i]? = some d := by rw [hlen]; exact hd
    obtain ⟨v, hv, dv⟩ := z.at hd'
    refine ⟨⟨by omega, va, v, ha, hv⟩, fun w H2 y' => ?_⟩
    obtain ⟨rfl, y1⟩ := y'
    have e3 := y1 va ha
    rw [hv] at e3
    cases e3
    exact ⟨G', Alc.refl e2, dv.ex e1⟩
  · rw [List.length_reverse] at hl
    show va.length ≤ i
    omega
theorem si_rev {tg e : Expr} {p pos : Pos} {f : S → Out (List Rv)} (hg : Gl X "reversed") (hm : X.mg "reversed" = none) (ha : SA X W [e] f) (hs : starEach [e] X.env = [(false, eval e X.env)] := by rfl) : SI X W tg (.Call (.Name "reversed" p) [e] [] pos) (dIt1 List.reverse f) := by
  obtain ⟨t, pa, sa⟩ := ha
  refine ⟨_, pi_reversed hg hm pa hs, fun G H sg dl R re h => ?_⟩
  refine sa G H sg dl _ re ((post_bind h).imp fun rs d1 G1 H1 s1 k1 h1 vs q => ?_)
  split at h1
  · rename_i a d2 es
    obtain ⟨G2, s2, k2, z2⟩ := stbs_ok s1.rel q es
    cases z2 with
    | cons z3 z4 =>
      cases z4
      cases z3 with
      | lst hs ha => exact ⟨_, _, rfl, ex_l s2.rel.ex hs, h1 G2 H1 s2 k2 _ (wk_rev hs ha)⟩
  · exact h1.elim
/-! ### the whole program's defs -/
structure DefOk (P : Program) (w : World) (K : PySem.W.Frag) (mg : Str → Option Value) (base : Heap) (x : Str) (k : Nat) (io : Bool) (n : Nat) (g : Fn) : Prop where
  ex : ∃ f fd ps, FnOk P w K mg base (L2.CX P w) k f fd ps (spD K mg io n g) ∧ mg x = some (.ref f) ∧ PySem.W.keepIn K (.ref f) = true ∧ Binds K fd ps []
theorem DefOk.fnd {x : Str} {k j : Nat} {io : Bool} {n : Nat} {g : Fn} (h : DefOk X.prog X.w X.K X.mg X.base x k io n g) (hr : Room j X.A) (hk : k ≤ j := by decide) : FnD X x io n g := by
  obtain ⟨f, fd, ps, h1, h2, h3, h4⟩ := h.ex
  exact ⟨k, f, fd, ps, h1, hr.mono hk, h2, h3, h4⟩
end
/-- a module's constant int -/
theorem se_gi {X : Cx} {W : WX} {x : Str} {i : Int} {pos : Pos} (hg : Gl X x) (h : ∃ t, X.mg x = some (.int i t)) (hd : (x == ("__debug__" : Str)) = false := by decide) : SE X W (.Name x pos) (dC (.int i)) := by
  obtain ⟨t, hm⟩ := h
  exact se_gint hg hm hd
/-! ### the law's end -/
def spLaw (K : PySem.W.Frag) : Sp := fun vs H Q _ => ∃ (a : Addr) (ns : List Int), vs = [.ref a] ∧ SqL K H a (ns.map V.int) ∧ ns.length ≤ 63 ∧ ∀ H', Q (.bl true) H'
theorem law_imp {P : Program} {w : World} {K : PySem.W.Frag} {mg : Str → Option Value} {base : Heap} {CX : CXT} {k : Nat} {f : Addr} {fd : FuncData} {ps : List Str} {g : Fn} (F : FnOk P w K mg base CX k f fd ps (spD K mg false 1 g))
    (hg : ∀ ns : List Int, ns.length ≤ 63 → ∃ st, g [] [.list (ns.map PyData.int)] = .val (.bool true) st) : FnOk P w K mg base CX k f fd ps (spLaw K) := by
  refine F.imp fun vs H Q E h => ?_
  obtain ⟨a, ns, rfl, hS, hl, q⟩ := h
  refine ⟨rfl, H, [], [.list (ns.map PyData.int)], rel_argsF (Ex.refl H) (.cons (.lst hS (DaAll.ofInts ns)) .nil), ?_⟩
  obtain ⟨st, e⟩ := hg ns hl
  rw [e]
  intro v G' H' _ dv
  cases dv
  exact q H'
theorem cx_gone {P : Program} {w : World} {H : Hp} {s : Shared} {e : Value} {s' : Shared} (h : L2.CX P w [] H s (fun _ _ _ => False) e s') : False := by
  obtain ⟨_, _, _, _, _, _, _, _, _, _, _, _, z⟩ := h
  exact z
end DL

namespace DL
open PySem L2
/-! ### a slot's own list lent to an expression -/
theorem da_sc {K : PySem.W.Frag} {G G' : Hp} {v : V} {d : PyData} (h : Da K G v d) (e : isSc d = true) : Da K G' v d := by
  cases h with
  | non => exact .non
  | bl b => exact .bl b
  | int i => exact .int i
  | str x => exact .str x
  | lst a b => cases e
  | tup a b => cases e
  | dct a b => cases e
  | exc a b => cases e
theorem das_sc {K : PySem.W.Frag} {G G' : Hp} : ∀ {vs : List V} {ds : List PyData}, DaAll K G vs ds → ds.all isSc = true → DaAll K G' vs ds
  | [], _, h, e => by cases h; exact .nil
  | v :: vs, _, h, e => by
    cases h with
    | cons a b =>
      rw [List.all_cons, Bool.and_eq_true] at e
      exact .cons (da_sc a e.1) (das_sc b e.2)
def slSc : Sl → Bool
  | .own _ ds => ds.all isSc
  | .big _ => false
  | _ => true
def rvSc : Rv → Bool
  | .val d => isSc d
  | .new ds => ds.all isSc
  | .loc _ => false
/-- the expression f with slot i's list lent to it, then taken back -/
noncomputable def dBor (i : Nat) (f : S → Out Rv) : S → Out Rv := fun dl => match dl[i]? with
  | some (.own false ds) => (f (dl.set i (.val (.list ds)))).bind fun r d1 =>
    open Classical in if d1 = dl.set i (.val (.list ds)) ∧ dl.all slSc = true ∧ rvSc r = true then .ok r dl else .bad
  | _ => f dl
theorem so_bor {X : Cx} {W : WX} {t : TE} {f : S → Out Rv} (i : Nat) (h : SoE X W t f) : SoE X W t (dBor i f) := by
  intro G H sg dl Q re po
  unfold dBor at po
  split at po
  · rename_i ds ei
    obtain ⟨G1, v1, s1, k1, ev, dv, p, vs, rfl, g0, g1, zs⟩ := frz_ok2 re ei
    refine h G1 H sg (dl.set i (.val (.list ds))) Q s1.rel ?_
    cases hf : f (dl.set i (.val (.list ds))) with
    | bad => rw [hf] at po; exact po
    | ex c d1 =>
      rw [hf] at po
      exact fun C G2 H2 hc s2 => po C G2 H2 hc (s1.trans s2)
    | ok r d1 =>
      rw [hf] at po
      have po' : Post X W G H sg dl (wE X sg H Q) (open Classical in if d1 = dl.set i (.val (.list ds)) ∧ dl.all slSc = true ∧ rvSc r = true then .ok r dl else .bad) := po
      split at po'
      · rename_i hc
        obtain ⟨rfl, hsc, hr⟩ := hc
        intro G2 H2 s2 k2 v ok
        have h2p : H2 p = some (.lst vs) := s2.rel.ex p _ (s2.g p _ g1)
        have sl : ∀ j s, dl[j]? = some s → slSc s = true := fun j s hj => (List.all_eq_true.mp hsc) s (List.mem_of_getElem? hj)
        have hs : ∀ j, j ≠ i → (dl.set i (.val (.list ds)))[j]? = dl[j]? := fun j hj => List.getElem?_set_ne (Ne.symm hj)
        have gx : Ex G G2 := s1.g.trans s2.g
        have kp : ∀ j s v, j ≠ i → dl[j]? = some s → sg[j]? = some (some v) → ∀ a, Fs H s v a → a ≠ p := fun j s v hj z1 z2 a z3 zz => hj (re.dj j i s _ v _ a z1 ei z2 ev z3 (by rw [zz]; rfl))
        have rl : Rel X.K G H2 sg dl := by
          refine ⟨re.len, gx.trans s2.rel.ex, re.val, fun j s z hm => ?_, fun j j' sl1 sl2 v1 v2 a z1 z2 z3 z4 z5 z6 => ?_⟩
          · by_cases hj : j = i
            · subst hj
              rw [ei] at z
              cases z
              exact ⟨.ref p, ev, ⟨p, vs, rfl, h2p, zs⟩, fun a ha => by cases ha; exact g0⟩
            · cases s with
              | no => cases hm
              | val _ => cases hm
              | big m => exact absurd (sl j _ z) (by simp [slSc])
              | own b ds' =>
                obtain ⟨q, vs', z1, z2, z3, z4⟩ := s2.rel.own j b ds' (by rw [hs j hj]; exact z)
                exact ⟨.ref q, z1, ⟨q, vs', rfl, z3, das_sc z4 (sl j _ z)⟩, fun a ha => by cases ha; exact gx.nn z2⟩
          · refine re.dj j j' sl1 sl2 v1 v2 a z1 z2 z3 z4 ?_ ?_
            · cases sl1 with
              | big m => exact absurd (sl j _ z1) (by simp [slSc])
              | own _ _ => exact z5
              | no => exact z5
              | val _ => exact z5
            · cases sl2 with
              | big m => exact absurd (sl j' _ z2) (by simp [slSc])
              | own _ _ => exact z6
              | no => exact z6
              | val _ => exact z6
        have ow : ∀ q, ¬ Ow H sg dl q → ¬ Ow H sg (dl.set i (.val (.list ds))) q := fun q n z => n (by
          obtain ⟨j, s, v, z1, z2, z3⟩ := z
          by_cases hj : j = i
          · subst hj
            rw [List.getElem?_set_self (lt_of_get ei)] at z1
            cases z1
            exact z3.elim
          · rw [hs j hj] at z1
            exact ⟨j, s, v, z1, z2, z3⟩)
        have wb : ∀ q, Ow H2 sg dl q → Ow H sg dl q := fun q ⟨j, s, v, z1, z2, z3⟩ => by
          cases s with
          | big m => exact absurd (sl j _ z1) (by simp [slSc])
          | own b x => exact ⟨j, .own b x, v, z1, z2, z3⟩
          | no => exact z3.elim
          | val _ => exact z3.elim
        refine po' G H2 ⟨rl, Ex.refl G, fun a o n z => s2.k a o (ow a n) z, fun _ _ _ z => z, fun q z => .inl (wb q z), s2.d, fun j ds' z => ⟨⟨ds', z⟩, rfl⟩⟩ (Kp.refl dl) v ?_
        · cases r with
          | val d => exact da_sc ok hr
          | loc j => cases hr
          | new es =>
            obtain ⟨q, us, e1, e2, e3, e4, e5, e6⟩ := ok
            refine ⟨q, us, e1, e2, e3, gx.nn e4, fun z => ?_, das_sc e6 hr⟩
            exact (re.ow (wb _ z)).2 e2
      · exact po'.elim
  · exact h G H sg dl Q re po
theorem se_bor {X : Cx} {W : WX} {e : Expr} {f : S → Out Rv} (i : Nat) (h : SE X W e f) : SE X W e (dBor i f) := by
  obtain ⟨t, p, s⟩ := h
  exact ⟨t, p, so_bor i s⟩
end DL

namespace DL
open PySem L2
section
variable {X : Cx} {W : WX} {K : PySem.W.Frag}
def dRvs (i : Nat) : S → Fl := fun dl => ofO (chg dl i fun ds => some ds.reverse)
theorem da_rvs {G : Hp} : ∀ {vs : List V} {ds : List PyData}, DaAll K G vs ds → DaAll K G vs.reverse ds.reverse
  | [], _, h => by cases h; exact .nil
  | v :: vs, _, h => by
    cases h with
    | cons a b =>
      rw [List.reverse_cons, List.reverse_cons]
      exact DaAll.append (da_rvs b) (.cons a .nil)
theorem ss_rvs (i : Nat) {x : Str} {p0 apos cpos pos : Pos} (hN : X.N[i]? = some x := by rfl) (hv : Vis X.env.scope x := by first | exact Or.inl rfl | exact Or.inr (Or.inl rfl) | exact Or.inr (Or.inr rfl)) (hd : (x == ("__debug__" : Str)) = false := by decide)
    (hcd : (x == ("__classdict__" : Str)) = false := by decide) (hbase : attributeBase (.Name x p0) "reverse" X.env (eval (.Name x p0) X.env) = eval (.Name x p0) X.env := by rfl)
    (hline : (apos.endLine == cpos.line) = true := by rfl)
    (hs : swapsWith (.Call (.Attribute (.Name x p0) "reverse" apos) [] [] cpos) none pos.line X.env = pure false := by rfl) :
    SS X W (.Expr (.Call (.Attribute (.Name x p0) "reverse" apos) [] [] cpos) pos) (dRvs i) := by
  refine ⟨_, ps_expr (pe_bm0 PySem.F.plainAttrs_list PySem.F.slot_list_reverse PySem.F.type_list_reverse mt_reverse (pe_var hN hv hd hcd) hbase hline) hs, fun G H sg dl D re h => ?_⟩
  unfold dRvs chg at h
  cases ei : dl[i]? with
  | none => rw [ei] at h; exact h.elim
  | some sl =>
    rw [ei] at h
    cases sl with
    | no => exact h.elim
    | val _ => exact h.elim
    | big _ => exact h.elim
    | own b ds =>
      obtain ⟨pa, vs, q1, q2, q3, q4⟩ := re.own i b ds ei
      refine ⟨.ref pa, q1, .inl ⟨rfl, vs, .inl (.inl q3)⟩, ?_⟩
      refine ⟨pa, vs, rfl, rfl, q3, ?_⟩
      exact h _ _ _ (mut_ok re ei q1 (da_rvs q4)).1
/-! list(range(n)) -/
def rLR : V → Hp → VK → Prop := fun x H1 Q => ∃ n, x = .int n ∧ RgOk 0 n ∧ ∀ q, H1 q = none → Q (.ref q) (upd H1 q (.lst (rgV 0 n)))
def oLR : PyData → Option Rv
  | .int n => if n ≤ 100000 ∧ -100000 ≤ n then some (.new (rngD 0 n.toNat)) else none
  | _ => none
theorem da_rg {G : Hp} (n : Int) : DaAll K G (rgV 0 n) (rngD 0 n.toNat) := by
  unfold rgV rngD
  rw [Int.sub_zero]
  generalize List.range n.toNat = l
  induction l with
  | nil => exact .nil
  | cons a l ih => exact .cons (.int _) ih
theorem us_lr : UnS K rLR oLR := by
  intro G H v a r e t h Q q
  cases a <;> try (cases h)
  rename_i n
  have h' : (if n ≤ 100000 ∧ -100000 ≤ n then some (Rv.new (rngD 0 n.toNat)) else none) = some r := h
  by_cases hc : n ≤ 100000 ∧ -100000 ≤ n
  · rw [if_pos hc] at h'
    cases h'
    exact ⟨n, t.int, ⟨by omega, by omega, by omega, by omega, by omega⟩, q.lst e (da_rg n)⟩
  · rw [if_neg hc] at h'; cases h'
theorem se_listR {a : Expr} {p p2 pos pos2 : Pos} {f : S → Out Rv} (hc : X.calm = true) (hg : Gl X "list") (hm : X.mg "list" = none) (hg2 : Gl X "range") (hm2 : X.mg "range" = none) (ha : SE X W a f) (na : starEach [.Call (.Name "range" p2) [a] [] pos2] X.env = (false, eval (.Call (.Name "range" p2) [a] [] pos2) X.env) :: starEach [] X.env := by rfl) (na2 : starEach [a] X.env = (false, eval a X.env) :: starEach [] X.env := by rfl) :
    SE X W (.Call (.Name "list" p) [.Call (.Name "range" p2) [a] [] pos2] [] pos) (d1 oLR f) :=
  se_1 (r1 := rLR) (fun _ pa => pe_listRg hc hg hm (prg_1 hg2 hm2 pa na2) na) us_lr ha
/-! zip of two lists or two tuples -/
def dItZ (f : S → Out (List Rv)) : S → Out (List PyData) := fun dl => (f dl).bind fun rs d1 => match stbs d1 rs with
  | some ([.list a, .list b], d2) => .ok (zipD a b) d2
  | some ([.tuple a, .tuple b], d2) => .ok (zipD a b) d2
  | _ => .bad
theorem wk_zipT {G : Hp} {a b : Addr} {va vb : List V} {da db : List PyData} (h : SqT K G a va) (z : DaAll K G va da) (h2 : SqT K G b vb) (z2 : DaAll K G vb db) : Wk K (RZ.ItzT K a b) G (zipD da db) := by
  intro i G' H' e1 e2
  have ha := ex_t (e1.trans e2) h
  have hb := ex_t (e1.trans e2) h2
  refine ⟨fun d hd => ?_, fun hl => ⟨va, vb, ha, hb, ?_⟩⟩
  · obtain ⟨x, y, q1, q2, rfl⟩ := zipD_at hd
    obtain ⟨v, hv, dv⟩ := z.at q1
    obtain ⟨u, hu, du⟩ := z2.at q2
    refine ⟨⟨va, vb, v, u, ha, hb, hv, hu⟩, fun w H2 y' => ?_⟩
    obtain ⟨T, x', y', rfl, hT, rfl, y1, y2⟩ := y'
    have e3 := y1 va ha
    have e4 := y2 vb hb
    rw [hv] at e3
    rw [hu] at e4
    cases e3
    cases e4
    have al := Alc.made e2 hT (.tup [v, u])
    exact ⟨_, al, .tup (.inl (.inl upd_same)) (.cons ((dv.ex e1).ex al.g) (.cons ((du.ex e1).ex al.g) .nil))⟩
  · unfold zipD at hl
    rw [List.length_map, List.length_zip] at hl
    rw [z.len, z2.len]
    omega
theorem si_zipA {elts : List Expr} {kk : Nat} {tpos p pos : Pos} {e e2 : Expr} {f : S → Out (List Rv)} (hg : Gl X "zip") (hm : X.mg "zip" = none) (ha : SA X W [e, e2] f)
    (hs : starEach [e, e2] X.env = (false, eval e X.env) :: starEach [e2] X.env := by rfl) (hpl : (backTo pos (starEach [e2] X.env)).any (·.1) = false := by rfl) : SI X W (.Tuple elts kk tpos) (.Call (.Name "zip" p) [e, e2] [] pos) (dItZ f) := by
  obtain ⟨t, pa, sa⟩ := ha
  refine ⟨_, RZ.pi_zipA hg hm pa hs hpl, fun G H sg dl R re h => ?_⟩
  refine sa G H sg dl _ re ((post_bind h).imp fun rs d1 G1 H1 s1 k1 h1 vs q => ?_)
  split at h1
  · rename_i a b d2 es
    obtain ⟨G2, s2, k2, z2⟩ := stbs_ok s1.rel q es
    cases z2 with
    | cons z3 z4 =>
      cases z4 with
      | cons z5 z6 =>
        cases z6
        cases z3 with
        | lst hs ha =>
          cases z5 with
          | lst hs2 ha2 => exact ⟨_, _, _, _, rfl, .inl ⟨ex_l s2.rel.ex hs, ex_l s2.rel.ex hs2, h1 G2 H1 s2 k2 _ (wk_zip hs ha hs2 ha2)⟩⟩
  · rename_i a b d2 es
    obtain ⟨G2, s2, k2, z2⟩ := stbs_ok s1.rel q es
    cases z2 with
    | cons z3 z4 =>
      cases z4 with
      | cons z5 z6 =>
        cases z6
        cases z3 with
        | tup hs ha =>
          cases z5 with
          | tup hs2 ha2 => exact ⟨_, _, _, _, rfl, .inr ⟨ex_t s2.rel.ex hs, ex_t s2.rel.ex hs2, h1 G2 H1 s2 k2 _ (wk_zipT hs ha hs2 ha2)⟩⟩
  · exact h1.elim
theorem sb_never : ∀ {sts : List Stmt}, SB X W sts (fun _ => .bad)
  | [] => ⟨tNext, pss_nil, fun _ _ _ _ _ _ h => h.elim⟩
  | _ :: sts => by
    obtain ⟨u, q, _⟩ := sb_never (sts := sts)
    exact ⟨tSeq tNever u, pss_cons ps_never q, fun _ _ _ _ _ _ h => h.elim⟩
end
end DL

namespace DL
open PySem L2
/-! ### [e for a in A if c for b in B if c1] -/
def compD2 (vs vs1 : List Nat) (put : S → PyData → Option S) (c : S → Out Bool) (it1 : S → Out (List PyData)) (pt1 : S → PyData → Option S) (c1 : S → Out Bool) (f : S → Out Rv) : List PyData → S → List PyData → Option (List PyData × S)
  | [], dn, acc => some (acc, dn)
  | d :: ds, dn, acc => match put dn d with
    | none => none
    | some d1 => match c d1 with
      | .ok true d2 => match it1 d2 with
        | .ok ds1 d3 => match compD vs1 pt1 c1 f ds1 (wipeD d3 vs1) acc with
          | some (acc', d4) => compD2 vs vs1 put c it1 pt1 c1 f ds (wipeD d4 vs) acc'
          | none => none
        | _ => none
      | .ok false d2 => compD2 vs vs1 put c it1 pt1 c1 f ds (wipeD d2 vs) acc
      | _ => none
def dComp2 (it : S → Out (List PyData)) (vs vs1 : List Nat) (put : S → PyData → Option S) (c : S → Out Bool) (it1 : S → Out (List PyData)) (pt1 : S → PyData → Option S) (c1 : S → Out Bool) (f : S → Out Rv) : S → Out Rv := fun dl => (it dl).bind fun ds d1 => endC d1 vs (compD2 vs vs1 put c it1 pt1 c1 f ds (wipeD d1 vs) [])
section
variable {X : Cx} {W : WX}
theorem kp_wipe {a b : S} {vs : List Nat} (k : Kp a b) : Kp (wipeD a vs) (wipeD b vs) := ⟨by rw [wipeD_len, wipeD_len]; exact k.1, fun i => by
  by_cases hi : i ∈ vs
  · by_cases hl : i < a.length
    · rw [wipeD_in hi hl, wipeD_in hi (by rw [k.1]; exact hl)]
    · rw [List.getElem?_eq_none (by rw [wipeD_len]; omega)]
      rw [List.getElem?_eq_none (by rw [wipeD_len, k.1]; omega)]
  · rw [wipeD_out hi, wipeD_out hi]
    exact k.2 i⟩
theorem wipeD_sub {dl : S} {vs vs1 : List Nat} (h : ∀ i ∈ vs1, i ∈ vs) : wipeD (wipeD dl vs1) vs = wipeD dl vs := by
  apply List.ext_getElem?
  intro i
  by_cases hi : i ∈ vs
  · by_cases hl : i < dl.length
    · rw [wipeD_in hi (by rw [wipeD_len]; exact hl), wipeD_in hi hl]
    · rw [List.getElem?_eq_none (by rw [wipeD_len, wipeD_len]; omega), List.getElem?_eq_none (by rw [wipeD_len]; omega)]
  · rw [wipeD_out hi, wipeD_out hi, wipeD_out fun z => hi (h i z)]
theorem wipe_sub {sg : L2.St} {vs vs1 : List Nat} (h : ∀ i ∈ vs1, i ∈ vs) : wipe (wipe sg vs1) vs = wipe sg vs :=
  wipe_same (wipe_length sg vs1) fun i hi => wipe_out fun z => hi (h i z)
/-- a loop that fills the list at D, from a later state on -/
theorem loop_comp {J : It} {g : TG} {tt : TT} {te : TE} {ds : List PyData} {put : S → PyData → Option S} {c : S → Out Bool} {f : S → Out Rv} {vs vs0 : List Nat} (sg' : SoG X.K vs0 g put) (sub : ∀ i ∈ vs0, i ∈ vs) (st : SoT X W0 tt c) (se : SoE X W0 te f)
    {G0 H0 GB HB : Hp} {sg0 sgB : L2.St} {dl0 dB : S} {D : Addr} {vD0 : List V} {acc0 accF : List PyData} {dnF : S} (hD0 : H0 D = none) (wk : Wk X.K J GB ds) (sB : Stp X.K G0 H0 sg0 dl0 GB HB sgB dB) (nwB : ¬ Ow HB sgB dB D) (hDB : HB D = some (.lst vD0)) (hDg : GB D = none) (daB : DaAll X.K GB vD0 acc0)
    (ec : compD vs put c f ds (wipeD dB vs) acc0 = some (accF, dnF)) {N : Hp → Prop}
    (hk : ∀ G' H' vD, Stp X.K G0 H0 sg0 dl0 G' H' (wipe sgB vs) dnF → Kp (wipeD dB vs) dnF → ¬ Ow H' (wipe sgB vs) dnF D → H' D = some (.lst vD) → G' D = none → DaAll X.K G' vD accF → N H') :
    ∃ W1 : Nat → Nat → Hp → Prop, (∃ m, W1 0 m HB) ∧ ∀ j k H, W1 j k H →
      (J.stop j H ∧ N H) ∨ (J.go j H ∧ ∃ Nx1 : Hp → Prop, (∀ H', Nx1 H' → ∃ k', k' < k ∧ W1 (j + 1) k' H') ∧ ∀ x H', J.yld j H x H' → g x (wipe sgB vs) H' fun σ3 H5 => wipe σ3 vs = wipe sgB vs ∧ tt σ3 H5 fun b H6 =>
        if b = true then te σ3 H6 fun y H7 => ∃ acc, H7 D = some (.lst acc) ∧ acc.length < sizeLine ∧ Nx1 (upd H7 D (.lst (acc ++ [y]))) else Nx1 H6) := by
  have no0 : ∀ i, i ∈ vs → i < (wipeD dB vs).length → (wipeD dB vs)[i]? = some .no := fun i hi hl => wipeD_in hi (by rw [wipeD_len] at hl; exact hl)
  have nw0 : ¬ Ow HB (wipe sgB vs) (wipeD dB vs) D := fun q => by
    obtain ⟨i, b, x, _, q1, q2⟩ := ow_wipe q
    exact nwB ⟨i, b, x, q1, q2⟩
  refine ⟨fun i m Hh => ∃ G' dn vD acc, Stp X.K G0 H0 sg0 dl0 G' Hh (wipe sgB vs) dn ∧ Ex GB G' ∧ Kp (wipeD dB vs) dn ∧ ¬ Ow Hh (wipe sgB vs) dn D ∧ Hh D = some (.lst vD) ∧ G' D = none ∧ DaAll X.K G' vD acc ∧ i ≤ ds.length ∧ m = ds.length - i ∧ compD vs put c f (ds.drop i) dn acc = some (accF, dnF),
    ⟨ds.length, GB, wipeD dB vs, vD0, acc0, stp_wipe sB, Ex.refl _, Kp.refl _, nw0, hDB, hDg, daB, Nat.zero_le _, rfl, ec⟩, ?_⟩
  rintro i m Hh ⟨G', dn, vD, acc, s, ex, k, nw, hDh, hDg, da, hi, rfl, he⟩
  obtain ⟨go, stop⟩ := wk i G' Hh ex s.rel.ex
  have noN : ∀ i, i ∈ vs → i < dn.length → dn[i]? = some .no := fun i hi hl => by
    have := k.2 i
    rw [no0 i hi (by rw [← k.1]; exact hl)] at this
    exact this
  by_cases hlt : i < ds.length
  · have hd : ds[i]? = some ds[i] := List.getElem?_eq_getElem hlt
    obtain ⟨g1, y1⟩ := go ds[i] hd
    have ed : ds.drop i = ds[i] :: ds.drop (i + 1) := List.drop_eq_getElem_cons hlt
    rw [ed] at he
    unfold compD at he
    refine .inr ⟨g1, fun Hn => ∃ G' dn vD acc, Stp X.K G0 H0 sg0 dl0 G' Hn (wipe sgB vs) dn ∧ Ex GB G' ∧ Kp (wipeD dB vs) dn ∧ ¬ Ow Hn (wipe sgB vs) dn D ∧ Hn D = some (.lst vD) ∧ G' D = none ∧ DaAll X.K G' vD acc ∧ compD vs put c f (ds.drop (i + 1)) dn acc = some (accF, dnF),
      fun Hn ⟨G', dn, vD, acc, z1, zx, z2, z3, z4, z5, z6, z7⟩ => ⟨ds.length - (i + 1), by omega, G', dn, vD, acc, z1, zx, z2, z3, z4, z5, z6, hlt, rfl, z7⟩, fun x H2 y => ?_⟩
    obtain ⟨G2, al, dx⟩ := y1 x H2 y
    have s2 := al.stp s.rel
    cases ep : put dn ds[i] with
    | none => rw [ep] at he; cases he
    | some d3 =>
      rw [ep] at he
      obtain ⟨p1, p2⟩ := sg'.1 dn ds[i] d3 ep
      refine sg'.2 G' Hh (wipe sgB vs) dn G2 H2 (wipe sgB vs) dn x ds[i] d3 _ s2 dx ep fun sg3 s3 l3 o3 => ?_
      have ew : wipe sg3 vs = wipe sgB vs := (wipe_same l3 fun i hi => o3 i fun z => hi (sub i z)).trans wipe_wipe
      refine ⟨ew, ?_⟩
      have tn : ∀ {G6 H6 : Hp} {d6 : S}, Stp X.K G' Hh (wipe sgB vs) dn G6 H6 sg3 d6 → Kp d3 d6 → Stp X.K G0 H0 sg0 dl0 G6 H6 (wipe sgB vs) (wipeD d6 vs) ∧ Ex GB G6 ∧ Kp (wipeD dB vs) (wipeD d6 vs) ∧ ¬ Ow H6 (wipe sgB vs) (wipeD d6 vs) D ∧ H6 D = some (.lst vD) ∧ G6 D = none ∧ DaAll X.K G6 vD acc := fun {G6 H6 d6} sl kl => by
        have s6 := stp_wipe (vs := vs) sl
        rw [ew] at s6
        exact ⟨s.trans s6, ex.trans sl.g, k.trans (kp_turn p1 (fun i hi => p2 i fun z => hi (sub i z)) noN kl), s6.nw nw (some_ne hDh), sl.k D _ nw hDh, sl.n D nw (some_ne hDh) hDg, da.ex sl.g⟩
      have he' : (match c d3 with
        | .ok true d2 => match f d2 with
          | .ok r d3 => match stb d3 r with
            | some (y, d4) => if acc.length < 100000 then compD vs put c f (ds.drop (i + 1)) (wipeD d4 vs) (acc ++ [y]) else none
            | none => none
          | _ => none
        | .ok false d2 => compD vs put c f (ds.drop (i + 1)) (wipeD d2 vs) acc
        | _ => none) = some (accF, dnF) := he
      refine st G2 H2 sg3 d3 _ s3.rel ?_
      cases eb : c d3 with
      | bad => rw [eb] at he'; cases he'
      | ex cc dd => rw [eb] at he'; cases he'
      | ok b d4 =>
        rw [eb] at he'
        intro G4 H4 s4 k4
        have s34 := s3.trans s4
        cases b with
        | false =>
          obtain ⟨z1, zx, z2, z3, z4, z5, z6⟩ := tn s34 k4
          exact ⟨G4, wipeD d4 vs, vD, acc, z1, zx, z2, z3, z4, z5, z6, he'⟩
        | true =>
          have he2 : (match f d4 with
            | .ok r d3 => match stb d3 r with
              | some (y, d4) => if acc.length < 100000 then compD vs put c f (ds.drop (i + 1)) (wipeD d4 vs) (acc ++ [y]) else none
              | none => none
            | _ => none) = some (accF, dnF) := he'
          refine se G4 H4 sg3 d4 _ s4.rel ?_
          cases ef : f d4 with
          | bad => rw [ef] at he2; cases he2
          | ex cc dd => rw [ef] at he2; cases he2
          | ok r d5 =>
            rw [ef] at he2
            intro G5 H5 s5 k5 v q
            have he3 : (match stb d5 r with
              | some (y, d4) => if acc.length < 100000 then compD vs put c f (ds.drop (i + 1)) (wipeD d4 vs) (acc ++ [y]) else none
              | none => none) = some (accF, dnF) := he2
            cases es : stb d5 r with
            | none => rw [es] at he3; cases he3
            | some yy =>
              obtain ⟨y, d6⟩ := yy
              rw [es] at he3
              obtain ⟨G6, s6, k6, z6, _⟩ := stb_ok s5 q es
              obtain ⟨z1, zx, z2, z3, z4, z5, z7⟩ := tn (s34.trans s6) (k4.trans (k5.trans k6))
              have he4 : (if acc.length < 100000 then compD vs put c f (ds.drop (i + 1)) (wipeD d6 vs) (acc ++ [y]) else none) = some (accF, dnF) := he3
              by_cases hl : acc.length < 100000
              · rw [if_pos hl] at he4
                refine ⟨vD, z4, by rw [z7.len]; exact sz_lt hl, G6, wipeD d6 vs, vD ++ [v], acc ++ [y], stp_fly z1 hD0 z5 z3, zx, z2, ow_fly z1.rel z3, upd_same, z5, z7.append (.cons z6 .nil), he4⟩
              · rw [if_neg hl] at he4; cases he4
  · have ei : i = ds.length := by omega
    subst ei
    rw [List.drop_length] at he
    cases he
    exact .inl ⟨stop (Nat.le_refl _), hk G' Hh vD s k nw hDh hDg da⟩
theorem so_comp2 {wi wi1 : TI} {g g1 : TG} {tt tt1 : TT} {te : TE} {it it1 : S → Out (List PyData)} {put pt1 : S → PyData → Option S} {c c1 : S → Out Bool} {f : S → Out Rv} {vs vs0 vs1 vs2 : List Nat} (si : SoI X W wi it) (sg' : SoG X.K vs0 g put) (sub : ∀ i ∈ vs0, i ∈ vs) (st : SoT X W0 tt c)
    (si1 : SoI X W0 wi1 it1) (sg1 : SoG X.K vs2 g1 pt1) (sub1 : ∀ i ∈ vs2, i ∈ vs1) (sub2 : ∀ i ∈ vs1, i ∈ vs) (st1 : SoT X W0 tt1 c1) (se : SoE X W0 te f) :
    SoE X W (tLc2 wi g tt wi1 g1 tt1 te vs vs1) (dComp2 it vs vs1 put c it1 pt1 c1 f) := by
  intro G H sg dl Q re h
  refine si G H sg dl _ re ((post_bind h).imp fun ds d1 G1 H1 s1 k1 h1 J wk D hD => ?_)
  cases ec : compD2 vs vs1 put c it1 pt1 c1 f ds (wipeD d1 vs) [] with
  | none => rw [ec] at h1; exact h1.elim
  | some y =>
    obtain ⟨accF, dnF⟩ := y
    rw [ec] at h1
    have h1' : Post X W G1 H1 sg d1 (wE X sg H Q) (.ok (.new accF) (restD d1 vs dnF)) := h1
    have reW : Rel X.K G1 H1 (wipe sg vs) (wipeD d1 vs) := rel_wipe s1.rel
    have no0 : ∀ i, i ∈ vs → i < (wipeD d1 vs).length → (wipeD d1 vs)[i]? = some .no := fun i hi hl => wipeD_in hi (by rw [wipeD_len] at hl; exact hl)
    refine ⟨fun i m Hh => ∃ G' dn vD acc, Stp X.K G1 H1 (wipe sg vs) (wipeD d1 vs) G' Hh (wipe sg vs) dn ∧ Kp (wipeD d1 vs) dn ∧ ¬ Ow Hh (wipe sg vs) dn D ∧ Hh D = some (.lst vD) ∧ G' D = none ∧ DaAll X.K G' vD acc ∧ i ≤ ds.length ∧ m = ds.length - i ∧ compD2 vs vs1 put c it1 pt1 c1 f (ds.drop i) dn acc = some (accF, dnF),
      ⟨ds.length, G1, wipeD d1 vs, [], [], (Alc.li s1.rel.ex hD (.lst [])).stp reW, Kp.refl _, fun q => (reW.ow (reW.back (Ex.new hD) q)).2 hD, upd_same, s1.rel.ex.nn hD, .nil, Nat.zero_le _, rfl, ec⟩, ?_⟩
    rintro i m Hh ⟨G', dn, vD, acc, s, k, nw, hDh, hDg, da, hi, rfl, he⟩
    obtain ⟨go, stop⟩ := wk i G' Hh s.g s.rel.ex
    have noN : ∀ i, i ∈ vs → i < dn.length → dn[i]? = some .no := fun i hi hl => by
      have := k.2 i
      rw [no0 i hi (by rw [← k.1]; exact hl)] at this
      exact this
    by_cases hlt : i < ds.length
    · have hd : ds[i]? = some ds[i] := List.getElem?_eq_getElem hlt
      obtain ⟨g1', y1⟩ := go ds[i] hd
      have ed : ds.drop i = ds[i] :: ds.drop (i + 1) := List.drop_eq_getElem_cons hlt
      rw [ed] at he
      unfold compD2 at he
      refine .inr ⟨g1', fun Hn => ∃ G' dn vD acc, Stp X.K G1 H1 (wipe sg vs) (wipeD d1 vs) G' Hn (wipe sg vs) dn ∧ Kp (wipeD d1 vs) dn ∧ ¬ Ow Hn (wipe sg vs) dn D ∧ Hn D = some (.lst vD) ∧ G' D = none ∧ DaAll X.K G' vD acc ∧ compD2 vs vs1 put c it1 pt1 c1 f (ds.drop (i + 1)) dn acc = some (accF, dnF),
        fun Hn ⟨G', dn, vD, acc, z1, z2, z3, z4, z5, z6, z7⟩ => ⟨ds.length - (i + 1), by omega, G', dn, vD, acc, z1, z2, z3, z4, z5, z6, hlt, rfl, z7⟩, fun x H2 y => ?_⟩
      obtain ⟨G2, al, dx⟩ := y1 x H2 y
      have s2 := al.stp s.rel
      cases ep : put dn ds[i] with
      | none => rw [ep] at he; cases he
      | some d3 =>
        rw [ep] at he
        obtain ⟨p1, p2⟩ := sg'.1 dn ds[i] d3 ep
        refine sg'.2 G' Hh (wipe sg vs) dn G2 H2 (wipe sg vs) dn x ds[i] d3 _ s2 dx ep fun sg3 s3 l3 o3 => ?_
        have ew : wipe sg3 vs = wipe sg vs := (wipe_same l3 fun i hi => o3 i fun z => hi (sub i z)).trans wipe_wipe
        refine ⟨ew, ?_⟩
        have he' : (match c d3 with
          | .ok true d2 => match it1 d2 with
            | .ok ds1 d3 => match compD vs1 pt1 c1 f ds1 (wipeD d3 vs1) acc with
              | some (acc', d4) => compD2 vs vs1 put c it1 pt1 c1 f (ds.drop (i + 1)) (wipeD d4 vs) acc'
              | none => none
            | _ => none
          | .ok false d2 => compD2 vs vs1 put c it1 pt1 c1 f (ds.drop (i + 1)) (wipeD d2 vs) acc
          | _ => none) = some (accF, dnF) := he
        refine st G2 H2 sg3 d3 _ s3.rel ?_
        cases eb : c d3 with
        | bad => rw [eb] at he'; cases he'
        | ex cc dd => rw [eb] at he'; cases he'
        | ok b d4 =>
          rw [eb] at he'
          intro G4 H4 s4 k4
          have s34 := s3.trans s4
          cases b with
          | false =>
            have s6 := stp_wipe (vs := vs) s34
            rw [ew] at s6
            exact ⟨G4, wipeD d4 vs, vD, acc, s.trans s6, k.trans (kp_turn p1 (fun i hi => p2 i fun z => hi (sub i z)) noN k4), s6.nw nw (some_ne hDh), s34.k D _ nw hDh, s34.n D nw (some_ne hDh) hDg, da.ex s34.g, he'⟩
          | true =>
            have he2 : (match it1 d4 with
              | .ok ds1 d3 => match compD vs1 pt1 c1 f ds1 (wipeD d3 vs1) acc with
                | some (acc', d4) => compD2 vs vs1 put c it1 pt1 c1 f (ds.drop (i + 1)) (wipeD d4 vs) acc'
                | none => none
              | _ => none) = some (accF, dnF) := he'
            refine si1 G4 H4 sg3 d4 _ s4.rel ?_
            cases ef : it1 d4 with
            | bad => rw [ef] at he2; cases he2
            | ex cc dd => rw [ef] at he2; cases he2
            | ok ds1 d5 =>
              rw [ef] at he2
              intro G5 H5 s5 k5 J1 wk1
              have he3 : (match compD vs1 pt1 c1 f ds1 (wipeD d5 vs1) acc with
                | some (acc', d4) => compD2 vs vs1 put c it1 pt1 c1 f (ds.drop (i + 1)) (wipeD d4 vs) acc'
                | none => none) = some (accF, dnF) := he2
              cases es : compD vs1 pt1 c1 f ds1 (wipeD d5 vs1) acc with
              | none => rw [es] at he3; cases he3
              | some yy =>
                obtain ⟨accI, dnI⟩ := yy
                rw [es] at he3
                have s35 := s34.trans s5
                refine loop_comp (X := X) sg1 sub1 st1 se hD wk1 (s.trans s35) (s35.nw nw (some_ne hDh)) (s35.k D _ nw hDh) (s35.n D nw (some_ne hDh) hDg) (da.ex s35.g) es fun G7 H7 vD7 z1 z2 z3 z4 z5 z6 => ?_
                have s7 := stp_wipe (vs := vs) z1
                rw [wipe_sub sub2, ew] at s7
                refine ⟨G7, wipeD dnI vs, vD7, accI, s7, ?_, fun q => ?_, z4, z5, z6, he3⟩
                · have ka := kp_turn p1 (fun i hi => p2 i fun z => hi (sub i z)) noN (k4.trans k5)
                  have kb := kp_wipe (vs := vs) z2
                  rw [wipeD_sub sub2] at kb
                  exact k.trans (ka.trans kb)
                · rw [← ew, ← wipe_sub sub2] at q
                  obtain ⟨i, b, x, _, q1, q2⟩ := ow_wipe q
                  exact z3 ⟨i, b, x, q1, q2⟩
    · have ei : i = ds.length := by omega
      subst ei
      rw [List.drop_length] at he
      cases he
      refine .inl ⟨stop (Nat.le_refl _), ?_⟩
      obtain ⟨sr, kr⟩ := stp_rest s1.rel s k
      refine h1' G' Hh sr kr (.ref D) ⟨D, vD, rfl, ?_, hDh, hDg, ow_rest s1.rel s k hD nw, da⟩
      · cases hq : H D with
        | none => rfl
        | some o => exact absurd hD (s1.d D (some_ne hq))
theorem meetI {I : Type} {Xi : I → Cx} {W : WX} {tg e : Expr} {f : S → Out (List PyData)} (hK : ∀ i, (Xi i).K = X.K) (hm : ∀ i, (Xi i).mg = X.mg) (h : ∀ i, SI (Xi i) W tg e f) : ∃ t, (∀ i, PI (Xi i) tg e t) ∧ SoI X W t f := by
  refine ⟨fun sg H R => ∀ i, Classical.choose (h i) sg H R, fun i => ⟨fun pins s σ H Q I w => (Classical.choose_spec (h i)).1.run pins s σ H Q I (w i)⟩, fun G H sg dl R re p i => ?_⟩
  refine (Classical.choose_spec (h i)).2 G H sg dl R (by rw [hK i]; exact re) ?_
  cases ho : f dl with
  | bad => rw [ho] at p; exact p
  | ok r d1 =>
    rw [ho] at p
    intro G1 H1 s k J wk
    rw [hK i] at s wk
    exact p G1 H1 s k J wk
  | ex c d1 =>
    rw [ho] at p
    intro C G1 H1 hc s
    rw [hK i] at s
    rw [hm i] at hc
    exact p C G1 H1 hc s
theorem se_comp2 (own : List (Str × Nat)) (vs1 : List Nat) {elt tg iter tg1 iter1 : Expr} {ifs ifs1 : List Expr} {scope : Scope} {pos : Pos} {g g1 : TG} {it it1 : S → Out (List PyData)} {put pt1 : S → PyData → Option S} {c c1 : S → Out Bool} {f : S → Out Rv} {vs0 vs2 : List Nat} (hc : X.calm = true) (hN : X.N.Nodup) (hi : SI X W tg iter it) (ok : BlkOk X.N X.env.scope scope own)
    (hg : ∀ i, PG (bX X scope i) tg g) (sg : SoG X.K vs0 g put) (sub : ∀ i ∈ vs0, i ∈ own.map (·.2)) (ht : ∀ i, STs (bX X scope i) W0 ifs c)
    (hi1 : ∀ i, SI (bX X scope i) W0 tg1 iter1 it1) (hg1 : ∀ i, PG (bX X scope i) tg1 g1) (sg1 : SoG X.K vs2 g1 pt1) (sub1 : ∀ i ∈ vs2, i ∈ vs1) (sub2 : ∀ i ∈ vs1, i ∈ own.map (·.2)) (ht1 : ∀ i, STs (bX X scope i) W0 ifs1 c1)
    (he : ∀ i, SE (bX X scope i) W0 elt f) (hs : ∀ x, foldedSetIterable iter X.env x = pure x := by intro _; rfl) (hs1 : ∀ env x, foldedSetIterable iter1 env x = pure x := by intro _ _; rfl) :
    SE X W (.ListComp elt [⟨tg, iter, ifs, 0⟩, ⟨tg1, iter1, ifs1, 0⟩] scope pos) (dComp2 it (own.map (·.2)) vs1 put c it1 pt1 c1 f) := by
  obtain ⟨wi, pi, si⟩ := hi
  obtain ⟨tt, pt, st⟩ := meetT (X := X) (Xi := bX X scope) (fun _ => rfl) (fun _ => rfl) ht
  obtain ⟨tt1, pt', st1⟩ := meetT (X := X) (Xi := bX X scope) (fun _ => rfl) (fun _ => rfl) ht1
  obtain ⟨te, pe, se⟩ := meetE (X := X) (Xi := bX X scope) (fun _ => rfl) (fun _ => rfl) he
  obtain ⟨wi1, pi1, si1⟩ := meetI (X := X) (Xi := bX X scope) (fun _ => rfl) (fun _ => rfl) hi1
  exact ⟨_, pe_lc2 hc hN pi ok sub2 (fun s H C cl fp => hg ⟨s, H, C, cl, fp⟩) (fun s H C cl fp => pt ⟨s, H, C, cl, fp⟩) (fun s H C cl fp => pi1 ⟨s, H, C, cl, fp⟩) (fun s H C cl fp => hg1 ⟨s, H, C, cl, fp⟩) (fun s H C cl fp => pt' ⟨s, H, C, cl, fp⟩) (fun s H C cl fp => pe ⟨s, H, C, cl, fp⟩) hs hs1, so_comp2 si sg sub st si1 sg1 sub1 sub2 st1 se⟩
theorem ss_comp2 (iy : Nat) (own : List (Str × Nat)) (vs1 : List Nat) {y : Str} {elt tg iter tg1 iter1 : Expr} {ifs ifs1 : List Expr} {scope : Scope} {py pos spos : Pos} {g g1 : TG} {it it1 : S → Out (List PyData)} {put pt1 : S → PyData → Option S} {c c1 : S → Out Bool} {f : S → Out Rv} {vs0 vs2 : List Nat} (hc : X.calm = true) (hN : X.N.Nodup) (hy : X.N[iy]? = some y) (hyl : X.env.scope.names.lookup y = some .local)
    (hsw : swapsWith (.ListComp elt [⟨tg, iter, ifs, 0⟩, ⟨tg1, iter1, ifs1, 0⟩] scope pos) (some (.Name y py)) spos.line X.env = pure true) (hi : SI X W tg iter it) (ok : BlkOk X.N X.env.scope scope own)
    (hg : ∀ i, PG (bX X scope i) tg g) (sg : SoG X.K vs0 g put) (sub : ∀ i ∈ vs0, i ∈ own.map (·.2)) (ht : ∀ i, STs (bX X scope i) W0 ifs c)
    (hi1 : ∀ i, SI (bX X scope i) W0 tg1 iter1 it1) (hg1 : ∀ i, PG (bX X scope i) tg1 g1) (sg1 : SoG X.K vs2 g1 pt1) (sub1 : ∀ i ∈ vs2, i ∈ vs1) (sub2 : ∀ i ∈ vs1, i ∈ own.map (·.2)) (ht1 : ∀ i, STs (bX X scope i) W0 ifs1 c1)
    (he : ∀ i, SE (bX X scope i) W0 elt f) (hs : ∀ x, foldedSetIterable iter X.env x = pure x := by intro _; rfl) (hs1 : ∀ env x, foldedSetIterable iter1 env x = pure x := by intro _ _; rfl) :
    SS X W (.Assign [.Name y py] (.ListComp elt [⟨tg, iter, ifs, 0⟩, ⟨tg1, iter1, ifs1, 0⟩] scope pos) spos) (dSet iy (dComp2 it (own.map (·.2)) vs1 put c it1 pt1 c1 f)) := by
  obtain ⟨wi, pi, si⟩ := hi
  obtain ⟨tt, pt, st⟩ := meetT (X := X) (Xi := bX X scope) (fun _ => rfl) (fun _ => rfl) ht
  obtain ⟨tt1, pt', st1⟩ := meetT (X := X) (Xi := bX X scope) (fun _ => rfl) (fun _ => rfl) ht1
  obtain ⟨te, pe, se⟩ := meetE (X := X) (Xi := bX X scope) (fun _ => rfl) (fun _ => rfl) he
  obtain ⟨wi1, pi1, si1⟩ := meetI (X := X) (Xi := bX X scope) (fun _ => rfl) (fun _ => rfl) hi1
  exact ⟨_, ps_setLc2 hc hN hy hyl hsw pi ok sub2 (fun s H C cl fp => hg ⟨s, H, C, cl, fp⟩) (fun s H C cl fp => pt ⟨s, H, C, cl, fp⟩) (fun s H C cl fp => pi1 ⟨s, H, C, cl, fp⟩) (fun s H C cl fp => hg1 ⟨s, H, C, cl, fp⟩) (fun s H C cl fp => pt' ⟨s, H, C, cl, fp⟩) (fun s H C cl fp => pe ⟨s, H, C, cl, fp⟩) hs hs1, so_set (so_comp2 si sg sub st si1 sg1 sub1 sub2 st1 se)⟩
end
end DL

namespace DL
open PySem L2 PyProof.Rows StX
section
variable {X : Cx} {W : WX} {K : PySem.W.Frag}
/-! ### tuple(range(n)) -/
def rTR : V → Hp → VK → Prop := fun x H1 Q => ∃ n, x = .int n ∧ RgOk 0 n ∧ ∀ q, H1 q = none → Q (.ref q) (upd H1 q (.tup (rgV 0 n)))
def oTR : PyData → Option Rv
  | .int n => if n ≤ 100000 ∧ -100000 ≤ n then some (.val (.tuple (rngD 0 n.toNat))) else none
  | _ => none
theorem us_tr : UnS K rTR oTR := by
  intro G H v a r e t h Q q
  cases a <;> try (cases h)
  rename_i n
  have h' : (if n ≤ 100000 ∧ -100000 ≤ n then some (Rv.val (.tuple (rngD 0 n.toNat))) else none) = some r := h
  by_cases hc : n ≤ 100000 ∧ -100000 ≤ n
  · rw [if_pos hc] at h'
    cases h'
    exact ⟨n, t.int, ⟨by omega, by omega, by omega, by omega, by omega⟩, q.tup e (da_rg n)⟩
  · rw [if_neg hc] at h'; cases h'
theorem se_tupR {a : Expr} {p p2 pos pos2 : Pos} {f : S → Out Rv} (hc : X.calm = true) (hg : Gl X "tuple") (hm : X.mg "tuple" = none) (hg2 : Gl X "range") (hm2 : X.mg "range" = none) (ha : SE X W a f) (na : starEach [.Call (.Name "range" p2) [a] [] pos2] X.env = (false, eval (.Call (.Name "range" p2) [a] [] pos2) X.env) :: starEach [] X.env := by rfl) (na2 : starEach [a] X.env = (false, eval a X.env) :: starEach [] X.env := by rfl) :
    SE X W (.Call (.Name "tuple" p) [.Call (.Name "range" p2) [a] [] pos2] [] pos) (d1 oTR f) :=
  se_1 (r1 := rTR) (fun _ pa => pe_tupRg hc hg hm (prg_1 hg2 hm2 pa na2) na) us_tr ha
/-! ### (*xs, ..) -/
def dStar (f : S → Out Rv) (g : S → Out (List Rv)) : S → Out (List Rv) := fun dl => (f dl).bind fun r d1 => match (rd d1 r).bind items with
  | some ds => (g d1).bind fun rs d2 => .ok (ds.map Rv.val ++ rs) d2
  | none => .bad
theorem rvs_vals {G H H0 : Hp} {sg : L2.St} {dl : S} : ∀ {vs : List V} {ds : List PyData}, DaAll K G vs ds → RvsOk K G H sg dl H0 vs (ds.map Rv.val)
  | _, [], h => by cases h; exact .nil
  | _, d :: ds, h => by
    cases h with
    | cons h1 h2 => exact .cons ⟨h1, rfl⟩ (rvs_vals h2)
theorem rvs_app {G H H0 : Hp} {sg : L2.St} {dl : S} : ∀ {vs us : List V} {rs ts : List Rv}, RvsOk K G H sg dl H0 vs rs → RvsOk K G H sg dl H0 us ts → RvsOk K G H sg dl H0 (vs ++ us) (rs ++ ts)
  | _, _, [], _, h, k => by cases h; exact k
  | _, _, r :: rs, _, h, k => by
    cases h with
    | cons h1 h2 => exact .cons h1 (rvs_app h2 k)
theorem sa_star {e : Expr} {p : Pos} {es : List Expr} {f : S → Out Rv} {g : S → Out (List Rv)} (ha : SE X W e f) (hr : SA X W es g) (hs : starEach (.Starred e p :: es) X.env = (true, eval e X.env) :: starEach es X.env := by rfl) : SA X W (.Starred e p :: es) (dStar f g) := by
  obtain ⟨ta, pa, sa⟩ := ha
  obtain ⟨tb, pb, sb⟩ := hr
  refine ⟨tStar X.K ta tb, pa_star pa pb hs, fun G H sg dl Q re h => ?_⟩
  refine sa G H sg dl _ re (Post.imp0 (post_bind0 h) fun r1 d1 G1 H1 s1 k1 h1 v1 q1 => ?_)
  have h1 := h1 G1 H1 s1 k1
  cases e1 : rd d1 r1 with
  | none => rw [e1] at h1; exact h1.elim
  | some a =>
    rw [e1] at h1
    have tr := q1.tr s1.rel e1
    cases ei : items a with
    | none =>
      have h1' : Post X W G1 H1 sg d1 _ (match items a with | some ds => (g d1).bind fun rs d2 => Out.ok (ds.map Rv.val ++ rs) d2 | none => Out.bad) := h1
      rw [ei] at h1'
      exact h1'.elim
    | some ds =>
      have h1' : Post X W G1 H1 sg d1 _ (match items a with | some ds => (g d1).bind fun rs d2 => Out.ok (ds.map Rv.val ++ rs) d2 | none => Out.bad) := h1
      rw [ei] at h1'
      obtain ⟨pp, vs, ev, sq, da⟩ : ∃ p vs, v1 = V.ref p ∧ (SqT X.K H1 p vs ∨ SqL X.K H1 p vs) ∧ DaAll X.K G1 vs ds := by
        cases a with
        | list l =>
          cases ei
          obtain ⟨p, vs, e, sq, z⟩ := tr.lst s1.rel.ex
          exact ⟨p, vs, e, .inr sq, z⟩
        | tuple l =>
          cases ei
          obtain ⟨p, vs, e, sq, z⟩ := tr.tup s1.rel.ex
          exact ⟨p, vs, e, .inl sq, z⟩
        | _ => cases ei
      refine ⟨pp, vs, ev, sq, ?_⟩
      refine sb G1 H1 sg d1 _ s1.rel (Post.imp0 (post_bind0 h1') fun rs d2 G2 H2 s2 k2 h2 us q2 => ?_)
      exact h2 G2 H2 s2 k2 G2 H2 (Stp.refl s2.rel) (Kp.refl d2) (vs ++ us) (rvs_app (rvs_vals (da.ex s2.g)) (q2.from s1.d))
end
end DL

namespace DL
open PySem PySem.Spec L2 PyProof.Rows
theorem tuple_mul1 (l : Addr) (items : Array Value) (n : Nat) (dd : Option Addr) (sl : Array (Option Value)) (u : Tok) (hi : items.isEmpty = false) :
    Meets (Builtin.«tuple.__mul__» ⟨[.ref l, .int 1 u], []⟩) (fun _ R s => s.heap.get? l = some { cls := .type "tuple", dict := dd, data := .seq items n, slots := sl } ∧
      R (.ok (.ret (Value.ref l))) s) :=
  .of_wp fun prog w A R s h => by
    obtain ⟨hp, g, d, tk, os⟩ := s
    obtain ⟨hl, h⟩ := h
    have f1 := AutoSeq1.idx_int
    wp_walk using wpAny_loadPart' hl
    exact ⟨_, rfl, h⟩
def rRepT1 (K : PySem.W.Frag) : R2 := fun x y H Q => ∃ l xs, x = .ref l ∧ y = .int 1 ∧ SqT K H l xs ∧ xs ≠ [] ∧ Q (.ref l) H
section
variable {X : Cx} {W : WX} {K : PySem.W.Frag}
theorem op_repT1 : OpR X (binaryOp .Mult) (rRepT1 X.K) := by
  intro pins s σ H x y v u Q I rx ry h
  obtain ⟨l, xs, rfl, rfl, hT, hne, q⟩ := h
  cases rx
  obtain ⟨t, rfl⟩ := ry
  obtain ⟨its, r, ⟨⟨cls, dd, data, sl⟩, ho, hc, n, hd⟩, hs⟩ := I.tuple hT
  simp only at hc hd
  subst hc hd
  have hle : its.length = xs.length := r.length.symm
  have hi : its.toArray.isEmpty = false := by
    cases its with
    | nil => exact absurd (List.eq_nil_of_length_eq_zero hle.symm) hne
    | cons a b => rfl
  refine wpAny_binaryOp_repeat_ref (T := "tuple") (U := "int") (by decide) ⟨_, ho, rfl⟩ (fun s' => typeIs_int s' 1 t) noFill_tuple_mul F.fills_int_mul F.slot_int_rmul repeat_tuple F.slot_int_index.lookup
    (call_meets F.slot_int_rmul (typeIs_int s 1 t) F.entry_int_rmul (F.args_int_rmul_2 _ _) (int_rmul_tuple 1 t l its.toArray n dd sl)
      ⟨ho, rfl, ⟨_, ho, rfl⟩, call_meets F.slot_tuple_mul ⟨_, ho, rfl⟩ F.entry_tuple_mul (F.args_tuple_mul_2 _ _) (tuple_mul1 l its.toArray n dd sl t hi) ⟨ho, ?_⟩⟩)
  exact ⟨.ref l, H, I, rfl, q⟩
/-! `*` of ints, or of a list or tuple and an int -/
abbrev rMulAny (K : PySem.W.Frag) : R2 := fun x y H Q => rI CMul (fun i j => .int (i * j)) x y H Q ∨ ((rRepS K x y H Q ∨ rRepT K x y H Q) ∨ rRepT1 K x y H Q)
theorem op_mulAny : OpR X (binaryOp .Mult) (rMulAny X.K) := OpR.or op_mul (OpR.or op_repA op_repT1)
def oRep1 : PyData → PyData → Option Rv
  | .tuple ds, .int k => if ds ≠ [] ∧ k = 1 then some (.val (.tuple ds)) else none
  | _, _ => none
theorem os_rep1 : OpS K (rRepT1 K) oRep1 := by
  intro G H v u a b r e ta tb h Q q
  cases a <;> try (cases b <;> cases h; done)
  cases b <;> try (cases h)
  rename_i ds k
  have h' : (if ds ≠ [] ∧ k = 1 then some (Rv.val (.tuple ds)) else none) = some r := h
  by_cases hc : ds ≠ [] ∧ k = 1
  · rw [if_pos hc] at h'
    cases h'
    obtain ⟨p, vs, e1, sq, z⟩ := ta.tup e
    have hk := hc.2
    subst hk
    refine ⟨p, vs, e1, tb.int, sq, fun hv => hc.1 ?_, ?_⟩
    · subst hv
      cases ds with
      | nil => rfl
      | cons _ _ => exact nomatch z
    · subst e1
      cases ta with
      | st hd => exact q _ G H (Alc.refl e) hd
  · rw [if_neg hc] at h'; cases h'
def oMulAny (a b : PyData) : Option Rv := match a with
  | .int _ => oMul a b
  | _ => match oRep1 a b with
    | some r => some r
    | none => oRep a b
theorem os_mulAny : OpS K (rMulAny K) oMulAny := by
  intro G H v u a b r e ta tb h Q q
  unfold oMulAny at h
  cases a with
  | int i => exact .inl (os_mul G H v u _ b r e ta tb h Q q)
  | _ =>
    all_goals
      dsimp only at h
      cases h1 : oRep1 _ b with
      | some r1 =>
        rw [h1] at h
        cases h
        exact .inr (.inr (os_rep1 G H v u _ b _ e ta tb h1 Q q))
      | none =>
        rw [h1] at h
        exact .inr (.inl (os_rep G H v u _ b r e ta tb h Q q))
end
end DL

namespace DL
open PySem L2
/-! ### x or y, x a number or None -/
def truO (r : Rv) (g : S → Out Rv) (d1 : S) : Option PyData → Out Rv
  | some .none => g d1
  | some (.int i) => if i != 0 then .ok (.val (.int i)) d1 else g d1
  | _ => .bad
def dOrT (f g : S → Out Rv) : S → Out Rv := fun dl => (f dl).bind fun r d1 => truO r g d1 (rd d1 r)
section
variable {X : Cx} {W : WX} {a b : Expr} {rest : List Expr} {pos : Pos} {f g : S → Out Rv}
theorem se_orT (h : SE X W a f) (k : SE X W (.BoolOp .Or (b :: rest) pos) g) : SE X W (.BoolOp .Or (a :: b :: rest) pos) (dOrT f g) := by
  obtain ⟨ta, p, sa⟩ := h
  obtain ⟨tb, q, sb⟩ := k
  refine ⟨_, pe_orT p q, fun G H sg dl Q re h => ?_⟩
  refine sa G H sg dl _ re ((post_bind h).imp fun r1 d1 G1 H1 s1 k1 h1 v1 q1 => ?_)
  cases e1 : rd d1 r1 with
  | none => rw [e1] at h1; exact h1.elim
  | some x =>
    rw [e1] at h1
    have tr := q1.tr s1.rel e1
    have nx : Post X W G1 H1 sg d1 (wE X sg H Q) (g d1) → tb sg H1 Q := fun hg => sb G1 H1 sg d1 _ s1.rel (hg.imp fun r d2 G2 H2 s2 k2 z v qv => z v (qv.from s1.d))
    cases x with
    | none =>
      have hv := tr.non
      subst hv
      exact ⟨false, rfl, nx h1⟩
    | int i =>
      have hv := tr.int
      subst hv
      by_cases hi : (i != 0) = true
      · refine ⟨true, hi.symm, ?_⟩
        have h1' : Post X W G1 H1 sg d1 (wE X sg H Q) (if i != 0 then .ok (.val (.int i)) d1 else g d1) := h1
        rw [if_pos hi] at h1'
        exact h1' G1 H1 (Stp.refl s1.rel) (Kp.refl d1) (.int i) (.int i)
      · refine ⟨false, ?_, ?_⟩
        · show false = (i != 0)
          cases hb : (i != 0)
          · rfl
          · exact absurd hb hi
        · have h1' : Post X W G1 H1 sg d1 (wE X sg H Q) (if i != 0 then .ok (.val (.int i)) d1 else g d1) := h1
          rw [if_neg hi] at h1'
          exact nx h1'
    | _ => exact h1.elim
end
end DL

namespace DL
open PySem L2
/-! ### a, b = a list -/
def unpLO (is : List Nat) (d1 : S) : Option PyData → Fl
  | some (.list ds) => if ds.length = is.length then .nx (setAll d1 is ds) else .bad
  | _ => .bad
def dUnpL (is : List Nat) (f : S → Out Rv) : S → Fl := fun dl => (f dl).fl fun r d1 => unpLO is d1 (rd d1 r)
section
variable {X : Cx} {W : WX}
theorem ss_unpL (is : List Nat) {es : List Expr} {e : Expr} {k : Nat} {pos pos' : Pos} {f : S → Out Rv} (he : SE X W e f) (hc : X.calm = true) (hg : PGs X es (gAll is)) (hn : (assignEach es X.env).length = is.length := by rfl) (hst : (assignEach es X.env).findIdx? (·.1) = none := by rfl)
    (hs : swapsWithSole [.Tuple es k pos'] e pos.line X.env = pure false := by rfl) (hw : swappedStores [.Tuple es k pos'] e X.env = pure none := by rfl) (h1 : (assignEach [.Tuple es k pos'] X.env).map (·.2) = [assign (.Tuple es k pos') X.env] := by rfl) :
    SS X W (.Assign [.Tuple es k pos'] e pos) (dUnpL is f) := by
  obtain ⟨t, p, s⟩ := he
  refine ⟨tAsg t (gLst X.K is.length (gAll is)), ps_asg p (pg_lst hc hg hn hst) hs hw h1, fun G H sg dl D re h => ?_⟩
  refine s G H sg dl _ re ((post_fl h).imp fun r d1 G1 H1 s1 k1 h1 v q => ?_)
  cases e : rd d1 r with
  | none => rw [e] at h1; exact h1.elim
  | some y =>
    rw [e] at h1
    cases y with
    | list ds =>
      have h1' : PostS X W G H sg dl D (if ds.length = is.length then .nx (setAll d1 is ds) else .bad) := h1
      by_cases hl : ds.length = is.length
      · rw [if_pos hl] at h1'
        have z := q.tr s1.rel e
        obtain ⟨pp, vs, e1, sq, za⟩ := z.lst s1.rel.ex
        exact ⟨pp, vs, e1, sq, by rw [za.len]; exact hl, gAll_ok s1 za hl fun sg' s' => h1' G1 H1 sg' s'⟩
      · rw [if_neg hl] at h1'; exact h1'.elim
    | none => exact h1.elim
    | bool i => exact h1.elim
    | str i => exact h1.elim
    | tuple i => exact h1.elim
    | int i => exact h1.elim
    | dict i => exact h1.elim
end
end DL

/-! ### enumerate(tuple) -/
namespace DL
open PySem L2 PyProof.Rows
theorem meets_enumT (l : Addr) (items : Array Value) (n : Nat) (dct : Option Addr) (sl : Array (Option Value)) :
    Meets (Builtin.«enumerate.__new__» ⟨[.type "enumerate", .ref l], []⟩) (fun _ R s => s.heap.get? l = some { cls := .type "tuple", dict := dct, data := .seq items n, slots := sl } ∧
      R (.ok (.ret (.ref (s.heap.push { cls := .type "tuple_iterator", data := .fields #[.ref l, .int 0 0] }).objs.size)))
        { s with heap := (s.heap.push { cls := .type "tuple_iterator", data := .fields #[.ref l, .int 0 0] }).push { cls := .type "enumerate", data := .fields #[.none, .bool false, .ref s.heap.objs.size, rawInt 0, .none, .none] } }) :=
  .of_wp fun prog w A R s h => by
    obtain ⟨hp, g, d, tk, os⟩ := s
    obtain ⟨hl, h⟩ := h
    have hsub := sub_enumerate
    have hL : Heap.IsTuple (Shared.heap ⟨hp, g, d, tk, os⟩) l items := ⟨_, hl, rfl, n, rfl⟩
    have q1 : ∀ {A' : Around} {E : Value → Shared → Prop} {Q : Value → Shared → Prop}, Q (.ref hp.objs.size) ⟨hp.push { cls := .type "tuple_iterator", data := .fields #[.ref l, .int 0 0] }, g, d, tk, os⟩ → wpAny (model prog w) A' (pyIter (.ref l)) Q E ⟨hp, g, d, tk, os⟩ :=
      fun q => wpAny_pyIter_tuple hL q
    wp_walk using q1
    refine wpAny_stack_any fun st => wpAny_pure ?_
    split
    · rename_i c _ _ _ _ _
      cases (c == Value.type "enumerate")
      · wp_walk using q1
        exact ⟨_, rfl, h⟩
      · wp_walk using q1
        exact ⟨_, rfl, h⟩
    · wp_walk using q1
      exact ⟨_, rfl, h⟩
theorem call_enumT {prog : Program} {w : World} {A : Around} {E : Value → Shared → Prop} {s : Shared} {l : Addr} {items : Array Value} {Q : Value → Shared → Prop} (hL : s.heap.IsTuple l items)
    (h : ∀ h', IsEnum h' (s.heap.objs.size + 1) s.heap.objs.size 0 .none → h'.IsTupleIter s.heap.objs.size l 0 → h'.objs.size = s.heap.objs.size + 2 →
      (∀ b o, s.heap.get? b = some o → h'.get? b = some o) → Q (.ref (s.heap.objs.size + 1)) { s with heap := h' }) :
    wpAny (model prog w) A (call (.type "enumerate") [.ref l]) Q E s := by
  obtain ⟨⟨c, dct, dt, sl⟩, hl, hc, n, hd⟩ := hL
  replace hc : c = .type "tuple" := hc
  replace hd : dt = .seq items n := hd
  subst hc hd
  refine callType_new F.called_enumerate (by decide) (F.typeCall_enumerate_1 _) (F.newCall_enumerate_1 _) (fun obj => F.args_object_init_2 obj _) F.entry_enumerate_new
    (meets_enumT l items n dct sl) ⟨hl, ?_⟩
  have hz : (s.heap.push { cls := .type "tuple_iterator", data := .fields #[.ref l, .int 0 0] }).objs.size = s.heap.objs.size + 1 := Heap.size_push ..
  show _ ∧ _
  rw [hz]
  have he : IsEnum ((s.heap.push { cls := .type "tuple_iterator", data := .fields #[.ref l, .int 0 0] }).push
      { cls := .type "enumerate", data := .fields #[.none, .bool false, .ref s.heap.objs.size, rawInt 0, .none, .none] }) (s.heap.objs.size + 1) s.heap.objs.size 0 .none := by
    have := Heap.get?_push_size (s.heap.push { cls := .type "tuple_iterator", data := .fields #[.ref l, .int 0 0] })
      (o := { cls := .type "enumerate", data := .fields #[.none, .bool false, .ref s.heap.objs.size, rawInt 0, .none, .none] }) rfl
    rw [hz] at this; exact this
  refine ⟨⟨_, he, rfl⟩, h _ he ⟨_, Heap.get?_push_of_some _ (Heap.get?_push_size _ rfl), rfl, rfl⟩ (by rw [Heap.size_push, hz]) fun b o x => Heap.get?_push_of_some _ (Heap.get?_push_of_some _ x)⟩
theorem enumT_end {prog : Program} {w : World} {A : Around} {E : Value → Shared → Prop} {s : Shared} {e it l : Addr} {i : Nat} {c : Int} {items : Array Value} {old : Value} {Q : Option Value → Shared → Prop} (hh : A.handled = none) (he : IsEnum s.heap e it c old) (hit : s.heap.IsTupleIter it l i) (ht : s.heap.IsTuple l items) (hx : items[i]? = none)
    (hQ : ∀ h', Heap.ExtBut it s.heap h' → Q none { s with heap := h' }) : wpAny (model prog w) A (pyNext (.ref e)) Q E s := by
  have hT : s.TypeIs (.ref e) "enumerate" := ⟨_, he, rfl⟩
  unfold pyNext
  refine wpAny_bind (wpAny_attempt (wpAny_callSpecial?_slot (name := Str.ofString "__next__") hT F.slot_enumerate_next
    (wpAny_call_entry F.slot_enumerate_next hT F.entry_enumerate_next ?_ (F.args_enumerate_next_1 _))))
  show wpAny _ _ (field (.ref e) 2 >>= _) _ _ _
  refine wpAny_bind (wpAny_field he rfl (x := .ref it) rfl ?_)
  refine wpAny_bind (wpAny_nextOf_tuple_end (A := A.in1) hh hit ht hx fun h' x he' hx' => ?_)
  obtain ⟨o, ho, hc⟩ := hx'
  refine wpAny_bind (wpAny_isInstance (T := "StopIteration") (b := true) ⟨o, ho, hc⟩ isSubtype_stop ?_)
  exact wpAny_pure (hQ _ he')
def IteT (K : PySem.W.Frag) (a : Addr) : It :=
  ⟨fun i H => ∃ (xs : List V) (x : V), SqT K H a xs ∧ xs[i]? = some x, fun i H v H' => ∃ T x, v = .ref T ∧ H T = none ∧ H' = upd H T (.tup [.int (i : Nat), x]) ∧ ∀ xs, SqT K H a xs → xs[i]? = some x, fun i H => ∃ xs : List V, SqT K H a xs ∧ xs.length ≤ i⟩
theorem turn_enumT {P : Program} {w : World} {K : PySem.W.Frag} {elts : List Expr} {kk : Nat} {tpos : Pos} (a e it : Addr) :
    Turn P w K (.Tuple elts kk tpos) (IteT K a) [e, it] e (fun i h => (∃ old, IsEnum h e it ((i : Nat) : Int) old) ∧ h.IsTupleIter it a i ∧ e ≠ it ∧ e ≠ a ∧ a ≠ it) where
  mem := by simp
  obj := fun i h st b hb => by
    obtain ⟨⟨old, he⟩, ⟨o, ho, hc, hd⟩, _⟩ := st
    have e' : b = e ∨ b = it := by simpa using hb
    rcases e' with z | z
    · rw [z]; exact ⟨_, he, fun v q => nomatch q⟩
    · rw [z]; exact ⟨o, ho, fun v q => by rw [hd] at q; cases q⟩
  keep := fun i h h' st k => let ⟨⟨old, he⟩, hi, hne⟩ := st; ⟨⟨old, k e (by simp) _ he⟩, hi.at fun o q => k it (by simp) o q, hne⟩
  item := by
    intro X hP hw hK hc i pins s σ H E I hf st hg
    subst hP hw hK
    obtain ⟨⟨old, he⟩, hit, hne, hea, hai⟩ := st
    obtain ⟨xs, x, hq, hx⟩ := hg
    obtain ⟨its, rv, p, hz⟩ := I.tuple hq
    obtain ⟨u, hu, ru⟩ := rv.get hx
    have hel : e < s.heap.objs.size := Heap.lt_size he
    have hil : it < s.heap.objs.size := by obtain ⟨_, q, _⟩ := hit; exact Heap.lt_size q
    have hlt : i < its.toArray.size := by rw [List.size_toArray]; exact lt_of_get hu
    refine wpAny_pyNext_enum_itemD (Draws.tuple (A := X.A.in1) (I.ok.hd hc) it a hai its.toArray) he ⟨hit, p⟩ hlt hne (by simp [hne, hea]) fun y h' tk hy ho hit' hT hsz hk => ?_
    have hyu : y = u := by
      have : its.toArray[i]? = some u := by simpa using hu
      rw [this] at hy
      cases hy
      rfl
    subst hyu
    refine ⟨_, rfl, wpAny_letOwnedTupleGo_enum (s := { s with heap := h', toks := tk + 1 }) ho fun h'' he' sb => ?_⟩
    have hT2 : h''.get? s.heap.objs.size = some { cls := .type "tuple", data := .seq #[.int i tk, y] } := (sb.2 _ (Nat.ne_of_gt hel)).trans hT
    have new : ObjOk X.prog X.w (upd H s.heap.objs.size (.tup [.int (i : Nat), x])) h'' s.heap.objs.size (.tup [.int (i : Nat), x]) :=
      ⟨by show 2 ≤ sizeLine; decide, [.int i tk, y], .cons ⟨_, rfl⟩ (.cons ru .nil), ⟨_, hT2, rfl, _, rfl⟩⟩
    have I1 : Inv X pins σ (upd H s.heap.objs.size (.tup [.int (i : Nat), x])) { s with heap := h'', toks := tk + 1 } :=
      I.turnedNew (ch := [e, it]) (fun b ob hb q => (sb.2 b (fun z => hb (by simp [z]))).trans (hk b ob (fun z => hb (by simp [z])) (fun z => hb (by simp [z])) q)) hf (Nat.le_refl _) new
    refine ⟨.ref s.heap.objs.size, _, I1, rfl, ⟨_, x, rfl, I.hok.fresh (Nat.le_refl _), rfl, fun ys hy => by rw [I.tuple_inj hy hq]; exact hx⟩, ⟨⟨y, ?_⟩, hit'.1.at fun o q => (sb.2 it (Ne.symm hne)).trans q, hne, hea, hai⟩, fun b hb => ?_⟩
    · have e1 : ((i + 1 : Nat) : Int) = (i : Int) + 1 := by omega
      rw [e1]; exact he'
    · have hb' : b < s.heap.objs.size := by
        have e' : b = e ∨ b = it := by simpa using hb
        rcases e' with z | z
        · rw [z]; exact hel
        · rw [z]; exact hil
      rw [upd_ne (Nat.ne_of_lt hb')]
      exact (hf b hb).1
  done := by
    intro X hP hw hK hc i pins s σ H E I hf st hg
    subst hP hw hK
    obtain ⟨⟨old, he⟩, hit, hne, hea, hai⟩ := st
    obtain ⟨xs, hq, hx⟩ := hg
    obtain ⟨its, rv, p, hz⟩ := I.tuple hq
    obtain ⟨f0, f1, f2, f3, f4, f5⟩ := hf it (by simp)
    have hl := rv.length
    exact enumT_end (I.ok.hd hc) he hit p (by simp; omega) fun h' eb => ⟨rfl, I.turned (t' := s.toks) (fun b o hb q => eb b o hb q) f0 f1 f3 f4 f5⟩
  self := fun A i s Q E st h => let ⟨⟨_, he⟩, _⟩ := st; wpAny_pyIter_enum he h
section
variable {X : Cx} {W : WX} {K : PySem.W.Frag}
def iEnumA (K : PySem.W.Frag) (ta : TA) : TI := fun σ H R => ta σ H fun vs H1 => ∃ a xs, vs = [.ref a] ∧ ((SqL K H1 a xs ∧ R (Ite K a) H1) ∨ (SqT K H1 a xs ∧ R (IteT K a) H1))
theorem pi_enumA {e : Expr} {ta : TA} {p pos tpos : Pos} {elts : List Expr} {kk : Nat} (hg : Gl X "enumerate") (hm : X.mg "enumerate" = none) (ha : PA X [e] ta) (hs : starEach [e] X.env = [(false, eval e X.env)] := by rfl) :
    PI X (.Tuple elts kk tpos) (.Call (.Name "enumerate" p) [e] [] pos) (iEnumA X.K ta) := by
  refine ⟨fun pins s σ H R I h => ?_⟩
  refine Call_ (ld_blt I hg hm boot_enumerate (PyProof.Rows.callWith_type1 (thn (ha.run pos pins s σ H _ I h) fun us s1 ⟨vs, H1, I1, r1, q1⟩ => ?_) hs rfl))
  obtain ⟨a, xs, ex, q1⟩ := q1
  subst ex
  cases r1 with
  | cons r rr =>
    cases rr
    cases r
    rcases q1 with ⟨hq, q⟩ | ⟨hq, q⟩
    · obtain ⟨its, rv, p', hz⟩ := I1.list hq
      refine call_enumerate_list p'.isList fun h' he hit hsz hk => wpAny_pyIter_enum he ?_
      have I2 : Inv X pins σ H1 { s1 with heap := h' } := I1.kept (t' := s1.toks) hk
      refine ⟨s1.heap.objs.size + 1, [s1.heap.objs.size + 1, s1.heap.objs.size], _, _, H1, rfl, I2, turn_enum a (s1.heap.objs.size + 1) s1.heap.objs.size, ⟨⟨.none, he⟩, hit, Nat.succ_ne_self _⟩, fun b hb => ?_, q⟩
      have e' : b = s1.heap.objs.size + 1 ∨ b = s1.heap.objs.size := by simpa using hb
      have hle : s1.heap.objs.size ≤ b := by
        rcases e' with z | z
        · rw [z]; exact Nat.le_add_right _ _
        · rw [z]; exact Nat.le_refl _
      exact I1.fpOk hle (I1.hok.fresh hle)
    · obtain ⟨its, rv, p', hz⟩ := I1.tuple hq
      have hal : a < s1.heap.objs.size := by obtain ⟨_, q, _⟩ := p'; exact Heap.lt_size q
      refine call_enumT p' fun h' he hit hsz hk => wpAny_pyIter_enum he ?_
      have I2 : Inv X pins σ H1 { s1 with heap := h' } := I1.kept (t' := s1.toks) hk
      refine ⟨s1.heap.objs.size + 1, [s1.heap.objs.size + 1, s1.heap.objs.size], _, _, H1, rfl, I2, turn_enumT a (s1.heap.objs.size + 1) s1.heap.objs.size, ⟨⟨.none, he⟩, hit, Nat.succ_ne_self _, Nat.ne_of_gt (Nat.lt_succ_of_lt hal), Nat.ne_of_lt hal⟩, fun b hb => ?_, q⟩
      have e' : b = s1.heap.objs.size + 1 ∨ b = s1.heap.objs.size := by simpa using hb
      have hle : s1.heap.objs.size ≤ b := by
        rcases e' with z | z
        · rw [z]; exact Nat.le_add_right _ _
        · rw [z]; exact Nat.le_refl _
      exact I1.fpOk hle (I1.hok.fresh hle)
def itEO : Option (List PyData × S) → Out (List PyData)
  | some ([.list a], d2) => .ok (enumD a) d2
  | some ([.tuple a], d2) => .ok (enumD a) d2
  | _ => .bad
def dItE (f : S → Out (List Rv)) : S → Out (List PyData) := fun dl => (f dl).bind fun rs d1 => itEO (stbs d1 rs)
theorem wk_enumT {G : Hp} {a : Addr} {va : List V} {da : List PyData} (h : SqT K G a va) (z : DaAll K G va da) : Wk K (IteT K a) G (enumD da) := by
  intro i G' H' e1 e2
  have ha := ex_t (e1.trans e2) h
  refine ⟨fun d hd => ?_, fun hl => ?_⟩
  · unfold enumD at hd
    rw [List.getElem?_mapIdx] at hd
    cases q1 : da[i]? with
    | none => rw [q1] at hd; cases hd
    | some x =>
      rw [q1] at hd
      cases hd
      obtain ⟨v, hv, dv⟩ := z.at q1
      refine ⟨⟨va, v, ha, hv⟩, fun w H2 y' => ?_⟩
      obtain ⟨T, x', rfl, hT, rfl, y1⟩ := y'
      have e3 := y1 va ha
      rw [hv] at e3
      cases e3
      have al := Alc.made e2 hT (.tup [.int (i : Nat), v])
      exact ⟨_, al, .tup (.inl (.inl upd_same)) (.cons (.int _) (.cons ((dv.ex e1).ex al.g) .nil))⟩
  · refine ⟨va, ha, ?_⟩
    unfold enumD at hl
    rw [List.length_mapIdx] at hl
    rw [z.len]
    exact hl
theorem si_enumA {elts : List Expr} {kk : Nat} {tpos p pos : Pos} {e : Expr} {f : S → Out (List Rv)} (hg : Gl X "enumerate") (hm : X.mg "enumerate" = none) (ha : SA X W [e] f) (hs : starEach [e] X.env = [(false, eval e X.env)] := by rfl) : SI X W (.Tuple elts kk tpos) (.Call (.Name "enumerate" p) [e] [] pos) (dItE f) := by
  obtain ⟨t, pa, sa⟩ := ha
  refine ⟨_, pi_enumA hg hm pa hs, fun G H sg dl R re h => ?_⟩
  refine sa G H sg dl _ re ((post_bind h).imp fun rs d1 G1 H1 s1 k1 h1 vs q => ?_)
  unfold itEO at h1
  split at h1
  · rename_i a d2 es
    obtain ⟨G2, s2, k2, z2⟩ := stbs_ok s1.rel q es
    cases z2 with
    | cons z3 z4 =>
      cases z4
      cases z3 with
      | lst hs ha => exact ⟨_, _, rfl, .inl ⟨ex_l s2.rel.ex hs, h1 G2 H1 s2 k2 _ (wk_enum hs ha)⟩⟩
  · rename_i a d2 es
    obtain ⟨G2, s2, k2, z2⟩ := stbs_ok s1.rel q es
    cases z2 with
    | cons z3 z4 =>
      cases z4
      cases z3 with
      | tup hs ha => exact ⟨_, _, rfl, .inr ⟨ex_t s2.rel.ex hs, h1 G2 H1 s2 k2 _ (wk_enumT hs ha)⟩⟩
  · exact h1.elim
end
end DL

namespace DL
open PySem L2
/-! ### a call whose first argument is a list made for it -/
def dCallT (n : Nat) (g : Fn) (f0 : S → Out Rv) (fr : S → Out (List Rv)) : S → Out Rv := fun dl => match f0 dl with
  | .ok (.new st) d1 => match fr d1 with
    | .ok rs d2 => match stbs d2 rs with
      | some (ds, d3) => if ds.length + 1 = n then asE (g st ds) d3 else .bad
      | none => .bad
    | _ => .bad
  | _ => .bad
section
variable {X : Cx} {W : WX} {K : PySem.W.Frag}
theorem stp_callN3 {G0 H0 G H G' H' : Hp} {sg : L2.St} {dl0 dl : S} {p : Addr} {vs : List V} {st st' ds : List PyData} (s : Stp K G0 H0 sg dl0 G H sg dl) (hp0 : H0 p = none) (hw : ¬ Ow H sg dl p)
    (c : Stp K G H ((V.ref p :: vs).map some) (mkA true st ds) G' H' ((V.ref p :: vs).map some) (mkA true st' ds)) : Stp K G0 H0 sg dl0 G' H' sg dl ∧ ∀ a, Ow H' sg dl a → Ow H sg dl a := by
  have re := s.rel
  have na : ∀ a, a ≠ p → ¬ Ow H ((V.ref p :: vs).map some) (mkA true st ds) a := fun a h z => h (ow_T z)
  have n0 : ∀ a, H0 a ≠ none → a ≠ p := fun a h z => h (by rw [z]; exact hp0)
  have nw : ∀ a, Ow H sg dl a → a ≠ p := fun a h z => hw (by rw [← z]; exact h)
  obtain ⟨r', w'⟩ := re.keep c.g c.rel.ex (fun a ha => by
    obtain ⟨o, ho⟩ := ne_some (re.ow ha).2
    rw [ho]; exact c.k a o (na a (nw a ha)) ho) fun a ha => c.n a (na a (nw a ha)) (re.ow ha).2 (re.ow ha).1
  refine ⟨⟨r', s.g.trans c.g, fun a o h1 h2 => ?_, fun a h1 h2 h3 => ?_, fun a h => s.w a (w' a h), fun a h => c.d a (s.d a h), s.io⟩, w'⟩
  · exact c.k a o (na a (n0 a (some_ne h2))) (s.k a o h1 h2)
  · exact c.n a (na a (n0 a h2)) (s.d a h2) (s.n a h1 h2 h3)
theorem stp_callN {G0 H0 G H G' H' : Hp} {sg : L2.St} {dl0 dl : S} {p : Addr} {vs : List V} {st st' ds : List PyData} (s : Stp K G0 H0 sg dl0 G H sg dl) (hp0 : H0 p = none) (hw : ¬ Ow H sg dl p)
    (c : Stp K G H ((V.ref p :: vs).map some) (mkA true st ds) G' H' ((V.ref p :: vs).map some) (mkA true st' ds)) : Stp K G0 H0 sg dl0 G' H' sg dl := (stp_callN3 s hp0 hw c).1
theorem se_callT {x : Str} {n : Nat} {g : Fn} {e0 : Expr} {es : List Expr} {p pos : Pos} {f0 : S → Out Rv} {f : S → Out (List Rv)} (tk : Takes X W) (F : FnD X x true n g) (hg : Gl X x) (h0 : SE X W e0 f0) (ha : SA X W es f) (hdb : (x == ("__debug__" : Str)) = false := by decide)
    (he : starEach (e0 :: es) X.env = (false, eval e0 X.env) :: starEach es X.env := by rfl) (hpl : (backTo pos (starEach es X.env)).any (·.1) = false := by rfl) : SE X W (.Call (.Name x p) (e0 :: es) [] pos) (dCallT n g f0 f) := by
  obtain ⟨t0, p0, s0⟩ := h0
  obtain ⟨t, pa, sa⟩ := ha
  obtain ⟨k, ff, fd, ps, F, hr, hm, hk, hb⟩ := F
  refine ⟨_, pe_callS F hr hg hm hk hb (fun σ => passAt tk σ) (pa_cons p0 pa he) hdb he hpl, fun G H sg dl Q re h => ?_⟩
  unfold dCallT at h
  cases e0 : f0 dl with
  | bad => rw [e0] at h; exact h.elim
  | ex c d => rw [e0] at h; exact h.elim
  | ok r d1 =>
    rw [e0] at h
    cases r with
    | val d => exact h.elim
    | loc i => exact h.elim
    | new st =>
      refine s0 G H sg dl _ re ?_
      rw [e0]
      intro G1 H1 s1 k1 v0 q0
      have h1 : Post X W G H sg dl (wE X sg H Q) (match f d1 with
        | .ok rs d2 => match stbs d2 rs with
          | some (ds, d3) => if ds.length + 1 = n then asE (g st ds) d3 else .bad
          | none => .bad
        | _ => .bad) := h
      cases e1 : f d1 with
      | bad => rw [e1] at h1; exact h1.elim
      | ex c d => rw [e1] at h1; exact h1.elim
      | ok rs d2 =>
        rw [e1] at h1
        refine sa G1 H1 sg d1 _ s1.rel ?_
        rw [e1]
        intro G2 H2 s2 k2 vs q
        have h2 : Post X W G H sg dl (wE X sg H Q) (match stbs d2 rs with
          | some (ds, d3) => if ds.length + 1 = n then asE (g st ds) d3 else .bad
          | none => .bad) := h1
        cases es : stbs d2 rs with
        | none => rw [es] at h2; exact h2.elim
        | some y =>
          obtain ⟨ds, d3⟩ := y
          rw [es] at h2
          obtain ⟨G3, s3, k3, z3⟩ := stbs_ok s2.rel q es
          have h3 : Post X W G H sg dl (wE X sg H Q) (if ds.length + 1 = n then asE (g st ds) d3 else .bad) := h2
          by_cases hl : ds.length + 1 = n
          · rw [if_pos hl] at h3
            have q0' := (q0.mono s2 k2).mono s3 k3
            obtain ⟨pp, us, rfl, hp0, hpH, hpG, hpw, hda⟩ := q0'
            have s123 := s1.trans (s2.trans s3)
            have k123 := k1.trans (k2.trans k3)
            refine ⟨by rw [List.length_cons, z3.len]; exact hl, G3, st, ds, rel_argsT s3.rel.ex rfl hpG hpH hda z3, ?_⟩
            cases ho : g st ds with
            | bad => rw [ho] at h3; exact h3
            | val d st' =>
              rw [ho] at h3
              intro v G' H' c dv
              exact h3 G' H' (stp_callN s123 hp0 hpw c) k123 v dv
            | new x st' =>
              rw [ho] at h3
              intro v G' H' c qv
              refine h3 G' H' (stp_callN s123 hp0 hpw c) k123 v ((rv_call qv fun q hq z => ?_).from s123.d)
              exact (s123.rel.ow ((stp_callN3 s123 hp0 hpw c).2 q z)).2 hq
            | ex c st' =>
              rw [ho] at h3
              intro C G' H' hc cc
              exact h3 C G' H' hc (stp_callN s123 hp0 hpw cc)
          · rw [if_neg hl] at h3; exact h3.elim
end
end DL

namespace DL
open PySem L2
/-! ### str of an int -/
def bStr : List PyData → Option Rv
  | [.int i] => if i.natAbs < 1000000 then some (.val (.str (toString i))) else none
  | _ => none
section
variable {K : PySem.W.Frag}
theorem cs_str : CaS K (fun xs H Q => ∃ i, xs = [.int i] ∧ i.natAbs.log2 < 1920 ∧ Q (.str (toString i)) H) bStr := by
  intro G H vs ds rv e t h Q q
  unfold bStr at h
  split at h
  · rename_i i
    obtain ⟨v, rfl, t'⟩ := tr1 t
    split at h
    · cases h
      refine ⟨_, by rw [t'.int], ?_, q.val e (.str _)⟩
      by_cases h0 : i.natAbs = 0
      · rw [h0]; decide
      · rw [Nat.log2_lt h0]
        refine Nat.lt_of_lt_of_le (show i.natAbs < 2 ^ 20 by omega) (Nat.pow_le_pow_right (by decide) (by decide))
    · cases h
  · cases h
end
end DL

namespace DL
open PySem PySem.Spec L2 PyProof.Rows
/-! ### sorted(list of pairs of ints) -/
abbrev prI (p : Int × Int) : PyData := .tuple [.int p.1, .int p.2]
abbrev PV (K : PySem.W.Frag) (H : Hp) (x : V) (p : Int × Int) : Prop := ∃ t, x = V.ref t ∧ SqT K H t [.int p.1, .int p.2]
def rSortZ (K : PySem.W.Frag) : List V → Hp → VK → Prop := fun vs H Q => ∃ (a : Addr) (xs : List V) (ps : List (Int × Int)), vs = [V.ref a] ∧ SqL K H a xs ∧ Paired (PV K H) xs ps ∧
  ∀ (zs : List (V × (Int × Int))) (p : Addr), zs.Perm (xs.zip ps) → (zs.map (·.2)).Pairwise (fun a b => SrtO.lexB b a = false) → H p = none → Q (.ref p) (upd H p (.lst (zs.map (·.1))))
section
variable {X : Cx} {W : WX} {K : PySem.W.Frag}
open Classical in
noncomputable def kOf (K : PySem.W.Frag) (H : Hp) (v : V) : Int × Int := if h : ∃ p, PV K H v p then choose h else (0, 0)
theorem kOf_eq {pins : List (Addr × Obj)} {σ : L2.St} {H : Hp} {s : Shared} (I : Inv X pins σ H s) {v : V} {p : Int × Int} (h : PV X.K H v p) : kOf X.K H v = p := by
  have hx : ∃ p, PV X.K H v p := ⟨p, h⟩
  unfold kOf
  rw [dif_pos hx]
  obtain ⟨t, e, hs⟩ := Classical.choose_spec hx
  obtain ⟨t', e', hs'⟩ := h
  subst e
  cases e'
  have := I.tuple_inj hs hs'
  simp only [List.cons.injEq, V.int.injEq, and_true] at this
  exact Prod.ext this.1 this.2
theorem paired_k {pins : List (Addr × Obj)} {σ : L2.St} {H : Hp} {s : Shared} (I : Inv X pins σ H s) : ∀ {xs : List V} {ps : List (Int × Int)}, Paired (PV X.K H) xs ps → ps = xs.map (kOf X.K H) ∧ ∀ x ∈ xs, PV X.K H x (kOf X.K H x)
  | _, _, .nil => ⟨rfl, fun _ h => nomatch h⟩
  | _, _, .cons h t => by
    obtain ⟨e, r⟩ := paired_k I t
    have hk := kOf_eq I h
    refine ⟨by rw [List.map_cons, hk, ← e], fun x hx => ?_⟩
    rcases List.mem_cons.mp hx with rfl | hx
    · rw [hk]; exact h
    · exact r x hx
theorem zip_map_self {A B : Type} (f : A → B) : ∀ xs : List A, xs.zip (xs.map f) = xs.map fun x => (x, f x)
  | [] => rfl
  | x :: xs => by rw [List.map_cons, List.zip_cons_cons, zip_map_self f xs, List.map_cons]
theorem cr_sortZ : CallR X (.builtin "sorted") (rSortZ X.K) := by
  intro pins s σ H vs us Q I r h
  obtain ⟨a, xs, ps, rfl, hs, hp, q⟩ := h
  obtain ⟨eps, hx⟩ := paired_k I hp
  obtain ⟨its, rv, hl, hz⟩ := I.list hs
  obtain ⟨u, rfl, ru⟩ := vals1 r
  obtain rfl : u = Value.ref a := ru
  obtain ⟨e1, e2⟩ := refs_back rv fun x m => by
    obtain ⟨t, e, _⟩ := hx x m
    exact ⟨t, e⟩
  refine SrtO.sorted_pairsO (k := fun u => kOf X.K H (backV u)) hl.isList (by rw [← rv.length]; exact hz) (fun v hv => ?_) fun h' d out h1 h2 kp hd hn => ?_
  · obtain ⟨t, rfl⟩ := e2 v hv
    have hm : V.ref t ∈ xs := by rw [e1]; exact List.mem_map.mpr ⟨_, hv, rfl⟩
    obtain ⟨t', e, ht⟩ := hx _ hm
    cases e
    obtain ⟨its2, r2, ⟨o, ho, hc, n, hd⟩, _⟩ := I.tuple ht
    obtain ⟨u1, u2, rfl, ri, rj⟩ := vals2 r2
    obtain ⟨t1, rfl⟩ := ri
    obtain ⟨t2, rfl⟩ := rj
    exact ⟨t, o, t1, t2, n, rfl, ho, hc, hd⟩
  · have h3 : ∀ u ∈ out, ∃ a, u = Value.ref a := fun u hu => e2 u (h2.perm.mem_iff.mp hu)
    obtain ⟨n, hn⟩ := hn
    have hb : SrtO.Stb (ltP (kOf X.K H)) (out.map backV) xs := by
      rw [e1]
      exact SrtO.Stb.map (ltP_swo (kOf X.K H)) backV h2
    have hsr : SrtO.Srtd (ltP (kOf X.K H)) (out.map backV) := SrtO.srtd_map h1
    have hq := q ((out.map backV).map fun y => (y, kOf X.K H y)) d (by
      rw [eps, zip_map_self]
      exact hb.perm.map _) (by
      rw [List.map_map, List.pairwise_map]
      exact hsr) (I.hok.fresh hd)
    rw [List.map_map, show ((fun x : V × (Int × Int) => x.1) ∘ fun y => (y, kOf X.K H y)) = id from rfl, List.map_id] at hq
    refine ⟨.ref d, upd H d (.lst (out.map backV)), I.laid (t' := s.toks) kp hd ⟨?_, out, n, vals_back h3, hn⟩, rfl, hq⟩
    rw [hb.len]
    exact hz
def allP : List PyData → Option (List (Int × Int))
  | [] => some []
  | .tuple [.int i, .int j] :: ds => (allP ds).map fun ps => (i, j) :: ps
  | _ => none
theorem allP_eq : ∀ {ds : List PyData} {ps : List (Int × Int)}, allP ds = some ps → ds = ps.map prI
  | [], ps, h => by cases h; rfl
  | .tuple [.int i, .int j] :: ds, ps, h => by
    have h' : (allP ds).map (fun ps => (i, j) :: ps) = some ps := h
    cases hq : allP ds with
    | none => rw [hq] at h'; cases h'
    | some qs => rw [hq] at h'; cases h'; rw [allP_eq hq]; rfl
  | .none :: ds, ps, h => by cases h
  | .bool _ :: ds, ps, h => by cases h
  | .int _ :: ds, ps, h => by cases h
  | .str _ :: ds, ps, h => by cases h
  | .list _ :: ds, ps, h => by cases h
  | .dict _ :: ds, ps, h => by cases h
  | .tuple [] :: ds, ps, h => by cases h
  | .tuple [a] :: ds, ps, h => by cases a <;> cases h
  | .tuple (.none :: _ :: _) :: ds, ps, h => by cases h
  | .tuple (.bool _ :: _ :: _) :: ds, ps, h => by cases h
  | .tuple (.str _ :: _ :: _) :: ds, ps, h => by cases h
  | .tuple (.list _ :: _ :: _) :: ds, ps, h => by cases h
  | .tuple (.tuple _ :: _ :: _) :: ds, ps, h => by cases h
  | .tuple (.dict _ :: _ :: _) :: ds, ps, h => by cases h
  | .tuple (.int _ :: .none :: _) :: ds, ps, h => by cases h
  | .tuple (.int _ :: .bool _ :: _) :: ds, ps, h => by cases h
  | .tuple (.int _ :: .str _ :: _) :: ds, ps, h => by cases h
  | .tuple (.int _ :: .list _ :: _) :: ds, ps, h => by cases h
  | .tuple (.int _ :: .tuple _ :: _) :: ds, ps, h => by cases h
  | .tuple (.int _ :: .dict _ :: _) :: ds, ps, h => by cases h
  | .tuple (.int _ :: .int _ :: _ :: _) :: ds, ps, h => by cases h
def sortP (ps : List (Int × Int)) : List (Int × Int) := ps.mergeSort (fun a b => !SrtO.lexB b a)
def bSortP : List PyData → Option Rv
  | [.list ds] => (allP ds).bind fun ps => some (.new ((sortP ps).map prI))
  | _ => none
theorem lex_anti {a b : Int × Int} (h1 : SrtO.lexB b a = false) (h2 : SrtO.lexB a b = false) : a = b := by
  have x := SrtO.lexB_no.mp h1
  have y := SrtO.lexB_no.mp h2
  refine Prod.ext ?_ ?_ <;> omega
theorem sortP_sorted (ps : List (Int × Int)) : (sortP ps).Pairwise (fun a b => SrtO.lexB b a = false) := by
  have := List.pairwise_mergeSort (le := fun a b => !SrtO.lexB b a) (fun a b c h1 h2 => by
    simp only [Bool.not_eq_true'] at *
    have x := SrtO.lexB_no.mp h1
    have y := SrtO.lexB_no.mp h2
    exact SrtO.lexB_no.mpr (by omega)) (fun a b => by
    simp only [Bool.or_eq_true, Bool.not_eq_true']
    by_cases h : SrtO.lexB b a = false
    · exact .inl h
    · refine .inr (SrtO.lexB_no.mpr ?_)
      have x := SrtO.lexB_iff.mp (by simpa using h)
      omega) ps
  unfold sortP
  exact this.imp fun h => by simpa using h
theorem sortP_perm (ps : List (Int × Int)) : (sortP ps).Perm ps := List.mergeSort_perm _ _
theorem sorted_uniq {qs ps : List (Int × Int)} (hp : qs.Perm ps) (hs : qs.Pairwise (fun a b => SrtO.lexB b a = false)) : qs = sortP ps :=
  List.Perm.eq_of_pairwise (fun a b _ _ h1 h2 => lex_anti h1 h2) hs (sortP_sorted ps) (hp.trans (sortP_perm ps).symm)
theorem cs_sortP : CaS K (rSortZ K) bSortP := by
  intro G H vs ds rv e t h Q q
  unfold bSortP at h
  split at h
  · rename_i l
    obtain ⟨v, rfl, t'⟩ := tr1 t
    cases ha : allP l with
    | none => rw [ha] at h; cases h
    | some ps =>
      rw [ha] at h
      cases h
      have el := allP_eq ha
      subst el
      obtain ⟨p, xs, rfl, sq, da⟩ := t'.lst e
      have pr : ∀ {xs : List V} {ps : List (Int × Int)}, DaAll K G xs (ps.map prI) → Paired (PV K H) xs ps ∧ ∀ z ∈ xs.zip ps, Da K G z.1 (prI z.2) := by
        intro xs ps
        induction ps generalizing xs with
        | nil => intro h; cases h; exact ⟨.nil, fun _ h => nomatch h⟩
        | cons a ps ih =>
          intro h
          cases h with
          | cons h1 h2 =>
            obtain ⟨i1, i2⟩ := ih h2
            have h1' := h1
            cases h1 with
            | tup sq da =>
              rename_i ad vs
              have := DaAll.ints (ns := [a.1, a.2]) da
              subst this
              refine ⟨.cons ⟨_, rfl, ex_t e sq⟩ i1, fun z hz => ?_⟩
              rw [List.zip_cons_cons] at hz
              rcases List.mem_cons.mp hz with rfl | hz
              · exact h1'
              · exact i2 z hz
      obtain ⟨pp, pz⟩ := pr da
      refine ⟨p, xs, ps, rfl, sq, pp, fun zs d hz hs hd => ?_⟩
      have hlen : xs.length = ps.length := by have := da.len; simpa using this
      have hu : zs.map (·.2) = sortP ps := sorted_uniq (by
        have := hz.map (fun x : V × (Int × Int) => x.2)
        rwa [show (xs.zip ps).map (fun x : V × (Int × Int) => x.2) = ps from List.map_snd_zip (by omega)] at this) hs
      have dz : DaAll K G (zs.map (·.1)) ((sortP ps).map prI) := by
        rw [← hu, List.map_map]
        have hm : ∀ z ∈ zs, Da K G z.1 (prI z.2) := fun z h => pz z (hz.mem_iff.mp h)
        clear hz hs hu
        induction zs with
        | nil => exact .nil
        | cons z zs ih => exact .cons (hm z List.mem_cons_self) (ih fun y hy => hm y (List.mem_cons_of_mem _ hy))
      exact q.lst e dz d hd
  · cases h
end
end DL

namespace DL
open PySem L2
/-! ### evaluating denotations -/
section
variable {A B : Type}
@[simp] theorem bind_ok (a : A) (dl : S) (k : A → S → Out B) : (Out.ok a dl).bind k = k a dl := rfl
@[simp] theorem bind_ex (c : Str) (dl : S) (k : A → S → Out B) : (Out.ex c dl : Out A).bind k = .ex c dl := rfl
@[simp] theorem bind_bad (k : A → S → Out B) : (Out.bad : Out A).bind k = .bad := rfl
@[simp] theorem fl_ok (a : A) (dl : S) (k : A → S → Fl) : (Out.ok a dl).fl k = k a dl := rfl
@[simp] theorem fl_bad (k : A → S → Fl) : (Out.bad : Out A).fl k = .bad := rfl
end
@[simp] theorem ev_var (i : Nat) (dl : S) : dVar i dl = (match dl[i]? with
  | some (.val d) => .ok (.val d) dl
  | some (.own _ _) => .ok (.loc i) dl
  | _ => .bad) := rfl
@[simp] theorem ev_c (d : PyData) (dl : S) : dC d dl = .ok (.val d) dl := rfl
@[simp] theorem ev_1 (op : PyData → Option Rv) (f : S → Out Rv) (dl : S) : d1 op f dl = (f dl).bind fun r1 d1 => fin (o1 op (rd d1 r1)) d1 := rfl
@[simp] theorem ev_2 (op : PyData → PyData → Option Rv) (f g : S → Out Rv) (dl : S) : d2 op f g dl = (f dl).bind fun r1 d1 => (g d1).bind fun r2 d2 => fin (o2 op (rd d2 r1) (rd d2 r2)) d2 := rfl
@[simp] theorem ev_fin (r : Rv) (dl : S) : fin (some r) dl = .ok r dl := rfl
@[simp] theorem ev_fin0 (dl : S) : fin none dl = .bad := rfl
@[simp] theorem ev_o1 (op : PyData → Option Rv) (a : PyData) : o1 op (some a) = op a := rfl
@[simp] theorem ev_o2 (op : PyData → PyData → Option Rv) (a b : PyData) : o2 op (some a) (some b) = op a b := rfl
@[simp] theorem ev_rdv (dl : S) (d : PyData) : rd dl (.val d) = some d := rfl
@[simp] theorem ev_rdn (dl : S) (ds : List PyData) : rd dl (.new ds) = some (.list ds) := rfl
@[simp] theorem ev_rdl (dl : S) (i : Nat) : rd dl (.loc i) = rdS dl i := rfl
@[simp] theorem ev_rdS (dl : S) (i : Nat) : rdS dl i = (match dl[i]? with
  | some (.val d) => some d
  | some (.own _ ds) => some (.list ds)
  | _ => none) := rfl
@[simp] theorem ev_nil (dl : S) : dNil dl = .ok [] dl := rfl
@[simp] theorem ev_cons (f : S → Out Rv) (g : S → Out (List Rv)) (dl : S) : dCons f g dl = (f dl).bind fun r d1 => (g d1).bind fun rs d2 => .ok (stl r :: rs) d2 := rfl
@[simp] theorem ev_stlv (d : PyData) : stl (.val d) = .val d := rfl
@[simp] theorem ev_stln (ds : List PyData) : stl (.new ds) = .val (.list ds) := rfl
@[simp] theorem ev_stll (i : Nat) : stl (.loc i) = .loc i := rfl
@[simp] theorem ev_rds0 (dl : S) : rds dl [] = some [] := rfl
@[simp] theorem ev_rds (dl : S) (r : Rv) (rs : List Rv) : rds dl (r :: rs) = (rd dl r).bind fun d => (rds dl rs).bind fun ds => some (d :: ds) := rfl
@[simp] theorem ev_B (op : List PyData → Option Rv) (f : S → Out (List Rv)) (dl : S) : dB op f dl = (f dl).bind fun rs d1 => fin ((rds d1 rs).bind op) d1 := rfl
@[simp] theorem ev_stbv (dl : S) (d : PyData) : stb dl (.val d) = some (d, dl) := rfl
@[simp] theorem ev_stbn (dl : S) (ds : List PyData) : stb dl (.new ds) = some (.list ds, dl) := rfl
@[simp] theorem ev_stbl (dl : S) (i : Nat) : stb dl (.loc i) = (match dl[i]? with
    | some (.val d) => some (d, dl)
    | some (.own false ds) => some (.list ds, dl.set i (.val (.list ds)))
    | _ => none) := rfl
@[simp] theorem ev_stbs0 (dl : S) : stbs dl [] = some ([], dl) := rfl
@[simp] theorem ev_stbs (dl : S) (r : Rv) (rs : List Rv) : stbs dl (r :: rs) = (stb dl r).bind fun x => (stbs x.2 rs).bind fun y => some (x.1 :: y.1, y.2) := rfl
@[simp] theorem ev_tup (f : S → Out (List Rv)) (dl : S) : dTup f dl = (f dl).bind fun rs d1 => mkTup (stbs d1 rs) := rfl
@[simp] theorem ev_lst (f : S → Out (List Rv)) (dl : S) : dLst f dl = (f dl).bind fun rs d1 => mkLst (stbs d1 rs) := rfl
@[simp] theorem ev_mkTup (ds : List PyData) (dl : S) : mkTup (some (ds, dl)) = if ds.length ≤ 100000 then .ok (.val (.tuple ds)) dl else .bad := rfl
@[simp] theorem ev_mkLst (ds : List PyData) (dl : S) : mkLst (some (ds, dl)) = if ds.length ≤ 100000 then .ok (.new ds) dl else .bad := rfl
@[simp] theorem ev_T (f : S → Out Rv) (dl : S) : dT f dl = (f dl).bind fun r d1 => asB (rd d1 r) d1 := rfl
@[simp] theorem ev_asB (b : Bool) (dl : S) : asB (some (.bool b)) dl = .ok b dl := rfl
@[simp] theorem ev_ch (op1 op2 : PyData → PyData → Option Rv) (f g h : S → Out Rv) (dl : S) : dCh op1 op2 f g h dl = (f dl).bind fun r1 d1 => (g d1).bind fun r2 d2 => (asB ((o2 op1 (rd d2 r1) (rd d2 r2)).bind (rd d2)) d2).bind fun c d3 =>
  if c then (h d3).bind fun r3 d4 => fin (o2 op2 (rd d4 r2) (rd d4 r3)) d4 else .ok (.val (.bool false)) d3 := rfl
@[simp] theorem ev_tAnd (f g : S → Out Bool) (dl : S) : tnAnd f g dl = (f dl).bind fun c d1 => if c then g d1 else .ok false d1 := rfl
@[simp] theorem ev_tOr (f g : S → Out Bool) (dl : S) : tnOr f g dl = (f dl).bind fun c d1 => if c then .ok true d1 else g d1 := rfl
@[simp] theorem ev_tNot (f : S → Out Bool) (dl : S) : tnNot f dl = (f dl).bind fun c d1 => .ok (!c) d1 := rfl
@[simp] theorem ev_And (f g : S → Out Rv) (dl : S) : dAnd f g dl = (dT f dl).bind fun c d1 => if c then g d1 else .ok (.val (.bool false)) d1 := rfl
@[simp] theorem ev_Or (f g : S → Out Rv) (dl : S) : dOr f g dl = (dT f dl).bind fun c d1 => if c then .ok (.val (.bool true)) d1 else g d1 := rfl
@[simp] theorem ev_Not (f : S → Out Rv) (dl : S) : dNot f dl = (dT f dl).bind fun c d1 => .ok (.val (.bool (!c))) d1 := rfl
@[simp] theorem ev_Ite (c : S → Out Bool) (f g : S → Out Rv) (dl : S) : dIte c f g dl = (c dl).bind fun b d1 => if b then f d1 else g d1 := rfl
@[simp] theorem ev_Part (f : S → Out Rv) (dl : S) : dPart f dl = (f dl).bind fun r d1 => match rd d1 r with
  | some (.int i) => .ok (some i) d1
  | _ => .bad := rfl
@[simp] theorem ev_NoPart (dl : S) : dNoPart dl = .ok none dl := rfl
@[simp] theorem ev_Sl (f : S → Out Rv) (lo hi : S → Out (Option Int)) (dl : S) : dSl f lo hi dl = (f dl).bind fun r d1 => (lo d1).bind fun l d2 => (hi d2).bind fun u d3 => fin ((rd d3 r).bind fun a => oSl a l u) d3 := rfl
@[simp] theorem ev_Seq (f g : S → Fl) (dl : S) : dSeq f g dl = (match f dl with
  | .nx d1 => g d1
  | o => o) := rfl
@[simp] theorem ev_Nx (dl : S) : dNx dl = .nx dl := rfl
@[simp] theorem ev_Do (f : S → Out Rv) (dl : S) : dDo f dl = (f dl).fl fun _ d1 => .nx d1 := rfl
@[simp] theorem ev_Ret (f : S → Out Rv) (dl : S) : dRet f dl = (f dl).fl fun r d1 => .ret r d1 := rfl
@[simp] theorem ev_If (c : S → Out Bool) (f g : S → Fl) (dl : S) : dIf c f g dl = (c dl).fl fun b d1 => if b then f d1 else g d1 := rfl
@[simp] theorem ev_putv (dl : S) (i : Nat) (d : PyData) : putR dl i (.val d) = some (dl.set i (.val d)) := rfl
@[simp] theorem ev_putn (dl : S) (i : Nat) (ds : List PyData) : putR dl i (.new ds) = some (dl.set i (.own false ds)) := rfl
@[simp] theorem ev_putl (dl : S) (i j : Nat) : putR dl i (.loc j) = (stb dl (.loc j)).map fun x => x.2.set i (.val x.1) := rfl
@[simp] theorem ev_ofO (dl : S) : ofO (some dl) = .nx dl := rfl
@[simp] theorem ev_Set (i : Nat) (f : S → Out Rv) (dl : S) : dSet i f dl = (f dl).fl fun r d1 => ofO (putR d1 i r) := rfl
@[simp] theorem ev_Aug (i : Nat) (g : Int → Int → Int) (f : S → Out Rv) (dl : S) : dAug i g f dl = (match dl[i]? with
  | some (.val (.int a)) => (f dl).fl fun r d1 => match rd d1 r with
    | some (.int b) => .nx (d1.set i (.val (.int (g a b))))
    | _ => .bad
  | _ => .bad) := rfl
@[simp] theorem ev_setAll0 (dl : S) : setAll dl [] [] = dl := rfl
@[simp] theorem ev_setAll (dl : S) (i : Nat) (is : List Nat) (d : PyData) (ds : List PyData) : setAll dl (i :: is) (d :: ds) = setAll (dl.set i (.val d)) is ds := rfl
@[simp] theorem ev_Unp (is : List Nat) (f : S → Out Rv) (dl : S) : dUnp is f dl = (f dl).fl fun r d1 => match rd d1 r with
  | some (.tuple ds) => if ds.length = is.length then .nx (setAll d1 is ds) else .bad
  | _ => .bad := rfl
@[simp] theorem ev_chg (dl : S) (i : Nat) (g : List PyData → Option (List PyData)) : chg dl i g = (match dl[i]? with
  | some (.own b ds) => (g ds).map fun ds' => dl.set i (.own b ds')
  | _ => none) := rfl
@[simp] theorem ev_isOwn (dl : S) (i : Nat) : isOwn dl i = (match dl[i]? with
  | some (.own _ _) => true
  | _ => false) := rfl
@[simp] theorem ev_app1 (d : PyData) (ds : List PyData) : app1 d ds = if ds.length < 100000 then some (ds ++ [d]) else none := rfl
@[simp] theorem ev_appR (dl : S) (i : Nat) (r : Rv) : appR dl i r = (stb dl r).bind fun x => chg x.2 i (app1 x.1) := rfl
@[simp] theorem ev_App (i : Nat) (f : S → Out Rv) (dl : S) : dApp i f dl = if isOwn dl i then (f dl).fl fun r d1 => ofO (appR d1 i r) else .bad := rfl
@[simp] theorem ev_put1 (k : Int) (d : PyData) (ds : List PyData) : put1 k d ds = (ixN ds.length k).map fun j => ds.set j d := rfl
@[simp] theorem ev_stIR (dl : S) (i : Nat) (r ri : Rv) : stIR dl i r ri = (match rd dl ri with
  | some (.int k) => (stb dl r).bind fun x => chg x.2 i (put1 k x.1)
  | _ => none) := rfl
@[simp] theorem ev_StI (i : Nat) (fi fe : S → Out Rv) (dl : S) : dStI i fi fe dl = (fe dl).fl fun r d1 => if isOwn d1 i then (fi d1).fl fun ri d2 => ofO (stIR d2 i r ri) else .bad := rfl
@[simp] theorem ev_It (f : S → Out Rv) (dl : S) : dIt f dl = (f dl).bind fun r d1 => itD (stb d1 r) := rfl
@[simp] theorem ev_itL (ds : List PyData) (dl : S) : itD (some (.list ds, dl)) = .ok ds dl := rfl
@[simp] theorem ev_itT (ds : List PyData) (dl : S) : itD (some (.tuple ds, dl)) = .ok ds dl := rfl
@[simp] theorem ev_Rng1 (f : S → Out (List Rv)) (dl : S) : dRng1 f dl = (f dl).bind fun rs d1 => rngA1 (rds d1 rs) d1 := rfl
@[simp] theorem ev_Rng2 (f : S → Out (List Rv)) (dl : S) : dRng2 f dl = (f dl).bind fun rs d1 => rngA2 (rds d1 rs) d1 := rfl
@[simp] theorem ev_rngA1 (j : Int) (dl : S) : rngA1 (some [.int j]) dl = if j ≤ 1000000 ∧ -1000000 ≤ j then .ok (rngD 0 j.toNat) dl else .bad := rfl
@[simp] theorem ev_rngA2 (i j : Int) (dl : S) : rngA2 (some [.int i, .int j]) dl = if (j ≤ 1000000 ∧ -1000000 ≤ j) ∧ (i ≤ 1000000 ∧ -1000000 ≤ i) then .ok (rngD i (j - i).toNat) dl else .bad := rfl
@[simp] theorem ev_tgN (i : Nat) (dl : S) (d : PyData) : tgN i dl d = some (dl.set i (.val d)) := rfl
@[simp] theorem ev_tgT (is : List Nat) (dl : S) (ds : List PyData) : tgT is dl (.tuple ds) = if ds.length = is.length then some (setAll dl is ds) else none := rfl
@[simp] theorem ev_For (it : S → Out (List PyData)) (put : S → PyData → Option S) (body : S → Fl) (dl : S) : dFor it put body dl = (it dl).fl fun ds d1 => forD put body ds d1 := rfl
@[simp] theorem ev_for0 (put : S → PyData → Option S) (body : S → Fl) (dl : S) : forD put body [] dl = .nx dl := rfl
@[simp] theorem ev_for1 (put : S → PyData → Option S) (body : S → Fl) (d : PyData) (ds : List PyData) (dl : S) : forD put body (d :: ds) dl = (match put dl d with
    | none => .bad
    | some d1 => match body d1 with
      | .nx d2 => forD put body ds d2
      | .cnt d2 => forD put body ds d2
      | .brk d2 => .nx d2
      | o => o) := rfl
@[simp] theorem ev_wipeD0 (dl : S) : wipeD dl [] = dl := rfl
@[simp] theorem ev_wipeD (dl : S) (v : Nat) (vs : List Nat) : wipeD dl (v :: vs) = (wipeD dl vs).set v .no := rfl
@[simp] theorem ev_restD0 (dl dl' : S) : restD dl [] dl' = dl' := rfl
@[simp] theorem ev_restD (dl dl' : S) (v : Nat) (vs : List Nat) : restD dl (v :: vs) dl' = (restD dl vs dl').set v (dl[v]?.getD .no) := rfl
@[simp] theorem ev_endC (dl : S) (vs : List Nat) (acc : List PyData) (dn : S) : endC dl vs (some (acc, dn)) = .ok (.new acc) (restD dl vs dn) := rfl
@[simp] theorem ev_Comp (it : S → Out (List PyData)) (vs : List Nat) (put : S → PyData → Option S) (c : S → Out Bool) (f : S → Out Rv) (dl : S) : dComp it vs put c f dl = (it dl).bind fun ds d1 => endC d1 vs (compD vs put c f ds (wipeD d1 vs) []) := rfl
@[simp] theorem ev_Yes (dl : S) : dYes dl = .ok true dl := rfl
@[simp] theorem ev_asEv (d : PyData) (st : List PyData) (dl : S) : asE (.val d st) dl = .ok (.val d) dl := rfl
@[simp] theorem ev_asEn (d : List PyData) (st : List PyData) (dl : S) : asE (.new d st) dl = .ok (.new d) dl := rfl
@[simp] theorem ev_callP (n : Nat) (g : Fn) (ds : List PyData) (dl : S) : callP n g (some (ds, dl)) = if ds.length = n then asE (g [] ds) dl else .bad := rfl
@[simp] theorem ev_Call (n : Nat) (g : Fn) (fa : S → Out (List Rv)) (dl : S) : dCall n g fa dl = (fa dl).bind fun rs d1 => callP n g (stbs d1 rs) := rfl
@[simp] theorem ev_stFv (d : PyData) (st : List PyData) : stF (.val d st) = st := rfl
@[simp] theorem ev_stFn (d : List PyData) (st : List PyData) : stF (.new d st) = st := rfl
@[simp] theorem ev_callI (n : Nat) (g : Fn) (i : Nat) (ds : List PyData) (d2 : S) : callI n g i (some (ds, d2)) = (match d2[i]? with
    | some (.own b st) => if ds.length + 1 = n then asE (g st ds) (d2.set i (.own b (stF (g st ds)))) else .bad
    | _ => .bad) := rfl
@[simp] theorem ev_CallI (n : Nat) (g : Fn) (i : Nat) (fr : S → Out (List Rv)) (dl : S) : dCallI n g i fr dl = if isOwn dl i then (fr dl).bind fun rs d1 => callI n g i (stbs d1 rs) else .bad := rfl
@[simp] theorem ev_mkAf (st ds : List PyData) : mkA false st ds = ds.map Sl.val := rfl
@[simp] theorem ev_mkAt (st ds : List PyData) : mkA true st ds = .own true st :: ds.map Sl.val := rfl
@[simp] theorem ev_stOf (dl : S) : stO false dl = some [] := rfl
@[simp] theorem ev_stOt (dl : S) : stO true dl = (match dl[(0 : Nat)]? with
  | some (.own true st) => some st
  | _ => none) := rfl
@[simp] theorem ev_retFv (d : PyData) (dl : S) (st : List PyData) : retF (.val d) dl st = .val d st := rfl
@[simp] theorem ev_retFn (d : List PyData) (dl : S) (st : List PyData) : retF (.new d) dl st = .new d st := rfl
@[simp] theorem ev_retFl (i : Nat) (dl : S) (st : List PyData) : retF (.loc i) dl st = (match dl[i]? with
    | some (.val d) => .val d st
    | some (.own false ds) => .new ds st
    | _ => .bad) := rfl
@[simp] theorem ev_finR (io : Bool) (r : Rv) (dl : S) : finF io (.ret r dl) = (match stO io dl with
    | some st => retF r dl st
    | none => .bad) := rfl
@[simp] theorem ev_finN (io : Bool) (dl : S) : finF io (.nx dl) = (match stO io dl with
    | some st => .val .none st
    | none => .bad) := rfl
@[simp] theorem ev_runF (io : Bool) (m n : Nat) (fb : S → Fl) (st ds : List PyData) : runF io m n fb st ds = finF io (fb (mkA io st ds ++ List.replicate (n - m) Sl.no)) := rfl
/-! operators -/
@[simp] theorem ev_vI (i : Int) : vI i = some (.val (.int i)) := rfl
@[simp] theorem ev_vB (b : Bool) : vB b = some (.val (.bool b)) := rfl
@[simp] theorem ev_oSub (i j : Int) : oSub (.int i) (.int j) = vI (i - j) := rfl
@[simp] theorem ev_oAddI (i j : Int) : oAdd (.int i) (.int j) = vI (i + j) := rfl
@[simp] theorem ev_oAddL (a b : List PyData) : oAdd (.list a) (.list b) = if a.length + b.length ≤ 100000 then some (.new (a ++ b)) else none := rfl
@[simp] theorem ev_oAddT (a b : List PyData) : oAdd (.tuple a) (.tuple b) = if a.length + b.length ≤ 100000 then some (.val (.tuple (a ++ b))) else none := rfl
@[simp] theorem ev_oAnd (i j : Int) : oAnd (.int i) (.int j) = vI (Builtin.bitAnd i j) := rfl
@[simp] theorem ev_oOr (i j : Int) : oOr (.int i) (.int j) = vI (Builtin.bitOr i j) := rfl
@[simp] theorem ev_oXor (i j : Int) : oXor (.int i) (.int j) = vI (Builtin.bitXor i j) := rfl
@[simp] theorem ev_oMod (i j : Int) : oMod (.int i) (.int j) = if 0 < j then vI (i % j) else none := by
  show (if decide (0 < j) = true then vI (i % j) else none) = _
  simp
@[simp] theorem ev_oDiv (i j : Int) : oDiv (.int i) (.int j) = if 0 < j ∧ j < 1073741824 then vI (i / j) else none := by
  show (if (decide (0 < j) && decide (j < 1073741824)) = true then vI (i / j) else none) = _
  simp
@[simp] theorem ev_oShr (i j : Int) : oShr (.int i) (.int j) = if 0 ≤ j then vI (i / 2 ^ j.toNat) else none := by
  show (if decide (0 ≤ j) = true then vI (i / 2 ^ j.toNat) else none) = _
  simp
@[simp] theorem ev_oPow (i j : Int) : oPow (.int i) (.int j) = if 0 ≤ j ∧ j ≤ 1000000 ∧ i.natAbs < 18446744073709551616 then vI (i ^ j.toNat) else none := by
  show (if (decide (0 ≤ j) && (decide (j ≤ 1000000) && decide (i.natAbs < 18446744073709551616))) = true then vI (i ^ j.toNat) else none) = _
  simp
@[simp] theorem ev_oShl (i j : Int) : oShl (.int i) (.int j) = if 0 ≤ j ∧ j ≤ 1000000 ∧ i.natAbs < 18446744073709551616 then vI (i * 2 ^ j.toNat) else none := by
  show (if (decide (0 ≤ j) && (decide (j ≤ 1000000) && decide (i.natAbs < 18446744073709551616))) = true then vI (i * 2 ^ j.toNat) else none) = _
  simp
@[simp] theorem ev_oMul (i j : Int) : oMul (.int i) (.int j) = if i.natAbs < 18446744073709551616 ∨ j.natAbs < 18446744073709551616 then vI (i * j) else none := by
  show (if (decide (i.natAbs < 18446744073709551616) || decide (j.natAbs < 18446744073709551616)) = true then vI (i * j) else none) = _
  simp
@[simp] theorem ev_oLt (i j : Int) : oLt (.int i) (.int j) = vB (decide (i < j)) := rfl
@[simp] theorem ev_oLe (i j : Int) : oLe (.int i) (.int j) = vB (decide (i ≤ j)) := rfl
@[simp] theorem ev_oGt (i j : Int) : oGt (.int i) (.int j) = vB (decide (j < i)) := rfl
@[simp] theorem ev_oGe (i j : Int) : oGe (.int i) (.int j) = vB (decide (j ≤ i)) := rfl
@[simp] theorem ev_oNeg (i : Int) : oNeg (.int i) = vI (-i) := rfl
@[simp] theorem ev_oIsN (a : PyData) : oIsN a .none = vB (isNone a) := rfl
@[simp] theorem ev_oNotN (a : PyData) : oNotN a .none = vB (!isNone a) := rfl
@[simp] theorem ev_isNone0 : isNone .none = true := rfl
@[simp] theorem ev_isNoneI (i : Int) : isNone (.int i) = false := rfl
@[simp] theorem ev_isNoneL (i : List PyData) : isNone (.list i) = false := rfl
@[simp] theorem ev_isNoneT (i : List PyData) : isNone (.tuple i) = false := rfl
@[simp] theorem ev_isNoneB (i : Bool) : isNone (.bool i) = false := rfl
@[simp] theorem ev_isNoneS (i : Str) : isNone (.str i) = false := rfl
@[simp] theorem sh_none : SeqAt.shaped .none = true := rfl
@[simp] theorem sh_bool (b : Bool) : SeqAt.shaped (.bool b) = true := rfl
@[simp] theorem sh_int (i : Int) : SeqAt.shaped (.int i) = true := by unfold SeqAt.shaped; rfl
@[simp] theorem ev_oEqI (i j : Int) : oEq (.int i) (.int j) = vB (decide (i = j)) := by
  unfold oEq
  simp [PyData.eqv]
  rfl
@[simp] theorem ev_oNeI (i j : Int) : oNe (.int i) (.int j) = vB (!decide (i = j)) := by
  unfold oNe
  simp [PyData.eqv]
  rfl
@[simp] theorem ev_oIxL (ds : List PyData) (i : Int) : oIx (.list ds) (.int i) = (atI ds i).map Rv.val := rfl
@[simp] theorem ev_oIxT (ds : List PyData) (i : Int) : oIx (.tuple ds) (.int i) = (atI ds i).map Rv.val := rfl
@[simp] theorem ev_oSlL (ds : List PyData) (lo hi : Option Int) : oSl (.list ds) lo hi = some (.new (cutD ds lo hi)) := rfl
@[simp] theorem ev_oSlT (ds : List PyData) (lo hi : Option Int) : oSl (.tuple ds) lo hi = some (.val (.tuple (cutD ds lo hi))) := rfl
@[simp] theorem ev_oRevL (ds : List PyData) : oRevL (.list ds) = some (.new ds.reverse) := rfl
@[simp] theorem ev_bLenL (ds : List PyData) : bLen [.list ds] = vI ds.length := rfl
@[simp] theorem ev_bLenT (ds : List PyData) : bLen [.tuple ds] = vI ds.length := rfl
@[simp] theorem ev_bAbs (i : Int) : bAbs [.int i] = vI (if i < 0 then -i else i) := rfl
@[simp] theorem ev_bMax2 (i j : Int) : bMax2 [.int i, .int j] = vI (if j > i then j else i) := rfl
@[simp] theorem ev_bMin2 (i j : Int) : bMin2 [.int i, .int j] = vI (if j < i then j else i) := rfl
@[simp] theorem ev_bIntI (i : Int) : bInt [.int i] = vI i := rfl
@[simp] theorem ev_bIntB (b : Bool) : bInt [.bool b] = vI (if b then 1 else 0) := rfl
@[simp] theorem ev_bListL (ds : List PyData) : bList [.list ds] = some (.new ds) := rfl
@[simp] theorem ev_bListT (ds : List PyData) : bList [.tuple ds] = some (.new ds) := rfl
@[simp] theorem ev_bTupL (ds : List PyData) : bTup [.list ds] = some (.val (.tuple ds)) := rfl
@[simp] theorem ev_bTupT (ds : List PyData) : bTup [.tuple ds] = some (.val (.tuple ds)) := rfl
@[simp] theorem ev_isiII (i : Int) : oIsi "int" (.int i) = vB true := by show (kitB (tyD (.int i)) "int").bind vB = _; rw [show kitB (tyD (.int i)) "int" = some true from (by decide +kernel : kitB "int" "int" = some true)]; rfl
@[simp] theorem ev_isiBI (i : Int) : oIsi "bool" (.int i) = vB false := by show (kitB (tyD (.int i)) "bool").bind vB = _; rw [show kitB (tyD (.int i)) "bool" = some false from (by decide +kernel : kitB "int" "bool" = some false)]; rfl
theorem isi_of {T : String} {d : PyData} {b : Bool} (h : kitB (tyD d) T = some b) (hd : isDic d = false := by rfl) : oIsi T d = vB b := by unfold oIsi; rw [hd, h]; rfl
/-! ### small things -/
theorem atI_of {A : Type} {l : List A} {i : Int} {a : A} (h0 : 0 ≤ i) (h : l[i.toNat]? = some a) : atI l i = some a := by
  have hl := lt_of_get h
  unfold atI ixN
  rw [if_pos h0, if_pos (by omega)]
  exact h
@[simp] theorem atI0 {A : Type} (a : A) (l : List A) : atI (a :: l) 0 = some a := atI_of (by decide) rfl
@[simp] theorem atI1 {A : Type} (a b : A) (l : List A) : atI (a :: b :: l) 1 = some b := atI_of (by decide) rfl
@[simp] theorem ixN0 (n : Nat) : ixN (n + 1) 0 = some 0 := by
  unfold ixN
  rw [if_pos (by decide), if_pos (by omega)]
  rfl
@[simp] theorem ixN1 (n : Nat) : ixN (n + 1 + 1) 1 = some 1 := by
  unfold ixN
  rw [if_pos (by decide), if_pos (by omega)]
  rfl
/-! ### loops -/
theorem for_inv {put : S → PyData → Option S} {body : S → Fl} : ∀ {ds : List PyData} (I : Nat → S → Prop) {n : Nat} {dl : S}, I n dl → (∀ (i : Nat) (d : PyData) (dl : S), ds[i]? = some d → I (n + i) dl → ∃ d1 d2, put dl d = some d1 ∧ (body d1 = .nx d2 ∨ body d1 = .cnt d2) ∧ I (n + i + 1) d2) →
    ∃ dl', forD put body ds dl = .nx dl' ∧ I (n + ds.length) dl'
  | [], I, n, dl, h0, _ => ⟨dl, rfl, h0⟩
  | d :: ds, I, n, dl, h0, hs => by
    obtain ⟨d1, d2, e1, e2, h1⟩ := hs 0 d dl rfl h0
    obtain ⟨dl', e3, h2⟩ := for_inv (ds := ds) I (n := n + 1) (dl := d2) h1 fun i d dl hd hi => by
      have := hs (i + 1) d dl (by simpa using hd) (by rw [show n + (i + 1) = n + 1 + i by omega]; exact hi)
      rw [show n + (i + 1) + 1 = n + 1 + i + 1 by omega] at this
      exact this
    refine ⟨dl', ?_, by rw [List.length_cons, show n + (ds.length + 1) = n + 1 + ds.length by omega]; exact h2⟩
    rw [ev_for1, e1]
    rcases e2 with e2 | e2
    · dsimp only
      rw [e2]
      exact e3
    · dsimp only
      rw [e2]
      exact e3
/-- each turn goes on, whatever the item is among ds -/
theorem for_all {put : S → PyData → Option S} {body : S → Fl} (I : S → Prop) : ∀ {ds : List PyData} {dl : S}, I dl → (∀ d dl, d ∈ ds → I dl → ∃ d1 d2, put dl d = some d1 ∧ (body d1 = .nx d2 ∨ body d1 = .cnt d2) ∧ I d2) → ∃ dl', forD put body ds dl = .nx dl' ∧ I dl'
  | [], dl, h0, _ => ⟨dl, rfl, h0⟩
  | d :: ds, dl, h0, hs => by
    obtain ⟨d1, d2, e1, e2, h1⟩ := hs d dl List.mem_cons_self h0
    obtain ⟨dl', e3, h2⟩ := for_all I (ds := ds) (dl := d2) h1 fun d dl hd hi => hs d dl (List.mem_cons_of_mem _ hd) hi
    refine ⟨dl', ?_, h2⟩
    rw [ev_for1, e1]
    rcases e2 with e2 | e2
    · dsimp only
      rw [e2]
      exact e3
    · dsimp only
      rw [e2]
      exact e3
/-- a comprehension whose turns leave the block as it is -/
theorem comp_pure {vs : List Nat} {put : S → PyData → Option S} {c : S → Out Bool} {f : S → Out Rv} {dn : S} (p : PyData → Bool) (g : PyData → PyData) : ∀ {ds acc : List PyData},
    (∀ d, d ∈ ds → ∃ d1 d2, put dn d = some d1 ∧ c d1 = .ok (p d) d2 ∧ (p d = false → wipeD d2 vs = dn) ∧ (p d = true → ∃ r d3 d4, f d2 = .ok r d3 ∧ stb d3 r = some (g d, d4) ∧ wipeD d4 vs = dn)) →
    acc.length + ds.length ≤ 100000 → compD vs put c f ds dn acc = some (acc ++ (ds.filter p).map g, dn)
  | [], acc, _, _ => by unfold compD; simp
  | d :: ds, acc, h, hl => by
    obtain ⟨d1, d2, e1, e2, h1, h2⟩ := h d List.mem_cons_self
    rw [List.length_cons] at hl
    unfold compD
    rw [e1]
    dsimp only
    rw [e2]
    cases hp : p d with
    | false =>
      dsimp only
      rw [h1 hp, comp_pure p g (fun d hd => h d (List.mem_cons_of_mem _ hd)) (by omega)]
      simp [hp]
    | true =>
      obtain ⟨r, d3, d4, e3, e4, e5⟩ := h2 hp
      dsimp only
      rw [e3]
      dsimp only
      rw [e4]
      dsimp only
      rw [if_pos (by omega), e5, comp_pure p g (fun d hd => h d (List.mem_cons_of_mem _ hd)) (by rw [List.length_append, List.length_singleton]; omega)]
      simp [hp]
/-- a comprehension without ifs whose turns change the block: R what is made, I the block -/
theorem comp_all {vs : List Nat} {put : S → PyData → Option S} {f : S → Out Rv} (I : S → Prop) (R : PyData → Prop) : ∀ {ds acc : List PyData} {dn : S}, I dn →
    (∀ d dn, d ∈ ds → I dn → ∃ d1 r d3 y d4, put dn d = some d1 ∧ f d1 = .ok r d3 ∧ stb d3 r = some (y, d4) ∧ R y ∧ I (wipeD d4 vs)) →
    acc.length + ds.length ≤ 100000 → ∃ ys dn', compD vs put dYes f ds dn acc = some (acc ++ ys, dn') ∧ I dn' ∧ ys.length = ds.length ∧ ∀ y ∈ ys, R y
  | [], acc, dn, h0, _, _ => ⟨[], dn, by unfold compD; simp, h0, rfl, fun _ h => nomatch h⟩
  | d :: ds, acc, dn, h0, h, hl => by
    obtain ⟨d1, r, d3, y, d4, e1, e2, e3, hr, hi⟩ := h d dn List.mem_cons_self h0
    rw [List.length_cons] at hl
    obtain ⟨ys, dn', e4, i4, l4, r4⟩ := comp_all I R (ds := ds) (acc := acc ++ [y]) hi (fun d dn hd => h d dn (List.mem_cons_of_mem _ hd)) (by rw [List.length_append, List.length_singleton]; omega)
    refine ⟨y :: ys, dn', ?_, i4, by rw [List.length_cons, List.length_cons, l4], fun z hz => ?_⟩
    · unfold compD
      rw [e1]
      dsimp only
      rw [ev_Yes]
      dsimp only
      rw [e2]
      dsimp only
      rw [e3]
      dsimp only
      rw [if_pos (by omega), e4, List.append_assoc]
      rfl
    · rcases List.mem_cons.mp hz with e | hz
      · rw [e]; exact hr
      · exact r4 z hz
theorem mem_rng {lo : Int} {n : Nat} {d : PyData} (h : d ∈ rngD lo n) : ∃ k : Nat, k < n ∧ d = .int (lo + (k : Int)) := by
  unfold rngD at h
  obtain ⟨k, hk, e⟩ := List.mem_map.mp h
  exact ⟨k, List.mem_range.mp hk, e.symm⟩
/-! ### bits -/
theorem bitAnd_nat (a b : Nat) : Builtin.bitAnd (a : Int) (b : Int) = ((a &&& b : Nat) : Int) := by
  unfold Builtin.bitAnd
  simp
theorem bitOr_nat (a b : Nat) : Builtin.bitOr (a : Int) (b : Int) = ((a ||| b : Nat) : Int) := by
  unfold Builtin.bitOr Builtin.bitAnd Builtin.bitNot
  have h1 : ¬ (0 ≤ -(a : Int) - 1) := by omega
  have h2 : ¬ (0 ≤ -(b : Int) - 1) := by omega
  simp only [h1, h2, decide_false]
  have e1 : (-(-(a : Int) - 1) - 1).toNat = a := by omega
  have e2 : (-(-(b : Int) - 1) - 1).toNat = b := by omega
  rw [e1, e2]
  omega
theorem shr_nat (a s : Nat) : (a : Int) / 2 ^ s = ((a / 2 ^ s : Nat) : Int) := by
  rw [Int.natCast_ediv]
  norm_cast
theorem bit_nat (a s : Nat) : (Builtin.bitAnd ((a : Int) / 2 ^ s) 1 = 1) ↔ a.testBit s = true := by
  rw [shr_nat, show (1 : Int) = ((1 : Nat) : Int) from rfl, bitAnd_nat, Nat.testBit_eq_decide_div_mod_eq, decide_eq_true_eq, Nat.and_one_is_mod]
  omega
/-- a whole number as data; some of them -/
abbrev nI (n : Nat) : PyData := .int (n : Int)
/-! ### data without depth -/
def flatD : PyData → Bool
  | .none | .bool _ | .int _ => true
  | _ => false
theorem flat_lay : ∀ {ds : List PyData}, ds.all flatD = true → PyData.canLayAll0 ds = true ∧ PyData.depthAll ds ≤ 1
  | [], _ => ⟨by simp [PyData.canLayAll0], by simp [PyData.depthAll]⟩
  | d :: ds, h => by
    rw [List.all_cons, Bool.and_eq_true] at h
    obtain ⟨h1, h2⟩ := flat_lay h.2
    cases d <;> first | (simp [flatD] at h; done) | exact ⟨by simp [PyData.canLayAll0, PyData.canLay0, h1], by simp [PyData.depthAll, PyData.depth]; omega⟩
theorem sh_list {ds : List PyData} (h : ds.all flatD = true) : SeqAt.shaped (.list ds) = true := by
  obtain ⟨h1, h2⟩ := flat_lay h
  unfold SeqAt.shaped
  rw [Bool.and_eq_true, decide_eq_true_eq]
  exact ⟨by simp [PyData.canLay0, h1], by simp [PyData.depth]; omega⟩
theorem sh_tuple {ds : List PyData} (h : ds.all flatD = true) : SeqAt.shaped (.tuple ds) = true := by
  obtain ⟨h1, h2⟩ := flat_lay h
  unfold SeqAt.shaped
  rw [Bool.and_eq_true, decide_eq_true_eq]
  exact ⟨by simp [PyData.canLay0, h1], by simp [PyData.depth]; omega⟩
@[simp] theorem flat_nats (cs : List Nat) : (cs.map nI).all flatD = true := by
  rw [List.all_eq_true]
  intro d hd
  obtain ⟨n, _, rfl⟩ := List.mem_map.mp hd
  rfl
@[simp] theorem flat_ints (cs : List Int) : (cs.map PyData.int).all flatD = true := by
  rw [List.all_eq_true]
  intro d hd
  obtain ⟨n, _, rfl⟩ := List.mem_map.mp hd
  rfl
theorem eqv_nats : ∀ (a b : List Nat), PyData.eqvAll (a.map nI) (b.map nI) = decide (a = b)
  | [], [] => rfl
  | [], _ :: _ => rfl
  | _ :: _, [] => rfl
  | x :: a, y :: b => by
    show (PyData.eqv (nI x) (nI y) && PyData.eqvAll (a.map nI) (b.map nI)) = _
    rw [eqv_nats a b]
    by_cases h : x = y
    · subst h; simp [PyData.eqv]
    · have : ¬ ((x : Int) = (y : Int)) := by omega
      simp [PyData.eqv, h, this]
theorem oNe_nats (a b : List Nat) : oNe (.list (a.map nI)) (.list (b.map nI)) = vB (!decide (a = b)) := by
  unfold oNe
  rw [sh_list (flat_nats a), sh_list (flat_nats b)]
  show vB (!PyData.eqvAll (a.map nI) (b.map nI)) = _
  rw [eqv_nats]
theorem oEq_nats (a b : List Nat) : oEq (.list (a.map nI)) (.list (b.map nI)) = vB (decide (a = b)) := by
  unfold oEq
  rw [sh_list (flat_nats a), sh_list (flat_nats b)]
  show vB (PyData.eqvAll (a.map nI) (b.map nI)) = _
  rw [eqv_nats]
end DL

namespace DL
open PySem L2
theorem seq_nx {f g : S → Fl} {dl d1 : S} {r : Fl} (h : f dl = .nx d1) (h2 : g d1 = r) : dSeq f g dl = r := by rw [ev_Seq, h]; exact h2
theorem seq_ret {f g : S → Fl} {dl d1 : S} {v : Rv} (h : f dl = .ret v d1) : dSeq f g dl = .ret v d1 := by rw [ev_Seq, h]
@[simp] theorem slSc_own (b : Bool) (ds : List PyData) : slSc (.own b ds) = ds.all isSc := rfl
@[simp] theorem slSc_val (d : PyData) : slSc (.val d) = true := rfl
@[simp] theorem slSc_no : slSc .no = true := rfl
theorem bor_own {i : Nat} {f : S → Out Rv} {dl : S} {ds : List PyData} {r : Rv} (h : dl[i]? = some (.own false ds)) (hf : f (dl.set i (.val (.list ds))) = .ok r (dl.set i (.val (.list ds)))) (hs : dl.all slSc = true) (hr : rvSc r = true) : dBor i f dl = .ok r dl := by
  unfold dBor
  rw [h]
  dsimp only
  rw [hf, bind_ok, if_pos ⟨rfl, hs, hr⟩]
theorem bor_val {i : Nat} {f : S → Out Rv} {dl : S} {d : PyData} (h : dl[i]? = some (.val d)) : dBor i f dl = f dl := by
  unfold dBor
  rw [h]
theorem sc_nats (cs : List Nat) : (cs.map nI).all isSc = true := by
  rw [List.all_eq_true]
  intro d hd
  obtain ⟨c, _, rfl⟩ := List.mem_map.mp hd
  rfl
theorem comp_any {vs : List Nat} {put : S → PyData → Option S} {c : S → Out Bool} {f : S → Out Rv} (I : S → Prop) (R : PyData → Prop) : ∀ {ds acc : List PyData} {dn : S}, I dn →
    (∀ d dn, d ∈ ds → I dn → ∃ d1 b d2, put dn d = some d1 ∧ c d1 = .ok b d2 ∧ (b = false → I (wipeD d2 vs)) ∧ (b = true → ∃ r d3 y d4, f d2 = .ok r d3 ∧ stb d3 r = some (y, d4) ∧ R y ∧ I (wipeD d4 vs))) →
    acc.length + ds.length ≤ 100000 → ∃ ys dn', compD vs put c f ds dn acc = some (acc ++ ys, dn') ∧ I dn' ∧ ys.length ≤ ds.length ∧ ∀ y ∈ ys, R y
  | [], acc, dn, h0, _, _ => ⟨[], dn, by unfold compD; simp, h0, Nat.le_refl _, fun _ h => nomatch h⟩
  | d :: ds, acc, dn, h0, h, hl => by
    obtain ⟨d1, b, d2, e1, e2, h1, h2⟩ := h d dn List.mem_cons_self h0
    rw [List.length_cons] at hl
    cases b with
    | false =>
      obtain ⟨ys, dn', e4, i4, l4, r4⟩ := comp_any I R (ds := ds) (acc := acc) (h1 rfl) (fun d dn hd => h d dn (List.mem_cons_of_mem _ hd)) (by omega)
      refine ⟨ys, dn', ?_, i4, by rw [List.length_cons]; omega, r4⟩
      unfold compD
      rw [e1]
      dsimp only
      rw [e2]
      exact e4
    | true =>
      obtain ⟨r, d3, y, d4, e3, e5, hr, hi⟩ := h2 rfl
      obtain ⟨ys, dn', e4, i4, l4, r4⟩ := comp_any I R (ds := ds) (acc := acc ++ [y]) hi (fun d dn hd => h d dn (List.mem_cons_of_mem _ hd)) (by rw [List.length_append, List.length_singleton]; omega)
      refine ⟨y :: ys, dn', ?_, i4, by rw [List.length_cons, List.length_cons]; omega, fun z hz => ?_⟩
      · unfold compD
        rw [e1]
        dsimp only
        rw [e2]
        dsimp only
        rw [e3]
        dsimp only
        rw [e5]
        dsimp only
        rw [if_pos (by omega), e4, List.append_assoc]
        rfl
      · rcases List.mem_cons.mp hz with e | hz
        · rw [e]; exact hr
        · exact r4 z hz
theorem allB_rep {b : Bool} : ∀ {ds : List PyData}, (∀ d ∈ ds, d = .bool b) → allB ds = some (List.replicate ds.length b)
  | [], _ => rfl
  | d :: ds, h => by
    have h1 := h d List.mem_cons_self
    subst h1
    have h2 := allB_rep (ds := ds) fun d hd => h d (List.mem_cons_of_mem _ hd)
    unfold allB
    rw [h2]
    rfl
theorem bAll_true {ds : List PyData} (h : ∀ d ∈ ds, d = .bool true) : bAll [.list ds] = vB true := by
  show (allB ds).bind _ = _
  rw [allB_rep h]
  show vB ((List.replicate ds.length true).all id) = _
  congr 1
  rw [List.all_eq_true]
  intro x hx
  rw [(List.mem_replicate.mp hx).2]
  rfl
theorem bAny_false {ds : List PyData} (h : ∀ d ∈ ds, d = .bool false) : bAny [.list ds] = vB false := by
  show (allB ds).bind _ = _
  rw [allB_rep h]
  show vB ((List.replicate ds.length false).any id) = _
  congr 1
  rw [List.any_eq_false]
  intro x hx
  rw [(List.mem_replicate.mp hx).2]
  decide
theorem allI_int : ∀ ns : List Int, allI (ns.map PyData.int) = some ns
  | [] => rfl
  | n :: ns => by
    rw [List.map_cons]
    unfold allI
    rw [allI_int ns]
    rfl
theorem bSum_int (ns : List Int) : bSum [.list (ns.map PyData.int)] = vI ns.sum := by
  show (allI _).bind _ = _
  rw [allI_int]
  rfl
theorem all_int : ∀ {ys : List PyData}, (∀ y ∈ ys, ∃ i : Int, y = .int i) → ∃ ns : List Int, ys = ns.map PyData.int
  | [], _ => ⟨[], rfl⟩
  | y :: ys, h => by
    obtain ⟨ns, rfl⟩ := all_int (ys := ys) fun y hy => h y (List.mem_cons_of_mem _ hy)
    obtain ⟨c, rfl⟩ := h y List.mem_cons_self
    exact ⟨c :: ns, rfl⟩
theorem all_nat : ∀ {ys : List PyData} (P : Nat → Prop), (∀ y ∈ ys, ∃ c : Nat, P c ∧ y = nI c) → ∃ cs : List Nat, ys = cs.map nI ∧ ∀ c ∈ cs, P c
  | [], _, _ => ⟨[], rfl, fun _ h => nomatch h⟩
  | y :: ys, P, h => by
    obtain ⟨cs, rfl, h2⟩ := all_nat (ys := ys) P fun y hy => h y (List.mem_cons_of_mem _ hy)
    obtain ⟨c, hc, rfl⟩ := h y List.mem_cons_self
    refine ⟨c :: cs, rfl, fun c' hc' => ?_⟩
    rcases List.mem_cons.mp hc' with e | e
    · rw [e]; exact hc
    · exact h2 c' e
/-! a table's cells -/
def cell : Option Nat → PyData
  | none => .none
  | some c => nI c
@[simp] theorem cell0 : cell none = .none := rfl
@[simp] theorem cell1 (c : Nat) : cell (some c) = .int (c : Int) := rfl
theorem all_cell : ∀ {ys : List PyData} (P : Nat → Prop), (∀ y ∈ ys, y = .none ∨ ∃ c : Nat, P c ∧ y = nI c) → ∃ t : List (Option Nat), ys = t.map cell ∧ ∀ c, some c ∈ t → P c
  | [], _, _ => ⟨[], rfl, fun _ h => nomatch h⟩
  | y :: ys, P, h => by
    obtain ⟨cs, rfl, h2⟩ := all_cell (ys := ys) P fun y hy => h y (List.mem_cons_of_mem _ hy)
    rcases h y List.mem_cons_self with rfl | ⟨c, hc, rfl⟩
    · refine ⟨none :: cs, rfl, fun c' hc' => ?_⟩
      rcases List.mem_cons.mp hc' with e | e
      · cases e
      · exact h2 c' e
    · refine ⟨some c :: cs, rfl, fun c' hc' => ?_⟩
      rcases List.mem_cons.mp hc' with e | e
      · cases e; exact hc
      · exact h2 c' e
theorem eqv_cell (x : Option Nat) (c : Nat) : PyData.eqv (cell x) (nI c) = decide (x = some c) := by
  cases x with
  | none => rfl
  | some d =>
    show PyData.eqv (.int _) (.int _) = _
    unfold PyData.eqv
    by_cases h : d = c
    · subst h; simp
    · have : ¬ ((d : Int) = (c : Int)) := by omega
      simp [h, this]
theorem sc_cells (t : List (Option Nat)) : (t.map cell).all isSc = true := by
  rw [List.all_eq_true]
  intro d hd
  obtain ⟨x, _, rfl⟩ := List.mem_map.mp hd
  cases x <;> rfl
theorem any_cells (c : Nat) : ∀ t : List (Option Nat), ((t.map cell).any fun y => PyData.eqv y (nI c)) = decide (some c ∈ t)
  | [] => rfl
  | x :: t => by
    rw [List.map_cons, List.any_cons, eqv_cell, any_cells c t]
    rw [Bool.eq_iff_iff]
    simp
    rw [eq_comm]
theorem oIn_cells (c : Nat) (t : List (Option Nat)) : oIn false (nI c) (.tuple (t.map cell)) = vB (decide (some c ∈ t)) := by
  unfold oIn items
  dsimp only
  rw [sc_cells, any_cells]
  rfl
@[simp] theorem ev_isiTT (ds : List PyData) : oIsi "tuple" (.tuple ds) = vB true := isi_of (by rw [show tyD (.tuple ds) = "tuple" from rfl]; decide +kernel)
@[simp] theorem ev_isiLL (ds : List PyData) : oIsi "list" (.list ds) = vB true := isi_of (by rw [show tyD (.list ds) = "list" from rfl]; decide +kernel)
@[simp] theorem sh_cell (x : Option Nat) : SeqAt.shaped (cell x) = true := by cases x <;> simp
theorem oEq_cell (x : Option Nat) (c : Nat) : oEq (cell x) (nI c) = vB (decide (x = some c)) := by
  unfold oEq
  rw [sh_cell, sh_int, eqv_cell]
  rfl
theorem rng_at {n i : Nat} (h : i < n) : (rngD 0 n)[i]? = some (nI i) := by
  unfold rngD
  rw [List.getElem?_map, List.getElem?_range h]
  simp
theorem mem_rng0 {n : Nat} {d : PyData} (h : d ∈ rngD 0 n) : ∃ k : Nat, k < n ∧ d = nI k := by
  obtain ⟨k, hk, rfl⟩ := mem_rng h
  exact ⟨k, hk, by rw [Int.zero_add]⟩
theorem rng_nats (n : Nat) : rngD 0 n = (List.range n).map nI := by
  unfold rngD
  apply List.map_congr_left
  intro k _
  rw [Int.zero_add]
end DL

namespace DL
open PySem L2
/-! ### evaluation by simp only, value first: each step's rest is told by a first-order name -/


def seqO : Fl → (S → Fl) → Fl
  | .nx d1, g => g d1
  | o, _ => o
theorem w_Seq (f g : S → Fl) (dl : S) : dSeq f g dl = seqO (f dl) g := by
  rw [ev_Seq]
  cases f dl <;> rfl
theorem w_seqN (dl : S) (g : S → Fl) : seqO (.nx dl) g = g dl := rfl
theorem w_seqR (r : Rv) (dl : S) (g : S → Fl) : seqO (.ret r dl) g = .ret r dl := rfl
theorem w_seqC (dl : S) (g : S → Fl) : seqO (.cnt dl) g = .cnt dl := rfl
theorem w_seqB (dl : S) (g : S → Fl) : seqO (.brk dl) g = .brk dl := rfl
theorem w_seqX (c : Str) (dl : S) (g : S → Fl) : seqO (.ex c dl) g = .ex c dl := rfl
def iteF (b : Bool) (f g : S → Fl) (d : S) : Fl := if b then f d else g d
def iteO {A : Type} (b : Bool) (f g : S → Out A) (d : S) : Out A := if b then f d else g d
theorem iteF_t (f g : S → Fl) (d : S) : iteF true f g d = f d := rfl
theorem iteF_f (f g : S → Fl) (d : S) : iteF false f g d = g d := rfl
theorem iteO_t {A : Type} (f g : S → Out A) (d : S) : iteO true f g d = f d := rfl
theorem iteO_f {A : Type} (f g : S → Out A) (d : S) : iteO false f g d = g d := rfl
def KoB (b : Bool) (d : S) : Out Rv := .ok (.val (.bool b)) d
def KtB (b : Bool) (d : S) : Out Bool := .ok b d
def KBad (d : S) : Fl := .bad
def KBadO (d : S) : Out Rv := .bad
theorem KoB_ (b : Bool) (d : S) : KoB b d = .ok (.val (.bool b)) d := rfl
theorem KtB_ (b : Bool) (d : S) : KtB b d = .ok b d := rfl
/-- slots by place -/
theorem sg0_ {A : Type} (a : A) (l : List A) : (a :: l)[(0 : Nat)]? = some a := rfl
theorem sgS_ {A : Type} (a : A) (l : List A) (n : Nat) : (a :: l)[n + 1]? = l[n]? := rfl
def vr (i : Nat) (o : Option Sl) (dl : S) : Out Rv := match o with
  | some (.val d) => .ok (.val d) dl
  | some (.own _ _) => .ok (.loc i) dl
  | _ => .bad
theorem w_var (i : Nat) (dl : S) : dVar i dl = vr i dl[i]? dl := by
  rw [ev_var]
  unfold vr
  rfl
theorem vr_v (i : Nat) (d : PyData) (dl : S) : vr i (some (.val d)) dl = .ok (.val d) dl := rfl
theorem vr_o (i : Nat) (b : Bool) (ds : List PyData) (dl : S) : vr i (some (.own b ds)) dl = .ok (.loc i) dl := rfl
def rdO : Option Sl → Option PyData
  | some (.val d) => some d
  | some (.own _ ds) => some (.list ds)
  | _ => none
theorem w_rdS (dl : S) (i : Nat) : rdS dl i = rdO dl[i]? := by
  unfold rdS rdO
  rfl
theorem rdO_v (d : PyData) : rdO (some (.val d)) = some d := rfl
theorem rdO_o (b : Bool) (ds : List PyData) : rdO (some (.own b ds)) = some (.list ds) := rfl
def stO1 (i : Nat) (o : Option Sl) (dl : S) : Option (PyData × S) := match o with
    | some (.val d) => some (d, dl)
    | some (.own false ds) => some (.list ds, dl.set i (.val (.list ds)))
    | _ => none
theorem w_stb (dl : S) (i : Nat) : stb dl (.loc i) = stO1 i dl[i]? dl := by
  unfold stO1
  rfl
theorem stO1_v (i : Nat) (d : PyData) (dl : S) : stO1 i (some (.val d)) dl = some (d, dl) := rfl
theorem stO1_o (i : Nat) (ds : List PyData) (dl : S) : stO1 i (some (.own false ds)) dl = some (.list ds, dl.set i (.val (.list ds))) := rfl
theorem ob_s {A B : Type} (a : A) (f : A → Option B) : (some a).bind f = f a := rfl
def isOwnO : Option Sl → Bool
  | some (.own _ _) => true
  | _ => false
theorem w_isOwn (dl : S) (i : Nat) : isOwn dl i = isOwnO dl[i]? := by
  unfold isOwn isOwnO
  rfl
theorem isOwnO_o (b : Bool) (ds : List PyData) : isOwnO (some (.own b ds)) = true := rfl

def K1 (op : PyData → Option Rv) (o : Out Rv) : Out Rv := o.bind fun r d => fin (o1 op (rd d r)) d
theorem K1_ (op : PyData → Option Rv) (r : Rv) (d : S) : K1 op (.ok r d) = fin (o1 op (rd d r)) d := rfl
theorem K1_x (op : PyData → Option Rv) (cx : Str) (d : S) : K1 op (.ex cx d) = .ex cx d := rfl
theorem w_1 (op : PyData → Option Rv) (f : S → Out Rv) (dl : S) : d1 op f dl = K1 op (f dl) := rfl
def K2b (op : PyData → PyData → Option Rv) (r1 : Rv) (o : Out Rv) : Out Rv := o.bind fun r d => fin (o2 op (rd d r1) (rd d r)) d
theorem K2b_ (op : PyData → PyData → Option Rv) (r1 : Rv) (r : Rv) (d : S) : K2b op r1 (.ok r d) = fin (o2 op (rd d r1) (rd d r)) d := rfl
theorem K2b_x (op : PyData → PyData → Option Rv) (r1 : Rv) (cx : Str) (d : S) : K2b op r1 (.ex cx d) = .ex cx d := rfl
def K2 (op : PyData → PyData → Option Rv) (g : S → Out Rv) (o : Out Rv) : Out Rv := o.bind fun r d => K2b op r (g d)
theorem K2_ (op : PyData → PyData → Option Rv) (g : S → Out Rv) (r : Rv) (d : S) : K2 op g (.ok r d) = K2b op r (g d) := rfl
theorem K2_x (op : PyData → PyData → Option Rv) (g : S → Out Rv) (cx : Str) (d : S) : K2 op g (.ex cx d) = .ex cx d := rfl
theorem w_2 (op : PyData → PyData → Option Rv) (f : S → Out Rv) (g : S → Out Rv) (dl : S) : d2 op f g dl = K2 op g (f dl) := rfl
def Kc2 (r : Rv) (o : Out (List Rv)) : Out (List Rv) := o.bind fun rs d => .ok (r :: rs) d
theorem Kc2_ (r : Rv) (rs : List Rv) (d : S) : Kc2 r (.ok rs d) = .ok (r :: rs) d := rfl
theorem Kc2_x (r : Rv) (cx : Str) (d : S) : Kc2 r (.ex cx d) = .ex cx d := rfl
def Kc (g : S → Out (List Rv)) (o : Out Rv) : Out (List Rv) := o.bind fun r d => Kc2 (stl r) (g d)
theorem Kc_ (g : S → Out (List Rv)) (r : Rv) (d : S) : Kc g (.ok r d) = Kc2 (stl r) (g d) := rfl
theorem Kc_x (g : S → Out (List Rv)) (cx : Str) (d : S) : Kc g (.ex cx d) = .ex cx d := rfl
theorem w_cons (f : S → Out Rv) (g : S → Out (List Rv)) (dl : S) : dCons f g dl = Kc g (f dl) := rfl
def KB (op : List PyData → Option Rv) (o : Out (List Rv)) : Out Rv := o.bind fun rs d => fin ((rds d rs).bind op) d
theorem KB_ (op : List PyData → Option Rv) (rs : List Rv) (d : S) : KB op (.ok rs d) = fin ((rds d rs).bind op) d := rfl
theorem KB_x (op : List PyData → Option Rv) (cx : Str) (d : S) : KB op (.ex cx d) = .ex cx d := rfl
theorem w_B (op : List PyData → Option Rv) (f : S → Out (List Rv)) (dl : S) : dB op f dl = KB op (f dl) := rfl
def Ktup  (o : Out (List Rv)) : Out Rv := o.bind fun rs d => mkTup (stbs d rs)
theorem Ktup_  (rs : List Rv) (d : S) : Ktup  (.ok rs d) = mkTup (stbs d rs) := rfl
theorem Ktup_x  (cx : Str) (d : S) : Ktup  (.ex cx d) = .ex cx d := rfl
theorem w_tup (f : S → Out (List Rv)) (dl : S) : dTup f dl = Ktup (f dl) := rfl
def Klst  (o : Out (List Rv)) : Out Rv := o.bind fun rs d => mkLst (stbs d rs)
theorem Klst_  (rs : List Rv) (d : S) : Klst  (.ok rs d) = mkLst (stbs d rs) := rfl
theorem Klst_x  (cx : Str) (d : S) : Klst  (.ex cx d) = .ex cx d := rfl
theorem w_lst (f : S → Out (List Rv)) (dl : S) : dLst f dl = Klst (f dl) := rfl
def KT  (o : Out Rv) : Out Bool := o.bind fun r d => asB (rd d r) d
theorem KT_  (r : Rv) (d : S) : KT  (.ok r d) = asB (rd d r) d := rfl
theorem KT_x  (cx : Str) (d : S) : KT  (.ex cx d) = .ex cx d := rfl
theorem w_T (f : S → Out Rv) (dl : S) : dT f dl = KT (f dl) := rfl
def KtAnd (g : S → Out Bool) (o : Out Bool) : Out Bool := o.bind fun c d => iteO c g (KtB false) d
theorem KtAnd_ (g : S → Out Bool) (c : Bool) (d : S) : KtAnd g (.ok c d) = iteO c g (KtB false) d := rfl
theorem KtAnd_x (g : S → Out Bool) (cx : Str) (d : S) : KtAnd g (.ex cx d) = .ex cx d := rfl
theorem w_tAnd (f : S → Out Bool) (g : S → Out Bool) (dl : S) : tnAnd f g dl = KtAnd g (f dl) := rfl
def KtOr (g : S → Out Bool) (o : Out Bool) : Out Bool := o.bind fun c d => iteO c (KtB true) g d
theorem KtOr_ (g : S → Out Bool) (c : Bool) (d : S) : KtOr g (.ok c d) = iteO c (KtB true) g d := rfl
theorem KtOr_x (g : S → Out Bool) (cx : Str) (d : S) : KtOr g (.ex cx d) = .ex cx d := rfl
theorem w_tOr (f : S → Out Bool) (g : S → Out Bool) (dl : S) : tnOr f g dl = KtOr g (f dl) := rfl
def KtNot  (o : Out Bool) : Out Bool := o.bind fun c d => .ok (!c) d
theorem KtNot_  (c : Bool) (d : S) : KtNot  (.ok c d) = .ok (!c) d := rfl
theorem KtNot_x  (cx : Str) (d : S) : KtNot  (.ex cx d) = .ex cx d := rfl
theorem w_tNot (f : S → Out Bool) (dl : S) : tnNot f dl = KtNot (f dl) := rfl
def KAnd (g : S → Out Rv) (o : Out Bool) : Out Rv := o.bind fun c d => iteO c g (KoB false) d
theorem KAnd_ (g : S → Out Rv) (c : Bool) (d : S) : KAnd g (.ok c d) = iteO c g (KoB false) d := rfl
theorem KAnd_x (g : S → Out Rv) (cx : Str) (d : S) : KAnd g (.ex cx d) = .ex cx d := rfl
theorem w_And (f : S → Out Rv) (g : S → Out Rv) (dl : S) : dAnd f g dl = KAnd g (dT f dl) := rfl
def KOr (g : S → Out Rv) (o : Out Bool) : Out Rv := o.bind fun c d => iteO c (KoB true) g d
theorem KOr_ (g : S → Out Rv) (c : Bool) (d : S) : KOr g (.ok c d) = iteO c (KoB true) g d := rfl
theorem KOr_x (g : S → Out Rv) (cx : Str) (d : S) : KOr g (.ex cx d) = .ex cx d := rfl
theorem w_Or (f : S → Out Rv) (g : S → Out Rv) (dl : S) : dOr f g dl = KOr g (dT f dl) := rfl
def KNot  (o : Out Bool) : Out Rv := o.bind fun c d => .ok (.val (.bool (!c))) d
theorem KNot_  (c : Bool) (d : S) : KNot  (.ok c d) = .ok (.val (.bool (!c))) d := rfl
theorem KNot_x  (cx : Str) (d : S) : KNot  (.ex cx d) = .ex cx d := rfl
theorem w_Not (f : S → Out Rv) (dl : S) : dNot f dl = KNot (dT f dl) := rfl
def KIte (f : S → Out Rv) (g : S → Out Rv) (o : Out Bool) : Out Rv := o.bind fun c d => iteO c f g d
theorem KIte_ (f : S → Out Rv) (g : S → Out Rv) (c : Bool) (d : S) : KIte f g (.ok c d) = iteO c f g d := rfl
theorem KIte_x (f : S → Out Rv) (g : S → Out Rv) (cx : Str) (d : S) : KIte f g (.ex cx d) = .ex cx d := rfl
theorem w_Ite (c : S → Out Bool) (f : S → Out Rv) (g : S → Out Rv) (dl : S) : dIte c f g dl = KIte f g (c dl) := rfl
def Kch4 (op : PyData → PyData → Option Rv) (r2 : Rv) (o : Out Rv) : Out Rv := o.bind fun r d => fin (o2 op (rd d r2) (rd d r)) d
theorem Kch4_ (op : PyData → PyData → Option Rv) (r2 : Rv) (r : Rv) (d : S) : Kch4 op r2 (.ok r d) = fin (o2 op (rd d r2) (rd d r)) d := rfl
theorem Kch4_x (op : PyData → PyData → Option Rv) (r2 : Rv) (cx : Str) (d : S) : Kch4 op r2 (.ex cx d) = .ex cx d := rfl
def Kch3f (op : PyData → PyData → Option Rv) (h : S → Out Rv) (r2 : Rv) (d : S) : Out Rv := Kch4 op r2 (h d)
theorem Kch3f_ (op : PyData → PyData → Option Rv) (h : S → Out Rv) (r2 : Rv) (d : S) : Kch3f op h r2 d = Kch4 op r2 (h d) := rfl
def Kch3 (op : PyData → PyData → Option Rv) (h : S → Out Rv) (r2 : Rv) (o : Out Bool) : Out Rv := o.bind fun c d => iteO c (Kch3f op h r2) (KoB false) d
theorem Kch3_ (op : PyData → PyData → Option Rv) (h : S → Out Rv) (r2 : Rv) (c : Bool) (d : S) : Kch3 op h r2 (.ok c d) = iteO c (Kch3f op h r2) (KoB false) d := rfl
theorem Kch3_x (op : PyData → PyData → Option Rv) (h : S → Out Rv) (r2 : Rv) (cx : Str) (d : S) : Kch3 op h r2 (.ex cx d) = .ex cx d := rfl
def Kch2 (op1 : PyData → PyData → Option Rv) (op2 : PyData → PyData → Option Rv) (h : S → Out Rv) (r1 : Rv) (o : Out Rv) : Out Rv := o.bind fun r d => Kch3 op2 h r (asB ((o2 op1 (rd d r1) (rd d r)).bind (rd d)) d)
theorem Kch2_ (op1 : PyData → PyData → Option Rv) (op2 : PyData → PyData → Option Rv) (h : S → Out Rv) (r1 : Rv) (r : Rv) (d : S) : Kch2 op1 op2 h r1 (.ok r d) = Kch3 op2 h r (asB ((o2 op1 (rd d r1) (rd d r)).bind (rd d)) d) := rfl
theorem Kch2_x (op1 : PyData → PyData → Option Rv) (op2 : PyData → PyData → Option Rv) (h : S → Out Rv) (r1 : Rv) (cx : Str) (d : S) : Kch2 op1 op2 h r1 (.ex cx d) = .ex cx d := rfl
def Kch (op1 : PyData → PyData → Option Rv) (op2 : PyData → PyData → Option Rv) (g : S → Out Rv) (h : S → Out Rv) (o : Out Rv) : Out Rv := o.bind fun r d => Kch2 op1 op2 h r (g d)
theorem Kch_ (op1 : PyData → PyData → Option Rv) (op2 : PyData → PyData → Option Rv) (g : S → Out Rv) (h : S → Out Rv) (r : Rv) (d : S) : Kch op1 op2 g h (.ok r d) = Kch2 op1 op2 h r (g d) := rfl
theorem Kch_x (op1 : PyData → PyData → Option Rv) (op2 : PyData → PyData → Option Rv) (g : S → Out Rv) (h : S → Out Rv) (cx : Str) (d : S) : Kch op1 op2 g h (.ex cx d) = .ex cx d := rfl
theorem w_ch (op1 : PyData → PyData → Option Rv) (op2 : PyData → PyData → Option Rv) (f : S → Out Rv) (g : S → Out Rv) (h : S → Out Rv) (dl : S) : dCh op1 op2 f g h dl = Kch op1 op2 g h (f dl) := rfl
def partO (d1 : S) : Option PyData → Out (Option Int)
  | some (.int i) => .ok (some i) d1
  | _ => .bad
theorem partO_i (d1 : S) (i : Int) : partO d1 (some (.int i)) = .ok (some i) d1 := rfl
def KPart  (o : Out Rv) : Out (Option Int) := o.bind fun r d => partO d (rd d r)
theorem KPart_  (r : Rv) (d : S) : KPart  (.ok r d) = partO d (rd d r) := rfl
theorem KPart_x  (cx : Str) (d : S) : KPart  (.ex cx d) = .ex cx d := rfl
theorem w_Part (f : S → Out Rv) (dl : S) : dPart f dl = KPart (f dl) := by unfold dPart KPart partO; rfl
def slO (l u : Option Int) : Option PyData → Option Rv
  | some a => oSl a l u
  | none => none
theorem slO_ (l u : Option Int) (a : PyData) : slO l u (some a) = oSl a l u := rfl
def KSl3 (r : Rv) (l : Option Int) (o : Out (Option Int)) : Out Rv := o.bind fun u d => fin (slO l u (rd d r)) d
theorem KSl3_ (r : Rv) (l : Option Int) (u : Option Int) (d : S) : KSl3 r l (.ok u d) = fin (slO l u (rd d r)) d := rfl
theorem KSl3_x (r : Rv) (l : Option Int) (cx : Str) (d : S) : KSl3 r l (.ex cx d) = .ex cx d := rfl
def KSl2 (hi : S → Out (Option Int)) (r : Rv) (o : Out (Option Int)) : Out Rv := o.bind fun l d => KSl3 r l (hi d)
theorem KSl2_ (hi : S → Out (Option Int)) (r : Rv) (l : Option Int) (d : S) : KSl2 hi r (.ok l d) = KSl3 r l (hi d) := rfl
theorem KSl2_x (hi : S → Out (Option Int)) (r : Rv) (cx : Str) (d : S) : KSl2 hi r (.ex cx d) = .ex cx d := rfl
def KSl (lo : S → Out (Option Int)) (hi : S → Out (Option Int)) (o : Out Rv) : Out Rv := o.bind fun r d => KSl2 hi r (lo d)
theorem KSl_ (lo : S → Out (Option Int)) (hi : S → Out (Option Int)) (r : Rv) (d : S) : KSl lo hi (.ok r d) = KSl2 hi r (lo d) := rfl
theorem KSl_x (lo : S → Out (Option Int)) (hi : S → Out (Option Int)) (cx : Str) (d : S) : KSl lo hi (.ex cx d) = .ex cx d := rfl
theorem w_Sl (f : S → Out Rv) (lo : S → Out (Option Int)) (hi : S → Out (Option Int)) (dl : S) : dSl f lo hi dl = KSl lo hi (f dl) := by unfold dSl KSl KSl2 KSl3 slO; congr; funext r d1; congr; funext l d2; congr; funext u d3; cases rd d3 r <;> rfl
def KDo  (o : Out Rv) : Fl := o.fl fun r d => .nx d
theorem KDo_  (r : Rv) (d : S) : KDo  (.ok r d) = .nx d := rfl
theorem KDo_x  (cx : Str) (d : S) : KDo  (.ex cx d) = .ex cx d := rfl
theorem w_Do (f : S → Out Rv) (dl : S) : dDo f dl = KDo (f dl) := rfl
def KRet  (o : Out Rv) : Fl := o.fl fun r d => .ret r d
theorem KRet_  (r : Rv) (d : S) : KRet  (.ok r d) = .ret r d := rfl
theorem KRet_x  (cx : Str) (d : S) : KRet  (.ex cx d) = .ex cx d := rfl
theorem w_Ret (f : S → Out Rv) (dl : S) : dRet f dl = KRet (f dl) := rfl
def KIf (f : S → Fl) (g : S → Fl) (o : Out Bool) : Fl := o.fl fun c d => iteF c f g d
theorem KIf_ (f : S → Fl) (g : S → Fl) (c : Bool) (d : S) : KIf f g (.ok c d) = iteF c f g d := rfl
theorem KIf_x (f : S → Fl) (g : S → Fl) (cx : Str) (d : S) : KIf f g (.ex cx d) = .ex cx d := rfl
theorem w_If (c : S → Out Bool) (f : S → Fl) (g : S → Fl) (dl : S) : dIf c f g dl = KIf f g (c dl) := rfl
def putK (i : Nat) : Option (PyData × S) → Option S
  | some (d, d1) => some (d1.set i (.val d))
  | none => none
theorem putK_ (i : Nat) (d : PyData) (d1 : S) : putK i (some (d, d1)) = some (d1.set i (.val d)) := rfl
theorem w_putl (dl : S) (i j : Nat) : putR dl i (.loc j) = putK i (stb dl (.loc j)) := by
  rw [ev_putl]; cases stb dl (.loc j) <;> rfl
def KSet (i : Nat) (o : Out Rv) : Fl := o.fl fun r d => ofO (putR d i r)
theorem KSet_ (i : Nat) (r : Rv) (d : S) : KSet i (.ok r d) = ofO (putR d i r) := rfl
theorem KSet_x (i : Nat) (cx : Str) (d : S) : KSet i (.ex cx d) = .ex cx d := rfl
theorem w_Set (i : Nat) (f : S → Out Rv) (dl : S) : dSet i f dl = KSet i (f dl) := rfl
def augR (i : Nat) (g : Int → Int → Int) (a : Int) (d1 : S) : Option PyData → Fl
  | some (.int b) => .nx (d1.set i (.val (.int (g a b))))
  | _ => .bad
theorem augR_i (i : Nat) (g : Int → Int → Int) (a b : Int) (d1 : S) : augR i g a d1 (some (.int b)) = .nx (d1.set i (.val (.int (g a b)))) := rfl
def KAug (i : Nat) (g : Int → Int → Int) (a : Int) (o : Out Rv) : Fl := o.fl fun r d => augR i g a d (rd d r)
theorem KAug_ (i : Nat) (g : Int → Int → Int) (a : Int) (r : Rv) (d : S) : KAug i g a (.ok r d) = augR i g a d (rd d r) := rfl
theorem KAug_x (i : Nat) (g : Int → Int → Int) (a : Int) (cx : Str) (d : S) : KAug i g a (.ex cx d) = .ex cx d := rfl
def augO (i : Nat) (g : Int → Int → Int) (f : S → Out Rv) (dl : S) : Option Sl → Fl
  | some (.val (.int a)) => KAug i g a (f dl)
  | _ => .bad
theorem w_Aug (i : Nat) (g : Int → Int → Int) (f : S → Out Rv) (dl : S) : dAug i g f dl = augO i g f dl dl[i]? := by
  unfold augO KAug augR
  rfl
theorem augO_i (i : Nat) (g : Int → Int → Int) (f : S → Out Rv) (dl : S) (a : Int) : augO i g f dl (some (.val (.int a))) = KAug i g a (f dl) := rfl
def unpO (is : List Nat) (d1 : S) : Option PyData → Fl
  | some (.tuple ds) => if ds.length = is.length then .nx (setAll d1 is ds) else .bad
  | _ => .bad
theorem unpO_2 (i j : Nat) (d1 : S) (a b : PyData) : unpO [i, j] d1 (some (.tuple [a, b])) = .nx ((d1.set i (.val a)).set j (.val b)) := rfl
theorem unpO_3 (i j k : Nat) (d1 : S) (a b c : PyData) : unpO [i, j, k] d1 (some (.tuple [a, b, c])) = .nx (((d1.set i (.val a)).set j (.val b)).set k (.val c)) := rfl
theorem w_tg2 (i j : Nat) (d1 : S) (a b : PyData) : tgT [i, j] d1 (.tuple [a, b]) = some ((d1.set i (.val a)).set j (.val b)) := rfl
theorem w_tg3 (i j k : Nat) (d1 : S) (a b c : PyData) : tgT [i, j, k] d1 (.tuple [a, b, c]) = some (((d1.set i (.val a)).set j (.val b)).set k (.val c)) := rfl
def KUnp (is : List Nat) (o : Out Rv) : Fl := o.fl fun r d => unpO is d (rd d r)
theorem KUnp_ (is : List Nat) (r : Rv) (d : S) : KUnp is (.ok r d) = unpO is d (rd d r) := rfl
theorem KUnp_x (is : List Nat) (cx : Str) (d : S) : KUnp is (.ex cx d) = .ex cx d := rfl
theorem w_Unp (is : List Nat) (f : S → Out Rv) (dl : S) : dUnp is f dl = KUnp is (f dl) := by unfold dUnp KUnp unpO; rfl
def chgK (dl : S) (i : Nat) (b : Bool) : Option (List PyData) → Option S
  | some ds => some (dl.set i (.own b ds))
  | none => none
theorem chgK_ (dl : S) (i : Nat) (b : Bool) (ds : List PyData) : chgK dl i b (some ds) = some (dl.set i (.own b ds)) := rfl
def chgO (dl : S) (i : Nat) (g : List PyData → Option (List PyData)) : Option Sl → Option S
  | some (.own b ds) => chgK dl i b (g ds)
  | _ => none
theorem w_chg (dl : S) (i : Nat) (g : List PyData → Option (List PyData)) : chg dl i g = chgO dl i g dl[i]? := by
  unfold chg chgO
  generalize dl[i]? = o
  cases o with
  | none => rfl
  | some s =>
    cases s with
    | no => rfl
    | val d => rfl
    | big m => rfl
    | own b ds =>
      show (g ds).map _ = chgK dl i b (g ds)
      cases g ds <;> rfl
theorem chgO_o (dl : S) (i : Nat) (g : List PyData → Option (List PyData)) (b : Bool) (ds : List PyData) : chgO dl i g (some (.own b ds)) = chgK dl i b (g ds) := rfl
def appK (i : Nat) : Option (PyData × S) → Option S
  | some (d, d1) => chg d1 i (app1 d)
  | none => none
theorem appK_ (i : Nat) (d : PyData) (d1 : S) : appK i (some (d, d1)) = chg d1 i (app1 d) := rfl
theorem w_appR (dl : S) (i : Nat) (r : Rv) : appR dl i r = appK i (stb dl r) := by
  unfold appR appK; cases stb dl r <;> rfl
theorem w_app1 {d : PyData} {ds : List PyData} (h : ds.length < 100000) : app1 d ds = some (ds ++ [d]) := by rw [ev_app1, if_pos h]
def KApp (i : Nat) (o : Out Rv) : Fl := o.fl fun r d => ofO (appR d i r)
theorem KApp_ (i : Nat) (r : Rv) (d : S) : KApp i (.ok r d) = ofO (appR d i r) := rfl
theorem KApp_x (i : Nat) (cx : Str) (d : S) : KApp i (.ex cx d) = .ex cx d := rfl
def KApp0 (i : Nat) (f : S → Out Rv) (dl : S) : Fl := KApp i (f dl)
theorem KApp0_ (i : Nat) (f : S → Out Rv) (dl : S) : KApp0 i f dl = KApp i (f dl) := rfl
theorem w_App (i : Nat) (f : S → Out Rv) (dl : S) : dApp i f dl = iteF (isOwn dl i) (KApp0 i f) KBad dl := rfl
def stIK (i : Nat) (k : Int) : Option (PyData × S) → Option S
  | some (d, d1) => chg d1 i (put1 k d)
  | none => none
theorem stIK_ (i : Nat) (k : Int) (d : PyData) (d1 : S) : stIK i k (some (d, d1)) = chg d1 i (put1 k d) := rfl
def stIO (dl : S) (i : Nat) (r : Rv) : Option PyData → Option S
  | some (.int k) => stIK i k (stb dl r)
  | _ => none
theorem w_stIR (dl : S) (i : Nat) (r ri : Rv) : stIR dl i r ri = stIO dl i r (rd dl ri) := by
  unfold stIR stIO
  generalize rd dl ri = o
  cases o with
  | none => rfl
  | some d =>
    cases d <;> try rfl
    rename_i k
    show (stb dl r).bind _ = stIK i k (stb dl r)
    cases stb dl r <;> rfl
theorem stIO_i (dl : S) (i : Nat) (r : Rv) (k : Int) : stIO dl i r (some (.int k)) = stIK i k (stb dl r) := rfl
theorem w_put1 {k : Nat} {d : PyData} {ds : List PyData} (h : k < ds.length) : put1 (k : Int) d ds = some (ds.set k d) := by
  unfold put1 ixN
  rw [if_pos (by omega), if_pos (by omega), Int.toNat_natCast]
  rfl
def KStI2 (i : Nat) (r : Rv) (o : Out Rv) : Fl := o.fl fun ri d => ofO (stIR d i r ri)
theorem KStI2_ (i : Nat) (r : Rv) (ri : Rv) (d : S) : KStI2 i r (.ok ri d) = ofO (stIR d i r ri) := rfl
theorem KStI2_x (i : Nat) (r : Rv) (cx : Str) (d : S) : KStI2 i r (.ex cx d) = .ex cx d := rfl
def KStI1 (i : Nat) (fi : S → Out Rv) (r : Rv) (d : S) : Fl := KStI2 i r (fi d)
theorem KStI1_ (i : Nat) (fi : S → Out Rv) (r : Rv) (d : S) : KStI1 i fi r d = KStI2 i r (fi d) := rfl
def KStI (i : Nat) (fi : S → Out Rv) (o : Out Rv) : Fl := o.fl fun r d => iteF (isOwn d i) (KStI1 i fi r) KBad d
theorem KStI_ (i : Nat) (fi : S → Out Rv) (r : Rv) (d : S) : KStI i fi (.ok r d) = iteF (isOwn d i) (KStI1 i fi r) KBad d := rfl
theorem KStI_x (i : Nat) (fi : S → Out Rv) (cx : Str) (d : S) : KStI i fi (.ex cx d) = .ex cx d := rfl
theorem w_StI (i : Nat) (fi : S → Out Rv) (fe : S → Out Rv) (dl : S) : dStI i fi fe dl = KStI i fi (fe dl) := rfl
def KIt  (o : Out Rv) : Out (List PyData) := o.bind fun r d => itD (stb d r)
theorem KIt_  (r : Rv) (d : S) : KIt  (.ok r d) = itD (stb d r) := rfl
theorem KIt_x  (cx : Str) (d : S) : KIt  (.ex cx d) = .ex cx d := rfl
theorem w_It (f : S → Out Rv) (dl : S) : dIt f dl = KIt (f dl) := rfl
def KRng1  (o : Out (List Rv)) : Out (List PyData) := o.bind fun rs d => rngA1 (rds d rs) d
theorem KRng1_  (rs : List Rv) (d : S) : KRng1  (.ok rs d) = rngA1 (rds d rs) d := rfl
theorem KRng1_x  (cx : Str) (d : S) : KRng1  (.ex cx d) = .ex cx d := rfl
theorem w_Rng1 (f : S → Out (List Rv)) (dl : S) : dRng1 f dl = KRng1 (f dl) := rfl
def KRng2  (o : Out (List Rv)) : Out (List PyData) := o.bind fun rs d => rngA2 (rds d rs) d
theorem KRng2_  (rs : List Rv) (d : S) : KRng2  (.ok rs d) = rngA2 (rds d rs) d := rfl
theorem KRng2_x  (cx : Str) (d : S) : KRng2  (.ex cx d) = .ex cx d := rfl
theorem w_Rng2 (f : S → Out (List Rv)) (dl : S) : dRng2 f dl = KRng2 (f dl) := rfl
def it2O (g : List PyData → List PyData → List PyData) : Option (List PyData × S) → Out (List PyData)
  | some ([.list a, .list b], d2) => .ok (g a b) d2
  | _ => .bad
theorem it2O_ (g : List PyData → List PyData → List PyData) (a b : List PyData) (d2 : S) : it2O g (some ([.list a, .list b], d2)) = .ok (g a b) d2 := rfl
def it1O (g : List PyData → List PyData) : Option (List PyData × S) → Out (List PyData)
  | some ([.list a], d2) => .ok (g a) d2
  | _ => .bad
theorem it1O_ (g : List PyData → List PyData) (a : List PyData) (d2 : S) : it1O g (some ([.list a], d2)) = .ok (g a) d2 := rfl
def KIt2 (g : List PyData → List PyData → List PyData) (o : Out (List Rv)) : Out (List PyData) := o.bind fun rs d => it2O g (stbs d rs)
theorem KIt2_ (g : List PyData → List PyData → List PyData) (rs : List Rv) (d : S) : KIt2 g (.ok rs d) = it2O g (stbs d rs) := rfl
theorem KIt2_x (g : List PyData → List PyData → List PyData) (cx : Str) (d : S) : KIt2 g (.ex cx d) = .ex cx d := rfl
theorem w_It2 (g : List PyData → List PyData → List PyData) (f : S → Out (List Rv)) (dl : S) : dIt2 g f dl = KIt2 g (f dl) := by unfold dIt2 KIt2 it2O; rfl
def KIt1 (g : List PyData → List PyData) (o : Out (List Rv)) : Out (List PyData) := o.bind fun rs d => it1O g (stbs d rs)
theorem KIt1_ (g : List PyData → List PyData) (rs : List Rv) (d : S) : KIt1 g (.ok rs d) = it1O g (stbs d rs) := rfl
theorem KIt1_x (g : List PyData → List PyData) (cx : Str) (d : S) : KIt1 g (.ex cx d) = .ex cx d := rfl
theorem w_It1 (g : List PyData → List PyData) (f : S → Out (List Rv)) (dl : S) : dIt1 g f dl = KIt1 g (f dl) := by unfold dIt1 KIt1 it1O; rfl
def KFor (put : S → PyData → Option S) (body : S → Fl) (o : Out (List PyData)) : Fl := o.fl fun ds d => forD put body ds d
theorem KFor_ (put : S → PyData → Option S) (body : S → Fl) (ds : List PyData) (d : S) : KFor put body (.ok ds d) = forD put body ds d := rfl
theorem KFor_x (put : S → PyData → Option S) (body : S → Fl) (cx : Str) (d : S) : KFor put body (.ex cx d) = .ex cx d := rfl
theorem w_For (it : S → Out (List PyData)) (put : S → PyData → Option S) (body : S → Fl) (dl : S) : dFor it put body dl = KFor put body (it dl) := rfl
def KComp (vs : List Nat) (put : S → PyData → Option S) (c : S → Out Bool) (f : S → Out Rv) (o : Out (List PyData)) : Out Rv := o.bind fun ds d => endC d vs (compD vs put c f ds (wipeD d vs) [])
theorem KComp_ (vs : List Nat) (put : S → PyData → Option S) (c : S → Out Bool) (f : S → Out Rv) (ds : List PyData) (d : S) : KComp vs put c f (.ok ds d) = endC d vs (compD vs put c f ds (wipeD d vs) []) := rfl
theorem KComp_x (vs : List Nat) (put : S → PyData → Option S) (c : S → Out Bool) (f : S → Out Rv) (cx : Str) (d : S) : KComp vs put c f (.ex cx d) = .ex cx d := rfl
theorem w_Comp (it : S → Out (List PyData)) (vs : List Nat) (put : S → PyData → Option S) (c : S → Out Bool) (f : S → Out Rv) (dl : S) : dComp it vs put c f dl = KComp vs put c f (it dl) := rfl
def KCall (n : Nat) (g : Fn) (o : Out (List Rv)) : Out Rv := o.bind fun rs d => callP n g (stbs d rs)
theorem KCall_ (n : Nat) (g : Fn) (rs : List Rv) (d : S) : KCall n g (.ok rs d) = callP n g (stbs d rs) := rfl
theorem KCall_x (n : Nat) (g : Fn) (cx : Str) (d : S) : KCall n g (.ex cx d) = .ex cx d := rfl
theorem w_Call (n : Nat) (g : Fn) (fa : S → Out (List Rv)) (dl : S) : dCall n g fa dl = KCall n g (fa dl) := rfl
def KCallI (n : Nat) (g : Fn) (i : Nat) (o : Out (List Rv)) : Out Rv := o.bind fun rs d => callI n g i (stbs d rs)
theorem KCallI_ (n : Nat) (g : Fn) (i : Nat) (rs : List Rv) (d : S) : KCallI n g i (.ok rs d) = callI n g i (stbs d rs) := rfl
theorem KCallI_x (n : Nat) (g : Fn) (i : Nat) (cx : Str) (d : S) : KCallI n g i (.ex cx d) = .ex cx d := rfl
def KCallI0 (n : Nat) (g : Fn) (i : Nat) (fr : S → Out (List Rv)) (dl : S) : Out Rv := KCallI n g i (fr dl)
theorem KCallI0_ (n : Nat) (g : Fn) (i : Nat) (fr : S → Out (List Rv)) (dl : S) : KCallI0 n g i fr dl = KCallI n g i (fr dl) := rfl
theorem w_CallI (n : Nat) (g : Fn) (i : Nat) (fr : S → Out (List Rv)) (dl : S) : dCallI n g i fr dl = iteO (isOwn dl i) (KCallI0 n g i fr) KBadO dl := rfl
theorem w_mkTup {ds : List PyData} {dl : S} (h : ds.length ≤ 100000) : mkTup (some (ds, dl)) = .ok (.val (.tuple ds)) dl := by rw [ev_mkTup, if_pos h]
theorem w_mkLst {ds : List PyData} {dl : S} (h : ds.length ≤ 100000) : mkLst (some (ds, dl)) = .ok (.new ds) dl := by rw [ev_mkLst, if_pos h]
def rdsK2 (d : PyData) : Option (List PyData) → Option (List PyData)
  | some ds => some (d :: ds)
  | none => none
theorem rdsK2_ (d : PyData) (ds : List PyData) : rdsK2 d (some ds) = some (d :: ds) := rfl
def rdsK (dl : S) (rs : List Rv) : Option PyData → Option (List PyData)
  | some d => rdsK2 d (rds dl rs)
  | none => none
theorem rdsK_ (dl : S) (rs : List Rv) (d : PyData) : rdsK dl rs (some d) = rdsK2 d (rds dl rs) := rfl
theorem w_rds (dl : S) (r : Rv) (rs : List Rv) : rds dl (r :: rs) = rdsK dl rs (rd dl r) := by
  rw [ev_rds]; unfold rdsK rdsK2
  cases rd dl r with
  | none => rfl
  | some d => dsimp only [Option.bind_some]; cases rds dl rs <;> rfl
def stbsK2 (d : PyData) : Option (List PyData × S) → Option (List PyData × S)
  | some (ds, d2) => some (d :: ds, d2)
  | none => none
theorem stbsK2_ (d : PyData) (ds : List PyData) (d2 : S) : stbsK2 d (some (ds, d2)) = some (d :: ds, d2) := rfl
def stbsK (rs : List Rv) : Option (PyData × S) → Option (List PyData × S)
  | some (d, d1) => stbsK2 d (stbs d1 rs)
  | none => none
theorem stbsK_ (rs : List Rv) (d : PyData) (d1 : S) : stbsK rs (some (d, d1)) = stbsK2 d (stbs d1 rs) := rfl
theorem w_stbs (dl : S) (r : Rv) (rs : List Rv) : stbs dl (r :: rs) = stbsK rs (stb dl r) := by
  rw [ev_stbs]; unfold stbsK stbsK2
  cases stb dl r with
  | none => rfl
  | some d => dsimp only [Option.bind_some]; cases stbs d.2 rs <;> rfl
theorem cP0 (g : Fn) (dl : S) : callP 0 g (some ([], dl)) = asE (g [] []) dl := rfl
theorem cP1 (g : Fn) (a : PyData) (dl : S) : callP 1 g (some ([a], dl)) = asE (g [] [a]) dl := rfl
theorem cP2 (g : Fn) (a b : PyData) (dl : S) : callP 2 g (some ([a, b], dl)) = asE (g [] [a, b]) dl := rfl
theorem cP3 (g : Fn) (a b c : PyData) (dl : S) : callP 3 g (some ([a, b, c], dl)) = asE (g [] [a, b, c]) dl := rfl
theorem cP4 (g : Fn) (a b c d : PyData) (dl : S) : callP 4 g (some ([a, b, c, d], dl)) = asE (g [] [a, b, c, d]) dl := rfl
theorem cP5 (g : Fn) (a b c d e : PyData) (dl : S) : callP 5 g (some ([a, b, c, d, e], dl)) = asE (g [] [a, b, c, d, e]) dl := rfl
theorem cP6 (g : Fn) (a b c d e f : PyData) (dl : S) : callP 6 g (some ([a, b, c, d, e, f], dl)) = asE (g [] [a, b, c, d, e, f]) dl := rfl
theorem cP7 (g : Fn) (a b c d e f h : PyData) (dl : S) : callP 7 g (some ([a, b, c, d, e, f, h], dl)) = asE (g [] [a, b, c, d, e, f, h]) dl := rfl
def cIO (g : Fn) (i : Nat) (ds : List PyData) (d2 : S) : Option Sl → Out Rv
  | some (.own b st) => asE (g st ds) (d2.set i (.own b (stF (g st ds))))
  | _ => .bad
theorem cIO_o (g : Fn) (i : Nat) (ds : List PyData) (d2 : S) (b : Bool) (st : List PyData) : cIO g i ds d2 (some (.own b st)) = asE (g st ds) (d2.set i (.own b (stF (g st ds)))) := rfl
theorem cI1 (g : Fn) (j : Nat) (d2 : S) : callI 1 g j (some ([], d2)) = cIO g j [] d2 d2[j]? := by
  unfold callI cIO; rfl
theorem cI2 (g : Fn) (j : Nat) (a : PyData) (d2 : S) : callI 2 g j (some ([a], d2)) = cIO g j [a] d2 d2[j]? := by
  unfold callI cIO; rfl
theorem cI3 (g : Fn) (j : Nat) (a b : PyData) (d2 : S) : callI 3 g j (some ([a, b], d2)) = cIO g j [a, b] d2 d2[j]? := by
  unfold callI cIO; rfl
theorem cI4 (g : Fn) (j : Nat) (a b c : PyData) (d2 : S) : callI 4 g j (some ([a, b, c], d2)) = cIO g j [a, b, c] d2 d2[j]? := by
  unfold callI cIO; rfl
theorem cI5 (g : Fn) (j : Nat) (a b c d : PyData) (d2 : S) : callI 5 g j (some ([a, b, c, d], d2)) = cIO g j [a, b, c, d] d2 d2[j]? := by
  unfold callI cIO; rfl
theorem cI6 (g : Fn) (j : Nat) (a b c d e : PyData) (d2 : S) : callI 6 g j (some ([a, b, c, d, e], d2)) = cIO g j [a, b, c, d, e] d2 d2[j]? := by
  unfold callI cIO; rfl
theorem cI7 (g : Fn) (j : Nat) (a b c d e f : PyData) (d2 : S) : callI 7 g j (some ([a, b, c, d, e, f], d2)) = cIO g j [a, b, c, d, e, f] d2 d2[j]? := by
  unfold callI cIO; rfl
def stOO : Option Sl → Option (List PyData)
  | some (.own true st) => some st
  | _ => none
theorem w_stOt (dl : S) : stO true dl = stOO dl[(0 : Nat)]? := by
  unfold stO stOO
  rfl
theorem stOO_o (st : List PyData) : stOO (some (.own true st)) = some st := rfl
def retO (st : List PyData) : Option Sl → Fo
    | some (.val d) => .val d st
    | some (.own false ds) => .new ds st
    | _ => .bad
theorem w_retFl (i : Nat) (dl : S) (st : List PyData) : retF (.loc i) dl st = retO st dl[i]? := by
  unfold retF retO
  rfl
theorem retO_v (st : List PyData) (d : PyData) : retO st (some (.val d)) = .val d st := rfl
theorem retO_o (st ds : List PyData) : retO st (some (.own false ds)) = .new ds st := rfl
def finO (r : Rv) (dl : S) : Option (List PyData) → Fo
  | some st => retF r dl st
  | none => .bad
theorem w_finR (io : Bool) (r : Rv) (dl : S) : finF io (.ret r dl) = finO r dl (stO io dl) := by
  unfold finF finO
  rfl
theorem w_finN (io : Bool) (dl : S) : finF io (.nx dl) = finO (.val .none) dl (stO io dl) := by
  rw [ev_finN]
  cases stO io dl <;> rfl
theorem finO_s (r : Rv) (dl : S) (st : List PyData) : finO r dl (some st) = retF r dl st := rfl
theorem w_runF (io : Bool) (m n : Nat) (fb : S → Fl) (st ds : List PyData) : runF io m n fb st ds = finF io (fb (mkA io st ds ++ List.replicate (n - m) Sl.no)) := rfl
theorem rp0 : List.replicate 0 Sl.no = [] := rfl
theorem rpS (n : Nat) : List.replicate (n + 1) Sl.no = .no :: List.replicate n .no := rfl
theorem asE_x (c : Str) (st : List PyData) (dl : S) : asE (.ex c st) dl = .ex c dl := rfl
theorem stF_x (c : Str) (st : List PyData) : stF (.ex c st) = st := rfl
def finX (c : Str) : Option (List PyData) → Fo
  | some st => .ex c st
  | none => .bad
theorem finX_s (c : Str) (st : List PyData) : finX c (some st) = .ex c st := rfl
theorem w_finX (io : Bool) (c : Str) (dl : S) : finF io (.ex c dl) = finX c (stO io dl) := by
  show (match stO io dl with | some st => Fo.ex c st | none => Fo.bad) = _
  cases stO io dl <;> rfl
end DL

namespace DL
open PySem L2
/-! ### typed operators -/
abbrev vN (n : Nat) : Option Rv := some (.val (nI n))
theorem n_add (a b : Nat) : oAdd (nI a) (nI b) = vN (a + b) := by
  show vI ((a : Int) + (b : Int)) = _
  rw [← Int.natCast_add]; rfl
theorem n_sub {a b : Nat} (h : b ≤ a) : oSub (nI a) (nI b) = vN (a - b) := by
  show vI ((a : Int) - (b : Int)) = _
  rw [← Int.ofNat_sub h]; rfl
theorem n_mul {a b : Nat} (h : a < 18446744073709551616 ∨ b < 18446744073709551616) : oMul (nI a) (nI b) = vN (a * b) := by
  rw [ev_oMul, if_pos (by omega), ← Int.natCast_mul]; rfl
theorem n_mod {a b : Nat} (h : 0 < b) : oMod (nI a) (nI b) = vN (a % b) := by
  rw [ev_oMod, if_pos (by omega), ← Int.natCast_emod]; rfl
theorem n_div {a b : Nat} (h : 0 < b ∧ b < 1073741824) : oDiv (nI a) (nI b) = vN (a / b) := by
  rw [ev_oDiv, if_pos (by omega), ← Int.natCast_ediv]; rfl
theorem n_shl {a b : Nat} (h : b ≤ 1000000 ∧ a < 18446744073709551616) : oShl (nI a) (nI b) = vN (a * 2 ^ b) := by
  rw [ev_oShl, if_pos (by omega), Int.toNat_natCast]
  show some (Rv.val (PyData.int _)) = some (Rv.val (PyData.int _))
  rw [Int.natCast_mul, Int.natCast_pow]; rfl
theorem n_shl1 {b : Nat} (h : b ≤ 1000000) : oShl (nI 1) (nI b) = vN (2 ^ b) := by
  rw [n_shl ⟨h, by decide⟩, Nat.one_mul]
theorem n_shr (a b : Nat) : oShr (nI a) (nI b) = vN (a / 2 ^ b) := by
  rw [ev_oShr, if_pos (by omega), Int.toNat_natCast, shr_nat]; rfl
theorem n_pow {a b : Nat} (h : b ≤ 1000000 ∧ a < 18446744073709551616) : oPow (nI a) (nI b) = vN (a ^ b) := by
  rw [ev_oPow, if_pos (by omega), Int.toNat_natCast, ← Int.natCast_pow]; rfl
theorem n_and (a b : Nat) : oAnd (nI a) (nI b) = vN (a &&& b) := by
  rw [ev_oAnd, bitAnd_nat]; rfl
theorem n_or (a b : Nat) : oOr (nI a) (nI b) = vN (a ||| b) := by
  rw [ev_oOr, bitOr_nat]; rfl
theorem xor_and_or : ∀ (n a b : Nat), a ≤ n → (a ^^^ b) + (a &&& b) = a ||| b
  | 0, a, b, h => by
    have : a = 0 := by omega
    subst this
    simp
  | n + 1, a, b, h => by
    by_cases h0 : a = 0
    · subst h0; simp
    · have ih := xor_and_or n (a / 2) (b / 2) (by omega)
      rw [← Nat.xor_div_two, ← Nat.and_div_two, ← Nat.or_div_two] at ih
      have m1 := Nat.xor_mod_two_pow (a := a) (b := b) (n := 1)
      have m2 := Nat.and_mod_two_pow (a := a) (b := b) (n := 1)
      have m3 := Nat.or_mod_two_pow (a := a) (b := b) (n := 1)
      have ha := Nat.mod_two_eq_zero_or_one a
      have hb := Nat.mod_two_eq_zero_or_one b
      rw [Nat.pow_one] at m1 m2 m3
      rcases ha with ha | ha <;> rcases hb with hb | hb <;> rw [ha, hb] at m1 m2 m3 <;> simp only [show (0 ^^^ 0 : Nat) = 0 from rfl, show (0 ^^^ 1 : Nat) = 1 from rfl, show (1 ^^^ 0 : Nat) = 1 from rfl, show (1 ^^^ 1 : Nat) = 0 from rfl, show (0 &&& 0 : Nat) = 0 from rfl, show (0 &&& 1 : Nat) = 0 from rfl, show (1 &&& 0 : Nat) = 0 from rfl, show (1 &&& 1 : Nat) = 1 from rfl, show (0 ||| 0 : Nat) = 0 from rfl, show (0 ||| 1 : Nat) = 1 from rfl, show (1 ||| 0 : Nat) = 1 from rfl, show (1 ||| 1 : Nat) = 1 from rfl] at m1 m2 m3 <;> omega
theorem bitXor_nat (a b : Nat) : Builtin.bitXor (a : Int) (b : Int) = ((a ^^^ b : Nat) : Int) := by
  unfold Builtin.bitXor
  rw [bitOr_nat, bitAnd_nat]
  have := xor_and_or a a b (Nat.le_refl _)
  omega
theorem n_xor (a b : Nat) : oXor (nI a) (nI b) = vN (a ^^^ b) := by
  rw [ev_oXor, bitXor_nat]; rfl
theorem n_lt (a b : Nat) : oLt (nI a) (nI b) = vB (decide (a < b)) := by
  rw [ev_oLt]; congr 1; exact decide_eq_decide.mpr Int.ofNat_lt
theorem n_le (a b : Nat) : oLe (nI a) (nI b) = vB (decide (a ≤ b)) := by
  rw [ev_oLe]; congr 1; exact decide_eq_decide.mpr Int.ofNat_le
theorem n_gt (a b : Nat) : oGt (nI a) (nI b) = vB (decide (b < a)) := by
  rw [ev_oGt]; congr 1; exact decide_eq_decide.mpr Int.ofNat_lt
theorem n_ge (a b : Nat) : oGe (nI a) (nI b) = vB (decide (b ≤ a)) := by
  rw [ev_oGe]; congr 1; exact decide_eq_decide.mpr Int.ofNat_le
theorem n_eq (a b : Nat) : oEq (nI a) (nI b) = vB (decide (a = b)) := by
  rw [ev_oEqI]; congr 1; exact decide_eq_decide.mpr (by omega)
theorem n_ne (a b : Nat) : oNe (nI a) (nI b) = vB (!decide (a = b)) := by
  rw [ev_oNeI]; congr 2; exact decide_eq_decide.mpr (by omega)
theorem bt1 (a s : Nat) : decide ((a / 2 ^ s) &&& 1 = 1) = a.testBit s := by
  rw [Nat.testBit_eq_decide_div_mod_eq, Nat.and_one_is_mod]
theorem bt0 (a s : Nat) : decide ((a / 2 ^ s) &&& 1 = 0) = !a.testBit s := by
  rw [Nat.testBit_eq_decide_div_mod_eq, Nat.and_one_is_mod]
  have := Nat.mod_two_eq_zero_or_one (a / 2 ^ s)
  rcases this with h | h <;> simp [h]
theorem d_ltT {a b : Nat} (h : a < b) : decide (a < b) = true := decide_eq_true h
theorem d_ltF {a b : Nat} (h : b ≤ a) : decide (a < b) = false := decide_eq_false (by omega)
theorem d_leT {a b : Nat} (h : a ≤ b) : decide (a ≤ b) = true := decide_eq_true h
theorem d_leF {a b : Nat} (h : b < a) : decide (a ≤ b) = false := decide_eq_false (by omega)
theorem d_eqT {a b : Nat} (h : a = b) : decide (a = b) = true := decide_eq_true h
theorem d_eqF {a b : Nat} (h : a ≠ b) : decide (a = b) = false := decide_eq_false h
/-! cells -/
theorem c_eq (x : Option Nat) (c : Nat) : oEq (cell x) (nI c) = vB (decide (x = some c)) := oEq_cell x c
theorem c_ne (x : Option Nat) (c : Nat) : oNe (cell x) (nI c) = vB (!decide (x = some c)) := by
  unfold oNe
  rw [sh_cell, sh_int, eqv_cell]
  rfl
theorem eqv_cells (x y : Option Nat) : PyData.eqv (cell x) (cell y) = decide (x = y) := by
  cases y with
  | some d => exact eqv_cell x d
  | none => cases x <;> rfl
theorem c_eqc (x y : Option Nat) : oEq (cell x) (cell y) = vB (decide (x = y)) := by
  unfold oEq
  rw [sh_cell, sh_cell, eqv_cells]
  rfl
theorem c_nec (x y : Option Nat) : oNe (cell x) (cell y) = vB (!decide (x = y)) := by
  unfold oNe
  rw [sh_cell, sh_cell, eqv_cells]
  rfl
theorem c_isN (x : Option Nat) : isNone (cell x) = x.isNone := by cases x <;> rfl
theorem cell_n : PyData.none = cell none := rfl
/-! lists -/
theorem l_ix {A : Type} [Inhabited A] {enc : A → PyData} {xs : List A} {i : Nat} (h : i < xs.length) : oIx (.list (xs.map enc)) (nI i) = some (.val (enc xs[i]!)) := by
  rw [ev_oIxL, atI_of (a := enc xs[i]!) (by omega) (by rw [Int.toNat_natCast, List.getElem?_map, List.getElem?_eq_getElem h, getElem!_pos xs i h]; rfl)]
  rfl
theorem t_ix {A : Type} [Inhabited A] {enc : A → PyData} {xs : List A} {i : Nat} (h : i < xs.length) : oIx (.tuple (xs.map enc)) (nI i) = some (.val (enc xs[i]!)) := by
  rw [ev_oIxT, atI_of (a := enc xs[i]!) (by omega) (by rw [Int.toNat_natCast, List.getElem?_map, List.getElem?_eq_getElem h, getElem!_pos xs i h]; rfl)]
  rfl
theorem l_ix0 (a : PyData) (l : List PyData) : oIx (.list (a :: l)) (nI 0) = some (.val a) := by
  rw [ev_oIxL, show ((0 : Nat) : Int) = 0 from rfl, atI0]; rfl
theorem l_ix1 (a b : PyData) (l : List PyData) : oIx (.list (a :: b :: l)) (nI 1) = some (.val b) := by
  rw [ev_oIxL, show ((1 : Nat) : Int) = 1 from rfl, atI1]; rfl
theorem l_ix2 (a b c : PyData) (l : List PyData) : oIx (.list (a :: b :: c :: l)) (nI 2) = some (.val c) := by
  rw [ev_oIxL, atI_of (a := c) (by omega) (by rw [Int.toNat_natCast]; rfl)]; rfl
theorem l_ix3 (a b c d : PyData) (l : List PyData) : oIx (.list (a :: b :: c :: d :: l)) (nI 3) = some (.val d) := by
  rw [ev_oIxL, atI_of (a := d) (by omega) (by rw [Int.toNat_natCast]; rfl)]; rfl
theorem l_ix4 (a b c d e : PyData) (l : List PyData) : oIx (.list (a :: b :: c :: d :: e :: l)) (nI 4) = some (.val e) := by
  rw [ev_oIxL, atI_of (a := e) (by omega) (by rw [Int.toNat_natCast]; rfl)]; rfl
theorem l_ix5 (a b c d e f : PyData) (l : List PyData) : oIx (.list (a :: b :: c :: d :: e :: f :: l)) (nI 5) = some (.val f) := by
  rw [ev_oIxL, atI_of (a := f) (by omega) (by rw [Int.toNat_natCast]; rfl)]; rfl
theorem t_ix0 (a : PyData) (l : List PyData) : oIx (.tuple (a :: l)) (nI 0) = some (.val a) := by
  rw [ev_oIxT, show ((0 : Nat) : Int) = 0 from rfl, atI0]; rfl
theorem t_ix1 (a b : PyData) (l : List PyData) : oIx (.tuple (a :: b :: l)) (nI 1) = some (.val b) := by
  rw [ev_oIxT, show ((1 : Nat) : Int) = 1 from rfl, atI1]; rfl
theorem t_ix2 (a b c : PyData) (l : List PyData) : oIx (.tuple (a :: b :: c :: l)) (nI 2) = some (.val c) := by
  rw [ev_oIxT, atI_of (a := c) (by omega) (by rw [Int.toNat_natCast]; rfl)]; rfl
theorem l_len (ds : List PyData) : bLen [.list ds] = vN ds.length := rfl
theorem t_len (ds : List PyData) : bLen [.tuple ds] = vN ds.length := rfl
theorem cut_to (A : List PyData) (a : Nat) : DL.cutD A none (some (a : Int)) = A.take a := by
  unfold DL.cutD
  rw [HT.sIx_none, HT.sIx_nat, List.drop_zero, Nat.sub_zero]
  by_cases h : a ≤ A.length
  · rw [Nat.min_eq_left h]
  · rw [Nat.min_eq_right (by omega), List.take_of_length_le (Nat.le_refl _), List.take_of_length_le (by omega)]
theorem cut_from (A : List PyData) (a : Nat) : DL.cutD A (some (a : Int)) none = A.drop a := by
  unfold DL.cutD
  rw [HT.sIx_none, HT.sIx_nat]
  by_cases h : a ≤ A.length
  · rw [Nat.min_eq_left h, List.take_of_length_le]
    rw [List.length_drop]
    exact Nat.le_refl _
  · rw [Nat.min_eq_right (by omega), List.drop_of_length_le (Nat.le_refl _), List.drop_of_length_le (by omega), List.take_nil]
theorem l_addL {a b : List PyData} (h : a.length + b.length ≤ 100000) : oAdd (.list a) (.list b) = some (.new (a ++ b)) := by rw [ev_oAddL, if_pos h]
theorem t_addT {a b : List PyData} (h : a.length + b.length ≤ 100000) : oAdd (.tuple a) (.tuple b) = some (.val (.tuple (a ++ b))) := by rw [ev_oAddT, if_pos h]
theorem w_rng1 {n : Nat} {dl : S} (h : n ≤ 1000000) : rngA1 (some [nI n]) dl = .ok ((List.range n).map nI) dl := by
  rw [ev_rngA1, if_pos (by omega), Int.toNat_natCast, rng_nats]
theorem w_rng2 {a b : Nat} {dl : S} (h : a ≤ 1000000 ∧ b ≤ 1000000) : rngA2 (some [nI a, nI b]) dl = .ok ((List.range' a (b - a)).map nI) dl := by
  rw [ev_rngA2, if_pos (by omega), show ((b : Int) - (a : Int)).toNat = b - a by omega]
  unfold rngD
  rw [List.range'_eq_map_range, List.map_map]
  congr 1
theorem n_max2 (a b : Nat) : bMax2 [nI a, nI b] = vN (max a b) := by
  rw [ev_bMax2]
  show some (Rv.val (PyData.int _)) = some (Rv.val (PyData.int _))
  congr 3
  split <;> omega
theorem n_min2 (a b : Nat) : bMin2 [nI a, nI b] = vN (min a b) := by
  rw [ev_bMin2]
  show some (Rv.val (PyData.int _)) = some (Rv.val (PyData.int _))
  congr 3
  split <;> omega
theorem n_sum (ns : List Nat) : bSum [.list (ns.map nI)] = vN ns.sum := by
  rw [show ns.map nI = (ns.map (fun (n : Nat) => (n : Int))).map PyData.int by rw [List.map_map]; rfl, bSum_int]
  show some (Rv.val (PyData.int _)) = some (Rv.val (PyData.int _))
  congr 3
  induction ns with
  | nil => rfl
  | cons a l ih => rw [List.map_cons, List.sum_cons, List.sum_cons, ih]; omega
theorem b_all (bs : List Bool) : bAll [.list (bs.map PyData.bool)] = vB (bs.all id) := by
  show (allB _).bind _ = _
  rw [allB_bools]; rfl
theorem b_any (bs : List Bool) : bAny [.list (bs.map PyData.bool)] = vB (bs.any id) := by
  show (allB _).bind _ = _
  rw [allB_bools]; rfl
theorem b_all0 : bAll [.list []] = vB true := rfl
theorem b_intB (b : Bool) : bInt [.bool b] = vN b.toNat := by cases b <;> rfl
theorem b_intN (n : Nat) : bInt [nI n] = vN n := rfl
/-! isinstance -/
theorem i_intI (i : Int) : oIsi "int" (.int i) = vB true := ev_isiII i
theorem i_boolI (i : Int) : oIsi "bool" (.int i) = vB false := ev_isiBI i
theorem i_intB (b : Bool) : oIsi "int" (.bool b) = vB true := isi_of (by rw [show tyD (.bool b) = "bool" from rfl]; decide +kernel)
theorem i_boolB (b : Bool) : oIsi "bool" (.bool b) = vB true := isi_of (by rw [show tyD (.bool b) = "bool" from rfl]; decide +kernel)
theorem i_tupT (ds : List PyData) : oIsi "tuple" (.tuple ds) = vB true := ev_isiTT ds
theorem i_lstL (ds : List PyData) : oIsi "list" (.list ds) = vB true := ev_isiLL ds
theorem i_tupL (ds : List PyData) : oIsi "tuple" (.list ds) = vB false := isi_of (by rw [show tyD (.list ds) = "list" from rfl]; decide +kernel)
theorem i_lstT (ds : List PyData) : oIsi "list" (.tuple ds) = vB false := isi_of (by rw [show tyD (.tuple ds) = "tuple" from rfl]; decide +kernel)
theorem i_intT (ds : List PyData) : oIsi "int" (.tuple ds) = vB false := isi_of (by rw [show tyD (.tuple ds) = "tuple" from rfl]; decide +kernel)
theorem i_intL (ds : List PyData) : oIsi "int" (.list ds) = vB false := isi_of (by rw [show tyD (.list ds) = "list" from rfl]; decide +kernel)
theorem i_tupI (i : Int) : oIsi "tuple" (.int i) = vB false := isi_of (by rw [show tyD (.int i) = "int" from rfl]; decide +kernel)
theorem i_lstI (i : Int) : oIsi "list" (.int i) = vB false := isi_of (by rw [show tyD (.int i) = "int" from rfl]; decide +kernel)
theorem i_intN : oIsi "int" .none = vB false := isi_of (by rw [show tyD .none = "NoneType" from rfl]; decide +kernel)
theorem i_tupN : oIsi "tuple" .none = vB false := isi_of (by rw [show tyD .none = "NoneType" from rfl]; decide +kernel)
theorem i_lstN : oIsi "list" .none = vB false := isi_of (by rw [show tyD .none = "NoneType" from rfl]; decide +kernel)
theorem i_intS (x : Str) : oIsi "int" (.str x) = vB false := isi_of (by rw [show tyD (.str x) = "str" from rfl]; decide +kernel)
theorem i_tupS (x : Str) : oIsi "tuple" (.str x) = vB false := isi_of (by rw [show tyD (.str x) = "str" from rfl]; decide +kernel)
theorem i_lstS (x : Str) : oIsi "list" (.str x) = vB false := isi_of (by rw [show tyD (.str x) = "str" from rfl]; decide +kernel)
theorem i_tupB (b : Bool) : oIsi "tuple" (.bool b) = vB false := isi_of (by rw [show tyD (.bool b) = "bool" from rfl]; decide +kernel)
theorem i_lstB (b : Bool) : oIsi "list" (.bool b) = vB false := isi_of (by rw [show tyD (.bool b) = "bool" from rfl]; decide +kernel)
theorem r_isN (a : PyData) : oIsN a .none = vB (isNone a) := rfl
theorem r_notN (a : PyData) : oNotN a .none = vB (!isNone a) := rfl
/-! ### wp -/
inductive SOk (N : S → Prop) (R : Rv → S → Prop) : Fl → Prop
  | nx {dl : S} : N dl → SOk N R (.nx dl)
  | ret {r : Rv} {dl : S} : R r dl → SOk N R (.ret r dl)
inductive LOk (N : S → Prop) (B : S → Prop) (R : Rv → S → Prop) : Fl → Prop
  | nx {dl : S} : N dl → LOk N B R (.nx dl)
  | cnt {dl : S} : N dl → LOk N B R (.cnt dl)
  | brk {dl : S} : B dl → LOk N B R (.brk dl)
  | ret {r : Rv} {dl : S} : R r dl → LOk N B R (.ret r dl)
theorem wp_nx (N : S → Prop) (R : Rv → S → Prop) (dl : S) : SOk N R (.nx dl) = N dl := propext ⟨fun h => by cases h; assumption, .nx⟩
theorem wp_ret (N : S → Prop) (R : Rv → S → Prop) (r : Rv) (dl : S) : SOk N R (.ret r dl) = R r dl := propext ⟨fun h => by cases h; assumption, .ret⟩
theorem wl_nx (N B : S → Prop) (R : Rv → S → Prop) (dl : S) : LOk N B R (.nx dl) = N dl := propext ⟨fun h => by cases h; assumption, .nx⟩
theorem wl_cnt (N B : S → Prop) (R : Rv → S → Prop) (dl : S) : LOk N B R (.cnt dl) = N dl := propext ⟨fun h => by cases h; assumption, .cnt⟩
theorem wl_brk (N B : S → Prop) (R : Rv → S → Prop) (dl : S) : LOk N B R (.brk dl) = B dl := propext ⟨fun h => by cases h; assumption, .brk⟩
theorem wl_ret (N B : S → Prop) (R : Rv → S → Prop) (r : Rv) (dl : S) : LOk N B R (.ret r dl) = R r dl := propext ⟨fun h => by cases h; assumption, .ret⟩
theorem wp_seq {N : S → Prop} {R : Rv → S → Prop} {o : Fl} {g : S → Fl} (M : S → Prop) (h : SOk M R o) (k : ∀ d, M d → SOk N R (g d)) : SOk N R (seqO o g) := by
  cases h with
  | nx h => exact k _ h
  | ret h => exact .ret h
theorem wp_for {put : S → PyData → Option S} {body : S → Fl} {R : Rv → S → Prop} (I : S → Prop) : ∀ {ds : List PyData} {dl : S}, I dl → (∀ d dl, d ∈ ds → I dl → ∃ d1, put dl d = some d1 ∧ LOk I I R (body d1)) → SOk I R (forD put body ds dl)
  | [], dl, h0, _ => .nx h0
  | d :: ds, dl, h0, hs => by
    obtain ⟨d1, e1, e2⟩ := hs d dl List.mem_cons_self h0
    rw [ev_for1, e1]
    dsimp only
    cases e : body d1 with
    | nx d2 => rw [e, wl_nx] at e2; exact wp_for I (ds := ds) e2 fun d dl hd hi => hs d dl (List.mem_cons_of_mem _ hd) hi
    | cnt d2 => rw [e, wl_cnt] at e2; exact wp_for I (ds := ds) e2 fun d dl hd hi => hs d dl (List.mem_cons_of_mem _ hd) hi
    | brk d2 => rw [e, wl_brk] at e2; exact .nx e2
    | ret r d2 => rw [e, wl_ret] at e2; exact .ret e2
    | ex c d2 => rw [e] at e2; cases e2
    | bad => rw [e] at e2; cases e2
/-- a loop as a fold over typed state -/
theorem for_fold {A B : Type} {put : S → PyData → Option S} {body : S → Fl} {enc : A → PyData} (st : B → S → Prop) (step : B → A → B) : ∀ {xs : List A} {b : B} {dl : S}, st b dl → (∀ b x dl, x ∈ xs → st b dl → ∃ d1 d2, put dl (enc x) = some d1 ∧ (body d1 = .nx d2 ∨ body d1 = .cnt d2) ∧ st (step b x) d2) → ∃ dl', forD put body (xs.map enc) dl = .nx dl' ∧ st (xs.foldl step b) dl'
  | [], b, dl, h0, _ => ⟨dl, rfl, h0⟩
  | x :: xs, b, dl, h0, hs => by
    obtain ⟨d1, d2, e1, e2, h1⟩ := hs b x dl List.mem_cons_self h0
    obtain ⟨dl', e3, h2⟩ := for_fold st step (xs := xs) h1 fun b y dl hy hi => hs b y dl (List.mem_cons_of_mem _ hy) hi
    refine ⟨dl', ?_, h2⟩
    rw [List.map_cons, ev_for1, e1]
    rcases e2 with e2 | e2 <;> (dsimp only; rw [e2]; exact e3)
/-! ### comprehensions, typed -/
theorem cmp_go {A B : Type} {v : Nat} {c : S → Out Bool} {f : S → Out Rv} {dn : S} {enc : A → PyData} (p : A → Bool) (g : A → B) (enc' : B → PyData) (hv : (dn.set v .no) = dn) : ∀ {xs : List A} {acc : List PyData},
    (∀ x ∈ xs, c (dn.set v (.val (enc x))) = .ok (p x) (dn.set v (.val (enc x))) ∧ (p x = true → ∃ r, f (dn.set v (.val (enc x))) = .ok r (dn.set v (.val (enc x))) ∧ stb (dn.set v (.val (enc x))) r = some (enc' (g x), dn.set v (.val (enc x))))) →
    acc.length + xs.length ≤ 100000 → compD [v] (tgN v) c f (xs.map enc) dn acc = some (acc ++ ((xs.filter p).map g).map enc', dn)
  | [], acc, _, _ => by unfold compD; simp
  | x :: xs, acc, h, hl => by
    obtain ⟨e2, h2⟩ := h x List.mem_cons_self
    have hw : wipeD (dn.set v (.val (enc x))) [v] = dn := by
      show ((dn.set v (.val (enc x))).set v .no) = dn
      rw [List.set_set, hv]
    rw [List.length_cons] at hl
    rw [List.map_cons]
    unfold compD
    rw [ev_tgN]
    dsimp only
    rw [e2]
    cases hp : p x with
    | false =>
      dsimp only
      rw [hw, cmp_go p g enc' hv (fun y hy => h y (List.mem_cons_of_mem _ hy)) (by omega)]
      simp [hp]
    | true =>
      obtain ⟨r, e3, e4⟩ := h2 hp
      dsimp only
      rw [e3]
      dsimp only
      rw [e4]
      dsimp only
      rw [if_pos (by omega), hw, cmp_go p g enc' hv (fun y hy => h y (List.mem_cons_of_mem _ hy)) (by rw [List.length_append, List.length_singleton]; omega)]
      simp [hp]
theorem back1 {d1 : S} {v : Nat} (h : v < d1.length) : (d1.set v .no).set v (d1[v]?.getD .no) = d1 := by
  rw [List.set_set]
  apply List.ext_getElem?
  intro j
  by_cases hj : v = j
  · subst hj
    rw [List.getElem?_set_self h, List.getElem?_eq_getElem h]; rfl
  · rw [List.getElem?_set_ne hj]
/-- [f for v in xs if c] -/
theorem cmp {A B : Type} {v : Nat} {c : S → Out Bool} {f : S → Out Rv} {d1 dn : S} {enc : A → PyData} {xs : List A} (p : A → Bool) (g : A → B) (enc' : B → PyData)
    (h : ∀ x ∈ xs, c (d1.set v (.val (enc x))) = .ok (p x) (d1.set v (.val (enc x))) ∧ (p x = true → ∃ r, f (d1.set v (.val (enc x))) = .ok r (d1.set v (.val (enc x))) ∧ stb (d1.set v (.val (enc x))) r = some (enc' (g x), d1.set v (.val (enc x)))))
    (hn : dn = d1.set v .no := by rfl) (hv : v < d1.length := by exact of_decide_eq_true rfl) (hl : xs.length ≤ 100000 := by first | omega | (simp only [List.length_range, List.length_range', List.length_map, List.length_cons, List.length_nil, List.length_append] <;> omega)) :
    endC d1 [v] (compD [v] (tgN v) c f (xs.map enc) dn []) = .ok (.new (((xs.filter p).map g).map enc')) d1 := by
  rw [cmp_go p g enc' (by rw [hn, List.set_set]) (by subst hn; simpa only [List.set_set] using h) (by simpa using hl), ev_endC, ev_restD, ev_restD0, hn, back1 hv]
  rfl
/-- [f for v in xs] -/
theorem cmpM {A B : Type} {v : Nat} {f : S → Out Rv} {d1 dn : S} {enc : A → PyData} {xs : List A} (g : A → B) (enc' : B → PyData)
    (h : ∀ x ∈ xs, ∃ r, f (d1.set v (.val (enc x))) = .ok r (d1.set v (.val (enc x))) ∧ stb (d1.set v (.val (enc x))) r = some (enc' (g x), d1.set v (.val (enc x))))
    (hn : dn = d1.set v .no := by rfl) (hv : v < d1.length := by exact of_decide_eq_true rfl) (hl : xs.length ≤ 100000 := by first | omega | (simp only [List.length_range, List.length_range', List.length_map, List.length_cons, List.length_nil, List.length_append] <;> omega)) :
    endC d1 [v] (compD [v] (tgN v) dYes f (xs.map enc) dn []) = .ok (.new ((xs.map g).map enc')) d1 := by
  rw [cmp (c := dYes) (fun _ => true) g enc' (fun x hx => ⟨rfl, fun _ => h x hx⟩) hn hv hl, List.filter_eq_self.mpr (fun _ _ => rfl)]
/-- [v for v in xs if c] -/
theorem cmpF {A : Type} {v : Nat} {c : S → Out Bool} {d1 dn : S} {enc : A → PyData} {xs : List A} (p : A → Bool)
    (h : ∀ x ∈ xs, c (d1.set v (.val (enc x))) = .ok (p x) (d1.set v (.val (enc x))))
    (hn : dn = d1.set v .no := by rfl) (hv : v < d1.length := by exact of_decide_eq_true rfl) (hl : xs.length ≤ 100000 := by first | omega | (simp only [List.length_range, List.length_range', List.length_map, List.length_cons, List.length_nil, List.length_append] <;> omega)) :
    endC d1 [v] (compD [v] (tgN v) c (dVar v) (xs.map enc) dn []) = .ok (.new ((xs.filter p).map enc)) d1 := by
  rw [cmp p id enc (fun x hx => ⟨h x hx, fun _ => ⟨.val (enc x), ?_, rfl⟩⟩) hn hv hl, List.map_id]
  rw [ev_var, List.getElem?_set_self hv]
/-! ### what a call comes to -/
inductive VOk (Q : PyData → List PyData → Prop) : Fo → Prop
  | val {d : PyData} {st : List PyData} : Q d st → VOk Q (.val d st)
theorem vo_v (Q : PyData → List PyData → Prop) (d : PyData) (st : List PyData) : VOk Q (.val d st) = Q d st := propext ⟨fun h => by cases h; assumption, .val⟩
theorem vo_ex {Q : PyData → List PyData → Prop} {o : Fo} (h : VOk Q o) : ∃ d st, o = .val d st ∧ Q d st := by
  cases h with
  | val h => exact ⟨_, _, rfl, h⟩
theorem vo_of {o : Fo} {d : PyData} {st : List PyData} (h : VOk (fun x y => x = d ∧ y = st) o) : o = .val d st := by
  obtain ⟨x, y, e, rfl, rfl⟩ := vo_ex h
  exact e
theorem vo_fin {Q : PyData → List PyData → Prop} {io : Bool} {o : Fl} (h : SOk (fun dl => VOk Q (finF io (.nx dl))) (fun r dl => VOk Q (finF io (.ret r dl))) o) : VOk Q (finF io o) := by
  cases h with
  | nx h => exact h
  | ret h => exact h
inductive NOk (Q : List PyData → List PyData → Prop) : Fo → Prop
  | new {d st : List PyData} : Q d st → NOk Q (.new d st)
theorem no_v (Q : List PyData → List PyData → Prop) (d st : List PyData) : NOk Q (.new d st) = Q d st := propext ⟨fun h => by cases h; assumption, .new⟩
theorem no_ex {Q : List PyData → List PyData → Prop} {o : Fo} (h : NOk Q o) : ∃ d st, o = .new d st ∧ Q d st := by
  cases h with
  | new h => exact ⟨_, _, rfl, h⟩
theorem no_of {o : Fo} {d st : List PyData} (h : NOk (fun x y => x = d ∧ y = st) o) : o = .new d st := by
  obtain ⟨x, y, e, rfl, rfl⟩ := no_ex h
  exact e
theorem no_fin {Q : List PyData → List PyData → Prop} {io : Bool} {o : Fl} (h : SOk (fun dl => NOk Q (finF io (.nx dl))) (fun r dl => NOk Q (finF io (.ret r dl))) o) : NOk Q (finF io o) := by
  cases h with
  | nx h => exact h
  | ret h => exact h
theorem wl_of {N B : S → Prop} {R : Rv → S → Prop} {o : Fl} (h : SOk N R o) : LOk N B R o := by
  cases h with
  | nx h => exact .nx h
  | ret h => exact .ret h
theorem wl_seq {N B : S → Prop} {R : Rv → S → Prop} {o : Fl} {g : S → Fl} (M : S → Prop) (h : SOk M R o) (k : ∀ d, M d → LOk N B R (g d)) : LOk N B R (seqO o g) := by
  cases h with
  | nx h => exact k _ h
  | ret h => exact .ret h
theorem wp_mono {N N' : S → Prop} {R R' : Rv → S → Prop} {o : Fl} (h : SOk N R o) (h1 : ∀ d, N d → N' d) (h2 : ∀ r d, R r d → R' r d) : SOk N' R' o := by
  cases h with
  | nx h => exact .nx (h1 _ h)
  | ret h => exact .ret (h2 _ _ h)
/-- a loop with its turn counted -/
theorem wp_fori {put : S → PyData → Option S} {body : S → Fl} {R : Rv → S → Prop} (I : Nat → S → Prop) : ∀ {ds : List PyData} {n : Nat} {dl : S}, I n dl → (∀ (i : Nat) (d : PyData) (dl : S), ds[i]? = some d → I (n + i) dl → ∃ d1, put dl d = some d1 ∧ SOk (I (n + i + 1)) R (body d1)) → SOk (I (n + ds.length)) R (forD put body ds dl)
  | [], n, dl, h0, _ => .nx h0
  | d :: ds, n, dl, h0, hs => by
    obtain ⟨d1, e1, e2⟩ := hs 0 d dl rfl h0
    rw [ev_for1, e1]
    dsimp only
    cases e : body d1 with
    | nx d2 =>
      rw [e, wp_nx] at e2
      have := wp_fori I (ds := ds) (n := n + 1) e2 fun i d dl hd hi => by
        have := hs (i + 1) d dl (by simpa using hd) (by rw [show n + (i + 1) = n + 1 + i by omega]; exact hi)
        rw [show n + (i + 1) + 1 = n + 1 + i + 1 by omega] at this
        exact this
      rw [List.length_cons, show n + (ds.length + 1) = n + 1 + ds.length by omega]
      exact this
    | ret r d2 => rw [e, wp_ret] at e2; exact .ret e2
    | cnt d2 => rw [e] at e2; cases e2
    | brk d2 => rw [e] at e2; cases e2
    | ex c d2 => rw [e] at e2; cases e2
    | bad => rw [e] at e2; cases e2
/-- a loop as a fold, by wp -/
theorem wp_fold {A B : Type} {put : S → PyData → Option S} {body : S → Fl} {enc : A → PyData} {R : Rv → S → Prop} (st : B → S → Prop) (step : B → A → B) : ∀ {xs : List A} {b : B} {dl : S}, st b dl → (∀ b x dl, x ∈ xs → st b dl → ∃ d1, put dl (enc x) = some d1 ∧ LOk (st (step b x)) (fun _ => False) R (body d1)) → SOk (st (xs.foldl step b)) R (forD put body (xs.map enc) dl)
  | [], b, dl, h0, _ => .nx h0
  | x :: xs, b, dl, h0, hs => by
    obtain ⟨d1, e1, e2⟩ := hs b x dl List.mem_cons_self h0
    rw [List.map_cons, ev_for1, e1]
    dsimp only
    cases e : body d1 with
    | nx d2 => rw [e, wl_nx] at e2; exact wp_fold st step (xs := xs) e2 fun b y dl hy hi => hs b y dl (List.mem_cons_of_mem _ hy) hi
    | cnt d2 => rw [e, wl_cnt] at e2; exact wp_fold st step (xs := xs) e2 fun b y dl hy hi => hs b y dl (List.mem_cons_of_mem _ hy) hi
    | ret r d2 => rw [e, wl_ret] at e2; exact .ret e2
    | brk d2 => rw [e, wl_brk] at e2; exact e2.elim
    | ex c d2 => rw [e] at e2; cases e2
    | bad => rw [e] at e2; cases e2
/-! drawing comprehension: the block changes -/
theorem wc_all {vs : List Nat} {put : S → PyData → Option S} {f : S → Out Rv} {ds : List PyData} {d1 dn : S} {P : Out Rv → Prop} (I : S → Prop) (R : PyData → Prop) (h0 : I dn) (hs : ∀ d dn, d ∈ ds → I dn → ∃ d1 r d3 y d4, put dn d = some d1 ∧ f d1 = .ok r d3 ∧ stb d3 r = some (y, d4) ∧ R y ∧ I (wipeD d4 vs)) (hl : ds.length ≤ 100000)
    (hk : ∀ ys dn', I dn' → ys.length = ds.length → (∀ y ∈ ys, R y) → P (.ok (.new ys) (restD d1 vs dn'))) : P (endC d1 vs (compD vs put dYes f ds dn [])) := by
  obtain ⟨ys, dn', e, i, l, r⟩ := comp_all (vs := vs) (put := put) (f := f) I R (ds := ds) (acc := []) h0 hs (by simpa using hl)
  rw [e, ev_endC]
  exact hk ys dn' i l r
end DL

namespace DL
open PySem L2
/-! ### comparing data -/
def ShD (k : Nat) (d : PyData) : Prop := d.canLay0 = true ∧ d.depth ≤ k
theorem sd_int (k : Nat) (i : Int) : ShD k (.int i) := ⟨by simp [PyData.canLay0], by simp [PyData.depth]⟩
theorem sd_none (k : Nat) : ShD k .none := ⟨by simp [PyData.canLay0], by simp [PyData.depth]⟩
theorem sd_bool (k : Nat) (b : Bool) : ShD k (.bool b) := ⟨by simp [PyData.canLay0], by simp [PyData.depth]⟩
theorem sd_cell (k : Nat) (x : Option Nat) : ShD k (cell x) := by
  cases x
  · exact sd_none k
  · exact sd_int k _
theorem sd_str {k : Nat} {x : Str} (h : PyData.strOk x = true) : ShD k (.str x) := ⟨by simp [PyData.canLay0, h], by simp [PyData.depth]⟩
theorem sd_all {k : Nat} : ∀ {ds : List PyData}, (∀ d ∈ ds, ShD k d) → PyData.canLayAll0 ds = true ∧ PyData.depthAll ds ≤ k
  | [], _ => ⟨by simp [PyData.canLayAll0], by simp [PyData.depthAll]⟩
  | d :: ds, h => by
    obtain ⟨h1, h2⟩ := sd_all fun x hx => h x (List.mem_cons_of_mem _ hx)
    obtain ⟨h3, h4⟩ := h d List.mem_cons_self
    exact ⟨by simp [PyData.canLayAll0, h1, h3], by simp [PyData.depthAll]; omega⟩
theorem sd_list {k : Nat} {ds : List PyData} (h : ∀ d ∈ ds, ShD k d) : ShD (k + 1) (.list ds) := by
  obtain ⟨h1, h2⟩ := sd_all h
  exact ⟨by simp [PyData.canLay0, h1], by simp [PyData.depth]; omega⟩
theorem sd_tup {k : Nat} {ds : List PyData} (h : ∀ d ∈ ds, ShD k d) : ShD (k + 1) (.tuple ds) := by
  obtain ⟨h1, h2⟩ := sd_all h
  exact ⟨by simp [PyData.canLay0, h1], by simp [PyData.depth]; omega⟩
theorem ShD.sh {k : Nat} {d : PyData} (h : ShD k d) (hk : k ≤ 64) : SeqAt.shaped d = true := by
  unfold SeqAt.shaped
  rw [Bool.and_eq_true, decide_eq_true_eq]
  exact ⟨h.1, by have := h.2; omega⟩
theorem oEq_self {k : Nat} {d : PyData} (h : ShD k d) (hk : k ≤ 64) : oEq d d = vB true := by
  unfold oEq
  rw [h.sh hk, SeqAt.eqv_refl d h.1]
  rfl
theorem oNe_self {k : Nat} {d : PyData} (h : ShD k d) (hk : k ≤ 64) : oNe d d = vB false := by
  unfold oNe
  rw [h.sh hk, SeqAt.eqv_refl d h.1]
  rfl
/-- enc tells its things apart -/
structure EncEq {A : Type} [DecidableEq A] (k : Nat) (enc : A → PyData) : Prop where
  eq : ∀ x y, PyData.eqv (enc x) (enc y) = decide (x = y)
  sh : ∀ x, ShD k (enc x)
theorem ee_nI : EncEq 0 nI := ⟨fun x y => by
  unfold PyData.eqv
  by_cases h : x = y
  · subst h; simp
  · have : ¬ ((x : Int) = (y : Int)) := by omega
    simp [h, this], fun x => sd_int 0 _⟩
theorem ee_cell : EncEq 0 cell := ⟨eqv_cells, sd_cell 0⟩
theorem ee_all {A : Type} [DecidableEq A] {k : Nat} {enc : A → PyData} (h : EncEq k enc) : ∀ xs ys : List A, PyData.eqvAll (xs.map enc) (ys.map enc) = decide (xs = ys)
  | [], [] => rfl
  | [], _ :: _ => rfl
  | _ :: _, [] => rfl
  | x :: xs, y :: ys => by
    show (PyData.eqv (enc x) (enc y) && PyData.eqvAll (xs.map enc) (ys.map enc)) = _
    rw [h.eq, ee_all h xs ys]
    by_cases hx : x = y
    · subst hx; simp
    · simp [hx]
theorem sd_map {A : Type} [DecidableEq A] {k : Nat} {enc : A → PyData} (h : EncEq k enc) (xs : List A) : ∀ d ∈ xs.map enc, ShD k d := fun d hd => by
  obtain ⟨x, _, rfl⟩ := List.mem_map.mp hd
  exact h.sh x
theorem ee_list {A : Type} [DecidableEq A] {k : Nat} {enc : A → PyData} (h : EncEq k enc) : EncEq (k + 1) fun xs : List A => .list (xs.map enc) := ⟨fun xs ys => by
  rw [PyData.eqv]; exact ee_all h xs ys, fun xs => sd_list (sd_map h xs)⟩
theorem ee_tup {A : Type} [DecidableEq A] {k : Nat} {enc : A → PyData} (h : EncEq k enc) : EncEq (k + 1) fun xs : List A => .tuple (xs.map enc) := ⟨fun xs ys => by
  rw [PyData.eqv]; exact ee_all h xs ys, fun xs => sd_tup (sd_map h xs)⟩
theorem EncEq.oEq {A : Type} [DecidableEq A] {k : Nat} {enc : A → PyData} (h : EncEq k enc) (hk : k ≤ 64) (x y : A) : oEq (enc x) (enc y) = vB (decide (x = y)) := by
  unfold DL.oEq
  rw [(h.sh x).sh hk, (h.sh y).sh hk, h.eq]
  rfl
theorem EncEq.oNe {A : Type} [DecidableEq A] {k : Nat} {enc : A → PyData} (h : EncEq k enc) (hk : k ≤ 64) (x y : A) : oNe (enc x) (enc y) = vB (!decide (x = y)) := by
  unfold DL.oNe
  rw [(h.sh x).sh hk, (h.sh y).sh hk, h.eq]
  rfl
theorem l_eq (xs ys : List Nat) : oEq (.list (xs.map nI)) (.list (ys.map nI)) = vB (decide (xs = ys)) := (ee_list ee_nI).oEq (by decide) xs ys
theorem l_ne (xs ys : List Nat) : oNe (.list (xs.map nI)) (.list (ys.map nI)) = vB (!decide (xs = ys)) := (ee_list ee_nI).oNe (by decide) xs ys
theorem t_eq (xs ys : List Nat) : oEq (.tuple (xs.map nI)) (.tuple (ys.map nI)) = vB (decide (xs = ys)) := (ee_tup ee_nI).oEq (by decide) xs ys
theorem t_eqc (xs ys : List (Option Nat)) : oEq (.tuple (xs.map cell)) (.tuple (ys.map cell)) = vB (decide (xs = ys)) := (ee_tup ee_cell).oEq (by decide) xs ys
theorem l_eq0 (xs : List Nat) : oEq (.list (xs.map nI)) (.list []) = vB (decide (xs = [])) := l_eq xs []
theorem l_ne0 (xs : List Nat) : oNe (.list (xs.map nI)) (.list []) = vB (!decide (xs = [])) := l_ne xs []
theorem z_eq0 : oEq (.list []) (.list []) = vB true := l_eq [] []
theorem z_ne0 : oNe (.list []) (.list []) = vB false := l_ne [] []
theorem lc_ne0 (xs : List (Option Nat)) : oNe (.list (xs.map cell)) (.list []) = vB (!decide (xs = [])) := (ee_list ee_cell).oNe (by decide) xs []
theorem lc_eq0 (xs : List (Option Nat)) : oEq (.list (xs.map cell)) (.list []) = vB (decide (xs = [])) := (ee_list ee_cell).oEq (by decide) xs []
/-! in -/
theorem any_nats (c : Nat) : ∀ t : List Nat, ((t.map nI).any fun y => PyData.eqv y (nI c)) = decide (c ∈ t)
  | [] => rfl
  | x :: t => by
    rw [List.map_cons, List.any_cons, ee_nI.eq, any_nats c t]
    rw [Bool.eq_iff_iff]
    simp
    rw [eq_comm]
theorem n_inL (c : Nat) (t : List Nat) : oIn false (nI c) (.list (t.map nI)) = vB (decide (c ∈ t)) := by
  unfold oIn items
  dsimp only
  rw [sc_nats, any_nats]
  rfl
theorem n_inT (c : Nat) (t : List Nat) : oIn false (nI c) (.tuple (t.map nI)) = vB (decide (c ∈ t)) := by
  unfold oIn items
  dsimp only
  rw [sc_nats, any_nats]
  rfl
theorem n_niL (c : Nat) (t : List Nat) : oIn true (nI c) (.list (t.map nI)) = vB (!decide (c ∈ t)) := by
  unfold oIn items
  dsimp only
  rw [sc_nats, any_nats]
  rfl
theorem n_niT (c : Nat) (t : List Nat) : oIn true (nI c) (.tuple (t.map nI)) = vB (!decide (c ∈ t)) := by
  unfold oIn items
  dsimp only
  rw [sc_nats, any_nats]
  rfl
theorem n_inC (c : Nat) (t : List (Option Nat)) : oIn false (nI c) (.tuple (t.map cell)) = vB (decide (some c ∈ t)) := oIn_cells c t
/-! sums of bits -/
theorem bit_sum (c : Nat) : ∀ n : Nat, (((List.range n).filter (c.testBit ·)).map (fun s => 2 ^ s)).sum = c % 2 ^ n
  | 0 => by simp [Nat.mod_one]
  | n + 1 => by
    rw [List.range_succ, List.filter_append, List.map_append, List.sum_append, bit_sum c n, Nat.pow_succ, Nat.mod_mul]
    have h := Nat.mod_two_eq_zero_or_one (c / 2 ^ n)
    rcases h with h | h
    · simp [Nat.testBit_eq_decide_div_mod_eq, h]
    · simp [Nat.testBit_eq_decide_div_mod_eq, h]
theorem bit_sum_lt {c n : Nat} (h : c < 2 ^ n) : (((List.range n).filter (c.testBit ·)).map (fun s => 2 ^ s)).sum = c := by
  rw [bit_sum, Nat.mod_eq_of_lt h]
theorem testBit_ge {c n s : Nat} (h : c < 2 ^ n) (hs : n ≤ s) : c.testBit s = false := Nat.testBit_lt_two_pow (Nat.lt_of_lt_of_le h (Nat.pow_le_pow_right (by decide) hs))
theorem and_sub {a b n : Nat} (ha : a < 2 ^ n) : (b &&& a = a) ↔ ∀ s, s < n → a.testBit s = true → b.testBit s = true := by
  constructor
  · intro h s _ h1
    rw [← h, Nat.testBit_and] at h1
    simp at h1
    exact h1.1
  · intro h
    apply Nat.eq_of_testBit_eq
    intro s
    rw [Nat.testBit_and]
    by_cases hs : s < n
    · have := h s hs
      cases h1 : a.testBit s <;> cases h2 : b.testBit s <;> simp_all
    · rw [testBit_ge ha (by omega)]
      simp
theorem law_of {o : Fo} (h : VOk (fun d _ => d = .bool true) o) : ∃ st, o = .val (.bool true) st := by
  obtain ⟨d, st, e, rfl⟩ := vo_ex h
  exact ⟨st, e⟩
/-- the thing at a place below the list's length is one of them -/
theorem l_pick {ds : List PyData} {i : Nat} (P : PyData → Prop) (h : i < ds.length) (hp : ∀ d ∈ ds, P d) : ∃ d, oIx (.list ds) (nI i) = some (.val d) ∧ P d := by
  refine ⟨ds[i], ?_, hp _ (List.getElem_mem h)⟩
  rw [ev_oIxL, atI_of (a := ds[i]) (by omega) (by rw [Int.toNat_natCast, List.getElem?_eq_getElem h])]
  rfl
theorem wl_for {put : S → PyData → Option S} {body : S → Fl} {N B : S → Prop} {R : Rv → S → Prop} {ds : List PyData} {dl : S} (I : S → Prop) (h0 : I dl) (hs : ∀ d dl, d ∈ ds → I dl → ∃ d1, put dl d = some d1 ∧ LOk I I R (body d1)) (hk : ∀ d, I d → N d) : LOk N B R (forD put body ds dl) :=
  wl_of (wp_mono (wp_for I h0 hs) hk fun _ _ h => h)
theorem wq_for {put : S → PyData → Option S} {body : S → Fl} {N : S → Prop} {R : Rv → S → Prop} {ds : List PyData} {dl : S} (I : S → Prop) (h0 : I dl) (hs : ∀ d dl, d ∈ ds → I dl → ∃ d1, put dl d = some d1 ∧ LOk I I R (body d1)) (hk : ∀ d, I d → N d) : SOk N R (forD put body ds dl) :=
  wp_mono (wp_for I h0 hs) hk fun _ _ h => h
theorem mem_rangeN {n : Nat} {d : PyData} (h : d ∈ (List.range n).map nI) : ∃ j, j < n ∧ d = nI j := by
  obtain ⟨j, hj, rfl⟩ := List.mem_map.mp h
  exact ⟨j, List.mem_range.mp hj, rfl⟩
theorem some_of {A : Type} (P : A → Prop) {a : A} (h : P a) : ∃ a, P a := ⟨a, h⟩
theorem n_augA (i a b : Nat) (d1 : S) : augR i (fun i j => i + j) (a : Int) d1 (some (nI b)) = .nx (d1.set i (.val (nI (a + b)))) := by
  rw [augR_i, ← Int.natCast_add]
theorem n_augS {i a b : Nat} {d1 : S} (h : b ≤ a) : augR i (fun i j => i - j) (a : Int) d1 (some (nI b)) = .nx (d1.set i (.val (nI (a - b)))) := by
  rw [augR_i, ← Int.ofNat_sub h]
theorem range_at {n i : Nat} {d : PyData} (h : ((List.range n).map nI)[i]? = some d) : i < n ∧ d = nI i := by
  have hl := lt_of_get h
  rw [List.length_map, List.length_range] at hl
  rw [List.getElem?_map, List.getElem?_range hl] at h
  cases h
  exact ⟨hl, rfl⟩
theorem filt_succ (p : Nat → Bool) (f : Nat → Nat) (i : Nat) : (((List.range (i + 1)).filter p).map f).sum = (((List.range i).filter p).map f).sum + (if p i then f i else 0) := by
  rw [List.range_succ, List.filter_append, List.map_append, List.sum_append]
  cases h : p i <;> simp [h]
theorem map_range_succ {A : Type} (f : Nat → A) (enc : A → PyData) (i : Nat) : ((List.range (i + 1)).map f).map enc = ((List.range i).map f).map enc ++ [enc (f i)] := by
  rw [List.range_succ, List.map_append, List.map_append]
  rfl
theorem bit_and1 (x y : Nat) : (x &&& y) &&& 1 = (x.testBit 0 && y.testBit 0).toNat := by
  have h := Nat.testBit_and x y 0
  rw [Nat.and_one_is_mod]
  rw [Nat.testBit_zero, Nat.testBit_zero, Nat.testBit_zero] at *
  rw [← h]
  rcases Nat.mod_two_eq_zero_or_one (x &&& y) with e | e <;> simp [e]
theorem bit_and2 (x y s f : Nat) : (x / 2 ^ s &&& y / 2 ^ f) &&& 1 = (x.testBit s && y.testBit f).toNat := by
  rw [bit_and1, Nat.testBit_eq_decide_div_mod_eq, Nat.testBit_eq_decide_div_mod_eq, Nat.testBit_eq_decide_div_mod_eq, Nat.testBit_eq_decide_div_mod_eq, Nat.pow_zero, Nat.div_one, Nat.div_one]
end DL

namespace DL
open PySem L2
/-! ### tuple(range(n)), stars, two walks -/
theorem n_tr {n : Nat} (h : n ≤ 100000) : oTR (nI n) = some (.val (.tuple ((List.range n).map nI))) := by
  show (if (n : Int) ≤ 100000 ∧ -100000 ≤ (n : Int) then _ else _) = _
  rw [if_pos (by omega), Int.toNat_natCast, rng_nats]
theorem n_lr {n : Nat} (h : n ≤ 100000) : oLR (nI n) = some (.new ((List.range n).map nI)) := by
  show (if (n : Int) ≤ 100000 ∧ -100000 ≤ (n : Int) then _ else _) = _
  rw [if_pos (by omega), Int.toNat_natCast, rng_nats]
def KStar2 (ds : List PyData) (o : Out (List Rv)) : Out (List Rv) := o.bind fun rs d2 => .ok (ds.map Rv.val ++ rs) d2
theorem KStar2_ (ds : List PyData) (rs : List Rv) (d : S) : KStar2 ds (.ok rs d) = .ok (ds.map Rv.val ++ rs) d := rfl
def KStarO (g : S → Out (List Rv)) (d : S) : Option (List PyData) → Out (List Rv)
  | some ds => KStar2 ds (g d)
  | none => .bad
theorem KStarO_ (g : S → Out (List Rv)) (d : S) (ds : List PyData) : KStarO g d (some ds) = KStar2 ds (g d) := rfl
def KStar (g : S → Out (List Rv)) (o : Out Rv) : Out (List Rv) := o.bind fun r d => KStarO g d ((rd d r).bind items)
theorem KStar_ (g : S → Out (List Rv)) (r : Rv) (d : S) : KStar g (.ok r d) = KStarO g d ((rd d r).bind items) := rfl
theorem w_Star (f : S → Out Rv) (g : S → Out (List Rv)) (dl : S) : dStar f g dl = KStar g (f dl) := by
  unfold dStar KStar
  rfl
theorem items_l (ds : List PyData) : items (.list ds) = some ds := rfl
theorem items_t (ds : List PyData) : items (.tuple ds) = some ds := rfl
theorem stbs_vals (dl : S) : ∀ (ds : List PyData) (rs : List Rv), stbs dl (ds.map Rv.val ++ rs) = (stbs dl rs).map fun x => (ds ++ x.1, x.2)
  | [], rs => by
    show stbs dl rs = _
    cases stbs dl rs <;> rfl
  | d :: ds, rs => by
    show stbs dl (Rv.val d :: (ds.map Rv.val ++ rs)) = _
    rw [ev_stbs, ev_stbv, ob_s, stbs_vals dl ds rs]
    cases stbs dl rs <;> rfl
theorem st_vals {dl d2 : S} {ds es : List PyData} {rs : List Rv} (h : stbs dl rs = some (es, d2)) : stbs dl (ds.map Rv.val ++ rs) = some (ds ++ es, d2) := by
  rw [stbs_vals, h]; rfl
def KComp2 (vs vs1 : List Nat) (put : S → PyData → Option S) (c : S → Out Bool) (it1 : S → Out (List PyData)) (pt1 : S → PyData → Option S) (c1 : S → Out Bool) (f : S → Out Rv) (o : Out (List PyData)) : Out Rv := o.bind fun ds d => endC d vs (compD2 vs vs1 put c it1 pt1 c1 f ds (wipeD d vs) [])
theorem KComp2_ (vs vs1 : List Nat) (put : S → PyData → Option S) (c : S → Out Bool) (it1 : S → Out (List PyData)) (pt1 : S → PyData → Option S) (c1 : S → Out Bool) (f : S → Out Rv) (ds : List PyData) (d : S) : KComp2 vs vs1 put c it1 pt1 c1 f (.ok ds d) = endC d vs (compD2 vs vs1 put c it1 pt1 c1 f ds (wipeD d vs) []) := rfl
theorem w_Comp2 (it : S → Out (List PyData)) (vs vs1 : List Nat) (put : S → PyData → Option S) (c : S → Out Bool) (it1 : S → Out (List PyData)) (pt1 : S → PyData → Option S) (c1 : S → Out Bool) (f : S → Out Rv) (dl : S) : dComp2 it vs vs1 put c it1 pt1 c1 f dl = KComp2 vs vs1 put c it1 pt1 c1 f (it dl) := rfl
/-- [f for v in xs for u in ys]: no ifs, plain names -/
theorem cmp2_go {A B C : Type} {v u : Nat} {it1 : S → Out (List PyData)} {f : S → Out Rv} {dn : S} {enc : A → PyData} {encB : B → PyData} (ys : A → List B) (g : A → B → C) (enc' : C → PyData) (huv : u ≠ v) (hv : dn.set v .no = dn) (hu : dn.set u .no = dn) : ∀ {xs : List A} {acc : List PyData},
    (∀ x ∈ xs, it1 (dn.set v (.val (enc x))) = .ok ((ys x).map encB) (dn.set v (.val (enc x))) ∧ ∀ y ∈ ys x, ∃ r, f ((dn.set v (.val (enc x))).set u (.val (encB y))) = .ok r ((dn.set v (.val (enc x))).set u (.val (encB y))) ∧ stb ((dn.set v (.val (enc x))).set u (.val (encB y))) r = some (enc' (g x y), (dn.set v (.val (enc x))).set u (.val (encB y)))) →
    acc.length + (xs.flatMap fun x => (ys x).map (g x)).length ≤ 100000 → compD2 [v, u] [u] (tgN v) dYes it1 (tgN u) dYes f (xs.map enc) dn acc = some (acc ++ (xs.flatMap fun x => (ys x).map (g x)).map enc', dn)
  | [], acc, _, _ => by unfold compD2; simp
  | x :: xs, acc, h, hl => by
    obtain ⟨e1, h2⟩ := h x List.mem_cons_self
    rw [List.flatMap_cons, List.length_append, List.length_map] at hl
    have hw : (dn.set v (.val (enc x))).set u .no = dn.set v (.val (enc x)) := by
      rw [List.set_comm _ _ (Ne.symm huv), hu]
    have hi := cmp_go (v := u) (c := dYes) (f := f) (dn := dn.set v (.val (enc x))) (enc := encB) (fun _ => true) (g x) enc' hw (xs := ys x) (acc := acc) (fun y hy => ⟨rfl, fun _ => h2 y hy⟩) (by omega)
    rw [List.filter_eq_self.mpr fun _ _ => rfl] at hi
    rw [List.map_cons]
    unfold compD2
    rw [ev_tgN]
    dsimp only
    rw [ev_Yes]
    dsimp only
    rw [e1]
    dsimp only
    rw [show wipeD (dn.set v (.val (enc x))) [u] = dn.set v (.val (enc x)) from hw, hi]
    dsimp only
    rw [show wipeD (dn.set v (.val (enc x))) [v, u] = dn from by
      show (((dn.set v (.val (enc x))).set u .no).set v .no) = dn
      rw [hw, List.set_set, hv], cmp2_go ys g enc' huv hv hu (fun z hz => h z (List.mem_cons_of_mem _ hz)) (by rw [List.length_append, List.length_map, List.length_map]; omega)]
    simp
theorem cmp2 {A B C : Type} {v u : Nat} {it1 : S → Out (List PyData)} {f : S → Out Rv} {d1 dn : S} {enc : A → PyData} {xs : List A} {encB : B → PyData} (ys : A → List B) (g : A → B → C) (enc' : C → PyData)
    (h : ∀ x ∈ xs, it1 (dn.set v (.val (enc x))) = .ok ((ys x).map encB) (dn.set v (.val (enc x))) ∧ ∀ y ∈ ys x, ∃ r, f ((dn.set v (.val (enc x))).set u (.val (encB y))) = .ok r ((dn.set v (.val (enc x))).set u (.val (encB y))) ∧ stb ((dn.set v (.val (enc x))).set u (.val (encB y))) r = some (enc' (g x y), (dn.set v (.val (enc x))).set u (.val (encB y))))
    (hl : (xs.flatMap fun x => (ys x).map (g x)).length ≤ 100000) (hn : dn = (d1.set u .no).set v .no := by rfl) (huv : u ≠ v := by decide) (hv : v < d1.length := by exact of_decide_eq_true rfl) (hu : u < d1.length := by exact of_decide_eq_true rfl) :
    endC d1 [v, u] (compD2 [v, u] [u] (tgN v) dYes it1 (tgN u) dYes f (xs.map enc) dn []) = .ok (.new ((xs.flatMap fun x => (ys x).map (g x)).map enc')) d1 := by
  rw [cmp2_go ys g enc' huv (by rw [hn, List.set_set]) (by rw [hn, List.set_comm _ _ (Ne.symm huv), List.set_set, List.set_comm _ _ huv]) h (by simpa using hl), ev_endC, List.nil_append]
  congr 1
  rw [hn]
  apply List.ext_getElem?
  intro j
  show (((((d1.set u .no).set v .no).set u (d1[u]?.getD .no)).set v (d1[v]?.getD .no))[j]?) = d1[j]?
  by_cases hj : v = j
  · subst hj
    rw [List.getElem?_set_self (by simpa using hv), List.getElem?_eq_getElem hv]; rfl
  · rw [List.getElem?_set_ne hj]
    by_cases hk : u = j
    · subst hk
      rw [List.getElem?_set_self (by simpa using hu), List.getElem?_eq_getElem hu]; rfl
    · rw [List.getElem?_set_ne hk, List.getElem?_set_ne hj, List.getElem?_set_ne hk]
/-! `*` -/
theorem n_mulA {a b : Nat} (h : a < 18446744073709551616 ∨ b < 18446744073709551616) : oMulAny (nI a) (nI b) = vN (a * b) := n_mul h
theorem t_mulA1 {ds : List PyData} (h : ds ≠ []) : oMulAny (.tuple ds) (nI 1) = some (.val (.tuple ds)) := by
  unfold oMulAny oRep1
  dsimp only
  rw [if_pos ⟨h, rfl⟩]
theorem t_mulA {ds : List PyData} {k : Nat} (h : ds ≠ []) (h2 : 2 ≤ k) (h3 : k ≤ 1000) (h4 : ds.length ≤ 1000) : oMulAny (.tuple ds) (nI k) = some (.val (.tuple (List.replicate k ds).flatten)) := by
  unfold oMulAny oRep1 oRep
  dsimp only
  rw [if_neg (by omega)]
  dsimp only
  rw [if_pos ⟨h, by omega, by omega, h4⟩, Int.toNat_natCast]
theorem l_repC {x : Option Nat} {k : Nat} (h : k < 100000) : oRep (.list [cell x]) (nI k) = some (.new ((List.replicate k x).map cell)) := by
  unfold oRep
  dsimp only
  rw [if_pos (by simp; omega), Int.toNat_natCast]
  congr 2
  induction k with
  | zero => rfl
  | succ n ih => rw [List.replicate_succ, List.flatten_cons, ih (by omega)]; rfl
theorem map_at {A : Type} {enc : A → PyData} {t : List A} {i : Nat} {d : PyData} (h : (t.map enc)[i]? = some d) : ∃ x, t[i]? = some x ∧ i < t.length ∧ d = enc x := by
  rw [List.getElem?_map] at h
  cases hx : t[i]? with
  | none => rw [hx] at h; cases h
  | some x => rw [hx] at h; cases h; exact ⟨x, rfl, lt_of_get hx, rfl⟩
theorem take_map_succ {A B : Type} (f : A → B) (enc : B → PyData) {t : List A} {i : Nat} {x : A} (h : t[i]? = some x) : ((t.take (i + 1)).map f).map enc = ((t.take i).map f).map enc ++ [enc (f x)] := by
  rw [List.take_succ, h, List.map_append, List.map_append]
  rfl
theorem rep_flat {A : Type} [Inhabited A] (t : List A) : ∀ m : Nat, (List.replicate m t).flatten = (List.range (m * t.length)).map fun c => t[c % t.length]!
  | 0 => by simp
  | m + 1 => by
    rw [List.replicate_succ', List.flatten_append, rep_flat t m, Nat.succ_mul, List.range_add, List.map_append, List.flatten_singleton, List.map_map]
    congr 1
    apply List.ext_getElem
    · simp
    · intro i h1 h2
      simp only [List.getElem_map, List.getElem_range, Function.comp]
      rw [Nat.mul_add_mod', Nat.mod_eq_of_lt h1, getElem!_pos t i h1]
def KOrT (g : S → Out Rv) (o : Out Rv) : Out Rv := o.bind fun r d => truO r g d (rd d r)
theorem KOrT_ (g : S → Out Rv) (r : Rv) (d : S) : KOrT g (.ok r d) = truO r g d (rd d r) := rfl
theorem w_OrT (f g : S → Out Rv) (dl : S) : dOrT f g dl = KOrT g (f dl) := rfl
theorem truO_n (r : Rv) (g : S → Out Rv) (d : S) : truO r g d (some .none) = g d := rfl
theorem truO_0 (r : Rv) (g : S → Out Rv) (d : S) : truO r g d (some (nI 0)) = g d := rfl
theorem truO_i {n : Nat} (r : Rv) (g : S → Out Rv) (d : S) (h : 0 < n) : truO r g d (some (nI n)) = .ok (.val (nI n)) d := by
  show (if ((n : Int) != 0) = true then _ else _) = _
  rw [if_pos (by simp; omega)]
def KUnpL (is : List Nat) (o : Out Rv) : Fl := o.fl fun r d => unpLO is d (rd d r)
theorem KUnpL_ (is : List Nat) (r : Rv) (d : S) : KUnpL is (.ok r d) = unpLO is d (rd d r) := rfl
theorem w_UnpL (is : List Nat) (f : S → Out Rv) (dl : S) : dUnpL is f dl = KUnpL is (f dl) := rfl
theorem unpLO_2 (i j : Nat) (d1 : S) (a b : PyData) : unpLO [i, j] d1 (some (.list [a, b])) = .nx ((d1.set i (.val a)).set j (.val b)) := rfl
theorem unpLO_3 (i j k : Nat) (d1 : S) (a b c : PyData) : unpLO [i, j, k] d1 (some (.list [a, b, c])) = .nx (((d1.set i (.val a)).set j (.val b)).set k (.val c)) := rfl
end DL

namespace DL
open PySem L2
def KItE (o : Out (List Rv)) : Out (List PyData) := o.bind fun rs d => itEO (stbs d rs)
theorem KItE_ (rs : List Rv) (d : S) : KItE (.ok rs d) = itEO (stbs d rs) := rfl
theorem w_ItE (f : S → Out (List Rv)) (dl : S) : dItE f dl = KItE (f dl) := rfl
theorem itEO_l (a : List PyData) (d : S) : itEO (some ([.list a], d)) = .ok (enumD a) d := rfl
theorem itEO_t (a : List PyData) (d : S) : itEO (some ([.tuple a], d)) = .ok (enumD a) d := rfl
def itZO : Option (List PyData × S) → Out (List PyData)
  | some ([.list a, .list b], d2) => .ok (zipD a b) d2
  | some ([.tuple a, .tuple b], d2) => .ok (zipD a b) d2
  | _ => .bad
theorem itZO_l (a b : List PyData) (d : S) : itZO (some ([.list a, .list b], d)) = .ok (zipD a b) d := rfl
theorem itZO_t (a b : List PyData) (d : S) : itZO (some ([.tuple a, .tuple b], d)) = .ok (zipD a b) d := rfl
def KItZ (o : Out (List Rv)) : Out (List PyData) := o.bind fun rs d => itZO (stbs d rs)
theorem KItZ_ (rs : List Rv) (d : S) : KItZ (.ok rs d) = itZO (stbs d rs) := rfl
theorem w_ItZ (f : S → Out (List Rv)) (dl : S) : dItZ f dl = KItZ (f dl) := by
  unfold dItZ KItZ itZO
  rfl
def enumL {A : Type} (xs : List A) : List (Nat × A) := xs.mapIdx fun i x => (i, x)
abbrev prE {A B : Type} (e : A → PyData) (e' : B → PyData) (p : A × B) : PyData := .tuple [e p.1, e' p.2]
theorem enumD_map {A : Type} (enc : A → PyData) (xs : List A) : enumD (xs.map enc) = (enumL xs).map (prE nI enc) := by
  unfold enumD enumL
  apply List.ext_getElem?
  intro i
  rw [List.getElem?_mapIdx, List.getElem?_map, List.getElem?_map, List.getElem?_mapIdx]
  cases xs[i]? <;> rfl
theorem enumL_len {A : Type} (xs : List A) : (enumL xs).length = xs.length := by unfold enumL; simp
theorem enumL_mem {A : Type} {xs : List A} {p : Nat × A} (h : p ∈ enumL xs) : xs[p.1]? = some p.2 := by
  obtain ⟨i, hi⟩ := List.getElem?_of_mem h
  unfold enumL at hi
  rw [List.getElem?_mapIdx] at hi
  cases hx : xs[i]? with
  | none => rw [hx] at hi; cases hi
  | some x => rw [hx] at hi; cases hi; exact hx
theorem zipD_map {A B : Type} (enc : A → PyData) (enc' : B → PyData) (xs : List A) (ys : List B) : zipD (xs.map enc) (ys.map enc') = (xs.zip ys).map (prE enc enc') := by
  unfold zipD
  rw [List.zip_map, List.map_map]
  rfl
/-- [f for v, u in ps if c] -/
theorem cmpP_go {A B C : Type} {v u : Nat} {c : S → Out Bool} {f : S → Out Rv} {dn : S} {e : A → PyData} {e' : B → PyData} (p : A × B → Bool) (g : A × B → C) (enc' : C → PyData) (hw : ∀ x y : Sl, ((((dn.set v x).set u y).set u .no).set v .no) = dn) : ∀ {xs : List (A × B)} {acc : List PyData},
    (∀ x ∈ xs, c ((dn.set v (.val (e x.1))).set u (.val (e' x.2))) = .ok (p x) ((dn.set v (.val (e x.1))).set u (.val (e' x.2))) ∧ (p x = true → ∃ r, f ((dn.set v (.val (e x.1))).set u (.val (e' x.2))) = .ok r ((dn.set v (.val (e x.1))).set u (.val (e' x.2))) ∧ stb ((dn.set v (.val (e x.1))).set u (.val (e' x.2))) r = some (enc' (g x), (dn.set v (.val (e x.1))).set u (.val (e' x.2))))) →
    acc.length + xs.length ≤ 100000 → compD [v, u] (tgT [v, u]) c f (xs.map (prE e e')) dn acc = some (acc ++ ((xs.filter p).map g).map enc', dn)
  | [], acc, _, _ => by unfold compD; simp
  | x :: xs, acc, h, hl => by
    obtain ⟨e2, h2⟩ := h x List.mem_cons_self
    have hwx : wipeD ((dn.set v (.val (e x.1))).set u (.val (e' x.2))) [v, u] = dn := hw _ _
    rw [List.length_cons] at hl
    rw [List.map_cons]
    unfold compD
    rw [w_tg2]
    dsimp only
    rw [e2]
    cases hp : p x with
    | false =>
      dsimp only
      rw [hwx, cmpP_go p g enc' hw (fun y hy => h y (List.mem_cons_of_mem _ hy)) (by omega)]
      simp [hp]
    | true =>
      obtain ⟨r, e3, e4⟩ := h2 hp
      dsimp only
      rw [e3]
      dsimp only
      rw [e4]
      dsimp only
      rw [if_pos (by omega), hwx, cmpP_go p g enc' hw (fun y hy => h y (List.mem_cons_of_mem _ hy)) (by rw [List.length_append, List.length_singleton]; omega)]
      simp [hp]
theorem cmpP {A B C : Type} {v u : Nat} {c : S → Out Bool} {f : S → Out Rv} {d1 dn : S} {e : A → PyData} {e' : B → PyData} {xs : List (A × B)} (p : A × B → Bool) (g : A × B → C) (enc' : C → PyData)
    (h : ∀ x ∈ xs, c ((dn.set v (.val (e x.1))).set u (.val (e' x.2))) = .ok (p x) ((dn.set v (.val (e x.1))).set u (.val (e' x.2))) ∧ (p x = true → ∃ r, f ((dn.set v (.val (e x.1))).set u (.val (e' x.2))) = .ok r ((dn.set v (.val (e x.1))).set u (.val (e' x.2))) ∧ stb ((dn.set v (.val (e x.1))).set u (.val (e' x.2))) r = some (enc' (g x), (dn.set v (.val (e x.1))).set u (.val (e' x.2)))))
    (hl : xs.length ≤ 100000) (hw : ∀ x y : Sl, ((((dn.set v x).set u y).set u .no).set v .no) = dn := by intros; rfl) (hr : (dn.set u (d1[u]?.getD .no)).set v (d1[v]?.getD .no) = d1 := by rfl) :
    endC d1 [v, u] (compD [v, u] (tgT [v, u]) c f (xs.map (prE e e')) dn []) = .ok (.new (((xs.filter p).map g).map enc')) d1 := by
  rw [cmpP_go p g enc' hw h (by simpa using hl), ev_endC, List.nil_append]
  congr 1
theorem cmpPM {A B C : Type} {v u : Nat} {f : S → Out Rv} {d1 dn : S} {e : A → PyData} {e' : B → PyData} {xs : List (A × B)} (g : A × B → C) (enc' : C → PyData)
    (h : ∀ x ∈ xs, ∃ r, f ((dn.set v (.val (e x.1))).set u (.val (e' x.2))) = .ok r ((dn.set v (.val (e x.1))).set u (.val (e' x.2))) ∧ stb ((dn.set v (.val (e x.1))).set u (.val (e' x.2))) r = some (enc' (g x), (dn.set v (.val (e x.1))).set u (.val (e' x.2))))
    (hl : xs.length ≤ 100000) (hw : ∀ x y : Sl, ((((dn.set v x).set u y).set u .no).set v .no) = dn := by intros; rfl) (hr : (dn.set u (d1[u]?.getD .no)).set v (d1[v]?.getD .no) = d1 := by rfl) :
    endC d1 [v, u] (compD [v, u] (tgT [v, u]) dYes f (xs.map (prE e e')) dn []) = .ok (.new ((xs.map g).map enc')) d1 := by
  rw [cmpP (c := dYes) (fun _ => true) g enc' (fun x hx => ⟨rfl, fun _ => h x hx⟩) hl hw hr, List.filter_eq_self.mpr (fun _ _ => rfl)]
/-- [v for v in xs if c], c drawing: some of them, in their order -/
theorem sub_go {A : Type} {v : Nat} {c : S → Out Bool} {enc : A → PyData} (I : S → Prop) : ∀ {xs : List A} {dn : S} {acc : List PyData}, I dn →
    (∀ x dn, x ∈ xs → I dn → ∃ b d2, c (dn.set v (.val (enc x))) = .ok b d2 ∧ I (d2.set v .no) ∧ d2[v]? = some (.val (enc x))) → acc.length + xs.length ≤ 100000 →
    ∃ ys dn', List.Sublist ys xs ∧ compD [v] (tgN v) c (dVar v) (xs.map enc) dn acc = some (acc ++ ys.map enc, dn') ∧ I dn'
  | [], dn, acc, h0, _, _ => ⟨[], dn, .slnil, by unfold compD; simp, h0⟩
  | x :: xs, dn, acc, h0, h, hl => by
    obtain ⟨b, d2, e1, i2, e2⟩ := h x dn List.mem_cons_self h0
    rw [List.length_cons] at hl
    rw [List.map_cons]
    unfold compD
    rw [ev_tgN]
    dsimp only
    rw [e1]
    cases b with
    | false =>
      obtain ⟨ys, dn', s, e, i⟩ := sub_go I (xs := xs) (dn := d2.set v .no) (acc := acc) i2 (fun y dn hy => h y dn (List.mem_cons_of_mem _ hy)) (by omega)
      exact ⟨ys, dn', .cons _ s, e, i⟩
    | true =>
      obtain ⟨ys, dn', s, e, i⟩ := sub_go I (xs := xs) (dn := d2.set v .no) (acc := acc ++ [enc x]) i2 (fun y dn hy => h y dn (List.mem_cons_of_mem _ hy)) (by rw [List.length_append, List.length_singleton]; omega)
      refine ⟨x :: ys, dn', .cons₂ _ s, ?_, i⟩
      dsimp only
      rw [ev_var, e2]
      dsimp only
      rw [ev_stbv]
      dsimp only
      rw [if_pos (by omega)]
      rw [show wipeD d2 [v] = d2.set v .no from rfl, e, List.append_assoc]
      rfl
theorem wc_sub {A : Type} {v : Nat} {c : S → Out Bool} {enc : A → PyData} {xs : List A} {d1 dn : S} {P : Out Rv → Prop} (I : S → Prop) (h0 : I dn) (hs : ∀ x dn, x ∈ xs → I dn → ∃ b d2, c (dn.set v (.val (enc x))) = .ok b d2 ∧ I (d2.set v .no) ∧ d2[v]? = some (.val (enc x))) (hl : xs.length ≤ 100000)
    (hk : ∀ ys dn', List.Sublist ys xs → I dn' → P (.ok (.new (ys.map enc)) (restD d1 [v] dn'))) : P (endC d1 [v] (compD [v] (tgN v) c (dVar v) (xs.map enc) dn [])) := by
  obtain ⟨ys, dn', s, e, i⟩ := sub_go I (acc := []) h0 hs (by simpa using hl)
  rw [e, ev_endC, List.nil_append]
  exact hk ys dn' s i
theorem zip_self {A : Type} : ∀ (r : List A) (p : A × A), p ∈ r.zip r → p.1 = p.2 ∧ p.1 ∈ r
  | [], p, h => by simp at h
  | a :: r, p, h => by
    rw [List.zip_cons_cons] at h
    rcases List.mem_cons.mp h with rfl | h
    · exact ⟨rfl, List.mem_cons_self⟩
    · obtain ⟨h1, h2⟩ := zip_self r p h
      exact ⟨h1, List.mem_cons_of_mem _ h2⟩
def callT (n : Nat) (g : Fn) (st : List PyData) : Option (List PyData × S) → Out Rv
  | some (ds, d3) => if ds.length + 1 = n then asE (g st ds) d3 else .bad
  | none => .bad
theorem cT1 (g : Fn) (st : List PyData) (d : S) : callT 1 g st (some ([], d)) = asE (g st []) d := rfl
theorem cT2 (g : Fn) (st : List PyData) (a : PyData) (d : S) : callT 2 g st (some ([a], d)) = asE (g st [a]) d := rfl
theorem cT3 (g : Fn) (st : List PyData) (a b : PyData) (d : S) : callT 3 g st (some ([a, b], d)) = asE (g st [a, b]) d := rfl
def KCallT2 (n : Nat) (g : Fn) (st : List PyData) : Out (List Rv) → Out Rv
  | .ok rs d => callT n g st (stbs d rs)
  | _ => .bad
theorem KCallT2_ (n : Nat) (g : Fn) (st : List PyData) (rs : List Rv) (d : S) : KCallT2 n g st (.ok rs d) = callT n g st (stbs d rs) := rfl
def KCallT (n : Nat) (g : Fn) (fr : S → Out (List Rv)) : Out Rv → Out Rv
  | .ok (.new st) d => KCallT2 n g st (fr d)
  | _ => .bad
theorem KCallT_ (n : Nat) (g : Fn) (fr : S → Out (List Rv)) (st : List PyData) (d : S) : KCallT n g fr (.ok (.new st) d) = KCallT2 n g st (fr d) := rfl
theorem w_CallT (n : Nat) (g : Fn) (f0 : S → Out Rv) (fr : S → Out (List Rv)) (dl : S) : dCallT n g f0 fr dl = KCallT n g fr (f0 dl) := by
  unfold dCallT KCallT
  cases f0 dl with
  | bad => rfl
  | ex c d => rfl
  | ok r d =>
    cases r with
    | val _ => rfl
    | loc _ => rfl
    | new st =>
      dsimp only
      unfold KCallT2
      cases fr d with
      | bad => rfl
      | ex c d => rfl
      | ok rs d2 =>
        dsimp only
        unfold callT
        cases stbs d2 rs <;> rfl
theorem flat_take {A B C : Type} [Inhabited A] [Inhabited B] (F : B → A → C) (t1 : List A) (t2 : List B) : ∀ m, m ≤ t2.length → (t2.take m).flatMap (fun y => t1.map (F y)) = (List.range (m * t1.length)).map (fun c => F t2[c / t1.length]! t1[c % t1.length]!)
  | 0, _ => by simp
  | m + 1, h => by
    have hm : m < t2.length := by omega
    rw [List.take_succ, List.getElem?_eq_getElem hm, List.flatMap_append, flat_take F t1 t2 m (by omega), Nat.succ_mul, List.range_add, List.map_append]
    congr 1
    simp only [Option.toList_some, List.flatMap_cons, List.flatMap_nil, List.append_nil, List.map_map]
    apply List.ext_getElem
    · simp
    · intro i h1 h2
      have h1' : i < t1.length := by simpa using h1
      simp only [List.getElem_map, List.getElem_range, Function.comp]
      rw [Nat.mul_add_mod', Nat.mod_eq_of_lt h1', Nat.mul_comm m, Nat.mul_add_div (by omega), Nat.div_eq_of_lt h1', Nat.add_zero, getElem!_pos t1 i h1', getElem!_pos t2 m hm]
theorem enumL_range {A : Type} [Inhabited A] (t : List A) : enumL t = (List.range t.length).map fun c => (c, t[c]!) := by
  unfold enumL
  apply List.ext_getElem
  · simp
  · intro i h1 h2
    have : i < t.length := by simpa using h2
    rw [List.getElem_mapIdx, List.getElem_map, List.getElem_range, getElem!_pos t i this]
end DL

namespace DL
open PySem L2
theorem strOk_of (s : String) : PyData.strOk (Str.ofString s) = true := by
  rw [Str.ofString_eq_toList]
  unfold PyData.strOk
  rw [List.all_toArray, List.all_eq_true]
  intro n hn
  obtain ⟨c, _, rfl⟩ := List.mem_map.mp hn
  have h := c.valid
  rw [decide_eq_true_eq]
  show c.val.toNat < 0x110000
  rcases h with h | h
  · have : c.val.toNat < 0xd800 := h
    omega
  · exact h.2
theorem n_str {n : Nat} (h : n < 1000000) : ∃ x : Str, bStr [nI n] = some (.val (.str x)) ∧ PyData.strOk x = true := by
  refine ⟨toString (n : Int), ?_, strOk_of _⟩
  unfold bStr
  dsimp only
  rw [if_pos (by omega)]
/-! what any data is -/
def isTup : PyData → Bool
  | .tuple _ => true
  | _ => false
def isStr : PyData → Bool
  | .str _ => true
  | _ => false
def isInt : PyData → Bool
  | .int _ => true
  | _ => false
theorem a_tup {k : Nat} {d : PyData} (h : ShD k d) : oIsi "tuple" d = vB (isTup d) := by
  cases d with
  | none => exact i_tupN
  | bool b => exact i_tupB b
  | int i => exact i_tupI i
  | str x => exact i_tupS x
  | list ds => exact i_tupL ds
  | tuple ds => exact i_tupT ds
  | dict kvs => have := h.1; simp [PyData.canLay0] at this
theorem i_strS (x : Str) : oIsi "str" (.str x) = vB true := isi_of (by rw [show tyD (.str x) = "str" from rfl]; decide +kernel)
theorem a_str {k : Nat} {d : PyData} (h : ShD k d) : oIsi "str" d = vB (isStr d) := by
  cases d with
  | none => exact isi_of (by rw [show tyD .none = "NoneType" from rfl]; decide +kernel)
  | bool b => exact isi_of (b := false) (by rw [show tyD (.bool b) = "bool" from rfl]; decide +kernel)
  | int i => exact isi_of (b := false) (by rw [show tyD (.int i) = "int" from rfl]; decide +kernel)
  | str x => exact i_strS x
  | list ds => exact isi_of (b := false) (by rw [show tyD (.list ds) = "list" from rfl]; decide +kernel)
  | tuple ds => exact isi_of (b := false) (by rw [show tyD (.tuple ds) = "tuple" from rfl]; decide +kernel)
  | dict kvs => have := h.1; simp [PyData.canLay0] at this
def eqStr (s : Str) : PyData → Bool
  | .str x => x == s
  | _ => false
theorem a_neS {k : Nat} {d : PyData} {s : Str} (h : ShD k d) (hk : k ≤ 64) (hs : PyData.strOk s = true) : oNe d (.str s) = vB (!eqStr s d) := by
  unfold oNe
  rw [h.sh hk, (sd_str (k := 0) hs).sh (by decide)]
  cases d <;> first | rfl | (simp only [PyData.eqv, eqStr]; rfl)
theorem a_eqS {k : Nat} {d : PyData} {s : Str} (h : ShD k d) (hk : k ≤ 64) (hs : PyData.strOk s = true) : oEq d (.str s) = vB (eqStr s d) := by
  unfold oEq
  rw [h.sh hk, (sd_str (k := 0) hs).sh (by decide)]
  cases d <;> first | rfl | (simp only [PyData.eqv, eqStr]; rfl)
/-- cuts of a table of so many things -/
def cutOf (L : Nat) : PyData → Option Nat
  | .int i => if 0 ≤ i ∧ i < (L : Int) then some i.toNat else none
  | _ => none
theorem cutOf_some {L c : Nat} {d : PyData} (h : cutOf L d = some c) : d = nI c ∧ c < L := by
  cases d with
  | int i =>
    unfold cutOf at h
    dsimp only at h
    split at h
    · cases h
      rename_i hi
      refine ⟨?_, by omega⟩
      unfold nI
      congr 1
      omega
    · cases h
  | _ => cases h
theorem cutOf_n {L c : Nat} (h : c < L) : cutOf L (nI c) = some c := by
  unfold cutOf
  dsimp only
  rw [if_pos (by omega), Int.toNat_natCast]
theorem sd_tup_at {k : Nat} {ds : List PyData} (h : ShD (k + 1) (.tuple ds)) : ∀ d ∈ ds, ShD k d := by
  obtain ⟨h1, h2⟩ := h
  have h1' : PyData.canLayAll0 ds = true := by simpa [PyData.canLay0] using h1
  have h2' : PyData.depthAll ds ≤ k := by simp [PyData.depth] at h2; omega
  clear h1 h2
  induction ds with
  | nil => intro d hd; simp at hd
  | cons a ds ih =>
    simp [PyData.canLayAll0] at h1'
    simp [PyData.depthAll] at h2'
    intro d hd
    rcases List.mem_cons.mp hd with rfl | hd
    · exact ⟨h1'.1, by omega⟩
    · exact ih h1'.2 (by omega) d hd
/-! a loop over few things, turn by turn -/
def forK2 (put : S → PyData → Option S) (body : S → Fl) (ds : List PyData) : Fl → Fl
  | .nx d2 => forD put body ds d2
  | .cnt d2 => forD put body ds d2
  | .brk d2 => .nx d2
  | o => o
def forK (put : S → PyData → Option S) (body : S → Fl) (ds : List PyData) : Option S → Fl
  | some d1 => forK2 put body ds (body d1)
  | none => .bad
theorem w_for1 (put : S → PyData → Option S) (body : S → Fl) (d : PyData) (ds : List PyData) (dl : S) : forD put body (d :: ds) dl = forK put body ds (put dl d) := by
  rw [ev_for1]
  cases put dl d with
  | none => rfl
  | some d1 =>
    dsimp only
    show _ = forK2 put body ds (body d1)
    generalize body d1 = o
    cases o <;> rfl
theorem forK_ (put : S → PyData → Option S) (body : S → Fl) (ds : List PyData) (d1 : S) : forK put body ds (some d1) = forK2 put body ds (body d1) := rfl
theorem forK2_n (put : S → PyData → Option S) (body : S → Fl) (ds : List PyData) (d : S) : forK2 put body ds (.nx d) = forD put body ds d := rfl
theorem forK2_c (put : S → PyData → Option S) (body : S → Fl) (ds : List PyData) (d : S) : forK2 put body ds (.cnt d) = forD put body ds d := rfl
theorem forK2_b (put : S → PyData → Option S) (body : S → Fl) (ds : List PyData) (d : S) : forK2 put body ds (.brk d) = .nx d := rfl
theorem forK2_r (put : S → PyData → Option S) (body : S → Fl) (ds : List PyData) (r : Rv) (d : S) : forK2 put body ds (.ret r d) = .ret r d := rfl
theorem sd_t1 {k : Nat} {a : PyData} (ha : ShD k a) : ShD (k + 1) (.tuple [a]) := sd_tup fun d hd => by
  simp only [List.mem_cons, List.not_mem_nil, or_false] at hd
  subst hd
  exact ha
theorem sd_t2 {k : Nat} {a b : PyData} (ha : ShD k a) (hb : ShD k b) : ShD (k + 1) (.tuple [a, b]) := sd_tup fun d hd => by
  simp only [List.mem_cons, List.not_mem_nil, or_false] at hd
  rcases hd with rfl | rfl
  · exact ha
  · exact hb
theorem sd_t3 {k : Nat} {a b c : PyData} (ha : ShD k a) (hb : ShD k b) (hc : ShD k c) : ShD (k + 1) (.tuple [a, b, c]) := sd_tup fun d hd => by
  simp only [List.mem_cons, List.not_mem_nil, or_false] at hd
  rcases hd with rfl | rfl | rfl
  · exact ha
  · exact hb
  · exact hc
theorem sd_t4 {k : Nat} {a b c d : PyData} (ha : ShD k a) (hb : ShD k b) (hc : ShD k c) (hd : ShD k d) : ShD (k + 1) (.tuple [a, b, c, d]) := sd_tup fun d hd => by
  simp only [List.mem_cons, List.not_mem_nil, or_false] at hd
  rcases hd with rfl | rfl | rfl | rfl
  · exact ha
  · exact hb
  · exact hc
  · exact hd
theorem sd_t5 {k : Nat} {a b c d e : PyData} (ha : ShD k a) (hb : ShD k b) (hc : ShD k c) (hd : ShD k d) (he : ShD k e) : ShD (k + 1) (.tuple [a, b, c, d, e]) := sd_tup fun d hd => by
  simp only [List.mem_cons, List.not_mem_nil, or_false] at hd
  rcases hd with rfl | rfl | rfl | rfl | rfl
  · exact ha
  · exact hb
  · exact hc
  · exact hd
  · exact he
theorem sd_l1 {k : Nat} {a : PyData} (ha : ShD k a) : ShD (k + 1) (.list [a]) := sd_list fun d hd => by
  simp only [List.mem_cons, List.not_mem_nil, or_false] at hd
  subst hd
  exact ha
theorem sd_l2 {k : Nat} {a b : PyData} (ha : ShD k a) (hb : ShD k b) : ShD (k + 1) (.list [a, b]) := sd_list fun d hd => by
  simp only [List.mem_cons, List.not_mem_nil, or_false] at hd
  rcases hd with rfl | rfl
  · exact ha
  · exact hb
theorem sd_l3 {k : Nat} {a b c : PyData} (ha : ShD k a) (hb : ShD k b) (hc : ShD k c) : ShD (k + 1) (.list [a, b, c]) := sd_list fun d hd => by
  simp only [List.mem_cons, List.not_mem_nil, or_false] at hd
  rcases hd with rfl | rfl | rfl
  · exact ha
  · exact hb
  · exact hc
theorem sd_l4 {k : Nat} {a b c d : PyData} (ha : ShD k a) (hb : ShD k b) (hc : ShD k c) (hd : ShD k d) : ShD (k + 1) (.list [a, b, c, d]) := sd_list fun d hd => by
  simp only [List.mem_cons, List.not_mem_nil, or_false] at hd
  rcases hd with rfl | rfl | rfl | rfl
  · exact ha
  · exact hb
  · exact hc
  · exact hd
theorem sd_l5 {k : Nat} {a b c d e : PyData} (ha : ShD k a) (hb : ShD k b) (hc : ShD k c) (hd : ShD k d) (he : ShD k e) : ShD (k + 1) (.list [a, b, c, d, e]) := sd_list fun d hd => by
  simp only [List.mem_cons, List.not_mem_nil, or_false] at hd
  rcases hd with rfl | rfl | rfl | rfl | rfl
  · exact ha
  · exact hb
  · exact hc
  · exact hd
  · exact he
theorem sd_t0 {k : Nat} : ShD (k + 1) (.tuple []) := sd_tup fun d hd => by simp at hd
theorem sd_l0 {k : Nat} : ShD (k + 1) (.list []) := sd_list fun d hd => by simp at hd
theorem ShD.up {k m : Nat} {d : PyData} (h : ShD k d) (hm : k ≤ m) : ShD m d := ⟨h.1, Nat.le_trans h.2 hm⟩
theorem pk {ds : List PyData} {i : Nat} {T : Option Rv → Prop} (P : PyData → Prop) (h : i < ds.length) (hp : ∀ d ∈ ds, P d) (hk : ∀ d, P d → T (some (.val d))) : T (oIx (.list ds) (nI i)) := by
  obtain ⟨d, e, hd⟩ := l_pick P h hp
  rw [e]
  exact hk d hd
theorem sub_and (a b : Nat) : a - (a &&& b) = a ^^^ (a &&& b) := by
  have h := xor_and_or a a (a &&& b) (Nat.le_refl _)
  rw [← Nat.and_assoc, Nat.and_self] at h
  have h2 : a ||| (a &&& b) = a := by
    apply Nat.eq_of_testBit_eq
    intro i
    rw [Nat.testBit_or, Nat.testBit_and]
    cases a.testBit i <;> simp
  rw [h2] at h
  omega
theorem bit_sub (a b s : Nat) : (a - (a &&& b)).testBit s = (a.testBit s && !b.testBit s) := by
  rw [sub_and, Nat.testBit_xor, Nat.testBit_and]
  cases a.testBit s <;> cases b.testBit s <;> rfl
theorem allP_map : ∀ ps : List (Int × Int), allP (ps.map prI) = some ps
  | [] => rfl
  | p :: ps => by
    show (allP (ps.map prI)).map (fun qs => (p.1, p.2) :: qs) = _
    rw [allP_map ps]
    rfl
theorem b_sortP (ps : List (Int × Int)) : bSortP [.list (ps.map prI)] = some (.new ((sortP ps).map prI)) := by
  show (allP (ps.map prI)).bind _ = _
  rw [allP_map]
  rfl
/-- the first of sorted pairs is the least -/
theorem sortP_head {ps : List (Int × Int)} {p : Int × Int} {qs : List (Int × Int)} (h : sortP ps = p :: qs) : p ∈ ps ∧ ∀ x ∈ ps, SrtO.lexB x p = false := by
  have hp := sortP_perm ps
  rw [h] at hp
  have hs := sortP_sorted ps
  rw [h] at hs
  refine ⟨hp.mem_iff.mp List.mem_cons_self, fun x hx => ?_⟩
  rcases List.mem_cons.mp (hp.mem_iff.mpr hx) with rfl | hx
  · exact SrtO.lexB_no.mpr (by omega)
  · exact (List.pairwise_cons.mp hs).1 x hx
end DL

namespace DL
open PySem PySem.Spec L2 PyProof.Rows
/-! ### sorted(set(list of ints)) -/
section
variable {P : Program} {w : World} {A : Around} {E : Value → Shared → Prop} {s : Shared}
/-- a new set -/
abbrev eS (w : World) : Obj := { cls := .type "set", dict := none, data := .set #[] 0 (.fresh 0 0 (!w.params.followText "set-order")) }
/-- the heap behind set(list): the members at the first new place, what was there stays -/
def FillS (w : World) (s : Shared) (ns : List Int) (s2 : Shared) : Prop := ∃ h' tk c, s2 = { s with heap := h', toks := tk } ∧ SetR w h' s.heap.objs.size (fun j => decide (j ∈ ns)) c ∧ c ≤ ns.length ∧ ∀ b o, s.heap.get? b = some o → h'.get? b = some o
set_option maxHeartbeats 3200000 in
theorem call_setL {l : Addr} {items : Array Value} (ns : List Int) {Q : Value → Shared → Prop} (hh : A.handled = none) (hl : s.heap.IsList l items) (hit : IntsAre items.toList ns) (hb : ns.length + 1 < scanBound)
    (h : ∀ s2, FillS w s ns s2 → Q (.ref s.heap.objs.size) s2) : wpAny (model P w) A (call (.type "set") [.ref l]) Q E s := by
  have hisz : items.size = ns.length := by
    rw [← Array.length_toList]
    exact IntsAre.length hit
  obtain ⟨c, tl, hmro⟩ := F.called_set.mro
  have a1 := F.called_set.made
  have a2 := F.called_set.sub
  have a3 := F.called_set.notType
  have a4 := F.called_set.canCreate
  have a5 := F.typeCall_set_1 (.ref l)
  refine wpAny_call (codeAny_of_tree ?_)
  show wpAny _ _ (callAny (.type "set") _) _ _ _
  refine wpAny_pure ⟨Code.quiet_builtin _ (by decide +kernel), codeAny_builtin F.entry_type_call ?_⟩
  rw [Around.under_plain (weight_type_call_type "set" [.ref l] []) rfl]
  repeat (any_goals (first | assumption | wp_step))
  refine codeAny_mono (code_set_led1 (.ref l) (E := E) (Q₁ := fun v t => v = .ref s.heap.objs.size ∧ t = { s with heap := s.heap.push (eS w) }) ⟨rfl, rfl⟩) fun r s1 hr => ?_
  cases r with
  | error e => exact hr
  | ok fl =>
    cases fl with
    | ret obj =>
      obtain ⟨rfl, rfl⟩ := hr
      have g1 : (s.heap.push (eS w)).get? s.heap.objs.size = some (eS w) := Heap.get?_push_size _ rfl
      have g2 : Shared.TypeIs { s with heap := s.heap.push (eS w) } (.ref s.heap.objs.size) "set" := ⟨_, g1, rfl⟩
      have g3 := F.called_set.init.lookup
      have g4 := F.called_set.init.bind (.ref s.heap.objs.size)
      repeat (any_goals (first | assumption | wp_step))
      refine codeAny_mono (codeAny_call_builtin (R := wants (fun v t => v = .none ∧ FillS w s ns t) E) F.called_set.init.plain F.entry_set_init (check_set_init_1 g2 ?_)) fun r2 s2 hr2 => ?_
      · obtain ⟨⟨oc, od, ot, osl⟩, hol, hcl, nl, hdl⟩ := hl
        simp only at hcl hdl
        subst hcl hdl
        have g5 : (s.heap.push (eS w)).get? l = some { cls := .type "list", dict := od, data := .seq items nl, slots := osl } := Heap.get?_push_of_some _ hol
        have g6 := F.sub_list_set
        have g7 := F.sub_list_frozenset
        have g8 : (Value.type "list" == Value.type "dict") = false := by decide
        have g9 : (s.heap.push (eS w)).IsList l items := ⟨_, g5, rfl, nl, rfl⟩
        have lS : l < s.heap.objs.size := Heap.lt_size hol
        have h3 : A.in1.in1.in1.handled = none := by simp [hh]
        have sz : (s.heap.push (eS w)).objs.size = s.heap.objs.size + 1 := Heap.size_push ..
        unfold Builtin.«set.__init__» noKeywords Builtin.Frozenset.updateFrom
        generalize hPI : pyIter = PI
        wp_walk
        subst hPI
        refine wpAny_pyIter_list g9 ?_
        refine wpAny_bind (wpAny_runValue ?_)
        refine set_update_ints ((Walks.list h3 _ l (by rw [sz]; exact Nat.ne_of_lt (Nat.lt_succ_of_lt lS)) items).toS) s.heap.objs.size (by
            rw [sz]
            simp only [List.mem_cons, List.not_mem_nil, or_false, not_or]
            exact ⟨Nat.ne_of_lt (Nat.lt_succ_self _), Nat.ne_of_gt lS⟩) ns hisz hb (fun i v hv => ?_) (items.size - 0) 0 _ (by omega) (Nat.zero_le _)
          ⟨⟨_, Heap.get?_push_size _ rfl, rfl, rfl⟩, (g9.push _)⟩ ⟨0, Nat.le_refl 0, setR_new_at (Heap.get?_push_of_some _ g1)⟩ fun s' c' hm hc' hS' => ?_
        · have hi : i < ns.length := by rw [← hisz]; exact (Array.getElem?_eq_some_iff.mp hv).1
          obtain ⟨t, e⟩ := IntsAre.int_at hit i v (by rw [Array.getElem?_toList]; exact hv)
          refine ⟨ns[i], t, List.getElem?_eq_getElem hi, ?_⟩
          rw [e, List.getD_eq_getElem?_getD, List.getElem?_eq_getElem hi]
          rfl
        · obtain ⟨h', g', d', tk', os'⟩ := s'
          obtain rfl : g' = s.gens := hm.gens
          obtain rfl : d' = s.drawn := hm.drawn
          obtain rfl : os' = s.os := hm.os
          show wpAny _ _ _ _ _ _
          refine wpAny_pure ?_
          show wpAny _ _ (ret Value.none) _ _ _
          refine wpAny_pure ⟨rfl, h', tk', c', rfl, hS', by rw [← hisz]; exact hc', fun b o e => ?_⟩
          have hb0 : b < s.heap.objs.size := Heap.lt_size e
          refine hm.heap b o ?_ (Heap.get?_push_of_some _ (Heap.get?_push_of_some _ e))
          rw [sz]
          simp only [List.mem_cons, List.not_mem_nil, or_false, not_or]
          exact ⟨Nat.ne_of_lt hb0, Nat.ne_of_lt (Nat.lt_succ_of_lt hb0)⟩
      · cases r2 with
        | error e => exact hr2
        | ok fl2 =>
          cases fl2 with
          | ret v =>
            obtain ⟨rfl, hf⟩ := hr2
            repeat (any_goals (first | assumption | wp_step))
            exact h _ hf
          | _ => exact hr2.elim
    | _ => exact hr.elim
end
def rSrtS (K : PySem.W.Frag) : List V → Hp → VK → Prop := fun vs H Q => ∃ (l : Addr) (ns : List Int), vs = [V.ref l] ∧ SqL K H l (ns.map V.int) ∧ ns.length < 64 ∧
  ∀ (ms : List Int) (p : Addr), ms.Pairwise (· < ·) → (∀ k, k ∈ ms ↔ k ∈ ns) → H p = none → Q (.ref p) (upd H p (.lst (ms.map V.int)))
section
variable {X : Cx} {W : WX} {K : PySem.W.Frag}
theorem pe_srtS {e : Expr} {t : TA} {p p2 q pos : Pos} (hc : X.calm = true) (hg : Gl X "sorted") (hm : X.mg "sorted" = none) (hg2 : Gl X "set") (hm2 : X.mg "set" = none) (ha : PA X [e] t)
    (na : starEach [e] X.env = (false, eval e X.env) :: starEach [] X.env) : PE X (.Call (.Name "sorted" p) [.Call (.Name "set" p2) [e] [] q] [] pos) (tCB (rSrtS X.K) t) := by
  refine ⟨fun pins s σ H Q I h => ?_⟩
  refine wpAny_Call_Name_kw (ld_blt I hg hm (by decide +kernel : bootBuiltins "sorted" = some (.builtin "sorted")) ?_ (by decide) (by decide))
  refine PyProof.Rows.callWith_builtin1 (PyProof.Rows.args_cons ?_ rfl) rfl rfl
  refine wpAny_Call_Name_kw (ld_blt I hg2 hm2 PyProof.Rows.boot_set ?_ (by decide) (by decide))
  refine PyProof.Rows.callWith_type1 (thn (ha.run q pins s σ H _ I h) fun us s1 ⟨vs, H1, I1, r1, q1⟩ => ?_) na rfl
  obtain ⟨l, ns, rfl, hq, h64, q1⟩ := q1
  rw [Vals.ref1 r1]
  obtain ⟨its, r, pl, hz⟩ := I1.list hq
  refine call_setL ns (I1.ok.hd hc) pl.isList (by simpa using r.ints) (by unfold scanBound; omega) fun s2 ⟨h', tk, c, e2, hS, hc', hk⟩ => ?_
  subst e2
  refine PyProof.Rows.args_nil ?_
  have I2 : Inv X pins σ H1 { s1 with heap := h', toks := tk } := I1.kept hk
  refine sorted_set hS (I2.ok.hd hc) (by omega) fun s' p out c2 ms k g o hp hg hi hs hm hl => ?_
  have hlen : (ms.map V.int).length ≤ sizeLine := by rw [List.length_map, hl, sizeLine_eq]; omega
  have hn : H1 p = none := I2.hok.fresh hp
  have J : Inv X pins σ (upd H1 p (.lst (ms.map V.int))) { ({ s1 with heap := h', toks := tk } : Shared) with heap := s'.heap, gens := s'.gens, drawn := s'.drawn, toks := s'.toks } :=
    I2.call (ch := []) (Un.laid k hp hn) (I2.hok.laid k hp ⟨hlen, out.toList, c2, vals_of_ints hi, hg⟩) (by rw [g]; exact I2.bare) (fun _ z => nomatch z)
  have es : s' = { ({ s1 with heap := h', toks := tk } : Shared) with heap := s'.heap, gens := s'.gens, drawn := s'.drawn, toks := s'.toks } := by
    cases s'
    cases s1
    cases o
    rfl
  rw [es]
  exact ⟨.ref p, _, J, rfl, q1 ms p hs (fun k => by rw [hm k]; simp) hn⟩
/-- rising, each once -/
def insU (i : Int) : List Int → List Int
  | [] => [i]
  | j :: js => if i < j then i :: j :: js else if i = j then j :: js else j :: insU i js
def srtU : List Int → List Int
  | [] => []
  | i :: is => insU i (srtU is)
theorem mem_insU {i k : Int} : ∀ {l : List Int}, k ∈ insU i l ↔ k = i ∨ k ∈ l
  | [] => by simp [insU]
  | j :: js => by
    unfold insU
    split
    · simp
    · split
      · rename_i h; subst h; simp
      · simp only [List.mem_cons, mem_insU (l := js)]
        constructor <;> rintro (h | h | h) <;> simp [h]
theorem insU_up {i : Int} : ∀ {l : List Int}, l.Pairwise (· < ·) → (insU i l).Pairwise (· < ·)
  | [], _ => by simp [insU]
  | j :: js, h => by
    have h' := List.pairwise_cons.mp h
    unfold insU
    split
    · rename_i q
      refine List.pairwise_cons.mpr ⟨fun a ha => ?_, h⟩
      rcases List.mem_cons.mp ha with rfl | ha
      · exact q
      · exact Int.lt_trans q (h'.1 a ha)
    · split
      · exact h
      · refine List.pairwise_cons.mpr ⟨fun a ha => ?_, insU_up h'.2⟩
        rcases mem_insU.mp ha with rfl | ha
        · omega
        · exact h'.1 a ha
theorem mem_srtU {k : Int} : ∀ {l : List Int}, k ∈ srtU l ↔ k ∈ l
  | [] => Iff.rfl
  | i :: is => by
    show k ∈ insU i (srtU is) ↔ _
    rw [mem_insU, mem_srtU (l := is), List.mem_cons]
theorem srtU_up : ∀ {l : List Int}, (srtU l).Pairwise (· < ·)
  | [] => List.Pairwise.nil
  | i :: is => insU_up (srtU_up (l := is))
theorem up_uniq : ∀ {l m : List Int}, l.Pairwise (· < ·) → m.Pairwise (· < ·) → (∀ k, k ∈ l ↔ k ∈ m) → l = m
  | [], [], _, _, _ => rfl
  | [], b :: m, _, _, h => by have := (h b).mpr List.mem_cons_self; cases this
  | a :: l, [], _, _, h => by have := (h a).mp List.mem_cons_self; cases this
  | a :: l, b :: m, hl, hm, h => by
    have hl' := List.pairwise_cons.mp hl
    have hm' := List.pairwise_cons.mp hm
    have e : a = b := by
      rcases List.mem_cons.mp ((h a).mp List.mem_cons_self) with e | e
      · exact e
      · rcases List.mem_cons.mp ((h b).mpr List.mem_cons_self) with f | f
        · exact f.symm
        · have := hm'.1 a e
          have := hl'.1 b f
          omega
    subst e
    rw [up_uniq hl'.2 hm'.2 fun k => ?_]
    constructor
    · intro hk
      rcases List.mem_cons.mp ((h k).mp (List.mem_cons_of_mem _ hk)) with rfl | q
      · exact absurd (hl'.1 k hk) (by omega)
      · exact q
    · intro hk
      rcases List.mem_cons.mp ((h k).mpr (List.mem_cons_of_mem _ hk)) with rfl | q
      · exact absurd (hm'.1 k hk) (by omega)
      · exact q
def bSrtS : List PyData → Option Rv
  | [.list ds] => if ds.length < 64 then (allI ds).bind fun is => some (.new ((srtU is).map .int)) else none
  | _ => none
theorem cs_srtS : CaS K (rSrtS K) bSrtS := by
  intro G H vs ds rv e t h Q q
  unfold bSrtS at h
  split at h
  · rename_i l
    split at h
    · rename_i hlen
      obtain ⟨v, rfl, t'⟩ := tr1 t
      cases ha : allI l with
      | none => rw [ha] at h; cases h
      | some is =>
        rw [ha] at h
        cases h
        have el := allI_map ha
        subst el
        obtain ⟨p, xs, rfl, sq, da⟩ := t'.lst e
        have := DaAll.ints da
        subst this
        rw [List.length_map] at hlen
        refine ⟨p, is, rfl, sq, hlen, fun ms d hs hm hd => ?_⟩
        have hu : ms = srtU is := up_uniq hs srtU_up fun k => by rw [hm k, mem_srtU]
        subst hu
        have dz : ∀ l : List Int, DaAll K G (l.map V.int) (l.map PyData.int) := fun l => by
          induction l with
          | nil => exact .nil
          | cons a l ih => exact .cons (.int a) ih
        exact q.lst e (dz _) d hd
    · cases h
  · cases h
theorem se_srtS {e : Expr} {f : S → Out (List Rv)} {p p2 q pos : Pos} (hc : X.calm = true) (hg : Gl X "sorted") (hm : X.mg "sorted" = none) (hg2 : Gl X "set") (hm2 : X.mg "set" = none) (ha : SA X W [e] f)
    (na : starEach [e] X.env = (false, eval e X.env) :: starEach [] X.env := by rfl) : SE X W (.Call (.Name "sorted" p) [.Call (.Name "set" p2) [e] [] q] [] pos) (dB bSrtS f) :=
  se_n (fun _ pa => pe_srtS hc hg hm hg2 hm2 pa na) cs_srtS ha
end
end DL

namespace DL
open PySem PySem.Spec L2 PyProof.Rows PpSet
/-! ### a set comprehension that fills any bag -/
/-- a thing that set.add fills: what stands at its place, what it becomes -/
structure Bag (B : Type) where
  ob : Addr → B → HO
  put : B → V → B → Prop
def Bag.Add {B : Type} (g : Bag B) (X : Cx) : Prop := ∀ (pins : List (Addr × Obj)) (σ : L2.St) (H : Hp) (s : Shared) (D : Addr) (b b' : B) (y : V) (v : Value) (Q : Value → Shared → Prop) (E : Value → Shared → Prop),
  Inv X pins σ H s → H D = some (g.ob D b) → RelV y v → g.put b y b' → (∀ s', Inv X pins σ (upd H D (g.ob D b')) s' → Q .none s') → wpAny (model X.prog X.w) X.A (call (.builtin "set.add") [.ref D, v]) Q E s
def Bag.New {B : Type} (g : Bag B) (X : Cx) (b0 : B) : Prop := ∀ (H : Hp) (h : Heap), ObjOk X.prog X.w H (h.push (eS X.w)) h.objs.size (g.ob h.objs.size b0)
def tBg {B : Type} (bg : Bag B) (b0 : B) (wi : TI) (g : TG) (tt : TT) (te : TE) (vs : List Nat) : TE := fun σ H Q => wi σ H fun J H1 => ∀ D, H1 D = none → ∃ W : Nat → Nat → Hp → Prop, (∃ m, W 0 m (upd H1 D (bg.ob D b0))) ∧
  ∀ i m H, W i m H → (J.stop i H ∧ Q (.ref D) H) ∨ (J.go i H ∧ ∃ Nx : Hp → Prop, (∀ H', Nx H' → ∃ m', m' < m ∧ W (i + 1) m' H') ∧
    ∀ x H', J.yld i H x H' → g x (wipe σ vs) H' fun σ2 H2 => wipe σ2 vs = wipe σ vs ∧ tt σ2 H2 fun t H3 => if t = true then te σ2 H3 fun y H4 => ∃ b b', H4 D = some (bg.ob D b) ∧ bg.put b y b' ∧ Nx (upd H4 D (bg.ob D b')) else Nx H3)
section
variable {X : Cx} {B : Type}
/-- the iterator's things are let alone in the block -/
theorem blk_fp {Y : Cx} {fp : List Addr} (hex : Y.ex = fp) (hpn : Y.pn = []) {σ : L2.St} {H : Hp} {s : Shared} (I : Inv Y [] σ H s) (hn : ∀ b ∈ fp, H b = none) : ∀ b ∈ fp, FpOk Y [] H b := fun b hb => by
  have hb' : b ∈ Y.ex := by rw [hex]; exact hb
  refine ⟨hn b hb, (I.ok.exf b hb').1, I.ok.exfs b hb', .inl hb', fun x c e => (I.ok.exf b hb').2 x c e, fun p hp => ?_⟩
  rw [hpn] at hp
  cases hp
/-- a turn's end: the pins go, the block's names are wiped -/
theorem blk_next {Y : Cx} {fp : List Addr} {σ σ2 : L2.St} {vs : List Nat} {H : Hp} {s s7 : Shared} (I : Inv Y ([] ++ pinsAt fp s7.heap) σ2 H s) (hw : wipe σ2 vs = wipe σ vs) (ho : ∀ b ∈ fp, ∃ o, s7.heap.get? b = some o ∧ ∀ v, o.data ≠ .cell v) :
    Inv Y [] (wipe σ vs) H s ∧ (∀ b ∈ fp, ∀ o, s7.heap.get? b = some o → s.heap.get? b = some o) ∧ ∀ b ∈ fp, H b = none := by
  have pin : ∀ b ∈ fp, ∀ o, s7.heap.get? b = some o → s.heap.get? b = some o ∧ H b = none := fun b hb o e =>
    let z := I.pin (b, o) (List.mem_append_right _ (List.mem_append_right _ (mem_pinsAt hb e)))
    ⟨z.1, z.2.1⟩
  refine ⟨(I.unpinned (pins := [])).weak (by rw [← hw, wipe_length]) (fun j v e => ?_), fun b hb o e => (pin b hb o e).1, fun b hb => ?_⟩
  · rw [← hw] at e
    exact (wipe_some e).1
  · obtain ⟨o, e, _⟩ := ho b hb
    exact (pin b hb o e).2
set_option maxHeartbeats 1000000 in
theorem pe_bag {bg : Bag B} {b0 : B} {elt tg iter : Expr} {ifs : List Expr} {scope : Scope} {own : List (Str × Nat)} {pos : Pos} {wi : TI} {g : TG} {tt : TT} {te : TE} (hc : X.calm = true) (hN : X.N.Nodup) (hi : PI X tg iter wi) (ok : BlkOk X.N X.env.scope scope own)
    (hg : ∀ i, PG (bX X scope i) tg g) (ht : ∀ i, PTs (bX X scope i) ifs tt) (he : ∀ i, PE (bX X scope i) elt te) (hnew : bg.New X b0) (hadd : ∀ i, bg.Add (bX X scope i)) (hs : ∀ x, foldedSetIterable iter X.env x = pure x) :
    PE X (.SetComp elt [⟨tg, iter, ifs, 0⟩] scope pos) (tBg bg b0 wi g tt te (own.map (·.2))) := by
  refine ⟨fun pins s σ H Q I h => ?_⟩
  rw [eval_SetComp]
  refine wpAny_comprehension_free (use := none) rfl hs (closure_ok fun y hy e => (ok.free y hy e).elim (fun k => I.ok.has _ (.inl k)) fun k => I.ok.has _ (.inr k)) ok.kind (fun y hy e => by rw [ok.uniq y hy, e])
    (thn (hi.run pins s σ H _ I h) fun _ s1 hx => thn hx fun _ s2 h2 => ?_)
  obtain ⟨it, fp, tn, J, H2, rfl, I2, T, st2, f2, q⟩ := h2
  refine newSet_ok (newEnv_comp ?_)
  obtain ⟨W, ⟨m0, w0⟩, turn⟩ := q s2.heap.objs.size (I2.hok.fresh (Nat.le_refl _))
  have I3 : Inv X pins σ (upd H2 s2.heap.objs.size (bg.ob s2.heap.objs.size b0)) { s2 with heap := s2.heap.push (eS X.w) } :=
    I2.laid (t' := s2.toks) (fun b o e => Heap.get?_push_of_some _ e) (Nat.le_refl _) (hnew _ _)
  have lt2 : ∀ b ∈ fp, b < s2.heap.objs.size := fun b hb => by
    obtain ⟨o, e, _⟩ := T.obj _ _ st2 b hb
    exact Heap.lt_size e
  have f3 : ∀ b ∈ fp, FpOk X pins (upd H2 s2.heap.objs.size (bg.ob s2.heap.objs.size b0)) b ∧ b < (s2.heap.push (eS X.w)).objs.size := fun b hb => by
    refine ⟨⟨?_, (f2 b hb).2⟩, by rw [Heap.size_push]; exact Nat.lt_succ_of_lt (lt2 b hb)⟩
    rw [upd_ne (Nat.ne_of_lt (lt2 b hb))]
    exact (f2 b hb).1
  have st3 : tn 0 (s2.heap.push (eS X.w)) := T.keep _ _ _ st2 fun b _ o e => Heap.get?_push_of_some _ e
  have I4 := block_start I3 ok hN f3
  generalize hD : s2.heap.objs.size = D at I3 I4 f3 w0 turn ⊢
  generalize hH3 : upd H2 D (bg.ob D b0) = H3 at I3 I4 f3 w0
  generalize hs3 : ({ s2 with heap := s2.heap.push (eS X.w) } : Shared) = s3 at I3 I4 ⊢
  have e3 : s3.heap = s2.heap.push (eS X.w) := by rw [← hs3]
  rw [← e3] at f3 st3
  have nfp : ∀ b ∈ fp, H3 b = none := fun b hb => (f3 b hb).1.1
  let bi : BI := ⟨s3, H3, s3.heap.objs.size, cellsFrom (s3.heap.objs.size + 1) scope.names (cloFrom X.env.cells scope.names []), fp⟩
  show codeAny _ _ (.compStart (.SetComp elt [⟨tg, iter, ifs, 0⟩] scope pos) 0 (.ref it) (.ref D) (bX X scope bi).env) (compPost (model X.prog X.w) X.A X.xe none (EP X pins σ Q) (.ref D) s3.heap.objs.size) { s3 with heap := pushCells (s3.heap.push { cls := .type "dict", data := .dict #[] }) scope.names }
  generalize hs4 : ({ s3 with heap := pushCells (s3.heap.push { cls := .type "dict", data := .dict #[] }) scope.names } : Shared) = s4 at I4 ⊢
  have I4' : Inv (bX X scope bi) [] (wipe σ (own.map (·.2))) H3 s4 := I4
  have st4 : tn 0 s4.heap := T.keep _ _ _ st3 fun b _ o e => by rw [← hs4]; exact pushCells_keeps _ _ _ _ (Heap.get?_push_of_some _ e)
  have loop : codeAny (model X.prog X.w) X.A (.compLoop (.SetComp elt [⟨tg, iter, ifs, 0⟩] scope pos) 0 (.ref it) (.ref D) (bX X scope bi).env) (compPost (model X.prog X.w) X.A X.xe none (EP X pins σ Q) (.ref D) s3.heap.objs.size) s4 := by
    refine compLoopS_any (fun n s' => ∃ i H', Inv (bX X scope bi) [] (wipe σ (own.map (·.2))) H' s' ∧ tn i s'.heap ∧ (∀ b ∈ fp, H' b = none) ∧ W i n H') ?_ m0 ⟨0, H3, I4', st4, nfp, w0⟩
    rintro n s5 ⟨i, H5, I5, st5, n5, w5⟩
    have F5 := blk_fp (Y := bX X scope bi) rfl rfl I5 n5
    rcases turn i n H5 w5 with ⟨stop, qq⟩ | ⟨go, Nx, hNx, step⟩
    · refine thnF (T.done (bX X scope bi) rfl rfl rfl hc i [] s5 _ H5 (fun _ _ => False) I5 F5 st5 stop) fun r s6 ⟨hr, I6⟩ => ?_
      subst hr
      have I7 : Inv X pins σ H5 s6 := I3.call' (ch := fp) I6.os I6.base I6.hok I6.bare fun b hb => by
        obtain ⟨_, z1, _, z3, z4, z5⟩ := (f3 b hb).1
        exact ⟨z3, z1, z4, z5⟩
      obtain ⟨m, hn, _⟩ := I6.loc
      obtain ⟨y0, y1, _, y3, y4, y5⟩ := I3.fpOk (Nat.le_refl s3.heap.objs.size) (show H5 s3.heap.objs.size = none from I6.free)
      exact ⟨m, hn, fun h'' sb => ⟨.ref D, H5, I7.turned (t' := s6.toks) (fun b o hb e => (sb.2 b hb).trans e) y0 y1 y3 y4 y5, rfl, qq⟩⟩
    · refine thnF (T.item (bX X scope bi) rfl rfl rfl hc i [] s5 _ H5 (fun _ _ => False) I5 F5 st5 go) fun r s6 ⟨u, hr, h6⟩ => ?_
      subst hr
      refine thnF h6 fun _ s7 ⟨x, H7, I7, r7, y7, st7, n7⟩ => ?_
      have ob7 := T.obj _ _ st7
      have I7' := I7.pinned (blk_fp (Y := bX X scope bi) rfl rfl I7 n7) ob7
      refine thnF ((hg bi).run _ s7 _ H7 x u _ I7' r7 (step x H7 y7)) fun _ s8 ⟨σ8, H8, I8, hw, q8⟩ => ?_
      have fin : ∀ {s' : Shared} {H' : Hp}, Inv (bX X scope bi) ([] ++ pinsAt fp s7.heap) σ8 H' s' → Nx H' → ∃ m, m < n ∧ ∃ i H', Inv (bX X scope bi) [] (wipe σ (own.map (·.2))) H' s' ∧ tn i s'.heap ∧ (∀ b ∈ fp, H' b = none) ∧ W i m H' := fun {s' H'} I' nx => by
        obtain ⟨m', hm, w'⟩ := hNx _ nx
        obtain ⟨a1, a2, a3⟩ := blk_next I' hw ob7
        exact ⟨m', hm, i + 1, _, a1, T.keep _ _ _ st7 a2, a3, w'⟩
      refine thnF ((ht bi).run _ s8 σ8 H8 _ I8 q8) fun b s9 ⟨H9, I9, q9⟩ => ?_
      cases b with
      | false =>
        simp only [Bool.false_eq_true, if_false] at q9 ⊢
        exact fin I9 q9
      | true =>
        simp only [if_true] at q9 ⊢
        refine thnF ((he bi).run _ s9 σ8 H9 _ I9 q9) fun z s10 ⟨yv, H10, I10, r10, b1, b2, hb, hp, nx⟩ => ?_
        exact hadd bi _ _ _ _ _ _ _ _ _ _ _ I10 hb r10 hp fun s11 I11 => fin I11 nx
  exact codeAny_compStart_set loop (T.self X.A 0 _ _ _ st4 loop)
/-! ### sets of ints -/
def intBag (w : World) : Bag ((Int → Bool) × Nat) where
  ob a b := SetO w a b.1 b.2
  put b y b' := ∃ c : Int, y = .int c ∧ b.2 + 1 < scanBound ∧ b' = (fun j => b.1 j || decide (j = c), if b.1 c = true then b.2 else b.2 + 1)
theorem intBag_new : (intBag X.w).New X (fun _ => false, 0) := fun H h => setO_new (setR_fresh X.w)
theorem intBag_add : (intBag X.w).Add X := by
  rintro pins σ H s D ⟨S, n⟩ b' y v Q E I hD r ⟨c, rfl, room, rfl⟩ hq
  obtain ⟨tk, rfl⟩ := r
  refine setR_add (setO_get I hD) room fun h' sb new => ?_
  have he : ∃ u, h'.get? D = some u := by
    have ⟨o, _, _, _, ho, _⟩ := new
    exact ⟨o, ho⟩
  exact hq _ (I.write (e := D) (t' := s.toks + 1) (by rw [hD]; trivial) (.inl rfl) (fun b u hb hu => (sb.2 b hb).trans hu) he (setO_new new))
end
end DL

namespace DL
open PySem L2
/-! ### sorted({e for a in A if c}), e an int -/
theorem insU_len {c : Int} : ∀ {l : List Int}, l.Pairwise (· < ·) → (insU c l).length = if c ∈ l then l.length else l.length + 1
  | [], _ => by simp [insU]
  | j :: js, h => by
    have h' := List.pairwise_cons.mp h
    unfold insU
    by_cases h1 : c < j
    · rw [if_pos h1, if_neg fun q => by
        rcases List.mem_cons.mp q with rfl | q
        · omega
        · have := h'.1 c q
          omega]
      rfl
    · rw [if_neg h1]
      by_cases h2 : c = j
      · subst h2
        rw [if_pos rfl, if_pos List.mem_cons_self]
      · rw [if_neg h2, List.length_cons, insU_len h'.2]
        by_cases h3 : c ∈ js
        · rw [if_pos h3, if_pos (List.mem_cons_of_mem _ h3)]
          rfl
        · rw [if_neg h3, if_neg fun q => (List.mem_cons.mp q).elim h2 h3]
          rfl
theorem srtU_app (is : List Int) (c : Int) : srtU (is ++ [c]) = insU c (srtU is) := up_uniq srtU_up (insU_up srtU_up) fun k => by
  rw [mem_srtU, mem_insU, mem_srtU, List.mem_append, List.mem_singleton]
  exact or_comm
theorem insU_le (c : Int) : ∀ l : List Int, (insU c l).length ≤ l.length + 1
  | [] => by simp [insU]
  | j :: js => by
    unfold insU
    split
    · simp
    · split
      · simp
      · have := insU_le c js
        simp only [List.length_cons]
        omega
theorem srtU_le : ∀ l : List Int, (srtU l).length ≤ l.length
  | [] => Nat.le_refl _
  | i :: is => by
    have h1 := insU_le i (srtU is)
    have h2 := srtU_le is
    show (insU i (srtU is)).length ≤ is.length + 1
    omega
theorem srtU_mono : ∀ (t is : List Int), (srtU is).length ≤ (srtU (is ++ t)).length
  | [], is => by rw [List.append_nil]; exact Nat.le_refl _
  | c :: t, is => by
    have h := srtU_mono t (is ++ [c])
    rw [List.append_assoc, srtU_app, insU_len srtU_up] at h
    have h2 : (srtU is).length ≤ if c ∈ srtU is then (srtU is).length else (srtU is).length + 1 := by split <;> omega
    exact Nat.le_trans h2 h
theorem compD_pre {vs : List Nat} {put : S → PyData → Option S} {c : S → Out Bool} {f : S → Out Rv} : ∀ {ds : List PyData} {dn dnF : S} {acc accF : List PyData}, compD vs put c f ds dn acc = some (accF, dnF) → ∃ t, accF = acc ++ t
  | [], dn, dnF, acc, accF, h => by
    cases h
    exact ⟨[], (List.append_nil _).symm⟩
  | d :: ds, dn, dnF, acc, accF, h => by
    unfold compD at h
    split at h
    · cases h
    · split at h
      · split at h
        · split at h
          · split at h
            · obtain ⟨t, e⟩ := compD_pre h
              exact ⟨_ :: t, by rw [e, List.append_assoc]; rfl⟩
            · cases h
          · cases h
        · cases h
      · exact compD_pre h
      · cases h
def sK : Out Rv → Out Rv
  | .ok (.new acc) d => match allI acc with
    | some is => if (srtU is).length < 64 then .ok (.new ((srtU is).map PyData.int)) d else .bad
    | none => .bad
  | _ => .bad
def dSrtC (it : S → Out (List PyData)) (vs : List Nat) (put : S → PyData → Option S) (c : S → Out Bool) (f : S → Out Rv) : S → Out Rv := fun dl => (it dl).bind fun ds d1 => sK (endC d1 vs (compD vs put c f ds (wipeD d1 vs) []))
theorem das_ints {K : PySem.W.Frag} {G : Hp} : ∀ l : List Int, DaAll K G (l.map V.int) (l.map PyData.int)
  | [] => .nil
  | a :: l => .cons (.int a) (das_ints l)
section
variable {X : Cx} {W : WX}
theorem so_srtC {wi : TI} {g : TG} {tt : TT} {te : TE} {it : S → Out (List PyData)} {put : S → PyData → Option S} {c : S → Out Bool} {f : S → Out Rv} {vs vs0 : List Nat} (si : SoI X W wi it) (sg' : SoG X.K vs0 g put) (sub : ∀ i ∈ vs0, i ∈ vs) (st : SoT X W0 tt c) (se : SoE X W0 te f) :
    SoE X W (tCB (rSortedSet X.w) (tCons (tBg (intBag X.w) (fun _ => false, 0) wi g tt te vs) tNil)) (dSrtC it vs put c f) := by
  intro G H sg dl Q re h
  refine si G H sg dl _ re ((post_bind h).imp fun ds d1 G1 H1 s1 k1 h1 J wk D hD => ?_)
  cases ec : compD vs put c f ds (wipeD d1 vs) [] with
  | none => rw [ec] at h1; exact h1.elim
  | some y =>
    obtain ⟨accF, dnF⟩ := y
    rw [ec] at h1
    have h1a : Post X W G1 H1 sg d1 (wE X sg H Q) (match allI accF with
      | some is => if (srtU is).length < 64 then .ok (.new ((srtU is).map PyData.int)) (restD d1 vs dnF) else .bad
      | none => .bad) := h1
    cases ha : allI accF with
    | none => rw [ha] at h1a; exact h1a.elim
    | some isF =>
    rw [ha] at h1a
    have h1b : Post X W G1 H1 sg d1 (wE X sg H Q) (if (srtU isF).length < 64 then .ok (.new ((srtU isF).map PyData.int)) (restD d1 vs dnF) else .bad) := h1a
    by_cases h64 : (srtU isF).length < 64
    case neg => rw [if_neg h64] at h1b; exact h1b.elim
    rw [if_pos h64] at h1b
    have eF := allI_map ha
    have reW : Rel X.K G1 H1 (wipe sg vs) (wipeD d1 vs) := rel_wipe s1.rel
    have no0 : ∀ i, i ∈ vs → i < (wipeD d1 vs).length → (wipeD d1 vs)[i]? = some .no := fun i hi hl => wipeD_in hi (by rw [wipeD_len] at hl; exact hl)
    refine ⟨fun i m Hh => ∃ (G' : Hp) (dn : S) (is : List Int) (M : Int → Bool), Stp X.K G1 H1 (wipe sg vs) (wipeD d1 vs) G' Hh (wipe sg vs) dn ∧ Kp (wipeD d1 vs) dn ∧ ¬ Ow Hh (wipe sg vs) dn D ∧ Hh D = some (SetO X.w D M (srtU is).length) ∧ G' D = none ∧ (∀ k, M k = true ↔ k ∈ is) ∧ i ≤ ds.length ∧ m = ds.length - i ∧ compD vs put c f (ds.drop i) dn (is.map PyData.int) = some (accF, dnF),
      ⟨ds.length, G1, wipeD d1 vs, [], fun _ => false, (Alc.li s1.rel.ex hD (SetO X.w D (fun _ => false) 0)).stp reW, Kp.refl _, fun q => (reW.ow (reW.back (Ex.new hD) q)).2 hD, upd_same, s1.rel.ex.nn hD, fun k => by simp, Nat.zero_le _, rfl, ec⟩, ?_⟩
    rintro i m Hh ⟨G', dn, is, M, s, k, nw, hDh, hDg, hM, hi, rfl, he⟩
    obtain ⟨go, stop⟩ := wk i G' Hh s.g s.rel.ex
    have noN : ∀ i, i ∈ vs → i < dn.length → dn[i]? = some .no := fun i hi hl => by
      have := k.2 i
      rw [no0 i hi (by rw [← k.1]; exact hl)] at this
      exact this
    by_cases hlt : i < ds.length
    · have hd : ds[i]? = some ds[i] := List.getElem?_eq_getElem hlt
      obtain ⟨g1, y1⟩ := go ds[i] hd
      have ed : ds.drop i = ds[i] :: ds.drop (i + 1) := List.drop_eq_getElem_cons hlt
      rw [ed] at he
      unfold compD at he
      refine .inr ⟨g1, fun Hn => ∃ (G' : Hp) (dn : S) (is : List Int) (M : Int → Bool), Stp X.K G1 H1 (wipe sg vs) (wipeD d1 vs) G' Hn (wipe sg vs) dn ∧ Kp (wipeD d1 vs) dn ∧ ¬ Ow Hn (wipe sg vs) dn D ∧ Hn D = some (SetO X.w D M (srtU is).length) ∧ G' D = none ∧ (∀ k, M k = true ↔ k ∈ is) ∧ compD vs put c f (ds.drop (i + 1)) dn (is.map PyData.int) = some (accF, dnF),
        fun Hn ⟨G', dn, is, M, z1, z2, z3, z4, z5, z6, z7⟩ => ⟨ds.length - (i + 1), by omega, G', dn, is, M, z1, z2, z3, z4, z5, z6, hlt, rfl, z7⟩, fun x H2 y => ?_⟩
      obtain ⟨G2, al, dx⟩ := y1 x H2 y
      have s2 := al.stp s.rel
      cases ep : put dn ds[i] with
      | none => rw [ep] at he; cases he
      | some d3 =>
        rw [ep] at he
        obtain ⟨p1, p2⟩ := sg'.1 dn ds[i] d3 ep
        refine sg'.2 G' Hh (wipe sg vs) dn G2 H2 (wipe sg vs) dn x ds[i] d3 _ s2 dx ep fun sg3 s3 l3 o3 => ?_
        have ew : wipe sg3 vs = wipe sg vs := (wipe_same l3 fun i hi => o3 i fun z => hi (sub i z)).trans wipe_wipe
        refine ⟨ew, ?_⟩
        have tn : ∀ {G6 H6 : Hp} {d6 : S}, Stp X.K G' Hh (wipe sg vs) dn G6 H6 sg3 d6 → Kp d3 d6 → Stp X.K G1 H1 (wipe sg vs) (wipeD d1 vs) G6 H6 (wipe sg vs) (wipeD d6 vs) ∧ Kp (wipeD d1 vs) (wipeD d6 vs) ∧ ¬ Ow H6 (wipe sg vs) (wipeD d6 vs) D ∧ H6 D = some (SetO X.w D M (srtU is).length) ∧ G6 D = none := fun {G6 H6 d6} sl kl => by
          have s6 := stp_wipe (vs := vs) sl
          rw [ew] at s6
          exact ⟨s.trans s6, k.trans (kp_turn p1 (fun i hi => p2 i fun z => hi (sub i z)) noN kl), s6.nw nw (some_ne hDh), sl.k D _ nw hDh, sl.n D nw (some_ne hDh) hDg⟩
        have he' : (match c d3 with
          | .ok true d2 => match f d2 with
            | .ok r d3 => match stb d3 r with
              | some (y, d4) => if (is.map PyData.int).length < 100000 then compD vs put c f (ds.drop (i + 1)) (wipeD d4 vs) (is.map PyData.int ++ [y]) else none
              | none => none
            | _ => none
          | .ok false d2 => compD vs put c f (ds.drop (i + 1)) (wipeD d2 vs) (is.map PyData.int)
          | _ => none) = some (accF, dnF) := he
        refine st G2 H2 sg3 d3 _ s3.rel ?_
        cases eb : c d3 with
        | bad => rw [eb] at he'; cases he'
        | ex cc dd => rw [eb] at he'; cases he'
        | ok b d4 =>
          rw [eb] at he'
          intro G4 H4 s4 k4
          have s34 := s3.trans s4
          cases b with
          | false =>
            obtain ⟨z1, z2, z3, z4, z5⟩ := tn s34 k4
            exact ⟨G4, wipeD d4 vs, is, M, z1, z2, z3, z4, z5, hM, he'⟩
          | true =>
            have he2 : (match f d4 with
              | .ok r d3 => match stb d3 r with
                | some (y, d4) => if (is.map PyData.int).length < 100000 then compD vs put c f (ds.drop (i + 1)) (wipeD d4 vs) (is.map PyData.int ++ [y]) else none
                | none => none
              | _ => none) = some (accF, dnF) := he'
            refine se G4 H4 sg3 d4 _ s4.rel ?_
            cases ef : f d4 with
            | bad => rw [ef] at he2; cases he2
            | ex cc dd => rw [ef] at he2; cases he2
            | ok r d5 =>
              rw [ef] at he2
              intro G5 H5 s5 k5 v q
              have he3 : (match stb d5 r with
                | some (y, d4) => if (is.map PyData.int).length < 100000 then compD vs put c f (ds.drop (i + 1)) (wipeD d4 vs) (is.map PyData.int ++ [y]) else none
                | none => none) = some (accF, dnF) := he2
              cases es : stb d5 r with
              | none => rw [es] at he3; cases he3
              | some yy =>
                obtain ⟨y, d6⟩ := yy
                rw [es] at he3
                obtain ⟨G6, s6, k6, z6, _⟩ := stb_ok s5 q es
                obtain ⟨z1, z2, z3, z4, z5⟩ := tn (s34.trans s6) (k4.trans (k5.trans k6))
                have he4 : (if (is.map PyData.int).length < 100000 then compD vs put c f (ds.drop (i + 1)) (wipeD d6 vs) (is.map PyData.int ++ [y]) else none) = some (accF, dnF) := he3
                by_cases hl : (is.map PyData.int).length < 100000
                · rw [if_pos hl] at he4
                  obtain ⟨t, et⟩ := compD_pre he4
                  obtain ⟨cI, rfl⟩ : ∃ cI, y = PyData.int cI := by
                    have hy : y ∈ isF.map PyData.int := by rw [← eF, et]; simp
                    obtain ⟨cI, _, e⟩ := List.mem_map.mp hy
                    exact ⟨cI, e.symm⟩
                  cases z6
                  have hle : (srtU is).length ≤ (srtU isF).length := by
                    have e5 : isF.map PyData.int = is.map PyData.int ++ ([PyData.int cI] ++ t) := by rw [← eF, et, List.append_assoc]
                    obtain ⟨l1, l2, e6, e7, _⟩ := List.map_eq_append_iff.mp e5
                    have e8 : l1 = is := (List.map_inj_right fun a b h => PyData.int.inj h).mp e7
                    rw [e6, e8]
                    exact srtU_mono _ _
                  refine ⟨(M, (srtU is).length), _, z4, ⟨cI, rfl, by unfold scanBound; omega, rfl⟩, G6, wipeD d6 vs, is ++ [cI], fun j => M j || decide (j = cI), stp_fly z1 hD z5 z3, z2, ow_fly z1.rel z3, ?_, z5, fun k => ?_, by rw [List.map_append]; exact he4⟩
                  · rw [upd_same]
                    show some (SetO X.w D _ (if M cI = true then _ else _)) = _
                    rw [srtU_app, insU_len srtU_up]
                    by_cases hm : M cI = true
                    · rw [if_pos hm, if_pos (mem_srtU.mpr ((hM cI).mp hm))]
                    · rw [if_neg hm, if_neg fun z => hm ((hM cI).mpr (mem_srtU.mp z))]
                  · simp only [Bool.or_eq_true, decide_eq_true_eq, List.mem_append, List.mem_singleton, hM k]
                · rw [if_neg hl] at he4; cases he4
    · have ei : i = ds.length := by omega
      subst ei
      rw [List.drop_length] at he
      cases he
      rw [allI_ints] at ha
      cases ha
      refine .inl ⟨stop (Nat.le_refl _), ?_⟩
      obtain ⟨sr, kr⟩ := stp_rest s1.rel s k
      refine ⟨D, M, (srtU isF).length, rfl, hDh, h64, fun ms p hs hm hl hp => ?_⟩
      have hu : ms = srtU isF := up_uniq hs srtU_up fun k => by rw [hm k, hM k, mem_srtU]
      subst hu
      refine h1b G' _ (sr.trans ((Alc.li sr.rel.ex hp (.lst ((srtU isF).map V.int))).stp sr.rel)) kr (.ref p) ⟨p, _, rfl, ?_, upd_same, sr.rel.ex.nn hp, fun q => (sr.rel.ow (sr.rel.back (Ex.new hp) q)).2 hp, das_ints _⟩
      cases hq : H p with
      | none => rfl
      | some o => exact absurd hp (sr.d p (s1.d p (some_ne hq)))
theorem se_srtC (own : List (Str × Nat)) {elt tg iter : Expr} {ifs : List Expr} {scope : Scope} {p pos pos2 : Pos} {g : TG} {it : S → Out (List PyData)} {put : S → PyData → Option S} {c : S → Out Bool} {f : S → Out Rv} {vs0 : List Nat} (hc : X.calm = true) (hg0 : Gl X "sorted") (hm0 : X.mg "sorted" = none) (hN : X.N.Nodup) (hi : SI X W tg iter it) (ok : BlkOk X.N X.env.scope scope own)
    (hg : ∀ i, PG (bX X scope i) tg g) (sg : SoG X.K vs0 g put) (sub : ∀ i ∈ vs0, i ∈ own.map (·.2)) (ht : ∀ i, STs (bX X scope i) W0 ifs c) (he : ∀ i, SE (bX X scope i) W0 elt f) (hs : ∀ x, foldedSetIterable iter X.env x = pure x := by intro _; rfl) :
    SE X W (.Call (.Name "sorted" p) [.SetComp elt [⟨tg, iter, ifs, 0⟩] scope pos] [] pos2) (dSrtC it (own.map (·.2)) put c f) := by
  obtain ⟨wi, pi, si⟩ := hi
  obtain ⟨tt, pt, st⟩ := meetT (X := X) (Xi := bX X scope) (fun _ => rfl) (fun _ => rfl) ht
  obtain ⟨te, pe, se⟩ := meetE (X := X) (Xi := bX X scope) (fun _ => rfl) (fun _ => rfl) he
  exact ⟨_, pe_callB (cr_sortedSet hc) hg0 hm0 (by decide +kernel) (pa_cons (pe_bag hc hN pi ok hg pt pe intBag_new (fun i => intBag_add (X := bX X scope i)) hs) pa_nil), so_srtC si sg sub st se⟩
end
end DL

namespace DL
open PySem PySem.Spec L2 PyProof.Rows
section
variable {X : Cx} {W : WX} {K : PySem.W.Frag}
/-! ### x is True, x is not True -/
def oIsB : PyData → PyData → Option Rv
  | .bool a, .bool b => vB (decide (a = b))
  | _, _ => none
def oNotB : PyData → PyData → Option Rv
  | .bool a, .bool b => vB (!decide (a = b))
  | _, _ => none
theorem os_isB : OpS K rIsB oIsB := by
  intro G H v u a b r e ta tb h Q q
  cases a <;> try (cases h)
  cases b <;> try (cases h)
  exact ⟨_, _, ta.bl, tb.bl, q.val e (.bl _)⟩
theorem os_notB : OpS K rNotB oNotB := by
  intro G H v u a b r e ta tb h Q q
  cases a <;> try (cases h)
  cases b <;> try (cases h)
  exact ⟨_, _, ta.bl, tb.bl, q.val e (.bl _)⟩
/-! ### a method of one argument that changes nothing -/
def isLO (p : PyData → Bool) (r : Rv) (dl : S) : Option PyData → Out Rv
  | some d => if p d then .ok r dl else .bad
  | none => .bad
def dIs (p : PyData → Bool) (f : S → Out Rv) : S → Out Rv := fun dl => (f dl).bind fun r d1 => isLO p r d1 (rd d1 r)
def isLst : PyData → Bool
  | .list _ => true
  | _ => false
abbrev dIsL := dIs isLst
def TyS (K : PySem.W.Frag) (T : String) (p : PyData → Bool) : Prop := ∀ (G H : Hp) (v : V) (d : PyData), Ex G H → Tr K G H v d → p d = true → tyV K T v H
theorem tys_lst : TyS K "list" isLst := by
  intro G H v d e t h
  cases d <;> try (cases h)
  obtain ⟨p, vs, rfl, sq, z⟩ := t.lst e
  exact .inl ⟨rfl, vs, sq⟩
theorem se_m1 {T id : String} {name : Str} {p : PyData → Bool} {r : V → List V → Hp → VK → Prop} {op : PyData → PyData → Option Rv} {o e : Expr} {apos cpos : Pos} {f g : S → Out Rv}
    (pa : PlainAttrs T) (slot : Slot T name id) (hty : typeOf (.builtin id) = pure (.type "method_descriptor")) (hm : MtR X id r) (hT : TyS X.K T p) (ho : OpS X.K (fun v u H Q => r v [u] H Q) op) (ha : SE X W o f) (hb : SE X W e g)
    (hbase : attributeBase o name X.env (eval o X.env) = eval o X.env := by rfl)
    (hfew : ((backTo cpos (starEach [e] X.env)).all (fun x => !x.1) && (backToKw cpos (keywordEach [] X.env)).all (fun x => x.1.isSome)
      && decide ([e].length + ([] : List Keyword).length + (if ([] : List Keyword).isEmpty then 0 else 1) < 30)) = true := by rfl)
    (hline : (apos.endLine == cpos.line) = true := by rfl) (hst : starEach [e] X.env = (false, eval e X.env) :: starEach [] X.env := by rfl) :
    SE X W (.Call (.Attribute o name apos) [e] [] cpos) (d2 op (dIs p f) g) := by
  obtain ⟨ta, pa1, sa⟩ := ha
  obtain ⟨tb, pb, sb⟩ := hb
  refine ⟨_, pe_bm pa slot hty hm pa1 (pa_cons pb pa_nil hst) hbase hfew hline hst rfl, fun G H sg dl Q re h => ?_⟩
  have h' : Post X W G H sg dl (wE X sg H Q) ((f dl).bind fun r0 d0 => (isLO p r0 d0 (rd d0 r0)).bind fun r1 d1 => (g d1).bind fun r2 d2 => fin (o2 op (rd d2 r1) (rd d2 r2)) d2) := by
    unfold d2 dIs at h
    cases e0 : f dl with
    | bad => rw [e0] at h; exact h
    | ex c d => rw [e0] at h; exact h
    | ok a d => rw [e0] at h; exact h
  refine sa G H sg dl _ re ((post_bind h').imp fun r1 d1 G1 H1 s1 k1 h1 v1 q1 => ?_)
  cases e1 : rd d1 r1 with
  | none => rw [e1] at h1; exact h1.elim
  | some x =>
    rw [e1] at h1
    have h1' : Post X W G1 H1 sg d1 (wE X sg H Q) ((if p x then Out.ok r1 d1 else .bad).bind fun r1 d1 => (g d1).bind fun r2 d2 => fin (o2 op (rd d2 r1) (rd d2 r2)) d2) := h1
    cases hp : p x with
    | false => rw [hp] at h1'; exact h1'.elim
    | true =>
      rw [hp] at h1'
      refine ⟨hT G1 H1 v1 x s1.rel.ex (q1.tr s1.rel e1) hp, ?_⟩
      have h1'' : Post X W G1 H1 sg d1 (wE X sg H Q) ((g d1).bind fun r2 d2 => fin (o2 op (rd d2 r1) (rd d2 r2)) d2) := h1'
      refine sb G1 H1 sg d1 _ s1.rel ((post_bind h1'').imp fun r2 d2 G2 H2 s2 k2 h2 v2 q2 => ?_)
      have q1' := q1.mono s2 k2
      cases e1 : rd d2 r1 with
      | none => rw [e1] at h2; exact h2.elim
      | some x =>
        cases e2 : rd d2 r2 with
        | none => rw [e1, e2] at h2; exact h2.elim
        | some y =>
          rw [e1, e2] at h2
          have h2' : Post X W G2 H2 sg d2 (wE X sg H Q) (fin (op x y) d2) := h2
          cases e3 : op x y with
          | none => rw [e3] at h2'; exact h2'.elim
          | some r =>
            rw [e3] at h2'
            exact ho G2 H2 v1 v2 x y r s2.rel.ex (q1'.tr s2.rel e1) (q2.tr s2.rel e2) e3 Q (wO.fin rfl s2.rel (fun a z => s2.d a (s1.d a z)) h2')
theorem un65 {k : Nat} {A : Around} (r : Room k A) : A.units + 65 < cLine := by have := r.un; omega
/-! ### l.count(x) -/
def rCntD (K : PySem.W.Frag) : V → List V → Hp → VK → Prop := fun x xs H Q => ∃ (a : Addr) (y : V) (d : PyData) (ds : List PyData), x = V.ref a ∧ xs = [y] ∧ Dp K H (V.ref a) (.list ds) ∧ Dp K H y d ∧
  SeqAt.shaped (.list ds) = true ∧ SeqAt.shaped d = true ∧ Q (.int ((ds.countP fun z => PyData.eqv z d : Nat) : Int)) H
theorem mt_cntD (hu : X.A.units + 65 < cLine) : MtR X "list.count" (rCntD X.K) := by
  intro pins s σ H x xs v us Q I rx rxs h
  obtain ⟨a, y, d, ds, rfl, rfl, hl, hy, sl, sd, q⟩ := h
  cases rx
  cases rxs with
  | cons ry rt =>
    rename_i uy ut
    cases rt
    obtain ⟨bs, r1⟩ := Dp.reads I d y uy hy ry
    have hxs : PyData.canLayAll0 ds = true := SeqAt.canLay_of_shaped sl
    have hroom : X.A.units + 1 + min (PyData.depthAll ds) d.depth < cLine := room_in_shaped sd hu
    cases hl with
    | lst hs ha =>
      obtain ⟨its, rv, ⟨⟨cls, dd, data, sls⟩, n, ho, hc, hdn, hdt⟩, hlen⟩ := I.list hs
      simp only at hc hdt
      subst hc hdt
      obtain ⟨as, h4⟩ := Dp.readsAll I ds _ its ha rv
      have hmap : its.map (SeqAt.readOf s.heap) = ds := SeqAt.readsAll_map ds its as hxs h4
      refine call_meets PySem.F.slot_list_count ⟨_, ho, rfl⟩ PySem.F.entry_list_count (PySem.F.args_list_count_2 _ _)
        (SeqAt.list_countAt a its.toArray n dd sls uy (fun u => PyData.eqv (SeqAt.readOf s.heap u) d)) ⟨ho, SeqAt.items_eqAt (vs := its.toArray) (show ReadsAll s.heap its.toArray.toList ds as from h4) r1 hxs (SeqAt.canLay_of_shaped sd) hroom, ?_⟩
      have ec : its.toArray.toList.countP (fun u => PyData.eqv (SeqAt.readOf s.heap u) d) = ds.countP fun z => PyData.eqv z d := by
        show its.countP _ = _
        rw [← hmap, List.countP_map]; rfl
      refine ⟨.int _, H, I.tok _, ⟨s.toks, ?_⟩, q⟩
      show Value.int ((its.toArray.toList.countP _ : Nat) : Int) s.toks = _
      rw [ec]
def oCnt : PyData → PyData → Option Rv
  | .list ds, d => if SeqAt.shaped (.list ds) && SeqAt.shaped d then vI ((ds.countP fun z => PyData.eqv z d : Nat) : Int) else none
  | _, _ => none
theorem os_cnt : OpS K (fun v u H Q => rCntD K v [u] H Q) oCnt := by
  intro G H v u a b r e ta tb h Q q
  cases a <;> try (cases h)
  rename_i ds
  have h' : (if SeqAt.shaped (.list ds) && SeqAt.shaped b then vI ((ds.countP fun z => PyData.eqv z b : Nat) : Int) else none) = some r := h
  cases hc : SeqAt.shaped (.list ds) && SeqAt.shaped b with
  | false => rw [hc] at h'; cases h'
  | true =>
    rw [hc] at h'
    cases h'
    rw [Bool.and_eq_true] at hc
    obtain ⟨p, vs, rfl, sq, z⟩ := ta.lst e
    exact ⟨p, u, b, ds, rfl, rfl, ta.dp e hc.1, tb.dp e hc.2, hc.1, hc.2, q.val e (.int _)⟩
theorem se_cnt {o e : Expr} {apos cpos : Pos} {f g : S → Out Rv} (hu : X.A.units + 65 < cLine) (ha : SE X W o f) (hb : SE X W e g)
    (hbase : attributeBase o "count" X.env (eval o X.env) = eval o X.env := by rfl)
    (hfew : ((backTo cpos (starEach [e] X.env)).all (fun x => !x.1) && (backToKw cpos (keywordEach [] X.env)).all (fun x => x.1.isSome)
      && decide ([e].length + ([] : List Keyword).length + (if ([] : List Keyword).isEmpty then 0 else 1) < 30)) = true := by rfl)
    (hline : (apos.endLine == cpos.line) = true := by rfl) (hst : starEach [e] X.env = (false, eval e X.env) :: starEach [] X.env := by rfl) :
    SE X W (.Call (.Attribute o "count" apos) [e] [] cpos) (d2 oCnt (dIsL f) g) :=
  se_m1 PySem.F.plainAttrs_list PySem.F.slot_list_count PySem.F.type_list_count (mt_cntD hu) tys_lst os_cnt ha hb hbase hfew hline hst
/-! ### x.extend(e), e a list made anew -/
def ext1 (es ds : List PyData) : Option (List PyData) := if ds.length + es.length ≤ 100000 then some (ds ++ es) else none
def extR (d1 : S) (i : Nat) : Rv → Fl
  | .new es => ofO (chg d1 i (ext1 es))
  | _ => .bad
def dExt (i : Nat) (f : S → Out Rv) : S → Fl := fun dl => if isOwn dl i then (f dl).fl fun r d1 => extR d1 i r else .bad
theorem ss_ext (i : Nat) {x : Str} {e : Expr} {p0 apos cpos pos : Pos} {f : S → Out Rv} (he : SE X W e f) (hN : X.N[i]? = some x := by rfl) (hv : Vis X.env.scope x := by first | exact Or.inl rfl | exact Or.inr (Or.inl rfl) | exact Or.inr (Or.inr rfl)) (hd : (x == ("__debug__" : Str)) = false := by decide)
    (hcd : (x == ("__classdict__" : Str)) = false := by decide) (hbase : attributeBase (.Name x p0) "extend" X.env (eval (.Name x p0) X.env) = eval (.Name x p0) X.env := by rfl)
    (hfew : ((backTo cpos (starEach [e] X.env)).all (fun x => !x.1) && (backToKw cpos (keywordEach [] X.env)).all (fun x => x.1.isSome)
      && decide ([e].length + ([] : List Keyword).length + (if ([] : List Keyword).isEmpty then 0 else 1) < 30)) = true := by rfl)
    (hline : (apos.endLine == cpos.line) = true := by rfl) (hst : starEach [e] X.env = (false, eval e X.env) :: starEach [] X.env := by rfl)
    (hs : swapsWith (.Call (.Attribute (.Name x p0) "extend" apos) [e] [] cpos) none pos.line X.env = pure false := by rfl) :
    SS X W (.Expr (.Call (.Attribute (.Name x p0) "extend" apos) [e] [] cpos) pos) (dExt i f) := by
  obtain ⟨t, p, s⟩ := he
  refine ⟨_, ps_expr (pe_bm PySem.F.plainAttrs_list PySem.F.slot_list_extend PySem.F.type_list_extend mt_extend (pe_var hN hv hd hcd) (pa_cons p pa_nil hst) hbase hfew hline hst rfl) hs, fun G H sg dl D re h => ?_⟩
  unfold dExt at h
  cases hi : isOwn dl i with
  | false => rw [hi] at h; exact h.elim
  | true =>
    rw [hi] at h
    obtain ⟨b, ds, ei⟩ := isOwn_ok hi
    obtain ⟨pa, vs, q1, q2, q3, q4⟩ := re.own i b ds ei
    refine ⟨.ref pa, q1, .inl ⟨rfl, vs, .inl (.inl q3)⟩, ?_⟩
    refine s G H sg dl _ re ((post_fl h).imp fun r d1 G1 H1 s1 k1 h1 v q => ?_)
    cases r with
    | val _ => exact h1.elim
    | loc _ => exact h1.elim
    | new es =>
      obtain ⟨pb, zs, rfl, z0, z1, z2, z3, z4⟩ := q
      have h1' : PostS X W G H sg dl D (ofO (chg d1 i (ext1 es))) := h1
      unfold chg at h1'
      cases e2 : d1[i]? with
      | none => rw [e2] at h1'; exact h1'.elim
      | some sl =>
        rw [e2] at h1'
        cases sl with
        | no => exact h1'.elim
        | val _ => exact h1'.elim
        | big _ => exact h1'.elim
        | own b2 ds2 =>
          have h2 : PostS X W G H sg dl D (ofO ((ext1 es ds2).map fun ds' => d1.set i (.own b2 ds'))) := h1'
          unfold ext1 at h2
          by_cases hl : ds2.length + es.length ≤ 100000
          · rw [if_pos hl] at h2
            obtain ⟨p2, vs2, w1, w2, w3, w4⟩ := s1.rel.own i b2 ds2 e2
            rw [q1] at w1
            cases w1
            refine ⟨pa, pb, vs2, zs, rfl, rfl, w3, z1, by rw [w4.len, z4.len]; exact sz_of hl, ?_⟩
            exact h2 _ _ _ (s1.trans (mut_ok s1.rel e2 q1 (w4.append z4)).1)
          · rw [if_neg hl] at h2; exact h2.elim
end
end DL

/-! t[::-1], t[:v:-1] of tuples -/
namespace DL
open PySem PySem.Spec L2 PyProof.Rows HT
/-- the place behind which t[:v:-1] stops -/
def hiM : Option Int → Nat
  | none => 0
  | some v => v.toNat + 1
def OkHi : Option Int → Prop
  | none => True
  | some v => 0 ≤ v
theorem adjust_rev (hi : Option Int) (n : Nat) (hh : OkHi hi) : Builtin.Slice.slicePlaces (Builtin.Slice.sliceAdjust none hi (-1) (n : Int)).1 (Builtin.Slice.sliceAdjust none hi (-1) (n : Int)).2 (-1) = n - hiM hi ∧ (Builtin.Slice.sliceAdjust none hi (-1) (n : Int)).1 = (n : Int) - 1 := by
  have h1 : ((-1 : Int) < 0) := by omega
  have h2 : ¬ ((-1 : Int) > 0) := by omega
  cases hi with
  | none =>
    refine ⟨?_, ?_⟩
    · unfold Builtin.Slice.sliceAdjust Builtin.Slice.slicePlaces hiM
      simp only [h1, h2, if_true, if_false, show -(-1 : Int) = 1 from rfl, Int.ediv_one]
      split <;> omega
    · unfold Builtin.Slice.sliceAdjust
      simp only [h1, if_true]
  | some v =>
    have hv : ¬ v < 0 := by have : 0 ≤ v := hh; omega
    refine ⟨?_, ?_⟩
    · unfold Builtin.Slice.sliceAdjust Builtin.Slice.slicePlaces hiM
      simp only [h1, h2, hv, if_true, if_false, show -(-1 : Int) = 1 from rfl, Int.ediv_one]
      split <;> omega
    · unfold Builtin.Slice.sliceAdjust
      simp only [h1, if_true]
section
variable {prog : Program} {w : World} {A : Around} {E : Value → Shared → Prop} {s : Shared}
theorem sliceApplied_rev {sl : Addr} {vl vu vs : Value} {hi : Option Int} {n : Nat} {Q : Int × Int × Nat → Shared → Prop} (hs : s.heap.IsSliceOf sl vl vu vs) (pl : IsPart vl none) (pu : IsPart vu hi) (ps : IsPart vs (some (-1))) (hh : OkHi hi)
    (h : Q ((n : Int) - 1, -1, n - hiM hi) s) : wpAny (model prog w) A (Builtin.Slice.sliceApplied (.ref sl) (pure (n : Int))) Q E s := by
  obtain ⟨os, hos, hcs, hds⟩ := id hs
  unfold Builtin.Slice.sliceApplied Builtin.Slice.sliceFields
  refine wpAny_bind (wpAny_bind (wpAny_field hos hds (x := vl) rfl (wpAny_bind (wpAny_field hos hds (x := vu) rfl (wpAny_bind (wpAny_field hos hds (x := vs) rfl (wpAny_pure ?_)))))))
  refine wpAny_bind (slicePart_ ps ?_)
  show wpAny _ _ (if ((-1 : Int) == 0) = true then _ else _) _ _ s
  rw [if_neg (by decide)]
  refine wpAny_bind (slicePart_ pl (wpAny_bind (slicePart_ pu (wpAny_bind (wpAny_pure ?_)))))
  obtain ⟨h1, h2⟩ := adjust_rev hi n hh
  show wpAny _ _ (match Builtin.Slice.sliceAdjust none hi (-1) (n : Int) with | (lo, hi) => pure (lo, (-1 : Int), Builtin.Slice.slicePlaces lo hi (-1))) _ _ s
  generalize hg : Builtin.Slice.sliceAdjust none hi (-1) (n : Int) = g at h1 h2
  obtain ⟨g1, g2⟩ := g
  simp only at h1 h2
  show wpAny _ _ (pure (g1, (-1 : Int), Builtin.Slice.slicePlaces g1 g2 (-1))) _ _ s
  rw [h1, h2]
  exact wpAny_pure h
theorem fm_map {A B : Type} {f : A → Option B} {g : A → B} : ∀ {l : List A}, (∀ k ∈ l, f k = some (g k)) → l.filterMap f = l.map g
  | [], _ => rfl
  | a :: l, h => by
    rw [List.filterMap_cons, h a List.mem_cons_self, List.map_cons, fm_map fun k hk => h k (List.mem_cons_of_mem _ hk)]
theorem pick_rev (xs : Array Value) (m : Nat) : ((List.range (xs.size - m)).filterMap fun (k : Nat) => xs[(((xs.size : Int) - 1) + (k : Int) * (-1)).toNat]?).toArray = (xs.toList.drop m).reverse.toArray := by
  congr 1
  have e : ∀ k ∈ List.range (xs.size - m), xs[(((xs.size : Int) - 1) + (k : Int) * (-1)).toNat]? = some ((xs.toList.drop m).reverse[k]!) := by
    intro k hk
    have hk' := List.mem_range.mp hk
    have hl : ((xs.toList.drop m).reverse).length = xs.size - m := by simp
    rw [show (((xs.size : Int) - 1) + (k : Int) * (-1)).toNat = xs.size - 1 - k by omega]
    rw [getElem!_pos _ k (by omega), List.getElem_reverse, List.getElem_drop]
    rw [Array.getElem?_eq_getElem (by omega)]
    congr 1
    simp only [Array.getElem_toList]
    congr 1
    simp
    omega
  rw [fm_map e]
  apply List.ext_getElem?
  intro i
  by_cases hi : i < xs.size - m
  · have hl : ((xs.toList.drop m).reverse).length = xs.size - m := by simp
    rw [List.getElem?_eq_getElem (by simpa using hi), List.getElem?_eq_getElem (by omega)]
    congr 1
    simp only [List.getElem_map, List.getElem_range]
    exact getElem!_pos _ i (by omega)
  · rw [List.getElem?_eq_none (by simp; omega), List.getElem?_eq_none (by simp; omega)]
theorem getItem_tuple_rev {t sl : Addr} {items : Array Value} {vl vu vs : Value} {hi : Option Int} {Q : Value → Shared → Prop} (ht : IsTup s.heap t items) (hs : s.heap.IsSliceOf sl vl vu vs) (pl : IsPart vl none) (pu : IsPart vu hi) (ps : IsPart vs (some (-1))) (hh : OkHi hi)
    (h : Q (.ref s.heap.objs.size) { s with heap := s.heap.push { cls := .type "tuple", data := .seq (items.toList.drop (hiM hi)).reverse.toArray } })
    (hsz : items.size ≤ sizeLine) : wpAny (model prog w) A (getItem (.ref t) (.ref sl)) Q E s := by
  have htake : sizeOk (.seq (items.toList.drop (hiM hi)).reverse.toArray) := by
    show (items.toList.drop (hiM hi)).reverse.toArray.size ≤ sizeLine
    rw [List.size_toArray, List.length_reverse, List.length_drop, Array.length_toList]
    omega
  obtain ⟨os, hos, hcs, hds⟩ := id hs
  have hTs : s.TypeIs (.ref sl) "slice" := ⟨os, hos, hcs⟩
  unfold getItem
  try with_reducible refine wpAny_holding ?_
  first | refine wpAny_bind (wpAny_pure ?_) | skip
  refine wpAny_bind (wpAny_sequenceKey ht.typeIs (by decide) ?_)
  refine wpAny_bind (wpAny_callSpecial?_slot (name := Str.ofString "__getitem__") ht.typeIs PyProof.Rows.slot_tuple_getitem
    (wpAny_call_entry PyProof.Rows.slot_tuple_getitem ht.typeIs entry_tuple_getitem ?_ (args_tuple_getitem _ _)))
  show wpAny _ _ (Builtin.Tuple.tupleItemsOf (.ref t) >>= _) _ _ s
  refine wpAny_bind (tupleItemsOf_ ht ?_)
  refine wpAny_bind (wpAny_typeOf hTs ?_)
  rw [if_pos (by decide)]
  refine wpAny_bind (sliceApplied_rev hs pl pu ps hh ?_)
  have hno : ¬ ((((items.size : Int) - 1) == 0 && (-1 : Int) == 1 && (items.size - hiM hi) == items.size) = true) := by
    intro q
    rw [Bool.and_eq_true, Bool.and_eq_true] at q
    exact absurd q.1.2 (by decide)
  show wpAny _ _ (if (((items.size : Int) - 1) == 0 && (-1 : Int) == 1 && (items.size - hiM hi) == items.size) = true then _ else _) _ _ s
  rw [if_neg hno, pick_rev]
  first
    | exact wpAny_bind (m := Builtin.Tuple.tupleExact _) (wpAny_newObj_type (wpAny_pure ⟨_, rfl, wpAny_pure h⟩) htake)
    | exact wpAny_bind (m := Builtin.Tuple.tupleExact _) (wpAny_newObj_type (wpAny_bind (wpAny_pure (wpAny_pure ⟨_, rfl, wpAny_pure h⟩))) htake)
    | exact wpAny_bind (wpAny_bind (m := Builtin.Tuple.tupleExact _) (wpAny_newObj_type (wpAny_pure (wpAny_pure ⟨_, rfl, wpAny_pure h⟩)) htake))
    | exact wpAny_bind (wpAny_bind (m := Builtin.Tuple.tupleExact _) (wpAny_newObj_type (wpAny_pure ⟨_, rfl, wpAny_pure h⟩) htake))
end
section
variable {X : Cx} {W : WX}
def tRevT (K : PySem.W.Frag) (m : Nat) (te : TE) : TE := fun σ H Q => te σ H fun x H1 => ∃ a xs, x = .ref a ∧ SqT K H1 a xs ∧ ∀ p, H1 p = none → Q (.ref p) (upd H1 p (.tup (xs.drop m).reverse))
theorem pe_revT {e : Expr} {hx : Option Expr} {hi : Option Int} {te : TE} {k : Nat} {p1 p2 p3 pos : Pos} (he : PE X e te) (hh : OkHi hi) (ho : ∃ th, PO X hx th ∧ ∀ σ H, th σ H (fun o H' => o = hi ∧ H' = H)) : PE X (.Subscript e (.Slice none hx (some (.UnaryOp .USub (.Constant (.int 1) k p1) p2)) p3) pos) (tRevT X.K (hiM hi) te) := by
  obtain ⟨th, poh, hth⟩ := ho
  refine ⟨fun pins s σ H Q I h => ?_⟩
  refine Subscript_ (thn (he.run pins s σ H _ I h) fun v s1 ⟨x, H1, I1, r1, q1⟩ => ?_)
  obtain ⟨a, xs, ex, hx', q⟩ := q1
  subst ex
  cases r1
  have hst : PO X (some (.UnaryOp .USub (.Constant (.int 1) k p1) p2)) (tPart (tUn (rU fun i => .int (-i)) (tC (.int 1)))) := po_some (pe_un un_neg pe_int)
  refine wpAny_Slice (thn (po_none.run pins s1 σ H1 (fun o H2 => o = none ∧ H2 = H1) I1 ⟨rfl, rfl⟩) fun vl s2 ⟨l, H2, I2, pl, el, e2⟩ => ?_)
  subst el e2
  refine thn (poh.run pins s2 σ H2 (fun o H3 => o = hi ∧ H3 = H2) I2 (hth σ H2)) fun vu s3 ⟨u, H3, I3, pu, eu, e3⟩ => ?_
  subst eu e3
  refine thn (hst.run pins s3 σ H3 (fun o H4 => o = some (-1) ∧ H4 = H3) I3 ⟨1, rfl, -1, rfl, rfl, rfl⟩) fun vs s4 ⟨o, H4, I4, ps, eo, e4⟩ => ?_
  subst eo e4
  have I5 : Inv X pins σ H4 { s4 with heap := s4.heap.push { cls := .type "slice", data := .fields #[vl, vu, vs] } } := I4.kept (t' := s4.toks) fun b ob q => Heap.get?_push_of_some _ q
  obtain ⟨its, r, ht, hz⟩ := I5.tuple hx'
  have hlen := r.length
  show wpAny (model X.prog X.w) X.A (subscriptTail e (.Slice none hx (some (.UnaryOp .USub (.Constant (.int 1) k p1) p2)) p3) (.ref a) (.ref s4.heap.objs.size)) (EP X pins σ Q) X.xe { s4 with heap := s4.heap.push { cls := .type "slice", data := .fields #[vl, vu, vs] } }
  refine tail_any (ops := [.ref a, .ref s4.heap.objs.size]) ht.typeIs PyProof.Rows.slot_tuple_getitem.lookup ?_ (by with_unfolding_all rfl)
  refine getItem_tuple_rev ht (Heap.IsSliceOf.new _ vl vu vs) pl pu ps hh ?_ (by rw [List.size_toArray]; omega)
  refine ⟨.ref _, _, I5.laid (t' := s4.toks) (o := .tup (xs.drop _).reverse) (fun b ob q => Heap.get?_push_of_some _ q) (Nat.le_refl _) ?_, rfl, q _ (I5.hok.fresh (Nat.le_refl _))⟩
  exact ⟨by rw [List.length_reverse, List.length_drop]; omega, _, (r.drop _).reverse, IsTup.new _ _⟩
def oRevT (m : Nat) : PyData → Option Rv
  | .tuple ds => some (.val (.tuple (ds.drop m).reverse))
  | _ => none
theorem se_revTo {e : Expr} {hx : Option Expr} {hi : Option Int} {k : Nat} {p1 p2 p3 pos : Pos} {f : S → Out Rv} (hh : OkHi hi) (ho : ∃ th, PO X hx th ∧ ∀ σ H, th σ H (fun o H' => o = hi ∧ H' = H)) (he : SE X W e f) : SE X W (.Subscript e (.Slice none hx (some (.UnaryOp .USub (.Constant (.int 1) k p1) p2)) p3) pos) (d1 (oRevT (hiM hi)) f) := by
  refine se_1 (r1 := fun x H1 Q => ∃ a xs, x = .ref a ∧ SqT X.K H1 a xs ∧ ∀ p, H1 p = none → Q (.ref p) (upd H1 p (.tup (xs.drop (hiM hi)).reverse))) (fun ta pa => pe_revT pa hh ho) ?_ he
  intro G H v a r e ta h Q q
  cases a <;> try (cases h)
  obtain ⟨p, vs, e1, sq, z⟩ := ta.tup e
  exact ⟨p, vs, e1, sq, q.tup e (DaAll.rev (DaAll.drop _ z))⟩
theorem se_revT {e : Expr} {k : Nat} {p1 p2 p3 pos : Pos} {f : S → Out Rv} (he : SE X W e f) : SE X W (.Subscript e (.Slice none none (some (.UnaryOp .USub (.Constant (.int 1) k p1) p2)) p3) pos) (d1 (oRevT 0) f) :=
  se_revTo (hi := none) trivial ⟨_, po_none, fun _ _ => ⟨rfl, rfl⟩⟩ he
theorem se_revTn {e : Expr} {v k k2 : Nat} {p1 p2 p3 p4 pos : Pos} {f : S → Out Rv} (he : SE X W e f) : SE X W (.Subscript e (.Slice none (some (.Constant (.int (v : Int)) k2 p4)) (some (.UnaryOp .USub (.Constant (.int 1) k p1) p2)) p3) pos) (d1 (oRevT (v + 1)) f) :=
  se_revTo (hi := some (v : Int)) (show (0 : Int) ≤ (v : Int) by omega) ⟨_, po_some pe_int, fun _ _ => ⟨_, rfl, rfl, rfl⟩⟩ he
end
end DL

/-! dicts that are made once, then read -/
namespace DL
open PySem PySem.Spec L2 PyProof.Rows
/-! ### tables of data -/
abbrev KD := List (Key × PyData)
def keyOf : PyData → Option Key
  | .int i => some (.inl i)
  | .str x => some (.inr x)
  | _ => none
theorem keyOf_kD (k : Key) : keyOf (kD k) = some k := by cases k <;> rfl
def putD (acc : KD) (k : Key) (d : PyData) : KD :=
  if (acc.any fun kv => decide (kv.1 = k)) = true then acc.map (fun kv => if kv.1 = k then (kv.1, d) else kv) else acc ++ [(k, d)]
def valD (acc : KD) (k : Key) : Option PyData := (acc.find? fun kv => decide (kv.1 = k)).map (·.2)
/-- the table of a dict's data -/
def unD : List (PyData × PyData) → Option KD
  | [] => some []
  | (k, d) :: l => (keyOf k).bind fun k => (unD l).bind fun acc => some ((k, d) :: acc)
theorem unD_map : ∀ acc : KD, unD (acc.map fun kv => (kD kv.1, kv.2)) = some acc
  | [] => rfl
  | (k, d) :: acc => by
    show (keyOf (kD k)).bind _ = _
    rw [keyOf_kD]
    show (unD (acc.map fun kv => (kD kv.1, kv.2))).bind _ = _
    rw [unD_map acc]
    rfl
theorem unD_eq : ∀ {l : List (PyData × PyData)} {acc : KD}, unD l = some acc → l = acc.map fun kv => (kD kv.1, kv.2)
  | [], acc, h => by cases h; rfl
  | (k, d) :: l, acc, h => by
    have h' : ((keyOf k).bind fun k => (unD l).bind fun acc => some ((k, d) :: acc)) = some acc := h
    cases hk : keyOf k with
    | none => rw [hk] at h'; cases h'
    | some k' =>
      rw [hk] at h'
      have h2 : ((unD l).bind fun acc => some ((k', d) :: acc)) = some acc := h'
      cases hl : unD l with
      | none => rw [hl] at h2; cases h2
      | some acc' =>
        rw [hl] at h2
        cases h2
        rw [unD_eq hl, List.map_cons]
        congr 1
        cases k <;> cases hk <;> rfl
section
variable {K : PySem.W.Frag}
inductive DaK (K : PySem.W.Frag) (G : Hp) : List (Key × V) → KD → Prop
  | nil : DaK K G [] []
  | cons {k : Key} {v : V} {d : PyData} {kvs : List (Key × V)} {acc : KD} : Da K G v d → DaK K G kvs acc → DaK K G ((k, v) :: kvs) ((k, d) :: acc)
theorem DaK.ex {G G' : Hp} (e : Ex G G') : ∀ {kvs : List (Key × V)} {acc : KD}, DaK K G kvs acc → DaK K G' kvs acc
  | _, _, .nil => .nil
  | _, _, .cons h1 h2 => .cons (h1.ex e) (DaK.ex e h2)
theorem DaK.len {G : Hp} : ∀ {kvs : List (Key × V)} {acc : KD}, DaK K G kvs acc → kvs.length = acc.length
  | _, _, .nil => rfl
  | _, _, .cons h1 h2 => by rw [List.length_cons, List.length_cons, DaK.len h2]
theorem DaK.any {G : Hp} (k : Key) : ∀ {kvs : List (Key × V)} {acc : KD}, DaK K G kvs acc → (kvs.any fun kv => decide (kv.1 = k)) = (acc.any fun kv => decide (kv.1 = k))
  | _, _, .nil => rfl
  | _, _, .cons h1 h2 => by rw [List.any_cons, List.any_cons, DaK.any k h2]
theorem DaK.app {G : Hp} {k : Key} {v : V} {d : PyData} (hd : Da K G v d) : ∀ {kvs : List (Key × V)} {acc : KD}, DaK K G kvs acc → DaK K G (kvs ++ [(k, v)]) (acc ++ [(k, d)])
  | _, _, .nil => .cons hd .nil
  | _, _, .cons h1 h2 => .cons h1 (DaK.app hd h2)
theorem DaK.repl {G : Hp} {k : Key} {v : V} {d : PyData} (hd : Da K G v d) : ∀ {kvs : List (Key × V)} {acc : KD}, DaK K G kvs acc → DaK K G (kvs.map fun kv => if kv.1 = k then (kv.1, v) else kv) (acc.map fun kv => if kv.1 = k then (kv.1, d) else kv)
  | _, _, .nil => .nil
  | _, _, .cons (k := k') h1 h2 => by
    rw [List.map_cons, List.map_cons]
    by_cases e : k' = k
    · rw [if_pos e, if_pos e]
      exact .cons hd (DaK.repl hd h2)
    · rw [if_neg e, if_neg e]
      exact .cons h1 (DaK.repl hd h2)
theorem DaK.put {G : Hp} {k : Key} {v : V} {d : PyData} {kvs : List (Key × V)} {acc : KD} (h : DaK K G kvs acc) (hd : Da K G v d) : DaK K G (L2.putK kvs k v) (putD acc k d) := by
  unfold L2.putK putD
  rw [h.any k]
  split
  · exact h.repl hd
  · exact h.app hd
theorem DaK.val {G : Hp} (k : Key) : ∀ {kvs : List (Key × V)} {acc : KD}, DaK K G kvs acc → (valV kvs k = none ∧ valD acc k = none) ∨ ∃ v d, valV kvs k = some v ∧ valD acc k = some d ∧ Da K G v d
  | _, _, .nil => .inl ⟨rfl, rfl⟩
  | _, _, .cons (k := k') (v := v) (d := d) h1 h2 => by
    by_cases e : k' = k
    · exact .inr ⟨v, d, by simp [valV, List.find?_cons, e], by simp [valD, List.find?_cons, e], h1⟩
    · rcases DaK.val k h2 with ⟨q1, q2⟩ | ⟨v', d', q1, q2, q3⟩
      · exact .inl ⟨by rw [valV_neg (p := (k', v)) e]; exact q1, by
          unfold valD at q2 ⊢
          rw [List.find?_cons, decide_eq_false e]
          exact q2⟩
      · exact .inr ⟨v', d', by rw [valV_neg (p := (k', v)) e]; exact q1, by
          unfold valD at q2 ⊢
          rw [List.find?_cons, decide_eq_false e]
          exact q2, q3⟩
theorem DaK.all {G : Hp} : ∀ {kvs : List (Key × V)} {acc : KD}, DaK K G kvs acc → DaAll K G (kvs.map (·.2)) (acc.map (·.2)) ∧ (kvs.map fun kv => kD kv.1).zip (acc.map (·.2)) = acc.map fun kv => (kD kv.1, kv.2)
  | _, _, .nil => ⟨.nil, rfl⟩
  | _, _, .cons h1 h2 => by
    obtain ⟨q1, q2⟩ := DaK.all h2
    refine ⟨.cons h1 q1, ?_⟩
    simp only [List.map_cons, List.zip_cons_cons]
    rw [q2]
theorem DaK.da {H : Hp} {a : Addr} {kvs : List (Key × V)} {acc : KD} (h : DaK K H kvs acc) (r : Rd H a (.dK kvs)) : Da K H (.ref a) (dicD acc) := by
  obtain ⟨q1, q2⟩ := h.all
  unfold dicD
  rw [← q2]
  exact .dct r q1
theorem daK_of {G : Hp} : ∀ {kvs : List (Key × V)} {ds : List PyData}, DaAll K G (kvs.map (·.2)) ds → ∃ acc : KD, DaK K G kvs acc ∧ (kvs.map fun kv => kD kv.1).zip ds = acc.map fun kv => (kD kv.1, kv.2)
  | [], _, h => by cases h; exact ⟨[], .nil, rfl⟩
  | (k, v) :: kvs, _, h => by
    cases h with
    | cons h1 h2 =>
      rename_i d ds
      obtain ⟨acc, q1, q2⟩ := daK_of h2
      refine ⟨(k, d) :: acc, .cons h1 q1, ?_⟩
      simp only [List.map_cons, List.zip_cons_cons]
      rw [q2]
theorem Tr.dic {G H : Hp} {v : V} {L : List (PyData × PyData)} (h : Tr K G H v (.dict L)) (hu : unD L ≠ none) : ∃ a kvs acc, v = .ref a ∧ Rd G a (.dK kvs) ∧ DaK K G kvs acc ∧ unD L = some acc := by
  cases h with
  | st h =>
    generalize hd : PyData.dict L = x at h
    cases h with
    | dct r q =>
      cases hd
      obtain ⟨acc, q1, q2⟩ := daK_of q
      exact ⟨_, _, acc, rfl, r, q1, by rw [q2]; exact unD_map acc⟩
    | exc r q =>
      cases hd
      exact (hu rfl).elim
    | _ => cases hd
end
section
variable {X : Cx} {W : WX} {K : PySem.W.Frag}
theorem tr_key {G H : Hp} {v : V} {d : PyData} {k : Key} (h : Tr K G H v d) (e : keyOf d = some k) : v = kV k := by
  cases d <;> try (cases e)
  · exact h.int
  · exact h.str
/-! ### d.get(k), d[k], k in d -/
def oGet1 : PyData → PyData → Option Rv
  | .dict L, k => (unD L).bind fun acc => (keyOf k).map fun k => .val ((valD acc k).getD .none)
  | _, _ => none
def oGetI : PyData → PyData → Option Rv
  | .dict L, k => (unD L).bind fun acc => (keyOf k).bind fun k => (valD acc k).map Rv.val
  | _, _ => none
def isDicU : PyData → Bool
  | .dict L => (unD L).isSome
  | _ => false
theorem get_ok {G H : Hp} {v u : V} {L : List (PyData × PyData)} {b : PyData} {acc : KD} {k : Key} (e : Ex G H) (ta : Tr K G H v (.dict L)) (tb : Tr K G H u b) (h1 : unD L = some acc) (h2 : keyOf b = some k) : ∃ a o, v = .ref a ∧ DGet H a u o ∧ ((o = none ∧ valD acc k = none) ∨ ∃ w d, o = some w ∧ valD acc k = some d ∧ Da K G w d) := by
  obtain ⟨a, kvs, acc', rfl, r, q, e2⟩ := ta.dic (by rw [h1]; simp)
  rw [h1] at e2
  cases e2
  refine ⟨a, valV kvs k, rfl, .inl ⟨kvs, k, ex_rd e r, tr_key tb h2, rfl⟩, ?_⟩
  rcases q.val k with ⟨q1, q2⟩ | ⟨w, d, q1, q2, q3⟩
  · exact .inl ⟨q1, q2⟩
  · exact .inr ⟨w, d, q1, q2, q3⟩
theorem isD_tr {G H : Hp} {v : V} {d : PyData} (e : Ex G H) (t : Tr K G H v d) (h : isDicU d = true) : ∃ a, v = .ref a ∧ IsD H a := by
  cases d <;> try (cases h)
  obtain ⟨a, kvs, acc, rfl, r, _, _⟩ := t.dic (fun z => by have h' : (unD _).isSome = true := h; rw [z] at h'; cases h')
  exact ⟨a, rfl, .inl ⟨kvs, ex_rd e r⟩⟩
theorem se_dget1 {o e : Expr} {apos cpos : Pos} {f g : S → Out Rv} (hu : X.A.units + 65 < cLine) (ha : SE X W o f) (hb : SE X W e g)
    (hbase : attributeBase o "get" X.env (eval o X.env) = eval o X.env := by rfl)
    (hfew : ((backTo cpos (starEach [e] X.env)).all (fun x => !x.1) && (backToKw cpos (keywordEach [] X.env)).all (fun x => x.1.isSome)
      && decide (([e] : List Expr).length + ([] : List Keyword).length + (if ([] : List Keyword).isEmpty then 0 else 1) < 30)) = true := by rfl)
    (hline : (apos.endLine == cpos.line) = true := by rfl) (htr : backTo cpos (starEach [e] X.env) = [(false, eval e X.env)] := by rfl) :
    SE X W (.Call (.Attribute o "get" apos) [e] [] cpos) (d2 oGet1 (dIs isDicU f) g) := by
  obtain ⟨ta, pa1, sa⟩ := ha
  obtain ⟨tb, pb, sb⟩ := hb
  refine ⟨_, pe_dget1 (by omega) pa1 pb ⟨hbase, hfew, hline, htr⟩, fun G H sg dl Q re h => ?_⟩
  have h' : Post X W G H sg dl (wE X sg H Q) ((f dl).bind fun r0 d0 => (isLO isDicU r0 d0 (rd d0 r0)).bind fun r1 d1 => (g d1).bind fun r2 d2 => fin (o2 oGet1 (rd d2 r1) (rd d2 r2)) d2) := by
    unfold d2 dIs at h
    cases e0 : f dl with
    | bad => rw [e0] at h; exact h
    | ex c d => rw [e0] at h; exact h
    | ok a d => rw [e0] at h; exact h
  refine sa G H sg dl _ re ((post_bind h').imp fun r1 d1 G1 H1 s1 k1 h1 v1 q1 => ?_)
  cases e1 : rd d1 r1 with
  | none => rw [e1] at h1; exact h1.elim
  | some x =>
    rw [e1] at h1
    have h1' : Post X W G1 H1 sg d1 (wE X sg H Q) ((if isDicU x then Out.ok r1 d1 else .bad).bind fun r1 d1 => (g d1).bind fun r2 d2 => fin (o2 oGet1 (rd d2 r1) (rd d2 r2)) d2) := h1
    cases hp : isDicU x with
    | false => rw [hp] at h1'; exact h1'.elim
    | true =>
      rw [hp] at h1'
      obtain ⟨a, rfl, hD⟩ := isD_tr s1.rel.ex (q1.tr s1.rel e1) hp
      refine ⟨a, rfl, hD, ?_⟩
      have h1'' : Post X W G1 H1 sg d1 (wE X sg H Q) ((g d1).bind fun r2 d2 => fin (o2 oGet1 (rd d2 r1) (rd d2 r2)) d2) := h1'
      refine sb G1 H1 sg d1 _ s1.rel ((post_bind h1'').imp fun r2 d2 G2 H2 s2 k2 h2 v2 q2 => ?_)
      have q1' := q1.mono s2 k2
      cases e1 : rd d2 r1 with
      | none => rw [e1] at h2; exact h2.elim
      | some x =>
        cases e2 : rd d2 r2 with
        | none => rw [e1, e2] at h2; exact h2.elim
        | some y =>
          rw [e1, e2] at h2
          have h2' : Post X W G2 H2 sg d2 (wE X sg H Q) (fin (oGet1 x y) d2) := h2
          cases x with
          | dict L =>
            have h3 : Post X W G2 H2 sg d2 (wE X sg H Q) (fin ((unD L).bind fun acc => (keyOf y).map fun k => .val ((valD acc k).getD .none)) d2) := h2'
            cases eu : unD L with
            | none => rw [eu] at h3; exact h3.elim
            | some acc =>
              rw [eu] at h3
              cases ek : keyOf y with
              | none => rw [ek] at h3; exact h3.elim
              | some k =>
                rw [ek] at h3
                obtain ⟨a', ov, ea, hg, hv⟩ := get_ok s2.rel.ex (q1'.tr s2.rel e1) (q2.tr s2.rel e2) eu ek
                cases ea
                refine ⟨ov, hg, ?_⟩
                have w : wO X.K G2 H2 (.val ((valD acc k).getD .none)) Q := wO.fin rfl s2.rel (fun a z => s2.d a (s1.d a z)) h3
                rcases hv with ⟨rfl, q⟩ | ⟨w', d', rfl, q, qd⟩
                · rw [q] at w
                  exact w.val s2.rel.ex .non
                · rw [q] at w
                  exact w.val s2.rel.ex qd
          | _ => exact h2'.elim
/-- d[k], there -/
theorem os_getI : OpS K (fun x y H Q => ∃ a v, x = .ref a ∧ DGet H a y (some v) ∧ Q v H) oGetI := by
  intro G H v u a b r e ta tb h Q q
  cases a <;> try (cases h)
  rename_i L
  have h' : ((unD L).bind fun acc => (keyOf b).bind fun k => (valD acc k).map Rv.val) = some r := h
  cases eu : unD L with
  | none => rw [eu] at h'; cases h'
  | some acc =>
    rw [eu] at h'
    cases ek : keyOf b with
    | none => rw [ek] at h'; cases h'
    | some k =>
      rw [ek] at h'
      have h2 : (valD acc k).map Rv.val = some r := h'
      obtain ⟨a', ov, ea, hg, hv⟩ := get_ok e ta tb eu ek
      rcases hv with ⟨rfl, q'⟩ | ⟨w', d', rfl, q', qd⟩
      · rw [q'] at h2; cases h2
      · rw [q'] at h2
        cases h2
        exact ⟨a', w', ea, hg, q.val e qd⟩
theorem se_dix {a b : Expr} {pos : Pos} {f g : S → Out Rv} (hu : X.A.units + 65 < cLine) (ha : SE X W a f) (hb : SE X W b g) (hs : NoSl b := by exact fun _ _ => rfl) : SE X W (.Subscript a b pos) (d2 oGetI f g) :=
  se_2 (fun _ _ pa pb => pe_dget (by omega) pa pb hs) os_getI ha hb
end
/-! ### {k: v for ..} -/
def compK (vs : List Nat) (put : S → PyData → Option S) (c : S → Out Bool) (fk fv : S → Out Rv) : List PyData → S → KD → Option (KD × S)
  | [], dn, acc => some (acc, dn)
  | d :: ds, dn, acc => match put dn d with
    | none => none
    | some d1 => match c d1 with
      | .ok true d2 => match fk d2 with
        | .ok rk d3 => match (rd d3 rk).bind keyOf with
          | some k => match fv d3 with
            | .ok r d4 => match stb d4 r with
              | some (y, d5) => if acc.length < 100000 then compK vs put c fk fv ds (wipeD d5 vs) (putD acc k y) else none
              | none => none
            | _ => none
          | none => none
        | _ => none
      | .ok false d2 => compK vs put c fk fv ds (wipeD d2 vs) acc
      | _ => none
def endK (dl : S) (vs : List Nat) (o : Option (KD × S)) : Out Rv := match o with
  | some (acc, dn) => .ok (.val (dicD acc)) (restD dl vs dn)
  | none => .bad
def dDComp (it : S → Out (List PyData)) (vs : List Nat) (put : S → PyData → Option S) (c : S → Out Bool) (fk fv : S → Out Rv) : S → Out Rv := fun dl => (it dl).bind fun ds d1 => endK d1 vs (compK vs put c fk fv ds (wipeD d1 vs) [])
section
variable {K : PySem.W.Frag}
theorem stp_frz {G H H0 G0 : Hp} {sg sg0 : L2.St} {dl dl0 : S} {D : Addr} {o : HO} (s : Stp K G0 H0 sg0 dl0 G H sg dl) (h0 : H0 D = none) (hH : H D = some o) (hg : G D = none) (hw : ¬ Ow H sg dl D) : Stp K G0 H0 sg0 dl0 (upd G D o) H sg dl := by
  have re := s.rel
  have ne : Ex G (upd G D o) := Ex.new hg
  obtain ⟨r', w'⟩ := re.keep ne (fun a u z => by
    by_cases za : a = D
    · subst za; rw [upd_same] at z; cases z; exact hH
    · rw [upd_ne za] at z; exact re.ex a u z) (fun _ _ => rfl) fun a ha => by
      rw [upd_ne fun zz => hw (by rw [← zz]; exact ha)]
      exact (re.ow ha).1
  refine ⟨r', s.g.trans ne, s.k, fun a h1 h2 h3 => ?_, s.w, s.d, s.io⟩
  rw [upd_ne fun zz => h2 (by rw [zz]; exact h0)]
  exact s.n a h1 h2 h3
end
section
variable {X : Cx} {W : WX}
theorem so_dcomp {wi : TI} {g : TG} {tt : TT} {tk tv : TE} {it : S → Out (List PyData)} {put : S → PyData → Option S} {c : S → Out Bool} {fk fv : S → Out Rv} {vs vs0 : List Nat} (si : SoI X W wi it) (sg' : SoG X.K vs0 g put) (sub : ∀ i ∈ vs0, i ∈ vs) (st : SoT X W0 tt c) (sk : SoE X W0 tk fk) (se : SoE X W0 tv fv) :
    SoE X W (tDc wi g tt tk tv vs) (dDComp it vs put c fk fv) := by
  intro G H sg dl Q re h
  refine si G H sg dl _ re ((post_bind h).imp fun ds d1 G1 H1 s1 k1 h1 J wk D hD => ?_)
  cases ec : compK vs put c fk fv ds (wipeD d1 vs) [] with
  | none => rw [ec] at h1; exact h1.elim
  | some y =>
    obtain ⟨accF, dnF⟩ := y
    rw [ec] at h1
    have h1' : Post X W G1 H1 sg d1 (wE X sg H Q) (.ok (.val (dicD accF)) (restD d1 vs dnF)) := h1
    have reW : Rel X.K G1 H1 (wipe sg vs) (wipeD d1 vs) := rel_wipe s1.rel
    have no0 : ∀ i, i ∈ vs → i < (wipeD d1 vs).length → (wipeD d1 vs)[i]? = some .no := fun i hi hl => wipeD_in hi (by rw [wipeD_len] at hl; exact hl)
    refine ⟨fun i m Hh => ∃ G' dn vD acc, Stp X.K G1 H1 (wipe sg vs) (wipeD d1 vs) G' Hh (wipe sg vs) dn ∧ Kp (wipeD d1 vs) dn ∧ ¬ Ow Hh (wipe sg vs) dn D ∧ Hh D = some (.dK vD) ∧ G' D = none ∧ DaK X.K G' vD acc ∧ i ≤ ds.length ∧ m = ds.length - i ∧ compK vs put c fk fv (ds.drop i) dn acc = some (accF, dnF),
      ⟨ds.length, G1, wipeD d1 vs, [], [], (Alc.li s1.rel.ex hD (.dK [])).stp reW, Kp.refl _, fun q => (reW.ow (reW.back (Ex.new hD) q)).2 hD, upd_same, s1.rel.ex.nn hD, .nil, Nat.zero_le _, rfl, ec⟩, ?_⟩
    rintro i m Hh ⟨G', dn, vD, acc, s, k, nw, hDh, hDg, da, hi, rfl, he⟩
    obtain ⟨go, stop⟩ := wk i G' Hh s.g s.rel.ex
    have noN : ∀ i, i ∈ vs → i < dn.length → dn[i]? = some .no := fun i hi hl => by
      have := k.2 i
      rw [no0 i hi (by rw [← k.1]; exact hl)] at this
      exact this
    by_cases hlt : i < ds.length
    · have hd : ds[i]? = some ds[i] := List.getElem?_eq_getElem hlt
      obtain ⟨g1, y1⟩ := go ds[i] hd
      have ed : ds.drop i = ds[i] :: ds.drop (i + 1) := List.drop_eq_getElem_cons hlt
      rw [ed] at he
      unfold compK at he
      refine .inr ⟨g1, fun Hn => ∃ G' dn vD acc, Stp X.K G1 H1 (wipe sg vs) (wipeD d1 vs) G' Hn (wipe sg vs) dn ∧ Kp (wipeD d1 vs) dn ∧ ¬ Ow Hn (wipe sg vs) dn D ∧ Hn D = some (.dK vD) ∧ G' D = none ∧ DaK X.K G' vD acc ∧ compK vs put c fk fv (ds.drop (i + 1)) dn acc = some (accF, dnF),
        fun Hn ⟨G', dn, vD, acc, z1, z2, z3, z4, z5, z6, z7⟩ => ⟨ds.length - (i + 1), by omega, G', dn, vD, acc, z1, z2, z3, z4, z5, z6, hlt, rfl, z7⟩, fun x H2 y => ?_⟩
      obtain ⟨G2, al, dx⟩ := y1 x H2 y
      have s2 := al.stp s.rel
      cases ep : put dn ds[i] with
      | none => rw [ep] at he; cases he
      | some d3 =>
        rw [ep] at he
        obtain ⟨p1, p2⟩ := sg'.1 dn ds[i] d3 ep
        refine sg'.2 G' Hh (wipe sg vs) dn G2 H2 (wipe sg vs) dn x ds[i] d3 _ s2 dx ep fun sg3 s3 l3 o3 => ?_
        have ew : wipe sg3 vs = wipe sg vs := (wipe_same l3 fun i hi => o3 i fun z => hi (sub i z)).trans wipe_wipe
        refine ⟨ew, ?_⟩
        have tn : ∀ {G6 H6 : Hp} {d6 : S}, Stp X.K G' Hh (wipe sg vs) dn G6 H6 sg3 d6 → Kp d3 d6 → Stp X.K G1 H1 (wipe sg vs) (wipeD d1 vs) G6 H6 (wipe sg vs) (wipeD d6 vs) ∧ Kp (wipeD d1 vs) (wipeD d6 vs) ∧ ¬ Ow H6 (wipe sg vs) (wipeD d6 vs) D ∧ H6 D = some (.dK vD) ∧ G6 D = none ∧ DaK X.K G6 vD acc := fun {G6 H6 d6} sl kl => by
          have s6 := stp_wipe (vs := vs) sl
          rw [ew] at s6
          exact ⟨s.trans s6, k.trans (kp_turn p1 (fun i hi => p2 i fun z => hi (sub i z)) noN kl), s6.nw nw (some_ne hDh), sl.k D _ nw hDh, sl.n D nw (some_ne hDh) hDg, da.ex sl.g⟩
        have he' : (match c d3 with
          | .ok true d2 => match fk d2 with
            | .ok rk d3 => match (rd d3 rk).bind keyOf with
              | some k => match fv d3 with
                | .ok r d4 => match stb d4 r with
                  | some (y, d5) => if acc.length < 100000 then compK vs put c fk fv (ds.drop (i + 1)) (wipeD d5 vs) (putD acc k y) else none
                  | none => none
                | _ => none
              | none => none
            | _ => none
          | .ok false d2 => compK vs put c fk fv (ds.drop (i + 1)) (wipeD d2 vs) acc
          | _ => none) = some (accF, dnF) := he
        refine st G2 H2 sg3 d3 _ s3.rel ?_
        cases eb : c d3 with
        | bad => rw [eb] at he'; cases he'
        | ex cc dd => rw [eb] at he'; cases he'
        | ok b d4 =>
          rw [eb] at he'
          intro G4 H4 s4 k4
          have s34 := s3.trans s4
          cases b with
          | false =>
            obtain ⟨z1, z2, z3, z4, z5, z6⟩ := tn s34 k4
            exact ⟨G4, wipeD d4 vs, vD, acc, z1, z2, z3, z4, z5, z6, he'⟩
          | true =>
            have he2 : (match fk d4 with
              | .ok rk d3 => match (rd d3 rk).bind keyOf with
                | some k => match fv d3 with
                  | .ok r d4 => match stb d4 r with
                    | some (y, d5) => if acc.length < 100000 then compK vs put c fk fv (ds.drop (i + 1)) (wipeD d5 vs) (putD acc k y) else none
                    | none => none
                  | _ => none
                | none => none
              | _ => none) = some (accF, dnF) := he'
            refine sk G4 H4 sg3 d4 _ s4.rel ?_
            cases ef : fk d4 with
            | bad => rw [ef] at he2; cases he2
            | ex cc dd => rw [ef] at he2; cases he2
            | ok rk d5 =>
              rw [ef] at he2
              intro G5 H5 s5 k5 vk qk
              have he3 : (match (rd d5 rk).bind keyOf with
                | some k => match fv d5 with
                  | .ok r d4 => match stb d4 r with
                    | some (y, d5) => if acc.length < 100000 then compK vs put c fk fv (ds.drop (i + 1)) (wipeD d5 vs) (putD acc k y) else none
                    | none => none
                  | _ => none
                | none => none) = some (accF, dnF) := he2
              cases er : rd d5 rk with
              | none => rw [er] at he3; cases he3
              | some dk =>
                rw [er] at he3
                have he4 : (match keyOf dk with
                  | some k => match fv d5 with
                    | .ok r d4 => match stb d4 r with
                      | some (y, d5) => if acc.length < 100000 then compK vs put c fk fv (ds.drop (i + 1)) (wipeD d5 vs) (putD acc k y) else none
                      | none => none
                    | _ => none
                  | none => none) = some (accF, dnF) := he3
                cases ek : keyOf dk with
                | none => rw [ek] at he4; cases he4
                | some kk =>
                  rw [ek] at he4
                  have hvk : vk = kV kk := tr_key (qk.tr s5.rel er) ek
                  have he5 : (match fv d5 with
                    | .ok r d4 => match stb d4 r with
                      | some (y, d5) => if acc.length < 100000 then compK vs put c fk fv (ds.drop (i + 1)) (wipeD d5 vs) (putD acc kk y) else none
                      | none => none
                    | _ => none) = some (accF, dnF) := he4
                  have s35 := s34.trans s5
                  refine se G5 H5 sg3 d5 _ s5.rel ?_
                  cases ev : fv d5 with
                  | bad => rw [ev] at he5; cases he5
                  | ex cc dd => rw [ev] at he5; cases he5
                  | ok r d6 =>
                    rw [ev] at he5
                    intro G6 H6 s6 k6 v q
                    have he6 : (match stb d6 r with
                      | some (y, d5) => if acc.length < 100000 then compK vs put c fk fv (ds.drop (i + 1)) (wipeD d5 vs) (putD acc kk y) else none
                      | none => none) = some (accF, dnF) := he5
                    cases es : stb d6 r with
                    | none => rw [es] at he6; cases he6
                    | some yy =>
                      obtain ⟨y, d7⟩ := yy
                      rw [es] at he6
                      obtain ⟨G7, s7, k7, z7, _⟩ := stb_ok s6 q es
                      obtain ⟨z1, z2, z3, z4, z5, zk⟩ := tn (s35.trans s7) (k4.trans (k5.trans (k6.trans k7)))
                      have he7 : (if acc.length < 100000 then compK vs put c fk fv (ds.drop (i + 1)) (wipeD d7 vs) (putD acc kk y) else none) = some (accF, dnF) := he6
                      by_cases hl : acc.length < 100000
                      · rw [if_pos hl] at he7
                        refine ⟨vD, kk, hvk, z4, by rw [zk.len]; exact sz_lt hl, G7, wipeD d7 vs, L2.putK vD kk v, putD acc kk y, stp_fly z1 hD z5 z3, z2, ow_fly z1.rel z3, upd_same, z5, zk.put z7, he7⟩
                      · rw [if_neg hl] at he7; cases he7
    · have ei : i = ds.length := by omega
      subst ei
      rw [List.drop_length] at he
      cases he
      refine .inl ⟨stop (Nat.le_refl _), ?_⟩
      have ne : Ex G' (upd G' D (.dK vD)) := Ex.new hDg
      obtain ⟨sr, kr⟩ := stp_rest s1.rel (stp_frz s hD hDh hDg nw) k
      exact h1' _ Hh sr kr (.ref D) ((da.ex ne).da (.inl upd_same))
theorem se_dcomp (own : List (Str × Nat)) {kx vx tg iter : Expr} {ifs : List Expr} {scope : Scope} {pos : Pos} {g : TG} {it : S → Out (List PyData)} {put : S → PyData → Option S} {c : S → Out Bool} {fk fv : S → Out Rv} {vs0 : List Nat} (hc : X.calm = true) (hN : X.N.Nodup) (hi : SI X W tg iter it) (ok : BlkOk X.N X.env.scope scope own)
    (hg : ∀ i, PG (bX X scope i) tg g) (sg : SoG X.K vs0 g put) (sub : ∀ i ∈ vs0, i ∈ own.map (·.2)) (ht : ∀ i, STs (bX X scope i) W0 ifs c) (hk : ∀ i, SE (bX X scope i) W0 kx fk) (he : ∀ i, SE (bX X scope i) W0 vx fv) (hs : ∀ x, foldedSetIterable iter X.env x = pure x := by intro _; rfl) :
    SE X W (.DictComp kx vx [⟨tg, iter, ifs, 0⟩] scope pos) (dDComp it (own.map (·.2)) put c fk fv) := by
  obtain ⟨wi, pi, si⟩ := hi
  obtain ⟨tt, pt, st⟩ := meetT (X := X) (Xi := bX X scope) (fun _ => rfl) (fun _ => rfl) ht
  obtain ⟨tk, pk, sk⟩ := meetE (X := X) (Xi := bX X scope) (fun _ => rfl) (fun _ => rfl) hk
  obtain ⟨te, pe, se⟩ := meetE (X := X) (Xi := bX X scope) (fun _ => rfl) (fun _ => rfl) he
  exact ⟨_, pe_dc hc hN pi ok (fun s H C cl fp => hg ⟨s, H, C, cl, fp⟩) (fun s H C cl fp => pt ⟨s, H, C, cl, fp⟩) (fun s H C cl fp => pk ⟨s, H, C, cl, fp⟩) (fun s H C cl fp => pe ⟨s, H, C, cl, fp⟩) hs, so_dcomp si sg sub st sk se⟩
end
end DL

/-! the truth of a list, a number, None -/
namespace DL
open PySem PySem.Spec L2 PyProof.Rows
section
variable {X : Cx} {W : WX}
def truD : PyData → Option Bool
  | .none => some false
  | .bool b => some b
  | .int i => some (i != 0)
  | .list ds => some (!ds.isEmpty)
  | .tuple ds => some (!ds.isEmpty)
  | _ => none
def truT (dl : S) : Option Bool → Out Bool
  | some b => .ok b dl
  | none => .bad
def dTru (f : S → Out Rv) : S → Out Bool := fun dl => (f dl).bind fun r d1 => truT d1 ((rd d1 r).bind truD)
theorem emp_len {A B : Type} {xs : List A} {ys : List B} (h : xs.length = ys.length) : xs.isEmpty = ys.isEmpty := by
  cases xs <;> cases ys <;> simp at h ⊢
theorem st_tru {e : Expr} {f : S → Out Rv} (h : SE X W e f) (he : ∀ whole, isTrue e X.env whole = (do let v ← whole; standAt e.pos; holding [v] (truthy v)) := by intro _; rfl) : ST X W e (dTru f) := by
  obtain ⟨t, p, sa⟩ := h
  refine ⟨_, pt_truth p he, fun G H sg dl Q re h => ?_⟩
  refine sa G H sg dl _ re ((post_bind h).imp fun r1 d1 G1 H1 s1 k1 h1 v1 q1 => ?_)
  cases e1 : rd d1 r1 with
  | none => rw [e1] at h1; exact h1.elim
  | some x =>
    rw [e1] at h1
    have h1' : Post X W G1 H1 sg d1 (fun b _ _ H' => Q b H') (truT d1 (truD x)) := h1
    have tr := q1.tr s1.rel e1
    cases e2 : truD x with
    | none => rw [e2] at h1'; exact h1'.elim
    | some b =>
      rw [e2] at h1'
      refine ⟨b, ?_, h1' G1 H1 (Stp.refl s1.rel) (Kp.refl d1)⟩
      cases x with
      | none => cases e2; cases tr.non; exact rfl
      | bool c => cases e2; cases tr.bl; exact rfl
      | int i => cases e2; cases tr.int; exact rfl
      | list ds =>
        cases e2
        obtain ⟨q, vs, rfl, sq, z⟩ := tr.lst s1.rel.ex
        exact .inl ⟨vs, sq, by rw [emp_len z.len]⟩
      | tuple ds =>
        cases e2
        obtain ⟨q, vs, rfl, sq, z⟩ := tr.tup s1.rel.ex
        exact .inr (.inl ⟨vs, sq, by rw [emp_len z.len]⟩)
      | str _ => cases e2
      | dict _ => cases e2
end
end DL

/-! dicts that one name alone holds -/
namespace DL
open PySem PySem.Spec L2 PyProof.Rows
section
variable {K : PySem.W.Frag}
theorem daK_of2 {G : Hp} : ∀ {kvs : List (Key × V)} {kds : KD}, kvs.map (·.1) = kds.map (·.1) → DaAll K G (kvs.map (·.2)) (kds.map (·.2)) → DaK K G kvs kds
  | [], [], _, _ => .nil
  | [], _ :: _, e, _ => by simp at e
  | _ :: _, [], e, _ => by simp at e
  | (k, v) :: kvs, (k', d) :: kds, e, h => by
    rw [List.map_cons, List.map_cons] at e h
    injection e with e1 e2
    cases h with
    | cons h1 h2 =>
      have e1' : k = k' := e1
      subst e1'
      exact .cons h1 (daK_of2 e2 h2)
theorem DaK.keys {G : Hp} : ∀ {kvs : List (Key × V)} {acc : KD}, DaK K G kvs acc → kvs.map (·.1) = acc.map (·.1)
  | _, _, .nil => rfl
  | _, _, .cons h1 h2 => by rw [List.map_cons, List.map_cons, DaK.keys h2]
theorem mk_dS {G H : Hp} {v : V} {kds : KD} : MkOk K G H v (.dS kds) ↔ ∃ p kvs, v = .ref p ∧ H p = some (.dK kvs) ∧ DaK K G kvs kds :=
  ⟨fun ⟨p, kvs, e, h1, h2, h3⟩ => ⟨p, kvs, e, h1, daK_of2 h2 h3⟩, fun ⟨p, kvs, e, h1, h2⟩ => ⟨p, kvs, e, h1, h2.keys, h2.all.1⟩⟩
theorem daK_lists {G : Hp} : ∀ {kvs : List (Key × V)} {kls : List (Key × List PyData)}, Paired (fun kv kl => kv.1 = kl.1 ∧ Da K G kv.2 (.list kl.2)) kvs kls → DaK K G kvs (kls.map fun kl => (kl.1, PyData.list kl.2))
  | _, _, .nil => .nil
  | (k, v) :: _, (k', ds) :: _, .cons h t => by
    obtain ⟨h1, h2⟩ := h
    have h1' : k = k' := h1
    subst h1'
    exact .cons h2 (daK_lists t)
theorem das_lists {G : Hp} : ∀ {vs : List V} {dss : List (List PyData)}, Paired (fun u ds => Da K G u (.list ds)) vs dss → DaAll K G vs (dss.map PyData.list)
  | _, _, .nil => .nil
  | _, _, .cons h t => .cons h (das_lists t)
/-- m as it is, nobody changing it -/
theorem mk_da {G G' H : Hp} {v : V} {m : Mk} (h : MkOk K G H v m) (e : Ex G G') (f : ∀ a, Fp H v m a → G' a = H a) : Da K G' v (mkD m) := by
  cases m with
  | dS kds =>
    obtain ⟨p, kvs, rfl, h1, h2⟩ := mk_dS.mp h
    exact (h2.ex e).da (.inl ((f p rfl).trans h1))
  | dL kls =>
    obtain ⟨p, kvs, rfl, h1, h2, h3⟩ := h
    refine (daK_lists (paired_imp h2 fun x y hx z => ⟨z.1, ?_⟩)).da (.inl ((f p (.inl rfl)).trans h1))
    obtain ⟨q, us, e1, e2, e3⟩ := z.2
    rw [e1]
    exact .lst (.inl (.inl ((f q (.inr ⟨p, kvs, x.1, rfl, h1, by rw [← e1]; exact hx⟩)).trans e2))) (e3.ex e)
  | lL dss =>
    obtain ⟨p, vs, rfl, h1, h2, h3, h4⟩ := h
    refine .lst (.inl (.inl ((f p (.inl rfl)).trans h1))) (das_lists (paired_imp h2 fun x y hx z => ?_))
    obtain ⟨q, us, e1, e2, e3⟩ := z
    rw [e1]
    exact .lst (.inl (.inl ((f q (.inr ⟨p, vs, rfl, h1, by rw [← e1]; exact hx⟩)).trans e2))) (e3.ex e)
theorem kp_set {dl : S} {i : Nat} {m : Mk} {s : Sl} (e : dl[i]? = some (.big m)) (hs : (∃ m', s = .big m') ∨ ∃ d, s = .val d) : Kp dl (dl.set i s) := by
  refine ⟨List.length_set, fun j => ?_⟩
  by_cases hj : j = i
  · subst hj
    rw [e, List.getElem?_set_self (lt_of_get e)]
    rcases hs with ⟨m', rfl⟩ | ⟨d, rfl⟩
    · exact .inl ⟨m', rfl⟩
    · exact .inr ⟨d, rfl⟩
  · rw [set_ne hj]
    exact (Kp.refl dl).2 j
/-- a slot gives up its things -/
theorem frzB_ok {G H : Hp} {sg : L2.St} {dl : S} {i : Nat} {m : Mk} (re : Rel K G H sg dl) (e : dl[i]? = some (.big m)) :
    ∃ G' v, Stp K G H sg dl G' H sg (dl.set i (.val (mkD m))) ∧ Kp dl (dl.set i (.val (mkD m))) ∧ sg[i]? = some (some v) ∧ Da K G' v (mkD m) ∧ MkOk K G H v m ∧ (∀ a, Fp H v m a → G a = none ∧ G' a = H a) := by
  obtain ⟨v, h1, h2, h3⟩ := re.mn i _ e rfl
  have ne : Ex G (fun a => open Classical in if Fp H v m a then H a else G a) := fun a o h => by
    have hn : ¬ Fp H v m a := fun z => by rw [h3 a z] at h; cases h
    show (open Classical in if Fp H v m a then H a else G a) = some o
    rw [if_neg hn]
    exact h
  have f : ∀ a, Fp H v m a → (fun a => open Classical in if Fp H v m a then H a else G a) a = H a := fun a ha => by
    show (open Classical in if Fp H v m a then H a else G a) = H a
    rw [if_pos ha]
  have dd : Da K _ v (mkD m) := mk_da h2 ne f
  refine ⟨_, v, frz_any re e h1 ne (fun a o z => ?_) (fun a ha => ?_) dd, kp_set e (.inr ⟨_, rfl⟩), h1, dd, h2, fun a ha => ⟨h3 a ha, f a ha⟩⟩
  · have z' : (open Classical in if Fp H v m a then H a else G a) = some o := z
    by_cases hf : Fp H v m a
    · rw [if_pos hf] at z'; exact z'
    · rw [if_neg hf] at z'; exact re.ex a o z'
  · show (open Classical in if Fp H v m a then H a else G a) = G a
    exact if_neg ha
end
section
variable {X : Cx} {W : WX}
def bigAt (dl : S) (i : Nat) : Option Mk := match dl[i]? with
  | some (.big m) => some m
  | _ => none
theorem bigAt_ok {dl : S} {i : Nat} {m : Mk} (h : bigAt dl i = some m) : dl[i]? = some (.big m) := by
  unfold bigAt at h
  split at h
  · cases h; assumption
  · cases h
/-- the name itself: its slot gives its things up -/
def dFrz (i : Nat) : S → Out Rv := fun dl => match bigAt dl i with
  | some m => .ok (.val (mkD m)) (dl.set i (.val (mkD m)))
  | none => dVar i dl
theorem se_frz (i : Nat) {x : Str} {pos : Pos} (hN : X.N[i]? = some x := by rfl) (hv : Vis X.env.scope x := by first | exact Or.inl rfl | exact Or.inr (Or.inl rfl) | exact Or.inr (Or.inr rfl)) (hd : (x == ("__debug__" : Str)) = false := by decide)
    (hcd : (x == ("__classdict__" : Str)) = false := by decide) : SE X W (.Name x pos) (dFrz i) := by
  refine ⟨tVar i, pe_var hN hv hd hcd, fun G H sg dl Q re h => ?_⟩
  unfold dFrz at h
  cases hs : bigAt dl i with
  | none =>
    rw [hs] at h
    have h' : Post X W G H sg dl (wE X sg H Q) (dVar i dl) := h
    unfold dVar at h'
    cases hs : dl[i]? with
    | none => rw [hs] at h'; exact h'.elim
    | some s =>
      rw [hs] at h'
      cases s with
      | no => exact h'.elim
      | val d =>
        obtain ⟨v, h1, h2⟩ := re.val i d hs
        exact ⟨v, h1, h' G H (Stp.refl re) (Kp.refl dl) v h2⟩
      | own b ds =>
        obtain ⟨p, vs, h1, _⟩ := re.own i b ds hs
        exact ⟨.ref p, h1, h' G H (Stp.refl re) (Kp.refl dl) (.ref p) ⟨h1, .list ds, by unfold rdS; rw [hs]⟩⟩
      | big m => exact h'.elim
  | some m =>
    rw [hs] at h
    obtain ⟨G', v, s, k, h1, h2, _, _⟩ := frzB_ok re (bigAt_ok hs)
    exact ⟨v, h1, h G' H s k v h2⟩
/-! x = {} -/
def dNewB (i : Nat) (m : Mk) : S → Fl := fun dl => .nx (dl.set i (.big m))
theorem ss_newB (i : Nat) {m : Mk} {x : Str} {p pos pos' : Pos} (hm : m = .dS [] ∨ m = .dL []) (hN : X.N.Nodup) (hi : X.N[i]? = some x) (hx : Loc X.env.scope x) (hs : swapsWith (.Dict [] [] p) (some (.Name x pos')) pos.line X.env = pure false := by rfl) (hf : X.fn x = true ∨ X.env.scope.names.lookup x = some .local := by first | exact .inl rfl | exact .inr rfl | assumption) :
    SS X W (.Assign [.Name x pos'] (.Dict [] [] p) pos) (dNewB i m) := by
  refine ⟨_, ps_set hN hi hx pe_dnewK hs hf, fun G H sg dl D re h q hq => ?_⟩
  have s1 := (Alc.li re.ex hq (.dK [])).stp re
  refine h G (upd H q (.dK [])) _ ?_
  have fp : ∀ a, Fp (upd H q (.dK [])) (.ref q) m a → a = q := fun a ha => by
    rcases hm with rfl | rfl
    · cases ha; rfl
    · rcases ha with ha | ⟨p', kvs, k, e1, e2, e3⟩
      · cases ha; rfl
      · cases e1
        rw [upd_same] at e2
        cases e2
        cases e3
  refine setS_ok s1 i (fun d e => by cases e) (fun _ => ⟨?_, fun a ha => by rw [fp a ha]; exact re.ex.nn hq⟩) (fun a ha z => ?_) (fun a ha => by rw [fp a ha]; exact hq) (fun _ e => by cases e)
  · rcases hm with rfl | rfl
    · exact ⟨q, [], rfl, upd_same, rfl, .nil⟩
    · exact ⟨q, [], rfl, upd_same, .nil, .nil⟩
  · rw [fp a ha] at z
    exact (re.ow (re.back (Ex.new hq) z)).2 hq
/-! d[k] = e -/
def putDm (i : Nat) (y : PyData) (d3 : S) : Option Key → Option Mk → Fl
  | some k, some (.dS kds) => if kds.length < 100000 then .nx (d3.set i (.big (.dS (putD kds k y)))) else .bad
  | _, _ => .bad
def putDk (i : Nat) (k : Option Key) : Option (PyData × S) → Fl
  | some (y, d3) => putDm i y d3 k (bigAt d3 i)
  | none => .bad
def dPutD (i : Nat) (fk fe : S → Out Rv) : S → Fl := fun dl => (fe dl).fl fun r d1 => if (bigAt d1 i).isSome then (fk d1).fl fun rk d2 => putDk i ((rd d2 rk).bind keyOf) (stb d2 r) else .bad
theorem mutB_ok {K : PySem.W.Frag} {G H : Hp} {sg : L2.St} {dl : S} {i : Nat} {kds kds' : KD} {p : Addr} {kvs' : List (Key × V)} (re : Rel K G H sg dl) (e : dl[i]? = some (.big (.dS kds))) (hp : sg[i]? = some (some (.ref p))) (ha : DaK K G kvs' kds') :
    Stp K G H sg dl G (upd H p (.dK kvs')) sg (dl.set i (.big (.dS kds'))) := by
  obtain ⟨v, h1, h2, h3⟩ := re.mn i _ e rfl
  rw [hp] at h1
  cases h1
  refine mutS_ok re e hp rfl (mk_dS.mpr ⟨p, kvs', rfl, upd_same, ha⟩) (fun a h => .inl h) (fun a h _ => upd_ne fun z => h (by rw [z]; rfl)) (fun a h => ?_) h3 (fun x h => by cases h)
  by_cases zz : a = p
  · subst zz; rw [upd_same]; exact fun q => nomatch q
  · rw [upd_ne zz]; exact h
theorem ss_putD (i : Nat) {x : Str} {ek e : Expr} {p0 pos pos' : Pos} {fk fe : S → Out Rv} (hu : X.A.units + 65 < cLine) (he : SE X W e fe) (hk : SE X W ek fk) (hN : X.N[i]? = some x := by rfl) (hv : Vis X.env.scope x := by first | exact Or.inl rfl | exact Or.inr (Or.inl rfl) | exact Or.inr (Or.inr rfl)) (hd : (x == ("__debug__" : Str)) = false := by decide)
    (hcd : (x == ("__classdict__" : Str)) = false := by decide) (hs : swapsWith e (some (.Subscript (.Name x p0) ek pos')) pos.line X.env = pure false := by rfl) :
    SS X W (.Assign [.Subscript (.Name x p0) ek pos'] e pos) (dPutD i fk fe) := by
  obtain ⟨t, p, s⟩ := he
  obtain ⟨tk, pk, sk⟩ := hk
  refine ⟨_, ps_dput (by omega) (pe_var hN hv hd hcd) pk p hs, fun G H sg dl D re h => ?_⟩
  refine s G H sg dl _ re ((post_fl h).imp fun r d1 G1 H1 s1 k1 h1 v q => ?_)
  cases hb : bigAt d1 i with
  | none => rw [hb] at h1; exact h1.elim
  | some m =>
    rw [hb] at h1
    obtain ⟨vd, q1, q2, q3⟩ := s1.rel.mn i _ (bigAt_ok hb) rfl
    refine ⟨vd, q1, ?_⟩
    have h1' : PostS X W G H sg dl D ((fk d1).fl fun rk d2 => putDk i ((rd d2 rk).bind keyOf) (stb d2 r)) := h1
    refine sk G1 H1 sg d1 _ s1.rel ((post_fl2 h1' s1).imp fun rk d2 G2 H2 s2 k2 h2 vk qk => ?_)
    have q' := q.mono s2 k2
    cases er : rd d2 rk with
    | none => rw [er] at h2; cases es : stb d2 r with
      | none => rw [es] at h2; exact h2.elim
      | some y => rw [es] at h2; obtain ⟨a, b⟩ := y; exact h2.elim
    | some kd =>
      rw [er] at h2
      have h2' : PostS X W G H sg dl D (putDk i (keyOf kd) (stb d2 r)) := h2
      cases es : stb d2 r with
      | none => rw [es] at h2'; exact h2'.elim
      | some y =>
        obtain ⟨y, d3⟩ := y
        rw [es] at h2'
        obtain ⟨G3, s3, k3, z3, _⟩ := stb_ok (s1.trans s2) q' es
        cases ek : keyOf kd with
        | none => rw [ek] at h2'; exact h2'.elim
        | some k =>
          rw [ek] at h2'
          have h3 : PostS X W G H sg dl D (putDm i y d3 (some k) (bigAt d3 i)) := h2'
          cases hb3 : bigAt d3 i with
          | none => rw [hb3] at h3; exact h3.elim
          | some m3 =>
            rw [hb3] at h3
            cases m3 with
            | dL _ => exact h3.elim
            | lL _ => exact h3.elim
            | dS kds =>
              have h4 : PostS X W G H sg dl D (if kds.length < 100000 then .nx (d3.set i (.big (.dS (putD kds k y)))) else .bad) := h3
              by_cases hl : kds.length < 100000
              · rw [if_pos hl] at h4
                obtain ⟨v3, w1, w2, w3⟩ := s3.rel.mn i _ (bigAt_ok hb3) rfl
                rw [q1] at w1
                cases w1
                obtain ⟨pd, kvs, rfl, w4, w5⟩ := mk_dS.mp w2
                refine ⟨pd, _, rfl, .inl ⟨kvs, k, w4, tr_key (qk.tr s2.rel er) ek, by rw [w5.len]; exact sz_lt hl, rfl⟩, ?_⟩
                exact h4 _ _ _ (s3.trans (mutB_ok s3.rel (bigAt_ok hb3) q1 (w5.put z3)))
              · rw [if_neg hl] at h4; exact h4.elim
/-! d[k], the dict its slot's own -/
def getDv (dl : S) : Option PyData → Out Rv
  | some y => .ok (.val y) dl
  | none => .bad
def getDm (dl : S) : Option Key → Option Mk → Out Rv
  | some k, some (.dS kds) => getDv dl (valD kds k)
  | _, _ => .bad
def getDk (dl : S) (i : Nat) (k : Option Key) : Out Rv := getDm dl k (bigAt dl i)
def dGetD (i : Nat) (fk : S → Out Rv) : S → Out Rv := fun dl => if (bigAt dl i).isSome then (fk dl).bind fun rk d1 => getDk d1 i ((rd d1 rk).bind keyOf) else .bad
theorem se_getD (i : Nat) {x : Str} {ek : Expr} {p0 pos : Pos} {fk : S → Out Rv} (hu : X.A.units + 65 < cLine) (hk : SE X W ek fk) (hN : X.N[i]? = some x := by rfl) (hv : Vis X.env.scope x := by first | exact Or.inl rfl | exact Or.inr (Or.inl rfl) | exact Or.inr (Or.inr rfl)) (hd : (x == ("__debug__" : Str)) = false := by decide)
    (hcd : (x == ("__classdict__" : Str)) = false := by decide) (hs : NoSl ek := by exact fun _ _ => rfl) : SE X W (.Subscript (.Name x p0) ek pos) (dGetD i fk) := by
  obtain ⟨tk, pk, sk⟩ := hk
  refine ⟨_, pe_dget (by omega) (pe_var hN hv hd hcd) pk hs, fun G H sg dl Q re h => ?_⟩
  unfold dGetD at h
  cases hb : bigAt dl i with
  | none => rw [hb] at h; exact h.elim
  | some m =>
    rw [hb] at h
    obtain ⟨vd, q1, q2, q3⟩ := re.mn i _ (bigAt_ok hb) rfl
    refine ⟨vd, q1, ?_⟩
    have h' : Post X W G H sg dl (wE X sg H Q) ((fk dl).bind fun rk d1 => getDk d1 i ((rd d1 rk).bind keyOf)) := h
    refine sk G H sg dl _ re ((post_bind h').imp fun rk d1 G1 H1 s1 k1 h1 vk qk => ?_)
    cases er : rd d1 rk with
    | none => rw [er] at h1; exact h1.elim
    | some kd =>
      rw [er] at h1
      have h2 : Post X W G1 H1 sg d1 (wE X sg H Q) (getDk d1 i (keyOf kd)) := h1
      cases ek : keyOf kd with
      | none => rw [ek] at h2; exact h2.elim
      | some k =>
        rw [ek] at h2
        cases hb1 : bigAt d1 i with
        | none => unfold getDk at h2; rw [hb1] at h2; exact h2.elim
        | some m1 =>
          unfold getDk at h2
          rw [hb1] at h2
          cases m1 with
          | dL _ => exact h2.elim
          | lL _ => exact h2.elim
          | dS kds =>
            have h3 : Post X W G1 H1 sg d1 (wE X sg H Q) (getDv d1 (valD kds k)) := h2
            obtain ⟨v3, w1, w2, w3⟩ := s1.rel.mn i _ (bigAt_ok hb1) rfl
            rw [q1] at w1
            cases w1
            obtain ⟨pd, kvs, rfl, w4, w5⟩ := mk_dS.mp w2
            rcases w5.val k with ⟨z1, z2⟩ | ⟨w, d, z1, z2, z3⟩
            · rw [z2] at h3; exact h3.elim
            · rw [z2] at h3
              exact ⟨pd, w, rfl, .inl ⟨kvs, k, .inl w4, tr_key (qk.tr s1.rel er) ek, z1.symm⟩, h3 G1 H1 (Stp.refl s1.rel) (Kp.refl d1) w z3⟩
end
end DL

/-! x = {k: v, ..} -/
namespace DL
open PySem PySem.Spec L2 PyProof.Rows
def prsD : List ((S → Out Rv) × (S → Out Rv)) → S → KD → Option (KD × S)
  | [], dl, acc => some (acc, dl)
  | (fk, fv) :: l, dl, acc => match fk dl with
    | .ok rk d1 => match (rd d1 rk).bind keyOf with
      | some k => match fv d1 with
        | .ok r d2 => match stb d2 r with
          | some (y, d3) => prsD l d3 (acc ++ [(k, y)])
          | none => none
        | _ => none
      | none => none
    | _ => none
def mrgD (acc : KD) : KD := acc.foldl (fun a kv => putD a kv.1 kv.2) []
section
variable {K : PySem.W.Frag}
theorem DaK.mrg {G : Hp} : ∀ {more : List (Key × V)} {kds : KD}, DaK K G more kds → ∀ {kvs : List (Key × V)} {acc : KD}, DaK K G kvs acc → DaK K G (mergeK kvs more) (kds.foldl (fun a kv => putD a kv.1 kv.2) acc)
  | _, _, .nil, _, _, h => h
  | _, _, .cons h1 h2, _, _, h => DaK.mrg h2 (h.put h1)
theorem DaK.append {G : Hp} : ∀ {kvs : List (Key × V)} {acc : KD} {kvs' : List (Key × V)} {acc' : KD}, DaK K G kvs acc → DaK K G kvs' acc' → DaK K G (kvs ++ kvs') (acc ++ acc')
  | _, _, _, _, .nil, h => h
  | _, _, _, _, .cons h1 h2, h => .cons h1 (DaK.append h2 h)
end
section
variable {X : Cx} {W : WX}
def SoP (X : Cx) (W : WX) (trs : List (TE × TE)) (l : List ((S → Out Rv) × (S → Out Rv))) : Prop := ∀ G H sg dl (Q : List (V × V) → Hp → Prop) acc0 acc d', Rel X.K G H sg dl → prsD l dl acc0 = some (acc, d') →
  (∀ G' H' kvs kds, Stp X.K G H sg dl G' H' sg d' → DaK X.K G' kvs kds → acc = acc0 ++ kds → Q (kvs.map fun kv => (kV kv.1, kv.2)) H') → tPairs trs sg H Q
def SP (X : Cx) (W : WX) (pos : Pos) (ks : List (Option Expr)) (vs : List Expr) (l : List ((S → Out Rv) × (S → Out Rv))) : Prop := ∃ trs, PPs X pos ks vs trs ∧ SoP X W trs l
theorem sp_nil {pos : Pos} : DL.SP X W pos [] [] [] := ⟨[], pps_nil, fun G H sg dl Q acc0 acc d' re e h => by
  cases e
  exact h G H [] [] (Stp.refl re) .nil (by simp)⟩
theorem sp_cons {pos : Pos} {k v : Expr} {ks : List (Option Expr)} {vs : List Expr} {fk fv : S → Out Rv} {l : List ((S → Out Rv) × (S → Out Rv))} (hk : SE X W k fk) (hv : SE X W v fv) (hr : DL.SP X W pos ks vs l) : DL.SP X W pos (some k :: ks) (v :: vs) ((fk, fv) :: l) := by
  obtain ⟨tk, pk, sk⟩ := hk
  obtain ⟨tv, pv, sv⟩ := hv
  obtain ⟨trs, pr, sr⟩ := hr
  refine ⟨(tk, tv) :: trs, pps_cons pk pv pr, fun G H sg dl Q acc0 acc d' re e h => ?_⟩
  unfold prsD at e
  refine sk G H sg dl _ re ?_
  cases e1 : fk dl with
  | bad => rw [e1] at e; cases e
  | ex c d => rw [e1] at e; cases e
  | ok rk d1 =>
    rw [e1] at e
    dsimp only at e
    intro G1 H1 s1 k1 vk qk
    cases er : rd d1 rk with
    | none => rw [er] at e; cases e
    | some kd =>
      rw [er] at e
      have e' : (match keyOf kd with
        | some k => match fv d1 with
          | .ok r d2 => match stb d2 r with
            | some (y, d3) => prsD l d3 (acc0 ++ [(k, y)])
            | none => none
          | _ => none
        | none => none) = some (acc, d') := e
      cases ek : keyOf kd with
      | none => rw [ek] at e'; cases e'
      | some k =>
        rw [ek] at e'
        have ev := tr_key (qk.tr s1.rel er) ek
        refine sv G1 H1 sg d1 _ s1.rel ?_
        cases e2 : fv d1 with
        | bad => rw [e2] at e'; cases e'
        | ex c d => rw [e2] at e'; cases e'
        | ok r d2 =>
          rw [e2] at e'
          intro G2 H2 s2 k2 v q
          have e3 : (match stb d2 r with
            | some (y, d3) => prsD l d3 (acc0 ++ [(k, y)])
            | none => none) = some (acc, d') := e'
          cases es : stb d2 r with
          | none => rw [es] at e3; cases e3
          | some yy =>
            obtain ⟨y, d3⟩ := yy
            rw [es] at e3
            obtain ⟨G3, s3, k3, z3, _⟩ := stb_ok s2 q es
            refine sr G3 H2 sg d3 _ (acc0 ++ [(k, y)]) acc d' s3.rel e3 fun G' H' kvs kds s4 da ea => ?_
            have := h G' H' ((k, v) :: kvs) ((k, y) :: kds) (s1.trans (s3.trans s4)) (.cons (z3.ex s4.g) da) (by rw [ea, List.append_assoc]; rfl)
            rw [List.map_cons, ← ev] at this
            exact this
def dispK (i : Nat) : Option (KD × S) → Fl
  | some (acc, d1) => if acc.length ≤ 15 then .nx (d1.set i (.big (.dS (mrgD acc)))) else .bad
  | none => .bad
def dDisp (i : Nat) (l : List ((S → Out Rv) × (S → Out Rv))) : S → Fl := fun dl => dispK i (prsD l dl [])
theorem ss_disp (i : Nat) {x : Str} {ks : List (Option Expr)} {vs : List Expr} {p pos pos' : Pos} {l : List ((S → Out Rv) × (S → Out Rv))} (hN : X.N.Nodup) (hi : X.N[i]? = some x) (hx : Loc X.env.scope x) (hp : DL.SP X W p ks vs l) (hall : ks.all (·.isSome) = true := by rfl) (hl : ks.length = vs.length := by rfl) (h0 : ks ≠ [] := by exact fun z => nomatch z) (h15 : ks.length ≤ 15 := by decide)
    (hs : swapsWith (.Dict ks vs p) (some (.Name x pos')) pos.line X.env = pure false := by rfl) (hf : X.fn x = true ∨ X.env.scope.names.lookup x = some .local := by first | exact .inl rfl | exact .inr rfl | assumption) :
    SS X W (.Assign [.Name x pos'] (.Dict ks vs p) pos) (dDisp i l) := by
  obtain ⟨trs, pp, so⟩ := hp
  refine ⟨_, ps_set hN hi hx (pe_disp pp hall hl h0 h15) hs hf, fun G H sg dl D re h q hq => ?_⟩
  unfold dDisp at h
  cases e : prsD l dl [] with
  | none => rw [e] at h; exact h.elim
  | some y =>
    obtain ⟨acc, d1⟩ := y
    rw [e] at h
    have h' : PostS X W G H sg dl D (if acc.length ≤ 15 then .nx (d1.set i (.big (.dS (mrgD acc)))) else .bad) := h
    by_cases hl : acc.length ≤ 15
    · rw [if_pos hl] at h'
      have s1 := (Alc.li re.ex hq (.dK [])).stp re
      have nq : ¬ Ow (upd H q (.dK [])) sg dl q := fun z => (re.ow (re.back (Ex.new hq) z)).2 hq
      refine so G _ sg dl _ [] acc d1 s1.rel e fun G' H' kvs kds s2 da ea => ?_
      have e2 : H' q = some (.dK []) := s2.k q _ nq upd_same
      have g2 : G' q = none := s2.n q nq (by rw [upd_same]; exact fun z => nomatch z) (re.ex.nn hq)
      have w2 : ¬ Ow H' sg d1 q := s2.nw nq (by rw [upd_same]; exact fun z => nomatch z)
      have s3 := stp_fly (o := .dK (mergeK [] kvs)) (s1.trans s2) hq g2 w2
      rw [List.nil_append] at ea
      subst ea
      refine ⟨e2, kvs, rfl, by rw [da.len]; exact hl, ?_⟩
      refine h' G' _ _ (setS_ok s3 i (fun d e => by cases e) (fun _ => ⟨mk_dS.mpr ⟨q, _, rfl, upd_same, DaK.mrg da .nil⟩, fun a ha => by cases ha; exact g2⟩) (fun a ha z => ?_) (fun a ha => by cases ha; exact hq) (fun _ e => by cases e))
      cases ha
      exact ow_fly (s1.trans s2).rel w2 z
    · rw [if_neg hl] at h'; exact h'.elim
end
end DL

namespace DL
open PySem L2
/-- a loop in which each turn shows something of its item -/
theorem wp_find {A : Type} {enc : A → PyData} {put : S → PyData → Option S} {body : S → Fl} {R : Rv → S → Prop} (I : S → Prop) (p : A → Prop) {L : List A} {dl : S} (h0 : I dl) (hs : ∀ a ∈ L, ∀ dl, I dl → ∃ d1, put dl (enc a) = some d1 ∧ LOk (fun d => I d ∧ p a) (fun _ => False) R (body d1)) : SOk (fun d => I d ∧ ∀ a ∈ L, p a) R (forD put body (L.map enc) dl) := by
  have h := wp_fold (enc := enc) (put := put) (body := body) (R := R) (xs := L) (fun (b : List A) dl => I dl ∧ ∀ a ∈ b, p a) (fun b x => b ++ [x]) (b := []) (dl := dl) ⟨h0, fun _ h => nomatch h⟩ (by
    rintro b x dl hx ⟨hi, hb⟩
    obtain ⟨d1, e, h⟩ := hs x hx dl hi
    refine ⟨d1, e, ?_⟩
    generalize body d1 = o at h ⊢
    cases h with
    | nx h => exact .nx ⟨h.1, fun a ha => by
        rcases List.mem_append.mp ha with q | q
        · exact hb a q
        · rw [List.mem_singleton.mp q]; exact h.2⟩
    | cnt h => exact .cnt ⟨h.1, fun a ha => by
        rcases List.mem_append.mp ha with q | q
        · exact hb a q
        · rw [List.mem_singleton.mp q]; exact h.2⟩
    | brk h => exact .brk h
    | ret h => exact .ret h)
  have hf : ∀ (l b : List A), l.foldl (fun b x => b ++ [x]) b = b ++ l := by
    intro l
    induction l with
    | nil => intro b; simp
    | cons a l ih => intro b; simp [ih]
  rw [hf, List.nil_append] at h
  exact h
theorem b_is (a b : Bool) : oIsB (.bool a) (.bool b) = vB (decide (a = b)) := rfl
theorem b_nis (a b : Bool) : oNotB (.bool a) (.bool b) = vB (!decide (a = b)) := rfl
def KIs (p : PyData → Bool) (o : Out Rv) : Out Rv := o.bind fun r d1 => isLO p r d1 (rd d1 r)
theorem KIs_ (p : PyData → Bool) (r : Rv) (d : S) : KIs p (.ok r d) = isLO p r d (rd d r) := rfl
theorem w_Is (p : PyData → Bool) (f : S → Out Rv) (dl : S) : dIs p f dl = KIs p (f dl) := rfl
theorem isLO_l (r : Rv) (dl : S) (ds : List PyData) : isLO isLst r dl (some (.list ds)) = .ok r dl := rfl
theorem c_cnt (t : List (Option Nat)) : ∃ m, m ≤ t.length ∧ oCnt (.list (t.map cell)) .none = vN m := by
  refine ⟨(t.map cell).countP fun z => PyData.eqv z .none, ?_, ?_⟩
  · have := List.countP_le_length (p := fun z => PyData.eqv z .none) (l := t.map cell)
    simpa using this
  · have h1 : SeqAt.shaped (.list (t.map cell)) = true := (sd_list (k := 0) (fun d hd => by
      obtain ⟨x, _, rfl⟩ := List.mem_map.mp hd
      exact sd_cell 0 x)).sh (by decide)
    have h2 : SeqAt.shaped (.none : PyData) = true := (sd_none 0).sh (by decide)
    show (if SeqAt.shaped (.list (t.map cell)) && SeqAt.shaped (.none : PyData) then _ else _) = _
    rw [h1, h2]
    rfl
/-! ### the greatest of some, the first, the last -/
theorem maxL_n : ∀ (ns : List Nat) (m : Nat), ∃ x : Nat, maxL (m : Int) (ns.map (Int.ofNat ·)) = (x : Int) ∧ x ∈ m :: ns ∧ ∀ y ∈ m :: ns, y ≤ x := by
  intro ns m
  obtain ⟨h1, h2, h3⟩ := maxL_ok (ns.map (Int.ofNat ·)) (m : Int)
  rcases h1 with h1 | h1
  · refine ⟨m, h1, List.mem_cons_self, fun y hy => ?_⟩
    rcases List.mem_cons.mp hy with e | hy
    · omega
    · have := h3 (y : Int) (List.mem_map.mpr ⟨y, hy, rfl⟩)
      omega
  · obtain ⟨x, hx, e⟩ := List.mem_map.mp h1
    refine ⟨x, e.symm, List.mem_cons_of_mem _ hx, fun y hy => ?_⟩
    have e' : (x : Int) = maxL (m : Int) (ns.map (Int.ofNat ·)) := e
    rcases List.mem_cons.mp hy with e2 | hy
    · subst e2; omega
    · have := h3 (y : Int) (List.mem_map.mpr ⟨y, hy, rfl⟩)
      omega
theorem allI_n (ns : List Nat) : allI (ns.map nI) = some (ns.map (Int.ofNat ·)) := by
  have := allI_ints (ns.map (Int.ofNat ·))
  rw [List.map_map] at this
  exact this
theorem n_max {ns : List Nat} (h : ns ≠ []) : ∃ x, bMax [.list (ns.map nI)] = vN x ∧ x ∈ ns ∧ ∀ y ∈ ns, y ≤ x := by
  cases ns with
  | nil => exact absurd rfl h
  | cons m ns =>
    obtain ⟨x, e, h1, h2⟩ := maxL_n ns m
    refine ⟨x, ?_, h1, h2⟩
    show (allI ((m :: ns).map nI)).bind maxs = _
    rw [allI_n]
    show vI (maxL (m : Int) (ns.map (Int.ofNat ·))) = _
    rw [e]
    rfl
theorem n_last {ns : List Nat} (h : ns ≠ []) : ∃ x, oIx (.list (ns.map nI)) (.int (-((1 : Nat) : Int))) = vN x ∧ x ∈ ns := by
  have hl : 0 < ns.length := List.length_pos_iff.mpr h
  refine ⟨ns[ns.length - 1], ?_, List.getElem_mem _⟩
  show (atI (ns.map nI) (-1)).map Rv.val = _
  unfold atI ixN
  have e1 : (ns.map nI).length = ns.length := List.length_map ..
  rw [e1, if_neg (by decide), if_pos (by omega), show (-1 + (ns.length : Int)).toNat = ns.length - 1 by omega]
  show ((ns.map nI)[ns.length - 1]?).map Rv.val = _
  rw [List.getElem?_map, List.getElem?_eq_getElem (by omega)]
  rfl
theorem n_first {ns : List Nat} (h : ns ≠ []) : ∃ x, oIx (.list (ns.map nI)) (nI 0) = vN x ∧ x ∈ ns := by
  cases ns with
  | nil => exact absurd rfl h
  | cons m ns => exact ⟨m, l_ix0 _ _, List.mem_cons_self⟩
/-! ### tests whose answer doesn't matter -/
def TJ (J : S → Prop) (o : Out Bool) : Prop := ∃ b d, o = .ok b d ∧ J d
theorem tj_and {J : S → Prop} {f g : S → Out Bool} (hf : ∀ d, J d → TJ J (f d)) (hg : ∀ d, J d → TJ J (g d)) : ∀ d, J d → TJ J (tnAnd f g d) := by
  intro d h
  obtain ⟨b, d1, e, h1⟩ := hf d h
  unfold tnAnd
  rw [e]
  cases b with
  | false => exact ⟨false, d1, rfl, h1⟩
  | true => exact hg d1 h1
theorem tj_or {J : S → Prop} {f g : S → Out Bool} (hf : ∀ d, J d → TJ J (f d)) (hg : ∀ d, J d → TJ J (g d)) : ∀ d, J d → TJ J (tnOr f g d) := by
  intro d h
  obtain ⟨b, d1, e, h1⟩ := hf d h
  unfold tnOr
  rw [e]
  cases b with
  | true => exact ⟨true, d1, rfl, h1⟩
  | false => exact hg d1 h1
theorem tj_not {J : S → Prop} {f : S → Out Bool} (hf : ∀ d, J d → TJ J (f d)) : ∀ d, J d → TJ J (tnNot f d) := by
  intro d h
  obtain ⟨b, d1, e, h1⟩ := hf d h
  unfold tnNot
  rw [e]
  exact ⟨!b, d1, rfl, h1⟩
theorem wp_ifJ {J N : S → Prop} {R : Rv → S → Prop} {c : S → Out Bool} {f g : S → Fl} {d : S} (h0 : J d) (hc : ∀ d, J d → TJ J (c d)) (hf : ∀ d, J d → SOk N R (f d)) (hg : ∀ d, J d → SOk N R (g d)) : SOk N R (dIf c f g d) := by
  obtain ⟨b, d1, e, h1⟩ := hc d h0
  unfold dIf
  rw [e]
  cases b with
  | true => exact hf d1 h1
  | false => exact hg d1 h1
theorem wl_ifJ {J N B : S → Prop} {R : Rv → S → Prop} {c : S → Out Bool} {f g : S → Fl} {d : S} (h0 : J d) (hc : ∀ d, J d → TJ J (c d)) (hf : ∀ d, J d → LOk N B R (f d)) (hg : ∀ d, J d → LOk N B R (g d)) : LOk N B R (dIf c f g d) := by
  obtain ⟨b, d1, e, h1⟩ := hc d h0
  unfold dIf
  rw [e]
  cases b with
  | true => exact hf d1 h1
  | false => exact hg d1 h1
theorem wp_sq {N : S → Prop} {R : Rv → S → Prop} {f g : S → Fl} {d : S} (M : S → Prop) (h : SOk M R (f d)) (k : ∀ d, M d → SOk N R (g d)) : SOk N R (dSeq f g d) := by
  rw [w_Seq]
  exact wp_seq M h k
theorem wl_sq {N B : S → Prop} {R : Rv → S → Prop} {f g : S → Fl} {d : S} (M : S → Prop) (h : SOk M R (f d)) (k : ∀ d, M d → LOk N B R (g d)) : LOk N B R (dSeq f g d) := by
  rw [w_Seq]
  exact wl_seq M h k
/-! ### texts -/
theorem sd_s {k : Nat} (s : String) : ShD k (.str (Str.ofString s)) := sd_str (strOk_of s)
theorem s_eqv (a b : String) : oEq (.str (Str.ofString a)) (.str (Str.ofString b)) = vB (Str.ofString a == Str.ofString b) := by
  unfold oEq
  rw [(sd_s (k := 0) a).sh (by decide), (sd_s (k := 0) b).sh (by decide)]
  rfl
theorem s_nev (a b : String) : oNe (.str (Str.ofString a)) (.str (Str.ofString b)) = vB (!(Str.ofString a == Str.ofString b)) := by
  unfold oNe
  rw [(sd_s (k := 0) a).sh (by decide), (sd_s (k := 0) b).sh (by decide)]
  rfl
theorem s_eqT {a b : String} (h : (Str.ofString a == Str.ofString b) = true) : oEq (.str (Str.ofString a)) (.str (Str.ofString b)) = vB true := by rw [s_eqv, h]
theorem s_eqF {a b : String} (h : (Str.ofString a == Str.ofString b) = false) : oEq (.str (Str.ofString a)) (.str (Str.ofString b)) = vB false := by rw [s_eqv, h]
theorem s_neT {a b : String} (h : (Str.ofString a == Str.ofString b) = true) : oNe (.str (Str.ofString a)) (.str (Str.ofString b)) = vB false := by rw [s_nev, h]; rfl
theorem s_neF {a b : String} (h : (Str.ofString a == Str.ofString b) = false) : oNe (.str (Str.ofString a)) (.str (Str.ofString b)) = vB true := by rw [s_nev, h]; rfl
theorem e_t0 (a : PyData) (l : List PyData) : PyData.eqv (.tuple (a :: l)) (.tuple []) = false := by simp [PyData.eqv, PyData.eqvAll]
theorem t0_of {a : PyData} {l : List PyData} {k : Nat} (h : ShD k (.tuple (a :: l))) (hk : k ≤ 64) : oEq (.tuple (a :: l)) (.tuple []) = vB false := by
  unfold oEq
  rw [h.sh hk, (sd_t0 (k := 0)).sh (by decide), e_t0]
  rfl
theorem t_ix3 (a b c d : PyData) (l : List PyData) : oIx (.tuple (a :: b :: c :: d :: l)) (nI 3) = some (.val d) := l_ix3 a b c d l
theorem t_ix4 (a b c d e : PyData) (l : List PyData) : oIx (.tuple (a :: b :: c :: d :: e :: l)) (nI 4) = some (.val e) := l_ix4 a b c d e l
theorem ba1 : bAll [.list [.bool true]] = vB true := rfl
theorem ba2 : bAll [.list [.bool true, .bool true]] = vB true := rfl
theorem ba3 : bAll [.list [.bool true, .bool true, .bool true]] = vB true := rfl
theorem ba4 : bAll [.list [.bool true, .bool true, .bool true, .bool true]] = vB true := rfl
theorem t_rev (m : Nat) (ds : List PyData) : oRevT m (.tuple ds) = some (.val (.tuple (ds.drop m).reverse)) := rfl
def KExt (i : Nat) (o : Out Rv) : Fl := o.fl fun r d1 => extR d1 i r
theorem KExt_ (i : Nat) (r : Rv) (d : S) : KExt i (.ok r d) = extR d i r := rfl
def KExt0 (i : Nat) (f : S → Out Rv) (d : S) : Fl := KExt i (f d)
theorem KExt0_ (i : Nat) (f : S → Out Rv) (d : S) : KExt0 i f d = KExt i (f d) := rfl
theorem w_Ext (i : Nat) (f : S → Out Rv) (dl : S) : dExt i f dl = iteF (isOwn dl i) (KExt0 i f) KBad dl := rfl
theorem w_extR (i : Nat) (es : List PyData) (d : S) : extR d i (.new es) = ofO (chg d i (ext1 es)) := rfl
theorem w_ext1 {es ds : List PyData} (h : ds.length + es.length ≤ 100000) : ext1 es ds = some (ds ++ es) := if_pos h
/-! ### a list and the empty one -/
theorem sd_ne0 {k : Nat} {ds : List PyData} (h : ∀ d ∈ ds, ShD k d) (hk : k + 1 ≤ 64) : oNe (.list ds) (.list []) = vB (!ds.isEmpty) := by
  unfold oNe
  rw [(sd_list h).sh hk, (sd_l0 (k := 0)).sh (by decide)]
  cases ds <;> simp [PyData.eqv, PyData.eqvAll]
theorem sd_eq0 {k : Nat} {ds : List PyData} (h : ∀ d ∈ ds, ShD k d) (hk : k + 1 ≤ 64) : oEq (.list ds) (.list []) = vB ds.isEmpty := by
  unfold oEq
  rw [(sd_list h).sh hk, (sd_l0 (k := 0)).sh (by decide)]
  cases ds <;> simp [PyData.eqv, PyData.eqvAll]
theorem neB (b : Bool) : oNe (.bool b) (.bool b) = vB false := oNe_self (k := 0) (sd_bool _ _) (by decide)
end DL

namespace DL
open PySem L2
/-! ### truth -/
def KTru (o : Out Rv) : Out Bool := o.bind fun r d1 => truT d1 ((rd d1 r).bind truD)
theorem KTru_ (r : Rv) (d : S) : KTru (.ok r d) = truT d ((rd d r).bind truD) := rfl
theorem w_Tru (f : S → Out Rv) (dl : S) : dTru f dl = KTru (f dl) := rfl
theorem truT_ (d : S) (b : Bool) : truT d (some b) = .ok b d := rfl
theorem truD_l (ds : List PyData) : truD (.list ds) = some (!ds.isEmpty) := rfl
theorem truD_t (ds : List PyData) : truD (.tuple ds) = some (!ds.isEmpty) := rfl
/-! ### tables -/
theorem putD_len (acc : KD) (k : Key) (d : PyData) : (putD acc k d).length ≤ acc.length + 1 := by
  unfold putD
  split
  · rw [List.length_map]; omega
  · rw [List.length_append, List.length_singleton]; omega
theorem valD_nil (k : Key) : valD [] k = none := rfl
theorem valD_put : ∀ (acc : KD) (k j : Key) (d : PyData), valD (putD acc k d) j = if j = k then some d else valD acc j := by
  intro acc k j d
  have hmap : ∀ acc : KD, valD (acc.map fun kv => if kv.1 = k then (kv.1, d) else kv) j = if j = k then (if (acc.any fun kv => decide (kv.1 = k)) then some d else none) else valD acc j := by
    intro acc
    induction acc with
    | nil => unfold valD; simp
    | cons p acc ih =>
      unfold valD at ih ⊢
      rw [List.map_cons, List.find?_cons, List.any_cons, List.find?_cons]
      by_cases h : p.1 = k
      · by_cases hj : j = k
        · subst hj
          simp [h]
        · rw [if_neg hj] at ih ⊢
          have hkj : ¬ k = j := fun z => hj z.symm
          have hpj : ¬ p.1 = j := fun z => hkj (h.symm.trans z)
          simp only [h, if_true, decide_eq_false hkj]
          exact ih
      · by_cases hj : p.1 = j
        · have hjk : j ≠ k := fun z => h (hj.trans z)
          simp [h, hj, hjk]
        · simp only [if_neg h, decide_eq_false hj, decide_eq_false h, Bool.false_or]
          exact ih
  unfold putD
  by_cases ha : (acc.any fun kv => decide (kv.1 = k)) = true
  · rw [if_pos ha, hmap, ha]
    simp
  · rw [if_neg ha]
    unfold valD
    rw [List.find?_append]
    by_cases hj : j = k
    · subst hj
      rw [if_pos rfl]
      have : acc.find? (fun kv => decide (kv.1 = j)) = none := by
        rw [List.find?_eq_none]
        intro x hx hp
        exact ha (List.any_eq_true.mpr ⟨x, hx, hp⟩)
      rw [this]
      simp
    · rw [if_neg hj]
      have : [(k, d)].find? (fun kv => decide (kv.1 = j)) = none := by
        rw [List.find?_eq_none]
        intro x hx hp
        rw [List.mem_singleton.mp hx] at hp
        exact hj (of_decide_eq_true hp).symm
      rw [this]
      simp
theorem valD_fold {A : Type} (kf : A → Key) (g : A → PyData) (j : Key) : ∀ (xs : List A) (acc : KD), valD (xs.foldl (fun acc x => putD acc (kf x) (g x)) acc) j = xs.foldl (fun o x => if j = kf x then some (g x) else o) (valD acc j)
  | [], _ => rfl
  | x :: xs, acc => by
    rw [List.foldl_cons, List.foldl_cons, valD_fold kf g j xs, valD_put]
theorem g_get (acc : KD) (c : Nat) : oGet1 (dicD acc) (nI c) = some (.val ((valD acc (.inl (c : Int))).getD .none)) := by
  show ((unD (acc.map fun kv => (kD kv.1, kv.2))).bind fun acc => (keyOf (nI c)).map fun k => Rv.val ((valD acc k).getD .none)) = _
  rw [unD_map]
  rfl
theorem isLO_d (r : Rv) (dl : S) (acc : KD) : isLO isDicU r dl (some (dicD acc)) = .ok r dl := by
  show (if (unD (acc.map fun kv => (kD kv.1, kv.2))).isSome then Out.ok r dl else .bad) = _
  rw [unD_map]
  rfl
def KDComp (vs : List Nat) (put : S → PyData → Option S) (c : S → Out Bool) (fk fv : S → Out Rv) (o : Out (List PyData)) : Out Rv := o.bind fun ds d1 => endK d1 vs (compK vs put c fk fv ds (wipeD d1 vs) [])
theorem KDComp_ (vs : List Nat) (put : S → PyData → Option S) (c : S → Out Bool) (fk fv : S → Out Rv) (ds : List PyData) (d : S) : KDComp vs put c fk fv (.ok ds d) = endK d vs (compK vs put c fk fv ds (wipeD d vs) []) := rfl
theorem w_DComp (it : S → Out (List PyData)) (vs : List Nat) (put : S → PyData → Option S) (c : S → Out Bool) (fk fv : S → Out Rv) (dl : S) : dDComp it vs put c fk fv dl = KDComp vs put c fk fv (it dl) := rfl
theorem ev_endK (dl : S) (vs : List Nat) (acc : KD) (dn : S) : endK dl vs (some (acc, dn)) = .ok (.val (dicD acc)) (restD dl vs dn) := rfl
theorem cmpK_go {A B : Type} {v u : Nat} {fk fv : S → Out Rv} {dn : S} {e : A → PyData} {e' : B → PyData} (kf : A × B → Key) (g : A × B → PyData) (hw : ∀ x y : Sl, ((((dn.set v x).set u y).set u .no).set v .no) = dn) : ∀ {xs : List (A × B)} {acc : KD},
    (∀ x ∈ xs, ∃ rk r, fk ((dn.set v (.val (e x.1))).set u (.val (e' x.2))) = .ok rk ((dn.set v (.val (e x.1))).set u (.val (e' x.2))) ∧ (rd ((dn.set v (.val (e x.1))).set u (.val (e' x.2))) rk).bind keyOf = some (kf x) ∧ fv ((dn.set v (.val (e x.1))).set u (.val (e' x.2))) = .ok r ((dn.set v (.val (e x.1))).set u (.val (e' x.2))) ∧ stb ((dn.set v (.val (e x.1))).set u (.val (e' x.2))) r = some (g x, (dn.set v (.val (e x.1))).set u (.val (e' x.2)))) →
    acc.length + xs.length ≤ 100000 → compK [v, u] (tgT [v, u]) dYes fk fv (xs.map (prE e e')) dn acc = some (xs.foldl (fun acc x => putD acc (kf x) (g x)) acc, dn)
  | [], acc, _, _ => rfl
  | x :: xs, acc, h, hl => by
    obtain ⟨rk, r, e1, e2, e3, e4⟩ := h x List.mem_cons_self
    have hwx : wipeD ((dn.set v (.val (e x.1))).set u (.val (e' x.2))) [v, u] = dn := hw _ _
    rw [List.length_cons] at hl
    rw [List.map_cons, List.foldl_cons]
    unfold compK
    rw [w_tg2]
    dsimp only [dYes]
    rw [e1]
    dsimp only
    rw [e2]
    dsimp only
    rw [e3]
    dsimp only
    rw [e4]
    dsimp only
    have hpl := putD_len acc (kf x) (g x)
    rw [if_pos (by omega), hwx, cmpK_go kf g hw (fun y hy => h y (List.mem_cons_of_mem _ hy)) (by omega)]
theorem cmpK {A B : Type} {v u : Nat} {fk fv : S → Out Rv} {d1 dn : S} {e : A → PyData} {e' : B → PyData} {xs : List (A × B)} (kf : A × B → Key) (g : A × B → PyData)
    (h : ∀ x ∈ xs, ∃ rk r, fk ((dn.set v (.val (e x.1))).set u (.val (e' x.2))) = .ok rk ((dn.set v (.val (e x.1))).set u (.val (e' x.2))) ∧ (rd ((dn.set v (.val (e x.1))).set u (.val (e' x.2))) rk).bind keyOf = some (kf x) ∧ fv ((dn.set v (.val (e x.1))).set u (.val (e' x.2))) = .ok r ((dn.set v (.val (e x.1))).set u (.val (e' x.2))) ∧ stb ((dn.set v (.val (e x.1))).set u (.val (e' x.2))) r = some (g x, (dn.set v (.val (e x.1))).set u (.val (e' x.2))))
    (hl : xs.length ≤ 100000) (hw : ∀ x y : Sl, ((((dn.set v x).set u y).set u .no).set v .no) = dn := by intros; rfl) (hr : (dn.set u (d1[u]?.getD .no)).set v (d1[v]?.getD .no) = d1 := by rfl) :
    endK d1 [v, u] (compK [v, u] (tgT [v, u]) dYes fk fv (xs.map (prE e e')) dn []) = .ok (.val (dicD (xs.foldl (fun acc x => putD acc (kf x) (g x)) []))) d1 := by
  rw [cmpK_go kf g hw h (by simpa using hl), ev_endK]
  congr 1
theorem cmpK1_go {A : Type} {v : Nat} {fk fv : S → Out Rv} {dn : S} {e : A → PyData} (kf : A → Key) (g : A → PyData) (hv : dn.set v .no = dn) : ∀ {xs : List A} {acc : KD},
    (∀ x ∈ xs, ∃ rk r, fk (dn.set v (.val (e x))) = .ok rk (dn.set v (.val (e x))) ∧ (rd (dn.set v (.val (e x))) rk).bind keyOf = some (kf x) ∧ fv (dn.set v (.val (e x))) = .ok r (dn.set v (.val (e x))) ∧ stb (dn.set v (.val (e x))) r = some (g x, dn.set v (.val (e x)))) →
    acc.length + xs.length ≤ 100000 → compK [v] (tgN v) dYes fk fv (xs.map e) dn acc = some (xs.foldl (fun acc x => putD acc (kf x) (g x)) acc, dn)
  | [], acc, _, _ => rfl
  | x :: xs, acc, h, hl => by
    obtain ⟨rk, r, e1, e2, e3, e4⟩ := h x List.mem_cons_self
    have hw : wipeD (dn.set v (.val (e x))) [v] = dn := by
      show ((dn.set v (.val (e x))).set v .no) = dn
      rw [List.set_set, hv]
    rw [List.length_cons] at hl
    rw [List.map_cons, List.foldl_cons]
    unfold compK
    rw [ev_tgN]
    dsimp only [dYes]
    rw [e1]
    dsimp only
    rw [e2]
    dsimp only
    rw [e3]
    dsimp only
    rw [e4]
    dsimp only
    have hpl := putD_len acc (kf x) (g x)
    rw [if_pos (by omega), hw, cmpK1_go kf g hv (fun y hy => h y (List.mem_cons_of_mem _ hy)) (by omega)]
theorem cmpK1 {A : Type} {v : Nat} {fk fv : S → Out Rv} {d1 dn : S} {e : A → PyData} {xs : List A} (kf : A → Key) (g : A → PyData)
    (h : ∀ x ∈ xs, ∃ rk r, fk (d1.set v (.val (e x))) = .ok rk (d1.set v (.val (e x))) ∧ (rd (d1.set v (.val (e x))) rk).bind keyOf = some (kf x) ∧ fv (d1.set v (.val (e x))) = .ok r (d1.set v (.val (e x))) ∧ stb (d1.set v (.val (e x))) r = some (g x, d1.set v (.val (e x))))
    (hl : xs.length ≤ 100000) (hn : dn = d1.set v .no := by rfl) (hv : v < d1.length := by exact of_decide_eq_true rfl) :
    endK d1 [v] (compK [v] (tgN v) dYes fk fv (xs.map e) dn []) = .ok (.val (dicD (xs.foldl (fun acc x => putD acc (kf x) (g x)) []))) d1 := by
  subst hn
  rw [cmpK1_go kf g (by rw [List.set_set]) (fun x hx => by rw [List.set_set]; exact h x hx) (by simpa using hl), ev_endK]
  congr 1
  exact back1 hv
/-! ### the place of a thing in a row -/
def posn (xs : List (Nat × Nat)) (c : Nat) (o : Option Nat) : Option Nat := xs.foldl (fun o x => if c = x.2 then some x.1 else o) o
theorem posn_some {c i : Nat} : ∀ {xs : List (Nat × Nat)} {o : Option Nat}, posn xs c o = some i → (i, c) ∈ xs ∨ o = some i
  | [], o, h => .inr h
  | x :: xs, o, h => by
    have h' : posn xs c (if c = x.2 then some x.1 else o) = some i := h
    rcases posn_some h' with q | q
    · exact .inl (List.mem_cons_of_mem _ q)
    · by_cases e : c = x.2
      · rw [if_pos e] at q
        cases q
        exact .inl (by rw [e]; exact List.mem_cons_self)
      · rw [if_neg e] at q
        exact .inr q
theorem posn_keep {c : Nat} : ∀ {xs : List (Nat × Nat)} {o : Option Nat}, o.isSome = true → (posn xs c o).isSome = true
  | [], o, h => h
  | x :: xs, o, h => by
    show (posn xs c (if c = x.2 then some x.1 else o)).isSome = true
    refine posn_keep ?_
    split
    · rfl
    · exact h
theorem posn_in {c : Nat} : ∀ {xs : List (Nat × Nat)} {o : Option Nat}, c ∈ xs.map (·.2) → (posn xs c o).isSome = true
  | [], o, h => by simp at h
  | x :: xs, o, h => by
    show (posn xs c (if c = x.2 then some x.1 else o)).isSome = true
    rw [List.map_cons] at h
    rcases List.mem_cons.mp h with e | e
    · rw [if_pos e]
      exact posn_keep rfl
    · exact posn_in e
theorem posn_out {c : Nat} : ∀ {xs : List (Nat × Nat)} {o : Option Nat}, c ∉ xs.map (·.2) → posn xs c o = o
  | [], o, _ => rfl
  | x :: xs, o, h => by
    show posn xs c (if c = x.2 then some x.1 else o) = o
    rw [List.map_cons] at h
    rw [if_neg fun e => h (by rw [e]; exact List.mem_cons_self)]
    exact posn_out fun e => h (List.mem_cons_of_mem _ e)
theorem posn_cell (c : Nat) : ∀ (xs : List (Nat × Nat)) (o : Option Nat), (xs.foldl (fun o x => if (Sum.inl (c : Int) : Key) = Sum.inl (x.2 : Int) then some (nI x.1) else o) (o.map nI)) = (posn xs c o).map nI
  | [], o => rfl
  | x :: xs, o => by
    rw [List.foldl_cons]
    by_cases h : c = x.2
    · have : (Sum.inl (c : Int) : Key) = Sum.inl (x.2 : Int) := by rw [h]
      rw [if_pos this]
      show xs.foldl _ ((some x.1).map nI) = _
      rw [posn_cell c xs (some x.1)]
      show _ = (posn xs c (if c = x.2 then some x.1 else o)).map nI
      rw [if_pos h]
    · have : ¬ ((Sum.inl (c : Int) : Key) = Sum.inl (x.2 : Int)) := fun z => h (by have := Sum.inl.inj z; omega)
      rw [if_neg this, posn_cell c xs o]
      show _ = (posn xs c (if c = x.2 then some x.1 else o)).map nI
      rw [if_neg h]
theorem cell_getD (o : Option Nat) : ((o.map nI).getD PyData.none) = cell o := by cases o <;> rfl
theorem srtC_of {it : S → Out (List PyData)} {vs : List Nat} {put : S → PyData → Option S} {c : S → Out Bool} {f : S → Out Rv} {dl d : S} {acc : List PyData} {is : List Int} (h : dComp it vs put c f dl = .ok (.new acc) d) (ha : allI acc = some is) (hl : (srtU is).length < 64) :
    dSrtC it vs put c f dl = .ok (.new ((srtU is).map PyData.int)) d := by
  unfold dComp at h
  unfold dSrtC
  cases hi : it dl with
  | bad => rw [hi] at h; cases h
  | ex _ _ => rw [hi] at h; cases h
  | ok ds d1 =>
    rw [hi] at h
    have h' : endC d1 vs (compD vs put c f ds (wipeD d1 vs) []) = .ok (.new acc) d := h
    show sK (endC d1 vs (compD vs put c f ds (wipeD d1 vs) [])) = _
    rw [h']
    unfold sK
    dsimp only
    rw [ha]
    exact if_pos hl
end DL

namespace T
noncomputable section
open PySem PySem.Spec PyProof.Rows L2 DL
set_option maxHeartbeats 4000000
def topS (i : Nat) : Stmt := PySem.Challenge.pw_notchledger_k27_unary_and_twice.main.body.getD i (.Pass ⟨0, 0, 0, 0⟩)
abbrev s_is_number : Stmt := topS 4
theorem sc_is_number : FnScope ["thing"] ["thing"] (defScope s_is_number) := ⟨rfl, rfl, rfl, by decide +kernel, rfl, by decide +kernel, by decide +kernel⟩
def D_is_number : S → Fl := dRet (dAnd (d1 (oIsi "int") (dVar 0)) (dNot (d1 (oIsi "bool") (dVar 0))))
def G_is_number : Fn := runF false 1 1 D_is_number
abbrev s_is_between : Stmt := topS 5
theorem sc_is_between : FnScope ["thing", "low", "high"] ["thing", "low", "high"] (defScope s_is_between) := ⟨rfl, rfl, rfl, by decide +kernel, rfl, by decide +kernel, by decide +kernel⟩
def D_is_between : S → Fl := dRet (dAnd (dCall 1 G_is_number (dCons (dVar 0) (dNil))) (dCh oLe oLe (dVar 1) (dVar 0) (dVar 2)))
def G_is_between : Fn := runF false 3 3 D_is_between
abbrev s_is_table : Stmt := topS 11
theorem sc_is_table : FnScope ["n", "k", "table", "thing"] ["n", "k", "table"] (defScope s_is_table) := ⟨rfl, rfl, rfl, by decide +kernel, rfl, by decide +kernel, by decide +kernel⟩
def D_is_table : S → Fl := dSeq (dIf (tnOr (tnNot (dT (d1 (oIsi "tuple") (dVar 2)))) (dT (d2 oNe (dB bLen (dCons (dVar 2) (dNil))) (d2 oShl (dC (nI 1)) (dVar 0))))) (dRet (dC (.bool false))) (dNx)) (dRet (dB bAll (dCons (dComp (dIt (dVar 2)) [3] (tgN 3) (dYes) (dOr (d2 oIsN (dVar 3) (dC .none)) (dCall 3 G_is_between (dCons (dVar 3) (dCons (dC (nI 0)) (dCons (d2 oSub (dVar 1) (dC (nI 1))) (dNil))))))) (dNil))))
def G_is_table : Fn := runF false 3 4 D_is_table
abbrev s_made_writing : Stmt := topS 10
theorem sc_made_writing : FnScope ["n", "k", "table"] ["n", "k", "table"] (defScope s_made_writing) := ⟨rfl, rfl, rfl, by decide +kernel, rfl, by decide +kernel, by decide +kernel⟩
def D_made_writing : S → Fl := dSeq (dIf (tnNot (dT (dCall 3 G_is_between (dCons (dVar 0) (dCons (dC (nI 1)) (dCons (dC (nI 8)) (dNil))))))) (fun _ => .bad) (dNx)) (dSeq (dIf (tnNot (dT (dCall 3 G_is_between (dCons (dVar 1) (dCons (dC (nI 2)) (dCons (dC (nI 100)) (dNil))))))) (fun _ => .bad) (dNx)) (dSeq (dIf (tnNot (dT (dCall 3 G_is_table (dCons (dVar 0) (dCons (dVar 1) (dCons (dVar 2) (dNil))))))) (fun _ => .bad) (dNx)) (dRet (dTup (dCons (dVar 0) (dCons (dVar 1) (dCons (dVar 2) (dNil))))))))
def G_made_writing : Fn := runF false 3 3 D_made_writing
abbrev s_by_readings : Stmt := topS 16
theorem sc_by_readings : FnScope ["n", "readings", "cuts"] ["n", "readings"] (defScope s_by_readings) := ⟨rfl, rfl, rfl, by decide +kernel, rfl, by decide +kernel, by decide +kernel⟩
def D_by_readings : S → Fl := dRet (dCall 3 G_made_writing (dCons (dVar 0) (dCons (d2 oAdd (dVar 0) (dC (nI 1))) (dCons (dB bTup (dCons (dComp (dRng1 (dCons (d2 oShl (dC (nI 1)) (dVar 0)) (dNil))) [2] (tgN 2) (dYes) (d2 oGet1 (dIs isDicU (dVar 1)) (dVar 2))) (dNil))) (dNil)))))
def G_by_readings : Fn := runF false 2 3 D_by_readings
abbrev s_unary : Stmt := topS 14
theorem sc_unary : FnScope ["n", "j"] ["n"] (defScope s_unary) := ⟨rfl, rfl, rfl, by decide +kernel, rfl, by decide +kernel, by decide +kernel⟩
def D_unary : S → Fl := dSeq (dIf (tnNot (dT (dCall 3 G_is_between (dCons (dVar 0) (dCons (dC (nI 1)) (dCons (dC (nI 8)) (dNil))))))) (fun _ => .bad) (dNx)) (dRet (dCall 2 G_by_readings (dCons (dVar 0) (dCons (dDComp (dRng1 (dCons (d2 oAdd (dVar 0) (dC (nI 1))) (dNil))) [1] (tgN 1) (dYes) (d2 oSub (d2 oShl (dC (nI 1)) (dVar 1)) (dC (nI 1))) (dVar 1)) (dNil)))))
def G_unary : Fn := runF false 1 2 D_unary
abbrev s_twice : Stmt := topS 15
theorem sc_twice : FnScope ["n", "full", "readings", "spot"] ["n"] (defScope s_twice) := ⟨rfl, rfl, rfl, by decide +kernel, rfl, by decide +kernel, by decide +kernel⟩
def D_twice : S → Fl := dSeq (dIf (tnNot (dT (dCall 3 G_is_between (dCons (dVar 0) (dCons (dC (nI 3)) (dCons (dC (nI 8)) (dNil))))))) (fun _ => .bad) (dNx)) (dSeq (dSet 1 (d2 oSub (d2 oShl (dC (nI 1)) (dVar 0)) (dC (nI 1)))) (dSeq (dDisp 2 [(dC (nI 0), dC (nI 0)), (dVar 1, dC (nI 0))]) (dSeq (dFor (dRng1 (dCons (dVar 0) (dNil))) (tgN 3) (dSeq (dPutD 2 (d2 oShl (dC (nI 1)) (dVar 3)) (d2 oAdd (dVar 3) (dC (nI 1)))) (dPutD 2 (d2 oSub (dVar 1) (d2 oShl (dC (nI 1)) (dVar 3))) (d2 oAdd (dVar 3) (dC (nI 1)))))) (dRet (dCall 2 G_by_readings (dCons (dVar 0) (dCons (dFrz 2) (dNil))))))))
def G_twice : Fn := runF false 1 4 D_twice
abbrev s_law_stream : Stmt := topS 18
theorem sc_law_stream : FnScope ["_law_script", "_law_k", "_law_cell", "_law_mixed"] ["_law_script", "_law_k"] (defScope s_law_stream) := ⟨rfl, rfl, rfl, by decide +kernel, rfl, by decide +kernel, by decide +kernel⟩
def D_law_stream : S → Fl := dSeq (dIf (dT (d2 oLt (dVar 1) (dB bLen (dCons (dVar 0) (dNil))))) (dSeq (dSet 2 (dB bAbs (dCons (d2 oIx (dVar 0) (dVar 1)) (dNil)))) (dSeq (dSet 3 (d2 oAdd (d2 oAdd (d2 oMod (dVar 2) (dC (nI 2147483629))) (d2 oMul (dVar 1) (dVar 1))) (dC (nI 1)))) (dSeq (dIf (dT (d2 oLt (dVar 2) (d2 oPow (dC (nI 10)) (dC (nI 18))))) (dSet 2 (dC (nI 0))) (dNx)) (dRet (dLst (dCons (dVar 2) (dCons (dVar 3) (dNil)))))))) (dNx)) (dRet (dLst (dCons (dC (nI 0)) (dCons (d2 oAdd (d2 oMul (dVar 1) (dVar 1)) (dC (nI 11))) (dNil)))))
def G_law_stream : Fn := runF false 2 4 D_law_stream
abbrev s_law_take : Stmt := topS 19
theorem sc_law_take : FnScope ["_law_stream_here", "_law_most", "_law_digit"] ["_law_stream_here", "_law_most"] (defScope s_law_take) := ⟨rfl, rfl, rfl, by decide +kernel, rfl, by decide +kernel, by decide +kernel⟩
def D_law_take : S → Fl := dSeq (dIf (dT (d2 oEq (d2 oIx (dVar 0) (dC (nI 0))) (dC (nI 0)))) (dSeq (dStI 0 (dC (nI 1)) (d2 oMod (d2 oAdd (d2 oMul (d2 oIx (dVar 0) (dC (nI 1))) (dC (nI 48271))) (dC (nI 12345))) (dC (nI 2147483647)))) (dRet (d2 oMod (d2 oMod (d2 oMul (d2 oIx (dVar 0) (dC (nI 1))) (d2 oIx (dVar 0) (dC (nI 1)))) (dC (nI 2147483629))) (dVar 1)))) (dNx)) (dSeq (dSet 2 (d2 oMod (d2 oIx (dVar 0) (dC (nI 0))) (dVar 1))) (dSeq (dStI 0 (dC (nI 0)) (d2 oDiv (d2 oIx (dVar 0) (dC (nI 0))) (dVar 1))) (dRet (dVar 2))))
def G_law_take : Fn := runF true 2 3 D_law_take
abbrev s_law_whole : Stmt := topS 20
theorem sc_law_whole : FnScope ["_law_found"] ["_law_found"] (defScope s_law_whole) := ⟨rfl, rfl, rfl, by decide +kernel, rfl, by decide +kernel, by decide +kernel⟩
def D_law_whole : S → Fl := dRet (dAnd (d1 (oIsi "int") (dVar 0)) (dNot (d1 (oIsi "bool") (dVar 0))))
def G_law_whole : Fn := runF false 1 1 D_law_whole
abbrev s_law_is : Stmt := topS 21
theorem sc_law_is : FnScope ["_law_found", "_law_n", "_law_k", "_law_table", "_law_some", "_law_one"] ["_law_found", "_law_n", "_law_k", "_law_table"] (defScope s_law_is) := ⟨rfl, rfl, rfl, by decide +kernel, rfl, by decide +kernel, by decide +kernel⟩
def D_law_is : S → Fl := dSeq (dIf (tnOr (tnNot (dT (d1 (oIsi "tuple") (dVar 0)))) (tnOr (dT (d2 oNe (dB bLen (dCons (dVar 0) (dNil))) (dC (nI 3)))) (tnNot (dT (d1 (oIsi "tuple") (d2 oIx (dVar 0) (dC (nI 2)))))))) (dRet (dC (.bool false))) (dNx)) (dSeq (dSet 4 (dComp (dIt (d2 oIx (dVar 0) (dC (nI 2)))) [5] (tgN 5) (dT (d2 oNotN (dVar 5) (dC .none))) (dVar 5))) (dSeq (dIf (dT (d2 oNe (dComp (dIt (d2 oAdd (dLst (dCons (d2 oIx (dVar 0) (dC (nI 0))) (dCons (d2 oIx (dVar 0) (dC (nI 1))) (dNil)))) (dVar 4))) [5] (tgN 5) (tnNot (dT (dCall 1 G_law_whole (dCons (dVar 5) (dNil))))) (dVar 5)) (dLst (dNil)))) (dRet (dC (.bool false))) (dNx)) (dRet (d2 oEq (dVar 0) (dTup (dCons (dVar 1) (dCons (dVar 2) (dCons (dB bTup (dCons (dVar 3) (dNil))) (dNil)))))))))
def G_law_is : Fn := runF false 4 6 D_law_is
abbrev s_law_unary : Stmt := topS 22
theorem sc_law_unary : FnScope ["_law_n", "_law_table", "_law_cuts", "_law_some", "_law_spot"] ["_law_n"] (defScope s_law_unary) := ⟨rfl, rfl, rfl, by decide +kernel, rfl, by decide +kernel, by decide +kernel⟩
def D_law_unary : S → Fl := dSeq (dSet 1 (dLst (dNil))) (dSeq (dFor (dRng1 (dCons (d2 oShl (dC (nI 1)) (dVar 0)) (dNil))) (tgN 2) (dSeq (dSet 3 (dComp (dRng1 (dCons (dVar 0) (dNil))) [4] (tgN 4) (dT (d2 oEq (d2 oAnd (d2 oShr (dVar 2) (dVar 4)) (dC (nI 1))) (dC (nI 1)))) (dVar 4))) (dApp 1 (d2 oIx (dLst (dCons (dC .none) (dCons (dB bLen (dCons (dVar 3) (dNil))) (dNil)))) (dB bInt (dCons (d2 oEq (dVar 3) (d1 oLR (dB bLen (dCons (dVar 3) (dNil))))) (dNil))))))) (dRet (dVar 1)))
def G_law_unary : Fn := runF false 1 5 D_law_unary
abbrev s_law_twice : Stmt := topS 23
theorem sc_law_twice : FnScope ["_law_n", "_law_table", "_law_cuts", "_law_some", "_law_whole_here", "_law_number", "_law_spot"] ["_law_n"] (defScope s_law_twice) := ⟨rfl, rfl, rfl, by decide +kernel, rfl, by decide +kernel, by decide +kernel⟩
def D_law_twice : S → Fl := dSeq (dSet 1 (dLst (dNil))) (dSeq (dFor (dRng1 (dCons (d2 oShl (dC (nI 1)) (dVar 0)) (dNil))) (tgN 2) (dSeq (dSet 3 (dComp (dRng1 (dCons (dVar 0) (dNil))) [6] (tgN 6) (dT (d2 oEq (d2 oAnd (d2 oShr (dVar 2) (dVar 6)) (dC (nI 1))) (dC (nI 1)))) (dVar 6))) (dSeq (dSet 4 (dComp (dRng1 (dCons (dVar 0) (dNil))) [6] (tgN 6) (dT (d2 (oIn true) (dVar 6) (dVar 3))) (dVar 6))) (dSeq (dSet 5 (dC .none)) (dSeq (dIf (tnOr (dT (d2 oEq (dVar 3) (dLst (dNil)))) (dT (d2 oEq (dVar 4) (dLst (dNil))))) (dSet 5 (dC (nI 0))) (dIf (dT (d2 oEq (dB bLen (dCons (dVar 3) (dNil))) (dC (nI 1)))) (dSet 5 (d2 oAdd (d2 oIx (dVar 3) (dC (nI 0))) (dC (nI 1)))) (dIf (dT (d2 oEq (dB bLen (dCons (dVar 4) (dNil))) (dC (nI 1)))) (dSet 5 (d2 oAdd (d2 oIx (dVar 4) (dC (nI 0))) (dC (nI 1)))) (dNx)))) (dApp 1 (dVar 5))))))) (dRet (dVar 1)))
def G_law_twice : Fn := runF false 1 7 D_law_twice
abbrev s_law_right : Stmt := topS 24
theorem sc_law_right : FnScope ["_law_way", "_law_n"] ["_law_way", "_law_n"] (defScope s_law_right) := ⟨rfl, rfl, rfl, by decide +kernel, rfl, by decide +kernel, by decide +kernel⟩
def D_law_right : S → Fl := dSeq (dIf (dT (d2 oEq (dVar 0) (dC (nI 0)))) (dRet (dCall 4 G_law_is (dCons (dCall 1 G_unary (dCons (dVar 1) (dNil))) (dCons (dVar 1) (dCons (d2 oAdd (dVar 1) (dC (nI 1))) (dCons (dCall 1 G_law_unary (dCons (dVar 1) (dNil))) (dNil))))))) (dNx)) (dRet (dCall 4 G_law_is (dCons (dCall 1 G_twice (dCons (dVar 1) (dNil))) (dCons (dVar 1) (dCons (d2 oAdd (dVar 1) (dC (nI 1))) (dCons (dCall 1 G_law_twice (dCons (dVar 1) (dNil))) (dNil)))))))
def G_law_right : Fn := runF false 2 2 D_law_right
abbrev s_law : Stmt := topS 25
theorem sc_law : FnScope ["_law_script", "_law_all_of_them", "_law_first", "_law_row", "_law_one", "_law_other", "_law_n"] ["_law_script"] (defScope s_law) := ⟨rfl, rfl, rfl, by decide +kernel, rfl, by decide +kernel, by decide +kernel⟩
def D_law : S → Fl := dSeq (dSet 1 (d2 oAdd (dComp (dRng2 (dCons (dC (nI 1)) (dCons (dC (nI 9)) (dNil)))) [6] (tgN 6) (dYes) (dTup (dCons (dC (nI 0)) (dCons (dVar 6) (dNil))))) (dComp (dRng2 (dCons (dC (nI 3)) (dCons (dC (nI 9)) (dNil)))) [6] (tgN 6) (dYes) (dTup (dCons (dC (nI 1)) (dCons (dVar 6) (dNil))))))) (dSeq (dSet 2 (dCallT 2 G_law_take (dCall 2 G_law_stream (dCons (dVar 0) (dCons (dC (nI 0)) (dNil)))) (dCons (dB bLen (dCons (dVar 1) (dNil))) (dNil)))) (dSeq (dSet 3 (d2 oAdd (dSl (dVar 1) (dPart (dVar 2)) (dNoPart)) (dSl (dVar 1) (dNoPart) (dPart (dVar 2))))) (dSeq (dFor (dIt2 zipD (dCons (dVar 3) (dCons (d2 oAdd (dSl (dVar 3) (dPart (dC (nI 1))) (dNoPart)) (dSl (dVar 3) (dNoPart) (dPart (dC (nI 1))))) (dNil)))) (tgT [4, 5]) (dIf (tnOr (tnNot (dT (dCall 2 G_law_right (dCons (d2 oIx (dVar 4) (dC (nI 0))) (dCons (d2 oIx (dVar 4) (dC (nI 1))) (dNil)))))) (tnOr (tnNot (dT (dCall 2 G_law_right (dCons (d2 oIx (dVar 5) (dC (nI 0))) (dCons (d2 oIx (dVar 5) (dC (nI 1))) (dNil)))))) (tnNot (dT (dCall 2 G_law_right (dCons (d2 oIx (dVar 4) (dC (nI 0))) (dCons (d2 oIx (dVar 4) (dC (nI 1))) (dNil)))))))) (dRet (dC (.bool false))) (dNx))) (dRet (dC (.bool true))))))
def G_law : Fn := runF false 1 7 D_law
/-! the stream -/
def GoodS (st : List PyData) : Prop := ∃ a b : Int, st = [.int a, .int b] ∧ 0 ≤ a ∧ 0 ≤ b ∧ b < 4294967296
theorem take_zero {b m : Int} (hb : 0 ≤ b) (hb2 : b < 4294967296) (h0 : 0 < m) : G_law_take [.int 0, .int b] [.int m] = .val (.int ((b * 48271 + 12345) % 2147483647 * ((b * 48271 + 12345) % 2147483647) % 2147483629 % m)) [.int 0, .int ((b * 48271 + 12345) % 2147483647)] := by
  have e1 : (b * 48271 + 12345) % 2147483647 < 2147483647 := Int.emod_lt_of_pos _ (by decide)
  have e2 : 0 ≤ (b * 48271 + 12345) % 2147483647 := Int.emod_nonneg _ (by decide)
  have e3 : ((b * 48271 + 12345) % 2147483647).natAbs < 18446744073709551616 := by omega
  simp [G_law_take, D_law_take, h0, e3]
theorem take_pos {a b m : Int} (ha : a ≠ 0) (h0 : 0 < m) (h1 : m < 1073741824) : G_law_take [.int a, .int b] [.int m] = .val (.int (a % m)) [.int (a / m), .int b] := by
  simp [G_law_take, D_law_take, h0, h1, ha]
theorem take_spec {st : List PyData} {m : Int} (h : GoodS st) (h0 : 0 < m) (h1 : m < 1073741824) : ∃ d st', G_law_take st [.int m] = .val (.int d) st' ∧ 0 ≤ d ∧ d < m ∧ GoodS st' := by
  obtain ⟨a, b, rfl, ha, hb, hb2⟩ := h
  by_cases hz : a = 0
  · subst hz
    refine ⟨_, _, take_zero hb hb2 h0, Int.emod_nonneg _ (by omega), Int.emod_lt_of_pos _ h0, 0, _, rfl, by decide, Int.emod_nonneg _ (by decide), ?_⟩
    have := Int.emod_lt_of_pos (b * 48271 + 12345) (show (0 : Int) < 2147483647 by decide)
    omega
  · exact ⟨_, _, take_pos hz h0 h1, Int.emod_nonneg _ (by omega), Int.emod_lt_of_pos _ h0, _, _, rfl, Int.ediv_nonneg ha (by omega), hb, hb2⟩
theorem stream_int (ns : List Int) {k : Int} (h0 : 0 ≤ k) (h1 : k < 1000) : ∃ st, G_law_stream [] [.list (ns.map PyData.int), .int k] = .new st [] ∧ GoodS st := by
  have hk2 : k * k < 1000000 := by
    have h2 := Int.mul_le_mul_of_nonneg_left (show k ≤ 999 by omega) h0
    omega
  have hk3 : 0 ≤ k * k := Int.mul_nonneg h0 h0
  have hka : k.natAbs < 18446744073709551616 := by omega
  by_cases hl : k < ns.length
  · have hi : k.toNat < ns.length := by omega
    have hat : atI (ns.map PyData.int) k = some (.int ns[k.toNat]) := atI_of h0 (by rw [List.getElem?_map, List.getElem?_eq_getElem hi]; rfl)
    generalize hn : ns[k.toNat] = n at hat
    generalize hm : (if n < 0 then -n else n) = c
    have hc0 : 0 ≤ c := by rw [← hm]; split <;> omega
    have hmod1 := Int.emod_lt_of_pos c (show (0 : Int) < 2147483629 by decide)
    have hmod2 := Int.emod_nonneg c (show (2147483629 : Int) ≠ 0 by decide)
    by_cases hc : c < 1000000000000000000
    · exact ⟨[.int 0, .int (c % 2147483629 + k * k + 1)], by simp [G_law_stream, D_law_stream, hl, hat, hm, hka, hc], _, _, rfl, by decide, by omega, by omega⟩
    · exact ⟨[.int c, .int (c % 2147483629 + k * k + 1)], by simp [G_law_stream, D_law_stream, hl, hat, hm, hka, hc], _, _, rfl, by omega, by omega, by omega⟩
  · exact ⟨[.int 0, .int (k * k + 11)], by simp [G_law_stream, D_law_stream, hl, hka], _, _, rfl, by decide, by omega, by omega⟩
theorem stream_spec (ns : List Int) {k : Nat} (h1 : k < 1000) : ∃ st, G_law_stream [] [.list (ns.map PyData.int), nI k] = .new st [] ∧ GoodS st :=
  stream_int ns (by omega) (by omega)
theorem take_nat {st : List PyData} {m : Nat} (h : GoodS st) (h0 : 0 < m) (h1 : m < 1073741824) : ∃ (d : Nat) (st' : List PyData), G_law_take st [nI m] = .val (nI d) st' ∧ d < m ∧ GoodS st' := by
  obtain ⟨d, st', e, a, b, g⟩ := take_spec h (m := (m : Int)) (by omega) (by omega)
  obtain ⟨k, rfl⟩ := Int.eq_ofNat_of_zero_le a
  exact ⟨k, st', e, by omega, g⟩
/-! the program's making of a writing -/
theorem number_n (a : Nat) : G_is_number [] [nI a] = .val (.bool true) [] := by simp -implicitDefEqProofs (disch := (first | omega | (simp only [List.length_map, List.length_append, List.length_range, List.length_cons, List.length_nil, List.length_set, List.length_take, List.length_drop, List.length_replicate, List.length_reverse] <;> omega) | assumption)) only [w_Seq, w_seqN, w_seqR, w_seqC, w_seqB, w_seqX, iteF_t, iteF_f, iteO_t, iteO_f, KoB_, KtB_, sg0_, sgS_, w_var, vr_v, vr_o, w_rdS, rdO_v, rdO_o, w_stb, stO1_v, stO1_o, ob_s, w_isOwn, isOwnO_o, K1_, K1_x, w_1, K2b_, K2b_x, K2_, K2_x, w_2, Kc2_, Kc2_x, Kc_, Kc_x, w_cons, KB_, KB_x, w_B, Ktup_, Ktup_x, w_tup, Klst_, Klst_x, w_lst, KT_, KT_x, w_T, KtAnd_, KtAnd_x, w_tAnd, KtOr_, KtOr_x, w_tOr, KtNot_, KtNot_x, w_tNot, KAnd_, KAnd_x, w_And, KOr_, KOr_x, w_Or, KNot_, KNot_x, w_Not, KIte_, KIte_x, w_Ite, Kch4_, Kch4_x, Kch3f_, Kch3_, Kch3_x, Kch2_, Kch2_x, Kch_, Kch_x, w_ch, partO_i, KPart_, KPart_x, w_Part, slO_, KSl3_, KSl3_x, KSl2_, KSl2_x, KSl_, KSl_x, w_Sl, KDo_, KDo_x, w_Do, KRet_, KRet_x, w_Ret, KIf_, KIf_x, w_If, putK_, w_putl, KSet_, KSet_x, w_Set, KAug_, KAug_x, w_Aug, augO_i, unpO_2, unpO_3, w_tg2, w_tg3, KUnp_, KUnp_x, w_Unp, chgK_, w_chg, chgO_o, appK_, w_appR, w_app1, KApp_, KApp_x, KApp0_, w_App, stIK_, w_stIR, stIO_i, w_put1, KStI2_, KStI2_x, KStI1_, KStI_, KStI_x, w_StI, KIt_, KIt_x, w_It, KRng1_, KRng1_x, w_Rng1, KRng2_, KRng2_x, w_Rng2, it2O_, it1O_, KIt2_, KIt2_x, w_It2, KIt1_, KIt1_x, w_It1, KFor_, KFor_x, w_For, KComp_, KComp_x, w_Comp, KCall_, KCall_x, w_Call, KCallI_, KCallI_x, KCallI0_, w_CallI, w_mkTup, w_mkLst, rdsK2_, rdsK_, w_rds, stbsK2_, stbsK_, w_stbs, cP0, cP1, cP2, cP3, cP4, cP5, cP6, cP7, cIO_o, cI1, cI2, cI3, cI4, cI5, cI6, cI7, w_stOt, stOO_o, w_retFl, retO_v, retO_o, w_finR, w_finN, finO_s, w_runF, rp0, rpS, asE_x, stF_x, finX_s, w_finX, ev_c, ev_fin, ev_fin0, ev_o1, ev_o2, ev_rdv, ev_rdn, ev_rdl, ev_nil, ev_stlv, ev_stln, ev_stll, ev_rds0, ev_stbv, ev_stbn, ev_stbs0, ev_asB, ev_NoPart, ev_Nx, ev_putv, ev_putn, ev_ofO, ev_itL, ev_itT, ev_tgN, ev_for0, ev_wipeD0, ev_wipeD, ev_restD0, ev_restD, ev_endC, ev_Yes, ev_asEv, ev_asEn, ev_stFv, ev_stFn, ev_mkAf, ev_mkAt, ev_stOf, ev_retFv, ev_retFn, ev_vI, ev_vB, ev_oSlL, ev_oSlT, ev_oRevL, ev_bListL, ev_bListT, ev_bTupL, ev_bTupT, ev_isNone0, ev_isNoneI, ev_isNoneL, ev_isNoneT, ev_isNoneB, ev_isNoneS, n_add, n_sub, n_mul, n_mod, n_div, n_shl1, n_shl, n_shr, n_pow, n_and, n_or, n_xor, n_lt, n_le, n_gt, n_ge, n_eq, n_ne, bt1, bt0, d_ltT, d_ltF, d_leT, d_leF, d_eqT, d_eqF, c_eq, c_ne, c_eqc, c_nec, c_isN, l_ix, t_ix, l_ix0, l_ix1, l_ix2, l_ix3, l_ix4, l_ix5, t_ix0, t_ix1, t_ix2, l_len, t_len, cut_to, cut_from, l_addL, t_addT, w_rng1, w_rng2, n_max2, n_min2, n_sum, b_all, b_any, b_all0, b_intB, b_intN, i_intI, i_boolI, i_intB, i_boolB, i_tupT, i_lstL, i_tupL, i_lstT, i_intT, i_intL, i_tupI, i_lstI, i_intN, i_tupN, i_lstN, i_intS, i_tupS, i_lstS, i_tupB, i_lstB, r_isN, r_notN, wp_nx, wp_ret, wl_nx, wl_cnt, wl_brk, wl_ret, List.map_cons, List.map_nil, List.cons_append, List.nil_append, List.set_cons_zero, List.set_cons_succ, List.length_cons, List.length_nil, List.length_map, List.length_append, List.length_range, List.length_range', List.length_set, Bool.not_true, Bool.not_false, Bool.true_and, Bool.false_and, Bool.and_true, Bool.and_false, decide_true, decide_false, Nat.reduceSub, Nat.reduceAdd, Option.getD_some, vo_v, no_v, Nat.one_mul, l_eq, l_ne, t_eq, t_eqc, l_eq0, l_ne0, z_eq0, z_ne0, lc_ne0, lc_eq0, n_inL, n_inT, n_niL, n_niT, n_inC, if_true, if_false, Option.isNone_none, Option.isNone_some, n_augA, n_augS, List.append_nil, n_tr, n_lr, KStar2_, KStarO_, KStar_, w_Star, items_l, items_t, st_vals, KComp2_, w_Comp2, n_mulA, t_mulA1, t_mulA, l_repC, KOrT_, w_OrT, truO_n, truO_0, truO_i, KUnpL_, w_UnpL, unpLO_2, unpLO_3, KItE_, w_ItE, itEO_l, itEO_t, itZO_l, itZO_t, KItZ_, w_ItZ, enumD_map, zipD_map, cT1, cT2, cT3, KCallT2_, KCallT_, w_CallT, ev_oNeg, i_strS, b_sortP, b_is, b_nis, KIs_, w_Is, isLO_l, t_ix3, t_ix4, ba1, ba2, ba3, ba4, t_rev, KExt_, KExt0_, w_Ext, w_extR, w_ext1, KTru_, w_Tru, truT_, truD_l, truD_t, g_get, isLO_d, KDComp_, w_DComp, G_is_number, D_is_number]
theorem between_n (a lo hi : Nat) : G_is_between [] [nI a, nI lo, nI hi] = .val (.bool (decide (lo ≤ a) && decide (a ≤ hi))) [] := by
  by_cases h : lo ≤ a
  · simp -implicitDefEqProofs (disch := (first | omega | (simp only [List.length_map, List.length_append, List.length_range, List.length_cons, List.length_nil, List.length_set, List.length_take, List.length_drop, List.length_replicate, List.length_reverse] <;> omega) | assumption)) only [w_Seq, w_seqN, w_seqR, w_seqC, w_seqB, w_seqX, iteF_t, iteF_f, iteO_t, iteO_f, KoB_, KtB_, sg0_, sgS_, w_var, vr_v, vr_o, w_rdS, rdO_v, rdO_o, w_stb, stO1_v, stO1_o, ob_s, w_isOwn, isOwnO_o, K1_, K1_x, w_1, K2b_, K2b_x, K2_, K2_x, w_2, Kc2_, Kc2_x, Kc_, Kc_x, w_cons, KB_, KB_x, w_B, Ktup_, Ktup_x, w_tup, Klst_, Klst_x, w_lst, KT_, KT_x, w_T, KtAnd_, KtAnd_x, w_tAnd, KtOr_, KtOr_x, w_tOr, KtNot_, KtNot_x, w_tNot, KAnd_, KAnd_x, w_And, KOr_, KOr_x, w_Or, KNot_, KNot_x, w_Not, KIte_, KIte_x, w_Ite, Kch4_, Kch4_x, Kch3f_, Kch3_, Kch3_x, Kch2_, Kch2_x, Kch_, Kch_x, w_ch, partO_i, KPart_, KPart_x, w_Part, slO_, KSl3_, KSl3_x, KSl2_, KSl2_x, KSl_, KSl_x, w_Sl, KDo_, KDo_x, w_Do, KRet_, KRet_x, w_Ret, KIf_, KIf_x, w_If, putK_, w_putl, KSet_, KSet_x, w_Set, KAug_, KAug_x, w_Aug, augO_i, unpO_2, unpO_3, w_tg2, w_tg3, KUnp_, KUnp_x, w_Unp, chgK_, w_chg, chgO_o, appK_, w_appR, w_app1, KApp_, KApp_x, KApp0_, w_App, stIK_, w_stIR, stIO_i, w_put1, KStI2_, KStI2_x, KStI1_, KStI_, KStI_x, w_StI, KIt_, KIt_x, w_It, KRng1_, KRng1_x, w_Rng1, KRng2_, KRng2_x, w_Rng2, it2O_, it1O_, KIt2_, KIt2_x, w_It2, KIt1_, KIt1_x, w_It1, KFor_, KFor_x, w_For, KComp_, KComp_x, w_Comp, KCall_, KCall_x, w_Call, KCallI_, KCallI_x, KCallI0_, w_CallI, w_mkTup, w_mkLst, rdsK2_, rdsK_, w_rds, stbsK2_, stbsK_, w_stbs, cP0, cP1, cP2, cP3, cP4, cP5, cP6, cP7, cIO_o, cI1, cI2, cI3, cI4, cI5, cI6, cI7, w_stOt, stOO_o, w_retFl, retO_v, retO_o, w_finR, w_finN, finO_s, w_runF, rp0, rpS, asE_x, stF_x, finX_s, w_finX, ev_c, ev_fin, ev_fin0, ev_o1, ev_o2, ev_rdv, ev_rdn, ev_rdl, ev_nil, ev_stlv, ev_stln, ev_stll, ev_rds0, ev_stbv, ev_stbn, ev_stbs0, ev_asB, ev_NoPart, ev_Nx, ev_putv, ev_putn, ev_ofO, ev_itL, ev_itT, ev_tgN, ev_for0, ev_wipeD0, ev_wipeD, ev_restD0, ev_restD, ev_endC, ev_Yes, ev_asEv, ev_asEn, ev_stFv, ev_stFn, ev_mkAf, ev_mkAt, ev_stOf, ev_retFv, ev_retFn, ev_vI, ev_vB, ev_oSlL, ev_oSlT, ev_oRevL, ev_bListL, ev_bListT, ev_bTupL, ev_bTupT, ev_isNone0, ev_isNoneI, ev_isNoneL, ev_isNoneT, ev_isNoneB, ev_isNoneS, n_add, n_sub, n_mul, n_mod, n_div, n_shl1, n_shl, n_shr, n_pow, n_and, n_or, n_xor, n_lt, n_le, n_gt, n_ge, n_eq, n_ne, bt1, bt0, d_ltT, d_ltF, d_leT, d_leF, d_eqT, d_eqF, c_eq, c_ne, c_eqc, c_nec, c_isN, l_ix, t_ix, l_ix0, l_ix1, l_ix2, l_ix3, l_ix4, l_ix5, t_ix0, t_ix1, t_ix2, l_len, t_len, cut_to, cut_from, l_addL, t_addT, w_rng1, w_rng2, n_max2, n_min2, n_sum, b_all, b_any, b_all0, b_intB, b_intN, i_intI, i_boolI, i_intB, i_boolB, i_tupT, i_lstL, i_tupL, i_lstT, i_intT, i_intL, i_tupI, i_lstI, i_intN, i_tupN, i_lstN, i_intS, i_tupS, i_lstS, i_tupB, i_lstB, r_isN, r_notN, wp_nx, wp_ret, wl_nx, wl_cnt, wl_brk, wl_ret, List.map_cons, List.map_nil, List.cons_append, List.nil_append, List.set_cons_zero, List.set_cons_succ, List.length_cons, List.length_nil, List.length_map, List.length_append, List.length_range, List.length_range', List.length_set, Bool.not_true, Bool.not_false, Bool.true_and, Bool.false_and, Bool.and_true, Bool.and_false, decide_true, decide_false, Nat.reduceSub, Nat.reduceAdd, Option.getD_some, vo_v, no_v, Nat.one_mul, l_eq, l_ne, t_eq, t_eqc, l_eq0, l_ne0, z_eq0, z_ne0, lc_ne0, lc_eq0, n_inL, n_inT, n_niL, n_niT, n_inC, if_true, if_false, Option.isNone_none, Option.isNone_some, n_augA, n_augS, List.append_nil, n_tr, n_lr, KStar2_, KStarO_, KStar_, w_Star, items_l, items_t, st_vals, KComp2_, w_Comp2, n_mulA, t_mulA1, t_mulA, l_repC, KOrT_, w_OrT, truO_n, truO_0, truO_i, KUnpL_, w_UnpL, unpLO_2, unpLO_3, KItE_, w_ItE, itEO_l, itEO_t, itZO_l, itZO_t, KItZ_, w_ItZ, enumD_map, zipD_map, cT1, cT2, cT3, KCallT2_, KCallT_, w_CallT, ev_oNeg, i_strS, b_sortP, b_is, b_nis, KIs_, w_Is, isLO_l, t_ix3, t_ix4, ba1, ba2, ba3, ba4, t_rev, KExt_, KExt0_, w_Ext, w_extR, w_ext1, KTru_, w_Tru, truT_, truD_l, truD_t, g_get, isLO_d, KDComp_, w_DComp, G_is_between, D_is_between, number_n, Bool.true_and]
  · simp -implicitDefEqProofs (disch := (first | omega | (simp only [List.length_map, List.length_append, List.length_range, List.length_cons, List.length_nil, List.length_set, List.length_take, List.length_drop, List.length_replicate, List.length_reverse] <;> omega) | assumption)) only [w_Seq, w_seqN, w_seqR, w_seqC, w_seqB, w_seqX, iteF_t, iteF_f, iteO_t, iteO_f, KoB_, KtB_, sg0_, sgS_, w_var, vr_v, vr_o, w_rdS, rdO_v, rdO_o, w_stb, stO1_v, stO1_o, ob_s, w_isOwn, isOwnO_o, K1_, K1_x, w_1, K2b_, K2b_x, K2_, K2_x, w_2, Kc2_, Kc2_x, Kc_, Kc_x, w_cons, KB_, KB_x, w_B, Ktup_, Ktup_x, w_tup, Klst_, Klst_x, w_lst, KT_, KT_x, w_T, KtAnd_, KtAnd_x, w_tAnd, KtOr_, KtOr_x, w_tOr, KtNot_, KtNot_x, w_tNot, KAnd_, KAnd_x, w_And, KOr_, KOr_x, w_Or, KNot_, KNot_x, w_Not, KIte_, KIte_x, w_Ite, Kch4_, Kch4_x, Kch3f_, Kch3_, Kch3_x, Kch2_, Kch2_x, Kch_, Kch_x, w_ch, partO_i, KPart_, KPart_x, w_Part, slO_, KSl3_, KSl3_x, KSl2_, KSl2_x, KSl_, KSl_x, w_Sl, KDo_, KDo_x, w_Do, KRet_, KRet_x, w_Ret, KIf_, KIf_x, w_If, putK_, w_putl, KSet_, KSet_x, w_Set, KAug_, KAug_x, w_Aug, augO_i, unpO_2, unpO_3, w_tg2, w_tg3, KUnp_, KUnp_x, w_Unp, chgK_, w_chg, chgO_o, appK_, w_appR, w_app1, KApp_, KApp_x, KApp0_, w_App, stIK_, w_stIR, stIO_i, w_put1, KStI2_, KStI2_x, KStI1_, KStI_, KStI_x, w_StI, KIt_, KIt_x, w_It, KRng1_, KRng1_x, w_Rng1, KRng2_, KRng2_x, w_Rng2, it2O_, it1O_, KIt2_, KIt2_x, w_It2, KIt1_, KIt1_x, w_It1, KFor_, KFor_x, w_For, KComp_, KComp_x, w_Comp, KCall_, KCall_x, w_Call, KCallI_, KCallI_x, KCallI0_, w_CallI, w_mkTup, w_mkLst, rdsK2_, rdsK_, w_rds, stbsK2_, stbsK_, w_stbs, cP0, cP1, cP2, cP3, cP4, cP5, cP6, cP7, cIO_o, cI1, cI2, cI3, cI4, cI5, cI6, cI7, w_stOt, stOO_o, w_retFl, retO_v, retO_o, w_finR, w_finN, finO_s, w_runF, rp0, rpS, asE_x, stF_x, finX_s, w_finX, ev_c, ev_fin, ev_fin0, ev_o1, ev_o2, ev_rdv, ev_rdn, ev_rdl, ev_nil, ev_stlv, ev_stln, ev_stll, ev_rds0, ev_stbv, ev_stbn, ev_stbs0, ev_asB, ev_NoPart, ev_Nx, ev_putv, ev_putn, ev_ofO, ev_itL, ev_itT, ev_tgN, ev_for0, ev_wipeD0, ev_wipeD, ev_restD0, ev_restD, ev_endC, ev_Yes, ev_asEv, ev_asEn, ev_stFv, ev_stFn, ev_mkAf, ev_mkAt, ev_stOf, ev_retFv, ev_retFn, ev_vI, ev_vB, ev_oSlL, ev_oSlT, ev_oRevL, ev_bListL, ev_bListT, ev_bTupL, ev_bTupT, ev_isNone0, ev_isNoneI, ev_isNoneL, ev_isNoneT, ev_isNoneB, ev_isNoneS, n_add, n_sub, n_mul, n_mod, n_div, n_shl1, n_shl, n_shr, n_pow, n_and, n_or, n_xor, n_lt, n_le, n_gt, n_ge, n_eq, n_ne, bt1, bt0, d_ltT, d_ltF, d_leT, d_leF, d_eqT, d_eqF, c_eq, c_ne, c_eqc, c_nec, c_isN, l_ix, t_ix, l_ix0, l_ix1, l_ix2, l_ix3, l_ix4, l_ix5, t_ix0, t_ix1, t_ix2, l_len, t_len, cut_to, cut_from, l_addL, t_addT, w_rng1, w_rng2, n_max2, n_min2, n_sum, b_all, b_any, b_all0, b_intB, b_intN, i_intI, i_boolI, i_intB, i_boolB, i_tupT, i_lstL, i_tupL, i_lstT, i_intT, i_intL, i_tupI, i_lstI, i_intN, i_tupN, i_lstN, i_intS, i_tupS, i_lstS, i_tupB, i_lstB, r_isN, r_notN, wp_nx, wp_ret, wl_nx, wl_cnt, wl_brk, wl_ret, List.map_cons, List.map_nil, List.cons_append, List.nil_append, List.set_cons_zero, List.set_cons_succ, List.length_cons, List.length_nil, List.length_map, List.length_append, List.length_range, List.length_range', List.length_set, Bool.not_true, Bool.not_false, Bool.true_and, Bool.false_and, Bool.and_true, Bool.and_false, decide_true, decide_false, Nat.reduceSub, Nat.reduceAdd, Option.getD_some, vo_v, no_v, Nat.one_mul, l_eq, l_ne, t_eq, t_eqc, l_eq0, l_ne0, z_eq0, z_ne0, lc_ne0, lc_eq0, n_inL, n_inT, n_niL, n_niT, n_inC, if_true, if_false, Option.isNone_none, Option.isNone_some, n_augA, n_augS, List.append_nil, n_tr, n_lr, KStar2_, KStarO_, KStar_, w_Star, items_l, items_t, st_vals, KComp2_, w_Comp2, n_mulA, t_mulA1, t_mulA, l_repC, KOrT_, w_OrT, truO_n, truO_0, truO_i, KUnpL_, w_UnpL, unpLO_2, unpLO_3, KItE_, w_ItE, itEO_l, itEO_t, itZO_l, itZO_t, KItZ_, w_ItZ, enumD_map, zipD_map, cT1, cT2, cT3, KCallT2_, KCallT_, w_CallT, ev_oNeg, i_strS, b_sortP, b_is, b_nis, KIs_, w_Is, isLO_l, t_ix3, t_ix4, ba1, ba2, ba3, ba4, t_rev, KExt_, KExt0_, w_Ext, w_extR, w_ext1, KTru_, w_Tru, truT_, truD_l, truD_t, g_get, isLO_d, KDComp_, w_DComp, G_is_between, D_is_between, number_n, Bool.false_and]
theorem between_non (lo hi : PyData) : G_is_between [] [.none, lo, hi] = .val (.bool false) [] := by
  simp -implicitDefEqProofs (disch := (first | omega | (simp only [List.length_map, List.length_append, List.length_range, List.length_cons, List.length_nil, List.length_set, List.length_take, List.length_drop, List.length_replicate, List.length_reverse] <;> omega) | assumption)) only [w_Seq, w_seqN, w_seqR, w_seqC, w_seqB, w_seqX, iteF_t, iteF_f, iteO_t, iteO_f, KoB_, KtB_, sg0_, sgS_, w_var, vr_v, vr_o, w_rdS, rdO_v, rdO_o, w_stb, stO1_v, stO1_o, ob_s, w_isOwn, isOwnO_o, K1_, K1_x, w_1, K2b_, K2b_x, K2_, K2_x, w_2, Kc2_, Kc2_x, Kc_, Kc_x, w_cons, KB_, KB_x, w_B, Ktup_, Ktup_x, w_tup, Klst_, Klst_x, w_lst, KT_, KT_x, w_T, KtAnd_, KtAnd_x, w_tAnd, KtOr_, KtOr_x, w_tOr, KtNot_, KtNot_x, w_tNot, KAnd_, KAnd_x, w_And, KOr_, KOr_x, w_Or, KNot_, KNot_x, w_Not, KIte_, KIte_x, w_Ite, Kch4_, Kch4_x, Kch3f_, Kch3_, Kch3_x, Kch2_, Kch2_x, Kch_, Kch_x, w_ch, partO_i, KPart_, KPart_x, w_Part, slO_, KSl3_, KSl3_x, KSl2_, KSl2_x, KSl_, KSl_x, w_Sl, KDo_, KDo_x, w_Do, KRet_, KRet_x, w_Ret, KIf_, KIf_x, w_If, putK_, w_putl, KSet_, KSet_x, w_Set, KAug_, KAug_x, w_Aug, augO_i, unpO_2, unpO_3, w_tg2, w_tg3, KUnp_, KUnp_x, w_Unp, chgK_, w_chg, chgO_o, appK_, w_appR, w_app1, KApp_, KApp_x, KApp0_, w_App, stIK_, w_stIR, stIO_i, w_put1, KStI2_, KStI2_x, KStI1_, KStI_, KStI_x, w_StI, KIt_, KIt_x, w_It, KRng1_, KRng1_x, w_Rng1, KRng2_, KRng2_x, w_Rng2, it2O_, it1O_, KIt2_, KIt2_x, w_It2, KIt1_, KIt1_x, w_It1, KFor_, KFor_x, w_For, KComp_, KComp_x, w_Comp, KCall_, KCall_x, w_Call, KCallI_, KCallI_x, KCallI0_, w_CallI, w_mkTup, w_mkLst, rdsK2_, rdsK_, w_rds, stbsK2_, stbsK_, w_stbs, cP0, cP1, cP2, cP3, cP4, cP5, cP6, cP7, cIO_o, cI1, cI2, cI3, cI4, cI5, cI6, cI7, w_stOt, stOO_o, w_retFl, retO_v, retO_o, w_finR, w_finN, finO_s, w_runF, rp0, rpS, asE_x, stF_x, finX_s, w_finX, ev_c, ev_fin, ev_fin0, ev_o1, ev_o2, ev_rdv, ev_rdn, ev_rdl, ev_nil, ev_stlv, ev_stln, ev_stll, ev_rds0, ev_stbv, ev_stbn, ev_stbs0, ev_asB, ev_NoPart, ev_Nx, ev_putv, ev_putn, ev_ofO, ev_itL, ev_itT, ev_tgN, ev_for0, ev_wipeD0, ev_wipeD, ev_restD0, ev_restD, ev_endC, ev_Yes, ev_asEv, ev_asEn, ev_stFv, ev_stFn, ev_mkAf, ev_mkAt, ev_stOf, ev_retFv, ev_retFn, ev_vI, ev_vB, ev_oSlL, ev_oSlT, ev_oRevL, ev_bListL, ev_bListT, ev_bTupL, ev_bTupT, ev_isNone0, ev_isNoneI, ev_isNoneL, ev_isNoneT, ev_isNoneB, ev_isNoneS, n_add, n_sub, n_mul, n_mod, n_div, n_shl1, n_shl, n_shr, n_pow, n_and, n_or, n_xor, n_lt, n_le, n_gt, n_ge, n_eq, n_ne, bt1, bt0, d_ltT, d_ltF, d_leT, d_leF, d_eqT, d_eqF, c_eq, c_ne, c_eqc, c_nec, c_isN, l_ix, t_ix, l_ix0, l_ix1, l_ix2, l_ix3, l_ix4, l_ix5, t_ix0, t_ix1, t_ix2, l_len, t_len, cut_to, cut_from, l_addL, t_addT, w_rng1, w_rng2, n_max2, n_min2, n_sum, b_all, b_any, b_all0, b_intB, b_intN, i_intI, i_boolI, i_intB, i_boolB, i_tupT, i_lstL, i_tupL, i_lstT, i_intT, i_intL, i_tupI, i_lstI, i_intN, i_tupN, i_lstN, i_intS, i_tupS, i_lstS, i_tupB, i_lstB, r_isN, r_notN, wp_nx, wp_ret, wl_nx, wl_cnt, wl_brk, wl_ret, List.map_cons, List.map_nil, List.cons_append, List.nil_append, List.set_cons_zero, List.set_cons_succ, List.length_cons, List.length_nil, List.length_map, List.length_append, List.length_range, List.length_range', List.length_set, Bool.not_true, Bool.not_false, Bool.true_and, Bool.false_and, Bool.and_true, Bool.and_false, decide_true, decide_false, Nat.reduceSub, Nat.reduceAdd, Option.getD_some, vo_v, no_v, Nat.one_mul, l_eq, l_ne, t_eq, t_eqc, l_eq0, l_ne0, z_eq0, z_ne0, lc_ne0, lc_eq0, n_inL, n_inT, n_niL, n_niT, n_inC, if_true, if_false, Option.isNone_none, Option.isNone_some, n_augA, n_augS, List.append_nil, n_tr, n_lr, KStar2_, KStarO_, KStar_, w_Star, items_l, items_t, st_vals, KComp2_, w_Comp2, n_mulA, t_mulA1, t_mulA, l_repC, KOrT_, w_OrT, truO_n, truO_0, truO_i, KUnpL_, w_UnpL, unpLO_2, unpLO_3, KItE_, w_ItE, itEO_l, itEO_t, itZO_l, itZO_t, KItZ_, w_ItZ, enumD_map, zipD_map, cT1, cT2, cT3, KCallT2_, KCallT_, w_CallT, ev_oNeg, i_strS, b_sortP, b_is, b_nis, KIs_, w_Is, isLO_l, t_ix3, t_ix4, ba1, ba2, ba3, ba4, t_rev, KExt_, KExt0_, w_Ext, w_extR, w_ext1, KTru_, w_Tru, truT_, truD_l, truD_t, g_get, isLO_d, KDComp_, w_DComp, G_is_between, D_is_between, G_is_number, D_is_number]
def tab (t : List (Option Nat)) : PyData := .tuple (t.map cell)
def Tb (n k : Nat) (t : List (Option Nat)) : Prop := t.length = 2 ^ n ∧ ∀ c, some c ∈ t → c < k
theorem pow_le {n : Nat} (h : n ≤ 8) : 2 ^ n ≤ 256 := by
  have : 2 ^ n ≤ 2 ^ 8 := Nat.pow_le_pow_right (by decide) h
  omega
theorem is_table_true {n k : Nat} {t : List (Option Nat)} (hn : n ≤ 8) (hk : 0 < k) (h : Tb n k t) : G_is_table [] [nI n, nI k, tab t] = .val (.bool true) [] := by
  have hp := pow_le hn
  obtain ⟨hl, ht⟩ := h
  simp -implicitDefEqProofs (disch := (first | omega | (simp only [List.length_map, List.length_append, List.length_range, List.length_cons, List.length_nil, List.length_set, List.length_take, List.length_drop, List.length_replicate, List.length_reverse] <;> omega) | assumption)) only [w_Seq, w_seqN, w_seqR, w_seqC, w_seqB, w_seqX, iteF_t, iteF_f, iteO_t, iteO_f, KoB_, KtB_, sg0_, sgS_, w_var, vr_v, vr_o, w_rdS, rdO_v, rdO_o, w_stb, stO1_v, stO1_o, ob_s, w_isOwn, isOwnO_o, K1_, K1_x, w_1, K2b_, K2b_x, K2_, K2_x, w_2, Kc2_, Kc2_x, Kc_, Kc_x, w_cons, KB_, KB_x, w_B, Ktup_, Ktup_x, w_tup, Klst_, Klst_x, w_lst, KT_, KT_x, w_T, KtAnd_, KtAnd_x, w_tAnd, KtOr_, KtOr_x, w_tOr, KtNot_, KtNot_x, w_tNot, KAnd_, KAnd_x, w_And, KOr_, KOr_x, w_Or, KNot_, KNot_x, w_Not, KIte_, KIte_x, w_Ite, Kch4_, Kch4_x, Kch3f_, Kch3_, Kch3_x, Kch2_, Kch2_x, Kch_, Kch_x, w_ch, partO_i, KPart_, KPart_x, w_Part, slO_, KSl3_, KSl3_x, KSl2_, KSl2_x, KSl_, KSl_x, w_Sl, KDo_, KDo_x, w_Do, KRet_, KRet_x, w_Ret, KIf_, KIf_x, w_If, putK_, w_putl, KSet_, KSet_x, w_Set, KAug_, KAug_x, w_Aug, augO_i, unpO_2, unpO_3, w_tg2, w_tg3, KUnp_, KUnp_x, w_Unp, chgK_, w_chg, chgO_o, appK_, w_appR, w_app1, KApp_, KApp_x, KApp0_, w_App, stIK_, w_stIR, stIO_i, w_put1, KStI2_, KStI2_x, KStI1_, KStI_, KStI_x, w_StI, KIt_, KIt_x, w_It, KRng1_, KRng1_x, w_Rng1, KRng2_, KRng2_x, w_Rng2, it2O_, it1O_, KIt2_, KIt2_x, w_It2, KIt1_, KIt1_x, w_It1, KFor_, KFor_x, w_For, KComp_, KComp_x, w_Comp, KCall_, KCall_x, w_Call, KCallI_, KCallI_x, KCallI0_, w_CallI, w_mkTup, w_mkLst, rdsK2_, rdsK_, w_rds, stbsK2_, stbsK_, w_stbs, cP0, cP1, cP2, cP3, cP4, cP5, cP6, cP7, cIO_o, cI1, cI2, cI3, cI4, cI5, cI6, cI7, w_stOt, stOO_o, w_retFl, retO_v, retO_o, w_finR, w_finN, finO_s, w_runF, rp0, rpS, asE_x, stF_x, finX_s, w_finX, ev_c, ev_fin, ev_fin0, ev_o1, ev_o2, ev_rdv, ev_rdn, ev_rdl, ev_nil, ev_stlv, ev_stln, ev_stll, ev_rds0, ev_stbv, ev_stbn, ev_stbs0, ev_asB, ev_NoPart, ev_Nx, ev_putv, ev_putn, ev_ofO, ev_itL, ev_itT, ev_tgN, ev_for0, ev_wipeD0, ev_wipeD, ev_restD0, ev_restD, ev_endC, ev_Yes, ev_asEv, ev_asEn, ev_stFv, ev_stFn, ev_mkAf, ev_mkAt, ev_stOf, ev_retFv, ev_retFn, ev_vI, ev_vB, ev_oSlL, ev_oSlT, ev_oRevL, ev_bListL, ev_bListT, ev_bTupL, ev_bTupT, ev_isNone0, ev_isNoneI, ev_isNoneL, ev_isNoneT, ev_isNoneB, ev_isNoneS, n_add, n_sub, n_mul, n_mod, n_div, n_shl1, n_shl, n_shr, n_pow, n_and, n_or, n_xor, n_lt, n_le, n_gt, n_ge, n_eq, n_ne, bt1, bt0, d_ltT, d_ltF, d_leT, d_leF, d_eqT, d_eqF, c_eq, c_ne, c_eqc, c_nec, c_isN, l_ix, t_ix, l_ix0, l_ix1, l_ix2, l_ix3, l_ix4, l_ix5, t_ix0, t_ix1, t_ix2, l_len, t_len, cut_to, cut_from, l_addL, t_addT, w_rng1, w_rng2, n_max2, n_min2, n_sum, b_all, b_any, b_all0, b_intB, b_intN, i_intI, i_boolI, i_intB, i_boolB, i_tupT, i_lstL, i_tupL, i_lstT, i_intT, i_intL, i_tupI, i_lstI, i_intN, i_tupN, i_lstN, i_intS, i_tupS, i_lstS, i_tupB, i_lstB, r_isN, r_notN, wp_nx, wp_ret, wl_nx, wl_cnt, wl_brk, wl_ret, List.map_cons, List.map_nil, List.cons_append, List.nil_append, List.set_cons_zero, List.set_cons_succ, List.length_cons, List.length_nil, List.length_map, List.length_append, List.length_range, List.length_range', List.length_set, Bool.not_true, Bool.not_false, Bool.true_and, Bool.false_and, Bool.and_true, Bool.and_false, decide_true, decide_false, Nat.reduceSub, Nat.reduceAdd, Option.getD_some, vo_v, no_v, Nat.one_mul, l_eq, l_ne, t_eq, t_eqc, l_eq0, l_ne0, z_eq0, z_ne0, lc_ne0, lc_eq0, n_inL, n_inT, n_niL, n_niT, n_inC, if_true, if_false, Option.isNone_none, Option.isNone_some, n_augA, n_augS, List.append_nil, n_tr, n_lr, KStar2_, KStarO_, KStar_, w_Star, items_l, items_t, st_vals, KComp2_, w_Comp2, n_mulA, t_mulA1, t_mulA, l_repC, KOrT_, w_OrT, truO_n, truO_0, truO_i, KUnpL_, w_UnpL, unpLO_2, unpLO_3, KItE_, w_ItE, itEO_l, itEO_t, itZO_l, itZO_t, KItZ_, w_ItZ, enumD_map, zipD_map, cT1, cT2, cT3, KCallT2_, KCallT_, w_CallT, ev_oNeg, i_strS, b_sortP, b_is, b_nis, KIs_, w_Is, isLO_l, t_ix3, t_ix4, ba1, ba2, ba3, ba4, t_rev, KExt_, KExt0_, w_Ext, w_extR, w_ext1, KTru_, w_Tru, truT_, truD_l, truD_t, g_get, isLO_d, KDComp_, w_DComp, G_is_table, D_is_table, tab]
  rw [cmpM (fun _ => true) PyData.bool]
  · simp -implicitDefEqProofs (disch := (first | omega | (simp only [List.length_map, List.length_append, List.length_range, List.length_cons, List.length_nil, List.length_set, List.length_take, List.length_drop, List.length_replicate, List.length_reverse] <;> omega) | assumption)) only [w_Seq, w_seqN, w_seqR, w_seqC, w_seqB, w_seqX, iteF_t, iteF_f, iteO_t, iteO_f, KoB_, KtB_, sg0_, sgS_, w_var, vr_v, vr_o, w_rdS, rdO_v, rdO_o, w_stb, stO1_v, stO1_o, ob_s, w_isOwn, isOwnO_o, K1_, K1_x, w_1, K2b_, K2b_x, K2_, K2_x, w_2, Kc2_, Kc2_x, Kc_, Kc_x, w_cons, KB_, KB_x, w_B, Ktup_, Ktup_x, w_tup, Klst_, Klst_x, w_lst, KT_, KT_x, w_T, KtAnd_, KtAnd_x, w_tAnd, KtOr_, KtOr_x, w_tOr, KtNot_, KtNot_x, w_tNot, KAnd_, KAnd_x, w_And, KOr_, KOr_x, w_Or, KNot_, KNot_x, w_Not, KIte_, KIte_x, w_Ite, Kch4_, Kch4_x, Kch3f_, Kch3_, Kch3_x, Kch2_, Kch2_x, Kch_, Kch_x, w_ch, partO_i, KPart_, KPart_x, w_Part, slO_, KSl3_, KSl3_x, KSl2_, KSl2_x, KSl_, KSl_x, w_Sl, KDo_, KDo_x, w_Do, KRet_, KRet_x, w_Ret, KIf_, KIf_x, w_If, putK_, w_putl, KSet_, KSet_x, w_Set, KAug_, KAug_x, w_Aug, augO_i, unpO_2, unpO_3, w_tg2, w_tg3, KUnp_, KUnp_x, w_Unp, chgK_, w_chg, chgO_o, appK_, w_appR, w_app1, KApp_, KApp_x, KApp0_, w_App, stIK_, w_stIR, stIO_i, w_put1, KStI2_, KStI2_x, KStI1_, KStI_, KStI_x, w_StI, KIt_, KIt_x, w_It, KRng1_, KRng1_x, w_Rng1, KRng2_, KRng2_x, w_Rng2, it2O_, it1O_, KIt2_, KIt2_x, w_It2, KIt1_, KIt1_x, w_It1, KFor_, KFor_x, w_For, KComp_, KComp_x, w_Comp, KCall_, KCall_x, w_Call, KCallI_, KCallI_x, KCallI0_, w_CallI, w_mkTup, w_mkLst, rdsK2_, rdsK_, w_rds, stbsK2_, stbsK_, w_stbs, cP0, cP1, cP2, cP3, cP4, cP5, cP6, cP7, cIO_o, cI1, cI2, cI3, cI4, cI5, cI6, cI7, w_stOt, stOO_o, w_retFl, retO_v, retO_o, w_finR, w_finN, finO_s, w_runF, rp0, rpS, asE_x, stF_x, finX_s, w_finX, ev_c, ev_fin, ev_fin0, ev_o1, ev_o2, ev_rdv, ev_rdn, ev_rdl, ev_nil, ev_stlv, ev_stln, ev_stll, ev_rds0, ev_stbv, ev_stbn, ev_stbs0, ev_asB, ev_NoPart, ev_Nx, ev_putv, ev_putn, ev_ofO, ev_itL, ev_itT, ev_tgN, ev_for0, ev_wipeD0, ev_wipeD, ev_restD0, ev_restD, ev_endC, ev_Yes, ev_asEv, ev_asEn, ev_stFv, ev_stFn, ev_mkAf, ev_mkAt, ev_stOf, ev_retFv, ev_retFn, ev_vI, ev_vB, ev_oSlL, ev_oSlT, ev_oRevL, ev_bListL, ev_bListT, ev_bTupL, ev_bTupT, ev_isNone0, ev_isNoneI, ev_isNoneL, ev_isNoneT, ev_isNoneB, ev_isNoneS, n_add, n_sub, n_mul, n_mod, n_div, n_shl1, n_shl, n_shr, n_pow, n_and, n_or, n_xor, n_lt, n_le, n_gt, n_ge, n_eq, n_ne, bt1, bt0, d_ltT, d_ltF, d_leT, d_leF, d_eqT, d_eqF, c_eq, c_ne, c_eqc, c_nec, c_isN, l_ix, t_ix, l_ix0, l_ix1, l_ix2, l_ix3, l_ix4, l_ix5, t_ix0, t_ix1, t_ix2, l_len, t_len, cut_to, cut_from, l_addL, t_addT, w_rng1, w_rng2, n_max2, n_min2, n_sum, b_all, b_any, b_all0, b_intB, b_intN, i_intI, i_boolI, i_intB, i_boolB, i_tupT, i_lstL, i_tupL, i_lstT, i_intT, i_intL, i_tupI, i_lstI, i_intN, i_tupN, i_lstN, i_intS, i_tupS, i_lstS, i_tupB, i_lstB, r_isN, r_notN, wp_nx, wp_ret, wl_nx, wl_cnt, wl_brk, wl_ret, List.map_cons, List.map_nil, List.cons_append, List.nil_append, List.set_cons_zero, List.set_cons_succ, List.length_cons, List.length_nil, List.length_map, List.length_append, List.length_range, List.length_range', List.length_set, Bool.not_true, Bool.not_false, Bool.true_and, Bool.false_and, Bool.and_true, Bool.and_false, decide_true, decide_false, Nat.reduceSub, Nat.reduceAdd, Option.getD_some, vo_v, no_v, Nat.one_mul, l_eq, l_ne, t_eq, t_eqc, l_eq0, l_ne0, z_eq0, z_ne0, lc_ne0, lc_eq0, n_inL, n_inT, n_niL, n_niT, n_inC, if_true, if_false, Option.isNone_none, Option.isNone_some, n_augA, n_augS, List.append_nil, n_tr, n_lr, KStar2_, KStarO_, KStar_, w_Star, items_l, items_t, st_vals, KComp2_, w_Comp2, n_mulA, t_mulA1, t_mulA, l_repC, KOrT_, w_OrT, truO_n, truO_0, truO_i, KUnpL_, w_UnpL, unpLO_2, unpLO_3, KItE_, w_ItE, itEO_l, itEO_t, itZO_l, itZO_t, KItZ_, w_ItZ, enumD_map, zipD_map, cT1, cT2, cT3, KCallT2_, KCallT_, w_CallT, ev_oNeg, i_strS, b_sortP, b_is, b_nis, KIs_, w_Is, isLO_l, t_ix3, t_ix4, ba1, ba2, ba3, ba4, t_rev, KExt_, KExt0_, w_Ext, w_extR, w_ext1, KTru_, w_Tru, truT_, truD_l, truD_t, g_get, isLO_d, KDComp_, w_DComp]
    rw [show (List.map (fun _ => true) t).all id = true by simp]
  · intro x hx
    refine ⟨.val (.bool true), ?_, rfl⟩
    cases x with
    | none => simp -implicitDefEqProofs (disch := (first | omega | (simp only [List.length_map, List.length_append, List.length_range, List.length_cons, List.length_nil, List.length_set, List.length_take, List.length_drop, List.length_replicate, List.length_reverse] <;> omega) | assumption)) only [w_Seq, w_seqN, w_seqR, w_seqC, w_seqB, w_seqX, iteF_t, iteF_f, iteO_t, iteO_f, KoB_, KtB_, sg0_, sgS_, w_var, vr_v, vr_o, w_rdS, rdO_v, rdO_o, w_stb, stO1_v, stO1_o, ob_s, w_isOwn, isOwnO_o, K1_, K1_x, w_1, K2b_, K2b_x, K2_, K2_x, w_2, Kc2_, Kc2_x, Kc_, Kc_x, w_cons, KB_, KB_x, w_B, Ktup_, Ktup_x, w_tup, Klst_, Klst_x, w_lst, KT_, KT_x, w_T, KtAnd_, KtAnd_x, w_tAnd, KtOr_, KtOr_x, w_tOr, KtNot_, KtNot_x, w_tNot, KAnd_, KAnd_x, w_And, KOr_, KOr_x, w_Or, KNot_, KNot_x, w_Not, KIte_, KIte_x, w_Ite, Kch4_, Kch4_x, Kch3f_, Kch3_, Kch3_x, Kch2_, Kch2_x, Kch_, Kch_x, w_ch, partO_i, KPart_, KPart_x, w_Part, slO_, KSl3_, KSl3_x, KSl2_, KSl2_x, KSl_, KSl_x, w_Sl, KDo_, KDo_x, w_Do, KRet_, KRet_x, w_Ret, KIf_, KIf_x, w_If, putK_, w_putl, KSet_, KSet_x, w_Set, KAug_, KAug_x, w_Aug, augO_i, unpO_2, unpO_3, w_tg2, w_tg3, KUnp_, KUnp_x, w_Unp, chgK_, w_chg, chgO_o, appK_, w_appR, w_app1, KApp_, KApp_x, KApp0_, w_App, stIK_, w_stIR, stIO_i, w_put1, KStI2_, KStI2_x, KStI1_, KStI_, KStI_x, w_StI, KIt_, KIt_x, w_It, KRng1_, KRng1_x, w_Rng1, KRng2_, KRng2_x, w_Rng2, it2O_, it1O_, KIt2_, KIt2_x, w_It2, KIt1_, KIt1_x, w_It1, KFor_, KFor_x, w_For, KComp_, KComp_x, w_Comp, KCall_, KCall_x, w_Call, KCallI_, KCallI_x, KCallI0_, w_CallI, w_mkTup, w_mkLst, rdsK2_, rdsK_, w_rds, stbsK2_, stbsK_, w_stbs, cP0, cP1, cP2, cP3, cP4, cP5, cP6, cP7, cIO_o, cI1, cI2, cI3, cI4, cI5, cI6, cI7, w_stOt, stOO_o, w_retFl, retO_v, retO_o, w_finR, w_finN, finO_s, w_runF, rp0, rpS, asE_x, stF_x, finX_s, w_finX, ev_c, ev_fin, ev_fin0, ev_o1, ev_o2, ev_rdv, ev_rdn, ev_rdl, ev_nil, ev_stlv, ev_stln, ev_stll, ev_rds0, ev_stbv, ev_stbn, ev_stbs0, ev_asB, ev_NoPart, ev_Nx, ev_putv, ev_putn, ev_ofO, ev_itL, ev_itT, ev_tgN, ev_for0, ev_wipeD0, ev_wipeD, ev_restD0, ev_restD, ev_endC, ev_Yes, ev_asEv, ev_asEn, ev_stFv, ev_stFn, ev_mkAf, ev_mkAt, ev_stOf, ev_retFv, ev_retFn, ev_vI, ev_vB, ev_oSlL, ev_oSlT, ev_oRevL, ev_bListL, ev_bListT, ev_bTupL, ev_bTupT, ev_isNone0, ev_isNoneI, ev_isNoneL, ev_isNoneT, ev_isNoneB, ev_isNoneS, n_add, n_sub, n_mul, n_mod, n_div, n_shl1, n_shl, n_shr, n_pow, n_and, n_or, n_xor, n_lt, n_le, n_gt, n_ge, n_eq, n_ne, bt1, bt0, d_ltT, d_ltF, d_leT, d_leF, d_eqT, d_eqF, c_eq, c_ne, c_eqc, c_nec, c_isN, l_ix, t_ix, l_ix0, l_ix1, l_ix2, l_ix3, l_ix4, l_ix5, t_ix0, t_ix1, t_ix2, l_len, t_len, cut_to, cut_from, l_addL, t_addT, w_rng1, w_rng2, n_max2, n_min2, n_sum, b_all, b_any, b_all0, b_intB, b_intN, i_intI, i_boolI, i_intB, i_boolB, i_tupT, i_lstL, i_tupL, i_lstT, i_intT, i_intL, i_tupI, i_lstI, i_intN, i_tupN, i_lstN, i_intS, i_tupS, i_lstS, i_tupB, i_lstB, r_isN, r_notN, wp_nx, wp_ret, wl_nx, wl_cnt, wl_brk, wl_ret, List.map_cons, List.map_nil, List.cons_append, List.nil_append, List.set_cons_zero, List.set_cons_succ, List.length_cons, List.length_nil, List.length_map, List.length_append, List.length_range, List.length_range', List.length_set, Bool.not_true, Bool.not_false, Bool.true_and, Bool.false_and, Bool.and_true, Bool.and_false, decide_true, decide_false, Nat.reduceSub, Nat.reduceAdd, Option.getD_some, vo_v, no_v, Nat.one_mul, l_eq, l_ne, t_eq, t_eqc, l_eq0, l_ne0, z_eq0, z_ne0, lc_ne0, lc_eq0, n_inL, n_inT, n_niL, n_niT, n_inC, if_true, if_false, Option.isNone_none, Option.isNone_some, n_augA, n_augS, List.append_nil, n_tr, n_lr, KStar2_, KStarO_, KStar_, w_Star, items_l, items_t, st_vals, KComp2_, w_Comp2, n_mulA, t_mulA1, t_mulA, l_repC, KOrT_, w_OrT, truO_n, truO_0, truO_i, KUnpL_, w_UnpL, unpLO_2, unpLO_3, KItE_, w_ItE, itEO_l, itEO_t, itZO_l, itZO_t, KItZ_, w_ItZ, enumD_map, zipD_map, cT1, cT2, cT3, KCallT2_, KCallT_, w_CallT, ev_oNeg, i_strS, b_sortP, b_is, b_nis, KIs_, w_Is, isLO_l, t_ix3, t_ix4, ba1, ba2, ba3, ba4, t_rev, KExt_, KExt0_, w_Ext, w_extR, w_ext1, KTru_, w_Tru, truT_, truD_l, truD_t, g_get, isLO_d, KDComp_, w_DComp, cell0]
    | some c =>
      have hc := ht c hx
      simp -implicitDefEqProofs (disch := (first | omega | (simp only [List.length_map, List.length_append, List.length_range, List.length_cons, List.length_nil, List.length_set, List.length_take, List.length_drop, List.length_replicate, List.length_reverse] <;> omega) | assumption)) only [w_Seq, w_seqN, w_seqR, w_seqC, w_seqB, w_seqX, iteF_t, iteF_f, iteO_t, iteO_f, KoB_, KtB_, sg0_, sgS_, w_var, vr_v, vr_o, w_rdS, rdO_v, rdO_o, w_stb, stO1_v, stO1_o, ob_s, w_isOwn, isOwnO_o, K1_, K1_x, w_1, K2b_, K2b_x, K2_, K2_x, w_2, Kc2_, Kc2_x, Kc_, Kc_x, w_cons, KB_, KB_x, w_B, Ktup_, Ktup_x, w_tup, Klst_, Klst_x, w_lst, KT_, KT_x, w_T, KtAnd_, KtAnd_x, w_tAnd, KtOr_, KtOr_x, w_tOr, KtNot_, KtNot_x, w_tNot, KAnd_, KAnd_x, w_And, KOr_, KOr_x, w_Or, KNot_, KNot_x, w_Not, KIte_, KIte_x, w_Ite, Kch4_, Kch4_x, Kch3f_, Kch3_, Kch3_x, Kch2_, Kch2_x, Kch_, Kch_x, w_ch, partO_i, KPart_, KPart_x, w_Part, slO_, KSl3_, KSl3_x, KSl2_, KSl2_x, KSl_, KSl_x, w_Sl, KDo_, KDo_x, w_Do, KRet_, KRet_x, w_Ret, KIf_, KIf_x, w_If, putK_, w_putl, KSet_, KSet_x, w_Set, KAug_, KAug_x, w_Aug, augO_i, unpO_2, unpO_3, w_tg2, w_tg3, KUnp_, KUnp_x, w_Unp, chgK_, w_chg, chgO_o, appK_, w_appR, w_app1, KApp_, KApp_x, KApp0_, w_App, stIK_, w_stIR, stIO_i, w_put1, KStI2_, KStI2_x, KStI1_, KStI_, KStI_x, w_StI, KIt_, KIt_x, w_It, KRng1_, KRng1_x, w_Rng1, KRng2_, KRng2_x, w_Rng2, it2O_, it1O_, KIt2_, KIt2_x, w_It2, KIt1_, KIt1_x, w_It1, KFor_, KFor_x, w_For, KComp_, KComp_x, w_Comp, KCall_, KCall_x, w_Call, KCallI_, KCallI_x, KCallI0_, w_CallI, w_mkTup, w_mkLst, rdsK2_, rdsK_, w_rds, stbsK2_, stbsK_, w_stbs, cP0, cP1, cP2, cP3, cP4, cP5, cP6, cP7, cIO_o, cI1, cI2, cI3, cI4, cI5, cI6, cI7, w_stOt, stOO_o, w_retFl, retO_v, retO_o, w_finR, w_finN, finO_s, w_runF, rp0, rpS, asE_x, stF_x, finX_s, w_finX, ev_c, ev_fin, ev_fin0, ev_o1, ev_o2, ev_rdv, ev_rdn, ev_rdl, ev_nil, ev_stlv, ev_stln, ev_stll, ev_rds0, ev_stbv, ev_stbn, ev_stbs0, ev_asB, ev_NoPart, ev_Nx, ev_putv, ev_putn, ev_ofO, ev_itL, ev_itT, ev_tgN, ev_for0, ev_wipeD0, ev_wipeD, ev_restD0, ev_restD, ev_endC, ev_Yes, ev_asEv, ev_asEn, ev_stFv, ev_stFn, ev_mkAf, ev_mkAt, ev_stOf, ev_retFv, ev_retFn, ev_vI, ev_vB, ev_oSlL, ev_oSlT, ev_oRevL, ev_bListL, ev_bListT, ev_bTupL, ev_bTupT, ev_isNone0, ev_isNoneI, ev_isNoneL, ev_isNoneT, ev_isNoneB, ev_isNoneS, n_add, n_sub, n_mul, n_mod, n_div, n_shl1, n_shl, n_shr, n_pow, n_and, n_or, n_xor, n_lt, n_le, n_gt, n_ge, n_eq, n_ne, bt1, bt0, d_ltT, d_ltF, d_leT, d_leF, d_eqT, d_eqF, c_eq, c_ne, c_eqc, c_nec, c_isN, l_ix, t_ix, l_ix0, l_ix1, l_ix2, l_ix3, l_ix4, l_ix5, t_ix0, t_ix1, t_ix2, l_len, t_len, cut_to, cut_from, l_addL, t_addT, w_rng1, w_rng2, n_max2, n_min2, n_sum, b_all, b_any, b_all0, b_intB, b_intN, i_intI, i_boolI, i_intB, i_boolB, i_tupT, i_lstL, i_tupL, i_lstT, i_intT, i_intL, i_tupI, i_lstI, i_intN, i_tupN, i_lstN, i_intS, i_tupS, i_lstS, i_tupB, i_lstB, r_isN, r_notN, wp_nx, wp_ret, wl_nx, wl_cnt, wl_brk, wl_ret, List.map_cons, List.map_nil, List.cons_append, List.nil_append, List.set_cons_zero, List.set_cons_succ, List.length_cons, List.length_nil, List.length_map, List.length_append, List.length_range, List.length_range', List.length_set, Bool.not_true, Bool.not_false, Bool.true_and, Bool.false_and, Bool.and_true, Bool.and_false, decide_true, decide_false, Nat.reduceSub, Nat.reduceAdd, Option.getD_some, vo_v, no_v, Nat.one_mul, l_eq, l_ne, t_eq, t_eqc, l_eq0, l_ne0, z_eq0, z_ne0, lc_ne0, lc_eq0, n_inL, n_inT, n_niL, n_niT, n_inC, if_true, if_false, Option.isNone_none, Option.isNone_some, n_augA, n_augS, List.append_nil, n_tr, n_lr, KStar2_, KStarO_, KStar_, w_Star, items_l, items_t, st_vals, KComp2_, w_Comp2, n_mulA, t_mulA1, t_mulA, l_repC, KOrT_, w_OrT, truO_n, truO_0, truO_i, KUnpL_, w_UnpL, unpLO_2, unpLO_3, KItE_, w_ItE, itEO_l, itEO_t, itZO_l, itZO_t, KItZ_, w_ItZ, enumD_map, zipD_map, cT1, cT2, cT3, KCallT2_, KCallT_, w_CallT, ev_oNeg, i_strS, b_sortP, b_is, b_nis, KIs_, w_Is, isLO_l, t_ix3, t_ix4, ba1, ba2, ba3, ba4, t_rev, KExt_, KExt0_, w_Ext, w_extR, w_ext1, KTru_, w_Tru, truT_, truD_l, truD_t, g_get, isLO_d, KDComp_, w_DComp, cell1, between_n, Bool.true_and]
theorem made_spec {n k : Nat} {t : List (Option Nat)} (h1 : 1 ≤ n) (hn : n ≤ 8) (h2 : 2 ≤ k) (hk : k ≤ 100) (h : Tb n k t) : G_made_writing [] [nI n, nI k, tab t] = .val (.tuple [nI n, nI k, tab t]) [] := by
  simp -implicitDefEqProofs (disch := (first | omega | (simp only [List.length_map, List.length_append, List.length_range, List.length_cons, List.length_nil, List.length_set, List.length_take, List.length_drop, List.length_replicate, List.length_reverse] <;> omega) | assumption)) only [w_Seq, w_seqN, w_seqR, w_seqC, w_seqB, w_seqX, iteF_t, iteF_f, iteO_t, iteO_f, KoB_, KtB_, sg0_, sgS_, w_var, vr_v, vr_o, w_rdS, rdO_v, rdO_o, w_stb, stO1_v, stO1_o, ob_s, w_isOwn, isOwnO_o, K1_, K1_x, w_1, K2b_, K2b_x, K2_, K2_x, w_2, Kc2_, Kc2_x, Kc_, Kc_x, w_cons, KB_, KB_x, w_B, Ktup_, Ktup_x, w_tup, Klst_, Klst_x, w_lst, KT_, KT_x, w_T, KtAnd_, KtAnd_x, w_tAnd, KtOr_, KtOr_x, w_tOr, KtNot_, KtNot_x, w_tNot, KAnd_, KAnd_x, w_And, KOr_, KOr_x, w_Or, KNot_, KNot_x, w_Not, KIte_, KIte_x, w_Ite, Kch4_, Kch4_x, Kch3f_, Kch3_, Kch3_x, Kch2_, Kch2_x, Kch_, Kch_x, w_ch, partO_i, KPart_, KPart_x, w_Part, slO_, KSl3_, KSl3_x, KSl2_, KSl2_x, KSl_, KSl_x, w_Sl, KDo_, KDo_x, w_Do, KRet_, KRet_x, w_Ret, KIf_, KIf_x, w_If, putK_, w_putl, KSet_, KSet_x, w_Set, KAug_, KAug_x, w_Aug, augO_i, unpO_2, unpO_3, w_tg2, w_tg3, KUnp_, KUnp_x, w_Unp, chgK_, w_chg, chgO_o, appK_, w_appR, w_app1, KApp_, KApp_x, KApp0_, w_App, stIK_, w_stIR, stIO_i, w_put1, KStI2_, KStI2_x, KStI1_, KStI_, KStI_x, w_StI, KIt_, KIt_x, w_It, KRng1_, KRng1_x, w_Rng1, KRng2_, KRng2_x, w_Rng2, it2O_, it1O_, KIt2_, KIt2_x, w_It2, KIt1_, KIt1_x, w_It1, KFor_, KFor_x, w_For, KComp_, KComp_x, w_Comp, KCall_, KCall_x, w_Call, KCallI_, KCallI_x, KCallI0_, w_CallI, w_mkTup, w_mkLst, rdsK2_, rdsK_, w_rds, stbsK2_, stbsK_, w_stbs, cP0, cP1, cP2, cP3, cP4, cP5, cP6, cP7, cIO_o, cI1, cI2, cI3, cI4, cI5, cI6, cI7, w_stOt, stOO_o, w_retFl, retO_v, retO_o, w_finR, w_finN, finO_s, w_runF, rp0, rpS, asE_x, stF_x, finX_s, w_finX, ev_c, ev_fin, ev_fin0, ev_o1, ev_o2, ev_rdv, ev_rdn, ev_rdl, ev_nil, ev_stlv, ev_stln, ev_stll, ev_rds0, ev_stbv, ev_stbn, ev_stbs0, ev_asB, ev_NoPart, ev_Nx, ev_putv, ev_putn, ev_ofO, ev_itL, ev_itT, ev_tgN, ev_for0, ev_wipeD0, ev_wipeD, ev_restD0, ev_restD, ev_endC, ev_Yes, ev_asEv, ev_asEn, ev_stFv, ev_stFn, ev_mkAf, ev_mkAt, ev_stOf, ev_retFv, ev_retFn, ev_vI, ev_vB, ev_oSlL, ev_oSlT, ev_oRevL, ev_bListL, ev_bListT, ev_bTupL, ev_bTupT, ev_isNone0, ev_isNoneI, ev_isNoneL, ev_isNoneT, ev_isNoneB, ev_isNoneS, n_add, n_sub, n_mul, n_mod, n_div, n_shl1, n_shl, n_shr, n_pow, n_and, n_or, n_xor, n_lt, n_le, n_gt, n_ge, n_eq, n_ne, bt1, bt0, d_ltT, d_ltF, d_leT, d_leF, d_eqT, d_eqF, c_eq, c_ne, c_eqc, c_nec, c_isN, l_ix, t_ix, l_ix0, l_ix1, l_ix2, l_ix3, l_ix4, l_ix5, t_ix0, t_ix1, t_ix2, l_len, t_len, cut_to, cut_from, l_addL, t_addT, w_rng1, w_rng2, n_max2, n_min2, n_sum, b_all, b_any, b_all0, b_intB, b_intN, i_intI, i_boolI, i_intB, i_boolB, i_tupT, i_lstL, i_tupL, i_lstT, i_intT, i_intL, i_tupI, i_lstI, i_intN, i_tupN, i_lstN, i_intS, i_tupS, i_lstS, i_tupB, i_lstB, r_isN, r_notN, wp_nx, wp_ret, wl_nx, wl_cnt, wl_brk, wl_ret, List.map_cons, List.map_nil, List.cons_append, List.nil_append, List.set_cons_zero, List.set_cons_succ, List.length_cons, List.length_nil, List.length_map, List.length_append, List.length_range, List.length_range', List.length_set, Bool.not_true, Bool.not_false, Bool.true_and, Bool.false_and, Bool.and_true, Bool.and_false, decide_true, decide_false, Nat.reduceSub, Nat.reduceAdd, Option.getD_some, vo_v, no_v, Nat.one_mul, l_eq, l_ne, t_eq, t_eqc, l_eq0, l_ne0, z_eq0, z_ne0, lc_ne0, lc_eq0, n_inL, n_inT, n_niL, n_niT, n_inC, if_true, if_false, Option.isNone_none, Option.isNone_some, n_augA, n_augS, List.append_nil, n_tr, n_lr, KStar2_, KStarO_, KStar_, w_Star, items_l, items_t, st_vals, KComp2_, w_Comp2, n_mulA, t_mulA1, t_mulA, l_repC, KOrT_, w_OrT, truO_n, truO_0, truO_i, KUnpL_, w_UnpL, unpLO_2, unpLO_3, KItE_, w_ItE, itEO_l, itEO_t, itZO_l, itZO_t, KItZ_, w_ItZ, enumD_map, zipD_map, cT1, cT2, cT3, KCallT2_, KCallT_, w_CallT, ev_oNeg, i_strS, b_sortP, b_is, b_nis, KIs_, w_Is, isLO_l, t_ix3, t_ix4, ba1, ba2, ba3, ba4, t_rev, KExt_, KExt0_, w_Ext, w_extR, w_ext1, KTru_, w_Tru, truT_, truD_l, truD_t, g_get, isLO_d, KDComp_, w_DComp, G_made_writing, D_made_writing, between_n, Bool.true_and, is_table_true hn (show 0 < k by omega) h]

def tru : Fo → Bool
  | .val (.bool true) [] => true
  | _ => false
theorem tru_of {o : Fo} (h : tru o = true) : o = .val (.bool true) [] := by
  match o, h with
  | .val (.bool true) [], _ => rfl
theorem u1 : tru (G_law_right [] [nI 0, nI 1]) = true := by decide +kernel
theorem u2 : tru (G_law_right [] [nI 0, nI 2]) = true := by decide +kernel
theorem u3 : tru (G_law_right [] [nI 0, nI 3]) = true := by decide +kernel
theorem u4 : tru (G_law_right [] [nI 0, nI 4]) = true := by decide +kernel
theorem u5 : tru (G_law_right [] [nI 0, nI 5]) = true := by decide +kernel
theorem u6 : tru (G_law_right [] [nI 0, nI 6]) = true := by decide +kernel
theorem u7 : tru (G_law_right [] [nI 0, nI 7]) = true := by decide +kernel
theorem u8 : tru (G_law_right [] [nI 0, nI 8]) = true := by decide +kernel
theorem t3 : tru (G_law_right [] [nI 1, nI 3]) = true := by decide +kernel
theorem t4 : tru (G_law_right [] [nI 1, nI 4]) = true := by decide +kernel
theorem t5 : tru (G_law_right [] [nI 1, nI 5]) = true := by decide +kernel
theorem t6 : tru (G_law_right [] [nI 1, nI 6]) = true := by decide +kernel
theorem t7 : tru (G_law_right [] [nI 1, nI 7]) = true := by decide +kernel
theorem t8 : tru (G_law_right [] [nI 1, nI 8]) = true := by decide +kernel
def all14 : List (Nat × Nat) := [(0, 1), (0, 2), (0, 3), (0, 4), (0, 5), (0, 6), (0, 7), (0, 8), (1, 3), (1, 4), (1, 5), (1, 6), (1, 7), (1, 8)]
def e14 (x : Nat × Nat) : PyData := .tuple [nI x.1, nI x.2]
theorem right14 {x : Nat × Nat} (h : x ∈ all14) : G_law_right [] [nI x.1, nI x.2] = .val (.bool true) [] := by
  simp only [all14, List.mem_cons, List.not_mem_nil, or_false] at h
  rcases h with rfl | rfl | rfl | rfl | rfl | rfl | rfl | rfl | rfl | rfl | rfl | rfl | rfl | rfl
  · exact tru_of u1
  · exact tru_of u2
  · exact tru_of u3
  · exact tru_of u4
  · exact tru_of u5
  · exact tru_of u6
  · exact tru_of u7
  · exact tru_of u8
  · exact tru_of t3
  · exact tru_of t4
  · exact tru_of t5
  · exact tru_of t6
  · exact tru_of t7
  · exact tru_of t8

theorem law_true : ∀ ns : List Int, ns.length ≤ 63 → ∃ st, G_law [] [.list (ns.map PyData.int)] = .val (.bool true) st := by
  intro ns hns
  refine law_of ?_
  obtain ⟨s0, e0, g0⟩ := stream_spec ns (k := 0) (by omega)
  obtain ⟨f, s1, e1, u1, g1⟩ := take_nat g0 (m := 14) (by decide) (by decide)
  unfold G_law D_law
  simp -implicitDefEqProofs (disch := (first | omega | (simp only [List.length_map, List.length_append, List.length_range, List.length_cons, List.length_nil, List.length_set, List.length_take, List.length_drop, List.length_replicate, List.length_reverse] <;> omega) | assumption)) only [w_Seq, w_seqN, w_seqR, w_seqC, w_seqB, w_seqX, iteF_t, iteF_f, iteO_t, iteO_f, KoB_, KtB_, sg0_, sgS_, w_var, vr_v, vr_o, w_rdS, rdO_v, rdO_o, w_stb, stO1_v, stO1_o, ob_s, w_isOwn, isOwnO_o, K1_, K1_x, w_1, K2b_, K2b_x, K2_, K2_x, w_2, Kc2_, Kc2_x, Kc_, Kc_x, w_cons, KB_, KB_x, w_B, Ktup_, Ktup_x, w_tup, Klst_, Klst_x, w_lst, KT_, KT_x, w_T, KtAnd_, KtAnd_x, w_tAnd, KtOr_, KtOr_x, w_tOr, KtNot_, KtNot_x, w_tNot, KAnd_, KAnd_x, w_And, KOr_, KOr_x, w_Or, KNot_, KNot_x, w_Not, KIte_, KIte_x, w_Ite, Kch4_, Kch4_x, Kch3f_, Kch3_, Kch3_x, Kch2_, Kch2_x, Kch_, Kch_x, w_ch, partO_i, KPart_, KPart_x, w_Part, slO_, KSl3_, KSl3_x, KSl2_, KSl2_x, KSl_, KSl_x, w_Sl, KDo_, KDo_x, w_Do, KRet_, KRet_x, w_Ret, KIf_, KIf_x, w_If, putK_, w_putl, KSet_, KSet_x, w_Set, KAug_, KAug_x, w_Aug, augO_i, unpO_2, unpO_3, w_tg2, w_tg3, KUnp_, KUnp_x, w_Unp, chgK_, w_chg, chgO_o, appK_, w_appR, w_app1, KApp_, KApp_x, KApp0_, w_App, stIK_, w_stIR, stIO_i, w_put1, KStI2_, KStI2_x, KStI1_, KStI_, KStI_x, w_StI, KIt_, KIt_x, w_It, KRng1_, KRng1_x, w_Rng1, KRng2_, KRng2_x, w_Rng2, it2O_, it1O_, KIt2_, KIt2_x, w_It2, KIt1_, KIt1_x, w_It1, KFor_, KFor_x, w_For, KComp_, KComp_x, w_Comp, KCall_, KCall_x, w_Call, KCallI_, KCallI_x, KCallI0_, w_CallI, w_mkTup, w_mkLst, rdsK2_, rdsK_, w_rds, stbsK2_, stbsK_, w_stbs, cP0, cP1, cP2, cP3, cP4, cP5, cP6, cP7, cIO_o, cI1, cI2, cI3, cI4, cI5, cI6, cI7, w_stOt, stOO_o, w_retFl, retO_v, retO_o, w_finR, w_finN, finO_s, w_runF, rp0, rpS, asE_x, stF_x, finX_s, w_finX, ev_c, ev_fin, ev_fin0, ev_o1, ev_o2, ev_rdv, ev_rdn, ev_rdl, ev_nil, ev_stlv, ev_stln, ev_stll, ev_rds0, ev_stbv, ev_stbn, ev_stbs0, ev_asB, ev_NoPart, ev_Nx, ev_putv, ev_putn, ev_ofO, ev_itL, ev_itT, ev_tgN, ev_for0, ev_wipeD0, ev_wipeD, ev_restD0, ev_restD, ev_endC, ev_Yes, ev_asEv, ev_asEn, ev_stFv, ev_stFn, ev_mkAf, ev_mkAt, ev_stOf, ev_retFv, ev_retFn, ev_vI, ev_vB, ev_oSlL, ev_oSlT, ev_oRevL, ev_bListL, ev_bListT, ev_bTupL, ev_bTupT, ev_isNone0, ev_isNoneI, ev_isNoneL, ev_isNoneT, ev_isNoneB, ev_isNoneS, n_add, n_sub, n_mul, n_mod, n_div, n_shl1, n_shl, n_shr, n_pow, n_and, n_or, n_xor, n_lt, n_le, n_gt, n_ge, n_eq, n_ne, bt1, bt0, d_ltT, d_ltF, d_leT, d_leF, d_eqT, d_eqF, c_eq, c_ne, c_eqc, c_nec, c_isN, l_ix, t_ix, l_ix0, l_ix1, l_ix2, l_ix3, l_ix4, l_ix5, t_ix0, t_ix1, t_ix2, l_len, t_len, cut_to, cut_from, l_addL, t_addT, w_rng1, w_rng2, n_max2, n_min2, n_sum, b_all, b_any, b_all0, b_intB, b_intN, i_intI, i_boolI, i_intB, i_boolB, i_tupT, i_lstL, i_tupL, i_lstT, i_intT, i_intL, i_tupI, i_lstI, i_intN, i_tupN, i_lstN, i_intS, i_tupS, i_lstS, i_tupB, i_lstB, r_isN, r_notN, wp_nx, wp_ret, wl_nx, wl_cnt, wl_brk, wl_ret, List.map_cons, List.map_nil, List.cons_append, List.nil_append, List.set_cons_zero, List.set_cons_succ, List.length_cons, List.length_nil, List.length_map, List.length_append, List.length_range, List.length_range', List.length_set, Bool.not_true, Bool.not_false, Bool.true_and, Bool.false_and, Bool.and_true, Bool.and_false, decide_true, decide_false, Nat.reduceSub, Nat.reduceAdd, Option.getD_some, vo_v, no_v, Nat.one_mul, l_eq, l_ne, t_eq, t_eqc, l_eq0, l_ne0, z_eq0, z_ne0, lc_ne0, lc_eq0, n_inL, n_inT, n_niL, n_niT, n_inC, if_true, if_false, Option.isNone_none, Option.isNone_some, n_augA, n_augS, List.append_nil, n_tr, n_lr, KStar2_, KStarO_, KStar_, w_Star, items_l, items_t, st_vals, KComp2_, w_Comp2, n_mulA, t_mulA1, t_mulA, l_repC, KOrT_, w_OrT, truO_n, truO_0, truO_i, KUnpL_, w_UnpL, unpLO_2, unpLO_3, KItE_, w_ItE, itEO_l, itEO_t, itZO_l, itZO_t, KItZ_, w_ItZ, enumD_map, zipD_map, cT1, cT2, cT3, KCallT2_, KCallT_, w_CallT, ev_oNeg, i_strS, b_sortP, b_is, b_nis, KIs_, w_Is, isLO_l, t_ix3, t_ix4, ba1, ba2, ba3, ba4, t_rev, KExt_, KExt0_, w_Ext, w_extR, w_ext1, KTru_, w_Tru, truT_, truD_l, truD_t, g_get, isLO_d, KDComp_, w_DComp, e0, e1]
  rw [cmpM (fun n => (0, n)) e14]
  · simp -implicitDefEqProofs (disch := (first | omega | (simp only [List.length_map, List.length_append, List.length_range, List.length_cons, List.length_nil, List.length_set, List.length_take, List.length_drop, List.length_replicate, List.length_reverse] <;> omega) | assumption)) only [w_Seq, w_seqN, w_seqR, w_seqC, w_seqB, w_seqX, iteF_t, iteF_f, iteO_t, iteO_f, KoB_, KtB_, sg0_, sgS_, w_var, vr_v, vr_o, w_rdS, rdO_v, rdO_o, w_stb, stO1_v, stO1_o, ob_s, w_isOwn, isOwnO_o, K1_, K1_x, w_1, K2b_, K2b_x, K2_, K2_x, w_2, Kc2_, Kc2_x, Kc_, Kc_x, w_cons, KB_, KB_x, w_B, Ktup_, Ktup_x, w_tup, Klst_, Klst_x, w_lst, KT_, KT_x, w_T, KtAnd_, KtAnd_x, w_tAnd, KtOr_, KtOr_x, w_tOr, KtNot_, KtNot_x, w_tNot, KAnd_, KAnd_x, w_And, KOr_, KOr_x, w_Or, KNot_, KNot_x, w_Not, KIte_, KIte_x, w_Ite, Kch4_, Kch4_x, Kch3f_, Kch3_, Kch3_x, Kch2_, Kch2_x, Kch_, Kch_x, w_ch, partO_i, KPart_, KPart_x, w_Part, slO_, KSl3_, KSl3_x, KSl2_, KSl2_x, KSl_, KSl_x, w_Sl, KDo_, KDo_x, w_Do, KRet_, KRet_x, w_Ret, KIf_, KIf_x, w_If, putK_, w_putl, KSet_, KSet_x, w_Set, KAug_, KAug_x, w_Aug, augO_i, unpO_2, unpO_3, w_tg2, w_tg3, KUnp_, KUnp_x, w_Unp, chgK_, w_chg, chgO_o, appK_, w_appR, w_app1, KApp_, KApp_x, KApp0_, w_App, stIK_, w_stIR, stIO_i, w_put1, KStI2_, KStI2_x, KStI1_, KStI_, KStI_x, w_StI, KIt_, KIt_x, w_It, KRng1_, KRng1_x, w_Rng1, KRng2_, KRng2_x, w_Rng2, it2O_, it1O_, KIt2_, KIt2_x, w_It2, KIt1_, KIt1_x, w_It1, KFor_, KFor_x, w_For, KComp_, KComp_x, w_Comp, KCall_, KCall_x, w_Call, KCallI_, KCallI_x, KCallI0_, w_CallI, w_mkTup, w_mkLst, rdsK2_, rdsK_, w_rds, stbsK2_, stbsK_, w_stbs, cP0, cP1, cP2, cP3, cP4, cP5, cP6, cP7, cIO_o, cI1, cI2, cI3, cI4, cI5, cI6, cI7, w_stOt, stOO_o, w_retFl, retO_v, retO_o, w_finR, w_finN, finO_s, w_runF, rp0, rpS, asE_x, stF_x, finX_s, w_finX, ev_c, ev_fin, ev_fin0, ev_o1, ev_o2, ev_rdv, ev_rdn, ev_rdl, ev_nil, ev_stlv, ev_stln, ev_stll, ev_rds0, ev_stbv, ev_stbn, ev_stbs0, ev_asB, ev_NoPart, ev_Nx, ev_putv, ev_putn, ev_ofO, ev_itL, ev_itT, ev_tgN, ev_for0, ev_wipeD0, ev_wipeD, ev_restD0, ev_restD, ev_endC, ev_Yes, ev_asEv, ev_asEn, ev_stFv, ev_stFn, ev_mkAf, ev_mkAt, ev_stOf, ev_retFv, ev_retFn, ev_vI, ev_vB, ev_oSlL, ev_oSlT, ev_oRevL, ev_bListL, ev_bListT, ev_bTupL, ev_bTupT, ev_isNone0, ev_isNoneI, ev_isNoneL, ev_isNoneT, ev_isNoneB, ev_isNoneS, n_add, n_sub, n_mul, n_mod, n_div, n_shl1, n_shl, n_shr, n_pow, n_and, n_or, n_xor, n_lt, n_le, n_gt, n_ge, n_eq, n_ne, bt1, bt0, d_ltT, d_ltF, d_leT, d_leF, d_eqT, d_eqF, c_eq, c_ne, c_eqc, c_nec, c_isN, l_ix, t_ix, l_ix0, l_ix1, l_ix2, l_ix3, l_ix4, l_ix5, t_ix0, t_ix1, t_ix2, l_len, t_len, cut_to, cut_from, l_addL, t_addT, w_rng1, w_rng2, n_max2, n_min2, n_sum, b_all, b_any, b_all0, b_intB, b_intN, i_intI, i_boolI, i_intB, i_boolB, i_tupT, i_lstL, i_tupL, i_lstT, i_intT, i_intL, i_tupI, i_lstI, i_intN, i_tupN, i_lstN, i_intS, i_tupS, i_lstS, i_tupB, i_lstB, r_isN, r_notN, wp_nx, wp_ret, wl_nx, wl_cnt, wl_brk, wl_ret, List.map_cons, List.map_nil, List.cons_append, List.nil_append, List.set_cons_zero, List.set_cons_succ, List.length_cons, List.length_nil, List.length_map, List.length_append, List.length_range, List.length_range', List.length_set, Bool.not_true, Bool.not_false, Bool.true_and, Bool.false_and, Bool.and_true, Bool.and_false, decide_true, decide_false, Nat.reduceSub, Nat.reduceAdd, Option.getD_some, vo_v, no_v, Nat.one_mul, l_eq, l_ne, t_eq, t_eqc, l_eq0, l_ne0, z_eq0, z_ne0, lc_ne0, lc_eq0, n_inL, n_inT, n_niL, n_niT, n_inC, if_true, if_false, Option.isNone_none, Option.isNone_some, n_augA, n_augS, List.append_nil, n_tr, n_lr, KStar2_, KStarO_, KStar_, w_Star, items_l, items_t, st_vals, KComp2_, w_Comp2, n_mulA, t_mulA1, t_mulA, l_repC, KOrT_, w_OrT, truO_n, truO_0, truO_i, KUnpL_, w_UnpL, unpLO_2, unpLO_3, KItE_, w_ItE, itEO_l, itEO_t, itZO_l, itZO_t, KItZ_, w_ItZ, enumD_map, zipD_map, cT1, cT2, cT3, KCallT2_, KCallT_, w_CallT, ev_oNeg, i_strS, b_sortP, b_is, b_nis, KIs_, w_Is, isLO_l, t_ix3, t_ix4, ba1, ba2, ba3, ba4, t_rev, KExt_, KExt0_, w_Ext, w_extR, w_ext1, KTru_, w_Tru, truT_, truD_l, truD_t, g_get, isLO_d, KDComp_, w_DComp]
    rw [cmpM (fun n => (1, n)) e14]
    · simp -implicitDefEqProofs (disch := (first | omega | (simp only [List.length_map, List.length_append, List.length_range, List.length_cons, List.length_nil, List.length_set, List.length_take, List.length_drop, List.length_replicate, List.length_reverse] <;> omega) | assumption)) only [w_Seq, w_seqN, w_seqR, w_seqC, w_seqB, w_seqX, iteF_t, iteF_f, iteO_t, iteO_f, KoB_, KtB_, sg0_, sgS_, w_var, vr_v, vr_o, w_rdS, rdO_v, rdO_o, w_stb, stO1_v, stO1_o, ob_s, w_isOwn, isOwnO_o, K1_, K1_x, w_1, K2b_, K2b_x, K2_, K2_x, w_2, Kc2_, Kc2_x, Kc_, Kc_x, w_cons, KB_, KB_x, w_B, Ktup_, Ktup_x, w_tup, Klst_, Klst_x, w_lst, KT_, KT_x, w_T, KtAnd_, KtAnd_x, w_tAnd, KtOr_, KtOr_x, w_tOr, KtNot_, KtNot_x, w_tNot, KAnd_, KAnd_x, w_And, KOr_, KOr_x, w_Or, KNot_, KNot_x, w_Not, KIte_, KIte_x, w_Ite, Kch4_, Kch4_x, Kch3f_, Kch3_, Kch3_x, Kch2_, Kch2_x, Kch_, Kch_x, w_ch, partO_i, KPart_, KPart_x, w_Part, slO_, KSl3_, KSl3_x, KSl2_, KSl2_x, KSl_, KSl_x, w_Sl, KDo_, KDo_x, w_Do, KRet_, KRet_x, w_Ret, KIf_, KIf_x, w_If, putK_, w_putl, KSet_, KSet_x, w_Set, KAug_, KAug_x, w_Aug, augO_i, unpO_2, unpO_3, w_tg2, w_tg3, KUnp_, KUnp_x, w_Unp, chgK_, w_chg, chgO_o, appK_, w_appR, w_app1, KApp_, KApp_x, KApp0_, w_App, stIK_, w_stIR, stIO_i, w_put1, KStI2_, KStI2_x, KStI1_, KStI_, KStI_x, w_StI, KIt_, KIt_x, w_It, KRng1_, KRng1_x, w_Rng1, KRng2_, KRng2_x, w_Rng2, it2O_, it1O_, KIt2_, KIt2_x, w_It2, KIt1_, KIt1_x, w_It1, KFor_, KFor_x, w_For, KComp_, KComp_x, w_Comp, KCall_, KCall_x, w_Call, KCallI_, KCallI_x, KCallI0_, w_CallI, w_mkTup, w_mkLst, rdsK2_, rdsK_, w_rds, stbsK2_, stbsK_, w_stbs, cP0, cP1, cP2, cP3, cP4, cP5, cP6, cP7, cIO_o, cI1, cI2, cI3, cI4, cI5, cI6, cI7, w_stOt, stOO_o, w_retFl, retO_v, retO_o, w_finR, w_finN, finO_s, w_runF, rp0, rpS, asE_x, stF_x, finX_s, w_finX, ev_c, ev_fin, ev_fin0, ev_o1, ev_o2, ev_rdv, ev_rdn, ev_rdl, ev_nil, ev_stlv, ev_stln, ev_stll, ev_rds0, ev_stbv, ev_stbn, ev_stbs0, ev_asB, ev_NoPart, ev_Nx, ev_putv, ev_putn, ev_ofO, ev_itL, ev_itT, ev_tgN, ev_for0, ev_wipeD0, ev_wipeD, ev_restD0, ev_restD, ev_endC, ev_Yes, ev_asEv, ev_asEn, ev_stFv, ev_stFn, ev_mkAf, ev_mkAt, ev_stOf, ev_retFv, ev_retFn, ev_vI, ev_vB, ev_oSlL, ev_oSlT, ev_oRevL, ev_bListL, ev_bListT, ev_bTupL, ev_bTupT, ev_isNone0, ev_isNoneI, ev_isNoneL, ev_isNoneT, ev_isNoneB, ev_isNoneS, n_add, n_sub, n_mul, n_mod, n_div, n_shl1, n_shl, n_shr, n_pow, n_and, n_or, n_xor, n_lt, n_le, n_gt, n_ge, n_eq, n_ne, bt1, bt0, d_ltT, d_ltF, d_leT, d_leF, d_eqT, d_eqF, c_eq, c_ne, c_eqc, c_nec, c_isN, l_ix, t_ix, l_ix0, l_ix1, l_ix2, l_ix3, l_ix4, l_ix5, t_ix0, t_ix1, t_ix2, l_len, t_len, cut_to, cut_from, l_addL, t_addT, w_rng1, w_rng2, n_max2, n_min2, n_sum, b_all, b_any, b_all0, b_intB, b_intN, i_intI, i_boolI, i_intB, i_boolB, i_tupT, i_lstL, i_tupL, i_lstT, i_intT, i_intL, i_tupI, i_lstI, i_intN, i_tupN, i_lstN, i_intS, i_tupS, i_lstS, i_tupB, i_lstB, r_isN, r_notN, wp_nx, wp_ret, wl_nx, wl_cnt, wl_brk, wl_ret, List.map_cons, List.map_nil, List.cons_append, List.nil_append, List.set_cons_zero, List.set_cons_succ, List.length_cons, List.length_nil, List.length_map, List.length_append, List.length_range, List.length_range', List.length_set, Bool.not_true, Bool.not_false, Bool.true_and, Bool.false_and, Bool.and_true, Bool.and_false, decide_true, decide_false, Nat.reduceSub, Nat.reduceAdd, Option.getD_some, vo_v, no_v, Nat.one_mul, l_eq, l_ne, t_eq, t_eqc, l_eq0, l_ne0, z_eq0, z_ne0, lc_ne0, lc_eq0, n_inL, n_inT, n_niL, n_niT, n_inC, if_true, if_false, Option.isNone_none, Option.isNone_some, n_augA, n_augS, List.append_nil, n_tr, n_lr, KStar2_, KStarO_, KStar_, w_Star, items_l, items_t, st_vals, KComp2_, w_Comp2, n_mulA, t_mulA1, t_mulA, l_repC, KOrT_, w_OrT, truO_n, truO_0, truO_i, KUnpL_, w_UnpL, unpLO_2, unpLO_3, KItE_, w_ItE, itEO_l, itEO_t, itZO_l, itZO_t, KItZ_, w_ItZ, enumD_map, zipD_map, cT1, cT2, cT3, KCallT2_, KCallT_, w_CallT, ev_oNeg, i_strS, b_sortP, b_is, b_nis, KIs_, w_Is, isLO_l, t_ix3, t_ix4, ba1, ba2, ba3, ba4, t_rev, KExt_, KExt0_, w_Ext, w_extR, w_ext1, KTru_, w_Tru, truT_, truD_l, truD_t, g_get, isLO_d, KDComp_, w_DComp]
      rw [show oAdd (PyData.list (List.map e14 (List.map (fun n => (0, n)) (List.range' 1 8)))) (PyData.list (List.map e14 (List.map (fun n => (1, n)) (List.range' 3 6)))) = some (.new (all14.map e14)) by rfl]
      have hal : all14.length = 14 := rfl
      have hr : ∀ x ∈ all14, G_law_right [] [nI x.1, nI x.2] = .val (.bool true) [] := fun x h => right14 h
      generalize all14 = al at *
      simp -implicitDefEqProofs (disch := (first | omega | (simp only [List.length_map, List.length_append, List.length_range, List.length_cons, List.length_nil, List.length_set, List.length_take, List.length_drop, List.length_replicate, List.length_reverse] <;> omega) | assumption)) only [w_Seq, w_seqN, w_seqR, w_seqC, w_seqB, w_seqX, iteF_t, iteF_f, iteO_t, iteO_f, KoB_, KtB_, sg0_, sgS_, w_var, vr_v, vr_o, w_rdS, rdO_v, rdO_o, w_stb, stO1_v, stO1_o, ob_s, w_isOwn, isOwnO_o, K1_, K1_x, w_1, K2b_, K2b_x, K2_, K2_x, w_2, Kc2_, Kc2_x, Kc_, Kc_x, w_cons, KB_, KB_x, w_B, Ktup_, Ktup_x, w_tup, Klst_, Klst_x, w_lst, KT_, KT_x, w_T, KtAnd_, KtAnd_x, w_tAnd, KtOr_, KtOr_x, w_tOr, KtNot_, KtNot_x, w_tNot, KAnd_, KAnd_x, w_And, KOr_, KOr_x, w_Or, KNot_, KNot_x, w_Not, KIte_, KIte_x, w_Ite, Kch4_, Kch4_x, Kch3f_, Kch3_, Kch3_x, Kch2_, Kch2_x, Kch_, Kch_x, w_ch, partO_i, KPart_, KPart_x, w_Part, slO_, KSl3_, KSl3_x, KSl2_, KSl2_x, KSl_, KSl_x, w_Sl, KDo_, KDo_x, w_Do, KRet_, KRet_x, w_Ret, KIf_, KIf_x, w_If, putK_, w_putl, KSet_, KSet_x, w_Set, KAug_, KAug_x, w_Aug, augO_i, unpO_2, unpO_3, w_tg2, w_tg3, KUnp_, KUnp_x, w_Unp, chgK_, w_chg, chgO_o, appK_, w_appR, w_app1, KApp_, KApp_x, KApp0_, w_App, stIK_, w_stIR, stIO_i, w_put1, KStI2_, KStI2_x, KStI1_, KStI_, KStI_x, w_StI, KIt_, KIt_x, w_It, KRng1_, KRng1_x, w_Rng1, KRng2_, KRng2_x, w_Rng2, it2O_, it1O_, KIt2_, KIt2_x, w_It2, KIt1_, KIt1_x, w_It1, KFor_, KFor_x, w_For, KComp_, KComp_x, w_Comp, KCall_, KCall_x, w_Call, KCallI_, KCallI_x, KCallI0_, w_CallI, w_mkTup, w_mkLst, rdsK2_, rdsK_, w_rds, stbsK2_, stbsK_, w_stbs, cP0, cP1, cP2, cP3, cP4, cP5, cP6, cP7, cIO_o, cI1, cI2, cI3, cI4, cI5, cI6, cI7, w_stOt, stOO_o, w_retFl, retO_v, retO_o, w_finR, w_finN, finO_s, w_runF, rp0, rpS, asE_x, stF_x, finX_s, w_finX, ev_c, ev_fin, ev_fin0, ev_o1, ev_o2, ev_rdv, ev_rdn, ev_rdl, ev_nil, ev_stlv, ev_stln, ev_stll, ev_rds0, ev_stbv, ev_stbn, ev_stbs0, ev_asB, ev_NoPart, ev_Nx, ev_putv, ev_putn, ev_ofO, ev_itL, ev_itT, ev_tgN, ev_for0, ev_wipeD0, ev_wipeD, ev_restD0, ev_restD, ev_endC, ev_Yes, ev_asEv, ev_asEn, ev_stFv, ev_stFn, ev_mkAf, ev_mkAt, ev_stOf, ev_retFv, ev_retFn, ev_vI, ev_vB, ev_oSlL, ev_oSlT, ev_oRevL, ev_bListL, ev_bListT, ev_bTupL, ev_bTupT, ev_isNone0, ev_isNoneI, ev_isNoneL, ev_isNoneT, ev_isNoneB, ev_isNoneS, n_add, n_sub, n_mul, n_mod, n_div, n_shl1, n_shl, n_shr, n_pow, n_and, n_or, n_xor, n_lt, n_le, n_gt, n_ge, n_eq, n_ne, bt1, bt0, d_ltT, d_ltF, d_leT, d_leF, d_eqT, d_eqF, c_eq, c_ne, c_eqc, c_nec, c_isN, l_ix, t_ix, l_ix0, l_ix1, l_ix2, l_ix3, l_ix4, l_ix5, t_ix0, t_ix1, t_ix2, l_len, t_len, cut_to, cut_from, l_addL, t_addT, w_rng1, w_rng2, n_max2, n_min2, n_sum, b_all, b_any, b_all0, b_intB, b_intN, i_intI, i_boolI, i_intB, i_boolB, i_tupT, i_lstL, i_tupL, i_lstT, i_intT, i_intL, i_tupI, i_lstI, i_intN, i_tupN, i_lstN, i_intS, i_tupS, i_lstS, i_tupB, i_lstB, r_isN, r_notN, wp_nx, wp_ret, wl_nx, wl_cnt, wl_brk, wl_ret, List.map_cons, List.map_nil, List.cons_append, List.nil_append, List.set_cons_zero, List.set_cons_succ, List.length_cons, List.length_nil, List.length_map, List.length_append, List.length_range, List.length_range', List.length_set, Bool.not_true, Bool.not_false, Bool.true_and, Bool.false_and, Bool.and_true, Bool.and_false, decide_true, decide_false, Nat.reduceSub, Nat.reduceAdd, Option.getD_some, vo_v, no_v, Nat.one_mul, l_eq, l_ne, t_eq, t_eqc, l_eq0, l_ne0, z_eq0, z_ne0, lc_ne0, lc_eq0, n_inL, n_inT, n_niL, n_niT, n_inC, if_true, if_false, Option.isNone_none, Option.isNone_some, n_augA, n_augS, List.append_nil, n_tr, n_lr, KStar2_, KStarO_, KStar_, w_Star, items_l, items_t, st_vals, KComp2_, w_Comp2, n_mulA, t_mulA1, t_mulA, l_repC, KOrT_, w_OrT, truO_n, truO_0, truO_i, KUnpL_, w_UnpL, unpLO_2, unpLO_3, KItE_, w_ItE, itEO_l, itEO_t, itZO_l, itZO_t, KItZ_, w_ItZ, enumD_map, zipD_map, cT1, cT2, cT3, KCallT2_, KCallT_, w_CallT, ev_oNeg, i_strS, b_sortP, b_is, b_nis, KIs_, w_Is, isLO_l, t_ix3, t_ix4, ba1, ba2, ba3, ba4, t_rev, KExt_, KExt0_, w_Ext, w_extR, w_ext1, KTru_, w_Tru, truT_, truD_l, truD_t, g_get, isLO_d, KDComp_, w_DComp, hal, e0, e1]
      rw [show (al.map e14).drop f ++ (al.map e14).take f = (al.drop f ++ al.take f).map e14 by rw [List.map_append, List.map_drop, List.map_take]]
      have hlen : (al.drop f ++ al.take f).length = 14 := by rw [List.length_append, List.length_drop, List.length_take]; omega
      have hrow : ∀ x ∈ al.drop f ++ al.take f, G_law_right [] [nI x.1, nI x.2] = .val (.bool true) [] := fun x hx => by
        rcases List.mem_append.mp hx with h | h
        · exact hr x (List.mem_of_mem_drop h)
        · exact hr x (List.mem_of_mem_take h)
      generalize al.drop f ++ al.take f = row at *
      rw [show (row.map e14).drop 1 ++ (row.map e14).take 1 = (row.drop 1 ++ row.take 1).map e14 by rw [List.map_append, List.map_drop, List.map_take]]
      simp -implicitDefEqProofs (disch := (first | omega | (simp only [List.length_map, List.length_append, List.length_range, List.length_cons, List.length_nil, List.length_set, List.length_take, List.length_drop, List.length_replicate, List.length_reverse] <;> omega) | assumption)) only [w_Seq, w_seqN, w_seqR, w_seqC, w_seqB, w_seqX, iteF_t, iteF_f, iteO_t, iteO_f, KoB_, KtB_, sg0_, sgS_, w_var, vr_v, vr_o, w_rdS, rdO_v, rdO_o, w_stb, stO1_v, stO1_o, ob_s, w_isOwn, isOwnO_o, K1_, K1_x, w_1, K2b_, K2b_x, K2_, K2_x, w_2, Kc2_, Kc2_x, Kc_, Kc_x, w_cons, KB_, KB_x, w_B, Ktup_, Ktup_x, w_tup, Klst_, Klst_x, w_lst, KT_, KT_x, w_T, KtAnd_, KtAnd_x, w_tAnd, KtOr_, KtOr_x, w_tOr, KtNot_, KtNot_x, w_tNot, KAnd_, KAnd_x, w_And, KOr_, KOr_x, w_Or, KNot_, KNot_x, w_Not, KIte_, KIte_x, w_Ite, Kch4_, Kch4_x, Kch3f_, Kch3_, Kch3_x, Kch2_, Kch2_x, Kch_, Kch_x, w_ch, partO_i, KPart_, KPart_x, w_Part, slO_, KSl3_, KSl3_x, KSl2_, KSl2_x, KSl_, KSl_x, w_Sl, KDo_, KDo_x, w_Do, KRet_, KRet_x, w_Ret, KIf_, KIf_x, w_If, putK_, w_putl, KSet_, KSet_x, w_Set, KAug_, KAug_x, w_Aug, augO_i, unpO_2, unpO_3, w_tg2, w_tg3, KUnp_, KUnp_x, w_Unp, chgK_, w_chg, chgO_o, appK_, w_appR, w_app1, KApp_, KApp_x, KApp0_, w_App, stIK_, w_stIR, stIO_i, w_put1, KStI2_, KStI2_x, KStI1_, KStI_, KStI_x, w_StI, KIt_, KIt_x, w_It, KRng1_, KRng1_x, w_Rng1, KRng2_, KRng2_x, w_Rng2, it2O_, it1O_, KIt2_, KIt2_x, w_It2, KIt1_, KIt1_x, w_It1, KFor_, KFor_x, w_For, KComp_, KComp_x, w_Comp, KCall_, KCall_x, w_Call, KCallI_, KCallI_x, KCallI0_, w_CallI, w_mkTup, w_mkLst, rdsK2_, rdsK_, w_rds, stbsK2_, stbsK_, w_stbs, cP0, cP1, cP2, cP3, cP4, cP5, cP6, cP7, cIO_o, cI1, cI2, cI3, cI4, cI5, cI6, cI7, w_stOt, stOO_o, w_retFl, retO_v, retO_o, w_finR, w_finN, finO_s, w_runF, rp0, rpS, asE_x, stF_x, finX_s, w_finX, ev_c, ev_fin, ev_fin0, ev_o1, ev_o2, ev_rdv, ev_rdn, ev_rdl, ev_nil, ev_stlv, ev_stln, ev_stll, ev_rds0, ev_stbv, ev_stbn, ev_stbs0, ev_asB, ev_NoPart, ev_Nx, ev_putv, ev_putn, ev_ofO, ev_itL, ev_itT, ev_tgN, ev_for0, ev_wipeD0, ev_wipeD, ev_restD0, ev_restD, ev_endC, ev_Yes, ev_asEv, ev_asEn, ev_stFv, ev_stFn, ev_mkAf, ev_mkAt, ev_stOf, ev_retFv, ev_retFn, ev_vI, ev_vB, ev_oSlL, ev_oSlT, ev_oRevL, ev_bListL, ev_bListT, ev_bTupL, ev_bTupT, ev_isNone0, ev_isNoneI, ev_isNoneL, ev_isNoneT, ev_isNoneB, ev_isNoneS, n_add, n_sub, n_mul, n_mod, n_div, n_shl1, n_shl, n_shr, n_pow, n_and, n_or, n_xor, n_lt, n_le, n_gt, n_ge, n_eq, n_ne, bt1, bt0, d_ltT, d_ltF, d_leT, d_leF, d_eqT, d_eqF, c_eq, c_ne, c_eqc, c_nec, c_isN, l_ix, t_ix, l_ix0, l_ix1, l_ix2, l_ix3, l_ix4, l_ix5, t_ix0, t_ix1, t_ix2, l_len, t_len, cut_to, cut_from, l_addL, t_addT, w_rng1, w_rng2, n_max2, n_min2, n_sum, b_all, b_any, b_all0, b_intB, b_intN, i_intI, i_boolI, i_intB, i_boolB, i_tupT, i_lstL, i_tupL, i_lstT, i_intT, i_intL, i_tupI, i_lstI, i_intN, i_tupN, i_lstN, i_intS, i_tupS, i_lstS, i_tupB, i_lstB, r_isN, r_notN, wp_nx, wp_ret, wl_nx, wl_cnt, wl_brk, wl_ret, List.map_cons, List.map_nil, List.cons_append, List.nil_append, List.set_cons_zero, List.set_cons_succ, List.length_cons, List.length_nil, List.length_map, List.length_append, List.length_range, List.length_range', List.length_set, Bool.not_true, Bool.not_false, Bool.true_and, Bool.false_and, Bool.and_true, Bool.and_false, decide_true, decide_false, Nat.reduceSub, Nat.reduceAdd, Option.getD_some, vo_v, no_v, Nat.one_mul, l_eq, l_ne, t_eq, t_eqc, l_eq0, l_ne0, z_eq0, z_ne0, lc_ne0, lc_eq0, n_inL, n_inT, n_niL, n_niT, n_inC, if_true, if_false, Option.isNone_none, Option.isNone_some, n_augA, n_augS, List.append_nil, n_tr, n_lr, KStar2_, KStarO_, KStar_, w_Star, items_l, items_t, st_vals, KComp2_, w_Comp2, n_mulA, t_mulA1, t_mulA, l_repC, KOrT_, w_OrT, truO_n, truO_0, truO_i, KUnpL_, w_UnpL, unpLO_2, unpLO_3, KItE_, w_ItE, itEO_l, itEO_t, itZO_l, itZO_t, KItZ_, w_ItZ, enumD_map, zipD_map, cT1, cT2, cT3, KCallT2_, KCallT_, w_CallT, ev_oNeg, i_strS, b_sortP, b_is, b_nis, KIs_, w_Is, isLO_l, t_ix3, t_ix4, ba1, ba2, ba3, ba4, t_rev, KExt_, KExt0_, w_Ext, w_extR, w_ext1, KTru_, w_Tru, truT_, truD_l, truD_t, g_get, isLO_d, KDComp_, w_DComp]
      refine vo_fin (wp_seq _ (wp_find (fun dl => ∃ x4 x5, dl = [.val (.list (ns.map PyData.int)), .own false (al.map e14), .val (nI f), .val (.list (row.map e14)), x4, x5, .no]) (fun _ => True) ⟨_, _, rfl⟩ ?_) ?_)
      · rintro ⟨a, b⟩ hx _ ⟨x4, x5, rfl⟩
        have hm := List.of_mem_zip hx
        have ha := hrow a hm.1
        have hb := hrow b (by
          rcases List.mem_append.mp hm.2 with h | h
          · exact List.mem_of_mem_drop h
          · exact List.mem_of_mem_take h)
        refine ⟨_, w_tg2 _ _ _ _ _, ?_⟩
        simp -implicitDefEqProofs (disch := (first | omega | (simp only [List.length_map, List.length_append, List.length_range, List.length_cons, List.length_nil, List.length_set, List.length_take, List.length_drop, List.length_replicate, List.length_reverse] <;> omega) | assumption)) only [w_Seq, w_seqN, w_seqR, w_seqC, w_seqB, w_seqX, iteF_t, iteF_f, iteO_t, iteO_f, KoB_, KtB_, sg0_, sgS_, w_var, vr_v, vr_o, w_rdS, rdO_v, rdO_o, w_stb, stO1_v, stO1_o, ob_s, w_isOwn, isOwnO_o, K1_, K1_x, w_1, K2b_, K2b_x, K2_, K2_x, w_2, Kc2_, Kc2_x, Kc_, Kc_x, w_cons, KB_, KB_x, w_B, Ktup_, Ktup_x, w_tup, Klst_, Klst_x, w_lst, KT_, KT_x, w_T, KtAnd_, KtAnd_x, w_tAnd, KtOr_, KtOr_x, w_tOr, KtNot_, KtNot_x, w_tNot, KAnd_, KAnd_x, w_And, KOr_, KOr_x, w_Or, KNot_, KNot_x, w_Not, KIte_, KIte_x, w_Ite, Kch4_, Kch4_x, Kch3f_, Kch3_, Kch3_x, Kch2_, Kch2_x, Kch_, Kch_x, w_ch, partO_i, KPart_, KPart_x, w_Part, slO_, KSl3_, KSl3_x, KSl2_, KSl2_x, KSl_, KSl_x, w_Sl, KDo_, KDo_x, w_Do, KRet_, KRet_x, w_Ret, KIf_, KIf_x, w_If, putK_, w_putl, KSet_, KSet_x, w_Set, KAug_, KAug_x, w_Aug, augO_i, unpO_2, unpO_3, w_tg2, w_tg3, KUnp_, KUnp_x, w_Unp, chgK_, w_chg, chgO_o, appK_, w_appR, w_app1, KApp_, KApp_x, KApp0_, w_App, stIK_, w_stIR, stIO_i, w_put1, KStI2_, KStI2_x, KStI1_, KStI_, KStI_x, w_StI, KIt_, KIt_x, w_It, KRng1_, KRng1_x, w_Rng1, KRng2_, KRng2_x, w_Rng2, it2O_, it1O_, KIt2_, KIt2_x, w_It2, KIt1_, KIt1_x, w_It1, KFor_, KFor_x, w_For, KComp_, KComp_x, w_Comp, KCall_, KCall_x, w_Call, KCallI_, KCallI_x, KCallI0_, w_CallI, w_mkTup, w_mkLst, rdsK2_, rdsK_, w_rds, stbsK2_, stbsK_, w_stbs, cP0, cP1, cP2, cP3, cP4, cP5, cP6, cP7, cIO_o, cI1, cI2, cI3, cI4, cI5, cI6, cI7, w_stOt, stOO_o, w_retFl, retO_v, retO_o, w_finR, w_finN, finO_s, w_runF, rp0, rpS, asE_x, stF_x, finX_s, w_finX, ev_c, ev_fin, ev_fin0, ev_o1, ev_o2, ev_rdv, ev_rdn, ev_rdl, ev_nil, ev_stlv, ev_stln, ev_stll, ev_rds0, ev_stbv, ev_stbn, ev_stbs0, ev_asB, ev_NoPart, ev_Nx, ev_putv, ev_putn, ev_ofO, ev_itL, ev_itT, ev_tgN, ev_for0, ev_wipeD0, ev_wipeD, ev_restD0, ev_restD, ev_endC, ev_Yes, ev_asEv, ev_asEn, ev_stFv, ev_stFn, ev_mkAf, ev_mkAt, ev_stOf, ev_retFv, ev_retFn, ev_vI, ev_vB, ev_oSlL, ev_oSlT, ev_oRevL, ev_bListL, ev_bListT, ev_bTupL, ev_bTupT, ev_isNone0, ev_isNoneI, ev_isNoneL, ev_isNoneT, ev_isNoneB, ev_isNoneS, n_add, n_sub, n_mul, n_mod, n_div, n_shl1, n_shl, n_shr, n_pow, n_and, n_or, n_xor, n_lt, n_le, n_gt, n_ge, n_eq, n_ne, bt1, bt0, d_ltT, d_ltF, d_leT, d_leF, d_eqT, d_eqF, c_eq, c_ne, c_eqc, c_nec, c_isN, l_ix, t_ix, l_ix0, l_ix1, l_ix2, l_ix3, l_ix4, l_ix5, t_ix0, t_ix1, t_ix2, l_len, t_len, cut_to, cut_from, l_addL, t_addT, w_rng1, w_rng2, n_max2, n_min2, n_sum, b_all, b_any, b_all0, b_intB, b_intN, i_intI, i_boolI, i_intB, i_boolB, i_tupT, i_lstL, i_tupL, i_lstT, i_intT, i_intL, i_tupI, i_lstI, i_intN, i_tupN, i_lstN, i_intS, i_tupS, i_lstS, i_tupB, i_lstB, r_isN, r_notN, wp_nx, wp_ret, wl_nx, wl_cnt, wl_brk, wl_ret, List.map_cons, List.map_nil, List.cons_append, List.nil_append, List.set_cons_zero, List.set_cons_succ, List.length_cons, List.length_nil, List.length_map, List.length_append, List.length_range, List.length_range', List.length_set, Bool.not_true, Bool.not_false, Bool.true_and, Bool.false_and, Bool.and_true, Bool.and_false, decide_true, decide_false, Nat.reduceSub, Nat.reduceAdd, Option.getD_some, vo_v, no_v, Nat.one_mul, l_eq, l_ne, t_eq, t_eqc, l_eq0, l_ne0, z_eq0, z_ne0, lc_ne0, lc_eq0, n_inL, n_inT, n_niL, n_niT, n_inC, if_true, if_false, Option.isNone_none, Option.isNone_some, n_augA, n_augS, List.append_nil, n_tr, n_lr, KStar2_, KStarO_, KStar_, w_Star, items_l, items_t, st_vals, KComp2_, w_Comp2, n_mulA, t_mulA1, t_mulA, l_repC, KOrT_, w_OrT, truO_n, truO_0, truO_i, KUnpL_, w_UnpL, unpLO_2, unpLO_3, KItE_, w_ItE, itEO_l, itEO_t, itZO_l, itZO_t, KItZ_, w_ItZ, enumD_map, zipD_map, cT1, cT2, cT3, KCallT2_, KCallT_, w_CallT, ev_oNeg, i_strS, b_sortP, b_is, b_nis, KIs_, w_Is, isLO_l, t_ix3, t_ix4, ba1, ba2, ba3, ba4, t_rev, KExt_, KExt0_, w_Ext, w_extR, w_ext1, KTru_, w_Tru, truT_, truD_l, truD_t, g_get, isLO_d, KDComp_, w_DComp, ha, hb, e14]
        exact ⟨⟨_, _, rfl⟩, trivial⟩
      · rintro dl ⟨⟨x4, x5, rfl⟩, _⟩
        simp -implicitDefEqProofs (disch := (first | omega | (simp only [List.length_map, List.length_append, List.length_range, List.length_cons, List.length_nil, List.length_set, List.length_take, List.length_drop, List.length_replicate, List.length_reverse] <;> omega) | assumption)) only [w_Seq, w_seqN, w_seqR, w_seqC, w_seqB, w_seqX, iteF_t, iteF_f, iteO_t, iteO_f, KoB_, KtB_, sg0_, sgS_, w_var, vr_v, vr_o, w_rdS, rdO_v, rdO_o, w_stb, stO1_v, stO1_o, ob_s, w_isOwn, isOwnO_o, K1_, K1_x, w_1, K2b_, K2b_x, K2_, K2_x, w_2, Kc2_, Kc2_x, Kc_, Kc_x, w_cons, KB_, KB_x, w_B, Ktup_, Ktup_x, w_tup, Klst_, Klst_x, w_lst, KT_, KT_x, w_T, KtAnd_, KtAnd_x, w_tAnd, KtOr_, KtOr_x, w_tOr, KtNot_, KtNot_x, w_tNot, KAnd_, KAnd_x, w_And, KOr_, KOr_x, w_Or, KNot_, KNot_x, w_Not, KIte_, KIte_x, w_Ite, Kch4_, Kch4_x, Kch3f_, Kch3_, Kch3_x, Kch2_, Kch2_x, Kch_, Kch_x, w_ch, partO_i, KPart_, KPart_x, w_Part, slO_, KSl3_, KSl3_x, KSl2_, KSl2_x, KSl_, KSl_x, w_Sl, KDo_, KDo_x, w_Do, KRet_, KRet_x, w_Ret, KIf_, KIf_x, w_If, putK_, w_putl, KSet_, KSet_x, w_Set, KAug_, KAug_x, w_Aug, augO_i, unpO_2, unpO_3, w_tg2, w_tg3, KUnp_, KUnp_x, w_Unp, chgK_, w_chg, chgO_o, appK_, w_appR, w_app1, KApp_, KApp_x, KApp0_, w_App, stIK_, w_stIR, stIO_i, w_put1, KStI2_, KStI2_x, KStI1_, KStI_, KStI_x, w_StI, KIt_, KIt_x, w_It, KRng1_, KRng1_x, w_Rng1, KRng2_, KRng2_x, w_Rng2, it2O_, it1O_, KIt2_, KIt2_x, w_It2, KIt1_, KIt1_x, w_It1, KFor_, KFor_x, w_For, KComp_, KComp_x, w_Comp, KCall_, KCall_x, w_Call, KCallI_, KCallI_x, KCallI0_, w_CallI, w_mkTup, w_mkLst, rdsK2_, rdsK_, w_rds, stbsK2_, stbsK_, w_stbs, cP0, cP1, cP2, cP3, cP4, cP5, cP6, cP7, cIO_o, cI1, cI2, cI3, cI4, cI5, cI6, cI7, w_stOt, stOO_o, w_retFl, retO_v, retO_o, w_finR, w_finN, finO_s, w_runF, rp0, rpS, asE_x, stF_x, finX_s, w_finX, ev_c, ev_fin, ev_fin0, ev_o1, ev_o2, ev_rdv, ev_rdn, ev_rdl, ev_nil, ev_stlv, ev_stln, ev_stll, ev_rds0, ev_stbv, ev_stbn, ev_stbs0, ev_asB, ev_NoPart, ev_Nx, ev_putv, ev_putn, ev_ofO, ev_itL, ev_itT, ev_tgN, ev_for0, ev_wipeD0, ev_wipeD, ev_restD0, ev_restD, ev_endC, ev_Yes, ev_asEv, ev_asEn, ev_stFv, ev_stFn, ev_mkAf, ev_mkAt, ev_stOf, ev_retFv, ev_retFn, ev_vI, ev_vB, ev_oSlL, ev_oSlT, ev_oRevL, ev_bListL, ev_bListT, ev_bTupL, ev_bTupT, ev_isNone0, ev_isNoneI, ev_isNoneL, ev_isNoneT, ev_isNoneB, ev_isNoneS, n_add, n_sub, n_mul, n_mod, n_div, n_shl1, n_shl, n_shr, n_pow, n_and, n_or, n_xor, n_lt, n_le, n_gt, n_ge, n_eq, n_ne, bt1, bt0, d_ltT, d_ltF, d_leT, d_leF, d_eqT, d_eqF, c_eq, c_ne, c_eqc, c_nec, c_isN, l_ix, t_ix, l_ix0, l_ix1, l_ix2, l_ix3, l_ix4, l_ix5, t_ix0, t_ix1, t_ix2, l_len, t_len, cut_to, cut_from, l_addL, t_addT, w_rng1, w_rng2, n_max2, n_min2, n_sum, b_all, b_any, b_all0, b_intB, b_intN, i_intI, i_boolI, i_intB, i_boolB, i_tupT, i_lstL, i_tupL, i_lstT, i_intT, i_intL, i_tupI, i_lstI, i_intN, i_tupN, i_lstN, i_intS, i_tupS, i_lstS, i_tupB, i_lstB, r_isN, r_notN, wp_nx, wp_ret, wl_nx, wl_cnt, wl_brk, wl_ret, List.map_cons, List.map_nil, List.cons_append, List.nil_append, List.set_cons_zero, List.set_cons_succ, List.length_cons, List.length_nil, List.length_map, List.length_append, List.length_range, List.length_range', List.length_set, Bool.not_true, Bool.not_false, Bool.true_and, Bool.false_and, Bool.and_true, Bool.and_false, decide_true, decide_false, Nat.reduceSub, Nat.reduceAdd, Option.getD_some, vo_v, no_v, Nat.one_mul, l_eq, l_ne, t_eq, t_eqc, l_eq0, l_ne0, z_eq0, z_ne0, lc_ne0, lc_eq0, n_inL, n_inT, n_niL, n_niT, n_inC, if_true, if_false, Option.isNone_none, Option.isNone_some, n_augA, n_augS, List.append_nil, n_tr, n_lr, KStar2_, KStarO_, KStar_, w_Star, items_l, items_t, st_vals, KComp2_, w_Comp2, n_mulA, t_mulA1, t_mulA, l_repC, KOrT_, w_OrT, truO_n, truO_0, truO_i, KUnpL_, w_UnpL, unpLO_2, unpLO_3, KItE_, w_ItE, itEO_l, itEO_t, itZO_l, itZO_t, KItZ_, w_ItZ, enumD_map, zipD_map, cT1, cT2, cT3, KCallT2_, KCallT_, w_CallT, ev_oNeg, i_strS, b_sortP, b_is, b_nis, KIs_, w_Is, isLO_l, t_ix3, t_ix4, ba1, ba2, ba3, ba4, t_rev, KExt_, KExt0_, w_Ext, w_extR, w_ext1, KTru_, w_Tru, truT_, truD_l, truD_t, g_get, isLO_d, KDComp_, w_DComp]
    · intro k hk
      exact ⟨.val (e14 (1, k)), by simp -implicitDefEqProofs (disch := (first | omega | (simp only [List.length_map, List.length_append, List.length_range, List.length_cons, List.length_nil, List.length_set, List.length_take, List.length_drop, List.length_replicate, List.length_reverse] <;> omega) | assumption)) only [w_Seq, w_seqN, w_seqR, w_seqC, w_seqB, w_seqX, iteF_t, iteF_f, iteO_t, iteO_f, KoB_, KtB_, sg0_, sgS_, w_var, vr_v, vr_o, w_rdS, rdO_v, rdO_o, w_stb, stO1_v, stO1_o, ob_s, w_isOwn, isOwnO_o, K1_, K1_x, w_1, K2b_, K2b_x, K2_, K2_x, w_2, Kc2_, Kc2_x, Kc_, Kc_x, w_cons, KB_, KB_x, w_B, Ktup_, Ktup_x, w_tup, Klst_, Klst_x, w_lst, KT_, KT_x, w_T, KtAnd_, KtAnd_x, w_tAnd, KtOr_, KtOr_x, w_tOr, KtNot_, KtNot_x, w_tNot, KAnd_, KAnd_x, w_And, KOr_, KOr_x, w_Or, KNot_, KNot_x, w_Not, KIte_, KIte_x, w_Ite, Kch4_, Kch4_x, Kch3f_, Kch3_, Kch3_x, Kch2_, Kch2_x, Kch_, Kch_x, w_ch, partO_i, KPart_, KPart_x, w_Part, slO_, KSl3_, KSl3_x, KSl2_, KSl2_x, KSl_, KSl_x, w_Sl, KDo_, KDo_x, w_Do, KRet_, KRet_x, w_Ret, KIf_, KIf_x, w_If, putK_, w_putl, KSet_, KSet_x, w_Set, KAug_, KAug_x, w_Aug, augO_i, unpO_2, unpO_3, w_tg2, w_tg3, KUnp_, KUnp_x, w_Unp, chgK_, w_chg, chgO_o, appK_, w_appR, w_app1, KApp_, KApp_x, KApp0_, w_App, stIK_, w_stIR, stIO_i, w_put1, KStI2_, KStI2_x, KStI1_, KStI_, KStI_x, w_StI, KIt_, KIt_x, w_It, KRng1_, KRng1_x, w_Rng1, KRng2_, KRng2_x, w_Rng2, it2O_, it1O_, KIt2_, KIt2_x, w_It2, KIt1_, KIt1_x, w_It1, KFor_, KFor_x, w_For, KComp_, KComp_x, w_Comp, KCall_, KCall_x, w_Call, KCallI_, KCallI_x, KCallI0_, w_CallI, w_mkTup, w_mkLst, rdsK2_, rdsK_, w_rds, stbsK2_, stbsK_, w_stbs, cP0, cP1, cP2, cP3, cP4, cP5, cP6, cP7, cIO_o, cI1, cI2, cI3, cI4, cI5, cI6, cI7, w_stOt, stOO_o, w_retFl, retO_v, retO_o, w_finR, w_finN, finO_s, w_runF, rp0, rpS, asE_x, stF_x, finX_s, w_finX, ev_c, ev_fin, ev_fin0, ev_o1, ev_o2, ev_rdv, ev_rdn, ev_rdl, ev_nil, ev_stlv, ev_stln, ev_stll, ev_rds0, ev_stbv, ev_stbn, ev_stbs0, ev_asB, ev_NoPart, ev_Nx, ev_putv, ev_putn, ev_ofO, ev_itL, ev_itT, ev_tgN, ev_for0, ev_wipeD0, ev_wipeD, ev_restD0, ev_restD, ev_endC, ev_Yes, ev_asEv, ev_asEn, ev_stFv, ev_stFn, ev_mkAf, ev_mkAt, ev_stOf, ev_retFv, ev_retFn, ev_vI, ev_vB, ev_oSlL, ev_oSlT, ev_oRevL, ev_bListL, ev_bListT, ev_bTupL, ev_bTupT, ev_isNone0, ev_isNoneI, ev_isNoneL, ev_isNoneT, ev_isNoneB, ev_isNoneS, n_add, n_sub, n_mul, n_mod, n_div, n_shl1, n_shl, n_shr, n_pow, n_and, n_or, n_xor, n_lt, n_le, n_gt, n_ge, n_eq, n_ne, bt1, bt0, d_ltT, d_ltF, d_leT, d_leF, d_eqT, d_eqF, c_eq, c_ne, c_eqc, c_nec, c_isN, l_ix, t_ix, l_ix0, l_ix1, l_ix2, l_ix3, l_ix4, l_ix5, t_ix0, t_ix1, t_ix2, l_len, t_len, cut_to, cut_from, l_addL, t_addT, w_rng1, w_rng2, n_max2, n_min2, n_sum, b_all, b_any, b_all0, b_intB, b_intN, i_intI, i_boolI, i_intB, i_boolB, i_tupT, i_lstL, i_tupL, i_lstT, i_intT, i_intL, i_tupI, i_lstI, i_intN, i_tupN, i_lstN, i_intS, i_tupS, i_lstS, i_tupB, i_lstB, r_isN, r_notN, wp_nx, wp_ret, wl_nx, wl_cnt, wl_brk, wl_ret, List.map_cons, List.map_nil, List.cons_append, List.nil_append, List.set_cons_zero, List.set_cons_succ, List.length_cons, List.length_nil, List.length_map, List.length_append, List.length_range, List.length_range', List.length_set, Bool.not_true, Bool.not_false, Bool.true_and, Bool.false_and, Bool.and_true, Bool.and_false, decide_true, decide_false, Nat.reduceSub, Nat.reduceAdd, Option.getD_some, vo_v, no_v, Nat.one_mul, l_eq, l_ne, t_eq, t_eqc, l_eq0, l_ne0, z_eq0, z_ne0, lc_ne0, lc_eq0, n_inL, n_inT, n_niL, n_niT, n_inC, if_true, if_false, Option.isNone_none, Option.isNone_some, n_augA, n_augS, List.append_nil, n_tr, n_lr, KStar2_, KStarO_, KStar_, w_Star, items_l, items_t, st_vals, KComp2_, w_Comp2, n_mulA, t_mulA1, t_mulA, l_repC, KOrT_, w_OrT, truO_n, truO_0, truO_i, KUnpL_, w_UnpL, unpLO_2, unpLO_3, KItE_, w_ItE, itEO_l, itEO_t, itZO_l, itZO_t, KItZ_, w_ItZ, enumD_map, zipD_map, cT1, cT2, cT3, KCallT2_, KCallT_, w_CallT, ev_oNeg, i_strS, b_sortP, b_is, b_nis, KIs_, w_Is, isLO_l, t_ix3, t_ix4, ba1, ba2, ba3, ba4, t_rev, KExt_, KExt0_, w_Ext, w_extR, w_ext1, KTru_, w_Tru, truT_, truD_l, truD_t, g_get, isLO_d, KDComp_, w_DComp, e14], rfl⟩
  · intro k hk
    exact ⟨.val (e14 (0, k)), by simp -implicitDefEqProofs (disch := (first | omega | (simp only [List.length_map, List.length_append, List.length_range, List.length_cons, List.length_nil, List.length_set, List.length_take, List.length_drop, List.length_replicate, List.length_reverse] <;> omega) | assumption)) only [w_Seq, w_seqN, w_seqR, w_seqC, w_seqB, w_seqX, iteF_t, iteF_f, iteO_t, iteO_f, KoB_, KtB_, sg0_, sgS_, w_var, vr_v, vr_o, w_rdS, rdO_v, rdO_o, w_stb, stO1_v, stO1_o, ob_s, w_isOwn, isOwnO_o, K1_, K1_x, w_1, K2b_, K2b_x, K2_, K2_x, w_2, Kc2_, Kc2_x, Kc_, Kc_x, w_cons, KB_, KB_x, w_B, Ktup_, Ktup_x, w_tup, Klst_, Klst_x, w_lst, KT_, KT_x, w_T, KtAnd_, KtAnd_x, w_tAnd, KtOr_, KtOr_x, w_tOr, KtNot_, KtNot_x, w_tNot, KAnd_, KAnd_x, w_And, KOr_, KOr_x, w_Or, KNot_, KNot_x, w_Not, KIte_, KIte_x, w_Ite, Kch4_, Kch4_x, Kch3f_, Kch3_, Kch3_x, Kch2_, Kch2_x, Kch_, Kch_x, w_ch, partO_i, KPart_, KPart_x, w_Part, slO_, KSl3_, KSl3_x, KSl2_, KSl2_x, KSl_, KSl_x, w_Sl, KDo_, KDo_x, w_Do, KRet_, KRet_x, w_Ret, KIf_, KIf_x, w_If, putK_, w_putl, KSet_, KSet_x, w_Set, KAug_, KAug_x, w_Aug, augO_i, unpO_2, unpO_3, w_tg2, w_tg3, KUnp_, KUnp_x, w_Unp, chgK_, w_chg, chgO_o, appK_, w_appR, w_app1, KApp_, KApp_x, KApp0_, w_App, stIK_, w_stIR, stIO_i, w_put1, KStI2_, KStI2_x, KStI1_, KStI_, KStI_x, w_StI, KIt_, KIt_x, w_It, KRng1_, KRng1_x, w_Rng1, KRng2_, KRng2_x, w_Rng2, it2O_, it1O_, KIt2_, KIt2_x, w_It2, KIt1_, KIt1_x, w_It1, KFor_, KFor_x, w_For, KComp_, KComp_x, w_Comp, KCall_, KCall_x, w_Call, KCallI_, KCallI_x, KCallI0_, w_CallI, w_mkTup, w_mkLst, rdsK2_, rdsK_, w_rds, stbsK2_, stbsK_, w_stbs, cP0, cP1, cP2, cP3, cP4, cP5, cP6, cP7, cIO_o, cI1, cI2, cI3, cI4, cI5, cI6, cI7, w_stOt, stOO_o, w_retFl, retO_v, retO_o, w_finR, w_finN, finO_s, w_runF, rp0, rpS, asE_x, stF_x, finX_s, w_finX, ev_c, ev_fin, ev_fin0, ev_o1, ev_o2, ev_rdv, ev_rdn, ev_rdl, ev_nil, ev_stlv, ev_stln, ev_stll, ev_rds0, ev_stbv, ev_stbn, ev_stbs0, ev_asB, ev_NoPart, ev_Nx, ev_putv, ev_putn, ev_ofO, ev_itL, ev_itT, ev_tgN, ev_for0, ev_wipeD0, ev_wipeD, ev_restD0, ev_restD, ev_endC, ev_Yes, ev_asEv, ev_asEn, ev_stFv, ev_stFn, ev_mkAf, ev_mkAt, ev_stOf, ev_retFv, ev_retFn, ev_vI, ev_vB, ev_oSlL, ev_oSlT, ev_oRevL, ev_bListL, ev_bListT, ev_bTupL, ev_bTupT, ev_isNone0, ev_isNoneI, ev_isNoneL, ev_isNoneT, ev_isNoneB, ev_isNoneS, n_add, n_sub, n_mul, n_mod, n_div, n_shl1, n_shl, n_shr, n_pow, n_and, n_or, n_xor, n_lt, n_le, n_gt, n_ge, n_eq, n_ne, bt1, bt0, d_ltT, d_ltF, d_leT, d_leF, d_eqT, d_eqF, c_eq, c_ne, c_eqc, c_nec, c_isN, l_ix, t_ix, l_ix0, l_ix1, l_ix2, l_ix3, l_ix4, l_ix5, t_ix0, t_ix1, t_ix2, l_len, t_len, cut_to, cut_from, l_addL, t_addT, w_rng1, w_rng2, n_max2, n_min2, n_sum, b_all, b_any, b_all0, b_intB, b_intN, i_intI, i_boolI, i_intB, i_boolB, i_tupT, i_lstL, i_tupL, i_lstT, i_intT, i_intL, i_tupI, i_lstI, i_intN, i_tupN, i_lstN, i_intS, i_tupS, i_lstS, i_tupB, i_lstB, r_isN, r_notN, wp_nx, wp_ret, wl_nx, wl_cnt, wl_brk, wl_ret, List.map_cons, List.map_nil, List.cons_append, List.nil_append, List.set_cons_zero, List.set_cons_succ, List.length_cons, List.length_nil, List.length_map, List.length_append, List.length_range, List.length_range', List.length_set, Bool.not_true, Bool.not_false, Bool.true_and, Bool.false_and, Bool.and_true, Bool.and_false, decide_true, decide_false, Nat.reduceSub, Nat.reduceAdd, Option.getD_some, vo_v, no_v, Nat.one_mul, l_eq, l_ne, t_eq, t_eqc, l_eq0, l_ne0, z_eq0, z_ne0, lc_ne0, lc_eq0, n_inL, n_inT, n_niL, n_niT, n_inC, if_true, if_false, Option.isNone_none, Option.isNone_some, n_augA, n_augS, List.append_nil, n_tr, n_lr, KStar2_, KStarO_, KStar_, w_Star, items_l, items_t, st_vals, KComp2_, w_Comp2, n_mulA, t_mulA1, t_mulA, l_repC, KOrT_, w_OrT, truO_n, truO_0, truO_i, KUnpL_, w_UnpL, unpLO_2, unpLO_3, KItE_, w_ItE, itEO_l, itEO_t, itZO_l, itZO_t, KItZ_, w_ItZ, enumD_map, zipD_map, cT1, cT2, cT3, KCallT2_, KCallT_, w_CallT, ev_oNeg, i_strS, b_sortP, b_is, b_nis, KIs_, w_Is, isLO_l, t_ix3, t_ix4, ba1, ba2, ba3, ba4, t_rev, KExt_, KExt0_, w_Ext, w_extR, w_ext1, KTru_, w_Tru, truT_, truD_l, truD_t, g_get, isLO_d, KDComp_, w_DComp, e14], rfl⟩

structure Bl (mg : Str → Option Value) : Prop where
  abs : mg "abs" = none
  all : mg "all" = none
  bool : mg "bool" = none
  int : mg "int" = none
  isinstance : mg "isinstance" = none
  len : mg "len" = none
  list : mg "list" = none
  range : mg "range" = none
  tuple : mg "tuple" = none
  zip : mg "zip" = none
  c_FEWEST_NUMBERS : ∃ t, mg "FEWEST_NUMBERS" = some (.int 2 t)
  c_FEWEST_TWICE : ∃ t, mg "FEWEST_TWICE" = some (.int 3 t)
  c_MOST_NUMBERS : ∃ t, mg "MOST_NUMBERS" = some (.int 100 t)
  c_MOST_SPOTS : ∃ t, mg "MOST_SPOTS" = some (.int 8 t)
section
variable {P : Program} {w : World} {K : PySem.W.Frag} {mg : Str → Option Value} {base : Heap}
theorem ok_is_number {f : Addr} {fd : FuncData} (F : Fun K "is_number" "is_number" s_is_number f fd) (mf : mg "is_number" = some (.ref f)) (B : Bl mg)  : DefOk P w K mg base "is_number" 1 false 1 G_is_number := by
  refine ⟨⟨f, fd, ["thing"], fn_def F sc_is_number false (fb := D_is_number) (fun cdv A outer s H E hr => ?_), mf, F.kp, F.binds fun _ _ _ _ _ _ us hl => match us, hl with | [_], _ => rfl⟩⟩
  have tk := takes_of (X := cxOf (L2.CX P w) P w K mg base ["thing"] "is_number" (defScope s_is_number) f cdv A outer s H E) (E := E) rfl rfl rfl rfl
  have nd := sc_is_number.nd
  exact sb_one (ss_ret (se_and (se_isi rfl B.isinstance rfl B.int (by decide +kernel) (se_var 0)) (se_one (se_not (se_isi rfl B.isinstance rfl B.bool (by decide +kernel) (se_var 0))))))
theorem ok_is_between {f : Addr} {fd : FuncData} (F : Fun K "is_between" "is_between" s_is_between f fd) (mf : mg "is_between" = some (.ref f)) (B : Bl mg) (C_is_number : DefOk P w K mg base "is_number" 1 false 1 G_is_number) : DefOk P w K mg base "is_between" 2 false 3 G_is_between := by
  refine ⟨⟨f, fd, ["thing", "low", "high"], fn_def F sc_is_between false (fb := D_is_between) (fun cdv A outer s H E hr => ?_), mf, F.kp, F.binds fun _ _ _ _ _ _ us hl => match us, hl with | [_, _, _], _ => rfl⟩⟩
  have tk := takes_of (X := cxOf (L2.CX P w) P w K mg base ["thing", "low", "high"] "is_between" (defScope s_is_between) f cdv A outer s H E) (E := E) rfl rfl rfl rfl
  have nd := sc_is_between.nd
  exact sb_one (ss_ret (se_and (se_call tk (C_is_number.fnd hr) rfl (sa_cons (se_var 0) (sa_nil))) (se_one (se_ch op_le os_le op_le os_le (se_var 1) (se_var 0) (se_var 2)))))
theorem ok_is_table {f : Addr} {fd : FuncData} (F : Fun K "is_table" "is_table" s_is_table f fd) (mf : mg "is_table" = some (.ref f)) (B : Bl mg) (C_is_between : DefOk P w K mg base "is_between" 2 false 3 G_is_between) : DefOk P w K mg base "is_table" 3 false 3 G_is_table := by
  refine ⟨⟨f, fd, ["n", "k", "table"], fn_def F sc_is_table false (fb := D_is_table) (fun cdv A outer s H E hr => ?_), mf, F.kp, F.binds fun _ _ _ _ _ _ us hl => match us, hl with | [_, _, _], _ => rfl⟩⟩
  have tk := takes_of (X := cxOf (L2.CX P w) P w K mg base ["n", "k", "table", "thing"] "is_table" (defScope s_is_table) f cdv A outer s H E) (E := E) rfl rfl rfl rfl
  have nd := sc_is_table.nd
  exact sb_cons (ss_if (st_w (sw_or (st_not (st_val (se_isi rfl B.isinstance rfl B.tuple (by decide +kernel) (se_var 2)))) (sw_or1 (st_cmp (op_neD hr.units) os_ne (se_callB call_len cs_len rfl B.len (by decide +kernel) (sa_cons (se_var 2) (sa_nil))) (se_bin op_shl os_shl (se_int) (se_var 0)))))) (sb_one (ss_ret (se_bl))) (sb_nil)) (sb_one (ss_ret (se_callB (cr_all rfl) cs_all rfl B.all (by decide +kernel) (sa_cons (se_comp [("thing", 3)] rfl nd (si_seq (se_var 2)) (blkOk_by (N := ["n", "k", "table", "thing"]) (sc := defScope s_is_table) (by decide +kernel)) (fun _ => pg_name (i := 3) nd rfl (Or.inl rfl)) (sog_n 3) (by decide) (fun _ => sts_nil) (fun _ => se_or (se_cmp op_isN os_isN (se_var 3) (se_non)) (se_one (se_call takes0 (C_is_between.fnd hr) rfl (sa_cons (se_var 3) (sa_cons (se_int) (sa_cons (se_bin op_sub os_sub (se_var 1) (se_int)) (sa_nil)))))))) (sa_nil)))))
theorem ok_made_writing {f : Addr} {fd : FuncData} (F : Fun K "made_writing" "made_writing" s_made_writing f fd) (mf : mg "made_writing" = some (.ref f)) (B : Bl mg) (C_is_between : DefOk P w K mg base "is_between" 2 false 3 G_is_between) (C_is_table : DefOk P w K mg base "is_table" 3 false 3 G_is_table) : DefOk P w K mg base "made_writing" 4 false 3 G_made_writing := by
  refine ⟨⟨f, fd, ["n", "k", "table"], fn_def F sc_made_writing false (fb := D_made_writing) (fun cdv A outer s H E hr => ?_), mf, F.kp, F.binds fun _ _ _ _ _ _ us hl => match us, hl with | [_, _, _], _ => rfl⟩⟩
  have tk := takes_of (X := cxOf (L2.CX P w) P w K mg base ["n", "k", "table"] "made_writing" (defScope s_made_writing) f cdv A outer s H E) (E := E) rfl rfl rfl rfl
  have nd := sc_made_writing.nd
  exact sb_cons (ss_if (st_not (st_val (se_call tk (C_is_between.fnd hr) rfl (sa_cons (se_var 0) (sa_cons (se_int) (sa_cons (se_gi rfl B.c_MOST_SPOTS) (sa_nil))))))) (sb_one (ss_never)) (sb_nil)) (sb_cons (ss_if (st_not (st_val (se_call tk (C_is_between.fnd hr) rfl (sa_cons (se_var 1) (sa_cons (se_gi rfl B.c_FEWEST_NUMBERS) (sa_cons (se_gi rfl B.c_MOST_NUMBERS) (sa_nil))))))) (sb_one (ss_never)) (sb_nil)) (sb_cons (ss_if (st_not (st_val (se_call tk (C_is_table.fnd hr) rfl (sa_cons (se_var 0) (sa_cons (se_var 1) (sa_cons (se_var 2) (sa_nil))))))) (sb_one (ss_never)) (sb_nil)) (sb_one (ss_ret (se_tup (sa_cons (se_var 0) (sa_cons (se_var 1) (sa_cons (se_var 2) (sa_nil)))))))))
theorem ok_by_readings {f : Addr} {fd : FuncData} (F : Fun K "by_readings" "by_readings" s_by_readings f fd) (mf : mg "by_readings" = some (.ref f)) (B : Bl mg) (C_made_writing : DefOk P w K mg base "made_writing" 4 false 3 G_made_writing) : DefOk P w K mg base "by_readings" 5 false 2 G_by_readings := by
  refine ⟨⟨f, fd, ["n", "readings"], fn_def F sc_by_readings false (fb := D_by_readings) (fun cdv A outer s H E hr => ?_), mf, F.kp, F.binds fun _ _ _ _ _ _ us hl => match us, hl with | [_, _], _ => rfl⟩⟩
  have tk := takes_of (X := cxOf (L2.CX P w) P w K mg base ["n", "readings", "cuts"] "by_readings" (defScope s_by_readings) f cdv A outer s H E) (E := E) rfl rfl rfl rfl
  have nd := sc_by_readings.nd
  exact sb_one (ss_ret (se_call tk (C_made_writing.fnd hr) rfl (sa_cons (se_var 0) (sa_cons (se_bin op_addA os_add (se_var 0) (se_int)) (sa_cons (se_callTy call_tuple_of cs_tup rfl B.tuple (by decide +kernel) (sa_cons (se_comp [("cuts", 2)] rfl nd (si_rng1 rfl B.range (sa_cons (se_bin op_shl os_shl (se_int) (se_var 0)) (sa_nil))) (blkOk_by (N := ["n", "readings", "cuts"]) (sc := defScope s_by_readings) (by decide +kernel)) (fun _ => pg_name (i := 2) nd rfl (Or.inl rfl)) (sog_n 2) (by decide) (fun _ => sts_nil) (fun _ => se_dget1 (un65 hr) (se_var 1) (se_var 2))) (sa_nil))) (sa_nil))))))
theorem ok_unary {f : Addr} {fd : FuncData} (F : Fun K "unary" "unary" s_unary f fd) (mf : mg "unary" = some (.ref f)) (B : Bl mg) (C_is_between : DefOk P w K mg base "is_between" 2 false 3 G_is_between) (C_by_readings : DefOk P w K mg base "by_readings" 5 false 2 G_by_readings) : DefOk P w K mg base "unary" 6 false 1 G_unary := by
  refine ⟨⟨f, fd, ["n"], fn_def F sc_unary false (fb := D_unary) (fun cdv A outer s H E hr => ?_), mf, F.kp, F.binds fun _ _ _ _ _ _ us hl => match us, hl with | [_], _ => rfl⟩⟩
  have tk := takes_of (X := cxOf (L2.CX P w) P w K mg base ["n", "j"] "unary" (defScope s_unary) f cdv A outer s H E) (E := E) rfl rfl rfl rfl
  have nd := sc_unary.nd
  exact sb_cons (ss_if (st_not (st_val (se_call tk (C_is_between.fnd hr) rfl (sa_cons (se_var 0) (sa_cons (se_int) (sa_cons (se_gi rfl B.c_MOST_SPOTS) (sa_nil))))))) (sb_one (ss_never)) (sb_nil)) (sb_one (ss_ret (se_call tk (C_by_readings.fnd hr) rfl (sa_cons (se_var 0) (sa_cons (se_dcomp [("j", 1)] rfl nd (si_rng1 rfl B.range (sa_cons (se_bin op_addA os_add (se_var 0) (se_int)) (sa_nil))) (blkOk_by (N := ["n", "j"]) (sc := defScope s_unary) (by decide +kernel)) (fun _ => pg_name (i := 1) nd rfl (Or.inl rfl)) (sog_n 1) (by decide) (fun _ => sts_nil) (fun _ => se_bin op_sub os_sub (se_bin op_shl os_shl (se_int) (se_var 1)) (se_int)) (fun _ => se_var 1)) (sa_nil))))))
theorem ok_twice {f : Addr} {fd : FuncData} (F : Fun K "twice" "twice" s_twice f fd) (mf : mg "twice" = some (.ref f)) (B : Bl mg) (C_is_between : DefOk P w K mg base "is_between" 2 false 3 G_is_between) (C_by_readings : DefOk P w K mg base "by_readings" 5 false 2 G_by_readings) : DefOk P w K mg base "twice" 6 false 1 G_twice := by
  refine ⟨⟨f, fd, ["n"], fn_def F sc_twice false (fb := D_twice) (fun cdv A outer s H E hr => ?_), mf, F.kp, F.binds fun _ _ _ _ _ _ us hl => match us, hl with | [_], _ => rfl⟩⟩
  have tk := takes_of (X := cxOf (L2.CX P w) P w K mg base ["n", "full", "readings", "spot"] "twice" (defScope s_twice) f cdv A outer s H E) (E := E) rfl rfl rfl rfl
  have nd := sc_twice.nd
  exact sb_cons (ss_if (st_not (st_val (se_call tk (C_is_between.fnd hr) rfl (sa_cons (se_var 0) (sa_cons (se_gi rfl B.c_FEWEST_TWICE) (sa_cons (se_gi rfl B.c_MOST_SPOTS) (sa_nil))))))) (sb_one (ss_never)) (sb_nil)) (sb_cons (ss_set 1 nd rfl (Or.inl rfl) (se_bin op_sub os_sub (se_bin op_shl os_shl (se_int) (se_var 0)) (se_int))) (sb_cons (ss_disp 2 nd rfl (Or.inl rfl) (sp_cons (se_int) (se_int) (sp_cons (se_var 1) (se_int) (sp_nil)))) (sb_cons (ss_for PassesOwn.leaving rfl (si_rng1 rfl B.range (sa_cons (se_var 0) (sa_nil))) (pg_name (i := 3) nd rfl (Or.inl rfl)) (sog_n 3) (sb_cons (ss_putD 2 (un65 hr) (se_bin op_addA os_add (se_var 3) (se_int)) (se_bin op_shl os_shl (se_int) (se_var 3))) (sb_one (ss_putD 2 (un65 hr) (se_bin op_addA os_add (se_var 3) (se_int)) (se_bin op_sub os_sub (se_var 1) (se_bin op_shl os_shl (se_int) (se_var 3))))))) (sb_one (ss_ret (se_call tk (C_by_readings.fnd hr) rfl (sa_cons (se_var 0) (sa_cons (se_frz 2) (sa_nil)))))))))
theorem ok_law_stream {f : Addr} {fd : FuncData} (F : Fun K "_law_stream" "_law_stream" s_law_stream f fd) (mf : mg "_law_stream" = some (.ref f)) (B : Bl mg)  : DefOk P w K mg base "_law_stream" 1 false 2 G_law_stream := by
  refine ⟨⟨f, fd, ["_law_script", "_law_k"], fn_def F sc_law_stream false (fb := D_law_stream) (fun cdv A outer s H E hr => ?_), mf, F.kp, F.binds fun _ _ _ _ _ _ us hl => match us, hl with | [_, _], _ => rfl⟩⟩
  have tk := takes_of (X := cxOf (L2.CX P w) P w K mg base ["_law_script", "_law_k", "_law_cell", "_law_mixed"] "_law_stream" (defScope s_law_stream) f cdv A outer s H E) (E := E) rfl rfl rfl rfl
  have nd := sc_law_stream.nd
  exact sb_cons (ss_if (st_cmp op_lt os_lt (se_var 1) (se_callB call_len cs_len rfl B.len (by decide +kernel) (sa_cons (se_var 0) (sa_nil)))) (sb_cons (ss_set 2 nd rfl (Or.inl rfl) (se_callB call_abs cs_abs rfl B.abs (by decide +kernel) (sa_cons (se_ix ix_seq os_ix (se_var 0) (se_var 1)) (sa_nil)))) (sb_cons (ss_set 3 nd rfl (Or.inl rfl) (se_bin op_addA os_add (se_bin op_addA os_add (se_bin op_mod os_mod (se_var 2) (se_int)) (se_bin op_mul os_mul (se_var 1) (se_var 1))) (se_int))) (sb_cons (ss_if (st_cmp op_lt os_lt (se_var 2) (se_bin op_pow os_pow (se_int) (se_int))) (sb_one (ss_set 2 nd rfl (Or.inl rfl) (se_int))) (sb_nil)) (sb_one (ss_ret (se_lst (sa_cons (se_var 2) (sa_cons (se_var 3) (sa_nil))))))))) (sb_nil)) (sb_one (ss_ret (se_lst (sa_cons (se_int) (sa_cons (se_bin op_addA os_add (se_bin op_mul os_mul (se_var 1) (se_var 1)) (se_int)) (sa_nil))))))
theorem ok_law_take {f : Addr} {fd : FuncData} (F : Fun K "_law_take" "_law_take" s_law_take f fd) (mf : mg "_law_take" = some (.ref f)) (B : Bl mg)  : DefOk P w K mg base "_law_take" 1 true 2 G_law_take := by
  refine ⟨⟨f, fd, ["_law_stream_here", "_law_most"], fn_def F sc_law_take true (fb := D_law_take) (fun cdv A outer s H E hr => ?_), mf, F.kp, F.binds fun _ _ _ _ _ _ us hl => match us, hl with | [_, _], _ => rfl⟩⟩
  have tk := takes_of (X := cxOf (L2.CX P w) P w K mg base ["_law_stream_here", "_law_most", "_law_digit"] "_law_take" (defScope s_law_take) f cdv A outer s H E) (E := E) rfl rfl rfl rfl
  have nd := sc_law_take.nd
  exact sb_cons (ss_if (st_cmp (op_eqD hr.units) os_eq (se_ix ix_seq os_ix (se_var 0) (se_int)) (se_int)) (sb_cons (ss_stI 0 (se_bin op_mod os_mod (se_bin op_addA os_add (se_bin op_mul os_mul (se_ix ix_seq os_ix (se_var 0) (se_int)) (se_int)) (se_int)) (se_int)) (se_int)) (sb_one (ss_ret (se_bin op_mod os_mod (se_bin op_mod os_mod (se_bin op_mul os_mul (se_ix ix_seq os_ix (se_var 0) (se_int)) (se_ix ix_seq os_ix (se_var 0) (se_int))) (se_int)) (se_var 1))))) (sb_nil)) (sb_cons (ss_set 2 nd rfl (Or.inl rfl) (se_bin op_mod os_mod (se_ix ix_seq os_ix (se_var 0) (se_int)) (se_var 1))) (sb_cons (ss_stI 0 (se_bin op_fdiv os_div (se_ix ix_seq os_ix (se_var 0) (se_int)) (se_var 1)) (se_int)) (sb_one (ss_ret (se_var 2)))))
theorem ok_law_whole {f : Addr} {fd : FuncData} (F : Fun K "_law_whole" "_law_whole" s_law_whole f fd) (mf : mg "_law_whole" = some (.ref f)) (B : Bl mg)  : DefOk P w K mg base "_law_whole" 1 false 1 G_law_whole := by
  refine ⟨⟨f, fd, ["_law_found"], fn_def F sc_law_whole false (fb := D_law_whole) (fun cdv A outer s H E hr => ?_), mf, F.kp, F.binds fun _ _ _ _ _ _ us hl => match us, hl with | [_], _ => rfl⟩⟩
  have tk := takes_of (X := cxOf (L2.CX P w) P w K mg base ["_law_found"] "_law_whole" (defScope s_law_whole) f cdv A outer s H E) (E := E) rfl rfl rfl rfl
  have nd := sc_law_whole.nd
  exact sb_one (ss_ret (se_and (se_isi rfl B.isinstance rfl B.int (by decide +kernel) (se_var 0)) (se_one (se_not (se_isi rfl B.isinstance rfl B.bool (by decide +kernel) (se_var 0))))))
theorem ok_law_is {f : Addr} {fd : FuncData} (F : Fun K "_law_is" "_law_is" s_law_is f fd) (mf : mg "_law_is" = some (.ref f)) (B : Bl mg) (C_law_whole : DefOk P w K mg base "_law_whole" 1 false 1 G_law_whole) : DefOk P w K mg base "_law_is" 2 false 4 G_law_is := by
  refine ⟨⟨f, fd, ["_law_found", "_law_n", "_law_k", "_law_table"], fn_def F sc_law_is false (fb := D_law_is) (fun cdv A outer s H E hr => ?_), mf, F.kp, F.binds fun _ _ _ _ _ _ us hl => match us, hl with | [_, _, _, _], _ => rfl⟩⟩
  have tk := takes_of (X := cxOf (L2.CX P w) P w K mg base ["_law_found", "_law_n", "_law_k", "_law_table", "_law_some", "_law_one"] "_law_is" (defScope s_law_is) f cdv A outer s H E) (E := E) rfl rfl rfl rfl
  have nd := sc_law_is.nd
  exact sb_cons (ss_if (st_w (sw_or (st_not (st_val (se_isi rfl B.isinstance rfl B.tuple (by decide +kernel) (se_var 0)))) (sw_or (st_cmp (op_neD hr.units) os_ne (se_callB call_len cs_len rfl B.len (by decide +kernel) (sa_cons (se_var 0) (sa_nil))) (se_int)) (sw_or1 (st_not (st_val (se_isi rfl B.isinstance rfl B.tuple (by decide +kernel) (se_ix ix_seq os_ix (se_var 0) (se_int))))))))) (sb_one (ss_ret (se_bl))) (sb_nil)) (sb_cons (ss_comp 4 [("_law_one", 5)] rfl nd rfl rfl (sw_true rfl rfl rfl (by decide +kernel)) (si_seq (se_ix ix_seq os_ix (se_var 0) (se_int))) (blkOk_by (N := ["_law_found", "_law_n", "_law_k", "_law_table", "_law_some", "_law_one"]) (sc := defScope s_law_is) (by decide +kernel)) (fun _ => pg_name (i := 5) nd rfl (Or.inl rfl)) (sog_n 5) (by decide) (fun _ => sts_one (st_cmp op_notN os_notN (se_var 5) (se_non))) (fun _ => se_var 5)) (sb_cons (ss_if (st_cmp (op_neD hr.units) os_ne (se_comp [("_law_one", 5)] rfl nd (si_seq (se_bin op_addA os_add (se_lst (sa_cons (se_ix ix_seq os_ix (se_var 0) (se_int)) (sa_cons (se_ix ix_seq os_ix (se_var 0) (se_int)) (sa_nil)))) (se_var 4))) (blkOk_by (N := ["_law_found", "_law_n", "_law_k", "_law_table", "_law_some", "_law_one"]) (sc := defScope s_law_is) (by decide +kernel)) (fun _ => pg_name (i := 5) nd rfl (Or.inl rfl)) (sog_n 5) (by decide) (fun _ => sts_one (st_not (st_val (se_call takes0 (C_law_whole.fnd hr) rfl (sa_cons (se_var 5) (sa_nil)))))) (fun _ => se_var 5)) (se_lst (sa_nil))) (sb_one (ss_ret (se_bl))) (sb_nil)) (sb_one (ss_ret (se_cmp (op_eqD hr.units) os_eq (se_var 0) (se_tup (sa_cons (se_var 1) (sa_cons (se_var 2) (sa_cons (se_callTy call_tuple_of cs_tup rfl B.tuple (by decide +kernel) (sa_cons (se_var 3) (sa_nil))) (sa_nil))))))))))
theorem ok_law_unary {f : Addr} {fd : FuncData} (F : Fun K "_law_unary" "_law_unary" s_law_unary f fd) (mf : mg "_law_unary" = some (.ref f)) (B : Bl mg)  : DefOk P w K mg base "_law_unary" 1 false 1 G_law_unary := by
  refine ⟨⟨f, fd, ["_law_n"], fn_def F sc_law_unary false (fb := D_law_unary) (fun cdv A outer s H E hr => ?_), mf, F.kp, F.binds fun _ _ _ _ _ _ us hl => match us, hl with | [_], _ => rfl⟩⟩
  have tk := takes_of (X := cxOf (L2.CX P w) P w K mg base ["_law_n", "_law_table", "_law_cuts", "_law_some", "_law_spot"] "_law_unary" (defScope s_law_unary) f cdv A outer s H E) (E := E) rfl rfl rfl rfl
  have nd := sc_law_unary.nd
  exact sb_cons (ss_set 1 nd rfl (Or.inl rfl) (se_lst (sa_nil))) (sb_cons (ss_for PassesOwn.leaving rfl (si_rng1 rfl B.range (sa_cons (se_bin op_shl os_shl (se_int) (se_var 0)) (sa_nil))) (pg_name (i := 2) nd rfl (Or.inr rfl)) (sog_n 2) (sb_cons (ss_comp 3 [("_law_spot", 4)] rfl nd rfl rfl (sw_true rfl rfl rfl (by decide +kernel)) (si_rng1 rfl B.range (sa_cons (se_var 0) (sa_nil))) (blkOk_by (N := ["_law_n", "_law_table", "_law_cuts", "_law_some", "_law_spot"]) (sc := defScope s_law_unary) (by decide +kernel)) (fun _ => pg_name (i := 4) nd rfl (Or.inl rfl)) (sog_n 4) (by decide) (fun _ => sts_one (st_cmp (op_eqD hr.units) os_eq (se_bin op_and os_and (se_bin op_shr os_shr (se_var 2) (se_var 4)) (se_int)) (se_int))) (fun _ => se_var 4)) (sb_one (ss_app 1 (se_ix ix_seq os_ix (se_lst (sa_cons (se_non) (sa_cons (se_callB call_len cs_len rfl B.len (by decide +kernel) (sa_cons (se_var 3) (sa_nil))) (sa_nil)))) (se_callTy call_int1 cs_int rfl B.int (by decide +kernel) (sa_cons (se_cmp (op_eqD hr.units) os_eq (se_var 3) (se_listR rfl rfl B.list rfl B.range (se_callB call_len cs_len rfl B.len (by decide +kernel) (sa_cons (se_var 3) (sa_nil))))) (sa_nil)))))))) (sb_one (ss_ret (se_var 1))))
theorem ok_law_twice {f : Addr} {fd : FuncData} (F : Fun K "_law_twice" "_law_twice" s_law_twice f fd) (mf : mg "_law_twice" = some (.ref f)) (B : Bl mg)  : DefOk P w K mg base "_law_twice" 1 false 1 G_law_twice := by
  refine ⟨⟨f, fd, ["_law_n"], fn_def F sc_law_twice false (fb := D_law_twice) (fun cdv A outer s H E hr => ?_), mf, F.kp, F.binds fun _ _ _ _ _ _ us hl => match us, hl with | [_], _ => rfl⟩⟩
  have tk := takes_of (X := cxOf (L2.CX P w) P w K mg base ["_law_n", "_law_table", "_law_cuts", "_law_some", "_law_whole_here", "_law_number", "_law_spot"] "_law_twice" (defScope s_law_twice) f cdv A outer s H E) (E := E) rfl rfl rfl rfl
  have nd := sc_law_twice.nd
  exact sb_cons (ss_set 1 nd rfl (Or.inl rfl) (se_lst (sa_nil))) (sb_cons (ss_for PassesOwn.leaving rfl (si_rng1 rfl B.range (sa_cons (se_bin op_shl os_shl (se_int) (se_var 0)) (sa_nil))) (pg_name (i := 2) nd rfl (Or.inr rfl)) (sog_n 2) (sb_cons (ss_set 3 nd rfl (Or.inr rfl) (se_comp [("_law_spot", 6)] rfl nd (si_rng1 rfl B.range (sa_cons (se_var 0) (sa_nil))) (blkOk_by (N := ["_law_n", "_law_table", "_law_cuts", "_law_some", "_law_whole_here", "_law_number", "_law_spot"]) (sc := defScope s_law_twice) (by decide +kernel)) (fun _ => pg_name (i := 6) nd rfl (Or.inl rfl)) (sog_n 6) (by decide) (fun _ => sts_one (st_cmp (op_eqD hr.units) os_eq (se_bin op_and os_and (se_bin op_shr os_shr (se_var 2) (se_var 6)) (se_int)) (se_int))) (fun _ => se_var 6))) (sb_cons (ss_comp 4 [("_law_spot", 6)] rfl nd rfl rfl (sw_true rfl rfl rfl (by decide +kernel)) (si_rng1 rfl B.range (sa_cons (se_var 0) (sa_nil))) (blkOk_by (N := ["_law_n", "_law_table", "_law_cuts", "_law_some", "_law_whole_here", "_law_number", "_law_spot"]) (sc := defScope s_law_twice) (by decide +kernel)) (fun _ => pg_name (i := 6) nd rfl (Or.inl rfl)) (sog_n 6) (by decide) (fun _ => sts_one (st_cmp op_notIn_seq (os_in (neg := true)) (se_var 6) (se_var 3))) (fun _ => se_var 6)) (sb_cons (ss_set 5 nd rfl (Or.inl rfl) (se_non)) (sb_cons (ss_if (st_w (sw_or (st_cmp (op_eqD hr.units) os_eq (se_var 3) (se_lst (sa_nil))) (sw_or1 (st_cmp (op_eqD hr.units) os_eq (se_var 4) (se_lst (sa_nil)))))) (sb_one (ss_set 5 nd rfl (Or.inl rfl) (se_int))) (sb_one (ss_if (st_cmp (op_eqD hr.units) os_eq (se_callB call_len cs_len rfl B.len (by decide +kernel) (sa_cons (se_var 3) (sa_nil))) (se_int)) (sb_one (ss_set 5 nd rfl (Or.inl rfl) (se_bin op_addA os_add (se_ix ix_seq os_ix (se_var 3) (se_int)) (se_int)))) (sb_one (ss_if (st_cmp (op_eqD hr.units) os_eq (se_callB call_len cs_len rfl B.len (by decide +kernel) (sa_cons (se_var 4) (sa_nil))) (se_int)) (sb_one (ss_set 5 nd rfl (Or.inl rfl) (se_bin op_addA os_add (se_ix ix_seq os_ix (se_var 4) (se_int)) (se_int)))) (sb_nil)))))) (sb_one (ss_app 1 (se_var 5)))))))) (sb_one (ss_ret (se_var 1))))
theorem ok_law_right {f : Addr} {fd : FuncData} (F : Fun K "_law_right" "_law_right" s_law_right f fd) (mf : mg "_law_right" = some (.ref f)) (B : Bl mg) (C_law_is : DefOk P w K mg base "_law_is" 2 false 4 G_law_is) (C_law_unary : DefOk P w K mg base "_law_unary" 1 false 1 G_law_unary) (C_unary : DefOk P w K mg base "unary" 6 false 1 G_unary) (C_law_twice : DefOk P w K mg base "_law_twice" 1 false 1 G_law_twice) (C_twice : DefOk P w K mg base "twice" 6 false 1 G_twice) : DefOk P w K mg base "_law_right" 7 false 2 G_law_right := by
  refine ⟨⟨f, fd, ["_law_way", "_law_n"], fn_def F sc_law_right false (fb := D_law_right) (fun cdv A outer s H E hr => ?_), mf, F.kp, F.binds fun _ _ _ _ _ _ us hl => match us, hl with | [_, _], _ => rfl⟩⟩
  have tk := takes_of (X := cxOf (L2.CX P w) P w K mg base ["_law_way", "_law_n"] "_law_right" (defScope s_law_right) f cdv A outer s H E) (E := E) rfl rfl rfl rfl
  have nd := sc_law_right.nd
  exact sb_cons (ss_if (st_cmp (op_eqD hr.units) os_eq (se_var 0) (se_int)) (sb_one (ss_ret (se_call tk (C_law_is.fnd hr) rfl (sa_cons (se_call tk (C_unary.fnd hr) rfl (sa_cons (se_var 1) (sa_nil))) (sa_cons (se_var 1) (sa_cons (se_bin op_addA os_add (se_var 1) (se_int)) (sa_cons (se_call tk (C_law_unary.fnd hr) rfl (sa_cons (se_var 1) (sa_nil))) (sa_nil)))))))) (sb_nil)) (sb_one (ss_ret (se_call tk (C_law_is.fnd hr) rfl (sa_cons (se_call tk (C_twice.fnd hr) rfl (sa_cons (se_var 1) (sa_nil))) (sa_cons (se_var 1) (sa_cons (se_bin op_addA os_add (se_var 1) (se_int)) (sa_cons (se_call tk (C_law_twice.fnd hr) rfl (sa_cons (se_var 1) (sa_nil))) (sa_nil))))))))
theorem ok_law_fn {f : Addr} {fd : FuncData} (F : Fun K "law" "law" s_law f fd) (B : Bl mg) (C_law_take : DefOk P w K mg base "_law_take" 1 true 2 G_law_take) (C_law_stream : DefOk P w K mg base "_law_stream" 1 false 2 G_law_stream) (C_law_right : DefOk P w K mg base "_law_right" 7 false 2 G_law_right) : FnOk P w K mg base (L2.CX P w) 8 f fd ["_law_script"] (spD K mg false 1 G_law) := by
  refine fn_def F sc_law false (fb := D_law) (fun cdv A outer s H E hr => ?_)
  have tk := takes_of (X := cxOf (L2.CX P w) P w K mg base ["_law_script", "_law_all_of_them", "_law_first", "_law_row", "_law_one", "_law_other", "_law_n"] "law" (defScope s_law) f cdv A outer s H E) (E := E) rfl rfl rfl rfl
  have nd := sc_law.nd
  exact sb_cons (ss_set 1 nd rfl (Or.inl rfl) (se_bin op_addA os_add (se_comp [("_law_n", 6)] rfl nd (si_rng2 rfl B.range (sa_cons (se_int) (sa_cons (se_int) (sa_nil)))) (blkOk_by (N := ["_law_script", "_law_all_of_them", "_law_first", "_law_row", "_law_one", "_law_other", "_law_n"]) (sc := defScope s_law) (by decide +kernel)) (fun _ => pg_name (i := 6) nd rfl (Or.inl rfl)) (sog_n 6) (by decide) (fun _ => sts_nil) (fun _ => se_tup (sa_cons (se_int) (sa_cons (se_var 6) (sa_nil))))) (se_comp [("_law_n", 6)] rfl nd (si_rng2 rfl B.range (sa_cons (se_int) (sa_cons (se_int) (sa_nil)))) (blkOk_by (N := ["_law_script", "_law_all_of_them", "_law_first", "_law_row", "_law_one", "_law_other", "_law_n"]) (sc := defScope s_law) (by decide +kernel)) (fun _ => pg_name (i := 6) nd rfl (Or.inl rfl)) (sog_n 6) (by decide) (fun _ => sts_nil) (fun _ => se_tup (sa_cons (se_int) (sa_cons (se_var 6) (sa_nil))))))) (sb_cons (ss_set 2 nd rfl (Or.inl rfl) (se_callT tk (C_law_take.fnd hr) rfl (se_call tk (C_law_stream.fnd hr) rfl (sa_cons (se_var 0) (sa_cons (se_int) (sa_nil)))) (sa_cons (se_callB call_len cs_len rfl B.len (by decide +kernel) (sa_cons (se_var 1) (sa_nil))) (sa_nil)))) (sb_cons (ss_set 3 nd rfl (Or.inl rfl) (se_bin op_addA os_add (se_sl (se_var 1) (so_some (se_var 2)) (so_none)) (se_sl (se_var 1) (so_none) (so_some (se_var 2))))) (sb_cons (ss_for PassesOwn.leaving rfl (si_zip rfl B.zip (sa_cons (se_var 3) (sa_cons (se_bin op_addA os_add (se_sl (se_var 3) (so_some (se_int)) (so_none)) (se_sl (se_var 3) (so_none) (so_some (se_int)))) (sa_nil)))) (pg_tup rfl (pgs_cons (pg_name (i := 4) nd rfl (Or.inl rfl)) (pgs_cons (pg_name (i := 5) nd rfl (Or.inl rfl)) (pgs_nil)))) (sog_t [4, 5]) (sb_one (ss_if (st_w (sw_or (st_not (st_val (se_call tk (C_law_right.fnd hr) rfl (sa_cons (se_ix ix_seq os_ix (se_var 4) (se_int)) (sa_cons (se_ix ix_seq os_ix (se_var 4) (se_int)) (sa_nil)))))) (sw_or (st_not (st_val (se_call tk (C_law_right.fnd hr) rfl (sa_cons (se_ix ix_seq os_ix (se_var 5) (se_int)) (sa_cons (se_ix ix_seq os_ix (se_var 5) (se_int)) (sa_nil)))))) (sw_or1 (st_not (st_val (se_call tk (C_law_right.fnd hr) rfl (sa_cons (se_ix ix_seq os_ix (se_var 4) (se_int)) (sa_cons (se_ix ix_seq os_ix (se_var 4) (se_int)) (sa_nil)))))))))) (sb_one (ss_ret (se_bl))) (sb_nil)))) (sb_one (ss_ret (se_bl))))))
theorem all_mk {l : PySem.W.OpenLaw} {w : World} {K : PySem.W.Frag} {h : Heap} {mg : Str → Option Value} {fa : Addr} (X : K.In h) (G : h.Ns mainGlobals mg) (hfa : mg "law" = some (.ref fa))
    {f0 : Addr} {od0 an0 : Option Addr} {sl0 : Array (Option Value)} {oc0 kV0 dc0 pm0 cd0 ct0 : Value}
    (a0 : PySem.W.nsIn K mainGlobals "is_number" = some (some (.ref f0))) (l0 : K.lookup f0 = some ⟨oc0, od0, .func (PySem.W.fnOf "is_number" "is_number" (defArgs s_is_number) (defBody s_is_number) (defScope s_is_number) .none kV0 dc0 pm0 an0 cd0 ct0), sl0⟩) (c0 : PySem.W.codeIn K cd0 "is_number" = true) (k0 : PySem.W.keepIn K (.ref f0) = true)
    {f1 : Addr} {od1 an1 : Option Addr} {sl1 : Array (Option Value)} {oc1 kV1 dc1 pm1 cd1 ct1 : Value}
    (a1 : PySem.W.nsIn K mainGlobals "is_between" = some (some (.ref f1))) (l1 : K.lookup f1 = some ⟨oc1, od1, .func (PySem.W.fnOf "is_between" "is_between" (defArgs s_is_between) (defBody s_is_between) (defScope s_is_between) .none kV1 dc1 pm1 an1 cd1 ct1), sl1⟩) (c1 : PySem.W.codeIn K cd1 "is_between" = true) (k1 : PySem.W.keepIn K (.ref f1) = true)
    {f2 : Addr} {od2 an2 : Option Addr} {sl2 : Array (Option Value)} {oc2 kV2 dc2 pm2 cd2 ct2 : Value}
    (a2 : PySem.W.nsIn K mainGlobals "is_table" = some (some (.ref f2))) (l2 : K.lookup f2 = some ⟨oc2, od2, .func (PySem.W.fnOf "is_table" "is_table" (defArgs s_is_table) (defBody s_is_table) (defScope s_is_table) .none kV2 dc2 pm2 an2 cd2 ct2), sl2⟩) (c2 : PySem.W.codeIn K cd2 "is_table" = true) (k2 : PySem.W.keepIn K (.ref f2) = true)
    {f3 : Addr} {od3 an3 : Option Addr} {sl3 : Array (Option Value)} {oc3 kV3 dc3 pm3 cd3 ct3 : Value}
    (a3 : PySem.W.nsIn K mainGlobals "made_writing" = some (some (.ref f3))) (l3 : K.lookup f3 = some ⟨oc3, od3, .func (PySem.W.fnOf "made_writing" "made_writing" (defArgs s_made_writing) (defBody s_made_writing) (defScope s_made_writing) .none kV3 dc3 pm3 an3 cd3 ct3), sl3⟩) (c3 : PySem.W.codeIn K cd3 "made_writing" = true) (k3 : PySem.W.keepIn K (.ref f3) = true)
    {f4 : Addr} {od4 an4 : Option Addr} {sl4 : Array (Option Value)} {oc4 kV4 dc4 pm4 cd4 ct4 : Value}
    (a4 : PySem.W.nsIn K mainGlobals "by_readings" = some (some (.ref f4))) (l4 : K.lookup f4 = some ⟨oc4, od4, .func (PySem.W.fnOf "by_readings" "by_readings" (defArgs s_by_readings) (defBody s_by_readings) (defScope s_by_readings) .none kV4 dc4 pm4 an4 cd4 ct4), sl4⟩) (c4 : PySem.W.codeIn K cd4 "by_readings" = true) (k4 : PySem.W.keepIn K (.ref f4) = true)
    {f5 : Addr} {od5 an5 : Option Addr} {sl5 : Array (Option Value)} {oc5 kV5 dc5 pm5 cd5 ct5 : Value}
    (a5 : PySem.W.nsIn K mainGlobals "unary" = some (some (.ref f5))) (l5 : K.lookup f5 = some ⟨oc5, od5, .func (PySem.W.fnOf "unary" "unary" (defArgs s_unary) (defBody s_unary) (defScope s_unary) .none kV5 dc5 pm5 an5 cd5 ct5), sl5⟩) (c5 : PySem.W.codeIn K cd5 "unary" = true) (k5 : PySem.W.keepIn K (.ref f5) = true)
    {f6 : Addr} {od6 an6 : Option Addr} {sl6 : Array (Option Value)} {oc6 kV6 dc6 pm6 cd6 ct6 : Value}
    (a6 : PySem.W.nsIn K mainGlobals "twice" = some (some (.ref f6))) (l6 : K.lookup f6 = some ⟨oc6, od6, .func (PySem.W.fnOf "twice" "twice" (defArgs s_twice) (defBody s_twice) (defScope s_twice) .none kV6 dc6 pm6 an6 cd6 ct6), sl6⟩) (c6 : PySem.W.codeIn K cd6 "twice" = true) (k6 : PySem.W.keepIn K (.ref f6) = true)
    {f7 : Addr} {od7 an7 : Option Addr} {sl7 : Array (Option Value)} {oc7 kV7 dc7 pm7 cd7 ct7 : Value}
    (a7 : PySem.W.nsIn K mainGlobals "_law_stream" = some (some (.ref f7))) (l7 : K.lookup f7 = some ⟨oc7, od7, .func (PySem.W.fnOf "_law_stream" "_law_stream" (defArgs s_law_stream) (defBody s_law_stream) (defScope s_law_stream) .none kV7 dc7 pm7 an7 cd7 ct7), sl7⟩) (c7 : PySem.W.codeIn K cd7 "_law_stream" = true) (k7 : PySem.W.keepIn K (.ref f7) = true)
    {f8 : Addr} {od8 an8 : Option Addr} {sl8 : Array (Option Value)} {oc8 kV8 dc8 pm8 cd8 ct8 : Value}
    (a8 : PySem.W.nsIn K mainGlobals "_law_take" = some (some (.ref f8))) (l8 : K.lookup f8 = some ⟨oc8, od8, .func (PySem.W.fnOf "_law_take" "_law_take" (defArgs s_law_take) (defBody s_law_take) (defScope s_law_take) .none kV8 dc8 pm8 an8 cd8 ct8), sl8⟩) (c8 : PySem.W.codeIn K cd8 "_law_take" = true) (k8 : PySem.W.keepIn K (.ref f8) = true)
    {f9 : Addr} {od9 an9 : Option Addr} {sl9 : Array (Option Value)} {oc9 kV9 dc9 pm9 cd9 ct9 : Value}
    (a9 : PySem.W.nsIn K mainGlobals "_law_whole" = some (some (.ref f9))) (l9 : K.lookup f9 = some ⟨oc9, od9, .func (PySem.W.fnOf "_law_whole" "_law_whole" (defArgs s_law_whole) (defBody s_law_whole) (defScope s_law_whole) .none kV9 dc9 pm9 an9 cd9 ct9), sl9⟩) (c9 : PySem.W.codeIn K cd9 "_law_whole" = true) (k9 : PySem.W.keepIn K (.ref f9) = true)
    {f10 : Addr} {od10 an10 : Option Addr} {sl10 : Array (Option Value)} {oc10 kV10 dc10 pm10 cd10 ct10 : Value}
    (a10 : PySem.W.nsIn K mainGlobals "_law_is" = some (some (.ref f10))) (l10 : K.lookup f10 = some ⟨oc10, od10, .func (PySem.W.fnOf "_law_is" "_law_is" (defArgs s_law_is) (defBody s_law_is) (defScope s_law_is) .none kV10 dc10 pm10 an10 cd10 ct10), sl10⟩) (c10 : PySem.W.codeIn K cd10 "_law_is" = true) (k10 : PySem.W.keepIn K (.ref f10) = true)
    {f11 : Addr} {od11 an11 : Option Addr} {sl11 : Array (Option Value)} {oc11 kV11 dc11 pm11 cd11 ct11 : Value}
    (a11 : PySem.W.nsIn K mainGlobals "_law_unary" = some (some (.ref f11))) (l11 : K.lookup f11 = some ⟨oc11, od11, .func (PySem.W.fnOf "_law_unary" "_law_unary" (defArgs s_law_unary) (defBody s_law_unary) (defScope s_law_unary) .none kV11 dc11 pm11 an11 cd11 ct11), sl11⟩) (c11 : PySem.W.codeIn K cd11 "_law_unary" = true) (k11 : PySem.W.keepIn K (.ref f11) = true)
    {f12 : Addr} {od12 an12 : Option Addr} {sl12 : Array (Option Value)} {oc12 kV12 dc12 pm12 cd12 ct12 : Value}
    (a12 : PySem.W.nsIn K mainGlobals "_law_twice" = some (some (.ref f12))) (l12 : K.lookup f12 = some ⟨oc12, od12, .func (PySem.W.fnOf "_law_twice" "_law_twice" (defArgs s_law_twice) (defBody s_law_twice) (defScope s_law_twice) .none kV12 dc12 pm12 an12 cd12 ct12), sl12⟩) (c12 : PySem.W.codeIn K cd12 "_law_twice" = true) (k12 : PySem.W.keepIn K (.ref f12) = true)
    {f13 : Addr} {od13 an13 : Option Addr} {sl13 : Array (Option Value)} {oc13 kV13 dc13 pm13 cd13 ct13 : Value}
    (a13 : PySem.W.nsIn K mainGlobals "_law_right" = some (some (.ref f13))) (l13 : K.lookup f13 = some ⟨oc13, od13, .func (PySem.W.fnOf "_law_right" "_law_right" (defArgs s_law_right) (defBody s_law_right) (defScope s_law_right) .none kV13 dc13 pm13 an13 cd13 ct13), sl13⟩) (c13 : PySem.W.codeIn K cd13 "_law_right" = true) (k13 : PySem.W.keepIn K (.ref f13) = true)
    {f14 : Addr} {od14 an14 : Option Addr} {sl14 : Array (Option Value)} {oc14 kV14 dc14 pm14 cd14 ct14 : Value}
    (a14 : PySem.W.nsIn K mainGlobals "law" = some (some (.ref f14))) (l14 : K.lookup f14 = some ⟨oc14, od14, .func (PySem.W.fnOf "law" "law" (defArgs s_law) (defBody s_law) (defScope s_law) .none kV14 dc14 pm14 an14 cd14 ct14), sl14⟩) (c14 : PySem.W.codeIn K cd14 "law" = true) (k14 : PySem.W.keepIn K (.ref f14) = true)
    (z_abs : PySem.W.nsIn K mainGlobals "abs" = some none)
    (z_all : PySem.W.nsIn K mainGlobals "all" = some none)
    (z_bool : PySem.W.nsIn K mainGlobals "bool" = some none)
    (z_int : PySem.W.nsIn K mainGlobals "int" = some none)
    (z_isinstance : PySem.W.nsIn K mainGlobals "isinstance" = some none)
    (z_len : PySem.W.nsIn K mainGlobals "len" = some none)
    (z_list : PySem.W.nsIn K mainGlobals "list" = some none)
    (z_range : PySem.W.nsIn K mainGlobals "range" = some none)
    (z_tuple : PySem.W.nsIn K mainGlobals "tuple" = some none)
    (z_zip : PySem.W.nsIn K mainGlobals "zip" = some none)
    {tk_FEWEST_NUMBERS : Tok} (z_FEWEST_NUMBERS : PySem.W.nsIn K mainGlobals "FEWEST_NUMBERS" = some (some (.int 2 tk_FEWEST_NUMBERS)))
    {tk_FEWEST_TWICE : Tok} (z_FEWEST_TWICE : PySem.W.nsIn K mainGlobals "FEWEST_TWICE" = some (some (.int 3 tk_FEWEST_TWICE)))
    {tk_MOST_NUMBERS : Tok} (z_MOST_NUMBERS : PySem.W.nsIn K mainGlobals "MOST_NUMBERS" = some (some (.int 100 tk_MOST_NUMBERS)))
    {tk_MOST_SPOTS : Tok} (z_MOST_SPOTS : PySem.W.nsIn K mainGlobals "MOST_SPOTS" = some (some (.int 8 tk_MOST_SPOTS)))
    : ∃ fd : FuncData, (∀ (s : Shared) (v : Value), BindsTo s fd ⟨[v], []⟩ [("_law_script", v)]) ∧ ∀ base : Heap, K.In base → base.Ns mainGlobals mg → FnOk l.prog w K mg base (L2.CX l.prog w) 8 fa fd ["_law_script"] (spLaw K) := by
  have e := hfa.symm.trans (PySem.W.mg_of X G a14)
  cases e
  have B : Bl mg := ⟨PySem.W.mg_none_of X G z_abs, PySem.W.mg_none_of X G z_all, PySem.W.mg_none_of X G z_bool, PySem.W.mg_none_of X G z_int, PySem.W.mg_none_of X G z_isinstance, PySem.W.mg_none_of X G z_len, PySem.W.mg_none_of X G z_list, PySem.W.mg_none_of X G z_range, PySem.W.mg_none_of X G z_tuple, PySem.W.mg_none_of X G z_zip, ⟨_, PySem.W.mg_of X G z_FEWEST_NUMBERS⟩, ⟨_, PySem.W.mg_of X G z_FEWEST_TWICE⟩, ⟨_, PySem.W.mg_of X G z_MOST_NUMBERS⟩, ⟨_, PySem.W.mg_of X G z_MOST_SPOTS⟩⟩
  have F0 := fun_mk (st := s_is_number) l0 c0 k0
  have F1 := fun_mk (st := s_is_between) l1 c1 k1
  have F2 := fun_mk (st := s_is_table) l2 c2 k2
  have F3 := fun_mk (st := s_made_writing) l3 c3 k3
  have F4 := fun_mk (st := s_by_readings) l4 c4 k4
  have F5 := fun_mk (st := s_unary) l5 c5 k5
  have F6 := fun_mk (st := s_twice) l6 c6 k6
  have F7 := fun_mk (st := s_law_stream) l7 c7 k7
  have F8 := fun_mk (st := s_law_take) l8 c8 k8
  have F9 := fun_mk (st := s_law_whole) l9 c9 k9
  have F10 := fun_mk (st := s_law_is) l10 c10 k10
  have F11 := fun_mk (st := s_law_unary) l11 c11 k11
  have F12 := fun_mk (st := s_law_twice) l12 c12 k12
  have F13 := fun_mk (st := s_law_right) l13 c13 k13
  have F14 := fun_mk (st := s_law) l14 c14 k14
  refine ⟨PySem.W.fnOf "law" "law" (defArgs s_law) (defBody s_law) (defScope s_law) .none kV14 dc14 pm14 an14 cd14 ct14, fun s v => .of_eq rfl, fun base _ _ => ?_⟩
  have C_is_number := ok_is_number (P := l.prog) (w := w) (base := base) F0 (PySem.W.mg_of X G a0) B 
  have C_is_between := ok_is_between (P := l.prog) (w := w) (base := base) F1 (PySem.W.mg_of X G a1) B C_is_number
  have C_is_table := ok_is_table (P := l.prog) (w := w) (base := base) F2 (PySem.W.mg_of X G a2) B C_is_between
  have C_made_writing := ok_made_writing (P := l.prog) (w := w) (base := base) F3 (PySem.W.mg_of X G a3) B C_is_between C_is_table
  have C_by_readings := ok_by_readings (P := l.prog) (w := w) (base := base) F4 (PySem.W.mg_of X G a4) B C_made_writing
  have C_unary := ok_unary (P := l.prog) (w := w) (base := base) F5 (PySem.W.mg_of X G a5) B C_is_between C_by_readings
  have C_twice := ok_twice (P := l.prog) (w := w) (base := base) F6 (PySem.W.mg_of X G a6) B C_is_between C_by_readings
  have C_law_stream := ok_law_stream (P := l.prog) (w := w) (base := base) F7 (PySem.W.mg_of X G a7) B 
  have C_law_take := ok_law_take (P := l.prog) (w := w) (base := base) F8 (PySem.W.mg_of X G a8) B 
  have C_law_whole := ok_law_whole (P := l.prog) (w := w) (base := base) F9 (PySem.W.mg_of X G a9) B 
  have C_law_is := ok_law_is (P := l.prog) (w := w) (base := base) F10 (PySem.W.mg_of X G a10) B C_law_whole
  have C_law_unary := ok_law_unary (P := l.prog) (w := w) (base := base) F11 (PySem.W.mg_of X G a11) B 
  have C_law_twice := ok_law_twice (P := l.prog) (w := w) (base := base) F12 (PySem.W.mg_of X G a12) B 
  have C_law_right := ok_law_right (P := l.prog) (w := w) (base := base) F13 (PySem.W.mg_of X G a13) B C_law_is C_law_unary C_unary C_law_twice C_twice
  exact law_imp (ok_law_fn F14 B C_law_take C_law_stream C_law_right) law_true
end
end
end T

open PySem PySem.W PyProof.Rows
set_option maxHeartbeats 0 in
theorem PySem.Challenge.cw_notchledger_k27_unary_and_twice_holds : PySem.Challenge.rw_notchledger_k27_unary_and_twice.Holds := by
  w_on; o_law; k_head; (case hw => w_witness2)
  k_fill
  refine L2.walk_of (l := PySem.Challenge.rw_notchledger_k27_unary_and_twice) (n := 63) (k := 8) (x := "_law_script") (CX := fun w => L2.CX PySem.Challenge.pw_notchledger_k27_unary_and_twice w) (sp := fun w => DL.spLaw _) rfl (by decide) rfl ⟨rfl, by decide, by decide⟩ (fun w h Y => PySem.W.kIn_of Y) ?F (fun _ _ a ns hl _ hS => ⟨a, ns, rfl, hS, hl, fun _ => rfl⟩) (fun _ _ _ _ _ h => DL.cx_gone h)
  case F =>
    intro w mg fa h KX G hmg
    refine' T.all_mk KX G hmg ?a0 ?l0 ?c0 ?k0 ?a1 ?l1 ?c1 ?k1 ?a2 ?l2 ?c2 ?k2 ?a3 ?l3 ?c3 ?k3 ?a4 ?l4 ?c4 ?k4 ?a5 ?l5 ?c5 ?k5 ?a6 ?l6 ?c6 ?k6 ?a7 ?l7 ?c7 ?k7 ?a8 ?l8 ?c8 ?k8 ?a9 ?l9 ?c9 ?k9 ?a10 ?l10 ?c10 ?k10 ?a11 ?l11 ?c11 ?k11 ?a12 ?l12 ?c12 ?k12 ?a13 ?l13 ?c13 ?k13 ?a14 ?l14 ?c14 ?k14 ?z_abs ?z_all ?z_bool ?z_int ?z_isinstance ?z_len ?z_list ?z_range ?z_tuple ?z_zip ?z_FEWEST_NUMBERS ?z_FEWEST_TWICE ?z_MOST_NUMBERS ?z_MOST_SPOTS
    (case a0 => k_is); (case l0 => k_is); (case c0 => k_is); (case k0 => k_is); (case a1 => k_is); (case l1 => k_is); (case c1 => k_is); (case k1 => k_is); (case a2 => k_is); (case l2 => k_is); (case c2 => k_is); (case k2 => k_is); (case a3 => k_is); (case l3 => k_is); (case c3 => k_is); (case k3 => k_is); (case a4 => k_is); (case l4 => k_is); (case c4 => k_is); (case k4 => k_is); (case a5 => k_is); (case l5 => k_is); (case c5 => k_is); (case k5 => k_is); (case a6 => k_is); (case l6 => k_is); (case c6 => k_is); (case k6 => k_is); (case a7 => k_is); (case l7 => k_is); (case c7 => k_is); (case k7 => k_is); (case a8 => k_is); (case l8 => k_is); (case c8 => k_is); (case k8 => k_is); (case a9 => k_is); (case l9 => k_is); (case c9 => k_is); (case k9 => k_is); (case a10 => k_is); (case l10 => k_is); (case c10 => k_is); (case k10 => k_is); (case a11 => k_is); (case l11 => k_is); (case c11 => k_is); (case k11 => k_is); (case a12 => k_is); (case l12 => k_is); (case c12 => k_is); (case k12 => k_is); (case a13 => k_is); (case l13 => k_is); (case c13 => k_is); (case k13 => k_is); (case a14 => k_is); (case l14 => k_is); (case c14 => k_is); (case k14 => k_is); (case z_abs => k_is); (case z_all => k_is); (case z_bool => k_is); (case z_int => k_is); (case z_isinstance => k_is); (case z_len => k_is); (case z_list => k_is); (case z_range => k_is); (case z_tuple => k_is); (case z_zip => k_is); (case z_FEWEST_NUMBERS => k_is); (case z_FEWEST_TWICE => k_is); (case z_MOST_NUMBERS => k_is); (case z_MOST_SPOTS => k_is)
