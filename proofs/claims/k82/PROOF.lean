import PyProof.Rows.All
import Wide.All
import OpenK.AllK
import Wide.FinOn
import HandS.ForMost
import HandS.Flow
import HandS.ForExc
import HandS.EndTab
import HandS.ExcOwn
import KE.KNest
import HandS.IsInst
import HandS.TupAny
import HandS.TupMul
import HandS.Deep
import HandS.Style
import HandS.Conv
import PyProof.Rows.ListMulArg
import HandS.Zip
import HandS.Star
import HandS.TryOnly
import KE.GoesMore
import HandS.SortRule
import HandS.SetFor
import HandS.Strs
import HandS.SetBool
import HandS.SortInts
import KE.DataMinMax
import HandS.DictComp
import HandS.ExcIs
import HandS.Small
import HandS.ExcValue
import HandS.RaiseMore
import PyProof.ReprRoads
import PyProof.ReprLen
import HandS.Text
import PySem.Challenge.RW_notchledger_k82_writings_told
set_option Elab.async false
set_option linter.all false
set_option maxRecDepth 100000
namespace DL
open PySem PySem.Spec PyProof.Rows L2 LamX
structure Room (k : Nat) (A : Around) : Prop extends L2.Room k A where
  gs : A.guards = some []
theorem Room.mono {j k : Nat} {A : Around} (r : Room k A) (h : j ≤ k) : Room j A := ⟨r.toRoom.mono h, r.gs⟩
theorem guards_deeper (A : Around) (env : Env) : (A.deeper env).guards = A.guards := by
  first | rfl | simp [Around.deeper]
theorem Room.deeper {k : Nat} {A : Around} (r : Room (k + 1) A) (env : Env) : Room k (A.deeper env) := ⟨r.toRoom.deeper env, (guards_deeper A env).trans r.gs⟩
structure FnOk (P : Program) (w : World) (K : PySem.W.Frag) (mg : Str → Option Value) (base : Heap) (CX : CXT) (k : Nat) (f : Addr) (fd : FuncData) (ps : List Str) (sp : Sp) : Prop where
  len : ∀ vs H Q E, sp vs H Q E → vs.length = ps.length
  go : ∀ (A : Around) (out : List Env) (s : Shared) (H : Hp) (ag : Args) (us : List Value) (vs : List V) (Q : VK) (E : XK), Room k A → Env0 P w K mg base A out s H →
    BindsTo s fd ag (ps.zip us) → Vals vs us → sp vs H Q E → codeAny (model P w) A (.call (.ref f) ag) (CR CX out P w H s Q E) s
theorem FnOk.imp {P : Program} {w : World} {K : PySem.W.Frag} {mg : Str → Option Value} {base : Heap} {CX : CXT} {k : Nat} {f : Addr} {fd : FuncData} {ps : List Str} {sp sp' : Sp} (F : FnOk P w K mg base CX k f fd ps sp)
    (h : ∀ vs H Q E, sp' vs H Q E → sp vs H Q E) : FnOk P w K mg base CX k f fd ps sp' :=
  ⟨fun vs H Q E q => F.len vs H Q E (h _ _ _ _ q), fun A out s H ag us vs Q E r e b v q => F.go A out s H ag us vs Q E r e b v (h _ _ _ _ q)⟩
section
variable {P : Program} {w : World} {K : PySem.W.Frag} {mg : Str → Option Value} {base : Heap}
theorem fun_okX {x qual : Str} {st : Stmt} {f : Addr} {fd : FuncData} {N ps : List Str} {k : Nat} {sp : Sp} (F : Fun K x qual st f fd) (S : FnScope N ps (defScope st)) (len : ∀ vs H Q E, sp vs H Q E → vs.length = ps.length)
    (hb : ∀ (cdv : Value), fd.code = cdv → ∀ (A : Around) (out : List Env) (s : Shared) (H : Hp) (vs : List V) (Q : VK) (E : XK), Room k (A.deeper (envOfC qual (defScope st) s.heap.objs.size f cdv)) → sp vs H Q E →
      ∃ t, PSs (cxOf (L2.CX P w) P w K mg base N qual (defScope st) f cdv A out s H E) (defBody st) t ∧ t { nx := fun _ H' => Q .non H', rt := Q } (start N vs) H) :
    FnOk P w K mg base (L2.CX P w) (k + 1) f fd ps sp := by
  obtain ⟨oc, od, kV, doc, pm, an, cdv, ct, osl, rfl, lk, hcd⟩ := F.ex
  refine ⟨len, fun A out s H ag us vs Q E r e b v q => ?_⟩
  exact run_ofS lk hcd S r.toRoom e b v (len _ _ _ _ q) fun r' => hb cdv rfl A out s H vs Q E ⟨r', (guards_deeper A _).trans r.gs⟩ q
end
section
variable {X : Cx} {CX : CXT} {k : Nat} {f : Addr} {fd : FuncData} {ps : List Str} {sp : Sp} {E : L2.St → XK} {x : Str} {p pos : Pos} {e : Expr} {es : List Expr} {t : TA}
theorem fn_run {pins : List (Addr × Obj)} {σ : L2.St} {H : Hp} {s : Shared} {Q : VK} {us : List Value} {vs : List V} (F : FnOk X.prog X.w X.K X.mg X.base CX k f fd ps sp) (hr : Room k X.A) (hb : Binds X.K fd ps []) (hx : PassesAt CX X σ (E σ))
    (I : Inv X pins σ H s) (r : Vals vs us) (q : sp vs H Q (E σ)) : wpAny (model X.prog X.w) X.A (call (.ref f) us) (EP X pins σ Q) X.xe s := by
  have hl := (r.length).symm.trans (F.len _ _ _ _ q)
  have hb' := hb s us I.kIn (by simp only [List.append_nil]; exact hl)
  simp only [List.append_nil] at hb'
  refine wpAny_call (codeAny_mono (F.go X.A X.stack s H ⟨us, []⟩ us vs Q (E σ) hr I.env0 hb' r q) fun res s1 z => ?_)
  match res, z with
  | .error e, z => exact hx pins H s e s1 I z
  | .ok (.ret u), z => exact I.after z
theorem pe_callG (F : FnOk X.prog X.w X.K X.mg X.base CX k f fd ps sp) (hr : Room k X.A) (hg : Gl X x) (hm : X.mg x = some (.ref f)) (hk : PySem.W.keepIn X.K (.ref f) = true) (hb : Binds X.K fd ps []) (hx : ∀ σ, PassesAt CX X σ (E σ))
    (ha : PA X (e :: es) t) (hdb : (x == ("__debug__" : Str)) = false := by decide) (he : starEach (e :: es) X.env = (false, eval e X.env) :: starEach es X.env := by rfl) (hpl : (backTo pos (starEach es X.env)).any (·.1) = false := by rfl) :
    PE X (.Call (.Name x p) (e :: es) [] pos) (tCallS sp E t) :=
  ⟨fun pins s σ H Q I h => wpAny_Call_Name_kw (ld_glob I hg hm
    (PySem.W.callWith_K (h₀ := X.base) I.ok.mod.kin hk (thn (ha.run pos pins s σ H _ I h) fun us s1 ⟨vs, H1, I1, r, q⟩ => ⟨I1.kIn, fn_run F hr hb (hx σ) I1 r q⟩) he hpl) hdb)⟩
end
def hp0 (K : PySem.W.Frag) (ts : List Addr) (a : Addr) (o : Obj) (xs : List V) : Hp := fun b =>
  if b ∈ ts then some (.tbl #[]) else if b = a ∧ K.lookup a = none then some (.frz o (.lst xs)) else none
theorem hp0_in {K : PySem.W.Frag} {ts : List Addr} {a b : Addr} {o : Obj} {xs : List V} {u : HO} (h : hp0 K ts a o xs b = some u) : (b ∈ ts ∧ u = .tbl #[]) ∨ (b ∉ ts ∧ b = a ∧ K.lookup a = none ∧ u = .frz o (.lst xs)) := by
  unfold hp0 at h
  by_cases h1 : b ∈ ts
  · rw [if_pos h1] at h; exact .inl ⟨h1, (Option.some.inj h).symm⟩
  · rw [if_neg h1] at h
    by_cases h2 : b = a ∧ K.lookup a = none
    · rw [if_pos h2] at h; exact .inr ⟨h1, h2.1, h2.2, (Option.some.inj h).symm⟩
    · rw [if_neg h2] at h; cases h
theorem hp0_at {K : PySem.W.Frag} {ts : List Addr} {a b : Addr} {o : Obj} {xs : List V} (h : b ∈ ts) : hp0 K ts a o xs b = some (.tbl #[]) := if_pos h
structure Hd (K : PySem.W.Frag) (mg mb : Str → Option Value) (h : Heap) (cs : List (Addr × Addr)) : Prop where
  kx : K.In h
  ng : h.Ns mainGlobals mg
  nb : h.Ns builtinsNs mb
  nx : ∀ x : Str, x ≠ "__name__" → mb x = bootBuiltins x
  nl : h.NoLimit
  tb : ∀ p ∈ cs, h.get? p.2 = some { cls := .none, data := .fields #[] } ∧ K.lookup p.2 = none ∧ PySem.W.CodeHd h p.1 p.2
  bm : ∃ (b : Addr) (ob : Obj), mg "__builtins__" = some (.ref b) ∧ b ≠ builtinsNs ∧ h.get? b = some ob ∧ ob.cls = .type "module" ∧ ob.dict = some builtinsNs ∧ ob.data = .plain
theorem Hd.mod {K : PySem.W.Frag} {mg mb : Str → Option Value} {h : Heap} {cs : List (Addr × Addr)} {a : Addr} {us : List Value} {xs : List V} (D : Hd K mg mb h cs) (ha : h.get? a = some { cls := .type "list", data := .seq us.toArray }) :
    L2.Mod K mg (hidT h (hp0 K (cs.map (·.2)) a { cls := .type "list", data := .seq us.toArray } xs)) ∧ ∀ p ∈ cs, TabB (hidT h (hp0 K (cs.map (·.2)) a { cls := .type "list", data := .seq us.toArray } xs)) mg p.1 p.2 := by
  have tt : ∀ b ∈ cs.map (·.2), h.get? b = some { cls := .none, data := .fields #[] } ∧ K.lookup b = none := fun b hb => by
    obtain ⟨p, hp, rfl⟩ := List.mem_map.mp hb
    exact ⟨(D.tb p hp).1, (D.tb p hp).2.1⟩
  have ge : ∀ {b : Addr} {o : Obj}, h.get? b = some o → (∀ vs n, o.data ≠ .seq vs n) → o.data ≠ .fields #[] → (hidT h (hp0 K (cs.map (·.2)) a { cls := .type "list", data := .seq us.toArray } xs)).get? b = some o := fun {b o} e n1 n2 => by
    refine hidT_get e ?_
    cases q : hp0 K (cs.map (·.2)) a { cls := .type "list", data := .seq us.toArray } xs b with
    | none => rfl
    | some u =>
      rcases hp0_in q with ⟨z, _⟩ | ⟨_, z, _⟩
      · have e2 := (tt b z).1
        rw [e] at e2
        exact absurd (congrArg Obj.data (Option.some.inj e2)) n2
      · rw [z, ha] at e
        exact absurd (congrArg Obj.data (Option.some.inj e)).symm (n1 _ _)
  have gd : ∀ {b : Addr} {o : Obj} {es : Array DictEntry} {ep : Nat}, h.get? b = some o → o.data = .dict es ep → (hidT h (hp0 K (cs.map (·.2)) a { cls := .type "list", data := .seq us.toArray } xs)).get? b = some o := fun e d =>
    ge e (fun _ _ z => nomatch d.symm.trans z) fun z => nomatch d.symm.trans z
  have ns : ∀ {b : Addr} {m : Str → Option Value}, h.Ns b m → (hidT h (hp0 K (cs.map (·.2)) a { cls := .type "list", data := .seq us.toArray } xs)).Ns b m := fun ⟨o, es, ep, e, d, r⟩ => ⟨o, es, ep, gd e d, d, r⟩
  refine ⟨⟨fun b o e => hidT_get (D.kx b o e) ?_, ns D.ng, ⟨mb, ns D.nb, D.nx⟩, let ⟨mc, z1, z2⟩ := D.nl; ⟨mc, ns z1, z2⟩⟩, fun p hp => ⟨?_, ?_, fun z => ?_⟩⟩
  · cases q : hp0 K (cs.map (·.2)) a { cls := .type "list", data := .seq us.toArray } xs b with
    | none => rfl
    | some u =>
      rcases hp0_in q with ⟨z, _⟩ | ⟨_, z, z2, _⟩
      · rw [(tt b z).2] at e; cases e
      · rw [z, z2] at e; cases e
  · obtain ⟨o, vs, file, tf, flags, tg, inF, text, tx, e1, c1, d1, v1, r⟩ := (D.tb p hp).2.2
    exact ⟨o, vs, file, tf, flags, tg, inF, text, tx, ge e1 (fun _ _ z => nomatch d1.symm.trans z) (fun z => by rw [d1] at z; cases z; simp at v1), c1, d1, v1, r⟩
  · obtain ⟨b, ob, b1, b2, b3, b4, b5, b6⟩ := D.bm
    refine ⟨b, ob, b1, b2, fun z => ?_, fun z => ?_, ge b3 (fun _ _ q => nomatch b6.symm.trans q) (fun q => nomatch b6.symm.trans q), b4, b5, b6⟩
    · obtain ⟨o, es, ep, e, d, _⟩ := D.ng
      rw [z, e] at b3; cases b3; exact nomatch d.symm.trans b6
    · rw [z, (D.tb p hp).1] at b3; cases b3; cases b6
  · obtain ⟨o, es, ep, e, d, _⟩ := D.ng
    rw [z, (D.tb p hp).1] at e; cases e; cases d
theorem law_go {P : Program} {w : World} {K : PySem.W.Frag} {mg mb : Str → Option Value} {CX : CXT} {k : Nat} {fa a : Addr} {cs : List (Addr × Addr)} {fd : FuncData} {x : Str} {sp : Sp} {s0 : Shared} {us : List Value} {ns : List Int}
    (D : Hd K mg mb s0.heap cs) (g0 : s0.gens = #[]) (ha : s0.heap.get? a = some { cls := .type "list", data := .seq us.toArray }) (hi : IntsAre us ns) (hl : ns.length ≤ sizeLine) (hr : Room k callerA)
    (F : ∀ base : Heap, K.In base → base.Ns mainGlobals mg → (∀ p ∈ cs, TabB base mg p.1 p.2) → FnOk P w K mg base CX k fa fd [x] sp) (hb : ∀ (s : Shared) (u : Value), BindsTo s fd ⟨[u], []⟩ [(x, u)])
    (hs : ∀ H : Hp, (∀ p ∈ cs, H p.2 = some (.tbl #[])) → (∀ b ps, H b = some (.tbl ps) → ∃ p ∈ cs, p.2 = b) → SqL K H a (ns.map V.int) → sp [.ref a] H (fun v _ => v = .bl true) fun _ _ _ => False)
    (hx : ∀ H e s', CX [] H s0 (fun _ _ _ => False) e s' → False) :
    codeAny (model P w) callerA (.call (.ref fa) ⟨[.ref a], []⟩) (fun r s' => r = .ok (.ret (.bool true)) ∧ OldK s0.heap s'.heap ∧ s'.os = s0.os ∧ AllBare s'.gens) s0 := by
  obtain ⟨M, TB⟩ := D.mod (xs := ns.map V.int) ha
  have rv := vals_ints hi
  generalize hH : hp0 K (cs.map (·.2)) a { cls := .type "list", data := .seq us.toArray } (ns.map V.int) = H at M TB
  have inH : ∀ {b : Addr} {u : HO}, H b = some u → (b ∈ cs.map (·.2) ∧ u = .tbl #[]) ∨ (b ∉ cs.map (·.2) ∧ b = a ∧ K.lookup a = none ∧ u = .frz { cls := .type "list", data := .seq us.toArray } (.lst (ns.map V.int))) := fun {b u} q => by
    rw [← hH] at q; exact hp0_in q
  have atH : ∀ p ∈ cs, H p.2 = some (.tbl #[]) := fun p hp => by rw [← hH]; exact hp0_at (List.mem_map.mpr ⟨p, hp, rfl⟩)
  have aT : a ∉ cs.map (·.2) := fun z => by
    obtain ⟨p, hp, e⟩ := List.mem_map.mp z
    have q := (D.tb p hp).1
    rw [e, ha] at q
    cases q
  have sq : SqL K H a (ns.map V.int) := by
    cases q : K.lookup a with
    | some o =>
      have e := D.kx a o q
      rw [ha] at e
      cases e
      exact .inr ⟨_, us.toArray, _, q, rfl, rfl, rfl, by rw [List.size_toArray, hi.length]; exact hl, by simpa using rv⟩
    | none =>
      refine .inl (.inr ⟨{ cls := .type "list", data := .seq us.toArray }, ?_⟩)
      rw [← hH]
      exact (if_neg aT).trans (if_pos ⟨rfl, q⟩)
  have hok : HOk P w H s0.heap := fun b u q => by
    rcases inH q with ⟨z, rfl⟩ | ⟨_, rfl, _, rfl⟩
    · obtain ⟨p, hp, rfl⟩ := List.mem_map.mp z
      exact (D.tb p hp).1
    · exact ⟨ha, by rw [List.length_map]; exact hl, us, _, rv, ha⟩
  have e0 : Env0 P w K mg (hidT s0.heap H) callerA [] s0 H := ⟨rfl, M, fun b o e => of_hidT e, Nat.le_of_eq (hidT_size _ _), trivial, fun b hb => absurd (show b ∈ ([] : List Addr) from hb) (by simp), hok, .of_eq g0⟩
  have tin : ∀ b ps, H b = some (.tbl ps) → ∃ p ∈ cs, p.2 = b := fun b ps q => by
    rcases inH q with ⟨z, _⟩ | ⟨_, _, _, z⟩
    · exact List.mem_map.mp z
    · cases z
  refine codeAny_mono ((F _ M.kin M.glob TB).go callerA [] s0 H ⟨[.ref a], []⟩ [.ref a] [.ref a] _ _ hr e0 (hb s0 (.ref a)) (.cons rfl .nil) (hs H atH tin sq)) fun r s1 z => ?_
  match r, z with
  | .error e, z => exact (hx H e s1 z).elim
  | .ok (.ret u), z =>
    obtain ⟨v, H1, os, bare, un, ok1, ru, q⟩ := z
    have q' : v = .bl true := q
    subst q'
    obtain rfl : u = Value.bool true := ru
    have still : ∀ b o, b ∉ cs.map (·.2) → s0.heap.get? b = some o → s1.heap.get? b = some o := fun b o nb e => by
      cases q : H b with
      | none => exact un.keep b o e q (fun z => absurd (show b ∈ ([] : List Addr) from z) (by simp)) (by simp)
      | some u =>
        rcases inH q with ⟨z, _⟩ | ⟨_, rfl, _, rfl⟩
        · exact absurd z nb
        · have e2 := (ok1 _ _ (un.frzs _ _ _ q)).1
          rw [ha] at e
          cases e
          exact e2
    refine ⟨rfl, ⟨fun b o e => ?_, fun b o e => ?_⟩, os, bare⟩
    · by_cases hb : b ∈ cs.map (·.2)
      · obtain ⟨p, hp, rfl⟩ := List.mem_map.mp hb
        obtain ⟨t1, _, t3⟩ := D.tb p hp
        obtain ⟨more, z⟩ := un.tbls p.2 #[] (atH p hp)
        rw [t1] at e
        cases e
        exact .inr (.inl ⟨(t3.tab t1).isCodeTable, rfl, #[], more, rfl, by have y := ok1 p.2 _ z; rw [Array.empty_append] at y ⊢; exact y⟩)
      · exact .inl (still b o hb e)
    · by_cases hb : b ∈ cs.map (·.2)
      · obtain ⟨p, hp, rfl⟩ := List.mem_map.mp hb
        obtain ⟨more, z⟩ := un.tbls p.2 #[] (atH p hp)
        exact ⟨_, ok1 p.2 _ z⟩
      · exact ⟨o, still b o hb e⟩
theorem walk_of {l : PySem.W.OpenLaw} {n k : Nat} {q : Program} {loose : List Str} {XP : (Str → Option Value) → Heap → Prop} {YP : World → Heap → Prop} {d : DefRec} {K : Params → PySem.W.Frag} {CX : World → CXT} {sp : World → Sp} {x : Str}
    (hn : l.most = some n) (hn2 : n ≤ sizeLine) (hdf : d.params.defaults = []) (hr : L2.Room k callerA) (hY : ∀ (w : World) (h : Heap), YP w h → (K w.params).In h)
    (F : ∀ (w : World) (mg : Str → Option Value) (fa : Addr) (h : Heap), YP w h → (K w.params).In h → h.Ns mainGlobals mg → mg d.name = some (.ref fa) →
      ∃ (fd : FuncData) (cs : List (Addr × Addr)), (∀ p ∈ cs, h.get? p.2 = some { cls := .none, data := .fields #[] } ∧ (K w.params).lookup p.2 = none ∧ PySem.W.CodeHd h p.1 p.2) ∧ (∀ (s : Shared) (u : Value), BindsTo s fd ⟨[u], []⟩ [(x, u)]) ∧
        (∀ (H : Hp) (a : Addr) (ns : List Int), ns.length ≤ n → (∀ p ∈ cs, H p.2 = some (.tbl #[])) → (∀ b ps, H b = some (.tbl ps) → ∃ p ∈ cs, p.2 = b) → SqL (K w.params) H a (ns.map V.int) → sp w [.ref a] H (fun v _ => v = .bl true) fun _ _ _ => False) ∧
        ∀ base : Heap, (K w.params).In base → base.Ns mainGlobals mg → (∀ p ∈ cs, TabB base mg p.1 p.2) → FnOk l.prog w (K w.params) mg base (CX w) k fa fd [x] (sp w))
    (hCX : ∀ (w : World) (H : Hp) (s : Shared) (e : Value) (s' : Shared), CX w [] H s (fun _ _ _ => False) e s' → False) :
    PySem.W.WalkO q loose XP YP l.row.toRowW d [] (fun f vs => PySem.call f vs) := by
  refine Att.attach_callB hn hdf fun w s₀ s₁ mg mb fa o pm cd doc a vs ns G Y ho hd hcd hmg hobj hints hlen hbits hg => ?_
  obtain ⟨fd, cs, c1, c2, c3, c4⟩ := F w mg fa _ Y (hY w _ Y) G.T.g hmg
  exact law_go ⟨hY w _ Y, G.T.g, G.T.b, G.T.builtins, G.T.nolimit, c1, G.T.bmain⟩ hg hobj hints (Nat.le_trans hlen hn2) ⟨hr, rfl⟩ c4 c2 (fun H h1 h2 h3 => c3 H a ns hlen h1 h2 h3) fun H e s' => hCX w H s₁ e s'
end DL
namespace DL
open PySem L2
def Ex (H H' : Hp) : Prop := ∀ a o, H a = some o → H' a = some o
theorem Ex.refl (H : Hp) : Ex H H := fun _ _ h => h
theorem Ex.trans {H H1 H2 : Hp} (a : Ex H H1) (b : Ex H1 H2) : Ex H H2 := fun x o h => b x o (a x o h)
theorem Ex.new {H : Hp} {p : Addr} {o : HO} (h : H p = none) : Ex H (upd H p o) := fun a u e => by
  rw [upd_ne (ne_of_none e h)]
  exact e
theorem Ex.nn {H H' : Hp} (e : Ex H H') {a : Addr} (h : H' a = none) : H a = none := by
  cases q : H a with
  | none => rfl
  | some o => rw [e a o q] at h; cases h
theorem Ex.sm {H H' : Hp} (e : Ex H H') {a : Addr} (h : H a ≠ none) : H' a ≠ none := fun q => h (e.nn q)
theorem ex_rd {H H' : Hp} {a : Addr} {u : HO} (e : Ex H H') (h : Rd H a u) : Rd H' a u := by
  rcases h with h | ⟨o, h⟩
  · exact Or.inl (e a _ h)
  · exact Or.inr ⟨o, e a _ h⟩
theorem ex_l {K : PySem.W.Frag} {H H' : Hp} {a : Addr} {xs : List V} (e : Ex H H') (h : SqL K H a xs) : SqL K H' a xs := by
  rcases h with h | h
  · exact Or.inl (ex_rd e h)
  · exact Or.inr h
theorem ex_t {K : PySem.W.Frag} {H H' : Hp} {a : Addr} {xs : List V} (e : Ex H H') (h : SqT K H a xs) : SqT K H' a xs := by
  rcases h with h | h
  · exact Or.inl (ex_rd e h)
  · exact Or.inr h
theorem some_ne {α : Type} {x : Option α} {y : α} (h : x = some y) : x ≠ none := fun q => by rw [q] at h; cases h
theorem ne_some {α : Type} {x : Option α} (h : x ≠ none) : ∃ y, x = some y := by
  cases x with
  | none => exact absurd rfl h
  | some y => exact ⟨y, rfl⟩
def lamDefs : List Str := ["longest", "hardest"]
def lamName (x : Str) : Str := x ++ ".<locals>." ++ "<lambda>"
def Tb (K : PySem.W.Frag) (H : Hp) : Prop := ∀ x ∈ lamDefs, ∀ c P, PySem.W.tabIn K x = some (c, P) → LamX.TabS H P (lamName x)
theorem Tb.ex {K : PySem.W.Frag} {H H' : Hp} (t : Tb K H) (e : Ex H H') : Tb K H' := fun x hx c P h => (t x hx c P h).ext e
def isT : HO → Bool
  | .tbl _ => true
  | _ => false
def isM : HO → Bool
  | .tbl _ => false
  | .ext _ => false
  | _ => true
theorem isM_nt {o : HO} (h : isM o = true) : isT o = false := by
  cases o <;> first | rfl | cases h
def isK (a : Addr) (o : HO) : Prop := isT o = true ∨ ∃ q, o = LamX.CodeO a q
theorem isM_nk {a : Addr} {o : HO} (h : isM o = true) : ¬ isK a o := fun z => by
  rcases z with z | ⟨q, z⟩
  · rw [isM_nt h] at z; cases z
  · subst z; cases h
theorem Tb.mut {K : PySem.W.Frag} {H H' : Hp} (t : Tb K H) (e : ∀ a o, isK a o → H a = some o → H' a = some o) : Tb K H' := fun x hx c P h => by
  obtain ⟨ps, h1, h2, h3⟩ := t x hx c P h
  refine ⟨ps, e _ _ (.inl rfl) h1, h2, fun pos cv hc => ?_⟩
  obtain ⟨c', e1, e2⟩ := h3 pos cv hc
  exact ⟨c', e1, e _ _ (.inr ⟨_, rfl⟩) e2⟩
def NoT (G : Hp) : Prop := ∀ a o, G a = some o → isT o = false
theorem NoT.upd {G : Hp} {p : Addr} {o : HO} (h : NoT G) (ho : isT o = false) : NoT (upd G p o) := fun a u e => by
  by_cases z : a = p
  · rw [z, upd_same] at e; cases e; exact ho
  · rw [upd_ne z] at e; exact h a u e
def offT (H : Hp) : Hp := fun b => match H b with
  | some o => if isT o then none else some o
  | none => none
theorem offT_of {H : Hp} {b : Addr} {o : HO} (h : H b = some o) (ho : isT o = false) : offT H b = some o := by
  unfold offT
  rw [h]
  show (if isT o = true then none else some o) = some o
  rw [ho]; rfl
theorem offT_in {H : Hp} {b : Addr} {o : HO} (h : offT H b = some o) : H b = some o ∧ isT o = false := by
  unfold offT at h
  cases e : H b with
  | none => rw [e] at h; cases h
  | some u =>
    rw [e] at h
    have h' : (if isT u = true then none else some u) = some o := h
    cases q : isT u with
    | true => rw [q] at h'; cases h'
    | false => rw [q] at h'; cases h'; exact ⟨rfl, q⟩
abbrev kD (k : Key) : PyData := match k with
  | .inl i => .int i
  | .inr x => .str x
def exH (cls : Value) (d : Option Addr) (a : Addr) : HO := .ext fun h => ∃ (oe : Obj) (vs : Array Value), h.get? a = some oe ∧ Zc cls d oe ∧ oe.data = .fields vs
abbrev exD (c : Str) : PyData := .dict [(.none, .str c)]
abbrev fnD (c : Str) : PyData := .dict [(.bool true, .str c)]
mutual
inductive Da (K : PySem.W.Frag) (H : Hp) : V → PyData → Prop
  | non : Da K H .non .none
  | bl (b : Bool) : Da K H (.bl b) (.bool b)
  | int (i : Int) : Da K H (.int i) (.int i)
  | str (x : Str) : Da K H (.str x) (.str x)
  | lst {a : Addr} {xs : List V} {ds : List PyData} : SqL K H a xs → DaAll K H xs ds → Da K H (.ref a) (.list ds)
  | tup {a : Addr} {xs : List V} {ds : List PyData} : SqT K H a xs → DaAll K H xs ds → Da K H (.ref a) (.tuple ds)
  | dct {a : Addr} {kvs : List (Key × V)} {ds : List PyData} : Rd H a (.dK kvs) → DaAll K H (kvs.map (·.2)) ds → Da K H (.ref a) (.dict ((kvs.map fun kv => kD kv.1).zip ds))
  | exc {a C : Addr} {c : Str} : PySem.W.nsIn K mainGlobals c = some (some (.ref C)) → H a = some (exH (.ref C) none a) → Da K H (.ref a) (exD c)
  | fn {a : Addr} {c : Str} : PySem.W.nsIn K mainGlobals c = some (some (.ref a)) → Da K H (.ref a) (fnD c)
inductive DaAll (K : PySem.W.Frag) (H : Hp) : List V → List PyData → Prop
  | nil : DaAll K H [] []
  | cons {v : V} {vs : List V} {d : PyData} {ds : List PyData} : Da K H v d → DaAll K H vs ds → DaAll K H (v :: vs) (d :: ds)
end
mutual
theorem da_ex {K : PySem.W.Frag} {G G' : Hp} (e : Ex G G') : ∀ {d : PyData} {v : V}, Da K G v d → Da K G' v d
  | _, _, .non => .non
  | _, _, .bl b => .bl b
  | _, _, .int i => .int i
  | _, _, .str x => .str x
  | _, _, .lst h a => .lst (ex_l e h) (daAll_ex e a)
  | _, _, .tup h a => .tup (ex_t e h) (daAll_ex e a)
  | _, _, .dct h a => .dct (ex_rd e h) (daAll_ex e a)
  | _, _, .exc h a => .exc h (e _ _ a)
  | _, _, .fn h => .fn h
theorem daAll_ex {K : PySem.W.Frag} {G G' : Hp} (e : Ex G G') : ∀ {ds : List PyData} {vs : List V}, DaAll K G vs ds → DaAll K G' vs ds
  | _, _, .nil => .nil
  | _, _, .cons h1 h2 => .cons (da_ex e h1) (daAll_ex e h2)
end
mutual
theorem da_dp {K : PySem.W.Frag} {G : Hp} : ∀ {d : PyData} {v : V}, Da K G v d → d.canLay0 = true → L2.Dp K G v d
  | _, _, .non, _ => .non
  | _, _, .bl b, _ => .bl b
  | _, _, .int i, _ => .int i
  | _, _, .str x, _ => .str x
  | _, _, .lst h a, c => .lst h (daAll_dp a (by simpa [PyData.canLay0] using c))
  | _, _, .tup h a, c => .tup h (daAll_dp a (by simpa [PyData.canLay0] using c))
  | _, _, .dct h a, c => by simp [PyData.canLay0] at c
  | _, _, .exc h a, c => by simp [PyData.canLay0] at c
  | _, _, .fn h, c => by simp [PyData.canLay0] at c
theorem daAll_dp {K : PySem.W.Frag} {G : Hp} : ∀ {ds : List PyData} {vs : List V}, DaAll K G vs ds → PyData.canLayAll0 ds = true → L2.DpAll K G vs ds
  | _, _, .nil, _ => .nil
  | _, _, .cons h1 h2, c => by
    simp only [PyData.canLayAll0, Bool.and_eq_true] at c
    exact .cons (da_dp h1 c.1) (daAll_dp h2 c.2)
end
theorem Da.ex {K : PySem.W.Frag} {G G' : Hp} {v : V} {d : PyData} (h : Da K G v d) (e : Ex G G') : Da K G' v d := da_ex e h
theorem DaAll.ex {K : PySem.W.Frag} {G G' : Hp} {vs : List V} {ds : List PyData} (h : DaAll K G vs ds) (e : Ex G G') : DaAll K G' vs ds := daAll_ex e h
theorem DaAll.len {K : PySem.W.Frag} {G : Hp} : ∀ {vs : List V} {ds : List PyData}, DaAll K G vs ds → vs.length = ds.length
  | _, [], h => by cases h; rfl
  | _, d :: ds, h => by
    cases h with
    | cons h1 h2 => rw [List.length_cons, List.length_cons, DaAll.len h2]
theorem DaAll.get {K : PySem.W.Frag} {G : Hp} : ∀ {vs : List V} {ds : List PyData} {i : Nat} {v : V}, DaAll K G vs ds → vs[i]? = some v → ∃ d, ds[i]? = some d ∧ Da K G v d
  | _, [], _, _, h, e => by cases h; simp at e
  | _, d :: ds, 0, v, h, e => by
    cases h with
    | cons h1 h2 => simp at e; subst e; exact ⟨d, rfl, h1⟩
  | _, d :: ds, i + 1, v, h, e => by
    cases h with
    | cons h1 h2 => simpa using DaAll.get (i := i) h2 (by simpa using e)
theorem DaAll.at {K : PySem.W.Frag} {G : Hp} : ∀ {vs : List V} {ds : List PyData} {i : Nat} {d : PyData}, DaAll K G vs ds → ds[i]? = some d → ∃ v, vs[i]? = some v ∧ Da K G v d
  | _, [], _, _, h, e => by simp at e
  | _, d :: ds, 0, v, h, e => by
    cases h with
    | cons h1 h2 => simp at e; subst e; exact ⟨_, rfl, h1⟩
  | _, d :: ds, i + 1, v, h, e => by
    cases h with
    | cons h1 h2 => simpa using DaAll.at (i := i) h2 (by simpa using e)
theorem DaAll.append {K : PySem.W.Frag} {G : Hp} : ∀ {vs : List V} {ds : List PyData} {us : List V} {es : List PyData}, DaAll K G vs ds → DaAll K G us es → DaAll K G (vs ++ us) (ds ++ es)
  | _, [], _, _, h, k => by cases h; exact k
  | _, d :: ds, _, _, h, k => by
    cases h with
    | cons h1 h2 => exact .cons h1 (DaAll.append h2 k)
theorem DaAll.take {K : PySem.W.Frag} {G : Hp} : ∀ {vs : List V} {ds : List PyData} (n : Nat), DaAll K G vs ds → DaAll K G (vs.take n) (ds.take n)
  | _, _, 0, _ => .nil
  | _, [], n + 1, h => by cases h; exact .nil
  | _, d :: ds, n + 1, h => by
    cases h with
    | cons h1 h2 => exact .cons h1 (DaAll.take n h2)
theorem DaAll.drop {K : PySem.W.Frag} {G : Hp} : ∀ {vs : List V} {ds : List PyData} (n : Nat), DaAll K G vs ds → DaAll K G (vs.drop n) (ds.drop n)
  | _, _, 0, h => h
  | _, [], n + 1, h => by cases h; exact .nil
  | _, d :: ds, n + 1, h => by
    cases h with
    | cons h1 h2 => exact DaAll.drop n h2
theorem DaAll.set {K : PySem.W.Frag} {G : Hp} {v : V} {d : PyData} (hd : Da K G v d) : ∀ {vs : List V} {ds : List PyData} (i : Nat), DaAll K G vs ds → DaAll K G (vs.set i v) (ds.set i d)
  | _, [], i, h => by cases h; exact .nil
  | _, e :: ds, 0, h => by
    cases h with
    | cons h1 h2 => exact .cons hd h2
  | _, e :: ds, i + 1, h => by
    cases h with
    | cons h1 h2 => exact .cons h1 (DaAll.set hd i h2)
theorem DaAll.ints {K : PySem.W.Frag} {G : Hp} : ∀ {vs : List V} {ns : List Int}, DaAll K G vs (ns.map PyData.int) → vs = ns.map V.int
  | _, [], h => by cases h; rfl
  | _, n :: ns, h => by
    cases h with
    | cons h1 h2 => cases h1; rw [DaAll.ints h2]; rfl
theorem DaAll.bools {K : PySem.W.Frag} {G : Hp} : ∀ {vs : List V} {ns : List Bool}, DaAll K G vs (ns.map PyData.bool) → vs = ns.map V.bl
  | _, [], h => by cases h; rfl
  | _, n :: ns, h => by
    cases h with
    | cons h1 h2 => cases h1; rw [DaAll.bools h2]; rfl
theorem DaAll.ofInts {K : PySem.W.Frag} {G : Hp} : ∀ (ns : List Int), DaAll K G (ns.map V.int) (ns.map PyData.int)
  | [] => .nil
  | n :: ns => .cons (.int n) (DaAll.ofInts ns)
inductive Mk where
  | dS (kds : List (Key × PyData))
  | dL (kls : List (Key × List PyData))
  | lL (dss : List (List PyData))
def Fp (H : Hp) (v : V) : Mk → Addr → Prop
  | .dS _, a => v = .ref a
  | .dL _, a => v = .ref a ∨ ∃ p kvs k, v = .ref p ∧ H p = some (.dK kvs) ∧ (k, V.ref a) ∈ kvs
  | .lL _, a => v = .ref a ∨ ∃ p vs, v = .ref p ∧ H p = some (.lst vs) ∧ V.ref a ∈ vs
def LiOk (K : PySem.W.Frag) (G H : Hp) (v : V) (ds : List PyData) : Prop := ∃ q us, v = .ref q ∧ H q = some (.lst us) ∧ DaAll K G us ds
def MkOk (K : PySem.W.Frag) (G H : Hp) (v : V) : Mk → Prop
  | .dS kds => ∃ p kvs, v = .ref p ∧ H p = some (.dK kvs) ∧ kvs.map (·.1) = kds.map (·.1) ∧ DaAll K G (kvs.map (·.2)) (kds.map (·.2))
  | .dL kls => ∃ p kvs, v = .ref p ∧ H p = some (.dK kvs) ∧ Paired (fun kv kl => kv.1 = kl.1 ∧ LiOk K G H kv.2 kl.2) kvs kls ∧ (kvs.map (·.2)).Nodup ∧ (kvs.map (·.1)).Nodup
  | .lL dss => ∃ p vs, v = .ref p ∧ H p = some (.lst vs) ∧ Paired (fun u ds => LiOk K G H u ds) vs dss ∧ vs.Nodup ∧ V.ref p ∉ vs
def dicD (acc : List (Key × PyData)) : PyData := .dict (acc.map fun kv => (kD kv.1, kv.2))
theorem paired_mem {A B : Type} {R : A → B → Prop} : ∀ {xs : List A} {ys : List B}, Paired R xs ys → ∀ x ∈ xs, ∃ y, R x y
  | _, _, .nil, x, h => nomatch h
  | _, _, .cons h t, x, hx => by
    rcases List.mem_cons.mp hx with rfl | hx
    · exact ⟨_, h⟩
    · exact paired_mem t x hx
theorem paired_imp {A B : Type} {R R' : A → B → Prop} : ∀ {xs : List A} {ys : List B}, Paired R xs ys → (∀ x y, x ∈ xs → R x y → R' x y) → Paired R' xs ys
  | _, _, .nil, _ => .nil
  | _, _, .cons h t, f => .cons (f _ _ List.mem_cons_self h) (paired_imp t fun x y hx => f x y (List.mem_cons_of_mem _ hx))
theorem li_mono {K : PySem.W.Frag} {G G' H H' : Hp} {v : V} {ds : List PyData} (h : LiOk K G H v ds) (e : Ex G G') (f : ∀ a, v = .ref a → H' a = H a) : LiOk K G' H' v ds := by
  obtain ⟨q, us, rfl, h1, h2⟩ := h
  exact ⟨q, us, rfl, (f q rfl).trans h1, h2.ex e⟩
theorem mk_mono {K : PySem.W.Frag} {G G' H H' : Hp} {v : V} {m : Mk} (h : MkOk K G H v m) (e : Ex G G') (f : ∀ a, Fp H v m a → H' a = H a) : MkOk K G' H' v m := by
  cases m with
  | dS kds =>
    obtain ⟨p, kvs, rfl, h1, h2, h3⟩ := h
    exact ⟨p, kvs, rfl, (f p rfl).trans h1, h2, h3.ex e⟩
  | dL kls =>
    obtain ⟨p, kvs, rfl, h1, h2, h3⟩ := h
    exact ⟨p, kvs, rfl, (f p (.inl rfl)).trans h1, paired_imp h2 fun x y hx h => ⟨h.1, li_mono h.2 e fun a ha => f a (.inr ⟨p, kvs, x.1, rfl, h1, by rw [← ha]; exact hx⟩)⟩, h3⟩
  | lL dss =>
    obtain ⟨p, vs, rfl, h1, h2, h3, h4⟩ := h
    exact ⟨p, vs, rfl, (f p (.inl rfl)).trans h1, paired_imp h2 fun x y hx h => li_mono h e fun a ha => f a (.inr ⟨p, vs, rfl, h1, by rw [← ha]; exact hx⟩), h3, h4⟩
theorem fp_mono {H H' : Hp} {v : V} : ∀ {m : Mk}, (∀ a, Fp H v m a → H' a = H a) → ∀ a, Fp H' v m a → Fp H v m a
  | .dS kds, f, a, h => h
  | .dL kls, f, a, h => by
    rcases h with h | ⟨p, kvs, k, hv, h1, h2⟩
    · exact .inl h
    · exact .inr ⟨p, kvs, k, hv, (f p (.inl hv)).symm.trans h1, h2⟩
  | .lL dss, f, a, h => by
    rcases h with h | ⟨p, vs, hv, h1, h2⟩
    · exact .inl h
    · exact .inr ⟨p, vs, hv, (f p (.inl hv)).symm.trans h1, h2⟩
theorem fp_live {K : PySem.W.Frag} {G H : Hp} {v : V} {m : Mk} (h : MkOk K G H v m) : ∀ a, Fp H v m a → H a ≠ none := by
  cases m with
  | dS kds =>
    obtain ⟨p, kvs, rfl, h1, h2, h3⟩ := h
    intro a h
    cases h
    exact some_ne h1
  | dL kls =>
    obtain ⟨p, kvs, rfl, h1, h2, h3⟩ := h
    intro a h
    rcases h with h | ⟨p', kvs', k, e, h4, h5⟩
    · cases h; exact some_ne h1
    · cases e
      rw [h1] at h4
      cases h4
      obtain ⟨y, _, q, us, e, h6, _⟩ := paired_mem h2 _ h5
      cases e
      exact some_ne h6
  | lL dss =>
    obtain ⟨p, vs, rfl, h1, h2, h3, _⟩ := h
    intro a h
    rcases h with h | ⟨p', vs', e, h4, h5⟩
    · cases h; exact some_ne h1
    · cases e
      rw [h1] at h4
      cases h4
      obtain ⟨y, q, us, e, h6, _⟩ := paired_mem h2 _ h5
      cases e
      exact some_ne h6
theorem fp_nt {K : PySem.W.Frag} {G H : Hp} {v : V} {m : Mk} (h : MkOk K G H v m) : ∀ a, Fp H v m a → ∀ o, H a = some o → isM o = true := by
  cases m with
  | dS kds =>
    obtain ⟨p, kvs, rfl, h1, h2, h3⟩ := h
    intro a h o ho
    cases h
    rw [h1] at ho; cases ho; rfl
  | dL kls =>
    obtain ⟨p, kvs, rfl, h1, h2, h3⟩ := h
    intro a h o ho
    rcases h with h | ⟨p', kvs', k, e, h4, h5⟩
    · cases h; rw [h1] at ho; cases ho; rfl
    · cases e
      rw [h1] at h4
      cases h4
      obtain ⟨y, _, q, us, e, h6, _⟩ := paired_mem h2 _ h5
      cases e
      rw [h6] at ho; cases ho; rfl
  | lL dss =>
    obtain ⟨p, vs, rfl, h1, h2, h3, _⟩ := h
    intro a h o ho
    rcases h with h | ⟨p', vs', e, h4, h5⟩
    · cases h; rw [h1] at ho; cases ho; rfl
    · cases e
      rw [h1] at h4
      cases h4
      obtain ⟨y, q, us, e, h6, _⟩ := paired_mem h2 _ h5
      cases e
      rw [h6] at ho; cases ho; rfl
inductive Sl where
  | no
  | val (d : PyData)
  | own (io : Bool) (ds : List PyData)
  | big (m : Mk)
abbrev S := List Sl
def Fs (H : Hp) (s : Sl) (v : V) (a : Addr) : Prop := match s with
  | .own _ _ => v = .ref a
  | .big m => Fp H v m a
  | _ => False
def SlOk (K : PySem.W.Frag) (G H : Hp) (s : Sl) (v : V) : Prop := match s with
  | .own _ ds => LiOk K G H v ds
  | .big m => MkOk K G H v m
  | _ => True
def mine : Sl → Bool
  | .own _ _ => true
  | .big _ => true
  | _ => false
theorem fs_mine {H : Hp} {s : Sl} {v : V} {a : Addr} (h : Fs H s v a) : mine s = true := by
  cases s with
  | no => exact h.elim
  | val _ => exact h.elim
  | own _ _ => rfl
  | big _ => rfl
theorem sl_mono {K : PySem.W.Frag} {G G' H H' : Hp} {s : Sl} {v : V} (h : SlOk K G H s v) (e : Ex G G') (f : ∀ a, Fs H s v a → H' a = H a) : SlOk K G' H' s v := by
  cases s with
  | no => exact h
  | val _ => exact h
  | own _ ds => exact li_mono h e f
  | big m => exact mk_mono h e f
theorem fs_mono {H H' : Hp} {s : Sl} {v : V} (f : ∀ a, Fs H s v a → H' a = H a) : ∀ a, Fs H' s v a → Fs H s v a := by
  cases s with
  | no => exact fun _ h => h
  | val _ => exact fun _ h => h
  | own _ ds => exact fun _ h => h
  | big m => exact fp_mono f
theorem fs_live {K : PySem.W.Frag} {G H : Hp} {s : Sl} {v : V} (h : SlOk K G H s v) : ∀ a, Fs H s v a → H a ≠ none := by
  cases s with
  | no => exact fun _ h => h.elim
  | val _ => exact fun _ h => h.elim
  | own _ ds =>
    obtain ⟨q, us, rfl, h1, _⟩ := h
    intro a ha
    cases ha
    exact some_ne h1
  | big m => exact fp_live h
theorem fs_nt {K : PySem.W.Frag} {G H : Hp} {s : Sl} {v : V} (h : SlOk K G H s v) : ∀ a, Fs H s v a → ∀ o, H a = some o → isM o = true := by
  cases s with
  | no => exact fun _ h => h.elim
  | val _ => exact fun _ h => h.elim
  | own _ ds =>
    obtain ⟨q, us, rfl, h1, _⟩ := h
    intro a ha o ho
    cases ha
    rw [h1] at ho; cases ho; rfl
  | big m => exact fp_nt h
def Ow (H : Hp) (sg : St) (dl : S) (p : Addr) : Prop := ∃ (i : Nat) (s : Sl) (v : V), dl[i]? = some s ∧ sg[i]? = some (some v) ∧ Fs H s v p
theorem Ow.own {H : Hp} {sg : St} {dl : S} {i : Nat} {b : Bool} {ds : List PyData} {p : Addr} (h1 : dl[i]? = some (.own b ds)) (h2 : sg[i]? = some (some (.ref p))) : Ow H sg dl p := ⟨i, _, _, h1, h2, rfl⟩
structure Rel (K : PySem.W.Frag) (G H : Hp) (sg : St) (dl : S) : Prop where
  len : sg.length = dl.length
  ex : Ex G H
  nt : NoT G
  tb : Tb K H
  val : ∀ (i : Nat) (d : PyData), dl[i]? = some (.val d) → ∃ v, sg[i]? = some (some v) ∧ Da K G v d
  mn : ∀ (i : Nat) (s : Sl), dl[i]? = some s → mine s = true → ∃ v, sg[i]? = some (some v) ∧ SlOk K G H s v ∧ ∀ a, Fs H s v a → G a = none
  dj : ∀ (i j : Nat) (s s' : Sl) (v v' : V) (a : Addr), dl[i]? = some s → dl[j]? = some s' → sg[i]? = some (some v) → sg[j]? = some (some v') → Fs H s v a → Fs H s' v' a → i = j
theorem Rel.own {K : PySem.W.Frag} {G H : Hp} {sg : St} {dl : S} (r : Rel K G H sg dl) (i : Nat) (b : Bool) (ds : List PyData) (h : dl[i]? = some (.own b ds)) : ∃ p vs, sg[i]? = some (some (.ref p)) ∧ G p = none ∧ H p = some (.lst vs) ∧ DaAll K G vs ds := by
  obtain ⟨v, h1, ⟨q, us, rfl, h2, h3⟩, h4⟩ := r.mn i _ h rfl
  exact ⟨q, us, h1, h4 q rfl, h2, h3⟩
theorem Rel.inj {K : PySem.W.Frag} {G H : Hp} {sg : St} {dl : S} (r : Rel K G H sg dl) (i j : Nat) (b b' : Bool) (ds ds' : List PyData) (p : Addr) (h1 : dl[i]? = some (.own b ds)) (h2 : dl[j]? = some (.own b' ds')) (h3 : sg[i]? = some (some (.ref p))) (h4 : sg[j]? = some (some (.ref p))) : i = j :=
  r.dj i j _ _ _ _ p h1 h2 h3 h4 rfl rfl
theorem Rel.mo {K : PySem.W.Frag} {G H : Hp} {sg : St} {dl : S} (r : Rel K G H sg dl) {i : Nat} {s : Sl} {v : V} {a : Addr} (h : dl[i]? = some s) (h2 : sg[i]? = some (some v)) (h3 : Fs H s v a) : SlOk K G H s v ∧ G a = none ∧ H a ≠ none := by
  obtain ⟨v', e1, e2, e3⟩ := r.mn i s h (fs_mine h3)
  rw [h2] at e1
  cases e1
  exact ⟨e2, e3 a h3, fs_live e2 a h3⟩
theorem Rel.ow {K : PySem.W.Frag} {G H : Hp} {sg : St} {dl : S} (r : Rel K G H sg dl) {p : Addr} (h : Ow H sg dl p) : G p = none ∧ H p ≠ none := by
  obtain ⟨i, s, v, h1, h2, h3⟩ := h
  exact (r.mo h1 h2 h3).2
theorem Rel.back {K : PySem.W.Frag} {G H H' : Hp} {sg : St} {dl : S} (r : Rel K G H sg dl) (e : Ex H H') {p : Addr} (h : Ow H' sg dl p) : Ow H sg dl p := by
  obtain ⟨i, s, v, h1, h2, h3⟩ := h
  refine ⟨i, s, v, h1, h2, fs_mono (fun a ha => ?_) p h3⟩
  obtain ⟨o, ho⟩ := ne_some (r.mo h1 h2 ha).2.2
  rw [ho]; exact e a o ho
theorem Rel.owt {K : PySem.W.Frag} {G H : Hp} {sg : St} {dl : S} (r : Rel K G H sg dl) {p : Addr} (h : Ow H sg dl p) {o : HO} (ho : H p = some o) : isT o = false := by
  obtain ⟨i, s, v, h1, h2, h3⟩ := h
  exact isM_nt (fs_nt (r.mo h1 h2 h3).1 p h3 o ho)
theorem Rel.keep {K : PySem.W.Frag} {G H G' H' : Hp} {sg : St} {dl : S} (r : Rel K G H sg dl) (eg : Ex G G') (ex : Ex G' H') (nt : NoT G') (tb : Tb K H') (f : ∀ a, Ow H sg dl a → H' a = H a) (g : ∀ a, Ow H sg dl a → G' a = none) : Rel K G' H' sg dl ∧ ∀ a, Ow H' sg dl a → Ow H sg dl a := by
  have ff : ∀ {i : Nat} {s : Sl} {v : V}, dl[i]? = some s → sg[i]? = some (some v) → ∀ a, Fs H s v a → H' a = H a := fun h1 h2 a h3 => f a ⟨_, _, _, h1, h2, h3⟩
  refine ⟨⟨r.len, ex, nt, tb, fun i d h => let ⟨v, h1, h2⟩ := r.val i d h; ⟨v, h1, h2.ex eg⟩, fun i s h hm => ?_, fun i j s s' v v' a h1 h2 h3 h4 h5 h6 => r.dj i j s s' v v' a h1 h2 h3 h4 (fs_mono (ff h1 h3) a h5) (fs_mono (ff h2 h4) a h6)⟩, fun a ⟨i, s, v, h1, h2, h3⟩ => ⟨i, s, v, h1, h2, fs_mono (ff h1 h2) a h3⟩⟩
  obtain ⟨v, h1, h2, h3⟩ := r.mn i s h hm
  exact ⟨v, h1, sl_mono h2 eg (ff h h1), fun a ha => g a ⟨i, s, v, h, h1, fs_mono (ff h h1) a ha⟩⟩
structure Stp (K : PySem.W.Frag) (G H : Hp) (sg : St) (dl : S) (G' H' : Hp) (sg' : St) (dl' : S) : Prop where
  rel : Rel K G' H' sg' dl'
  g : Ex G G'
  k : ∀ a o, ¬ Ow H sg dl a → isT o = false → H a = some o → H' a = some o
  n : ∀ a, ¬ Ow H sg dl a → H a ≠ none → G a = none → G' a = none
  w : ∀ p, Ow H' sg' dl' p → Ow H sg dl p ∨ H p = none
  d : ∀ a, H a ≠ none → H' a ≠ none
  io : ∀ (j : Nat) (ds : List PyData), dl'[j]? = some (.own true ds) → (∃ ds0, dl[j]? = some (.own true ds0)) ∧ sg'[j]? = sg[j]?
theorem Stp.refl {K : PySem.W.Frag} {G H : Hp} {sg : St} {dl : S} (r : Rel K G H sg dl) : Stp K G H sg dl G H sg dl :=
  ⟨r, Ex.refl G, fun _ _ _ _ h => h, fun _ _ _ h => h, fun _ h => .inl h, fun _ h => h, fun _ ds h => ⟨⟨ds, h⟩, rfl⟩⟩
theorem Stp.nw {K : PySem.W.Frag} {G H G1 H1 : Hp} {sg sg1 : St} {dl dl1 : S} (a : Stp K G H sg dl G1 H1 sg1 dl1) {p : Addr} (h : ¬ Ow H sg dl p) (hp : H p ≠ none) : ¬ Ow H1 sg1 dl1 p := fun q =>
  (a.w p q).elim h hp
theorem Stp.trans {K : PySem.W.Frag} {G H G1 H1 G2 H2 : Hp} {sg sg1 sg2 : St} {dl dl1 dl2 : S} (a : Stp K G H sg dl G1 H1 sg1 dl1) (b : Stp K G1 H1 sg1 dl1 G2 H2 sg2 dl2) : Stp K G H sg dl G2 H2 sg2 dl2 where
  rel := b.rel
  g := a.g.trans b.g
  k := fun x o h t e => b.k x o (a.nw h (some_ne e)) t (a.k x o h t e)
  n := fun x h e z => b.n x (a.nw h e) (a.d x e) (a.n x h e z)
  w := fun p h => by
    rcases b.w p h with q | q
    · exact a.w p q
    · refine .inr ?_
      cases e : H p with
      | none => rfl
      | some o => exact absurd q (a.d p (some_ne e))
  d := fun x h => b.d x (a.d x h)
  io := fun j ds h => by
    obtain ⟨⟨ds0, e0⟩, e1⟩ := b.io j ds h
    obtain ⟨e2, e3⟩ := a.io j ds0 e0
    exact ⟨e2, e1.trans e3⟩
def Kp (dl dl' : S) : Prop := dl'.length = dl.length ∧ ∀ i : Nat, match dl[i]? with
  | some (.val d) => dl'[i]? = some (.val d)
  | some (.own b _) => (∃ ds', dl'[i]? = some (.own b ds')) ∨ (b = false ∧ ∃ ds', dl'[i]? = some (.val (.list ds')))
  | some (.big _) => (∃ m', dl'[i]? = some (.big m')) ∨ ∃ d, dl'[i]? = some (.val d)
  | some .no => dl'[i]? = some .no
  | none => dl'[i]? = none
theorem Kp.refl (dl : S) : Kp dl dl := ⟨rfl, fun i => by
  cases h : dl[i]? with
  | none => rfl
  | some s =>
    cases s with
    | no => rfl
    | val d => rfl
    | own b ds => exact .inl ⟨ds, rfl⟩
    | big m => exact .inl ⟨m, rfl⟩⟩
theorem Kp.trans {d0 d1 d2 : S} (a : Kp d0 d1) (b : Kp d1 d2) : Kp d0 d2 := ⟨b.1.trans a.1, fun i => by
  have ha := a.2 i
  have hb := b.2 i
  cases h : d0[i]? with
  | none =>
    rw [h] at ha
    dsimp only at ha
    rw [ha] at hb
    exact hb
  | some s =>
    rw [h] at ha
    cases s with
    | no =>
      dsimp only at ha
      rw [ha] at hb
      exact hb
    | val d =>
      dsimp only at ha
      rw [ha] at hb
      exact hb
    | own c ds =>
      dsimp only at ha
      rcases ha with ⟨ds', e⟩ | ⟨hc, ds', e⟩
      · rw [e] at hb
        exact hb
      · rw [e] at hb
        exact .inr ⟨hc, ds', hb⟩
    | big m =>
      dsimp only at ha
      rcases ha with ⟨m', e⟩ | ⟨d, e⟩
      · rw [e] at hb
        exact hb
      · rw [e] at hb
        exact .inr ⟨d, hb⟩⟩
inductive Rv where
  | val (d : PyData)
  | loc (i : Nat)
  | new (ds : List PyData)
def rdS (dl : S) (i : Nat) : Option PyData := match dl[i]? with
  | some (.val d) => some d
  | some (.own _ ds) => some (.list ds)
  | _ => none
def rd (dl : S) : Rv → Option PyData
  | .val d => some d
  | .new ds => some (.list ds)
  | .loc i => rdS dl i
def RvOk (K : PySem.W.Frag) (G H : Hp) (sg : St) (dl : S) (H0 : Hp) (v : V) : Rv → Prop
  | .val d => Da K G v d
  | .loc i => sg[i]? = some (some v) ∧ ∃ d, rdS dl i = some d
  | .new ds => ∃ p vs, v = .ref p ∧ H0 p = none ∧ H p = some (.lst vs) ∧ G p = none ∧ ¬ Ow H sg dl p ∧ DaAll K G vs ds
theorem Kp.rd {dl dl' : S} (h : Kp dl dl') {i : Nat} {d : PyData} (e : rdS dl i = some d) : ∃ d', rdS dl' i = some d' := by
  have q := h.2 i
  unfold rdS at e ⊢
  cases hs : dl[i]? with
  | none => rw [hs] at e; cases e
  | some s =>
    rw [hs] at e q
    cases s with
    | no => cases e
    | val x => dsimp only at q; rw [q]; exact ⟨x, rfl⟩
    | own b ds =>
      dsimp only at q
      rcases q with ⟨ds', q⟩ | ⟨_, ds', q⟩
      · rw [q]; exact ⟨_, rfl⟩
      · rw [q]; exact ⟨_, rfl⟩
    | big m => cases e
theorem RvOk.mono {K : PySem.W.Frag} {G H G' H' H0 : Hp} {sg : St} {dl dl' : S} {v : V} {r : Rv} (h : RvOk K G H sg dl H0 v r) (s : Stp K G H sg dl G' H' sg dl') (k : Kp dl dl') : RvOk K G' H' sg dl' H0 v r := by
  cases r with
  | val d => exact Da.ex h s.g
  | loc i =>
    obtain ⟨h1, d, h2⟩ := h
    exact ⟨h1, k.rd h2⟩
  | new ds =>
    obtain ⟨p, vs, e, h0, hp, hg, hw, ha⟩ := h
    exact ⟨p, vs, e, h0, s.k p _ hw rfl hp, s.n p hw (some_ne hp) hg, s.nw hw (some_ne hp), ha.ex s.g⟩
theorem RvOk.from {K : PySem.W.Frag} {G H H0 H1 : Hp} {sg : St} {dl : S} {v : V} {r : Rv} (h : RvOk K G H sg dl H1 v r) (d : ∀ a, H0 a ≠ none → H1 a ≠ none) : RvOk K G H sg dl H0 v r := by
  cases r with
  | val d => exact h
  | loc i => exact h
  | new ds =>
    obtain ⟨p, vs, e, h0, r⟩ := h
    refine ⟨p, vs, e, ?_, r⟩
    cases q : H0 p with
    | none => rfl
    | some o => exact absurd h0 (d p (some_ne q))
inductive Tr (K : PySem.W.Frag) (G H : Hp) (v : V) : PyData → Prop
  | st {d : PyData} : Da K G v d → Tr K G H v d
  | li {p : Addr} {vs : List V} {ds : List PyData} : v = .ref p → H p = some (.lst vs) → DaAll K G vs ds → Tr K G H v (.list ds)
theorem RvOk.tr {K : PySem.W.Frag} {G H H0 : Hp} {sg : St} {dl : S} {v : V} {r : Rv} {d : PyData} (h : RvOk K G H sg dl H0 v r) (re : Rel K G H sg dl) (e : rd dl r = some d) : Tr K G H v d := by
  cases r with
  | val d' => cases e; exact .st h
  | new ds =>
    cases e
    obtain ⟨p, vs, e, _, hp, _, _, ha⟩ := h
    exact .li e hp ha
  | loc i =>
    obtain ⟨h1, _⟩ := h
    have e' : rdS dl i = some d := e
    unfold rdS at e'
    cases hs : dl[i]? with
    | none => rw [hs] at e'; cases e'
    | some s =>
      rw [hs] at e'
      cases s with
      | no => cases e'
      | val x =>
        cases e'
        obtain ⟨v', q1, q2⟩ := re.val i d hs
        rw [h1] at q1
        cases q1
        exact .st q2
      | own b ds =>
        cases e'
        obtain ⟨p, vs, q1, _, q3, q4⟩ := re.own i b ds hs
        rw [h1] at q1
        cases q1
        exact .li rfl q3 q4
      | big m => cases e'
theorem Tr.da {K : PySem.W.Frag} {G H : Hp} {v : V} {d : PyData} (h : Tr K G H v d) (e : Ex G H) : Da K H v d := by
  cases h with
  | st h => exact h.ex e
  | li e1 e2 e3 => subst e1; exact .lst (.inl (.inl e2)) (e3.ex e)
theorem Tr.dp {K : PySem.W.Frag} {G H : Hp} {v : V} {d : PyData} (h : Tr K G H v d) (e : Ex G H) (hs : SeqAt.shaped d = true) : L2.Dp K H v d := da_dp (h.da e) (SeqAt.canLay_of_shaped hs)
theorem Tr.lst {K : PySem.W.Frag} {G H : Hp} {v : V} {ds : List PyData} (h : Tr K G H v (.list ds)) (e : Ex G H) : ∃ p vs, v = .ref p ∧ SqL K H p vs ∧ DaAll K G vs ds := by
  cases h with
  | st h =>
    cases h with
    | lst hs ha => exact ⟨_, _, rfl, ex_l e hs, ha⟩
  | li e1 e2 e3 => exact ⟨_, _, e1, .inl (.inl e2), e3⟩
theorem Tr.tup {K : PySem.W.Frag} {G H : Hp} {v : V} {ds : List PyData} (h : Tr K G H v (.tuple ds)) (e : Ex G H) : ∃ p vs, v = .ref p ∧ SqT K H p vs ∧ DaAll K G vs ds := by
  cases h with
  | st h =>
    cases h with
    | tup hs ha => exact ⟨_, _, rfl, ex_t e hs, ha⟩
theorem Tr.int {K : PySem.W.Frag} {G H : Hp} {v : V} {i : Int} (h : Tr K G H v (.int i)) : v = .int i := by
  cases h with
  | st h => cases h; rfl
theorem Tr.bl {K : PySem.W.Frag} {G H : Hp} {v : V} {b : Bool} (h : Tr K G H v (.bool b)) : v = .bl b := by
  cases h with
  | st h => cases h; rfl
theorem Tr.str {K : PySem.W.Frag} {G H : Hp} {v : V} {x : Str} (h : Tr K G H v (.str x)) : v = .str x := by
  cases h with
  | st h => cases h; rfl
theorem Tr.non {K : PySem.W.Frag} {G H : Hp} {v : V} (h : Tr K G H v .none) : v = .non := by
  cases h with
  | st h => cases h; rfl
structure Alc (G H G' H' : Hp) : Prop where
  g : Ex G G'
  h : Ex H H'
  n : ∀ a, H a ≠ none → G' a = G a
  s : Ex G' H'
  t : NoT G → NoT G'
theorem Alc.refl {G H : Hp} (e : Ex G H) : Alc G H G H := ⟨Ex.refl G, Ex.refl H, fun _ _ => rfl, e, id⟩
theorem Alc.made {G H : Hp} (e : Ex G H) {p : Addr} (hp : H p = none) (o : HO) (ho : isT o = false := by rfl) : Alc G H (upd G p o) (upd H p o) where
  g := Ex.new (e.nn hp)
  h := Ex.new hp
  n := fun a ha => upd_ne fun z => ha (by rw [z]; exact hp)
  s := fun a u h => by
    by_cases z : a = p
    · subst z; rw [upd_same] at h ⊢; exact h
    · rw [upd_ne z] at h ⊢; exact e a u h
  t := fun h => h.upd ho
theorem Alc.li {G H : Hp} (e : Ex G H) {p : Addr} (hp : H p = none) (o : HO) : Alc G H G (upd H p o) where
  g := Ex.refl G
  h := Ex.new hp
  n := fun a ha => rfl
  s := e.trans (Ex.new hp)
  t := id
theorem Alc.trans {G H G1 H1 G2 H2 : Hp} (a : Alc G H G1 H1) (b : Alc G1 H1 G2 H2) : Alc G H G2 H2 :=
  ⟨a.g.trans b.g, a.h.trans b.h, fun x h => (b.n x (a.h.sm h)).trans (a.n x h), b.s, fun h => b.t (a.t h)⟩
theorem Alc.stp {K : PySem.W.Frag} {G H G' H' : Hp} {sg : St} {dl : S} (a : Alc G H G' H') (r : Rel K G H sg dl) : Stp K G H sg dl G' H' sg dl := by
  have f : ∀ x, Ow H sg dl x → H' x = H x := fun x hx => by
    obtain ⟨o, ho⟩ := ne_some (r.ow hx).2
    rw [ho]; exact a.h x o ho
  obtain ⟨r', w'⟩ := r.keep a.g a.s (a.t r.nt) (r.tb.ex a.h) f fun x hx => (a.n x (r.ow hx).2).trans (r.ow hx).1
  exact ⟨r', a.g, fun x o _ _ h => a.h x o h, fun x _ h e => (a.n x h).trans e, fun p h => .inl (w' p h), fun x h => a.h.sm h, fun _ ds h => ⟨⟨ds, h⟩, rfl⟩⟩
inductive Out (A : Type) where
  | ok (a : A) (dl : S)
  | ex (c : Str) (dl : S)
  | bad
def Out.bind {A B : Type} : Out A → (A → S → Out B) → Out B
  | .ok a dl, k => k a dl
  | .ex c dl, _ => .ex c dl
  | .bad, _ => .bad
def Post {A : Type} (X : Cx) (W : WX) (G H : Hp) (sg : St) (dl : S) (P : A → S → Hp → Hp → Prop) : Out A → Prop
  | .ok a dl' => ∀ G' H', Stp X.K G H sg dl G' H' sg dl' → Kp dl dl' → P a dl' G' H'
  | .ex c dl' => ∀ C G' H', X.mg c = some (.ref C) → Stp X.K G H sg dl G' H' sg dl' → W (.ref C) none sg H'
  | .bad => False
theorem post_bind {A B : Type} {X : Cx} {W : WX} {G H : Hp} {sg : St} {dl : S} {P : B → S → Hp → Hp → Prop} {o : Out A} {k : A → S → Out B} (h : Post X W G H sg dl P (o.bind k)) :
    Post X W G H sg dl (fun a d1 G1 H1 => Post X W G1 H1 sg d1 P (k a d1)) o := by
  cases o with
  | bad => exact h
  | ex c d1 => exact h
  | ok a d1 =>
    intro G1 H1 s1 k1
    have h' : Post X W G H sg dl P (k a d1) := h
    show Post X W G1 H1 sg d1 P (k a d1)
    cases q : k a d1 with
    | bad => rw [q] at h'; exact h'
    | ex c d2 =>
      rw [q] at h'
      exact fun C G2 H2 hc s2 => h' C G2 H2 hc (s1.trans s2)
    | ok b d2 =>
      rw [q] at h'
      exact fun G2 H2 s2 k2 => h' G2 H2 (s1.trans s2) (k1.trans k2)
theorem post_bind0 {A B : Type} {X : Cx} {W : WX} {G H : Hp} {sg : L2.St} {dl : S} {P : B → S → Hp → Hp → Prop} {o : Out A} {k : A → S → Out B} (h : Post X W G H sg dl P (o.bind k)) :
    Post X W G H sg dl (fun a d1 _ _ => ∀ G1 H1, Stp X.K G H sg dl G1 H1 sg d1 → Kp dl d1 → Post X W G1 H1 sg d1 P (k a d1)) o := by
  have h' := post_bind h
  cases o with
  | bad => exact h'
  | ex c d1 => exact h'
  | ok a d1 => exact fun _ _ _ _ G1 H1 s k => h' G1 H1 s k
theorem Post.imp {A : Type} {X : Cx} {W : WX} {G H : Hp} {sg : St} {dl : S} {P P' : A → S → Hp → Hp → Prop} {o : Out A} (h : Post X W G H sg dl P o)
    (f : ∀ a d1 G1 H1, Stp X.K G H sg dl G1 H1 sg d1 → Kp dl d1 → P a d1 G1 H1 → P' a d1 G1 H1) : Post X W G H sg dl P' o := by
  cases o with
  | bad => exact h
  | ex c d1 => exact h
  | ok a d1 => exact fun G1 H1 s k => f a d1 G1 H1 s k (h G1 H1 s k)
theorem Post.imp0 {A : Type} {X : Cx} {W : WX} {G H : Hp} {sg : L2.St} {dl : S} {P P' : A → S → Hp → Hp → Prop} {o : Out A} (h : Post X W G H sg dl P o)
    (f : ∀ a d1 G1 H1, Stp X.K G H sg dl G1 H1 sg d1 → Kp dl d1 → P a d1 G1 H1 → P' a d1 G1 H1) : Post X W G H sg dl P' o := h.imp f
def wE (X : Cx) (sg : St) (H : Hp) (Q : VK) : Rv → S → Hp → Hp → Prop := fun r dl' G' H' => ∀ v, RvOk X.K G' H' sg dl' H v r → Q v H'
def SoE (X : Cx) (W : WX) (t : TE) (f : S → Out Rv) : Prop := ∀ G H sg dl Q, Rel X.K G H sg dl → Post X W G H sg dl (wE X sg H Q) (f dl) → t sg H Q
def SoT (X : Cx) (W : WX) (t : TT) (f : S → Out Bool) : Prop := ∀ G H sg dl (Q : Bool → Hp → Prop), Rel X.K G H sg dl → Post X W G H sg dl (fun b _ _ H' => Q b H') (f dl) → t sg H Q
def isNew : Rv → Bool
  | .new _ => true
  | _ => false
def RvsOk (K : PySem.W.Frag) (G H : Hp) (sg : L2.St) (dl : S) (H0 : Hp) : List V → List Rv → Prop := Paired (fun v r => RvOk K G H sg dl H0 v r ∧ isNew r = false)
def wA (X : Cx) (sg : L2.St) (H : Hp) (Q : List V → Hp → Prop) : List Rv → S → Hp → Hp → Prop := fun rs dl' G' H' => ∀ vs, RvsOk X.K G' H' sg dl' H vs rs → Q vs H'
def SoA (X : Cx) (W : WX) (t : TA) (f : S → Out (List Rv)) : Prop := ∀ G H sg dl Q, Rel X.K G H sg dl → Post X W G H sg dl (wA X sg H Q) (f dl) → t sg H Q
def SE (X : Cx) (W : WX) (e : Expr) (f : S → Out Rv) : Prop := ∃ t, PE X e t ∧ SoE X W t f
def ST (X : Cx) (W : WX) (e : Expr) (f : S → Out Bool) : Prop := ∃ t, PT X e t ∧ SoT X W t f
def SW (X : Cx) (W : WX) (e : Expr) (f : S → Out Bool) : Prop := ∃ t, PW X e t ∧ SoT X W t f
def SA (X : Cx) (W : WX) (es : List Expr) (f : S → Out (List Rv)) : Prop := ∃ t, PA X es t ∧ SoA X W t f
end DL
namespace DL
open PySem L2
section
variable {X : Cx} {W : WX}
def dVar (i : Nat) : S → Out Rv := fun dl => match dl[i]? with
  | some (.val d) => .ok (.val d) dl
  | some (.own _ _) => .ok (.loc i) dl
  | _ => .bad
theorem se_var (i : Nat) {x : Str} {pos : Pos} (hN : X.N[i]? = some x := by rfl) (hv : Vis X.env.scope x := by first | exact Or.inl rfl | exact Or.inr (Or.inl rfl) | exact Or.inr (Or.inr rfl)) (hd : (x == ("__debug__" : Str)) = false := by decide)
    (hcd : (x == ("__classdict__" : Str)) = false := by decide) : SE X W (.Name x pos) (dVar i) := by
  refine ⟨tVar i, pe_var hN hv hd hcd, fun G H sg dl Q re h => ?_⟩
  unfold dVar at h
  cases hs : dl[i]? with
  | none => rw [hs] at h; exact h.elim
  | some s =>
    rw [hs] at h
    cases s with
    | no => exact h.elim
    | val d =>
      obtain ⟨v, h1, h2⟩ := re.val i d hs
      exact ⟨v, h1, h G H (Stp.refl re) (Kp.refl dl) v h2⟩
    | own b ds =>
      obtain ⟨p, vs, h1, _⟩ := re.own i b ds hs
      exact ⟨.ref p, h1, h G H (Stp.refl re) (Kp.refl dl) (.ref p) ⟨h1, .list ds, by unfold rdS; rw [hs]⟩⟩
    | big m => exact h.elim
def dC (d : PyData) : S → Out Rv := fun dl => .ok (.val d) dl
theorem se_c {e : Expr} {v : V} {d : PyData} (hp : PE X e (tC v)) (hd : ∀ G, Da X.K G v d) : SE X W e (dC d) :=
  ⟨tC v, hp, fun G H sg dl Q re h => h G H (Stp.refl re) (Kp.refl dl) v (hd G)⟩
theorem se_int {i : Int} {j : Nat} {pos : Pos} : SE X W (.Constant (.int i) j pos) (dC (.int i)) := se_c pe_int fun _ => .int i
theorem se_bl {b : Bool} {j : Nat} {pos : Pos} : SE X W (.Constant (.bool b) j pos) (dC (.bool b)) := se_c pe_bl fun _ => .bl b
theorem se_non {j : Nat} {pos : Pos} : SE X W (.Constant .none j pos) (dC .none) := se_c pe_non fun _ => .non
theorem se_str {x : Str} {j : Nat} {pos : Pos} : SE X W (.Constant (.str x) j pos) (dC (.str x)) := se_c pe_str fun _ => .str x
theorem se_gint {x : Str} {i : Int} {t : Tok} {pos : Pos} (hg : Gl X x) (hm : X.mg x = some (.int i t)) (hd : (x == ("__debug__" : Str)) = false := by decide) : SE X W (.Name x pos) (dC (.int i)) := se_c (v := .int i) (pe_glob hg hm ⟨t, rfl⟩ hd) fun _ => .int i
theorem se_gstr {x : Str} {i : Str} {t : Tok} {pos : Pos} (hg : Gl X x) (hm : X.mg x = some (.str i t)) (hd : (x == ("__debug__" : Str)) = false := by decide) : SE X W (.Name x pos) (dC (.str i)) := se_c (v := .str i) (pe_glob hg hm ⟨t, rfl⟩ hd) fun _ => .str i
def AtOk (K : PySem.W.Frag) (G' H' H : Hp) (w : V) : Rv → Prop
  | .val d => Da K G' w d
  | .new ds => ∃ p vs, w = .ref p ∧ H p = none ∧ H' p = some (.lst vs) ∧ G' p = none ∧ DaAll K G' vs ds
  | .loc _ => False
theorem AtOk.rv {K : PySem.W.Frag} {G H G' H' : Hp} {sg : L2.St} {dl : S} {w : V} {r : Rv} (h : AtOk K G' H' H w r) (re : Rel K G H sg dl) (ex : Ex H H') : RvOk K G' H' sg dl H w r := by
  cases r with
  | val d => exact h
  | loc i => exact h.elim
  | new ds =>
    obtain ⟨p, vs, e, h0, h1, h2, h3⟩ := h
    exact ⟨p, vs, e, h0, h1, h2, fun q => (re.ow (re.back ex q)).2 h0, h3⟩
def fin (o : Option Rv) (dl : S) : Out Rv := match o with
  | some r => .ok r dl
  | none => .bad
def o1 (op : PyData → Option Rv) (x : Option PyData) : Option Rv := x.bind op
def o2 (op : PyData → PyData → Option Rv) (x y : Option PyData) : Option Rv := x.bind fun a => y.bind fun b => op a b
def d1 (op : PyData → Option Rv) (f : S → Out Rv) : S → Out Rv := fun dl => (f dl).bind fun r1 d1 => fin (o1 op (rd d1 r1)) d1
def d2 (op : PyData → PyData → Option Rv) (f g : S → Out Rv) : S → Out Rv := fun dl => (f dl).bind fun r1 d1 => (g d1).bind fun r2 d2 => fin (o2 op (rd d2 r1) (rd d2 r2)) d2
abbrev wO (K : PySem.W.Frag) (G H : Hp) (r : Rv) (Q : VK) : Prop := ∀ w G' H', Alc G H G' H' → AtOk K G' H' H w r → Q w H'
def OpS (K : PySem.W.Frag) (r2 : R2) (op : PyData → PyData → Option Rv) : Prop := ∀ (G H : Hp) (v u : V) (a b : PyData) (r : Rv), Ex G H → Tr K G H v a → Tr K G H u b → op a b = some r → ∀ Q : VK, wO K G H r Q → r2 v u H Q
theorem wO.fin {K : PySem.W.Frag} {G H H0 : Hp} {sg : L2.St} {dl : S} {r : Rv} {Q : VK} (hX : K = X.K) (re : Rel K G H sg dl) (h0 : ∀ a, H0 a ≠ none → H a ≠ none) (h : Post X W G H sg dl (wE X sg H0 Q) (.ok r dl)) : wO K G H r Q := by
  subst hX
  exact fun w G' H' al at' => h G' H' (al.stp re) (Kp.refl dl) w ((at'.rv re al.h).from h0)
theorem so_2 {r2 : R2} {op : PyData → PyData → Option Rv} {ta tb : TE} {f g : S → Out Rv} (ho : OpS X.K r2 op) (sa : SoE X W ta f) (sb : SoE X W tb g) : SoE X W (tOp r2 ta tb) (d2 op f g) := by
  intro G H sg dl Q re h
  refine sa G H sg dl _ re ((post_bind h).imp fun r1 d1 G1 H1 s1 k1 h1 v1 q1 => ?_)
  refine sb G1 H1 sg d1 _ s1.rel ((post_bind h1).imp fun r2 d2 G2 H2 s2 k2 h2 v2 q2 => ?_)
  have q1' := q1.mono s2 k2
  cases e1 : rd d2 r1 with
  | none => rw [e1] at h2; exact h2.elim
  | some x =>
    cases e2 : rd d2 r2 with
    | none => rw [e1, e2] at h2; exact h2.elim
    | some y =>
      rw [e1, e2] at h2
      have h2' : Post X W G2 H2 sg d2 (wE X sg H Q) (fin (op x y) d2) := h2
      cases e3 : op x y with
      | none => rw [e3] at h2'; exact h2'.elim
      | some r =>
        rw [e3] at h2'
        exact ho G2 H2 v1 v2 x y r s2.rel.ex (q1'.tr s2.rel e1) (q2.tr s2.rel e2) e3 Q (wO.fin rfl s2.rel (fun a z => s2.d a (s1.d a z)) h2')
theorem se_2 {r2 : R2} {op : PyData → PyData → Option Rv} {e a b : Expr} {f g : S → Out Rv} (he : ∀ ta tb, PE X a ta → PE X b tb → PE X e (tOp r2 ta tb)) (ho : OpS X.K r2 op) (ha : SE X W a f) (hb : SE X W b g) : SE X W e (d2 op f g) :=
  let ⟨ta, pa, sa⟩ := ha
  let ⟨tb, pb, sb⟩ := hb
  ⟨tOp r2 ta tb, he ta tb pa pb, so_2 ho sa sb⟩
theorem se_bin {r2 : R2} {op : PyData → PyData → Option Rv} {o : Operator} {a b : Expr} {pos : Pos} {f g : S → Out Rv} (hr : OpR X (binaryOp o) r2) (ho : OpS X.K r2 op) (ha : SE X W a f) (hb : SE X W b g) : SE X W (.BinOp a o b pos) (d2 op f g) :=
  se_2 (fun _ _ pa pb => pe_op hr pa pb) ho ha hb
theorem se_cmp {r2 : R2} {op : PyData → PyData → Option Rv} {o : CmpOp} {a b : Expr} {pos : Pos} {f g : S → Out Rv} (hr : OpR X (compareOp o) r2) (ho : OpS X.K r2 op) (ha : SE X W a f) (hb : SE X W b g) (hm : behindInMarks o b = false := by first | exact nomark _ | rfl) : SE X W (.Compare a [o] [b] pos) (d2 op f g) :=
  se_2 (fun _ _ pa pb => pe_cmpR hr pa pb hm) ho ha hb
theorem se_ix {r2 : R2} {op : PyData → PyData → Option Rv} {a b : Expr} {pos : Pos} {f g : S → Out Rv} (hr : IxR X r2) (ho : OpS X.K r2 op) (ha : SE X W a f) (hb : SE X W b g) (hs : PlainIx b := by exact fun _ _ => rfl) : SE X W (.Subscript a b pos) (d2 op f g) :=
  se_2 (fun _ _ pa pb => pe_ix hr pa pb hs) ho ha hb
def stl : Rv → Rv
  | .new ds => .val (.list ds)
  | r => r
theorem stl_ok {K : PySem.W.Frag} {G H H0 G0 : Hp} {sg sg0 : L2.St} {dl dl0 : S} {v : V} {r : Rv} (s : Stp K G0 H0 sg0 dl0 G H sg dl) (q : RvOk K G H sg dl H0 v r) : ∃ G', Stp K G0 H0 sg0 dl0 G' H sg dl ∧ RvOk K G' H sg dl H0 v (stl r) ∧ Ex G G' := by
  cases r with
  | val d => exact ⟨G, s, q, Ex.refl G⟩
  | loc i => exact ⟨G, s, q, Ex.refl G⟩
  | new ds =>
    obtain ⟨p, vs, e, h0, hp, hg, hw, ha⟩ := q
    subst e
    have re := s.rel
    have ne : Ex G (upd G p (.lst vs)) := Ex.new hg
    have ex' : Ex (upd G p (.lst vs)) H := fun a o z => by
      by_cases za : a = p
      · subst za; rw [upd_same] at z; cases z; exact hp
      · rw [upd_ne za] at z; exact re.ex a o z
    obtain ⟨r', w'⟩ := re.keep ne ex' (re.nt.upd rfl) re.tb (fun _ _ => rfl) fun a ha => by
      rw [upd_ne fun zz => hw (by rw [← zz]; exact ha)]
      exact (re.ow ha).1
    refine ⟨upd G p (.lst vs), ⟨r', s.g.trans ne, s.k, fun a h1 h2 h3 => ?_, s.w, s.d, s.io⟩, .lst (.inl (.inl upd_same)) (ha.ex ne), ne⟩
    have h4 := s.n a h1 h2 h3
    rw [upd_ne fun zz => h2 (by rw [zz]; exact h0)]
    exact h4
def dNil : S → Out (List Rv) := fun dl => .ok [] dl
def dCons (f : S → Out Rv) (g : S → Out (List Rv)) : S → Out (List Rv) := fun dl => (f dl).bind fun r d1 => (g d1).bind fun rs d2 => .ok (stl r :: rs) d2
theorem RvsOk.mono {K : PySem.W.Frag} {G H G' H' H0 : Hp} {sg : L2.St} {dl dl' : S} {vs : List V} {rs : List Rv} (h : RvsOk K G H sg dl H0 vs rs) (s : Stp K G H sg dl G' H' sg dl') (k : Kp dl dl') : RvsOk K G' H' sg dl' H0 vs rs :=
  Paired.mapP h fun _ _ q => ⟨q.1.mono s k, q.2⟩
theorem RvsOk.from {K : PySem.W.Frag} {G H H0 H1 : Hp} {sg : L2.St} {dl : S} {vs : List V} {rs : List Rv} (h : RvsOk K G H sg dl H1 vs rs) (d : ∀ a, H0 a ≠ none → H1 a ≠ none) : RvsOk K G H sg dl H0 vs rs :=
  Paired.mapP h fun _ _ q => ⟨q.1.from d, q.2⟩
theorem sa_nil : SA X W [] dNil := ⟨tNil, pa_nil, fun G H sg dl Q re h => h G H (Stp.refl re) (Kp.refl dl) [] .nil⟩
theorem sa_cons {e : Expr} {es : List Expr} {f : S → Out Rv} {g : S → Out (List Rv)} (ha : SE X W e f) (hr : SA X W es g) (hs : starEach (e :: es) X.env = (false, eval e X.env) :: starEach es X.env := by rfl) : SA X W (e :: es) (dCons f g) := by
  obtain ⟨ta, pa, sa⟩ := ha
  obtain ⟨tb, pb, sb⟩ := hr
  refine ⟨tCons ta tb, pa_cons pa pb hs, fun G H sg dl Q re h => ?_⟩
  refine sa G H sg dl _ re (Post.imp0 (post_bind0 h) fun r1 d1 G1 H1 s1 k1 h1 v1 q1 => ?_)
  obtain ⟨G1', s1', q1', _⟩ := stl_ok s1 q1
  refine sb G1' H1 sg d1 _ s1'.rel (Post.imp0 (post_bind0 (h1 G1' H1 s1' k1)) fun rs d2 G2 H2 s2 k2 h2 vs q2 => ?_)
  exact h2 G2 H2 s2 k2 G2 H2 (Stp.refl s2.rel) (Kp.refl d2) (v1 :: vs) (.cons ⟨q1'.mono s2 k2, by cases r1 <;> rfl⟩ (q2.from s1.d))
def rds (dl : S) : List Rv → Option (List PyData)
  | [] => some []
  | r :: rs => (rd dl r).bind fun d => (rds dl rs).bind fun ds => some (d :: ds)
abbrev TrAll (K : PySem.W.Frag) (G H : Hp) : List V → List PyData → Prop := Paired (fun v d => Tr K G H v d)
theorem RvsOk.tr {K : PySem.W.Frag} {G H H0 : Hp} {sg : L2.St} {dl : S} (re : Rel K G H sg dl) : ∀ {vs : List V} {rs : List Rv} {ds : List PyData}, RvsOk K G H sg dl H0 vs rs → rds dl rs = some ds → TrAll K G H vs ds
  | _, [], ds, h, e => by cases h; cases e; exact .nil
  | _, r :: rs, ds, h, e => by
    cases h with
    | cons h1 h2 =>
      unfold rds at e
      cases e1 : rd dl r with
      | none => rw [e1] at e; cases e
      | some d =>
        cases e2 : rds dl rs with
        | none => rw [e1, e2] at e; cases e
        | some ds' =>
          rw [e1, e2] at e
          cases e
          exact .cons (h1.1.tr re e1) (RvsOk.tr re h2 e2)
def dB (op : List PyData → Option Rv) (f : S → Out (List Rv)) : S → Out Rv := fun dl => (f dl).bind fun rs d1 => fin ((rds d1 rs).bind op) d1
def CaS (K : PySem.W.Frag) (r : List V → Hp → VK → Prop) (op : List PyData → Option Rv) : Prop := ∀ (G H : Hp) (vs : List V) (ds : List PyData) (rv : Rv), Ex G H → TrAll K G H vs ds → op ds = some rv → ∀ Q : VK, wO K G H rv Q → r vs H Q
theorem se_n {r : List V → Hp → VK → Prop} {op : List PyData → Option Rv} {e : Expr} {es : List Expr} {f : S → Out (List Rv)} (he : ∀ t, PA X es t → PE X e (tCB r t)) (ho : CaS X.K r op) (ha : SA X W es f) : SE X W e (dB op f) := by
  obtain ⟨ta, pa, sa⟩ := ha
  refine ⟨tCB r ta, he ta pa, fun G H sg dl Q re h => ?_⟩
  refine sa G H sg dl _ re ((post_bind h).imp fun rs d1 G1 H1 s1 k1 h1 vs q1 => ?_)
  cases e1 : rds d1 rs with
  | none => rw [e1] at h1; exact h1.elim
  | some ds =>
    rw [e1] at h1
    have h1' : Post X W G1 H1 sg d1 (wE X sg H Q) (fin (op ds) d1) := h1
    cases e3 : op ds with
    | none => rw [e3] at h1'; exact h1'.elim
    | some rv =>
      rw [e3] at h1'
      exact ho G1 H1 vs ds rv s1.rel.ex (RvsOk.tr s1.rel q1 e1) e3 Q (wO.fin rfl s1.rel s1.d h1')
theorem se_callB {id : String} {r : List V → Hp → VK → Prop} {op : List PyData → Option Rv} {x : Str} {p pos : Pos} {e : Expr} {es : List Expr} {f : S → Out (List Rv)} (hc : CallR X (.builtin id) r) (ho : CaS X.K r op) (hg : Gl X x) (hm : X.mg x = none) (hv : bootBuiltins x = some (.builtin id)) (ha : SA X W (e :: es) f)
    (hn : x ≠ "__name__" := by decide) (hdb : (x == ("__debug__" : Str)) = false := by decide)
    (he : starEach (e :: es) X.env = (false, eval e X.env) :: starEach es X.env := by rfl) (hpl : (backTo pos (starEach es X.env)).any (·.1) = false := by rfl) : SE X W (.Call (.Name x p) (e :: es) [] pos) (dB op f) :=
  se_n (fun _ pa => pe_callB hc hg hm hv pa hn hdb he hpl) ho ha
theorem se_callTy {T : String} {r : List V → Hp → VK → Prop} {op : List PyData → Option Rv} {x : Str} {p pos : Pos} {e : Expr} {es : List Expr} {f : S → Out (List Rv)} (hc : CallR X (.type T) r) (ho : CaS X.K r op) (hg : Gl X x) (hm : X.mg x = none) (hv : bootBuiltins x = some (.type T)) (ha : SA X W (e :: es) f)
    (hn : x ≠ "__name__" := by decide) (hdb : (x == ("__debug__" : Str)) = false := by decide)
    (he : starEach (e :: es) X.env = (false, eval e X.env) :: starEach es X.env := by rfl) (hpl : (backTo pos (starEach es X.env)).any (·.1) = false := by rfl) : SE X W (.Call (.Name x p) (e :: es) [] pos) (dB op f) :=
  se_n (fun _ pa => pe_callTy hc hg hm hv pa hn hdb he hpl) ho ha
def stb (dl : S) : Rv → Option (PyData × S)
  | .val d => some (d, dl)
  | .new ds => some (.list ds, dl)
  | .loc i => match dl[i]? with
    | some (.val d) => some (d, dl)
    | some (.own false ds) => some (.list ds, dl.set i (.val (.list ds)))
    | _ => none
theorem frz_any {K : PySem.W.Frag} {G G' H : Hp} {sg : L2.St} {dl : S} {i : Nat} {s : Sl} {v : V} {d : PyData} (re : Rel K G H sg dl) (e : dl[i]? = some s) (h2 : sg[i]? = some (some v)) (eg : Ex G G') (ex : Ex G' H) (nt : NoT G') (hG : ∀ a, ¬ Fs H s v a → G' a = G a) (hd : Da K G' v d) :
    Stp K G H sg dl G' H sg (dl.set i (.val d)) := by
  have hi : i < dl.length := (List.getElem?_eq_some_iff.mp e).1
  have hs : ∀ j, j ≠ i → (dl.set i (.val d))[j]? = dl[j]? := fun j hj => List.getElem?_set_ne (Ne.symm hj)
  have hi' : (dl.set i (.val d))[i]? = some (.val d) := List.getElem?_set_self hi
  have key : ∀ {j : Nat} {s' : Sl}, (dl.set i (.val d))[j]? = some s' → mine s' = true → j ≠ i ∧ dl[j]? = some s' := fun {j s'} z hm => by
    by_cases hj : j = i
    · subst hj; rw [hi'] at z; cases z; cases hm
    · rw [hs j hj] at z; exact ⟨hj, z⟩
  have ow : ∀ q, Ow H sg (dl.set i (.val d)) q → Ow H sg dl q ∧ ¬ Fs H s v q := fun q ⟨j, s', v', z1, z2, z3⟩ => by
    obtain ⟨hj, z1'⟩ := key z1 (fs_mine z3)
    exact ⟨⟨j, s', v', z1', z2, z3⟩, fun zz => hj (re.dj j i s' s v' v q z1' e z2 h2 z3 zz)⟩
  refine ⟨⟨by rw [List.length_set]; exact re.len, ex, nt, re.tb, fun j d' z => ?_, fun j s' z hm => ?_, fun j j' s1 s2 v1 v2 a z1 z2 z3 z4 z5 z6 => re.dj j j' s1 s2 v1 v2 a (key z1 (fs_mine z5)).2 (key z2 (fs_mine z6)).2 z3 z4 z5 z6⟩, eg, fun _ _ _ _ h => h, fun a h1 _ h3 => (hG a fun z => h1 ⟨i, s, v, e, h2, z⟩).trans h3, fun q z => .inl (ow q z).1, fun _ h => h, fun j ds' z => ⟨⟨ds', (key z rfl).2⟩, rfl⟩⟩
  · by_cases hj : j = i
    · subst hj; rw [hi'] at z; cases z; exact ⟨v, h2, hd⟩
    · rw [hs j hj] at z
      obtain ⟨u, z1, z2⟩ := re.val j d' z
      exact ⟨u, z1, z2.ex eg⟩
  · obtain ⟨hj, z'⟩ := key z hm
    obtain ⟨u, z1, z2, z3⟩ := re.mn j s' z' hm
    exact ⟨u, z1, sl_mono z2 eg (fun _ _ => rfl), fun a ha => (hG a (ow a ⟨j, s', u, z, z1, ha⟩).2).trans (z3 a ha)⟩
theorem frz_ok2 {K : PySem.W.Frag} {G H : Hp} {sg : L2.St} {dl : S} {i : Nat} {ds : List PyData} (re : Rel K G H sg dl) (e : dl[i]? = some (.own false ds)) :
    ∃ G' v, Stp K G H sg dl G' H sg (dl.set i (.val (.list ds))) ∧ Kp dl (dl.set i (.val (.list ds))) ∧ sg[i]? = some (some v) ∧ Da K G' v (.list ds) ∧ ∃ p vs, v = .ref p ∧ G p = none ∧ G' p = some (.lst vs) ∧ DaAll K G vs ds := by
  obtain ⟨p, vs, q1, q2, q3, q4⟩ := re.own i false ds e
  have hi : i < dl.length := (List.getElem?_eq_some_iff.mp e).1
  have ne : Ex G (upd G p (.lst vs)) := Ex.new q2
  have hs : ∀ j, j ≠ i → (dl.set i (.val (.list ds)))[j]? = dl[j]? := fun j hj => List.getElem?_set_ne (Ne.symm hj)
  have hi' : (dl.set i (.val (.list ds)))[i]? = some (.val (.list ds)) := List.getElem?_set_self hi
  have dd : Da K (upd G p (.lst vs)) (.ref p) (.list ds) := .lst (.inl (.inl upd_same)) (q4.ex ne)
  refine ⟨upd G p (.lst vs), .ref p, frz_any re e q1 ne (fun a o z => ?_) (re.nt.upd rfl) (fun a ha => upd_ne fun z => ha (by rw [z]; rfl)) dd, ⟨List.length_set, fun j => ?_⟩, q1, dd, p, vs, rfl, q2, upd_same, q4⟩
  · by_cases za : a = p
    · subst za; rw [upd_same] at z; cases z; exact q3
    · rw [upd_ne za] at z; exact re.ex a o z
  · by_cases hj : j = i
    · subst hj
      rw [e, hi']
      exact .inr ⟨rfl, ds, rfl⟩
    · rw [hs j hj]
      exact (Kp.refl dl).2 j
theorem frz_ok {K : PySem.W.Frag} {G H : Hp} {sg : L2.St} {dl : S} {i : Nat} {ds : List PyData} (re : Rel K G H sg dl) (e : dl[i]? = some (.own false ds)) :
    ∃ G' v, Stp K G H sg dl G' H sg (dl.set i (.val (.list ds))) ∧ Kp dl (dl.set i (.val (.list ds))) ∧ sg[i]? = some (some v) ∧ Da K G' v (.list ds) := by
  obtain ⟨G', v, a, b, c, d, _⟩ := frz_ok2 re e
  exact ⟨G', v, a, b, c, d⟩
theorem stb_ok {K : PySem.W.Frag} {G H H0 G0 : Hp} {sg sg0 : L2.St} {dl dl0 dl' : S} {v : V} {r : Rv} {d : PyData} (s : Stp K G0 H0 sg0 dl0 G H sg dl) (q : RvOk K G H sg dl H0 v r) (e : stb dl r = some (d, dl')) :
    ∃ G', Stp K G0 H0 sg0 dl0 G' H sg dl' ∧ Kp dl dl' ∧ Da K G' v d ∧ Ex G G' := by
  cases r with
  | val x => cases e; exact ⟨G, s, Kp.refl dl, q, Ex.refl G⟩
  | new ds =>
    cases e
    obtain ⟨G', s', q', ne⟩ := stl_ok s q
    exact ⟨G', s', Kp.refl dl, q', ne⟩
  | loc i =>
    have e' : (match dl[i]? with
      | some (.val d) => some (d, dl)
      | some (.own false ds) => some (PyData.list ds, dl.set i (.val (.list ds)))
      | _ => none) = some (d, dl') := e
    cases hs : dl[i]? with
    | none => rw [hs] at e'; cases e'
    | some sl =>
      rw [hs] at e'
      cases sl with
      | no => cases e'
      | val x =>
        cases e'
        obtain ⟨v', z1, z2⟩ := s.rel.val i d hs
        have q1 := q.1
        rw [q1] at z1
        cases z1
        exact ⟨G, s, Kp.refl dl, z2, Ex.refl G⟩
      | own b ds =>
        cases b with
        | true => cases e'
        | false =>
          cases e'
          obtain ⟨G', v', s', k', z1, z2⟩ := frz_ok s.rel hs
          have q1 := q.1
          rw [q1] at z1
          cases z1
          exact ⟨G', s.trans s', k', z2, s'.g⟩
      | big m => cases e'
theorem stbL_ok {K : PySem.W.Frag} {G H H0 : Hp} {sg : L2.St} {dl dl' : S} {v : V} {r : Rv} {d : PyData} (re : Rel K G H sg dl) (q : RvOk K G H sg dl H0 v r) (hn : isNew r = false) (e : stb dl r = some (d, dl')) :
    ∃ G', Stp K G H sg dl G' H sg dl' ∧ Kp dl dl' ∧ Da K G' v d := by
  obtain ⟨G', s, k, z, _⟩ := stb_ok (H0 := H) (Stp.refl re) (v := v) (r := r) (d := d) (dl' := dl') (by
    cases r with
    | val d => exact q
    | loc i => exact q
    | new ds => exact nomatch hn) e
  exact ⟨G', s, k, z⟩
def stbs : S → List Rv → Option (List PyData × S)
  | dl, [] => some ([], dl)
  | dl, r :: rs => (stb dl r).bind fun x => (stbs x.2 rs).bind fun y => some (x.1 :: y.1, y.2)
theorem stbs_ok {K : PySem.W.Frag} {H H0 : Hp} {sg : L2.St} : ∀ {rs : List Rv} {G : Hp} {dl dl' : S} {vs : List V} {ds : List PyData}, Rel K G H sg dl → RvsOk K G H sg dl H0 vs rs → stbs dl rs = some (ds, dl') →
    ∃ G', Stp K G H sg dl G' H sg dl' ∧ Kp dl dl' ∧ DaAll K G' vs ds
  | [], G, dl, dl', vs, ds, re, q, e => by
    cases q
    cases e
    exact ⟨G, Stp.refl re, Kp.refl dl, .nil⟩
  | r :: rs, G, dl, dl', vs, ds, re, q, e => by
    cases q with
    | cons q1 q2 =>
      unfold stbs at e
      cases e1 : stb dl r with
      | none => rw [e1] at e; cases e
      | some x =>
        obtain ⟨d, d1⟩ := x
        rw [e1] at e
        have e' : (stbs d1 rs).bind (fun y => some (d :: y.1, y.2)) = some (ds, dl') := e
        cases e2 : stbs d1 rs with
        | none => rw [e2] at e'; cases e'
        | some y =>
          obtain ⟨ds1, d2⟩ := y
          rw [e2] at e'
          cases e'
          obtain ⟨G1, s1, k1, z1⟩ := stbL_ok re q1.1 q1.2 e1
          obtain ⟨G2, s2, k2, z2⟩ := stbs_ok s1.rel (RvsOk.mono q2 s1 k1) e2
          exact ⟨G2, s1.trans s2, k1.trans k2, .cons (z1.ex s2.g) z2⟩
theorem sz_of {n : Nat} (h : n ≤ 100000) : n ≤ sizeLine := Nat.le_trans h (by decide)
theorem sz_lt {n : Nat} (h : n < 100000) : n < sizeLine := Nat.lt_of_lt_of_le h (by decide)
def mkTup (o : Option (List PyData × S)) : Out Rv := match o with
  | some (ds, d2) => if ds.length ≤ 100000 then .ok (.val (.tuple ds)) d2 else .bad
  | none => .bad
def mkLst (o : Option (List PyData × S)) : Out Rv := match o with
  | some (ds, d2) => if ds.length ≤ 100000 then .ok (.new ds) d2 else .bad
  | none => .bad
def dTup (f : S → Out (List Rv)) : S → Out Rv := fun dl => (f dl).bind fun rs d1 => mkTup (stbs d1 rs)
def dLst (f : S → Out (List Rv)) : S → Out Rv := fun dl => (f dl).bind fun rs d1 => mkLst (stbs d1 rs)
theorem se_tup {es : List Expr} {k : Nat} {pos : Pos} {f : S → Out (List Rv)} (ha : SA X W es f) : SE X W (.Tuple es k pos) (dTup f) := by
  obtain ⟨ta, pa, sa⟩ := ha
  refine ⟨tTup ta, pe_tup pa, fun G H sg dl Q re h => ?_⟩
  refine sa G H sg dl _ re ((post_bind h).imp fun rs d1 G1 H1 s1 k1 h1 vs q1 => ?_)
  cases e : stbs d1 rs with
  | none => rw [e] at h1; exact h1.elim
  | some y =>
    obtain ⟨ds, d2⟩ := y
    rw [e] at h1
    have h2 : Post X W G1 H1 sg d1 (wE X sg H Q) (if ds.length ≤ 100000 then .ok (.val (.tuple ds)) d2 else .bad) := h1
    obtain ⟨G2, s2, k2, z2⟩ := stbs_ok s1.rel q1 e
    by_cases hl : ds.length ≤ 100000
    · rw [if_pos hl] at h2
      refine ⟨by rw [z2.len]; exact sz_of hl, fun p hp => ?_⟩
      have al := Alc.made s2.rel.ex hp (.tup vs)
      exact h2 _ _ (s2.trans (al.stp s2.rel)) k2 (.ref p) (.tup (.inl (.inl upd_same)) (z2.ex al.g))
    · rw [if_neg hl] at h2; exact h2.elim
theorem se_lst {es : List Expr} {pos : Pos} {f : S → Out (List Rv)} (ha : SA X W es f) : SE X W (.List es pos) (dLst f) := by
  obtain ⟨ta, pa, sa⟩ := ha
  refine ⟨tLst ta, pe_lst pa, fun G H sg dl Q re h => ?_⟩
  refine sa G H sg dl _ re ((post_bind h).imp fun rs d1 G1 H1 s1 k1 h1 vs q1 => ?_)
  cases e : stbs d1 rs with
  | none => rw [e] at h1; exact h1.elim
  | some y =>
    obtain ⟨ds, d2⟩ := y
    rw [e] at h1
    have h2 : Post X W G1 H1 sg d1 (wE X sg H Q) (if ds.length ≤ 100000 then .ok (.new ds) d2 else .bad) := h1
    obtain ⟨G2, s2, k2, z2⟩ := stbs_ok s1.rel q1 e
    by_cases hl : ds.length ≤ 100000
    · rw [if_pos hl] at h2
      refine ⟨by rw [z2.len]; exact sz_of hl, fun p hp => ?_⟩
      have al := Alc.li s2.rel.ex hp (.lst vs)
      have s3 := al.stp s2.rel
      refine h2 _ _ (s2.trans s3) k2 (.ref p) ⟨p, vs, rfl, ?_, upd_same, s2.rel.ex.nn hp, fun z => (s2.rel.ow (s2.rel.back al.h z)).2 hp, z2⟩
      cases hq : H p with
      | none => rfl
      | some o => exact absurd hp (s1.d p (some_ne hq))
    · rw [if_neg hl] at h2; exact h2.elim
def asB : Option PyData → S → Out Bool := fun o dl => match o with
  | some (.bool b) => .ok b dl
  | _ => .bad
def dT (f : S → Out Rv) : S → Out Bool := fun dl => (f dl).bind fun r d1 => asB (rd d1 r) d1
theorem so_T {t : TE} {f : S → Out Rv} (sa : SoE X W t f) : SoT X W (tB t) (dT f) := by
  intro G H sg dl Q re h
  refine sa G H sg dl _ re ((post_bind h).imp fun r1 d1 G1 H1 s1 k1 h1 v1 q1 => ?_)
  cases e1 : rd d1 r1 with
  | none => rw [e1] at h1; exact h1.elim
  | some x =>
    rw [e1] at h1
    cases x with
    | bool b =>
      have z := (q1.tr s1.rel e1).bl
      exact ⟨b, z, h1 G1 H1 (Stp.refl s1.rel) (Kp.refl d1)⟩
    | none => exact h1.elim
    | int i => exact h1.elim
    | str i => exact h1.elim
    | list i => exact h1.elim
    | tuple i => exact h1.elim
    | dict i => exact h1.elim
theorem st_val {e : Expr} {f : S → Out Rv} (h : SE X W e f) (he : ∀ whole, isTrue e X.env whole = (do let v ← whole; standAt e.pos; holding [v] (truthy v)) := by intro _; rfl) : ST X W e (dT f) :=
  let ⟨t, p, s⟩ := h
  ⟨tB t, pt_val p he, so_T s⟩
theorem st_cmp {r2 : R2} {op : PyData → PyData → Option Rv} {o : CmpOp} {a b : Expr} {pos : Pos} {f g : S → Out Rv} (hr : OpR X (compareOp o) r2) (ho : OpS X.K r2 op) (ha : SE X W a f) (hb : SE X W b g) (hm : behindInMarks o b = false := by first | exact nomark _ | rfl) : ST X W (.Compare a [o] [b] pos) (dT (d2 op f g)) :=
  let ⟨_, pa, sa⟩ := ha
  let ⟨_, pb, sb⟩ := hb
  ⟨_, pt_cmpR hr pa pb hm, so_T (so_2 ho sa sb)⟩
def dCh (op1 op2 : PyData → PyData → Option Rv) (f g h : S → Out Rv) : S → Out Rv := fun dl => (f dl).bind fun r1 d1 => (g d1).bind fun r2 d2 => (asB ((o2 op1 (rd d2 r1) (rd d2 r2)).bind (rd d2)) d2).bind fun c d3 =>
  if c then (h d3).bind fun r3 d4 => fin (o2 op2 (rd d4 r2) (rd d4 r3)) d4 else .ok (.val (.bool false)) d3
theorem so_ch {ra rb : R2} {op1 op2 : PyData → PyData → Option Rv} {ta tb tc : TE} {f g h : S → Out Rv} (ho : OpS X.K ra op1) (ho2 : OpS X.K rb op2) (sa : SoE X W ta f) (sb : SoE X W tb g) (sc : SoE X W tc h) : SoE X W (tChain ra rb ta tb tc) (dCh op1 op2 f g h) := by
  intro G H sg dl Q re hh
  refine sa G H sg dl _ re ((post_bind hh).imp fun r1 d1 G1 H1 s1 k1 h1 v1 q1 => ?_)
  refine sb G1 H1 sg d1 _ s1.rel ((post_bind h1).imp fun r2 d2 G2 H2 s2 k2 h2 v2 q2 => ?_)
  have q1' := q1.mono s2 k2
  cases e1 : rd d2 r1 with
  | none => rw [e1] at h2; exact h2.elim
  | some x =>
    cases e2 : rd d2 r2 with
    | none => rw [e1, e2] at h2; exact h2.elim
    | some y =>
      rw [e1, e2] at h2
      cases e3 : op1 x y with
      | none =>
        have h2' : Post X W G2 H2 sg d2 (wE X sg H Q) ((asB ((op1 x y).bind (rd d2)) d2).bind fun c d3 => if c then (h d3).bind fun r3 d4 => fin (o2 op2 (rd d4 r2) (rd d4 r3)) d4 else .ok (.val (.bool false)) d3) := h2
        rw [e3] at h2'; exact h2'.elim
      | some r =>
        have h2' : Post X W G2 H2 sg d2 (wE X sg H Q) ((asB ((op1 x y).bind (rd d2)) d2).bind fun c d3 => if c then (h d3).bind fun r3 d4 => fin (o2 op2 (rd d4 r2) (rd d4 r3)) d4 else .ok (.val (.bool false)) d3) := h2
        rw [e3] at h2'
        refine ho G2 H2 v1 v2 x y r s2.rel.ex (q1'.tr s2.rel e1) (q2.tr s2.rel e2) e3 _ fun w G3 H3 al at3 => ?_
        have s3 := al.stp s2.rel
        cases r with
        | loc i => exact at3.elim
        | new ds => exact h2'.elim
        | val d =>
          cases d with
          | bool b =>
            have z := (Tr.st at3 : Tr X.K G3 H3 w (.bool b)).bl
            refine ⟨b, z, ?_⟩
            have h3 : Post X W G2 H2 sg d2 (wE X sg H Q) (if b = true then (h d2).bind fun r3 d4 => fin (o2 op2 (rd d4 r2) (rd d4 r3)) d4 else .ok (.val (.bool false)) d2) := h2'
            cases b with
            | false =>
              show Q (.bl false) H3
              exact h3 G3 H3 s3 (Kp.refl d2) (.bl false) (.bl false)
            | true =>
              have h3' : Post X W G2 H2 sg d2 (wE X sg H Q) ((Out.ok () d2).bind fun _ dd => (h dd).bind fun r3 d4 => fin (o2 op2 (rd d4 r2) (rd d4 r3)) d4) := h3
              have h4 := (post_bind h3') G3 H3 s3 (Kp.refl d2)
              have q2' := q2.mono s3 (Kp.refl d2)
              refine sc G3 H3 sg d2 _ s3.rel ((post_bind h4).imp fun r3 d4 G4 H4 s4 k4 h5 v3 q3 => ?_)
              have q2'' := q2'.mono s4 k4
              cases e4 : rd d4 r2 with
              | none => rw [e4] at h5; exact h5.elim
              | some y' =>
                cases e5 : rd d4 r3 with
                | none => rw [e4, e5] at h5; exact h5.elim
                | some z' =>
                  rw [e4, e5] at h5
                  have h5' : Post X W G4 H4 sg d4 (wE X sg H Q) (fin (op2 y' z') d4) := h5
                  cases e6 : op2 y' z' with
                  | none => rw [e6] at h5'; exact h5'.elim
                  | some r4 =>
                    rw [e6] at h5'
                    exact ho2 G4 H4 v2 v3 y' z' r4 s4.rel.ex (q2''.tr s4.rel e4) (q3.tr s4.rel e5) e6 Q (wO.fin rfl s4.rel (fun a z => s4.d a (s3.d a (s2.d a (s1.d a z)))) h5')
          | none => exact h2'.elim
          | int i => exact h2'.elim
          | str i => exact h2'.elim
          | list i => exact h2'.elim
          | tuple i => exact h2'.elim
          | dict i => exact h2'.elim
theorem se_ch {ra rb : R2} {op1 op2 : PyData → PyData → Option Rv} {o o' : CmpOp} {a b c : Expr} {pos : Pos} {f g h : S → Out Rv} (hr : OpR X (compareOp o) ra) (ho : OpS X.K ra op1) (hr2 : OpR X (compareOp o') rb) (ho2 : OpS X.K rb op2) (ha : SE X W a f) (hb : SE X W b g) (hc : SE X W c h) (hm : lastMarks [o, o'] [b, c] = false := by rfl) :
    SE X W (.Compare a [o, o'] [b, c] pos) (dCh op1 op2 f g h) :=
  let ⟨_, pa, sa⟩ := ha
  let ⟨_, pb, sb⟩ := hb
  let ⟨_, pc, sc⟩ := hc
  ⟨_, pe_chain hr hr2 pa pb pc hm, so_ch ho ho2 sa sb sc⟩
theorem st_ch {ra rb : R2} {op1 op2 : PyData → PyData → Option Rv} {o o' : CmpOp} {a b c : Expr} {pos : Pos} {f g h : S → Out Rv} (hr : OpR X (compareOp o) ra) (ho : OpS X.K ra op1) (hr2 : OpR X (compareOp o') rb) (ho2 : OpS X.K rb op2) (ha : SE X W a f) (hb : SE X W b g) (hc : SE X W c h) (hm : lastMarks [o, o'] [b, c] = false := by rfl) :
    ST X W (.Compare a [o, o'] [b, c] pos) (dT (dCh op1 op2 f g h)) :=
  let ⟨_, pa, sa⟩ := ha
  let ⟨_, pb, sb⟩ := hb
  let ⟨_, pc, sc⟩ := hc
  ⟨_, pt_chain hr hr2 pa pb pc hm, so_T (so_ch ho ho2 sa sb sc)⟩
def tnAnd (f g : S → Out Bool) : S → Out Bool := fun dl => (f dl).bind fun c d1 => if c then g d1 else .ok false d1
def tnOr (f g : S → Out Bool) : S → Out Bool := fun dl => (f dl).bind fun c d1 => if c then .ok true d1 else g d1
def tnNot (f : S → Out Bool) : S → Out Bool := fun dl => (f dl).bind fun c d1 => .ok (!c) d1
theorem so_and {t u : TT} {f g : S → Out Bool} (sa : SoT X W t f) (sb : SoT X W u g) : SoT X W (tAnd t u) (tnAnd f g) := by
  intro G H sg dl Q re h
  refine sa G H sg dl _ re ((post_bind h).imp fun c d1 G1 H1 s1 k1 h1 => ?_)
  cases c with
  | true => exact sb G1 H1 sg d1 Q s1.rel h1
  | false => exact h1 G1 H1 (Stp.refl s1.rel) (Kp.refl d1)
theorem so_or {t u : TT} {f g : S → Out Bool} (sa : SoT X W t f) (sb : SoT X W u g) : SoT X W (tOr t u) (tnOr f g) := by
  intro G H sg dl Q re h
  refine sa G H sg dl _ re ((post_bind h).imp fun c d1 G1 H1 s1 k1 h1 => ?_)
  cases c with
  | false => exact sb G1 H1 sg d1 Q s1.rel h1
  | true => exact h1 G1 H1 (Stp.refl s1.rel) (Kp.refl d1)
theorem so_not {t : TT} {f : S → Out Bool} (sa : SoT X W t f) : SoT X W (tNot t) (tnNot f) := by
  intro G H sg dl Q re h
  exact sa G H sg dl _ re ((post_bind h).imp fun c d1 G1 H1 s1 k1 h1 => h1 G1 H1 (Stp.refl s1.rel) (Kp.refl d1))
section
variable {a b : Expr} {rest : List Expr} {pos : Pos} {f g : S → Out Bool}
theorem sw_and1 (h : ST X W a f) : SW X W (.BoolOp .And [a] pos) f := let ⟨t, p, s⟩ := h; ⟨t, pw_and1 p, s⟩
theorem sw_or1 (h : ST X W a f) : SW X W (.BoolOp .Or [a] pos) f := let ⟨t, p, s⟩ := h; ⟨t, pw_or1 p, s⟩
theorem sw_and (h : ST X W a f) (k : SW X W (.BoolOp .And (b :: rest) pos) g) : SW X W (.BoolOp .And (a :: b :: rest) pos) (tnAnd f g) :=
  let ⟨_, p, s⟩ := h
  let ⟨_, q, u⟩ := k
  ⟨_, pw_and p q, so_and s u⟩
theorem sw_or (h : ST X W a f) (k : SW X W (.BoolOp .Or (b :: rest) pos) g) : SW X W (.BoolOp .Or (a :: b :: rest) pos) (tnOr f g) :=
  let ⟨_, p, s⟩ := h
  let ⟨_, q, u⟩ := k
  ⟨_, pw_or p q, so_or s u⟩
theorem st_w {e : Expr} (h : SW X W e f) : ST X W e f := let ⟨t, p, s⟩ := h; ⟨t, p.pt, s⟩
theorem st_not (h : ST X W a f) : ST X W (.UnaryOp .Not a pos) (tnNot f) := let ⟨_, p, s⟩ := h; ⟨_, pt_not p, so_not s⟩
end
def dAnd (f g : S → Out Rv) : S → Out Rv := fun dl => (dT f dl).bind fun c d1 => if c then g d1 else .ok (.val (.bool false)) d1
def dOr (f g : S → Out Rv) : S → Out Rv := fun dl => (dT f dl).bind fun c d1 => if c then .ok (.val (.bool true)) d1 else g d1
def dNot (f : S → Out Rv) : S → Out Rv := fun dl => (dT f dl).bind fun c d1 => .ok (.val (.bool (!c))) d1
theorem so_andV {t u : TE} {f g : S → Out Rv} (sa : SoE X W t f) (sb : SoE X W u g) : SoE X W (tAndV t u) (dAnd f g) := by
  intro G H sg dl Q re h
  refine so_T sa G H sg dl (fun c H1 => if c = true then u sg H1 Q else Q (.bl false) H1) re ((post_bind h).imp fun c d1 G1 H1 s1 k1 h1 => ?_)
  cases c with
  | true => exact sb G1 H1 sg d1 Q s1.rel (h1.imp fun r d2 G2 H2 s2 k2 z v q => z v (q.from s1.d))
  | false => exact h1 G1 H1 (Stp.refl s1.rel) (Kp.refl d1) (.bl false) (.bl false)
theorem so_orV {t u : TE} {f g : S → Out Rv} (sa : SoE X W t f) (sb : SoE X W u g) : SoE X W (tOrV t u) (dOr f g) := by
  intro G H sg dl Q re h
  refine so_T sa G H sg dl (fun c H1 => if c = true then Q (.bl true) H1 else u sg H1 Q) re ((post_bind h).imp fun c d1 G1 H1 s1 k1 h1 => ?_)
  cases c with
  | false => exact sb G1 H1 sg d1 Q s1.rel (h1.imp fun r d2 G2 H2 s2 k2 z v q => z v (q.from s1.d))
  | true => exact h1 G1 H1 (Stp.refl s1.rel) (Kp.refl d1) (.bl true) (.bl true)
theorem so_notV {t : TE} {f : S → Out Rv} (sa : SoE X W t f) : SoE X W (tNotV t) (dNot f) := by
  intro G H sg dl Q re h
  refine so_T sa G H sg dl (fun c H1 => Q (.bl (!c)) H1) re ((post_bind h).imp fun c d1 G1 H1 s1 k1 h1 => ?_)
  exact h1 G1 H1 (Stp.refl s1.rel) (Kp.refl d1) (.bl (!c)) (.bl (!c))
section
variable {a b : Expr} {rest : List Expr} {pos : Pos} {f g : S → Out Rv}
theorem se_one {op : BoolOp} (h : SE X W a f) : SE X W (.BoolOp op [a] pos) f := let ⟨t, p, s⟩ := h; ⟨t, pe_one p, s⟩
theorem se_and (h : SE X W a f) (k : SE X W (.BoolOp .And (b :: rest) pos) g) : SE X W (.BoolOp .And (a :: b :: rest) pos) (dAnd f g) :=
  let ⟨_, p, s⟩ := h
  let ⟨_, q, u⟩ := k
  ⟨_, pe_and p q, so_andV s u⟩
theorem se_or (h : SE X W a f) (k : SE X W (.BoolOp .Or (b :: rest) pos) g) : SE X W (.BoolOp .Or (a :: b :: rest) pos) (dOr f g) :=
  let ⟨_, p, s⟩ := h
  let ⟨_, q, u⟩ := k
  ⟨_, pe_or p q, so_orV s u⟩
theorem se_not (h : SE X W a f) : SE X W (.UnaryOp .Not a pos) (dNot f) := let ⟨_, p, s⟩ := h; ⟨_, pe_not p, so_notV s⟩
end
def dIte (c : S → Out Bool) (f g : S → Out Rv) : S → Out Rv := fun dl => (c dl).bind fun b d1 => if b then f d1 else g d1
theorem se_ite {c a b : Expr} {pos : Pos} {h : S → Out Bool} {f g : S → Out Rv} (hc : ST X W c h) (ha : SE X W a f) (hb : SE X W b g) : SE X W (.IfExp c a b pos) (dIte h f g) := by
  obtain ⟨tc, pc, sc⟩ := hc
  obtain ⟨ta, pa, sa⟩ := ha
  obtain ⟨tb, pb, sb⟩ := hb
  refine ⟨_, pe_ifExp pc pa pb, fun G H sg dl Q re h => ?_⟩
  refine sc G H sg dl _ re ((post_bind h).imp fun c d1 G1 H1 s1 k1 h1 => ?_)
  cases c with
  | true => exact sa G1 H1 sg d1 Q s1.rel (h1.imp fun r d2 G2 H2 s2 k2 z v q => z v (q.from s1.d))
  | false => exact sb G1 H1 sg d1 Q s1.rel (h1.imp fun r d2 G2 H2 s2 k2 z v q => z v (q.from s1.d))
end
end DL
namespace DL
open PySem L2
section
variable {X : Cx} {K : PySem.W.Frag}
theorem wO.val {G H : Hp} {d : PyData} {Q : VK} {w : V} (h : wO K G H (.val d) Q) (e : Ex G H) (hd : Da K G w d) : Q w H := h w G H (Alc.refl e) hd
theorem wO.tup {G H : Hp} {ds : List PyData} {Q : VK} {vs : List V} (h : wO K G H (.val (.tuple ds)) Q) (e : Ex G H) (hd : DaAll K G vs ds) : ∀ p, H p = none → Q (.ref p) (upd H p (.tup vs)) := fun p hp =>
  have al := Alc.made e hp (.tup vs)
  h (.ref p) _ _ al (.tup (.inl (.inl upd_same)) (hd.ex al.g))
theorem wO.lst {G H : Hp} {ds : List PyData} {Q : VK} {vs : List V} (h : wO K G H (.new ds) Q) (e : Ex G H) (hd : DaAll K G vs ds) : ∀ p, H p = none → Q (.ref p) (upd H p (.lst vs)) := fun p hp =>
  h (.ref p) _ _ (Alc.li e hp (.lst vs)) ⟨p, vs, rfl, hp, upd_same, e.nn hp, hd⟩
def vI (i : Int) : Option Rv := some (.val (.int i))
def vB (b : Bool) : Option Rv := some (.val (.bool b))
def oII (c : Int → Int → Bool) (g : Int → Int → Int) : PyData → PyData → Option Rv
  | .int i, .int j => if c i j then vI (g i j) else none
  | _, _ => none
def oIB (g : Int → Int → Bool) : PyData → PyData → Option Rv
  | .int i, .int j => vB (g i j)
  | _, _ => none
theorem os_II {C : Int → Int → Prop} {c : Int → Int → Bool} {g : Int → Int → Int} (hc : ∀ i j, c i j = true → C i j) : OpS K (rI C fun i j => .int (g i j)) (oII c g) := by
  intro G H v u a b r e ta tb h Q q
  cases a <;> try (cases h)
  cases b <;> try (cases h)
  rename_i i j
  have h' : (if c i j then vI (g i j) else none) = some r := h
  cases hcc : c i j with
  | false => rw [hcc] at h'; cases h'
  | true =>
    rw [hcc] at h'
    cases h'
    exact ⟨i, j, ta.int, tb.int, hc i j hcc, q.val e (.int _)⟩
theorem os_I0 {g : Int → Int → Int} : OpS K (rI0 fun i j => .int (g i j)) (oII (fun _ _ => true) g) := by
  intro G H v u a b r e ta tb h Q q
  cases a <;> try (cases h)
  cases b <;> try (cases h)
  rename_i i j
  exact ⟨i, j, ta.int, tb.int, q.val e (.int _)⟩
theorem os_IB {g : Int → Int → Bool} : OpS K (rI0 fun i j => .bl (g i j)) (oIB g) := by
  intro G H v u a b r e ta tb h Q q
  cases a <;> try (cases h)
  cases b <;> try (cases h)
  rename_i i j
  exact ⟨i, j, ta.int, tb.int, q.val e (.bl _)⟩
def oSub := oII (fun _ _ => true) fun i j => i - j
def oAnd := oII (fun _ _ => true) fun i j => Builtin.bitAnd i j
def oOr := oII (fun _ _ => true) fun i j => Builtin.bitOr i j
def oXor := oII (fun _ _ => true) fun i j => Builtin.bitXor i j
def oMod := oII (fun _ j => decide (0 < j)) fun i j => i % j
def oDiv := oII (fun _ j => decide (0 < j) && decide (j < 1073741824)) fun i j => i / j
def oShr := oII (fun _ j => decide (0 ≤ j)) fun i j => i / 2 ^ j.toNat
def cPow (i j : Int) : Bool := decide (0 ≤ j) && (decide (j ≤ 1000000) && decide (i.natAbs < 18446744073709551616))
def oPow := oII cPow fun i j => i ^ j.toNat
def oShl := oII cPow fun i j => i * 2 ^ j.toNat
def oLt := oIB fun i j => decide (i < j)
def oLe := oIB fun i j => decide (i ≤ j)
def oGt := oIB fun i j => decide (j < i)
def oGe := oIB fun i j => decide (j ≤ i)
theorem cPow_ok (i j : Int) (h : cPow i j = true) : CPow i j := by
  unfold cPow at h
  simp only [Bool.and_eq_true, decide_eq_true_eq] at h
  exact ⟨h.1, h.2.1, h.2.2⟩
theorem os_sub : OpS K (rI0 fun i j => .int (i - j)) oSub := os_I0
theorem os_and : OpS K (rI0 fun i j => .int (Builtin.bitAnd i j)) oAnd := os_I0
theorem os_mod : OpS K (rI (fun _ j => 0 < j) fun i j => .int (i % j)) oMod := os_II fun _ _ h => by simpa using h
theorem os_div : OpS K (rI CDiv fun i j => .int (i / j)) oDiv := os_II fun _ _ h => by simpa [CDiv] using h
theorem os_shr : OpS K (rI (fun _ j => 0 ≤ j) fun i j => .int (i / 2 ^ j.toNat)) oShr := os_II fun _ _ h => by simpa using h
theorem os_pow : OpS K (rI CPow fun i j => .int (i ^ j.toNat)) oPow := os_II cPow_ok
theorem os_shl : OpS K (rI CPow fun i j => .int (i * 2 ^ j.toNat)) oShl := os_II cPow_ok
theorem os_lt : OpS K (rI0 fun i j => .bl (decide (i < j))) oLt := os_IB
theorem os_le : OpS K (rI0 fun i j => .bl (decide (i ≤ j))) oLe := os_IB
def oNeg : PyData → Option Rv
  | .int i => vI (-i)
  | _ => none
def rCatL (K : PySem.W.Frag) : R2 := fun x y H Q => ∃ l b xs zs, x = .ref l ∧ y = .ref b ∧ SqL K H l xs ∧ SqL K H b zs ∧ xs.length + zs.length ≤ sizeLine ∧ ∀ p, H p = none → Q (.ref p) (upd H p (.lst (xs ++ zs)))
theorem op_catL : OpR X (binaryOp .Add) (rCatL X.K) := by
  intro pins s σ H x y v u Q I rx ry h
  obtain ⟨l, b, xs, zs, rfl, rfl, hH, hB, hz, q⟩ := h
  cases rx
  cases ry
  obtain ⟨its, r, ⟨o1, n1, g1, c1, d1, e1⟩, z⟩ := I.list hH
  obtain ⟨its2, r2, ⟨o2, n2, g2, c2, d2, e2⟩, z2⟩ := I.list hB
  have l1 := r.length
  have l2 := r2.length
  obtain ⟨cls, dd, data, sl⟩ := o1
  obtain ⟨cls2, dd2, data2, sl2⟩ := o2
  simp only at c1 e1 c2 e2
  subst c1 e1 c2 e2
  refine concat_meets ⟨_, g1, rfl⟩ ⟨_, g2, rfl⟩ noFill_list_add seq_list_add PySem.F.slot_list_add PySem.F.entry_list_add (PySem.F.args_list_add_2 _ _) (PyProof.Rows.list_addW l b its.toArray its2.toArray n1 n2 dd dd2 sl sl2 (by rw [List.size_toArray, List.size_toArray]; omega)) ⟨g1, g2, ?_⟩
  have ea : its.toArray ++ its2.toArray = (its ++ its2).toArray := by simp
  rw [ea]
  exact ⟨.ref _, _, I.lnew (t' := s.toks) (r.append r2) (by rw [List.length_append]; omega), rfl, q _ I.fresh⟩
def rAddA (K : PySem.W.Frag) : R2 := fun x y H Q => (rI0 (fun i j => .int (i + j)) x y H Q ∨ (∃ i j, x = .str i ∧ y = .str j ∧ i.length + j.length ≤ sizeLine ∧ Q (.str (i ++ j)) H)) ∨ (rCatL K x y H Q ∨ rCatA K x y H Q)
theorem op_addA : OpR X (binaryOp .Add) (rAddA X.K) := OpR.or (OpR.or op_add op_add_str) (OpR.or op_catL op_catA)
def oAdd : PyData → PyData → Option Rv
  | .int i, .int j => vI (i + j)
  | .str i, .str j => if i.length + j.length ≤ 100000 then some (.val (.str (i ++ j))) else none
  | .list a, .list b => if a.length + b.length ≤ 100000 then some (.new (a ++ b)) else none
  | .tuple a, .tuple b => if a.length + b.length ≤ 100000 then some (.val (.tuple (a ++ b))) else none
  | _, _ => none
theorem os_add : OpS K (rAddA K) oAdd := by
  intro G H v u a b r e ta tb h Q q
  cases a with
  | int i =>
    cases b <;> try (cases h)
    rename_i j
    exact .inl (.inl ⟨i, j, ta.int, tb.int, q.val e (.int _)⟩)
  | str i =>
    cases b <;> try (cases h)
    rename_i j
    have h' : (if i.length + j.length ≤ 100000 then some (Rv.val (.str (i ++ j))) else none) = some r := h
    by_cases hl : i.length + j.length ≤ 100000
    · rw [if_pos hl] at h'
      cases h'
      exact .inl (.inr ⟨i, j, ta.str, tb.str, sz_of hl, q.val e (.str _)⟩)
    · rw [if_neg hl] at h'; cases h'
  | list xs =>
    cases b <;> try (cases h)
    rename_i ys
    have h' : (if xs.length + ys.length ≤ 100000 then some (Rv.new (xs ++ ys)) else none) = some r := h
    by_cases hl : xs.length + ys.length ≤ 100000
    · rw [if_pos hl] at h'
      cases h'
      obtain ⟨p1, v1, e1, q1, z1⟩ := ta.lst e
      obtain ⟨p2, v2, e2, q2, z2⟩ := tb.lst e
      exact .inr (.inl ⟨p1, p2, v1, v2, e1, e2, q1, q2, by rw [z1.len, z2.len]; exact sz_of hl, q.lst e (z1.append z2)⟩)
    · rw [if_neg hl] at h'; cases h'
  | tuple xs =>
    cases b <;> try (cases h)
    rename_i ys
    have h' : (if xs.length + ys.length ≤ 100000 then some (Rv.val (.tuple (xs ++ ys))) else none) = some r := h
    by_cases hl : xs.length + ys.length ≤ 100000
    · rw [if_pos hl] at h'
      cases h'
      have ta' : Da K G v (.tuple xs) := by cases ta with | st h => exact h
      have tb' : Da K G u (.tuple ys) := by cases tb with | st h => exact h
      obtain ⟨p1, v1, e1, q1, z1⟩ := ta.tup e
      obtain ⟨p2, v2, e2, q2, z2⟩ := tb.tup e
      refine .inr (.inr ⟨p1, p2, v1, v2, e1, e2, q1, q2, by rw [z1.len, z2.len]; exact sz_of hl, fun hn => ?_, fun _ hn => ?_, fun _ _ => q.tup e (z1.append z2)⟩)
      · subst hn
        cases xs with
        | cons x xs => exact nomatch z1
        | nil => exact q.val e (by rw [← e2]; exact tb')
      · subst hn
        cases ys with
        | cons x xs => exact nomatch z2
        | nil => exact q.val e (by rw [← e1, List.append_nil]; exact ta')
    · rw [if_neg hl] at h'; cases h'
  | none => cases b <;> cases h
  | bool _ => cases b <;> cases h
  | dict _ => cases b <;> cases h
def cMul (i j : Int) : Bool := decide (i.natAbs < 18446744073709551616) || decide (j.natAbs < 18446744073709551616)
def oMul := oII cMul fun i j => i * j
theorem os_mul : OpS K (rI CMul fun i j => .int (i * j)) oMul := os_II fun i j h => by
  unfold cMul at h
  simp only [Bool.or_eq_true, decide_eq_true_eq] at h
  unfold CMul
  omega
def isSc : PyData → Bool
  | .none | .bool _ | .int _ | .str _ => true
  | _ => false
def oEq : PyData → PyData → Option Rv := fun a b => if SeqAt.shaped a && SeqAt.shaped b then vB (PyData.eqv a b) else none
def oNe : PyData → PyData → Option Rv := fun a b => if SeqAt.shaped a && SeqAt.shaped b then vB (!PyData.eqv a b) else none
theorem os_eq : OpS K (rEqD K) oEq := by
  intro G H v u a b r e ta tb h Q q
  unfold oEq at h
  cases hs : SeqAt.shaped a && SeqAt.shaped b with
  | false => rw [hs] at h; cases h
  | true =>
    rw [hs] at h
    cases h
    rw [Bool.and_eq_true] at hs
    exact ⟨a, b, ta.dp e hs.1, tb.dp e hs.2, hs.1, hs.2, q.val e (.bl _)⟩
theorem os_ne : OpS K (rNeD K) oNe := by
  intro G H v u a b r e ta tb h Q q
  unfold oNe at h
  cases hs : SeqAt.shaped a && SeqAt.shaped b with
  | false => rw [hs] at h; cases h
  | true =>
    rw [hs] at h
    cases h
    rw [Bool.and_eq_true] at hs
    exact ⟨a, b, ta.dp e hs.1, tb.dp e hs.2, hs.1, hs.2, q.val e (.bl _)⟩
def isNone : PyData → Bool
  | .none => true
  | _ => false
def oIsN : PyData → PyData → Option Rv := fun a b => if isNone b then vB (isNone a) else none
def oNotN : PyData → PyData → Option Rv := fun a b => if isNone b then vB (!isNone a) else none
theorem tr_non {G H : Hp} {v : V} {a : PyData} (t : Tr K G H v a) : decide (v = .non) = isNone a := by
  cases t with
  | st h => cases h <;> simp [isNone]
  | li e _ _ => subst e; simp [isNone]
theorem os_isN : OpS K (fun x y H Q => y = .non ∧ Q (.bl (decide (x = .non))) H) oIsN := by
  intro G H v u a b r e ta tb h Q q
  unfold oIsN at h
  cases b <;> try (cases h)
  exact ⟨tb.non, by rw [tr_non ta]; exact q.val e (.bl _)⟩
end
end DL
namespace DL
open PySem L2
section
variable {X : Cx} {K : PySem.W.Frag}
def items : PyData → Option (List PyData)
  | .list ds => some ds
  | .tuple ds => some ds
  | _ => none
def oIn (neg : Bool) : PyData → PyData → Option Rv := fun a b => match items b with
  | some ds => if isSc a && ds.all isSc then vB (if neg then !ds.any fun y => PyData.eqv y a else ds.any fun y => PyData.eqv y a) else none
  | none => none
def oIx : PyData → PyData → Option Rv
  | .list ds, .int i => (atI ds i).map Rv.val
  | .tuple ds, .int i => (atI ds i).map Rv.val
  | .str z, .int i => if z.length ≤ 100000 then (atI z.cps.toList i).map fun c => .val (.str ⟨#[c]⟩) else none
  | _, _ => none
theorem at_da {G : Hp} {vs : List V} {ds : List PyData} {i : Int} {d : PyData} (z : DaAll K G vs ds) (h : atI ds i = some d) : ∃ v, atI vs i = some v ∧ Da K G v d := by
  unfold atI at h ⊢
  rw [z.len]
  cases hj : ixN ds.length i with
  | none => rw [hj] at h; cases h
  | some j =>
    rw [hj] at h
    obtain ⟨v, h1, h2⟩ := z.at (show ds[j]? = some d from h)
    exact ⟨v, h1, h2⟩
theorem os_ix : OpS K (rIx K) oIx := by
  intro G H v u a b r e ta tb h Q q
  cases a with
  | list ds =>
    cases b <;> try (cases h)
    rename_i i
    have h' : (atI ds i).map Rv.val = some r := h
    cases hd : atI ds i with
    | none => rw [hd] at h'; cases h'
    | some d =>
      rw [hd] at h'
      cases h'
      obtain ⟨p, vs, e1, sq, z⟩ := ta.lst e
      obtain ⟨w, h1, h2⟩ := at_da z hd
      exact .inl ⟨p, vs, i, w, e1, tb.int, sq, h1, q.val e h2⟩
  | tuple ds =>
    cases b <;> try (cases h)
    rename_i i
    have h' : (atI ds i).map Rv.val = some r := h
    cases hd : atI ds i with
    | none => rw [hd] at h'; cases h'
    | some d =>
      rw [hd] at h'
      cases h'
      obtain ⟨p, vs, e1, sq, z⟩ := ta.tup e
      obtain ⟨w, h1, h2⟩ := at_da z hd
      exact .inr (.inl ⟨p, vs, i, w, e1, tb.int, sq, h1, q.val e h2⟩)
  | str z =>
    cases b <;> try (cases h)
    rename_i i
    have h' : (if z.length ≤ 100000 then (atI z.cps.toList i).map fun c => Rv.val (.str ⟨#[c]⟩) else none) = some r := h
    by_cases hl : z.length ≤ 100000
    · rw [if_pos hl] at h'
      cases hd : atI z.cps.toList i with
      | none => rw [hd] at h'; cases h'
      | some c =>
        rw [hd] at h'
        cases h'
        exact .inr (.inr ⟨z, i, c, ta.str, tb.int, sz_of hl, hd, q.val e (.str _)⟩)
    · rw [if_neg hl] at h'; cases h'
  | none => cases b <;> cases h
  | bool _ => cases b <;> cases h
  | int _ => cases b <;> cases h
  | dict _ => cases b <;> cases h
def cutD (ds : List PyData) (lo hi : Option Int) : List PyData := (ds.drop (HT.sIx ds.length 0 lo)).take (HT.sIx ds.length ds.length hi - HT.sIx ds.length 0 lo)
theorem cut_da {G : Hp} {vs : List V} {ds : List PyData} (z : DaAll K G vs ds) (lo hi : Option Int) : DaAll K G (cutV vs lo hi) (cutD ds lo hi) := by
  unfold cutV cutD
  rw [z.len]
  exact (z.drop _).take _
def oSl (a : PyData) (lo hi : Option Int) : Option Rv := match a with
  | .list ds => some (.new (cutD ds lo hi))
  | .tuple ds => some (.val (.tuple (cutD ds lo hi)))
  | _ => none
abbrev rSl (K : PySem.W.Frag) : V → Option Int → Option Int → Hp → VK → Prop := fun x lo hi H Q => rSlL K x lo hi H Q ∨ rSlA K x lo hi H Q
theorem sl_any : SlR X (rSl X.K) := SlR.or sl_list sl_tupA
theorem sl_ok {G H : Hp} {v : V} {a : PyData} {lo hi : Option Int} {r : Rv} (e : Ex G H) (ta : Tr K G H v a) (h : oSl a lo hi = some r) {Q : VK} (q : wO K G H r Q) : rSl K v lo hi H Q := by
  cases a <;> try (cases h)
  · rename_i ds
    obtain ⟨p, vs, e1, sq, z⟩ := ta.lst e
    exact .inl ⟨p, vs, e1, sq, q.lst e (cut_da z lo hi)⟩
  · rename_i ds
    have ta' : Da K G v (.tuple ds) := by cases ta with | st h => exact h
    obtain ⟨p, vs, e1, sq, z⟩ := ta.tup e
    refine .inr ⟨p, vs, e1, sq, fun hw => ?_, fun _ => q.tup e (cut_da z lo hi)⟩
    have ec : cutD ds lo hi = ds := by
      unfold cutD
      rw [z.len] at hw
      rw [hw.1, hw.2]
      simp
    rw [ec] at q
    exact q.val e (by rw [← e1]; exact ta')
def dPart (f : S → Out Rv) : S → Out (Option Int) := fun dl => (f dl).bind fun r d1 => match rd d1 r with
  | some (.int i) => .ok (some i) d1
  | _ => .bad
def dNoPart : S → Out (Option Int) := fun dl => .ok none dl
def SoO (X : Cx) (W : WX) (t : TO) (f : S → Out (Option Int)) : Prop := ∀ G H sg dl (Q : Option Int → Hp → Prop), Rel X.K G H sg dl → Post X W G H sg dl (fun b _ _ H' => Q b H') (f dl) → t sg H Q
def SO (X : Cx) (W : WX) (e : Option Expr) (f : S → Out (Option Int)) : Prop := ∃ t, PO X e t ∧ SoO X W t f
theorem so_none {W : WX} : SO X W none dNoPart := ⟨tNoPart, po_none, fun G H sg dl Q re h => h G H (Stp.refl re) (Kp.refl dl)⟩
theorem so_some {W : WX} {e : Expr} {f : S → Out Rv} (h : SE X W e f) : SO X W (some e) (dPart f) := by
  obtain ⟨t, p, s⟩ := h
  refine ⟨tPart t, po_some p, fun G H sg dl Q re h => ?_⟩
  refine s G H sg dl _ re ((post_bind h).imp fun r1 d1 G1 H1 s1 k1 h1 v1 q1 => ?_)
  cases e1 : rd d1 r1 with
  | none => rw [e1] at h1; exact h1.elim
  | some x =>
    rw [e1] at h1
    cases x with
    | int i => exact ⟨i, (q1.tr s1.rel e1).int, h1 G1 H1 (Stp.refl s1.rel) (Kp.refl d1)⟩
    | none => exact h1.elim
    | bool i => exact h1.elim
    | str i => exact h1.elim
    | list i => exact h1.elim
    | tuple i => exact h1.elim
    | dict i => exact h1.elim
def dSl (f : S → Out Rv) (lo hi : S → Out (Option Int)) : S → Out Rv := fun dl => (f dl).bind fun r d1 => (lo d1).bind fun l d2 => (hi d2).bind fun u d3 => fin ((rd d3 r).bind fun a => oSl a l u) d3
theorem se_sl {W : WX} {e : Expr} {l u : Option Expr} {p2 pos : Pos} {f : S → Out Rv} {lo hi : S → Out (Option Int)} (ha : SE X W e f) (hl : SO X W l lo) (hu : SO X W u hi) : SE X W (.Subscript e (.Slice l u none p2) pos) (dSl f lo hi) := by
  obtain ⟨ta, pa, sa⟩ := ha
  obtain ⟨tl, pl, sl⟩ := hl
  obtain ⟨th, ph, sh⟩ := hu
  refine ⟨tSl (rSl X.K) ta tl th, pe_slice sl_any pa pl ph, fun G H sg dl Q re h => ?_⟩
  refine sa G H sg dl _ re ((post_bind h).imp fun r1 d1 G1 H1 s1 k1 h1 v1 q1 => ?_)
  refine sl G1 H1 sg d1 _ s1.rel ((post_bind h1).imp fun l d2 G2 H2 s2 k2 h2 => ?_)
  refine sh G2 H2 sg d2 _ s2.rel ((post_bind h2).imp fun u d3 G3 H3 s3 k3 h3 => ?_)
  have q3 := (q1.mono s2 k2).mono s3 k3
  cases e1 : rd d3 r1 with
  | none => rw [e1] at h3; exact h3.elim
  | some x =>
    rw [e1] at h3
    have h3' : Post X W G3 H3 sg d3 (wE X sg H Q) (fin (oSl x l u) d3) := h3
    cases e3 : oSl x l u with
    | none => rw [e3] at h3'; exact h3'.elim
    | some r =>
      rw [e3] at h3'
      exact sl_ok s3.rel.ex (q3.tr s3.rel e1) e3 (wO.fin rfl s3.rel (fun a z => s3.d a (s2.d a (s1.d a z))) h3')
theorem tr1 {G H : Hp} {vs : List V} {d : PyData} (t : TrAll K G H vs [d]) : ∃ v, vs = [v] ∧ Tr K G H v d := by
  cases t with
  | cons a b => cases b; exact ⟨_, rfl, a⟩
theorem tr2 {G H : Hp} {vs : List V} {d e : PyData} (t : TrAll K G H vs [d, e]) : ∃ v u, vs = [v, u] ∧ Tr K G H v d ∧ Tr K G H u e := by
  cases t with
  | cons a b =>
    obtain ⟨u, rfl, c⟩ := tr1 b
    exact ⟨_, u, rfl, a, c⟩
def bLen : List PyData → Option Rv
  | [.list ds] => vI ds.length
  | [.tuple ds] => vI ds.length
  | [.str z] => if z.length ≤ 100000 then vI z.length else none
  | _ => none
theorem cs_len : CaS K (fun xs H Q => ∃ x n, xs = [x] ∧ LenV K x H n ∧ Q (.int n) H) bLen := by
  intro G H vs ds rv e t h Q q
  unfold bLen at h
  split at h
  · obtain ⟨v, rfl, t'⟩ := tr1 t
    cases h
    obtain ⟨p, us, rfl, sq, z⟩ := t'.lst e
    exact ⟨.ref p, us.length, rfl, .inl ⟨us, sq, rfl⟩, by rw [z.len]; exact q.val e (.int _)⟩
  · obtain ⟨v, rfl, t'⟩ := tr1 t
    cases h
    obtain ⟨p, us, rfl, sq, z⟩ := t'.tup e
    exact ⟨.ref p, us.length, rfl, .inr ⟨us, sq, rfl⟩, by rw [z.len]; exact q.val e (.int _)⟩
  · obtain ⟨v, rfl, t'⟩ := tr1 t
    rename_i z
    by_cases hl : z.length ≤ 100000
    · rw [if_pos hl] at h
      cases h
      have := t'.str
      subst this
      exact ⟨.str z, z.length, rfl, ⟨sz_of hl, rfl⟩, q.val e (.int _)⟩
    · rw [if_neg hl] at h; cases h
  · cases h
def bAbs : List PyData → Option Rv
  | [.int i] => vI (if i < 0 then -i else i)
  | _ => none
theorem cs_abs : CaS K (fun xs H Q => ∃ i, xs = [.int i] ∧ Q (.int (if i < 0 then -i else i)) H) bAbs := by
  intro G H vs ds rv e t h Q q
  unfold bAbs at h
  split at h
  · obtain ⟨v, rfl, t'⟩ := tr1 t
    cases h
    exact ⟨_, by rw [t'.int], q.val e (.int _)⟩
  · cases h
def bII (g : Int → Int → Int) : List PyData → Option Rv
  | [.int i, .int j] => vI (g i j)
  | _ => none
theorem cs_II {g : Int → Int → Int} : CaS K (fun xs H Q => ∃ i j, xs = [.int i, .int j] ∧ Q (.int (g i j)) H) (bII g) := by
  intro G H vs ds rv e t h Q q
  unfold bII at h
  split at h
  · obtain ⟨v, u, rfl, t1, t2⟩ := tr2 t
    cases h
    exact ⟨_, _, by rw [t1.int, t2.int], q.val e (.int _)⟩
  · cases h
def bMax2 := bII fun i j => if j > i then j else i
def bMin2 := bII fun i j => if j < i then j else i
theorem cs_max2 : CaS K (fun xs H Q => ∃ i j, xs = [.int i, .int j] ∧ Q (.int (if j > i then j else i)) H) bMax2 := cs_II
theorem cs_min2 : CaS K (fun xs H Q => ∃ i j, xs = [.int i, .int j] ∧ Q (.int (if j < i then j else i)) H) bMin2 := cs_II
def bInt : List PyData → Option Rv
  | [.int i] => vI i
  | [.bool b] => vI (if b then 1 else 0)
  | _ => none
theorem cs_int : CaS K (fun xs H Q => (∃ i, xs = [.int i] ∧ Q (.int i) H) ∨ ∃ k, xs = [.bl k] ∧ Q (.int (if k then 1 else 0)) H) bInt := by
  intro G H vs ds rv e t h Q q
  unfold bInt at h
  split at h
  · obtain ⟨v, rfl, t'⟩ := tr1 t
    cases h
    exact .inl ⟨_, by rw [t'.int], q.val e (.int _)⟩
  · obtain ⟨v, rfl, t'⟩ := tr1 t
    cases h
    exact .inr ⟨_, by rw [t'.bl], q.val e (.int _)⟩
  · cases h
def bList : List PyData → Option Rv
  | [.list ds] => some (.new ds)
  | [.tuple ds] => some (.new ds)
  | _ => none
def bTup : List PyData → Option Rv
  | [.list ds] => some (.val (.tuple ds))
  | [.tuple ds] => some (.val (.tuple ds))
  | _ => none
theorem cs_tup : CaS K (fun xs H Q => ∃ p ys, xs = [.ref p] ∧ ((SqL K H p ys ∧ ∀ l, H l = none → Q (.ref l) (upd H l (.tup ys))) ∨ (SqT K H p ys ∧ Q (.ref p) H))) bTup := by
  intro G H vs ds rv e t h Q q
  unfold bTup at h
  split at h
  · obtain ⟨v, rfl, t'⟩ := tr1 t
    cases h
    obtain ⟨p, us, rfl, sq, z⟩ := t'.lst e
    exact ⟨p, us, rfl, .inl ⟨sq, q.tup e z⟩⟩
  · obtain ⟨v, rfl, t'⟩ := tr1 t
    cases h
    rename_i ds
    have ta' : Da K G v (.tuple ds) := by cases t' with | st h => exact h
    obtain ⟨p, us, rfl, sq, z⟩ := t'.tup e
    exact ⟨p, us, rfl, .inr ⟨sq, q.val e ta'⟩⟩
  · cases h
def toI : PyData → Option Int
  | .int i => some i
  | _ => none
def toB : PyData → Option Bool
  | .bool i => some i
  | _ => none
def allI : List PyData → Option (List Int)
  | [] => some []
  | d :: ds => (toI d).bind fun i => (allI ds).bind fun is => some (i :: is)
def allB : List PyData → Option (List Bool)
  | [] => some []
  | d :: ds => (toB d).bind fun i => (allB ds).bind fun is => some (i :: is)
theorem allI_map : ∀ {ds : List PyData} {ns : List Int}, allI ds = some ns → ds = ns.map PyData.int
  | [], ns, h => by cases h; rfl
  | d :: ds, ns, h => by
    unfold allI at h
    cases d <;> try (cases h)
    rename_i i
    have h' : (allI ds).bind (fun is => some (i :: is)) = some ns := h
    cases e : allI ds with
    | none => rw [e] at h'; cases h'
    | some is =>
      rw [e] at h'
      cases h'
      rw [allI_map e]
      rfl
theorem allB_map : ∀ {ds : List PyData} {ns : List Bool}, allB ds = some ns → ds = ns.map PyData.bool
  | [], ns, h => by cases h; rfl
  | d :: ds, ns, h => by
    unfold allB at h
    cases d <;> try (cases h)
    rename_i i
    have h' : (allB ds).bind (fun is => some (i :: is)) = some ns := h
    cases e : allB ds with
    | none => rw [e] at h'; cases h'
    | some is =>
      rw [e] at h'
      cases h'
      rw [allB_map e]
      rfl
theorem allB_bools : ∀ (ns : List Bool), allB (ns.map PyData.bool) = some ns
  | [] => rfl
  | n :: ns => by
    show (allB (ns.map PyData.bool)).bind (fun is => some (n :: is)) = some (n :: ns)
    rw [allB_bools ns]
    rfl
def bLI (g : List Int → Option Rv) : List PyData → Option Rv
  | [.list ds] => (allI ds).bind g
  | _ => none
def bLB (g : List Bool → Option Rv) : List PyData → Option Rv
  | [.list ds] => (allB ds).bind g
  | _ => none
theorem bLI_ok {G H : Hp} {vs : List V} {ds : List PyData} {rv : Rv} {g : List Int → Option Rv} (e : Ex G H) (t : TrAll K G H vs ds) (h : bLI g ds = some rv) : ∃ p ns, vs = [.ref p] ∧ SqL K H p (ns.map V.int) ∧ g ns = some rv := by
  unfold bLI at h
  split at h
  · obtain ⟨v, rfl, t'⟩ := tr1 t
    rename_i ds
    obtain ⟨p, us, rfl, sq, z⟩ := t'.lst e
    cases hn : allI ds with
    | none => rw [hn] at h; cases h
    | some ns =>
      rw [hn] at h
      rw [allI_map hn] at z
      rw [z.ints] at sq
      exact ⟨p, ns, rfl, sq, h⟩
  · cases h
theorem bLB_ok {G H : Hp} {vs : List V} {ds : List PyData} {rv : Rv} {g : List Bool → Option Rv} (e : Ex G H) (t : TrAll K G H vs ds) (h : bLB g ds = some rv) : ∃ p ns, vs = [.ref p] ∧ SqL K H p (ns.map V.bl) ∧ g ns = some rv := by
  unfold bLB at h
  split at h
  · obtain ⟨v, rfl, t'⟩ := tr1 t
    rename_i ds
    obtain ⟨p, us, rfl, sq, z⟩ := t'.lst e
    cases hn : allB ds with
    | none => rw [hn] at h; cases h
    | some ns =>
      rw [hn] at h
      rw [allB_map hn] at z
      rw [z.bools] at sq
      exact ⟨p, ns, rfl, sq, h⟩
  · cases h
def bSum := bLI fun ns => vI ns.sum
def bAny := bLB fun bs => vB (bs.any id)
def bAll := bLB fun bs => vB (bs.all id)
theorem cs_sum : CaS K (rSum K) bSum := by
  intro G H vs ds rv e t h Q q
  obtain ⟨p, ns, rfl, sq, h'⟩ := bLI_ok e t h
  cases h'
  exact ⟨p, ns, rfl, sq, q.val e (.int _)⟩
theorem cs_all : CaS K (rAll K) bAll := by
  intro G H vs ds rv e t h Q q
  obtain ⟨p, ns, rfl, sq, h'⟩ := bLB_ok e t h
  cases h'
  exact ⟨p, ns, rfl, sq, q.val e (.bl _)⟩
def tyD : PyData → String
  | .none => "NoneType"
  | .bool _ => "bool"
  | .int _ => "int"
  | .str _ => "str"
  | .list _ => "list"
  | .tuple _ => "tuple"
  | .dict _ => "dict"
def isDic : PyData → Bool
  | .dict _ => true
  | _ => false
theorem ty_ok {H : Hp} {v : V} {d : PyData} (h : Da K H v d) (hd : isDic d = false) : TyX K H v (.type (tyD d)) := by
  cases h with
  | non => exact .base .non
  | bl b => exact .base (.bl b)
  | int i => exact .base (.int i)
  | str x => exact .base (.str x)
  | lst hs ha =>
    rcases hs with (h | ⟨o, h⟩) | ⟨o, its, n, h, hc, _⟩
    · exact .base (.lst h)
    · exact .base (.frz h)
    · exact .kList h hc
  | tup hs ha =>
    rcases hs with (h | ⟨o, h⟩) | ⟨o, its, n, h, hc, _⟩
    · exact .base (.tup h)
    · exact .fTuple h
    · exact .kTuple h hc
  | dct hs ha => cases hd
  | exc hs ha => cases hd
  | fn hs => cases hd
def oIsi (T : String) : PyData → Option Rv := fun d => if isDic d then none else (kitB (tyD d) T).bind vB
theorem se_isi {W : WX} {T : String} {x : Str} {e : Expr} {p p2 pos : Pos} {f : S → Out Rv} (hg : Gl X "isinstance") (hm : X.mg "isinstance" = none) (hgT : Gl X x) (hmT : X.mg x = none) (hvT : bootBuiltins x = some (.type T)) (ha : SE X W e f)
    (hn : x ≠ "__name__" := by decide) (hdb : (x == ("__debug__" : Str)) = false := by decide)
    (he : starEach [e, .Name x p2] X.env = (false, eval e X.env) :: starEach [.Name x p2] X.env := by rfl) (he2 : starEach [.Name x p2] X.env = (false, eval (.Name x p2) X.env) :: starEach [] X.env := by rfl) (hpl : (backTo pos (starEach [.Name x p2] X.env)).any (·.1) = false := by rfl) :
    SE X W (.Call (.Name "isinstance" p) [e, .Name x p2] [] pos) (d1 (oIsi T) f) := by
  obtain ⟨ta, pa, sa⟩ := ha
  refine ⟨_, pe_callB call_isi hg hm (by decide +kernel) (pa_cons pa (pa_cons (pe_bltn (v := .ty T) hgT hmT hvT rfl hn hdb) pa_nil he2) he) (by decide) (by decide) he hpl, fun G H sg dl Q re h => ?_⟩
  refine sa G H sg dl _ re ((post_bind h).imp fun r1 d1 G1 H1 s1 k1 h1 v1 q1 => ?_)
  cases e1 : rd d1 r1 with
  | none => rw [e1] at h1; exact h1.elim
  | some x =>
    rw [e1] at h1
    have h0 : Post X W G1 H1 sg d1 (wE X sg H Q) (fin (if isDic x then none else (kitB (tyD x) T).bind vB) d1) := h1
    cases e0 : isDic x with
    | true => rw [e0] at h0; exact h0.elim
    | false =>
    rw [e0] at h0
    have h1' : Post X W G1 H1 sg d1 (wE X sg H Q) (fin ((kitB (tyD x) T).bind vB) d1) := h0
    cases e3 : kitB (tyD x) T with
    | none => rw [e3] at h1'; exact h1'.elim
    | some b =>
      rw [e3] at h1'
      exact ⟨v1, .ty T, .type (tyD x), .type T, b, rfl, .ty T, ty_ok ((q1.tr s1.rel e1).da s1.rel.ex) e0, kit_ty e3, (wO.fin rfl s1.rel s1.d h1').val s1.rel.ex (.bl b)⟩
end
end DL
namespace DL
open PySem L2
inductive Fl where
  | nx (dl : S)
  | ret (r : Rv) (dl : S)
  | brk (dl : S)
  | cnt (dl : S)
  | ex (c : Str) (dl : S)
  | bad
def Out.fl {A : Type} : Out A → (A → S → Fl) → Fl
  | .ok a dl, k => k a dl
  | .ex c dl, _ => .ex c dl
  | .bad, _ => .bad
def PostS (X : Cx) (W : WX) (G H : Hp) (sg : L2.St) (dl : S) (D : Ends) : Fl → Prop
  | .nx dl' => ∀ G' H' sg', Stp X.K G H sg dl G' H' sg' dl' → D.nx sg' H'
  | .brk dl' => ∀ G' H' sg', Stp X.K G H sg dl G' H' sg' dl' → D.bk sg' H'
  | .cnt dl' => ∀ G' H' sg', Stp X.K G H sg dl G' H' sg' dl' → D.ct sg' H'
  | .ret r dl' => ∀ v G' H' sg', Stp X.K G H sg dl G' H' sg' dl' → RvOk X.K G' H' sg' dl' H v r → D.rt v H'
  | .ex c dl' => ∀ C G' H' sg', X.mg c = some (.ref C) → Stp X.K G H sg dl G' H' sg' dl' → W (.ref C) none sg' H'
  | .bad => False
def SoS (X : Cx) (W : WX) (t : TS) (f : S → Fl) : Prop := ∀ G H sg dl D, Rel X.K G H sg dl → PostS X W G H sg dl D (f dl) → t D sg H
def SS (X : Cx) (W : WX) (st : Stmt) (f : S → Fl) : Prop := ∃ t, PS X st t ∧ SoS X W t f
def SB (X : Cx) (W : WX) (sts : List Stmt) (f : S → Fl) : Prop := ∃ t, PSs X sts t ∧ SoS X W t f
section
variable {X : Cx} {W : WX}
theorem PostS.from {G H G1 H1 : Hp} {sg sg1 : L2.St} {dl d1 : S} {D : Ends} {o : Fl} (h : PostS X W G H sg dl D o) (s : Stp X.K G H sg dl G1 H1 sg1 d1) : PostS X W G1 H1 sg1 d1 D o := by
  cases o with
  | bad => exact h
  | nx d2 => exact fun G2 H2 sg2 s2 => h G2 H2 sg2 (s.trans s2)
  | brk d2 => exact fun G2 H2 sg2 s2 => h G2 H2 sg2 (s.trans s2)
  | cnt d2 => exact fun G2 H2 sg2 s2 => h G2 H2 sg2 (s.trans s2)
  | ret r d2 => exact fun v G2 H2 sg2 s2 q => h v G2 H2 sg2 (s.trans s2) (q.from s.d)
  | ex c d2 => exact fun C G2 H2 sg2 hc s2 => h C G2 H2 sg2 hc (s.trans s2)
theorem post_fl {A : Type} {G H : Hp} {sg : L2.St} {dl : S} {D : Ends} {o : Out A} {k : A → S → Fl} (h : PostS X W G H sg dl D (o.fl k)) : Post X W G H sg dl (fun a d1 _ _ => PostS X W G H sg dl D (k a d1)) o := by
  cases o with
  | bad => exact h
  | ex c d1 => exact fun C G1 H1 hc s => h C G1 H1 sg hc s
  | ok a d1 => exact fun _ _ _ _ => h
theorem post_fl2 {A : Type} {G H G1 H1 : Hp} {sg sg1 : L2.St} {dl d1 : S} {D : Ends} {o : Out A} {k : A → S → Fl} (h : PostS X W G H sg dl D (o.fl k)) (s : Stp X.K G H sg dl G1 H1 sg1 d1) : Post X W G1 H1 sg1 d1 (fun a d2 _ _ => PostS X W G H sg dl D (k a d2)) o := by
  cases o with
  | bad => exact h
  | ex c d2 => exact fun C G2 H2 hc s2 => h C G2 H2 sg1 hc (s.trans s2)
  | ok a d2 => exact fun _ _ _ _ => h
def dSeq (f g : S → Fl) : S → Fl := fun dl => match f dl with
  | .nx d1 => g d1
  | o => o
def dNx : S → Fl := fun dl => .nx dl
theorem sb_nil : SB X W [] dNx := ⟨tNext, pss_nil, fun G H sg dl D re h => h G H sg (Stp.refl re)⟩
theorem sb_one {st : Stmt} {f : S → Fl} (h : SS X W st f) : SB X W [st] f := let ⟨t, p, s⟩ := h; ⟨t, pss_one p, s⟩
theorem sb_cons {st : Stmt} {rest : List Stmt} {f g : S → Fl} (h : SS X W st f) (k : SB X W rest g) : SB X W (st :: rest) (dSeq f g) := by
  obtain ⟨t, p, s⟩ := h
  obtain ⟨u, q, v⟩ := k
  refine ⟨tSeq t u, pss_cons p q, fun G H sg dl D re h => ?_⟩
  refine s G H sg dl _ re ?_
  unfold dSeq at h
  cases e : f dl with
  | bad => rw [e] at h; exact h
  | brk d1 => rw [e] at h; exact h
  | cnt d1 => rw [e] at h; exact h
  | ret r d1 => rw [e] at h; exact h
  | ex c d1 => rw [e] at h; exact h
  | nx d1 =>
    rw [e] at h
    exact fun G1 H1 sg1 s1 => v G1 H1 sg1 d1 D s1.rel (h.from s1)
theorem ss_never {st : Stmt} : SS X W st (fun _ => .bad) := ⟨tNever, ps_never, fun _ _ _ _ _ _ h => h⟩
def dDo (f : S → Out Rv) : S → Fl := fun dl => (f dl).fl fun _ d1 => .nx d1
def dRet (f : S → Out Rv) : S → Fl := fun dl => (f dl).fl fun r d1 => .ret r d1
theorem ss_ret {e : Expr} {pos : Pos} {f : S → Out Rv} (h : SE X W e f) : SS X W (.Return (some e) pos) (dRet f) := by
  obtain ⟨t, p, s⟩ := h
  refine ⟨tRet t, ps_ret p, fun G H sg dl D re h => ?_⟩
  exact s G H sg dl _ re ((post_fl h).imp fun r d1 G1 H1 s1 k1 h1 v q => h1 v G1 H1 sg s1 q)
def dIf (c : S → Out Bool) (f g : S → Fl) : S → Fl := fun dl => (c dl).fl fun b d1 => if b then f d1 else g d1
theorem ss_if {c : Expr} {a b : List Stmt} {pos : Pos} {h : S → Out Bool} {f g : S → Fl} (hc : ST X W c h) (ha : SB X W a f) (hb : SB X W b g) : SS X W (.If c a b pos) (dIf h f g) := by
  obtain ⟨tc, pc, sc⟩ := hc
  obtain ⟨ta, pa, sa⟩ := ha
  obtain ⟨tb, pb, sb⟩ := hb
  refine ⟨tIfS tc ta tb, ps_if pc pa pb, fun G H sg dl D re h => ?_⟩
  refine sc G H sg dl _ re ((post_fl h).imp fun c d1 G1 H1 s1 k1 h1 => ?_)
  cases c with
  | true => exact sa G1 H1 sg d1 D s1.rel (h1.from s1)
  | false => exact sb G1 H1 sg d1 D s1.rel (h1.from s1)
theorem get_set {A : Type} {l : List A} {i j : Nat} {a b : A} (h : (l.set i a)[j]? = some b) : (j = i ∧ b = a ∧ i < l.length) ∨ (j ≠ i ∧ l[j]? = some b) := by
  by_cases hj : i = j
  · subst hj
    by_cases hl : i < l.length
    · rw [List.getElem?_set_self hl] at h
      cases h
      exact .inl ⟨rfl, rfl, hl⟩
    · rw [List.getElem?_eq_none (by simpa using hl)] at h; cases h
  · rw [List.getElem?_set_ne hj] at h
    exact .inr ⟨fun z => hj z.symm, h⟩
theorem set_ne {A : Type} {l : List A} {i j : Nat} {a : A} (h : j ≠ i) : (l.set i a)[j]? = l[j]? := List.getElem?_set_ne (Ne.symm h)
theorem lt_of_get {A : Type} {l : List A} {i : Nat} {a : A} (h : l[i]? = some a) : i < l.length := (List.getElem?_eq_some_iff.mp h).1
theorem setS_ok {K : PySem.W.Frag} {G H H0 G0 : Hp} {sg sg0 : L2.St} {dl dl0 : S} {v : V} {sl : Sl} (s : Stp K G0 H0 sg0 dl0 G H sg dl) (i : Nat) (hd : ∀ d, sl = .val d → Da K G v d) (hm : mine sl = true → SlOk K G H sl v ∧ ∀ a, Fs H sl v a → G a = none)
    (hw : ∀ a, Fs H sl v a → ¬ Ow H sg dl a) (h0 : ∀ a, Fs H sl v a → H0 a = none) (hio : ∀ ds, sl ≠ .own true ds) : Stp K G0 H0 sg0 dl0 G H (sg.set i (some v)) (dl.set i sl) := by
  have re := s.rel
  refine ⟨⟨by rw [List.length_set, List.length_set]; exact re.len, re.ex, re.nt, re.tb, fun j d' z => ?_, fun j s' z hm' => ?_, fun j j' s1 s2 v1 v2 a z1 z2 z3 z4 z5 z6 => ?_⟩, s.g, s.k, s.n, fun p z => ?_, s.d, fun j ds z => ?_⟩
  · rcases get_set z with ⟨rfl, e, hl⟩ | ⟨hj, z⟩
    · exact ⟨v, List.getElem?_set_self (by rw [re.len]; exact hl), hd d' e.symm⟩
    · obtain ⟨u, q1, q2⟩ := re.val j d' z
      exact ⟨u, by rw [set_ne hj]; exact q1, q2⟩
  · rcases get_set z with ⟨rfl, e, hl⟩ | ⟨hj, z⟩
    · subst e
      exact ⟨v, List.getElem?_set_self (by rw [re.len]; exact hl), (hm hm').1, (hm hm').2⟩
    · obtain ⟨u, q1, q2⟩ := re.mn j s' z hm'
      exact ⟨u, by rw [set_ne hj]; exact q1, q2⟩
  · rcases get_set z1 with ⟨rfl, e, hl⟩ | ⟨hj, z1⟩
    · subst e
      rcases get_set z2 with ⟨hj2, e, _⟩ | ⟨hj', z2⟩
      · exact hj2.symm
      · rw [List.getElem?_set_self (by rw [re.len]; exact hl)] at z3
        rw [set_ne hj'] at z4
        cases z3
        exact absurd ⟨j', s2, v2, z2, z4, z6⟩ (hw a z5)
    · have z1' := z1
      rcases get_set z2 with ⟨rfl, e, hl⟩ | ⟨hj', z2⟩
      · subst e
        rw [List.getElem?_set_self (by rw [re.len]; exact hl)] at z4
        rw [set_ne hj] at z3
        cases z4
        exact absurd ⟨j, s1, v1, z1', z3, z5⟩ (hw a z6)
      · rw [set_ne hj] at z3
        rw [set_ne hj'] at z4
        exact re.dj j j' s1 s2 v1 v2 a z1 z2 z3 z4 z5 z6
  · obtain ⟨j, s1, v1, z1, z2, z3⟩ := z
    rcases get_set z1 with ⟨rfl, e, hl⟩ | ⟨hj, z1⟩
    · subst e
      rw [List.getElem?_set_self (by rw [re.len]; exact hl)] at z2
      cases z2
      exact .inr (h0 p z3)
    · rw [set_ne hj] at z2
      exact s.w p ⟨j, s1, v1, z1, z2, z3⟩
  · rcases get_set z with ⟨_, e, _⟩ | ⟨hj, z⟩
    · exact absurd e.symm (hio ds)
    · rw [set_ne hj]
      exact s.io j ds z
theorem setV_ok {K : PySem.W.Frag} {G H H0 G0 : Hp} {sg sg0 : L2.St} {dl dl0 : S} {v : V} {d : PyData} (s : Stp K G0 H0 sg0 dl0 G H sg dl) (hd : Da K G v d) (i : Nat) : Stp K G0 H0 sg0 dl0 G H (sg.set i (some v)) (dl.set i (.val d)) :=
  setS_ok s i (fun d' e => by cases e; exact hd) (fun h => by cases h) (fun _ h => h.elim) (fun _ h => h.elim) (fun _ h => by cases h)
theorem setN_ok {K : PySem.W.Frag} {G H H0 G0 : Hp} {sg sg0 : L2.St} {dl dl0 : S} {v : V} {ds0 : List PyData} (s : Stp K G0 H0 sg0 dl0 G H sg dl) (q : RvOk K G H sg dl H0 v (.new ds0)) (i : Nat) : Stp K G0 H0 sg0 dl0 G H (sg.set i (some v)) (dl.set i (.own false ds0)) := by
  obtain ⟨p0, vs0, rfl, h0, hp, hg, hw, ha⟩ := q
  exact setS_ok s i (fun d' e => by cases e) (fun _ => ⟨⟨p0, vs0, rfl, hp, ha⟩, fun a h => by cases h; exact hg⟩) (fun a h => by cases h; exact hw) (fun a h => by cases h; exact h0) (fun _ h => by cases h)
def putR (dl : S) (i : Nat) (r : Rv) : Option S := match r with
  | .new ds => some (dl.set i (.own false ds))
  | r => (stb dl r).map fun x => x.2.set i (.val x.1)
theorem put_ok {K : PySem.W.Frag} {G H H0 G0 : Hp} {sg sg0 : L2.St} {dl dl0 dl' : S} {v : V} {r : Rv} {i : Nat} (s : Stp K G0 H0 sg0 dl0 G H sg dl) (q : RvOk K G H sg dl H0 v r) (e : putR dl i r = some dl') : ∃ G', Stp K G0 H0 sg0 dl0 G' H (sg.set i (some v)) dl' := by
  cases r with
  | new ds => cases e; exact ⟨G, setN_ok s q i⟩
  | val d => cases e; exact ⟨G, setV_ok s q i⟩
  | loc j =>
    have e' : (stb dl (.loc j)).map (fun x => x.2.set i (.val x.1)) = some dl' := e
    cases h : stb dl (.loc j) with
    | none => rw [h] at e'; cases e'
    | some x =>
      obtain ⟨d, d1⟩ := x
      rw [h] at e'
      cases e'
      obtain ⟨G', s', _, z, _⟩ := stb_ok s q h
      exact ⟨G', setV_ok s' z i⟩
def ofO (o : Option S) : Fl := match o with
  | some dl => .nx dl
  | none => .bad
def dSet (i : Nat) (f : S → Out Rv) : S → Fl := fun dl => (f dl).fl fun r d1 => ofO (putR d1 i r)
theorem so_set {i : Nat} {t : TE} {f : S → Out Rv} (s : SoE X W t f) : SoS X W (tAsg t (gName i)) (dSet i f) := by
  intro G H sg dl D re h
  refine s G H sg dl _ re ((post_fl h).imp fun r d1 G1 H1 s1 k1 h1 v q => ?_)
  cases e : putR d1 i r with
  | none => rw [e] at h1; exact h1.elim
  | some d2 =>
    rw [e] at h1
    obtain ⟨G2, s2⟩ := put_ok s1 q e
    exact h1 G2 H1 _ s2
theorem ss_set (i : Nat) {x : Str} {e : Expr} {pos pos' : Pos} {f : S → Out Rv} (hN : X.N.Nodup) (hi : X.N[i]? = some x) (hx : Loc X.env.scope x) (he : SE X W e f) (hs : swapsWith e (some (.Name x pos')) pos.line X.env = pure false := by rfl) (hf : X.fn x = true ∨ X.env.scope.names.lookup x = some .local := by first | exact .inl rfl | exact .inr rfl | assumption) :
    SS X W (.Assign [.Name x pos'] e pos) (dSet i f) :=
  let ⟨_, p, s⟩ := he
  ⟨_, ps_set hN hi hx p hs hf, so_set s⟩
def dAug (i : Nat) (g : Int → Int → Int) (f : S → Out Rv) : S → Fl := fun dl => match dl[i]? with
  | some (.val (.int a)) => (f dl).fl fun r d1 => match rd d1 r with
    | some (.int b) => .nx (d1.set i (.val (.int (g a b))))
    | _ => .bad
  | _ => .bad
def setAll : S → List Nat → List PyData → S
  | dl, i :: is, d :: ds => setAll (dl.set i (.val d)) is ds
  | dl, _, _ => dl
def gAll : List Nat → TGs
  | [] => gNil
  | i :: is => gCons (gName i) (gAll is)
theorem gAll_ok {K : PySem.W.Frag} {G H H0 G0 : Hp} {sg0 : L2.St} {dl0 : S} {Q : L2.St → Hp → Prop} : ∀ {is : List Nat} {sg : L2.St} {dl : S} {vs : List V} {ds : List PyData}, Stp K G0 H0 sg0 dl0 G H sg dl → DaAll K G vs ds → ds.length = is.length →
    (∀ sg', Stp K G0 H0 sg0 dl0 G H sg' (setAll dl is ds) → Q sg' H) → gAll is vs sg H Q
  | [], sg, dl, vs, ds, s, z, hl, q => by
    cases ds with
    | cons _ _ => cases hl
    | nil => cases z; exact ⟨rfl, q sg s⟩
  | i :: is, sg, dl, vs, ds, s, z, hl, q => by
    cases ds with
    | nil => cases hl
    | cons d ds =>
      cases z with
      | cons z1 z2 => exact ⟨_, _, rfl, gAll_ok (setV_ok s z1 i) z2 (Nat.succ.inj hl) q⟩
def dUnp (is : List Nat) (f : S → Out Rv) : S → Fl := fun dl => (f dl).fl fun r d1 => match rd d1 r with
  | some (.tuple ds) => if ds.length = is.length then .nx (setAll d1 is ds) else .bad
  | _ => .bad
theorem ss_unp (is : List Nat) {es : List Expr} {e : Expr} {k : Nat} {pos pos' : Pos} {f : S → Out Rv} (he : SE X W e f) (hc : X.calm = true) (hg : PGs X es (gAll is)) (hn : (assignEach es X.env).length = is.length := by rfl) (hst : (assignEach es X.env).findIdx? (·.1) = none := by rfl)
    (hs : swapsWithSole [.Tuple es k pos'] e pos.line X.env = pure false := by rfl) (hw : swappedStores [.Tuple es k pos'] e X.env = pure none := by rfl) (h1 : (assignEach [.Tuple es k pos'] X.env).map (·.2) = [assign (.Tuple es k pos') X.env] := by rfl) :
    SS X W (.Assign [.Tuple es k pos'] e pos) (dUnp is f) := by
  obtain ⟨t, p, s⟩ := he
  refine ⟨tAsg t (gTup X.K is.length (gAll is)), ps_asg p (pg_tup hc hg hn hst) hs hw h1, fun G H sg dl D re h => ?_⟩
  refine s G H sg dl _ re ((post_fl h).imp fun r d1 G1 H1 s1 k1 h1 v q => ?_)
  cases e : rd d1 r with
  | none => rw [e] at h1; exact h1.elim
  | some y =>
    rw [e] at h1
    cases y with
    | tuple ds =>
      have h1' : PostS X W G H sg dl D (if ds.length = is.length then .nx (setAll d1 is ds) else .bad) := h1
      by_cases hl : ds.length = is.length
      · rw [if_pos hl] at h1'
        have z := q.tr s1.rel e
        obtain ⟨pp, vs, e1, sq, za⟩ := z.tup s1.rel.ex
        exact ⟨pp, vs, e1, sq, by rw [za.len]; exact hl, gAll_ok s1 za hl fun sg' s' => h1' G1 H1 sg' s'⟩
      · rw [if_neg hl] at h1'; exact h1'.elim
    | none => exact h1.elim
    | bool i => exact h1.elim
    | str i => exact h1.elim
    | list i => exact h1.elim
    | int i => exact h1.elim
    | dict i => exact h1.elim
theorem mutG_ok {K : PySem.W.Frag} {G G' H H' : Hp} {sg : L2.St} {dl : S} {i : Nat} {s s' : Sl} {v : V} (re : Rel K G H sg dl) (e : dl[i]? = some s) (hp : sg[i]? = some (some v)) (hm : mine s' = true) (ha : SlOk K G' H' s' v) (hf : ∀ a, Fs H' s' v a → Fs H s v a ∨ H a = none) (g0 : ∀ a, Fs H' s' v a → G' a = none)
    (eg : Ex G G') (ex : Ex G' H') (nt : NoT G') (tb : Tb K H') (hk : ∀ a o, ¬ Fs H s v a → isT o = false → H a = some o → H' a = some o) (hn : ∀ a, ¬ Fs H s v a → H a ≠ none → G a = none → G' a = none) (hd : ∀ a, H a ≠ none → H' a ≠ none) (hio : ∀ ds, s' = .own true ds → ∃ ds0, s = .own true ds0) :
    Stp K G H sg dl G' H' sg (dl.set i s') := by
  have hi := lt_of_get e
  have no : ∀ {j : Nat} {s1 : Sl} {v1 : V}, j ≠ i → dl[j]? = some s1 → sg[j]? = some (some v1) → ∀ a, Fs H s1 v1 a → ¬ Fs H s v a := fun {j s1 v1} hj z1 z2 a z3 zz => hj (re.dj j i s1 s v1 v a z1 e z2 hp z3 zz)
  have kp : ∀ {j : Nat} {s1 : Sl} {v1 : V}, j ≠ i → dl[j]? = some s1 → sg[j]? = some (some v1) → ∀ a, Fs H s1 v1 a → H' a = H a := fun {j s1 v1} hj z1 z2 a z3 => by
    obtain ⟨o, ho⟩ := ne_some (re.mo z1 z2 z3).2.2
    rw [ho]
    exact hk a o (no hj z1 z2 a z3) (re.owt ⟨j, s1, v1, z1, z2, z3⟩ ho) ho
  have key : ∀ {j : Nat} {s1 : Sl} {v1 : V} {a : Addr}, (dl.set i s')[j]? = some s1 → sg[j]? = some (some v1) → Fs H' s1 v1 a → (j = i ∧ s1 = s' ∧ v1 = v) ∨ (j ≠ i ∧ dl[j]? = some s1 ∧ Fs H s1 v1 a) := fun {j s1 v1 a} z1 z2 z3 => by
    rcases get_set z1 with ⟨rfl, rfl, _⟩ | ⟨hj, z1⟩
    · rw [hp] at z2; cases z2; exact .inl ⟨rfl, rfl, rfl⟩
    · exact .inr ⟨hj, z1, fs_mono (kp hj z1 z2) a z3⟩
  have cross : ∀ {j : Nat} {s1 : Sl} {v1 : V} {a : Addr}, j ≠ i → dl[j]? = some s1 → sg[j]? = some (some v1) → Fs H s1 v1 a → Fs H' s' v a → False := fun {j s1 v1 a} hj z1 z2 z3 z4 => by
    rcases hf a z4 with q | q
    · exact no hj z1 z2 a z3 q
    · exact (re.mo z1 z2 z3).2.2 q
  refine ⟨⟨by rw [List.length_set]; exact re.len, ex, nt, tb, fun j d z => ?_, fun j s1 z hm1 => ?_, fun j j' s1 s2 v1 v2 a z1 z2 z3 z4 z5 z6 => ?_⟩, eg, fun a o h1 ht h2 => hk a o (fun zz => h1 ⟨i, s, v, e, hp, zz⟩) ht h2, fun a h1 h2 h3 => hn a (fun zz => h1 ⟨i, s, v, e, hp, zz⟩) h2 h3, fun q z => ?_, hd, fun j x z => ?_⟩
  · rcases get_set z with ⟨rfl, e1, _⟩ | ⟨hj, z⟩
    · subst e1; cases hm
    · obtain ⟨u, q1, q2⟩ := re.val j d z
      exact ⟨u, q1, q2.ex eg⟩
  · rcases get_set z with ⟨rfl, rfl, _⟩ | ⟨hj, z⟩
    · exact ⟨v, hp, ha, g0⟩
    · obtain ⟨u, q1, q2, q3⟩ := re.mn j s1 z hm1
      refine ⟨u, q1, sl_mono q2 eg (kp hj z q1), fun a h => ?_⟩
      have h' := fs_mono (kp hj z q1) a h
      exact hn a (no hj z q1 a h') (re.mo z q1 h').2.2 (q3 a h')
  · rcases key z1 z3 z5 with ⟨r1, r2, r3⟩ | ⟨r1, r2, r3⟩
    · rcases key z2 z4 z6 with ⟨t1, t2, t3⟩ | ⟨t1, t2, t3⟩
      · exact r1.trans t1.symm
      · subst r2 r3
        exact (cross t1 t2 z4 t3 z5).elim
    · rcases key z2 z4 z6 with ⟨t1, t2, t3⟩ | ⟨t1, t2, t3⟩
      · subst t2 t3
        exact (cross r1 r2 z3 r3 z6).elim
      · exact re.dj j j' s1 s2 v1 v2 a r2 t2 z3 z4 r3 t3
  · obtain ⟨j, s1, v1, z1, z2, z3⟩ := z
    rcases key z1 z2 z3 with ⟨r1, r2, r3⟩ | ⟨r1, r2, r3⟩
    · subst r2 r3
      rcases hf q z3 with h | h
      · exact .inl ⟨i, s, v1, e, hp, h⟩
      · exact .inr h
    · exact .inl ⟨j, s1, v1, r2, z2, r3⟩
  · rcases get_set z with ⟨rfl, e1, _⟩ | ⟨hj, z⟩
    · obtain ⟨ds0, q⟩ := hio x e1.symm
      exact ⟨⟨ds0, by rw [e, q]⟩, rfl⟩
    · exact ⟨⟨x, z⟩, rfl⟩
theorem mutS_ok {K : PySem.W.Frag} {G H H' : Hp} {sg : L2.St} {dl : S} {i : Nat} {s s' : Sl} {v : V} (re : Rel K G H sg dl) (e : dl[i]? = some s) (hp : sg[i]? = some (some v)) (hm : mine s' = true) (ha : SlOk K G H' s' v) (hf : ∀ a, Fs H' s' v a → Fs H s v a ∨ H a = none)
    (hk : ∀ a, ¬ Fs H s v a → H a ≠ none → H' a = H a) (hd : ∀ a, H a ≠ none → H' a ≠ none) (hg : ∀ a, Fs H s v a → G a = none) (hio : ∀ ds, s' = .own true ds → ∃ ds0, s = .own true ds0) :
    Stp K G H sg dl G H' sg (dl.set i s') := by
  have hgn : ∀ a, H a = none → G a = none := fun a h => by
    cases q : G a with
    | none => rfl
    | some o => rw [re.ex a o q] at h; cases h
  have tb : Tb K H' := re.tb.mut fun a o hm e2 => (hk a (fun zz => isM_nk (fs_nt (re.mo e hp zz).1 a zz o e2) hm) (some_ne e2)).trans e2
  refine mutG_ok re e hp hm ha hf (fun a h => (hf a h).elim (hg a) (hgn a)) (Ex.refl G) (fun a o z => ?_) re.nt tb (fun a o h1 _ h2 => (hk a h1 (some_ne h2)).trans h2) (fun _ _ _ h => h) hd hio
  have h1 := re.ex a o z
  rw [hk a (fun zz => by rw [hg a zz] at z; cases z) (some_ne h1)]
  exact h1
theorem mut_ok {K : PySem.W.Frag} {G H : Hp} {sg : L2.St} {dl : S} {i : Nat} {b : Bool} {ds ds' : List PyData} {p : Addr} {vs' : List V} (re : Rel K G H sg dl) (e : dl[i]? = some (.own b ds)) (hp : sg[i]? = some (some (.ref p))) (ha : DaAll K G vs' ds') :
    Stp K G H sg dl G (upd H p (.lst vs')) sg (dl.set i (.own b ds')) ∧ Kp dl (dl.set i (.own b ds')) := by
  obtain ⟨p1, vs1, q1, q2, q3, q4⟩ := re.own i b ds e
  rw [hp] at q1
  cases q1
  have hi := lt_of_get e
  have hs : (dl.set i (.own b ds'))[i]? = some (.own b ds') := List.getElem?_set_self hi
  refine ⟨mutS_ok re e hp rfl ⟨p, vs', rfl, upd_same, ha⟩ (fun a h => .inl h) (fun a h _ => upd_ne fun z => h (by rw [z]; rfl)) (fun a h => ?_) (fun a h => by cases h; exact q2) (fun x h => by cases h; exact ⟨ds, rfl⟩), List.length_set, fun j => ?_⟩
  · by_cases zz : a = p
    · subst zz; rw [upd_same]; exact fun q => nomatch q
    · rw [upd_ne zz]; exact h
  · by_cases hj : j = i
    · subst hj
      rw [e, hs]
      exact .inl ⟨ds', rfl⟩
    · rw [set_ne hj]
      exact (Kp.refl dl).2 j
def chg (dl : S) (i : Nat) (g : List PyData → Option (List PyData)) : Option S := match dl[i]? with
  | some (.own b ds) => (g ds).map fun ds' => dl.set i (.own b ds')
  | _ => none
def isOwn (dl : S) (i : Nat) : Bool := match dl[i]? with
  | some (.own _ _) => true
  | _ => false
theorem isOwn_ok {dl : S} {i : Nat} (h : isOwn dl i = true) : ∃ b ds, dl[i]? = some (.own b ds) := by
  unfold isOwn at h
  split at h
  · exact ⟨_, _, by assumption⟩
  · cases h
def app1 (d : PyData) (ds : List PyData) : Option (List PyData) := if ds.length < 100000 then some (ds ++ [d]) else none
def appR (dl : S) (i : Nat) (r : Rv) : Option S := (stb dl r).bind fun x => chg x.2 i (app1 x.1)
def dApp (i : Nat) (f : S → Out Rv) : S → Fl := fun dl => if isOwn dl i then (f dl).fl fun r d1 => ofO (appR d1 i r) else .bad
theorem ss_app (i : Nat) {x : Str} {e : Expr} {p0 apos cpos pos : Pos} {f : S → Out Rv} (he : SE X W e f) (hN : X.N[i]? = some x := by rfl) (hv : Vis X.env.scope x := by first | exact Or.inl rfl | exact Or.inr (Or.inl rfl) | exact Or.inr (Or.inr rfl)) (hd : (x == ("__debug__" : Str)) = false := by decide)
    (hcd : (x == ("__classdict__" : Str)) = false := by decide) (hbase : attributeBase (.Name x p0) "append" X.env (eval (.Name x p0) X.env) = eval (.Name x p0) X.env := by rfl)
    (hfew : ((backTo cpos (starEach [e] X.env)).all (fun x => !x.1) && (backToKw cpos (keywordEach [] X.env)).all (fun x => x.1.isSome)
      && decide ([e].length + ([] : List Keyword).length + (if ([] : List Keyword).isEmpty then 0 else 1) < 30)) = true := by rfl)
    (hline : (apos.endLine == cpos.line) = true := by rfl) (hst : starEach [e] X.env = (false, eval e X.env) :: starEach [] X.env := by rfl)
    (hs : swapsWith (.Call (.Attribute (.Name x p0) "append" apos) [e] [] cpos) none pos.line X.env = pure false := by rfl) :
    SS X W (.Expr (.Call (.Attribute (.Name x p0) "append" apos) [e] [] cpos) pos) (dApp i f) := by
  obtain ⟨t, p, s⟩ := he
  refine ⟨_, ps_expr (pe_bm PySem.F.plainAttrs_list PySem.F.slot_list_append PySem.F.type_list_append mt_append (pe_var hN hv hd hcd) (pa_cons p pa_nil hst) hbase hfew hline hst rfl) hs, fun G H sg dl D re h => ?_⟩
  unfold dApp at h
  cases hi : isOwn dl i with
  | false => rw [hi] at h; exact h.elim
  | true =>
    rw [hi] at h
    obtain ⟨b, ds, ei⟩ := isOwn_ok hi
    obtain ⟨pa, vs, q1, q2, q3, q4⟩ := re.own i b ds ei
    refine ⟨.ref pa, q1, .inl ⟨rfl, vs, .inl (.inl q3)⟩, ?_⟩
    refine s G H sg dl _ re ((post_fl h).imp fun r d1 G1 H1 s1 k1 h1 v q => ?_)
    unfold appR at h1
    cases e1 : stb d1 r with
    | none => rw [e1] at h1; exact h1.elim
    | some y =>
      obtain ⟨d, d2⟩ := y
      rw [e1] at h1
      obtain ⟨G2, s2, _, z2, _⟩ := stb_ok s1 q e1
      have h1' : PostS X W G H sg dl D (ofO (chg d2 i (app1 d))) := h1
      unfold chg at h1'
      cases e2 : d2[i]? with
      | none => rw [e2] at h1'; exact h1'.elim
      | some sl =>
        rw [e2] at h1'
        cases sl with
        | no => exact h1'.elim
        | val _ => exact h1'.elim
        | big _ => exact h1'.elim
        | own b2 ds2 =>
          have h2 : PostS X W G H sg dl D (ofO ((app1 d ds2).map fun ds' => d2.set i (.own b2 ds'))) := h1'
          unfold app1 at h2
          by_cases hl : ds2.length < 100000
          · rw [if_pos hl] at h2
            obtain ⟨p2, vs2, w1, w2, w3, w4⟩ := s2.rel.own i b2 ds2 e2
            rw [q1] at w1
            cases w1
            refine ⟨pa, vs2, v, rfl, rfl, w3, by rw [w4.len]; exact sz_lt hl, ?_⟩
            exact h2 _ _ _ (s2.trans (mut_ok s2.rel e2 q1 (w4.append (.cons z2 .nil))).1)
          · rw [if_neg hl] at h2; exact h2.elim
def put1 (k : Int) (d : PyData) (ds : List PyData) : Option (List PyData) := (ixN ds.length k).map fun j => ds.set j d
def stIR (dl : S) (i : Nat) (r ri : Rv) : Option S := match rd dl ri with
  | some (.int k) => (stb dl r).bind fun x => chg x.2 i (put1 k x.1)
  | _ => none
def dStI (i : Nat) (fi fe : S → Out Rv) : S → Fl := fun dl => (fe dl).fl fun r d1 => if isOwn d1 i then (fi d1).fl fun ri d2 => ofO (stIR d2 i r ri) else .bad
theorem ss_stI (i : Nat) {x : Str} {ei e : Expr} {p0 p1 pos : Pos} {fi fe : S → Out Rv} (he : SE X W e fe) (hi : SE X W ei fi) (hN : X.N[i]? = some x := by rfl) (hv : Vis X.env.scope x := by first | exact Or.inl rfl | exact Or.inr (Or.inl rfl) | exact Or.inr (Or.inr rfl)) (hd : (x == ("__debug__" : Str)) = false := by decide)
    (hcd : (x == ("__classdict__" : Str)) = false := by decide)
    (ha : ∀ v, assign (.Subscript (.Name x p0) ei p1) X.env v = (do
      let ov ← holding [v] (eval (.Name x p0) X.env)
      let iv ← holding [v, ov] (eval ei X.env)
      standAt p1
      holding [v, ov, iv] (setItem ov iv v)
      release [v, ov, iv] []) := by intro _; rfl)
    (hs : swapsWithSole [.Subscript (.Name x p0) ei p1] e pos.line X.env = pure false := by rfl) (hw : swappedStores [.Subscript (.Name x p0) ei p1] e X.env = pure none := by rfl)
    (h1 : (assignEach [.Subscript (.Name x p0) ei p1] X.env).map (·.2) = [assign (.Subscript (.Name x p0) ei p1) X.env] := by rfl) :
    SS X W (.Assign [.Subscript (.Name x p0) ei p1] e pos) (dStI i fi fe) := by
  obtain ⟨t, p, s⟩ := he
  obtain ⟨ti, pi, si⟩ := hi
  refine ⟨_, ps_asg p (pg_sub (pe_var hN hv hd hcd) pi set_list ha) hs hw h1, fun G H sg dl D re h => ?_⟩
  refine s G H sg dl _ re ((post_fl h).imp fun r d1 G1 H1 s1 k1 h1 v q => ?_)
  cases hi : isOwn d1 i with
  | false => rw [hi] at h1; exact h1.elim
  | true =>
    rw [hi] at h1
    obtain ⟨b, ds, ei⟩ := isOwn_ok hi
    obtain ⟨pa, vs, q1, q2, q3, q4⟩ := s1.rel.own i b ds ei
    refine ⟨.ref pa, q1, ?_⟩
    refine si G1 H1 sg d1 _ s1.rel ((post_fl2 h1 s1).imp fun ri d2 G2 H2 s2 k2 h2 vi qi => ?_)
    have q' := q.mono s2 k2
    have s12 := s1.trans s2
    unfold stIR at h2
    cases er : rd d2 ri with
    | none => rw [er] at h2; exact h2.elim
    | some xi =>
      rw [er] at h2
      cases xi with
      | int k =>
        have zi := (qi.tr s2.rel er).int
        have h2' : PostS X W G H sg dl D (ofO ((stb d2 r).bind fun x => chg x.2 i (put1 k x.1))) := h2
        cases e1 : stb d2 r with
        | none => rw [e1] at h2'; exact h2'.elim
        | some y =>
          obtain ⟨d, d3⟩ := y
          rw [e1] at h2'
          obtain ⟨G3, s3, _, z3, _⟩ := stb_ok s12 q' e1
          have h3 : PostS X W G H sg dl D (ofO (chg d3 i (put1 k d))) := h2'
          unfold chg at h3
          cases e2 : d3[i]? with
          | none => rw [e2] at h3; exact h3.elim
          | some sl =>
            rw [e2] at h3
            cases sl with
            | no => exact h3.elim
            | val _ => exact h3.elim
            | big _ => exact h3.elim
            | own b2 ds2 =>
              have h4 : PostS X W G H sg dl D (ofO ((put1 k d ds2).map fun ds' => d3.set i (.own b2 ds'))) := h3
              unfold put1 at h4
              cases e3 : ixN ds2.length k with
              | none => rw [e3] at h4; exact h4.elim
              | some j =>
                rw [e3] at h4
                obtain ⟨p2, vs2, w1, w2, w3, w4⟩ := s3.rel.own i b2 ds2 e2
                rw [q1] at w1
                cases w1
                refine ⟨pa, vs2, k, j, rfl, zi, w3, by rw [w4.len]; exact e3, ?_⟩
                exact h4 _ _ _ (s3.trans (mut_ok s3.rel e2 q1 (w4.set z3 j)).1)
      | none => exact h2.elim
      | bool i => exact h2.elim
      | str i => exact h2.elim
      | list i => exact h2.elim
      | tuple i => exact h2.elim
      | dict i => exact h2.elim
end
end DL
namespace DL
open PySem L2
def Wk (K : PySem.W.Frag) (J : It) (G : Hp) (ds : List PyData) : Prop := ∀ (i : Nat) (G' H' : Hp), Ex G G' → Ex G' H' →
  (∀ d, ds[i]? = some d → J.go i H' ∧ ∀ x H2, J.yld i H' x H2 → ∃ G2, Alc G' H' G2 H2 ∧ Da K G2 x d) ∧ (ds.length ≤ i → J.stop i H')
def SoI (X : Cx) (W : WX) (wi : TI) (f : S → Out (List PyData)) : Prop := ∀ G H sg dl (R : It → Hp → Prop), Rel X.K G H sg dl →
  Post X W G H sg dl (fun ds _ G1 H1 => ∀ J, Wk X.K J G1 ds → R J H1) (f dl) → wi sg H R
def SI (X : Cx) (W : WX) (tg iter : Expr) (f : S → Out (List PyData)) : Prop := ∃ wi, PI X tg iter wi ∧ SoI X W wi f
section
variable {X : Cx} {W : WX} {K : PySem.W.Frag}
theorem wk_list {G : Hp} {a : Addr} {vs : List V} {ds : List PyData} (h : SqL K G a vs) (z : DaAll K G vs ds) : Wk K (Itl K a) G ds := by
  intro i G' H' e1 e2
  have h' : SqL K H' a vs := ex_l (e1.trans e2) h
  refine ⟨fun d hd => ?_, fun hl => ⟨vs, h', by rw [z.len]; exact hl⟩⟩
  obtain ⟨v, hv, dv⟩ := z.at hd
  refine ⟨⟨vs, v, h', hv⟩, fun x H2 y => ?_⟩
  obtain ⟨e, y⟩ := y
  subst e
  have e3 := y vs h'
  rw [hv] at e3
  cases e3
  exact ⟨G', Alc.refl e2, dv.ex e1⟩
theorem wk_tup {G : Hp} {a : Addr} {vs : List V} {ds : List PyData} (h : SqT K G a vs) (z : DaAll K G vs ds) : Wk K (Itt K a) G ds := by
  intro i G' H' e1 e2
  have h' : SqT K H' a vs := ex_t (e1.trans e2) h
  refine ⟨fun d hd => ?_, fun hl => ⟨vs, h', by rw [z.len]; exact hl⟩⟩
  obtain ⟨v, hv, dv⟩ := z.at hd
  refine ⟨⟨vs, v, h', hv⟩, fun x H2 y => ?_⟩
  obtain ⟨e, y⟩ := y
  subst e
  have e3 := y vs h'
  rw [hv] at e3
  cases e3
  exact ⟨G', Alc.refl e2, dv.ex e1⟩
def rngD (lo : Int) (n : Nat) : List PyData := (List.range n).map fun (k : Nat) => PyData.int (lo + (k : Int))
theorem rngD_len (lo : Int) (n : Nat) : (rngD lo n).length = n := by unfold rngD; rw [List.length_map, List.length_range]
theorem wk_rng {G : Hp} {lo : Int} {n : Nat} : Wk K (Itr lo n) G (rngD lo n) := by
  intro i G' H' e1 e2
  refine ⟨fun d hd => ?_, fun hl => by rw [rngD_len] at hl; exact hl⟩
  have hi : i < n := by have := lt_of_get hd; rw [rngD_len] at this; exact this
  have ed : d = .int (lo + (i : Int)) := by
    unfold rngD at hd
    rw [List.getElem?_map, List.getElem?_range hi] at hd
    exact (Option.some.inj hd).symm
  refine ⟨hi, fun x H2 y => ?_⟩
  obtain ⟨e, y⟩ := y
  subst e y ed
  exact ⟨G', Alc.refl e2, .int _⟩
def itD : Option (PyData × S) → Out (List PyData) := fun o => match o with
  | some (.list ds, d2) => .ok ds d2
  | some (.tuple ds, d2) => .ok ds d2
  | _ => .bad
def dIt (f : S → Out Rv) : S → Out (List PyData) := fun dl => (f dl).bind fun r d1 => itD (stb d1 r)
theorem pi_or {tg l : Expr} {w1 w2 : TI} (h1 : PI X tg l w1) (h2 : PI X tg l w2) : PI X tg l (fun sg H R => w1 sg H R ∨ w2 sg H R) :=
  ⟨fun pins s σ H R I h => h.elim (h1.run pins s σ H R I) (h2.run pins s σ H R I)⟩
theorem si_seq {tg e : Expr} {f : S → Out Rv} (he : SE X W e f) : SI X W tg e (dIt f) := by
  obtain ⟨t, p, s⟩ := he
  refine ⟨_, pi_or (pi_list p) (pi_tup p), fun G H sg dl R re h => ?_⟩
  unfold dIt at h
  cases ho : f dl with
  | bad => rw [ho] at h; exact h.elim
  | ex c d1 =>
    rw [ho] at h
    refine .inl (s G H sg dl _ re ?_)
    rw [ho]
    exact h
  | ok r d1 =>
    rw [ho] at h
    have h' : Post X W G H sg dl (fun ds _ G1 H1 => ∀ J, Wk X.K J G1 ds → R J H1) (itD (stb d1 r)) := h
    cases e1 : stb d1 r with
    | none => rw [e1] at h'; exact h'.elim
    | some y =>
      obtain ⟨d, d2⟩ := y
      rw [e1] at h'
      cases d with
      | list ds =>
        refine .inl (s G H sg dl _ re ?_)
        rw [ho]
        intro G1 H1 s1 k1 v q
        obtain ⟨G2, s2, k2, z2, _⟩ := stb_ok s1 q e1
        cases z2 with
        | lst hs ha => exact ⟨_, rfl, ⟨_, ex_l s2.rel.ex hs⟩, h' G2 H1 s2 (k1.trans k2) _ (wk_list hs ha)⟩
      | tuple ds =>
        refine .inr (s G H sg dl _ re ?_)
        rw [ho]
        intro G1 H1 s1 k1 v q
        obtain ⟨G2, s2, k2, z2, _⟩ := stb_ok s1 q e1
        cases z2 with
        | tup hs ha => exact ⟨_, rfl, ⟨_, ex_t s2.rel.ex hs⟩, h' G2 H1 s2 (k1.trans k2) _ (wk_tup hs ha)⟩
      | none => exact h'.elim
      | bool _ => exact h'.elim
      | int _ => exact h'.elim
      | str _ => exact h'.elim
      | dict _ => exact h'.elim
def rngA1 : Option (List PyData) → S → Out (List PyData) := fun o dl => match o with
  | some [.int j] => if j ≤ 1000000 ∧ -1000000 ≤ j then .ok (rngD 0 j.toNat) dl else .bad
  | _ => .bad
def rngA2 : Option (List PyData) → S → Out (List PyData) := fun o dl => match o with
  | some [.int i, .int j] => if (j ≤ 1000000 ∧ -1000000 ≤ j) ∧ (i ≤ 1000000 ∧ -1000000 ≤ i) then .ok (rngD i (j - i).toNat) dl else .bad
  | _ => .bad
def dRng1 (f : S → Out (List Rv)) : S → Out (List PyData) := fun dl => (f dl).bind fun rs d1 => rngA1 (rds d1 rs) d1
def dRng2 (f : S → Out (List Rv)) : S → Out (List PyData) := fun dl => (f dl).bind fun rs d1 => rngA2 (rds d1 rs) d1
theorem si_rng1 {tg a : Expr} {p pos : Pos} {f : S → Out (List Rv)} (hg : Gl X "range") (hm : X.mg "range" = none) (ha : SA X W [a] f) (hs : starEach [a] X.env = [(false, eval a X.env)] := by rfl) : SI X W tg (.Call (.Name "range" p) [a] [] pos) (dRng1 f) := by
  obtain ⟨t, pa, sa⟩ := ha
  refine ⟨_, pi_range1 hg hm pa hs, fun G H sg dl R re h => ?_⟩
  refine sa G H sg dl _ re ((post_bind h).imp fun rs d1 G1 H1 s1 k1 h1 vs q => ?_)
  unfold rngA1 at h1
  split at h1
  · rename_i j e1
    have tr := RvsOk.tr s1.rel q e1
    obtain ⟨v, rfl, tv⟩ := tr1 tr
    have ev := tv.int
    subst ev
    by_cases hj : j ≤ 1000000 ∧ -1000000 ≤ j
    · rw [if_pos hj] at h1
      exact ⟨j, rfl, by omega, by omega, h1 G1 H1 (Stp.refl s1.rel) (Kp.refl d1) _ wk_rng⟩
    · rw [if_neg hj] at h1; exact h1.elim
  · exact h1.elim
def SoG (K : PySem.W.Frag) (vs : List Nat) (g : TG) (put : S → PyData → Option S) : Prop := (∀ dl d dl', put dl d = some dl' → dl'.length = dl.length ∧ ∀ i, i ∉ vs → dl'[i]? = dl[i]?) ∧
  ∀ (G0 H0 : Hp) (sg0 : L2.St) (dl0 : S) (G H : Hp) (sg : L2.St) (dl : S) (x : V) (d : PyData) (dl' : S) (Q : L2.St → Hp → Prop),
  Stp K G0 H0 sg0 dl0 G H sg dl → Da K G x d → put dl d = some dl' → (∀ sg', Stp K G0 H0 sg0 dl0 G H sg' dl' → sg'.length = sg.length → (∀ i, i ∉ vs → sg'[i]? = sg[i]?) → Q sg' H) → g x sg H Q
def tgN (i : Nat) : S → PyData → Option S := fun dl d => some (dl.set i (.val d))
def tgT (is : List Nat) : S → PyData → Option S := fun dl d => match d with
  | .tuple ds => if ds.length = is.length then some (setAll dl is ds) else none
  | _ => none
theorem sog_n (i : Nat) : SoG K [i] (gName i) (tgN i) := by
  refine ⟨fun dl d dl' e => ?_, fun G0 H0 sg0 dl0 G H sg dl x d dl' Q s z e q => ?_⟩
  · cases e
    exact ⟨List.length_set, fun j hj => set_ne fun z => hj (by rw [z]; exact List.mem_cons_self)⟩
  · cases e
    exact q _ (setV_ok s z i) List.length_set fun j hj => set_ne fun z => hj (by rw [z]; exact List.mem_cons_self)
def forD (put : S → PyData → Option S) (body : S → Fl) : List PyData → S → Fl
  | [], dl => .nx dl
  | d :: ds, dl => match put dl d with
    | none => .bad
    | some d1 => match body d1 with
      | .nx d2 => forD put body ds d2
      | .cnt d2 => forD put body ds d2
      | .brk d2 => .nx d2
      | o => o
def dFor (it : S → Out (List PyData)) (put : S → PyData → Option S) (body : S → Fl) : S → Fl := fun dl => (it dl).fl fun ds d1 => forD put body ds d1
theorem so_for {wi : TI} {g : TG} {tb : TS} {it : S → Out (List PyData)} {put : S → PyData → Option S} {body : S → Fl} {vs0 : List Nat} (si : SoI X W wi it) (sg' : SoG X.K vs0 g put) (sb : SoS X W tb body) : SoS X W (tFor wi g tb) (dFor it put body) := by
  intro G H sg dl D re h
  refine si G H sg dl _ re ((post_fl h).imp fun ds d1 G1 H1 s1 k1 h1 J wk => ?_)
  refine ⟨fun i m sgi Hi => ∃ Gi di, Stp X.K G H sg dl Gi Hi sgi di ∧ Ex G1 Gi ∧ i ≤ ds.length ∧ m = ds.length - i ∧ PostS X W G H sg dl D (forD put body (ds.drop i) di),
    ⟨ds.length, G1, d1, s1, Ex.refl G1, Nat.zero_le _, rfl, h1⟩, ?_⟩
  rintro i m sgi Hi ⟨Gi, di, s, e1, hi, rfl, hp⟩
  obtain ⟨go, stop⟩ := wk i Gi Hi e1 s.rel.ex
  by_cases hlt : i < ds.length
  · have hd : ds[i]? = some ds[i] := List.getElem?_eq_getElem hlt
    obtain ⟨g1, y1⟩ := go ds[i] hd
    have ed : ds.drop i = ds[i] :: ds.drop (i + 1) := List.drop_eq_getElem_cons hlt
    rw [ed] at hp
    unfold forD at hp
    refine .inr ⟨g1, fun sg2 H2 => ∃ G2 d2, Stp X.K G H sg dl G2 H2 sg2 d2 ∧ Ex G1 G2 ∧ PostS X W G H sg dl D (forD put body (ds.drop (i + 1)) d2), fun sg2 H2 ⟨G2, d2, z1, z2, z3⟩ => ⟨ds.length - (i + 1), by omega, G2, d2, z1, z2, hlt, rfl, z3⟩, fun x H2 y => ?_⟩
    obtain ⟨G2, al, dx⟩ := y1 x H2 y
    have s2 := s.trans (al.stp s.rel)
    cases ep : put di ds[i] with
    | none => rw [ep] at hp; exact hp.elim
    | some d3 =>
      rw [ep] at hp
      refine sg'.2 G H sg dl G2 H2 sgi di x ds[i] d3 _ s2 dx ep fun sg3 s3 _ _ => ?_
      refine sb G2 H2 sg3 d3 _ s3.rel ?_
      dsimp only at hp
      cases eb : body d3 with
      | bad => rw [eb] at hp; exact hp
      | nx d4 =>
        rw [eb] at hp
        exact fun G4 H4 sg4 s4 => ⟨G4, d4, s3.trans s4, (e1.trans al.g).trans s4.g, hp⟩
      | cnt d4 =>
        rw [eb] at hp
        exact fun G4 H4 sg4 s4 => ⟨G4, d4, s3.trans s4, (e1.trans al.g).trans s4.g, hp⟩
      | brk d4 =>
        rw [eb] at hp
        exact fun G4 H4 sg4 s4 => hp G4 H4 sg4 (s3.trans s4)
      | ret r d4 =>
        rw [eb] at hp
        exact fun v G4 H4 sg4 s4 q => hp v G4 H4 sg4 (s3.trans s4) (q.from s3.d)
      | ex c d4 =>
        rw [eb] at hp
        exact fun C G4 H4 sg4 hc s4 => hp C G4 H4 sg4 hc (s3.trans s4)
  · have ei : i = ds.length := by omega
    subst ei
    refine .inl ⟨stop (Nat.le_refl _), ?_⟩
    rw [List.drop_length] at hp
    exact hp Gi Hi sgi s
theorem ss_for {tg iter : Expr} {body : List Stmt} {pos : Pos} {g : TG} {it : S → Out (List PyData)} {put : S → PyData → Option S} {fb : S → Fl} (hp : PassesOwn (model X.prog X.w) X.A X.env X.xe) (hc : X.calm = true) (hi : SI X W tg iter it) {vs0 : List Nat} (hg : PG X tg g) (hs : SoG X.K vs0 g put) (hb : SB X W body fb)
    (hf : ∀ x, foldedSetIterable iter X.env x = pure x := by intro _; rfl) : SS X W (.For tg iter body [] pos) (dFor it put fb) :=
  let ⟨_, pi, si⟩ := hi
  let ⟨_, pb, sb⟩ := hb
  ⟨_, ps_for hp hc pi hg pb hf, so_for si hs sb⟩
end
end DL
namespace DL
open PySem L2
def wipeD (dl : S) : List Nat → S
  | [] => dl
  | v :: vs => (wipeD dl vs).set v .no
def restD (dl : S) : List Nat → S → S
  | [], dl' => dl'
  | v :: vs, dl' => (restD dl vs dl').set v (dl[v]?.getD .no)
theorem wipeD_len (dl : S) : ∀ vs : List Nat, (wipeD dl vs).length = dl.length
  | [] => rfl
  | v :: vs => by unfold wipeD; rw [List.length_set, wipeD_len dl vs]
theorem restD_len (dl dl' : S) : ∀ vs : List Nat, (restD dl vs dl').length = dl'.length
  | [] => rfl
  | v :: vs => by unfold restD; rw [List.length_set, restD_len dl dl' vs]
theorem wipeD_out {dl : S} {i : Nat} : ∀ {vs : List Nat}, i ∉ vs → (wipeD dl vs)[i]? = dl[i]?
  | [], _ => rfl
  | v :: vs, h => by
    unfold wipeD
    rw [set_ne fun z => h (by rw [z]; exact List.mem_cons_self)]
    exact wipeD_out fun z => h (List.mem_cons_of_mem _ z)
theorem wipeD_in {dl : S} {i : Nat} : ∀ {vs : List Nat}, i ∈ vs → i < dl.length → (wipeD dl vs)[i]? = some .no
  | v :: vs, h, hl => by
    unfold wipeD
    by_cases hv : i = v
    · subst hv
      exact List.getElem?_set_self (by rw [wipeD_len]; exact hl)
    · rw [set_ne hv]
      rcases List.mem_cons.mp h with z | z
      · exact absurd z hv
      · exact wipeD_in z hl
theorem restD_out {dl dl' : S} {i : Nat} : ∀ {vs : List Nat}, i ∉ vs → (restD dl vs dl')[i]? = dl'[i]?
  | [], _ => rfl
  | v :: vs, h => by
    unfold restD
    rw [set_ne fun z => h (by rw [z]; exact List.mem_cons_self)]
    exact restD_out fun z => h (List.mem_cons_of_mem _ z)
theorem restD_in {dl dl' : S} {i : Nat} (he : dl'.length = dl.length) : ∀ {vs : List Nat}, i ∈ vs → (restD dl vs dl')[i]? = dl[i]?
  | v :: vs, h => by
    unfold restD
    by_cases hv : i = v
    · subst hv
      by_cases hl : i < dl.length
      · rw [List.getElem?_set_self (by rw [restD_len, he]; exact hl), List.getElem?_eq_getElem hl]
        rfl
      · rw [List.getElem?_eq_none (by rw [List.length_set, restD_len, he]; omega), List.getElem?_eq_none (by omega)]
    · rw [set_ne hv]
      rcases List.mem_cons.mp h with z | z
      · exact absurd z hv
      · exact restD_in he z
theorem wipe_out {sg : L2.St} {i : Nat} : ∀ {vs : List Nat}, i ∉ vs → (wipe sg vs)[i]? = sg[i]?
  | [], _ => rfl
  | v :: vs, h => by
    unfold wipe
    rw [set_ne fun z => h (by rw [z]; exact List.mem_cons_self)]
    exact wipe_out fun z => h (List.mem_cons_of_mem _ z)
theorem wipe_in {sg : L2.St} {i : Nat} : ∀ {vs : List Nat}, i ∈ vs → i < sg.length → (wipe sg vs)[i]? = some none
  | v :: vs, h, hl => by
    unfold wipe
    by_cases hv : i = v
    · subst hv
      exact List.getElem?_set_self (by rw [wipe_length]; exact hl)
    · rw [set_ne hv]
      rcases List.mem_cons.mp h with z | z
      · exact absurd z hv
      · exact wipe_in z hl
theorem wipe_same {sg sg' : L2.St} {vs : List Nat} (hl : sg'.length = sg.length) (h : ∀ i, i ∉ vs → sg'[i]? = sg[i]?) : wipe sg' vs = wipe sg vs := by
  refine List.ext_getElem? fun i => ?_
  by_cases hi : i ∈ vs
  · by_cases hlt : i < sg.length
    · rw [wipe_in hi hlt, wipe_in hi (by rw [hl]; exact hlt)]
    · rw [List.getElem?_eq_none (by rw [wipe_length, hl]; omega), List.getElem?_eq_none (by rw [wipe_length]; omega)]
  · rw [wipe_out hi, wipe_out hi]
    exact h i hi
theorem wipe_wipe {sg : L2.St} {vs : List Nat} : wipe (wipe sg vs) vs = wipe sg vs := wipe_same (wipe_length sg vs) fun _ h => wipe_out h
section
variable {K : PySem.W.Frag}
theorem wipe_key {dl : S} {vs : List Nat} {i : Nat} {s : Sl} (h : (wipeD dl vs)[i]? = some s) (hn : s ≠ .no) : i ∉ vs ∧ dl[i]? = some s := by
  by_cases hi : i ∈ vs
  · have hl := lt_of_get h
    rw [wipeD_len] at hl
    rw [wipeD_in hi hl] at h
    cases h
    exact absurd rfl hn
  · rw [wipeD_out hi] at h
    exact ⟨hi, h⟩
theorem fs_no {H : Hp} {s : Sl} {v : V} {a : Addr} (h : Fs H s v a) : s ≠ .no := fun z => by subst z; exact h
theorem mine_no {s : Sl} (h : mine s = true) : s ≠ .no := fun z => by subst z; cases h
theorem ow_wipe {H : Hp} {sg : L2.St} {dl : S} {vs : List Nat} {p : Addr} (h : Ow H (wipe sg vs) (wipeD dl vs) p) : ∃ (i : Nat) (s : Sl) (v : V), i ∉ vs ∧ dl[i]? = some s ∧ sg[i]? = some (some v) ∧ Fs H s v p := by
  obtain ⟨i, s, v, h1, h2, h3⟩ := h
  obtain ⟨hi, h1'⟩ := wipe_key h1 (fs_no h3)
  rw [wipe_out hi] at h2
  exact ⟨i, s, v, hi, h1', h2, h3⟩
theorem rel_wipe {G H : Hp} {sg : L2.St} {dl : S} {vs : List Nat} (re : Rel K G H sg dl) : Rel K G H (wipe sg vs) (wipeD dl vs) := by
  refine ⟨by rw [wipe_length, wipeD_len]; exact re.len, re.ex, re.nt, re.tb, fun i d h => ?_, fun i s h hm => ?_, fun i j s s' v v' p h1 h2 h3 h4 h5 h6 => ?_⟩
  · obtain ⟨hi, h'⟩ := wipe_key h (fun z => nomatch z)
    rw [wipe_out hi]
    exact re.val i d h'
  · obtain ⟨hi, h'⟩ := wipe_key h (mine_no hm)
    rw [wipe_out hi]
    exact re.mn i s h' hm
  · obtain ⟨hi, h1'⟩ := wipe_key h1 (fs_no h5)
    obtain ⟨hj, h2'⟩ := wipe_key h2 (fs_no h6)
    rw [wipe_out hi] at h3
    rw [wipe_out hj] at h4
    exact re.dj i j s s' v v' p h1' h2' h3 h4 h5 h6
theorem stp_wipe {G H H0 G0 : Hp} {sg sg0 : L2.St} {dl dl0 : S} {vs : List Nat} (s : Stp K G0 H0 sg0 dl0 G H sg dl) : Stp K G0 H0 sg0 dl0 G H (wipe sg vs) (wipeD dl vs) where
  rel := rel_wipe s.rel
  g := s.g
  k := s.k
  n := s.n
  w := fun p h => by
    obtain ⟨i, b, ds, _, h1, h2⟩ := ow_wipe h
    exact s.w p ⟨i, b, ds, h1, h2⟩
  d := s.d
  io := fun j ds h => by
    obtain ⟨hi, h'⟩ := wipe_key h (fun z => nomatch z)
    rw [wipe_out hi]
    exact s.io j ds h'
theorem stp_rest3 {G H G1 H1 : Hp} {sg : L2.St} {dl dn : S} {vs : List Nat} (re : Rel K G1 H1 sg dl) (s : Stp K G1 H1 (wipe sg vs) (wipeD dl vs) G H (wipe sg vs) dn) (k : Kp (wipeD dl vs) dn) : Stp K G1 H1 sg dl G H sg (restD dl vs dn) ∧ Kp dl (restD dl vs dn) ∧ ∀ p, Ow H sg (restD dl vs dn) p → Ow H1 sg dl p ∨ Ow H (wipe sg vs) dn p := by
  have hl : dn.length = dl.length := k.1.trans (wipeD_len dl vs)
  have hnw : ∀ (i : Nat) (s : Sl) (v : V) (p : Addr), i ∈ vs → dl[i]? = some s → sg[i]? = some (some v) → Fs H1 s v p → ¬ Ow H1 (wipe sg vs) (wipeD dl vs) p := fun i s v p hi h1 h2 h3 q => by
    obtain ⟨j, s', v', hj, h4, h5, h6⟩ := ow_wipe q
    have := re.dj i j s s' v v' p h1 h4 h2 h5 h3 h6
    subst this
    exact hj hi
  have owd : ∀ p, Ow H1 (wipe sg vs) (wipeD dl vs) p → Ow H1 sg dl p := fun p q => by
    obtain ⟨j, b', ds', _, h3, h4⟩ := ow_wipe q
    exact ⟨j, b', ds', h3, h4⟩
  have out : ∀ {i : Nat} {x : Sl}, i ∉ vs → (restD dl vs dn)[i]? = some x → dn[i]? = some x := fun hi h => by rw [restD_out hi] at h; exact h
  have inn : ∀ {i : Nat} {x : Sl}, i ∈ vs → (restD dl vs dn)[i]? = some x → dl[i]? = some x := fun hi h => by rw [restD_in hl hi] at h; exact h
  have kpi : ∀ {i : Nat} {x : Sl} {v : V}, i ∈ vs → dl[i]? = some x → sg[i]? = some (some v) → ∀ a, Fs H1 x v a → H a = H1 a := fun {i x v} hi h1 h2 a h3 => by
    obtain ⟨o, ho⟩ := ne_some (re.mo h1 h2 h3).2.2
    rw [ho]
    exact s.k a o (hnw i x v a hi h1 h2 h3) (re.owt ⟨i, x, v, h1, h2, h3⟩ ho) ho
  have ownp : ∀ {i : Nat} {x : Sl} {v : V} {p : Addr}, (restD dl vs dn)[i]? = some x → sg[i]? = some (some v) → Fs H x v p → (i ∈ vs ∧ dl[i]? = some x ∧ Fs H1 x v p) ∨ (i ∉ vs ∧ dn[i]? = some x ∧ (wipe sg vs)[i]? = some (some v)) := fun {i x v p} h hp hf => by
    by_cases hi : i ∈ vs
    · exact .inl ⟨hi, inn hi h, fs_mono (kpi hi (inn hi h) hp) p hf⟩
    · exact .inr ⟨hi, out hi h, by rw [wipe_out hi]; exact hp⟩
  refine ⟨⟨⟨by rw [restD_len, hl]; exact re.len, s.rel.ex, s.rel.nt, s.rel.tb, fun i d h => ?_, fun i x h hm => ?_, fun i j x x' v v' p h1 h2 h3 h4 h5 h6 => ?_⟩, s.g, fun a o h1 ht h2 => s.k a o (fun z => h1 (owd a z)) ht h2, fun a h1 h2 h3 => s.n a (fun z => h1 (owd a z)) h2 h3, fun p h => ?_, s.d, fun j ds h => ?_⟩, ⟨?_, fun i => ?_⟩, fun p h => ?_⟩
  · by_cases hi : i ∈ vs
    · obtain ⟨v, q1, q2⟩ := re.val i d (inn hi h)
      exact ⟨v, q1, q2.ex s.g⟩
    · obtain ⟨v, q1, q2⟩ := s.rel.val i d (out hi h)
      rw [wipe_out hi] at q1
      exact ⟨v, q1, q2⟩
  · by_cases hi : i ∈ vs
    · have h' := inn hi h
      obtain ⟨v, q1, q2, q3⟩ := re.mn i x h' hm
      refine ⟨v, q1, sl_mono q2 s.g (kpi hi h' q1), fun a ha => ?_⟩
      have ha' := fs_mono (kpi hi h' q1) a ha
      exact s.n a (hnw i x v a hi h' q1 ha') (fs_live q2 a ha') (q3 a ha')
    · obtain ⟨v, q1, q2⟩ := s.rel.mn i x (out hi h) hm
      rw [wipe_out hi] at q1
      exact ⟨v, q1, q2⟩
  · have mixed : ∀ {i j : Nat} {x x' : Sl} {v v' : V}, i ∈ vs → dl[i]? = some x → sg[i]? = some (some v) → Fs H1 x v p → dn[j]? = some x' → (wipe sg vs)[j]? = some (some v') → Fs H x' v' p → False := fun {i j x x' v v'} hi z1 z2 z3 z4 z5 z6 => by
      rcases s.w p ⟨j, x', v', z4, z5, z6⟩ with q | q
      · exact hnw i x v p hi z1 z2 z3 q
      · exact (re.mo z1 z2 z3).2.2 q
    rcases ownp h1 h3 h5 with ⟨hi, z1, y1⟩ | ⟨hi, z1, z1'⟩
    · rcases ownp h2 h4 h6 with ⟨hj, z2, y2⟩ | ⟨hj, z2, z2'⟩
      · exact re.dj i j x x' v v' p z1 z2 h3 h4 y1 y2
      · exact (mixed hi z1 h3 y1 z2 z2' h6).elim
    · rcases ownp h2 h4 h6 with ⟨hj, z2, y2⟩ | ⟨hj, z2, z2'⟩
      · exact (mixed hj z2 h4 y2 z1 z1' h5).elim
      · exact s.rel.dj i j x x' v v' p z1 z2 z1' z2' h5 h6
  · obtain ⟨i, x, v, h1, h2, h3⟩ := h
    rcases ownp h1 h2 h3 with ⟨hi, z1, y1⟩ | ⟨hi, z1, z1'⟩
    · exact .inl ⟨i, x, v, z1, h2, y1⟩
    · rcases s.w p ⟨i, x, v, z1, z1', h3⟩ with q | q
      · exact .inl (owd p q)
      · exact .inr q
  · by_cases hi : j ∈ vs
    · exact ⟨⟨ds, inn hi h⟩, rfl⟩
    · obtain ⟨⟨ds0, q1⟩, _⟩ := s.io j ds (out hi h)
      rw [wipeD_out hi] at q1
      exact ⟨⟨ds0, q1⟩, rfl⟩
  · rw [restD_len]; exact hl
  · by_cases hi : i ∈ vs
    · rw [restD_in hl hi]
      exact (Kp.refl dl).2 i
    · rw [restD_out hi]
      have := k.2 i
      rw [wipeD_out hi] at this
      exact this
  · obtain ⟨i, x, v, h1, h2, h3⟩ := h
    rcases ownp h1 h2 h3 with ⟨hi, z1, y1⟩ | ⟨hi, z1, z1'⟩
    · exact .inl ⟨i, x, v, z1, h2, y1⟩
    · exact .inr ⟨i, x, v, z1, z1', h3⟩
theorem stp_rest {G H G1 H1 : Hp} {sg : L2.St} {dl dn : S} {vs : List Nat} (re : Rel K G1 H1 sg dl) (s : Stp K G1 H1 (wipe sg vs) (wipeD dl vs) G H (wipe sg vs) dn) (k : Kp (wipeD dl vs) dn) : Stp K G1 H1 sg dl G H sg (restD dl vs dn) ∧ Kp dl (restD dl vs dn) :=
  let ⟨a, b, _⟩ := stp_rest3 re s k
  ⟨a, b⟩
theorem ow_rest {G H G1 H1 : Hp} {sg : L2.St} {dl dn : S} {vs : List Nat} {p : Addr} (re : Rel K G1 H1 sg dl) (s : Stp K G1 H1 (wipe sg vs) (wipeD dl vs) G H (wipe sg vs) dn) (k : Kp (wipeD dl vs) dn) (h1 : H1 p = none) (h2 : ¬ Ow H (wipe sg vs) dn p) : ¬ Ow H sg (restD dl vs dn) p := fun q => by
  rcases (stp_rest3 re s k).2.2 p q with q | q
  · exact (re.ow q).2 h1
  · exact h2 q
theorem ow_fly {G H : Hp} {sg : L2.St} {dl : S} {D : Addr} {o : HO} (re : Rel K G H sg dl) (hw : ¬ Ow H sg dl D) : ¬ Ow (upd H D o) sg dl D := fun ⟨i, s, v, h1, h2, h3⟩ =>
  hw ⟨i, s, v, h1, h2, fs_mono (fun a ha => upd_ne fun zz => hw (by rw [← zz]; exact ⟨i, s, v, h1, h2, ha⟩)) D h3⟩
theorem stp_fly {G H H0 G0 : Hp} {sg sg0 : L2.St} {dl dl0 : S} {D : Addr} {o : HO} (s : Stp K G0 H0 sg0 dl0 G H sg dl) (h0 : H0 D = none) (hg : G D = none) (hw : ¬ Ow H sg dl D) (hD : ∀ u, H D = some u → ¬ isK D u) : Stp K G0 H0 sg0 dl0 G (upd H D o) sg dl := by
  have re := s.rel
  obtain ⟨r', w'⟩ := re.keep (H' := upd H D o) (Ex.refl G) (fun a u z => by
    rw [upd_ne fun zz => by rw [zz, hg] at z; cases z]
    exact re.ex a u z) re.nt (re.tb.mut fun a u hm e => by rw [upd_ne fun zz => by subst zz; exact hD u e hm]; exact e) (fun a ha => upd_ne fun zz => hw (by rw [← zz]; exact ha)) fun a ha => (re.ow ha).1
  refine ⟨r', s.g, fun a u h1 ht h2 => ?_, s.n, fun p h => s.w p (w' p h), fun a h => ?_, s.io⟩
  · rw [upd_ne fun zz => by rw [zz, h0] at h2; cases h2]
    exact s.k a u h1 ht h2
  · by_cases zz : a = D
    · subst zz; exact absurd h0 h
    · rw [upd_ne zz]; exact s.d a h
theorem kp_turn {dn d3 d6 : S} {vs : List Nat} (h1 : d3.length = dn.length) (h2 : ∀ i, i ∉ vs → d3[i]? = dn[i]?) (h3 : ∀ i, i ∈ vs → i < dn.length → dn[i]? = some .no) (k : Kp d3 d6) : Kp dn (wipeD d6 vs) := by
  have hl : d6.length = dn.length := k.1.trans h1
  refine ⟨(wipeD_len d6 vs).trans hl, fun i => ?_⟩
  by_cases hi : i ∈ vs
  · by_cases hlt : i < dn.length
    · rw [h3 i hi hlt]
      exact wipeD_in hi (by rw [hl]; exact hlt)
    · rw [List.getElem?_eq_none (by omega : dn.length ≤ i)]
      exact List.getElem?_eq_none (by rw [wipeD_len, hl]; omega)
  · rw [wipeD_out hi]
    have := k.2 i
    rw [h2 i hi] at this
    exact this
end
def compD (vs : List Nat) (put : S → PyData → Option S) (c : S → Out Bool) (f : S → Out Rv) : List PyData → S → List PyData → Option (List PyData × S)
  | [], dn, acc => some (acc, dn)
  | d :: ds, dn, acc => match put dn d with
    | none => none
    | some d1 => match c d1 with
      | .ok true d2 => match f d2 with
        | .ok r d3 => match stb d3 r with
          | some (y, d4) => if acc.length < 100000 then compD vs put c f ds (wipeD d4 vs) (acc ++ [y]) else none
          | none => none
        | _ => none
      | .ok false d2 => compD vs put c f ds (wipeD d2 vs) acc
      | _ => none
def endC (dl : S) (vs : List Nat) (o : Option (List PyData × S)) : Out Rv := match o with
  | some (acc, dn) => .ok (.new acc) (restD dl vs dn)
  | none => .bad
def dComp (it : S → Out (List PyData)) (vs : List Nat) (put : S → PyData → Option S) (c : S → Out Bool) (f : S → Out Rv) : S → Out Rv := fun dl => (it dl).bind fun ds d1 => endC d1 vs (compD vs put c f ds (wipeD d1 vs) [])
abbrev W0 : WX := fun _ _ _ _ => False
section
variable {X : Cx} {W : WX}
theorem so_comp {wi : TI} {g : TG} {tt : TT} {te : TE} {it : S → Out (List PyData)} {put : S → PyData → Option S} {c : S → Out Bool} {f : S → Out Rv} {vs vs0 : List Nat} (si : SoI X W wi it) (sg' : SoG X.K vs0 g put) (sub : ∀ i ∈ vs0, i ∈ vs) (st : SoT X W0 tt c) (se : SoE X W0 te f) :
    SoE X W (tLc wi g tt te vs) (dComp it vs put c f) := by
  intro G H sg dl Q re h
  refine si G H sg dl _ re ((post_bind h).imp fun ds d1 G1 H1 s1 k1 h1 J wk D hD => ?_)
  cases ec : compD vs put c f ds (wipeD d1 vs) [] with
  | none => rw [ec] at h1; exact h1.elim
  | some y =>
    obtain ⟨accF, dnF⟩ := y
    rw [ec] at h1
    have h1' : Post X W G1 H1 sg d1 (wE X sg H Q) (.ok (.new accF) (restD d1 vs dnF)) := h1
    have reW : Rel X.K G1 H1 (wipe sg vs) (wipeD d1 vs) := rel_wipe s1.rel
    have no0 : ∀ i, i ∈ vs → i < (wipeD d1 vs).length → (wipeD d1 vs)[i]? = some .no := fun i hi hl => wipeD_in hi (by rw [wipeD_len] at hl; exact hl)
    refine ⟨fun i m Hh => ∃ G' dn vD acc, Stp X.K G1 H1 (wipe sg vs) (wipeD d1 vs) G' Hh (wipe sg vs) dn ∧ Kp (wipeD d1 vs) dn ∧ ¬ Ow Hh (wipe sg vs) dn D ∧ Hh D = some (.lst vD) ∧ G' D = none ∧ DaAll X.K G' vD acc ∧ i ≤ ds.length ∧ m = ds.length - i ∧ compD vs put c f (ds.drop i) dn acc = some (accF, dnF),
      ⟨ds.length, G1, wipeD d1 vs, [], [], (Alc.li s1.rel.ex hD (.lst [])).stp reW, Kp.refl _, fun q => (reW.ow (reW.back (Ex.new hD) q)).2 hD, upd_same, s1.rel.ex.nn hD, .nil, Nat.zero_le _, rfl, ec⟩, ?_⟩
    rintro i m Hh ⟨G', dn, vD, acc, s, k, nw, hDh, hDg, da, hi, rfl, he⟩
    obtain ⟨go, stop⟩ := wk i G' Hh s.g s.rel.ex
    have noN : ∀ i, i ∈ vs → i < dn.length → dn[i]? = some .no := fun i hi hl => by
      have := k.2 i
      rw [no0 i hi (by rw [← k.1]; exact hl)] at this
      exact this
    by_cases hlt : i < ds.length
    · have hd : ds[i]? = some ds[i] := List.getElem?_eq_getElem hlt
      obtain ⟨g1, y1⟩ := go ds[i] hd
      have ed : ds.drop i = ds[i] :: ds.drop (i + 1) := List.drop_eq_getElem_cons hlt
      rw [ed] at he
      unfold compD at he
      refine .inr ⟨g1, fun Hn => ∃ G' dn vD acc, Stp X.K G1 H1 (wipe sg vs) (wipeD d1 vs) G' Hn (wipe sg vs) dn ∧ Kp (wipeD d1 vs) dn ∧ ¬ Ow Hn (wipe sg vs) dn D ∧ Hn D = some (.lst vD) ∧ G' D = none ∧ DaAll X.K G' vD acc ∧ compD vs put c f (ds.drop (i + 1)) dn acc = some (accF, dnF),
        fun Hn ⟨G', dn, vD, acc, z1, z2, z3, z4, z5, z6, z7⟩ => ⟨ds.length - (i + 1), by omega, G', dn, vD, acc, z1, z2, z3, z4, z5, z6, hlt, rfl, z7⟩, fun x H2 y => ?_⟩
      obtain ⟨G2, al, dx⟩ := y1 x H2 y
      have s2 := al.stp s.rel
      cases ep : put dn ds[i] with
      | none => rw [ep] at he; cases he
      | some d3 =>
        rw [ep] at he
        obtain ⟨p1, p2⟩ := sg'.1 dn ds[i] d3 ep
        refine sg'.2 G' Hh (wipe sg vs) dn G2 H2 (wipe sg vs) dn x ds[i] d3 _ s2 dx ep fun sg3 s3 l3 o3 => ?_
        have ew : wipe sg3 vs = wipe sg vs := (wipe_same l3 fun i hi => o3 i fun z => hi (sub i z)).trans wipe_wipe
        refine ⟨ew, ?_⟩
        have tn : ∀ {G6 H6 : Hp} {d6 : S}, Stp X.K G' Hh (wipe sg vs) dn G6 H6 sg3 d6 → Kp d3 d6 → Stp X.K G1 H1 (wipe sg vs) (wipeD d1 vs) G6 H6 (wipe sg vs) (wipeD d6 vs) ∧ Kp (wipeD d1 vs) (wipeD d6 vs) ∧ ¬ Ow H6 (wipe sg vs) (wipeD d6 vs) D ∧ H6 D = some (.lst vD) ∧ G6 D = none ∧ DaAll X.K G6 vD acc := fun {G6 H6 d6} sl kl => by
          have s6 := stp_wipe (vs := vs) sl
          rw [ew] at s6
          exact ⟨s.trans s6, k.trans (kp_turn p1 (fun i hi => p2 i fun z => hi (sub i z)) noN kl), s6.nw nw (some_ne hDh), sl.k D _ nw rfl hDh, sl.n D nw (some_ne hDh) hDg, da.ex sl.g⟩
        have he' : (match c d3 with
          | .ok true d2 => match f d2 with
            | .ok r d3 => match stb d3 r with
              | some (y, d4) => if acc.length < 100000 then compD vs put c f (ds.drop (i + 1)) (wipeD d4 vs) (acc ++ [y]) else none
              | none => none
            | _ => none
          | .ok false d2 => compD vs put c f (ds.drop (i + 1)) (wipeD d2 vs) acc
          | _ => none) = some (accF, dnF) := he
        refine st G2 H2 sg3 d3 _ s3.rel ?_
        cases eb : c d3 with
        | bad => rw [eb] at he'; cases he'
        | ex cc dd => rw [eb] at he'; cases he'
        | ok b d4 =>
          rw [eb] at he'
          intro G4 H4 s4 k4
          have s34 := s3.trans s4
          cases b with
          | false =>
            obtain ⟨z1, z2, z3, z4, z5, z6⟩ := tn s34 k4
            exact ⟨G4, wipeD d4 vs, vD, acc, z1, z2, z3, z4, z5, z6, he'⟩
          | true =>
            have he2 : (match f d4 with
              | .ok r d3 => match stb d3 r with
                | some (y, d4) => if acc.length < 100000 then compD vs put c f (ds.drop (i + 1)) (wipeD d4 vs) (acc ++ [y]) else none
                | none => none
              | _ => none) = some (accF, dnF) := he'
            refine se G4 H4 sg3 d4 _ s4.rel ?_
            cases ef : f d4 with
            | bad => rw [ef] at he2; cases he2
            | ex cc dd => rw [ef] at he2; cases he2
            | ok r d5 =>
              rw [ef] at he2
              intro G5 H5 s5 k5 v q
              have he3 : (match stb d5 r with
                | some (y, d4) => if acc.length < 100000 then compD vs put c f (ds.drop (i + 1)) (wipeD d4 vs) (acc ++ [y]) else none
                | none => none) = some (accF, dnF) := he2
              cases es : stb d5 r with
              | none => rw [es] at he3; cases he3
              | some yy =>
                obtain ⟨y, d6⟩ := yy
                rw [es] at he3
                obtain ⟨G6, s6, k6, z6, _⟩ := stb_ok s5 q es
                obtain ⟨z1, z2, z3, z4, z5, z7⟩ := tn (s34.trans s6) (k4.trans (k5.trans k6))
                have he4 : (if acc.length < 100000 then compD vs put c f (ds.drop (i + 1)) (wipeD d6 vs) (acc ++ [y]) else none) = some (accF, dnF) := he3
                by_cases hl : acc.length < 100000
                · rw [if_pos hl] at he4
                  refine ⟨vD, z4, by rw [z7.len]; exact sz_lt hl, G6, wipeD d6 vs, vD ++ [v], acc ++ [y], stp_fly z1 hD z5 z3 (fun u e => by rw [z4] at e; cases e; exact isM_nk rfl), z2, ow_fly z1.rel z3, upd_same, z5, z7.append (.cons z6 .nil), he4⟩
                · rw [if_neg hl] at he4; cases he4
    · have ei : i = ds.length := by omega
      subst ei
      rw [List.drop_length] at he
      cases he
      refine .inl ⟨stop (Nat.le_refl _), ?_⟩
      obtain ⟨sr, kr⟩ := stp_rest s1.rel s k
      refine h1' G' Hh sr kr (.ref D) ⟨D, vD, rfl, ?_, hDh, hDg, ow_rest s1.rel s k hD nw, da⟩
      · cases hq : H D with
        | none => rfl
        | some o => exact absurd hD (s1.d D (some_ne hq))
def STs (X : Cx) (W : WX) (ifs : List Expr) (f : S → Out Bool) : Prop := ∃ t, PTs X ifs t ∧ SoT X W t f
def dYes : S → Out Bool := fun dl => .ok true dl
theorem sts_nil : STs X W [] dYes := ⟨tYes, pts_nil, fun G H sg dl Q re h => h G H (Stp.refl re) (Kp.refl dl)⟩
theorem sts_one {c : Expr} {f : S → Out Bool} (h : ST X W c f) : STs X W [c] f := let ⟨t, p, s⟩ := h; ⟨t, pts_one p, s⟩
theorem meetE {I : Type} {Xi : I → Cx} {W : WX} {e : Expr} {f : S → Out Rv} (hK : ∀ i, (Xi i).K = X.K) (hm : ∀ i, (Xi i).mg = X.mg) (h : ∀ i, SE (Xi i) W e f) : ∃ t, (∀ i, PE (Xi i) e t) ∧ SoE X W t f := by
  refine ⟨fun sg H Q => ∀ i, Classical.choose (h i) sg H Q, fun i => ⟨fun pins s σ H Q I w => (Classical.choose_spec (h i)).1.run pins s σ H Q I (w i)⟩, fun G H sg dl Q re p i => ?_⟩
  refine (Classical.choose_spec (h i)).2 G H sg dl Q (by rw [hK i]; exact re) ?_
  cases ho : f dl with
  | bad => rw [ho] at p; exact p
  | ok r d1 =>
    rw [ho] at p
    intro G1 H1 s k v q
    rw [hK i] at s q
    exact p G1 H1 s k v q
  | ex c d1 =>
    rw [ho] at p
    intro C G1 H1 hc s
    rw [hK i] at s
    rw [hm i] at hc
    exact p C G1 H1 hc s
theorem meetT {I : Type} {Xi : I → Cx} {W : WX} {e : List Expr} {f : S → Out Bool} (hK : ∀ i, (Xi i).K = X.K) (hm : ∀ i, (Xi i).mg = X.mg) (h : ∀ i, STs (Xi i) W e f) : ∃ t, (∀ i, PTs (Xi i) e t) ∧ SoT X W t f := by
  refine ⟨fun sg H Q => ∀ i, Classical.choose (h i) sg H Q, fun i => ⟨fun pins s σ H Q I w => (Classical.choose_spec (h i)).1.run pins s σ H Q I (w i)⟩, fun G H sg dl Q re p i => ?_⟩
  refine (Classical.choose_spec (h i)).2 G H sg dl Q (by rw [hK i]; exact re) ?_
  cases ho : f dl with
  | bad => rw [ho] at p; exact p
  | ok r d1 =>
    rw [ho] at p
    intro G1 H1 s k
    rw [hK i] at s
    exact p G1 H1 s k
  | ex c d1 =>
    rw [ho] at p
    intro C G1 H1 hc s
    rw [hK i] at s
    rw [hm i] at hc
    exact p C G1 H1 hc s
structure BI where
  s : Shared
  H : Hp
  C : Addr
  cl : List (Str × Addr)
  fp : List Addr
abbrev bX (X : Cx) (scope : Scope) (i : BI) : Cx := X.blk i.s i.H scope (compEnvC scope i.cl i.C X.env) i.fp
theorem se_comp (own : List (Str × Nat)) {elt tg iter : Expr} {ifs : List Expr} {scope : Scope} {pos : Pos} {g : TG} {it : S → Out (List PyData)} {put : S → PyData → Option S} {c : S → Out Bool} {f : S → Out Rv} {vs0 : List Nat} (hc : X.calm = true) (hN : X.N.Nodup) (hi : SI X W tg iter it) (ok : BlkOk X.N X.env.scope scope own)
    (hg : ∀ i, PG (bX X scope i) tg g) (sg : SoG X.K vs0 g put) (sub : ∀ i ∈ vs0, i ∈ own.map (·.2)) (ht : ∀ i, STs (bX X scope i) W0 ifs c) (he : ∀ i, SE (bX X scope i) W0 elt f) (hs : ∀ x, foldedSetIterable iter X.env x = pure x := by intro _; rfl) :
    SE X W (.ListComp elt [⟨tg, iter, ifs, 0⟩] scope pos) (dComp it (own.map (·.2)) put c f) := by
  obtain ⟨wi, pi, si⟩ := hi
  obtain ⟨tt, pt, st⟩ := meetT (X := X) (Xi := bX X scope) (fun _ => rfl) (fun _ => rfl) ht
  obtain ⟨te, pe, se⟩ := meetE (X := X) (Xi := bX X scope) (fun _ => rfl) (fun _ => rfl) he
  exact ⟨_, pe_lc hc hN pi ok (fun s H C cl fp => hg ⟨s, H, C, cl, fp⟩) (fun s H C cl fp => pt ⟨s, H, C, cl, fp⟩) (fun s H C cl fp => pe ⟨s, H, C, cl, fp⟩) hs, so_comp si sg sub st se⟩
theorem ss_comp (iy : Nat) (own : List (Str × Nat)) {y : Str} {elt tg iter : Expr} {ifs : List Expr} {scope : Scope} {py pos spos : Pos} {g : TG} {it : S → Out (List PyData)} {put : S → PyData → Option S} {c : S → Out Bool} {f : S → Out Rv} {vs0 : List Nat} (hc : X.calm = true) (hN : X.N.Nodup) (hy : X.N[iy]? = some y) (hyl : X.env.scope.names.lookup y = some .local)
    (hsw : swapsWith (.ListComp elt [⟨tg, iter, ifs, 0⟩] scope pos) (some (.Name y py)) spos.line X.env = pure true) (hi : SI X W tg iter it) (ok : BlkOk X.N X.env.scope scope own)
    (hg : ∀ i, PG (bX X scope i) tg g) (sg : SoG X.K vs0 g put) (sub : ∀ i ∈ vs0, i ∈ own.map (·.2)) (ht : ∀ i, STs (bX X scope i) W0 ifs c) (he : ∀ i, SE (bX X scope i) W0 elt f) (hs : ∀ x, foldedSetIterable iter X.env x = pure x := by intro _; rfl) :
    SS X W (.Assign [.Name y py] (.ListComp elt [⟨tg, iter, ifs, 0⟩] scope pos) spos) (dSet iy (dComp it (own.map (·.2)) put c f)) := by
  obtain ⟨wi, pi, si⟩ := hi
  obtain ⟨tt, pt, st⟩ := meetT (X := X) (Xi := bX X scope) (fun _ => rfl) (fun _ => rfl) ht
  obtain ⟨te, pe, se⟩ := meetE (X := X) (Xi := bX X scope) (fun _ => rfl) (fun _ => rfl) he
  exact ⟨_, ps_setLc hc hN hy hyl hsw pi ok (fun s H C cl fp => hg ⟨s, H, C, cl, fp⟩) (fun s H C cl fp => pt ⟨s, H, C, cl, fp⟩) (fun s H C cl fp => pe ⟨s, H, C, cl, fp⟩) hs, so_set (so_comp si sg sub st se)⟩
end
end DL
namespace DL
open PySem L2
inductive Fo where
  | val (d : PyData) (st : List PyData)
  | new (ds : List PyData) (st : List PyData)
  | ex (c : Str) (st : List PyData)
  | bad
abbrev Fn := List PyData → List PyData → Fo
def mkA (io : Bool) (st ds : List PyData) : S := if io then .own true st :: ds.map Sl.val else ds.map Sl.val
def PostC (K : PySem.W.Frag) (mg : Str → Option Value) (E : XK) (io : Bool) (G H : Hp) (vs : List V) (st ds : List PyData) (Q : VK) : Fo → Prop
  | .val d st' => ∀ v G' H', Stp K G H (vs.map some) (mkA io st ds) G' H' (vs.map some) (mkA io st' ds) → Da K G' v d → Q v H'
  | .new x st' => ∀ v G' H', Stp K G H (vs.map some) (mkA io st ds) G' H' (vs.map some) (mkA io st' ds) → RvOk K G' H' (vs.map some) (mkA io st' ds) H v (.new x) → Q v H'
  | .ex c st' => ∀ C G' H', mg c = some (.ref C) → Stp K G H (vs.map some) (mkA io st ds) G' H' (vs.map some) (mkA io st' ds) → E (.ref C) none H'
  | .bad => False
def spD (K : PySem.W.Frag) (mg : Str → Option Value) (io : Bool) (n : Nat) (g : Fn) : Sp := fun vs H Q E => vs.length = n ∧ ∃ G st ds, Rel K G H (vs.map some) (mkA io st ds) ∧ PostC K mg E io G H vs st ds Q (g st ds)
def FnD (X : Cx) (x : Str) (io : Bool) (n : Nat) (g : Fn) : Prop := ∃ k f fd ps, FnOk X.prog X.w X.K X.mg X.base (L2.CX X.prog X.w) k f fd ps (spD X.K X.mg io n g) ∧ Room k X.A ∧ X.mg x = some (.ref f) ∧ PySem.W.keepIn X.K (.ref f) = true ∧ Binds X.K fd ps []
def asE (o : Fo) (dl : S) : Out Rv := match o with
  | .val d _ => .ok (.val d) dl
  | .new ds _ => .ok (.new ds) dl
  | .ex c _ => .ex c dl
  | .bad => .bad
def callP (n : Nat) (g : Fn) (o : Option (List PyData × S)) : Out Rv := match o with
  | some (ds, d2) => if ds.length = n then asE (g [] ds) d2 else .bad
  | none => .bad
def dCall (n : Nat) (g : Fn) (fa : S → Out (List Rv)) : S → Out Rv := fun dl => (fa dl).bind fun rs d1 => callP n g (stbs d1 rs)
def stF : Fo → List PyData
  | .val _ st => st
  | .new _ st => st
  | .ex _ st => st
  | .bad => []
def callI (n : Nat) (g : Fn) (i : Nat) (o : Option (List PyData × S)) : Out Rv := match o with
  | some (ds, d2) => match d2[i]? with
    | some (.own b st) => if ds.length + 1 = n then asE (g st ds) (d2.set i (.own b (stF (g st ds)))) else .bad
    | _ => .bad
  | none => .bad
def dCallI (n : Nat) (g : Fn) (i : Nat) (fr : S → Out (List Rv)) : S → Out Rv := fun dl => if isOwn dl i then (fr dl).bind fun rs d1 => callI n g i (stbs d1 rs) else .bad
section
variable {K : PySem.W.Frag}
theorem mkA_f {st ds : List PyData} {j : Nat} {s : Sl} (h : (mkA false st ds)[j]? = some s) : ∃ d, s = .val d ∧ ds[j]? = some d := by
  have h' : (ds.map Sl.val)[j]? = some s := h
  rw [List.getElem?_map] at h'
  cases e : ds[j]? with
  | none => rw [e] at h'; cases h'
  | some d => rw [e] at h'; cases h'; exact ⟨d, rfl, rfl⟩
theorem mkA_t {st ds : List PyData} {j : Nat} {s : Sl} (h : (mkA true st ds)[j]? = some s) : (j = 0 ∧ s = .own true st) ∨ ∃ i d, j = i + 1 ∧ s = .val d ∧ ds[i]? = some d := by
  have h' : (Sl.own true st :: ds.map Sl.val)[j]? = some s := h
  cases j with
  | zero => cases h'; exact .inl ⟨rfl, rfl⟩
  | succ i =>
    have h2 : (ds.map Sl.val)[i]? = some s := by simpa using h'
    rw [List.getElem?_map] at h2
    cases e : ds[i]? with
    | none => rw [e] at h2; cases h2
    | some d => rw [e] at h2; cases h2; exact .inr ⟨i, d, rfl, rfl, e⟩
theorem vs_at {vs : List V} {j : Nat} {v : V} (h : vs[j]? = some v) : (vs.map some)[j]? = some (some v) := by rw [List.getElem?_map, h]; rfl
theorem rel_argsF {G H : Hp} {vs : List V} {st ds : List PyData} (e : Ex G H) (nt : NoT G) (tb : Tb K H) (z : DaAll K G vs ds) : Rel K G H (vs.map some) (mkA false st ds) := by
  refine ⟨?_, e, nt, tb, fun j d h => ?_, fun j s h hm => ?_, fun i j s s' v v' p h1 _ _ _ h5 _ => ?_⟩
  · show (vs.map some).length = (ds.map Sl.val).length
    rw [List.length_map, List.length_map]
    exact z.len
  · obtain ⟨d', e1, e2⟩ := mkA_f h
    cases e1
    obtain ⟨v, q1, q2⟩ := z.at e2
    exact ⟨v, vs_at q1, q2⟩
  · obtain ⟨d', e1, e2⟩ := mkA_f h
    subst e1
    cases hm
  · obtain ⟨d', e1, e2⟩ := mkA_f h1
    subst e1
    exact h5.elim
theorem ow_F {H : Hp} {vs : List V} {st ds : List PyData} {p : Addr} : ¬ Ow H (vs.map some) (mkA false st ds) p := fun ⟨i, s, v, h, _, h3⟩ => by
  obtain ⟨d', e1, e2⟩ := mkA_f h
  subst e1
  exact h3
theorem stp_callF3 {G H G' H' : Hp} {sg : L2.St} {dl : S} {vs : List V} {st st' ds : List PyData} (re : Rel K G H sg dl) (c : Stp K G H (vs.map some) (mkA false st ds) G' H' (vs.map some) (mkA false st' ds)) : Stp K G H sg dl G' H' sg dl ∧ ∀ p, Ow H' sg dl p → Ow H sg dl p := by
  obtain ⟨r', w'⟩ := re.keep c.g c.rel.ex c.rel.nt c.rel.tb (fun a ha => by
    obtain ⟨o, ho⟩ := ne_some (re.ow ha).2
    rw [ho]; exact c.k a o ow_F (re.owt ha ho) ho) fun a ha => c.n a ow_F (re.ow ha).2 (re.ow ha).1
  exact ⟨⟨r', c.g, fun a o _ ht h => c.k a o ow_F ht h, fun a _ h1 h2 => c.n a ow_F h1 h2, fun p h => .inl (w' p h), c.d, fun j ds h => ⟨⟨ds, h⟩, rfl⟩⟩, w'⟩
theorem stp_callF {G H G' H' : Hp} {sg : L2.St} {dl : S} {vs : List V} {st st' ds : List PyData} (re : Rel K G H sg dl) (c : Stp K G H (vs.map some) (mkA false st ds) G' H' (vs.map some) (mkA false st' ds)) : Stp K G H sg dl G' H' sg dl := (stp_callF3 re c).1
theorem rv_call {G H H0 : Hp} {sg sg' : L2.St} {dl dl' : S} {v : V} {x : List PyData} (q : RvOk K G H sg dl H0 v (.new x)) (hw : ∀ p, H0 p = none → ¬ Ow H sg' dl' p) : RvOk K G H sg' dl' H0 v (.new x) := by
  obtain ⟨p, vs, e, h0, h1, h2, _, h4⟩ := q
  exact ⟨p, vs, e, h0, h1, h2, hw p h0, h4⟩
theorem rel_argsT {G H : Hp} {v0 : V} {vs : List V} {st ds : List PyData} {p : Addr} {us : List V} (e : Ex G H) (nt : NoT G) (tb : Tb K H) (e0 : v0 = .ref p) (hg : G p = none) (hh : H p = some (.lst us)) (za : DaAll K G us st) (z : DaAll K G vs ds) : Rel K G H ((v0 :: vs).map some) (mkA true st ds) := by
  refine ⟨?_, e, nt, tb, fun j d h => ?_, fun j s h hm => ?_, fun i j s s' v v' q h1 h2 _ _ h5 h6 => ?_⟩
  · show ((v0 :: vs).map some).length = (Sl.own true st :: ds.map Sl.val).length
    rw [List.length_map, List.length_cons, List.length_cons, List.length_map, z.len]
  · rcases mkA_t h with ⟨_, e1⟩ | ⟨i, d', rfl, e1, e2⟩
    · cases e1
    · cases e1
      obtain ⟨v, q1, q2⟩ := z.at e2
      exact ⟨v, vs_at (vs := v0 :: vs) (by simpa using q1), q2⟩
  · rcases mkA_t h with ⟨rfl, e1⟩ | ⟨i, d', rfl, e1, e2⟩
    · subst e1
      refine ⟨v0, rfl, ⟨p, us, e0, hh, za⟩, fun a ha => ?_⟩
      have ha' : v0 = V.ref a := ha
      rw [e0] at ha'
      cases ha'
      exact hg
    · subst e1
      cases hm
  · rcases mkA_t h1 with ⟨rfl, _⟩ | ⟨_, _, _, e1, _⟩
    · rcases mkA_t h2 with ⟨rfl, _⟩ | ⟨_, _, _, e1, _⟩
      · rfl
      · subst e1
        exact h6.elim
    · subst e1
      exact h5.elim
theorem ow_T {H : Hp} {p q : Addr} {vs : List V} {st ds : List PyData} (h : Ow H ((V.ref p :: vs).map some) (mkA true st ds) q) : q = p := by
  obtain ⟨i, s, v, h1, h2, h3⟩ := h
  rcases mkA_t h1 with ⟨rfl, e1⟩ | ⟨_, _, _, e1, _⟩
  · subst e1
    have h2' : some (some (V.ref p)) = some (some v) := h2
    cases h2'
    cases h3
    rfl
  · subst e1
    exact h3.elim
theorem stp_callT3 {G H G' H' : Hp} {sg : L2.St} {dl : S} {p : Addr} {vs : List V} {st st' ds : List PyData} {i : Nat} {b : Bool} (re : Rel K G H sg dl) (ei : dl[i]? = some (.own b st)) (hp : sg[i]? = some (some (.ref p)))
    (c : Stp K G H ((V.ref p :: vs).map some) (mkA true st ds) G' H' ((V.ref p :: vs).map some) (mkA true st' ds)) : Stp K G H sg dl G' H' sg (dl.set i (.own b st')) ∧ Kp dl (dl.set i (.own b st')) ∧ ∀ q, H q = none → ¬ Ow H' sg (dl.set i (.own b st')) q := by
  have hi := lt_of_get ei
  have hs : (dl.set i (.own b st'))[i]? = some (.own b st') := List.getElem?_set_self hi
  have na : ∀ a, ¬ Fs H (.own b st) (.ref p) a → ¬ Ow H ((V.ref p :: vs).map some) (mkA true st ds) a := fun a h z => h (by rw [ow_T z]; rfl)
  obtain ⟨p', us, q1, q2, q3, q4⟩ := c.rel.own 0 true st' rfl
  have q1' : some (some (V.ref p)) = some (some (V.ref p')) := q1
  cases q1'
  have st3 : Stp K G H sg dl G' H' sg (dl.set i (.own b st')) := mutG_ok re ei hp rfl ⟨p, us, rfl, q3, q4⟩ (fun a h => .inl h) (fun a h => by cases h; exact q2) c.g c.rel.ex c.rel.nt c.rel.tb (fun a o h1 ht h2 => c.k a o (na a h1) ht h2) (fun a h1 h2 h3 => c.n a (na a h1) h2 h3) c.d (fun x h => by cases h; exact ⟨st, rfl⟩)
  refine ⟨st3, ⟨List.length_set, fun j => ?_⟩, fun q hq z => ?_⟩
  · by_cases hj : j = i
    · subst hj
      rw [ei, hs]
      exact .inl ⟨st', rfl⟩
    · rw [set_ne hj]
      exact (Kp.refl dl).2 j
  · obtain ⟨j, s1, v1, z1, z2, z3⟩ := z
    rcases get_set z1 with ⟨rfl, rfl, _⟩ | ⟨hj, z1⟩
    · rw [hp] at z2
      cases z2
      cases z3
      exact (re.ow (Ow.own ei hp)).2 hq
    · have kp : ∀ a, Fs H s1 v1 a → H' a = H a := fun a ha => by
        obtain ⟨o, ho⟩ := ne_some (re.mo z1 z2 ha).2.2
        rw [ho]
        exact c.k a o (na a fun zz => hj (re.dj j i s1 _ v1 _ a z1 ei z2 hp ha zz)) (re.owt ⟨j, s1, v1, z1, z2, ha⟩ ho) ho
      exact (re.mo z1 z2 (fs_mono kp q z3)).2.2 hq
theorem stp_callT {G H G' H' : Hp} {sg : L2.St} {dl : S} {p : Addr} {vs : List V} {st st' ds : List PyData} {i : Nat} {b : Bool} (re : Rel K G H sg dl) (ei : dl[i]? = some (.own b st)) (hp : sg[i]? = some (some (.ref p)))
    (c : Stp K G H ((V.ref p :: vs).map some) (mkA true st ds) G' H' ((V.ref p :: vs).map some) (mkA true st' ds)) : Stp K G H sg dl G' H' sg (dl.set i (.own b st')) ∧ Kp dl (dl.set i (.own b st')) :=
  let ⟨a, b, _⟩ := stp_callT3 re ei hp c
  ⟨a, b⟩
end
section
variable {X : Cx} {W : WX}
theorem so_call {n : Nat} {g : Fn} {t : TA} {f : S → Out (List Rv)} (sa : SoA X W t f) : SoE X W (tCallS (spD X.K X.mg false n g) (WE W) t) (dCall n g f) := by
  intro G H sg dl Q re h
  refine sa G H sg dl _ re ((post_bind h).imp fun rs d1 G1 H1 s1 k1 h1 vs q => ?_)
  cases es : stbs d1 rs with
  | none => rw [es] at h1; exact h1.elim
  | some y =>
    obtain ⟨ds, d2⟩ := y
    rw [es] at h1
    obtain ⟨G2, s2, k2, z2⟩ := stbs_ok s1.rel q es
    have h2 : Post X W G1 H1 sg d1 (wE X sg H Q) (if ds.length = n then asE (g [] ds) d2 else .bad) := h1
    by_cases hl : ds.length = n
    · rw [if_pos hl] at h2
      refine ⟨by rw [z2.len]; exact hl, G2, [], ds, rel_argsF s2.rel.ex s2.rel.nt s2.rel.tb z2, ?_⟩
      cases ho : g [] ds with
      | bad => rw [ho] at h2; exact h2
      | val d st' =>
        rw [ho] at h2
        intro v G' H' c dv
        have s3 := stp_callF s2.rel c
        exact h2 G' H' (s2.trans s3) k2 v dv
      | new x st' =>
        rw [ho] at h2
        intro v G' H' c q
        obtain ⟨s3, w3⟩ := stp_callF3 s2.rel c
        exact h2 G' H' (s2.trans s3) k2 v ((rv_call q fun p hp z => (s2.rel.ow (w3 p z)).2 hp).from s1.d)
      | ex c st' =>
        rw [ho] at h2
        intro C G' H' hc cc
        have s3 := stp_callF s2.rel cc
        exact h2 C G' H' hc (s2.trans s3)
    · rw [if_neg hl] at h2; exact h2.elim
theorem se_call {x : Str} {n : Nat} {g : Fn} {e : Expr} {es : List Expr} {p pos : Pos} {f : S → Out (List Rv)} (tk : Takes X W) (F : FnD X x false n g) (hg : Gl X x) (ha : SA X W (e :: es) f) (hdb : (x == ("__debug__" : Str)) = false := by decide)
    (he : starEach (e :: es) X.env = (false, eval e X.env) :: starEach es X.env := by rfl) (hpl : (backTo pos (starEach es X.env)).any (·.1) = false := by rfl) : SE X W (.Call (.Name x p) (e :: es) [] pos) (dCall n g f) := by
  obtain ⟨t, pa, sa⟩ := ha
  obtain ⟨k, ff, fd, ps, F, hr, hm, hk, hb⟩ := F
  exact ⟨_, pe_callG F hr hg hm hk hb (fun σ => passAt tk σ) pa hdb he hpl, so_call sa⟩
theorem se_callI (i : Nat) {x y : Str} {n : Nat} {g : Fn} {es : List Expr} {p py pos : Pos} {f : S → Out (List Rv)} (tk : Takes X W) (F : FnD X x true n g) (hg : Gl X x) (ha : SA X W es f) (hN : X.N[i]? = some y := by rfl) (hv : Vis X.env.scope y := by first | exact Or.inl rfl | exact Or.inr (Or.inl rfl) | exact Or.inr (Or.inr rfl)) (hd : (y == ("__debug__" : Str)) = false := by decide)
    (hcd : (y == ("__classdict__" : Str)) = false := by decide) (hdb : (x == ("__debug__" : Str)) = false := by decide)
    (he : starEach (.Name y py :: es) X.env = (false, eval (.Name y py) X.env) :: starEach es X.env := by rfl) (hpl : (backTo pos (starEach es X.env)).any (·.1) = false := by rfl) : SE X W (.Call (.Name x p) (.Name y py :: es) [] pos) (dCallI n g i f) := by
  obtain ⟨t, pa, sa⟩ := ha
  obtain ⟨k, ff, fd, ps, F, hr, hm, hk, hb⟩ := F
  refine ⟨_, pe_callG F hr hg hm hk hb (fun σ => passAt tk σ) (pa_cons (pe_var hN hv hd hcd) pa he) hdb he hpl, fun G H sg dl Q re h => ?_⟩
  unfold dCallI at h
  cases hi : isOwn dl i with
  | false => rw [hi] at h; exact h.elim
  | true =>
    rw [hi] at h
    obtain ⟨b0, st0, ei⟩ := isOwn_ok hi
    obtain ⟨pp, us0, q1, _, _, _⟩ := re.own i b0 st0 ei
    refine ⟨.ref pp, q1, ?_⟩
    refine sa G H sg dl _ re ((post_bind h).imp fun rs d1 G1 H1 s1 k1 h1 vs q => ?_)
    cases es : stbs d1 rs with
    | none => rw [es] at h1; exact h1.elim
    | some y =>
      obtain ⟨ds, d2⟩ := y
      rw [es] at h1
      obtain ⟨G2, s2, k2, z2⟩ := stbs_ok s1.rel q es
      have h2 : Post X W G1 H1 sg d1 (wE X sg H Q) (match d2[i]? with
        | some (.own b st) => if ds.length + 1 = n then asE (g st ds) (d2.set i (.own b (stF (g st ds)))) else .bad
        | _ => .bad) := h1
      cases e2 : d2[i]? with
      | none => rw [e2] at h2; exact h2.elim
      | some sl =>
        rw [e2] at h2
        cases sl with
        | no => exact h2.elim
        | val _ => exact h2.elim
        | big _ => exact h2.elim
        | own b st =>
          have h3 : Post X W G1 H1 sg d1 (wE X sg H Q) (if ds.length + 1 = n then asE (g st ds) (d2.set i (.own b (stF (g st ds)))) else .bad) := h2
          by_cases hl : ds.length + 1 = n
          · rw [if_pos hl] at h3
            obtain ⟨p2, us, w1, w2, w3, w4⟩ := s2.rel.own i b st e2
            rw [q1] at w1
            cases w1
            refine ⟨by rw [List.length_cons, z2.len]; exact hl, G2, st, ds, rel_argsT s2.rel.ex s2.rel.nt s2.rel.tb rfl w2 w3 w4 z2, ?_⟩
            cases ho : g st ds with
            | bad => rw [ho] at h3; exact h3
            | val d st' =>
              rw [ho] at h3
              intro v G' H' c dv
              obtain ⟨s3, k3⟩ := stp_callT s2.rel e2 q1 c
              exact h3 G' H' (s2.trans s3) (k2.trans k3) v dv
            | new x st' =>
              rw [ho] at h3
              intro v G' H' c q
              obtain ⟨s3, k3, w3⟩ := stp_callT3 s2.rel e2 q1 c
              exact h3 G' H' (s2.trans s3) (k2.trans k3) v ((rv_call q w3).from s1.d)
            | ex c st' =>
              rw [ho] at h3
              intro C G' H' hc cc
              obtain ⟨s3, k3⟩ := stp_callT s2.rel e2 q1 cc
              exact h3 C G' H' hc (s2.trans s3)
          · rw [if_neg hl] at h3; exact h3.elim
end
def stO (io : Bool) (dl : S) : Option (List PyData) := if io then match dl[(0 : Nat)]? with
  | some (.own true st) => some st
  | _ => none
  else some []
def retF (r : Rv) (dl : S) (st : List PyData) : Fo := match r with
  | .val d => .val d st
  | .new ds => .new ds st
  | .loc i => match dl[i]? with
    | some (.val d) => .val d st
    | some (.own false ds) => .new ds st
    | _ => .bad
def finF (io : Bool) : Fl → Fo
  | .ret r dl => match stO io dl with
    | some st => retF r dl st
    | none => .bad
  | .nx dl => match stO io dl with
    | some st => .val .none st
    | none => .bad
  | .ex c dl => match stO io dl with
    | some st => .ex c st
    | none => .bad
  | _ => .bad
def runF (io : Bool) (m n : Nat) (fb : S → Fl) : Fn := fun st ds => finF io (fb (mkA io st ds ++ List.replicate (n - m) Sl.no))
section
variable {K : PySem.W.Frag}
theorem get_app {A : Type} {l : List A} {n : Nat} {a b : A} {j : Nat} (h : (l ++ List.replicate n a)[j]? = some b) : l[j]? = some b ∨ b = a := by
  by_cases hj : j < l.length
  · rw [List.getElem?_append_left hj] at h
    exact .inl h
  · rw [List.getElem?_append_right (by omega)] at h
    have := List.mem_of_getElem? h
    exact .inr (List.eq_of_mem_replicate this)
theorem app_get {A : Type} {l : List A} {n : Nat} {a b : A} {j : Nat} (h : l[j]? = some b) : (l ++ List.replicate n a)[j]? = some b := by
  rw [List.getElem?_append_left (lt_of_get h)]
  exact h
theorem rel_start {G H : Hp} {sg : L2.St} {dl : S} {n n' : Nat} (re : Rel K G H sg dl) (hn : n = n') : Rel K G H (sg ++ List.replicate n none) (dl ++ List.replicate n' Sl.no) := by
  subst hn
  have key : ∀ {i : Nat} {s : Sl}, (dl ++ List.replicate n Sl.no)[i]? = some s → s ≠ .no → dl[i]? = some s := fun h hn => by
    rcases get_app h with z | z
    · exact z
    · exact absurd z hn
  have sgk : ∀ {i : Nat} {s : Sl} {v : Option V}, dl[i]? = some s → (sg ++ List.replicate n none)[i]? = some v → sg[i]? = some v := fun {i s v} h1 h2 => by
    have hl := lt_of_get h1
    rw [← re.len] at hl
    rw [List.getElem?_append_left hl] at h2
    exact h2
  refine ⟨by rw [List.length_append, List.length_append, List.length_replicate, List.length_replicate, re.len], re.ex, re.nt, re.tb, fun i d h => ?_, fun i s h hm => ?_, fun i j s s' v v' p h1 h2 h3 h4 h5 h6 => ?_⟩
  · obtain ⟨v, q1, q2⟩ := re.val i d (key h fun z => nomatch z)
    exact ⟨v, app_get q1, q2⟩
  · obtain ⟨v, q1, q2⟩ := re.mn i s (key h (mine_no hm)) hm
    exact ⟨v, app_get q1, q2⟩
  · have h1' := key h1 (fs_no h5)
    have h2' := key h2 (fs_no h6)
    exact re.dj i j s s' v v' p h1' h2' (sgk h1' h3) (sgk h2' h4) h5 h6
theorem ow_start {H : Hp} {sg : L2.St} {dl : S} {n n' : Nat} {p : Addr} (hl : sg.length = dl.length) : Ow H (sg ++ List.replicate n none) (dl ++ List.replicate n' Sl.no) p ↔ Ow H sg dl p := by
  constructor
  · rintro ⟨i, s, v, h1, h2, h3⟩
    rcases get_app h1 with z | z
    · have hi := lt_of_get z
      rw [← hl] at hi
      rw [List.getElem?_append_left hi] at h2
      exact ⟨i, s, v, z, h2, h3⟩
    · subst z
      exact h3.elim
  · rintro ⟨i, b, ds, h1, h2, h3⟩
    exact ⟨i, b, ds, app_get h1, app_get h2, h3⟩
theorem ow_mk {H H' : Hp} {sg : L2.St} {io : Bool} {st st' ds : List PyData} {p : Addr} (h : Ow H' sg (mkA io st' ds) p) : Ow H sg (mkA io st ds) p := by
  obtain ⟨j, s, v, h1, h2, h3⟩ := h
  cases io with
  | false =>
    obtain ⟨d', e1, e2⟩ := mkA_f h1
    subst e1
    exact h3.elim
  | true =>
    rcases mkA_t h1 with ⟨rfl, e1⟩ | ⟨_, _, _, e1, _⟩
    · subst e1
      exact ⟨0, .own true st, v, rfl, h2, h3⟩
    · subst e1
      exact h3.elim
theorem stp_out {G H G' H' : Hp} {vs : List V} {io : Bool} {st st' ds : List PyData} {n : Nat} {sg' : L2.St} {dl' : S} (re : Rel K G H (vs.map some) (mkA io st ds)) (s : Stp K G H (vs.map some ++ List.replicate n none) (mkA io st ds ++ List.replicate n Sl.no) G' H' sg' dl') (ho : stO io dl' = some st') :
    Stp K G H (vs.map some) (mkA io st ds) G' H' (vs.map some) (mkA io st' ds) := by
  have os : ∀ p, Ow H (vs.map some ++ List.replicate n none) (mkA io st ds ++ List.replicate n Sl.no) p ↔ Ow H (vs.map some) (mkA io st ds) p := fun p => ow_start re.len
  cases io with
  | false =>
    refine ⟨rel_argsF s.rel.ex s.rel.nt s.rel.tb ?_, s.g, fun a o h1 ht h2 => s.k a o (fun z => h1 ((os a).mp z)) ht h2, fun a h1 h2 h3 => s.n a (fun z => h1 ((os a).mp z)) h2 h3, fun p h => (ow_F h).elim, s.d, fun j x h => ?_⟩
    · have z : DaAll K G vs ds := by
        have hl : vs.length = ds.length := by
          have := re.len
          rw [List.length_map] at this
          exact this.trans (List.length_map ..)
        have go : ∀ (us : List V) (es : List PyData), us.length = es.length → (∀ (i : Nat) (d : PyData), es[i]? = some d → ∃ v, us[i]? = some v ∧ Da K G v d) → DaAll K G us es := by
          intro us
          induction us with
          | nil =>
            intro es hl _
            cases es with
            | nil => exact .nil
            | cons _ _ => cases hl
          | cons u us ih =>
            intro es hl h
            cases es with
            | nil => cases hl
            | cons e es =>
              obtain ⟨v, q1, q2⟩ := h 0 e rfl
              cases q1
              exact .cons q2 (ih es (Nat.succ.inj hl) fun i d hd => by simpa using h (i + 1) d (by simpa using hd))
        refine go vs ds hl fun i d hd => ?_
        obtain ⟨v, q1, q2⟩ := re.val i d (by show (ds.map Sl.val)[i]? = _; rw [List.getElem?_map, hd]; rfl)
        rw [List.getElem?_map] at q1
        cases hv : vs[i]? with
        | none => rw [hv] at q1; cases q1
        | some w => rw [hv] at q1; cases q1; exact ⟨v, rfl, q2⟩
      exact z.ex s.g
    · obtain ⟨d', e1, e2⟩ := mkA_f h
      cases e1
  | true =>
    have ho' : (match dl'[(0 : Nat)]? with
      | some (.own true st) => some st
      | _ => none) = some st' := ho
    have h0 : dl'[(0 : Nat)]? = some (.own true st') := by
      split at ho'
      · cases ho'; assumption
      · cases ho'
    obtain ⟨p', us', q1, q2, q3, q4⟩ := s.rel.own 0 true st' h0
    obtain ⟨_, e0⟩ := s.io 0 st' h0
    obtain ⟨p, us, r1, r2, r3, r4⟩ := re.own 0 true st rfl
    have ep : p = p' := by
      have a1 : (vs.map some ++ List.replicate n none)[0]? = some (some (V.ref p)) := app_get r1
      rw [e0, a1] at q1
      cases q1
      rfl
    subst ep
    have op : Ow H (vs.map some) (mkA true st ds) p := Ow.own (i := 0) (b := true) (ds := st) rfl r1
    refine ⟨⟨?_, s.rel.ex, s.rel.nt, s.rel.tb, fun j d h => ?_, fun j s1 h hm => ?_, fun i j s1 s2 v1 v2 q h1 h2 _ _ h5 h6 => ?_⟩, s.g, fun a o h1 ht h2 => s.k a o (fun z => h1 ((os a).mp z)) ht h2, fun a h1 h2 h3 => s.n a (fun z => h1 ((os a).mp z)) h2 h3, fun q h => ?_, s.d, fun j x h => ?_⟩
    · have := re.len
      exact this
    · rcases mkA_t h with ⟨_, e1⟩ | ⟨i, d', rfl, e1, e2⟩
      · cases e1
      · cases e1
        obtain ⟨v, w1, w2⟩ := re.val (i + 1) d (by show (Sl.own true st :: ds.map Sl.val)[i + 1]? = _; simp [e2])
        exact ⟨v, w1, w2.ex s.g⟩
    · rcases mkA_t h with ⟨rfl, e1⟩ | ⟨i, d', rfl, e1, e2⟩
      · subst e1
        exact ⟨.ref p, r1, ⟨p, us', rfl, q3, q4⟩, fun a ha => by cases ha; exact q2⟩
      · subst e1
        cases hm
    · rcases mkA_t h1 with ⟨rfl, _⟩ | ⟨_, _, _, e1, _⟩
      · rcases mkA_t h2 with ⟨rfl, _⟩ | ⟨_, _, _, e1, _⟩
        · rfl
        · subst e1
          exact h6.elim
      · subst e1
        exact h5.elim
    · exact .inl (ow_mk h)
    · rcases mkA_t h with ⟨rfl, e1⟩ | ⟨_, _, _, e1, _⟩
      · exact ⟨⟨st, rfl⟩, rfl⟩
      · cases e1
end
section
variable {P : Program} {w : World} {K : PySem.W.Frag} {mg : Str → Option Value} {base : Heap}
theorem fn_defC {x qual : Str} {st : Stmt} {f : Addr} {fd : FuncData} {N ps : List Str} {k : Nat} (F : Fun K x qual st f fd) (Sc : FnScope N ps (defScope st)) (io : Bool) {fb : S → Fl}
    (hbody : ∀ (cdv : Value), fd.code = cdv → ∀ (A : Around) (outer : List Env) (s : Shared) (H : Hp) (E : XK), Room k (A.deeper (PyProof.Rows.envOfC qual (defScope st) s.heap.objs.size f cdv)) →
      SB (cxOf (L2.CX P w) P w K mg base N qual (defScope st) f cdv A outer s H E) (fun cls d _ H => E cls d H) (defBody st) fb) :
    FnOk P w K mg base (L2.CX P w) (k + 1) f fd ps (spD K mg io ps.length (runF io ps.length N.length fb)) := by
  refine fun_okX F Sc (fun vs H Q E h => h.1) fun cdv hcd A outer s H vs Q E hr h => ?_
  obtain ⟨t, p, so⟩ := hbody cdv hcd A outer s H E hr
  refine ⟨t, p, ?_⟩
  obtain ⟨hn, G, ss, ds, re, hp⟩ := h
  have hlen : (mkA io ss ds).length = vs.length := by rw [← re.len, List.length_map]
  unfold L2.start
  rw [hn]
  have re0 := rel_start (n := N.length - ps.length) re rfl
  refine so G H _ _ _ re0 ?_
  unfold runF at hp
  generalize hfl : fb (mkA io ss ds ++ List.replicate (N.length - ps.length) Sl.no) = fl at hp ⊢
  cases fl with
  | bad => exact hp
  | brk _ => exact hp.elim
  | cnt _ => exact hp.elim
  | nx dl' =>
    intro G' H' sg' s'
    have hp' : PostC K mg E io G H vs ss ds Q (match stO io dl' with
      | some st => .val .none st
      | none => .bad) := hp
    cases ho : stO io dl' with
    | none => rw [ho] at hp'; exact hp'.elim
    | some st' =>
      rw [ho] at hp'
      exact hp' .non G' H' (stp_out re s' ho) .non
  | ex c dl' =>
    intro C G' H' sg' hc s'
    have hp' : PostC K mg E io G H vs ss ds Q (match stO io dl' with
      | some st => .ex c st
      | none => .bad) := hp
    cases ho : stO io dl' with
    | none => rw [ho] at hp'; exact hp'.elim
    | some st' =>
      rw [ho] at hp'
      exact hp' C G' H' hc (stp_out re s' ho)
  | ret r dl' =>
    intro v G' H' sg' s' q
    have hp' : PostC K mg E io G H vs ss ds Q (match stO io dl' with
      | some st => retF r dl' st
      | none => .bad) := hp
    cases ho : stO io dl' with
    | none => rw [ho] at hp'; exact hp'.elim
    | some st' =>
      rw [ho] at hp'
      have so' := stp_out re s' ho
      have now : ∀ p, H p = none → ¬ Ow H' (vs.map some) (mkA io st' ds) p := fun p hp z => (re.ow (ow_mk z)).2 hp
      cases r with
      | val d => exact hp' v G' H' so' q
      | new x => exact hp' v G' H' so' (rv_call q now)
      | loc i =>
        have hp2 : PostC K mg E io G H vs ss ds Q (match dl'[i]? with
          | some (.val d) => .val d st'
          | some (.own false ds) => .new ds st'
          | _ => .bad) := hp'
        obtain ⟨qi, _⟩ := q
        cases hs : dl'[i]? with
        | none => rw [hs] at hp2; exact hp2.elim
        | some sl =>
          rw [hs] at hp2
          cases sl with
          | no => exact hp2.elim
          | big _ => exact hp2.elim
          | val d =>
            obtain ⟨v', z1, z2⟩ := s'.rel.val i d hs
            rw [qi] at z1
            cases z1
            exact hp2 v G' H' so' z2
          | own b x =>
            cases b with
            | true => exact hp2.elim
            | false =>
              obtain ⟨p1, us, z1, z2, z3, z4⟩ := s'.rel.own i false x hs
              rw [qi] at z1
              cases z1
              have h0 : H p1 = none := by
                rcases s'.w p1 (Ow.own hs qi) with y | y
                · exfalso
                  have y' := (ow_start re.len).mp y
                  cases io with
                  | false => exact ow_F y'
                  | true =>
                    obtain ⟨j, b', x', y1, y2, y3⟩ := y'
                    rcases mkA_t y1 with ⟨rfl, e1⟩ | ⟨_, _, _, e1, _⟩
                    · subst e1
                      cases y3
                      have ho' : (match dl'[(0 : Nat)]? with
                        | some (.own true st) => some st
                        | _ => none) = some st' := ho
                      have h0 : dl'[(0 : Nat)]? = some (.own true st') := by
                        split at ho'
                        · cases ho'; assumption
                        · cases ho'
                      obtain ⟨_, e0⟩ := s'.io 0 st' h0
                      have e3 : sg'[(0 : Nat)]? = some (some (V.ref p1)) := by rw [e0]; exact app_get y2
                      have e4 := s'.rel.inj i 0 false true x st' p1 hs h0 qi e3
                      subst e4
                      rw [h0] at hs
                      cases hs
                    · subst e1
                      exact y3
                · exact y
              exact hp2 (.ref p1) G' H' so' ⟨p1, us, rfl, h0, z3, z2, now p1 h0, z4⟩
theorem fn_def {x qual : Str} {st : Stmt} {f : Addr} {fd : FuncData} {N ps : List Str} {k : Nat} (F : Fun K x qual st f fd) (Sc : FnScope N ps (defScope st)) (io : Bool) {fb : S → Fl}
    (hbody : ∀ (cdv : Value) (A : Around) (outer : List Env) (s : Shared) (H : Hp) (E : XK), Room k (A.deeper (PyProof.Rows.envOfC qual (defScope st) s.heap.objs.size f cdv)) →
      SB (cxOf (L2.CX P w) P w K mg base N qual (defScope st) f cdv A outer s H E) (fun cls d _ H => E cls d H) (defBody st) fb) :
    FnOk P w K mg base (L2.CX P w) (k + 1) f fd ps (spD K mg io ps.length (runF io ps.length N.length fb)) := fn_defC F Sc io fun cdv _ => hbody cdv
end
end DL
namespace DL
open PySem L2
section
variable {X : Cx} {W : WX} {K : PySem.W.Frag}
def oRep : PyData → PyData → Option Rv
  | .list ds, .int k => if k < 100000 ∧ -100000 ≤ k ∧ ds.length * k.toNat ≤ 100000 then some (.new (List.replicate k.toNat ds).flatten) else none
  | .tuple ds, .int k => if ds ≠ [] ∧ 2 ≤ k ∧ k ≤ 1000 ∧ ds.length ≤ 1000 then some (.val (.tuple (List.replicate k.toNat ds).flatten)) else none
  | _, _ => none
def oRevL : PyData → Option Rv
  | .list ds => some (.new ds.reverse)
  | _ => none
def dIt2 (g : List PyData → List PyData → List PyData) (f : S → Out (List Rv)) : S → Out (List PyData) := fun dl => (f dl).bind fun rs d1 => match stbs d1 rs with
  | some ([.list a, .list b], d2) => .ok (g a b) d2
  | _ => .bad
def dIt1 (g : List PyData → List PyData) (f : S → Out (List Rv)) : S → Out (List PyData) := fun dl => (f dl).bind fun rs d1 => match stbs d1 rs with
  | some ([.list a], d2) => .ok (g a) d2
  | _ => .bad
def zipD (a b : List PyData) : List PyData := (a.zip b).map fun p => .tuple [p.1, p.2]
def enumD (a : List PyData) : List PyData := a.mapIdx fun i d => .tuple [.int (i : Nat), d]
structure DefOk (P : Program) (w : World) (K : PySem.W.Frag) (mg : Str → Option Value) (base : Heap) (x : Str) (k : Nat) (io : Bool) (n : Nat) (g : Fn) : Prop where
  ex : ∃ f fd ps, FnOk P w K mg base (L2.CX P w) k f fd ps (spD K mg io n g) ∧ mg x = some (.ref f) ∧ PySem.W.keepIn K (.ref f) = true ∧ Binds K fd ps []
theorem DefOk.fnd {x : Str} {k j : Nat} {io : Bool} {n : Nat} {g : Fn} (h : DefOk X.prog X.w X.K X.mg X.base x k io n g) (hr : Room j X.A) (hk : k ≤ j := by decide) : FnD X x io n g := by
  obtain ⟨f, fd, ps, h1, h2, h3, h4⟩ := h.ex
  exact ⟨k, f, fd, ps, h1, hr.mono hk, h2, h3, h4⟩
end
theorem se_gi {X : Cx} {W : WX} {x : Str} {i : Int} {pos : Pos} (hg : Gl X x) (h : ∃ t, X.mg x = some (.int i t)) (hd : (x == ("__debug__" : Str)) = false := by decide) : SE X W (.Name x pos) (dC (.int i)) := by
  obtain ⟨t, hm⟩ := h
  exact se_gint hg hm hd
def spLaw (K : PySem.W.Frag) : Sp := fun vs H Q _ => ∃ (a : Addr) (ns : List Int), vs = [.ref a] ∧ SqL K H a (ns.map V.int) ∧ ns.length ≤ 63 ∧ Tb K H ∧ ∀ H', Q (.bl true) H'
theorem law_imp {P : Program} {w : World} {K : PySem.W.Frag} {mg : Str → Option Value} {base : Heap} {CX : CXT} {k : Nat} {f : Addr} {fd : FuncData} {ps : List Str} {g : Fn} (F : FnOk P w K mg base CX k f fd ps (spD K mg false 1 g))
    (hg : ∀ ns : List Int, ns.length ≤ 63 → ∃ st, g [] [.list (ns.map PyData.int)] = .val (.bool true) st) : FnOk P w K mg base CX k f fd ps (spLaw K) := by
  refine F.imp fun vs H Q E h => ?_
  obtain ⟨a, ns, rfl, hS, hl, ht, q⟩ := h
  have hS' : SqL K (offT H) a (ns.map V.int) := by
    rcases hS with (z | ⟨o, z⟩) | z
    · exact .inl (.inl (offT_of z rfl))
    · exact .inl (.inr ⟨o, offT_of z rfl⟩)
    · exact .inr z
  refine ⟨rfl, offT H, [], [.list (ns.map PyData.int)], rel_argsF (fun b o z => (offT_in z).1) (fun b o z => (offT_in z).2) ht (.cons (.lst hS' (DaAll.ofInts ns)) .nil), ?_⟩
  obtain ⟨st, e⟩ := hg ns hl
  rw [e]
  intro v G' H' _ dv
  cases dv
  exact q H'
theorem tb_none {K : PySem.W.Frag} {H : Hp} (h1 : PySem.W.nsIn K mainGlobals "longest" = some none) (h2 : PySem.W.nsIn K mainGlobals "hardest" = some none) : Tb K H := fun x hx c P h => by
  unfold PySem.W.tabIn at h
  rcases List.mem_cons.mp hx with rfl | hx
  · rw [h1] at h; cases h
  · rcases List.mem_cons.mp hx with rfl | hx
    · rw [h2] at h; cases h
    · cases hx
def LawE (P : Program) (w : World) (K : PySem.W.Frag) (mg : Str → Option Value) (h : Heap) (k : Nat) (fa : Addr) (x : Str) : Prop :=
  ∃ (fd : FuncData) (cs : List (Addr × Addr)), (∀ p ∈ cs, h.get? p.2 = some { cls := .none, data := .fields #[] } ∧ K.lookup p.2 = none ∧ PySem.W.CodeHd h p.1 p.2) ∧ (∀ (s : Shared) (u : Value), BindsTo s fd ⟨[u], []⟩ [(x, u)]) ∧
    (∀ (H : Hp) (a : Addr) (ns : List Int), ns.length ≤ 63 → (∀ p ∈ cs, H p.2 = some (.tbl #[])) → (∀ b ps, H b = some (.tbl ps) → ∃ p ∈ cs, p.2 = b) → SqL K H a (ns.map V.int) → spLaw K [.ref a] H (fun v _ => v = .bl true) fun _ _ _ => False) ∧
    ∀ base : Heap, K.In base → base.Ns mainGlobals mg → (∀ p ∈ cs, LamX.TabB base mg p.1 p.2) → FnOk P w K mg base (L2.CX P w) k fa fd [x] (spLaw K)
theorem lawE_none {P : Program} {w : World} {K : PySem.W.Frag} {mg : Str → Option Value} {h : Heap} {k : Nat} {fa : Addr} {x : Str} {fd : FuncData} (h1 : PySem.W.nsIn K mainGlobals "longest" = some none) (h2 : PySem.W.nsIn K mainGlobals "hardest" = some none)
    (hb : ∀ (s : Shared) (u : Value), BindsTo s fd ⟨[u], []⟩ [(x, u)]) (F : ∀ base : Heap, K.In base → base.Ns mainGlobals mg → FnOk P w K mg base (L2.CX P w) k fa fd [x] (spLaw K)) : LawE P w K mg h k fa x :=
  ⟨fd, [], (fun _ hp => nomatch hp), hb, fun _ a ns hl _ _ hS => ⟨a, ns, rfl, hS, hl, tb_none h1 h2, fun _ => rfl⟩, fun base b1 b2 _ => F base b1 b2⟩
theorem cx_gone {P : Program} {w : World} {H : Hp} {s : Shared} {e : Value} {s' : Shared} (h : L2.CX P w [] H s (fun _ _ _ => False) e s') : False := by
  obtain ⟨_, _, _, _, _, _, _, _, _, _, _, _, z⟩ := h
  exact z
end DL
namespace DL
open PySem L2
def slSc : Sl → Bool
  | .own _ ds => ds.all isSc
  | .big _ => false
  | _ => true
end DL
namespace DL
open PySem L2
section
variable {X : Cx} {W : WX} {K : PySem.W.Frag}
def oLR : PyData → Option Rv
  | .int n => if n ≤ 100000 ∧ -100000 ≤ n then some (.new (rngD 0 n.toNat)) else none
  | _ => none
def dItZ (f : S → Out (List Rv)) : S → Out (List PyData) := fun dl => (f dl).bind fun rs d1 => match stbs d1 rs with
  | some ([.list a, .list b], d2) => .ok (zipD a b) d2
  | some ([.tuple a, .tuple b], d2) => .ok (zipD a b) d2
  | _ => .bad
end
end DL
namespace DL
open PySem L2
def compD2 (vs vs1 : List Nat) (put : S → PyData → Option S) (c : S → Out Bool) (it1 : S → Out (List PyData)) (pt1 : S → PyData → Option S) (c1 : S → Out Bool) (f : S → Out Rv) : List PyData → S → List PyData → Option (List PyData × S)
  | [], dn, acc => some (acc, dn)
  | d :: ds, dn, acc => match put dn d with
    | none => none
    | some d1 => match c d1 with
      | .ok true d2 => match it1 d2 with
        | .ok ds1 d3 => match compD vs1 pt1 c1 f ds1 (wipeD d3 vs1) acc with
          | some (acc', d4) => compD2 vs vs1 put c it1 pt1 c1 f ds (wipeD d4 vs) acc'
          | none => none
        | _ => none
      | .ok false d2 => compD2 vs vs1 put c it1 pt1 c1 f ds (wipeD d2 vs) acc
      | _ => none
def dComp2 (it : S → Out (List PyData)) (vs vs1 : List Nat) (put : S → PyData → Option S) (c : S → Out Bool) (it1 : S → Out (List PyData)) (pt1 : S → PyData → Option S) (c1 : S → Out Bool) (f : S → Out Rv) : S → Out Rv := fun dl => (it dl).bind fun ds d1 => endC d1 vs (compD2 vs vs1 put c it1 pt1 c1 f ds (wipeD d1 vs) [])
section
variable {X : Cx} {W : WX}
end
end DL
namespace DL
open PySem L2 PyProof.Rows StX
section
variable {X : Cx} {W : WX} {K : PySem.W.Frag}
def oTR : PyData → Option Rv
  | .int n => if n ≤ 100000 ∧ -100000 ≤ n then some (.val (.tuple (rngD 0 n.toNat))) else none
  | _ => none
def dStar (f : S → Out Rv) (g : S → Out (List Rv)) : S → Out (List Rv) := fun dl => (f dl).bind fun r d1 => match (rd d1 r).bind items with
  | some ds => (g d1).bind fun rs d2 => .ok (ds.map Rv.val ++ rs) d2
  | none => .bad
end
end DL
namespace DL
open PySem PySem.Spec L2 PyProof.Rows
section
variable {X : Cx} {W : WX} {K : PySem.W.Frag}
def oRep1 : PyData → PyData → Option Rv
  | .tuple ds, .int k => if ds ≠ [] ∧ k = 1 then some (.val (.tuple ds)) else none
  | _, _ => none
def oMulAny (a b : PyData) : Option Rv := match a with
  | .int _ => oMul a b
  | _ => match oRep1 a b with
    | some r => some r
    | none => oRep a b
end
end DL
namespace DL
open PySem L2
def truO (r : Rv) (g : S → Out Rv) (d1 : S) : Option PyData → Out Rv
  | some .none => g d1
  | some (.int i) => if i != 0 then .ok (.val (.int i)) d1 else g d1
  | _ => .bad
def dOrT (f g : S → Out Rv) : S → Out Rv := fun dl => (f dl).bind fun r d1 => truO r g d1 (rd d1 r)
section
variable {X : Cx} {W : WX} {a b : Expr} {rest : List Expr} {pos : Pos} {f g : S → Out Rv}
end
end DL
namespace DL
open PySem L2
def unpLO (is : List Nat) (d1 : S) : Option PyData → Fl
  | some (.list ds) => if ds.length = is.length then .nx (setAll d1 is ds) else .bad
  | _ => .bad
def dUnpL (is : List Nat) (f : S → Out Rv) : S → Fl := fun dl => (f dl).fl fun r d1 => unpLO is d1 (rd d1 r)
section
variable {X : Cx} {W : WX}
end
end DL
namespace DL
open PySem L2 PyProof.Rows
section
variable {X : Cx} {W : WX} {K : PySem.W.Frag}
def itEO : Option (List PyData × S) → Out (List PyData)
  | some ([.list a], d2) => .ok (enumD a) d2
  | some ([.tuple a], d2) => .ok (enumD a) d2
  | _ => .bad
def dItE (f : S → Out (List Rv)) : S → Out (List PyData) := fun dl => (f dl).bind fun rs d1 => itEO (stbs d1 rs)
end
end DL
namespace DL
open PySem L2
def dCallT (n : Nat) (g : Fn) (f0 : S → Out Rv) (fr : S → Out (List Rv)) : S → Out Rv := fun dl => match f0 dl with
  | .ok (.new st) d1 => match fr d1 with
    | .ok rs d2 => match stbs d2 rs with
      | some (ds, d3) => if ds.length + 1 = n then asE (g st ds) d3 else .bad
      | none => .bad
    | _ => .bad
  | _ => .bad
section
variable {X : Cx} {W : WX} {K : PySem.W.Frag}
end
end DL
namespace DL
open PySem L2
def bStr : List PyData → Option Rv
  | [.int i] => if i.natAbs < 1000000 then some (.val (.str (toString i))) else none
  | _ => none
section
variable {K : PySem.W.Frag}
theorem cs_str : CaS K (fun xs H Q => ∃ i, xs = [.int i] ∧ i.natAbs.log2 < 1920 ∧ Q (.str (toString i)) H) bStr := by
  intro G H vs ds rv e t h Q q
  unfold bStr at h
  split at h
  · rename_i i
    obtain ⟨v, rfl, t'⟩ := tr1 t
    split at h
    · cases h
      refine ⟨_, by rw [t'.int], ?_, q.val e (.str _)⟩
      by_cases h0 : i.natAbs = 0
      · rw [h0]; decide
      · rw [Nat.log2_lt h0]
        refine Nat.lt_of_lt_of_le (show i.natAbs < 2 ^ 20 by omega) (Nat.pow_le_pow_right (by decide) (by decide))
    · cases h
  · cases h
end
end DL
namespace DL
open PySem PySem.Spec L2 PyProof.Rows
abbrev prI (p : Int × Int) : PyData := .tuple [.int p.1, .int p.2]
section
variable {X : Cx} {W : WX} {K : PySem.W.Frag}
open Classical in
def allP : List PyData → Option (List (Int × Int))
  | [] => some []
  | .tuple [.int i, .int j] :: ds => (allP ds).map fun ps => (i, j) :: ps
  | _ => none
def sortP (ps : List (Int × Int)) : List (Int × Int) := ps.mergeSort (fun a b => !SrtO.lexB b a)
def bSortP : List PyData → Option Rv
  | [.list ds] => (allP ds).bind fun ps => some (.new ((sortP ps).map prI))
  | _ => none
end
end DL
namespace DL
open PySem L2
section
variable {A B : Type}
@[simp] theorem bind_ok (a : A) (dl : S) (k : A → S → Out B) : (Out.ok a dl).bind k = k a dl := rfl
@[simp] theorem bind_ex (c : Str) (dl : S) (k : A → S → Out B) : (Out.ex c dl : Out A).bind k = .ex c dl := rfl
@[simp] theorem bind_bad (k : A → S → Out B) : (Out.bad : Out A).bind k = .bad := rfl
@[simp] theorem fl_ok (a : A) (dl : S) (k : A → S → Fl) : (Out.ok a dl).fl k = k a dl := rfl
@[simp] theorem fl_bad (k : A → S → Fl) : (Out.bad : Out A).fl k = .bad := rfl
end
@[simp] theorem ev_var (i : Nat) (dl : S) : dVar i dl = (match dl[i]? with
  | some (.val d) => .ok (.val d) dl
  | some (.own _ _) => .ok (.loc i) dl
  | _ => .bad) := rfl
@[simp] theorem ev_c (d : PyData) (dl : S) : dC d dl = .ok (.val d) dl := rfl
@[simp] theorem ev_1 (op : PyData → Option Rv) (f : S → Out Rv) (dl : S) : d1 op f dl = (f dl).bind fun r1 d1 => fin (o1 op (rd d1 r1)) d1 := rfl
@[simp] theorem ev_2 (op : PyData → PyData → Option Rv) (f g : S → Out Rv) (dl : S) : d2 op f g dl = (f dl).bind fun r1 d1 => (g d1).bind fun r2 d2 => fin (o2 op (rd d2 r1) (rd d2 r2)) d2 := rfl
@[simp] theorem ev_fin (r : Rv) (dl : S) : fin (some r) dl = .ok r dl := rfl
@[simp] theorem ev_fin0 (dl : S) : fin none dl = .bad := rfl
@[simp] theorem ev_o1 (op : PyData → Option Rv) (a : PyData) : o1 op (some a) = op a := rfl
@[simp] theorem ev_o2 (op : PyData → PyData → Option Rv) (a b : PyData) : o2 op (some a) (some b) = op a b := rfl
@[simp] theorem ev_rdv (dl : S) (d : PyData) : rd dl (.val d) = some d := rfl
@[simp] theorem ev_rdn (dl : S) (ds : List PyData) : rd dl (.new ds) = some (.list ds) := rfl
@[simp] theorem ev_rdl (dl : S) (i : Nat) : rd dl (.loc i) = rdS dl i := rfl
@[simp] theorem ev_rdS (dl : S) (i : Nat) : rdS dl i = (match dl[i]? with
  | some (.val d) => some d
  | some (.own _ ds) => some (.list ds)
  | _ => none) := rfl
@[simp] theorem ev_nil (dl : S) : dNil dl = .ok [] dl := rfl
@[simp] theorem ev_cons (f : S → Out Rv) (g : S → Out (List Rv)) (dl : S) : dCons f g dl = (f dl).bind fun r d1 => (g d1).bind fun rs d2 => .ok (stl r :: rs) d2 := rfl
@[simp] theorem ev_stlv (d : PyData) : stl (.val d) = .val d := rfl
@[simp] theorem ev_stln (ds : List PyData) : stl (.new ds) = .val (.list ds) := rfl
@[simp] theorem ev_stll (i : Nat) : stl (.loc i) = .loc i := rfl
@[simp] theorem ev_rds0 (dl : S) : rds dl [] = some [] := rfl
@[simp] theorem ev_rds (dl : S) (r : Rv) (rs : List Rv) : rds dl (r :: rs) = (rd dl r).bind fun d => (rds dl rs).bind fun ds => some (d :: ds) := rfl
@[simp] theorem ev_B (op : List PyData → Option Rv) (f : S → Out (List Rv)) (dl : S) : dB op f dl = (f dl).bind fun rs d1 => fin ((rds d1 rs).bind op) d1 := rfl
@[simp] theorem ev_stbv (dl : S) (d : PyData) : stb dl (.val d) = some (d, dl) := rfl
@[simp] theorem ev_stbn (dl : S) (ds : List PyData) : stb dl (.new ds) = some (.list ds, dl) := rfl
@[simp] theorem ev_stbl (dl : S) (i : Nat) : stb dl (.loc i) = (match dl[i]? with
    | some (.val d) => some (d, dl)
    | some (.own false ds) => some (.list ds, dl.set i (.val (.list ds)))
    | _ => none) := rfl
@[simp] theorem ev_stbs0 (dl : S) : stbs dl [] = some ([], dl) := rfl
@[simp] theorem ev_stbs (dl : S) (r : Rv) (rs : List Rv) : stbs dl (r :: rs) = (stb dl r).bind fun x => (stbs x.2 rs).bind fun y => some (x.1 :: y.1, y.2) := rfl
@[simp] theorem ev_tup (f : S → Out (List Rv)) (dl : S) : dTup f dl = (f dl).bind fun rs d1 => mkTup (stbs d1 rs) := rfl
@[simp] theorem ev_lst (f : S → Out (List Rv)) (dl : S) : dLst f dl = (f dl).bind fun rs d1 => mkLst (stbs d1 rs) := rfl
@[simp] theorem ev_mkTup (ds : List PyData) (dl : S) : mkTup (some (ds, dl)) = if ds.length ≤ 100000 then .ok (.val (.tuple ds)) dl else .bad := rfl
@[simp] theorem ev_mkLst (ds : List PyData) (dl : S) : mkLst (some (ds, dl)) = if ds.length ≤ 100000 then .ok (.new ds) dl else .bad := rfl
@[simp] theorem ev_T (f : S → Out Rv) (dl : S) : dT f dl = (f dl).bind fun r d1 => asB (rd d1 r) d1 := rfl
@[simp] theorem ev_asB (b : Bool) (dl : S) : asB (some (.bool b)) dl = .ok b dl := rfl
@[simp] theorem ev_ch (op1 op2 : PyData → PyData → Option Rv) (f g h : S → Out Rv) (dl : S) : dCh op1 op2 f g h dl = (f dl).bind fun r1 d1 => (g d1).bind fun r2 d2 => (asB ((o2 op1 (rd d2 r1) (rd d2 r2)).bind (rd d2)) d2).bind fun c d3 =>
  if c then (h d3).bind fun r3 d4 => fin (o2 op2 (rd d4 r2) (rd d4 r3)) d4 else .ok (.val (.bool false)) d3 := rfl
@[simp] theorem ev_tAnd (f g : S → Out Bool) (dl : S) : tnAnd f g dl = (f dl).bind fun c d1 => if c then g d1 else .ok false d1 := rfl
@[simp] theorem ev_tOr (f g : S → Out Bool) (dl : S) : tnOr f g dl = (f dl).bind fun c d1 => if c then .ok true d1 else g d1 := rfl
@[simp] theorem ev_tNot (f : S → Out Bool) (dl : S) : tnNot f dl = (f dl).bind fun c d1 => .ok (!c) d1 := rfl
@[simp] theorem ev_And (f g : S → Out Rv) (dl : S) : dAnd f g dl = (dT f dl).bind fun c d1 => if c then g d1 else .ok (.val (.bool false)) d1 := rfl
@[simp] theorem ev_Or (f g : S → Out Rv) (dl : S) : dOr f g dl = (dT f dl).bind fun c d1 => if c then .ok (.val (.bool true)) d1 else g d1 := rfl
@[simp] theorem ev_Not (f : S → Out Rv) (dl : S) : dNot f dl = (dT f dl).bind fun c d1 => .ok (.val (.bool (!c))) d1 := rfl
@[simp] theorem ev_Ite (c : S → Out Bool) (f g : S → Out Rv) (dl : S) : dIte c f g dl = (c dl).bind fun b d1 => if b then f d1 else g d1 := rfl
@[simp] theorem ev_Part (f : S → Out Rv) (dl : S) : dPart f dl = (f dl).bind fun r d1 => match rd d1 r with
  | some (.int i) => .ok (some i) d1
  | _ => .bad := rfl
@[simp] theorem ev_NoPart (dl : S) : dNoPart dl = .ok none dl := rfl
@[simp] theorem ev_Sl (f : S → Out Rv) (lo hi : S → Out (Option Int)) (dl : S) : dSl f lo hi dl = (f dl).bind fun r d1 => (lo d1).bind fun l d2 => (hi d2).bind fun u d3 => fin ((rd d3 r).bind fun a => oSl a l u) d3 := rfl
@[simp] theorem ev_Seq (f g : S → Fl) (dl : S) : dSeq f g dl = (match f dl with
  | .nx d1 => g d1
  | o => o) := rfl
@[simp] theorem ev_Nx (dl : S) : dNx dl = .nx dl := rfl
@[simp] theorem ev_Do (f : S → Out Rv) (dl : S) : dDo f dl = (f dl).fl fun _ d1 => .nx d1 := rfl
@[simp] theorem ev_Ret (f : S → Out Rv) (dl : S) : dRet f dl = (f dl).fl fun r d1 => .ret r d1 := rfl
@[simp] theorem ev_If (c : S → Out Bool) (f g : S → Fl) (dl : S) : dIf c f g dl = (c dl).fl fun b d1 => if b then f d1 else g d1 := rfl
@[simp] theorem ev_putv (dl : S) (i : Nat) (d : PyData) : putR dl i (.val d) = some (dl.set i (.val d)) := rfl
@[simp] theorem ev_putn (dl : S) (i : Nat) (ds : List PyData) : putR dl i (.new ds) = some (dl.set i (.own false ds)) := rfl
@[simp] theorem ev_putl (dl : S) (i j : Nat) : putR dl i (.loc j) = (stb dl (.loc j)).map fun x => x.2.set i (.val x.1) := rfl
@[simp] theorem ev_ofO (dl : S) : ofO (some dl) = .nx dl := rfl
@[simp] theorem ev_Set (i : Nat) (f : S → Out Rv) (dl : S) : dSet i f dl = (f dl).fl fun r d1 => ofO (putR d1 i r) := rfl
@[simp] theorem ev_Aug (i : Nat) (g : Int → Int → Int) (f : S → Out Rv) (dl : S) : dAug i g f dl = (match dl[i]? with
  | some (.val (.int a)) => (f dl).fl fun r d1 => match rd d1 r with
    | some (.int b) => .nx (d1.set i (.val (.int (g a b))))
    | _ => .bad
  | _ => .bad) := rfl
@[simp] theorem ev_setAll0 (dl : S) : setAll dl [] [] = dl := rfl
@[simp] theorem ev_setAll (dl : S) (i : Nat) (is : List Nat) (d : PyData) (ds : List PyData) : setAll dl (i :: is) (d :: ds) = setAll (dl.set i (.val d)) is ds := rfl
@[simp] theorem ev_Unp (is : List Nat) (f : S → Out Rv) (dl : S) : dUnp is f dl = (f dl).fl fun r d1 => match rd d1 r with
  | some (.tuple ds) => if ds.length = is.length then .nx (setAll d1 is ds) else .bad
  | _ => .bad := rfl
@[simp] theorem ev_chg (dl : S) (i : Nat) (g : List PyData → Option (List PyData)) : chg dl i g = (match dl[i]? with
  | some (.own b ds) => (g ds).map fun ds' => dl.set i (.own b ds')
  | _ => none) := rfl
@[simp] theorem ev_isOwn (dl : S) (i : Nat) : isOwn dl i = (match dl[i]? with
  | some (.own _ _) => true
  | _ => false) := rfl
@[simp] theorem ev_app1 (d : PyData) (ds : List PyData) : app1 d ds = if ds.length < 100000 then some (ds ++ [d]) else none := rfl
@[simp] theorem ev_appR (dl : S) (i : Nat) (r : Rv) : appR dl i r = (stb dl r).bind fun x => chg x.2 i (app1 x.1) := rfl
@[simp] theorem ev_App (i : Nat) (f : S → Out Rv) (dl : S) : dApp i f dl = if isOwn dl i then (f dl).fl fun r d1 => ofO (appR d1 i r) else .bad := rfl
@[simp] theorem ev_put1 (k : Int) (d : PyData) (ds : List PyData) : put1 k d ds = (ixN ds.length k).map fun j => ds.set j d := rfl
@[simp] theorem ev_stIR (dl : S) (i : Nat) (r ri : Rv) : stIR dl i r ri = (match rd dl ri with
  | some (.int k) => (stb dl r).bind fun x => chg x.2 i (put1 k x.1)
  | _ => none) := rfl
@[simp] theorem ev_StI (i : Nat) (fi fe : S → Out Rv) (dl : S) : dStI i fi fe dl = (fe dl).fl fun r d1 => if isOwn d1 i then (fi d1).fl fun ri d2 => ofO (stIR d2 i r ri) else .bad := rfl
@[simp] theorem ev_It (f : S → Out Rv) (dl : S) : dIt f dl = (f dl).bind fun r d1 => itD (stb d1 r) := rfl
@[simp] theorem ev_itL (ds : List PyData) (dl : S) : itD (some (.list ds, dl)) = .ok ds dl := rfl
@[simp] theorem ev_itT (ds : List PyData) (dl : S) : itD (some (.tuple ds, dl)) = .ok ds dl := rfl
@[simp] theorem ev_Rng1 (f : S → Out (List Rv)) (dl : S) : dRng1 f dl = (f dl).bind fun rs d1 => rngA1 (rds d1 rs) d1 := rfl
@[simp] theorem ev_Rng2 (f : S → Out (List Rv)) (dl : S) : dRng2 f dl = (f dl).bind fun rs d1 => rngA2 (rds d1 rs) d1 := rfl
@[simp] theorem ev_rngA1 (j : Int) (dl : S) : rngA1 (some [.int j]) dl = if j ≤ 1000000 ∧ -1000000 ≤ j then .ok (rngD 0 j.toNat) dl else .bad := rfl
@[simp] theorem ev_rngA2 (i j : Int) (dl : S) : rngA2 (some [.int i, .int j]) dl = if (j ≤ 1000000 ∧ -1000000 ≤ j) ∧ (i ≤ 1000000 ∧ -1000000 ≤ i) then .ok (rngD i (j - i).toNat) dl else .bad := rfl
@[simp] theorem ev_tgN (i : Nat) (dl : S) (d : PyData) : tgN i dl d = some (dl.set i (.val d)) := rfl
@[simp] theorem ev_tgT (is : List Nat) (dl : S) (ds : List PyData) : tgT is dl (.tuple ds) = if ds.length = is.length then some (setAll dl is ds) else none := rfl
@[simp] theorem ev_For (it : S → Out (List PyData)) (put : S → PyData → Option S) (body : S → Fl) (dl : S) : dFor it put body dl = (it dl).fl fun ds d1 => forD put body ds d1 := rfl
@[simp] theorem ev_for0 (put : S → PyData → Option S) (body : S → Fl) (dl : S) : forD put body [] dl = .nx dl := rfl
@[simp] theorem ev_for1 (put : S → PyData → Option S) (body : S → Fl) (d : PyData) (ds : List PyData) (dl : S) : forD put body (d :: ds) dl = (match put dl d with
    | none => .bad
    | some d1 => match body d1 with
      | .nx d2 => forD put body ds d2
      | .cnt d2 => forD put body ds d2
      | .brk d2 => .nx d2
      | o => o) := rfl
@[simp] theorem ev_wipeD0 (dl : S) : wipeD dl [] = dl := rfl
@[simp] theorem ev_wipeD (dl : S) (v : Nat) (vs : List Nat) : wipeD dl (v :: vs) = (wipeD dl vs).set v .no := rfl
@[simp] theorem ev_restD0 (dl dl' : S) : restD dl [] dl' = dl' := rfl
@[simp] theorem ev_restD (dl dl' : S) (v : Nat) (vs : List Nat) : restD dl (v :: vs) dl' = (restD dl vs dl').set v (dl[v]?.getD .no) := rfl
@[simp] theorem ev_endC (dl : S) (vs : List Nat) (acc : List PyData) (dn : S) : endC dl vs (some (acc, dn)) = .ok (.new acc) (restD dl vs dn) := rfl
@[simp] theorem ev_Comp (it : S → Out (List PyData)) (vs : List Nat) (put : S → PyData → Option S) (c : S → Out Bool) (f : S → Out Rv) (dl : S) : dComp it vs put c f dl = (it dl).bind fun ds d1 => endC d1 vs (compD vs put c f ds (wipeD d1 vs) []) := rfl
@[simp] theorem ev_Yes (dl : S) : dYes dl = .ok true dl := rfl
@[simp] theorem ev_asEv (d : PyData) (st : List PyData) (dl : S) : asE (.val d st) dl = .ok (.val d) dl := rfl
@[simp] theorem ev_asEn (d : List PyData) (st : List PyData) (dl : S) : asE (.new d st) dl = .ok (.new d) dl := rfl
@[simp] theorem ev_callP (n : Nat) (g : Fn) (ds : List PyData) (dl : S) : callP n g (some (ds, dl)) = if ds.length = n then asE (g [] ds) dl else .bad := rfl
@[simp] theorem ev_Call (n : Nat) (g : Fn) (fa : S → Out (List Rv)) (dl : S) : dCall n g fa dl = (fa dl).bind fun rs d1 => callP n g (stbs d1 rs) := rfl
@[simp] theorem ev_stFv (d : PyData) (st : List PyData) : stF (.val d st) = st := rfl
@[simp] theorem ev_stFn (d : List PyData) (st : List PyData) : stF (.new d st) = st := rfl
@[simp] theorem ev_callI (n : Nat) (g : Fn) (i : Nat) (ds : List PyData) (d2 : S) : callI n g i (some (ds, d2)) = (match d2[i]? with
    | some (.own b st) => if ds.length + 1 = n then asE (g st ds) (d2.set i (.own b (stF (g st ds)))) else .bad
    | _ => .bad) := rfl
@[simp] theorem ev_CallI (n : Nat) (g : Fn) (i : Nat) (fr : S → Out (List Rv)) (dl : S) : dCallI n g i fr dl = if isOwn dl i then (fr dl).bind fun rs d1 => callI n g i (stbs d1 rs) else .bad := rfl
@[simp] theorem ev_mkAf (st ds : List PyData) : mkA false st ds = ds.map Sl.val := rfl
@[simp] theorem ev_mkAt (st ds : List PyData) : mkA true st ds = .own true st :: ds.map Sl.val := rfl
@[simp] theorem ev_stOf (dl : S) : stO false dl = some [] := rfl
@[simp] theorem ev_stOt (dl : S) : stO true dl = (match dl[(0 : Nat)]? with
  | some (.own true st) => some st
  | _ => none) := rfl
@[simp] theorem ev_retFv (d : PyData) (dl : S) (st : List PyData) : retF (.val d) dl st = .val d st := rfl
@[simp] theorem ev_retFn (d : List PyData) (dl : S) (st : List PyData) : retF (.new d) dl st = .new d st := rfl
@[simp] theorem ev_retFl (i : Nat) (dl : S) (st : List PyData) : retF (.loc i) dl st = (match dl[i]? with
    | some (.val d) => .val d st
    | some (.own false ds) => .new ds st
    | _ => .bad) := rfl
@[simp] theorem ev_finR (io : Bool) (r : Rv) (dl : S) : finF io (.ret r dl) = (match stO io dl with
    | some st => retF r dl st
    | none => .bad) := rfl
@[simp] theorem ev_finN (io : Bool) (dl : S) : finF io (.nx dl) = (match stO io dl with
    | some st => .val .none st
    | none => .bad) := rfl
@[simp] theorem ev_runF (io : Bool) (m n : Nat) (fb : S → Fl) (st ds : List PyData) : runF io m n fb st ds = finF io (fb (mkA io st ds ++ List.replicate (n - m) Sl.no)) := rfl
@[simp] theorem ev_vI (i : Int) : vI i = some (.val (.int i)) := rfl
@[simp] theorem ev_vB (b : Bool) : vB b = some (.val (.bool b)) := rfl
@[simp] theorem ev_oSub (i j : Int) : oSub (.int i) (.int j) = vI (i - j) := rfl
@[simp] theorem ev_oAddI (i j : Int) : oAdd (.int i) (.int j) = vI (i + j) := rfl
@[simp] theorem ev_oAddL (a b : List PyData) : oAdd (.list a) (.list b) = if a.length + b.length ≤ 100000 then some (.new (a ++ b)) else none := rfl
@[simp] theorem ev_oAddT (a b : List PyData) : oAdd (.tuple a) (.tuple b) = if a.length + b.length ≤ 100000 then some (.val (.tuple (a ++ b))) else none := rfl
@[simp] theorem ev_oAnd (i j : Int) : oAnd (.int i) (.int j) = vI (Builtin.bitAnd i j) := rfl
@[simp] theorem ev_oOr (i j : Int) : oOr (.int i) (.int j) = vI (Builtin.bitOr i j) := rfl
@[simp] theorem ev_oXor (i j : Int) : oXor (.int i) (.int j) = vI (Builtin.bitXor i j) := rfl
@[simp] theorem ev_oMod (i j : Int) : oMod (.int i) (.int j) = if 0 < j then vI (i % j) else none := by
  show (if decide (0 < j) = true then vI (i % j) else none) = _
  simp
@[simp] theorem ev_oDiv (i j : Int) : oDiv (.int i) (.int j) = if 0 < j ∧ j < 1073741824 then vI (i / j) else none := by
  show (if (decide (0 < j) && decide (j < 1073741824)) = true then vI (i / j) else none) = _
  simp
@[simp] theorem ev_oShr (i j : Int) : oShr (.int i) (.int j) = if 0 ≤ j then vI (i / 2 ^ j.toNat) else none := by
  show (if decide (0 ≤ j) = true then vI (i / 2 ^ j.toNat) else none) = _
  simp
@[simp] theorem ev_oPow (i j : Int) : oPow (.int i) (.int j) = if 0 ≤ j ∧ j ≤ 1000000 ∧ i.natAbs < 18446744073709551616 then vI (i ^ j.toNat) else none := by
  show (if (decide (0 ≤ j) && (decide (j ≤ 1000000) && decide (i.natAbs < 18446744073709551616))) = true then vI (i ^ j.toNat) else none) = _
  simp
@[simp] theorem ev_oShl (i j : Int) : oShl (.int i) (.int j) = if 0 ≤ j ∧ j ≤ 1000000 ∧ i.natAbs < 18446744073709551616 then vI (i * 2 ^ j.toNat) else none := by
  show (if (decide (0 ≤ j) && (decide (j ≤ 1000000) && decide (i.natAbs < 18446744073709551616))) = true then vI (i * 2 ^ j.toNat) else none) = _
  simp
@[simp] theorem ev_oMul (i j : Int) : oMul (.int i) (.int j) = if i.natAbs < 18446744073709551616 ∨ j.natAbs < 18446744073709551616 then vI (i * j) else none := by
  show (if (decide (i.natAbs < 18446744073709551616) || decide (j.natAbs < 18446744073709551616)) = true then vI (i * j) else none) = _
  simp
@[simp] theorem ev_oLt (i j : Int) : oLt (.int i) (.int j) = vB (decide (i < j)) := rfl
@[simp] theorem ev_oLe (i j : Int) : oLe (.int i) (.int j) = vB (decide (i ≤ j)) := rfl
@[simp] theorem ev_oGt (i j : Int) : oGt (.int i) (.int j) = vB (decide (j < i)) := rfl
@[simp] theorem ev_oGe (i j : Int) : oGe (.int i) (.int j) = vB (decide (j ≤ i)) := rfl
@[simp] theorem ev_oNeg (i : Int) : oNeg (.int i) = vI (-i) := rfl
@[simp] theorem ev_oIsN (a : PyData) : oIsN a .none = vB (isNone a) := rfl
@[simp] theorem ev_oNotN (a : PyData) : oNotN a .none = vB (!isNone a) := rfl
@[simp] theorem ev_isNone0 : isNone .none = true := rfl
@[simp] theorem ev_isNoneI (i : Int) : isNone (.int i) = false := rfl
@[simp] theorem ev_isNoneL (i : List PyData) : isNone (.list i) = false := rfl
@[simp] theorem ev_isNoneT (i : List PyData) : isNone (.tuple i) = false := rfl
@[simp] theorem ev_isNoneB (i : Bool) : isNone (.bool i) = false := rfl
@[simp] theorem ev_isNoneS (i : Str) : isNone (.str i) = false := rfl
@[simp] theorem sh_none : SeqAt.shaped .none = true := rfl
@[simp] theorem sh_bool (b : Bool) : SeqAt.shaped (.bool b) = true := rfl
@[simp] theorem sh_int (i : Int) : SeqAt.shaped (.int i) = true := by unfold SeqAt.shaped; rfl
@[simp] theorem ev_oEqI (i j : Int) : oEq (.int i) (.int j) = vB (decide (i = j)) := by
  unfold oEq
  simp [PyData.eqv]
  rfl
@[simp] theorem ev_oNeI (i j : Int) : oNe (.int i) (.int j) = vB (!decide (i = j)) := by
  unfold oNe
  simp [PyData.eqv]
  rfl
@[simp] theorem ev_oIxL (ds : List PyData) (i : Int) : oIx (.list ds) (.int i) = (atI ds i).map Rv.val := rfl
@[simp] theorem ev_oIxT (ds : List PyData) (i : Int) : oIx (.tuple ds) (.int i) = (atI ds i).map Rv.val := rfl
@[simp] theorem ev_oSlL (ds : List PyData) (lo hi : Option Int) : oSl (.list ds) lo hi = some (.new (cutD ds lo hi)) := rfl
@[simp] theorem ev_oSlT (ds : List PyData) (lo hi : Option Int) : oSl (.tuple ds) lo hi = some (.val (.tuple (cutD ds lo hi))) := rfl
@[simp] theorem ev_oRevL (ds : List PyData) : oRevL (.list ds) = some (.new ds.reverse) := rfl
@[simp] theorem ev_bLenL (ds : List PyData) : bLen [.list ds] = vI ds.length := rfl
@[simp] theorem ev_bLenT (ds : List PyData) : bLen [.tuple ds] = vI ds.length := rfl
@[simp] theorem ev_bAbs (i : Int) : bAbs [.int i] = vI (if i < 0 then -i else i) := rfl
@[simp] theorem ev_bMax2 (i j : Int) : bMax2 [.int i, .int j] = vI (if j > i then j else i) := rfl
@[simp] theorem ev_bMin2 (i j : Int) : bMin2 [.int i, .int j] = vI (if j < i then j else i) := rfl
@[simp] theorem ev_bIntI (i : Int) : bInt [.int i] = vI i := rfl
@[simp] theorem ev_bIntB (b : Bool) : bInt [.bool b] = vI (if b then 1 else 0) := rfl
@[simp] theorem ev_bListL (ds : List PyData) : bList [.list ds] = some (.new ds) := rfl
@[simp] theorem ev_bListT (ds : List PyData) : bList [.tuple ds] = some (.new ds) := rfl
@[simp] theorem ev_bTupL (ds : List PyData) : bTup [.list ds] = some (.val (.tuple ds)) := rfl
@[simp] theorem ev_bTupT (ds : List PyData) : bTup [.tuple ds] = some (.val (.tuple ds)) := rfl
@[simp] theorem ev_isiII (i : Int) : oIsi "int" (.int i) = vB true := by show (kitB (tyD (.int i)) "int").bind vB = _; rw [show kitB (tyD (.int i)) "int" = some true from (by decide +kernel : kitB "int" "int" = some true)]; rfl
@[simp] theorem ev_isiBI (i : Int) : oIsi "bool" (.int i) = vB false := by show (kitB (tyD (.int i)) "bool").bind vB = _; rw [show kitB (tyD (.int i)) "bool" = some false from (by decide +kernel : kitB "int" "bool" = some false)]; rfl
theorem isi_of {T : String} {d : PyData} {b : Bool} (h : kitB (tyD d) T = some b) (hd : isDic d = false := by rfl) : oIsi T d = vB b := by unfold oIsi; rw [hd, h]; rfl
theorem atI_of {A : Type} {l : List A} {i : Int} {a : A} (h0 : 0 ≤ i) (h : l[i.toNat]? = some a) : atI l i = some a := by
  have hl := lt_of_get h
  unfold atI ixN
  rw [if_pos h0, if_pos (by omega)]
  exact h
@[simp] theorem atI0 {A : Type} (a : A) (l : List A) : atI (a :: l) 0 = some a := atI_of (by decide) rfl
@[simp] theorem atI1 {A : Type} (a b : A) (l : List A) : atI (a :: b :: l) 1 = some b := atI_of (by decide) rfl
@[simp] theorem ixN0 (n : Nat) : ixN (n + 1) 0 = some 0 := by
  unfold ixN
  rw [if_pos (by decide), if_pos (by omega)]
  rfl
@[simp] theorem ixN1 (n : Nat) : ixN (n + 1 + 1) 1 = some 1 := by
  unfold ixN
  rw [if_pos (by decide), if_pos (by omega)]
  rfl
theorem comp_all {vs : List Nat} {put : S → PyData → Option S} {f : S → Out Rv} (I : S → Prop) (R : PyData → Prop) : ∀ {ds acc : List PyData} {dn : S}, I dn →
    (∀ d dn, d ∈ ds → I dn → ∃ d1 r d3 y d4, put dn d = some d1 ∧ f d1 = .ok r d3 ∧ stb d3 r = some (y, d4) ∧ R y ∧ I (wipeD d4 vs)) →
    acc.length + ds.length ≤ 100000 → ∃ ys dn', compD vs put dYes f ds dn acc = some (acc ++ ys, dn') ∧ I dn' ∧ ys.length = ds.length ∧ ∀ y ∈ ys, R y
  | [], acc, dn, h0, _, _ => ⟨[], dn, by unfold compD; simp, h0, rfl, fun _ h => nomatch h⟩
  | d :: ds, acc, dn, h0, h, hl => by
    obtain ⟨d1, r, d3, y, d4, e1, e2, e3, hr, hi⟩ := h d dn List.mem_cons_self h0
    rw [List.length_cons] at hl
    obtain ⟨ys, dn', e4, i4, l4, r4⟩ := comp_all I R (ds := ds) (acc := acc ++ [y]) hi (fun d dn hd => h d dn (List.mem_cons_of_mem _ hd)) (by rw [List.length_append, List.length_singleton]; omega)
    refine ⟨y :: ys, dn', ?_, i4, by rw [List.length_cons, List.length_cons, l4], fun z hz => ?_⟩
    · unfold compD
      rw [e1]
      dsimp only
      rw [ev_Yes]
      dsimp only
      rw [e2]
      dsimp only
      rw [e3]
      dsimp only
      rw [if_pos (by omega), e4, List.append_assoc]
      rfl
    · rcases List.mem_cons.mp hz with e | hz
      · rw [e]; exact hr
      · exact r4 z hz
theorem bitAnd_nat (a b : Nat) : Builtin.bitAnd (a : Int) (b : Int) = ((a &&& b : Nat) : Int) := by
  unfold Builtin.bitAnd
  simp
theorem bitOr_nat (a b : Nat) : Builtin.bitOr (a : Int) (b : Int) = ((a ||| b : Nat) : Int) := by
  unfold Builtin.bitOr Builtin.bitAnd Builtin.bitNot
  have h1 : ¬ (0 ≤ -(a : Int) - 1) := by omega
  have h2 : ¬ (0 ≤ -(b : Int) - 1) := by omega
  simp only [h1, h2, decide_false]
  have e1 : (-(-(a : Int) - 1) - 1).toNat = a := by omega
  have e2 : (-(-(b : Int) - 1) - 1).toNat = b := by omega
  rw [e1, e2]
  omega
theorem shr_nat (a s : Nat) : (a : Int) / 2 ^ s = ((a / 2 ^ s : Nat) : Int) := by
  rw [Int.natCast_ediv]
  norm_cast
abbrev nI (n : Nat) : PyData := .int (n : Int)
def flatD : PyData → Bool
  | .none | .bool _ | .int _ => true
  | _ => false
@[simp] theorem flat_nats (cs : List Nat) : (cs.map nI).all flatD = true := by
  rw [List.all_eq_true]
  intro d hd
  obtain ⟨n, _, rfl⟩ := List.mem_map.mp hd
  rfl
@[simp] theorem flat_ints (cs : List Int) : (cs.map PyData.int).all flatD = true := by
  rw [List.all_eq_true]
  intro d hd
  obtain ⟨n, _, rfl⟩ := List.mem_map.mp hd
  rfl
end DL
namespace DL
open PySem L2
@[simp] theorem slSc_own (b : Bool) (ds : List PyData) : slSc (.own b ds) = ds.all isSc := rfl
@[simp] theorem slSc_val (d : PyData) : slSc (.val d) = true := rfl
@[simp] theorem slSc_no : slSc .no = true := rfl
theorem sc_nats (cs : List Nat) : (cs.map nI).all isSc = true := by
  rw [List.all_eq_true]
  intro d hd
  obtain ⟨c, _, rfl⟩ := List.mem_map.mp hd
  rfl
theorem allI_int : ∀ ns : List Int, allI (ns.map PyData.int) = some ns
  | [] => rfl
  | n :: ns => by
    rw [List.map_cons]
    unfold allI
    rw [allI_int ns]
    rfl
theorem bSum_int (ns : List Int) : bSum [.list (ns.map PyData.int)] = vI ns.sum := by
  show (allI _).bind _ = _
  rw [allI_int]
  rfl
theorem all_nat : ∀ {ys : List PyData} (P : Nat → Prop), (∀ y ∈ ys, ∃ c : Nat, P c ∧ y = nI c) → ∃ cs : List Nat, ys = cs.map nI ∧ ∀ c ∈ cs, P c
  | [], _, _ => ⟨[], rfl, fun _ h => nomatch h⟩
  | y :: ys, P, h => by
    obtain ⟨cs, rfl, h2⟩ := all_nat (ys := ys) P fun y hy => h y (List.mem_cons_of_mem _ hy)
    obtain ⟨c, hc, rfl⟩ := h y List.mem_cons_self
    refine ⟨c :: cs, rfl, fun c' hc' => ?_⟩
    rcases List.mem_cons.mp hc' with e | e
    · rw [e]; exact hc
    · exact h2 c' e
def cell : Option Nat → PyData
  | none => .none
  | some c => nI c
@[simp] theorem cell0 : cell none = .none := rfl
@[simp] theorem cell1 (c : Nat) : cell (some c) = .int (c : Int) := rfl
theorem all_cell : ∀ {ys : List PyData} (P : Nat → Prop), (∀ y ∈ ys, y = .none ∨ ∃ c : Nat, P c ∧ y = nI c) → ∃ t : List (Option Nat), ys = t.map cell ∧ ∀ c, some c ∈ t → P c
  | [], _, _ => ⟨[], rfl, fun _ h => nomatch h⟩
  | y :: ys, P, h => by
    obtain ⟨cs, rfl, h2⟩ := all_cell (ys := ys) P fun y hy => h y (List.mem_cons_of_mem _ hy)
    rcases h y List.mem_cons_self with rfl | ⟨c, hc, rfl⟩
    · refine ⟨none :: cs, rfl, fun c' hc' => ?_⟩
      rcases List.mem_cons.mp hc' with e | e
      · cases e
      · exact h2 c' e
    · refine ⟨some c :: cs, rfl, fun c' hc' => ?_⟩
      rcases List.mem_cons.mp hc' with e | e
      · cases e; exact hc
      · exact h2 c' e
theorem eqv_cell (x : Option Nat) (c : Nat) : PyData.eqv (cell x) (nI c) = decide (x = some c) := by
  cases x with
  | none => rfl
  | some d =>
    show PyData.eqv (.int _) (.int _) = _
    unfold PyData.eqv
    by_cases h : d = c
    · subst h; simp
    · have : ¬ ((d : Int) = (c : Int)) := by omega
      simp [h, this]
theorem sc_cells (t : List (Option Nat)) : (t.map cell).all isSc = true := by
  rw [List.all_eq_true]
  intro d hd
  obtain ⟨x, _, rfl⟩ := List.mem_map.mp hd
  cases x <;> rfl
theorem any_cells (c : Nat) : ∀ t : List (Option Nat), ((t.map cell).any fun y => PyData.eqv y (nI c)) = decide (some c ∈ t)
  | [] => rfl
  | x :: t => by
    rw [List.map_cons, List.any_cons, eqv_cell, any_cells c t]
    rw [Bool.eq_iff_iff]
    simp
    rw [eq_comm]
theorem oIn_cells (c : Nat) (t : List (Option Nat)) : oIn false (nI c) (.tuple (t.map cell)) = vB (decide (some c ∈ t)) := by
  unfold oIn items
  dsimp only
  rw [sc_cells, any_cells]
  rfl
@[simp] theorem ev_isiTT (ds : List PyData) : oIsi "tuple" (.tuple ds) = vB true := isi_of (by rw [show tyD (.tuple ds) = "tuple" from rfl]; decide +kernel)
@[simp] theorem ev_isiLL (ds : List PyData) : oIsi "list" (.list ds) = vB true := isi_of (by rw [show tyD (.list ds) = "list" from rfl]; decide +kernel)
@[simp] theorem sh_cell (x : Option Nat) : SeqAt.shaped (cell x) = true := by cases x <;> simp
theorem oEq_cell (x : Option Nat) (c : Nat) : oEq (cell x) (nI c) = vB (decide (x = some c)) := by
  unfold oEq
  rw [sh_cell, sh_int, eqv_cell]
  rfl
theorem rng_nats (n : Nat) : rngD 0 n = (List.range n).map nI := by
  unfold rngD
  apply List.map_congr_left
  intro k _
  rw [Int.zero_add]
end DL
namespace DL
open PySem L2

def seqO : Fl → (S → Fl) → Fl
  | .nx d1, g => g d1
  | o, _ => o
theorem w_Seq (f g : S → Fl) (dl : S) : dSeq f g dl = seqO (f dl) g := by
  rw [ev_Seq]
  cases f dl <;> rfl
theorem w_seqN (dl : S) (g : S → Fl) : seqO (.nx dl) g = g dl := rfl
theorem w_seqR (r : Rv) (dl : S) (g : S → Fl) : seqO (.ret r dl) g = .ret r dl := rfl
theorem w_seqC (dl : S) (g : S → Fl) : seqO (.cnt dl) g = .cnt dl := rfl
theorem w_seqB (dl : S) (g : S → Fl) : seqO (.brk dl) g = .brk dl := rfl
theorem w_seqX (c : Str) (dl : S) (g : S → Fl) : seqO (.ex c dl) g = .ex c dl := rfl
def iteF (b : Bool) (f g : S → Fl) (d : S) : Fl := if b then f d else g d
def iteO {A : Type} (b : Bool) (f g : S → Out A) (d : S) : Out A := if b then f d else g d
theorem iteF_t (f g : S → Fl) (d : S) : iteF true f g d = f d := rfl
theorem iteF_f (f g : S → Fl) (d : S) : iteF false f g d = g d := rfl
theorem iteO_t {A : Type} (f g : S → Out A) (d : S) : iteO true f g d = f d := rfl
theorem iteO_f {A : Type} (f g : S → Out A) (d : S) : iteO false f g d = g d := rfl
def KoB (b : Bool) (d : S) : Out Rv := .ok (.val (.bool b)) d
def KtB (b : Bool) (d : S) : Out Bool := .ok b d
def KBad (d : S) : Fl := .bad
def KBadO (d : S) : Out Rv := .bad
theorem KoB_ (b : Bool) (d : S) : KoB b d = .ok (.val (.bool b)) d := rfl
theorem KtB_ (b : Bool) (d : S) : KtB b d = .ok b d := rfl
theorem sg0_ {A : Type} (a : A) (l : List A) : (a :: l)[(0 : Nat)]? = some a := rfl
theorem sgS_ {A : Type} (a : A) (l : List A) (n : Nat) : (a :: l)[n + 1]? = l[n]? := rfl
def vr (i : Nat) (o : Option Sl) (dl : S) : Out Rv := match o with
  | some (.val d) => .ok (.val d) dl
  | some (.own _ _) => .ok (.loc i) dl
  | _ => .bad
theorem w_var (i : Nat) (dl : S) : dVar i dl = vr i dl[i]? dl := by
  rw [ev_var]
  unfold vr
  rfl
theorem vr_v (i : Nat) (d : PyData) (dl : S) : vr i (some (.val d)) dl = .ok (.val d) dl := rfl
theorem vr_o (i : Nat) (b : Bool) (ds : List PyData) (dl : S) : vr i (some (.own b ds)) dl = .ok (.loc i) dl := rfl
def rdO : Option Sl → Option PyData
  | some (.val d) => some d
  | some (.own _ ds) => some (.list ds)
  | _ => none
theorem w_rdS (dl : S) (i : Nat) : rdS dl i = rdO dl[i]? := by
  unfold rdS rdO
  rfl
theorem rdO_v (d : PyData) : rdO (some (.val d)) = some d := rfl
theorem rdO_o (b : Bool) (ds : List PyData) : rdO (some (.own b ds)) = some (.list ds) := rfl
def stO1 (i : Nat) (o : Option Sl) (dl : S) : Option (PyData × S) := match o with
    | some (.val d) => some (d, dl)
    | some (.own false ds) => some (.list ds, dl.set i (.val (.list ds)))
    | _ => none
theorem w_stb (dl : S) (i : Nat) : stb dl (.loc i) = stO1 i dl[i]? dl := by
  unfold stO1
  rfl
theorem stO1_v (i : Nat) (d : PyData) (dl : S) : stO1 i (some (.val d)) dl = some (d, dl) := rfl
theorem stO1_o (i : Nat) (ds : List PyData) (dl : S) : stO1 i (some (.own false ds)) dl = some (.list ds, dl.set i (.val (.list ds))) := rfl
theorem ob_s {A B : Type} (a : A) (f : A → Option B) : (some a).bind f = f a := rfl
def isOwnO : Option Sl → Bool
  | some (.own _ _) => true
  | _ => false
theorem w_isOwn (dl : S) (i : Nat) : isOwn dl i = isOwnO dl[i]? := by
  unfold isOwn isOwnO
  rfl
theorem isOwnO_o (b : Bool) (ds : List PyData) : isOwnO (some (.own b ds)) = true := rfl
def K1 (op : PyData → Option Rv) (o : Out Rv) : Out Rv := o.bind fun r d => fin (o1 op (rd d r)) d
theorem K1_ (op : PyData → Option Rv) (r : Rv) (d : S) : K1 op (.ok r d) = fin (o1 op (rd d r)) d := rfl
theorem K1_x (op : PyData → Option Rv) (cx : Str) (d : S) : K1 op (.ex cx d) = .ex cx d := rfl
theorem w_1 (op : PyData → Option Rv) (f : S → Out Rv) (dl : S) : d1 op f dl = K1 op (f dl) := rfl
def K2b (op : PyData → PyData → Option Rv) (r1 : Rv) (o : Out Rv) : Out Rv := o.bind fun r d => fin (o2 op (rd d r1) (rd d r)) d
theorem K2b_ (op : PyData → PyData → Option Rv) (r1 : Rv) (r : Rv) (d : S) : K2b op r1 (.ok r d) = fin (o2 op (rd d r1) (rd d r)) d := rfl
theorem K2b_x (op : PyData → PyData → Option Rv) (r1 : Rv) (cx : Str) (d : S) : K2b op r1 (.ex cx d) = .ex cx d := rfl
def K2 (op : PyData → PyData → Option Rv) (g : S → Out Rv) (o : Out Rv) : Out Rv := o.bind fun r d => K2b op r (g d)
theorem K2_ (op : PyData → PyData → Option Rv) (g : S → Out Rv) (r : Rv) (d : S) : K2 op g (.ok r d) = K2b op r (g d) := rfl
theorem K2_x (op : PyData → PyData → Option Rv) (g : S → Out Rv) (cx : Str) (d : S) : K2 op g (.ex cx d) = .ex cx d := rfl
theorem w_2 (op : PyData → PyData → Option Rv) (f : S → Out Rv) (g : S → Out Rv) (dl : S) : d2 op f g dl = K2 op g (f dl) := rfl
def Kc2 (r : Rv) (o : Out (List Rv)) : Out (List Rv) := o.bind fun rs d => .ok (r :: rs) d
theorem Kc2_ (r : Rv) (rs : List Rv) (d : S) : Kc2 r (.ok rs d) = .ok (r :: rs) d := rfl
theorem Kc2_x (r : Rv) (cx : Str) (d : S) : Kc2 r (.ex cx d) = .ex cx d := rfl
def Kc (g : S → Out (List Rv)) (o : Out Rv) : Out (List Rv) := o.bind fun r d => Kc2 (stl r) (g d)
theorem Kc_ (g : S → Out (List Rv)) (r : Rv) (d : S) : Kc g (.ok r d) = Kc2 (stl r) (g d) := rfl
theorem Kc_x (g : S → Out (List Rv)) (cx : Str) (d : S) : Kc g (.ex cx d) = .ex cx d := rfl
theorem w_cons (f : S → Out Rv) (g : S → Out (List Rv)) (dl : S) : dCons f g dl = Kc g (f dl) := rfl
def KB (op : List PyData → Option Rv) (o : Out (List Rv)) : Out Rv := o.bind fun rs d => fin ((rds d rs).bind op) d
theorem KB_ (op : List PyData → Option Rv) (rs : List Rv) (d : S) : KB op (.ok rs d) = fin ((rds d rs).bind op) d := rfl
theorem KB_x (op : List PyData → Option Rv) (cx : Str) (d : S) : KB op (.ex cx d) = .ex cx d := rfl
theorem w_B (op : List PyData → Option Rv) (f : S → Out (List Rv)) (dl : S) : dB op f dl = KB op (f dl) := rfl
def Ktup  (o : Out (List Rv)) : Out Rv := o.bind fun rs d => mkTup (stbs d rs)
theorem Ktup_  (rs : List Rv) (d : S) : Ktup  (.ok rs d) = mkTup (stbs d rs) := rfl
theorem Ktup_x  (cx : Str) (d : S) : Ktup  (.ex cx d) = .ex cx d := rfl
theorem w_tup (f : S → Out (List Rv)) (dl : S) : dTup f dl = Ktup (f dl) := rfl
def Klst  (o : Out (List Rv)) : Out Rv := o.bind fun rs d => mkLst (stbs d rs)
theorem Klst_  (rs : List Rv) (d : S) : Klst  (.ok rs d) = mkLst (stbs d rs) := rfl
theorem Klst_x  (cx : Str) (d : S) : Klst  (.ex cx d) = .ex cx d := rfl
theorem w_lst (f : S → Out (List Rv)) (dl : S) : dLst f dl = Klst (f dl) := rfl
def KT  (o : Out Rv) : Out Bool := o.bind fun r d => asB (rd d r) d
theorem KT_  (r : Rv) (d : S) : KT  (.ok r d) = asB (rd d r) d := rfl
theorem KT_x  (cx : Str) (d : S) : KT  (.ex cx d) = .ex cx d := rfl
theorem w_T (f : S → Out Rv) (dl : S) : dT f dl = KT (f dl) := rfl
def KtAnd (g : S → Out Bool) (o : Out Bool) : Out Bool := o.bind fun c d => iteO c g (KtB false) d
theorem KtAnd_ (g : S → Out Bool) (c : Bool) (d : S) : KtAnd g (.ok c d) = iteO c g (KtB false) d := rfl
theorem KtAnd_x (g : S → Out Bool) (cx : Str) (d : S) : KtAnd g (.ex cx d) = .ex cx d := rfl
theorem w_tAnd (f : S → Out Bool) (g : S → Out Bool) (dl : S) : tnAnd f g dl = KtAnd g (f dl) := rfl
def KtOr (g : S → Out Bool) (o : Out Bool) : Out Bool := o.bind fun c d => iteO c (KtB true) g d
theorem KtOr_ (g : S → Out Bool) (c : Bool) (d : S) : KtOr g (.ok c d) = iteO c (KtB true) g d := rfl
theorem KtOr_x (g : S → Out Bool) (cx : Str) (d : S) : KtOr g (.ex cx d) = .ex cx d := rfl
theorem w_tOr (f : S → Out Bool) (g : S → Out Bool) (dl : S) : tnOr f g dl = KtOr g (f dl) := rfl
def KtNot  (o : Out Bool) : Out Bool := o.bind fun c d => .ok (!c) d
theorem KtNot_  (c : Bool) (d : S) : KtNot  (.ok c d) = .ok (!c) d := rfl
theorem KtNot_x  (cx : Str) (d : S) : KtNot  (.ex cx d) = .ex cx d := rfl
theorem w_tNot (f : S → Out Bool) (dl : S) : tnNot f dl = KtNot (f dl) := rfl
def KAnd (g : S → Out Rv) (o : Out Bool) : Out Rv := o.bind fun c d => iteO c g (KoB false) d
theorem KAnd_ (g : S → Out Rv) (c : Bool) (d : S) : KAnd g (.ok c d) = iteO c g (KoB false) d := rfl
theorem KAnd_x (g : S → Out Rv) (cx : Str) (d : S) : KAnd g (.ex cx d) = .ex cx d := rfl
theorem w_And (f : S → Out Rv) (g : S → Out Rv) (dl : S) : dAnd f g dl = KAnd g (dT f dl) := rfl
def KOr (g : S → Out Rv) (o : Out Bool) : Out Rv := o.bind fun c d => iteO c (KoB true) g d
theorem KOr_ (g : S → Out Rv) (c : Bool) (d : S) : KOr g (.ok c d) = iteO c (KoB true) g d := rfl
theorem KOr_x (g : S → Out Rv) (cx : Str) (d : S) : KOr g (.ex cx d) = .ex cx d := rfl
theorem w_Or (f : S → Out Rv) (g : S → Out Rv) (dl : S) : dOr f g dl = KOr g (dT f dl) := rfl
def KNot  (o : Out Bool) : Out Rv := o.bind fun c d => .ok (.val (.bool (!c))) d
theorem KNot_  (c : Bool) (d : S) : KNot  (.ok c d) = .ok (.val (.bool (!c))) d := rfl
theorem KNot_x  (cx : Str) (d : S) : KNot  (.ex cx d) = .ex cx d := rfl
theorem w_Not (f : S → Out Rv) (dl : S) : dNot f dl = KNot (dT f dl) := rfl
def KIte (f : S → Out Rv) (g : S → Out Rv) (o : Out Bool) : Out Rv := o.bind fun c d => iteO c f g d
theorem KIte_ (f : S → Out Rv) (g : S → Out Rv) (c : Bool) (d : S) : KIte f g (.ok c d) = iteO c f g d := rfl
theorem KIte_x (f : S → Out Rv) (g : S → Out Rv) (cx : Str) (d : S) : KIte f g (.ex cx d) = .ex cx d := rfl
theorem w_Ite (c : S → Out Bool) (f : S → Out Rv) (g : S → Out Rv) (dl : S) : dIte c f g dl = KIte f g (c dl) := rfl
def Kch4 (op : PyData → PyData → Option Rv) (r2 : Rv) (o : Out Rv) : Out Rv := o.bind fun r d => fin (o2 op (rd d r2) (rd d r)) d
theorem Kch4_ (op : PyData → PyData → Option Rv) (r2 : Rv) (r : Rv) (d : S) : Kch4 op r2 (.ok r d) = fin (o2 op (rd d r2) (rd d r)) d := rfl
theorem Kch4_x (op : PyData → PyData → Option Rv) (r2 : Rv) (cx : Str) (d : S) : Kch4 op r2 (.ex cx d) = .ex cx d := rfl
def Kch3f (op : PyData → PyData → Option Rv) (h : S → Out Rv) (r2 : Rv) (d : S) : Out Rv := Kch4 op r2 (h d)
theorem Kch3f_ (op : PyData → PyData → Option Rv) (h : S → Out Rv) (r2 : Rv) (d : S) : Kch3f op h r2 d = Kch4 op r2 (h d) := rfl
def Kch3 (op : PyData → PyData → Option Rv) (h : S → Out Rv) (r2 : Rv) (o : Out Bool) : Out Rv := o.bind fun c d => iteO c (Kch3f op h r2) (KoB false) d
theorem Kch3_ (op : PyData → PyData → Option Rv) (h : S → Out Rv) (r2 : Rv) (c : Bool) (d : S) : Kch3 op h r2 (.ok c d) = iteO c (Kch3f op h r2) (KoB false) d := rfl
theorem Kch3_x (op : PyData → PyData → Option Rv) (h : S → Out Rv) (r2 : Rv) (cx : Str) (d : S) : Kch3 op h r2 (.ex cx d) = .ex cx d := rfl
def Kch2 (op1 : PyData → PyData → Option Rv) (op2 : PyData → PyData → Option Rv) (h : S → Out Rv) (r1 : Rv) (o : Out Rv) : Out Rv := o.bind fun r d => Kch3 op2 h r (asB ((o2 op1 (rd d r1) (rd d r)).bind (rd d)) d)
theorem Kch2_ (op1 : PyData → PyData → Option Rv) (op2 : PyData → PyData → Option Rv) (h : S → Out Rv) (r1 : Rv) (r : Rv) (d : S) : Kch2 op1 op2 h r1 (.ok r d) = Kch3 op2 h r (asB ((o2 op1 (rd d r1) (rd d r)).bind (rd d)) d) := rfl
theorem Kch2_x (op1 : PyData → PyData → Option Rv) (op2 : PyData → PyData → Option Rv) (h : S → Out Rv) (r1 : Rv) (cx : Str) (d : S) : Kch2 op1 op2 h r1 (.ex cx d) = .ex cx d := rfl
def Kch (op1 : PyData → PyData → Option Rv) (op2 : PyData → PyData → Option Rv) (g : S → Out Rv) (h : S → Out Rv) (o : Out Rv) : Out Rv := o.bind fun r d => Kch2 op1 op2 h r (g d)
theorem Kch_ (op1 : PyData → PyData → Option Rv) (op2 : PyData → PyData → Option Rv) (g : S → Out Rv) (h : S → Out Rv) (r : Rv) (d : S) : Kch op1 op2 g h (.ok r d) = Kch2 op1 op2 h r (g d) := rfl
theorem Kch_x (op1 : PyData → PyData → Option Rv) (op2 : PyData → PyData → Option Rv) (g : S → Out Rv) (h : S → Out Rv) (cx : Str) (d : S) : Kch op1 op2 g h (.ex cx d) = .ex cx d := rfl
theorem w_ch (op1 : PyData → PyData → Option Rv) (op2 : PyData → PyData → Option Rv) (f : S → Out Rv) (g : S → Out Rv) (h : S → Out Rv) (dl : S) : dCh op1 op2 f g h dl = Kch op1 op2 g h (f dl) := rfl
def partO (d1 : S) : Option PyData → Out (Option Int)
  | some (.int i) => .ok (some i) d1
  | _ => .bad
theorem partO_i (d1 : S) (i : Int) : partO d1 (some (.int i)) = .ok (some i) d1 := rfl
def KPart  (o : Out Rv) : Out (Option Int) := o.bind fun r d => partO d (rd d r)
theorem KPart_  (r : Rv) (d : S) : KPart  (.ok r d) = partO d (rd d r) := rfl
theorem KPart_x  (cx : Str) (d : S) : KPart  (.ex cx d) = .ex cx d := rfl
theorem w_Part (f : S → Out Rv) (dl : S) : dPart f dl = KPart (f dl) := by unfold dPart KPart partO; rfl
def slO (l u : Option Int) : Option PyData → Option Rv
  | some a => oSl a l u
  | none => none
theorem slO_ (l u : Option Int) (a : PyData) : slO l u (some a) = oSl a l u := rfl
def KSl3 (r : Rv) (l : Option Int) (o : Out (Option Int)) : Out Rv := o.bind fun u d => fin (slO l u (rd d r)) d
theorem KSl3_ (r : Rv) (l : Option Int) (u : Option Int) (d : S) : KSl3 r l (.ok u d) = fin (slO l u (rd d r)) d := rfl
theorem KSl3_x (r : Rv) (l : Option Int) (cx : Str) (d : S) : KSl3 r l (.ex cx d) = .ex cx d := rfl
def KSl2 (hi : S → Out (Option Int)) (r : Rv) (o : Out (Option Int)) : Out Rv := o.bind fun l d => KSl3 r l (hi d)
theorem KSl2_ (hi : S → Out (Option Int)) (r : Rv) (l : Option Int) (d : S) : KSl2 hi r (.ok l d) = KSl3 r l (hi d) := rfl
theorem KSl2_x (hi : S → Out (Option Int)) (r : Rv) (cx : Str) (d : S) : KSl2 hi r (.ex cx d) = .ex cx d := rfl
def KSl (lo : S → Out (Option Int)) (hi : S → Out (Option Int)) (o : Out Rv) : Out Rv := o.bind fun r d => KSl2 hi r (lo d)
theorem KSl_ (lo : S → Out (Option Int)) (hi : S → Out (Option Int)) (r : Rv) (d : S) : KSl lo hi (.ok r d) = KSl2 hi r (lo d) := rfl
theorem KSl_x (lo : S → Out (Option Int)) (hi : S → Out (Option Int)) (cx : Str) (d : S) : KSl lo hi (.ex cx d) = .ex cx d := rfl
theorem w_Sl (f : S → Out Rv) (lo : S → Out (Option Int)) (hi : S → Out (Option Int)) (dl : S) : dSl f lo hi dl = KSl lo hi (f dl) := by unfold dSl KSl KSl2 KSl3 slO; congr; funext r d1; congr; funext l d2; congr; funext u d3; cases rd d3 r <;> rfl
def KDo  (o : Out Rv) : Fl := o.fl fun r d => .nx d
theorem KDo_  (r : Rv) (d : S) : KDo  (.ok r d) = .nx d := rfl
theorem KDo_x  (cx : Str) (d : S) : KDo  (.ex cx d) = .ex cx d := rfl
theorem w_Do (f : S → Out Rv) (dl : S) : dDo f dl = KDo (f dl) := rfl
def KRet  (o : Out Rv) : Fl := o.fl fun r d => .ret r d
theorem KRet_  (r : Rv) (d : S) : KRet  (.ok r d) = .ret r d := rfl
theorem KRet_x  (cx : Str) (d : S) : KRet  (.ex cx d) = .ex cx d := rfl
theorem w_Ret (f : S → Out Rv) (dl : S) : dRet f dl = KRet (f dl) := rfl
def KIf (f : S → Fl) (g : S → Fl) (o : Out Bool) : Fl := o.fl fun c d => iteF c f g d
theorem KIf_ (f : S → Fl) (g : S → Fl) (c : Bool) (d : S) : KIf f g (.ok c d) = iteF c f g d := rfl
theorem KIf_x (f : S → Fl) (g : S → Fl) (cx : Str) (d : S) : KIf f g (.ex cx d) = .ex cx d := rfl
theorem w_If (c : S → Out Bool) (f : S → Fl) (g : S → Fl) (dl : S) : dIf c f g dl = KIf f g (c dl) := rfl
def putK (i : Nat) : Option (PyData × S) → Option S
  | some (d, d1) => some (d1.set i (.val d))
  | none => none
theorem putK_ (i : Nat) (d : PyData) (d1 : S) : putK i (some (d, d1)) = some (d1.set i (.val d)) := rfl
theorem w_putl (dl : S) (i j : Nat) : putR dl i (.loc j) = putK i (stb dl (.loc j)) := by
  rw [ev_putl]; cases stb dl (.loc j) <;> rfl
def KSet (i : Nat) (o : Out Rv) : Fl := o.fl fun r d => ofO (putR d i r)
theorem KSet_ (i : Nat) (r : Rv) (d : S) : KSet i (.ok r d) = ofO (putR d i r) := rfl
theorem KSet_x (i : Nat) (cx : Str) (d : S) : KSet i (.ex cx d) = .ex cx d := rfl
theorem w_Set (i : Nat) (f : S → Out Rv) (dl : S) : dSet i f dl = KSet i (f dl) := rfl
def augR (i : Nat) (g : Int → Int → Int) (a : Int) (d1 : S) : Option PyData → Fl
  | some (.int b) => .nx (d1.set i (.val (.int (g a b))))
  | _ => .bad
theorem augR_i (i : Nat) (g : Int → Int → Int) (a b : Int) (d1 : S) : augR i g a d1 (some (.int b)) = .nx (d1.set i (.val (.int (g a b)))) := rfl
def KAug (i : Nat) (g : Int → Int → Int) (a : Int) (o : Out Rv) : Fl := o.fl fun r d => augR i g a d (rd d r)
theorem KAug_ (i : Nat) (g : Int → Int → Int) (a : Int) (r : Rv) (d : S) : KAug i g a (.ok r d) = augR i g a d (rd d r) := rfl
theorem KAug_x (i : Nat) (g : Int → Int → Int) (a : Int) (cx : Str) (d : S) : KAug i g a (.ex cx d) = .ex cx d := rfl
def augO (i : Nat) (g : Int → Int → Int) (f : S → Out Rv) (dl : S) : Option Sl → Fl
  | some (.val (.int a)) => KAug i g a (f dl)
  | _ => .bad
theorem w_Aug (i : Nat) (g : Int → Int → Int) (f : S → Out Rv) (dl : S) : dAug i g f dl = augO i g f dl dl[i]? := by
  unfold augO KAug augR
  rfl
theorem augO_i (i : Nat) (g : Int → Int → Int) (f : S → Out Rv) (dl : S) (a : Int) : augO i g f dl (some (.val (.int a))) = KAug i g a (f dl) := rfl
def unpO (is : List Nat) (d1 : S) : Option PyData → Fl
  | some (.tuple ds) => if ds.length = is.length then .nx (setAll d1 is ds) else .bad
  | _ => .bad
theorem unpO_2 (i j : Nat) (d1 : S) (a b : PyData) : unpO [i, j] d1 (some (.tuple [a, b])) = .nx ((d1.set i (.val a)).set j (.val b)) := rfl
theorem unpO_3 (i j k : Nat) (d1 : S) (a b c : PyData) : unpO [i, j, k] d1 (some (.tuple [a, b, c])) = .nx (((d1.set i (.val a)).set j (.val b)).set k (.val c)) := rfl
theorem w_tg2 (i j : Nat) (d1 : S) (a b : PyData) : tgT [i, j] d1 (.tuple [a, b]) = some ((d1.set i (.val a)).set j (.val b)) := rfl
theorem w_tg3 (i j k : Nat) (d1 : S) (a b c : PyData) : tgT [i, j, k] d1 (.tuple [a, b, c]) = some (((d1.set i (.val a)).set j (.val b)).set k (.val c)) := rfl
def KUnp (is : List Nat) (o : Out Rv) : Fl := o.fl fun r d => unpO is d (rd d r)
theorem KUnp_ (is : List Nat) (r : Rv) (d : S) : KUnp is (.ok r d) = unpO is d (rd d r) := rfl
theorem KUnp_x (is : List Nat) (cx : Str) (d : S) : KUnp is (.ex cx d) = .ex cx d := rfl
theorem w_Unp (is : List Nat) (f : S → Out Rv) (dl : S) : dUnp is f dl = KUnp is (f dl) := by unfold dUnp KUnp unpO; rfl
def chgK (dl : S) (i : Nat) (b : Bool) : Option (List PyData) → Option S
  | some ds => some (dl.set i (.own b ds))
  | none => none
theorem chgK_ (dl : S) (i : Nat) (b : Bool) (ds : List PyData) : chgK dl i b (some ds) = some (dl.set i (.own b ds)) := rfl
def chgO (dl : S) (i : Nat) (g : List PyData → Option (List PyData)) : Option Sl → Option S
  | some (.own b ds) => chgK dl i b (g ds)
  | _ => none
theorem w_chg (dl : S) (i : Nat) (g : List PyData → Option (List PyData)) : chg dl i g = chgO dl i g dl[i]? := by
  unfold chg chgO
  generalize dl[i]? = o
  cases o with
  | none => rfl
  | some s =>
    cases s with
    | no => rfl
    | val d => rfl
    | big m => rfl
    | own b ds =>
      show (g ds).map _ = chgK dl i b (g ds)
      cases g ds <;> rfl
theorem chgO_o (dl : S) (i : Nat) (g : List PyData → Option (List PyData)) (b : Bool) (ds : List PyData) : chgO dl i g (some (.own b ds)) = chgK dl i b (g ds) := rfl
def appK (i : Nat) : Option (PyData × S) → Option S
  | some (d, d1) => chg d1 i (app1 d)
  | none => none
theorem appK_ (i : Nat) (d : PyData) (d1 : S) : appK i (some (d, d1)) = chg d1 i (app1 d) := rfl
theorem w_appR (dl : S) (i : Nat) (r : Rv) : appR dl i r = appK i (stb dl r) := by
  unfold appR appK; cases stb dl r <;> rfl
theorem w_app1 {d : PyData} {ds : List PyData} (h : ds.length < 100000) : app1 d ds = some (ds ++ [d]) := by rw [ev_app1, if_pos h]
def KApp (i : Nat) (o : Out Rv) : Fl := o.fl fun r d => ofO (appR d i r)
theorem KApp_ (i : Nat) (r : Rv) (d : S) : KApp i (.ok r d) = ofO (appR d i r) := rfl
theorem KApp_x (i : Nat) (cx : Str) (d : S) : KApp i (.ex cx d) = .ex cx d := rfl
def KApp0 (i : Nat) (f : S → Out Rv) (dl : S) : Fl := KApp i (f dl)
theorem KApp0_ (i : Nat) (f : S → Out Rv) (dl : S) : KApp0 i f dl = KApp i (f dl) := rfl
theorem w_App (i : Nat) (f : S → Out Rv) (dl : S) : dApp i f dl = iteF (isOwn dl i) (KApp0 i f) KBad dl := rfl
def stIK (i : Nat) (k : Int) : Option (PyData × S) → Option S
  | some (d, d1) => chg d1 i (put1 k d)
  | none => none
theorem stIK_ (i : Nat) (k : Int) (d : PyData) (d1 : S) : stIK i k (some (d, d1)) = chg d1 i (put1 k d) := rfl
def stIO (dl : S) (i : Nat) (r : Rv) : Option PyData → Option S
  | some (.int k) => stIK i k (stb dl r)
  | _ => none
theorem w_stIR (dl : S) (i : Nat) (r ri : Rv) : stIR dl i r ri = stIO dl i r (rd dl ri) := by
  unfold stIR stIO
  generalize rd dl ri = o
  cases o with
  | none => rfl
  | some d =>
    cases d <;> try rfl
    rename_i k
    show (stb dl r).bind _ = stIK i k (stb dl r)
    cases stb dl r <;> rfl
theorem stIO_i (dl : S) (i : Nat) (r : Rv) (k : Int) : stIO dl i r (some (.int k)) = stIK i k (stb dl r) := rfl
theorem w_put1 {k : Nat} {d : PyData} {ds : List PyData} (h : k < ds.length) : put1 (k : Int) d ds = some (ds.set k d) := by
  unfold put1 ixN
  rw [if_pos (by omega), if_pos (by omega), Int.toNat_natCast]
  rfl
def KStI2 (i : Nat) (r : Rv) (o : Out Rv) : Fl := o.fl fun ri d => ofO (stIR d i r ri)
theorem KStI2_ (i : Nat) (r : Rv) (ri : Rv) (d : S) : KStI2 i r (.ok ri d) = ofO (stIR d i r ri) := rfl
theorem KStI2_x (i : Nat) (r : Rv) (cx : Str) (d : S) : KStI2 i r (.ex cx d) = .ex cx d := rfl
def KStI1 (i : Nat) (fi : S → Out Rv) (r : Rv) (d : S) : Fl := KStI2 i r (fi d)
theorem KStI1_ (i : Nat) (fi : S → Out Rv) (r : Rv) (d : S) : KStI1 i fi r d = KStI2 i r (fi d) := rfl
def KStI (i : Nat) (fi : S → Out Rv) (o : Out Rv) : Fl := o.fl fun r d => iteF (isOwn d i) (KStI1 i fi r) KBad d
theorem KStI_ (i : Nat) (fi : S → Out Rv) (r : Rv) (d : S) : KStI i fi (.ok r d) = iteF (isOwn d i) (KStI1 i fi r) KBad d := rfl
theorem KStI_x (i : Nat) (fi : S → Out Rv) (cx : Str) (d : S) : KStI i fi (.ex cx d) = .ex cx d := rfl
theorem w_StI (i : Nat) (fi : S → Out Rv) (fe : S → Out Rv) (dl : S) : dStI i fi fe dl = KStI i fi (fe dl) := rfl
def KIt  (o : Out Rv) : Out (List PyData) := o.bind fun r d => itD (stb d r)
theorem KIt_  (r : Rv) (d : S) : KIt  (.ok r d) = itD (stb d r) := rfl
theorem KIt_x  (cx : Str) (d : S) : KIt  (.ex cx d) = .ex cx d := rfl
theorem w_It (f : S → Out Rv) (dl : S) : dIt f dl = KIt (f dl) := rfl
def KRng1  (o : Out (List Rv)) : Out (List PyData) := o.bind fun rs d => rngA1 (rds d rs) d
theorem KRng1_  (rs : List Rv) (d : S) : KRng1  (.ok rs d) = rngA1 (rds d rs) d := rfl
theorem KRng1_x  (cx : Str) (d : S) : KRng1  (.ex cx d) = .ex cx d := rfl
theorem w_Rng1 (f : S → Out (List Rv)) (dl : S) : dRng1 f dl = KRng1 (f dl) := rfl
def KRng2  (o : Out (List Rv)) : Out (List PyData) := o.bind fun rs d => rngA2 (rds d rs) d
theorem KRng2_  (rs : List Rv) (d : S) : KRng2  (.ok rs d) = rngA2 (rds d rs) d := rfl
theorem KRng2_x  (cx : Str) (d : S) : KRng2  (.ex cx d) = .ex cx d := rfl
theorem w_Rng2 (f : S → Out (List Rv)) (dl : S) : dRng2 f dl = KRng2 (f dl) := rfl
def it2O (g : List PyData → List PyData → List PyData) : Option (List PyData × S) → Out (List PyData)
  | some ([.list a, .list b], d2) => .ok (g a b) d2
  | _ => .bad
theorem it2O_ (g : List PyData → List PyData → List PyData) (a b : List PyData) (d2 : S) : it2O g (some ([.list a, .list b], d2)) = .ok (g a b) d2 := rfl
def it1O (g : List PyData → List PyData) : Option (List PyData × S) → Out (List PyData)
  | some ([.list a], d2) => .ok (g a) d2
  | _ => .bad
theorem it1O_ (g : List PyData → List PyData) (a : List PyData) (d2 : S) : it1O g (some ([.list a], d2)) = .ok (g a) d2 := rfl
def KIt2 (g : List PyData → List PyData → List PyData) (o : Out (List Rv)) : Out (List PyData) := o.bind fun rs d => it2O g (stbs d rs)
theorem KIt2_ (g : List PyData → List PyData → List PyData) (rs : List Rv) (d : S) : KIt2 g (.ok rs d) = it2O g (stbs d rs) := rfl
theorem KIt2_x (g : List PyData → List PyData → List PyData) (cx : Str) (d : S) : KIt2 g (.ex cx d) = .ex cx d := rfl
theorem w_It2 (g : List PyData → List PyData → List PyData) (f : S → Out (List Rv)) (dl : S) : dIt2 g f dl = KIt2 g (f dl) := by unfold dIt2 KIt2 it2O; rfl
def KIt1 (g : List PyData → List PyData) (o : Out (List Rv)) : Out (List PyData) := o.bind fun rs d => it1O g (stbs d rs)
theorem KIt1_ (g : List PyData → List PyData) (rs : List Rv) (d : S) : KIt1 g (.ok rs d) = it1O g (stbs d rs) := rfl
theorem KIt1_x (g : List PyData → List PyData) (cx : Str) (d : S) : KIt1 g (.ex cx d) = .ex cx d := rfl
theorem w_It1 (g : List PyData → List PyData) (f : S → Out (List Rv)) (dl : S) : dIt1 g f dl = KIt1 g (f dl) := by unfold dIt1 KIt1 it1O; rfl
def KFor (put : S → PyData → Option S) (body : S → Fl) (o : Out (List PyData)) : Fl := o.fl fun ds d => forD put body ds d
theorem KFor_ (put : S → PyData → Option S) (body : S → Fl) (ds : List PyData) (d : S) : KFor put body (.ok ds d) = forD put body ds d := rfl
theorem KFor_x (put : S → PyData → Option S) (body : S → Fl) (cx : Str) (d : S) : KFor put body (.ex cx d) = .ex cx d := rfl
theorem w_For (it : S → Out (List PyData)) (put : S → PyData → Option S) (body : S → Fl) (dl : S) : dFor it put body dl = KFor put body (it dl) := rfl
def KComp (vs : List Nat) (put : S → PyData → Option S) (c : S → Out Bool) (f : S → Out Rv) (o : Out (List PyData)) : Out Rv := o.bind fun ds d => endC d vs (compD vs put c f ds (wipeD d vs) [])
theorem KComp_ (vs : List Nat) (put : S → PyData → Option S) (c : S → Out Bool) (f : S → Out Rv) (ds : List PyData) (d : S) : KComp vs put c f (.ok ds d) = endC d vs (compD vs put c f ds (wipeD d vs) []) := rfl
theorem KComp_x (vs : List Nat) (put : S → PyData → Option S) (c : S → Out Bool) (f : S → Out Rv) (cx : Str) (d : S) : KComp vs put c f (.ex cx d) = .ex cx d := rfl
theorem w_Comp (it : S → Out (List PyData)) (vs : List Nat) (put : S → PyData → Option S) (c : S → Out Bool) (f : S → Out Rv) (dl : S) : dComp it vs put c f dl = KComp vs put c f (it dl) := rfl
def KCall (n : Nat) (g : Fn) (o : Out (List Rv)) : Out Rv := o.bind fun rs d => callP n g (stbs d rs)
theorem KCall_ (n : Nat) (g : Fn) (rs : List Rv) (d : S) : KCall n g (.ok rs d) = callP n g (stbs d rs) := rfl
theorem KCall_x (n : Nat) (g : Fn) (cx : Str) (d : S) : KCall n g (.ex cx d) = .ex cx d := rfl
theorem w_Call (n : Nat) (g : Fn) (fa : S → Out (List Rv)) (dl : S) : dCall n g fa dl = KCall n g (fa dl) := rfl
def KCallI (n : Nat) (g : Fn) (i : Nat) (o : Out (List Rv)) : Out Rv := o.bind fun rs d => callI n g i (stbs d rs)
theorem KCallI_ (n : Nat) (g : Fn) (i : Nat) (rs : List Rv) (d : S) : KCallI n g i (.ok rs d) = callI n g i (stbs d rs) := rfl
theorem KCallI_x (n : Nat) (g : Fn) (i : Nat) (cx : Str) (d : S) : KCallI n g i (.ex cx d) = .ex cx d := rfl
def KCallI0 (n : Nat) (g : Fn) (i : Nat) (fr : S → Out (List Rv)) (dl : S) : Out Rv := KCallI n g i (fr dl)
theorem KCallI0_ (n : Nat) (g : Fn) (i : Nat) (fr : S → Out (List Rv)) (dl : S) : KCallI0 n g i fr dl = KCallI n g i (fr dl) := rfl
theorem w_CallI (n : Nat) (g : Fn) (i : Nat) (fr : S → Out (List Rv)) (dl : S) : dCallI n g i fr dl = iteO (isOwn dl i) (KCallI0 n g i fr) KBadO dl := rfl
theorem w_mkTup {ds : List PyData} {dl : S} (h : ds.length ≤ 100000) : mkTup (some (ds, dl)) = .ok (.val (.tuple ds)) dl := by rw [ev_mkTup, if_pos h]
theorem w_mkLst {ds : List PyData} {dl : S} (h : ds.length ≤ 100000) : mkLst (some (ds, dl)) = .ok (.new ds) dl := by rw [ev_mkLst, if_pos h]
def rdsK2 (d : PyData) : Option (List PyData) → Option (List PyData)
  | some ds => some (d :: ds)
  | none => none
theorem rdsK2_ (d : PyData) (ds : List PyData) : rdsK2 d (some ds) = some (d :: ds) := rfl
def rdsK (dl : S) (rs : List Rv) : Option PyData → Option (List PyData)
  | some d => rdsK2 d (rds dl rs)
  | none => none
theorem rdsK_ (dl : S) (rs : List Rv) (d : PyData) : rdsK dl rs (some d) = rdsK2 d (rds dl rs) := rfl
theorem w_rds (dl : S) (r : Rv) (rs : List Rv) : rds dl (r :: rs) = rdsK dl rs (rd dl r) := by
  rw [ev_rds]; unfold rdsK rdsK2
  cases rd dl r with
  | none => rfl
  | some d => dsimp only [Option.bind_some]; cases rds dl rs <;> rfl
def stbsK2 (d : PyData) : Option (List PyData × S) → Option (List PyData × S)
  | some (ds, d2) => some (d :: ds, d2)
  | none => none
theorem stbsK2_ (d : PyData) (ds : List PyData) (d2 : S) : stbsK2 d (some (ds, d2)) = some (d :: ds, d2) := rfl
def stbsK (rs : List Rv) : Option (PyData × S) → Option (List PyData × S)
  | some (d, d1) => stbsK2 d (stbs d1 rs)
  | none => none
theorem stbsK_ (rs : List Rv) (d : PyData) (d1 : S) : stbsK rs (some (d, d1)) = stbsK2 d (stbs d1 rs) := rfl
theorem w_stbs (dl : S) (r : Rv) (rs : List Rv) : stbs dl (r :: rs) = stbsK rs (stb dl r) := by
  rw [ev_stbs]; unfold stbsK stbsK2
  cases stb dl r with
  | none => rfl
  | some d => dsimp only [Option.bind_some]; cases stbs d.2 rs <;> rfl
theorem cP0 (g : Fn) (dl : S) : callP 0 g (some ([], dl)) = asE (g [] []) dl := rfl
theorem cP1 (g : Fn) (a : PyData) (dl : S) : callP 1 g (some ([a], dl)) = asE (g [] [a]) dl := rfl
theorem cP2 (g : Fn) (a b : PyData) (dl : S) : callP 2 g (some ([a, b], dl)) = asE (g [] [a, b]) dl := rfl
theorem cP3 (g : Fn) (a b c : PyData) (dl : S) : callP 3 g (some ([a, b, c], dl)) = asE (g [] [a, b, c]) dl := rfl
theorem cP4 (g : Fn) (a b c d : PyData) (dl : S) : callP 4 g (some ([a, b, c, d], dl)) = asE (g [] [a, b, c, d]) dl := rfl
theorem cP5 (g : Fn) (a b c d e : PyData) (dl : S) : callP 5 g (some ([a, b, c, d, e], dl)) = asE (g [] [a, b, c, d, e]) dl := rfl
theorem cP6 (g : Fn) (a b c d e f : PyData) (dl : S) : callP 6 g (some ([a, b, c, d, e, f], dl)) = asE (g [] [a, b, c, d, e, f]) dl := rfl
theorem cP7 (g : Fn) (a b c d e f h : PyData) (dl : S) : callP 7 g (some ([a, b, c, d, e, f, h], dl)) = asE (g [] [a, b, c, d, e, f, h]) dl := rfl
def cIO (g : Fn) (i : Nat) (ds : List PyData) (d2 : S) : Option Sl → Out Rv
  | some (.own b st) => asE (g st ds) (d2.set i (.own b (stF (g st ds))))
  | _ => .bad
theorem cIO_o (g : Fn) (i : Nat) (ds : List PyData) (d2 : S) (b : Bool) (st : List PyData) : cIO g i ds d2 (some (.own b st)) = asE (g st ds) (d2.set i (.own b (stF (g st ds)))) := rfl
theorem cI1 (g : Fn) (j : Nat) (d2 : S) : callI 1 g j (some ([], d2)) = cIO g j [] d2 d2[j]? := by
  unfold callI cIO; rfl
theorem cI2 (g : Fn) (j : Nat) (a : PyData) (d2 : S) : callI 2 g j (some ([a], d2)) = cIO g j [a] d2 d2[j]? := by
  unfold callI cIO; rfl
theorem cI3 (g : Fn) (j : Nat) (a b : PyData) (d2 : S) : callI 3 g j (some ([a, b], d2)) = cIO g j [a, b] d2 d2[j]? := by
  unfold callI cIO; rfl
theorem cI4 (g : Fn) (j : Nat) (a b c : PyData) (d2 : S) : callI 4 g j (some ([a, b, c], d2)) = cIO g j [a, b, c] d2 d2[j]? := by
  unfold callI cIO; rfl
theorem cI5 (g : Fn) (j : Nat) (a b c d : PyData) (d2 : S) : callI 5 g j (some ([a, b, c, d], d2)) = cIO g j [a, b, c, d] d2 d2[j]? := by
  unfold callI cIO; rfl
theorem cI6 (g : Fn) (j : Nat) (a b c d e : PyData) (d2 : S) : callI 6 g j (some ([a, b, c, d, e], d2)) = cIO g j [a, b, c, d, e] d2 d2[j]? := by
  unfold callI cIO; rfl
theorem cI7 (g : Fn) (j : Nat) (a b c d e f : PyData) (d2 : S) : callI 7 g j (some ([a, b, c, d, e, f], d2)) = cIO g j [a, b, c, d, e, f] d2 d2[j]? := by
  unfold callI cIO; rfl
def stOO : Option Sl → Option (List PyData)
  | some (.own true st) => some st
  | _ => none
theorem w_stOt (dl : S) : stO true dl = stOO dl[(0 : Nat)]? := by
  unfold stO stOO
  rfl
theorem stOO_o (st : List PyData) : stOO (some (.own true st)) = some st := rfl
def retO (st : List PyData) : Option Sl → Fo
    | some (.val d) => .val d st
    | some (.own false ds) => .new ds st
    | _ => .bad
theorem w_retFl (i : Nat) (dl : S) (st : List PyData) : retF (.loc i) dl st = retO st dl[i]? := by
  unfold retF retO
  rfl
theorem retO_v (st : List PyData) (d : PyData) : retO st (some (.val d)) = .val d st := rfl
theorem retO_o (st ds : List PyData) : retO st (some (.own false ds)) = .new ds st := rfl
def finO (r : Rv) (dl : S) : Option (List PyData) → Fo
  | some st => retF r dl st
  | none => .bad
theorem w_finR (io : Bool) (r : Rv) (dl : S) : finF io (.ret r dl) = finO r dl (stO io dl) := by
  unfold finF finO
  rfl
theorem w_finN (io : Bool) (dl : S) : finF io (.nx dl) = finO (.val .none) dl (stO io dl) := by
  rw [ev_finN]
  cases stO io dl <;> rfl
theorem finO_s (r : Rv) (dl : S) (st : List PyData) : finO r dl (some st) = retF r dl st := rfl
theorem w_runF (io : Bool) (m n : Nat) (fb : S → Fl) (st ds : List PyData) : runF io m n fb st ds = finF io (fb (mkA io st ds ++ List.replicate (n - m) Sl.no)) := rfl
theorem rp0 : List.replicate 0 Sl.no = [] := rfl
theorem rpS (n : Nat) : List.replicate (n + 1) Sl.no = .no :: List.replicate n .no := rfl
theorem asE_x (c : Str) (st : List PyData) (dl : S) : asE (.ex c st) dl = .ex c dl := rfl
theorem stF_x (c : Str) (st : List PyData) : stF (.ex c st) = st := rfl
def finX (c : Str) : Option (List PyData) → Fo
  | some st => .ex c st
  | none => .bad
theorem finX_s (c : Str) (st : List PyData) : finX c (some st) = .ex c st := rfl
theorem w_finX (io : Bool) (c : Str) (dl : S) : finF io (.ex c dl) = finX c (stO io dl) := by
  show (match stO io dl with | some st => Fo.ex c st | none => Fo.bad) = _
  cases stO io dl <;> rfl
end DL
namespace DL
open PySem L2
abbrev vN (n : Nat) : Option Rv := some (.val (nI n))
theorem n_add (a b : Nat) : oAdd (nI a) (nI b) = vN (a + b) := by
  show vI ((a : Int) + (b : Int)) = _
  rw [← Int.natCast_add]; rfl
theorem n_sub {a b : Nat} (h : b ≤ a) : oSub (nI a) (nI b) = vN (a - b) := by
  show vI ((a : Int) - (b : Int)) = _
  rw [← Int.ofNat_sub h]; rfl
theorem n_mul {a b : Nat} (h : a < 18446744073709551616 ∨ b < 18446744073709551616) : oMul (nI a) (nI b) = vN (a * b) := by
  rw [ev_oMul, if_pos (by omega), ← Int.natCast_mul]; rfl
theorem n_mod {a b : Nat} (h : 0 < b) : oMod (nI a) (nI b) = vN (a % b) := by
  rw [ev_oMod, if_pos (by omega), ← Int.natCast_emod]; rfl
theorem n_div {a b : Nat} (h : 0 < b ∧ b < 1073741824) : oDiv (nI a) (nI b) = vN (a / b) := by
  rw [ev_oDiv, if_pos (by omega), ← Int.natCast_ediv]; rfl
theorem n_shl {a b : Nat} (h : b ≤ 1000000 ∧ a < 18446744073709551616) : oShl (nI a) (nI b) = vN (a * 2 ^ b) := by
  rw [ev_oShl, if_pos (by omega), Int.toNat_natCast]
  show some (Rv.val (PyData.int _)) = some (Rv.val (PyData.int _))
  rw [Int.natCast_mul, Int.natCast_pow]; rfl
theorem n_shl1 {b : Nat} (h : b ≤ 1000000) : oShl (nI 1) (nI b) = vN (2 ^ b) := by
  rw [n_shl ⟨h, by decide⟩, Nat.one_mul]
theorem n_shr (a b : Nat) : oShr (nI a) (nI b) = vN (a / 2 ^ b) := by
  rw [ev_oShr, if_pos (by omega), Int.toNat_natCast, shr_nat]; rfl
theorem n_pow {a b : Nat} (h : b ≤ 1000000 ∧ a < 18446744073709551616) : oPow (nI a) (nI b) = vN (a ^ b) := by
  rw [ev_oPow, if_pos (by omega), Int.toNat_natCast, ← Int.natCast_pow]; rfl
theorem n_and (a b : Nat) : oAnd (nI a) (nI b) = vN (a &&& b) := by
  rw [ev_oAnd, bitAnd_nat]; rfl
theorem n_or (a b : Nat) : oOr (nI a) (nI b) = vN (a ||| b) := by
  rw [ev_oOr, bitOr_nat]; rfl
theorem xor_and_or : ∀ (n a b : Nat), a ≤ n → (a ^^^ b) + (a &&& b) = a ||| b
  | 0, a, b, h => by
    have : a = 0 := by omega
    subst this
    simp
  | n + 1, a, b, h => by
    by_cases h0 : a = 0
    · subst h0; simp
    · have ih := xor_and_or n (a / 2) (b / 2) (by omega)
      rw [← Nat.xor_div_two, ← Nat.and_div_two, ← Nat.or_div_two] at ih
      have m1 := Nat.xor_mod_two_pow (a := a) (b := b) (n := 1)
      have m2 := Nat.and_mod_two_pow (a := a) (b := b) (n := 1)
      have m3 := Nat.or_mod_two_pow (a := a) (b := b) (n := 1)
      have ha := Nat.mod_two_eq_zero_or_one a
      have hb := Nat.mod_two_eq_zero_or_one b
      rw [Nat.pow_one] at m1 m2 m3
      rcases ha with ha | ha <;> rcases hb with hb | hb <;> rw [ha, hb] at m1 m2 m3 <;> simp only [show (0 ^^^ 0 : Nat) = 0 from rfl, show (0 ^^^ 1 : Nat) = 1 from rfl, show (1 ^^^ 0 : Nat) = 1 from rfl, show (1 ^^^ 1 : Nat) = 0 from rfl, show (0 &&& 0 : Nat) = 0 from rfl, show (0 &&& 1 : Nat) = 0 from rfl, show (1 &&& 0 : Nat) = 0 from rfl, show (1 &&& 1 : Nat) = 1 from rfl, show (0 ||| 0 : Nat) = 0 from rfl, show (0 ||| 1 : Nat) = 1 from rfl, show (1 ||| 0 : Nat) = 1 from rfl, show (1 ||| 1 : Nat) = 1 from rfl] at m1 m2 m3 <;> omega
theorem bitXor_nat (a b : Nat) : Builtin.bitXor (a : Int) (b : Int) = ((a ^^^ b : Nat) : Int) := by
  unfold Builtin.bitXor
  rw [bitOr_nat, bitAnd_nat]
  have := xor_and_or a a b (Nat.le_refl _)
  omega
theorem n_xor (a b : Nat) : oXor (nI a) (nI b) = vN (a ^^^ b) := by
  rw [ev_oXor, bitXor_nat]; rfl
theorem n_lt (a b : Nat) : oLt (nI a) (nI b) = vB (decide (a < b)) := by
  rw [ev_oLt]; congr 1; exact decide_eq_decide.mpr Int.ofNat_lt
theorem n_le (a b : Nat) : oLe (nI a) (nI b) = vB (decide (a ≤ b)) := by
  rw [ev_oLe]; congr 1; exact decide_eq_decide.mpr Int.ofNat_le
theorem n_gt (a b : Nat) : oGt (nI a) (nI b) = vB (decide (b < a)) := by
  rw [ev_oGt]; congr 1; exact decide_eq_decide.mpr Int.ofNat_lt
theorem n_ge (a b : Nat) : oGe (nI a) (nI b) = vB (decide (b ≤ a)) := by
  rw [ev_oGe]; congr 1; exact decide_eq_decide.mpr Int.ofNat_le
theorem n_eq (a b : Nat) : oEq (nI a) (nI b) = vB (decide (a = b)) := by
  rw [ev_oEqI]; congr 1; exact decide_eq_decide.mpr (by omega)
theorem n_ne (a b : Nat) : oNe (nI a) (nI b) = vB (!decide (a = b)) := by
  rw [ev_oNeI]; congr 2; exact decide_eq_decide.mpr (by omega)
theorem bt1 (a s : Nat) : decide ((a / 2 ^ s) &&& 1 = 1) = a.testBit s := by
  rw [Nat.testBit_eq_decide_div_mod_eq, Nat.and_one_is_mod]
theorem bt0 (a s : Nat) : decide ((a / 2 ^ s) &&& 1 = 0) = !a.testBit s := by
  rw [Nat.testBit_eq_decide_div_mod_eq, Nat.and_one_is_mod]
  have := Nat.mod_two_eq_zero_or_one (a / 2 ^ s)
  rcases this with h | h <;> simp [h]
theorem d_ltT {a b : Nat} (h : a < b) : decide (a < b) = true := decide_eq_true h
theorem d_ltF {a b : Nat} (h : b ≤ a) : decide (a < b) = false := decide_eq_false (by omega)
theorem d_leT {a b : Nat} (h : a ≤ b) : decide (a ≤ b) = true := decide_eq_true h
theorem d_leF {a b : Nat} (h : b < a) : decide (a ≤ b) = false := decide_eq_false (by omega)
theorem d_eqT {a b : Nat} (h : a = b) : decide (a = b) = true := decide_eq_true h
theorem d_eqF {a b : Nat} (h : a ≠ b) : decide (a = b) = false := decide_eq_false h
theorem c_eq (x : Option Nat) (c : Nat) : oEq (cell x) (nI c) = vB (decide (x = some c)) := oEq_cell x c
theorem c_ne (x : Option Nat) (c : Nat) : oNe (cell x) (nI c) = vB (!decide (x = some c)) := by
  unfold oNe
  rw [sh_cell, sh_int, eqv_cell]
  rfl
theorem eqv_cells (x y : Option Nat) : PyData.eqv (cell x) (cell y) = decide (x = y) := by
  cases y with
  | some d => exact eqv_cell x d
  | none => cases x <;> rfl
theorem c_eqc (x y : Option Nat) : oEq (cell x) (cell y) = vB (decide (x = y)) := by
  unfold oEq
  rw [sh_cell, sh_cell, eqv_cells]
  rfl
theorem c_nec (x y : Option Nat) : oNe (cell x) (cell y) = vB (!decide (x = y)) := by
  unfold oNe
  rw [sh_cell, sh_cell, eqv_cells]
  rfl
theorem c_isN (x : Option Nat) : isNone (cell x) = x.isNone := by cases x <;> rfl
theorem l_ix {A : Type} [Inhabited A] {enc : A → PyData} {xs : List A} {i : Nat} (h : i < xs.length) : oIx (.list (xs.map enc)) (nI i) = some (.val (enc xs[i]!)) := by
  rw [ev_oIxL, atI_of (a := enc xs[i]!) (by omega) (by rw [Int.toNat_natCast, List.getElem?_map, List.getElem?_eq_getElem h, getElem!_pos xs i h]; rfl)]
  rfl
theorem t_ix {A : Type} [Inhabited A] {enc : A → PyData} {xs : List A} {i : Nat} (h : i < xs.length) : oIx (.tuple (xs.map enc)) (nI i) = some (.val (enc xs[i]!)) := by
  rw [ev_oIxT, atI_of (a := enc xs[i]!) (by omega) (by rw [Int.toNat_natCast, List.getElem?_map, List.getElem?_eq_getElem h, getElem!_pos xs i h]; rfl)]
  rfl
theorem l_ix0 (a : PyData) (l : List PyData) : oIx (.list (a :: l)) (nI 0) = some (.val a) := by
  rw [ev_oIxL, show ((0 : Nat) : Int) = 0 from rfl, atI0]; rfl
theorem l_ix1 (a b : PyData) (l : List PyData) : oIx (.list (a :: b :: l)) (nI 1) = some (.val b) := by
  rw [ev_oIxL, show ((1 : Nat) : Int) = 1 from rfl, atI1]; rfl
theorem l_ix2 (a b c : PyData) (l : List PyData) : oIx (.list (a :: b :: c :: l)) (nI 2) = some (.val c) := by
  rw [ev_oIxL, atI_of (a := c) (by omega) (by rw [Int.toNat_natCast]; rfl)]; rfl
theorem l_ix3 (a b c d : PyData) (l : List PyData) : oIx (.list (a :: b :: c :: d :: l)) (nI 3) = some (.val d) := by
  rw [ev_oIxL, atI_of (a := d) (by omega) (by rw [Int.toNat_natCast]; rfl)]; rfl
theorem l_ix4 (a b c d e : PyData) (l : List PyData) : oIx (.list (a :: b :: c :: d :: e :: l)) (nI 4) = some (.val e) := by
  rw [ev_oIxL, atI_of (a := e) (by omega) (by rw [Int.toNat_natCast]; rfl)]; rfl
theorem l_ix5 (a b c d e f : PyData) (l : List PyData) : oIx (.list (a :: b :: c :: d :: e :: f :: l)) (nI 5) = some (.val f) := by
  rw [ev_oIxL, atI_of (a := f) (by omega) (by rw [Int.toNat_natCast]; rfl)]; rfl
theorem t_ix0 (a : PyData) (l : List PyData) : oIx (.tuple (a :: l)) (nI 0) = some (.val a) := by
  rw [ev_oIxT, show ((0 : Nat) : Int) = 0 from rfl, atI0]; rfl
theorem t_ix1 (a b : PyData) (l : List PyData) : oIx (.tuple (a :: b :: l)) (nI 1) = some (.val b) := by
  rw [ev_oIxT, show ((1 : Nat) : Int) = 1 from rfl, atI1]; rfl
theorem t_ix2 (a b c : PyData) (l : List PyData) : oIx (.tuple (a :: b :: c :: l)) (nI 2) = some (.val c) := by
  rw [ev_oIxT, atI_of (a := c) (by omega) (by rw [Int.toNat_natCast]; rfl)]; rfl
theorem l_len (ds : List PyData) : bLen [.list ds] = vN ds.length := rfl
theorem t_len (ds : List PyData) : bLen [.tuple ds] = vN ds.length := rfl
theorem cut_to (A : List PyData) (a : Nat) : DL.cutD A none (some (a : Int)) = A.take a := by
  unfold DL.cutD
  rw [HT.sIx_none, HT.sIx_nat, List.drop_zero, Nat.sub_zero]
  by_cases h : a ≤ A.length
  · rw [Nat.min_eq_left h]
  · rw [Nat.min_eq_right (by omega), List.take_of_length_le (Nat.le_refl _), List.take_of_length_le (by omega)]
theorem cut_from (A : List PyData) (a : Nat) : DL.cutD A (some (a : Int)) none = A.drop a := by
  unfold DL.cutD
  rw [HT.sIx_none, HT.sIx_nat]
  by_cases h : a ≤ A.length
  · rw [Nat.min_eq_left h, List.take_of_length_le]
    rw [List.length_drop]
    exact Nat.le_refl _
  · rw [Nat.min_eq_right (by omega), List.drop_of_length_le (Nat.le_refl _), List.drop_of_length_le (by omega), List.take_nil]
theorem l_addL {a b : List PyData} (h : a.length + b.length ≤ 100000) : oAdd (.list a) (.list b) = some (.new (a ++ b)) := by rw [ev_oAddL, if_pos h]
theorem t_addT {a b : List PyData} (h : a.length + b.length ≤ 100000) : oAdd (.tuple a) (.tuple b) = some (.val (.tuple (a ++ b))) := by rw [ev_oAddT, if_pos h]
theorem w_rng1 {n : Nat} {dl : S} (h : n ≤ 1000000) : rngA1 (some [nI n]) dl = .ok ((List.range n).map nI) dl := by
  rw [ev_rngA1, if_pos (by omega), Int.toNat_natCast, rng_nats]
theorem w_rng2 {a b : Nat} {dl : S} (h : a ≤ 1000000 ∧ b ≤ 1000000) : rngA2 (some [nI a, nI b]) dl = .ok ((List.range' a (b - a)).map nI) dl := by
  rw [ev_rngA2, if_pos (by omega), show ((b : Int) - (a : Int)).toNat = b - a by omega]
  unfold rngD
  rw [List.range'_eq_map_range, List.map_map]
  congr 1
theorem n_max2 (a b : Nat) : bMax2 [nI a, nI b] = vN (max a b) := by
  rw [ev_bMax2]
  show some (Rv.val (PyData.int _)) = some (Rv.val (PyData.int _))
  congr 3
  split <;> omega
theorem n_min2 (a b : Nat) : bMin2 [nI a, nI b] = vN (min a b) := by
  rw [ev_bMin2]
  show some (Rv.val (PyData.int _)) = some (Rv.val (PyData.int _))
  congr 3
  split <;> omega
theorem n_sum (ns : List Nat) : bSum [.list (ns.map nI)] = vN ns.sum := by
  rw [show ns.map nI = (ns.map (fun (n : Nat) => (n : Int))).map PyData.int by rw [List.map_map]; rfl, bSum_int]
  show some (Rv.val (PyData.int _)) = some (Rv.val (PyData.int _))
  congr 3
  induction ns with
  | nil => rfl
  | cons a l ih => rw [List.map_cons, List.sum_cons, List.sum_cons, ih]; omega
theorem b_all (bs : List Bool) : bAll [.list (bs.map PyData.bool)] = vB (bs.all id) := by
  show (allB _).bind _ = _
  rw [allB_bools]; rfl
theorem b_any (bs : List Bool) : bAny [.list (bs.map PyData.bool)] = vB (bs.any id) := by
  show (allB _).bind _ = _
  rw [allB_bools]; rfl
theorem b_all0 : bAll [.list []] = vB true := rfl
theorem b_intB (b : Bool) : bInt [.bool b] = vN b.toNat := by cases b <;> rfl
theorem b_intN (n : Nat) : bInt [nI n] = vN n := rfl
theorem i_intI (i : Int) : oIsi "int" (.int i) = vB true := ev_isiII i
theorem i_boolI (i : Int) : oIsi "bool" (.int i) = vB false := ev_isiBI i
theorem i_intB (b : Bool) : oIsi "int" (.bool b) = vB true := isi_of (by rw [show tyD (.bool b) = "bool" from rfl]; decide +kernel)
theorem i_boolB (b : Bool) : oIsi "bool" (.bool b) = vB true := isi_of (by rw [show tyD (.bool b) = "bool" from rfl]; decide +kernel)
theorem i_tupT (ds : List PyData) : oIsi "tuple" (.tuple ds) = vB true := ev_isiTT ds
theorem i_lstL (ds : List PyData) : oIsi "list" (.list ds) = vB true := ev_isiLL ds
theorem i_tupL (ds : List PyData) : oIsi "tuple" (.list ds) = vB false := isi_of (by rw [show tyD (.list ds) = "list" from rfl]; decide +kernel)
theorem i_lstT (ds : List PyData) : oIsi "list" (.tuple ds) = vB false := isi_of (by rw [show tyD (.tuple ds) = "tuple" from rfl]; decide +kernel)
theorem i_intT (ds : List PyData) : oIsi "int" (.tuple ds) = vB false := isi_of (by rw [show tyD (.tuple ds) = "tuple" from rfl]; decide +kernel)
theorem i_intL (ds : List PyData) : oIsi "int" (.list ds) = vB false := isi_of (by rw [show tyD (.list ds) = "list" from rfl]; decide +kernel)
theorem i_tupI (i : Int) : oIsi "tuple" (.int i) = vB false := isi_of (by rw [show tyD (.int i) = "int" from rfl]; decide +kernel)
theorem i_lstI (i : Int) : oIsi "list" (.int i) = vB false := isi_of (by rw [show tyD (.int i) = "int" from rfl]; decide +kernel)
theorem i_intN : oIsi "int" .none = vB false := isi_of (by rw [show tyD .none = "NoneType" from rfl]; decide +kernel)
theorem i_tupN : oIsi "tuple" .none = vB false := isi_of (by rw [show tyD .none = "NoneType" from rfl]; decide +kernel)
theorem i_lstN : oIsi "list" .none = vB false := isi_of (by rw [show tyD .none = "NoneType" from rfl]; decide +kernel)
theorem i_intS (x : Str) : oIsi "int" (.str x) = vB false := isi_of (by rw [show tyD (.str x) = "str" from rfl]; decide +kernel)
theorem i_tupS (x : Str) : oIsi "tuple" (.str x) = vB false := isi_of (by rw [show tyD (.str x) = "str" from rfl]; decide +kernel)
theorem i_lstS (x : Str) : oIsi "list" (.str x) = vB false := isi_of (by rw [show tyD (.str x) = "str" from rfl]; decide +kernel)
theorem i_tupB (b : Bool) : oIsi "tuple" (.bool b) = vB false := isi_of (by rw [show tyD (.bool b) = "bool" from rfl]; decide +kernel)
theorem i_lstB (b : Bool) : oIsi "list" (.bool b) = vB false := isi_of (by rw [show tyD (.bool b) = "bool" from rfl]; decide +kernel)
theorem r_isN (a : PyData) : oIsN a .none = vB (isNone a) := rfl
theorem r_notN (a : PyData) : oNotN a .none = vB (!isNone a) := rfl
inductive SOk (N : S → Prop) (R : Rv → S → Prop) : Fl → Prop
  | nx {dl : S} : N dl → SOk N R (.nx dl)
  | ret {r : Rv} {dl : S} : R r dl → SOk N R (.ret r dl)
inductive LOk (N : S → Prop) (B : S → Prop) (R : Rv → S → Prop) : Fl → Prop
  | nx {dl : S} : N dl → LOk N B R (.nx dl)
  | cnt {dl : S} : N dl → LOk N B R (.cnt dl)
  | brk {dl : S} : B dl → LOk N B R (.brk dl)
  | ret {r : Rv} {dl : S} : R r dl → LOk N B R (.ret r dl)
theorem wp_nx (N : S → Prop) (R : Rv → S → Prop) (dl : S) : SOk N R (.nx dl) = N dl := propext ⟨fun h => by cases h; assumption, .nx⟩
theorem wp_ret (N : S → Prop) (R : Rv → S → Prop) (r : Rv) (dl : S) : SOk N R (.ret r dl) = R r dl := propext ⟨fun h => by cases h; assumption, .ret⟩
theorem wl_nx (N B : S → Prop) (R : Rv → S → Prop) (dl : S) : LOk N B R (.nx dl) = N dl := propext ⟨fun h => by cases h; assumption, .nx⟩
theorem wl_cnt (N B : S → Prop) (R : Rv → S → Prop) (dl : S) : LOk N B R (.cnt dl) = N dl := propext ⟨fun h => by cases h; assumption, .cnt⟩
theorem wl_brk (N B : S → Prop) (R : Rv → S → Prop) (dl : S) : LOk N B R (.brk dl) = B dl := propext ⟨fun h => by cases h; assumption, .brk⟩
theorem wl_ret (N B : S → Prop) (R : Rv → S → Prop) (r : Rv) (dl : S) : LOk N B R (.ret r dl) = R r dl := propext ⟨fun h => by cases h; assumption, .ret⟩
theorem wp_seq {N : S → Prop} {R : Rv → S → Prop} {o : Fl} {g : S → Fl} (M : S → Prop) (h : SOk M R o) (k : ∀ d, M d → SOk N R (g d)) : SOk N R (seqO o g) := by
  cases h with
  | nx h => exact k _ h
  | ret h => exact .ret h
theorem wp_for {put : S → PyData → Option S} {body : S → Fl} {R : Rv → S → Prop} (I : S → Prop) : ∀ {ds : List PyData} {dl : S}, I dl → (∀ d dl, d ∈ ds → I dl → ∃ d1, put dl d = some d1 ∧ LOk I I R (body d1)) → SOk I R (forD put body ds dl)
  | [], dl, h0, _ => .nx h0
  | d :: ds, dl, h0, hs => by
    obtain ⟨d1, e1, e2⟩ := hs d dl List.mem_cons_self h0
    rw [ev_for1, e1]
    dsimp only
    cases e : body d1 with
    | nx d2 => rw [e, wl_nx] at e2; exact wp_for I (ds := ds) e2 fun d dl hd hi => hs d dl (List.mem_cons_of_mem _ hd) hi
    | cnt d2 => rw [e, wl_cnt] at e2; exact wp_for I (ds := ds) e2 fun d dl hd hi => hs d dl (List.mem_cons_of_mem _ hd) hi
    | brk d2 => rw [e, wl_brk] at e2; exact .nx e2
    | ret r d2 => rw [e, wl_ret] at e2; exact .ret e2
    | ex c d2 => rw [e] at e2; cases e2
    | bad => rw [e] at e2; cases e2
theorem cmp_go {A B : Type} {v : Nat} {c : S → Out Bool} {f : S → Out Rv} {dn : S} {enc : A → PyData} (p : A → Bool) (g : A → B) (enc' : B → PyData) (hv : (dn.set v .no) = dn) : ∀ {xs : List A} {acc : List PyData},
    (∀ x ∈ xs, c (dn.set v (.val (enc x))) = .ok (p x) (dn.set v (.val (enc x))) ∧ (p x = true → ∃ r, f (dn.set v (.val (enc x))) = .ok r (dn.set v (.val (enc x))) ∧ stb (dn.set v (.val (enc x))) r = some (enc' (g x), dn.set v (.val (enc x))))) →
    acc.length + xs.length ≤ 100000 → compD [v] (tgN v) c f (xs.map enc) dn acc = some (acc ++ ((xs.filter p).map g).map enc', dn)
  | [], acc, _, _ => by unfold compD; simp
  | x :: xs, acc, h, hl => by
    obtain ⟨e2, h2⟩ := h x List.mem_cons_self
    have hw : wipeD (dn.set v (.val (enc x))) [v] = dn := by
      show ((dn.set v (.val (enc x))).set v .no) = dn
      rw [List.set_set, hv]
    rw [List.length_cons] at hl
    rw [List.map_cons]
    unfold compD
    rw [ev_tgN]
    dsimp only
    rw [e2]
    cases hp : p x with
    | false =>
      dsimp only
      rw [hw, cmp_go p g enc' hv (fun y hy => h y (List.mem_cons_of_mem _ hy)) (by omega)]
      simp [hp]
    | true =>
      obtain ⟨r, e3, e4⟩ := h2 hp
      dsimp only
      rw [e3]
      dsimp only
      rw [e4]
      dsimp only
      rw [if_pos (by omega), hw, cmp_go p g enc' hv (fun y hy => h y (List.mem_cons_of_mem _ hy)) (by rw [List.length_append, List.length_singleton]; omega)]
      simp [hp]
theorem back1 {d1 : S} {v : Nat} (h : v < d1.length) : (d1.set v .no).set v (d1[v]?.getD .no) = d1 := by
  rw [List.set_set]
  apply List.ext_getElem?
  intro j
  by_cases hj : v = j
  · subst hj
    rw [List.getElem?_set_self h, List.getElem?_eq_getElem h]; rfl
  · rw [List.getElem?_set_ne hj]
theorem cmp {A B : Type} {v : Nat} {c : S → Out Bool} {f : S → Out Rv} {d1 dn : S} {enc : A → PyData} {xs : List A} (p : A → Bool) (g : A → B) (enc' : B → PyData)
    (h : ∀ x ∈ xs, c (d1.set v (.val (enc x))) = .ok (p x) (d1.set v (.val (enc x))) ∧ (p x = true → ∃ r, f (d1.set v (.val (enc x))) = .ok r (d1.set v (.val (enc x))) ∧ stb (d1.set v (.val (enc x))) r = some (enc' (g x), d1.set v (.val (enc x)))))
    (hn : dn = d1.set v .no := by rfl) (hv : v < d1.length := by exact of_decide_eq_true rfl) (hl : xs.length ≤ 100000 := by first | omega | (simp only [List.length_range, List.length_range', List.length_map, List.length_cons, List.length_nil, List.length_append] <;> omega)) :
    endC d1 [v] (compD [v] (tgN v) c f (xs.map enc) dn []) = .ok (.new (((xs.filter p).map g).map enc')) d1 := by
  rw [cmp_go p g enc' (by rw [hn, List.set_set]) (by subst hn; simpa only [List.set_set] using h) (by simpa using hl), ev_endC, ev_restD, ev_restD0, hn, back1 hv]
  rfl
theorem cmpM {A B : Type} {v : Nat} {f : S → Out Rv} {d1 dn : S} {enc : A → PyData} {xs : List A} (g : A → B) (enc' : B → PyData)
    (h : ∀ x ∈ xs, ∃ r, f (d1.set v (.val (enc x))) = .ok r (d1.set v (.val (enc x))) ∧ stb (d1.set v (.val (enc x))) r = some (enc' (g x), d1.set v (.val (enc x))))
    (hn : dn = d1.set v .no := by rfl) (hv : v < d1.length := by exact of_decide_eq_true rfl) (hl : xs.length ≤ 100000 := by first | omega | (simp only [List.length_range, List.length_range', List.length_map, List.length_cons, List.length_nil, List.length_append] <;> omega)) :
    endC d1 [v] (compD [v] (tgN v) dYes f (xs.map enc) dn []) = .ok (.new ((xs.map g).map enc')) d1 := by
  rw [cmp (c := dYes) (fun _ => true) g enc' (fun x hx => ⟨rfl, fun _ => h x hx⟩) hn hv hl, List.filter_eq_self.mpr (fun _ _ => rfl)]
inductive VOk (Q : PyData → List PyData → Prop) : Fo → Prop
  | val {d : PyData} {st : List PyData} : Q d st → VOk Q (.val d st)
theorem vo_v (Q : PyData → List PyData → Prop) (d : PyData) (st : List PyData) : VOk Q (.val d st) = Q d st := propext ⟨fun h => by cases h; assumption, .val⟩
theorem vo_ex {Q : PyData → List PyData → Prop} {o : Fo} (h : VOk Q o) : ∃ d st, o = .val d st ∧ Q d st := by
  cases h with
  | val h => exact ⟨_, _, rfl, h⟩
theorem vo_fin {Q : PyData → List PyData → Prop} {io : Bool} {o : Fl} (h : SOk (fun dl => VOk Q (finF io (.nx dl))) (fun r dl => VOk Q (finF io (.ret r dl))) o) : VOk Q (finF io o) := by
  cases h with
  | nx h => exact h
  | ret h => exact h
inductive NOk (Q : List PyData → List PyData → Prop) : Fo → Prop
  | new {d st : List PyData} : Q d st → NOk Q (.new d st)
theorem no_v (Q : List PyData → List PyData → Prop) (d st : List PyData) : NOk Q (.new d st) = Q d st := propext ⟨fun h => by cases h; assumption, .new⟩
theorem wl_of {N B : S → Prop} {R : Rv → S → Prop} {o : Fl} (h : SOk N R o) : LOk N B R o := by
  cases h with
  | nx h => exact .nx h
  | ret h => exact .ret h
theorem wp_mono {N N' : S → Prop} {R R' : Rv → S → Prop} {o : Fl} (h : SOk N R o) (h1 : ∀ d, N d → N' d) (h2 : ∀ r d, R r d → R' r d) : SOk N' R' o := by
  cases h with
  | nx h => exact .nx (h1 _ h)
  | ret h => exact .ret (h2 _ _ h)
theorem wp_fori {put : S → PyData → Option S} {body : S → Fl} {R : Rv → S → Prop} (I : Nat → S → Prop) : ∀ {ds : List PyData} {n : Nat} {dl : S}, I n dl → (∀ (i : Nat) (d : PyData) (dl : S), ds[i]? = some d → I (n + i) dl → ∃ d1, put dl d = some d1 ∧ SOk (I (n + i + 1)) R (body d1)) → SOk (I (n + ds.length)) R (forD put body ds dl)
  | [], n, dl, h0, _ => .nx h0
  | d :: ds, n, dl, h0, hs => by
    obtain ⟨d1, e1, e2⟩ := hs 0 d dl rfl h0
    rw [ev_for1, e1]
    dsimp only
    cases e : body d1 with
    | nx d2 =>
      rw [e, wp_nx] at e2
      have := wp_fori I (ds := ds) (n := n + 1) e2 fun i d dl hd hi => by
        have := hs (i + 1) d dl (by simpa using hd) (by rw [show n + (i + 1) = n + 1 + i by omega]; exact hi)
        rw [show n + (i + 1) + 1 = n + 1 + i + 1 by omega] at this
        exact this
      rw [List.length_cons, show n + (ds.length + 1) = n + 1 + ds.length by omega]
      exact this
    | ret r d2 => rw [e, wp_ret] at e2; exact .ret e2
    | cnt d2 => rw [e] at e2; cases e2
    | brk d2 => rw [e] at e2; cases e2
    | ex c d2 => rw [e] at e2; cases e2
    | bad => rw [e] at e2; cases e2
theorem wc_all {vs : List Nat} {put : S → PyData → Option S} {f : S → Out Rv} {ds : List PyData} {d1 dn : S} {P : Out Rv → Prop} (I : S → Prop) (R : PyData → Prop) (h0 : I dn) (hs : ∀ d dn, d ∈ ds → I dn → ∃ d1 r d3 y d4, put dn d = some d1 ∧ f d1 = .ok r d3 ∧ stb d3 r = some (y, d4) ∧ R y ∧ I (wipeD d4 vs)) (hl : ds.length ≤ 100000)
    (hk : ∀ ys dn', I dn' → ys.length = ds.length → (∀ y ∈ ys, R y) → P (.ok (.new ys) (restD d1 vs dn'))) : P (endC d1 vs (compD vs put dYes f ds dn [])) := by
  obtain ⟨ys, dn', e, i, l, r⟩ := comp_all (vs := vs) (put := put) (f := f) I R (ds := ds) (acc := []) h0 hs (by simpa using hl)
  rw [e, ev_endC]
  exact hk ys dn' i l r
end DL
namespace DL
open PySem L2
def ShD (k : Nat) (d : PyData) : Prop := d.canLay0 = true ∧ d.depth ≤ k
theorem sd_int (k : Nat) (i : Int) : ShD k (.int i) := ⟨by simp [PyData.canLay0], by simp [PyData.depth]⟩
theorem sd_none (k : Nat) : ShD k .none := ⟨by simp [PyData.canLay0], by simp [PyData.depth]⟩
theorem sd_cell (k : Nat) (x : Option Nat) : ShD k (cell x) := by
  cases x
  · exact sd_none k
  · exact sd_int k _
theorem sd_all {k : Nat} : ∀ {ds : List PyData}, (∀ d ∈ ds, ShD k d) → PyData.canLayAll0 ds = true ∧ PyData.depthAll ds ≤ k
  | [], _ => ⟨by simp [PyData.canLayAll0], by simp [PyData.depthAll]⟩
  | d :: ds, h => by
    obtain ⟨h1, h2⟩ := sd_all fun x hx => h x (List.mem_cons_of_mem _ hx)
    obtain ⟨h3, h4⟩ := h d List.mem_cons_self
    exact ⟨by simp [PyData.canLayAll0, h1, h3], by simp [PyData.depthAll]; omega⟩
theorem sd_list {k : Nat} {ds : List PyData} (h : ∀ d ∈ ds, ShD k d) : ShD (k + 1) (.list ds) := by
  obtain ⟨h1, h2⟩ := sd_all h
  exact ⟨by simp [PyData.canLay0, h1], by simp [PyData.depth]; omega⟩
theorem sd_tup {k : Nat} {ds : List PyData} (h : ∀ d ∈ ds, ShD k d) : ShD (k + 1) (.tuple ds) := by
  obtain ⟨h1, h2⟩ := sd_all h
  exact ⟨by simp [PyData.canLay0, h1], by simp [PyData.depth]; omega⟩
theorem ShD.sh {k : Nat} {d : PyData} (h : ShD k d) (hk : k ≤ 64) : SeqAt.shaped d = true := by
  unfold SeqAt.shaped
  rw [Bool.and_eq_true, decide_eq_true_eq]
  exact ⟨h.1, by have := h.2; omega⟩
structure EncEq {A : Type} [DecidableEq A] (k : Nat) (enc : A → PyData) : Prop where
  eq : ∀ x y, PyData.eqv (enc x) (enc y) = decide (x = y)
  sh : ∀ x, ShD k (enc x)
theorem ee_nI : EncEq 0 nI := ⟨fun x y => by
  unfold PyData.eqv
  by_cases h : x = y
  · subst h; simp
  · have : ¬ ((x : Int) = (y : Int)) := by omega
    simp [h, this], fun x => sd_int 0 _⟩
theorem ee_cell : EncEq 0 cell := ⟨eqv_cells, sd_cell 0⟩
theorem ee_all {A : Type} [DecidableEq A] {k : Nat} {enc : A → PyData} (h : EncEq k enc) : ∀ xs ys : List A, PyData.eqvAll (xs.map enc) (ys.map enc) = decide (xs = ys)
  | [], [] => rfl
  | [], _ :: _ => rfl
  | _ :: _, [] => rfl
  | x :: xs, y :: ys => by
    show (PyData.eqv (enc x) (enc y) && PyData.eqvAll (xs.map enc) (ys.map enc)) = _
    rw [h.eq, ee_all h xs ys]
    by_cases hx : x = y
    · subst hx; simp
    · simp [hx]
theorem sd_map {A : Type} [DecidableEq A] {k : Nat} {enc : A → PyData} (h : EncEq k enc) (xs : List A) : ∀ d ∈ xs.map enc, ShD k d := fun d hd => by
  obtain ⟨x, _, rfl⟩ := List.mem_map.mp hd
  exact h.sh x
theorem ee_list {A : Type} [DecidableEq A] {k : Nat} {enc : A → PyData} (h : EncEq k enc) : EncEq (k + 1) fun xs : List A => .list (xs.map enc) := ⟨fun xs ys => by
  rw [PyData.eqv]; exact ee_all h xs ys, fun xs => sd_list (sd_map h xs)⟩
theorem ee_tup {A : Type} [DecidableEq A] {k : Nat} {enc : A → PyData} (h : EncEq k enc) : EncEq (k + 1) fun xs : List A => .tuple (xs.map enc) := ⟨fun xs ys => by
  rw [PyData.eqv]; exact ee_all h xs ys, fun xs => sd_tup (sd_map h xs)⟩
theorem EncEq.oEq {A : Type} [DecidableEq A] {k : Nat} {enc : A → PyData} (h : EncEq k enc) (hk : k ≤ 64) (x y : A) : oEq (enc x) (enc y) = vB (decide (x = y)) := by
  unfold DL.oEq
  rw [(h.sh x).sh hk, (h.sh y).sh hk, h.eq]
  rfl
theorem EncEq.oNe {A : Type} [DecidableEq A] {k : Nat} {enc : A → PyData} (h : EncEq k enc) (hk : k ≤ 64) (x y : A) : oNe (enc x) (enc y) = vB (!decide (x = y)) := by
  unfold DL.oNe
  rw [(h.sh x).sh hk, (h.sh y).sh hk, h.eq]
  rfl
theorem l_eq (xs ys : List Nat) : oEq (.list (xs.map nI)) (.list (ys.map nI)) = vB (decide (xs = ys)) := (ee_list ee_nI).oEq (by decide) xs ys
theorem l_ne (xs ys : List Nat) : oNe (.list (xs.map nI)) (.list (ys.map nI)) = vB (!decide (xs = ys)) := (ee_list ee_nI).oNe (by decide) xs ys
theorem t_eq (xs ys : List Nat) : oEq (.tuple (xs.map nI)) (.tuple (ys.map nI)) = vB (decide (xs = ys)) := (ee_tup ee_nI).oEq (by decide) xs ys
theorem t_eqc (xs ys : List (Option Nat)) : oEq (.tuple (xs.map cell)) (.tuple (ys.map cell)) = vB (decide (xs = ys)) := (ee_tup ee_cell).oEq (by decide) xs ys
theorem l_eq0 (xs : List Nat) : oEq (.list (xs.map nI)) (.list []) = vB (decide (xs = [])) := l_eq xs []
theorem l_ne0 (xs : List Nat) : oNe (.list (xs.map nI)) (.list []) = vB (!decide (xs = [])) := l_ne xs []
theorem z_eq0 : oEq (.list []) (.list []) = vB true := l_eq [] []
theorem z_ne0 : oNe (.list []) (.list []) = vB false := l_ne [] []
theorem lc_ne0 (xs : List (Option Nat)) : oNe (.list (xs.map cell)) (.list []) = vB (!decide (xs = [])) := (ee_list ee_cell).oNe (by decide) xs []
theorem lc_eq0 (xs : List (Option Nat)) : oEq (.list (xs.map cell)) (.list []) = vB (decide (xs = [])) := (ee_list ee_cell).oEq (by decide) xs []
theorem any_nats (c : Nat) : ∀ t : List Nat, ((t.map nI).any fun y => PyData.eqv y (nI c)) = decide (c ∈ t)
  | [] => rfl
  | x :: t => by
    rw [List.map_cons, List.any_cons, ee_nI.eq, any_nats c t]
    rw [Bool.eq_iff_iff]
    simp
    rw [eq_comm]
theorem n_inL (c : Nat) (t : List Nat) : oIn false (nI c) (.list (t.map nI)) = vB (decide (c ∈ t)) := by
  unfold oIn items
  dsimp only
  rw [sc_nats, any_nats]
  rfl
theorem n_inT (c : Nat) (t : List Nat) : oIn false (nI c) (.tuple (t.map nI)) = vB (decide (c ∈ t)) := by
  unfold oIn items
  dsimp only
  rw [sc_nats, any_nats]
  rfl
theorem n_niL (c : Nat) (t : List Nat) : oIn true (nI c) (.list (t.map nI)) = vB (!decide (c ∈ t)) := by
  unfold oIn items
  dsimp only
  rw [sc_nats, any_nats]
  rfl
theorem n_niT (c : Nat) (t : List Nat) : oIn true (nI c) (.tuple (t.map nI)) = vB (!decide (c ∈ t)) := by
  unfold oIn items
  dsimp only
  rw [sc_nats, any_nats]
  rfl
theorem n_inC (c : Nat) (t : List (Option Nat)) : oIn false (nI c) (.tuple (t.map cell)) = vB (decide (some c ∈ t)) := oIn_cells c t
theorem law_of {o : Fo} (h : VOk (fun d _ => d = .bool true) o) : ∃ st, o = .val (.bool true) st := by
  obtain ⟨d, st, e, rfl⟩ := vo_ex h
  exact ⟨st, e⟩
theorem l_pick {ds : List PyData} {i : Nat} (P : PyData → Prop) (h : i < ds.length) (hp : ∀ d ∈ ds, P d) : ∃ d, oIx (.list ds) (nI i) = some (.val d) ∧ P d := by
  refine ⟨ds[i], ?_, hp _ (List.getElem_mem h)⟩
  rw [ev_oIxL, atI_of (a := ds[i]) (by omega) (by rw [Int.toNat_natCast, List.getElem?_eq_getElem h])]
  rfl
theorem wl_for {put : S → PyData → Option S} {body : S → Fl} {N B : S → Prop} {R : Rv → S → Prop} {ds : List PyData} {dl : S} (I : S → Prop) (h0 : I dl) (hs : ∀ d dl, d ∈ ds → I dl → ∃ d1, put dl d = some d1 ∧ LOk I I R (body d1)) (hk : ∀ d, I d → N d) : LOk N B R (forD put body ds dl) :=
  wl_of (wp_mono (wp_for I h0 hs) hk fun _ _ h => h)
theorem mem_rangeN {n : Nat} {d : PyData} (h : d ∈ (List.range n).map nI) : ∃ j, j < n ∧ d = nI j := by
  obtain ⟨j, hj, rfl⟩ := List.mem_map.mp h
  exact ⟨j, List.mem_range.mp hj, rfl⟩
theorem n_augA (i a b : Nat) (d1 : S) : augR i (fun i j => i + j) (a : Int) d1 (some (nI b)) = .nx (d1.set i (.val (nI (a + b)))) := by
  rw [augR_i, ← Int.natCast_add]
theorem n_augS {i a b : Nat} {d1 : S} (h : b ≤ a) : augR i (fun i j => i - j) (a : Int) d1 (some (nI b)) = .nx (d1.set i (.val (nI (a - b)))) := by
  rw [augR_i, ← Int.ofNat_sub h]
end DL
namespace DL
open PySem L2
theorem n_tr {n : Nat} (h : n ≤ 100000) : oTR (nI n) = some (.val (.tuple ((List.range n).map nI))) := by
  show (if (n : Int) ≤ 100000 ∧ -100000 ≤ (n : Int) then _ else _) = _
  rw [if_pos (by omega), Int.toNat_natCast, rng_nats]
theorem n_lr {n : Nat} (h : n ≤ 100000) : oLR (nI n) = some (.new ((List.range n).map nI)) := by
  show (if (n : Int) ≤ 100000 ∧ -100000 ≤ (n : Int) then _ else _) = _
  rw [if_pos (by omega), Int.toNat_natCast, rng_nats]
def KStar2 (ds : List PyData) (o : Out (List Rv)) : Out (List Rv) := o.bind fun rs d2 => .ok (ds.map Rv.val ++ rs) d2
theorem KStar2_ (ds : List PyData) (rs : List Rv) (d : S) : KStar2 ds (.ok rs d) = .ok (ds.map Rv.val ++ rs) d := rfl
def KStarO (g : S → Out (List Rv)) (d : S) : Option (List PyData) → Out (List Rv)
  | some ds => KStar2 ds (g d)
  | none => .bad
theorem KStarO_ (g : S → Out (List Rv)) (d : S) (ds : List PyData) : KStarO g d (some ds) = KStar2 ds (g d) := rfl
def KStar (g : S → Out (List Rv)) (o : Out Rv) : Out (List Rv) := o.bind fun r d => KStarO g d ((rd d r).bind items)
theorem KStar_ (g : S → Out (List Rv)) (r : Rv) (d : S) : KStar g (.ok r d) = KStarO g d ((rd d r).bind items) := rfl
theorem w_Star (f : S → Out Rv) (g : S → Out (List Rv)) (dl : S) : dStar f g dl = KStar g (f dl) := by
  unfold dStar KStar
  rfl
theorem items_l (ds : List PyData) : items (.list ds) = some ds := rfl
theorem items_t (ds : List PyData) : items (.tuple ds) = some ds := rfl
theorem stbs_vals (dl : S) : ∀ (ds : List PyData) (rs : List Rv), stbs dl (ds.map Rv.val ++ rs) = (stbs dl rs).map fun x => (ds ++ x.1, x.2)
  | [], rs => by
    show stbs dl rs = _
    cases stbs dl rs <;> rfl
  | d :: ds, rs => by
    show stbs dl (Rv.val d :: (ds.map Rv.val ++ rs)) = _
    rw [ev_stbs, ev_stbv, ob_s, stbs_vals dl ds rs]
    cases stbs dl rs <;> rfl
theorem st_vals {dl d2 : S} {ds es : List PyData} {rs : List Rv} (h : stbs dl rs = some (es, d2)) : stbs dl (ds.map Rv.val ++ rs) = some (ds ++ es, d2) := by
  rw [stbs_vals, h]; rfl
def KComp2 (vs vs1 : List Nat) (put : S → PyData → Option S) (c : S → Out Bool) (it1 : S → Out (List PyData)) (pt1 : S → PyData → Option S) (c1 : S → Out Bool) (f : S → Out Rv) (o : Out (List PyData)) : Out Rv := o.bind fun ds d => endC d vs (compD2 vs vs1 put c it1 pt1 c1 f ds (wipeD d vs) [])
theorem KComp2_ (vs vs1 : List Nat) (put : S → PyData → Option S) (c : S → Out Bool) (it1 : S → Out (List PyData)) (pt1 : S → PyData → Option S) (c1 : S → Out Bool) (f : S → Out Rv) (ds : List PyData) (d : S) : KComp2 vs vs1 put c it1 pt1 c1 f (.ok ds d) = endC d vs (compD2 vs vs1 put c it1 pt1 c1 f ds (wipeD d vs) []) := rfl
theorem w_Comp2 (it : S → Out (List PyData)) (vs vs1 : List Nat) (put : S → PyData → Option S) (c : S → Out Bool) (it1 : S → Out (List PyData)) (pt1 : S → PyData → Option S) (c1 : S → Out Bool) (f : S → Out Rv) (dl : S) : dComp2 it vs vs1 put c it1 pt1 c1 f dl = KComp2 vs vs1 put c it1 pt1 c1 f (it dl) := rfl
theorem n_mulA {a b : Nat} (h : a < 18446744073709551616 ∨ b < 18446744073709551616) : oMulAny (nI a) (nI b) = vN (a * b) := n_mul h
theorem t_mulA1 {ds : List PyData} (h : ds ≠ []) : oMulAny (.tuple ds) (nI 1) = some (.val (.tuple ds)) := by
  unfold oMulAny oRep1
  dsimp only
  rw [if_pos ⟨h, rfl⟩]
theorem t_mulA {ds : List PyData} {k : Nat} (h : ds ≠ []) (h2 : 2 ≤ k) (h3 : k ≤ 1000) (h4 : ds.length ≤ 1000) : oMulAny (.tuple ds) (nI k) = some (.val (.tuple (List.replicate k ds).flatten)) := by
  unfold oMulAny oRep1 oRep
  dsimp only
  rw [if_neg (by omega)]
  dsimp only
  rw [if_pos ⟨h, by omega, by omega, h4⟩, Int.toNat_natCast]
theorem l_repC {x : Option Nat} {k : Nat} (h : k < 100000) : oRep (.list [cell x]) (nI k) = some (.new ((List.replicate k x).map cell)) := by
  unfold oRep
  dsimp only
  rw [if_pos (by simp; omega), Int.toNat_natCast]
  congr 2
  induction k with
  | zero => rfl
  | succ n ih => rw [List.replicate_succ, List.flatten_cons, ih (by omega)]; rfl
def KOrT (g : S → Out Rv) (o : Out Rv) : Out Rv := o.bind fun r d => truO r g d (rd d r)
theorem KOrT_ (g : S → Out Rv) (r : Rv) (d : S) : KOrT g (.ok r d) = truO r g d (rd d r) := rfl
theorem w_OrT (f g : S → Out Rv) (dl : S) : dOrT f g dl = KOrT g (f dl) := rfl
theorem truO_n (r : Rv) (g : S → Out Rv) (d : S) : truO r g d (some .none) = g d := rfl
theorem truO_0 (r : Rv) (g : S → Out Rv) (d : S) : truO r g d (some (nI 0)) = g d := rfl
theorem truO_i {n : Nat} (r : Rv) (g : S → Out Rv) (d : S) (h : 0 < n) : truO r g d (some (nI n)) = .ok (.val (nI n)) d := by
  show (if ((n : Int) != 0) = true then _ else _) = _
  rw [if_pos (by simp; omega)]
def KUnpL (is : List Nat) (o : Out Rv) : Fl := o.fl fun r d => unpLO is d (rd d r)
theorem KUnpL_ (is : List Nat) (r : Rv) (d : S) : KUnpL is (.ok r d) = unpLO is d (rd d r) := rfl
theorem w_UnpL (is : List Nat) (f : S → Out Rv) (dl : S) : dUnpL is f dl = KUnpL is (f dl) := rfl
theorem unpLO_2 (i j : Nat) (d1 : S) (a b : PyData) : unpLO [i, j] d1 (some (.list [a, b])) = .nx ((d1.set i (.val a)).set j (.val b)) := rfl
theorem unpLO_3 (i j k : Nat) (d1 : S) (a b c : PyData) : unpLO [i, j, k] d1 (some (.list [a, b, c])) = .nx (((d1.set i (.val a)).set j (.val b)).set k (.val c)) := rfl
end DL
namespace DL
open PySem L2
def KItE (o : Out (List Rv)) : Out (List PyData) := o.bind fun rs d => itEO (stbs d rs)
theorem KItE_ (rs : List Rv) (d : S) : KItE (.ok rs d) = itEO (stbs d rs) := rfl
theorem w_ItE (f : S → Out (List Rv)) (dl : S) : dItE f dl = KItE (f dl) := rfl
theorem itEO_l (a : List PyData) (d : S) : itEO (some ([.list a], d)) = .ok (enumD a) d := rfl
theorem itEO_t (a : List PyData) (d : S) : itEO (some ([.tuple a], d)) = .ok (enumD a) d := rfl
def itZO : Option (List PyData × S) → Out (List PyData)
  | some ([.list a, .list b], d2) => .ok (zipD a b) d2
  | some ([.tuple a, .tuple b], d2) => .ok (zipD a b) d2
  | _ => .bad
theorem itZO_l (a b : List PyData) (d : S) : itZO (some ([.list a, .list b], d)) = .ok (zipD a b) d := rfl
theorem itZO_t (a b : List PyData) (d : S) : itZO (some ([.tuple a, .tuple b], d)) = .ok (zipD a b) d := rfl
def KItZ (o : Out (List Rv)) : Out (List PyData) := o.bind fun rs d => itZO (stbs d rs)
theorem KItZ_ (rs : List Rv) (d : S) : KItZ (.ok rs d) = itZO (stbs d rs) := rfl
theorem w_ItZ (f : S → Out (List Rv)) (dl : S) : dItZ f dl = KItZ (f dl) := by
  unfold dItZ KItZ itZO
  rfl
def enumL {A : Type} (xs : List A) : List (Nat × A) := xs.mapIdx fun i x => (i, x)
abbrev prE {A B : Type} (e : A → PyData) (e' : B → PyData) (p : A × B) : PyData := .tuple [e p.1, e' p.2]
theorem enumD_map {A : Type} (enc : A → PyData) (xs : List A) : enumD (xs.map enc) = (enumL xs).map (prE nI enc) := by
  unfold enumD enumL
  apply List.ext_getElem?
  intro i
  rw [List.getElem?_mapIdx, List.getElem?_map, List.getElem?_map, List.getElem?_mapIdx]
  cases xs[i]? <;> rfl
theorem zipD_map {A B : Type} (enc : A → PyData) (enc' : B → PyData) (xs : List A) (ys : List B) : zipD (xs.map enc) (ys.map enc') = (xs.zip ys).map (prE enc enc') := by
  unfold zipD
  rw [List.zip_map, List.map_map]
  rfl
def callT (n : Nat) (g : Fn) (st : List PyData) : Option (List PyData × S) → Out Rv
  | some (ds, d3) => if ds.length + 1 = n then asE (g st ds) d3 else .bad
  | none => .bad
theorem cT1 (g : Fn) (st : List PyData) (d : S) : callT 1 g st (some ([], d)) = asE (g st []) d := rfl
theorem cT2 (g : Fn) (st : List PyData) (a : PyData) (d : S) : callT 2 g st (some ([a], d)) = asE (g st [a]) d := rfl
theorem cT3 (g : Fn) (st : List PyData) (a b : PyData) (d : S) : callT 3 g st (some ([a, b], d)) = asE (g st [a, b]) d := rfl
def KCallT2 (n : Nat) (g : Fn) (st : List PyData) : Out (List Rv) → Out Rv
  | .ok rs d => callT n g st (stbs d rs)
  | _ => .bad
theorem KCallT2_ (n : Nat) (g : Fn) (st : List PyData) (rs : List Rv) (d : S) : KCallT2 n g st (.ok rs d) = callT n g st (stbs d rs) := rfl
def KCallT (n : Nat) (g : Fn) (fr : S → Out (List Rv)) : Out Rv → Out Rv
  | .ok (.new st) d => KCallT2 n g st (fr d)
  | _ => .bad
theorem KCallT_ (n : Nat) (g : Fn) (fr : S → Out (List Rv)) (st : List PyData) (d : S) : KCallT n g fr (.ok (.new st) d) = KCallT2 n g st (fr d) := rfl
theorem w_CallT (n : Nat) (g : Fn) (f0 : S → Out Rv) (fr : S → Out (List Rv)) (dl : S) : dCallT n g f0 fr dl = KCallT n g fr (f0 dl) := by
  unfold dCallT KCallT
  cases f0 dl with
  | bad => rfl
  | ex c d => rfl
  | ok r d =>
    cases r with
    | val _ => rfl
    | loc _ => rfl
    | new st =>
      dsimp only
      unfold KCallT2
      cases fr d with
      | bad => rfl
      | ex c d => rfl
      | ok rs d2 =>
        dsimp only
        unfold callT
        cases stbs d2 rs <;> rfl
end DL
namespace DL
open PySem L2
theorem i_strS (x : Str) : oIsi "str" (.str x) = vB true := isi_of (by rw [show tyD (.str x) = "str" from rfl]; decide +kernel)
theorem allP_map : ∀ ps : List (Int × Int), allP (ps.map prI) = some ps
  | [] => rfl
  | p :: ps => by
    show (allP (ps.map prI)).map (fun qs => (p.1, p.2) :: qs) = _
    rw [allP_map ps]
    rfl
theorem b_sortP (ps : List (Int × Int)) : bSortP [.list (ps.map prI)] = some (.new ((sortP ps).map prI)) := by
  show (allP (ps.map prI)).bind _ = _
  rw [allP_map]
  rfl
end DL
namespace DL
open PySem PySem.Spec L2 PyProof.Rows
section
variable {P : Program} {w : World} {A : Around} {E : Value → Shared → Prop} {s : Shared}
end
section
variable {X : Cx} {W : WX} {K : PySem.W.Frag}
end
end DL
namespace DL
open PySem PySem.Spec L2 PyProof.Rows PpSet
structure Bag (B : Type) where
  ob : Addr → B → HO
  put : B → V → B → Prop
def Bag.Add {B : Type} (g : Bag B) (X : Cx) : Prop := ∀ (pins : List (Addr × Obj)) (σ : L2.St) (H : Hp) (s : Shared) (D : Addr) (b b' : B) (y : V) (v : Value) (Q : Value → Shared → Prop) (E : Value → Shared → Prop),
  Inv X pins σ H s → H D = some (g.ob D b) → RelV y v → g.put b y b' → (∀ s', Inv X pins σ (upd H D (g.ob D b')) s' → Q .none s') → wpAny (model X.prog X.w) X.A (call (.builtin "set.add") [.ref D, v]) Q E s
section
variable {X : Cx} {B : Type}
end
end DL
namespace DL
open PySem L2
section
open PySem.Spec PyProof.Rows
variable {P : Program} {w : World} {A : Around} {E : Value → Shared → Prop} {s : Shared} {a : Addr}
end
section
variable {X : Cx} {W : WX}
end
end DL
namespace DL
open PySem PySem.Spec L2 PyProof.Rows
section
variable {X : Cx} {W : WX} {K : PySem.W.Frag}
def oIsB : PyData → PyData → Option Rv
  | .bool a, .bool b => vB (decide (a = b))
  | _, _ => none
def oNotB : PyData → PyData → Option Rv
  | .bool a, .bool b => vB (!decide (a = b))
  | _, _ => none
def isLO (p : PyData → Bool) (r : Rv) (dl : S) : Option PyData → Out Rv
  | some d => if p d then .ok r dl else .bad
  | none => .bad
def dIs (p : PyData → Bool) (f : S → Out Rv) : S → Out Rv := fun dl => (f dl).bind fun r d1 => isLO p r d1 (rd d1 r)
def isLst : PyData → Bool
  | .list _ => true
  | _ => false
def TyS (K : PySem.W.Frag) (T : String) (p : PyData → Bool) : Prop := ∀ (G H : Hp) (v : V) (d : PyData), Ex G H → Tr K G H v d → p d = true → tyV K T v H
theorem se_m1 {T id : String} {name : Str} {p : PyData → Bool} {r : V → List V → Hp → VK → Prop} {op : PyData → PyData → Option Rv} {o e : Expr} {apos cpos : Pos} {f g : S → Out Rv}
    (pa : PlainAttrs T) (slot : Slot T name id) (hty : typeOf (.builtin id) = pure (.type "method_descriptor")) (hm : MtR X id r) (hT : TyS X.K T p) (ho : OpS X.K (fun v u H Q => r v [u] H Q) op) (ha : SE X W o f) (hb : SE X W e g)
    (hbase : attributeBase o name X.env (eval o X.env) = eval o X.env := by rfl)
    (hfew : ((backTo cpos (starEach [e] X.env)).all (fun x => !x.1) && (backToKw cpos (keywordEach [] X.env)).all (fun x => x.1.isSome)
      && decide ([e].length + ([] : List Keyword).length + (if ([] : List Keyword).isEmpty then 0 else 1) < 30)) = true := by rfl)
    (hline : (apos.endLine == cpos.line) = true := by rfl) (hst : starEach [e] X.env = (false, eval e X.env) :: starEach [] X.env := by rfl) :
    SE X W (.Call (.Attribute o name apos) [e] [] cpos) (d2 op (dIs p f) g) := by
  obtain ⟨ta, pa1, sa⟩ := ha
  obtain ⟨tb, pb, sb⟩ := hb
  refine ⟨_, pe_bm pa slot hty hm pa1 (pa_cons pb pa_nil hst) hbase hfew hline hst rfl, fun G H sg dl Q re h => ?_⟩
  have h' : Post X W G H sg dl (wE X sg H Q) ((f dl).bind fun r0 d0 => (isLO p r0 d0 (rd d0 r0)).bind fun r1 d1 => (g d1).bind fun r2 d2 => fin (o2 op (rd d2 r1) (rd d2 r2)) d2) := by
    unfold d2 dIs at h
    cases e0 : f dl with
    | bad => rw [e0] at h; exact h
    | ex c d => rw [e0] at h; exact h
    | ok a d => rw [e0] at h; exact h
  refine sa G H sg dl _ re ((post_bind h').imp fun r1 d1 G1 H1 s1 k1 h1 v1 q1 => ?_)
  cases e1 : rd d1 r1 with
  | none => rw [e1] at h1; exact h1.elim
  | some x =>
    rw [e1] at h1
    have h1' : Post X W G1 H1 sg d1 (wE X sg H Q) ((if p x then Out.ok r1 d1 else .bad).bind fun r1 d1 => (g d1).bind fun r2 d2 => fin (o2 op (rd d2 r1) (rd d2 r2)) d2) := h1
    cases hp : p x with
    | false => rw [hp] at h1'; exact h1'.elim
    | true =>
      rw [hp] at h1'
      refine ⟨hT G1 H1 v1 x s1.rel.ex (q1.tr s1.rel e1) hp, ?_⟩
      have h1'' : Post X W G1 H1 sg d1 (wE X sg H Q) ((g d1).bind fun r2 d2 => fin (o2 op (rd d2 r1) (rd d2 r2)) d2) := h1'
      refine sb G1 H1 sg d1 _ s1.rel ((post_bind h1'').imp fun r2 d2 G2 H2 s2 k2 h2 v2 q2 => ?_)
      have q1' := q1.mono s2 k2
      cases e1 : rd d2 r1 with
      | none => rw [e1] at h2; exact h2.elim
      | some x =>
        cases e2 : rd d2 r2 with
        | none => rw [e1, e2] at h2; exact h2.elim
        | some y =>
          rw [e1, e2] at h2
          have h2' : Post X W G2 H2 sg d2 (wE X sg H Q) (fin (op x y) d2) := h2
          cases e3 : op x y with
          | none => rw [e3] at h2'; exact h2'.elim
          | some r =>
            rw [e3] at h2'
            exact ho G2 H2 v1 v2 x y r s2.rel.ex (q1'.tr s2.rel e1) (q2.tr s2.rel e2) e3 Q (wO.fin rfl s2.rel (fun a z => s2.d a (s1.d a z)) h2')
theorem un65 {k : Nat} {A : Around} (r : Room k A) : A.units + 65 < cLine := by have := r.un; omega
def ext1 (es ds : List PyData) : Option (List PyData) := if ds.length + es.length ≤ 100000 then some (ds ++ es) else none
def extR (d1 : S) (i : Nat) : Rv → Fl
  | .new es => ofO (chg d1 i (ext1 es))
  | _ => .bad
def dExt (i : Nat) (f : S → Out Rv) : S → Fl := fun dl => if isOwn dl i then (f dl).fl fun r d1 => extR d1 i r else .bad
end
end DL
namespace DL
open PySem PySem.Spec L2 PyProof.Rows HT
section
variable {prog : Program} {w : World} {A : Around} {E : Value → Shared → Prop} {s : Shared}
end
section
variable {X : Cx} {W : WX}
def oRevT (m : Nat) : PyData → Option Rv
  | .tuple ds => some (.val (.tuple (ds.drop m).reverse))
  | _ => none
end
end DL
namespace DL
open PySem PySem.Spec L2 PyProof.Rows
abbrev KD := List (Key × PyData)
def keyOf : PyData → Option Key
  | .int i => some (.inl i)
  | .str x => some (.inr x)
  | _ => none
theorem keyOf_kD (k : Key) : keyOf (kD k) = some k := by cases k <;> rfl
def putD (acc : KD) (k : Key) (d : PyData) : KD :=
  if (acc.any fun kv => decide (kv.1 = k)) = true then acc.map (fun kv => if kv.1 = k then (kv.1, d) else kv) else acc ++ [(k, d)]
def valD (acc : KD) (k : Key) : Option PyData := (acc.find? fun kv => decide (kv.1 = k)).map (·.2)
def unD : List (PyData × PyData) → Option KD
  | [] => some []
  | (k, d) :: l => (keyOf k).bind fun k => (unD l).bind fun acc => some ((k, d) :: acc)
theorem unD_map : ∀ acc : KD, unD (acc.map fun kv => (kD kv.1, kv.2)) = some acc
  | [] => rfl
  | (k, d) :: acc => by
    show (keyOf (kD k)).bind _ = _
    rw [keyOf_kD]
    show (unD (acc.map fun kv => (kD kv.1, kv.2))).bind _ = _
    rw [unD_map acc]
    rfl
section
variable {K : PySem.W.Frag}
inductive DaK (K : PySem.W.Frag) (G : Hp) : List (Key × V) → KD → Prop
  | nil : DaK K G [] []
  | cons {k : Key} {v : V} {d : PyData} {kvs : List (Key × V)} {acc : KD} : Da K G v d → DaK K G kvs acc → DaK K G ((k, v) :: kvs) ((k, d) :: acc)
theorem DaK.ex {G G' : Hp} (e : Ex G G') : ∀ {kvs : List (Key × V)} {acc : KD}, DaK K G kvs acc → DaK K G' kvs acc
  | _, _, .nil => .nil
  | _, _, .cons h1 h2 => .cons (h1.ex e) (DaK.ex e h2)
theorem DaK.len {G : Hp} : ∀ {kvs : List (Key × V)} {acc : KD}, DaK K G kvs acc → kvs.length = acc.length
  | _, _, .nil => rfl
  | _, _, .cons h1 h2 => by rw [List.length_cons, List.length_cons, DaK.len h2]
theorem DaK.any {G : Hp} (k : Key) : ∀ {kvs : List (Key × V)} {acc : KD}, DaK K G kvs acc → (kvs.any fun kv => decide (kv.1 = k)) = (acc.any fun kv => decide (kv.1 = k))
  | _, _, .nil => rfl
  | _, _, .cons h1 h2 => by rw [List.any_cons, List.any_cons, DaK.any k h2]
theorem DaK.app {G : Hp} {k : Key} {v : V} {d : PyData} (hd : Da K G v d) : ∀ {kvs : List (Key × V)} {acc : KD}, DaK K G kvs acc → DaK K G (kvs ++ [(k, v)]) (acc ++ [(k, d)])
  | _, _, .nil => .cons hd .nil
  | _, _, .cons h1 h2 => .cons h1 (DaK.app hd h2)
theorem DaK.repl {G : Hp} {k : Key} {v : V} {d : PyData} (hd : Da K G v d) : ∀ {kvs : List (Key × V)} {acc : KD}, DaK K G kvs acc → DaK K G (kvs.map fun kv => if kv.1 = k then (kv.1, v) else kv) (acc.map fun kv => if kv.1 = k then (kv.1, d) else kv)
  | _, _, .nil => .nil
  | _, _, .cons (k := k') h1 h2 => by
    rw [List.map_cons, List.map_cons]
    by_cases e : k' = k
    · rw [if_pos e, if_pos e]
      exact .cons hd (DaK.repl hd h2)
    · rw [if_neg e, if_neg e]
      exact .cons h1 (DaK.repl hd h2)
theorem DaK.put {G : Hp} {k : Key} {v : V} {d : PyData} {kvs : List (Key × V)} {acc : KD} (h : DaK K G kvs acc) (hd : Da K G v d) : DaK K G (L2.putK kvs k v) (putD acc k d) := by
  unfold L2.putK putD
  rw [h.any k]
  split
  · exact h.repl hd
  · exact h.app hd
theorem DaK.val {G : Hp} (k : Key) : ∀ {kvs : List (Key × V)} {acc : KD}, DaK K G kvs acc → (valV kvs k = none ∧ valD acc k = none) ∨ ∃ v d, valV kvs k = some v ∧ valD acc k = some d ∧ Da K G v d
  | _, _, .nil => .inl ⟨rfl, rfl⟩
  | _, _, .cons (k := k') (v := v) (d := d) h1 h2 => by
    by_cases e : k' = k
    · exact .inr ⟨v, d, by simp [valV, List.find?_cons, e], by simp [valD, List.find?_cons, e], h1⟩
    · rcases DaK.val k h2 with ⟨q1, q2⟩ | ⟨v', d', q1, q2, q3⟩
      · exact .inl ⟨by rw [valV_neg (p := (k', v)) e]; exact q1, by
          unfold valD at q2 ⊢
          rw [List.find?_cons, decide_eq_false e]
          exact q2⟩
      · exact .inr ⟨v', d', by rw [valV_neg (p := (k', v)) e]; exact q1, by
          unfold valD at q2 ⊢
          rw [List.find?_cons, decide_eq_false e]
          exact q2, q3⟩
theorem DaK.all {G : Hp} : ∀ {kvs : List (Key × V)} {acc : KD}, DaK K G kvs acc → DaAll K G (kvs.map (·.2)) (acc.map (·.2)) ∧ (kvs.map fun kv => kD kv.1).zip (acc.map (·.2)) = acc.map fun kv => (kD kv.1, kv.2)
  | _, _, .nil => ⟨.nil, rfl⟩
  | _, _, .cons h1 h2 => by
    obtain ⟨q1, q2⟩ := DaK.all h2
    refine ⟨.cons h1 q1, ?_⟩
    simp only [List.map_cons, List.zip_cons_cons]
    rw [q2]
theorem DaK.da {H : Hp} {a : Addr} {kvs : List (Key × V)} {acc : KD} (h : DaK K H kvs acc) (r : Rd H a (.dK kvs)) : Da K H (.ref a) (dicD acc) := by
  obtain ⟨q1, q2⟩ := h.all
  unfold dicD
  rw [← q2]
  exact .dct r q1
end
section
variable {X : Cx} {W : WX} {K : PySem.W.Frag}
def oGet1 : PyData → PyData → Option Rv
  | .dict L, k => (unD L).bind fun acc => (keyOf k).map fun k => .val ((valD acc k).getD .none)
  | _, _ => none
def isDicU : PyData → Bool
  | .dict L => (unD L).isSome
  | _ => false
end
def compK (vs : List Nat) (put : S → PyData → Option S) (c : S → Out Bool) (fk fv : S → Out Rv) : List PyData → S → KD → Option (KD × S)
  | [], dn, acc => some (acc, dn)
  | d :: ds, dn, acc => match put dn d with
    | none => none
    | some d1 => match c d1 with
      | .ok true d2 => match fk d2 with
        | .ok rk d3 => match (rd d3 rk).bind keyOf with
          | some k => match fv d3 with
            | .ok r d4 => match stb d4 r with
              | some (y, d5) => if acc.length < 100000 then compK vs put c fk fv ds (wipeD d5 vs) (putD acc k y) else none
              | none => none
            | _ => none
          | none => none
        | _ => none
      | .ok false d2 => compK vs put c fk fv ds (wipeD d2 vs) acc
      | _ => none
def endK (dl : S) (vs : List Nat) (o : Option (KD × S)) : Out Rv := match o with
  | some (acc, dn) => .ok (.val (dicD acc)) (restD dl vs dn)
  | none => .bad
def dDComp (it : S → Out (List PyData)) (vs : List Nat) (put : S → PyData → Option S) (c : S → Out Bool) (fk fv : S → Out Rv) : S → Out Rv := fun dl => (it dl).bind fun ds d1 => endK d1 vs (compK vs put c fk fv ds (wipeD d1 vs) [])
section
variable {K : PySem.W.Frag}
end
section
variable {X : Cx} {W : WX}
end
end DL
namespace DL
open PySem PySem.Spec L2 PyProof.Rows
section
variable {X : Cx} {W : WX}
def truD : PyData → Option Bool
  | .none => some false
  | .bool b => some b
  | .int i => some (i != 0)
  | .list ds => some (!ds.isEmpty)
  | .tuple ds => some (!ds.isEmpty)
  | _ => none
def truT (dl : S) : Option Bool → Out Bool
  | some b => .ok b dl
  | none => .bad
def dTru (f : S → Out Rv) : S → Out Bool := fun dl => (f dl).bind fun r d1 => truT d1 ((rd d1 r).bind truD)
end
end DL
namespace DL
open PySem PySem.Spec PyProof.Rows L2
section Ex30
variable {X : Cx} {pins : List (Addr × Obj)} {σ : L2.St} {H : Hp} {s : Shared}
theorem mk_none {C : Addr} {bmB : List Value} {B newId initId : String} {x : Str} {p pos : Pos} (F : ExcBaseFacts B newId initId bmB) (q : PySem.W.excIn X.K C bmB newId = true) (gC : X.mg x = some (.ref C)) (kC : PySem.W.keepIn X.K (.ref C) = true)
    (r : Raises X (.ref C)) (hg : Gl X x) (hdb : (x == ("__debug__" : Str)) = false := by decide) : PMk X (.Call (.Name x p) [] [] pos) (fun _ H Q => Q (.ref C) none H) := by
  intro pins s σ H Q I h
  refine wpAny_Call_Name_kw (ld_glob I hg gC (PySem.W.callWith_K0 I.kIn kC ?_) hdb)
  obtain ⟨bm, N, nm, qn, bs, hdct, sn, sub, ab, col, dd, k0, k1, k2, k3, k5, mN, hC, hN, hni, T⟩ := exc_obj I.kIn q
  exact wpAny_call_exc_subT F T hC hN hni (fun h' e hm => mk_of I hm r h (I.hok.gone hm.new)) (Nat.zero_le _)
end Ex30
end DL
namespace DL
open PySem PySem.Spec PyProof.Rows L2
section Ex31
variable {X : Cx} {W : WX}
structure ClsF (K : PySem.W.Frag) (c : Str) (C : Addr) (bm : List Value) (newId : String) : Prop where
  ns : PySem.W.nsIn K mainGlobals c = some (some (.ref C))
  ex : PySem.W.excIn K C bm newId = true
  kp : PySem.W.keepIn K (.ref C) = true
  sb : PySem.W.subIn K (.ref C) (.type "BaseException") = some true
  ty : PySem.W.typeIn K (.ref C) = some (.type "type")
theorem ss_raise {C : Addr} {bm : List Value} {B newId initId : String} {x : Str} {p cp pos : Pos} (F : ExcBaseFacts B newId initId bm) (hC : ClsF X.K x C bm newId) (hm : X.mg x = some (.ref C)) (hc : X.calm = true) (tk : Takes X W) (hg : Gl X x) (hdb : (x == ("__debug__" : Str)) = false := by decide) :
    SS X W (.Raise (some (.Call (.Name x p) [] [] cp)) none pos) (fun dl => .ex x dl) :=
  ⟨_, ps_raise hc tk (mk_none F hC.ex hm hC.kp (raises_own hC.sb hC.ty) hg hdb), fun G H sg dl D re h => h C G H sg hm (Stp.refl re)⟩
end Ex31
end DL
namespace DL
open PySem PySem.Spec L2 PyProof.Rows
section
variable {K : PySem.W.Frag}
end
section
variable {X : Cx} {W : WX}
end
end DL
namespace DL
open PySem PySem.Spec L2 PyProof.Rows
section
variable {K : PySem.W.Frag}
theorem DaK.append {G : Hp} : ∀ {kvs : List (Key × V)} {acc : KD} {kvs' : List (Key × V)} {acc' : KD}, DaK K G kvs acc → DaK K G kvs' acc' → DaK K G (kvs ++ kvs') (acc ++ acc')
  | _, _, _, _, .nil, h => h
  | _, _, _, _, .cons h1 h2, h => .cons h1 (DaK.append h2 h)
end
section
variable {X : Cx} {W : WX}
end
end DL
namespace DL
open PySem L2
def reprOk (d : PyData) : Bool := d.showable && d.leavesShort 13 && decide (d.weight ≤ 1048576) && decide (d.depth ≤ 60) && d.canLay0
def rRepr (K : PySem.W.Frag) : List V → Hp → VK → Prop := fun xs H Q => ∃ (a : Addr) (d : PyData), xs = [.ref a] ∧ L2.Dp K H (.ref a) d ∧ reprOk d = true ∧ Q (.str d.shown) H
def rReprA (K : PySem.W.Frag) : List V → Hp → VK → Prop := fun xs H Q => (∃ i : Int, xs = [.int i] ∧ i.natAbs.log2 < 1920 ∧ Q (.str (toString i)) H) ∨ rRepr K xs H Q
theorem cr_repr {X : Cx} (hu : X.A.units + 65 < cLine) (hg : X.A.guards = some []) : CallR X (.builtin "repr") (rReprA X.K) := by
  intro pins s σ H xs us Q I r h
  rcases h with h | ⟨a, d, rfl, hd, ok, q⟩
  · exact SkE.call_repr_int pins s σ H xs us Q I r h
  · obtain ⟨u, rfl, ru⟩ := vals1 r
    obtain ⟨as, rd⟩ := Dp.reads I d _ u hd ru
    obtain rfl : u = Value.ref a := ru
    unfold reprOk at ok
    simp only [Bool.and_eq_true, decide_eq_true_eq] at ok
    obtain ⟨⟨⟨⟨o1, o2⟩, o3⟩, o4⟩, o5⟩ := ok
    refine repr_of_reads' rd o1 (PyData.noDict_hsm (PyData.hasDict_of_canLay d o5)) hg (by omega) (fun _ _ e => e) (fun h' u tk hk => ?_) (PyData.shown_fits (by decide) (by decide) o2 o3)
    exact ⟨.str _, H, I.kept hk, ⟨u, rfl⟩, q⟩
def bRepr : List PyData → Option Rv
  | [.int i] => if i.natAbs < 1000000000000 then some (.val (.str (PyData.int i).shown)) else none
  | [.list ds] => if reprOk (.list ds) then some (.val (.str (PyData.list ds).shown)) else none
  | [.tuple ds] => if reprOk (.tuple ds) then some (.val (.str (PyData.tuple ds).shown)) else none
  | _ => none
theorem cs_repr {K : PySem.W.Frag} : CaS K (rReprA K) bRepr := by
  intro G H vs ds rv e t h Q q
  unfold bRepr at h
  split at h
  · rename_i i
    obtain ⟨v, rfl, t'⟩ := tr1 t
    split at h
    · rename_i hi
      cases h
      refine .inl ⟨i, by rw [t'.int], ?_, ?_⟩
      · by_cases h0 : i.natAbs = 0
        · rw [h0]; decide
        · rw [Nat.log2_lt h0]
          exact Nat.lt_of_lt_of_le hi (Nat.le_trans (by decide) (Nat.pow_le_pow_right (n := 2) (by decide) (show 40 ≤ 1920 by decide)))
      · exact q.val e (.str _)
    · cases h
  · rename_i es
    obtain ⟨v, rfl, t'⟩ := tr1 t
    split at h
    · rename_i hi
      cases h
      obtain ⟨p, us, rfl, sq, z⟩ := t'.lst e
      exact .inr ⟨p, _, rfl, da_dp (t'.da e) (by unfold reprOk at hi; simp only [Bool.and_eq_true] at hi; exact hi.2), hi, q.val e (.str _)⟩
    · cases h
  · rename_i es
    obtain ⟨v, rfl, t'⟩ := tr1 t
    split at h
    · rename_i hi
      cases h
      obtain ⟨p, us, rfl, sq, z⟩ := t'.tup e
      exact .inr ⟨p, _, rfl, da_dp (t'.da e) (by unfold reprOk at hi; simp only [Bool.and_eq_true] at hi; exact hi.2), hi, q.val e (.str _)⟩
    · cases h
  · cases h
def oEqS : PyData → PyData → Option Rv
  | .str a, .str b => vB (decide (a = b))
  | _, _ => none
def oNeS : PyData → PyData → Option Rv
  | .str a, .str b => vB (!decide (a = b))
  | _, _ => none
theorem vstr_dec (a b : Str) : decide (V.str a = V.str b) = decide (a = b) := by
  rw [Bool.eq_iff_iff]; simp
theorem os_eqS {K : PySem.W.Frag} : OpS K rEq oEqS := by
  intro G H v u a b r e ta tb h Q q
  unfold oEqS at h
  split at h
  · cases h
    rw [ta.str, tb.str]
    exact ⟨rfl, by rw [vstr_dec]; exact q.val e (.bl _)⟩
  · cases h
theorem os_neS {K : PySem.W.Frag} : OpS K rNe oNeS := by
  intro G H v u a b r e ta tb h Q q
  unfold oNeS at h
  split at h
  · cases h
    rw [ta.str, tb.str]
    exact ⟨rfl, by rw [vstr_dec]; exact q.val e (.bl _)⟩
  · cases h
theorem eqS_ (a b : Str) : oEqS (.str a) (.str b) = vB (decide (a = b)) := rfl
theorem neS_ (a b : Str) : oNeS (.str a) (.str b) = vB (!decide (a = b)) := rfl
theorem neS_self (a : Str) : oNeS (.str a) (.str a) = vB false := by rw [neS_, decide_eq_true rfl]; rfl
theorem eqS_self (a : Str) : oEqS (.str a) (.str a) = vB true := by rw [eqS_, decide_eq_true rfl]
theorem b_reprT {ds : List PyData} (h : reprOk (.tuple ds) = true) : bRepr [.tuple ds] = some (.val (.str (PyData.tuple ds).shown)) := by
  show (if reprOk (.tuple ds) = true then some (Rv.val (.str (PyData.tuple ds).shown)) else none) = _
  rw [if_pos h]
structure Shw (d : PyData) (w k : Nat) : Prop where
  s : d.showable = true
  l : d.leavesShort 13 = true
  w : d.weight ≤ w
  k : d.depth ≤ k
  c : d.canLay0 = true
theorem Shw.ok {d : PyData} {w k : Nat} (h : Shw d w k) (hw : w ≤ 1048576) (hk : k ≤ 60) : reprOk d = true := by
  unfold reprOk
  rw [h.s, h.l, h.c, decide_eq_true (Nat.le_trans h.w hw), decide_eq_true (Nat.le_trans h.k hk)]
  rfl
theorem Shw.mono {d : PyData} {w k w' k' : Nat} (h : Shw d w k) (hw : w ≤ w') (hk : k ≤ k') : Shw d w' k' := ⟨h.s, h.l, Nat.le_trans h.w hw, Nat.le_trans h.k hk, h.c⟩
theorem shw_non : Shw .none 0 0 := ⟨by simp [PyData.showable], by simp [PyData.leavesShort], by simp [PyData.weight], by simp [PyData.depth], by simp [PyData.canLay0]⟩
theorem shw_int {i : Int} (h : i.natAbs < 1000000000000) : Shw (.int i) 40 0 := by
  have hl : i.natAbs.log2 < 40 := by
    by_cases h0 : i.natAbs = 0
    · rw [h0]; decide
    · rw [Nat.log2_lt h0]; omega
  refine ⟨by simp only [PyData.showable, decide_eq_true_eq]; omega, ?_, ?_, by simp [PyData.depth], by simp [PyData.canLay0]⟩
  · simp only [PyData.leavesShort, decide_eq_true_eq]
    exact PyData.shown_int_le (by simpa using h)
  · simp only [PyData.weight]
    split <;> omega
theorem shw_all {w k : Nat} : ∀ {ds : List PyData}, (∀ d ∈ ds, Shw d w k) → PyData.showableAll ds = true ∧ PyData.leavesShortAll 13 ds = true ∧ PyData.weightAll ds ≤ (w + 1) * ds.length ∧ PyData.depthAll ds ≤ k ∧ PyData.canLayAll0 ds = true
  | [], _ => ⟨by simp [PyData.showableAll], by simp [PyData.leavesShortAll], by simp [PyData.weightAll], by simp [PyData.depthAll], by simp [PyData.canLayAll0]⟩
  | d :: ds, h => by
    obtain ⟨a, b, c, e, f⟩ := shw_all (ds := ds) fun x hx => h x (List.mem_cons_of_mem _ hx)
    have g := h d List.mem_cons_self
    refine ⟨by simp [PyData.showableAll, a, g.s], by simp [PyData.leavesShortAll, b, g.l], ?_, ?_, by simp [PyData.canLayAll0, f, g.c]⟩
    · simp only [PyData.weightAll, List.length_cons, Nat.mul_add, Nat.mul_one]
      have := g.w
      omega
    · simp only [PyData.depthAll]
      have := g.k
      omega
theorem shw_tup {w k n : Nat} {ds : List PyData} (h : ∀ d ∈ ds, Shw d w k) (hl : ds.length ≤ n) : Shw (.tuple ds) ((w + 1) * n) (k + 1) := by
  obtain ⟨a, b, c, e, f⟩ := shw_all h
  refine ⟨by simpa [PyData.showable] using a, by simpa [PyData.leavesShort] using b, ?_, ?_, by simpa [PyData.canLay0] using f⟩
  · simp only [PyData.weight]
    exact Nat.le_trans c (Nat.mul_le_mul_left _ hl)
  · simp only [PyData.depth]; omega
end DL
namespace DL
open PySem L2
theorem walk_E {l : PySem.W.OpenLaw} {k : Nat} {q : Program} {loose : List Str} {XP : (Str → Option Value) → Heap → Prop} {YP : World → Heap → Prop} {d : DefRec} {K : Params → PySem.W.Frag} {x : Str}
    (hn : l.most = some 63) (hdf : d.params.defaults = []) (hr : L2.Room k callerA) (hY : ∀ (w : World) (h : Heap), YP w h → (K w.params).In h)
    (F : ∀ (w : World) (mg : Str → Option Value) (fa : Addr) (h : Heap), YP w h → (K w.params).In h → h.Ns mainGlobals mg → mg d.name = some (.ref fa) → LawE l.prog w (K w.params) mg h k fa x) :
    PySem.W.WalkO q loose XP YP l.row.toRowW d [] (fun f vs => PySem.call f vs) :=
  walk_of (sp := fun w => spLaw (K w.params)) (CX := fun w => L2.CX l.prog w) hn (by decide) hdf hr hY (fun w mg fa h y1 y2 y3 y4 => F w mg fa h y1 y2 y3 y4) (fun _ _ _ _ _ h => cx_gone h)
end DL
namespace DL
open PySem PySem.Spec PyProof.Rows L2
section Ex42
variable {X : Cx} {W : WX}
def noW : WX := fun _ _ _ _ => False
theorem takes_no : Takes X noW := fun u s h => by
  obtain ⟨_, _, _, _, _, _, _, _, _, _, _, _, _, _, _, _, z⟩ := h
  exact z.elim
def noX : Fl → Fl
  | .ex _ _ => .bad
  | o => o
theorem postS_no {G H : Hp} {sg : L2.St} {dl : S} {D : Ends} {o : Fl} (h : PostS X W G H sg dl D (noX o)) : PostS X noW G H sg dl D o := by
  cases o with
  | ex _ _ => exact h.elim
  | bad => exact h
  | nx _ => exact h
  | brk _ => exact h
  | cnt _ => exact h
  | ret _ _ => exact h
def tryR (cs : List Str) (g : S → Fl) : Fl → Fl
  | .ex c d1 => if cs.contains c then noX (g d1) else .bad
  | o => o
def dTryR (cs : List Str) (f g : S → Fl) : S → Fl := fun dl => tryR cs g (f dl)
theorem ss_tryR {cs : List Str} {x : Str} {c : Value} {body suite : List Stmt} {b₀ : Stmt} {np pos pos' : Pos} {f g : S → Fl} (hs : X.stack = X.env :: X.outer) (hf : X.env.frame = some X.env.locals) (hc : Names X x c)
    (hcs : ∀ z ∈ cs, ∃ C, PySem.W.nsIn X.K mainGlobals z = some (some (.ref C)) ∧ X.mg z = some (.ref C) ∧ PySem.W.exmOne X.K (.ref C) c = some true)
    (hb : ∀ (W' : WX) (pn : List (Addr × Obj)) (xe : Value → Shared → Prop), Takes (X.tr pn xe) W' → PassesOwn (model X.prog X.w) X.A X.env xe → SB (X.tr pn xe) W' body f)
    (hsu : ∀ (a : Addr) (pn : List (Addr × Obj)), Takes (X.suite a pn) noW → SB (X.suite a pn) noW (b₀ :: suite) g) :
    SS X W (.Try body [.ExceptHandler (some (.Name x np)) none (b₀ :: suite) pos'] [] [] pos) (dTryR cs f g) := by
  refine ⟨_, ps_try_only (tb := fun W' D σ H => ∃ G dl, Rel X.K G H σ dl ∧ PostS X W' G H σ dl D (f dl)) (ts := fun _ _ _ D σ H => ∃ G dl, Rel X.K G H σ dl ∧ PostS X noW G H σ dl D (g dl)) hs hf hc (takes_no (X := X)) (fun W' pn xe tk pa => ?_) (fun a oe cls d pn _ _ => ?_), fun G H sg dl D re h => ?_⟩
  · obtain ⟨t, ps, so⟩ := hb W' pn xe tk pa
    exact ⟨fun pins s σ H D I q => by
      obtain ⟨G, dl, re, q⟩ := q
      exact ps.run pins s σ H D I (so G H σ dl D re q)⟩
  · obtain ⟨t, ps, so⟩ := hsu a ((a, oe) :: pn) takes_no
    exact ⟨fun pins s σ H D I q => by
      obtain ⟨G, dl, re, q⟩ := q
      exact ps.run pins s σ H D I (so G H σ dl D re q)⟩
  · refine ⟨G, dl, re, ?_⟩
    unfold dTryR at h
    cases e : f dl with
    | bad => rw [e] at h; exact h.elim
    | nx d1 => rw [e] at h; exact h
    | ret r d1 => rw [e] at h; exact h
    | brk d1 => rw [e] at h; exact h
    | cnt d1 => rw [e] at h; exact h
    | ex z d1 =>
      rw [e] at h
      intro C G1 H1 sg1 hz s1
      have h' : PostS X W G H sg dl D (if cs.contains z then noX (g d1) else .bad) := h
      cases hq : cs.contains z with
      | false => rw [hq] at h'; exact h'.elim
      | true =>
        rw [hq, if_pos rfl] at h'
        obtain ⟨C', q1, q2, q3⟩ := hcs z (by simpa using hq)
        rw [hz] at q2
        cases q2
        exact ⟨true, q3, fun _ a na => ⟨G1, d1, s1.rel, (postS_no h').from s1⟩, fun z => nomatch z⟩
section
variable {pins : List (Addr × Obj)} {σ : L2.St} {H : Hp} {s : Shared}
end
end Ex42
end DL
namespace DL
open PySem L2
theorem w_TryR (cs : List Str) (f g : S → Fl) (dl : S) : dTryR cs f g dl = tryR cs g (f dl) := rfl
theorem tryR_ret (cs : List Str) (g : S → Fl) (r : Rv) (d : S) : tryR cs g (.ret r d) = .ret r d := rfl
end DL
namespace DL
open PySem PySem.Spec L2 PyProof.Rows PpSet
section
variable {prog : Program} {w : World} {A : Around} {R : Result → Shared → Prop} {s : Shared} {elt t0 i0 t1 i1 : Expr} {c0 c1 : List Expr} {scope : Scope} {pos : Pos} {it acc : Value} {env : Env}
end
section
variable {X : Cx} {B : Type}
end
end DL
namespace DL
open PySem PySem.Spec PyProof.Rows L2
section Ex60
variable {X : Cx} {W : WX} {K : PySem.W.Frag}
def isStD : PyData → Bool
  | .str _ => true
  | _ => false
theorem tys_str : TyS K "str" isStD := by
  intro G H v d e t h
  cases d <;> try (cases h)
  have := t.str
  subst this
  exact rfl
def toS : PyData → Option Str
  | .str s => some s
  | _ => none
def allS : List PyData → Option (List Str)
  | [] => some []
  | d :: ds => (toS d).bind fun s => (allS ds).bind fun ss => some (s :: ss)
theorem allS_map : ∀ {ds : List PyData} {ns : List Str}, allS ds = some ns → ds = ns.map PyData.str
  | [], ns, h => by cases h; rfl
  | d :: ds, ns, h => by
    unfold allS at h
    cases d <;> try (cases h)
    rename_i s
    have h' : ((allS ds).bind fun ss => some (s :: ss)) = some ns := h
    cases e : allS ds with
    | none => rw [e] at h'; cases h'
    | some ss =>
      rw [e] at h'
      cases h'
      rw [allS_map e]
      rfl
theorem allS_strs : ∀ (ns : List Str), allS (ns.map PyData.str) = some ns
  | [] => rfl
  | n :: ns => by
    show ((allS (ns.map PyData.str)).bind fun ss => some (n :: ss)) = _
    rw [allS_strs ns]
    rfl
theorem das_strs {G : Hp} : ∀ {vs : List V} {ns : List Str}, DaAll K G vs (ns.map PyData.str) → vs = ns.map V.str
  | _, [], h => by cases h; rfl
  | _, n :: ns, h => by
    cases h with
    | cons h1 h2 => cases h1; rw [das_strs h2]; rfl
theorem das_ofStrs {G : Hp} : ∀ (ns : List Str), DaAll K G (ns.map V.str) (ns.map PyData.str)
  | [] => .nil
  | n :: ns => .cons (.str n) (das_ofStrs ns)
def joinO (a : Str) : Option (List Str) → Option Rv
  | some ys => if (ys.map (·.length)).sum + ys.length * a.length ≤ 16777216 then some (.val (.str (Txt.join a ys))) else none
  | none => none
def oJoin : PyData → PyData → Option Rv
  | .str a, .list ds => joinO a (allS ds)
  | _, _ => none
abbrev rJoin (K : PySem.W.Frag) : V → List V → Hp → VK → Prop := fun x xs H Q => ∃ a p, ∃ ys : List Str, x = .str a ∧ xs = [.ref p] ∧ (SqL K H p (ys.map V.str) ∨ SqT K H p (ys.map V.str)) ∧ (ys.map (·.length)).sum + ys.length * a.length ≤ 16777216 ∧ Q (.str (Txt.join a ys)) H
theorem os_join : OpS K (fun v u H Q => rJoin K v [u] H Q) oJoin := by
  intro G H v u a b r e ta tb h Q q
  cases a <;> try (cases h)
  cases b <;> try (cases h)
  rename_i a ds
  have h' : joinO a (allS ds) = some r := h
  cases hs : allS ds with
  | none => rw [hs] at h'; cases h'
  | some ys =>
    rw [hs] at h'
    have h2 : (if (ys.map (·.length)).sum + ys.length * a.length ≤ 16777216 then some (Rv.val (.str (Txt.join a ys))) else none) = some r := h'
    by_cases hl : (ys.map (·.length)).sum + ys.length * a.length ≤ 16777216
    · rw [if_pos hl] at h2
      cases h2
      rw [allS_map hs] at tb
      obtain ⟨p, vs, rfl, sq, z⟩ := tb.lst e
      have := das_strs z
      subst this
      exact ⟨a, p, ys, ta.str, rfl, .inl sq, hl, q.val e (.str _)⟩
    · rw [if_neg hl] at h2; cases h2
theorem se_join {o e : Expr} {apos cpos : Pos} {f g : S → Out Rv} (ha : SE X W o f) (hb : SE X W e g)
    (hbase : attributeBase o "join" X.env (eval o X.env) = eval o X.env := by rfl)
    (hfew : ((backTo cpos (starEach [e] X.env)).all (fun x => !x.1) && (backToKw cpos (keywordEach [] X.env)).all (fun x => x.1.isSome)
      && decide ([e].length + ([] : List Keyword).length + (if ([] : List Keyword).isEmpty then 0 else 1) < 30)) = true := by rfl)
    (hline : (apos.endLine == cpos.line) = true := by rfl) (hst : starEach [e] X.env = (false, eval e X.env) :: starEach [] X.env := by rfl) :
    SE X W (.Call (.Attribute o "join" apos) [e] [] cpos) (d2 oJoin (dIs isStD f) g) :=
  se_m1 PySem.F.plainAttrs_str PySem.F.slot_str_join PySem.F.type_str_join mt_join tys_str os_join ha hb hbase hfew hline hst
def oSplit : PyData → PyData → Option Rv
  | .str a, .str b => if (b.length == 0) = false ∧ a.length ≤ 1000000 then some (.new ((Txt.split a b).map PyData.str)) else none
  | _, _ => none
theorem os_split : OpS K (fun v u H Q => ∃ a b, v = .str a ∧ [u] = [V.str b] ∧ (b.length == 0) = false ∧ a.length + 2 ≤ sizeLine ∧ rNewStrs (Txt.split a b) H Q) oSplit := by
  intro G H v u a b r e ta tb h Q q
  cases a <;> try (cases h)
  cases b <;> try (cases h)
  rename_i a b
  have h' : (if (b.length == 0) = false ∧ a.length ≤ 1000000 then some (Rv.new ((Txt.split a b).map PyData.str)) else none) = some r := h
  by_cases hl : (b.length == 0) = false ∧ a.length ≤ 1000000
  · rw [if_pos hl] at h'
    cases h'
    have h1 := ta.str
    have h2 := tb.str
    subst h1 h2
    exact ⟨a, b, rfl, rfl, hl.1, by rw [sizeLine_eq]; omega, q.lst e (das_ofStrs _)⟩
  · rw [if_neg hl] at h'; cases h'
theorem se_split {o e : Expr} {apos cpos : Pos} {f g : S → Out Rv} (ha : SE X W o f) (hb : SE X W e g)
    (hbase : attributeBase o "split" X.env (eval o X.env) = eval o X.env := by rfl)
    (hfew : ((backTo cpos (starEach [e] X.env)).all (fun x => !x.1) && (backToKw cpos (keywordEach [] X.env)).all (fun x => x.1.isSome)
      && decide ([e].length + ([] : List Keyword).length + (if ([] : List Keyword).isEmpty then 0 else 1) < 30)) = true := by rfl)
    (hline : (apos.endLine == cpos.line) = true := by rfl) (hst : starEach [e] X.env = (false, eval e X.env) :: starEach [] X.env := by rfl) :
    SE X W (.Call (.Attribute o "split" apos) [e] [] cpos) (d2 oSplit (dIs isStD f) g) :=
  se_m1 PySem.F.plainAttrs_str PySem.F.slot_str_split PySem.F.type_str_split mt_split tys_str os_split ha hb hbase hfew hline hst
def intO (a : Str) : Option Int → Option Rv
  | some n => if a.length ≤ 640 then vI n else none
  | none => none
def bIntS : List PyData → Option Rv
  | [.str a] => intO a (PySem.intText? a)
  | ds => bInt ds
abbrev rInt1 : List V → Hp → VK → Prop := fun xs H Q => (∃ i, xs = [.int i] ∧ Q (.int i) H) ∨ ∃ k, xs = [.bl k] ∧ Q (.int (if k then 1 else 0)) H
abbrev rIntT : List V → Hp → VK → Prop := fun xs H Q => ∃ a n, xs = [.str a] ∧ PySem.intText? a = some n ∧ a.length ≤ 640 ∧ Q (.int n) H
theorem cs_intS : CaS K (fun xs H Q => rInt1 xs H Q ∨ rIntT xs H Q) bIntS := by
  intro G H vs ds rv e t h Q q
  unfold bIntS at h
  split at h
  · obtain ⟨v, rfl, t'⟩ := tr1 t
    rename_i a
    have := t'.str
    subst this
    cases hn : PySem.intText? a with
    | none => rw [hn] at h; cases h
    | some n =>
      rw [hn] at h
      have h2 : (if a.length ≤ 640 then vI n else none) = some rv := h
      by_cases hl : a.length ≤ 640
      · rw [if_pos hl] at h2
        cases h2
        exact .inr ⟨a, n, rfl, hn, hl, q.val e (.int _)⟩
      · rw [if_neg hl] at h2; cases h2
  · exact .inl (cs_int G H vs ds rv e t h Q q)
theorem cr_intS : CallR X (.type "int") (fun xs H Q => rInt1 xs H Q ∨ rIntT xs H Q) := CallR.or call_int1 call_int_str
def inS (a b : Str) : Bool := !(Builtin.Str.occurrences b a 0 b.length 1).isEmpty
def oInS : PyData → PyData → Option Rv
  | .str a, .str b => vB (inS a b)
  | _, _ => none
theorem os_inS : OpS K (fun x y H Q => ∃ i j, x = .str i ∧ y = .str j ∧ Q (.bl (!(Builtin.Str.occurrences j i 0 j.length 1).isEmpty)) H) oInS := by
  intro G H v u a b r e ta tb h Q q
  cases a <;> try (cases h)
  cases b <;> try (cases h)
  exact ⟨_, _, ta.str, tb.str, q.val e (.bl _)⟩
def sgnD (z : Str) : List PyData := z.cps.toList.map fun c => PyData.str ⟨#[c]⟩
def itDS (dl : S) : Option PyData → Out (List PyData)
  | some (.str z) => .ok (sgnD z) dl
  | _ => .bad
def dItS (f : S → Out Rv) : S → Out (List PyData) := fun dl => (f dl).bind fun r d1 => itDS d1 (rd d1 r)
theorem wk_str {G : Hp} (z : Str) : Wk K (Its z) G (sgnD z) := by
  intro i G' H' e1 e2
  refine ⟨fun d hd => ?_, fun hl => ?_⟩
  · unfold sgnD at hd
    rw [List.getElem?_map] at hd
    cases hc : z.cps.toList[i]? with
    | none => rw [hc] at hd; cases hd
    | some c =>
      rw [hc] at hd
      cases hd
      have hi := (List.getElem?_eq_some_iff.mp hc).1
      refine ⟨by show i < z.cps.size; simpa using hi, fun x H2 y => ?_⟩
      obtain ⟨rfl, c', h1, rfl⟩ := y
      have : c' = c := by
        have h2 : z.cps.toList[i]? = some c' := by rw [Array.getElem?_toList]; exact h1
        rw [hc] at h2
        exact (Option.some.inj h2).symm
      subst this
      exact ⟨G', Alc.refl e2, .str _⟩
  · show z.cps.size ≤ i
    unfold sgnD at hl
    rw [List.length_map] at hl
    simpa using hl
theorem si_str {tg e : Expr} {f : S → Out Rv} (he : SE X W e f) : SI X W tg e (dItS f) := by
  obtain ⟨t, p, s⟩ := he
  refine ⟨_, pi_str p, fun G H sg dl R re h => ?_⟩
  refine s G H sg dl _ re ((post_bind h).imp fun r d1 G1 H1 s1 k1 h1 v q => ?_)
  cases e1 : rd d1 r with
  | none => rw [e1] at h1; exact h1.elim
  | some d =>
    rw [e1] at h1
    have h2 : Post X W G1 H1 sg d1 (fun ds _ G1 H1 => ∀ J, Wk X.K J G1 ds → R J H1) (itDS d1 (some d)) := h1
    cases d with
    | str z =>
      have := (q.tr s1.rel e1).str
      subst this
      exact ⟨z, rfl, h2 G1 H1 (Stp.refl s1.rel) (Kp.refl d1) _ (wk_str z)⟩
    | none => exact h2.elim
    | bool _ => exact h2.elim
    | int _ => exact h2.elim
    | list _ => exact h2.elim
    | tuple _ => exact h2.elim
    | dict _ => exact h2.elim
theorem se_gs {x i : Str} {pos : Pos} (hg : Gl X x) (h : ∃ t, X.mg x = some (.str i t)) (hd : (x == ("__debug__" : Str)) = false := by decide) : SE X W (.Name x pos) (dC (.str i)) := by
  obtain ⟨t, h⟩ := h
  exact se_gstr hg h hd
end Ex60
end DL
namespace DL
open PySem PySem.Spec PyProof.Rows L2
section Ex61
variable {X : Cx} {W : WX} {K : PySem.W.Frag}
def parO (i j : Nat) : Option (List PyData × S) → Fl
  | some ([a, b], d2) => .nx ((d2.set i (.val a)).set j (.val b))
  | _ => .bad
def dPar (i j : Nat) (fa : S → Out (List Rv)) : S → Fl := fun dl => (fa dl).fl fun rs d1 => parO i j (stbs d1 rs)
theorem ss_par (i j : Nat) {x y : Str} {a b : Expr} {kt k2 : Nat} {px py pt pt2 pos : Pos} {fa : S → Out (List Rv)} (hc : X.calm = true) (hN : X.N.Nodup) (hi : X.N[i]? = some x) (hj : X.N[j]? = some y) (hij : i ≠ j)
    (hx : X.env.scope.names.lookup x = some .local) (hy : X.env.scope.names.lookup y = some .local) (ha : SA X W [a, b] fa)
    (hw : swappedStores [.Tuple [.Name x px, .Name y py] kt pt] (.Tuple [a, b] k2 pt2) X.env = pure (some [x, y]) := by rfl) :
    SS X W (.Assign [.Tuple [.Name x px, .Name y py] kt pt] (.Tuple [a, b] k2 pt2) pos) (dPar i j fa) := by
  obtain ⟨t, p, s⟩ := ha
  refine ⟨_, ps_par hc hN hi hj hij hx hy p hw, fun G H sg dl D re h => ?_⟩
  refine s G H sg dl _ re ((post_fl h).imp fun rs d1 G1 H1 s1 k1 h1 vs q => ?_)
  cases es : stbs d1 rs with
  | none => rw [es] at h1; exact h1.elim
  | some y =>
    obtain ⟨ds, d2⟩ := y
    rw [es] at h1
    obtain ⟨G2, s2, k2, z2⟩ := stbs_ok s1.rel q es
    have h2 : PostS X W G H sg dl D (parO i j (some (ds, d2))) := h1
    unfold parO at h2
    split at h2
    · rename_i e
      cases e
      cases z2 with
      | cons q1 z2 =>
        cases z2 with
        | cons q2 z3 =>
          cases z3
          have st1 := setV_ok (s1.trans s2) q1 i
          have st2 := setV_ok st1 q2 j
          exact ⟨_, _, rfl, h2 _ _ _ st2⟩
    · exact h2.elim
def KPar (i j : Nat) : Out (List Rv) → Fl
  | .ok rs d1 => parO i j (stbs d1 rs)
  | .ex c d1 => .ex c d1
  | .bad => .bad
theorem w_Par (i j : Nat) (fa : S → Out (List Rv)) (dl : S) : dPar i j fa dl = KPar i j (fa dl) := by
  unfold dPar
  cases fa dl <;> rfl
theorem KPar_ (i j : Nat) (rs : List Rv) (d : S) : KPar i j (.ok rs d) = parO i j (stbs d rs) := rfl
theorem parO_ (i j : Nat) (a b : PyData) (d : S) : parO i j (some ([a, b], d)) = .nx ((d.set i (.val a)).set j (.val b)) := rfl
end Ex61
end DL
namespace DL
open PySem L2
theorem b_is (a b : Bool) : oIsB (.bool a) (.bool b) = vB (decide (a = b)) := rfl
theorem b_nis (a b : Bool) : oNotB (.bool a) (.bool b) = vB (!decide (a = b)) := rfl
def KIs (p : PyData → Bool) (o : Out Rv) : Out Rv := o.bind fun r d1 => isLO p r d1 (rd d1 r)
theorem KIs_ (p : PyData → Bool) (r : Rv) (d : S) : KIs p (.ok r d) = isLO p r d (rd d r) := rfl
theorem w_Is (p : PyData → Bool) (f : S → Out Rv) (dl : S) : dIs p f dl = KIs p (f dl) := rfl
theorem isLO_l (r : Rv) (dl : S) (ds : List PyData) : isLO isLst r dl (some (.list ds)) = .ok r dl := rfl
theorem t_ix3 (a b c d : PyData) (l : List PyData) : oIx (.tuple (a :: b :: c :: d :: l)) (nI 3) = some (.val d) := l_ix3 a b c d l
theorem t_ix4 (a b c d e : PyData) (l : List PyData) : oIx (.tuple (a :: b :: c :: d :: e :: l)) (nI 4) = some (.val e) := l_ix4 a b c d e l
theorem ba1 : bAll [.list [.bool true]] = vB true := rfl
theorem ba2 : bAll [.list [.bool true, .bool true]] = vB true := rfl
theorem ba3 : bAll [.list [.bool true, .bool true, .bool true]] = vB true := rfl
theorem ba4 : bAll [.list [.bool true, .bool true, .bool true, .bool true]] = vB true := rfl
theorem t_rev (m : Nat) (ds : List PyData) : oRevT m (.tuple ds) = some (.val (.tuple (ds.drop m).reverse)) := rfl
def KExt (i : Nat) (o : Out Rv) : Fl := o.fl fun r d1 => extR d1 i r
theorem KExt_ (i : Nat) (r : Rv) (d : S) : KExt i (.ok r d) = extR d i r := rfl
def KExt0 (i : Nat) (f : S → Out Rv) (d : S) : Fl := KExt i (f d)
theorem KExt0_ (i : Nat) (f : S → Out Rv) (d : S) : KExt0 i f d = KExt i (f d) := rfl
theorem w_Ext (i : Nat) (f : S → Out Rv) (dl : S) : dExt i f dl = iteF (isOwn dl i) (KExt0 i f) KBad dl := rfl
theorem w_extR (i : Nat) (es : List PyData) (d : S) : extR d i (.new es) = ofO (chg d i (ext1 es)) := rfl
theorem w_ext1 {es ds : List PyData} (h : ds.length + es.length ≤ 100000) : ext1 es ds = some (ds ++ es) := if_pos h
end DL
namespace DL
open PySem L2
def KTru (o : Out Rv) : Out Bool := o.bind fun r d1 => truT d1 ((rd d1 r).bind truD)
theorem KTru_ (r : Rv) (d : S) : KTru (.ok r d) = truT d ((rd d r).bind truD) := rfl
theorem w_Tru (f : S → Out Rv) (dl : S) : dTru f dl = KTru (f dl) := rfl
theorem truT_ (d : S) (b : Bool) : truT d (some b) = .ok b d := rfl
theorem truD_l (ds : List PyData) : truD (.list ds) = some (!ds.isEmpty) := rfl
theorem truD_t (ds : List PyData) : truD (.tuple ds) = some (!ds.isEmpty) := rfl
theorem g_get (acc : KD) (c : Nat) : oGet1 (dicD acc) (nI c) = some (.val ((valD acc (.inl (c : Int))).getD .none)) := by
  show ((unD (acc.map fun kv => (kD kv.1, kv.2))).bind fun acc => (keyOf (nI c)).map fun k => Rv.val ((valD acc k).getD .none)) = _
  rw [unD_map]
  rfl
theorem isLO_d (r : Rv) (dl : S) (acc : KD) : isLO isDicU r dl (some (dicD acc)) = .ok r dl := by
  show (if (unD (acc.map fun kv => (kD kv.1, kv.2))).isSome then Out.ok r dl else .bad) = _
  rw [unD_map]
  rfl
def KDComp (vs : List Nat) (put : S → PyData → Option S) (c : S → Out Bool) (fk fv : S → Out Rv) (o : Out (List PyData)) : Out Rv := o.bind fun ds d1 => endK d1 vs (compK vs put c fk fv ds (wipeD d1 vs) [])
theorem KDComp_ (vs : List Nat) (put : S → PyData → Option S) (c : S → Out Bool) (fk fv : S → Out Rv) (ds : List PyData) (d : S) : KDComp vs put c fk fv (.ok ds d) = endK d vs (compK vs put c fk fv ds (wipeD d vs) []) := rfl
theorem w_DComp (it : S → Out (List PyData)) (vs : List Nat) (put : S → PyData → Option S) (c : S → Out Bool) (fk fv : S → Out Rv) (dl : S) : dDComp it vs put c fk fv dl = KDComp vs put c fk fv (it dl) := rfl
end DL
namespace T
noncomputable section
open PySem PySem.Spec PyProof.Rows L2 DL
set_option maxHeartbeats 4000000
def topS (i : Nat) : Stmt := PySem.Challenge.pw_notchledger_k82_writings_told.main.body.getD i (.Pass ⟨0, 0, 0, 0⟩)
abbrev s_is_number : Stmt := topS 7
theorem sc_is_number : FnScope ["thing"] ["thing"] (defScope s_is_number) := ⟨rfl, rfl, rfl, by decide +kernel, rfl, by decide +kernel, by decide +kernel⟩
def D_is_number : S → Fl := dRet (dAnd (d1 (oIsi "int") (dVar 0)) (dNot (d1 (oIsi "bool") (dVar 0))))
def G_is_number : Fn := runF false 1 1 D_is_number
abbrev s_is_between : Stmt := topS 8
theorem sc_is_between : FnScope ["thing", "low", "high"] ["thing", "low", "high"] (defScope s_is_between) := ⟨rfl, rfl, rfl, by decide +kernel, rfl, by decide +kernel, by decide +kernel⟩
def D_is_between : S → Fl := dRet (dAnd (dCall 1 G_is_number (dCons (dVar 0) (dNil))) (dCh oLe oLe (dVar 1) (dVar 0) (dVar 2)))
def G_is_between : Fn := runF false 3 3 D_is_between
abbrev s_is_figures : Stmt := topS 9
theorem sc_is_figures : FnScope ["text", "sign"] ["text"] (defScope s_is_figures) := ⟨rfl, rfl, rfl, by decide +kernel, rfl, by decide +kernel, by decide +kernel⟩
def D_is_figures : S → Fl := dSeq (dIf (tnOr (tnNot (dT (dCh oLe oLe (dC (nI 1)) (dB bLen (dCons (dVar 0) (dNil))) (dC (nI 3))))) (tnNot (dT (dB bAll (dCons (dComp (dItS (dVar 0)) [1] (tgN 1) (dYes) (d2 oInS (dVar 1) (dC (.str "0123456789")))) (dNil)))))) (dRet (dC (.bool false))) (dNx)) (dRet (dOr (d2 oEqS (dVar 0) (dC (.str "0"))) (d2 oNeS (d2 oIx (dVar 0) (dC (nI 0))) (dC (.str "0")))))
def G_is_figures : Fn := runF false 1 2 D_is_figures
abbrev s_is_table : Stmt := topS 15
theorem sc_is_table : FnScope ["n", "k", "table", "thing"] ["n", "k", "table"] (defScope s_is_table) := ⟨rfl, rfl, rfl, by decide +kernel, rfl, by decide +kernel, by decide +kernel⟩
def D_is_table : S → Fl := dSeq (dIf (tnOr (tnNot (dT (d1 (oIsi "tuple") (dVar 2)))) (dT (d2 oNe (dB bLen (dCons (dVar 2) (dNil))) (d2 oShl (dC (nI 1)) (dVar 0))))) (dRet (dC (.bool false))) (dNx)) (dRet (dB bAll (dCons (dComp (dIt (dVar 2)) [3] (tgN 3) (dYes) (dOr (d2 oIsN (dVar 3) (dC .none)) (dCall 3 G_is_between (dCons (dVar 3) (dCons (dC (nI 0)) (dCons (d2 oSub (dVar 1) (dC (nI 1))) (dNil))))))) (dNil))))
def G_is_table : Fn := runF false 3 4 D_is_table
abbrev s_made_writing : Stmt := topS 14
theorem sc_made_writing : FnScope ["n", "k", "table"] ["n", "k", "table"] (defScope s_made_writing) := ⟨rfl, rfl, rfl, by decide +kernel, rfl, by decide +kernel, by decide +kernel⟩
def D_made_writing : S → Fl := dSeq (dIf (tnNot (dT (dCall 3 G_is_between (dCons (dVar 0) (dCons (dC (nI 1)) (dCons (dC (nI 8)) (dNil))))))) (fun dl => .ex "NoWriting" dl) (dNx)) (dSeq (dIf (tnNot (dT (dCall 3 G_is_between (dCons (dVar 1) (dCons (dC (nI 2)) (dCons (dC (nI 100)) (dNil))))))) (fun dl => .ex "NoWriting" dl) (dNx)) (dSeq (dIf (tnNot (dT (dCall 3 G_is_table (dCons (dVar 0) (dCons (dVar 1) (dCons (dVar 2) (dNil))))))) (fun dl => .ex "NoWriting" dl) (dNx)) (dRet (dTup (dCons (dVar 0) (dCons (dVar 1) (dCons (dVar 2) (dNil))))))))
def G_made_writing : Fn := runF false 3 3 D_made_writing
abbrev s_writing_text : Stmt := topS 18
theorem sc_writing_text : FnScope ["writing", "words", "n", "k", "table", "number"] ["writing"] (defScope s_writing_text) := ⟨rfl, rfl, rfl, by decide +kernel, rfl, by decide +kernel, by decide +kernel⟩
def D_writing_text : S → Fl := dSeq (dUnp [2, 3, 4] (dVar 0)) (dSeq (dSet 1 (dComp (dIt (dVar 4)) [5] (tgN 5) (dYes) (dIte (dT (d2 oIsN (dVar 5) (dC .none))) (dC (.str "-")) (dB bStr (dCons (dVar 5) (dNil)))))) (dRet (d2 oAdd (d2 oAdd (d2 oAdd (d2 oJoin (dIs isStD (dC (.str " "))) (dLst (dCons (dC (.str "strip")) (dCons (dB bStr (dCons (dVar 2) (dNil))) (dCons (dB bStr (dCons (dVar 3) (dNil))) (dNil)))))) (dC (.str "\n"))) (d2 oJoin (dIs isStD (dC (.str " "))) (dVar 1))) (dC (.str "\n")))))
def G_writing_text : Fn := runF false 1 6 D_writing_text
abbrev s_is_head : Stmt := topS 20
theorem sc_is_head : FnScope ["words"] ["words"] (defScope s_is_head) := ⟨rfl, rfl, rfl, by decide +kernel, rfl, by decide +kernel, by decide +kernel⟩
def D_is_head : S → Fl := dRet (dAnd (d2 oEq (dB bLen (dCons (dVar 0) (dNil))) (dC (nI 3))) (dAnd (d2 oEqS (d2 oIx (dVar 0) (dC (nI 0))) (dC (.str "strip"))) (dAnd (dCall 1 G_is_figures (dCons (d2 oIx (dVar 0) (dC (nI 1))) (dNil))) (dCall 1 G_is_figures (dCons (d2 oIx (dVar 0) (dC (nI 2))) (dNil))))))
def G_is_head : Fn := runF false 1 1 D_is_head
abbrev s_is_word : Stmt := topS 21
theorem sc_is_word : FnScope ["word"] ["word"] (defScope s_is_word) := ⟨rfl, rfl, rfl, by decide +kernel, rfl, by decide +kernel, by decide +kernel⟩
def D_is_word : S → Fl := dRet (dOr (d2 oEqS (dVar 0) (dC (.str "-"))) (dCall 1 G_is_figures (dCons (dVar 0) (dNil))))
def G_is_word : Fn := runF false 1 1 D_is_word
abbrev s_read_writing : Stmt := topS 19
theorem sc_read_writing : FnScope ["thing", "rows", "table", "head", "words", "word"] ["thing"] (defScope s_read_writing) := ⟨rfl, rfl, rfl, by decide +kernel, rfl, by decide +kernel, by decide +kernel⟩
def D_read_writing : S → Fl := dSeq (dIf (tnNot (dT (d1 (oIsi "str") (dVar 0)))) (fun dl => .ex "NoText" dl) (dNx)) (dSeq (dSet 1 (d2 oSplit (dIs isStD (dVar 0)) (dC (.str "\n")))) (dSeq (dIf (tnOr (dT (d2 oNe (dB bLen (dCons (dVar 1) (dNil))) (dC (nI 3)))) (dT (d2 oNeS (d2 oIx (dVar 1) (dC (nI 2))) (dC (.str ""))))) (fun dl => .ex "NoText" dl) (dNx)) (dSeq (dPar 3 4 (dCons (d2 oSplit (dIs isStD (d2 oIx (dVar 1) (dC (nI 0)))) (dC (.str " "))) (dCons (d2 oSplit (dIs isStD (d2 oIx (dVar 1) (dC (nI 1)))) (dC (.str " "))) (dNil)))) (dSeq (dIf (tnOr (tnNot (dT (dCall 1 G_is_head (dCons (dVar 3) (dNil))))) (tnNot (dT (dB bAll (dCons (dComp (dIt (dVar 4)) [5] (tgN 5) (dYes) (dCall 1 G_is_word (dCons (dVar 5) (dNil)))) (dNil)))))) (fun dl => .ex "NoText" dl) (dNx)) (dSeq (dSet 2 (dB bTup (dCons (dComp (dIt (dVar 4)) [5] (tgN 5) (dYes) (dIte (dT (d2 oEqS (dVar 5) (dC (.str "-")))) (dC .none) (dB bIntS (dCons (dVar 5) (dNil))))) (dNil)))) (dTryR ["NoWriting"] (dRet (dCall 3 G_made_writing (dCons (dB bIntS (dCons (d2 oIx (dVar 3) (dC (nI 1))) (dNil))) (dCons (dB bIntS (dCons (d2 oIx (dVar 3) (dC (nI 2))) (dNil))) (dCons (dVar 2) (dNil)))))) (fun _ => .bad)))))))
def G_read_writing : Fn := runF false 1 6 D_read_writing
abbrev s_law_stream : Stmt := topS 23
theorem sc_law_stream : FnScope ["_law_script", "_law_k", "_law_cell", "_law_mixed"] ["_law_script", "_law_k"] (defScope s_law_stream) := ⟨rfl, rfl, rfl, by decide +kernel, rfl, by decide +kernel, by decide +kernel⟩
def D_law_stream : S → Fl := dSeq (dIf (dT (d2 oLt (dVar 1) (dB bLen (dCons (dVar 0) (dNil))))) (dSeq (dSet 2 (dB bAbs (dCons (d2 oIx (dVar 0) (dVar 1)) (dNil)))) (dSeq (dSet 3 (d2 oAdd (d2 oAdd (d2 oMod (dVar 2) (dC (nI 2147483629))) (d2 oMul (dVar 1) (dVar 1))) (dC (nI 1)))) (dSeq (dIf (dT (d2 oLt (dVar 2) (d2 oPow (dC (nI 10)) (dC (nI 18))))) (dSet 2 (dC (nI 0))) (dNx)) (dRet (dLst (dCons (dVar 2) (dCons (dVar 3) (dNil)))))))) (dNx)) (dRet (dLst (dCons (dC (nI 0)) (dCons (d2 oAdd (d2 oMul (dVar 1) (dVar 1)) (dC (nI 11))) (dNil)))))
def G_law_stream : Fn := runF false 2 4 D_law_stream
abbrev s_law_take : Stmt := topS 24
theorem sc_law_take : FnScope ["_law_stream_here", "_law_most", "_law_digit"] ["_law_stream_here", "_law_most"] (defScope s_law_take) := ⟨rfl, rfl, rfl, by decide +kernel, rfl, by decide +kernel, by decide +kernel⟩
def D_law_take : S → Fl := dSeq (dIf (dT (d2 oEq (d2 oIx (dVar 0) (dC (nI 0))) (dC (nI 0)))) (dSeq (dStI 0 (dC (nI 1)) (d2 oMod (d2 oAdd (d2 oMul (d2 oIx (dVar 0) (dC (nI 1))) (dC (nI 48271))) (dC (nI 12345))) (dC (nI 2147483647)))) (dRet (d2 oMod (d2 oMod (d2 oMul (d2 oIx (dVar 0) (dC (nI 1))) (d2 oIx (dVar 0) (dC (nI 1)))) (dC (nI 2147483629))) (dVar 1)))) (dNx)) (dSeq (dSet 2 (d2 oMod (d2 oIx (dVar 0) (dC (nI 0))) (dVar 1))) (dSeq (dStI 0 (dC (nI 0)) (d2 oDiv (d2 oIx (dVar 0) (dC (nI 0))) (dVar 1))) (dRet (dVar 2))))
def G_law_take : Fn := runF true 2 3 D_law_take
abbrev s_law_table : Stmt := topS 25
theorem sc_law_table : FnScope ["_law_stream_here", "_law_n", "_law_k", "_law_way", "_law_weights", "_law_rows", "_law_cuts", "_law_number", "_law_spot"] ["_law_stream_here", "_law_n", "_law_k"] (defScope s_law_table) := ⟨rfl, rfl, rfl, by decide +kernel, rfl, by decide +kernel, by decide +kernel⟩
def D_law_table : S → Fl := dSeq (dSet 3 (dCallI 2 G_law_take 0 (dCons (dC (nI 3)) (dNil)))) (dSeq (dSet 4 (dComp (dRng1 (dCons (dVar 1) (dNil))) [8] (tgN 8) (dYes) (dCallI 2 G_law_take 0 (dCons (dVar 2) (dNil))))) (dSeq (dSet 5 (dLst (dNil))) (dSeq (dFor (dRng1 (dCons (d2 oShl (dC (nI 1)) (dVar 1)) (dNil))) (tgN 6) (dSeq (dSet 7 (dCallI 2 G_law_take 0 (dCons (dVar 2) (dNil)))) (dSeq (dIf (dT (d2 oEq (dVar 3) (dC (nI 2)))) (dSet 7 (d2 oMod (dB bSum (dCons (dComp (dRng1 (dCons (dVar 1) (dNil))) [8] (tgN 8) (dT (d2 oEq (d2 oAnd (d2 oShr (dVar 6) (dVar 8)) (dC (nI 1))) (dC (nI 1)))) (d2 oIx (dVar 4) (dVar 8))) (dNil))) (dVar 2))) (dNx)) (dSeq (dIf (tnAnd (dT (d2 oEq (dVar 3) (dC (nI 1)))) (dT (d2 oEq (dCallI 2 G_law_take 0 (dCons (dC (nI 2)) (dNil))) (dC (nI 0))))) (dSet 7 (dC .none)) (dNx)) (dApp 5 (dVar 7)))))) (dRet (dB bTup (dCons (dVar 5) (dNil)))))))
def G_law_table : Fn := runF true 3 9 D_law_table
abbrev s_law_otherwise : Stmt := topS 26
theorem sc_law_otherwise : FnScope ["_law_stream_here", "_law_case", "_law_at", "_law_n", "_law_k", "_law_table_here"] ["_law_stream_here", "_law_case"] (defScope s_law_otherwise) := ⟨rfl, rfl, rfl, by decide +kernel, rfl, by decide +kernel, by decide +kernel⟩
def D_law_otherwise : S → Fl := dSeq (dUnp [3, 4, 5] (dVar 1)) (dSeq (dSet 2 (dCallI 2 G_law_take 0 (dCons (dB bLen (dCons (dVar 5) (dNil))) (dNil)))) (dRet (dTup (dCons (dVar 3) (dCons (dVar 4) (dCons (d2 oAdd (d2 oAdd (dSl (dVar 5) (dNoPart) (dPart (dVar 2))) (dTup (dCons (d2 oIx (dLst (dCons (dC .none) (dCons (dC (nI 0)) (dCons (d2 oSub (dVar 4) (dC (nI 1))) (dCons (dCallI 2 G_law_take 0 (dCons (dVar 4) (dNil))) (dNil)))))) (dCallI 2 G_law_take 0 (dCons (dC (nI 4)) (dNil)))) (dNil)))) (dSl (dVar 5) (dPart (d2 oAdd (dVar 2) (dC (nI 1)))) (dNoPart))) (dNil)))))))
def G_law_otherwise : Fn := runF true 2 6 D_law_otherwise
abbrev s_law_text : Stmt := topS 27
theorem sc_law_text : FnScope ["_law_case", "_law_words", "_law_n", "_law_k", "_law_table_here", "_law_number"] ["_law_case"] (defScope s_law_text) := ⟨rfl, rfl, rfl, by decide +kernel, rfl, by decide +kernel, by decide +kernel⟩
def D_law_text : S → Fl := dSeq (dUnp [2, 3, 4] (dVar 0)) (dSeq (dSet 1 (dComp (dIt (dVar 4)) [5] (tgN 5) (dYes) (dIte (dT (d2 oIsN (dVar 5) (dC .none))) (dC (.str "-")) (dB bStr (dCons (dVar 5) (dNil)))))) (dRet (d2 oAdd (d2 oAdd (d2 oAdd (d2 oAdd (d2 oAdd (d2 oAdd (dC (.str "strip ")) (dB bStr (dCons (dVar 2) (dNil)))) (dC (.str " "))) (dB bStr (dCons (dVar 3) (dNil)))) (dC (.str "\n"))) (d2 oJoin (dIs isStD (dC (.str " "))) (dVar 1))) (dC (.str "\n")))))
def G_law_text : Fn := runF false 1 6 D_law_text
abbrev s_law_right : Stmt := topS 28
theorem sc_law_right : FnScope ["_law_case", "_law_writing", "_law_due", "_law_found"] ["_law_case"] (defScope s_law_right) := ⟨rfl, rfl, rfl, by decide +kernel, rfl, by decide +kernel, by decide +kernel⟩
def D_law_right : S → Fl := dSeq (dSet 1 (dCall 3 G_made_writing (dCons (d2 oIx (dVar 0) (dC (nI 0))) (dCons (d2 oIx (dVar 0) (dC (nI 1))) (dCons (d2 oIx (dVar 0) (dC (nI 2))) (dNil)))))) (dSeq (dSet 2 (dCall 1 G_law_text (dCons (dVar 0) (dNil)))) (dSeq (dSet 3 (dCall 1 G_writing_text (dCons (dVar 1) (dNil)))) (dRet (dAnd (d1 (oIsi "str") (dVar 3)) (dAnd (d2 oEqS (dVar 3) (dVar 2)) (d2 oEqS (dB bRepr (dCons (dCall 1 G_read_writing (dCons (dVar 2) (dNil))) (dNil))) (dB bRepr (dCons (dVar 0) (dNil)))))))))
def G_law_right : Fn := runF false 1 4 D_law_right
abbrev s_law : Stmt := topS 29
theorem sc_law : FnScope ["_law_script", "_law_j", "_law_stream_here", "_law_n", "_law_k", "_law_case", "_law_more", "_law_one"] ["_law_script"] (defScope s_law) := ⟨rfl, rfl, rfl, by decide +kernel, rfl, by decide +kernel, by decide +kernel⟩
def D_law : S → Fl := dSeq (dFor (dRng1 (dCons (dB bMax2 (dCons (dC (nI 2)) (dCons (dB bMin2 (dCons (dC (nI 6)) (dCons (dB bLen (dCons (dVar 0) (dNil))) (dNil)))) (dNil)))) (dNil))) (tgN 1) (dSeq (dSet 2 (dCall 2 G_law_stream (dCons (dVar 0) (dCons (dVar 1) (dNil))))) (dSeq (dSet 3 (d2 oAdd (dC (nI 1)) (dCallI 2 G_law_take 2 (dCons (dC (nI 8)) (dNil))))) (dSeq (dSet 4 (d2 oIx (dLst (dCons (dC (nI 2)) (dCons (dC (nI 10)) (dCons (dC (nI 11)) (dCons (dC (nI 99)) (dCons (dC (nI 100)) (dCons (d2 oAdd (dC (nI 2)) (dCallI 2 G_law_take 2 (dCons (dC (nI 99)) (dNil)))) (dNil)))))))) (dCallI 2 G_law_take 2 (dCons (dC (nI 6)) (dNil))))) (dSeq (dSet 5 (dTup (dCons (dVar 3) (dCons (dVar 4) (dCons (dCallI 3 G_law_table 2 (dCons (dVar 3) (dCons (dVar 4) (dNil)))) (dNil)))))) (dSeq (dSet 6 (dTup (dCons (dVar 3) (dCons (dB bMin2 (dCons (dC (nI 100)) (dCons (d2 oAdd (dVar 4) (dC (nI 1))) (dNil)))) (dCons (d2 oIx (dVar 5) (dC (nI 2))) (dNil)))))) (dFor (dIt (dLst (dCons (dVar 5) (dCons (dCallI 2 G_law_otherwise 2 (dCons (dVar 5) (dNil))) (dCons (dVar 6) (dCons (dVar 5) (dNil))))))) (tgN 7) (dIf (tnNot (dT (dCall 1 G_law_right (dCons (dVar 7) (dNil))))) (dRet (dC (.bool false))) (dNx))))))))) (dRet (dC (.bool true)))
def G_law : Fn := runF false 1 8 D_law
def GoodS (st : List PyData) : Prop := ∃ a b : Int, st = [.int a, .int b] ∧ 0 ≤ a ∧ 0 ≤ b ∧ b < 4294967296
theorem take_zero {b m : Int} (hb : 0 ≤ b) (hb2 : b < 4294967296) (h0 : 0 < m) : G_law_take [.int 0, .int b] [.int m] = .val (.int ((b * 48271 + 12345) % 2147483647 * ((b * 48271 + 12345) % 2147483647) % 2147483629 % m)) [.int 0, .int ((b * 48271 + 12345) % 2147483647)] := by
  have e1 : (b * 48271 + 12345) % 2147483647 < 2147483647 := Int.emod_lt_of_pos _ (by decide)
  have e2 : 0 ≤ (b * 48271 + 12345) % 2147483647 := Int.emod_nonneg _ (by decide)
  have e3 : ((b * 48271 + 12345) % 2147483647).natAbs < 18446744073709551616 := by omega
  simp [G_law_take, D_law_take, h0, e3]
theorem take_pos {a b m : Int} (ha : a ≠ 0) (h0 : 0 < m) (h1 : m < 1073741824) : G_law_take [.int a, .int b] [.int m] = .val (.int (a % m)) [.int (a / m), .int b] := by
  simp [G_law_take, D_law_take, h0, h1, ha]
theorem take_spec {st : List PyData} {m : Int} (h : GoodS st) (h0 : 0 < m) (h1 : m < 1073741824) : ∃ d st', G_law_take st [.int m] = .val (.int d) st' ∧ 0 ≤ d ∧ d < m ∧ GoodS st' := by
  obtain ⟨a, b, rfl, ha, hb, hb2⟩ := h
  by_cases hz : a = 0
  · subst hz
    refine ⟨_, _, take_zero hb hb2 h0, Int.emod_nonneg _ (by omega), Int.emod_lt_of_pos _ h0, 0, _, rfl, by decide, Int.emod_nonneg _ (by decide), ?_⟩
    have := Int.emod_lt_of_pos (b * 48271 + 12345) (show (0 : Int) < 2147483647 by decide)
    omega
  · exact ⟨_, _, take_pos hz h0 h1, Int.emod_nonneg _ (by omega), Int.emod_lt_of_pos _ h0, _, _, rfl, Int.ediv_nonneg ha (by omega), hb, hb2⟩
theorem stream_int (ns : List Int) {k : Int} (h0 : 0 ≤ k) (h1 : k < 1000) : ∃ st, G_law_stream [] [.list (ns.map PyData.int), .int k] = .new st [] ∧ GoodS st := by
  have hk2 : k * k < 1000000 := by
    have h2 := Int.mul_le_mul_of_nonneg_left (show k ≤ 999 by omega) h0
    omega
  have hk3 : 0 ≤ k * k := Int.mul_nonneg h0 h0
  have hka : k.natAbs < 18446744073709551616 := by omega
  by_cases hl : k < ns.length
  · have hi : k.toNat < ns.length := by omega
    have hat : atI (ns.map PyData.int) k = some (.int ns[k.toNat]) := atI_of h0 (by rw [List.getElem?_map, List.getElem?_eq_getElem hi]; rfl)
    generalize hn : ns[k.toNat] = n at hat
    generalize hm : (if n < 0 then -n else n) = c
    have hc0 : 0 ≤ c := by rw [← hm]; split <;> omega
    have hmod1 := Int.emod_lt_of_pos c (show (0 : Int) < 2147483629 by decide)
    have hmod2 := Int.emod_nonneg c (show (2147483629 : Int) ≠ 0 by decide)
    by_cases hc : c < 1000000000000000000
    · exact ⟨[.int 0, .int (c % 2147483629 + k * k + 1)], by simp [G_law_stream, D_law_stream, hl, hat, hm, hka, hc], _, _, rfl, by decide, by omega, by omega⟩
    · exact ⟨[.int c, .int (c % 2147483629 + k * k + 1)], by simp [G_law_stream, D_law_stream, hl, hat, hm, hka, hc], _, _, rfl, by omega, by omega, by omega⟩
  · exact ⟨[.int 0, .int (k * k + 11)], by simp [G_law_stream, D_law_stream, hl, hka], _, _, rfl, by decide, by omega, by omega⟩
theorem stream_spec (ns : List Int) {k : Nat} (h1 : k < 1000) : ∃ st, G_law_stream [] [.list (ns.map PyData.int), nI k] = .new st [] ∧ GoodS st :=
  stream_int ns (by omega) (by omega)
theorem take_nat {st : List PyData} {m : Nat} (h : GoodS st) (h0 : 0 < m) (h1 : m < 1073741824) : ∃ (d : Nat) (st' : List PyData), G_law_take st [nI m] = .val (nI d) st' ∧ d < m ∧ GoodS st' := by
  obtain ⟨d, st', e, a, b, g⟩ := take_spec h (m := (m : Int)) (by omega) (by omega)
  obtain ⟨k, rfl⟩ := Int.eq_ofNat_of_zero_le a
  exact ⟨k, st', e, by omega, g⟩
theorem number_n (a : Nat) : G_is_number [] [nI a] = .val (.bool true) [] := by simp -implicitDefEqProofs (disch := (first | omega | (simp only [List.length_map, List.length_append, List.length_range, List.length_cons, List.length_nil, List.length_set, List.length_take, List.length_drop, List.length_replicate, List.length_reverse] <;> omega) | assumption)) only [w_Seq, w_seqN, w_seqR, w_seqC, w_seqB, w_seqX, iteF_t, iteF_f, iteO_t, iteO_f, KoB_, KtB_, sg0_, sgS_, w_var, vr_v, vr_o, w_rdS, rdO_v, rdO_o, w_stb, stO1_v, stO1_o, ob_s, w_isOwn, isOwnO_o, K1_, K1_x, w_1, K2b_, K2b_x, K2_, K2_x, w_2, Kc2_, Kc2_x, Kc_, Kc_x, w_cons, KB_, KB_x, w_B, Ktup_, Ktup_x, w_tup, Klst_, Klst_x, w_lst, KT_, KT_x, w_T, KtAnd_, KtAnd_x, w_tAnd, KtOr_, KtOr_x, w_tOr, KtNot_, KtNot_x, w_tNot, KAnd_, KAnd_x, w_And, KOr_, KOr_x, w_Or, KNot_, KNot_x, w_Not, KIte_, KIte_x, w_Ite, Kch4_, Kch4_x, Kch3f_, Kch3_, Kch3_x, Kch2_, Kch2_x, Kch_, Kch_x, w_ch, partO_i, KPart_, KPart_x, w_Part, slO_, KSl3_, KSl3_x, KSl2_, KSl2_x, KSl_, KSl_x, w_Sl, KDo_, KDo_x, w_Do, KRet_, KRet_x, w_Ret, KIf_, KIf_x, w_If, putK_, w_putl, KSet_, KSet_x, w_Set, KAug_, KAug_x, w_Aug, augO_i, unpO_2, unpO_3, w_tg2, w_tg3, KUnp_, KUnp_x, w_Unp, chgK_, w_chg, chgO_o, appK_, w_appR, w_app1, KApp_, KApp_x, KApp0_, w_App, stIK_, w_stIR, stIO_i, w_put1, KStI2_, KStI2_x, KStI1_, KStI_, KStI_x, w_StI, KIt_, KIt_x, w_It, KRng1_, KRng1_x, w_Rng1, KRng2_, KRng2_x, w_Rng2, it2O_, it1O_, KIt2_, KIt2_x, w_It2, KIt1_, KIt1_x, w_It1, KFor_, KFor_x, w_For, KComp_, KComp_x, w_Comp, KCall_, KCall_x, w_Call, KCallI_, KCallI_x, KCallI0_, w_CallI, w_mkTup, w_mkLst, rdsK2_, rdsK_, w_rds, stbsK2_, stbsK_, w_stbs, cP0, cP1, cP2, cP3, cP4, cP5, cP6, cP7, cIO_o, cI1, cI2, cI3, cI4, cI5, cI6, cI7, w_stOt, stOO_o, w_retFl, retO_v, retO_o, w_finR, w_finN, finO_s, w_runF, rp0, rpS, asE_x, stF_x, finX_s, w_finX, ev_c, ev_fin, ev_fin0, ev_o1, ev_o2, ev_rdv, ev_rdn, ev_rdl, ev_nil, ev_stlv, ev_stln, ev_stll, ev_rds0, ev_stbv, ev_stbn, ev_stbs0, ev_asB, ev_NoPart, ev_Nx, ev_putv, ev_putn, ev_ofO, ev_itL, ev_itT, ev_tgN, ev_for0, ev_wipeD0, ev_wipeD, ev_restD0, ev_restD, ev_endC, ev_Yes, ev_asEv, ev_asEn, ev_stFv, ev_stFn, ev_mkAf, ev_mkAt, ev_stOf, ev_retFv, ev_retFn, ev_vI, ev_vB, ev_oSlL, ev_oSlT, ev_oRevL, ev_bListL, ev_bListT, ev_bTupL, ev_bTupT, ev_isNone0, ev_isNoneI, ev_isNoneL, ev_isNoneT, ev_isNoneB, ev_isNoneS, n_add, n_sub, n_mul, n_mod, n_div, n_shl1, n_shl, n_shr, n_pow, n_and, n_or, n_xor, n_lt, n_le, n_gt, n_ge, n_eq, n_ne, bt1, bt0, d_ltT, d_ltF, d_leT, d_leF, d_eqT, d_eqF, c_eq, c_ne, c_eqc, c_nec, c_isN, l_ix, t_ix, l_ix0, l_ix1, l_ix2, l_ix3, l_ix4, l_ix5, t_ix0, t_ix1, t_ix2, l_len, t_len, cut_to, cut_from, l_addL, t_addT, w_rng1, w_rng2, n_max2, n_min2, n_sum, b_all, b_any, b_all0, b_intB, b_intN, i_intI, i_boolI, i_intB, i_boolB, i_tupT, i_lstL, i_tupL, i_lstT, i_intT, i_intL, i_tupI, i_lstI, i_intN, i_tupN, i_lstN, i_intS, i_tupS, i_lstS, i_tupB, i_lstB, r_isN, r_notN, wp_nx, wp_ret, wl_nx, wl_cnt, wl_brk, wl_ret, List.map_cons, List.map_nil, List.cons_append, List.nil_append, List.set_cons_zero, List.set_cons_succ, List.length_cons, List.length_nil, List.length_map, List.length_append, List.length_range, List.length_range', List.length_set, Bool.not_true, Bool.not_false, Bool.true_and, Bool.false_and, Bool.and_true, Bool.and_false, decide_true, decide_false, Nat.reduceSub, Nat.reduceAdd, Option.getD_some, vo_v, no_v, Nat.one_mul, l_eq, l_ne, t_eq, t_eqc, l_eq0, l_ne0, z_eq0, z_ne0, lc_ne0, lc_eq0, n_inL, n_inT, n_niL, n_niT, n_inC, if_true, if_false, Option.isNone_none, Option.isNone_some, n_augA, n_augS, List.append_nil, n_tr, n_lr, KStar2_, KStarO_, KStar_, w_Star, items_l, items_t, st_vals, KComp2_, w_Comp2, n_mulA, t_mulA1, t_mulA, l_repC, KOrT_, w_OrT, truO_n, truO_0, truO_i, KUnpL_, w_UnpL, unpLO_2, unpLO_3, KItE_, w_ItE, itEO_l, itEO_t, itZO_l, itZO_t, KItZ_, w_ItZ, enumD_map, zipD_map, cT1, cT2, cT3, KCallT2_, KCallT_, w_CallT, ev_oNeg, i_strS, b_sortP, b_is, b_nis, KIs_, w_Is, isLO_l, t_ix3, t_ix4, ba1, ba2, ba3, ba4, t_rev, KExt_, KExt0_, w_Ext, w_extR, w_ext1, KTru_, w_Tru, truT_, truD_l, truD_t, g_get, isLO_d, KDComp_, w_DComp, G_is_number, D_is_number]
theorem between_n (a lo hi : Nat) : G_is_between [] [nI a, nI lo, nI hi] = .val (.bool (decide (lo ≤ a) && decide (a ≤ hi))) [] := by
  by_cases h : lo ≤ a
  · simp -implicitDefEqProofs (disch := (first | omega | (simp only [List.length_map, List.length_append, List.length_range, List.length_cons, List.length_nil, List.length_set, List.length_take, List.length_drop, List.length_replicate, List.length_reverse] <;> omega) | assumption)) only [w_Seq, w_seqN, w_seqR, w_seqC, w_seqB, w_seqX, iteF_t, iteF_f, iteO_t, iteO_f, KoB_, KtB_, sg0_, sgS_, w_var, vr_v, vr_o, w_rdS, rdO_v, rdO_o, w_stb, stO1_v, stO1_o, ob_s, w_isOwn, isOwnO_o, K1_, K1_x, w_1, K2b_, K2b_x, K2_, K2_x, w_2, Kc2_, Kc2_x, Kc_, Kc_x, w_cons, KB_, KB_x, w_B, Ktup_, Ktup_x, w_tup, Klst_, Klst_x, w_lst, KT_, KT_x, w_T, KtAnd_, KtAnd_x, w_tAnd, KtOr_, KtOr_x, w_tOr, KtNot_, KtNot_x, w_tNot, KAnd_, KAnd_x, w_And, KOr_, KOr_x, w_Or, KNot_, KNot_x, w_Not, KIte_, KIte_x, w_Ite, Kch4_, Kch4_x, Kch3f_, Kch3_, Kch3_x, Kch2_, Kch2_x, Kch_, Kch_x, w_ch, partO_i, KPart_, KPart_x, w_Part, slO_, KSl3_, KSl3_x, KSl2_, KSl2_x, KSl_, KSl_x, w_Sl, KDo_, KDo_x, w_Do, KRet_, KRet_x, w_Ret, KIf_, KIf_x, w_If, putK_, w_putl, KSet_, KSet_x, w_Set, KAug_, KAug_x, w_Aug, augO_i, unpO_2, unpO_3, w_tg2, w_tg3, KUnp_, KUnp_x, w_Unp, chgK_, w_chg, chgO_o, appK_, w_appR, w_app1, KApp_, KApp_x, KApp0_, w_App, stIK_, w_stIR, stIO_i, w_put1, KStI2_, KStI2_x, KStI1_, KStI_, KStI_x, w_StI, KIt_, KIt_x, w_It, KRng1_, KRng1_x, w_Rng1, KRng2_, KRng2_x, w_Rng2, it2O_, it1O_, KIt2_, KIt2_x, w_It2, KIt1_, KIt1_x, w_It1, KFor_, KFor_x, w_For, KComp_, KComp_x, w_Comp, KCall_, KCall_x, w_Call, KCallI_, KCallI_x, KCallI0_, w_CallI, w_mkTup, w_mkLst, rdsK2_, rdsK_, w_rds, stbsK2_, stbsK_, w_stbs, cP0, cP1, cP2, cP3, cP4, cP5, cP6, cP7, cIO_o, cI1, cI2, cI3, cI4, cI5, cI6, cI7, w_stOt, stOO_o, w_retFl, retO_v, retO_o, w_finR, w_finN, finO_s, w_runF, rp0, rpS, asE_x, stF_x, finX_s, w_finX, ev_c, ev_fin, ev_fin0, ev_o1, ev_o2, ev_rdv, ev_rdn, ev_rdl, ev_nil, ev_stlv, ev_stln, ev_stll, ev_rds0, ev_stbv, ev_stbn, ev_stbs0, ev_asB, ev_NoPart, ev_Nx, ev_putv, ev_putn, ev_ofO, ev_itL, ev_itT, ev_tgN, ev_for0, ev_wipeD0, ev_wipeD, ev_restD0, ev_restD, ev_endC, ev_Yes, ev_asEv, ev_asEn, ev_stFv, ev_stFn, ev_mkAf, ev_mkAt, ev_stOf, ev_retFv, ev_retFn, ev_vI, ev_vB, ev_oSlL, ev_oSlT, ev_oRevL, ev_bListL, ev_bListT, ev_bTupL, ev_bTupT, ev_isNone0, ev_isNoneI, ev_isNoneL, ev_isNoneT, ev_isNoneB, ev_isNoneS, n_add, n_sub, n_mul, n_mod, n_div, n_shl1, n_shl, n_shr, n_pow, n_and, n_or, n_xor, n_lt, n_le, n_gt, n_ge, n_eq, n_ne, bt1, bt0, d_ltT, d_ltF, d_leT, d_leF, d_eqT, d_eqF, c_eq, c_ne, c_eqc, c_nec, c_isN, l_ix, t_ix, l_ix0, l_ix1, l_ix2, l_ix3, l_ix4, l_ix5, t_ix0, t_ix1, t_ix2, l_len, t_len, cut_to, cut_from, l_addL, t_addT, w_rng1, w_rng2, n_max2, n_min2, n_sum, b_all, b_any, b_all0, b_intB, b_intN, i_intI, i_boolI, i_intB, i_boolB, i_tupT, i_lstL, i_tupL, i_lstT, i_intT, i_intL, i_tupI, i_lstI, i_intN, i_tupN, i_lstN, i_intS, i_tupS, i_lstS, i_tupB, i_lstB, r_isN, r_notN, wp_nx, wp_ret, wl_nx, wl_cnt, wl_brk, wl_ret, List.map_cons, List.map_nil, List.cons_append, List.nil_append, List.set_cons_zero, List.set_cons_succ, List.length_cons, List.length_nil, List.length_map, List.length_append, List.length_range, List.length_range', List.length_set, Bool.not_true, Bool.not_false, Bool.true_and, Bool.false_and, Bool.and_true, Bool.and_false, decide_true, decide_false, Nat.reduceSub, Nat.reduceAdd, Option.getD_some, vo_v, no_v, Nat.one_mul, l_eq, l_ne, t_eq, t_eqc, l_eq0, l_ne0, z_eq0, z_ne0, lc_ne0, lc_eq0, n_inL, n_inT, n_niL, n_niT, n_inC, if_true, if_false, Option.isNone_none, Option.isNone_some, n_augA, n_augS, List.append_nil, n_tr, n_lr, KStar2_, KStarO_, KStar_, w_Star, items_l, items_t, st_vals, KComp2_, w_Comp2, n_mulA, t_mulA1, t_mulA, l_repC, KOrT_, w_OrT, truO_n, truO_0, truO_i, KUnpL_, w_UnpL, unpLO_2, unpLO_3, KItE_, w_ItE, itEO_l, itEO_t, itZO_l, itZO_t, KItZ_, w_ItZ, enumD_map, zipD_map, cT1, cT2, cT3, KCallT2_, KCallT_, w_CallT, ev_oNeg, i_strS, b_sortP, b_is, b_nis, KIs_, w_Is, isLO_l, t_ix3, t_ix4, ba1, ba2, ba3, ba4, t_rev, KExt_, KExt0_, w_Ext, w_extR, w_ext1, KTru_, w_Tru, truT_, truD_l, truD_t, g_get, isLO_d, KDComp_, w_DComp, G_is_between, D_is_between, number_n, Bool.true_and]
  · simp -implicitDefEqProofs (disch := (first | omega | (simp only [List.length_map, List.length_append, List.length_range, List.length_cons, List.length_nil, List.length_set, List.length_take, List.length_drop, List.length_replicate, List.length_reverse] <;> omega) | assumption)) only [w_Seq, w_seqN, w_seqR, w_seqC, w_seqB, w_seqX, iteF_t, iteF_f, iteO_t, iteO_f, KoB_, KtB_, sg0_, sgS_, w_var, vr_v, vr_o, w_rdS, rdO_v, rdO_o, w_stb, stO1_v, stO1_o, ob_s, w_isOwn, isOwnO_o, K1_, K1_x, w_1, K2b_, K2b_x, K2_, K2_x, w_2, Kc2_, Kc2_x, Kc_, Kc_x, w_cons, KB_, KB_x, w_B, Ktup_, Ktup_x, w_tup, Klst_, Klst_x, w_lst, KT_, KT_x, w_T, KtAnd_, KtAnd_x, w_tAnd, KtOr_, KtOr_x, w_tOr, KtNot_, KtNot_x, w_tNot, KAnd_, KAnd_x, w_And, KOr_, KOr_x, w_Or, KNot_, KNot_x, w_Not, KIte_, KIte_x, w_Ite, Kch4_, Kch4_x, Kch3f_, Kch3_, Kch3_x, Kch2_, Kch2_x, Kch_, Kch_x, w_ch, partO_i, KPart_, KPart_x, w_Part, slO_, KSl3_, KSl3_x, KSl2_, KSl2_x, KSl_, KSl_x, w_Sl, KDo_, KDo_x, w_Do, KRet_, KRet_x, w_Ret, KIf_, KIf_x, w_If, putK_, w_putl, KSet_, KSet_x, w_Set, KAug_, KAug_x, w_Aug, augO_i, unpO_2, unpO_3, w_tg2, w_tg3, KUnp_, KUnp_x, w_Unp, chgK_, w_chg, chgO_o, appK_, w_appR, w_app1, KApp_, KApp_x, KApp0_, w_App, stIK_, w_stIR, stIO_i, w_put1, KStI2_, KStI2_x, KStI1_, KStI_, KStI_x, w_StI, KIt_, KIt_x, w_It, KRng1_, KRng1_x, w_Rng1, KRng2_, KRng2_x, w_Rng2, it2O_, it1O_, KIt2_, KIt2_x, w_It2, KIt1_, KIt1_x, w_It1, KFor_, KFor_x, w_For, KComp_, KComp_x, w_Comp, KCall_, KCall_x, w_Call, KCallI_, KCallI_x, KCallI0_, w_CallI, w_mkTup, w_mkLst, rdsK2_, rdsK_, w_rds, stbsK2_, stbsK_, w_stbs, cP0, cP1, cP2, cP3, cP4, cP5, cP6, cP7, cIO_o, cI1, cI2, cI3, cI4, cI5, cI6, cI7, w_stOt, stOO_o, w_retFl, retO_v, retO_o, w_finR, w_finN, finO_s, w_runF, rp0, rpS, asE_x, stF_x, finX_s, w_finX, ev_c, ev_fin, ev_fin0, ev_o1, ev_o2, ev_rdv, ev_rdn, ev_rdl, ev_nil, ev_stlv, ev_stln, ev_stll, ev_rds0, ev_stbv, ev_stbn, ev_stbs0, ev_asB, ev_NoPart, ev_Nx, ev_putv, ev_putn, ev_ofO, ev_itL, ev_itT, ev_tgN, ev_for0, ev_wipeD0, ev_wipeD, ev_restD0, ev_restD, ev_endC, ev_Yes, ev_asEv, ev_asEn, ev_stFv, ev_stFn, ev_mkAf, ev_mkAt, ev_stOf, ev_retFv, ev_retFn, ev_vI, ev_vB, ev_oSlL, ev_oSlT, ev_oRevL, ev_bListL, ev_bListT, ev_bTupL, ev_bTupT, ev_isNone0, ev_isNoneI, ev_isNoneL, ev_isNoneT, ev_isNoneB, ev_isNoneS, n_add, n_sub, n_mul, n_mod, n_div, n_shl1, n_shl, n_shr, n_pow, n_and, n_or, n_xor, n_lt, n_le, n_gt, n_ge, n_eq, n_ne, bt1, bt0, d_ltT, d_ltF, d_leT, d_leF, d_eqT, d_eqF, c_eq, c_ne, c_eqc, c_nec, c_isN, l_ix, t_ix, l_ix0, l_ix1, l_ix2, l_ix3, l_ix4, l_ix5, t_ix0, t_ix1, t_ix2, l_len, t_len, cut_to, cut_from, l_addL, t_addT, w_rng1, w_rng2, n_max2, n_min2, n_sum, b_all, b_any, b_all0, b_intB, b_intN, i_intI, i_boolI, i_intB, i_boolB, i_tupT, i_lstL, i_tupL, i_lstT, i_intT, i_intL, i_tupI, i_lstI, i_intN, i_tupN, i_lstN, i_intS, i_tupS, i_lstS, i_tupB, i_lstB, r_isN, r_notN, wp_nx, wp_ret, wl_nx, wl_cnt, wl_brk, wl_ret, List.map_cons, List.map_nil, List.cons_append, List.nil_append, List.set_cons_zero, List.set_cons_succ, List.length_cons, List.length_nil, List.length_map, List.length_append, List.length_range, List.length_range', List.length_set, Bool.not_true, Bool.not_false, Bool.true_and, Bool.false_and, Bool.and_true, Bool.and_false, decide_true, decide_false, Nat.reduceSub, Nat.reduceAdd, Option.getD_some, vo_v, no_v, Nat.one_mul, l_eq, l_ne, t_eq, t_eqc, l_eq0, l_ne0, z_eq0, z_ne0, lc_ne0, lc_eq0, n_inL, n_inT, n_niL, n_niT, n_inC, if_true, if_false, Option.isNone_none, Option.isNone_some, n_augA, n_augS, List.append_nil, n_tr, n_lr, KStar2_, KStarO_, KStar_, w_Star, items_l, items_t, st_vals, KComp2_, w_Comp2, n_mulA, t_mulA1, t_mulA, l_repC, KOrT_, w_OrT, truO_n, truO_0, truO_i, KUnpL_, w_UnpL, unpLO_2, unpLO_3, KItE_, w_ItE, itEO_l, itEO_t, itZO_l, itZO_t, KItZ_, w_ItZ, enumD_map, zipD_map, cT1, cT2, cT3, KCallT2_, KCallT_, w_CallT, ev_oNeg, i_strS, b_sortP, b_is, b_nis, KIs_, w_Is, isLO_l, t_ix3, t_ix4, ba1, ba2, ba3, ba4, t_rev, KExt_, KExt0_, w_Ext, w_extR, w_ext1, KTru_, w_Tru, truT_, truD_l, truD_t, g_get, isLO_d, KDComp_, w_DComp, G_is_between, D_is_between, number_n, Bool.false_and]
def tab (t : List (Option Nat)) : PyData := .tuple (t.map cell)
def Tb (n k : Nat) (t : List (Option Nat)) : Prop := t.length = 2 ^ n ∧ ∀ c, some c ∈ t → c < k
theorem pow_le {n : Nat} (h : n ≤ 8) : 2 ^ n ≤ 256 := by
  have : 2 ^ n ≤ 2 ^ 8 := Nat.pow_le_pow_right (by decide) h
  omega
theorem is_table_true {n k : Nat} {t : List (Option Nat)} (hn : n ≤ 8) (hk : 0 < k) (h : Tb n k t) : G_is_table [] [nI n, nI k, tab t] = .val (.bool true) [] := by
  have hp := pow_le hn
  obtain ⟨hl, ht⟩ := h
  simp -implicitDefEqProofs (disch := (first | omega | (simp only [List.length_map, List.length_append, List.length_range, List.length_cons, List.length_nil, List.length_set, List.length_take, List.length_drop, List.length_replicate, List.length_reverse] <;> omega) | assumption)) only [w_Seq, w_seqN, w_seqR, w_seqC, w_seqB, w_seqX, iteF_t, iteF_f, iteO_t, iteO_f, KoB_, KtB_, sg0_, sgS_, w_var, vr_v, vr_o, w_rdS, rdO_v, rdO_o, w_stb, stO1_v, stO1_o, ob_s, w_isOwn, isOwnO_o, K1_, K1_x, w_1, K2b_, K2b_x, K2_, K2_x, w_2, Kc2_, Kc2_x, Kc_, Kc_x, w_cons, KB_, KB_x, w_B, Ktup_, Ktup_x, w_tup, Klst_, Klst_x, w_lst, KT_, KT_x, w_T, KtAnd_, KtAnd_x, w_tAnd, KtOr_, KtOr_x, w_tOr, KtNot_, KtNot_x, w_tNot, KAnd_, KAnd_x, w_And, KOr_, KOr_x, w_Or, KNot_, KNot_x, w_Not, KIte_, KIte_x, w_Ite, Kch4_, Kch4_x, Kch3f_, Kch3_, Kch3_x, Kch2_, Kch2_x, Kch_, Kch_x, w_ch, partO_i, KPart_, KPart_x, w_Part, slO_, KSl3_, KSl3_x, KSl2_, KSl2_x, KSl_, KSl_x, w_Sl, KDo_, KDo_x, w_Do, KRet_, KRet_x, w_Ret, KIf_, KIf_x, w_If, putK_, w_putl, KSet_, KSet_x, w_Set, KAug_, KAug_x, w_Aug, augO_i, unpO_2, unpO_3, w_tg2, w_tg3, KUnp_, KUnp_x, w_Unp, chgK_, w_chg, chgO_o, appK_, w_appR, w_app1, KApp_, KApp_x, KApp0_, w_App, stIK_, w_stIR, stIO_i, w_put1, KStI2_, KStI2_x, KStI1_, KStI_, KStI_x, w_StI, KIt_, KIt_x, w_It, KRng1_, KRng1_x, w_Rng1, KRng2_, KRng2_x, w_Rng2, it2O_, it1O_, KIt2_, KIt2_x, w_It2, KIt1_, KIt1_x, w_It1, KFor_, KFor_x, w_For, KComp_, KComp_x, w_Comp, KCall_, KCall_x, w_Call, KCallI_, KCallI_x, KCallI0_, w_CallI, w_mkTup, w_mkLst, rdsK2_, rdsK_, w_rds, stbsK2_, stbsK_, w_stbs, cP0, cP1, cP2, cP3, cP4, cP5, cP6, cP7, cIO_o, cI1, cI2, cI3, cI4, cI5, cI6, cI7, w_stOt, stOO_o, w_retFl, retO_v, retO_o, w_finR, w_finN, finO_s, w_runF, rp0, rpS, asE_x, stF_x, finX_s, w_finX, ev_c, ev_fin, ev_fin0, ev_o1, ev_o2, ev_rdv, ev_rdn, ev_rdl, ev_nil, ev_stlv, ev_stln, ev_stll, ev_rds0, ev_stbv, ev_stbn, ev_stbs0, ev_asB, ev_NoPart, ev_Nx, ev_putv, ev_putn, ev_ofO, ev_itL, ev_itT, ev_tgN, ev_for0, ev_wipeD0, ev_wipeD, ev_restD0, ev_restD, ev_endC, ev_Yes, ev_asEv, ev_asEn, ev_stFv, ev_stFn, ev_mkAf, ev_mkAt, ev_stOf, ev_retFv, ev_retFn, ev_vI, ev_vB, ev_oSlL, ev_oSlT, ev_oRevL, ev_bListL, ev_bListT, ev_bTupL, ev_bTupT, ev_isNone0, ev_isNoneI, ev_isNoneL, ev_isNoneT, ev_isNoneB, ev_isNoneS, n_add, n_sub, n_mul, n_mod, n_div, n_shl1, n_shl, n_shr, n_pow, n_and, n_or, n_xor, n_lt, n_le, n_gt, n_ge, n_eq, n_ne, bt1, bt0, d_ltT, d_ltF, d_leT, d_leF, d_eqT, d_eqF, c_eq, c_ne, c_eqc, c_nec, c_isN, l_ix, t_ix, l_ix0, l_ix1, l_ix2, l_ix3, l_ix4, l_ix5, t_ix0, t_ix1, t_ix2, l_len, t_len, cut_to, cut_from, l_addL, t_addT, w_rng1, w_rng2, n_max2, n_min2, n_sum, b_all, b_any, b_all0, b_intB, b_intN, i_intI, i_boolI, i_intB, i_boolB, i_tupT, i_lstL, i_tupL, i_lstT, i_intT, i_intL, i_tupI, i_lstI, i_intN, i_tupN, i_lstN, i_intS, i_tupS, i_lstS, i_tupB, i_lstB, r_isN, r_notN, wp_nx, wp_ret, wl_nx, wl_cnt, wl_brk, wl_ret, List.map_cons, List.map_nil, List.cons_append, List.nil_append, List.set_cons_zero, List.set_cons_succ, List.length_cons, List.length_nil, List.length_map, List.length_append, List.length_range, List.length_range', List.length_set, Bool.not_true, Bool.not_false, Bool.true_and, Bool.false_and, Bool.and_true, Bool.and_false, decide_true, decide_false, Nat.reduceSub, Nat.reduceAdd, Option.getD_some, vo_v, no_v, Nat.one_mul, l_eq, l_ne, t_eq, t_eqc, l_eq0, l_ne0, z_eq0, z_ne0, lc_ne0, lc_eq0, n_inL, n_inT, n_niL, n_niT, n_inC, if_true, if_false, Option.isNone_none, Option.isNone_some, n_augA, n_augS, List.append_nil, n_tr, n_lr, KStar2_, KStarO_, KStar_, w_Star, items_l, items_t, st_vals, KComp2_, w_Comp2, n_mulA, t_mulA1, t_mulA, l_repC, KOrT_, w_OrT, truO_n, truO_0, truO_i, KUnpL_, w_UnpL, unpLO_2, unpLO_3, KItE_, w_ItE, itEO_l, itEO_t, itZO_l, itZO_t, KItZ_, w_ItZ, enumD_map, zipD_map, cT1, cT2, cT3, KCallT2_, KCallT_, w_CallT, ev_oNeg, i_strS, b_sortP, b_is, b_nis, KIs_, w_Is, isLO_l, t_ix3, t_ix4, ba1, ba2, ba3, ba4, t_rev, KExt_, KExt0_, w_Ext, w_extR, w_ext1, KTru_, w_Tru, truT_, truD_l, truD_t, g_get, isLO_d, KDComp_, w_DComp, G_is_table, D_is_table, tab]
  rw [cmpM (fun _ => true) PyData.bool]
  · simp -implicitDefEqProofs (disch := (first | omega | (simp only [List.length_map, List.length_append, List.length_range, List.length_cons, List.length_nil, List.length_set, List.length_take, List.length_drop, List.length_replicate, List.length_reverse] <;> omega) | assumption)) only [w_Seq, w_seqN, w_seqR, w_seqC, w_seqB, w_seqX, iteF_t, iteF_f, iteO_t, iteO_f, KoB_, KtB_, sg0_, sgS_, w_var, vr_v, vr_o, w_rdS, rdO_v, rdO_o, w_stb, stO1_v, stO1_o, ob_s, w_isOwn, isOwnO_o, K1_, K1_x, w_1, K2b_, K2b_x, K2_, K2_x, w_2, Kc2_, Kc2_x, Kc_, Kc_x, w_cons, KB_, KB_x, w_B, Ktup_, Ktup_x, w_tup, Klst_, Klst_x, w_lst, KT_, KT_x, w_T, KtAnd_, KtAnd_x, w_tAnd, KtOr_, KtOr_x, w_tOr, KtNot_, KtNot_x, w_tNot, KAnd_, KAnd_x, w_And, KOr_, KOr_x, w_Or, KNot_, KNot_x, w_Not, KIte_, KIte_x, w_Ite, Kch4_, Kch4_x, Kch3f_, Kch3_, Kch3_x, Kch2_, Kch2_x, Kch_, Kch_x, w_ch, partO_i, KPart_, KPart_x, w_Part, slO_, KSl3_, KSl3_x, KSl2_, KSl2_x, KSl_, KSl_x, w_Sl, KDo_, KDo_x, w_Do, KRet_, KRet_x, w_Ret, KIf_, KIf_x, w_If, putK_, w_putl, KSet_, KSet_x, w_Set, KAug_, KAug_x, w_Aug, augO_i, unpO_2, unpO_3, w_tg2, w_tg3, KUnp_, KUnp_x, w_Unp, chgK_, w_chg, chgO_o, appK_, w_appR, w_app1, KApp_, KApp_x, KApp0_, w_App, stIK_, w_stIR, stIO_i, w_put1, KStI2_, KStI2_x, KStI1_, KStI_, KStI_x, w_StI, KIt_, KIt_x, w_It, KRng1_, KRng1_x, w_Rng1, KRng2_, KRng2_x, w_Rng2, it2O_, it1O_, KIt2_, KIt2_x, w_It2, KIt1_, KIt1_x, w_It1, KFor_, KFor_x, w_For, KComp_, KComp_x, w_Comp, KCall_, KCall_x, w_Call, KCallI_, KCallI_x, KCallI0_, w_CallI, w_mkTup, w_mkLst, rdsK2_, rdsK_, w_rds, stbsK2_, stbsK_, w_stbs, cP0, cP1, cP2, cP3, cP4, cP5, cP6, cP7, cIO_o, cI1, cI2, cI3, cI4, cI5, cI6, cI7, w_stOt, stOO_o, w_retFl, retO_v, retO_o, w_finR, w_finN, finO_s, w_runF, rp0, rpS, asE_x, stF_x, finX_s, w_finX, ev_c, ev_fin, ev_fin0, ev_o1, ev_o2, ev_rdv, ev_rdn, ev_rdl, ev_nil, ev_stlv, ev_stln, ev_stll, ev_rds0, ev_stbv, ev_stbn, ev_stbs0, ev_asB, ev_NoPart, ev_Nx, ev_putv, ev_putn, ev_ofO, ev_itL, ev_itT, ev_tgN, ev_for0, ev_wipeD0, ev_wipeD, ev_restD0, ev_restD, ev_endC, ev_Yes, ev_asEv, ev_asEn, ev_stFv, ev_stFn, ev_mkAf, ev_mkAt, ev_stOf, ev_retFv, ev_retFn, ev_vI, ev_vB, ev_oSlL, ev_oSlT, ev_oRevL, ev_bListL, ev_bListT, ev_bTupL, ev_bTupT, ev_isNone0, ev_isNoneI, ev_isNoneL, ev_isNoneT, ev_isNoneB, ev_isNoneS, n_add, n_sub, n_mul, n_mod, n_div, n_shl1, n_shl, n_shr, n_pow, n_and, n_or, n_xor, n_lt, n_le, n_gt, n_ge, n_eq, n_ne, bt1, bt0, d_ltT, d_ltF, d_leT, d_leF, d_eqT, d_eqF, c_eq, c_ne, c_eqc, c_nec, c_isN, l_ix, t_ix, l_ix0, l_ix1, l_ix2, l_ix3, l_ix4, l_ix5, t_ix0, t_ix1, t_ix2, l_len, t_len, cut_to, cut_from, l_addL, t_addT, w_rng1, w_rng2, n_max2, n_min2, n_sum, b_all, b_any, b_all0, b_intB, b_intN, i_intI, i_boolI, i_intB, i_boolB, i_tupT, i_lstL, i_tupL, i_lstT, i_intT, i_intL, i_tupI, i_lstI, i_intN, i_tupN, i_lstN, i_intS, i_tupS, i_lstS, i_tupB, i_lstB, r_isN, r_notN, wp_nx, wp_ret, wl_nx, wl_cnt, wl_brk, wl_ret, List.map_cons, List.map_nil, List.cons_append, List.nil_append, List.set_cons_zero, List.set_cons_succ, List.length_cons, List.length_nil, List.length_map, List.length_append, List.length_range, List.length_range', List.length_set, Bool.not_true, Bool.not_false, Bool.true_and, Bool.false_and, Bool.and_true, Bool.and_false, decide_true, decide_false, Nat.reduceSub, Nat.reduceAdd, Option.getD_some, vo_v, no_v, Nat.one_mul, l_eq, l_ne, t_eq, t_eqc, l_eq0, l_ne0, z_eq0, z_ne0, lc_ne0, lc_eq0, n_inL, n_inT, n_niL, n_niT, n_inC, if_true, if_false, Option.isNone_none, Option.isNone_some, n_augA, n_augS, List.append_nil, n_tr, n_lr, KStar2_, KStarO_, KStar_, w_Star, items_l, items_t, st_vals, KComp2_, w_Comp2, n_mulA, t_mulA1, t_mulA, l_repC, KOrT_, w_OrT, truO_n, truO_0, truO_i, KUnpL_, w_UnpL, unpLO_2, unpLO_3, KItE_, w_ItE, itEO_l, itEO_t, itZO_l, itZO_t, KItZ_, w_ItZ, enumD_map, zipD_map, cT1, cT2, cT3, KCallT2_, KCallT_, w_CallT, ev_oNeg, i_strS, b_sortP, b_is, b_nis, KIs_, w_Is, isLO_l, t_ix3, t_ix4, ba1, ba2, ba3, ba4, t_rev, KExt_, KExt0_, w_Ext, w_extR, w_ext1, KTru_, w_Tru, truT_, truD_l, truD_t, g_get, isLO_d, KDComp_, w_DComp]
    rw [show (List.map (fun _ => true) t).all id = true by simp]
  · intro x hx
    refine ⟨.val (.bool true), ?_, rfl⟩
    cases x with
    | none => simp -implicitDefEqProofs (disch := (first | omega | (simp only [List.length_map, List.length_append, List.length_range, List.length_cons, List.length_nil, List.length_set, List.length_take, List.length_drop, List.length_replicate, List.length_reverse] <;> omega) | assumption)) only [w_Seq, w_seqN, w_seqR, w_seqC, w_seqB, w_seqX, iteF_t, iteF_f, iteO_t, iteO_f, KoB_, KtB_, sg0_, sgS_, w_var, vr_v, vr_o, w_rdS, rdO_v, rdO_o, w_stb, stO1_v, stO1_o, ob_s, w_isOwn, isOwnO_o, K1_, K1_x, w_1, K2b_, K2b_x, K2_, K2_x, w_2, Kc2_, Kc2_x, Kc_, Kc_x, w_cons, KB_, KB_x, w_B, Ktup_, Ktup_x, w_tup, Klst_, Klst_x, w_lst, KT_, KT_x, w_T, KtAnd_, KtAnd_x, w_tAnd, KtOr_, KtOr_x, w_tOr, KtNot_, KtNot_x, w_tNot, KAnd_, KAnd_x, w_And, KOr_, KOr_x, w_Or, KNot_, KNot_x, w_Not, KIte_, KIte_x, w_Ite, Kch4_, Kch4_x, Kch3f_, Kch3_, Kch3_x, Kch2_, Kch2_x, Kch_, Kch_x, w_ch, partO_i, KPart_, KPart_x, w_Part, slO_, KSl3_, KSl3_x, KSl2_, KSl2_x, KSl_, KSl_x, w_Sl, KDo_, KDo_x, w_Do, KRet_, KRet_x, w_Ret, KIf_, KIf_x, w_If, putK_, w_putl, KSet_, KSet_x, w_Set, KAug_, KAug_x, w_Aug, augO_i, unpO_2, unpO_3, w_tg2, w_tg3, KUnp_, KUnp_x, w_Unp, chgK_, w_chg, chgO_o, appK_, w_appR, w_app1, KApp_, KApp_x, KApp0_, w_App, stIK_, w_stIR, stIO_i, w_put1, KStI2_, KStI2_x, KStI1_, KStI_, KStI_x, w_StI, KIt_, KIt_x, w_It, KRng1_, KRng1_x, w_Rng1, KRng2_, KRng2_x, w_Rng2, it2O_, it1O_, KIt2_, KIt2_x, w_It2, KIt1_, KIt1_x, w_It1, KFor_, KFor_x, w_For, KComp_, KComp_x, w_Comp, KCall_, KCall_x, w_Call, KCallI_, KCallI_x, KCallI0_, w_CallI, w_mkTup, w_mkLst, rdsK2_, rdsK_, w_rds, stbsK2_, stbsK_, w_stbs, cP0, cP1, cP2, cP3, cP4, cP5, cP6, cP7, cIO_o, cI1, cI2, cI3, cI4, cI5, cI6, cI7, w_stOt, stOO_o, w_retFl, retO_v, retO_o, w_finR, w_finN, finO_s, w_runF, rp0, rpS, asE_x, stF_x, finX_s, w_finX, ev_c, ev_fin, ev_fin0, ev_o1, ev_o2, ev_rdv, ev_rdn, ev_rdl, ev_nil, ev_stlv, ev_stln, ev_stll, ev_rds0, ev_stbv, ev_stbn, ev_stbs0, ev_asB, ev_NoPart, ev_Nx, ev_putv, ev_putn, ev_ofO, ev_itL, ev_itT, ev_tgN, ev_for0, ev_wipeD0, ev_wipeD, ev_restD0, ev_restD, ev_endC, ev_Yes, ev_asEv, ev_asEn, ev_stFv, ev_stFn, ev_mkAf, ev_mkAt, ev_stOf, ev_retFv, ev_retFn, ev_vI, ev_vB, ev_oSlL, ev_oSlT, ev_oRevL, ev_bListL, ev_bListT, ev_bTupL, ev_bTupT, ev_isNone0, ev_isNoneI, ev_isNoneL, ev_isNoneT, ev_isNoneB, ev_isNoneS, n_add, n_sub, n_mul, n_mod, n_div, n_shl1, n_shl, n_shr, n_pow, n_and, n_or, n_xor, n_lt, n_le, n_gt, n_ge, n_eq, n_ne, bt1, bt0, d_ltT, d_ltF, d_leT, d_leF, d_eqT, d_eqF, c_eq, c_ne, c_eqc, c_nec, c_isN, l_ix, t_ix, l_ix0, l_ix1, l_ix2, l_ix3, l_ix4, l_ix5, t_ix0, t_ix1, t_ix2, l_len, t_len, cut_to, cut_from, l_addL, t_addT, w_rng1, w_rng2, n_max2, n_min2, n_sum, b_all, b_any, b_all0, b_intB, b_intN, i_intI, i_boolI, i_intB, i_boolB, i_tupT, i_lstL, i_tupL, i_lstT, i_intT, i_intL, i_tupI, i_lstI, i_intN, i_tupN, i_lstN, i_intS, i_tupS, i_lstS, i_tupB, i_lstB, r_isN, r_notN, wp_nx, wp_ret, wl_nx, wl_cnt, wl_brk, wl_ret, List.map_cons, List.map_nil, List.cons_append, List.nil_append, List.set_cons_zero, List.set_cons_succ, List.length_cons, List.length_nil, List.length_map, List.length_append, List.length_range, List.length_range', List.length_set, Bool.not_true, Bool.not_false, Bool.true_and, Bool.false_and, Bool.and_true, Bool.and_false, decide_true, decide_false, Nat.reduceSub, Nat.reduceAdd, Option.getD_some, vo_v, no_v, Nat.one_mul, l_eq, l_ne, t_eq, t_eqc, l_eq0, l_ne0, z_eq0, z_ne0, lc_ne0, lc_eq0, n_inL, n_inT, n_niL, n_niT, n_inC, if_true, if_false, Option.isNone_none, Option.isNone_some, n_augA, n_augS, List.append_nil, n_tr, n_lr, KStar2_, KStarO_, KStar_, w_Star, items_l, items_t, st_vals, KComp2_, w_Comp2, n_mulA, t_mulA1, t_mulA, l_repC, KOrT_, w_OrT, truO_n, truO_0, truO_i, KUnpL_, w_UnpL, unpLO_2, unpLO_3, KItE_, w_ItE, itEO_l, itEO_t, itZO_l, itZO_t, KItZ_, w_ItZ, enumD_map, zipD_map, cT1, cT2, cT3, KCallT2_, KCallT_, w_CallT, ev_oNeg, i_strS, b_sortP, b_is, b_nis, KIs_, w_Is, isLO_l, t_ix3, t_ix4, ba1, ba2, ba3, ba4, t_rev, KExt_, KExt0_, w_Ext, w_extR, w_ext1, KTru_, w_Tru, truT_, truD_l, truD_t, g_get, isLO_d, KDComp_, w_DComp, cell0]
    | some c =>
      have hc := ht c hx
      simp -implicitDefEqProofs (disch := (first | omega | (simp only [List.length_map, List.length_append, List.length_range, List.length_cons, List.length_nil, List.length_set, List.length_take, List.length_drop, List.length_replicate, List.length_reverse] <;> omega) | assumption)) only [w_Seq, w_seqN, w_seqR, w_seqC, w_seqB, w_seqX, iteF_t, iteF_f, iteO_t, iteO_f, KoB_, KtB_, sg0_, sgS_, w_var, vr_v, vr_o, w_rdS, rdO_v, rdO_o, w_stb, stO1_v, stO1_o, ob_s, w_isOwn, isOwnO_o, K1_, K1_x, w_1, K2b_, K2b_x, K2_, K2_x, w_2, Kc2_, Kc2_x, Kc_, Kc_x, w_cons, KB_, KB_x, w_B, Ktup_, Ktup_x, w_tup, Klst_, Klst_x, w_lst, KT_, KT_x, w_T, KtAnd_, KtAnd_x, w_tAnd, KtOr_, KtOr_x, w_tOr, KtNot_, KtNot_x, w_tNot, KAnd_, KAnd_x, w_And, KOr_, KOr_x, w_Or, KNot_, KNot_x, w_Not, KIte_, KIte_x, w_Ite, Kch4_, Kch4_x, Kch3f_, Kch3_, Kch3_x, Kch2_, Kch2_x, Kch_, Kch_x, w_ch, partO_i, KPart_, KPart_x, w_Part, slO_, KSl3_, KSl3_x, KSl2_, KSl2_x, KSl_, KSl_x, w_Sl, KDo_, KDo_x, w_Do, KRet_, KRet_x, w_Ret, KIf_, KIf_x, w_If, putK_, w_putl, KSet_, KSet_x, w_Set, KAug_, KAug_x, w_Aug, augO_i, unpO_2, unpO_3, w_tg2, w_tg3, KUnp_, KUnp_x, w_Unp, chgK_, w_chg, chgO_o, appK_, w_appR, w_app1, KApp_, KApp_x, KApp0_, w_App, stIK_, w_stIR, stIO_i, w_put1, KStI2_, KStI2_x, KStI1_, KStI_, KStI_x, w_StI, KIt_, KIt_x, w_It, KRng1_, KRng1_x, w_Rng1, KRng2_, KRng2_x, w_Rng2, it2O_, it1O_, KIt2_, KIt2_x, w_It2, KIt1_, KIt1_x, w_It1, KFor_, KFor_x, w_For, KComp_, KComp_x, w_Comp, KCall_, KCall_x, w_Call, KCallI_, KCallI_x, KCallI0_, w_CallI, w_mkTup, w_mkLst, rdsK2_, rdsK_, w_rds, stbsK2_, stbsK_, w_stbs, cP0, cP1, cP2, cP3, cP4, cP5, cP6, cP7, cIO_o, cI1, cI2, cI3, cI4, cI5, cI6, cI7, w_stOt, stOO_o, w_retFl, retO_v, retO_o, w_finR, w_finN, finO_s, w_runF, rp0, rpS, asE_x, stF_x, finX_s, w_finX, ev_c, ev_fin, ev_fin0, ev_o1, ev_o2, ev_rdv, ev_rdn, ev_rdl, ev_nil, ev_stlv, ev_stln, ev_stll, ev_rds0, ev_stbv, ev_stbn, ev_stbs0, ev_asB, ev_NoPart, ev_Nx, ev_putv, ev_putn, ev_ofO, ev_itL, ev_itT, ev_tgN, ev_for0, ev_wipeD0, ev_wipeD, ev_restD0, ev_restD, ev_endC, ev_Yes, ev_asEv, ev_asEn, ev_stFv, ev_stFn, ev_mkAf, ev_mkAt, ev_stOf, ev_retFv, ev_retFn, ev_vI, ev_vB, ev_oSlL, ev_oSlT, ev_oRevL, ev_bListL, ev_bListT, ev_bTupL, ev_bTupT, ev_isNone0, ev_isNoneI, ev_isNoneL, ev_isNoneT, ev_isNoneB, ev_isNoneS, n_add, n_sub, n_mul, n_mod, n_div, n_shl1, n_shl, n_shr, n_pow, n_and, n_or, n_xor, n_lt, n_le, n_gt, n_ge, n_eq, n_ne, bt1, bt0, d_ltT, d_ltF, d_leT, d_leF, d_eqT, d_eqF, c_eq, c_ne, c_eqc, c_nec, c_isN, l_ix, t_ix, l_ix0, l_ix1, l_ix2, l_ix3, l_ix4, l_ix5, t_ix0, t_ix1, t_ix2, l_len, t_len, cut_to, cut_from, l_addL, t_addT, w_rng1, w_rng2, n_max2, n_min2, n_sum, b_all, b_any, b_all0, b_intB, b_intN, i_intI, i_boolI, i_intB, i_boolB, i_tupT, i_lstL, i_tupL, i_lstT, i_intT, i_intL, i_tupI, i_lstI, i_intN, i_tupN, i_lstN, i_intS, i_tupS, i_lstS, i_tupB, i_lstB, r_isN, r_notN, wp_nx, wp_ret, wl_nx, wl_cnt, wl_brk, wl_ret, List.map_cons, List.map_nil, List.cons_append, List.nil_append, List.set_cons_zero, List.set_cons_succ, List.length_cons, List.length_nil, List.length_map, List.length_append, List.length_range, List.length_range', List.length_set, Bool.not_true, Bool.not_false, Bool.true_and, Bool.false_and, Bool.and_true, Bool.and_false, decide_true, decide_false, Nat.reduceSub, Nat.reduceAdd, Option.getD_some, vo_v, no_v, Nat.one_mul, l_eq, l_ne, t_eq, t_eqc, l_eq0, l_ne0, z_eq0, z_ne0, lc_ne0, lc_eq0, n_inL, n_inT, n_niL, n_niT, n_inC, if_true, if_false, Option.isNone_none, Option.isNone_some, n_augA, n_augS, List.append_nil, n_tr, n_lr, KStar2_, KStarO_, KStar_, w_Star, items_l, items_t, st_vals, KComp2_, w_Comp2, n_mulA, t_mulA1, t_mulA, l_repC, KOrT_, w_OrT, truO_n, truO_0, truO_i, KUnpL_, w_UnpL, unpLO_2, unpLO_3, KItE_, w_ItE, itEO_l, itEO_t, itZO_l, itZO_t, KItZ_, w_ItZ, enumD_map, zipD_map, cT1, cT2, cT3, KCallT2_, KCallT_, w_CallT, ev_oNeg, i_strS, b_sortP, b_is, b_nis, KIs_, w_Is, isLO_l, t_ix3, t_ix4, ba1, ba2, ba3, ba4, t_rev, KExt_, KExt0_, w_Ext, w_extR, w_ext1, KTru_, w_Tru, truT_, truD_l, truD_t, g_get, isLO_d, KDComp_, w_DComp, cell1, between_n, Bool.true_and]
def wr (n k : Nat) (t : List (Option Nat)) : PyData := .tuple [nI n, nI k, tab t]
theorem made_spec {n k : Nat} {t : List (Option Nat)} (h1 : 1 ≤ n) (hn : n ≤ 8) (h2 : 2 ≤ k) (hk : k ≤ 100) (h : Tb n k t) : G_made_writing [] [nI n, nI k, tab t] = .val (.tuple [nI n, nI k, tab t]) [] := by
  simp -implicitDefEqProofs (disch := (first | omega | (simp only [List.length_map, List.length_append, List.length_range, List.length_cons, List.length_nil, List.length_set, List.length_take, List.length_drop, List.length_replicate, List.length_reverse] <;> omega) | assumption)) only [w_Seq, w_seqN, w_seqR, w_seqC, w_seqB, w_seqX, iteF_t, iteF_f, iteO_t, iteO_f, KoB_, KtB_, sg0_, sgS_, w_var, vr_v, vr_o, w_rdS, rdO_v, rdO_o, w_stb, stO1_v, stO1_o, ob_s, w_isOwn, isOwnO_o, K1_, K1_x, w_1, K2b_, K2b_x, K2_, K2_x, w_2, Kc2_, Kc2_x, Kc_, Kc_x, w_cons, KB_, KB_x, w_B, Ktup_, Ktup_x, w_tup, Klst_, Klst_x, w_lst, KT_, KT_x, w_T, KtAnd_, KtAnd_x, w_tAnd, KtOr_, KtOr_x, w_tOr, KtNot_, KtNot_x, w_tNot, KAnd_, KAnd_x, w_And, KOr_, KOr_x, w_Or, KNot_, KNot_x, w_Not, KIte_, KIte_x, w_Ite, Kch4_, Kch4_x, Kch3f_, Kch3_, Kch3_x, Kch2_, Kch2_x, Kch_, Kch_x, w_ch, partO_i, KPart_, KPart_x, w_Part, slO_, KSl3_, KSl3_x, KSl2_, KSl2_x, KSl_, KSl_x, w_Sl, KDo_, KDo_x, w_Do, KRet_, KRet_x, w_Ret, KIf_, KIf_x, w_If, putK_, w_putl, KSet_, KSet_x, w_Set, KAug_, KAug_x, w_Aug, augO_i, unpO_2, unpO_3, w_tg2, w_tg3, KUnp_, KUnp_x, w_Unp, chgK_, w_chg, chgO_o, appK_, w_appR, w_app1, KApp_, KApp_x, KApp0_, w_App, stIK_, w_stIR, stIO_i, w_put1, KStI2_, KStI2_x, KStI1_, KStI_, KStI_x, w_StI, KIt_, KIt_x, w_It, KRng1_, KRng1_x, w_Rng1, KRng2_, KRng2_x, w_Rng2, it2O_, it1O_, KIt2_, KIt2_x, w_It2, KIt1_, KIt1_x, w_It1, KFor_, KFor_x, w_For, KComp_, KComp_x, w_Comp, KCall_, KCall_x, w_Call, KCallI_, KCallI_x, KCallI0_, w_CallI, w_mkTup, w_mkLst, rdsK2_, rdsK_, w_rds, stbsK2_, stbsK_, w_stbs, cP0, cP1, cP2, cP3, cP4, cP5, cP6, cP7, cIO_o, cI1, cI2, cI3, cI4, cI5, cI6, cI7, w_stOt, stOO_o, w_retFl, retO_v, retO_o, w_finR, w_finN, finO_s, w_runF, rp0, rpS, asE_x, stF_x, finX_s, w_finX, ev_c, ev_fin, ev_fin0, ev_o1, ev_o2, ev_rdv, ev_rdn, ev_rdl, ev_nil, ev_stlv, ev_stln, ev_stll, ev_rds0, ev_stbv, ev_stbn, ev_stbs0, ev_asB, ev_NoPart, ev_Nx, ev_putv, ev_putn, ev_ofO, ev_itL, ev_itT, ev_tgN, ev_for0, ev_wipeD0, ev_wipeD, ev_restD0, ev_restD, ev_endC, ev_Yes, ev_asEv, ev_asEn, ev_stFv, ev_stFn, ev_mkAf, ev_mkAt, ev_stOf, ev_retFv, ev_retFn, ev_vI, ev_vB, ev_oSlL, ev_oSlT, ev_oRevL, ev_bListL, ev_bListT, ev_bTupL, ev_bTupT, ev_isNone0, ev_isNoneI, ev_isNoneL, ev_isNoneT, ev_isNoneB, ev_isNoneS, n_add, n_sub, n_mul, n_mod, n_div, n_shl1, n_shl, n_shr, n_pow, n_and, n_or, n_xor, n_lt, n_le, n_gt, n_ge, n_eq, n_ne, bt1, bt0, d_ltT, d_ltF, d_leT, d_leF, d_eqT, d_eqF, c_eq, c_ne, c_eqc, c_nec, c_isN, l_ix, t_ix, l_ix0, l_ix1, l_ix2, l_ix3, l_ix4, l_ix5, t_ix0, t_ix1, t_ix2, l_len, t_len, cut_to, cut_from, l_addL, t_addT, w_rng1, w_rng2, n_max2, n_min2, n_sum, b_all, b_any, b_all0, b_intB, b_intN, i_intI, i_boolI, i_intB, i_boolB, i_tupT, i_lstL, i_tupL, i_lstT, i_intT, i_intL, i_tupI, i_lstI, i_intN, i_tupN, i_lstN, i_intS, i_tupS, i_lstS, i_tupB, i_lstB, r_isN, r_notN, wp_nx, wp_ret, wl_nx, wl_cnt, wl_brk, wl_ret, List.map_cons, List.map_nil, List.cons_append, List.nil_append, List.set_cons_zero, List.set_cons_succ, List.length_cons, List.length_nil, List.length_map, List.length_append, List.length_range, List.length_range', List.length_set, Bool.not_true, Bool.not_false, Bool.true_and, Bool.false_and, Bool.and_true, Bool.and_false, decide_true, decide_false, Nat.reduceSub, Nat.reduceAdd, Option.getD_some, vo_v, no_v, Nat.one_mul, l_eq, l_ne, t_eq, t_eqc, l_eq0, l_ne0, z_eq0, z_ne0, lc_ne0, lc_eq0, n_inL, n_inT, n_niL, n_niT, n_inC, if_true, if_false, Option.isNone_none, Option.isNone_some, n_augA, n_augS, List.append_nil, n_tr, n_lr, KStar2_, KStarO_, KStar_, w_Star, items_l, items_t, st_vals, KComp2_, w_Comp2, n_mulA, t_mulA1, t_mulA, l_repC, KOrT_, w_OrT, truO_n, truO_0, truO_i, KUnpL_, w_UnpL, unpLO_2, unpLO_3, KItE_, w_ItE, itEO_l, itEO_t, itZO_l, itZO_t, KItZ_, w_ItZ, enumD_map, zipD_map, cT1, cT2, cT3, KCallT2_, KCallT_, w_CallT, ev_oNeg, i_strS, b_sortP, b_is, b_nis, KIs_, w_Is, isLO_l, t_ix3, t_ix4, ba1, ba2, ba3, ba4, t_rev, KExt_, KExt0_, w_Ext, w_extR, w_ext1, KTru_, w_Tru, truT_, truD_l, truD_t, g_get, isLO_d, KDComp_, w_DComp, G_made_writing, D_made_writing, between_n, Bool.true_and, is_table_true hn (show 0 < k by omega) h]
theorem table82_vo {n k : Nat} {st : List PyData} (hn : n ≤ 8) (hk : 0 < k) (hk2 : k ≤ 100) (hg : GoodS st) : VOk (fun d st' => ∃ t, d = tab t ∧ GoodS st' ∧ Tb n k t) (G_law_table st [nI n, nI k]) := by
  have hp := pow_le hn
  have hp0 : 0 < 2 ^ n := Nat.pow_pos (by decide)
  obtain ⟨w, s1, e1, u1, g1⟩ := take_nat hg (m := 3) (by decide) (by decide)
  unfold G_law_table D_law_table
  simp -implicitDefEqProofs (disch := (first | omega | (simp only [List.length_map, List.length_append, List.length_range, List.length_cons, List.length_nil, List.length_set, List.length_take, List.length_drop, List.length_replicate, List.length_reverse] <;> omega) | assumption)) only [w_Seq, w_seqN, w_seqR, w_seqC, w_seqB, w_seqX, iteF_t, iteF_f, iteO_t, iteO_f, KoB_, KtB_, sg0_, sgS_, w_var, vr_v, vr_o, w_rdS, rdO_v, rdO_o, w_stb, stO1_v, stO1_o, ob_s, w_isOwn, isOwnO_o, K1_, K1_x, w_1, K2b_, K2b_x, K2_, K2_x, w_2, Kc2_, Kc2_x, Kc_, Kc_x, w_cons, KB_, KB_x, w_B, Ktup_, Ktup_x, w_tup, Klst_, Klst_x, w_lst, KT_, KT_x, w_T, KtAnd_, KtAnd_x, w_tAnd, KtOr_, KtOr_x, w_tOr, KtNot_, KtNot_x, w_tNot, KAnd_, KAnd_x, w_And, KOr_, KOr_x, w_Or, KNot_, KNot_x, w_Not, KIte_, KIte_x, w_Ite, Kch4_, Kch4_x, Kch3f_, Kch3_, Kch3_x, Kch2_, Kch2_x, Kch_, Kch_x, w_ch, partO_i, KPart_, KPart_x, w_Part, slO_, KSl3_, KSl3_x, KSl2_, KSl2_x, KSl_, KSl_x, w_Sl, KDo_, KDo_x, w_Do, KRet_, KRet_x, w_Ret, KIf_, KIf_x, w_If, putK_, w_putl, KSet_, KSet_x, w_Set, KAug_, KAug_x, w_Aug, augO_i, unpO_2, unpO_3, w_tg2, w_tg3, KUnp_, KUnp_x, w_Unp, chgK_, w_chg, chgO_o, appK_, w_appR, w_app1, KApp_, KApp_x, KApp0_, w_App, stIK_, w_stIR, stIO_i, w_put1, KStI2_, KStI2_x, KStI1_, KStI_, KStI_x, w_StI, KIt_, KIt_x, w_It, KRng1_, KRng1_x, w_Rng1, KRng2_, KRng2_x, w_Rng2, it2O_, it1O_, KIt2_, KIt2_x, w_It2, KIt1_, KIt1_x, w_It1, KFor_, KFor_x, w_For, KComp_, KComp_x, w_Comp, KCall_, KCall_x, w_Call, KCallI_, KCallI_x, KCallI0_, w_CallI, w_mkTup, w_mkLst, rdsK2_, rdsK_, w_rds, stbsK2_, stbsK_, w_stbs, cP0, cP1, cP2, cP3, cP4, cP5, cP6, cP7, cIO_o, cI1, cI2, cI3, cI4, cI5, cI6, cI7, w_stOt, stOO_o, w_retFl, retO_v, retO_o, w_finR, w_finN, finO_s, w_runF, rp0, rpS, asE_x, stF_x, finX_s, w_finX, ev_c, ev_fin, ev_fin0, ev_o1, ev_o2, ev_rdv, ev_rdn, ev_rdl, ev_nil, ev_stlv, ev_stln, ev_stll, ev_rds0, ev_stbv, ev_stbn, ev_stbs0, ev_asB, ev_NoPart, ev_Nx, ev_putv, ev_putn, ev_ofO, ev_itL, ev_itT, ev_tgN, ev_for0, ev_wipeD0, ev_wipeD, ev_restD0, ev_restD, ev_endC, ev_Yes, ev_asEv, ev_asEn, ev_stFv, ev_stFn, ev_mkAf, ev_mkAt, ev_stOf, ev_retFv, ev_retFn, ev_vI, ev_vB, ev_oSlL, ev_oSlT, ev_oRevL, ev_bListL, ev_bListT, ev_bTupL, ev_bTupT, ev_isNone0, ev_isNoneI, ev_isNoneL, ev_isNoneT, ev_isNoneB, ev_isNoneS, n_add, n_sub, n_mul, n_mod, n_div, n_shl1, n_shl, n_shr, n_pow, n_and, n_or, n_xor, n_lt, n_le, n_gt, n_ge, n_eq, n_ne, bt1, bt0, d_ltT, d_ltF, d_leT, d_leF, d_eqT, d_eqF, c_eq, c_ne, c_eqc, c_nec, c_isN, l_ix, t_ix, l_ix0, l_ix1, l_ix2, l_ix3, l_ix4, l_ix5, t_ix0, t_ix1, t_ix2, l_len, t_len, cut_to, cut_from, l_addL, t_addT, w_rng1, w_rng2, n_max2, n_min2, n_sum, b_all, b_any, b_all0, b_intB, b_intN, i_intI, i_boolI, i_intB, i_boolB, i_tupT, i_lstL, i_tupL, i_lstT, i_intT, i_intL, i_tupI, i_lstI, i_intN, i_tupN, i_lstN, i_intS, i_tupS, i_lstS, i_tupB, i_lstB, r_isN, r_notN, wp_nx, wp_ret, wl_nx, wl_cnt, wl_brk, wl_ret, List.map_cons, List.map_nil, List.cons_append, List.nil_append, List.set_cons_zero, List.set_cons_succ, List.length_cons, List.length_nil, List.length_map, List.length_append, List.length_range, List.length_range', List.length_set, Bool.not_true, Bool.not_false, Bool.true_and, Bool.false_and, Bool.and_true, Bool.and_false, decide_true, decide_false, Nat.reduceSub, Nat.reduceAdd, Option.getD_some, vo_v, no_v, Nat.one_mul, l_eq, l_ne, t_eq, t_eqc, l_eq0, l_ne0, z_eq0, z_ne0, lc_ne0, lc_eq0, n_inL, n_inT, n_niL, n_niT, n_inC, if_true, if_false, Option.isNone_none, Option.isNone_some, n_augA, n_augS, List.append_nil, n_tr, n_lr, KStar2_, KStarO_, KStar_, w_Star, items_l, items_t, st_vals, KComp2_, w_Comp2, n_mulA, t_mulA1, t_mulA, l_repC, KOrT_, w_OrT, truO_n, truO_0, truO_i, KUnpL_, w_UnpL, unpLO_2, unpLO_3, KItE_, w_ItE, itEO_l, itEO_t, itZO_l, itZO_t, KItZ_, w_ItZ, enumD_map, zipD_map, cT1, cT2, cT3, KCallT2_, KCallT_, w_CallT, ev_oNeg, i_strS, b_sortP, b_is, b_nis, KIs_, w_Is, isLO_l, t_ix3, t_ix4, ba1, ba2, ba3, ba4, t_rev, KExt_, KExt0_, w_Ext, w_extR, w_ext1, KTru_, w_Tru, truT_, truD_l, truD_t, g_get, isLO_d, KDComp_, w_DComp, e1]
  refine wc_all (P := fun o => VOk _ (finF true (seqO (KSet 4 o) _))) (fun dl => ∃ s, dl = [.own true s, .val (nI n), .val (nI k), .val (nI w), .no, .no, .no, .no, .no] ∧ GoodS s) (fun y => ∃ c : Nat, c < k ∧ y = nI c) ⟨s1, rfl, g1⟩ ?_ (by simp; omega) ?_
  · rintro d dn hd ⟨s, rfl, gs⟩
    obtain ⟨c, s', e, c1, g'⟩ := take_nat gs hk (by omega)
    refine ⟨_, .val (nI c), [.own true s', .val (nI n), .val (nI k), .val (nI w), .no, .no, .no, .no, .val d], nI c, _, rfl, ?_, rfl, ⟨c, c1, rfl⟩, s', rfl, g'⟩
    simp -implicitDefEqProofs (disch := (first | omega | (simp only [List.length_map, List.length_append, List.length_range, List.length_cons, List.length_nil, List.length_set, List.length_take, List.length_drop, List.length_replicate, List.length_reverse] <;> omega) | assumption)) only [w_Seq, w_seqN, w_seqR, w_seqC, w_seqB, w_seqX, iteF_t, iteF_f, iteO_t, iteO_f, KoB_, KtB_, sg0_, sgS_, w_var, vr_v, vr_o, w_rdS, rdO_v, rdO_o, w_stb, stO1_v, stO1_o, ob_s, w_isOwn, isOwnO_o, K1_, K1_x, w_1, K2b_, K2b_x, K2_, K2_x, w_2, Kc2_, Kc2_x, Kc_, Kc_x, w_cons, KB_, KB_x, w_B, Ktup_, Ktup_x, w_tup, Klst_, Klst_x, w_lst, KT_, KT_x, w_T, KtAnd_, KtAnd_x, w_tAnd, KtOr_, KtOr_x, w_tOr, KtNot_, KtNot_x, w_tNot, KAnd_, KAnd_x, w_And, KOr_, KOr_x, w_Or, KNot_, KNot_x, w_Not, KIte_, KIte_x, w_Ite, Kch4_, Kch4_x, Kch3f_, Kch3_, Kch3_x, Kch2_, Kch2_x, Kch_, Kch_x, w_ch, partO_i, KPart_, KPart_x, w_Part, slO_, KSl3_, KSl3_x, KSl2_, KSl2_x, KSl_, KSl_x, w_Sl, KDo_, KDo_x, w_Do, KRet_, KRet_x, w_Ret, KIf_, KIf_x, w_If, putK_, w_putl, KSet_, KSet_x, w_Set, KAug_, KAug_x, w_Aug, augO_i, unpO_2, unpO_3, w_tg2, w_tg3, KUnp_, KUnp_x, w_Unp, chgK_, w_chg, chgO_o, appK_, w_appR, w_app1, KApp_, KApp_x, KApp0_, w_App, stIK_, w_stIR, stIO_i, w_put1, KStI2_, KStI2_x, KStI1_, KStI_, KStI_x, w_StI, KIt_, KIt_x, w_It, KRng1_, KRng1_x, w_Rng1, KRng2_, KRng2_x, w_Rng2, it2O_, it1O_, KIt2_, KIt2_x, w_It2, KIt1_, KIt1_x, w_It1, KFor_, KFor_x, w_For, KComp_, KComp_x, w_Comp, KCall_, KCall_x, w_Call, KCallI_, KCallI_x, KCallI0_, w_CallI, w_mkTup, w_mkLst, rdsK2_, rdsK_, w_rds, stbsK2_, stbsK_, w_stbs, cP0, cP1, cP2, cP3, cP4, cP5, cP6, cP7, cIO_o, cI1, cI2, cI3, cI4, cI5, cI6, cI7, w_stOt, stOO_o, w_retFl, retO_v, retO_o, w_finR, w_finN, finO_s, w_runF, rp0, rpS, asE_x, stF_x, finX_s, w_finX, ev_c, ev_fin, ev_fin0, ev_o1, ev_o2, ev_rdv, ev_rdn, ev_rdl, ev_nil, ev_stlv, ev_stln, ev_stll, ev_rds0, ev_stbv, ev_stbn, ev_stbs0, ev_asB, ev_NoPart, ev_Nx, ev_putv, ev_putn, ev_ofO, ev_itL, ev_itT, ev_tgN, ev_for0, ev_wipeD0, ev_wipeD, ev_restD0, ev_restD, ev_endC, ev_Yes, ev_asEv, ev_asEn, ev_stFv, ev_stFn, ev_mkAf, ev_mkAt, ev_stOf, ev_retFv, ev_retFn, ev_vI, ev_vB, ev_oSlL, ev_oSlT, ev_oRevL, ev_bListL, ev_bListT, ev_bTupL, ev_bTupT, ev_isNone0, ev_isNoneI, ev_isNoneL, ev_isNoneT, ev_isNoneB, ev_isNoneS, n_add, n_sub, n_mul, n_mod, n_div, n_shl1, n_shl, n_shr, n_pow, n_and, n_or, n_xor, n_lt, n_le, n_gt, n_ge, n_eq, n_ne, bt1, bt0, d_ltT, d_ltF, d_leT, d_leF, d_eqT, d_eqF, c_eq, c_ne, c_eqc, c_nec, c_isN, l_ix, t_ix, l_ix0, l_ix1, l_ix2, l_ix3, l_ix4, l_ix5, t_ix0, t_ix1, t_ix2, l_len, t_len, cut_to, cut_from, l_addL, t_addT, w_rng1, w_rng2, n_max2, n_min2, n_sum, b_all, b_any, b_all0, b_intB, b_intN, i_intI, i_boolI, i_intB, i_boolB, i_tupT, i_lstL, i_tupL, i_lstT, i_intT, i_intL, i_tupI, i_lstI, i_intN, i_tupN, i_lstN, i_intS, i_tupS, i_lstS, i_tupB, i_lstB, r_isN, r_notN, wp_nx, wp_ret, wl_nx, wl_cnt, wl_brk, wl_ret, List.map_cons, List.map_nil, List.cons_append, List.nil_append, List.set_cons_zero, List.set_cons_succ, List.length_cons, List.length_nil, List.length_map, List.length_append, List.length_range, List.length_range', List.length_set, Bool.not_true, Bool.not_false, Bool.true_and, Bool.false_and, Bool.and_true, Bool.and_false, decide_true, decide_false, Nat.reduceSub, Nat.reduceAdd, Option.getD_some, vo_v, no_v, Nat.one_mul, l_eq, l_ne, t_eq, t_eqc, l_eq0, l_ne0, z_eq0, z_ne0, lc_ne0, lc_eq0, n_inL, n_inT, n_niL, n_niT, n_inC, if_true, if_false, Option.isNone_none, Option.isNone_some, n_augA, n_augS, List.append_nil, n_tr, n_lr, KStar2_, KStarO_, KStar_, w_Star, items_l, items_t, st_vals, KComp2_, w_Comp2, n_mulA, t_mulA1, t_mulA, l_repC, KOrT_, w_OrT, truO_n, truO_0, truO_i, KUnpL_, w_UnpL, unpLO_2, unpLO_3, KItE_, w_ItE, itEO_l, itEO_t, itZO_l, itZO_t, KItZ_, w_ItZ, enumD_map, zipD_map, cT1, cT2, cT3, KCallT2_, KCallT_, w_CallT, ev_oNeg, i_strS, b_sortP, b_is, b_nis, KIs_, w_Is, isLO_l, t_ix3, t_ix4, ba1, ba2, ba3, ba4, t_rev, KExt_, KExt0_, w_Ext, w_extR, w_ext1, KTru_, w_Tru, truT_, truD_l, truD_t, g_get, isLO_d, KDComp_, w_DComp, e]
  rintro ys dn ⟨s2, rfl, g2⟩ l2 r2
  obtain ⟨ws, rfl, hws⟩ := all_nat _ r2
  have lw : ws.length = n := by simpa using l2
  simp -implicitDefEqProofs (disch := (first | omega | (simp only [List.length_map, List.length_append, List.length_range, List.length_cons, List.length_nil, List.length_set, List.length_take, List.length_drop, List.length_replicate, List.length_reverse] <;> omega) | assumption)) only [w_Seq, w_seqN, w_seqR, w_seqC, w_seqB, w_seqX, iteF_t, iteF_f, iteO_t, iteO_f, KoB_, KtB_, sg0_, sgS_, w_var, vr_v, vr_o, w_rdS, rdO_v, rdO_o, w_stb, stO1_v, stO1_o, ob_s, w_isOwn, isOwnO_o, K1_, K1_x, w_1, K2b_, K2b_x, K2_, K2_x, w_2, Kc2_, Kc2_x, Kc_, Kc_x, w_cons, KB_, KB_x, w_B, Ktup_, Ktup_x, w_tup, Klst_, Klst_x, w_lst, KT_, KT_x, w_T, KtAnd_, KtAnd_x, w_tAnd, KtOr_, KtOr_x, w_tOr, KtNot_, KtNot_x, w_tNot, KAnd_, KAnd_x, w_And, KOr_, KOr_x, w_Or, KNot_, KNot_x, w_Not, KIte_, KIte_x, w_Ite, Kch4_, Kch4_x, Kch3f_, Kch3_, Kch3_x, Kch2_, Kch2_x, Kch_, Kch_x, w_ch, partO_i, KPart_, KPart_x, w_Part, slO_, KSl3_, KSl3_x, KSl2_, KSl2_x, KSl_, KSl_x, w_Sl, KDo_, KDo_x, w_Do, KRet_, KRet_x, w_Ret, KIf_, KIf_x, w_If, putK_, w_putl, KSet_, KSet_x, w_Set, KAug_, KAug_x, w_Aug, augO_i, unpO_2, unpO_3, w_tg2, w_tg3, KUnp_, KUnp_x, w_Unp, chgK_, w_chg, chgO_o, appK_, w_appR, w_app1, KApp_, KApp_x, KApp0_, w_App, stIK_, w_stIR, stIO_i, w_put1, KStI2_, KStI2_x, KStI1_, KStI_, KStI_x, w_StI, KIt_, KIt_x, w_It, KRng1_, KRng1_x, w_Rng1, KRng2_, KRng2_x, w_Rng2, it2O_, it1O_, KIt2_, KIt2_x, w_It2, KIt1_, KIt1_x, w_It1, KFor_, KFor_x, w_For, KComp_, KComp_x, w_Comp, KCall_, KCall_x, w_Call, KCallI_, KCallI_x, KCallI0_, w_CallI, w_mkTup, w_mkLst, rdsK2_, rdsK_, w_rds, stbsK2_, stbsK_, w_stbs, cP0, cP1, cP2, cP3, cP4, cP5, cP6, cP7, cIO_o, cI1, cI2, cI3, cI4, cI5, cI6, cI7, w_stOt, stOO_o, w_retFl, retO_v, retO_o, w_finR, w_finN, finO_s, w_runF, rp0, rpS, asE_x, stF_x, finX_s, w_finX, ev_c, ev_fin, ev_fin0, ev_o1, ev_o2, ev_rdv, ev_rdn, ev_rdl, ev_nil, ev_stlv, ev_stln, ev_stll, ev_rds0, ev_stbv, ev_stbn, ev_stbs0, ev_asB, ev_NoPart, ev_Nx, ev_putv, ev_putn, ev_ofO, ev_itL, ev_itT, ev_tgN, ev_for0, ev_wipeD0, ev_wipeD, ev_restD0, ev_restD, ev_endC, ev_Yes, ev_asEv, ev_asEn, ev_stFv, ev_stFn, ev_mkAf, ev_mkAt, ev_stOf, ev_retFv, ev_retFn, ev_vI, ev_vB, ev_oSlL, ev_oSlT, ev_oRevL, ev_bListL, ev_bListT, ev_bTupL, ev_bTupT, ev_isNone0, ev_isNoneI, ev_isNoneL, ev_isNoneT, ev_isNoneB, ev_isNoneS, n_add, n_sub, n_mul, n_mod, n_div, n_shl1, n_shl, n_shr, n_pow, n_and, n_or, n_xor, n_lt, n_le, n_gt, n_ge, n_eq, n_ne, bt1, bt0, d_ltT, d_ltF, d_leT, d_leF, d_eqT, d_eqF, c_eq, c_ne, c_eqc, c_nec, c_isN, l_ix, t_ix, l_ix0, l_ix1, l_ix2, l_ix3, l_ix4, l_ix5, t_ix0, t_ix1, t_ix2, l_len, t_len, cut_to, cut_from, l_addL, t_addT, w_rng1, w_rng2, n_max2, n_min2, n_sum, b_all, b_any, b_all0, b_intB, b_intN, i_intI, i_boolI, i_intB, i_boolB, i_tupT, i_lstL, i_tupL, i_lstT, i_intT, i_intL, i_tupI, i_lstI, i_intN, i_tupN, i_lstN, i_intS, i_tupS, i_lstS, i_tupB, i_lstB, r_isN, r_notN, wp_nx, wp_ret, wl_nx, wl_cnt, wl_brk, wl_ret, List.map_cons, List.map_nil, List.cons_append, List.nil_append, List.set_cons_zero, List.set_cons_succ, List.length_cons, List.length_nil, List.length_map, List.length_append, List.length_range, List.length_range', List.length_set, Bool.not_true, Bool.not_false, Bool.true_and, Bool.false_and, Bool.and_true, Bool.and_false, decide_true, decide_false, Nat.reduceSub, Nat.reduceAdd, Option.getD_some, vo_v, no_v, Nat.one_mul, l_eq, l_ne, t_eq, t_eqc, l_eq0, l_ne0, z_eq0, z_ne0, lc_ne0, lc_eq0, n_inL, n_inT, n_niL, n_niT, n_inC, if_true, if_false, Option.isNone_none, Option.isNone_some, n_augA, n_augS, List.append_nil, n_tr, n_lr, KStar2_, KStarO_, KStar_, w_Star, items_l, items_t, st_vals, KComp2_, w_Comp2, n_mulA, t_mulA1, t_mulA, l_repC, KOrT_, w_OrT, truO_n, truO_0, truO_i, KUnpL_, w_UnpL, unpLO_2, unpLO_3, KItE_, w_ItE, itEO_l, itEO_t, itZO_l, itZO_t, KItZ_, w_ItZ, enumD_map, zipD_map, cT1, cT2, cT3, KCallT2_, KCallT_, w_CallT, ev_oNeg, i_strS, b_sortP, b_is, b_nis, KIs_, w_Is, isLO_l, t_ix3, t_ix4, ba1, ba2, ba3, ba4, t_rev, KExt_, KExt0_, w_Ext, w_extR, w_ext1, KTru_, w_Tru, truT_, truD_l, truD_t, g_get, isLO_d, KDComp_, w_DComp]
  refine vo_fin (wp_seq (fun dl => ∃ st' y6 y7 rows, dl = [.own true st', .val (nI n), .val (nI k), .val (nI w), .own false (ws.map nI), .own false rows, y6, y7, .no] ∧ GoodS st' ∧ rows.length = 2 ^ n ∧ ∀ d ∈ rows, d = .none ∨ ∃ c : Nat, c < k ∧ d = nI c) ?_ ?_)
  · refine wp_mono (wp_fori (n := 0) (fun i dl => ∃ st' y6 y7 rows, dl = [.own true st', .val (nI n), .val (nI k), .val (nI w), .own false (ws.map nI), .own false rows, y6, y7, .no] ∧ GoodS st' ∧ rows.length = i ∧ ∀ d ∈ rows, d = .none ∨ ∃ c : Nat, c < k ∧ d = nI c) ⟨s2, .no, .no, [], rfl, g2, rfl, fun _ h => nomatch h⟩ ?_) (fun d h => by simpa using h) (fun _ _ h => h)
    rintro i d dl hd ⟨st', y6, y7, rows, rfl, g, hl, hr⟩
    have hi8 : i < 2 ^ n := by have := lt_of_get hd; simpa using this
    have ed : d = nI i := by
      rw [List.getElem?_map, List.getElem?_range hi8] at hd
      exact (Option.some.inj hd).symm
    subst ed
    obtain ⟨c, s3, e3, uc, g3⟩ := take_nat g hk (by omega)
    refine ⟨_, rfl, ?_⟩
    have fin : ∀ (s4 : List PyData) (y7 : Sl) (e : PyData), GoodS s4 → (e = .none ∨ ∃ c : Nat, c < k ∧ e = nI c) → ∃ st' z6 z7 rows', [Sl.own true s4, .val (nI n), .val (nI k), .val (nI w), .own false (ws.map nI), .own false (rows ++ [e]), .val (nI i), y7, .no] = [.own true st', .val (nI n), .val (nI k), .val (nI w), .own false (ws.map nI), .own false rows', z6, z7, .no] ∧ GoodS st' ∧ rows'.length = 0 + i + 1 ∧ ∀ d ∈ rows', d = .none ∨ ∃ c : Nat, c < k ∧ d = nI c := by
      intro s4 y7 e g4 he
      refine ⟨_, _, _, _, rfl, g4, by simp [hl], fun d hd => ?_⟩
      rcases List.mem_append.mp hd with h | h
      · exact hr d h
      · rw [List.mem_singleton.mp h]; exact he
    have hrl : rows.length < 100000 := by omega
    simp -implicitDefEqProofs (disch := (first | omega | (simp only [List.length_map, List.length_append, List.length_range, List.length_cons, List.length_nil, List.length_set, List.length_take, List.length_drop, List.length_replicate, List.length_reverse] <;> omega) | assumption)) only [w_Seq, w_seqN, w_seqR, w_seqC, w_seqB, w_seqX, iteF_t, iteF_f, iteO_t, iteO_f, KoB_, KtB_, sg0_, sgS_, w_var, vr_v, vr_o, w_rdS, rdO_v, rdO_o, w_stb, stO1_v, stO1_o, ob_s, w_isOwn, isOwnO_o, K1_, K1_x, w_1, K2b_, K2b_x, K2_, K2_x, w_2, Kc2_, Kc2_x, Kc_, Kc_x, w_cons, KB_, KB_x, w_B, Ktup_, Ktup_x, w_tup, Klst_, Klst_x, w_lst, KT_, KT_x, w_T, KtAnd_, KtAnd_x, w_tAnd, KtOr_, KtOr_x, w_tOr, KtNot_, KtNot_x, w_tNot, KAnd_, KAnd_x, w_And, KOr_, KOr_x, w_Or, KNot_, KNot_x, w_Not, KIte_, KIte_x, w_Ite, Kch4_, Kch4_x, Kch3f_, Kch3_, Kch3_x, Kch2_, Kch2_x, Kch_, Kch_x, w_ch, partO_i, KPart_, KPart_x, w_Part, slO_, KSl3_, KSl3_x, KSl2_, KSl2_x, KSl_, KSl_x, w_Sl, KDo_, KDo_x, w_Do, KRet_, KRet_x, w_Ret, KIf_, KIf_x, w_If, putK_, w_putl, KSet_, KSet_x, w_Set, KAug_, KAug_x, w_Aug, augO_i, unpO_2, unpO_3, w_tg2, w_tg3, KUnp_, KUnp_x, w_Unp, chgK_, w_chg, chgO_o, appK_, w_appR, w_app1, KApp_, KApp_x, KApp0_, w_App, stIK_, w_stIR, stIO_i, w_put1, KStI2_, KStI2_x, KStI1_, KStI_, KStI_x, w_StI, KIt_, KIt_x, w_It, KRng1_, KRng1_x, w_Rng1, KRng2_, KRng2_x, w_Rng2, it2O_, it1O_, KIt2_, KIt2_x, w_It2, KIt1_, KIt1_x, w_It1, KFor_, KFor_x, w_For, KComp_, KComp_x, w_Comp, KCall_, KCall_x, w_Call, KCallI_, KCallI_x, KCallI0_, w_CallI, w_mkTup, w_mkLst, rdsK2_, rdsK_, w_rds, stbsK2_, stbsK_, w_stbs, cP0, cP1, cP2, cP3, cP4, cP5, cP6, cP7, cIO_o, cI1, cI2, cI3, cI4, cI5, cI6, cI7, w_stOt, stOO_o, w_retFl, retO_v, retO_o, w_finR, w_finN, finO_s, w_runF, rp0, rpS, asE_x, stF_x, finX_s, w_finX, ev_c, ev_fin, ev_fin0, ev_o1, ev_o2, ev_rdv, ev_rdn, ev_rdl, ev_nil, ev_stlv, ev_stln, ev_stll, ev_rds0, ev_stbv, ev_stbn, ev_stbs0, ev_asB, ev_NoPart, ev_Nx, ev_putv, ev_putn, ev_ofO, ev_itL, ev_itT, ev_tgN, ev_for0, ev_wipeD0, ev_wipeD, ev_restD0, ev_restD, ev_endC, ev_Yes, ev_asEv, ev_asEn, ev_stFv, ev_stFn, ev_mkAf, ev_mkAt, ev_stOf, ev_retFv, ev_retFn, ev_vI, ev_vB, ev_oSlL, ev_oSlT, ev_oRevL, ev_bListL, ev_bListT, ev_bTupL, ev_bTupT, ev_isNone0, ev_isNoneI, ev_isNoneL, ev_isNoneT, ev_isNoneB, ev_isNoneS, n_add, n_sub, n_mul, n_mod, n_div, n_shl1, n_shl, n_shr, n_pow, n_and, n_or, n_xor, n_lt, n_le, n_gt, n_ge, n_eq, n_ne, bt1, bt0, d_ltT, d_ltF, d_leT, d_leF, d_eqT, d_eqF, c_eq, c_ne, c_eqc, c_nec, c_isN, l_ix, t_ix, l_ix0, l_ix1, l_ix2, l_ix3, l_ix4, l_ix5, t_ix0, t_ix1, t_ix2, l_len, t_len, cut_to, cut_from, l_addL, t_addT, w_rng1, w_rng2, n_max2, n_min2, n_sum, b_all, b_any, b_all0, b_intB, b_intN, i_intI, i_boolI, i_intB, i_boolB, i_tupT, i_lstL, i_tupL, i_lstT, i_intT, i_intL, i_tupI, i_lstI, i_intN, i_tupN, i_lstN, i_intS, i_tupS, i_lstS, i_tupB, i_lstB, r_isN, r_notN, wp_nx, wp_ret, wl_nx, wl_cnt, wl_brk, wl_ret, List.map_cons, List.map_nil, List.cons_append, List.nil_append, List.set_cons_zero, List.set_cons_succ, List.length_cons, List.length_nil, List.length_map, List.length_append, List.length_range, List.length_range', List.length_set, Bool.not_true, Bool.not_false, Bool.true_and, Bool.false_and, Bool.and_true, Bool.and_false, decide_true, decide_false, Nat.reduceSub, Nat.reduceAdd, Option.getD_some, vo_v, no_v, Nat.one_mul, l_eq, l_ne, t_eq, t_eqc, l_eq0, l_ne0, z_eq0, z_ne0, lc_ne0, lc_eq0, n_inL, n_inT, n_niL, n_niT, n_inC, if_true, if_false, Option.isNone_none, Option.isNone_some, n_augA, n_augS, List.append_nil, n_tr, n_lr, KStar2_, KStarO_, KStar_, w_Star, items_l, items_t, st_vals, KComp2_, w_Comp2, n_mulA, t_mulA1, t_mulA, l_repC, KOrT_, w_OrT, truO_n, truO_0, truO_i, KUnpL_, w_UnpL, unpLO_2, unpLO_3, KItE_, w_ItE, itEO_l, itEO_t, itZO_l, itZO_t, KItZ_, w_ItZ, enumD_map, zipD_map, cT1, cT2, cT3, KCallT2_, KCallT_, w_CallT, ev_oNeg, i_strS, b_sortP, b_is, b_nis, KIs_, w_Is, isLO_l, t_ix3, t_ix4, ba1, ba2, ba3, ba4, t_rev, KExt_, KExt0_, w_Ext, w_extR, w_ext1, KTru_, w_Tru, truT_, truD_l, truD_t, g_get, isLO_d, KDComp_, w_DComp, e3]
    have : w = 0 ∨ w = 1 ∨ w = 2 := by omega
    rcases this with rfl | rfl | rfl
    · simp -implicitDefEqProofs (disch := (first | omega | (simp only [List.length_map, List.length_append, List.length_range, List.length_cons, List.length_nil, List.length_set, List.length_take, List.length_drop, List.length_replicate, List.length_reverse] <;> omega) | assumption)) only [w_Seq, w_seqN, w_seqR, w_seqC, w_seqB, w_seqX, iteF_t, iteF_f, iteO_t, iteO_f, KoB_, KtB_, sg0_, sgS_, w_var, vr_v, vr_o, w_rdS, rdO_v, rdO_o, w_stb, stO1_v, stO1_o, ob_s, w_isOwn, isOwnO_o, K1_, K1_x, w_1, K2b_, K2b_x, K2_, K2_x, w_2, Kc2_, Kc2_x, Kc_, Kc_x, w_cons, KB_, KB_x, w_B, Ktup_, Ktup_x, w_tup, Klst_, Klst_x, w_lst, KT_, KT_x, w_T, KtAnd_, KtAnd_x, w_tAnd, KtOr_, KtOr_x, w_tOr, KtNot_, KtNot_x, w_tNot, KAnd_, KAnd_x, w_And, KOr_, KOr_x, w_Or, KNot_, KNot_x, w_Not, KIte_, KIte_x, w_Ite, Kch4_, Kch4_x, Kch3f_, Kch3_, Kch3_x, Kch2_, Kch2_x, Kch_, Kch_x, w_ch, partO_i, KPart_, KPart_x, w_Part, slO_, KSl3_, KSl3_x, KSl2_, KSl2_x, KSl_, KSl_x, w_Sl, KDo_, KDo_x, w_Do, KRet_, KRet_x, w_Ret, KIf_, KIf_x, w_If, putK_, w_putl, KSet_, KSet_x, w_Set, KAug_, KAug_x, w_Aug, augO_i, unpO_2, unpO_3, w_tg2, w_tg3, KUnp_, KUnp_x, w_Unp, chgK_, w_chg, chgO_o, appK_, w_appR, w_app1, KApp_, KApp_x, KApp0_, w_App, stIK_, w_stIR, stIO_i, w_put1, KStI2_, KStI2_x, KStI1_, KStI_, KStI_x, w_StI, KIt_, KIt_x, w_It, KRng1_, KRng1_x, w_Rng1, KRng2_, KRng2_x, w_Rng2, it2O_, it1O_, KIt2_, KIt2_x, w_It2, KIt1_, KIt1_x, w_It1, KFor_, KFor_x, w_For, KComp_, KComp_x, w_Comp, KCall_, KCall_x, w_Call, KCallI_, KCallI_x, KCallI0_, w_CallI, w_mkTup, w_mkLst, rdsK2_, rdsK_, w_rds, stbsK2_, stbsK_, w_stbs, cP0, cP1, cP2, cP3, cP4, cP5, cP6, cP7, cIO_o, cI1, cI2, cI3, cI4, cI5, cI6, cI7, w_stOt, stOO_o, w_retFl, retO_v, retO_o, w_finR, w_finN, finO_s, w_runF, rp0, rpS, asE_x, stF_x, finX_s, w_finX, ev_c, ev_fin, ev_fin0, ev_o1, ev_o2, ev_rdv, ev_rdn, ev_rdl, ev_nil, ev_stlv, ev_stln, ev_stll, ev_rds0, ev_stbv, ev_stbn, ev_stbs0, ev_asB, ev_NoPart, ev_Nx, ev_putv, ev_putn, ev_ofO, ev_itL, ev_itT, ev_tgN, ev_for0, ev_wipeD0, ev_wipeD, ev_restD0, ev_restD, ev_endC, ev_Yes, ev_asEv, ev_asEn, ev_stFv, ev_stFn, ev_mkAf, ev_mkAt, ev_stOf, ev_retFv, ev_retFn, ev_vI, ev_vB, ev_oSlL, ev_oSlT, ev_oRevL, ev_bListL, ev_bListT, ev_bTupL, ev_bTupT, ev_isNone0, ev_isNoneI, ev_isNoneL, ev_isNoneT, ev_isNoneB, ev_isNoneS, n_add, n_sub, n_mul, n_mod, n_div, n_shl1, n_shl, n_shr, n_pow, n_and, n_or, n_xor, n_lt, n_le, n_gt, n_ge, n_eq, n_ne, bt1, bt0, d_ltT, d_ltF, d_leT, d_leF, d_eqT, d_eqF, c_eq, c_ne, c_eqc, c_nec, c_isN, l_ix, t_ix, l_ix0, l_ix1, l_ix2, l_ix3, l_ix4, l_ix5, t_ix0, t_ix1, t_ix2, l_len, t_len, cut_to, cut_from, l_addL, t_addT, w_rng1, w_rng2, n_max2, n_min2, n_sum, b_all, b_any, b_all0, b_intB, b_intN, i_intI, i_boolI, i_intB, i_boolB, i_tupT, i_lstL, i_tupL, i_lstT, i_intT, i_intL, i_tupI, i_lstI, i_intN, i_tupN, i_lstN, i_intS, i_tupS, i_lstS, i_tupB, i_lstB, r_isN, r_notN, wp_nx, wp_ret, wl_nx, wl_cnt, wl_brk, wl_ret, List.map_cons, List.map_nil, List.cons_append, List.nil_append, List.set_cons_zero, List.set_cons_succ, List.length_cons, List.length_nil, List.length_map, List.length_append, List.length_range, List.length_range', List.length_set, Bool.not_true, Bool.not_false, Bool.true_and, Bool.false_and, Bool.and_true, Bool.and_false, decide_true, decide_false, Nat.reduceSub, Nat.reduceAdd, Option.getD_some, vo_v, no_v, Nat.one_mul, l_eq, l_ne, t_eq, t_eqc, l_eq0, l_ne0, z_eq0, z_ne0, lc_ne0, lc_eq0, n_inL, n_inT, n_niL, n_niT, n_inC, if_true, if_false, Option.isNone_none, Option.isNone_some, n_augA, n_augS, List.append_nil, n_tr, n_lr, KStar2_, KStarO_, KStar_, w_Star, items_l, items_t, st_vals, KComp2_, w_Comp2, n_mulA, t_mulA1, t_mulA, l_repC, KOrT_, w_OrT, truO_n, truO_0, truO_i, KUnpL_, w_UnpL, unpLO_2, unpLO_3, KItE_, w_ItE, itEO_l, itEO_t, itZO_l, itZO_t, KItZ_, w_ItZ, enumD_map, zipD_map, cT1, cT2, cT3, KCallT2_, KCallT_, w_CallT, ev_oNeg, i_strS, b_sortP, b_is, b_nis, KIs_, w_Is, isLO_l, t_ix3, t_ix4, ba1, ba2, ba3, ba4, t_rev, KExt_, KExt0_, w_Ext, w_extR, w_ext1, KTru_, w_Tru, truT_, truD_l, truD_t, g_get, isLO_d, KDComp_, w_DComp]
      exact fin _ _ _ g3 (.inr ⟨c, uc, rfl⟩)
    · obtain ⟨b, s4, e4, u4, g4⟩ := take_nat g3 (m := 2) (by decide) (by decide)
      simp -implicitDefEqProofs (disch := (first | omega | (simp only [List.length_map, List.length_append, List.length_range, List.length_cons, List.length_nil, List.length_set, List.length_take, List.length_drop, List.length_replicate, List.length_reverse] <;> omega) | assumption)) only [w_Seq, w_seqN, w_seqR, w_seqC, w_seqB, w_seqX, iteF_t, iteF_f, iteO_t, iteO_f, KoB_, KtB_, sg0_, sgS_, w_var, vr_v, vr_o, w_rdS, rdO_v, rdO_o, w_stb, stO1_v, stO1_o, ob_s, w_isOwn, isOwnO_o, K1_, K1_x, w_1, K2b_, K2b_x, K2_, K2_x, w_2, Kc2_, Kc2_x, Kc_, Kc_x, w_cons, KB_, KB_x, w_B, Ktup_, Ktup_x, w_tup, Klst_, Klst_x, w_lst, KT_, KT_x, w_T, KtAnd_, KtAnd_x, w_tAnd, KtOr_, KtOr_x, w_tOr, KtNot_, KtNot_x, w_tNot, KAnd_, KAnd_x, w_And, KOr_, KOr_x, w_Or, KNot_, KNot_x, w_Not, KIte_, KIte_x, w_Ite, Kch4_, Kch4_x, Kch3f_, Kch3_, Kch3_x, Kch2_, Kch2_x, Kch_, Kch_x, w_ch, partO_i, KPart_, KPart_x, w_Part, slO_, KSl3_, KSl3_x, KSl2_, KSl2_x, KSl_, KSl_x, w_Sl, KDo_, KDo_x, w_Do, KRet_, KRet_x, w_Ret, KIf_, KIf_x, w_If, putK_, w_putl, KSet_, KSet_x, w_Set, KAug_, KAug_x, w_Aug, augO_i, unpO_2, unpO_3, w_tg2, w_tg3, KUnp_, KUnp_x, w_Unp, chgK_, w_chg, chgO_o, appK_, w_appR, w_app1, KApp_, KApp_x, KApp0_, w_App, stIK_, w_stIR, stIO_i, w_put1, KStI2_, KStI2_x, KStI1_, KStI_, KStI_x, w_StI, KIt_, KIt_x, w_It, KRng1_, KRng1_x, w_Rng1, KRng2_, KRng2_x, w_Rng2, it2O_, it1O_, KIt2_, KIt2_x, w_It2, KIt1_, KIt1_x, w_It1, KFor_, KFor_x, w_For, KComp_, KComp_x, w_Comp, KCall_, KCall_x, w_Call, KCallI_, KCallI_x, KCallI0_, w_CallI, w_mkTup, w_mkLst, rdsK2_, rdsK_, w_rds, stbsK2_, stbsK_, w_stbs, cP0, cP1, cP2, cP3, cP4, cP5, cP6, cP7, cIO_o, cI1, cI2, cI3, cI4, cI5, cI6, cI7, w_stOt, stOO_o, w_retFl, retO_v, retO_o, w_finR, w_finN, finO_s, w_runF, rp0, rpS, asE_x, stF_x, finX_s, w_finX, ev_c, ev_fin, ev_fin0, ev_o1, ev_o2, ev_rdv, ev_rdn, ev_rdl, ev_nil, ev_stlv, ev_stln, ev_stll, ev_rds0, ev_stbv, ev_stbn, ev_stbs0, ev_asB, ev_NoPart, ev_Nx, ev_putv, ev_putn, ev_ofO, ev_itL, ev_itT, ev_tgN, ev_for0, ev_wipeD0, ev_wipeD, ev_restD0, ev_restD, ev_endC, ev_Yes, ev_asEv, ev_asEn, ev_stFv, ev_stFn, ev_mkAf, ev_mkAt, ev_stOf, ev_retFv, ev_retFn, ev_vI, ev_vB, ev_oSlL, ev_oSlT, ev_oRevL, ev_bListL, ev_bListT, ev_bTupL, ev_bTupT, ev_isNone0, ev_isNoneI, ev_isNoneL, ev_isNoneT, ev_isNoneB, ev_isNoneS, n_add, n_sub, n_mul, n_mod, n_div, n_shl1, n_shl, n_shr, n_pow, n_and, n_or, n_xor, n_lt, n_le, n_gt, n_ge, n_eq, n_ne, bt1, bt0, d_ltT, d_ltF, d_leT, d_leF, d_eqT, d_eqF, c_eq, c_ne, c_eqc, c_nec, c_isN, l_ix, t_ix, l_ix0, l_ix1, l_ix2, l_ix3, l_ix4, l_ix5, t_ix0, t_ix1, t_ix2, l_len, t_len, cut_to, cut_from, l_addL, t_addT, w_rng1, w_rng2, n_max2, n_min2, n_sum, b_all, b_any, b_all0, b_intB, b_intN, i_intI, i_boolI, i_intB, i_boolB, i_tupT, i_lstL, i_tupL, i_lstT, i_intT, i_intL, i_tupI, i_lstI, i_intN, i_tupN, i_lstN, i_intS, i_tupS, i_lstS, i_tupB, i_lstB, r_isN, r_notN, wp_nx, wp_ret, wl_nx, wl_cnt, wl_brk, wl_ret, List.map_cons, List.map_nil, List.cons_append, List.nil_append, List.set_cons_zero, List.set_cons_succ, List.length_cons, List.length_nil, List.length_map, List.length_append, List.length_range, List.length_range', List.length_set, Bool.not_true, Bool.not_false, Bool.true_and, Bool.false_and, Bool.and_true, Bool.and_false, decide_true, decide_false, Nat.reduceSub, Nat.reduceAdd, Option.getD_some, vo_v, no_v, Nat.one_mul, l_eq, l_ne, t_eq, t_eqc, l_eq0, l_ne0, z_eq0, z_ne0, lc_ne0, lc_eq0, n_inL, n_inT, n_niL, n_niT, n_inC, if_true, if_false, Option.isNone_none, Option.isNone_some, n_augA, n_augS, List.append_nil, n_tr, n_lr, KStar2_, KStarO_, KStar_, w_Star, items_l, items_t, st_vals, KComp2_, w_Comp2, n_mulA, t_mulA1, t_mulA, l_repC, KOrT_, w_OrT, truO_n, truO_0, truO_i, KUnpL_, w_UnpL, unpLO_2, unpLO_3, KItE_, w_ItE, itEO_l, itEO_t, itZO_l, itZO_t, KItZ_, w_ItZ, enumD_map, zipD_map, cT1, cT2, cT3, KCallT2_, KCallT_, w_CallT, ev_oNeg, i_strS, b_sortP, b_is, b_nis, KIs_, w_Is, isLO_l, t_ix3, t_ix4, ba1, ba2, ba3, ba4, t_rev, KExt_, KExt0_, w_Ext, w_extR, w_ext1, KTru_, w_Tru, truT_, truD_l, truD_t, g_get, isLO_d, KDComp_, w_DComp, e4]
      by_cases hb : b = 0
      · simp -implicitDefEqProofs (disch := (first | omega | (simp only [List.length_map, List.length_append, List.length_range, List.length_cons, List.length_nil, List.length_set, List.length_take, List.length_drop, List.length_replicate, List.length_reverse] <;> omega) | assumption)) only [w_Seq, w_seqN, w_seqR, w_seqC, w_seqB, w_seqX, iteF_t, iteF_f, iteO_t, iteO_f, KoB_, KtB_, sg0_, sgS_, w_var, vr_v, vr_o, w_rdS, rdO_v, rdO_o, w_stb, stO1_v, stO1_o, ob_s, w_isOwn, isOwnO_o, K1_, K1_x, w_1, K2b_, K2b_x, K2_, K2_x, w_2, Kc2_, Kc2_x, Kc_, Kc_x, w_cons, KB_, KB_x, w_B, Ktup_, Ktup_x, w_tup, Klst_, Klst_x, w_lst, KT_, KT_x, w_T, KtAnd_, KtAnd_x, w_tAnd, KtOr_, KtOr_x, w_tOr, KtNot_, KtNot_x, w_tNot, KAnd_, KAnd_x, w_And, KOr_, KOr_x, w_Or, KNot_, KNot_x, w_Not, KIte_, KIte_x, w_Ite, Kch4_, Kch4_x, Kch3f_, Kch3_, Kch3_x, Kch2_, Kch2_x, Kch_, Kch_x, w_ch, partO_i, KPart_, KPart_x, w_Part, slO_, KSl3_, KSl3_x, KSl2_, KSl2_x, KSl_, KSl_x, w_Sl, KDo_, KDo_x, w_Do, KRet_, KRet_x, w_Ret, KIf_, KIf_x, w_If, putK_, w_putl, KSet_, KSet_x, w_Set, KAug_, KAug_x, w_Aug, augO_i, unpO_2, unpO_3, w_tg2, w_tg3, KUnp_, KUnp_x, w_Unp, chgK_, w_chg, chgO_o, appK_, w_appR, w_app1, KApp_, KApp_x, KApp0_, w_App, stIK_, w_stIR, stIO_i, w_put1, KStI2_, KStI2_x, KStI1_, KStI_, KStI_x, w_StI, KIt_, KIt_x, w_It, KRng1_, KRng1_x, w_Rng1, KRng2_, KRng2_x, w_Rng2, it2O_, it1O_, KIt2_, KIt2_x, w_It2, KIt1_, KIt1_x, w_It1, KFor_, KFor_x, w_For, KComp_, KComp_x, w_Comp, KCall_, KCall_x, w_Call, KCallI_, KCallI_x, KCallI0_, w_CallI, w_mkTup, w_mkLst, rdsK2_, rdsK_, w_rds, stbsK2_, stbsK_, w_stbs, cP0, cP1, cP2, cP3, cP4, cP5, cP6, cP7, cIO_o, cI1, cI2, cI3, cI4, cI5, cI6, cI7, w_stOt, stOO_o, w_retFl, retO_v, retO_o, w_finR, w_finN, finO_s, w_runF, rp0, rpS, asE_x, stF_x, finX_s, w_finX, ev_c, ev_fin, ev_fin0, ev_o1, ev_o2, ev_rdv, ev_rdn, ev_rdl, ev_nil, ev_stlv, ev_stln, ev_stll, ev_rds0, ev_stbv, ev_stbn, ev_stbs0, ev_asB, ev_NoPart, ev_Nx, ev_putv, ev_putn, ev_ofO, ev_itL, ev_itT, ev_tgN, ev_for0, ev_wipeD0, ev_wipeD, ev_restD0, ev_restD, ev_endC, ev_Yes, ev_asEv, ev_asEn, ev_stFv, ev_stFn, ev_mkAf, ev_mkAt, ev_stOf, ev_retFv, ev_retFn, ev_vI, ev_vB, ev_oSlL, ev_oSlT, ev_oRevL, ev_bListL, ev_bListT, ev_bTupL, ev_bTupT, ev_isNone0, ev_isNoneI, ev_isNoneL, ev_isNoneT, ev_isNoneB, ev_isNoneS, n_add, n_sub, n_mul, n_mod, n_div, n_shl1, n_shl, n_shr, n_pow, n_and, n_or, n_xor, n_lt, n_le, n_gt, n_ge, n_eq, n_ne, bt1, bt0, d_ltT, d_ltF, d_leT, d_leF, d_eqT, d_eqF, c_eq, c_ne, c_eqc, c_nec, c_isN, l_ix, t_ix, l_ix0, l_ix1, l_ix2, l_ix3, l_ix4, l_ix5, t_ix0, t_ix1, t_ix2, l_len, t_len, cut_to, cut_from, l_addL, t_addT, w_rng1, w_rng2, n_max2, n_min2, n_sum, b_all, b_any, b_all0, b_intB, b_intN, i_intI, i_boolI, i_intB, i_boolB, i_tupT, i_lstL, i_tupL, i_lstT, i_intT, i_intL, i_tupI, i_lstI, i_intN, i_tupN, i_lstN, i_intS, i_tupS, i_lstS, i_tupB, i_lstB, r_isN, r_notN, wp_nx, wp_ret, wl_nx, wl_cnt, wl_brk, wl_ret, List.map_cons, List.map_nil, List.cons_append, List.nil_append, List.set_cons_zero, List.set_cons_succ, List.length_cons, List.length_nil, List.length_map, List.length_append, List.length_range, List.length_range', List.length_set, Bool.not_true, Bool.not_false, Bool.true_and, Bool.false_and, Bool.and_true, Bool.and_false, decide_true, decide_false, Nat.reduceSub, Nat.reduceAdd, Option.getD_some, vo_v, no_v, Nat.one_mul, l_eq, l_ne, t_eq, t_eqc, l_eq0, l_ne0, z_eq0, z_ne0, lc_ne0, lc_eq0, n_inL, n_inT, n_niL, n_niT, n_inC, if_true, if_false, Option.isNone_none, Option.isNone_some, n_augA, n_augS, List.append_nil, n_tr, n_lr, KStar2_, KStarO_, KStar_, w_Star, items_l, items_t, st_vals, KComp2_, w_Comp2, n_mulA, t_mulA1, t_mulA, l_repC, KOrT_, w_OrT, truO_n, truO_0, truO_i, KUnpL_, w_UnpL, unpLO_2, unpLO_3, KItE_, w_ItE, itEO_l, itEO_t, itZO_l, itZO_t, KItZ_, w_ItZ, enumD_map, zipD_map, cT1, cT2, cT3, KCallT2_, KCallT_, w_CallT, ev_oNeg, i_strS, b_sortP, b_is, b_nis, KIs_, w_Is, isLO_l, t_ix3, t_ix4, ba1, ba2, ba3, ba4, t_rev, KExt_, KExt0_, w_Ext, w_extR, w_ext1, KTru_, w_Tru, truT_, truD_l, truD_t, g_get, isLO_d, KDComp_, w_DComp]
        exact fin _ _ _ g4 (.inl rfl)
      · simp -implicitDefEqProofs (disch := (first | omega | (simp only [List.length_map, List.length_append, List.length_range, List.length_cons, List.length_nil, List.length_set, List.length_take, List.length_drop, List.length_replicate, List.length_reverse] <;> omega) | assumption)) only [w_Seq, w_seqN, w_seqR, w_seqC, w_seqB, w_seqX, iteF_t, iteF_f, iteO_t, iteO_f, KoB_, KtB_, sg0_, sgS_, w_var, vr_v, vr_o, w_rdS, rdO_v, rdO_o, w_stb, stO1_v, stO1_o, ob_s, w_isOwn, isOwnO_o, K1_, K1_x, w_1, K2b_, K2b_x, K2_, K2_x, w_2, Kc2_, Kc2_x, Kc_, Kc_x, w_cons, KB_, KB_x, w_B, Ktup_, Ktup_x, w_tup, Klst_, Klst_x, w_lst, KT_, KT_x, w_T, KtAnd_, KtAnd_x, w_tAnd, KtOr_, KtOr_x, w_tOr, KtNot_, KtNot_x, w_tNot, KAnd_, KAnd_x, w_And, KOr_, KOr_x, w_Or, KNot_, KNot_x, w_Not, KIte_, KIte_x, w_Ite, Kch4_, Kch4_x, Kch3f_, Kch3_, Kch3_x, Kch2_, Kch2_x, Kch_, Kch_x, w_ch, partO_i, KPart_, KPart_x, w_Part, slO_, KSl3_, KSl3_x, KSl2_, KSl2_x, KSl_, KSl_x, w_Sl, KDo_, KDo_x, w_Do, KRet_, KRet_x, w_Ret, KIf_, KIf_x, w_If, putK_, w_putl, KSet_, KSet_x, w_Set, KAug_, KAug_x, w_Aug, augO_i, unpO_2, unpO_3, w_tg2, w_tg3, KUnp_, KUnp_x, w_Unp, chgK_, w_chg, chgO_o, appK_, w_appR, w_app1, KApp_, KApp_x, KApp0_, w_App, stIK_, w_stIR, stIO_i, w_put1, KStI2_, KStI2_x, KStI1_, KStI_, KStI_x, w_StI, KIt_, KIt_x, w_It, KRng1_, KRng1_x, w_Rng1, KRng2_, KRng2_x, w_Rng2, it2O_, it1O_, KIt2_, KIt2_x, w_It2, KIt1_, KIt1_x, w_It1, KFor_, KFor_x, w_For, KComp_, KComp_x, w_Comp, KCall_, KCall_x, w_Call, KCallI_, KCallI_x, KCallI0_, w_CallI, w_mkTup, w_mkLst, rdsK2_, rdsK_, w_rds, stbsK2_, stbsK_, w_stbs, cP0, cP1, cP2, cP3, cP4, cP5, cP6, cP7, cIO_o, cI1, cI2, cI3, cI4, cI5, cI6, cI7, w_stOt, stOO_o, w_retFl, retO_v, retO_o, w_finR, w_finN, finO_s, w_runF, rp0, rpS, asE_x, stF_x, finX_s, w_finX, ev_c, ev_fin, ev_fin0, ev_o1, ev_o2, ev_rdv, ev_rdn, ev_rdl, ev_nil, ev_stlv, ev_stln, ev_stll, ev_rds0, ev_stbv, ev_stbn, ev_stbs0, ev_asB, ev_NoPart, ev_Nx, ev_putv, ev_putn, ev_ofO, ev_itL, ev_itT, ev_tgN, ev_for0, ev_wipeD0, ev_wipeD, ev_restD0, ev_restD, ev_endC, ev_Yes, ev_asEv, ev_asEn, ev_stFv, ev_stFn, ev_mkAf, ev_mkAt, ev_stOf, ev_retFv, ev_retFn, ev_vI, ev_vB, ev_oSlL, ev_oSlT, ev_oRevL, ev_bListL, ev_bListT, ev_bTupL, ev_bTupT, ev_isNone0, ev_isNoneI, ev_isNoneL, ev_isNoneT, ev_isNoneB, ev_isNoneS, n_add, n_sub, n_mul, n_mod, n_div, n_shl1, n_shl, n_shr, n_pow, n_and, n_or, n_xor, n_lt, n_le, n_gt, n_ge, n_eq, n_ne, bt1, bt0, d_ltT, d_ltF, d_leT, d_leF, d_eqT, d_eqF, c_eq, c_ne, c_eqc, c_nec, c_isN, l_ix, t_ix, l_ix0, l_ix1, l_ix2, l_ix3, l_ix4, l_ix5, t_ix0, t_ix1, t_ix2, l_len, t_len, cut_to, cut_from, l_addL, t_addT, w_rng1, w_rng2, n_max2, n_min2, n_sum, b_all, b_any, b_all0, b_intB, b_intN, i_intI, i_boolI, i_intB, i_boolB, i_tupT, i_lstL, i_tupL, i_lstT, i_intT, i_intL, i_tupI, i_lstI, i_intN, i_tupN, i_lstN, i_intS, i_tupS, i_lstS, i_tupB, i_lstB, r_isN, r_notN, wp_nx, wp_ret, wl_nx, wl_cnt, wl_brk, wl_ret, List.map_cons, List.map_nil, List.cons_append, List.nil_append, List.set_cons_zero, List.set_cons_succ, List.length_cons, List.length_nil, List.length_map, List.length_append, List.length_range, List.length_range', List.length_set, Bool.not_true, Bool.not_false, Bool.true_and, Bool.false_and, Bool.and_true, Bool.and_false, decide_true, decide_false, Nat.reduceSub, Nat.reduceAdd, Option.getD_some, vo_v, no_v, Nat.one_mul, l_eq, l_ne, t_eq, t_eqc, l_eq0, l_ne0, z_eq0, z_ne0, lc_ne0, lc_eq0, n_inL, n_inT, n_niL, n_niT, n_inC, if_true, if_false, Option.isNone_none, Option.isNone_some, n_augA, n_augS, List.append_nil, n_tr, n_lr, KStar2_, KStarO_, KStar_, w_Star, items_l, items_t, st_vals, KComp2_, w_Comp2, n_mulA, t_mulA1, t_mulA, l_repC, KOrT_, w_OrT, truO_n, truO_0, truO_i, KUnpL_, w_UnpL, unpLO_2, unpLO_3, KItE_, w_ItE, itEO_l, itEO_t, itZO_l, itZO_t, KItZ_, w_ItZ, enumD_map, zipD_map, cT1, cT2, cT3, KCallT2_, KCallT_, w_CallT, ev_oNeg, i_strS, b_sortP, b_is, b_nis, KIs_, w_Is, isLO_l, t_ix3, t_ix4, ba1, ba2, ba3, ba4, t_rev, KExt_, KExt0_, w_Ext, w_extR, w_ext1, KTru_, w_Tru, truT_, truD_l, truD_t, g_get, isLO_d, KDComp_, w_DComp]
        exact fin _ _ _ g4 (.inr ⟨c, uc, rfl⟩)
    · simp -implicitDefEqProofs (disch := (first | omega | (simp only [List.length_map, List.length_append, List.length_range, List.length_cons, List.length_nil, List.length_set, List.length_take, List.length_drop, List.length_replicate, List.length_reverse] <;> omega) | assumption)) only [w_Seq, w_seqN, w_seqR, w_seqC, w_seqB, w_seqX, iteF_t, iteF_f, iteO_t, iteO_f, KoB_, KtB_, sg0_, sgS_, w_var, vr_v, vr_o, w_rdS, rdO_v, rdO_o, w_stb, stO1_v, stO1_o, ob_s, w_isOwn, isOwnO_o, K1_, K1_x, w_1, K2b_, K2b_x, K2_, K2_x, w_2, Kc2_, Kc2_x, Kc_, Kc_x, w_cons, KB_, KB_x, w_B, Ktup_, Ktup_x, w_tup, Klst_, Klst_x, w_lst, KT_, KT_x, w_T, KtAnd_, KtAnd_x, w_tAnd, KtOr_, KtOr_x, w_tOr, KtNot_, KtNot_x, w_tNot, KAnd_, KAnd_x, w_And, KOr_, KOr_x, w_Or, KNot_, KNot_x, w_Not, KIte_, KIte_x, w_Ite, Kch4_, Kch4_x, Kch3f_, Kch3_, Kch3_x, Kch2_, Kch2_x, Kch_, Kch_x, w_ch, partO_i, KPart_, KPart_x, w_Part, slO_, KSl3_, KSl3_x, KSl2_, KSl2_x, KSl_, KSl_x, w_Sl, KDo_, KDo_x, w_Do, KRet_, KRet_x, w_Ret, KIf_, KIf_x, w_If, putK_, w_putl, KSet_, KSet_x, w_Set, KAug_, KAug_x, w_Aug, augO_i, unpO_2, unpO_3, w_tg2, w_tg3, KUnp_, KUnp_x, w_Unp, chgK_, w_chg, chgO_o, appK_, w_appR, w_app1, KApp_, KApp_x, KApp0_, w_App, stIK_, w_stIR, stIO_i, w_put1, KStI2_, KStI2_x, KStI1_, KStI_, KStI_x, w_StI, KIt_, KIt_x, w_It, KRng1_, KRng1_x, w_Rng1, KRng2_, KRng2_x, w_Rng2, it2O_, it1O_, KIt2_, KIt2_x, w_It2, KIt1_, KIt1_x, w_It1, KFor_, KFor_x, w_For, KComp_, KComp_x, w_Comp, KCall_, KCall_x, w_Call, KCallI_, KCallI_x, KCallI0_, w_CallI, w_mkTup, w_mkLst, rdsK2_, rdsK_, w_rds, stbsK2_, stbsK_, w_stbs, cP0, cP1, cP2, cP3, cP4, cP5, cP6, cP7, cIO_o, cI1, cI2, cI3, cI4, cI5, cI6, cI7, w_stOt, stOO_o, w_retFl, retO_v, retO_o, w_finR, w_finN, finO_s, w_runF, rp0, rpS, asE_x, stF_x, finX_s, w_finX, ev_c, ev_fin, ev_fin0, ev_o1, ev_o2, ev_rdv, ev_rdn, ev_rdl, ev_nil, ev_stlv, ev_stln, ev_stll, ev_rds0, ev_stbv, ev_stbn, ev_stbs0, ev_asB, ev_NoPart, ev_Nx, ev_putv, ev_putn, ev_ofO, ev_itL, ev_itT, ev_tgN, ev_for0, ev_wipeD0, ev_wipeD, ev_restD0, ev_restD, ev_endC, ev_Yes, ev_asEv, ev_asEn, ev_stFv, ev_stFn, ev_mkAf, ev_mkAt, ev_stOf, ev_retFv, ev_retFn, ev_vI, ev_vB, ev_oSlL, ev_oSlT, ev_oRevL, ev_bListL, ev_bListT, ev_bTupL, ev_bTupT, ev_isNone0, ev_isNoneI, ev_isNoneL, ev_isNoneT, ev_isNoneB, ev_isNoneS, n_add, n_sub, n_mul, n_mod, n_div, n_shl1, n_shl, n_shr, n_pow, n_and, n_or, n_xor, n_lt, n_le, n_gt, n_ge, n_eq, n_ne, bt1, bt0, d_ltT, d_ltF, d_leT, d_leF, d_eqT, d_eqF, c_eq, c_ne, c_eqc, c_nec, c_isN, l_ix, t_ix, l_ix0, l_ix1, l_ix2, l_ix3, l_ix4, l_ix5, t_ix0, t_ix1, t_ix2, l_len, t_len, cut_to, cut_from, l_addL, t_addT, w_rng1, w_rng2, n_max2, n_min2, n_sum, b_all, b_any, b_all0, b_intB, b_intN, i_intI, i_boolI, i_intB, i_boolB, i_tupT, i_lstL, i_tupL, i_lstT, i_intT, i_intL, i_tupI, i_lstI, i_intN, i_tupN, i_lstN, i_intS, i_tupS, i_lstS, i_tupB, i_lstB, r_isN, r_notN, wp_nx, wp_ret, wl_nx, wl_cnt, wl_brk, wl_ret, List.map_cons, List.map_nil, List.cons_append, List.nil_append, List.set_cons_zero, List.set_cons_succ, List.length_cons, List.length_nil, List.length_map, List.length_append, List.length_range, List.length_range', List.length_set, Bool.not_true, Bool.not_false, Bool.true_and, Bool.false_and, Bool.and_true, Bool.and_false, decide_true, decide_false, Nat.reduceSub, Nat.reduceAdd, Option.getD_some, vo_v, no_v, Nat.one_mul, l_eq, l_ne, t_eq, t_eqc, l_eq0, l_ne0, z_eq0, z_ne0, lc_ne0, lc_eq0, n_inL, n_inT, n_niL, n_niT, n_inC, if_true, if_false, Option.isNone_none, Option.isNone_some, n_augA, n_augS, List.append_nil, n_tr, n_lr, KStar2_, KStarO_, KStar_, w_Star, items_l, items_t, st_vals, KComp2_, w_Comp2, n_mulA, t_mulA1, t_mulA, l_repC, KOrT_, w_OrT, truO_n, truO_0, truO_i, KUnpL_, w_UnpL, unpLO_2, unpLO_3, KItE_, w_ItE, itEO_l, itEO_t, itZO_l, itZO_t, KItZ_, w_ItZ, enumD_map, zipD_map, cT1, cT2, cT3, KCallT2_, KCallT_, w_CallT, ev_oNeg, i_strS, b_sortP, b_is, b_nis, KIs_, w_Is, isLO_l, t_ix3, t_ix4, ba1, ba2, ba3, ba4, t_rev, KExt_, KExt0_, w_Ext, w_extR, w_ext1, KTru_, w_Tru, truT_, truD_l, truD_t, g_get, isLO_d, KDComp_, w_DComp]
      rw [cmp (fun s => i.testBit s) (fun s => ws[s]!) nI]
      · simp -implicitDefEqProofs (disch := (first | omega | (simp only [List.length_map, List.length_append, List.length_range, List.length_cons, List.length_nil, List.length_set, List.length_take, List.length_drop, List.length_replicate, List.length_reverse] <;> omega) | assumption)) only [w_Seq, w_seqN, w_seqR, w_seqC, w_seqB, w_seqX, iteF_t, iteF_f, iteO_t, iteO_f, KoB_, KtB_, sg0_, sgS_, w_var, vr_v, vr_o, w_rdS, rdO_v, rdO_o, w_stb, stO1_v, stO1_o, ob_s, w_isOwn, isOwnO_o, K1_, K1_x, w_1, K2b_, K2b_x, K2_, K2_x, w_2, Kc2_, Kc2_x, Kc_, Kc_x, w_cons, KB_, KB_x, w_B, Ktup_, Ktup_x, w_tup, Klst_, Klst_x, w_lst, KT_, KT_x, w_T, KtAnd_, KtAnd_x, w_tAnd, KtOr_, KtOr_x, w_tOr, KtNot_, KtNot_x, w_tNot, KAnd_, KAnd_x, w_And, KOr_, KOr_x, w_Or, KNot_, KNot_x, w_Not, KIte_, KIte_x, w_Ite, Kch4_, Kch4_x, Kch3f_, Kch3_, Kch3_x, Kch2_, Kch2_x, Kch_, Kch_x, w_ch, partO_i, KPart_, KPart_x, w_Part, slO_, KSl3_, KSl3_x, KSl2_, KSl2_x, KSl_, KSl_x, w_Sl, KDo_, KDo_x, w_Do, KRet_, KRet_x, w_Ret, KIf_, KIf_x, w_If, putK_, w_putl, KSet_, KSet_x, w_Set, KAug_, KAug_x, w_Aug, augO_i, unpO_2, unpO_3, w_tg2, w_tg3, KUnp_, KUnp_x, w_Unp, chgK_, w_chg, chgO_o, appK_, w_appR, w_app1, KApp_, KApp_x, KApp0_, w_App, stIK_, w_stIR, stIO_i, w_put1, KStI2_, KStI2_x, KStI1_, KStI_, KStI_x, w_StI, KIt_, KIt_x, w_It, KRng1_, KRng1_x, w_Rng1, KRng2_, KRng2_x, w_Rng2, it2O_, it1O_, KIt2_, KIt2_x, w_It2, KIt1_, KIt1_x, w_It1, KFor_, KFor_x, w_For, KComp_, KComp_x, w_Comp, KCall_, KCall_x, w_Call, KCallI_, KCallI_x, KCallI0_, w_CallI, w_mkTup, w_mkLst, rdsK2_, rdsK_, w_rds, stbsK2_, stbsK_, w_stbs, cP0, cP1, cP2, cP3, cP4, cP5, cP6, cP7, cIO_o, cI1, cI2, cI3, cI4, cI5, cI6, cI7, w_stOt, stOO_o, w_retFl, retO_v, retO_o, w_finR, w_finN, finO_s, w_runF, rp0, rpS, asE_x, stF_x, finX_s, w_finX, ev_c, ev_fin, ev_fin0, ev_o1, ev_o2, ev_rdv, ev_rdn, ev_rdl, ev_nil, ev_stlv, ev_stln, ev_stll, ev_rds0, ev_stbv, ev_stbn, ev_stbs0, ev_asB, ev_NoPart, ev_Nx, ev_putv, ev_putn, ev_ofO, ev_itL, ev_itT, ev_tgN, ev_for0, ev_wipeD0, ev_wipeD, ev_restD0, ev_restD, ev_endC, ev_Yes, ev_asEv, ev_asEn, ev_stFv, ev_stFn, ev_mkAf, ev_mkAt, ev_stOf, ev_retFv, ev_retFn, ev_vI, ev_vB, ev_oSlL, ev_oSlT, ev_oRevL, ev_bListL, ev_bListT, ev_bTupL, ev_bTupT, ev_isNone0, ev_isNoneI, ev_isNoneL, ev_isNoneT, ev_isNoneB, ev_isNoneS, n_add, n_sub, n_mul, n_mod, n_div, n_shl1, n_shl, n_shr, n_pow, n_and, n_or, n_xor, n_lt, n_le, n_gt, n_ge, n_eq, n_ne, bt1, bt0, d_ltT, d_ltF, d_leT, d_leF, d_eqT, d_eqF, c_eq, c_ne, c_eqc, c_nec, c_isN, l_ix, t_ix, l_ix0, l_ix1, l_ix2, l_ix3, l_ix4, l_ix5, t_ix0, t_ix1, t_ix2, l_len, t_len, cut_to, cut_from, l_addL, t_addT, w_rng1, w_rng2, n_max2, n_min2, n_sum, b_all, b_any, b_all0, b_intB, b_intN, i_intI, i_boolI, i_intB, i_boolB, i_tupT, i_lstL, i_tupL, i_lstT, i_intT, i_intL, i_tupI, i_lstI, i_intN, i_tupN, i_lstN, i_intS, i_tupS, i_lstS, i_tupB, i_lstB, r_isN, r_notN, wp_nx, wp_ret, wl_nx, wl_cnt, wl_brk, wl_ret, List.map_cons, List.map_nil, List.cons_append, List.nil_append, List.set_cons_zero, List.set_cons_succ, List.length_cons, List.length_nil, List.length_map, List.length_append, List.length_range, List.length_range', List.length_set, Bool.not_true, Bool.not_false, Bool.true_and, Bool.false_and, Bool.and_true, Bool.and_false, decide_true, decide_false, Nat.reduceSub, Nat.reduceAdd, Option.getD_some, vo_v, no_v, Nat.one_mul, l_eq, l_ne, t_eq, t_eqc, l_eq0, l_ne0, z_eq0, z_ne0, lc_ne0, lc_eq0, n_inL, n_inT, n_niL, n_niT, n_inC, if_true, if_false, Option.isNone_none, Option.isNone_some, n_augA, n_augS, List.append_nil, n_tr, n_lr, KStar2_, KStarO_, KStar_, w_Star, items_l, items_t, st_vals, KComp2_, w_Comp2, n_mulA, t_mulA1, t_mulA, l_repC, KOrT_, w_OrT, truO_n, truO_0, truO_i, KUnpL_, w_UnpL, unpLO_2, unpLO_3, KItE_, w_ItE, itEO_l, itEO_t, itZO_l, itZO_t, KItZ_, w_ItZ, enumD_map, zipD_map, cT1, cT2, cT3, KCallT2_, KCallT_, w_CallT, ev_oNeg, i_strS, b_sortP, b_is, b_nis, KIs_, w_Is, isLO_l, t_ix3, t_ix4, ba1, ba2, ba3, ba4, t_rev, KExt_, KExt0_, w_Ext, w_extR, w_ext1, KTru_, w_Tru, truT_, truD_l, truD_t, g_get, isLO_d, KDComp_, w_DComp]
        exact fin _ _ _ g3 (.inr ⟨_, Nat.mod_lt _ hk, rfl⟩)
      · intro s hs
        have hs' := List.mem_range.mp hs
        refine ⟨by simp -implicitDefEqProofs (disch := (first | omega | (simp only [List.length_map, List.length_append, List.length_range, List.length_cons, List.length_nil, List.length_set, List.length_take, List.length_drop, List.length_replicate, List.length_reverse] <;> omega) | assumption)) only [w_Seq, w_seqN, w_seqR, w_seqC, w_seqB, w_seqX, iteF_t, iteF_f, iteO_t, iteO_f, KoB_, KtB_, sg0_, sgS_, w_var, vr_v, vr_o, w_rdS, rdO_v, rdO_o, w_stb, stO1_v, stO1_o, ob_s, w_isOwn, isOwnO_o, K1_, K1_x, w_1, K2b_, K2b_x, K2_, K2_x, w_2, Kc2_, Kc2_x, Kc_, Kc_x, w_cons, KB_, KB_x, w_B, Ktup_, Ktup_x, w_tup, Klst_, Klst_x, w_lst, KT_, KT_x, w_T, KtAnd_, KtAnd_x, w_tAnd, KtOr_, KtOr_x, w_tOr, KtNot_, KtNot_x, w_tNot, KAnd_, KAnd_x, w_And, KOr_, KOr_x, w_Or, KNot_, KNot_x, w_Not, KIte_, KIte_x, w_Ite, Kch4_, Kch4_x, Kch3f_, Kch3_, Kch3_x, Kch2_, Kch2_x, Kch_, Kch_x, w_ch, partO_i, KPart_, KPart_x, w_Part, slO_, KSl3_, KSl3_x, KSl2_, KSl2_x, KSl_, KSl_x, w_Sl, KDo_, KDo_x, w_Do, KRet_, KRet_x, w_Ret, KIf_, KIf_x, w_If, putK_, w_putl, KSet_, KSet_x, w_Set, KAug_, KAug_x, w_Aug, augO_i, unpO_2, unpO_3, w_tg2, w_tg3, KUnp_, KUnp_x, w_Unp, chgK_, w_chg, chgO_o, appK_, w_appR, w_app1, KApp_, KApp_x, KApp0_, w_App, stIK_, w_stIR, stIO_i, w_put1, KStI2_, KStI2_x, KStI1_, KStI_, KStI_x, w_StI, KIt_, KIt_x, w_It, KRng1_, KRng1_x, w_Rng1, KRng2_, KRng2_x, w_Rng2, it2O_, it1O_, KIt2_, KIt2_x, w_It2, KIt1_, KIt1_x, w_It1, KFor_, KFor_x, w_For, KComp_, KComp_x, w_Comp, KCall_, KCall_x, w_Call, KCallI_, KCallI_x, KCallI0_, w_CallI, w_mkTup, w_mkLst, rdsK2_, rdsK_, w_rds, stbsK2_, stbsK_, w_stbs, cP0, cP1, cP2, cP3, cP4, cP5, cP6, cP7, cIO_o, cI1, cI2, cI3, cI4, cI5, cI6, cI7, w_stOt, stOO_o, w_retFl, retO_v, retO_o, w_finR, w_finN, finO_s, w_runF, rp0, rpS, asE_x, stF_x, finX_s, w_finX, ev_c, ev_fin, ev_fin0, ev_o1, ev_o2, ev_rdv, ev_rdn, ev_rdl, ev_nil, ev_stlv, ev_stln, ev_stll, ev_rds0, ev_stbv, ev_stbn, ev_stbs0, ev_asB, ev_NoPart, ev_Nx, ev_putv, ev_putn, ev_ofO, ev_itL, ev_itT, ev_tgN, ev_for0, ev_wipeD0, ev_wipeD, ev_restD0, ev_restD, ev_endC, ev_Yes, ev_asEv, ev_asEn, ev_stFv, ev_stFn, ev_mkAf, ev_mkAt, ev_stOf, ev_retFv, ev_retFn, ev_vI, ev_vB, ev_oSlL, ev_oSlT, ev_oRevL, ev_bListL, ev_bListT, ev_bTupL, ev_bTupT, ev_isNone0, ev_isNoneI, ev_isNoneL, ev_isNoneT, ev_isNoneB, ev_isNoneS, n_add, n_sub, n_mul, n_mod, n_div, n_shl1, n_shl, n_shr, n_pow, n_and, n_or, n_xor, n_lt, n_le, n_gt, n_ge, n_eq, n_ne, bt1, bt0, d_ltT, d_ltF, d_leT, d_leF, d_eqT, d_eqF, c_eq, c_ne, c_eqc, c_nec, c_isN, l_ix, t_ix, l_ix0, l_ix1, l_ix2, l_ix3, l_ix4, l_ix5, t_ix0, t_ix1, t_ix2, l_len, t_len, cut_to, cut_from, l_addL, t_addT, w_rng1, w_rng2, n_max2, n_min2, n_sum, b_all, b_any, b_all0, b_intB, b_intN, i_intI, i_boolI, i_intB, i_boolB, i_tupT, i_lstL, i_tupL, i_lstT, i_intT, i_intL, i_tupI, i_lstI, i_intN, i_tupN, i_lstN, i_intS, i_tupS, i_lstS, i_tupB, i_lstB, r_isN, r_notN, wp_nx, wp_ret, wl_nx, wl_cnt, wl_brk, wl_ret, List.map_cons, List.map_nil, List.cons_append, List.nil_append, List.set_cons_zero, List.set_cons_succ, List.length_cons, List.length_nil, List.length_map, List.length_append, List.length_range, List.length_range', List.length_set, Bool.not_true, Bool.not_false, Bool.true_and, Bool.false_and, Bool.and_true, Bool.and_false, decide_true, decide_false, Nat.reduceSub, Nat.reduceAdd, Option.getD_some, vo_v, no_v, Nat.one_mul, l_eq, l_ne, t_eq, t_eqc, l_eq0, l_ne0, z_eq0, z_ne0, lc_ne0, lc_eq0, n_inL, n_inT, n_niL, n_niT, n_inC, if_true, if_false, Option.isNone_none, Option.isNone_some, n_augA, n_augS, List.append_nil, n_tr, n_lr, KStar2_, KStarO_, KStar_, w_Star, items_l, items_t, st_vals, KComp2_, w_Comp2, n_mulA, t_mulA1, t_mulA, l_repC, KOrT_, w_OrT, truO_n, truO_0, truO_i, KUnpL_, w_UnpL, unpLO_2, unpLO_3, KItE_, w_ItE, itEO_l, itEO_t, itZO_l, itZO_t, KItZ_, w_ItZ, enumD_map, zipD_map, cT1, cT2, cT3, KCallT2_, KCallT_, w_CallT, ev_oNeg, i_strS, b_sortP, b_is, b_nis, KIs_, w_Is, isLO_l, t_ix3, t_ix4, ba1, ba2, ba3, ba4, t_rev, KExt_, KExt0_, w_Ext, w_extR, w_ext1, KTru_, w_Tru, truT_, truD_l, truD_t, g_get, isLO_d, KDComp_, w_DComp], fun _ => ⟨.val (nI ws[s]!), by simp -implicitDefEqProofs (disch := (first | omega | (simp only [List.length_map, List.length_append, List.length_range, List.length_cons, List.length_nil, List.length_set, List.length_take, List.length_drop, List.length_replicate, List.length_reverse] <;> omega) | assumption)) only [w_Seq, w_seqN, w_seqR, w_seqC, w_seqB, w_seqX, iteF_t, iteF_f, iteO_t, iteO_f, KoB_, KtB_, sg0_, sgS_, w_var, vr_v, vr_o, w_rdS, rdO_v, rdO_o, w_stb, stO1_v, stO1_o, ob_s, w_isOwn, isOwnO_o, K1_, K1_x, w_1, K2b_, K2b_x, K2_, K2_x, w_2, Kc2_, Kc2_x, Kc_, Kc_x, w_cons, KB_, KB_x, w_B, Ktup_, Ktup_x, w_tup, Klst_, Klst_x, w_lst, KT_, KT_x, w_T, KtAnd_, KtAnd_x, w_tAnd, KtOr_, KtOr_x, w_tOr, KtNot_, KtNot_x, w_tNot, KAnd_, KAnd_x, w_And, KOr_, KOr_x, w_Or, KNot_, KNot_x, w_Not, KIte_, KIte_x, w_Ite, Kch4_, Kch4_x, Kch3f_, Kch3_, Kch3_x, Kch2_, Kch2_x, Kch_, Kch_x, w_ch, partO_i, KPart_, KPart_x, w_Part, slO_, KSl3_, KSl3_x, KSl2_, KSl2_x, KSl_, KSl_x, w_Sl, KDo_, KDo_x, w_Do, KRet_, KRet_x, w_Ret, KIf_, KIf_x, w_If, putK_, w_putl, KSet_, KSet_x, w_Set, KAug_, KAug_x, w_Aug, augO_i, unpO_2, unpO_3, w_tg2, w_tg3, KUnp_, KUnp_x, w_Unp, chgK_, w_chg, chgO_o, appK_, w_appR, w_app1, KApp_, KApp_x, KApp0_, w_App, stIK_, w_stIR, stIO_i, w_put1, KStI2_, KStI2_x, KStI1_, KStI_, KStI_x, w_StI, KIt_, KIt_x, w_It, KRng1_, KRng1_x, w_Rng1, KRng2_, KRng2_x, w_Rng2, it2O_, it1O_, KIt2_, KIt2_x, w_It2, KIt1_, KIt1_x, w_It1, KFor_, KFor_x, w_For, KComp_, KComp_x, w_Comp, KCall_, KCall_x, w_Call, KCallI_, KCallI_x, KCallI0_, w_CallI, w_mkTup, w_mkLst, rdsK2_, rdsK_, w_rds, stbsK2_, stbsK_, w_stbs, cP0, cP1, cP2, cP3, cP4, cP5, cP6, cP7, cIO_o, cI1, cI2, cI3, cI4, cI5, cI6, cI7, w_stOt, stOO_o, w_retFl, retO_v, retO_o, w_finR, w_finN, finO_s, w_runF, rp0, rpS, asE_x, stF_x, finX_s, w_finX, ev_c, ev_fin, ev_fin0, ev_o1, ev_o2, ev_rdv, ev_rdn, ev_rdl, ev_nil, ev_stlv, ev_stln, ev_stll, ev_rds0, ev_stbv, ev_stbn, ev_stbs0, ev_asB, ev_NoPart, ev_Nx, ev_putv, ev_putn, ev_ofO, ev_itL, ev_itT, ev_tgN, ev_for0, ev_wipeD0, ev_wipeD, ev_restD0, ev_restD, ev_endC, ev_Yes, ev_asEv, ev_asEn, ev_stFv, ev_stFn, ev_mkAf, ev_mkAt, ev_stOf, ev_retFv, ev_retFn, ev_vI, ev_vB, ev_oSlL, ev_oSlT, ev_oRevL, ev_bListL, ev_bListT, ev_bTupL, ev_bTupT, ev_isNone0, ev_isNoneI, ev_isNoneL, ev_isNoneT, ev_isNoneB, ev_isNoneS, n_add, n_sub, n_mul, n_mod, n_div, n_shl1, n_shl, n_shr, n_pow, n_and, n_or, n_xor, n_lt, n_le, n_gt, n_ge, n_eq, n_ne, bt1, bt0, d_ltT, d_ltF, d_leT, d_leF, d_eqT, d_eqF, c_eq, c_ne, c_eqc, c_nec, c_isN, l_ix, t_ix, l_ix0, l_ix1, l_ix2, l_ix3, l_ix4, l_ix5, t_ix0, t_ix1, t_ix2, l_len, t_len, cut_to, cut_from, l_addL, t_addT, w_rng1, w_rng2, n_max2, n_min2, n_sum, b_all, b_any, b_all0, b_intB, b_intN, i_intI, i_boolI, i_intB, i_boolB, i_tupT, i_lstL, i_tupL, i_lstT, i_intT, i_intL, i_tupI, i_lstI, i_intN, i_tupN, i_lstN, i_intS, i_tupS, i_lstS, i_tupB, i_lstB, r_isN, r_notN, wp_nx, wp_ret, wl_nx, wl_cnt, wl_brk, wl_ret, List.map_cons, List.map_nil, List.cons_append, List.nil_append, List.set_cons_zero, List.set_cons_succ, List.length_cons, List.length_nil, List.length_map, List.length_append, List.length_range, List.length_range', List.length_set, Bool.not_true, Bool.not_false, Bool.true_and, Bool.false_and, Bool.and_true, Bool.and_false, decide_true, decide_false, Nat.reduceSub, Nat.reduceAdd, Option.getD_some, vo_v, no_v, Nat.one_mul, l_eq, l_ne, t_eq, t_eqc, l_eq0, l_ne0, z_eq0, z_ne0, lc_ne0, lc_eq0, n_inL, n_inT, n_niL, n_niT, n_inC, if_true, if_false, Option.isNone_none, Option.isNone_some, n_augA, n_augS, List.append_nil, n_tr, n_lr, KStar2_, KStarO_, KStar_, w_Star, items_l, items_t, st_vals, KComp2_, w_Comp2, n_mulA, t_mulA1, t_mulA, l_repC, KOrT_, w_OrT, truO_n, truO_0, truO_i, KUnpL_, w_UnpL, unpLO_2, unpLO_3, KItE_, w_ItE, itEO_l, itEO_t, itZO_l, itZO_t, KItZ_, w_ItZ, enumD_map, zipD_map, cT1, cT2, cT3, KCallT2_, KCallT_, w_CallT, ev_oNeg, i_strS, b_sortP, b_is, b_nis, KIs_, w_Is, isLO_l, t_ix3, t_ix4, ba1, ba2, ba3, ba4, t_rev, KExt_, KExt0_, w_Ext, w_extR, w_ext1, KTru_, w_Tru, truT_, truD_l, truD_t, g_get, isLO_d, KDComp_, w_DComp], rfl⟩⟩
  · rintro dl ⟨st', y6, y7, rows, rfl, g, hl, hr⟩
    obtain ⟨t, et, ht⟩ := all_cell (ys := rows) (fun c => c < k) hr
    simp -implicitDefEqProofs (disch := (first | omega | (simp only [List.length_map, List.length_append, List.length_range, List.length_cons, List.length_nil, List.length_set, List.length_take, List.length_drop, List.length_replicate, List.length_reverse] <;> omega) | assumption)) only [w_Seq, w_seqN, w_seqR, w_seqC, w_seqB, w_seqX, iteF_t, iteF_f, iteO_t, iteO_f, KoB_, KtB_, sg0_, sgS_, w_var, vr_v, vr_o, w_rdS, rdO_v, rdO_o, w_stb, stO1_v, stO1_o, ob_s, w_isOwn, isOwnO_o, K1_, K1_x, w_1, K2b_, K2b_x, K2_, K2_x, w_2, Kc2_, Kc2_x, Kc_, Kc_x, w_cons, KB_, KB_x, w_B, Ktup_, Ktup_x, w_tup, Klst_, Klst_x, w_lst, KT_, KT_x, w_T, KtAnd_, KtAnd_x, w_tAnd, KtOr_, KtOr_x, w_tOr, KtNot_, KtNot_x, w_tNot, KAnd_, KAnd_x, w_And, KOr_, KOr_x, w_Or, KNot_, KNot_x, w_Not, KIte_, KIte_x, w_Ite, Kch4_, Kch4_x, Kch3f_, Kch3_, Kch3_x, Kch2_, Kch2_x, Kch_, Kch_x, w_ch, partO_i, KPart_, KPart_x, w_Part, slO_, KSl3_, KSl3_x, KSl2_, KSl2_x, KSl_, KSl_x, w_Sl, KDo_, KDo_x, w_Do, KRet_, KRet_x, w_Ret, KIf_, KIf_x, w_If, putK_, w_putl, KSet_, KSet_x, w_Set, KAug_, KAug_x, w_Aug, augO_i, unpO_2, unpO_3, w_tg2, w_tg3, KUnp_, KUnp_x, w_Unp, chgK_, w_chg, chgO_o, appK_, w_appR, w_app1, KApp_, KApp_x, KApp0_, w_App, stIK_, w_stIR, stIO_i, w_put1, KStI2_, KStI2_x, KStI1_, KStI_, KStI_x, w_StI, KIt_, KIt_x, w_It, KRng1_, KRng1_x, w_Rng1, KRng2_, KRng2_x, w_Rng2, it2O_, it1O_, KIt2_, KIt2_x, w_It2, KIt1_, KIt1_x, w_It1, KFor_, KFor_x, w_For, KComp_, KComp_x, w_Comp, KCall_, KCall_x, w_Call, KCallI_, KCallI_x, KCallI0_, w_CallI, w_mkTup, w_mkLst, rdsK2_, rdsK_, w_rds, stbsK2_, stbsK_, w_stbs, cP0, cP1, cP2, cP3, cP4, cP5, cP6, cP7, cIO_o, cI1, cI2, cI3, cI4, cI5, cI6, cI7, w_stOt, stOO_o, w_retFl, retO_v, retO_o, w_finR, w_finN, finO_s, w_runF, rp0, rpS, asE_x, stF_x, finX_s, w_finX, ev_c, ev_fin, ev_fin0, ev_o1, ev_o2, ev_rdv, ev_rdn, ev_rdl, ev_nil, ev_stlv, ev_stln, ev_stll, ev_rds0, ev_stbv, ev_stbn, ev_stbs0, ev_asB, ev_NoPart, ev_Nx, ev_putv, ev_putn, ev_ofO, ev_itL, ev_itT, ev_tgN, ev_for0, ev_wipeD0, ev_wipeD, ev_restD0, ev_restD, ev_endC, ev_Yes, ev_asEv, ev_asEn, ev_stFv, ev_stFn, ev_mkAf, ev_mkAt, ev_stOf, ev_retFv, ev_retFn, ev_vI, ev_vB, ev_oSlL, ev_oSlT, ev_oRevL, ev_bListL, ev_bListT, ev_bTupL, ev_bTupT, ev_isNone0, ev_isNoneI, ev_isNoneL, ev_isNoneT, ev_isNoneB, ev_isNoneS, n_add, n_sub, n_mul, n_mod, n_div, n_shl1, n_shl, n_shr, n_pow, n_and, n_or, n_xor, n_lt, n_le, n_gt, n_ge, n_eq, n_ne, bt1, bt0, d_ltT, d_ltF, d_leT, d_leF, d_eqT, d_eqF, c_eq, c_ne, c_eqc, c_nec, c_isN, l_ix, t_ix, l_ix0, l_ix1, l_ix2, l_ix3, l_ix4, l_ix5, t_ix0, t_ix1, t_ix2, l_len, t_len, cut_to, cut_from, l_addL, t_addT, w_rng1, w_rng2, n_max2, n_min2, n_sum, b_all, b_any, b_all0, b_intB, b_intN, i_intI, i_boolI, i_intB, i_boolB, i_tupT, i_lstL, i_tupL, i_lstT, i_intT, i_intL, i_tupI, i_lstI, i_intN, i_tupN, i_lstN, i_intS, i_tupS, i_lstS, i_tupB, i_lstB, r_isN, r_notN, wp_nx, wp_ret, wl_nx, wl_cnt, wl_brk, wl_ret, List.map_cons, List.map_nil, List.cons_append, List.nil_append, List.set_cons_zero, List.set_cons_succ, List.length_cons, List.length_nil, List.length_map, List.length_append, List.length_range, List.length_range', List.length_set, Bool.not_true, Bool.not_false, Bool.true_and, Bool.false_and, Bool.and_true, Bool.and_false, decide_true, decide_false, Nat.reduceSub, Nat.reduceAdd, Option.getD_some, vo_v, no_v, Nat.one_mul, l_eq, l_ne, t_eq, t_eqc, l_eq0, l_ne0, z_eq0, z_ne0, lc_ne0, lc_eq0, n_inL, n_inT, n_niL, n_niT, n_inC, if_true, if_false, Option.isNone_none, Option.isNone_some, n_augA, n_augS, List.append_nil, n_tr, n_lr, KStar2_, KStarO_, KStar_, w_Star, items_l, items_t, st_vals, KComp2_, w_Comp2, n_mulA, t_mulA1, t_mulA, l_repC, KOrT_, w_OrT, truO_n, truO_0, truO_i, KUnpL_, w_UnpL, unpLO_2, unpLO_3, KItE_, w_ItE, itEO_l, itEO_t, itZO_l, itZO_t, KItZ_, w_ItZ, enumD_map, zipD_map, cT1, cT2, cT3, KCallT2_, KCallT_, w_CallT, ev_oNeg, i_strS, b_sortP, b_is, b_nis, KIs_, w_Is, isLO_l, t_ix3, t_ix4, ba1, ba2, ba3, ba4, t_rev, KExt_, KExt0_, w_Ext, w_extR, w_ext1, KTru_, w_Tru, truT_, truD_l, truD_t, g_get, isLO_d, KDComp_, w_DComp]
    refine ⟨t, by rw [et]; rfl, g, ?_, ht⟩
    have := congrArg List.length et
    simpa [hl] using this.symm
theorem set_tb {n k a : Nat} {t : List (Option Nat)} {z : Option Nat} (h : Tb n k t) (ha : a < t.length) (hz : ∀ c, z = some c → c < k) : Tb n k (t.take a ++ [z] ++ t.drop (a + 1)) := ⟨by
  have := h.1
  simp only [List.length_append, List.length_take, List.length_drop, List.length_cons, List.length_nil]
  omega, fun c hc => by
  rcases List.mem_append.mp hc with h' | h'
  · rcases List.mem_append.mp h' with h'' | h''
    · exact h.2 c (List.mem_of_mem_take h'')
    · exact hz c (List.mem_singleton.mp h'').symm
  · exact h.2 c (List.mem_of_mem_drop h')⟩
theorem set_tab {a : Nat} {t : List (Option Nat)} {z : Option Nat} : PyData.tuple ((t.map cell).take a ++ [cell z] ++ (t.map cell).drop (a + 1)) = tab (t.take a ++ [z] ++ t.drop (a + 1)) := by
  unfold tab
  simp only [List.map_append, List.map_take, List.map_drop, List.map_cons, List.map_nil]
theorem tab_len (t : List (Option Nat)) : bLen [tab t] = vN t.length := by
  show bLen [.tuple (t.map cell)] = _
  rw [t_len, List.length_map]
open TL
def numT (m : Nat) : Str := Str.ofString (toString ((m : Nat) : Int))
def wordT : Option Nat → Str
  | none => "-"
  | some m => numT m
theorem b_str {m : Nat} (h : m < 1000000) : bStr [nI m] = some (.val (.str (numT m))) := by
  show (if ((m : Nat) : Int).natAbs < 1000000 then some (Rv.val (.str (toString ((m : Nat) : Int)))) else none) = _
  rw [if_pos (by omega)]
  rfl
def figC (m : Nat) : Bool := match G_is_figures [] [.str (numT m)] with
  | .val (.bool true) [] => true
  | _ => false
theorem figC_all : (List.range 101).all figC = true := by decide +kernel
theorem fig_n {m : Nat} (h : m ≤ 100) : G_is_figures [] [.str (numT m)] = .val (.bool true) [] := by
  have h1 : figC m = true := List.all_eq_true.mp figC_all m (List.mem_range.mpr (by omega))
  unfold figC at h1
  split at h1
  · assumption
  · cases h1
theorem num_len {m : Nat} (h : m ≤ 100) : (numL m).length ≤ 3 := numL_len (by decide) (by omega)
theorem tl_numT (m : Nat) : tl (numT m) = numL m := tl_num m
theorem numT_len {m : Nat} (h : m ≤ 100) : (numT m).length ≤ 3 := by
  rw [len_tl, tl_numT]
  exact num_len h
theorem b_int {m : Nat} (h : m ≤ 100) : bIntS [.str (numT m)] = some (.val (nI m)) := by
  show intO (numT m) (PySem.intText? (numT m)) = _
  have hl := num_len h
  rw [show PySem.intText? (numT m) = some ((m : Nat) : Int) from int_num (by omega)]
  show (if (numT m).length ≤ 640 then vI _ else none) = _
  rw [if_pos (by have := numT_len h; omega)]
  rfl
def dashC (m : Nat) : Bool := !decide (numT m = "-")
theorem dashC_all : (List.range 101).all dashC = true := by decide +kernel
theorem dash_n {m : Nat} (h : m ≤ 100) : oEqS (.str (numT m)) (.str "-") = vB false := by
  have h1 : dashC m = true := List.all_eq_true.mp dashC_all m (List.mem_range.mpr (by omega))
  unfold dashC at h1
  rw [eqS_]
  have h2 : decide (numT m = "-") = false := by simpa using h1
  rw [h2]
theorem word_n {c : Option Nat} (h : ∀ m, c = some m → m ≤ 100) : G_is_word [] [.str (wordT c)] = .val (.bool true) [] := by
  cases c with
  | none => simp -implicitDefEqProofs (disch := (first | omega | (simp only [List.length_map, List.length_append, List.length_range, List.length_cons, List.length_nil, List.length_set, List.length_take, List.length_drop, List.length_replicate, List.length_reverse] <;> omega) | assumption)) only [w_Seq, w_seqN, w_seqR, w_seqC, w_seqB, w_seqX, iteF_t, iteF_f, iteO_t, iteO_f, KoB_, KtB_, sg0_, sgS_, w_var, vr_v, vr_o, w_rdS, rdO_v, rdO_o, w_stb, stO1_v, stO1_o, ob_s, w_isOwn, isOwnO_o, K1_, K1_x, w_1, K2b_, K2b_x, K2_, K2_x, w_2, Kc2_, Kc2_x, Kc_, Kc_x, w_cons, KB_, KB_x, w_B, Ktup_, Ktup_x, w_tup, Klst_, Klst_x, w_lst, KT_, KT_x, w_T, KtAnd_, KtAnd_x, w_tAnd, KtOr_, KtOr_x, w_tOr, KtNot_, KtNot_x, w_tNot, KAnd_, KAnd_x, w_And, KOr_, KOr_x, w_Or, KNot_, KNot_x, w_Not, KIte_, KIte_x, w_Ite, Kch4_, Kch4_x, Kch3f_, Kch3_, Kch3_x, Kch2_, Kch2_x, Kch_, Kch_x, w_ch, partO_i, KPart_, KPart_x, w_Part, slO_, KSl3_, KSl3_x, KSl2_, KSl2_x, KSl_, KSl_x, w_Sl, KDo_, KDo_x, w_Do, KRet_, KRet_x, w_Ret, KIf_, KIf_x, w_If, putK_, w_putl, KSet_, KSet_x, w_Set, KAug_, KAug_x, w_Aug, augO_i, unpO_2, unpO_3, w_tg2, w_tg3, KUnp_, KUnp_x, w_Unp, chgK_, w_chg, chgO_o, appK_, w_appR, w_app1, KApp_, KApp_x, KApp0_, w_App, stIK_, w_stIR, stIO_i, w_put1, KStI2_, KStI2_x, KStI1_, KStI_, KStI_x, w_StI, KIt_, KIt_x, w_It, KRng1_, KRng1_x, w_Rng1, KRng2_, KRng2_x, w_Rng2, it2O_, it1O_, KIt2_, KIt2_x, w_It2, KIt1_, KIt1_x, w_It1, KFor_, KFor_x, w_For, KComp_, KComp_x, w_Comp, KCall_, KCall_x, w_Call, KCallI_, KCallI_x, KCallI0_, w_CallI, w_mkTup, w_mkLst, rdsK2_, rdsK_, w_rds, stbsK2_, stbsK_, w_stbs, cP0, cP1, cP2, cP3, cP4, cP5, cP6, cP7, cIO_o, cI1, cI2, cI3, cI4, cI5, cI6, cI7, w_stOt, stOO_o, w_retFl, retO_v, retO_o, w_finR, w_finN, finO_s, w_runF, rp0, rpS, asE_x, stF_x, finX_s, w_finX, ev_c, ev_fin, ev_fin0, ev_o1, ev_o2, ev_rdv, ev_rdn, ev_rdl, ev_nil, ev_stlv, ev_stln, ev_stll, ev_rds0, ev_stbv, ev_stbn, ev_stbs0, ev_asB, ev_NoPart, ev_Nx, ev_putv, ev_putn, ev_ofO, ev_itL, ev_itT, ev_tgN, ev_for0, ev_wipeD0, ev_wipeD, ev_restD0, ev_restD, ev_endC, ev_Yes, ev_asEv, ev_asEn, ev_stFv, ev_stFn, ev_mkAf, ev_mkAt, ev_stOf, ev_retFv, ev_retFn, ev_vI, ev_vB, ev_oSlL, ev_oSlT, ev_oRevL, ev_bListL, ev_bListT, ev_bTupL, ev_bTupT, ev_isNone0, ev_isNoneI, ev_isNoneL, ev_isNoneT, ev_isNoneB, ev_isNoneS, n_add, n_sub, n_mul, n_mod, n_div, n_shl1, n_shl, n_shr, n_pow, n_and, n_or, n_xor, n_lt, n_le, n_gt, n_ge, n_eq, n_ne, bt1, bt0, d_ltT, d_ltF, d_leT, d_leF, d_eqT, d_eqF, c_eq, c_ne, c_eqc, c_nec, c_isN, l_ix, t_ix, l_ix0, l_ix1, l_ix2, l_ix3, l_ix4, l_ix5, t_ix0, t_ix1, t_ix2, l_len, t_len, cut_to, cut_from, l_addL, t_addT, w_rng1, w_rng2, n_max2, n_min2, n_sum, b_all, b_any, b_all0, b_intB, b_intN, i_intI, i_boolI, i_intB, i_boolB, i_tupT, i_lstL, i_tupL, i_lstT, i_intT, i_intL, i_tupI, i_lstI, i_intN, i_tupN, i_lstN, i_intS, i_tupS, i_lstS, i_tupB, i_lstB, r_isN, r_notN, wp_nx, wp_ret, wl_nx, wl_cnt, wl_brk, wl_ret, List.map_cons, List.map_nil, List.cons_append, List.nil_append, List.set_cons_zero, List.set_cons_succ, List.length_cons, List.length_nil, List.length_map, List.length_append, List.length_range, List.length_range', List.length_set, Bool.not_true, Bool.not_false, Bool.true_and, Bool.false_and, Bool.and_true, Bool.and_false, decide_true, decide_false, Nat.reduceSub, Nat.reduceAdd, Option.getD_some, vo_v, no_v, Nat.one_mul, l_eq, l_ne, t_eq, t_eqc, l_eq0, l_ne0, z_eq0, z_ne0, lc_ne0, lc_eq0, n_inL, n_inT, n_niL, n_niT, n_inC, if_true, if_false, Option.isNone_none, Option.isNone_some, n_augA, n_augS, List.append_nil, n_tr, n_lr, KStar2_, KStarO_, KStar_, w_Star, items_l, items_t, st_vals, KComp2_, w_Comp2, n_mulA, t_mulA1, t_mulA, l_repC, KOrT_, w_OrT, truO_n, truO_0, truO_i, KUnpL_, w_UnpL, unpLO_2, unpLO_3, KItE_, w_ItE, itEO_l, itEO_t, itZO_l, itZO_t, KItZ_, w_ItZ, enumD_map, zipD_map, cT1, cT2, cT3, KCallT2_, KCallT_, w_CallT, ev_oNeg, i_strS, b_sortP, b_is, b_nis, KIs_, w_Is, isLO_l, t_ix3, t_ix4, ba1, ba2, ba3, ba4, t_rev, KExt_, KExt0_, w_Ext, w_extR, w_ext1, KTru_, w_Tru, truT_, truD_l, truD_t, g_get, isLO_d, KDComp_, w_DComp, G_is_word, D_is_word, wordT, eqS_self]
  | some m => simp -implicitDefEqProofs (disch := (first | omega | (simp only [List.length_map, List.length_append, List.length_range, List.length_cons, List.length_nil, List.length_set, List.length_take, List.length_drop, List.length_replicate, List.length_reverse] <;> omega) | assumption)) only [w_Seq, w_seqN, w_seqR, w_seqC, w_seqB, w_seqX, iteF_t, iteF_f, iteO_t, iteO_f, KoB_, KtB_, sg0_, sgS_, w_var, vr_v, vr_o, w_rdS, rdO_v, rdO_o, w_stb, stO1_v, stO1_o, ob_s, w_isOwn, isOwnO_o, K1_, K1_x, w_1, K2b_, K2b_x, K2_, K2_x, w_2, Kc2_, Kc2_x, Kc_, Kc_x, w_cons, KB_, KB_x, w_B, Ktup_, Ktup_x, w_tup, Klst_, Klst_x, w_lst, KT_, KT_x, w_T, KtAnd_, KtAnd_x, w_tAnd, KtOr_, KtOr_x, w_tOr, KtNot_, KtNot_x, w_tNot, KAnd_, KAnd_x, w_And, KOr_, KOr_x, w_Or, KNot_, KNot_x, w_Not, KIte_, KIte_x, w_Ite, Kch4_, Kch4_x, Kch3f_, Kch3_, Kch3_x, Kch2_, Kch2_x, Kch_, Kch_x, w_ch, partO_i, KPart_, KPart_x, w_Part, slO_, KSl3_, KSl3_x, KSl2_, KSl2_x, KSl_, KSl_x, w_Sl, KDo_, KDo_x, w_Do, KRet_, KRet_x, w_Ret, KIf_, KIf_x, w_If, putK_, w_putl, KSet_, KSet_x, w_Set, KAug_, KAug_x, w_Aug, augO_i, unpO_2, unpO_3, w_tg2, w_tg3, KUnp_, KUnp_x, w_Unp, chgK_, w_chg, chgO_o, appK_, w_appR, w_app1, KApp_, KApp_x, KApp0_, w_App, stIK_, w_stIR, stIO_i, w_put1, KStI2_, KStI2_x, KStI1_, KStI_, KStI_x, w_StI, KIt_, KIt_x, w_It, KRng1_, KRng1_x, w_Rng1, KRng2_, KRng2_x, w_Rng2, it2O_, it1O_, KIt2_, KIt2_x, w_It2, KIt1_, KIt1_x, w_It1, KFor_, KFor_x, w_For, KComp_, KComp_x, w_Comp, KCall_, KCall_x, w_Call, KCallI_, KCallI_x, KCallI0_, w_CallI, w_mkTup, w_mkLst, rdsK2_, rdsK_, w_rds, stbsK2_, stbsK_, w_stbs, cP0, cP1, cP2, cP3, cP4, cP5, cP6, cP7, cIO_o, cI1, cI2, cI3, cI4, cI5, cI6, cI7, w_stOt, stOO_o, w_retFl, retO_v, retO_o, w_finR, w_finN, finO_s, w_runF, rp0, rpS, asE_x, stF_x, finX_s, w_finX, ev_c, ev_fin, ev_fin0, ev_o1, ev_o2, ev_rdv, ev_rdn, ev_rdl, ev_nil, ev_stlv, ev_stln, ev_stll, ev_rds0, ev_stbv, ev_stbn, ev_stbs0, ev_asB, ev_NoPart, ev_Nx, ev_putv, ev_putn, ev_ofO, ev_itL, ev_itT, ev_tgN, ev_for0, ev_wipeD0, ev_wipeD, ev_restD0, ev_restD, ev_endC, ev_Yes, ev_asEv, ev_asEn, ev_stFv, ev_stFn, ev_mkAf, ev_mkAt, ev_stOf, ev_retFv, ev_retFn, ev_vI, ev_vB, ev_oSlL, ev_oSlT, ev_oRevL, ev_bListL, ev_bListT, ev_bTupL, ev_bTupT, ev_isNone0, ev_isNoneI, ev_isNoneL, ev_isNoneT, ev_isNoneB, ev_isNoneS, n_add, n_sub, n_mul, n_mod, n_div, n_shl1, n_shl, n_shr, n_pow, n_and, n_or, n_xor, n_lt, n_le, n_gt, n_ge, n_eq, n_ne, bt1, bt0, d_ltT, d_ltF, d_leT, d_leF, d_eqT, d_eqF, c_eq, c_ne, c_eqc, c_nec, c_isN, l_ix, t_ix, l_ix0, l_ix1, l_ix2, l_ix3, l_ix4, l_ix5, t_ix0, t_ix1, t_ix2, l_len, t_len, cut_to, cut_from, l_addL, t_addT, w_rng1, w_rng2, n_max2, n_min2, n_sum, b_all, b_any, b_all0, b_intB, b_intN, i_intI, i_boolI, i_intB, i_boolB, i_tupT, i_lstL, i_tupL, i_lstT, i_intT, i_intL, i_tupI, i_lstI, i_intN, i_tupN, i_lstN, i_intS, i_tupS, i_lstS, i_tupB, i_lstB, r_isN, r_notN, wp_nx, wp_ret, wl_nx, wl_cnt, wl_brk, wl_ret, List.map_cons, List.map_nil, List.cons_append, List.nil_append, List.set_cons_zero, List.set_cons_succ, List.length_cons, List.length_nil, List.length_map, List.length_append, List.length_range, List.length_range', List.length_set, Bool.not_true, Bool.not_false, Bool.true_and, Bool.false_and, Bool.and_true, Bool.and_false, decide_true, decide_false, Nat.reduceSub, Nat.reduceAdd, Option.getD_some, vo_v, no_v, Nat.one_mul, l_eq, l_ne, t_eq, t_eqc, l_eq0, l_ne0, z_eq0, z_ne0, lc_ne0, lc_eq0, n_inL, n_inT, n_niL, n_niT, n_inC, if_true, if_false, Option.isNone_none, Option.isNone_some, n_augA, n_augS, List.append_nil, n_tr, n_lr, KStar2_, KStarO_, KStar_, w_Star, items_l, items_t, st_vals, KComp2_, w_Comp2, n_mulA, t_mulA1, t_mulA, l_repC, KOrT_, w_OrT, truO_n, truO_0, truO_i, KUnpL_, w_UnpL, unpLO_2, unpLO_3, KItE_, w_ItE, itEO_l, itEO_t, itZO_l, itZO_t, KItZ_, w_ItZ, enumD_map, zipD_map, cT1, cT2, cT3, KCallT2_, KCallT_, w_CallT, ev_oNeg, i_strS, b_sortP, b_is, b_nis, KIs_, w_Is, isLO_l, t_ix3, t_ix4, ba1, ba2, ba3, ba4, t_rev, KExt_, KExt0_, w_Ext, w_extR, w_ext1, KTru_, w_Tru, truT_, truD_l, truD_t, g_get, isLO_d, KDComp_, w_DComp, G_is_word, D_is_word, wordT, dash_n (h m rfl), fig_n (h m rfl)]
theorem head_n {n k : Nat} (hn : n ≤ 100) (hk : k ≤ 100) : G_is_head [] [.list [.str "strip", .str (numT n), .str (numT k)]] = .val (.bool true) [] := by
  simp -implicitDefEqProofs (disch := (first | omega | (simp only [List.length_map, List.length_append, List.length_range, List.length_cons, List.length_nil, List.length_set, List.length_take, List.length_drop, List.length_replicate, List.length_reverse] <;> omega) | assumption)) only [w_Seq, w_seqN, w_seqR, w_seqC, w_seqB, w_seqX, iteF_t, iteF_f, iteO_t, iteO_f, KoB_, KtB_, sg0_, sgS_, w_var, vr_v, vr_o, w_rdS, rdO_v, rdO_o, w_stb, stO1_v, stO1_o, ob_s, w_isOwn, isOwnO_o, K1_, K1_x, w_1, K2b_, K2b_x, K2_, K2_x, w_2, Kc2_, Kc2_x, Kc_, Kc_x, w_cons, KB_, KB_x, w_B, Ktup_, Ktup_x, w_tup, Klst_, Klst_x, w_lst, KT_, KT_x, w_T, KtAnd_, KtAnd_x, w_tAnd, KtOr_, KtOr_x, w_tOr, KtNot_, KtNot_x, w_tNot, KAnd_, KAnd_x, w_And, KOr_, KOr_x, w_Or, KNot_, KNot_x, w_Not, KIte_, KIte_x, w_Ite, Kch4_, Kch4_x, Kch3f_, Kch3_, Kch3_x, Kch2_, Kch2_x, Kch_, Kch_x, w_ch, partO_i, KPart_, KPart_x, w_Part, slO_, KSl3_, KSl3_x, KSl2_, KSl2_x, KSl_, KSl_x, w_Sl, KDo_, KDo_x, w_Do, KRet_, KRet_x, w_Ret, KIf_, KIf_x, w_If, putK_, w_putl, KSet_, KSet_x, w_Set, KAug_, KAug_x, w_Aug, augO_i, unpO_2, unpO_3, w_tg2, w_tg3, KUnp_, KUnp_x, w_Unp, chgK_, w_chg, chgO_o, appK_, w_appR, w_app1, KApp_, KApp_x, KApp0_, w_App, stIK_, w_stIR, stIO_i, w_put1, KStI2_, KStI2_x, KStI1_, KStI_, KStI_x, w_StI, KIt_, KIt_x, w_It, KRng1_, KRng1_x, w_Rng1, KRng2_, KRng2_x, w_Rng2, it2O_, it1O_, KIt2_, KIt2_x, w_It2, KIt1_, KIt1_x, w_It1, KFor_, KFor_x, w_For, KComp_, KComp_x, w_Comp, KCall_, KCall_x, w_Call, KCallI_, KCallI_x, KCallI0_, w_CallI, w_mkTup, w_mkLst, rdsK2_, rdsK_, w_rds, stbsK2_, stbsK_, w_stbs, cP0, cP1, cP2, cP3, cP4, cP5, cP6, cP7, cIO_o, cI1, cI2, cI3, cI4, cI5, cI6, cI7, w_stOt, stOO_o, w_retFl, retO_v, retO_o, w_finR, w_finN, finO_s, w_runF, rp0, rpS, asE_x, stF_x, finX_s, w_finX, ev_c, ev_fin, ev_fin0, ev_o1, ev_o2, ev_rdv, ev_rdn, ev_rdl, ev_nil, ev_stlv, ev_stln, ev_stll, ev_rds0, ev_stbv, ev_stbn, ev_stbs0, ev_asB, ev_NoPart, ev_Nx, ev_putv, ev_putn, ev_ofO, ev_itL, ev_itT, ev_tgN, ev_for0, ev_wipeD0, ev_wipeD, ev_restD0, ev_restD, ev_endC, ev_Yes, ev_asEv, ev_asEn, ev_stFv, ev_stFn, ev_mkAf, ev_mkAt, ev_stOf, ev_retFv, ev_retFn, ev_vI, ev_vB, ev_oSlL, ev_oSlT, ev_oRevL, ev_bListL, ev_bListT, ev_bTupL, ev_bTupT, ev_isNone0, ev_isNoneI, ev_isNoneL, ev_isNoneT, ev_isNoneB, ev_isNoneS, n_add, n_sub, n_mul, n_mod, n_div, n_shl1, n_shl, n_shr, n_pow, n_and, n_or, n_xor, n_lt, n_le, n_gt, n_ge, n_eq, n_ne, bt1, bt0, d_ltT, d_ltF, d_leT, d_leF, d_eqT, d_eqF, c_eq, c_ne, c_eqc, c_nec, c_isN, l_ix, t_ix, l_ix0, l_ix1, l_ix2, l_ix3, l_ix4, l_ix5, t_ix0, t_ix1, t_ix2, l_len, t_len, cut_to, cut_from, l_addL, t_addT, w_rng1, w_rng2, n_max2, n_min2, n_sum, b_all, b_any, b_all0, b_intB, b_intN, i_intI, i_boolI, i_intB, i_boolB, i_tupT, i_lstL, i_tupL, i_lstT, i_intT, i_intL, i_tupI, i_lstI, i_intN, i_tupN, i_lstN, i_intS, i_tupS, i_lstS, i_tupB, i_lstB, r_isN, r_notN, wp_nx, wp_ret, wl_nx, wl_cnt, wl_brk, wl_ret, List.map_cons, List.map_nil, List.cons_append, List.nil_append, List.set_cons_zero, List.set_cons_succ, List.length_cons, List.length_nil, List.length_map, List.length_append, List.length_range, List.length_range', List.length_set, Bool.not_true, Bool.not_false, Bool.true_and, Bool.false_and, Bool.and_true, Bool.and_false, decide_true, decide_false, Nat.reduceSub, Nat.reduceAdd, Option.getD_some, vo_v, no_v, Nat.one_mul, l_eq, l_ne, t_eq, t_eqc, l_eq0, l_ne0, z_eq0, z_ne0, lc_ne0, lc_eq0, n_inL, n_inT, n_niL, n_niT, n_inC, if_true, if_false, Option.isNone_none, Option.isNone_some, n_augA, n_augS, List.append_nil, n_tr, n_lr, KStar2_, KStarO_, KStar_, w_Star, items_l, items_t, st_vals, KComp2_, w_Comp2, n_mulA, t_mulA1, t_mulA, l_repC, KOrT_, w_OrT, truO_n, truO_0, truO_i, KUnpL_, w_UnpL, unpLO_2, unpLO_3, KItE_, w_ItE, itEO_l, itEO_t, itZO_l, itZO_t, KItZ_, w_ItZ, enumD_map, zipD_map, cT1, cT2, cT3, KCallT2_, KCallT_, w_CallT, ev_oNeg, i_strS, b_sortP, b_is, b_nis, KIs_, w_Is, isLO_l, t_ix3, t_ix4, ba1, ba2, ba3, ba4, t_rev, KExt_, KExt0_, w_Ext, w_extR, w_ext1, KTru_, w_Tru, truT_, truD_l, truD_t, g_get, isLO_d, KDComp_, w_DComp, G_is_head, D_is_head, eqS_self, fig_n hn, fig_n hk]
def headT (n k : Nat) : Str := Txt.join " " ["strip", numT n, numT k]
def rowT (t : List (Option Nat)) : Str := Txt.join " " (t.map wordT)
def textT (n k : Nat) (t : List (Option Nat)) : Str := headT n k ++ "\n" ++ rowT t ++ "\n"
theorem tl_word {c : Option Nat} (h : ∀ m, c = some m → m ≤ 100) : ∀ s ∈ tl (wordT c), s = 45 ∨ (48 ≤ s ∧ s ≤ 57) := by
  intro s hs
  cases c with
  | none =>
    have : tl (wordT none) = [45] := by decide +kernel
    rw [this] at hs
    simp at hs
    exact .inl hs
  | some m =>
    refine .inr ?_
    have hs' : s ∈ numL m := by rw [← tl_numT]; exact hs
    by_cases h1 : s < 48 ∨ 57 < s
    · exact absurd hs' (numL_free h1)
    · omega
theorem word_len {c : Option Nat} (h : ∀ m, c = some m → m ≤ 100) : (wordT c).length ≤ 3 := by
  cases c with
  | none => decide +kernel
  | some m => exact numT_len (h m rfl)
theorem tl_sp : tl (" " : Str) = 32 :: [] := by decide +kernel
theorem tl_nl : tl ("\n" : Str) = 10 :: [] := by decide +kernel
theorem tl_strip : tl ("strip" : Str) = [115, 116, 114, 105, 112] := by decide +kernel
theorem mem_joinL {S : List Nat} {s : Nat} : ∀ {ps : List (List Nat)}, s ∈ joinL S ps → s ∈ S ∨ ∃ p ∈ ps, s ∈ p
  | [], h => by cases h
  | [p], h => .inr ⟨p, List.mem_singleton.mpr rfl, h⟩
  | p :: q :: r, h => by
    have h' : s ∈ p ++ (S ++ joinL S (q :: r)) := h
    rcases List.mem_append.mp h' with h1 | h1
    · exact .inr ⟨p, List.mem_cons_self, h1⟩
    · rcases List.mem_append.mp h1 with h2 | h2
      · exact .inl h2
      · rcases mem_joinL h2 with h3 | ⟨p', h3, h4⟩
        · exact .inl h3
        · exact .inr ⟨p', List.mem_cons_of_mem _ h3, h4⟩
theorem len_joinL {S : List Nat} : ∀ {ps : List (List Nat)} (w : Nat), (∀ p ∈ ps, p.length ≤ w) → (joinL S ps).length ≤ ps.length * (w + S.length)
  | [], w, h => by simp [joinL]
  | [p], w, h => by
    have := h p (List.mem_singleton.mpr rfl)
    show p.length ≤ 1 * (w + S.length)
    omega
  | p :: q :: r, w, h => by
    have h1 := h p List.mem_cons_self
    have h2 := len_joinL (S := S) (ps := q :: r) w fun p' hp => h p' (List.mem_cons_of_mem _ hp)
    show (p ++ (S ++ joinL S (q :: r))).length ≤ _
    rw [List.length_append, List.length_append]
    have e : (p :: q :: r).length * (w + S.length) = (q :: r).length * (w + S.length) + (w + S.length) := by
      rw [List.length_cons, Nat.succ_mul]
    omega
theorem sum_len {ys : List Str} {w : Nat} (h : ∀ y ∈ ys, y.length ≤ w) : (ys.map (·.length)).sum ≤ ys.length * w := by
  induction ys with
  | nil => simp
  | cons y ys ih =>
    have h1 := h y List.mem_cons_self
    have h2 := ih fun z hz => h z (List.mem_cons_of_mem _ hz)
    rw [List.map_cons, List.sum_cons, List.length_cons, Nat.succ_mul]
    omega
theorem join_o {ys : List Str} {w : Nat} (h : ∀ y ∈ ys, y.length ≤ w) (hw : w ≤ 100) (hl : ys.length ≤ 1000) : oJoin (.str " ") (.list (ys.map PyData.str)) = some (.val (.str (Txt.join " " ys))) := by
  show joinO " " (allS (ys.map PyData.str)) = _
  rw [allS_strs]
  show (if (ys.map (·.length)).sum + ys.length * (" " : Str).length ≤ 16777216 then some (Rv.val (.str (Txt.join " " ys))) else none) = _
  have h1 := sum_len h
  have h2 : (" " : Str).length = 1 := by decide +kernel
  have h3 : ys.length * w ≤ 1000 * 100 := Nat.mul_le_mul hl hw
  rw [if_pos (by rw [h2]; omega)]
theorem add_s {a b : Str} (h : a.length + b.length ≤ 100000) : oAdd (.str a) (.str b) = some (.val (.str (a ++ b))) := by
  show (if a.length + b.length ≤ 100000 then some (Rv.val (.str (a ++ b))) else none) = _
  rw [if_pos h]
theorem len_app (a b : Str) : (a ++ b).length = a.length + b.length := by
  rw [len_tl, len_tl a, len_tl b, tl_append, List.length_append]
theorem head_len {n k : Nat} (hn : n ≤ 100) (hk : k ≤ 100) : (headT n k).length ≤ 100 := by
  unfold headT
  rw [len_tl, join_eq, tl_join, tl_sp]
  refine Nat.le_trans (len_joinL 10 fun p hp => ?_) (by show 3 * (10 + 1) ≤ 100; decide)
  simp only [List.map_cons, List.map_nil, List.mem_cons, List.not_mem_nil, or_false] at hp
  rcases hp with rfl | rfl | rfl
  · rw [tl_strip]; decide
  · rw [tl_numT]; have := num_len hn; omega
  · rw [tl_numT]; have := num_len hk; omega
theorem row_len {t : List (Option Nat)} (h : ∀ c, some c ∈ t → c ≤ 100) (hl : t.length ≤ 256) : (rowT t).length ≤ 2000 := by
  unfold rowT
  rw [len_tl, join_eq, tl_join, tl_sp]
  refine Nat.le_trans (len_joinL 3 fun p hp => ?_) (by rw [List.length_map, List.length_map]; show t.length * (3 + 1) ≤ 2000; omega)
  obtain ⟨w, hw, rfl⟩ := List.mem_map.mp hp
  obtain ⟨c, hc, rfl⟩ := List.mem_map.mp hw
  rw [← len_tl]
  exact word_len fun m e => h m (e ▸ hc)
theorem words_le {t : List (Option Nat)} (h : ∀ c, some c ∈ t → c ≤ 100) : ∀ y ∈ t.map wordT, y.length ≤ 3 := fun y hy => by
  obtain ⟨c, hc, rfl⟩ := List.mem_map.mp hy
  exact word_len fun m e => h m (e ▸ hc)
theorem head_law (n k : Nat) : (("strip " : Str) ++ numT n) ++ " " ++ numT k = headT n k := by
  refine ext_tl ?_
  unfold headT
  rw [join_eq, tl_join, tl_append, tl_append, tl_append]
  show _ = tl "strip" ++ (tl " " ++ (tl (numT n) ++ (tl " " ++ tl (numT k))))
  rw [show tl ("strip " : Str) = tl ("strip" : Str) ++ tl (" " : Str) by decide +kernel]
  simp only [List.append_assoc]
theorem split_head {n k : Nat} : Txt.split (headT n k) " " = ([("strip" : Str), numT n, numT k] : List Str) := by
  unfold headT
  refine split_join tl_sp (by decide +kernel) (by simp) fun p hp => ?_
  simp only [List.mem_cons, List.not_mem_nil, or_false] at hp
  rcases hp with rfl | rfl | rfl
  · rw [tl_strip]; decide
  · rw [tl_numT]; exact numL_free (by decide)
  · rw [tl_numT]; exact numL_free (by decide)
theorem split_row {t : List (Option Nat)} (h : ∀ c, some c ∈ t → c ≤ 100) (h0 : t ≠ []) : Txt.split (rowT t) " " = t.map wordT := by
  unfold rowT
  refine split_join tl_sp (by decide +kernel) (fun e => h0 (List.map_eq_nil_iff.mp e)) fun p hp => ?_
  obtain ⟨c, hc, rfl⟩ := List.mem_map.mp hp
  intro hs
  rcases tl_word (fun m e => h m (e ▸ hc)) 32 hs with h1 | h1 <;> omega
theorem text_join (n k : Nat) (t : List (Option Nat)) : textT n k t = Txt.join "\n" [headT n k, rowT t, ""] := by
  refine ext_tl ?_
  unfold textT
  rw [join_eq, tl_join, tl_append, tl_append, tl_append]
  show _ = tl (headT n k) ++ (tl "\n" ++ (tl (rowT t) ++ (tl "\n" ++ tl "")))
  rw [show tl ("" : Str) = [] by decide +kernel, List.append_nil]
  simp only [List.append_assoc]
theorem head_nl {n k : Nat} : (10 : Nat) ∉ tl (headT n k) := fun hs => by
  unfold headT at hs
  rw [join_eq, tl_join, tl_sp] at hs
  rcases mem_joinL hs with h1 | ⟨p, hp, h1⟩
  · simp at h1
  · simp only [List.map_cons, List.map_nil, List.mem_cons, List.not_mem_nil, or_false] at hp
    rcases hp with rfl | rfl | rfl
    · rw [tl_strip] at h1; revert h1; decide
    · rw [tl_numT] at h1; exact numL_free (by decide) h1
    · rw [tl_numT] at h1; exact numL_free (by decide) h1
theorem row_nl {t : List (Option Nat)} (h : ∀ c, some c ∈ t → c ≤ 100) : (10 : Nat) ∉ tl (rowT t) := fun hs => by
  unfold rowT at hs
  rw [join_eq, tl_join, tl_sp] at hs
  rcases mem_joinL hs with h1 | ⟨p, hp, h1⟩
  · simp at h1
  · obtain ⟨w, hw, rfl⟩ := List.mem_map.mp hp
    obtain ⟨c, hc, rfl⟩ := List.mem_map.mp hw
    rcases tl_word (fun m e => h m (e ▸ hc)) 10 h1 with h2 | h2 <;> omega
theorem split_text {n k : Nat} {t : List (Option Nat)} (h : ∀ c, some c ∈ t → c ≤ 100) : Txt.split (textT n k t) "\n" = [headT n k, rowT t, ""] := by
  rw [text_join]
  refine split_join tl_nl (by decide +kernel) (by simp) fun p hp => ?_
  simp only [List.mem_cons, List.not_mem_nil, or_false] at hp
  rcases hp with rfl | rfl | rfl
  · exact head_nl
  · exact row_nl h
  · rw [show tl ("" : Str) = [] by decide +kernel]; simp
theorem text_len {n k : Nat} {t : List (Option Nat)} (hn : n ≤ 100) (hk : k ≤ 100) (h : ∀ c, some c ∈ t → c ≤ 100) (hl : t.length ≤ 256) : (textT n k t).length ≤ 3000 := by
  unfold textT
  rw [len_app, len_app, len_app, show ("\n" : Str).length = 1 by decide +kernel]
  have h1 := head_len hn hk
  have h2 := row_len h hl
  omega
theorem split_o {a b : Str} (h : a.length ≤ 1000000) (hb : (b.length == 0) = false) : oSplit (.str a) (.str b) = some (.new ((Txt.split a b).map PyData.str)) := by
  show (if (b.length == 0) = false ∧ a.length ≤ 1000000 then some (Rv.new ((Txt.split a b).map PyData.str)) else none) = _
  rw [if_pos ⟨hb, h⟩]
theorem isLO_s (r : Rv) (dl : S) (s : Str) : isLO isStD r dl (some (.str s)) = .ok r dl := rfl
def wd (c : Option Nat) : PyData := .str (wordT c)
theorem len_nl : ("\n" : Str).length = 1 := by decide +kernel
theorem len_sp : (" " : Str).length = 1 := by decide +kernel
theorem len_st : ("strip " : Str).length = 6 := by decide +kernel
theorem map_wd (t : List (Option Nat)) : (t.map wordT).map PyData.str = t.map wd := by rw [List.map_map]; rfl
theorem read_n {n k : Nat} {t : List (Option Nat)} (h1 : 1 ≤ n) (hn : n ≤ 8) (h2 : 2 ≤ k) (hk : k ≤ 100) (h : Tb n k t) : G_read_writing [] [.str (textT n k t)] = .val (wr n k t) [] := by
  have hc : ∀ c, some c ∈ t → c ≤ 100 := fun c hc => by have := h.2 c hc; omega
  have hp := pow_le hn
  have hl : t.length ≤ 256 := by rw [h.1]; exact hp
  have h0 : t ≠ [] := fun e => by
    have := h.1
    rw [e] at this
    have : 0 < 2 ^ n := Nat.pow_pos (by decide)
    simp at *
    omega
  have hcm : ∀ c ∈ t, ∀ m, c = some m → m ≤ 100 := fun c hcc m e => hc m (e ▸ hcc)
  have e1 : oSplit (.str (textT n k t)) (.str "\n") = some (.new [.str (headT n k), .str (rowT t), .str ""]) := by
    rw [split_o (by have := text_len (n := n) (k := k) (by omega) hk hc hl; omega) (by decide +kernel), split_text hc]
    rfl
  have e2 : oSplit (.str (headT n k)) (.str " ") = some (.new [.str "strip", .str (numT n), .str (numT k)]) := by
    rw [split_o (by have := head_len (n := n) (k := k) (by omega) hk; omega) (by decide +kernel), split_head]
    rfl
  have e3 : oSplit (.str (rowT t)) (.str " ") = some (.new (t.map wd)) := by
    rw [split_o (by have := row_len hc hl; omega) (by decide +kernel), split_row hc h0, map_wd]
  simp -implicitDefEqProofs (disch := (first | omega | (simp only [List.length_map, List.length_append, List.length_range, List.length_cons, List.length_nil, List.length_set, List.length_take, List.length_drop, List.length_replicate, List.length_reverse] <;> omega) | assumption)) only [w_Seq, w_seqN, w_seqR, w_seqC, w_seqB, w_seqX, iteF_t, iteF_f, iteO_t, iteO_f, KoB_, KtB_, sg0_, sgS_, w_var, vr_v, vr_o, w_rdS, rdO_v, rdO_o, w_stb, stO1_v, stO1_o, ob_s, w_isOwn, isOwnO_o, K1_, K1_x, w_1, K2b_, K2b_x, K2_, K2_x, w_2, Kc2_, Kc2_x, Kc_, Kc_x, w_cons, KB_, KB_x, w_B, Ktup_, Ktup_x, w_tup, Klst_, Klst_x, w_lst, KT_, KT_x, w_T, KtAnd_, KtAnd_x, w_tAnd, KtOr_, KtOr_x, w_tOr, KtNot_, KtNot_x, w_tNot, KAnd_, KAnd_x, w_And, KOr_, KOr_x, w_Or, KNot_, KNot_x, w_Not, KIte_, KIte_x, w_Ite, Kch4_, Kch4_x, Kch3f_, Kch3_, Kch3_x, Kch2_, Kch2_x, Kch_, Kch_x, w_ch, partO_i, KPart_, KPart_x, w_Part, slO_, KSl3_, KSl3_x, KSl2_, KSl2_x, KSl_, KSl_x, w_Sl, KDo_, KDo_x, w_Do, KRet_, KRet_x, w_Ret, KIf_, KIf_x, w_If, putK_, w_putl, KSet_, KSet_x, w_Set, KAug_, KAug_x, w_Aug, augO_i, unpO_2, unpO_3, w_tg2, w_tg3, KUnp_, KUnp_x, w_Unp, chgK_, w_chg, chgO_o, appK_, w_appR, w_app1, KApp_, KApp_x, KApp0_, w_App, stIK_, w_stIR, stIO_i, w_put1, KStI2_, KStI2_x, KStI1_, KStI_, KStI_x, w_StI, KIt_, KIt_x, w_It, KRng1_, KRng1_x, w_Rng1, KRng2_, KRng2_x, w_Rng2, it2O_, it1O_, KIt2_, KIt2_x, w_It2, KIt1_, KIt1_x, w_It1, KFor_, KFor_x, w_For, KComp_, KComp_x, w_Comp, KCall_, KCall_x, w_Call, KCallI_, KCallI_x, KCallI0_, w_CallI, w_mkTup, w_mkLst, rdsK2_, rdsK_, w_rds, stbsK2_, stbsK_, w_stbs, cP0, cP1, cP2, cP3, cP4, cP5, cP6, cP7, cIO_o, cI1, cI2, cI3, cI4, cI5, cI6, cI7, w_stOt, stOO_o, w_retFl, retO_v, retO_o, w_finR, w_finN, finO_s, w_runF, rp0, rpS, asE_x, stF_x, finX_s, w_finX, ev_c, ev_fin, ev_fin0, ev_o1, ev_o2, ev_rdv, ev_rdn, ev_rdl, ev_nil, ev_stlv, ev_stln, ev_stll, ev_rds0, ev_stbv, ev_stbn, ev_stbs0, ev_asB, ev_NoPart, ev_Nx, ev_putv, ev_putn, ev_ofO, ev_itL, ev_itT, ev_tgN, ev_for0, ev_wipeD0, ev_wipeD, ev_restD0, ev_restD, ev_endC, ev_Yes, ev_asEv, ev_asEn, ev_stFv, ev_stFn, ev_mkAf, ev_mkAt, ev_stOf, ev_retFv, ev_retFn, ev_vI, ev_vB, ev_oSlL, ev_oSlT, ev_oRevL, ev_bListL, ev_bListT, ev_bTupL, ev_bTupT, ev_isNone0, ev_isNoneI, ev_isNoneL, ev_isNoneT, ev_isNoneB, ev_isNoneS, n_add, n_sub, n_mul, n_mod, n_div, n_shl1, n_shl, n_shr, n_pow, n_and, n_or, n_xor, n_lt, n_le, n_gt, n_ge, n_eq, n_ne, bt1, bt0, d_ltT, d_ltF, d_leT, d_leF, d_eqT, d_eqF, c_eq, c_ne, c_eqc, c_nec, c_isN, l_ix, t_ix, l_ix0, l_ix1, l_ix2, l_ix3, l_ix4, l_ix5, t_ix0, t_ix1, t_ix2, l_len, t_len, cut_to, cut_from, l_addL, t_addT, w_rng1, w_rng2, n_max2, n_min2, n_sum, b_all, b_any, b_all0, b_intB, b_intN, i_intI, i_boolI, i_intB, i_boolB, i_tupT, i_lstL, i_tupL, i_lstT, i_intT, i_intL, i_tupI, i_lstI, i_intN, i_tupN, i_lstN, i_intS, i_tupS, i_lstS, i_tupB, i_lstB, r_isN, r_notN, wp_nx, wp_ret, wl_nx, wl_cnt, wl_brk, wl_ret, List.map_cons, List.map_nil, List.cons_append, List.nil_append, List.set_cons_zero, List.set_cons_succ, List.length_cons, List.length_nil, List.length_map, List.length_append, List.length_range, List.length_range', List.length_set, Bool.not_true, Bool.not_false, Bool.true_and, Bool.false_and, Bool.and_true, Bool.and_false, decide_true, decide_false, Nat.reduceSub, Nat.reduceAdd, Option.getD_some, vo_v, no_v, Nat.one_mul, l_eq, l_ne, t_eq, t_eqc, l_eq0, l_ne0, z_eq0, z_ne0, lc_ne0, lc_eq0, n_inL, n_inT, n_niL, n_niT, n_inC, if_true, if_false, Option.isNone_none, Option.isNone_some, n_augA, n_augS, List.append_nil, n_tr, n_lr, KStar2_, KStarO_, KStar_, w_Star, items_l, items_t, st_vals, KComp2_, w_Comp2, n_mulA, t_mulA1, t_mulA, l_repC, KOrT_, w_OrT, truO_n, truO_0, truO_i, KUnpL_, w_UnpL, unpLO_2, unpLO_3, KItE_, w_ItE, itEO_l, itEO_t, itZO_l, itZO_t, KItZ_, w_ItZ, enumD_map, zipD_map, cT1, cT2, cT3, KCallT2_, KCallT_, w_CallT, ev_oNeg, i_strS, b_sortP, b_is, b_nis, KIs_, w_Is, isLO_l, t_ix3, t_ix4, ba1, ba2, ba3, ba4, t_rev, KExt_, KExt0_, w_Ext, w_extR, w_ext1, KTru_, w_Tru, truT_, truD_l, truD_t, g_get, isLO_d, KDComp_, w_DComp, G_read_writing, D_read_writing, w_Par, KPar_, parO_, e1, e2, e3, isLO_s, neS_self, head_n (show n ≤ 100 by omega) hk]
  rw [cmpM (fun _ => true) PyData.bool]
  · simp -implicitDefEqProofs (disch := (first | omega | (simp only [List.length_map, List.length_append, List.length_range, List.length_cons, List.length_nil, List.length_set, List.length_take, List.length_drop, List.length_replicate, List.length_reverse] <;> omega) | assumption)) only [w_Seq, w_seqN, w_seqR, w_seqC, w_seqB, w_seqX, iteF_t, iteF_f, iteO_t, iteO_f, KoB_, KtB_, sg0_, sgS_, w_var, vr_v, vr_o, w_rdS, rdO_v, rdO_o, w_stb, stO1_v, stO1_o, ob_s, w_isOwn, isOwnO_o, K1_, K1_x, w_1, K2b_, K2b_x, K2_, K2_x, w_2, Kc2_, Kc2_x, Kc_, Kc_x, w_cons, KB_, KB_x, w_B, Ktup_, Ktup_x, w_tup, Klst_, Klst_x, w_lst, KT_, KT_x, w_T, KtAnd_, KtAnd_x, w_tAnd, KtOr_, KtOr_x, w_tOr, KtNot_, KtNot_x, w_tNot, KAnd_, KAnd_x, w_And, KOr_, KOr_x, w_Or, KNot_, KNot_x, w_Not, KIte_, KIte_x, w_Ite, Kch4_, Kch4_x, Kch3f_, Kch3_, Kch3_x, Kch2_, Kch2_x, Kch_, Kch_x, w_ch, partO_i, KPart_, KPart_x, w_Part, slO_, KSl3_, KSl3_x, KSl2_, KSl2_x, KSl_, KSl_x, w_Sl, KDo_, KDo_x, w_Do, KRet_, KRet_x, w_Ret, KIf_, KIf_x, w_If, putK_, w_putl, KSet_, KSet_x, w_Set, KAug_, KAug_x, w_Aug, augO_i, unpO_2, unpO_3, w_tg2, w_tg3, KUnp_, KUnp_x, w_Unp, chgK_, w_chg, chgO_o, appK_, w_appR, w_app1, KApp_, KApp_x, KApp0_, w_App, stIK_, w_stIR, stIO_i, w_put1, KStI2_, KStI2_x, KStI1_, KStI_, KStI_x, w_StI, KIt_, KIt_x, w_It, KRng1_, KRng1_x, w_Rng1, KRng2_, KRng2_x, w_Rng2, it2O_, it1O_, KIt2_, KIt2_x, w_It2, KIt1_, KIt1_x, w_It1, KFor_, KFor_x, w_For, KComp_, KComp_x, w_Comp, KCall_, KCall_x, w_Call, KCallI_, KCallI_x, KCallI0_, w_CallI, w_mkTup, w_mkLst, rdsK2_, rdsK_, w_rds, stbsK2_, stbsK_, w_stbs, cP0, cP1, cP2, cP3, cP4, cP5, cP6, cP7, cIO_o, cI1, cI2, cI3, cI4, cI5, cI6, cI7, w_stOt, stOO_o, w_retFl, retO_v, retO_o, w_finR, w_finN, finO_s, w_runF, rp0, rpS, asE_x, stF_x, finX_s, w_finX, ev_c, ev_fin, ev_fin0, ev_o1, ev_o2, ev_rdv, ev_rdn, ev_rdl, ev_nil, ev_stlv, ev_stln, ev_stll, ev_rds0, ev_stbv, ev_stbn, ev_stbs0, ev_asB, ev_NoPart, ev_Nx, ev_putv, ev_putn, ev_ofO, ev_itL, ev_itT, ev_tgN, ev_for0, ev_wipeD0, ev_wipeD, ev_restD0, ev_restD, ev_endC, ev_Yes, ev_asEv, ev_asEn, ev_stFv, ev_stFn, ev_mkAf, ev_mkAt, ev_stOf, ev_retFv, ev_retFn, ev_vI, ev_vB, ev_oSlL, ev_oSlT, ev_oRevL, ev_bListL, ev_bListT, ev_bTupL, ev_bTupT, ev_isNone0, ev_isNoneI, ev_isNoneL, ev_isNoneT, ev_isNoneB, ev_isNoneS, n_add, n_sub, n_mul, n_mod, n_div, n_shl1, n_shl, n_shr, n_pow, n_and, n_or, n_xor, n_lt, n_le, n_gt, n_ge, n_eq, n_ne, bt1, bt0, d_ltT, d_ltF, d_leT, d_leF, d_eqT, d_eqF, c_eq, c_ne, c_eqc, c_nec, c_isN, l_ix, t_ix, l_ix0, l_ix1, l_ix2, l_ix3, l_ix4, l_ix5, t_ix0, t_ix1, t_ix2, l_len, t_len, cut_to, cut_from, l_addL, t_addT, w_rng1, w_rng2, n_max2, n_min2, n_sum, b_all, b_any, b_all0, b_intB, b_intN, i_intI, i_boolI, i_intB, i_boolB, i_tupT, i_lstL, i_tupL, i_lstT, i_intT, i_intL, i_tupI, i_lstI, i_intN, i_tupN, i_lstN, i_intS, i_tupS, i_lstS, i_tupB, i_lstB, r_isN, r_notN, wp_nx, wp_ret, wl_nx, wl_cnt, wl_brk, wl_ret, List.map_cons, List.map_nil, List.cons_append, List.nil_append, List.set_cons_zero, List.set_cons_succ, List.length_cons, List.length_nil, List.length_map, List.length_append, List.length_range, List.length_range', List.length_set, Bool.not_true, Bool.not_false, Bool.true_and, Bool.false_and, Bool.and_true, Bool.and_false, decide_true, decide_false, Nat.reduceSub, Nat.reduceAdd, Option.getD_some, vo_v, no_v, Nat.one_mul, l_eq, l_ne, t_eq, t_eqc, l_eq0, l_ne0, z_eq0, z_ne0, lc_ne0, lc_eq0, n_inL, n_inT, n_niL, n_niT, n_inC, if_true, if_false, Option.isNone_none, Option.isNone_some, n_augA, n_augS, List.append_nil, n_tr, n_lr, KStar2_, KStarO_, KStar_, w_Star, items_l, items_t, st_vals, KComp2_, w_Comp2, n_mulA, t_mulA1, t_mulA, l_repC, KOrT_, w_OrT, truO_n, truO_0, truO_i, KUnpL_, w_UnpL, unpLO_2, unpLO_3, KItE_, w_ItE, itEO_l, itEO_t, itZO_l, itZO_t, KItZ_, w_ItZ, enumD_map, zipD_map, cT1, cT2, cT3, KCallT2_, KCallT_, w_CallT, ev_oNeg, i_strS, b_sortP, b_is, b_nis, KIs_, w_Is, isLO_l, t_ix3, t_ix4, ba1, ba2, ba3, ba4, t_rev, KExt_, KExt0_, w_Ext, w_extR, w_ext1, KTru_, w_Tru, truT_, truD_l, truD_t, g_get, isLO_d, KDComp_, w_DComp]
    rw [show (List.map (fun _ => true) t).all id = true by simp]
    simp -implicitDefEqProofs (disch := (first | omega | (simp only [List.length_map, List.length_append, List.length_range, List.length_cons, List.length_nil, List.length_set, List.length_take, List.length_drop, List.length_replicate, List.length_reverse] <;> omega) | assumption)) only [w_Seq, w_seqN, w_seqR, w_seqC, w_seqB, w_seqX, iteF_t, iteF_f, iteO_t, iteO_f, KoB_, KtB_, sg0_, sgS_, w_var, vr_v, vr_o, w_rdS, rdO_v, rdO_o, w_stb, stO1_v, stO1_o, ob_s, w_isOwn, isOwnO_o, K1_, K1_x, w_1, K2b_, K2b_x, K2_, K2_x, w_2, Kc2_, Kc2_x, Kc_, Kc_x, w_cons, KB_, KB_x, w_B, Ktup_, Ktup_x, w_tup, Klst_, Klst_x, w_lst, KT_, KT_x, w_T, KtAnd_, KtAnd_x, w_tAnd, KtOr_, KtOr_x, w_tOr, KtNot_, KtNot_x, w_tNot, KAnd_, KAnd_x, w_And, KOr_, KOr_x, w_Or, KNot_, KNot_x, w_Not, KIte_, KIte_x, w_Ite, Kch4_, Kch4_x, Kch3f_, Kch3_, Kch3_x, Kch2_, Kch2_x, Kch_, Kch_x, w_ch, partO_i, KPart_, KPart_x, w_Part, slO_, KSl3_, KSl3_x, KSl2_, KSl2_x, KSl_, KSl_x, w_Sl, KDo_, KDo_x, w_Do, KRet_, KRet_x, w_Ret, KIf_, KIf_x, w_If, putK_, w_putl, KSet_, KSet_x, w_Set, KAug_, KAug_x, w_Aug, augO_i, unpO_2, unpO_3, w_tg2, w_tg3, KUnp_, KUnp_x, w_Unp, chgK_, w_chg, chgO_o, appK_, w_appR, w_app1, KApp_, KApp_x, KApp0_, w_App, stIK_, w_stIR, stIO_i, w_put1, KStI2_, KStI2_x, KStI1_, KStI_, KStI_x, w_StI, KIt_, KIt_x, w_It, KRng1_, KRng1_x, w_Rng1, KRng2_, KRng2_x, w_Rng2, it2O_, it1O_, KIt2_, KIt2_x, w_It2, KIt1_, KIt1_x, w_It1, KFor_, KFor_x, w_For, KComp_, KComp_x, w_Comp, KCall_, KCall_x, w_Call, KCallI_, KCallI_x, KCallI0_, w_CallI, w_mkTup, w_mkLst, rdsK2_, rdsK_, w_rds, stbsK2_, stbsK_, w_stbs, cP0, cP1, cP2, cP3, cP4, cP5, cP6, cP7, cIO_o, cI1, cI2, cI3, cI4, cI5, cI6, cI7, w_stOt, stOO_o, w_retFl, retO_v, retO_o, w_finR, w_finN, finO_s, w_runF, rp0, rpS, asE_x, stF_x, finX_s, w_finX, ev_c, ev_fin, ev_fin0, ev_o1, ev_o2, ev_rdv, ev_rdn, ev_rdl, ev_nil, ev_stlv, ev_stln, ev_stll, ev_rds0, ev_stbv, ev_stbn, ev_stbs0, ev_asB, ev_NoPart, ev_Nx, ev_putv, ev_putn, ev_ofO, ev_itL, ev_itT, ev_tgN, ev_for0, ev_wipeD0, ev_wipeD, ev_restD0, ev_restD, ev_endC, ev_Yes, ev_asEv, ev_asEn, ev_stFv, ev_stFn, ev_mkAf, ev_mkAt, ev_stOf, ev_retFv, ev_retFn, ev_vI, ev_vB, ev_oSlL, ev_oSlT, ev_oRevL, ev_bListL, ev_bListT, ev_bTupL, ev_bTupT, ev_isNone0, ev_isNoneI, ev_isNoneL, ev_isNoneT, ev_isNoneB, ev_isNoneS, n_add, n_sub, n_mul, n_mod, n_div, n_shl1, n_shl, n_shr, n_pow, n_and, n_or, n_xor, n_lt, n_le, n_gt, n_ge, n_eq, n_ne, bt1, bt0, d_ltT, d_ltF, d_leT, d_leF, d_eqT, d_eqF, c_eq, c_ne, c_eqc, c_nec, c_isN, l_ix, t_ix, l_ix0, l_ix1, l_ix2, l_ix3, l_ix4, l_ix5, t_ix0, t_ix1, t_ix2, l_len, t_len, cut_to, cut_from, l_addL, t_addT, w_rng1, w_rng2, n_max2, n_min2, n_sum, b_all, b_any, b_all0, b_intB, b_intN, i_intI, i_boolI, i_intB, i_boolB, i_tupT, i_lstL, i_tupL, i_lstT, i_intT, i_intL, i_tupI, i_lstI, i_intN, i_tupN, i_lstN, i_intS, i_tupS, i_lstS, i_tupB, i_lstB, r_isN, r_notN, wp_nx, wp_ret, wl_nx, wl_cnt, wl_brk, wl_ret, List.map_cons, List.map_nil, List.cons_append, List.nil_append, List.set_cons_zero, List.set_cons_succ, List.length_cons, List.length_nil, List.length_map, List.length_append, List.length_range, List.length_range', List.length_set, Bool.not_true, Bool.not_false, Bool.true_and, Bool.false_and, Bool.and_true, Bool.and_false, decide_true, decide_false, Nat.reduceSub, Nat.reduceAdd, Option.getD_some, vo_v, no_v, Nat.one_mul, l_eq, l_ne, t_eq, t_eqc, l_eq0, l_ne0, z_eq0, z_ne0, lc_ne0, lc_eq0, n_inL, n_inT, n_niL, n_niT, n_inC, if_true, if_false, Option.isNone_none, Option.isNone_some, n_augA, n_augS, List.append_nil, n_tr, n_lr, KStar2_, KStarO_, KStar_, w_Star, items_l, items_t, st_vals, KComp2_, w_Comp2, n_mulA, t_mulA1, t_mulA, l_repC, KOrT_, w_OrT, truO_n, truO_0, truO_i, KUnpL_, w_UnpL, unpLO_2, unpLO_3, KItE_, w_ItE, itEO_l, itEO_t, itZO_l, itZO_t, KItZ_, w_ItZ, enumD_map, zipD_map, cT1, cT2, cT3, KCallT2_, KCallT_, w_CallT, ev_oNeg, i_strS, b_sortP, b_is, b_nis, KIs_, w_Is, isLO_l, t_ix3, t_ix4, ba1, ba2, ba3, ba4, t_rev, KExt_, KExt0_, w_Ext, w_extR, w_ext1, KTru_, w_Tru, truT_, truD_l, truD_t, g_get, isLO_d, KDComp_, w_DComp]
    rw [cmpM (fun c => c) cell]
    · simp -implicitDefEqProofs (disch := (first | omega | (simp only [List.length_map, List.length_append, List.length_range, List.length_cons, List.length_nil, List.length_set, List.length_take, List.length_drop, List.length_replicate, List.length_reverse] <;> omega) | assumption)) only [w_Seq, w_seqN, w_seqR, w_seqC, w_seqB, w_seqX, iteF_t, iteF_f, iteO_t, iteO_f, KoB_, KtB_, sg0_, sgS_, w_var, vr_v, vr_o, w_rdS, rdO_v, rdO_o, w_stb, stO1_v, stO1_o, ob_s, w_isOwn, isOwnO_o, K1_, K1_x, w_1, K2b_, K2b_x, K2_, K2_x, w_2, Kc2_, Kc2_x, Kc_, Kc_x, w_cons, KB_, KB_x, w_B, Ktup_, Ktup_x, w_tup, Klst_, Klst_x, w_lst, KT_, KT_x, w_T, KtAnd_, KtAnd_x, w_tAnd, KtOr_, KtOr_x, w_tOr, KtNot_, KtNot_x, w_tNot, KAnd_, KAnd_x, w_And, KOr_, KOr_x, w_Or, KNot_, KNot_x, w_Not, KIte_, KIte_x, w_Ite, Kch4_, Kch4_x, Kch3f_, Kch3_, Kch3_x, Kch2_, Kch2_x, Kch_, Kch_x, w_ch, partO_i, KPart_, KPart_x, w_Part, slO_, KSl3_, KSl3_x, KSl2_, KSl2_x, KSl_, KSl_x, w_Sl, KDo_, KDo_x, w_Do, KRet_, KRet_x, w_Ret, KIf_, KIf_x, w_If, putK_, w_putl, KSet_, KSet_x, w_Set, KAug_, KAug_x, w_Aug, augO_i, unpO_2, unpO_3, w_tg2, w_tg3, KUnp_, KUnp_x, w_Unp, chgK_, w_chg, chgO_o, appK_, w_appR, w_app1, KApp_, KApp_x, KApp0_, w_App, stIK_, w_stIR, stIO_i, w_put1, KStI2_, KStI2_x, KStI1_, KStI_, KStI_x, w_StI, KIt_, KIt_x, w_It, KRng1_, KRng1_x, w_Rng1, KRng2_, KRng2_x, w_Rng2, it2O_, it1O_, KIt2_, KIt2_x, w_It2, KIt1_, KIt1_x, w_It1, KFor_, KFor_x, w_For, KComp_, KComp_x, w_Comp, KCall_, KCall_x, w_Call, KCallI_, KCallI_x, KCallI0_, w_CallI, w_mkTup, w_mkLst, rdsK2_, rdsK_, w_rds, stbsK2_, stbsK_, w_stbs, cP0, cP1, cP2, cP3, cP4, cP5, cP6, cP7, cIO_o, cI1, cI2, cI3, cI4, cI5, cI6, cI7, w_stOt, stOO_o, w_retFl, retO_v, retO_o, w_finR, w_finN, finO_s, w_runF, rp0, rpS, asE_x, stF_x, finX_s, w_finX, ev_c, ev_fin, ev_fin0, ev_o1, ev_o2, ev_rdv, ev_rdn, ev_rdl, ev_nil, ev_stlv, ev_stln, ev_stll, ev_rds0, ev_stbv, ev_stbn, ev_stbs0, ev_asB, ev_NoPart, ev_Nx, ev_putv, ev_putn, ev_ofO, ev_itL, ev_itT, ev_tgN, ev_for0, ev_wipeD0, ev_wipeD, ev_restD0, ev_restD, ev_endC, ev_Yes, ev_asEv, ev_asEn, ev_stFv, ev_stFn, ev_mkAf, ev_mkAt, ev_stOf, ev_retFv, ev_retFn, ev_vI, ev_vB, ev_oSlL, ev_oSlT, ev_oRevL, ev_bListL, ev_bListT, ev_bTupL, ev_bTupT, ev_isNone0, ev_isNoneI, ev_isNoneL, ev_isNoneT, ev_isNoneB, ev_isNoneS, n_add, n_sub, n_mul, n_mod, n_div, n_shl1, n_shl, n_shr, n_pow, n_and, n_or, n_xor, n_lt, n_le, n_gt, n_ge, n_eq, n_ne, bt1, bt0, d_ltT, d_ltF, d_leT, d_leF, d_eqT, d_eqF, c_eq, c_ne, c_eqc, c_nec, c_isN, l_ix, t_ix, l_ix0, l_ix1, l_ix2, l_ix3, l_ix4, l_ix5, t_ix0, t_ix1, t_ix2, l_len, t_len, cut_to, cut_from, l_addL, t_addT, w_rng1, w_rng2, n_max2, n_min2, n_sum, b_all, b_any, b_all0, b_intB, b_intN, i_intI, i_boolI, i_intB, i_boolB, i_tupT, i_lstL, i_tupL, i_lstT, i_intT, i_intL, i_tupI, i_lstI, i_intN, i_tupN, i_lstN, i_intS, i_tupS, i_lstS, i_tupB, i_lstB, r_isN, r_notN, wp_nx, wp_ret, wl_nx, wl_cnt, wl_brk, wl_ret, List.map_cons, List.map_nil, List.cons_append, List.nil_append, List.set_cons_zero, List.set_cons_succ, List.length_cons, List.length_nil, List.length_map, List.length_append, List.length_range, List.length_range', List.length_set, Bool.not_true, Bool.not_false, Bool.true_and, Bool.false_and, Bool.and_true, Bool.and_false, decide_true, decide_false, Nat.reduceSub, Nat.reduceAdd, Option.getD_some, vo_v, no_v, Nat.one_mul, l_eq, l_ne, t_eq, t_eqc, l_eq0, l_ne0, z_eq0, z_ne0, lc_ne0, lc_eq0, n_inL, n_inT, n_niL, n_niT, n_inC, if_true, if_false, Option.isNone_none, Option.isNone_some, n_augA, n_augS, List.append_nil, n_tr, n_lr, KStar2_, KStarO_, KStar_, w_Star, items_l, items_t, st_vals, KComp2_, w_Comp2, n_mulA, t_mulA1, t_mulA, l_repC, KOrT_, w_OrT, truO_n, truO_0, truO_i, KUnpL_, w_UnpL, unpLO_2, unpLO_3, KItE_, w_ItE, itEO_l, itEO_t, itZO_l, itZO_t, KItZ_, w_ItZ, enumD_map, zipD_map, cT1, cT2, cT3, KCallT2_, KCallT_, w_CallT, ev_oNeg, i_strS, b_sortP, b_is, b_nis, KIs_, w_Is, isLO_l, t_ix3, t_ix4, ba1, ba2, ba3, ba4, t_rev, KExt_, KExt0_, w_Ext, w_extR, w_ext1, KTru_, w_Tru, truT_, truD_l, truD_t, g_get, isLO_d, KDComp_, w_DComp, b_int (show n ≤ 100 by omega), b_int hk, w_TryR]
      rw [List.map_id']
      simp -implicitDefEqProofs (disch := (first | omega | (simp only [List.length_map, List.length_append, List.length_range, List.length_cons, List.length_nil, List.length_set, List.length_take, List.length_drop, List.length_replicate, List.length_reverse] <;> omega) | assumption)) only [w_Seq, w_seqN, w_seqR, w_seqC, w_seqB, w_seqX, iteF_t, iteF_f, iteO_t, iteO_f, KoB_, KtB_, sg0_, sgS_, w_var, vr_v, vr_o, w_rdS, rdO_v, rdO_o, w_stb, stO1_v, stO1_o, ob_s, w_isOwn, isOwnO_o, K1_, K1_x, w_1, K2b_, K2b_x, K2_, K2_x, w_2, Kc2_, Kc2_x, Kc_, Kc_x, w_cons, KB_, KB_x, w_B, Ktup_, Ktup_x, w_tup, Klst_, Klst_x, w_lst, KT_, KT_x, w_T, KtAnd_, KtAnd_x, w_tAnd, KtOr_, KtOr_x, w_tOr, KtNot_, KtNot_x, w_tNot, KAnd_, KAnd_x, w_And, KOr_, KOr_x, w_Or, KNot_, KNot_x, w_Not, KIte_, KIte_x, w_Ite, Kch4_, Kch4_x, Kch3f_, Kch3_, Kch3_x, Kch2_, Kch2_x, Kch_, Kch_x, w_ch, partO_i, KPart_, KPart_x, w_Part, slO_, KSl3_, KSl3_x, KSl2_, KSl2_x, KSl_, KSl_x, w_Sl, KDo_, KDo_x, w_Do, KRet_, KRet_x, w_Ret, KIf_, KIf_x, w_If, putK_, w_putl, KSet_, KSet_x, w_Set, KAug_, KAug_x, w_Aug, augO_i, unpO_2, unpO_3, w_tg2, w_tg3, KUnp_, KUnp_x, w_Unp, chgK_, w_chg, chgO_o, appK_, w_appR, w_app1, KApp_, KApp_x, KApp0_, w_App, stIK_, w_stIR, stIO_i, w_put1, KStI2_, KStI2_x, KStI1_, KStI_, KStI_x, w_StI, KIt_, KIt_x, w_It, KRng1_, KRng1_x, w_Rng1, KRng2_, KRng2_x, w_Rng2, it2O_, it1O_, KIt2_, KIt2_x, w_It2, KIt1_, KIt1_x, w_It1, KFor_, KFor_x, w_For, KComp_, KComp_x, w_Comp, KCall_, KCall_x, w_Call, KCallI_, KCallI_x, KCallI0_, w_CallI, w_mkTup, w_mkLst, rdsK2_, rdsK_, w_rds, stbsK2_, stbsK_, w_stbs, cP0, cP1, cP2, cP3, cP4, cP5, cP6, cP7, cIO_o, cI1, cI2, cI3, cI4, cI5, cI6, cI7, w_stOt, stOO_o, w_retFl, retO_v, retO_o, w_finR, w_finN, finO_s, w_runF, rp0, rpS, asE_x, stF_x, finX_s, w_finX, ev_c, ev_fin, ev_fin0, ev_o1, ev_o2, ev_rdv, ev_rdn, ev_rdl, ev_nil, ev_stlv, ev_stln, ev_stll, ev_rds0, ev_stbv, ev_stbn, ev_stbs0, ev_asB, ev_NoPart, ev_Nx, ev_putv, ev_putn, ev_ofO, ev_itL, ev_itT, ev_tgN, ev_for0, ev_wipeD0, ev_wipeD, ev_restD0, ev_restD, ev_endC, ev_Yes, ev_asEv, ev_asEn, ev_stFv, ev_stFn, ev_mkAf, ev_mkAt, ev_stOf, ev_retFv, ev_retFn, ev_vI, ev_vB, ev_oSlL, ev_oSlT, ev_oRevL, ev_bListL, ev_bListT, ev_bTupL, ev_bTupT, ev_isNone0, ev_isNoneI, ev_isNoneL, ev_isNoneT, ev_isNoneB, ev_isNoneS, n_add, n_sub, n_mul, n_mod, n_div, n_shl1, n_shl, n_shr, n_pow, n_and, n_or, n_xor, n_lt, n_le, n_gt, n_ge, n_eq, n_ne, bt1, bt0, d_ltT, d_ltF, d_leT, d_leF, d_eqT, d_eqF, c_eq, c_ne, c_eqc, c_nec, c_isN, l_ix, t_ix, l_ix0, l_ix1, l_ix2, l_ix3, l_ix4, l_ix5, t_ix0, t_ix1, t_ix2, l_len, t_len, cut_to, cut_from, l_addL, t_addT, w_rng1, w_rng2, n_max2, n_min2, n_sum, b_all, b_any, b_all0, b_intB, b_intN, i_intI, i_boolI, i_intB, i_boolB, i_tupT, i_lstL, i_tupL, i_lstT, i_intT, i_intL, i_tupI, i_lstI, i_intN, i_tupN, i_lstN, i_intS, i_tupS, i_lstS, i_tupB, i_lstB, r_isN, r_notN, wp_nx, wp_ret, wl_nx, wl_cnt, wl_brk, wl_ret, List.map_cons, List.map_nil, List.cons_append, List.nil_append, List.set_cons_zero, List.set_cons_succ, List.length_cons, List.length_nil, List.length_map, List.length_append, List.length_range, List.length_range', List.length_set, Bool.not_true, Bool.not_false, Bool.true_and, Bool.false_and, Bool.and_true, Bool.and_false, decide_true, decide_false, Nat.reduceSub, Nat.reduceAdd, Option.getD_some, vo_v, no_v, Nat.one_mul, l_eq, l_ne, t_eq, t_eqc, l_eq0, l_ne0, z_eq0, z_ne0, lc_ne0, lc_eq0, n_inL, n_inT, n_niL, n_niT, n_inC, if_true, if_false, Option.isNone_none, Option.isNone_some, n_augA, n_augS, List.append_nil, n_tr, n_lr, KStar2_, KStarO_, KStar_, w_Star, items_l, items_t, st_vals, KComp2_, w_Comp2, n_mulA, t_mulA1, t_mulA, l_repC, KOrT_, w_OrT, truO_n, truO_0, truO_i, KUnpL_, w_UnpL, unpLO_2, unpLO_3, KItE_, w_ItE, itEO_l, itEO_t, itZO_l, itZO_t, KItZ_, w_ItZ, enumD_map, zipD_map, cT1, cT2, cT3, KCallT2_, KCallT_, w_CallT, ev_oNeg, i_strS, b_sortP, b_is, b_nis, KIs_, w_Is, isLO_l, t_ix3, t_ix4, ba1, ba2, ba3, ba4, t_rev, KExt_, KExt0_, w_Ext, w_extR, w_ext1, KTru_, w_Tru, truT_, truD_l, truD_t, g_get, isLO_d, KDComp_, w_DComp, show PyData.tuple (t.map cell) = tab t from rfl, made_spec h1 hn h2 hk h, tryR_ret]
      rfl
    · intro c hcc
      cases c with
      | none => exact ⟨.val .none, by simp -implicitDefEqProofs (disch := (first | omega | (simp only [List.length_map, List.length_append, List.length_range, List.length_cons, List.length_nil, List.length_set, List.length_take, List.length_drop, List.length_replicate, List.length_reverse] <;> omega) | assumption)) only [w_Seq, w_seqN, w_seqR, w_seqC, w_seqB, w_seqX, iteF_t, iteF_f, iteO_t, iteO_f, KoB_, KtB_, sg0_, sgS_, w_var, vr_v, vr_o, w_rdS, rdO_v, rdO_o, w_stb, stO1_v, stO1_o, ob_s, w_isOwn, isOwnO_o, K1_, K1_x, w_1, K2b_, K2b_x, K2_, K2_x, w_2, Kc2_, Kc2_x, Kc_, Kc_x, w_cons, KB_, KB_x, w_B, Ktup_, Ktup_x, w_tup, Klst_, Klst_x, w_lst, KT_, KT_x, w_T, KtAnd_, KtAnd_x, w_tAnd, KtOr_, KtOr_x, w_tOr, KtNot_, KtNot_x, w_tNot, KAnd_, KAnd_x, w_And, KOr_, KOr_x, w_Or, KNot_, KNot_x, w_Not, KIte_, KIte_x, w_Ite, Kch4_, Kch4_x, Kch3f_, Kch3_, Kch3_x, Kch2_, Kch2_x, Kch_, Kch_x, w_ch, partO_i, KPart_, KPart_x, w_Part, slO_, KSl3_, KSl3_x, KSl2_, KSl2_x, KSl_, KSl_x, w_Sl, KDo_, KDo_x, w_Do, KRet_, KRet_x, w_Ret, KIf_, KIf_x, w_If, putK_, w_putl, KSet_, KSet_x, w_Set, KAug_, KAug_x, w_Aug, augO_i, unpO_2, unpO_3, w_tg2, w_tg3, KUnp_, KUnp_x, w_Unp, chgK_, w_chg, chgO_o, appK_, w_appR, w_app1, KApp_, KApp_x, KApp0_, w_App, stIK_, w_stIR, stIO_i, w_put1, KStI2_, KStI2_x, KStI1_, KStI_, KStI_x, w_StI, KIt_, KIt_x, w_It, KRng1_, KRng1_x, w_Rng1, KRng2_, KRng2_x, w_Rng2, it2O_, it1O_, KIt2_, KIt2_x, w_It2, KIt1_, KIt1_x, w_It1, KFor_, KFor_x, w_For, KComp_, KComp_x, w_Comp, KCall_, KCall_x, w_Call, KCallI_, KCallI_x, KCallI0_, w_CallI, w_mkTup, w_mkLst, rdsK2_, rdsK_, w_rds, stbsK2_, stbsK_, w_stbs, cP0, cP1, cP2, cP3, cP4, cP5, cP6, cP7, cIO_o, cI1, cI2, cI3, cI4, cI5, cI6, cI7, w_stOt, stOO_o, w_retFl, retO_v, retO_o, w_finR, w_finN, finO_s, w_runF, rp0, rpS, asE_x, stF_x, finX_s, w_finX, ev_c, ev_fin, ev_fin0, ev_o1, ev_o2, ev_rdv, ev_rdn, ev_rdl, ev_nil, ev_stlv, ev_stln, ev_stll, ev_rds0, ev_stbv, ev_stbn, ev_stbs0, ev_asB, ev_NoPart, ev_Nx, ev_putv, ev_putn, ev_ofO, ev_itL, ev_itT, ev_tgN, ev_for0, ev_wipeD0, ev_wipeD, ev_restD0, ev_restD, ev_endC, ev_Yes, ev_asEv, ev_asEn, ev_stFv, ev_stFn, ev_mkAf, ev_mkAt, ev_stOf, ev_retFv, ev_retFn, ev_vI, ev_vB, ev_oSlL, ev_oSlT, ev_oRevL, ev_bListL, ev_bListT, ev_bTupL, ev_bTupT, ev_isNone0, ev_isNoneI, ev_isNoneL, ev_isNoneT, ev_isNoneB, ev_isNoneS, n_add, n_sub, n_mul, n_mod, n_div, n_shl1, n_shl, n_shr, n_pow, n_and, n_or, n_xor, n_lt, n_le, n_gt, n_ge, n_eq, n_ne, bt1, bt0, d_ltT, d_ltF, d_leT, d_leF, d_eqT, d_eqF, c_eq, c_ne, c_eqc, c_nec, c_isN, l_ix, t_ix, l_ix0, l_ix1, l_ix2, l_ix3, l_ix4, l_ix5, t_ix0, t_ix1, t_ix2, l_len, t_len, cut_to, cut_from, l_addL, t_addT, w_rng1, w_rng2, n_max2, n_min2, n_sum, b_all, b_any, b_all0, b_intB, b_intN, i_intI, i_boolI, i_intB, i_boolB, i_tupT, i_lstL, i_tupL, i_lstT, i_intT, i_intL, i_tupI, i_lstI, i_intN, i_tupN, i_lstN, i_intS, i_tupS, i_lstS, i_tupB, i_lstB, r_isN, r_notN, wp_nx, wp_ret, wl_nx, wl_cnt, wl_brk, wl_ret, List.map_cons, List.map_nil, List.cons_append, List.nil_append, List.set_cons_zero, List.set_cons_succ, List.length_cons, List.length_nil, List.length_map, List.length_append, List.length_range, List.length_range', List.length_set, Bool.not_true, Bool.not_false, Bool.true_and, Bool.false_and, Bool.and_true, Bool.and_false, decide_true, decide_false, Nat.reduceSub, Nat.reduceAdd, Option.getD_some, vo_v, no_v, Nat.one_mul, l_eq, l_ne, t_eq, t_eqc, l_eq0, l_ne0, z_eq0, z_ne0, lc_ne0, lc_eq0, n_inL, n_inT, n_niL, n_niT, n_inC, if_true, if_false, Option.isNone_none, Option.isNone_some, n_augA, n_augS, List.append_nil, n_tr, n_lr, KStar2_, KStarO_, KStar_, w_Star, items_l, items_t, st_vals, KComp2_, w_Comp2, n_mulA, t_mulA1, t_mulA, l_repC, KOrT_, w_OrT, truO_n, truO_0, truO_i, KUnpL_, w_UnpL, unpLO_2, unpLO_3, KItE_, w_ItE, itEO_l, itEO_t, itZO_l, itZO_t, KItZ_, w_ItZ, enumD_map, zipD_map, cT1, cT2, cT3, KCallT2_, KCallT_, w_CallT, ev_oNeg, i_strS, b_sortP, b_is, b_nis, KIs_, w_Is, isLO_l, t_ix3, t_ix4, ba1, ba2, ba3, ba4, t_rev, KExt_, KExt0_, w_Ext, w_extR, w_ext1, KTru_, w_Tru, truT_, truD_l, truD_t, g_get, isLO_d, KDComp_, w_DComp, wd, wordT, eqS_self], rfl⟩
      | some m =>
        have hm := hc m hcc
        exact ⟨.val (nI m), by simp -implicitDefEqProofs (disch := (first | omega | (simp only [List.length_map, List.length_append, List.length_range, List.length_cons, List.length_nil, List.length_set, List.length_take, List.length_drop, List.length_replicate, List.length_reverse] <;> omega) | assumption)) only [w_Seq, w_seqN, w_seqR, w_seqC, w_seqB, w_seqX, iteF_t, iteF_f, iteO_t, iteO_f, KoB_, KtB_, sg0_, sgS_, w_var, vr_v, vr_o, w_rdS, rdO_v, rdO_o, w_stb, stO1_v, stO1_o, ob_s, w_isOwn, isOwnO_o, K1_, K1_x, w_1, K2b_, K2b_x, K2_, K2_x, w_2, Kc2_, Kc2_x, Kc_, Kc_x, w_cons, KB_, KB_x, w_B, Ktup_, Ktup_x, w_tup, Klst_, Klst_x, w_lst, KT_, KT_x, w_T, KtAnd_, KtAnd_x, w_tAnd, KtOr_, KtOr_x, w_tOr, KtNot_, KtNot_x, w_tNot, KAnd_, KAnd_x, w_And, KOr_, KOr_x, w_Or, KNot_, KNot_x, w_Not, KIte_, KIte_x, w_Ite, Kch4_, Kch4_x, Kch3f_, Kch3_, Kch3_x, Kch2_, Kch2_x, Kch_, Kch_x, w_ch, partO_i, KPart_, KPart_x, w_Part, slO_, KSl3_, KSl3_x, KSl2_, KSl2_x, KSl_, KSl_x, w_Sl, KDo_, KDo_x, w_Do, KRet_, KRet_x, w_Ret, KIf_, KIf_x, w_If, putK_, w_putl, KSet_, KSet_x, w_Set, KAug_, KAug_x, w_Aug, augO_i, unpO_2, unpO_3, w_tg2, w_tg3, KUnp_, KUnp_x, w_Unp, chgK_, w_chg, chgO_o, appK_, w_appR, w_app1, KApp_, KApp_x, KApp0_, w_App, stIK_, w_stIR, stIO_i, w_put1, KStI2_, KStI2_x, KStI1_, KStI_, KStI_x, w_StI, KIt_, KIt_x, w_It, KRng1_, KRng1_x, w_Rng1, KRng2_, KRng2_x, w_Rng2, it2O_, it1O_, KIt2_, KIt2_x, w_It2, KIt1_, KIt1_x, w_It1, KFor_, KFor_x, w_For, KComp_, KComp_x, w_Comp, KCall_, KCall_x, w_Call, KCallI_, KCallI_x, KCallI0_, w_CallI, w_mkTup, w_mkLst, rdsK2_, rdsK_, w_rds, stbsK2_, stbsK_, w_stbs, cP0, cP1, cP2, cP3, cP4, cP5, cP6, cP7, cIO_o, cI1, cI2, cI3, cI4, cI5, cI6, cI7, w_stOt, stOO_o, w_retFl, retO_v, retO_o, w_finR, w_finN, finO_s, w_runF, rp0, rpS, asE_x, stF_x, finX_s, w_finX, ev_c, ev_fin, ev_fin0, ev_o1, ev_o2, ev_rdv, ev_rdn, ev_rdl, ev_nil, ev_stlv, ev_stln, ev_stll, ev_rds0, ev_stbv, ev_stbn, ev_stbs0, ev_asB, ev_NoPart, ev_Nx, ev_putv, ev_putn, ev_ofO, ev_itL, ev_itT, ev_tgN, ev_for0, ev_wipeD0, ev_wipeD, ev_restD0, ev_restD, ev_endC, ev_Yes, ev_asEv, ev_asEn, ev_stFv, ev_stFn, ev_mkAf, ev_mkAt, ev_stOf, ev_retFv, ev_retFn, ev_vI, ev_vB, ev_oSlL, ev_oSlT, ev_oRevL, ev_bListL, ev_bListT, ev_bTupL, ev_bTupT, ev_isNone0, ev_isNoneI, ev_isNoneL, ev_isNoneT, ev_isNoneB, ev_isNoneS, n_add, n_sub, n_mul, n_mod, n_div, n_shl1, n_shl, n_shr, n_pow, n_and, n_or, n_xor, n_lt, n_le, n_gt, n_ge, n_eq, n_ne, bt1, bt0, d_ltT, d_ltF, d_leT, d_leF, d_eqT, d_eqF, c_eq, c_ne, c_eqc, c_nec, c_isN, l_ix, t_ix, l_ix0, l_ix1, l_ix2, l_ix3, l_ix4, l_ix5, t_ix0, t_ix1, t_ix2, l_len, t_len, cut_to, cut_from, l_addL, t_addT, w_rng1, w_rng2, n_max2, n_min2, n_sum, b_all, b_any, b_all0, b_intB, b_intN, i_intI, i_boolI, i_intB, i_boolB, i_tupT, i_lstL, i_tupL, i_lstT, i_intT, i_intL, i_tupI, i_lstI, i_intN, i_tupN, i_lstN, i_intS, i_tupS, i_lstS, i_tupB, i_lstB, r_isN, r_notN, wp_nx, wp_ret, wl_nx, wl_cnt, wl_brk, wl_ret, List.map_cons, List.map_nil, List.cons_append, List.nil_append, List.set_cons_zero, List.set_cons_succ, List.length_cons, List.length_nil, List.length_map, List.length_append, List.length_range, List.length_range', List.length_set, Bool.not_true, Bool.not_false, Bool.true_and, Bool.false_and, Bool.and_true, Bool.and_false, decide_true, decide_false, Nat.reduceSub, Nat.reduceAdd, Option.getD_some, vo_v, no_v, Nat.one_mul, l_eq, l_ne, t_eq, t_eqc, l_eq0, l_ne0, z_eq0, z_ne0, lc_ne0, lc_eq0, n_inL, n_inT, n_niL, n_niT, n_inC, if_true, if_false, Option.isNone_none, Option.isNone_some, n_augA, n_augS, List.append_nil, n_tr, n_lr, KStar2_, KStarO_, KStar_, w_Star, items_l, items_t, st_vals, KComp2_, w_Comp2, n_mulA, t_mulA1, t_mulA, l_repC, KOrT_, w_OrT, truO_n, truO_0, truO_i, KUnpL_, w_UnpL, unpLO_2, unpLO_3, KItE_, w_ItE, itEO_l, itEO_t, itZO_l, itZO_t, KItZ_, w_ItZ, enumD_map, zipD_map, cT1, cT2, cT3, KCallT2_, KCallT_, w_CallT, ev_oNeg, i_strS, b_sortP, b_is, b_nis, KIs_, w_Is, isLO_l, t_ix3, t_ix4, ba1, ba2, ba3, ba4, t_rev, KExt_, KExt0_, w_Ext, w_extR, w_ext1, KTru_, w_Tru, truT_, truD_l, truD_t, g_get, isLO_d, KDComp_, w_DComp, wd, wordT, dash_n hm, b_int hm], rfl⟩
  · intro c hcc
    exact ⟨.val (.bool true), by simp -implicitDefEqProofs (disch := (first | omega | (simp only [List.length_map, List.length_append, List.length_range, List.length_cons, List.length_nil, List.length_set, List.length_take, List.length_drop, List.length_replicate, List.length_reverse] <;> omega) | assumption)) only [w_Seq, w_seqN, w_seqR, w_seqC, w_seqB, w_seqX, iteF_t, iteF_f, iteO_t, iteO_f, KoB_, KtB_, sg0_, sgS_, w_var, vr_v, vr_o, w_rdS, rdO_v, rdO_o, w_stb, stO1_v, stO1_o, ob_s, w_isOwn, isOwnO_o, K1_, K1_x, w_1, K2b_, K2b_x, K2_, K2_x, w_2, Kc2_, Kc2_x, Kc_, Kc_x, w_cons, KB_, KB_x, w_B, Ktup_, Ktup_x, w_tup, Klst_, Klst_x, w_lst, KT_, KT_x, w_T, KtAnd_, KtAnd_x, w_tAnd, KtOr_, KtOr_x, w_tOr, KtNot_, KtNot_x, w_tNot, KAnd_, KAnd_x, w_And, KOr_, KOr_x, w_Or, KNot_, KNot_x, w_Not, KIte_, KIte_x, w_Ite, Kch4_, Kch4_x, Kch3f_, Kch3_, Kch3_x, Kch2_, Kch2_x, Kch_, Kch_x, w_ch, partO_i, KPart_, KPart_x, w_Part, slO_, KSl3_, KSl3_x, KSl2_, KSl2_x, KSl_, KSl_x, w_Sl, KDo_, KDo_x, w_Do, KRet_, KRet_x, w_Ret, KIf_, KIf_x, w_If, putK_, w_putl, KSet_, KSet_x, w_Set, KAug_, KAug_x, w_Aug, augO_i, unpO_2, unpO_3, w_tg2, w_tg3, KUnp_, KUnp_x, w_Unp, chgK_, w_chg, chgO_o, appK_, w_appR, w_app1, KApp_, KApp_x, KApp0_, w_App, stIK_, w_stIR, stIO_i, w_put1, KStI2_, KStI2_x, KStI1_, KStI_, KStI_x, w_StI, KIt_, KIt_x, w_It, KRng1_, KRng1_x, w_Rng1, KRng2_, KRng2_x, w_Rng2, it2O_, it1O_, KIt2_, KIt2_x, w_It2, KIt1_, KIt1_x, w_It1, KFor_, KFor_x, w_For, KComp_, KComp_x, w_Comp, KCall_, KCall_x, w_Call, KCallI_, KCallI_x, KCallI0_, w_CallI, w_mkTup, w_mkLst, rdsK2_, rdsK_, w_rds, stbsK2_, stbsK_, w_stbs, cP0, cP1, cP2, cP3, cP4, cP5, cP6, cP7, cIO_o, cI1, cI2, cI3, cI4, cI5, cI6, cI7, w_stOt, stOO_o, w_retFl, retO_v, retO_o, w_finR, w_finN, finO_s, w_runF, rp0, rpS, asE_x, stF_x, finX_s, w_finX, ev_c, ev_fin, ev_fin0, ev_o1, ev_o2, ev_rdv, ev_rdn, ev_rdl, ev_nil, ev_stlv, ev_stln, ev_stll, ev_rds0, ev_stbv, ev_stbn, ev_stbs0, ev_asB, ev_NoPart, ev_Nx, ev_putv, ev_putn, ev_ofO, ev_itL, ev_itT, ev_tgN, ev_for0, ev_wipeD0, ev_wipeD, ev_restD0, ev_restD, ev_endC, ev_Yes, ev_asEv, ev_asEn, ev_stFv, ev_stFn, ev_mkAf, ev_mkAt, ev_stOf, ev_retFv, ev_retFn, ev_vI, ev_vB, ev_oSlL, ev_oSlT, ev_oRevL, ev_bListL, ev_bListT, ev_bTupL, ev_bTupT, ev_isNone0, ev_isNoneI, ev_isNoneL, ev_isNoneT, ev_isNoneB, ev_isNoneS, n_add, n_sub, n_mul, n_mod, n_div, n_shl1, n_shl, n_shr, n_pow, n_and, n_or, n_xor, n_lt, n_le, n_gt, n_ge, n_eq, n_ne, bt1, bt0, d_ltT, d_ltF, d_leT, d_leF, d_eqT, d_eqF, c_eq, c_ne, c_eqc, c_nec, c_isN, l_ix, t_ix, l_ix0, l_ix1, l_ix2, l_ix3, l_ix4, l_ix5, t_ix0, t_ix1, t_ix2, l_len, t_len, cut_to, cut_from, l_addL, t_addT, w_rng1, w_rng2, n_max2, n_min2, n_sum, b_all, b_any, b_all0, b_intB, b_intN, i_intI, i_boolI, i_intB, i_boolB, i_tupT, i_lstL, i_tupL, i_lstT, i_intT, i_intL, i_tupI, i_lstI, i_intN, i_tupN, i_lstN, i_intS, i_tupS, i_lstS, i_tupB, i_lstB, r_isN, r_notN, wp_nx, wp_ret, wl_nx, wl_cnt, wl_brk, wl_ret, List.map_cons, List.map_nil, List.cons_append, List.nil_append, List.set_cons_zero, List.set_cons_succ, List.length_cons, List.length_nil, List.length_map, List.length_append, List.length_range, List.length_range', List.length_set, Bool.not_true, Bool.not_false, Bool.true_and, Bool.false_and, Bool.and_true, Bool.and_false, decide_true, decide_false, Nat.reduceSub, Nat.reduceAdd, Option.getD_some, vo_v, no_v, Nat.one_mul, l_eq, l_ne, t_eq, t_eqc, l_eq0, l_ne0, z_eq0, z_ne0, lc_ne0, lc_eq0, n_inL, n_inT, n_niL, n_niT, n_inC, if_true, if_false, Option.isNone_none, Option.isNone_some, n_augA, n_augS, List.append_nil, n_tr, n_lr, KStar2_, KStarO_, KStar_, w_Star, items_l, items_t, st_vals, KComp2_, w_Comp2, n_mulA, t_mulA1, t_mulA, l_repC, KOrT_, w_OrT, truO_n, truO_0, truO_i, KUnpL_, w_UnpL, unpLO_2, unpLO_3, KItE_, w_ItE, itEO_l, itEO_t, itZO_l, itZO_t, KItZ_, w_ItZ, enumD_map, zipD_map, cT1, cT2, cT3, KCallT2_, KCallT_, w_CallT, ev_oNeg, i_strS, b_sortP, b_is, b_nis, KIs_, w_Is, isLO_l, t_ix3, t_ix4, ba1, ba2, ba3, ba4, t_rev, KExt_, KExt0_, w_Ext, w_extR, w_ext1, KTru_, w_Tru, truT_, truD_l, truD_t, g_get, isLO_d, KDComp_, w_DComp, wd, word_n (hcm c hcc)], rfl⟩
theorem join_h {n k : Nat} (hn : n ≤ 100) (hk : k ≤ 100) : oJoin (.str " ") (.list [.str "strip", .str (numT n), .str (numT k)]) = some (.val (.str (headT n k))) :=
  join_o (ys := ["strip", numT n, numT k]) (w := 5) (fun y hy => by
    simp only [List.mem_cons, List.not_mem_nil, or_false] at hy
    rcases hy with rfl | rfl | rfl
    · decide +kernel
    · have := numT_len hn; omega
    · have := numT_len hk; omega) (by decide) (by simp)
theorem join_r {t : List (Option Nat)} (hc : ∀ c, some c ∈ t → c ≤ 100) (hl : t.length ≤ 256) : oJoin (.str " ") (.list (t.map wd)) = some (.val (.str (rowT t))) := by
  rw [← map_wd]
  exact join_o (ys := t.map wordT) (w := 3) (words_le hc) (by decide) (by rw [List.length_map]; omega)
theorem writing_n {n k : Nat} {t : List (Option Nat)} (hn : n ≤ 8) (hk : k ≤ 100) (h : Tb n k t) : G_writing_text [] [wr n k t] = .val (.str (textT n k t)) [] := by
  have hc : ∀ c, some c ∈ t → c ≤ 100 := fun c hc => by have := h.2 c hc; omega
  have hp := pow_le hn
  have hl : t.length ≤ 256 := by rw [h.1]; exact hp
  have l1 := head_len (n := n) (k := k) (by omega) hk
  have l2 := row_len hc hl
  have a1 : oAdd (.str (headT n k)) (.str "\n") = _ := add_s (by rw [len_nl]; omega)
  have a2 : oAdd (.str (headT n k ++ "\n")) (.str (rowT t)) = _ := add_s (by rw [len_app, len_nl]; omega)
  have a3 : oAdd (.str (headT n k ++ "\n" ++ rowT t)) (.str "\n") = _ := add_s (by rw [len_app, len_app, len_nl]; omega)
  simp -implicitDefEqProofs (disch := (first | omega | (simp only [List.length_map, List.length_append, List.length_range, List.length_cons, List.length_nil, List.length_set, List.length_take, List.length_drop, List.length_replicate, List.length_reverse] <;> omega) | assumption)) only [w_Seq, w_seqN, w_seqR, w_seqC, w_seqB, w_seqX, iteF_t, iteF_f, iteO_t, iteO_f, KoB_, KtB_, sg0_, sgS_, w_var, vr_v, vr_o, w_rdS, rdO_v, rdO_o, w_stb, stO1_v, stO1_o, ob_s, w_isOwn, isOwnO_o, K1_, K1_x, w_1, K2b_, K2b_x, K2_, K2_x, w_2, Kc2_, Kc2_x, Kc_, Kc_x, w_cons, KB_, KB_x, w_B, Ktup_, Ktup_x, w_tup, Klst_, Klst_x, w_lst, KT_, KT_x, w_T, KtAnd_, KtAnd_x, w_tAnd, KtOr_, KtOr_x, w_tOr, KtNot_, KtNot_x, w_tNot, KAnd_, KAnd_x, w_And, KOr_, KOr_x, w_Or, KNot_, KNot_x, w_Not, KIte_, KIte_x, w_Ite, Kch4_, Kch4_x, Kch3f_, Kch3_, Kch3_x, Kch2_, Kch2_x, Kch_, Kch_x, w_ch, partO_i, KPart_, KPart_x, w_Part, slO_, KSl3_, KSl3_x, KSl2_, KSl2_x, KSl_, KSl_x, w_Sl, KDo_, KDo_x, w_Do, KRet_, KRet_x, w_Ret, KIf_, KIf_x, w_If, putK_, w_putl, KSet_, KSet_x, w_Set, KAug_, KAug_x, w_Aug, augO_i, unpO_2, unpO_3, w_tg2, w_tg3, KUnp_, KUnp_x, w_Unp, chgK_, w_chg, chgO_o, appK_, w_appR, w_app1, KApp_, KApp_x, KApp0_, w_App, stIK_, w_stIR, stIO_i, w_put1, KStI2_, KStI2_x, KStI1_, KStI_, KStI_x, w_StI, KIt_, KIt_x, w_It, KRng1_, KRng1_x, w_Rng1, KRng2_, KRng2_x, w_Rng2, it2O_, it1O_, KIt2_, KIt2_x, w_It2, KIt1_, KIt1_x, w_It1, KFor_, KFor_x, w_For, KComp_, KComp_x, w_Comp, KCall_, KCall_x, w_Call, KCallI_, KCallI_x, KCallI0_, w_CallI, w_mkTup, w_mkLst, rdsK2_, rdsK_, w_rds, stbsK2_, stbsK_, w_stbs, cP0, cP1, cP2, cP3, cP4, cP5, cP6, cP7, cIO_o, cI1, cI2, cI3, cI4, cI5, cI6, cI7, w_stOt, stOO_o, w_retFl, retO_v, retO_o, w_finR, w_finN, finO_s, w_runF, rp0, rpS, asE_x, stF_x, finX_s, w_finX, ev_c, ev_fin, ev_fin0, ev_o1, ev_o2, ev_rdv, ev_rdn, ev_rdl, ev_nil, ev_stlv, ev_stln, ev_stll, ev_rds0, ev_stbv, ev_stbn, ev_stbs0, ev_asB, ev_NoPart, ev_Nx, ev_putv, ev_putn, ev_ofO, ev_itL, ev_itT, ev_tgN, ev_for0, ev_wipeD0, ev_wipeD, ev_restD0, ev_restD, ev_endC, ev_Yes, ev_asEv, ev_asEn, ev_stFv, ev_stFn, ev_mkAf, ev_mkAt, ev_stOf, ev_retFv, ev_retFn, ev_vI, ev_vB, ev_oSlL, ev_oSlT, ev_oRevL, ev_bListL, ev_bListT, ev_bTupL, ev_bTupT, ev_isNone0, ev_isNoneI, ev_isNoneL, ev_isNoneT, ev_isNoneB, ev_isNoneS, n_add, n_sub, n_mul, n_mod, n_div, n_shl1, n_shl, n_shr, n_pow, n_and, n_or, n_xor, n_lt, n_le, n_gt, n_ge, n_eq, n_ne, bt1, bt0, d_ltT, d_ltF, d_leT, d_leF, d_eqT, d_eqF, c_eq, c_ne, c_eqc, c_nec, c_isN, l_ix, t_ix, l_ix0, l_ix1, l_ix2, l_ix3, l_ix4, l_ix5, t_ix0, t_ix1, t_ix2, l_len, t_len, cut_to, cut_from, l_addL, t_addT, w_rng1, w_rng2, n_max2, n_min2, n_sum, b_all, b_any, b_all0, b_intB, b_intN, i_intI, i_boolI, i_intB, i_boolB, i_tupT, i_lstL, i_tupL, i_lstT, i_intT, i_intL, i_tupI, i_lstI, i_intN, i_tupN, i_lstN, i_intS, i_tupS, i_lstS, i_tupB, i_lstB, r_isN, r_notN, wp_nx, wp_ret, wl_nx, wl_cnt, wl_brk, wl_ret, List.map_cons, List.map_nil, List.cons_append, List.nil_append, List.set_cons_zero, List.set_cons_succ, List.length_cons, List.length_nil, List.length_map, List.length_append, List.length_range, List.length_range', List.length_set, Bool.not_true, Bool.not_false, Bool.true_and, Bool.false_and, Bool.and_true, Bool.and_false, decide_true, decide_false, Nat.reduceSub, Nat.reduceAdd, Option.getD_some, vo_v, no_v, Nat.one_mul, l_eq, l_ne, t_eq, t_eqc, l_eq0, l_ne0, z_eq0, z_ne0, lc_ne0, lc_eq0, n_inL, n_inT, n_niL, n_niT, n_inC, if_true, if_false, Option.isNone_none, Option.isNone_some, n_augA, n_augS, List.append_nil, n_tr, n_lr, KStar2_, KStarO_, KStar_, w_Star, items_l, items_t, st_vals, KComp2_, w_Comp2, n_mulA, t_mulA1, t_mulA, l_repC, KOrT_, w_OrT, truO_n, truO_0, truO_i, KUnpL_, w_UnpL, unpLO_2, unpLO_3, KItE_, w_ItE, itEO_l, itEO_t, itZO_l, itZO_t, KItZ_, w_ItZ, enumD_map, zipD_map, cT1, cT2, cT3, KCallT2_, KCallT_, w_CallT, ev_oNeg, i_strS, b_sortP, b_is, b_nis, KIs_, w_Is, isLO_l, t_ix3, t_ix4, ba1, ba2, ba3, ba4, t_rev, KExt_, KExt0_, w_Ext, w_extR, w_ext1, KTru_, w_Tru, truT_, truD_l, truD_t, g_get, isLO_d, KDComp_, w_DComp, G_writing_text, D_writing_text, wr, tab]
  rw [cmpM (fun c => c) wd]
  · rw [List.map_id']
    simp -implicitDefEqProofs (disch := (first | omega | (simp only [List.length_map, List.length_append, List.length_range, List.length_cons, List.length_nil, List.length_set, List.length_take, List.length_drop, List.length_replicate, List.length_reverse] <;> omega) | assumption)) only [w_Seq, w_seqN, w_seqR, w_seqC, w_seqB, w_seqX, iteF_t, iteF_f, iteO_t, iteO_f, KoB_, KtB_, sg0_, sgS_, w_var, vr_v, vr_o, w_rdS, rdO_v, rdO_o, w_stb, stO1_v, stO1_o, ob_s, w_isOwn, isOwnO_o, K1_, K1_x, w_1, K2b_, K2b_x, K2_, K2_x, w_2, Kc2_, Kc2_x, Kc_, Kc_x, w_cons, KB_, KB_x, w_B, Ktup_, Ktup_x, w_tup, Klst_, Klst_x, w_lst, KT_, KT_x, w_T, KtAnd_, KtAnd_x, w_tAnd, KtOr_, KtOr_x, w_tOr, KtNot_, KtNot_x, w_tNot, KAnd_, KAnd_x, w_And, KOr_, KOr_x, w_Or, KNot_, KNot_x, w_Not, KIte_, KIte_x, w_Ite, Kch4_, Kch4_x, Kch3f_, Kch3_, Kch3_x, Kch2_, Kch2_x, Kch_, Kch_x, w_ch, partO_i, KPart_, KPart_x, w_Part, slO_, KSl3_, KSl3_x, KSl2_, KSl2_x, KSl_, KSl_x, w_Sl, KDo_, KDo_x, w_Do, KRet_, KRet_x, w_Ret, KIf_, KIf_x, w_If, putK_, w_putl, KSet_, KSet_x, w_Set, KAug_, KAug_x, w_Aug, augO_i, unpO_2, unpO_3, w_tg2, w_tg3, KUnp_, KUnp_x, w_Unp, chgK_, w_chg, chgO_o, appK_, w_appR, w_app1, KApp_, KApp_x, KApp0_, w_App, stIK_, w_stIR, stIO_i, w_put1, KStI2_, KStI2_x, KStI1_, KStI_, KStI_x, w_StI, KIt_, KIt_x, w_It, KRng1_, KRng1_x, w_Rng1, KRng2_, KRng2_x, w_Rng2, it2O_, it1O_, KIt2_, KIt2_x, w_It2, KIt1_, KIt1_x, w_It1, KFor_, KFor_x, w_For, KComp_, KComp_x, w_Comp, KCall_, KCall_x, w_Call, KCallI_, KCallI_x, KCallI0_, w_CallI, w_mkTup, w_mkLst, rdsK2_, rdsK_, w_rds, stbsK2_, stbsK_, w_stbs, cP0, cP1, cP2, cP3, cP4, cP5, cP6, cP7, cIO_o, cI1, cI2, cI3, cI4, cI5, cI6, cI7, w_stOt, stOO_o, w_retFl, retO_v, retO_o, w_finR, w_finN, finO_s, w_runF, rp0, rpS, asE_x, stF_x, finX_s, w_finX, ev_c, ev_fin, ev_fin0, ev_o1, ev_o2, ev_rdv, ev_rdn, ev_rdl, ev_nil, ev_stlv, ev_stln, ev_stll, ev_rds0, ev_stbv, ev_stbn, ev_stbs0, ev_asB, ev_NoPart, ev_Nx, ev_putv, ev_putn, ev_ofO, ev_itL, ev_itT, ev_tgN, ev_for0, ev_wipeD0, ev_wipeD, ev_restD0, ev_restD, ev_endC, ev_Yes, ev_asEv, ev_asEn, ev_stFv, ev_stFn, ev_mkAf, ev_mkAt, ev_stOf, ev_retFv, ev_retFn, ev_vI, ev_vB, ev_oSlL, ev_oSlT, ev_oRevL, ev_bListL, ev_bListT, ev_bTupL, ev_bTupT, ev_isNone0, ev_isNoneI, ev_isNoneL, ev_isNoneT, ev_isNoneB, ev_isNoneS, n_add, n_sub, n_mul, n_mod, n_div, n_shl1, n_shl, n_shr, n_pow, n_and, n_or, n_xor, n_lt, n_le, n_gt, n_ge, n_eq, n_ne, bt1, bt0, d_ltT, d_ltF, d_leT, d_leF, d_eqT, d_eqF, c_eq, c_ne, c_eqc, c_nec, c_isN, l_ix, t_ix, l_ix0, l_ix1, l_ix2, l_ix3, l_ix4, l_ix5, t_ix0, t_ix1, t_ix2, l_len, t_len, cut_to, cut_from, l_addL, t_addT, w_rng1, w_rng2, n_max2, n_min2, n_sum, b_all, b_any, b_all0, b_intB, b_intN, i_intI, i_boolI, i_intB, i_boolB, i_tupT, i_lstL, i_tupL, i_lstT, i_intT, i_intL, i_tupI, i_lstI, i_intN, i_tupN, i_lstN, i_intS, i_tupS, i_lstS, i_tupB, i_lstB, r_isN, r_notN, wp_nx, wp_ret, wl_nx, wl_cnt, wl_brk, wl_ret, List.map_cons, List.map_nil, List.cons_append, List.nil_append, List.set_cons_zero, List.set_cons_succ, List.length_cons, List.length_nil, List.length_map, List.length_append, List.length_range, List.length_range', List.length_set, Bool.not_true, Bool.not_false, Bool.true_and, Bool.false_and, Bool.and_true, Bool.and_false, decide_true, decide_false, Nat.reduceSub, Nat.reduceAdd, Option.getD_some, vo_v, no_v, Nat.one_mul, l_eq, l_ne, t_eq, t_eqc, l_eq0, l_ne0, z_eq0, z_ne0, lc_ne0, lc_eq0, n_inL, n_inT, n_niL, n_niT, n_inC, if_true, if_false, Option.isNone_none, Option.isNone_some, n_augA, n_augS, List.append_nil, n_tr, n_lr, KStar2_, KStarO_, KStar_, w_Star, items_l, items_t, st_vals, KComp2_, w_Comp2, n_mulA, t_mulA1, t_mulA, l_repC, KOrT_, w_OrT, truO_n, truO_0, truO_i, KUnpL_, w_UnpL, unpLO_2, unpLO_3, KItE_, w_ItE, itEO_l, itEO_t, itZO_l, itZO_t, KItZ_, w_ItZ, enumD_map, zipD_map, cT1, cT2, cT3, KCallT2_, KCallT_, w_CallT, ev_oNeg, i_strS, b_sortP, b_is, b_nis, KIs_, w_Is, isLO_l, t_ix3, t_ix4, ba1, ba2, ba3, ba4, t_rev, KExt_, KExt0_, w_Ext, w_extR, w_ext1, KTru_, w_Tru, truT_, truD_l, truD_t, g_get, isLO_d, KDComp_, w_DComp, b_str (show n < 1000000 by omega), b_str (show k < 1000000 by omega), isLO_s, join_h (show n ≤ 100 by omega) hk, join_r hc hl, a1, a2, a3]
    rfl
  · intro c hcc
    cases c with
    | none => exact ⟨.val (.str "-"), by simp -implicitDefEqProofs (disch := (first | omega | (simp only [List.length_map, List.length_append, List.length_range, List.length_cons, List.length_nil, List.length_set, List.length_take, List.length_drop, List.length_replicate, List.length_reverse] <;> omega) | assumption)) only [w_Seq, w_seqN, w_seqR, w_seqC, w_seqB, w_seqX, iteF_t, iteF_f, iteO_t, iteO_f, KoB_, KtB_, sg0_, sgS_, w_var, vr_v, vr_o, w_rdS, rdO_v, rdO_o, w_stb, stO1_v, stO1_o, ob_s, w_isOwn, isOwnO_o, K1_, K1_x, w_1, K2b_, K2b_x, K2_, K2_x, w_2, Kc2_, Kc2_x, Kc_, Kc_x, w_cons, KB_, KB_x, w_B, Ktup_, Ktup_x, w_tup, Klst_, Klst_x, w_lst, KT_, KT_x, w_T, KtAnd_, KtAnd_x, w_tAnd, KtOr_, KtOr_x, w_tOr, KtNot_, KtNot_x, w_tNot, KAnd_, KAnd_x, w_And, KOr_, KOr_x, w_Or, KNot_, KNot_x, w_Not, KIte_, KIte_x, w_Ite, Kch4_, Kch4_x, Kch3f_, Kch3_, Kch3_x, Kch2_, Kch2_x, Kch_, Kch_x, w_ch, partO_i, KPart_, KPart_x, w_Part, slO_, KSl3_, KSl3_x, KSl2_, KSl2_x, KSl_, KSl_x, w_Sl, KDo_, KDo_x, w_Do, KRet_, KRet_x, w_Ret, KIf_, KIf_x, w_If, putK_, w_putl, KSet_, KSet_x, w_Set, KAug_, KAug_x, w_Aug, augO_i, unpO_2, unpO_3, w_tg2, w_tg3, KUnp_, KUnp_x, w_Unp, chgK_, w_chg, chgO_o, appK_, w_appR, w_app1, KApp_, KApp_x, KApp0_, w_App, stIK_, w_stIR, stIO_i, w_put1, KStI2_, KStI2_x, KStI1_, KStI_, KStI_x, w_StI, KIt_, KIt_x, w_It, KRng1_, KRng1_x, w_Rng1, KRng2_, KRng2_x, w_Rng2, it2O_, it1O_, KIt2_, KIt2_x, w_It2, KIt1_, KIt1_x, w_It1, KFor_, KFor_x, w_For, KComp_, KComp_x, w_Comp, KCall_, KCall_x, w_Call, KCallI_, KCallI_x, KCallI0_, w_CallI, w_mkTup, w_mkLst, rdsK2_, rdsK_, w_rds, stbsK2_, stbsK_, w_stbs, cP0, cP1, cP2, cP3, cP4, cP5, cP6, cP7, cIO_o, cI1, cI2, cI3, cI4, cI5, cI6, cI7, w_stOt, stOO_o, w_retFl, retO_v, retO_o, w_finR, w_finN, finO_s, w_runF, rp0, rpS, asE_x, stF_x, finX_s, w_finX, ev_c, ev_fin, ev_fin0, ev_o1, ev_o2, ev_rdv, ev_rdn, ev_rdl, ev_nil, ev_stlv, ev_stln, ev_stll, ev_rds0, ev_stbv, ev_stbn, ev_stbs0, ev_asB, ev_NoPart, ev_Nx, ev_putv, ev_putn, ev_ofO, ev_itL, ev_itT, ev_tgN, ev_for0, ev_wipeD0, ev_wipeD, ev_restD0, ev_restD, ev_endC, ev_Yes, ev_asEv, ev_asEn, ev_stFv, ev_stFn, ev_mkAf, ev_mkAt, ev_stOf, ev_retFv, ev_retFn, ev_vI, ev_vB, ev_oSlL, ev_oSlT, ev_oRevL, ev_bListL, ev_bListT, ev_bTupL, ev_bTupT, ev_isNone0, ev_isNoneI, ev_isNoneL, ev_isNoneT, ev_isNoneB, ev_isNoneS, n_add, n_sub, n_mul, n_mod, n_div, n_shl1, n_shl, n_shr, n_pow, n_and, n_or, n_xor, n_lt, n_le, n_gt, n_ge, n_eq, n_ne, bt1, bt0, d_ltT, d_ltF, d_leT, d_leF, d_eqT, d_eqF, c_eq, c_ne, c_eqc, c_nec, c_isN, l_ix, t_ix, l_ix0, l_ix1, l_ix2, l_ix3, l_ix4, l_ix5, t_ix0, t_ix1, t_ix2, l_len, t_len, cut_to, cut_from, l_addL, t_addT, w_rng1, w_rng2, n_max2, n_min2, n_sum, b_all, b_any, b_all0, b_intB, b_intN, i_intI, i_boolI, i_intB, i_boolB, i_tupT, i_lstL, i_tupL, i_lstT, i_intT, i_intL, i_tupI, i_lstI, i_intN, i_tupN, i_lstN, i_intS, i_tupS, i_lstS, i_tupB, i_lstB, r_isN, r_notN, wp_nx, wp_ret, wl_nx, wl_cnt, wl_brk, wl_ret, List.map_cons, List.map_nil, List.cons_append, List.nil_append, List.set_cons_zero, List.set_cons_succ, List.length_cons, List.length_nil, List.length_map, List.length_append, List.length_range, List.length_range', List.length_set, Bool.not_true, Bool.not_false, Bool.true_and, Bool.false_and, Bool.and_true, Bool.and_false, decide_true, decide_false, Nat.reduceSub, Nat.reduceAdd, Option.getD_some, vo_v, no_v, Nat.one_mul, l_eq, l_ne, t_eq, t_eqc, l_eq0, l_ne0, z_eq0, z_ne0, lc_ne0, lc_eq0, n_inL, n_inT, n_niL, n_niT, n_inC, if_true, if_false, Option.isNone_none, Option.isNone_some, n_augA, n_augS, List.append_nil, n_tr, n_lr, KStar2_, KStarO_, KStar_, w_Star, items_l, items_t, st_vals, KComp2_, w_Comp2, n_mulA, t_mulA1, t_mulA, l_repC, KOrT_, w_OrT, truO_n, truO_0, truO_i, KUnpL_, w_UnpL, unpLO_2, unpLO_3, KItE_, w_ItE, itEO_l, itEO_t, itZO_l, itZO_t, KItZ_, w_ItZ, enumD_map, zipD_map, cT1, cT2, cT3, KCallT2_, KCallT_, w_CallT, ev_oNeg, i_strS, b_sortP, b_is, b_nis, KIs_, w_Is, isLO_l, t_ix3, t_ix4, ba1, ba2, ba3, ba4, t_rev, KExt_, KExt0_, w_Ext, w_extR, w_ext1, KTru_, w_Tru, truT_, truD_l, truD_t, g_get, isLO_d, KDComp_, w_DComp, cell0], rfl⟩
    | some m => exact ⟨.val (.str (numT m)), by simp -implicitDefEqProofs (disch := (first | omega | (simp only [List.length_map, List.length_append, List.length_range, List.length_cons, List.length_nil, List.length_set, List.length_take, List.length_drop, List.length_replicate, List.length_reverse] <;> omega) | assumption)) only [w_Seq, w_seqN, w_seqR, w_seqC, w_seqB, w_seqX, iteF_t, iteF_f, iteO_t, iteO_f, KoB_, KtB_, sg0_, sgS_, w_var, vr_v, vr_o, w_rdS, rdO_v, rdO_o, w_stb, stO1_v, stO1_o, ob_s, w_isOwn, isOwnO_o, K1_, K1_x, w_1, K2b_, K2b_x, K2_, K2_x, w_2, Kc2_, Kc2_x, Kc_, Kc_x, w_cons, KB_, KB_x, w_B, Ktup_, Ktup_x, w_tup, Klst_, Klst_x, w_lst, KT_, KT_x, w_T, KtAnd_, KtAnd_x, w_tAnd, KtOr_, KtOr_x, w_tOr, KtNot_, KtNot_x, w_tNot, KAnd_, KAnd_x, w_And, KOr_, KOr_x, w_Or, KNot_, KNot_x, w_Not, KIte_, KIte_x, w_Ite, Kch4_, Kch4_x, Kch3f_, Kch3_, Kch3_x, Kch2_, Kch2_x, Kch_, Kch_x, w_ch, partO_i, KPart_, KPart_x, w_Part, slO_, KSl3_, KSl3_x, KSl2_, KSl2_x, KSl_, KSl_x, w_Sl, KDo_, KDo_x, w_Do, KRet_, KRet_x, w_Ret, KIf_, KIf_x, w_If, putK_, w_putl, KSet_, KSet_x, w_Set, KAug_, KAug_x, w_Aug, augO_i, unpO_2, unpO_3, w_tg2, w_tg3, KUnp_, KUnp_x, w_Unp, chgK_, w_chg, chgO_o, appK_, w_appR, w_app1, KApp_, KApp_x, KApp0_, w_App, stIK_, w_stIR, stIO_i, w_put1, KStI2_, KStI2_x, KStI1_, KStI_, KStI_x, w_StI, KIt_, KIt_x, w_It, KRng1_, KRng1_x, w_Rng1, KRng2_, KRng2_x, w_Rng2, it2O_, it1O_, KIt2_, KIt2_x, w_It2, KIt1_, KIt1_x, w_It1, KFor_, KFor_x, w_For, KComp_, KComp_x, w_Comp, KCall_, KCall_x, w_Call, KCallI_, KCallI_x, KCallI0_, w_CallI, w_mkTup, w_mkLst, rdsK2_, rdsK_, w_rds, stbsK2_, stbsK_, w_stbs, cP0, cP1, cP2, cP3, cP4, cP5, cP6, cP7, cIO_o, cI1, cI2, cI3, cI4, cI5, cI6, cI7, w_stOt, stOO_o, w_retFl, retO_v, retO_o, w_finR, w_finN, finO_s, w_runF, rp0, rpS, asE_x, stF_x, finX_s, w_finX, ev_c, ev_fin, ev_fin0, ev_o1, ev_o2, ev_rdv, ev_rdn, ev_rdl, ev_nil, ev_stlv, ev_stln, ev_stll, ev_rds0, ev_stbv, ev_stbn, ev_stbs0, ev_asB, ev_NoPart, ev_Nx, ev_putv, ev_putn, ev_ofO, ev_itL, ev_itT, ev_tgN, ev_for0, ev_wipeD0, ev_wipeD, ev_restD0, ev_restD, ev_endC, ev_Yes, ev_asEv, ev_asEn, ev_stFv, ev_stFn, ev_mkAf, ev_mkAt, ev_stOf, ev_retFv, ev_retFn, ev_vI, ev_vB, ev_oSlL, ev_oSlT, ev_oRevL, ev_bListL, ev_bListT, ev_bTupL, ev_bTupT, ev_isNone0, ev_isNoneI, ev_isNoneL, ev_isNoneT, ev_isNoneB, ev_isNoneS, n_add, n_sub, n_mul, n_mod, n_div, n_shl1, n_shl, n_shr, n_pow, n_and, n_or, n_xor, n_lt, n_le, n_gt, n_ge, n_eq, n_ne, bt1, bt0, d_ltT, d_ltF, d_leT, d_leF, d_eqT, d_eqF, c_eq, c_ne, c_eqc, c_nec, c_isN, l_ix, t_ix, l_ix0, l_ix1, l_ix2, l_ix3, l_ix4, l_ix5, t_ix0, t_ix1, t_ix2, l_len, t_len, cut_to, cut_from, l_addL, t_addT, w_rng1, w_rng2, n_max2, n_min2, n_sum, b_all, b_any, b_all0, b_intB, b_intN, i_intI, i_boolI, i_intB, i_boolB, i_tupT, i_lstL, i_tupL, i_lstT, i_intT, i_intL, i_tupI, i_lstI, i_intN, i_tupN, i_lstN, i_intS, i_tupS, i_lstS, i_tupB, i_lstB, r_isN, r_notN, wp_nx, wp_ret, wl_nx, wl_cnt, wl_brk, wl_ret, List.map_cons, List.map_nil, List.cons_append, List.nil_append, List.set_cons_zero, List.set_cons_succ, List.length_cons, List.length_nil, List.length_map, List.length_append, List.length_range, List.length_range', List.length_set, Bool.not_true, Bool.not_false, Bool.true_and, Bool.false_and, Bool.and_true, Bool.and_false, decide_true, decide_false, Nat.reduceSub, Nat.reduceAdd, Option.getD_some, vo_v, no_v, Nat.one_mul, l_eq, l_ne, t_eq, t_eqc, l_eq0, l_ne0, z_eq0, z_ne0, lc_ne0, lc_eq0, n_inL, n_inT, n_niL, n_niT, n_inC, if_true, if_false, Option.isNone_none, Option.isNone_some, n_augA, n_augS, List.append_nil, n_tr, n_lr, KStar2_, KStarO_, KStar_, w_Star, items_l, items_t, st_vals, KComp2_, w_Comp2, n_mulA, t_mulA1, t_mulA, l_repC, KOrT_, w_OrT, truO_n, truO_0, truO_i, KUnpL_, w_UnpL, unpLO_2, unpLO_3, KItE_, w_ItE, itEO_l, itEO_t, itZO_l, itZO_t, KItZ_, w_ItZ, enumD_map, zipD_map, cT1, cT2, cT3, KCallT2_, KCallT_, w_CallT, ev_oNeg, i_strS, b_sortP, b_is, b_nis, KIs_, w_Is, isLO_l, t_ix3, t_ix4, ba1, ba2, ba3, ba4, t_rev, KExt_, KExt0_, w_Ext, w_extR, w_ext1, KTru_, w_Tru, truT_, truD_l, truD_t, g_get, isLO_d, KDComp_, w_DComp, cell1, b_str (show m < 1000000 by have := hc m hcc; omega)], rfl⟩
theorem law_text_n {n k : Nat} {t : List (Option Nat)} (hn : n ≤ 8) (hk : k ≤ 100) (h : Tb n k t) : G_law_text [] [wr n k t] = .val (.str (textT n k t)) [] := by
  have hc : ∀ c, some c ∈ t → c ≤ 100 := fun c hc => by have := h.2 c hc; omega
  have hp := pow_le hn
  have hl : t.length ≤ 256 := by rw [h.1]; exact hp
  have l1 := head_len (n := n) (k := k) (by omega) hk
  have l2 := row_len hc hl
  have l3 := numT_len (m := n) (by omega)
  have l4 := numT_len (m := k) (by omega)
  have b1 : oAdd (.str "strip ") (.str (numT n)) = _ := add_s (by rw [len_st]; omega)
  have b2 : oAdd (.str ("strip " ++ numT n)) (.str " ") = _ := add_s (by rw [len_app, len_st, len_sp]; omega)
  have b3 : oAdd (.str ("strip " ++ numT n ++ " ")) (.str (numT k)) = some (.val (.str (headT n k))) := by
    rw [add_s (by rw [len_app, len_app, len_st, len_sp]; omega), head_law]
  have a1 : oAdd (.str (headT n k)) (.str "\n") = _ := add_s (by rw [len_nl]; omega)
  have a2 : oAdd (.str (headT n k ++ "\n")) (.str (rowT t)) = _ := add_s (by rw [len_app, len_nl]; omega)
  have a3 : oAdd (.str (headT n k ++ "\n" ++ rowT t)) (.str "\n") = _ := add_s (by rw [len_app, len_app, len_nl]; omega)
  simp -implicitDefEqProofs (disch := (first | omega | (simp only [List.length_map, List.length_append, List.length_range, List.length_cons, List.length_nil, List.length_set, List.length_take, List.length_drop, List.length_replicate, List.length_reverse] <;> omega) | assumption)) only [w_Seq, w_seqN, w_seqR, w_seqC, w_seqB, w_seqX, iteF_t, iteF_f, iteO_t, iteO_f, KoB_, KtB_, sg0_, sgS_, w_var, vr_v, vr_o, w_rdS, rdO_v, rdO_o, w_stb, stO1_v, stO1_o, ob_s, w_isOwn, isOwnO_o, K1_, K1_x, w_1, K2b_, K2b_x, K2_, K2_x, w_2, Kc2_, Kc2_x, Kc_, Kc_x, w_cons, KB_, KB_x, w_B, Ktup_, Ktup_x, w_tup, Klst_, Klst_x, w_lst, KT_, KT_x, w_T, KtAnd_, KtAnd_x, w_tAnd, KtOr_, KtOr_x, w_tOr, KtNot_, KtNot_x, w_tNot, KAnd_, KAnd_x, w_And, KOr_, KOr_x, w_Or, KNot_, KNot_x, w_Not, KIte_, KIte_x, w_Ite, Kch4_, Kch4_x, Kch3f_, Kch3_, Kch3_x, Kch2_, Kch2_x, Kch_, Kch_x, w_ch, partO_i, KPart_, KPart_x, w_Part, slO_, KSl3_, KSl3_x, KSl2_, KSl2_x, KSl_, KSl_x, w_Sl, KDo_, KDo_x, w_Do, KRet_, KRet_x, w_Ret, KIf_, KIf_x, w_If, putK_, w_putl, KSet_, KSet_x, w_Set, KAug_, KAug_x, w_Aug, augO_i, unpO_2, unpO_3, w_tg2, w_tg3, KUnp_, KUnp_x, w_Unp, chgK_, w_chg, chgO_o, appK_, w_appR, w_app1, KApp_, KApp_x, KApp0_, w_App, stIK_, w_stIR, stIO_i, w_put1, KStI2_, KStI2_x, KStI1_, KStI_, KStI_x, w_StI, KIt_, KIt_x, w_It, KRng1_, KRng1_x, w_Rng1, KRng2_, KRng2_x, w_Rng2, it2O_, it1O_, KIt2_, KIt2_x, w_It2, KIt1_, KIt1_x, w_It1, KFor_, KFor_x, w_For, KComp_, KComp_x, w_Comp, KCall_, KCall_x, w_Call, KCallI_, KCallI_x, KCallI0_, w_CallI, w_mkTup, w_mkLst, rdsK2_, rdsK_, w_rds, stbsK2_, stbsK_, w_stbs, cP0, cP1, cP2, cP3, cP4, cP5, cP6, cP7, cIO_o, cI1, cI2, cI3, cI4, cI5, cI6, cI7, w_stOt, stOO_o, w_retFl, retO_v, retO_o, w_finR, w_finN, finO_s, w_runF, rp0, rpS, asE_x, stF_x, finX_s, w_finX, ev_c, ev_fin, ev_fin0, ev_o1, ev_o2, ev_rdv, ev_rdn, ev_rdl, ev_nil, ev_stlv, ev_stln, ev_stll, ev_rds0, ev_stbv, ev_stbn, ev_stbs0, ev_asB, ev_NoPart, ev_Nx, ev_putv, ev_putn, ev_ofO, ev_itL, ev_itT, ev_tgN, ev_for0, ev_wipeD0, ev_wipeD, ev_restD0, ev_restD, ev_endC, ev_Yes, ev_asEv, ev_asEn, ev_stFv, ev_stFn, ev_mkAf, ev_mkAt, ev_stOf, ev_retFv, ev_retFn, ev_vI, ev_vB, ev_oSlL, ev_oSlT, ev_oRevL, ev_bListL, ev_bListT, ev_bTupL, ev_bTupT, ev_isNone0, ev_isNoneI, ev_isNoneL, ev_isNoneT, ev_isNoneB, ev_isNoneS, n_add, n_sub, n_mul, n_mod, n_div, n_shl1, n_shl, n_shr, n_pow, n_and, n_or, n_xor, n_lt, n_le, n_gt, n_ge, n_eq, n_ne, bt1, bt0, d_ltT, d_ltF, d_leT, d_leF, d_eqT, d_eqF, c_eq, c_ne, c_eqc, c_nec, c_isN, l_ix, t_ix, l_ix0, l_ix1, l_ix2, l_ix3, l_ix4, l_ix5, t_ix0, t_ix1, t_ix2, l_len, t_len, cut_to, cut_from, l_addL, t_addT, w_rng1, w_rng2, n_max2, n_min2, n_sum, b_all, b_any, b_all0, b_intB, b_intN, i_intI, i_boolI, i_intB, i_boolB, i_tupT, i_lstL, i_tupL, i_lstT, i_intT, i_intL, i_tupI, i_lstI, i_intN, i_tupN, i_lstN, i_intS, i_tupS, i_lstS, i_tupB, i_lstB, r_isN, r_notN, wp_nx, wp_ret, wl_nx, wl_cnt, wl_brk, wl_ret, List.map_cons, List.map_nil, List.cons_append, List.nil_append, List.set_cons_zero, List.set_cons_succ, List.length_cons, List.length_nil, List.length_map, List.length_append, List.length_range, List.length_range', List.length_set, Bool.not_true, Bool.not_false, Bool.true_and, Bool.false_and, Bool.and_true, Bool.and_false, decide_true, decide_false, Nat.reduceSub, Nat.reduceAdd, Option.getD_some, vo_v, no_v, Nat.one_mul, l_eq, l_ne, t_eq, t_eqc, l_eq0, l_ne0, z_eq0, z_ne0, lc_ne0, lc_eq0, n_inL, n_inT, n_niL, n_niT, n_inC, if_true, if_false, Option.isNone_none, Option.isNone_some, n_augA, n_augS, List.append_nil, n_tr, n_lr, KStar2_, KStarO_, KStar_, w_Star, items_l, items_t, st_vals, KComp2_, w_Comp2, n_mulA, t_mulA1, t_mulA, l_repC, KOrT_, w_OrT, truO_n, truO_0, truO_i, KUnpL_, w_UnpL, unpLO_2, unpLO_3, KItE_, w_ItE, itEO_l, itEO_t, itZO_l, itZO_t, KItZ_, w_ItZ, enumD_map, zipD_map, cT1, cT2, cT3, KCallT2_, KCallT_, w_CallT, ev_oNeg, i_strS, b_sortP, b_is, b_nis, KIs_, w_Is, isLO_l, t_ix3, t_ix4, ba1, ba2, ba3, ba4, t_rev, KExt_, KExt0_, w_Ext, w_extR, w_ext1, KTru_, w_Tru, truT_, truD_l, truD_t, g_get, isLO_d, KDComp_, w_DComp, G_law_text, D_law_text, wr, tab]
  rw [cmpM (fun c => c) wd]
  · rw [List.map_id']
    simp -implicitDefEqProofs (disch := (first | omega | (simp only [List.length_map, List.length_append, List.length_range, List.length_cons, List.length_nil, List.length_set, List.length_take, List.length_drop, List.length_replicate, List.length_reverse] <;> omega) | assumption)) only [w_Seq, w_seqN, w_seqR, w_seqC, w_seqB, w_seqX, iteF_t, iteF_f, iteO_t, iteO_f, KoB_, KtB_, sg0_, sgS_, w_var, vr_v, vr_o, w_rdS, rdO_v, rdO_o, w_stb, stO1_v, stO1_o, ob_s, w_isOwn, isOwnO_o, K1_, K1_x, w_1, K2b_, K2b_x, K2_, K2_x, w_2, Kc2_, Kc2_x, Kc_, Kc_x, w_cons, KB_, KB_x, w_B, Ktup_, Ktup_x, w_tup, Klst_, Klst_x, w_lst, KT_, KT_x, w_T, KtAnd_, KtAnd_x, w_tAnd, KtOr_, KtOr_x, w_tOr, KtNot_, KtNot_x, w_tNot, KAnd_, KAnd_x, w_And, KOr_, KOr_x, w_Or, KNot_, KNot_x, w_Not, KIte_, KIte_x, w_Ite, Kch4_, Kch4_x, Kch3f_, Kch3_, Kch3_x, Kch2_, Kch2_x, Kch_, Kch_x, w_ch, partO_i, KPart_, KPart_x, w_Part, slO_, KSl3_, KSl3_x, KSl2_, KSl2_x, KSl_, KSl_x, w_Sl, KDo_, KDo_x, w_Do, KRet_, KRet_x, w_Ret, KIf_, KIf_x, w_If, putK_, w_putl, KSet_, KSet_x, w_Set, KAug_, KAug_x, w_Aug, augO_i, unpO_2, unpO_3, w_tg2, w_tg3, KUnp_, KUnp_x, w_Unp, chgK_, w_chg, chgO_o, appK_, w_appR, w_app1, KApp_, KApp_x, KApp0_, w_App, stIK_, w_stIR, stIO_i, w_put1, KStI2_, KStI2_x, KStI1_, KStI_, KStI_x, w_StI, KIt_, KIt_x, w_It, KRng1_, KRng1_x, w_Rng1, KRng2_, KRng2_x, w_Rng2, it2O_, it1O_, KIt2_, KIt2_x, w_It2, KIt1_, KIt1_x, w_It1, KFor_, KFor_x, w_For, KComp_, KComp_x, w_Comp, KCall_, KCall_x, w_Call, KCallI_, KCallI_x, KCallI0_, w_CallI, w_mkTup, w_mkLst, rdsK2_, rdsK_, w_rds, stbsK2_, stbsK_, w_stbs, cP0, cP1, cP2, cP3, cP4, cP5, cP6, cP7, cIO_o, cI1, cI2, cI3, cI4, cI5, cI6, cI7, w_stOt, stOO_o, w_retFl, retO_v, retO_o, w_finR, w_finN, finO_s, w_runF, rp0, rpS, asE_x, stF_x, finX_s, w_finX, ev_c, ev_fin, ev_fin0, ev_o1, ev_o2, ev_rdv, ev_rdn, ev_rdl, ev_nil, ev_stlv, ev_stln, ev_stll, ev_rds0, ev_stbv, ev_stbn, ev_stbs0, ev_asB, ev_NoPart, ev_Nx, ev_putv, ev_putn, ev_ofO, ev_itL, ev_itT, ev_tgN, ev_for0, ev_wipeD0, ev_wipeD, ev_restD0, ev_restD, ev_endC, ev_Yes, ev_asEv, ev_asEn, ev_stFv, ev_stFn, ev_mkAf, ev_mkAt, ev_stOf, ev_retFv, ev_retFn, ev_vI, ev_vB, ev_oSlL, ev_oSlT, ev_oRevL, ev_bListL, ev_bListT, ev_bTupL, ev_bTupT, ev_isNone0, ev_isNoneI, ev_isNoneL, ev_isNoneT, ev_isNoneB, ev_isNoneS, n_add, n_sub, n_mul, n_mod, n_div, n_shl1, n_shl, n_shr, n_pow, n_and, n_or, n_xor, n_lt, n_le, n_gt, n_ge, n_eq, n_ne, bt1, bt0, d_ltT, d_ltF, d_leT, d_leF, d_eqT, d_eqF, c_eq, c_ne, c_eqc, c_nec, c_isN, l_ix, t_ix, l_ix0, l_ix1, l_ix2, l_ix3, l_ix4, l_ix5, t_ix0, t_ix1, t_ix2, l_len, t_len, cut_to, cut_from, l_addL, t_addT, w_rng1, w_rng2, n_max2, n_min2, n_sum, b_all, b_any, b_all0, b_intB, b_intN, i_intI, i_boolI, i_intB, i_boolB, i_tupT, i_lstL, i_tupL, i_lstT, i_intT, i_intL, i_tupI, i_lstI, i_intN, i_tupN, i_lstN, i_intS, i_tupS, i_lstS, i_tupB, i_lstB, r_isN, r_notN, wp_nx, wp_ret, wl_nx, wl_cnt, wl_brk, wl_ret, List.map_cons, List.map_nil, List.cons_append, List.nil_append, List.set_cons_zero, List.set_cons_succ, List.length_cons, List.length_nil, List.length_map, List.length_append, List.length_range, List.length_range', List.length_set, Bool.not_true, Bool.not_false, Bool.true_and, Bool.false_and, Bool.and_true, Bool.and_false, decide_true, decide_false, Nat.reduceSub, Nat.reduceAdd, Option.getD_some, vo_v, no_v, Nat.one_mul, l_eq, l_ne, t_eq, t_eqc, l_eq0, l_ne0, z_eq0, z_ne0, lc_ne0, lc_eq0, n_inL, n_inT, n_niL, n_niT, n_inC, if_true, if_false, Option.isNone_none, Option.isNone_some, n_augA, n_augS, List.append_nil, n_tr, n_lr, KStar2_, KStarO_, KStar_, w_Star, items_l, items_t, st_vals, KComp2_, w_Comp2, n_mulA, t_mulA1, t_mulA, l_repC, KOrT_, w_OrT, truO_n, truO_0, truO_i, KUnpL_, w_UnpL, unpLO_2, unpLO_3, KItE_, w_ItE, itEO_l, itEO_t, itZO_l, itZO_t, KItZ_, w_ItZ, enumD_map, zipD_map, cT1, cT2, cT3, KCallT2_, KCallT_, w_CallT, ev_oNeg, i_strS, b_sortP, b_is, b_nis, KIs_, w_Is, isLO_l, t_ix3, t_ix4, ba1, ba2, ba3, ba4, t_rev, KExt_, KExt0_, w_Ext, w_extR, w_ext1, KTru_, w_Tru, truT_, truD_l, truD_t, g_get, isLO_d, KDComp_, w_DComp, b_str (show n < 1000000 by omega), b_str (show k < 1000000 by omega), isLO_s, join_r hc hl, b1, b2, b3, a1, a2, a3]
    rfl
  · intro c hcc
    cases c with
    | none => exact ⟨.val (.str "-"), by simp -implicitDefEqProofs (disch := (first | omega | (simp only [List.length_map, List.length_append, List.length_range, List.length_cons, List.length_nil, List.length_set, List.length_take, List.length_drop, List.length_replicate, List.length_reverse] <;> omega) | assumption)) only [w_Seq, w_seqN, w_seqR, w_seqC, w_seqB, w_seqX, iteF_t, iteF_f, iteO_t, iteO_f, KoB_, KtB_, sg0_, sgS_, w_var, vr_v, vr_o, w_rdS, rdO_v, rdO_o, w_stb, stO1_v, stO1_o, ob_s, w_isOwn, isOwnO_o, K1_, K1_x, w_1, K2b_, K2b_x, K2_, K2_x, w_2, Kc2_, Kc2_x, Kc_, Kc_x, w_cons, KB_, KB_x, w_B, Ktup_, Ktup_x, w_tup, Klst_, Klst_x, w_lst, KT_, KT_x, w_T, KtAnd_, KtAnd_x, w_tAnd, KtOr_, KtOr_x, w_tOr, KtNot_, KtNot_x, w_tNot, KAnd_, KAnd_x, w_And, KOr_, KOr_x, w_Or, KNot_, KNot_x, w_Not, KIte_, KIte_x, w_Ite, Kch4_, Kch4_x, Kch3f_, Kch3_, Kch3_x, Kch2_, Kch2_x, Kch_, Kch_x, w_ch, partO_i, KPart_, KPart_x, w_Part, slO_, KSl3_, KSl3_x, KSl2_, KSl2_x, KSl_, KSl_x, w_Sl, KDo_, KDo_x, w_Do, KRet_, KRet_x, w_Ret, KIf_, KIf_x, w_If, putK_, w_putl, KSet_, KSet_x, w_Set, KAug_, KAug_x, w_Aug, augO_i, unpO_2, unpO_3, w_tg2, w_tg3, KUnp_, KUnp_x, w_Unp, chgK_, w_chg, chgO_o, appK_, w_appR, w_app1, KApp_, KApp_x, KApp0_, w_App, stIK_, w_stIR, stIO_i, w_put1, KStI2_, KStI2_x, KStI1_, KStI_, KStI_x, w_StI, KIt_, KIt_x, w_It, KRng1_, KRng1_x, w_Rng1, KRng2_, KRng2_x, w_Rng2, it2O_, it1O_, KIt2_, KIt2_x, w_It2, KIt1_, KIt1_x, w_It1, KFor_, KFor_x, w_For, KComp_, KComp_x, w_Comp, KCall_, KCall_x, w_Call, KCallI_, KCallI_x, KCallI0_, w_CallI, w_mkTup, w_mkLst, rdsK2_, rdsK_, w_rds, stbsK2_, stbsK_, w_stbs, cP0, cP1, cP2, cP3, cP4, cP5, cP6, cP7, cIO_o, cI1, cI2, cI3, cI4, cI5, cI6, cI7, w_stOt, stOO_o, w_retFl, retO_v, retO_o, w_finR, w_finN, finO_s, w_runF, rp0, rpS, asE_x, stF_x, finX_s, w_finX, ev_c, ev_fin, ev_fin0, ev_o1, ev_o2, ev_rdv, ev_rdn, ev_rdl, ev_nil, ev_stlv, ev_stln, ev_stll, ev_rds0, ev_stbv, ev_stbn, ev_stbs0, ev_asB, ev_NoPart, ev_Nx, ev_putv, ev_putn, ev_ofO, ev_itL, ev_itT, ev_tgN, ev_for0, ev_wipeD0, ev_wipeD, ev_restD0, ev_restD, ev_endC, ev_Yes, ev_asEv, ev_asEn, ev_stFv, ev_stFn, ev_mkAf, ev_mkAt, ev_stOf, ev_retFv, ev_retFn, ev_vI, ev_vB, ev_oSlL, ev_oSlT, ev_oRevL, ev_bListL, ev_bListT, ev_bTupL, ev_bTupT, ev_isNone0, ev_isNoneI, ev_isNoneL, ev_isNoneT, ev_isNoneB, ev_isNoneS, n_add, n_sub, n_mul, n_mod, n_div, n_shl1, n_shl, n_shr, n_pow, n_and, n_or, n_xor, n_lt, n_le, n_gt, n_ge, n_eq, n_ne, bt1, bt0, d_ltT, d_ltF, d_leT, d_leF, d_eqT, d_eqF, c_eq, c_ne, c_eqc, c_nec, c_isN, l_ix, t_ix, l_ix0, l_ix1, l_ix2, l_ix3, l_ix4, l_ix5, t_ix0, t_ix1, t_ix2, l_len, t_len, cut_to, cut_from, l_addL, t_addT, w_rng1, w_rng2, n_max2, n_min2, n_sum, b_all, b_any, b_all0, b_intB, b_intN, i_intI, i_boolI, i_intB, i_boolB, i_tupT, i_lstL, i_tupL, i_lstT, i_intT, i_intL, i_tupI, i_lstI, i_intN, i_tupN, i_lstN, i_intS, i_tupS, i_lstS, i_tupB, i_lstB, r_isN, r_notN, wp_nx, wp_ret, wl_nx, wl_cnt, wl_brk, wl_ret, List.map_cons, List.map_nil, List.cons_append, List.nil_append, List.set_cons_zero, List.set_cons_succ, List.length_cons, List.length_nil, List.length_map, List.length_append, List.length_range, List.length_range', List.length_set, Bool.not_true, Bool.not_false, Bool.true_and, Bool.false_and, Bool.and_true, Bool.and_false, decide_true, decide_false, Nat.reduceSub, Nat.reduceAdd, Option.getD_some, vo_v, no_v, Nat.one_mul, l_eq, l_ne, t_eq, t_eqc, l_eq0, l_ne0, z_eq0, z_ne0, lc_ne0, lc_eq0, n_inL, n_inT, n_niL, n_niT, n_inC, if_true, if_false, Option.isNone_none, Option.isNone_some, n_augA, n_augS, List.append_nil, n_tr, n_lr, KStar2_, KStarO_, KStar_, w_Star, items_l, items_t, st_vals, KComp2_, w_Comp2, n_mulA, t_mulA1, t_mulA, l_repC, KOrT_, w_OrT, truO_n, truO_0, truO_i, KUnpL_, w_UnpL, unpLO_2, unpLO_3, KItE_, w_ItE, itEO_l, itEO_t, itZO_l, itZO_t, KItZ_, w_ItZ, enumD_map, zipD_map, cT1, cT2, cT3, KCallT2_, KCallT_, w_CallT, ev_oNeg, i_strS, b_sortP, b_is, b_nis, KIs_, w_Is, isLO_l, t_ix3, t_ix4, ba1, ba2, ba3, ba4, t_rev, KExt_, KExt0_, w_Ext, w_extR, w_ext1, KTru_, w_Tru, truT_, truD_l, truD_t, g_get, isLO_d, KDComp_, w_DComp, cell0], rfl⟩
    | some m => exact ⟨.val (.str (numT m)), by simp -implicitDefEqProofs (disch := (first | omega | (simp only [List.length_map, List.length_append, List.length_range, List.length_cons, List.length_nil, List.length_set, List.length_take, List.length_drop, List.length_replicate, List.length_reverse] <;> omega) | assumption)) only [w_Seq, w_seqN, w_seqR, w_seqC, w_seqB, w_seqX, iteF_t, iteF_f, iteO_t, iteO_f, KoB_, KtB_, sg0_, sgS_, w_var, vr_v, vr_o, w_rdS, rdO_v, rdO_o, w_stb, stO1_v, stO1_o, ob_s, w_isOwn, isOwnO_o, K1_, K1_x, w_1, K2b_, K2b_x, K2_, K2_x, w_2, Kc2_, Kc2_x, Kc_, Kc_x, w_cons, KB_, KB_x, w_B, Ktup_, Ktup_x, w_tup, Klst_, Klst_x, w_lst, KT_, KT_x, w_T, KtAnd_, KtAnd_x, w_tAnd, KtOr_, KtOr_x, w_tOr, KtNot_, KtNot_x, w_tNot, KAnd_, KAnd_x, w_And, KOr_, KOr_x, w_Or, KNot_, KNot_x, w_Not, KIte_, KIte_x, w_Ite, Kch4_, Kch4_x, Kch3f_, Kch3_, Kch3_x, Kch2_, Kch2_x, Kch_, Kch_x, w_ch, partO_i, KPart_, KPart_x, w_Part, slO_, KSl3_, KSl3_x, KSl2_, KSl2_x, KSl_, KSl_x, w_Sl, KDo_, KDo_x, w_Do, KRet_, KRet_x, w_Ret, KIf_, KIf_x, w_If, putK_, w_putl, KSet_, KSet_x, w_Set, KAug_, KAug_x, w_Aug, augO_i, unpO_2, unpO_3, w_tg2, w_tg3, KUnp_, KUnp_x, w_Unp, chgK_, w_chg, chgO_o, appK_, w_appR, w_app1, KApp_, KApp_x, KApp0_, w_App, stIK_, w_stIR, stIO_i, w_put1, KStI2_, KStI2_x, KStI1_, KStI_, KStI_x, w_StI, KIt_, KIt_x, w_It, KRng1_, KRng1_x, w_Rng1, KRng2_, KRng2_x, w_Rng2, it2O_, it1O_, KIt2_, KIt2_x, w_It2, KIt1_, KIt1_x, w_It1, KFor_, KFor_x, w_For, KComp_, KComp_x, w_Comp, KCall_, KCall_x, w_Call, KCallI_, KCallI_x, KCallI0_, w_CallI, w_mkTup, w_mkLst, rdsK2_, rdsK_, w_rds, stbsK2_, stbsK_, w_stbs, cP0, cP1, cP2, cP3, cP4, cP5, cP6, cP7, cIO_o, cI1, cI2, cI3, cI4, cI5, cI6, cI7, w_stOt, stOO_o, w_retFl, retO_v, retO_o, w_finR, w_finN, finO_s, w_runF, rp0, rpS, asE_x, stF_x, finX_s, w_finX, ev_c, ev_fin, ev_fin0, ev_o1, ev_o2, ev_rdv, ev_rdn, ev_rdl, ev_nil, ev_stlv, ev_stln, ev_stll, ev_rds0, ev_stbv, ev_stbn, ev_stbs0, ev_asB, ev_NoPart, ev_Nx, ev_putv, ev_putn, ev_ofO, ev_itL, ev_itT, ev_tgN, ev_for0, ev_wipeD0, ev_wipeD, ev_restD0, ev_restD, ev_endC, ev_Yes, ev_asEv, ev_asEn, ev_stFv, ev_stFn, ev_mkAf, ev_mkAt, ev_stOf, ev_retFv, ev_retFn, ev_vI, ev_vB, ev_oSlL, ev_oSlT, ev_oRevL, ev_bListL, ev_bListT, ev_bTupL, ev_bTupT, ev_isNone0, ev_isNoneI, ev_isNoneL, ev_isNoneT, ev_isNoneB, ev_isNoneS, n_add, n_sub, n_mul, n_mod, n_div, n_shl1, n_shl, n_shr, n_pow, n_and, n_or, n_xor, n_lt, n_le, n_gt, n_ge, n_eq, n_ne, bt1, bt0, d_ltT, d_ltF, d_leT, d_leF, d_eqT, d_eqF, c_eq, c_ne, c_eqc, c_nec, c_isN, l_ix, t_ix, l_ix0, l_ix1, l_ix2, l_ix3, l_ix4, l_ix5, t_ix0, t_ix1, t_ix2, l_len, t_len, cut_to, cut_from, l_addL, t_addT, w_rng1, w_rng2, n_max2, n_min2, n_sum, b_all, b_any, b_all0, b_intB, b_intN, i_intI, i_boolI, i_intB, i_boolB, i_tupT, i_lstL, i_tupL, i_lstT, i_intT, i_intL, i_tupI, i_lstI, i_intN, i_tupN, i_lstN, i_intS, i_tupS, i_lstS, i_tupB, i_lstB, r_isN, r_notN, wp_nx, wp_ret, wl_nx, wl_cnt, wl_brk, wl_ret, List.map_cons, List.map_nil, List.cons_append, List.nil_append, List.set_cons_zero, List.set_cons_succ, List.length_cons, List.length_nil, List.length_map, List.length_append, List.length_range, List.length_range', List.length_set, Bool.not_true, Bool.not_false, Bool.true_and, Bool.false_and, Bool.and_true, Bool.and_false, decide_true, decide_false, Nat.reduceSub, Nat.reduceAdd, Option.getD_some, vo_v, no_v, Nat.one_mul, l_eq, l_ne, t_eq, t_eqc, l_eq0, l_ne0, z_eq0, z_ne0, lc_ne0, lc_eq0, n_inL, n_inT, n_niL, n_niT, n_inC, if_true, if_false, Option.isNone_none, Option.isNone_some, n_augA, n_augS, List.append_nil, n_tr, n_lr, KStar2_, KStarO_, KStar_, w_Star, items_l, items_t, st_vals, KComp2_, w_Comp2, n_mulA, t_mulA1, t_mulA, l_repC, KOrT_, w_OrT, truO_n, truO_0, truO_i, KUnpL_, w_UnpL, unpLO_2, unpLO_3, KItE_, w_ItE, itEO_l, itEO_t, itZO_l, itZO_t, KItZ_, w_ItZ, enumD_map, zipD_map, cT1, cT2, cT3, KCallT2_, KCallT_, w_CallT, ev_oNeg, i_strS, b_sortP, b_is, b_nis, KIs_, w_Is, isLO_l, t_ix3, t_ix4, ba1, ba2, ba3, ba4, t_rev, KExt_, KExt0_, w_Ext, w_extR, w_ext1, KTru_, w_Tru, truT_, truD_l, truD_t, g_get, isLO_d, KDComp_, w_DComp, cell1, b_str (show m < 1000000 by have := hc m hcc; omega)], rfl⟩
theorem shw_wr82 {n k : Nat} {t : List (Option Nat)} (hn : n ≤ 8) (hk : k ≤ 256) (hl : t.length ≤ 256) (ht : ∀ c, some c ∈ t → c < 1000) : reprOk (.tuple [nI n, nI k, tab t]) = true := by
  have h1 : Shw (tab t) (41 * 256) 1 := shw_tup (w := 40) (k := 0) (fun d hd => by
    obtain ⟨c, hc, rfl⟩ := List.mem_map.mp hd
    cases c with
    | none => exact shw_non.mono (by omega) (by omega)
    | some m => exact shw_int (by have := ht m hc; omega)) (by rw [List.length_map]; exact hl)
  refine (shw_tup (w := 41 * 256) (k := 1) (n := 3) (fun d hd => ?_) (by simp)).ok (by decide) (by decide)
  simp only [List.mem_cons, List.not_mem_nil, or_false] at hd
  rcases hd with rfl | rfl | rfl
  · exact (shw_int (by omega)).mono (by omega) (by omega)
  · exact (shw_int (by omega)).mono (by omega) (by omega)
  · exact h1
theorem right_n82 {n k : Nat} {t : List (Option Nat)} (h1 : 1 ≤ n) (hn : n ≤ 8) (h2 : 2 ≤ k) (hk : k ≤ 100) (h : Tb n k t) : G_law_right [] [wr n k t] = .val (.bool true) [] := by
  have hp := pow_le hn
  have hl : t.length ≤ 256 := by rw [h.1]; exact hp
  have hr := b_reprT (shw_wr82 (n := n) (k := k) (t := t) hn (by omega) hl fun c hc => by have := h.2 c hc; omega)
  have hm : G_made_writing [] [nI n, nI k, tab t] = .val (wr n k t) [] := made_spec h1 hn h2 hk h
  have hr' : bRepr [wr n k t] = some (.val (.str (wr n k t).shown)) := hr
  have w0 : oIx (wr n k t) (nI 0) = some (.val (nI n)) := by simp -implicitDefEqProofs (disch := (first | omega | (simp only [List.length_map, List.length_append, List.length_range, List.length_cons, List.length_nil, List.length_set, List.length_take, List.length_drop, List.length_replicate, List.length_reverse] <;> omega) | assumption)) only [w_Seq, w_seqN, w_seqR, w_seqC, w_seqB, w_seqX, iteF_t, iteF_f, iteO_t, iteO_f, KoB_, KtB_, sg0_, sgS_, w_var, vr_v, vr_o, w_rdS, rdO_v, rdO_o, w_stb, stO1_v, stO1_o, ob_s, w_isOwn, isOwnO_o, K1_, K1_x, w_1, K2b_, K2b_x, K2_, K2_x, w_2, Kc2_, Kc2_x, Kc_, Kc_x, w_cons, KB_, KB_x, w_B, Ktup_, Ktup_x, w_tup, Klst_, Klst_x, w_lst, KT_, KT_x, w_T, KtAnd_, KtAnd_x, w_tAnd, KtOr_, KtOr_x, w_tOr, KtNot_, KtNot_x, w_tNot, KAnd_, KAnd_x, w_And, KOr_, KOr_x, w_Or, KNot_, KNot_x, w_Not, KIte_, KIte_x, w_Ite, Kch4_, Kch4_x, Kch3f_, Kch3_, Kch3_x, Kch2_, Kch2_x, Kch_, Kch_x, w_ch, partO_i, KPart_, KPart_x, w_Part, slO_, KSl3_, KSl3_x, KSl2_, KSl2_x, KSl_, KSl_x, w_Sl, KDo_, KDo_x, w_Do, KRet_, KRet_x, w_Ret, KIf_, KIf_x, w_If, putK_, w_putl, KSet_, KSet_x, w_Set, KAug_, KAug_x, w_Aug, augO_i, unpO_2, unpO_3, w_tg2, w_tg3, KUnp_, KUnp_x, w_Unp, chgK_, w_chg, chgO_o, appK_, w_appR, w_app1, KApp_, KApp_x, KApp0_, w_App, stIK_, w_stIR, stIO_i, w_put1, KStI2_, KStI2_x, KStI1_, KStI_, KStI_x, w_StI, KIt_, KIt_x, w_It, KRng1_, KRng1_x, w_Rng1, KRng2_, KRng2_x, w_Rng2, it2O_, it1O_, KIt2_, KIt2_x, w_It2, KIt1_, KIt1_x, w_It1, KFor_, KFor_x, w_For, KComp_, KComp_x, w_Comp, KCall_, KCall_x, w_Call, KCallI_, KCallI_x, KCallI0_, w_CallI, w_mkTup, w_mkLst, rdsK2_, rdsK_, w_rds, stbsK2_, stbsK_, w_stbs, cP0, cP1, cP2, cP3, cP4, cP5, cP6, cP7, cIO_o, cI1, cI2, cI3, cI4, cI5, cI6, cI7, w_stOt, stOO_o, w_retFl, retO_v, retO_o, w_finR, w_finN, finO_s, w_runF, rp0, rpS, asE_x, stF_x, finX_s, w_finX, ev_c, ev_fin, ev_fin0, ev_o1, ev_o2, ev_rdv, ev_rdn, ev_rdl, ev_nil, ev_stlv, ev_stln, ev_stll, ev_rds0, ev_stbv, ev_stbn, ev_stbs0, ev_asB, ev_NoPart, ev_Nx, ev_putv, ev_putn, ev_ofO, ev_itL, ev_itT, ev_tgN, ev_for0, ev_wipeD0, ev_wipeD, ev_restD0, ev_restD, ev_endC, ev_Yes, ev_asEv, ev_asEn, ev_stFv, ev_stFn, ev_mkAf, ev_mkAt, ev_stOf, ev_retFv, ev_retFn, ev_vI, ev_vB, ev_oSlL, ev_oSlT, ev_oRevL, ev_bListL, ev_bListT, ev_bTupL, ev_bTupT, ev_isNone0, ev_isNoneI, ev_isNoneL, ev_isNoneT, ev_isNoneB, ev_isNoneS, n_add, n_sub, n_mul, n_mod, n_div, n_shl1, n_shl, n_shr, n_pow, n_and, n_or, n_xor, n_lt, n_le, n_gt, n_ge, n_eq, n_ne, bt1, bt0, d_ltT, d_ltF, d_leT, d_leF, d_eqT, d_eqF, c_eq, c_ne, c_eqc, c_nec, c_isN, l_ix, t_ix, l_ix0, l_ix1, l_ix2, l_ix3, l_ix4, l_ix5, t_ix0, t_ix1, t_ix2, l_len, t_len, cut_to, cut_from, l_addL, t_addT, w_rng1, w_rng2, n_max2, n_min2, n_sum, b_all, b_any, b_all0, b_intB, b_intN, i_intI, i_boolI, i_intB, i_boolB, i_tupT, i_lstL, i_tupL, i_lstT, i_intT, i_intL, i_tupI, i_lstI, i_intN, i_tupN, i_lstN, i_intS, i_tupS, i_lstS, i_tupB, i_lstB, r_isN, r_notN, wp_nx, wp_ret, wl_nx, wl_cnt, wl_brk, wl_ret, List.map_cons, List.map_nil, List.cons_append, List.nil_append, List.set_cons_zero, List.set_cons_succ, List.length_cons, List.length_nil, List.length_map, List.length_append, List.length_range, List.length_range', List.length_set, Bool.not_true, Bool.not_false, Bool.true_and, Bool.false_and, Bool.and_true, Bool.and_false, decide_true, decide_false, Nat.reduceSub, Nat.reduceAdd, Option.getD_some, vo_v, no_v, Nat.one_mul, l_eq, l_ne, t_eq, t_eqc, l_eq0, l_ne0, z_eq0, z_ne0, lc_ne0, lc_eq0, n_inL, n_inT, n_niL, n_niT, n_inC, if_true, if_false, Option.isNone_none, Option.isNone_some, n_augA, n_augS, List.append_nil, n_tr, n_lr, KStar2_, KStarO_, KStar_, w_Star, items_l, items_t, st_vals, KComp2_, w_Comp2, n_mulA, t_mulA1, t_mulA, l_repC, KOrT_, w_OrT, truO_n, truO_0, truO_i, KUnpL_, w_UnpL, unpLO_2, unpLO_3, KItE_, w_ItE, itEO_l, itEO_t, itZO_l, itZO_t, KItZ_, w_ItZ, enumD_map, zipD_map, cT1, cT2, cT3, KCallT2_, KCallT_, w_CallT, ev_oNeg, i_strS, b_sortP, b_is, b_nis, KIs_, w_Is, isLO_l, t_ix3, t_ix4, ba1, ba2, ba3, ba4, t_rev, KExt_, KExt0_, w_Ext, w_extR, w_ext1, KTru_, w_Tru, truT_, truD_l, truD_t, g_get, isLO_d, KDComp_, w_DComp, wr]
  have w1 : oIx (wr n k t) (nI 1) = some (.val (nI k)) := by simp -implicitDefEqProofs (disch := (first | omega | (simp only [List.length_map, List.length_append, List.length_range, List.length_cons, List.length_nil, List.length_set, List.length_take, List.length_drop, List.length_replicate, List.length_reverse] <;> omega) | assumption)) only [w_Seq, w_seqN, w_seqR, w_seqC, w_seqB, w_seqX, iteF_t, iteF_f, iteO_t, iteO_f, KoB_, KtB_, sg0_, sgS_, w_var, vr_v, vr_o, w_rdS, rdO_v, rdO_o, w_stb, stO1_v, stO1_o, ob_s, w_isOwn, isOwnO_o, K1_, K1_x, w_1, K2b_, K2b_x, K2_, K2_x, w_2, Kc2_, Kc2_x, Kc_, Kc_x, w_cons, KB_, KB_x, w_B, Ktup_, Ktup_x, w_tup, Klst_, Klst_x, w_lst, KT_, KT_x, w_T, KtAnd_, KtAnd_x, w_tAnd, KtOr_, KtOr_x, w_tOr, KtNot_, KtNot_x, w_tNot, KAnd_, KAnd_x, w_And, KOr_, KOr_x, w_Or, KNot_, KNot_x, w_Not, KIte_, KIte_x, w_Ite, Kch4_, Kch4_x, Kch3f_, Kch3_, Kch3_x, Kch2_, Kch2_x, Kch_, Kch_x, w_ch, partO_i, KPart_, KPart_x, w_Part, slO_, KSl3_, KSl3_x, KSl2_, KSl2_x, KSl_, KSl_x, w_Sl, KDo_, KDo_x, w_Do, KRet_, KRet_x, w_Ret, KIf_, KIf_x, w_If, putK_, w_putl, KSet_, KSet_x, w_Set, KAug_, KAug_x, w_Aug, augO_i, unpO_2, unpO_3, w_tg2, w_tg3, KUnp_, KUnp_x, w_Unp, chgK_, w_chg, chgO_o, appK_, w_appR, w_app1, KApp_, KApp_x, KApp0_, w_App, stIK_, w_stIR, stIO_i, w_put1, KStI2_, KStI2_x, KStI1_, KStI_, KStI_x, w_StI, KIt_, KIt_x, w_It, KRng1_, KRng1_x, w_Rng1, KRng2_, KRng2_x, w_Rng2, it2O_, it1O_, KIt2_, KIt2_x, w_It2, KIt1_, KIt1_x, w_It1, KFor_, KFor_x, w_For, KComp_, KComp_x, w_Comp, KCall_, KCall_x, w_Call, KCallI_, KCallI_x, KCallI0_, w_CallI, w_mkTup, w_mkLst, rdsK2_, rdsK_, w_rds, stbsK2_, stbsK_, w_stbs, cP0, cP1, cP2, cP3, cP4, cP5, cP6, cP7, cIO_o, cI1, cI2, cI3, cI4, cI5, cI6, cI7, w_stOt, stOO_o, w_retFl, retO_v, retO_o, w_finR, w_finN, finO_s, w_runF, rp0, rpS, asE_x, stF_x, finX_s, w_finX, ev_c, ev_fin, ev_fin0, ev_o1, ev_o2, ev_rdv, ev_rdn, ev_rdl, ev_nil, ev_stlv, ev_stln, ev_stll, ev_rds0, ev_stbv, ev_stbn, ev_stbs0, ev_asB, ev_NoPart, ev_Nx, ev_putv, ev_putn, ev_ofO, ev_itL, ev_itT, ev_tgN, ev_for0, ev_wipeD0, ev_wipeD, ev_restD0, ev_restD, ev_endC, ev_Yes, ev_asEv, ev_asEn, ev_stFv, ev_stFn, ev_mkAf, ev_mkAt, ev_stOf, ev_retFv, ev_retFn, ev_vI, ev_vB, ev_oSlL, ev_oSlT, ev_oRevL, ev_bListL, ev_bListT, ev_bTupL, ev_bTupT, ev_isNone0, ev_isNoneI, ev_isNoneL, ev_isNoneT, ev_isNoneB, ev_isNoneS, n_add, n_sub, n_mul, n_mod, n_div, n_shl1, n_shl, n_shr, n_pow, n_and, n_or, n_xor, n_lt, n_le, n_gt, n_ge, n_eq, n_ne, bt1, bt0, d_ltT, d_ltF, d_leT, d_leF, d_eqT, d_eqF, c_eq, c_ne, c_eqc, c_nec, c_isN, l_ix, t_ix, l_ix0, l_ix1, l_ix2, l_ix3, l_ix4, l_ix5, t_ix0, t_ix1, t_ix2, l_len, t_len, cut_to, cut_from, l_addL, t_addT, w_rng1, w_rng2, n_max2, n_min2, n_sum, b_all, b_any, b_all0, b_intB, b_intN, i_intI, i_boolI, i_intB, i_boolB, i_tupT, i_lstL, i_tupL, i_lstT, i_intT, i_intL, i_tupI, i_lstI, i_intN, i_tupN, i_lstN, i_intS, i_tupS, i_lstS, i_tupB, i_lstB, r_isN, r_notN, wp_nx, wp_ret, wl_nx, wl_cnt, wl_brk, wl_ret, List.map_cons, List.map_nil, List.cons_append, List.nil_append, List.set_cons_zero, List.set_cons_succ, List.length_cons, List.length_nil, List.length_map, List.length_append, List.length_range, List.length_range', List.length_set, Bool.not_true, Bool.not_false, Bool.true_and, Bool.false_and, Bool.and_true, Bool.and_false, decide_true, decide_false, Nat.reduceSub, Nat.reduceAdd, Option.getD_some, vo_v, no_v, Nat.one_mul, l_eq, l_ne, t_eq, t_eqc, l_eq0, l_ne0, z_eq0, z_ne0, lc_ne0, lc_eq0, n_inL, n_inT, n_niL, n_niT, n_inC, if_true, if_false, Option.isNone_none, Option.isNone_some, n_augA, n_augS, List.append_nil, n_tr, n_lr, KStar2_, KStarO_, KStar_, w_Star, items_l, items_t, st_vals, KComp2_, w_Comp2, n_mulA, t_mulA1, t_mulA, l_repC, KOrT_, w_OrT, truO_n, truO_0, truO_i, KUnpL_, w_UnpL, unpLO_2, unpLO_3, KItE_, w_ItE, itEO_l, itEO_t, itZO_l, itZO_t, KItZ_, w_ItZ, enumD_map, zipD_map, cT1, cT2, cT3, KCallT2_, KCallT_, w_CallT, ev_oNeg, i_strS, b_sortP, b_is, b_nis, KIs_, w_Is, isLO_l, t_ix3, t_ix4, ba1, ba2, ba3, ba4, t_rev, KExt_, KExt0_, w_Ext, w_extR, w_ext1, KTru_, w_Tru, truT_, truD_l, truD_t, g_get, isLO_d, KDComp_, w_DComp, wr]
  have w2 : oIx (wr n k t) (nI 2) = some (.val (tab t)) := by simp -implicitDefEqProofs (disch := (first | omega | (simp only [List.length_map, List.length_append, List.length_range, List.length_cons, List.length_nil, List.length_set, List.length_take, List.length_drop, List.length_replicate, List.length_reverse] <;> omega) | assumption)) only [w_Seq, w_seqN, w_seqR, w_seqC, w_seqB, w_seqX, iteF_t, iteF_f, iteO_t, iteO_f, KoB_, KtB_, sg0_, sgS_, w_var, vr_v, vr_o, w_rdS, rdO_v, rdO_o, w_stb, stO1_v, stO1_o, ob_s, w_isOwn, isOwnO_o, K1_, K1_x, w_1, K2b_, K2b_x, K2_, K2_x, w_2, Kc2_, Kc2_x, Kc_, Kc_x, w_cons, KB_, KB_x, w_B, Ktup_, Ktup_x, w_tup, Klst_, Klst_x, w_lst, KT_, KT_x, w_T, KtAnd_, KtAnd_x, w_tAnd, KtOr_, KtOr_x, w_tOr, KtNot_, KtNot_x, w_tNot, KAnd_, KAnd_x, w_And, KOr_, KOr_x, w_Or, KNot_, KNot_x, w_Not, KIte_, KIte_x, w_Ite, Kch4_, Kch4_x, Kch3f_, Kch3_, Kch3_x, Kch2_, Kch2_x, Kch_, Kch_x, w_ch, partO_i, KPart_, KPart_x, w_Part, slO_, KSl3_, KSl3_x, KSl2_, KSl2_x, KSl_, KSl_x, w_Sl, KDo_, KDo_x, w_Do, KRet_, KRet_x, w_Ret, KIf_, KIf_x, w_If, putK_, w_putl, KSet_, KSet_x, w_Set, KAug_, KAug_x, w_Aug, augO_i, unpO_2, unpO_3, w_tg2, w_tg3, KUnp_, KUnp_x, w_Unp, chgK_, w_chg, chgO_o, appK_, w_appR, w_app1, KApp_, KApp_x, KApp0_, w_App, stIK_, w_stIR, stIO_i, w_put1, KStI2_, KStI2_x, KStI1_, KStI_, KStI_x, w_StI, KIt_, KIt_x, w_It, KRng1_, KRng1_x, w_Rng1, KRng2_, KRng2_x, w_Rng2, it2O_, it1O_, KIt2_, KIt2_x, w_It2, KIt1_, KIt1_x, w_It1, KFor_, KFor_x, w_For, KComp_, KComp_x, w_Comp, KCall_, KCall_x, w_Call, KCallI_, KCallI_x, KCallI0_, w_CallI, w_mkTup, w_mkLst, rdsK2_, rdsK_, w_rds, stbsK2_, stbsK_, w_stbs, cP0, cP1, cP2, cP3, cP4, cP5, cP6, cP7, cIO_o, cI1, cI2, cI3, cI4, cI5, cI6, cI7, w_stOt, stOO_o, w_retFl, retO_v, retO_o, w_finR, w_finN, finO_s, w_runF, rp0, rpS, asE_x, stF_x, finX_s, w_finX, ev_c, ev_fin, ev_fin0, ev_o1, ev_o2, ev_rdv, ev_rdn, ev_rdl, ev_nil, ev_stlv, ev_stln, ev_stll, ev_rds0, ev_stbv, ev_stbn, ev_stbs0, ev_asB, ev_NoPart, ev_Nx, ev_putv, ev_putn, ev_ofO, ev_itL, ev_itT, ev_tgN, ev_for0, ev_wipeD0, ev_wipeD, ev_restD0, ev_restD, ev_endC, ev_Yes, ev_asEv, ev_asEn, ev_stFv, ev_stFn, ev_mkAf, ev_mkAt, ev_stOf, ev_retFv, ev_retFn, ev_vI, ev_vB, ev_oSlL, ev_oSlT, ev_oRevL, ev_bListL, ev_bListT, ev_bTupL, ev_bTupT, ev_isNone0, ev_isNoneI, ev_isNoneL, ev_isNoneT, ev_isNoneB, ev_isNoneS, n_add, n_sub, n_mul, n_mod, n_div, n_shl1, n_shl, n_shr, n_pow, n_and, n_or, n_xor, n_lt, n_le, n_gt, n_ge, n_eq, n_ne, bt1, bt0, d_ltT, d_ltF, d_leT, d_leF, d_eqT, d_eqF, c_eq, c_ne, c_eqc, c_nec, c_isN, l_ix, t_ix, l_ix0, l_ix1, l_ix2, l_ix3, l_ix4, l_ix5, t_ix0, t_ix1, t_ix2, l_len, t_len, cut_to, cut_from, l_addL, t_addT, w_rng1, w_rng2, n_max2, n_min2, n_sum, b_all, b_any, b_all0, b_intB, b_intN, i_intI, i_boolI, i_intB, i_boolB, i_tupT, i_lstL, i_tupL, i_lstT, i_intT, i_intL, i_tupI, i_lstI, i_intN, i_tupN, i_lstN, i_intS, i_tupS, i_lstS, i_tupB, i_lstB, r_isN, r_notN, wp_nx, wp_ret, wl_nx, wl_cnt, wl_brk, wl_ret, List.map_cons, List.map_nil, List.cons_append, List.nil_append, List.set_cons_zero, List.set_cons_succ, List.length_cons, List.length_nil, List.length_map, List.length_append, List.length_range, List.length_range', List.length_set, Bool.not_true, Bool.not_false, Bool.true_and, Bool.false_and, Bool.and_true, Bool.and_false, decide_true, decide_false, Nat.reduceSub, Nat.reduceAdd, Option.getD_some, vo_v, no_v, Nat.one_mul, l_eq, l_ne, t_eq, t_eqc, l_eq0, l_ne0, z_eq0, z_ne0, lc_ne0, lc_eq0, n_inL, n_inT, n_niL, n_niT, n_inC, if_true, if_false, Option.isNone_none, Option.isNone_some, n_augA, n_augS, List.append_nil, n_tr, n_lr, KStar2_, KStarO_, KStar_, w_Star, items_l, items_t, st_vals, KComp2_, w_Comp2, n_mulA, t_mulA1, t_mulA, l_repC, KOrT_, w_OrT, truO_n, truO_0, truO_i, KUnpL_, w_UnpL, unpLO_2, unpLO_3, KItE_, w_ItE, itEO_l, itEO_t, itZO_l, itZO_t, KItZ_, w_ItZ, enumD_map, zipD_map, cT1, cT2, cT3, KCallT2_, KCallT_, w_CallT, ev_oNeg, i_strS, b_sortP, b_is, b_nis, KIs_, w_Is, isLO_l, t_ix3, t_ix4, ba1, ba2, ba3, ba4, t_rev, KExt_, KExt0_, w_Ext, w_extR, w_ext1, KTru_, w_Tru, truT_, truD_l, truD_t, g_get, isLO_d, KDComp_, w_DComp, wr]
  simp -implicitDefEqProofs (disch := (first | omega | (simp only [List.length_map, List.length_append, List.length_range, List.length_cons, List.length_nil, List.length_set, List.length_take, List.length_drop, List.length_replicate, List.length_reverse] <;> omega) | assumption)) only [w_Seq, w_seqN, w_seqR, w_seqC, w_seqB, w_seqX, iteF_t, iteF_f, iteO_t, iteO_f, KoB_, KtB_, sg0_, sgS_, w_var, vr_v, vr_o, w_rdS, rdO_v, rdO_o, w_stb, stO1_v, stO1_o, ob_s, w_isOwn, isOwnO_o, K1_, K1_x, w_1, K2b_, K2b_x, K2_, K2_x, w_2, Kc2_, Kc2_x, Kc_, Kc_x, w_cons, KB_, KB_x, w_B, Ktup_, Ktup_x, w_tup, Klst_, Klst_x, w_lst, KT_, KT_x, w_T, KtAnd_, KtAnd_x, w_tAnd, KtOr_, KtOr_x, w_tOr, KtNot_, KtNot_x, w_tNot, KAnd_, KAnd_x, w_And, KOr_, KOr_x, w_Or, KNot_, KNot_x, w_Not, KIte_, KIte_x, w_Ite, Kch4_, Kch4_x, Kch3f_, Kch3_, Kch3_x, Kch2_, Kch2_x, Kch_, Kch_x, w_ch, partO_i, KPart_, KPart_x, w_Part, slO_, KSl3_, KSl3_x, KSl2_, KSl2_x, KSl_, KSl_x, w_Sl, KDo_, KDo_x, w_Do, KRet_, KRet_x, w_Ret, KIf_, KIf_x, w_If, putK_, w_putl, KSet_, KSet_x, w_Set, KAug_, KAug_x, w_Aug, augO_i, unpO_2, unpO_3, w_tg2, w_tg3, KUnp_, KUnp_x, w_Unp, chgK_, w_chg, chgO_o, appK_, w_appR, w_app1, KApp_, KApp_x, KApp0_, w_App, stIK_, w_stIR, stIO_i, w_put1, KStI2_, KStI2_x, KStI1_, KStI_, KStI_x, w_StI, KIt_, KIt_x, w_It, KRng1_, KRng1_x, w_Rng1, KRng2_, KRng2_x, w_Rng2, it2O_, it1O_, KIt2_, KIt2_x, w_It2, KIt1_, KIt1_x, w_It1, KFor_, KFor_x, w_For, KComp_, KComp_x, w_Comp, KCall_, KCall_x, w_Call, KCallI_, KCallI_x, KCallI0_, w_CallI, w_mkTup, w_mkLst, rdsK2_, rdsK_, w_rds, stbsK2_, stbsK_, w_stbs, cP0, cP1, cP2, cP3, cP4, cP5, cP6, cP7, cIO_o, cI1, cI2, cI3, cI4, cI5, cI6, cI7, w_stOt, stOO_o, w_retFl, retO_v, retO_o, w_finR, w_finN, finO_s, w_runF, rp0, rpS, asE_x, stF_x, finX_s, w_finX, ev_c, ev_fin, ev_fin0, ev_o1, ev_o2, ev_rdv, ev_rdn, ev_rdl, ev_nil, ev_stlv, ev_stln, ev_stll, ev_rds0, ev_stbv, ev_stbn, ev_stbs0, ev_asB, ev_NoPart, ev_Nx, ev_putv, ev_putn, ev_ofO, ev_itL, ev_itT, ev_tgN, ev_for0, ev_wipeD0, ev_wipeD, ev_restD0, ev_restD, ev_endC, ev_Yes, ev_asEv, ev_asEn, ev_stFv, ev_stFn, ev_mkAf, ev_mkAt, ev_stOf, ev_retFv, ev_retFn, ev_vI, ev_vB, ev_oSlL, ev_oSlT, ev_oRevL, ev_bListL, ev_bListT, ev_bTupL, ev_bTupT, ev_isNone0, ev_isNoneI, ev_isNoneL, ev_isNoneT, ev_isNoneB, ev_isNoneS, n_add, n_sub, n_mul, n_mod, n_div, n_shl1, n_shl, n_shr, n_pow, n_and, n_or, n_xor, n_lt, n_le, n_gt, n_ge, n_eq, n_ne, bt1, bt0, d_ltT, d_ltF, d_leT, d_leF, d_eqT, d_eqF, c_eq, c_ne, c_eqc, c_nec, c_isN, l_ix, t_ix, l_ix0, l_ix1, l_ix2, l_ix3, l_ix4, l_ix5, t_ix0, t_ix1, t_ix2, l_len, t_len, cut_to, cut_from, l_addL, t_addT, w_rng1, w_rng2, n_max2, n_min2, n_sum, b_all, b_any, b_all0, b_intB, b_intN, i_intI, i_boolI, i_intB, i_boolB, i_tupT, i_lstL, i_tupL, i_lstT, i_intT, i_intL, i_tupI, i_lstI, i_intN, i_tupN, i_lstN, i_intS, i_tupS, i_lstS, i_tupB, i_lstB, r_isN, r_notN, wp_nx, wp_ret, wl_nx, wl_cnt, wl_brk, wl_ret, List.map_cons, List.map_nil, List.cons_append, List.nil_append, List.set_cons_zero, List.set_cons_succ, List.length_cons, List.length_nil, List.length_map, List.length_append, List.length_range, List.length_range', List.length_set, Bool.not_true, Bool.not_false, Bool.true_and, Bool.false_and, Bool.and_true, Bool.and_false, decide_true, decide_false, Nat.reduceSub, Nat.reduceAdd, Option.getD_some, vo_v, no_v, Nat.one_mul, l_eq, l_ne, t_eq, t_eqc, l_eq0, l_ne0, z_eq0, z_ne0, lc_ne0, lc_eq0, n_inL, n_inT, n_niL, n_niT, n_inC, if_true, if_false, Option.isNone_none, Option.isNone_some, n_augA, n_augS, List.append_nil, n_tr, n_lr, KStar2_, KStarO_, KStar_, w_Star, items_l, items_t, st_vals, KComp2_, w_Comp2, n_mulA, t_mulA1, t_mulA, l_repC, KOrT_, w_OrT, truO_n, truO_0, truO_i, KUnpL_, w_UnpL, unpLO_2, unpLO_3, KItE_, w_ItE, itEO_l, itEO_t, itZO_l, itZO_t, KItZ_, w_ItZ, enumD_map, zipD_map, cT1, cT2, cT3, KCallT2_, KCallT_, w_CallT, ev_oNeg, i_strS, b_sortP, b_is, b_nis, KIs_, w_Is, isLO_l, t_ix3, t_ix4, ba1, ba2, ba3, ba4, t_rev, KExt_, KExt0_, w_Ext, w_extR, w_ext1, KTru_, w_Tru, truT_, truD_l, truD_t, g_get, isLO_d, KDComp_, w_DComp, G_law_right, D_law_right, w0, w1, w2, hm, writing_n hn hk h, law_text_n hn hk h, eqS_self, read_n h1 hn h2 hk h, hr', eqS_self]
theorem otherwise_vo {n k : Nat} {t : List (Option Nat)} {st : List PyData} (hn : n ≤ 8) (hk : 2 ≤ k) (hk2 : k ≤ 100) (tb : Tb n k t) (hg : GoodS st) : VOk (fun d st' => ∃ t', d = wr n k t' ∧ GoodS st' ∧ Tb n k t') (G_law_otherwise st [wr n k t]) := by
  have hp := pow_le hn
  have hp0 : 0 < 2 ^ n := Nat.pow_pos (by decide)
  have ht := tb.1
  obtain ⟨a, s1, e1, u1, g1⟩ := take_nat hg (m := t.length) (by omega) (by omega)
  obtain ⟨b, s2, e2, u2, g2⟩ := take_nat g1 (m := k) (by omega) (by omega)
  obtain ⟨c, s3, e3, u3, g3⟩ := take_nat g2 (m := 4) (by omega) (by omega)
  obtain ⟨_, ed, z, rfl, hz⟩ := l_pick (ds := [.none, nI 0, nI (k - 1), nI b]) (i := c) (fun d => ∃ z : Option Nat, d = cell z ∧ ∀ c, z = some c → c < k) u3 (fun d hd => by
    simp only [List.mem_cons, List.not_mem_nil, or_false] at hd
    rcases hd with rfl | rfl | rfl | rfl
    · exact ⟨none, rfl, fun c h => by cases h⟩
    · exact ⟨some 0, rfl, fun c h => by cases h; omega⟩
    · exact ⟨some (k - 1), rfl, fun c h => by cases h; omega⟩
    · exact ⟨some b, rfl, fun c h => by cases h; exact u2⟩)
  unfold G_law_otherwise D_law_otherwise wr
  simp -implicitDefEqProofs (disch := (first | omega | (simp only [List.length_map, List.length_append, List.length_range, List.length_cons, List.length_nil, List.length_set, List.length_take, List.length_drop, List.length_replicate, List.length_reverse] <;> omega) | assumption)) only [w_Seq, w_seqN, w_seqR, w_seqC, w_seqB, w_seqX, iteF_t, iteF_f, iteO_t, iteO_f, KoB_, KtB_, sg0_, sgS_, w_var, vr_v, vr_o, w_rdS, rdO_v, rdO_o, w_stb, stO1_v, stO1_o, ob_s, w_isOwn, isOwnO_o, K1_, K1_x, w_1, K2b_, K2b_x, K2_, K2_x, w_2, Kc2_, Kc2_x, Kc_, Kc_x, w_cons, KB_, KB_x, w_B, Ktup_, Ktup_x, w_tup, Klst_, Klst_x, w_lst, KT_, KT_x, w_T, KtAnd_, KtAnd_x, w_tAnd, KtOr_, KtOr_x, w_tOr, KtNot_, KtNot_x, w_tNot, KAnd_, KAnd_x, w_And, KOr_, KOr_x, w_Or, KNot_, KNot_x, w_Not, KIte_, KIte_x, w_Ite, Kch4_, Kch4_x, Kch3f_, Kch3_, Kch3_x, Kch2_, Kch2_x, Kch_, Kch_x, w_ch, partO_i, KPart_, KPart_x, w_Part, slO_, KSl3_, KSl3_x, KSl2_, KSl2_x, KSl_, KSl_x, w_Sl, KDo_, KDo_x, w_Do, KRet_, KRet_x, w_Ret, KIf_, KIf_x, w_If, putK_, w_putl, KSet_, KSet_x, w_Set, KAug_, KAug_x, w_Aug, augO_i, unpO_2, unpO_3, w_tg2, w_tg3, KUnp_, KUnp_x, w_Unp, chgK_, w_chg, chgO_o, appK_, w_appR, w_app1, KApp_, KApp_x, KApp0_, w_App, stIK_, w_stIR, stIO_i, w_put1, KStI2_, KStI2_x, KStI1_, KStI_, KStI_x, w_StI, KIt_, KIt_x, w_It, KRng1_, KRng1_x, w_Rng1, KRng2_, KRng2_x, w_Rng2, it2O_, it1O_, KIt2_, KIt2_x, w_It2, KIt1_, KIt1_x, w_It1, KFor_, KFor_x, w_For, KComp_, KComp_x, w_Comp, KCall_, KCall_x, w_Call, KCallI_, KCallI_x, KCallI0_, w_CallI, w_mkTup, w_mkLst, rdsK2_, rdsK_, w_rds, stbsK2_, stbsK_, w_stbs, cP0, cP1, cP2, cP3, cP4, cP5, cP6, cP7, cIO_o, cI1, cI2, cI3, cI4, cI5, cI6, cI7, w_stOt, stOO_o, w_retFl, retO_v, retO_o, w_finR, w_finN, finO_s, w_runF, rp0, rpS, asE_x, stF_x, finX_s, w_finX, ev_c, ev_fin, ev_fin0, ev_o1, ev_o2, ev_rdv, ev_rdn, ev_rdl, ev_nil, ev_stlv, ev_stln, ev_stll, ev_rds0, ev_stbv, ev_stbn, ev_stbs0, ev_asB, ev_NoPart, ev_Nx, ev_putv, ev_putn, ev_ofO, ev_itL, ev_itT, ev_tgN, ev_for0, ev_wipeD0, ev_wipeD, ev_restD0, ev_restD, ev_endC, ev_Yes, ev_asEv, ev_asEn, ev_stFv, ev_stFn, ev_mkAf, ev_mkAt, ev_stOf, ev_retFv, ev_retFn, ev_vI, ev_vB, ev_oSlL, ev_oSlT, ev_oRevL, ev_bListL, ev_bListT, ev_bTupL, ev_bTupT, ev_isNone0, ev_isNoneI, ev_isNoneL, ev_isNoneT, ev_isNoneB, ev_isNoneS, n_add, n_sub, n_mul, n_mod, n_div, n_shl1, n_shl, n_shr, n_pow, n_and, n_or, n_xor, n_lt, n_le, n_gt, n_ge, n_eq, n_ne, bt1, bt0, d_ltT, d_ltF, d_leT, d_leF, d_eqT, d_eqF, c_eq, c_ne, c_eqc, c_nec, c_isN, l_ix, t_ix, l_ix0, l_ix1, l_ix2, l_ix3, l_ix4, l_ix5, t_ix0, t_ix1, t_ix2, l_len, t_len, cut_to, cut_from, l_addL, t_addT, w_rng1, w_rng2, n_max2, n_min2, n_sum, b_all, b_any, b_all0, b_intB, b_intN, i_intI, i_boolI, i_intB, i_boolB, i_tupT, i_lstL, i_tupL, i_lstT, i_intT, i_intL, i_tupI, i_lstI, i_intN, i_tupN, i_lstN, i_intS, i_tupS, i_lstS, i_tupB, i_lstB, r_isN, r_notN, wp_nx, wp_ret, wl_nx, wl_cnt, wl_brk, wl_ret, List.map_cons, List.map_nil, List.cons_append, List.nil_append, List.set_cons_zero, List.set_cons_succ, List.length_cons, List.length_nil, List.length_map, List.length_append, List.length_range, List.length_range', List.length_set, Bool.not_true, Bool.not_false, Bool.true_and, Bool.false_and, Bool.and_true, Bool.and_false, decide_true, decide_false, Nat.reduceSub, Nat.reduceAdd, Option.getD_some, vo_v, no_v, Nat.one_mul, l_eq, l_ne, t_eq, t_eqc, l_eq0, l_ne0, z_eq0, z_ne0, lc_ne0, lc_eq0, n_inL, n_inT, n_niL, n_niT, n_inC, if_true, if_false, Option.isNone_none, Option.isNone_some, n_augA, n_augS, List.append_nil, n_tr, n_lr, KStar2_, KStarO_, KStar_, w_Star, items_l, items_t, st_vals, KComp2_, w_Comp2, n_mulA, t_mulA1, t_mulA, l_repC, KOrT_, w_OrT, truO_n, truO_0, truO_i, KUnpL_, w_UnpL, unpLO_2, unpLO_3, KItE_, w_ItE, itEO_l, itEO_t, itZO_l, itZO_t, KItZ_, w_ItZ, enumD_map, zipD_map, cT1, cT2, cT3, KCallT2_, KCallT_, w_CallT, ev_oNeg, i_strS, b_sortP, b_is, b_nis, KIs_, w_Is, isLO_l, t_ix3, t_ix4, ba1, ba2, ba3, ba4, t_rev, KExt_, KExt0_, w_Ext, w_extR, w_ext1, KTru_, w_Tru, truT_, truD_l, truD_t, g_get, isLO_d, KDComp_, w_DComp, tab_len, e1, e2, e3, ed]
  unfold tab
  simp -implicitDefEqProofs (disch := (first | omega | (simp only [List.length_map, List.length_append, List.length_range, List.length_cons, List.length_nil, List.length_set, List.length_take, List.length_drop, List.length_replicate, List.length_reverse] <;> omega) | assumption)) only [w_Seq, w_seqN, w_seqR, w_seqC, w_seqB, w_seqX, iteF_t, iteF_f, iteO_t, iteO_f, KoB_, KtB_, sg0_, sgS_, w_var, vr_v, vr_o, w_rdS, rdO_v, rdO_o, w_stb, stO1_v, stO1_o, ob_s, w_isOwn, isOwnO_o, K1_, K1_x, w_1, K2b_, K2b_x, K2_, K2_x, w_2, Kc2_, Kc2_x, Kc_, Kc_x, w_cons, KB_, KB_x, w_B, Ktup_, Ktup_x, w_tup, Klst_, Klst_x, w_lst, KT_, KT_x, w_T, KtAnd_, KtAnd_x, w_tAnd, KtOr_, KtOr_x, w_tOr, KtNot_, KtNot_x, w_tNot, KAnd_, KAnd_x, w_And, KOr_, KOr_x, w_Or, KNot_, KNot_x, w_Not, KIte_, KIte_x, w_Ite, Kch4_, Kch4_x, Kch3f_, Kch3_, Kch3_x, Kch2_, Kch2_x, Kch_, Kch_x, w_ch, partO_i, KPart_, KPart_x, w_Part, slO_, KSl3_, KSl3_x, KSl2_, KSl2_x, KSl_, KSl_x, w_Sl, KDo_, KDo_x, w_Do, KRet_, KRet_x, w_Ret, KIf_, KIf_x, w_If, putK_, w_putl, KSet_, KSet_x, w_Set, KAug_, KAug_x, w_Aug, augO_i, unpO_2, unpO_3, w_tg2, w_tg3, KUnp_, KUnp_x, w_Unp, chgK_, w_chg, chgO_o, appK_, w_appR, w_app1, KApp_, KApp_x, KApp0_, w_App, stIK_, w_stIR, stIO_i, w_put1, KStI2_, KStI2_x, KStI1_, KStI_, KStI_x, w_StI, KIt_, KIt_x, w_It, KRng1_, KRng1_x, w_Rng1, KRng2_, KRng2_x, w_Rng2, it2O_, it1O_, KIt2_, KIt2_x, w_It2, KIt1_, KIt1_x, w_It1, KFor_, KFor_x, w_For, KComp_, KComp_x, w_Comp, KCall_, KCall_x, w_Call, KCallI_, KCallI_x, KCallI0_, w_CallI, w_mkTup, w_mkLst, rdsK2_, rdsK_, w_rds, stbsK2_, stbsK_, w_stbs, cP0, cP1, cP2, cP3, cP4, cP5, cP6, cP7, cIO_o, cI1, cI2, cI3, cI4, cI5, cI6, cI7, w_stOt, stOO_o, w_retFl, retO_v, retO_o, w_finR, w_finN, finO_s, w_runF, rp0, rpS, asE_x, stF_x, finX_s, w_finX, ev_c, ev_fin, ev_fin0, ev_o1, ev_o2, ev_rdv, ev_rdn, ev_rdl, ev_nil, ev_stlv, ev_stln, ev_stll, ev_rds0, ev_stbv, ev_stbn, ev_stbs0, ev_asB, ev_NoPart, ev_Nx, ev_putv, ev_putn, ev_ofO, ev_itL, ev_itT, ev_tgN, ev_for0, ev_wipeD0, ev_wipeD, ev_restD0, ev_restD, ev_endC, ev_Yes, ev_asEv, ev_asEn, ev_stFv, ev_stFn, ev_mkAf, ev_mkAt, ev_stOf, ev_retFv, ev_retFn, ev_vI, ev_vB, ev_oSlL, ev_oSlT, ev_oRevL, ev_bListL, ev_bListT, ev_bTupL, ev_bTupT, ev_isNone0, ev_isNoneI, ev_isNoneL, ev_isNoneT, ev_isNoneB, ev_isNoneS, n_add, n_sub, n_mul, n_mod, n_div, n_shl1, n_shl, n_shr, n_pow, n_and, n_or, n_xor, n_lt, n_le, n_gt, n_ge, n_eq, n_ne, bt1, bt0, d_ltT, d_ltF, d_leT, d_leF, d_eqT, d_eqF, c_eq, c_ne, c_eqc, c_nec, c_isN, l_ix, t_ix, l_ix0, l_ix1, l_ix2, l_ix3, l_ix4, l_ix5, t_ix0, t_ix1, t_ix2, l_len, t_len, cut_to, cut_from, l_addL, t_addT, w_rng1, w_rng2, n_max2, n_min2, n_sum, b_all, b_any, b_all0, b_intB, b_intN, i_intI, i_boolI, i_intB, i_boolB, i_tupT, i_lstL, i_tupL, i_lstT, i_intT, i_intL, i_tupI, i_lstI, i_intN, i_tupN, i_lstN, i_intS, i_tupS, i_lstS, i_tupB, i_lstB, r_isN, r_notN, wp_nx, wp_ret, wl_nx, wl_cnt, wl_brk, wl_ret, List.map_cons, List.map_nil, List.cons_append, List.nil_append, List.set_cons_zero, List.set_cons_succ, List.length_cons, List.length_nil, List.length_map, List.length_append, List.length_range, List.length_range', List.length_set, Bool.not_true, Bool.not_false, Bool.true_and, Bool.false_and, Bool.and_true, Bool.and_false, decide_true, decide_false, Nat.reduceSub, Nat.reduceAdd, Option.getD_some, vo_v, no_v, Nat.one_mul, l_eq, l_ne, t_eq, t_eqc, l_eq0, l_ne0, z_eq0, z_ne0, lc_ne0, lc_eq0, n_inL, n_inT, n_niL, n_niT, n_inC, if_true, if_false, Option.isNone_none, Option.isNone_some, n_augA, n_augS, List.append_nil, n_tr, n_lr, KStar2_, KStarO_, KStar_, w_Star, items_l, items_t, st_vals, KComp2_, w_Comp2, n_mulA, t_mulA1, t_mulA, l_repC, KOrT_, w_OrT, truO_n, truO_0, truO_i, KUnpL_, w_UnpL, unpLO_2, unpLO_3, KItE_, w_ItE, itEO_l, itEO_t, itZO_l, itZO_t, KItZ_, w_ItZ, enumD_map, zipD_map, cT1, cT2, cT3, KCallT2_, KCallT_, w_CallT, ev_oNeg, i_strS, b_sortP, b_is, b_nis, KIs_, w_Is, isLO_l, t_ix3, t_ix4, ba1, ba2, ba3, ba4, t_rev, KExt_, KExt0_, w_Ext, w_extR, w_ext1, KTru_, w_Tru, truT_, truD_l, truD_t, g_get, isLO_d, KDComp_, w_DComp, e2, e3, ed]
  rw [set_tab]
  exact ⟨_, rfl, g3, set_tb tb u1 hz⟩
theorem law_true : ∀ ns : List Int, ns.length ≤ 63 → ∃ st, G_law [] [.list (ns.map PyData.int)] = .val (.bool true) st := by
  intro ns hns
  refine law_of ?_
  unfold G_law D_law
  simp -implicitDefEqProofs (disch := (first | omega | (simp only [List.length_map, List.length_append, List.length_range, List.length_cons, List.length_nil, List.length_set, List.length_take, List.length_drop, List.length_replicate, List.length_reverse] <;> omega) | assumption)) only [w_Seq, w_seqN, w_seqR, w_seqC, w_seqB, w_seqX, iteF_t, iteF_f, iteO_t, iteO_f, KoB_, KtB_, sg0_, sgS_, w_var, vr_v, vr_o, w_rdS, rdO_v, rdO_o, w_stb, stO1_v, stO1_o, ob_s, w_isOwn, isOwnO_o, K1_, K1_x, w_1, K2b_, K2b_x, K2_, K2_x, w_2, Kc2_, Kc2_x, Kc_, Kc_x, w_cons, KB_, KB_x, w_B, Ktup_, Ktup_x, w_tup, Klst_, Klst_x, w_lst, KT_, KT_x, w_T, KtAnd_, KtAnd_x, w_tAnd, KtOr_, KtOr_x, w_tOr, KtNot_, KtNot_x, w_tNot, KAnd_, KAnd_x, w_And, KOr_, KOr_x, w_Or, KNot_, KNot_x, w_Not, KIte_, KIte_x, w_Ite, Kch4_, Kch4_x, Kch3f_, Kch3_, Kch3_x, Kch2_, Kch2_x, Kch_, Kch_x, w_ch, partO_i, KPart_, KPart_x, w_Part, slO_, KSl3_, KSl3_x, KSl2_, KSl2_x, KSl_, KSl_x, w_Sl, KDo_, KDo_x, w_Do, KRet_, KRet_x, w_Ret, KIf_, KIf_x, w_If, putK_, w_putl, KSet_, KSet_x, w_Set, KAug_, KAug_x, w_Aug, augO_i, unpO_2, unpO_3, w_tg2, w_tg3, KUnp_, KUnp_x, w_Unp, chgK_, w_chg, chgO_o, appK_, w_appR, w_app1, KApp_, KApp_x, KApp0_, w_App, stIK_, w_stIR, stIO_i, w_put1, KStI2_, KStI2_x, KStI1_, KStI_, KStI_x, w_StI, KIt_, KIt_x, w_It, KRng1_, KRng1_x, w_Rng1, KRng2_, KRng2_x, w_Rng2, it2O_, it1O_, KIt2_, KIt2_x, w_It2, KIt1_, KIt1_x, w_It1, KFor_, KFor_x, w_For, KComp_, KComp_x, w_Comp, KCall_, KCall_x, w_Call, KCallI_, KCallI_x, KCallI0_, w_CallI, w_mkTup, w_mkLst, rdsK2_, rdsK_, w_rds, stbsK2_, stbsK_, w_stbs, cP0, cP1, cP2, cP3, cP4, cP5, cP6, cP7, cIO_o, cI1, cI2, cI3, cI4, cI5, cI6, cI7, w_stOt, stOO_o, w_retFl, retO_v, retO_o, w_finR, w_finN, finO_s, w_runF, rp0, rpS, asE_x, stF_x, finX_s, w_finX, ev_c, ev_fin, ev_fin0, ev_o1, ev_o2, ev_rdv, ev_rdn, ev_rdl, ev_nil, ev_stlv, ev_stln, ev_stll, ev_rds0, ev_stbv, ev_stbn, ev_stbs0, ev_asB, ev_NoPart, ev_Nx, ev_putv, ev_putn, ev_ofO, ev_itL, ev_itT, ev_tgN, ev_for0, ev_wipeD0, ev_wipeD, ev_restD0, ev_restD, ev_endC, ev_Yes, ev_asEv, ev_asEn, ev_stFv, ev_stFn, ev_mkAf, ev_mkAt, ev_stOf, ev_retFv, ev_retFn, ev_vI, ev_vB, ev_oSlL, ev_oSlT, ev_oRevL, ev_bListL, ev_bListT, ev_bTupL, ev_bTupT, ev_isNone0, ev_isNoneI, ev_isNoneL, ev_isNoneT, ev_isNoneB, ev_isNoneS, n_add, n_sub, n_mul, n_mod, n_div, n_shl1, n_shl, n_shr, n_pow, n_and, n_or, n_xor, n_lt, n_le, n_gt, n_ge, n_eq, n_ne, bt1, bt0, d_ltT, d_ltF, d_leT, d_leF, d_eqT, d_eqF, c_eq, c_ne, c_eqc, c_nec, c_isN, l_ix, t_ix, l_ix0, l_ix1, l_ix2, l_ix3, l_ix4, l_ix5, t_ix0, t_ix1, t_ix2, l_len, t_len, cut_to, cut_from, l_addL, t_addT, w_rng1, w_rng2, n_max2, n_min2, n_sum, b_all, b_any, b_all0, b_intB, b_intN, i_intI, i_boolI, i_intB, i_boolB, i_tupT, i_lstL, i_tupL, i_lstT, i_intT, i_intL, i_tupI, i_lstI, i_intN, i_tupN, i_lstN, i_intS, i_tupS, i_lstS, i_tupB, i_lstB, r_isN, r_notN, wp_nx, wp_ret, wl_nx, wl_cnt, wl_brk, wl_ret, List.map_cons, List.map_nil, List.cons_append, List.nil_append, List.set_cons_zero, List.set_cons_succ, List.length_cons, List.length_nil, List.length_map, List.length_append, List.length_range, List.length_range', List.length_set, Bool.not_true, Bool.not_false, Bool.true_and, Bool.false_and, Bool.and_true, Bool.and_false, decide_true, decide_false, Nat.reduceSub, Nat.reduceAdd, Option.getD_some, vo_v, no_v, Nat.one_mul, l_eq, l_ne, t_eq, t_eqc, l_eq0, l_ne0, z_eq0, z_ne0, lc_ne0, lc_eq0, n_inL, n_inT, n_niL, n_niT, n_inC, if_true, if_false, Option.isNone_none, Option.isNone_some, n_augA, n_augS, List.append_nil, n_tr, n_lr, KStar2_, KStarO_, KStar_, w_Star, items_l, items_t, st_vals, KComp2_, w_Comp2, n_mulA, t_mulA1, t_mulA, l_repC, KOrT_, w_OrT, truO_n, truO_0, truO_i, KUnpL_, w_UnpL, unpLO_2, unpLO_3, KItE_, w_ItE, itEO_l, itEO_t, itZO_l, itZO_t, KItZ_, w_ItZ, enumD_map, zipD_map, cT1, cT2, cT3, KCallT2_, KCallT_, w_CallT, ev_oNeg, i_strS, b_sortP, b_is, b_nis, KIs_, w_Is, isLO_l, t_ix3, t_ix4, ba1, ba2, ba3, ba4, t_rev, KExt_, KExt0_, w_Ext, w_extR, w_ext1, KTru_, w_Tru, truT_, truD_l, truD_t, g_get, isLO_d, KDComp_, w_DComp]
  refine vo_fin (wp_seq _ (wp_for (fun dl => ∃ x1 x2 x3 x4 x5 x6 x7, dl = [.val (.list (ns.map PyData.int)), x1, x2, x3, x4, x5, x6, x7]) ⟨_, _, _, _, _, _, _, rfl⟩ ?_) ?_)
  · rintro d dl hd ⟨x1, x2, x3, x4, x5, x6, x7, rfl⟩
    obtain ⟨j, hj, rfl⟩ := mem_rangeN hd
    refine ⟨_, rfl, ?_⟩
    obtain ⟨s0, e0, g0⟩ := stream_spec ns (k := j) (by omega)
    obtain ⟨n0, s1, e1, u1, g1⟩ := take_nat g0 (m := 8) (by decide) (by decide)
    obtain ⟨q, s2, e2, u2, g2⟩ := take_nat g1 (m := 99) (by decide) (by decide)
    obtain ⟨i, s3, e3, u3, g3⟩ := take_nat g2 (m := 6) (by decide) (by decide)
    obtain ⟨_, ed, k, rfl, k2, k100⟩ := l_pick (ds := [nI 2, nI 10, nI 11, nI 99, nI 100, nI (2 + q)]) (i := i) (fun d => ∃ k : Nat, d = nI k ∧ 2 ≤ k ∧ k ≤ 100) u3 (fun d hd => by
      simp only [List.mem_cons, List.not_mem_nil, or_false] at hd
      rcases hd with rfl | rfl | rfl | rfl | rfl | rfl
      · exact ⟨_, rfl, by decide, by decide⟩
      · exact ⟨_, rfl, by decide, by decide⟩
      · exact ⟨_, rfl, by decide, by decide⟩
      · exact ⟨_, rfl, by decide, by decide⟩
      · exact ⟨_, rfl, by decide, by decide⟩
      · exact ⟨_, rfl, by omega, by omega⟩)
    have hn : 1 + n0 ≤ 8 := by omega
    obtain ⟨_, s4, e4, t, rfl, g4, tb⟩ := vo_ex (table82_vo (n := 1 + n0) hn (show 0 < k by omega) k100 g3)
    obtain ⟨_, s5, e5, t', rfl, g5, tb'⟩ := vo_ex (otherwise_vo hn k2 k100 tb g4)
    have r1 := right_n82 (n := 1 + n0) (by omega) hn k2 k100 tb
    have r2 := right_n82 (n := 1 + n0) (by omega) hn k2 k100 tb'
    have hm2 : 2 ≤ min 100 (k + 1) := by omega
    have tb3 : Tb (1 + n0) (min 100 (k + 1)) t := ⟨tb.1, fun c hc => by have := tb.2 c hc; omega⟩
    have r3 := right_n82 (n := 1 + n0) (by omega) hn hm2 (by omega) tb3
    unfold wr at *
    simp -implicitDefEqProofs (disch := (first | omega | (simp only [List.length_map, List.length_append, List.length_range, List.length_cons, List.length_nil, List.length_set, List.length_take, List.length_drop, List.length_replicate, List.length_reverse] <;> omega) | assumption)) only [w_Seq, w_seqN, w_seqR, w_seqC, w_seqB, w_seqX, iteF_t, iteF_f, iteO_t, iteO_f, KoB_, KtB_, sg0_, sgS_, w_var, vr_v, vr_o, w_rdS, rdO_v, rdO_o, w_stb, stO1_v, stO1_o, ob_s, w_isOwn, isOwnO_o, K1_, K1_x, w_1, K2b_, K2b_x, K2_, K2_x, w_2, Kc2_, Kc2_x, Kc_, Kc_x, w_cons, KB_, KB_x, w_B, Ktup_, Ktup_x, w_tup, Klst_, Klst_x, w_lst, KT_, KT_x, w_T, KtAnd_, KtAnd_x, w_tAnd, KtOr_, KtOr_x, w_tOr, KtNot_, KtNot_x, w_tNot, KAnd_, KAnd_x, w_And, KOr_, KOr_x, w_Or, KNot_, KNot_x, w_Not, KIte_, KIte_x, w_Ite, Kch4_, Kch4_x, Kch3f_, Kch3_, Kch3_x, Kch2_, Kch2_x, Kch_, Kch_x, w_ch, partO_i, KPart_, KPart_x, w_Part, slO_, KSl3_, KSl3_x, KSl2_, KSl2_x, KSl_, KSl_x, w_Sl, KDo_, KDo_x, w_Do, KRet_, KRet_x, w_Ret, KIf_, KIf_x, w_If, putK_, w_putl, KSet_, KSet_x, w_Set, KAug_, KAug_x, w_Aug, augO_i, unpO_2, unpO_3, w_tg2, w_tg3, KUnp_, KUnp_x, w_Unp, chgK_, w_chg, chgO_o, appK_, w_appR, w_app1, KApp_, KApp_x, KApp0_, w_App, stIK_, w_stIR, stIO_i, w_put1, KStI2_, KStI2_x, KStI1_, KStI_, KStI_x, w_StI, KIt_, KIt_x, w_It, KRng1_, KRng1_x, w_Rng1, KRng2_, KRng2_x, w_Rng2, it2O_, it1O_, KIt2_, KIt2_x, w_It2, KIt1_, KIt1_x, w_It1, KFor_, KFor_x, w_For, KComp_, KComp_x, w_Comp, KCall_, KCall_x, w_Call, KCallI_, KCallI_x, KCallI0_, w_CallI, w_mkTup, w_mkLst, rdsK2_, rdsK_, w_rds, stbsK2_, stbsK_, w_stbs, cP0, cP1, cP2, cP3, cP4, cP5, cP6, cP7, cIO_o, cI1, cI2, cI3, cI4, cI5, cI6, cI7, w_stOt, stOO_o, w_retFl, retO_v, retO_o, w_finR, w_finN, finO_s, w_runF, rp0, rpS, asE_x, stF_x, finX_s, w_finX, ev_c, ev_fin, ev_fin0, ev_o1, ev_o2, ev_rdv, ev_rdn, ev_rdl, ev_nil, ev_stlv, ev_stln, ev_stll, ev_rds0, ev_stbv, ev_stbn, ev_stbs0, ev_asB, ev_NoPart, ev_Nx, ev_putv, ev_putn, ev_ofO, ev_itL, ev_itT, ev_tgN, ev_for0, ev_wipeD0, ev_wipeD, ev_restD0, ev_restD, ev_endC, ev_Yes, ev_asEv, ev_asEn, ev_stFv, ev_stFn, ev_mkAf, ev_mkAt, ev_stOf, ev_retFv, ev_retFn, ev_vI, ev_vB, ev_oSlL, ev_oSlT, ev_oRevL, ev_bListL, ev_bListT, ev_bTupL, ev_bTupT, ev_isNone0, ev_isNoneI, ev_isNoneL, ev_isNoneT, ev_isNoneB, ev_isNoneS, n_add, n_sub, n_mul, n_mod, n_div, n_shl1, n_shl, n_shr, n_pow, n_and, n_or, n_xor, n_lt, n_le, n_gt, n_ge, n_eq, n_ne, bt1, bt0, d_ltT, d_ltF, d_leT, d_leF, d_eqT, d_eqF, c_eq, c_ne, c_eqc, c_nec, c_isN, l_ix, t_ix, l_ix0, l_ix1, l_ix2, l_ix3, l_ix4, l_ix5, t_ix0, t_ix1, t_ix2, l_len, t_len, cut_to, cut_from, l_addL, t_addT, w_rng1, w_rng2, n_max2, n_min2, n_sum, b_all, b_any, b_all0, b_intB, b_intN, i_intI, i_boolI, i_intB, i_boolB, i_tupT, i_lstL, i_tupL, i_lstT, i_intT, i_intL, i_tupI, i_lstI, i_intN, i_tupN, i_lstN, i_intS, i_tupS, i_lstS, i_tupB, i_lstB, r_isN, r_notN, wp_nx, wp_ret, wl_nx, wl_cnt, wl_brk, wl_ret, List.map_cons, List.map_nil, List.cons_append, List.nil_append, List.set_cons_zero, List.set_cons_succ, List.length_cons, List.length_nil, List.length_map, List.length_append, List.length_range, List.length_range', List.length_set, Bool.not_true, Bool.not_false, Bool.true_and, Bool.false_and, Bool.and_true, Bool.and_false, decide_true, decide_false, Nat.reduceSub, Nat.reduceAdd, Option.getD_some, vo_v, no_v, Nat.one_mul, l_eq, l_ne, t_eq, t_eqc, l_eq0, l_ne0, z_eq0, z_ne0, lc_ne0, lc_eq0, n_inL, n_inT, n_niL, n_niT, n_inC, if_true, if_false, Option.isNone_none, Option.isNone_some, n_augA, n_augS, List.append_nil, n_tr, n_lr, KStar2_, KStarO_, KStar_, w_Star, items_l, items_t, st_vals, KComp2_, w_Comp2, n_mulA, t_mulA1, t_mulA, l_repC, KOrT_, w_OrT, truO_n, truO_0, truO_i, KUnpL_, w_UnpL, unpLO_2, unpLO_3, KItE_, w_ItE, itEO_l, itEO_t, itZO_l, itZO_t, KItZ_, w_ItZ, enumD_map, zipD_map, cT1, cT2, cT3, KCallT2_, KCallT_, w_CallT, ev_oNeg, i_strS, b_sortP, b_is, b_nis, KIs_, w_Is, isLO_l, t_ix3, t_ix4, ba1, ba2, ba3, ba4, t_rev, KExt_, KExt0_, w_Ext, w_extR, w_ext1, KTru_, w_Tru, truT_, truD_l, truD_t, g_get, isLO_d, KDComp_, w_DComp, e0, e1, e2, e3, ed, e4, e5]
    refine wl_for (fun dl => ∃ z, dl = [.val (.list (ns.map PyData.int)), .val (nI j), .own false s5, .val (nI (1 + n0)), .val (nI k), .val (.tuple [nI (1 + n0), nI k, tab t]), .val (.tuple [nI (1 + n0), nI (min 100 (k + 1)), tab t]), z]) ⟨_, rfl⟩ ?_ (by rintro _ ⟨_, rfl⟩; exact ⟨_, _, _, _, _, _, _, rfl⟩)
    rintro d dl hd2 ⟨z, rfl⟩
    refine ⟨_, rfl, ?_⟩
    have hr : G_law_right [] [d] = .val (.bool true) [] := by
      simp only [List.mem_cons, List.not_mem_nil, or_false] at hd2
      rcases hd2 with rfl | rfl | rfl | rfl
      · exact r1
      · exact r2
      · exact r3
      · exact r1
    simp -implicitDefEqProofs (disch := (first | omega | (simp only [List.length_map, List.length_append, List.length_range, List.length_cons, List.length_nil, List.length_set, List.length_take, List.length_drop, List.length_replicate, List.length_reverse] <;> omega) | assumption)) only [w_Seq, w_seqN, w_seqR, w_seqC, w_seqB, w_seqX, iteF_t, iteF_f, iteO_t, iteO_f, KoB_, KtB_, sg0_, sgS_, w_var, vr_v, vr_o, w_rdS, rdO_v, rdO_o, w_stb, stO1_v, stO1_o, ob_s, w_isOwn, isOwnO_o, K1_, K1_x, w_1, K2b_, K2b_x, K2_, K2_x, w_2, Kc2_, Kc2_x, Kc_, Kc_x, w_cons, KB_, KB_x, w_B, Ktup_, Ktup_x, w_tup, Klst_, Klst_x, w_lst, KT_, KT_x, w_T, KtAnd_, KtAnd_x, w_tAnd, KtOr_, KtOr_x, w_tOr, KtNot_, KtNot_x, w_tNot, KAnd_, KAnd_x, w_And, KOr_, KOr_x, w_Or, KNot_, KNot_x, w_Not, KIte_, KIte_x, w_Ite, Kch4_, Kch4_x, Kch3f_, Kch3_, Kch3_x, Kch2_, Kch2_x, Kch_, Kch_x, w_ch, partO_i, KPart_, KPart_x, w_Part, slO_, KSl3_, KSl3_x, KSl2_, KSl2_x, KSl_, KSl_x, w_Sl, KDo_, KDo_x, w_Do, KRet_, KRet_x, w_Ret, KIf_, KIf_x, w_If, putK_, w_putl, KSet_, KSet_x, w_Set, KAug_, KAug_x, w_Aug, augO_i, unpO_2, unpO_3, w_tg2, w_tg3, KUnp_, KUnp_x, w_Unp, chgK_, w_chg, chgO_o, appK_, w_appR, w_app1, KApp_, KApp_x, KApp0_, w_App, stIK_, w_stIR, stIO_i, w_put1, KStI2_, KStI2_x, KStI1_, KStI_, KStI_x, w_StI, KIt_, KIt_x, w_It, KRng1_, KRng1_x, w_Rng1, KRng2_, KRng2_x, w_Rng2, it2O_, it1O_, KIt2_, KIt2_x, w_It2, KIt1_, KIt1_x, w_It1, KFor_, KFor_x, w_For, KComp_, KComp_x, w_Comp, KCall_, KCall_x, w_Call, KCallI_, KCallI_x, KCallI0_, w_CallI, w_mkTup, w_mkLst, rdsK2_, rdsK_, w_rds, stbsK2_, stbsK_, w_stbs, cP0, cP1, cP2, cP3, cP4, cP5, cP6, cP7, cIO_o, cI1, cI2, cI3, cI4, cI5, cI6, cI7, w_stOt, stOO_o, w_retFl, retO_v, retO_o, w_finR, w_finN, finO_s, w_runF, rp0, rpS, asE_x, stF_x, finX_s, w_finX, ev_c, ev_fin, ev_fin0, ev_o1, ev_o2, ev_rdv, ev_rdn, ev_rdl, ev_nil, ev_stlv, ev_stln, ev_stll, ev_rds0, ev_stbv, ev_stbn, ev_stbs0, ev_asB, ev_NoPart, ev_Nx, ev_putv, ev_putn, ev_ofO, ev_itL, ev_itT, ev_tgN, ev_for0, ev_wipeD0, ev_wipeD, ev_restD0, ev_restD, ev_endC, ev_Yes, ev_asEv, ev_asEn, ev_stFv, ev_stFn, ev_mkAf, ev_mkAt, ev_stOf, ev_retFv, ev_retFn, ev_vI, ev_vB, ev_oSlL, ev_oSlT, ev_oRevL, ev_bListL, ev_bListT, ev_bTupL, ev_bTupT, ev_isNone0, ev_isNoneI, ev_isNoneL, ev_isNoneT, ev_isNoneB, ev_isNoneS, n_add, n_sub, n_mul, n_mod, n_div, n_shl1, n_shl, n_shr, n_pow, n_and, n_or, n_xor, n_lt, n_le, n_gt, n_ge, n_eq, n_ne, bt1, bt0, d_ltT, d_ltF, d_leT, d_leF, d_eqT, d_eqF, c_eq, c_ne, c_eqc, c_nec, c_isN, l_ix, t_ix, l_ix0, l_ix1, l_ix2, l_ix3, l_ix4, l_ix5, t_ix0, t_ix1, t_ix2, l_len, t_len, cut_to, cut_from, l_addL, t_addT, w_rng1, w_rng2, n_max2, n_min2, n_sum, b_all, b_any, b_all0, b_intB, b_intN, i_intI, i_boolI, i_intB, i_boolB, i_tupT, i_lstL, i_tupL, i_lstT, i_intT, i_intL, i_tupI, i_lstI, i_intN, i_tupN, i_lstN, i_intS, i_tupS, i_lstS, i_tupB, i_lstB, r_isN, r_notN, wp_nx, wp_ret, wl_nx, wl_cnt, wl_brk, wl_ret, List.map_cons, List.map_nil, List.cons_append, List.nil_append, List.set_cons_zero, List.set_cons_succ, List.length_cons, List.length_nil, List.length_map, List.length_append, List.length_range, List.length_range', List.length_set, Bool.not_true, Bool.not_false, Bool.true_and, Bool.false_and, Bool.and_true, Bool.and_false, decide_true, decide_false, Nat.reduceSub, Nat.reduceAdd, Option.getD_some, vo_v, no_v, Nat.one_mul, l_eq, l_ne, t_eq, t_eqc, l_eq0, l_ne0, z_eq0, z_ne0, lc_ne0, lc_eq0, n_inL, n_inT, n_niL, n_niT, n_inC, if_true, if_false, Option.isNone_none, Option.isNone_some, n_augA, n_augS, List.append_nil, n_tr, n_lr, KStar2_, KStarO_, KStar_, w_Star, items_l, items_t, st_vals, KComp2_, w_Comp2, n_mulA, t_mulA1, t_mulA, l_repC, KOrT_, w_OrT, truO_n, truO_0, truO_i, KUnpL_, w_UnpL, unpLO_2, unpLO_3, KItE_, w_ItE, itEO_l, itEO_t, itZO_l, itZO_t, KItZ_, w_ItZ, enumD_map, zipD_map, cT1, cT2, cT3, KCallT2_, KCallT_, w_CallT, ev_oNeg, i_strS, b_sortP, b_is, b_nis, KIs_, w_Is, isLO_l, t_ix3, t_ix4, ba1, ba2, ba3, ba4, t_rev, KExt_, KExt0_, w_Ext, w_extR, w_ext1, KTru_, w_Tru, truT_, truD_l, truD_t, g_get, isLO_d, KDComp_, w_DComp, hr]
    exact ⟨_, rfl⟩
  · rintro dl ⟨x1, x2, x3, x4, x5, x6, x7, rfl⟩
    simp -implicitDefEqProofs (disch := (first | omega | (simp only [List.length_map, List.length_append, List.length_range, List.length_cons, List.length_nil, List.length_set, List.length_take, List.length_drop, List.length_replicate, List.length_reverse] <;> omega) | assumption)) only [w_Seq, w_seqN, w_seqR, w_seqC, w_seqB, w_seqX, iteF_t, iteF_f, iteO_t, iteO_f, KoB_, KtB_, sg0_, sgS_, w_var, vr_v, vr_o, w_rdS, rdO_v, rdO_o, w_stb, stO1_v, stO1_o, ob_s, w_isOwn, isOwnO_o, K1_, K1_x, w_1, K2b_, K2b_x, K2_, K2_x, w_2, Kc2_, Kc2_x, Kc_, Kc_x, w_cons, KB_, KB_x, w_B, Ktup_, Ktup_x, w_tup, Klst_, Klst_x, w_lst, KT_, KT_x, w_T, KtAnd_, KtAnd_x, w_tAnd, KtOr_, KtOr_x, w_tOr, KtNot_, KtNot_x, w_tNot, KAnd_, KAnd_x, w_And, KOr_, KOr_x, w_Or, KNot_, KNot_x, w_Not, KIte_, KIte_x, w_Ite, Kch4_, Kch4_x, Kch3f_, Kch3_, Kch3_x, Kch2_, Kch2_x, Kch_, Kch_x, w_ch, partO_i, KPart_, KPart_x, w_Part, slO_, KSl3_, KSl3_x, KSl2_, KSl2_x, KSl_, KSl_x, w_Sl, KDo_, KDo_x, w_Do, KRet_, KRet_x, w_Ret, KIf_, KIf_x, w_If, putK_, w_putl, KSet_, KSet_x, w_Set, KAug_, KAug_x, w_Aug, augO_i, unpO_2, unpO_3, w_tg2, w_tg3, KUnp_, KUnp_x, w_Unp, chgK_, w_chg, chgO_o, appK_, w_appR, w_app1, KApp_, KApp_x, KApp0_, w_App, stIK_, w_stIR, stIO_i, w_put1, KStI2_, KStI2_x, KStI1_, KStI_, KStI_x, w_StI, KIt_, KIt_x, w_It, KRng1_, KRng1_x, w_Rng1, KRng2_, KRng2_x, w_Rng2, it2O_, it1O_, KIt2_, KIt2_x, w_It2, KIt1_, KIt1_x, w_It1, KFor_, KFor_x, w_For, KComp_, KComp_x, w_Comp, KCall_, KCall_x, w_Call, KCallI_, KCallI_x, KCallI0_, w_CallI, w_mkTup, w_mkLst, rdsK2_, rdsK_, w_rds, stbsK2_, stbsK_, w_stbs, cP0, cP1, cP2, cP3, cP4, cP5, cP6, cP7, cIO_o, cI1, cI2, cI3, cI4, cI5, cI6, cI7, w_stOt, stOO_o, w_retFl, retO_v, retO_o, w_finR, w_finN, finO_s, w_runF, rp0, rpS, asE_x, stF_x, finX_s, w_finX, ev_c, ev_fin, ev_fin0, ev_o1, ev_o2, ev_rdv, ev_rdn, ev_rdl, ev_nil, ev_stlv, ev_stln, ev_stll, ev_rds0, ev_stbv, ev_stbn, ev_stbs0, ev_asB, ev_NoPart, ev_Nx, ev_putv, ev_putn, ev_ofO, ev_itL, ev_itT, ev_tgN, ev_for0, ev_wipeD0, ev_wipeD, ev_restD0, ev_restD, ev_endC, ev_Yes, ev_asEv, ev_asEn, ev_stFv, ev_stFn, ev_mkAf, ev_mkAt, ev_stOf, ev_retFv, ev_retFn, ev_vI, ev_vB, ev_oSlL, ev_oSlT, ev_oRevL, ev_bListL, ev_bListT, ev_bTupL, ev_bTupT, ev_isNone0, ev_isNoneI, ev_isNoneL, ev_isNoneT, ev_isNoneB, ev_isNoneS, n_add, n_sub, n_mul, n_mod, n_div, n_shl1, n_shl, n_shr, n_pow, n_and, n_or, n_xor, n_lt, n_le, n_gt, n_ge, n_eq, n_ne, bt1, bt0, d_ltT, d_ltF, d_leT, d_leF, d_eqT, d_eqF, c_eq, c_ne, c_eqc, c_nec, c_isN, l_ix, t_ix, l_ix0, l_ix1, l_ix2, l_ix3, l_ix4, l_ix5, t_ix0, t_ix1, t_ix2, l_len, t_len, cut_to, cut_from, l_addL, t_addT, w_rng1, w_rng2, n_max2, n_min2, n_sum, b_all, b_any, b_all0, b_intB, b_intN, i_intI, i_boolI, i_intB, i_boolB, i_tupT, i_lstL, i_tupL, i_lstT, i_intT, i_intL, i_tupI, i_lstI, i_intN, i_tupN, i_lstN, i_intS, i_tupS, i_lstS, i_tupB, i_lstB, r_isN, r_notN, wp_nx, wp_ret, wl_nx, wl_cnt, wl_brk, wl_ret, List.map_cons, List.map_nil, List.cons_append, List.nil_append, List.set_cons_zero, List.set_cons_succ, List.length_cons, List.length_nil, List.length_map, List.length_append, List.length_range, List.length_range', List.length_set, Bool.not_true, Bool.not_false, Bool.true_and, Bool.false_and, Bool.and_true, Bool.and_false, decide_true, decide_false, Nat.reduceSub, Nat.reduceAdd, Option.getD_some, vo_v, no_v, Nat.one_mul, l_eq, l_ne, t_eq, t_eqc, l_eq0, l_ne0, z_eq0, z_ne0, lc_ne0, lc_eq0, n_inL, n_inT, n_niL, n_niT, n_inC, if_true, if_false, Option.isNone_none, Option.isNone_some, n_augA, n_augS, List.append_nil, n_tr, n_lr, KStar2_, KStarO_, KStar_, w_Star, items_l, items_t, st_vals, KComp2_, w_Comp2, n_mulA, t_mulA1, t_mulA, l_repC, KOrT_, w_OrT, truO_n, truO_0, truO_i, KUnpL_, w_UnpL, unpLO_2, unpLO_3, KItE_, w_ItE, itEO_l, itEO_t, itZO_l, itZO_t, KItZ_, w_ItZ, enumD_map, zipD_map, cT1, cT2, cT3, KCallT2_, KCallT_, w_CallT, ev_oNeg, i_strS, b_sortP, b_is, b_nis, KIs_, w_Is, isLO_l, t_ix3, t_ix4, ba1, ba2, ba3, ba4, t_rev, KExt_, KExt0_, w_Ext, w_extR, w_ext1, KTru_, w_Tru, truT_, truD_l, truD_t, g_get, isLO_d, KDComp_, w_DComp]
structure Bl (K : PySem.W.Frag) (mg : Str → Option Value) (C_NoWriting C_NoText : Addr) : Prop where
  abs : mg "abs" = none
  all : mg "all" = none
  bool : mg "bool" = none
  hardest : mg "hardest" = none
  int : mg "int" = none
  isinstance : mg "isinstance" = none
  len : mg "len" = none
  longest : mg "longest" = none
  max : mg "max" = none
  min : mg "min" = none
  range : mg "range" = none
  repr : mg "repr" = none
  str : mg "str" = none
  sum : mg "sum" = none
  tuple : mg "tuple" = none
  c_FEWEST_NUMBERS : ∃ t, mg "FEWEST_NUMBERS" = some (.int 2 t)
  c_FIGURES : ∃ t, mg "FIGURES" = some (.str "0123456789" t)
  c_MOST_FIGURES : ∃ t, mg "MOST_FIGURES" = some (.int 3 t)
  c_MOST_NUMBERS : ∃ t, mg "MOST_NUMBERS" = some (.int 100 t)
  c_MOST_SPOTS : ∃ t, mg "MOST_SPOTS" = some (.int 8 t)
  c_NO_NUMBER : ∃ t, mg "NO_NUMBER" = some (.str "-" t)
  n_NoWriting : PySem.W.nsIn K mainGlobals "NoWriting" = some (some (.ref C_NoWriting))
  m_NoWriting : mg "NoWriting" = some (.ref C_NoWriting)
  n_NoText : PySem.W.nsIn K mainGlobals "NoText" = some (some (.ref C_NoText))
  m_NoText : mg "NoText" = some (.ref C_NoText)
  f_NoWriting : ClsF K "NoWriting" C_NoWriting [.type "ValueError", .type "Exception", .type "BaseException", .type "object"] "ValueError.__new__"
  e_NoWriting : ExcC K C_NoWriting
  f_NoText : ClsF K "NoText" C_NoText [.type "ValueError", .type "Exception", .type "BaseException", .type "object"] "ValueError.__new__"
  e_NoText : ExcC K C_NoText
  t_NoWriting_NoWriting : PySem.W.exmOne K (.ref C_NoWriting) (.ref C_NoWriting) = some true
section
variable {C_NoWriting C_NoText : Addr}
variable {P : Program} {w : World} {K : PySem.W.Frag} {mg : Str → Option Value} {base : Heap}
theorem ok_is_number {f : Addr} {fd : FuncData} (F : Fun K "is_number" "is_number" s_is_number f fd) (mf : mg "is_number" = some (.ref f)) (B : Bl K mg C_NoWriting C_NoText)  : DefOk P w K mg base "is_number" 1 false 1 G_is_number := by
  refine ⟨⟨f, fd, ["thing"], fn_def F sc_is_number false (fb := D_is_number) (fun cdv A outer s H E hr => ?_), mf, F.kp, F.binds fun _ _ _ _ _ _ us hl => match us, hl with | [_], _ => rfl⟩⟩
  have tk := takes_of (X := cxOf (L2.CX P w) P w K mg base ["thing"] "is_number" (defScope s_is_number) f cdv A outer s H E) (E := E) rfl rfl rfl rfl
  have nd := sc_is_number.nd
  exact sb_one (ss_ret (se_and (se_isi rfl B.isinstance rfl B.int (by decide +kernel) (se_var 0)) (se_one (se_not (se_isi rfl B.isinstance rfl B.bool (by decide +kernel) (se_var 0))))))
theorem ok_is_between {f : Addr} {fd : FuncData} (F : Fun K "is_between" "is_between" s_is_between f fd) (mf : mg "is_between" = some (.ref f)) (B : Bl K mg C_NoWriting C_NoText) (C_is_number : DefOk P w K mg base "is_number" 1 false 1 G_is_number) : DefOk P w K mg base "is_between" 2 false 3 G_is_between := by
  refine ⟨⟨f, fd, ["thing", "low", "high"], fn_def F sc_is_between false (fb := D_is_between) (fun cdv A outer s H E hr => ?_), mf, F.kp, F.binds fun _ _ _ _ _ _ us hl => match us, hl with | [_, _, _], _ => rfl⟩⟩
  have tk := takes_of (X := cxOf (L2.CX P w) P w K mg base ["thing", "low", "high"] "is_between" (defScope s_is_between) f cdv A outer s H E) (E := E) rfl rfl rfl rfl
  have nd := sc_is_between.nd
  exact sb_one (ss_ret (se_and (se_call tk (C_is_number.fnd hr) rfl (sa_cons (se_var 0) (sa_nil))) (se_one (se_ch op_le os_le op_le os_le (se_var 1) (se_var 0) (se_var 2)))))
theorem ok_is_figures {f : Addr} {fd : FuncData} (F : Fun K "is_figures" "is_figures" s_is_figures f fd) (mf : mg "is_figures" = some (.ref f)) (B : Bl K mg C_NoWriting C_NoText)  : DefOk P w K mg base "is_figures" 1 false 1 G_is_figures := by
  refine ⟨⟨f, fd, ["text"], fn_def F sc_is_figures false (fb := D_is_figures) (fun cdv A outer s H E hr => ?_), mf, F.kp, F.binds fun _ _ _ _ _ _ us hl => match us, hl with | [_], _ => rfl⟩⟩
  have tk := takes_of (X := cxOf (L2.CX P w) P w K mg base ["text", "sign"] "is_figures" (defScope s_is_figures) f cdv A outer s H E) (E := E) rfl rfl rfl rfl
  have nd := sc_is_figures.nd
  exact sb_cons (ss_if (st_w (sw_or (st_not (st_ch op_le os_le op_le os_le (se_int) (se_callB call_len cs_len rfl B.len (by decide +kernel) (sa_cons (se_var 0) (sa_nil))) (se_gi rfl B.c_MOST_FIGURES))) (sw_or1 (st_not (st_val (se_callB (cr_all rfl) cs_all rfl B.all (by decide +kernel) (sa_cons (se_comp [("sign", 1)] rfl nd (si_str (se_var 0)) (blkOk_by (N := ["text", "sign"]) (sc := defScope s_is_figures) (by decide +kernel)) (fun _ => pg_name (i := 1) nd rfl (Or.inl rfl)) (sog_n 1) (by decide) (fun _ => sts_nil) (fun _ => se_cmp op_in_str os_inS (se_var 1) (se_gs rfl B.c_FIGURES))) (sa_nil)))))))) (sb_one (ss_ret (se_bl))) (sb_nil)) (sb_one (ss_ret (se_or (se_cmp op_eq os_eqS (se_var 0) (se_str)) (se_one (se_cmp op_ne os_neS (se_ix ix_seq os_ix (se_var 0) (se_int)) (se_str))))))
theorem ok_is_table {f : Addr} {fd : FuncData} (F : Fun K "is_table" "is_table" s_is_table f fd) (mf : mg "is_table" = some (.ref f)) (B : Bl K mg C_NoWriting C_NoText) (C_is_between : DefOk P w K mg base "is_between" 2 false 3 G_is_between) : DefOk P w K mg base "is_table" 3 false 3 G_is_table := by
  refine ⟨⟨f, fd, ["n", "k", "table"], fn_def F sc_is_table false (fb := D_is_table) (fun cdv A outer s H E hr => ?_), mf, F.kp, F.binds fun _ _ _ _ _ _ us hl => match us, hl with | [_, _, _], _ => rfl⟩⟩
  have tk := takes_of (X := cxOf (L2.CX P w) P w K mg base ["n", "k", "table", "thing"] "is_table" (defScope s_is_table) f cdv A outer s H E) (E := E) rfl rfl rfl rfl
  have nd := sc_is_table.nd
  exact sb_cons (ss_if (st_w (sw_or (st_not (st_val (se_isi rfl B.isinstance rfl B.tuple (by decide +kernel) (se_var 2)))) (sw_or1 (st_cmp (op_neD hr.units) os_ne (se_callB call_len cs_len rfl B.len (by decide +kernel) (sa_cons (se_var 2) (sa_nil))) (se_bin op_shl os_shl (se_int) (se_var 0)))))) (sb_one (ss_ret (se_bl))) (sb_nil)) (sb_one (ss_ret (se_callB (cr_all rfl) cs_all rfl B.all (by decide +kernel) (sa_cons (se_comp [("thing", 3)] rfl nd (si_seq (se_var 2)) (blkOk_by (N := ["n", "k", "table", "thing"]) (sc := defScope s_is_table) (by decide +kernel)) (fun _ => pg_name (i := 3) nd rfl (Or.inl rfl)) (sog_n 3) (by decide) (fun _ => sts_nil) (fun _ => se_or (se_cmp op_isN os_isN (se_var 3) (se_non)) (se_one (se_call takes0 (C_is_between.fnd hr) rfl (sa_cons (se_var 3) (sa_cons (se_int) (sa_cons (se_bin op_sub os_sub (se_var 1) (se_int)) (sa_nil)))))))) (sa_nil)))))
theorem ok_made_writing {f : Addr} {fd : FuncData} (F : Fun K "made_writing" "made_writing" s_made_writing f fd) (mf : mg "made_writing" = some (.ref f)) (B : Bl K mg C_NoWriting C_NoText) (C_is_between : DefOk P w K mg base "is_between" 2 false 3 G_is_between) (C_is_table : DefOk P w K mg base "is_table" 3 false 3 G_is_table) : DefOk P w K mg base "made_writing" 4 false 3 G_made_writing := by
  refine ⟨⟨f, fd, ["n", "k", "table"], fn_def F sc_made_writing false (fb := D_made_writing) (fun cdv A outer s H E hr => ?_), mf, F.kp, F.binds fun _ _ _ _ _ _ us hl => match us, hl with | [_, _, _], _ => rfl⟩⟩
  have tk := takes_of (X := cxOf (L2.CX P w) P w K mg base ["n", "k", "table"] "made_writing" (defScope s_made_writing) f cdv A outer s H E) (E := E) rfl rfl rfl rfl
  have nd := sc_made_writing.nd
  exact sb_cons (ss_if (st_not (st_val (se_call tk (C_is_between.fnd hr) rfl (sa_cons (se_var 0) (sa_cons (se_int) (sa_cons (se_gi rfl B.c_MOST_SPOTS) (sa_nil))))))) (sb_one (ss_raise PySem.F.excBase_ValueError B.f_NoWriting B.m_NoWriting rfl tk rfl)) (sb_nil)) (sb_cons (ss_if (st_not (st_val (se_call tk (C_is_between.fnd hr) rfl (sa_cons (se_var 1) (sa_cons (se_gi rfl B.c_FEWEST_NUMBERS) (sa_cons (se_gi rfl B.c_MOST_NUMBERS) (sa_nil))))))) (sb_one (ss_raise PySem.F.excBase_ValueError B.f_NoWriting B.m_NoWriting rfl tk rfl)) (sb_nil)) (sb_cons (ss_if (st_not (st_val (se_call tk (C_is_table.fnd hr) rfl (sa_cons (se_var 0) (sa_cons (se_var 1) (sa_cons (se_var 2) (sa_nil))))))) (sb_one (ss_raise PySem.F.excBase_ValueError B.f_NoWriting B.m_NoWriting rfl tk rfl)) (sb_nil)) (sb_one (ss_ret (se_tup (sa_cons (se_var 0) (sa_cons (se_var 1) (sa_cons (se_var 2) (sa_nil)))))))))
theorem ok_writing_text {f : Addr} {fd : FuncData} (F : Fun K "writing_text" "writing_text" s_writing_text f fd) (mf : mg "writing_text" = some (.ref f)) (B : Bl K mg C_NoWriting C_NoText)  : DefOk P w K mg base "writing_text" 1 false 1 G_writing_text := by
  refine ⟨⟨f, fd, ["writing"], fn_def F sc_writing_text false (fb := D_writing_text) (fun cdv A outer s H E hr => ?_), mf, F.kp, F.binds fun _ _ _ _ _ _ us hl => match us, hl with | [_], _ => rfl⟩⟩
  have tk := takes_of (X := cxOf (L2.CX P w) P w K mg base ["writing", "words", "n", "k", "table", "number"] "writing_text" (defScope s_writing_text) f cdv A outer s H E) (E := E) rfl rfl rfl rfl
  have nd := sc_writing_text.nd
  exact sb_cons (ss_unp [2, 3, 4] (se_var 0) rfl (pgs_cons (pg_name (i := 2) nd rfl (Or.inl rfl)) (pgs_cons (pg_name (i := 3) nd rfl (Or.inl rfl)) (pgs_cons (pg_name (i := 4) nd rfl (Or.inl rfl)) (pgs_nil))))) (sb_cons (ss_comp 1 [("number", 5)] rfl nd rfl rfl (sw_true rfl rfl rfl (by decide +kernel)) (si_seq (se_var 4)) (blkOk_by (N := ["writing", "words", "n", "k", "table", "number"]) (sc := defScope s_writing_text) (by decide +kernel)) (fun _ => pg_name (i := 5) nd rfl (Or.inl rfl)) (sog_n 5) (by decide) (fun _ => sts_nil) (fun _ => se_ite (st_cmp op_isN os_isN (se_var 5) (se_non)) (se_gs rfl B.c_NO_NUMBER) (se_callTy call_str_int cs_str rfl B.str (by decide +kernel) (sa_cons (se_var 5) (sa_nil))))) (sb_one (ss_ret (se_bin op_addA os_add (se_bin op_addA os_add (se_bin op_addA os_add (se_join (se_str) (se_lst (sa_cons (se_str) (sa_cons (se_callTy call_str_int cs_str rfl B.str (by decide +kernel) (sa_cons (se_var 2) (sa_nil))) (sa_cons (se_callTy call_str_int cs_str rfl B.str (by decide +kernel) (sa_cons (se_var 3) (sa_nil))) (sa_nil)))))) (se_str)) (se_join (se_str) (se_var 1))) (se_str)))))
theorem ok_is_head {f : Addr} {fd : FuncData} (F : Fun K "is_head" "is_head" s_is_head f fd) (mf : mg "is_head" = some (.ref f)) (B : Bl K mg C_NoWriting C_NoText) (C_is_figures : DefOk P w K mg base "is_figures" 1 false 1 G_is_figures) : DefOk P w K mg base "is_head" 2 false 1 G_is_head := by
  refine ⟨⟨f, fd, ["words"], fn_def F sc_is_head false (fb := D_is_head) (fun cdv A outer s H E hr => ?_), mf, F.kp, F.binds fun _ _ _ _ _ _ us hl => match us, hl with | [_], _ => rfl⟩⟩
  have tk := takes_of (X := cxOf (L2.CX P w) P w K mg base ["words"] "is_head" (defScope s_is_head) f cdv A outer s H E) (E := E) rfl rfl rfl rfl
  have nd := sc_is_head.nd
  exact sb_one (ss_ret (se_and (se_cmp (op_eqD hr.units) os_eq (se_callB call_len cs_len rfl B.len (by decide +kernel) (sa_cons (se_var 0) (sa_nil))) (se_int)) (se_and (se_cmp op_eq os_eqS (se_ix ix_seq os_ix (se_var 0) (se_int)) (se_str)) (se_and (se_call tk (C_is_figures.fnd hr) rfl (sa_cons (se_ix ix_seq os_ix (se_var 0) (se_int)) (sa_nil))) (se_one (se_call tk (C_is_figures.fnd hr) rfl (sa_cons (se_ix ix_seq os_ix (se_var 0) (se_int)) (sa_nil))))))))
theorem ok_is_word {f : Addr} {fd : FuncData} (F : Fun K "is_word" "is_word" s_is_word f fd) (mf : mg "is_word" = some (.ref f)) (B : Bl K mg C_NoWriting C_NoText) (C_is_figures : DefOk P w K mg base "is_figures" 1 false 1 G_is_figures) : DefOk P w K mg base "is_word" 2 false 1 G_is_word := by
  refine ⟨⟨f, fd, ["word"], fn_def F sc_is_word false (fb := D_is_word) (fun cdv A outer s H E hr => ?_), mf, F.kp, F.binds fun _ _ _ _ _ _ us hl => match us, hl with | [_], _ => rfl⟩⟩
  have tk := takes_of (X := cxOf (L2.CX P w) P w K mg base ["word"] "is_word" (defScope s_is_word) f cdv A outer s H E) (E := E) rfl rfl rfl rfl
  have nd := sc_is_word.nd
  exact sb_one (ss_ret (se_or (se_cmp op_eq os_eqS (se_var 0) (se_gs rfl B.c_NO_NUMBER)) (se_one (se_call tk (C_is_figures.fnd hr) rfl (sa_cons (se_var 0) (sa_nil))))))
theorem ok_read_writing {f : Addr} {fd : FuncData} (F : Fun K "read_writing" "read_writing" s_read_writing f fd) (mf : mg "read_writing" = some (.ref f)) (B : Bl K mg C_NoWriting C_NoText) (C_is_head : DefOk P w K mg base "is_head" 2 false 1 G_is_head) (C_is_word : DefOk P w K mg base "is_word" 2 false 1 G_is_word) (C_made_writing : DefOk P w K mg base "made_writing" 4 false 3 G_made_writing) : DefOk P w K mg base "read_writing" 5 false 1 G_read_writing := by
  refine ⟨⟨f, fd, ["thing"], fn_def F sc_read_writing false (fb := D_read_writing) (fun cdv A outer s H E hr => ?_), mf, F.kp, F.binds fun _ _ _ _ _ _ us hl => match us, hl with | [_], _ => rfl⟩⟩
  have tk := takes_of (X := cxOf (L2.CX P w) P w K mg base ["thing", "rows", "table", "head", "words", "word"] "read_writing" (defScope s_read_writing) f cdv A outer s H E) (E := E) rfl rfl rfl rfl
  have nd := sc_read_writing.nd
  exact sb_cons (ss_if (st_not (st_val (se_isi rfl B.isinstance rfl B.str (by decide +kernel) (se_var 0)))) (sb_one (ss_raise PySem.F.excBase_ValueError B.f_NoText B.m_NoText rfl tk rfl)) (sb_nil)) (sb_cons (ss_set 1 nd rfl (Or.inl rfl) (se_split (se_var 0) (se_str))) (sb_cons (ss_if (st_w (sw_or (st_cmp (op_neD hr.units) os_ne (se_callB call_len cs_len rfl B.len (by decide +kernel) (sa_cons (se_var 1) (sa_nil))) (se_int)) (sw_or1 (st_cmp op_ne os_neS (se_ix ix_seq os_ix (se_var 1) (se_int)) (se_str))))) (sb_one (ss_raise PySem.F.excBase_ValueError B.f_NoText B.m_NoText rfl tk rfl)) (sb_nil)) (sb_cons (ss_par 3 4 rfl nd rfl rfl (by decide) rfl rfl (sa_cons (se_split (se_ix ix_seq os_ix (se_var 1) (se_int)) (se_str)) (sa_cons (se_split (se_ix ix_seq os_ix (se_var 1) (se_int)) (se_str)) (sa_nil)))) (sb_cons (ss_if (st_w (sw_or (st_not (st_val (se_call tk (C_is_head.fnd hr) rfl (sa_cons (se_var 3) (sa_nil))))) (sw_or1 (st_not (st_val (se_callB (cr_all rfl) cs_all rfl B.all (by decide +kernel) (sa_cons (se_comp [("word", 5)] rfl nd (si_seq (se_var 4)) (blkOk_by (N := ["thing", "rows", "table", "head", "words", "word"]) (sc := defScope s_read_writing) (by decide +kernel)) (fun _ => pg_name (i := 5) nd rfl (Or.inl rfl)) (sog_n 5) (by decide) (fun _ => sts_nil) (fun _ => se_call takes0 (C_is_word.fnd hr) rfl (sa_cons (se_var 5) (sa_nil)))) (sa_nil)))))))) (sb_one (ss_raise PySem.F.excBase_ValueError B.f_NoText B.m_NoText rfl tk rfl)) (sb_nil)) (sb_cons (ss_set 2 nd rfl (Or.inl rfl) (se_callTy call_tuple_of cs_tup rfl B.tuple (by decide +kernel) (sa_cons (se_comp [("word", 5)] rfl nd (si_seq (se_var 4)) (blkOk_by (N := ["thing", "rows", "table", "head", "words", "word"]) (sc := defScope s_read_writing) (by decide +kernel)) (fun _ => pg_name (i := 5) nd rfl (Or.inl rfl)) (sog_n 5) (by decide) (fun _ => sts_nil) (fun _ => se_ite (st_cmp op_eq os_eqS (se_var 5) (se_gs rfl B.c_NO_NUMBER)) (se_non) (se_callTy cr_intS cs_intS rfl B.int (by decide +kernel) (sa_cons (se_var 5) (sa_nil))))) (sa_nil)))) (sb_one (ss_tryR (cs := ["NoWriting"]) rfl rfl ⟨rfl, by decide, .inl B.m_NoWriting⟩ (List.forall_mem_cons.mpr ⟨⟨_, B.n_NoWriting, B.m_NoWriting, B.t_NoWriting_NoWriting⟩, List.forall_mem_nil _⟩) (fun W1 pn xe tk pa => sb_one (ss_ret (se_call tk (C_made_writing.fnd hr) rfl (sa_cons (se_callTy cr_intS cs_intS rfl B.int (by decide +kernel) (sa_cons (se_ix ix_seq os_ix (se_var 3) (se_int)) (sa_nil))) (sa_cons (se_callTy cr_intS cs_intS rfl B.int (by decide +kernel) (sa_cons (se_ix ix_seq os_ix (se_var 3) (se_int)) (sa_nil))) (sa_cons (se_var 2) (sa_nil))))))) (fun sa pn tk => sb_one (ss_never)))))))))
theorem ok_law_stream {f : Addr} {fd : FuncData} (F : Fun K "_law_stream" "_law_stream" s_law_stream f fd) (mf : mg "_law_stream" = some (.ref f)) (B : Bl K mg C_NoWriting C_NoText)  : DefOk P w K mg base "_law_stream" 1 false 2 G_law_stream := by
  refine ⟨⟨f, fd, ["_law_script", "_law_k"], fn_def F sc_law_stream false (fb := D_law_stream) (fun cdv A outer s H E hr => ?_), mf, F.kp, F.binds fun _ _ _ _ _ _ us hl => match us, hl with | [_, _], _ => rfl⟩⟩
  have tk := takes_of (X := cxOf (L2.CX P w) P w K mg base ["_law_script", "_law_k", "_law_cell", "_law_mixed"] "_law_stream" (defScope s_law_stream) f cdv A outer s H E) (E := E) rfl rfl rfl rfl
  have nd := sc_law_stream.nd
  exact sb_cons (ss_if (st_cmp op_lt os_lt (se_var 1) (se_callB call_len cs_len rfl B.len (by decide +kernel) (sa_cons (se_var 0) (sa_nil)))) (sb_cons (ss_set 2 nd rfl (Or.inl rfl) (se_callB call_abs cs_abs rfl B.abs (by decide +kernel) (sa_cons (se_ix ix_seq os_ix (se_var 0) (se_var 1)) (sa_nil)))) (sb_cons (ss_set 3 nd rfl (Or.inl rfl) (se_bin op_addA os_add (se_bin op_addA os_add (se_bin op_mod os_mod (se_var 2) (se_int)) (se_bin op_mul os_mul (se_var 1) (se_var 1))) (se_int))) (sb_cons (ss_if (st_cmp op_lt os_lt (se_var 2) (se_bin op_pow os_pow (se_int) (se_int))) (sb_one (ss_set 2 nd rfl (Or.inl rfl) (se_int))) (sb_nil)) (sb_one (ss_ret (se_lst (sa_cons (se_var 2) (sa_cons (se_var 3) (sa_nil))))))))) (sb_nil)) (sb_one (ss_ret (se_lst (sa_cons (se_int) (sa_cons (se_bin op_addA os_add (se_bin op_mul os_mul (se_var 1) (se_var 1)) (se_int)) (sa_nil))))))
theorem ok_law_take {f : Addr} {fd : FuncData} (F : Fun K "_law_take" "_law_take" s_law_take f fd) (mf : mg "_law_take" = some (.ref f)) (B : Bl K mg C_NoWriting C_NoText)  : DefOk P w K mg base "_law_take" 1 true 2 G_law_take := by
  refine ⟨⟨f, fd, ["_law_stream_here", "_law_most"], fn_def F sc_law_take true (fb := D_law_take) (fun cdv A outer s H E hr => ?_), mf, F.kp, F.binds fun _ _ _ _ _ _ us hl => match us, hl with | [_, _], _ => rfl⟩⟩
  have tk := takes_of (X := cxOf (L2.CX P w) P w K mg base ["_law_stream_here", "_law_most", "_law_digit"] "_law_take" (defScope s_law_take) f cdv A outer s H E) (E := E) rfl rfl rfl rfl
  have nd := sc_law_take.nd
  exact sb_cons (ss_if (st_cmp (op_eqD hr.units) os_eq (se_ix ix_seq os_ix (se_var 0) (se_int)) (se_int)) (sb_cons (ss_stI 0 (se_bin op_mod os_mod (se_bin op_addA os_add (se_bin op_mul os_mul (se_ix ix_seq os_ix (se_var 0) (se_int)) (se_int)) (se_int)) (se_int)) (se_int)) (sb_one (ss_ret (se_bin op_mod os_mod (se_bin op_mod os_mod (se_bin op_mul os_mul (se_ix ix_seq os_ix (se_var 0) (se_int)) (se_ix ix_seq os_ix (se_var 0) (se_int))) (se_int)) (se_var 1))))) (sb_nil)) (sb_cons (ss_set 2 nd rfl (Or.inl rfl) (se_bin op_mod os_mod (se_ix ix_seq os_ix (se_var 0) (se_int)) (se_var 1))) (sb_cons (ss_stI 0 (se_bin op_fdiv os_div (se_ix ix_seq os_ix (se_var 0) (se_int)) (se_var 1)) (se_int)) (sb_one (ss_ret (se_var 2)))))
theorem ok_law_table {f : Addr} {fd : FuncData} (F : Fun K "_law_table" "_law_table" s_law_table f fd) (mf : mg "_law_table" = some (.ref f)) (B : Bl K mg C_NoWriting C_NoText) (C_law_take : DefOk P w K mg base "_law_take" 1 true 2 G_law_take) : DefOk P w K mg base "_law_table" 2 true 3 G_law_table := by
  refine ⟨⟨f, fd, ["_law_stream_here", "_law_n", "_law_k"], fn_def F sc_law_table true (fb := D_law_table) (fun cdv A outer s H E hr => ?_), mf, F.kp, F.binds fun _ _ _ _ _ _ us hl => match us, hl with | [_, _, _], _ => rfl⟩⟩
  have tk := takes_of (X := cxOf (L2.CX P w) P w K mg base ["_law_stream_here", "_law_n", "_law_k", "_law_way", "_law_weights", "_law_rows", "_law_cuts", "_law_number", "_law_spot"] "_law_table" (defScope s_law_table) f cdv A outer s H E) (E := E) rfl rfl rfl rfl
  have nd := sc_law_table.nd
  exact sb_cons (ss_set 3 nd rfl (Or.inl rfl) (se_callI 0 tk (C_law_take.fnd hr) rfl (sa_cons (se_int) (sa_nil)))) (sb_cons (ss_set 4 nd rfl (Or.inr rfl) (se_comp [("_law_spot", 8)] rfl nd (si_rng1 rfl B.range (sa_cons (se_var 1) (sa_nil))) (blkOk_by (N := ["_law_stream_here", "_law_n", "_law_k", "_law_way", "_law_weights", "_law_rows", "_law_cuts", "_law_number", "_law_spot"]) (sc := defScope s_law_table) (by decide +kernel)) (fun _ => pg_name (i := 8) nd rfl (Or.inl rfl)) (sog_n 8) (by decide) (fun _ => sts_nil) (fun _ => se_callI 0 takes0 (C_law_take.fnd hr) rfl (sa_cons (se_var 2) (sa_nil))))) (sb_cons (ss_set 5 nd rfl (Or.inl rfl) (se_lst (sa_nil))) (sb_cons (ss_for PassesOwn.leaving rfl (si_rng1 rfl B.range (sa_cons (se_bin op_shl os_shl (se_int) (se_var 1)) (sa_nil))) (pg_name (i := 6) nd rfl (Or.inr rfl)) (sog_n 6) (sb_cons (ss_set 7 nd rfl (Or.inl rfl) (se_callI 0 tk (C_law_take.fnd hr) rfl (sa_cons (se_var 2) (sa_nil)))) (sb_cons (ss_if (st_cmp (op_eqD hr.units) os_eq (se_var 3) (se_int)) (sb_one (ss_set 7 nd rfl (Or.inl rfl) (se_bin op_mod os_mod (se_callB (cr_sum rfl) cs_sum rfl B.sum (by decide +kernel) (sa_cons (se_comp [("_law_spot", 8)] rfl nd (si_rng1 rfl B.range (sa_cons (se_var 1) (sa_nil))) (blkOk_by (N := ["_law_stream_here", "_law_n", "_law_k", "_law_way", "_law_weights", "_law_rows", "_law_cuts", "_law_number", "_law_spot"]) (sc := defScope s_law_table) (by decide +kernel)) (fun _ => pg_name (i := 8) nd rfl (Or.inl rfl)) (sog_n 8) (by decide) (fun _ => sts_one (st_cmp (op_eqD hr.units) os_eq (se_bin op_and os_and (se_bin op_shr os_shr (se_var 6) (se_var 8)) (se_int)) (se_int))) (fun _ => se_ix ix_seq os_ix (se_var 4) (se_var 8))) (sa_nil))) (se_var 2)))) (sb_nil)) (sb_cons (ss_if (st_w (sw_and (st_cmp (op_eqD hr.units) os_eq (se_var 3) (se_int)) (sw_and1 (st_cmp (op_eqD hr.units) os_eq (se_callI 0 tk (C_law_take.fnd hr) rfl (sa_cons (se_int) (sa_nil))) (se_int))))) (sb_one (ss_set 7 nd rfl (Or.inl rfl) (se_non))) (sb_nil)) (sb_one (ss_app 5 (se_var 7))))))) (sb_one (ss_ret (se_callTy call_tuple_of cs_tup rfl B.tuple (by decide +kernel) (sa_cons (se_var 5) (sa_nil))))))))
theorem ok_law_otherwise {f : Addr} {fd : FuncData} (F : Fun K "_law_otherwise" "_law_otherwise" s_law_otherwise f fd) (mf : mg "_law_otherwise" = some (.ref f)) (B : Bl K mg C_NoWriting C_NoText) (C_law_take : DefOk P w K mg base "_law_take" 1 true 2 G_law_take) : DefOk P w K mg base "_law_otherwise" 2 true 2 G_law_otherwise := by
  refine ⟨⟨f, fd, ["_law_stream_here", "_law_case"], fn_def F sc_law_otherwise true (fb := D_law_otherwise) (fun cdv A outer s H E hr => ?_), mf, F.kp, F.binds fun _ _ _ _ _ _ us hl => match us, hl with | [_, _], _ => rfl⟩⟩
  have tk := takes_of (X := cxOf (L2.CX P w) P w K mg base ["_law_stream_here", "_law_case", "_law_at", "_law_n", "_law_k", "_law_table_here"] "_law_otherwise" (defScope s_law_otherwise) f cdv A outer s H E) (E := E) rfl rfl rfl rfl
  have nd := sc_law_otherwise.nd
  exact sb_cons (ss_unp [3, 4, 5] (se_var 1) rfl (pgs_cons (pg_name (i := 3) nd rfl (Or.inl rfl)) (pgs_cons (pg_name (i := 4) nd rfl (Or.inl rfl)) (pgs_cons (pg_name (i := 5) nd rfl (Or.inl rfl)) (pgs_nil))))) (sb_cons (ss_set 2 nd rfl (Or.inl rfl) (se_callI 0 tk (C_law_take.fnd hr) rfl (sa_cons (se_callB call_len cs_len rfl B.len (by decide +kernel) (sa_cons (se_var 5) (sa_nil))) (sa_nil)))) (sb_one (ss_ret (se_tup (sa_cons (se_var 3) (sa_cons (se_var 4) (sa_cons (se_bin op_addA os_add (se_bin op_addA os_add (se_sl (se_var 5) (so_none) (so_some (se_var 2))) (se_tup (sa_cons (se_ix ix_seq os_ix (se_lst (sa_cons (se_non) (sa_cons (se_int) (sa_cons (se_bin op_sub os_sub (se_var 4) (se_int)) (sa_cons (se_callI 0 tk (C_law_take.fnd hr) rfl (sa_cons (se_var 4) (sa_nil))) (sa_nil)))))) (se_callI 0 tk (C_law_take.fnd hr) rfl (sa_cons (se_int) (sa_nil)))) (sa_nil)))) (se_sl (se_var 5) (so_some (se_bin op_addA os_add (se_var 2) (se_int))) (so_none))) (sa_nil))))))))
theorem ok_law_text {f : Addr} {fd : FuncData} (F : Fun K "_law_text" "_law_text" s_law_text f fd) (mf : mg "_law_text" = some (.ref f)) (B : Bl K mg C_NoWriting C_NoText)  : DefOk P w K mg base "_law_text" 1 false 1 G_law_text := by
  refine ⟨⟨f, fd, ["_law_case"], fn_def F sc_law_text false (fb := D_law_text) (fun cdv A outer s H E hr => ?_), mf, F.kp, F.binds fun _ _ _ _ _ _ us hl => match us, hl with | [_], _ => rfl⟩⟩
  have tk := takes_of (X := cxOf (L2.CX P w) P w K mg base ["_law_case", "_law_words", "_law_n", "_law_k", "_law_table_here", "_law_number"] "_law_text" (defScope s_law_text) f cdv A outer s H E) (E := E) rfl rfl rfl rfl
  have nd := sc_law_text.nd
  exact sb_cons (ss_unp [2, 3, 4] (se_var 0) rfl (pgs_cons (pg_name (i := 2) nd rfl (Or.inl rfl)) (pgs_cons (pg_name (i := 3) nd rfl (Or.inl rfl)) (pgs_cons (pg_name (i := 4) nd rfl (Or.inl rfl)) (pgs_nil))))) (sb_cons (ss_comp 1 [("_law_number", 5)] rfl nd rfl rfl (sw_true rfl rfl rfl (by decide +kernel)) (si_seq (se_var 4)) (blkOk_by (N := ["_law_case", "_law_words", "_law_n", "_law_k", "_law_table_here", "_law_number"]) (sc := defScope s_law_text) (by decide +kernel)) (fun _ => pg_name (i := 5) nd rfl (Or.inl rfl)) (sog_n 5) (by decide) (fun _ => sts_nil) (fun _ => se_ite (st_cmp op_isN os_isN (se_var 5) (se_non)) (se_str) (se_callTy call_str_int cs_str rfl B.str (by decide +kernel) (sa_cons (se_var 5) (sa_nil))))) (sb_one (ss_ret (se_bin op_addA os_add (se_bin op_addA os_add (se_bin op_addA os_add (se_bin op_addA os_add (se_bin op_addA os_add (se_bin op_addA os_add (se_str) (se_callTy call_str_int cs_str rfl B.str (by decide +kernel) (sa_cons (se_var 2) (sa_nil)))) (se_str)) (se_callTy call_str_int cs_str rfl B.str (by decide +kernel) (sa_cons (se_var 3) (sa_nil)))) (se_str)) (se_join (se_str) (se_var 1))) (se_str)))))
theorem ok_law_right {f : Addr} {fd : FuncData} (F : Fun K "_law_right" "_law_right" s_law_right f fd) (mf : mg "_law_right" = some (.ref f)) (B : Bl K mg C_NoWriting C_NoText) (C_made_writing : DefOk P w K mg base "made_writing" 4 false 3 G_made_writing) (C_law_text : DefOk P w K mg base "_law_text" 1 false 1 G_law_text) (C_writing_text : DefOk P w K mg base "writing_text" 1 false 1 G_writing_text) (C_read_writing : DefOk P w K mg base "read_writing" 5 false 1 G_read_writing) : DefOk P w K mg base "_law_right" 6 false 1 G_law_right := by
  refine ⟨⟨f, fd, ["_law_case"], fn_def F sc_law_right false (fb := D_law_right) (fun cdv A outer s H E hr => ?_), mf, F.kp, F.binds fun _ _ _ _ _ _ us hl => match us, hl with | [_], _ => rfl⟩⟩
  have tk := takes_of (X := cxOf (L2.CX P w) P w K mg base ["_law_case", "_law_writing", "_law_due", "_law_found"] "_law_right" (defScope s_law_right) f cdv A outer s H E) (E := E) rfl rfl rfl rfl
  have nd := sc_law_right.nd
  exact sb_cons (ss_set 1 nd rfl (Or.inl rfl) (se_call tk (C_made_writing.fnd hr) rfl (sa_cons (se_ix ix_seq os_ix (se_var 0) (se_int)) (sa_cons (se_ix ix_seq os_ix (se_var 0) (se_int)) (sa_cons (se_ix ix_seq os_ix (se_var 0) (se_int)) (sa_nil)))))) (sb_cons (ss_set 2 nd rfl (Or.inl rfl) (se_call tk (C_law_text.fnd hr) rfl (sa_cons (se_var 0) (sa_nil)))) (sb_cons (ss_set 3 nd rfl (Or.inl rfl) (se_call tk (C_writing_text.fnd hr) rfl (sa_cons (se_var 1) (sa_nil)))) (sb_one (ss_ret (se_and (se_isi rfl B.isinstance rfl B.str (by decide +kernel) (se_var 3)) (se_and (se_cmp op_eq os_eqS (se_var 3) (se_var 2)) (se_one (se_cmp op_eq os_eqS (se_callB (cr_repr (un65 hr) hr.gs) cs_repr rfl B.repr (by decide +kernel) (sa_cons (se_call tk (C_read_writing.fnd hr) rfl (sa_cons (se_var 2) (sa_nil))) (sa_nil))) (se_callB (cr_repr (un65 hr) hr.gs) cs_repr rfl B.repr (by decide +kernel) (sa_cons (se_var 0) (sa_nil)))))))))))
theorem ok_law_fn {f : Addr} {fd : FuncData} (F : Fun K "law" "law" s_law f fd) (B : Bl K mg C_NoWriting C_NoText) (C_law_stream : DefOk P w K mg base "_law_stream" 1 false 2 G_law_stream) (C_law_take : DefOk P w K mg base "_law_take" 1 true 2 G_law_take) (C_law_table : DefOk P w K mg base "_law_table" 2 true 3 G_law_table) (C_law_otherwise : DefOk P w K mg base "_law_otherwise" 2 true 2 G_law_otherwise) (C_law_right : DefOk P w K mg base "_law_right" 6 false 1 G_law_right) : DL.FnOk P w K mg base (L2.CX P w) 7 f fd ["_law_script"] (spD K mg false 1 G_law) := by
  refine fn_def F sc_law false (fb := D_law) (fun cdv A outer s H E hr => ?_)
  have tk := takes_of (X := cxOf (L2.CX P w) P w K mg base ["_law_script", "_law_j", "_law_stream_here", "_law_n", "_law_k", "_law_case", "_law_more", "_law_one"] "law" (defScope s_law) f cdv A outer s H E) (E := E) rfl rfl rfl rfl
  have nd := sc_law.nd
  exact sb_cons (ss_for PassesOwn.leaving rfl (si_rng1 rfl B.range (sa_cons (se_callB (call_max2 rfl) cs_max2 rfl B.max (by decide +kernel) (sa_cons (se_int) (sa_cons (se_callB (call_min2 rfl) cs_min2 rfl B.min (by decide +kernel) (sa_cons (se_int) (sa_cons (se_callB call_len cs_len rfl B.len (by decide +kernel) (sa_cons (se_var 0) (sa_nil))) (sa_nil)))) (sa_nil)))) (sa_nil))) (pg_name (i := 1) nd rfl (Or.inl rfl)) (sog_n 1) (sb_cons (ss_set 2 nd rfl (Or.inl rfl) (se_call tk (C_law_stream.fnd hr) rfl (sa_cons (se_var 0) (sa_cons (se_var 1) (sa_nil))))) (sb_cons (ss_set 3 nd rfl (Or.inl rfl) (se_bin op_addA os_add (se_int) (se_callI 2 tk (C_law_take.fnd hr) rfl (sa_cons (se_int) (sa_nil))))) (sb_cons (ss_set 4 nd rfl (Or.inl rfl) (se_ix ix_seq os_ix (se_lst (sa_cons (se_int) (sa_cons (se_int) (sa_cons (se_int) (sa_cons (se_int) (sa_cons (se_int) (sa_cons (se_bin op_addA os_add (se_int) (se_callI 2 tk (C_law_take.fnd hr) rfl (sa_cons (se_int) (sa_nil)))) (sa_nil)))))))) (se_callI 2 tk (C_law_take.fnd hr) rfl (sa_cons (se_int) (sa_nil))))) (sb_cons (ss_set 5 nd rfl (Or.inl rfl) (se_tup (sa_cons (se_var 3) (sa_cons (se_var 4) (sa_cons (se_callI 2 tk (C_law_table.fnd hr) rfl (sa_cons (se_var 3) (sa_cons (se_var 4) (sa_nil)))) (sa_nil)))))) (sb_cons (ss_set 6 nd rfl (Or.inl rfl) (se_tup (sa_cons (se_var 3) (sa_cons (se_callB (call_min2 rfl) cs_min2 rfl B.min (by decide +kernel) (sa_cons (se_int) (sa_cons (se_bin op_addA os_add (se_var 4) (se_int)) (sa_nil)))) (sa_cons (se_ix ix_seq os_ix (se_var 5) (se_int)) (sa_nil)))))) (sb_one (ss_for PassesOwn.leaving rfl (si_seq (se_lst (sa_cons (se_var 5) (sa_cons (se_callI 2 tk (C_law_otherwise.fnd hr) rfl (sa_cons (se_var 5) (sa_nil))) (sa_cons (se_var 6) (sa_cons (se_var 5) (sa_nil))))))) (pg_name (i := 7) nd rfl (Or.inl rfl)) (sog_n 7) (sb_one (ss_if (st_not (st_val (se_call tk (C_law_right.fnd hr) rfl (sa_cons (se_var 7) (sa_nil))))) (sb_one (ss_ret (se_bl))) (sb_nil))))))))))) (sb_one (ss_ret (se_bl)))
theorem all_mk {l : PySem.W.OpenLaw} {w : World} {K : PySem.W.Frag} {h : Heap} {mg : Str → Option Value} {fa : Addr} (X : K.In h) (G : h.Ns mainGlobals mg) (hfa : mg "law" = some (.ref fa))
    {f0 : Addr} {od0 an0 : Option Addr} {sl0 : Array (Option Value)} {oc0 kV0 dc0 pm0 cd0 ct0 : Value}
    (a0 : PySem.W.nsIn K mainGlobals "is_number" = some (some (.ref f0))) (l0 : K.lookup f0 = some ⟨oc0, od0, .func (PySem.W.fnOf "is_number" "is_number" (defArgs s_is_number) (defBody s_is_number) (defScope s_is_number) .none kV0 dc0 pm0 an0 cd0 ct0), sl0⟩) (c0 : PySem.W.codeIn K cd0 "is_number" = true) (k0 : PySem.W.keepIn K (.ref f0) = true)
    {f1 : Addr} {od1 an1 : Option Addr} {sl1 : Array (Option Value)} {oc1 kV1 dc1 pm1 cd1 ct1 : Value}
    (a1 : PySem.W.nsIn K mainGlobals "is_between" = some (some (.ref f1))) (l1 : K.lookup f1 = some ⟨oc1, od1, .func (PySem.W.fnOf "is_between" "is_between" (defArgs s_is_between) (defBody s_is_between) (defScope s_is_between) .none kV1 dc1 pm1 an1 cd1 ct1), sl1⟩) (c1 : PySem.W.codeIn K cd1 "is_between" = true) (k1 : PySem.W.keepIn K (.ref f1) = true)
    {f2 : Addr} {od2 an2 : Option Addr} {sl2 : Array (Option Value)} {oc2 kV2 dc2 pm2 cd2 ct2 : Value}
    (a2 : PySem.W.nsIn K mainGlobals "is_figures" = some (some (.ref f2))) (l2 : K.lookup f2 = some ⟨oc2, od2, .func (PySem.W.fnOf "is_figures" "is_figures" (defArgs s_is_figures) (defBody s_is_figures) (defScope s_is_figures) .none kV2 dc2 pm2 an2 cd2 ct2), sl2⟩) (c2 : PySem.W.codeIn K cd2 "is_figures" = true) (k2 : PySem.W.keepIn K (.ref f2) = true)
    {f3 : Addr} {od3 an3 : Option Addr} {sl3 : Array (Option Value)} {oc3 kV3 dc3 pm3 cd3 ct3 : Value}
    (a3 : PySem.W.nsIn K mainGlobals "is_table" = some (some (.ref f3))) (l3 : K.lookup f3 = some ⟨oc3, od3, .func (PySem.W.fnOf "is_table" "is_table" (defArgs s_is_table) (defBody s_is_table) (defScope s_is_table) .none kV3 dc3 pm3 an3 cd3 ct3), sl3⟩) (c3 : PySem.W.codeIn K cd3 "is_table" = true) (k3 : PySem.W.keepIn K (.ref f3) = true)
    {f4 : Addr} {od4 an4 : Option Addr} {sl4 : Array (Option Value)} {oc4 kV4 dc4 pm4 cd4 ct4 : Value}
    (a4 : PySem.W.nsIn K mainGlobals "made_writing" = some (some (.ref f4))) (l4 : K.lookup f4 = some ⟨oc4, od4, .func (PySem.W.fnOf "made_writing" "made_writing" (defArgs s_made_writing) (defBody s_made_writing) (defScope s_made_writing) .none kV4 dc4 pm4 an4 cd4 ct4), sl4⟩) (c4 : PySem.W.codeIn K cd4 "made_writing" = true) (k4 : PySem.W.keepIn K (.ref f4) = true)
    {f5 : Addr} {od5 an5 : Option Addr} {sl5 : Array (Option Value)} {oc5 kV5 dc5 pm5 cd5 ct5 : Value}
    (a5 : PySem.W.nsIn K mainGlobals "writing_text" = some (some (.ref f5))) (l5 : K.lookup f5 = some ⟨oc5, od5, .func (PySem.W.fnOf "writing_text" "writing_text" (defArgs s_writing_text) (defBody s_writing_text) (defScope s_writing_text) .none kV5 dc5 pm5 an5 cd5 ct5), sl5⟩) (c5 : PySem.W.codeIn K cd5 "writing_text" = true) (k5 : PySem.W.keepIn K (.ref f5) = true)
    {f6 : Addr} {od6 an6 : Option Addr} {sl6 : Array (Option Value)} {oc6 kV6 dc6 pm6 cd6 ct6 : Value}
    (a6 : PySem.W.nsIn K mainGlobals "is_head" = some (some (.ref f6))) (l6 : K.lookup f6 = some ⟨oc6, od6, .func (PySem.W.fnOf "is_head" "is_head" (defArgs s_is_head) (defBody s_is_head) (defScope s_is_head) .none kV6 dc6 pm6 an6 cd6 ct6), sl6⟩) (c6 : PySem.W.codeIn K cd6 "is_head" = true) (k6 : PySem.W.keepIn K (.ref f6) = true)
    {f7 : Addr} {od7 an7 : Option Addr} {sl7 : Array (Option Value)} {oc7 kV7 dc7 pm7 cd7 ct7 : Value}
    (a7 : PySem.W.nsIn K mainGlobals "is_word" = some (some (.ref f7))) (l7 : K.lookup f7 = some ⟨oc7, od7, .func (PySem.W.fnOf "is_word" "is_word" (defArgs s_is_word) (defBody s_is_word) (defScope s_is_word) .none kV7 dc7 pm7 an7 cd7 ct7), sl7⟩) (c7 : PySem.W.codeIn K cd7 "is_word" = true) (k7 : PySem.W.keepIn K (.ref f7) = true)
    {f8 : Addr} {od8 an8 : Option Addr} {sl8 : Array (Option Value)} {oc8 kV8 dc8 pm8 cd8 ct8 : Value}
    (a8 : PySem.W.nsIn K mainGlobals "read_writing" = some (some (.ref f8))) (l8 : K.lookup f8 = some ⟨oc8, od8, .func (PySem.W.fnOf "read_writing" "read_writing" (defArgs s_read_writing) (defBody s_read_writing) (defScope s_read_writing) .none kV8 dc8 pm8 an8 cd8 ct8), sl8⟩) (c8 : PySem.W.codeIn K cd8 "read_writing" = true) (k8 : PySem.W.keepIn K (.ref f8) = true)
    {f9 : Addr} {od9 an9 : Option Addr} {sl9 : Array (Option Value)} {oc9 kV9 dc9 pm9 cd9 ct9 : Value}
    (a9 : PySem.W.nsIn K mainGlobals "_law_stream" = some (some (.ref f9))) (l9 : K.lookup f9 = some ⟨oc9, od9, .func (PySem.W.fnOf "_law_stream" "_law_stream" (defArgs s_law_stream) (defBody s_law_stream) (defScope s_law_stream) .none kV9 dc9 pm9 an9 cd9 ct9), sl9⟩) (c9 : PySem.W.codeIn K cd9 "_law_stream" = true) (k9 : PySem.W.keepIn K (.ref f9) = true)
    {f10 : Addr} {od10 an10 : Option Addr} {sl10 : Array (Option Value)} {oc10 kV10 dc10 pm10 cd10 ct10 : Value}
    (a10 : PySem.W.nsIn K mainGlobals "_law_take" = some (some (.ref f10))) (l10 : K.lookup f10 = some ⟨oc10, od10, .func (PySem.W.fnOf "_law_take" "_law_take" (defArgs s_law_take) (defBody s_law_take) (defScope s_law_take) .none kV10 dc10 pm10 an10 cd10 ct10), sl10⟩) (c10 : PySem.W.codeIn K cd10 "_law_take" = true) (k10 : PySem.W.keepIn K (.ref f10) = true)
    {f11 : Addr} {od11 an11 : Option Addr} {sl11 : Array (Option Value)} {oc11 kV11 dc11 pm11 cd11 ct11 : Value}
    (a11 : PySem.W.nsIn K mainGlobals "_law_table" = some (some (.ref f11))) (l11 : K.lookup f11 = some ⟨oc11, od11, .func (PySem.W.fnOf "_law_table" "_law_table" (defArgs s_law_table) (defBody s_law_table) (defScope s_law_table) .none kV11 dc11 pm11 an11 cd11 ct11), sl11⟩) (c11 : PySem.W.codeIn K cd11 "_law_table" = true) (k11 : PySem.W.keepIn K (.ref f11) = true)
    {f12 : Addr} {od12 an12 : Option Addr} {sl12 : Array (Option Value)} {oc12 kV12 dc12 pm12 cd12 ct12 : Value}
    (a12 : PySem.W.nsIn K mainGlobals "_law_otherwise" = some (some (.ref f12))) (l12 : K.lookup f12 = some ⟨oc12, od12, .func (PySem.W.fnOf "_law_otherwise" "_law_otherwise" (defArgs s_law_otherwise) (defBody s_law_otherwise) (defScope s_law_otherwise) .none kV12 dc12 pm12 an12 cd12 ct12), sl12⟩) (c12 : PySem.W.codeIn K cd12 "_law_otherwise" = true) (k12 : PySem.W.keepIn K (.ref f12) = true)
    {f13 : Addr} {od13 an13 : Option Addr} {sl13 : Array (Option Value)} {oc13 kV13 dc13 pm13 cd13 ct13 : Value}
    (a13 : PySem.W.nsIn K mainGlobals "_law_text" = some (some (.ref f13))) (l13 : K.lookup f13 = some ⟨oc13, od13, .func (PySem.W.fnOf "_law_text" "_law_text" (defArgs s_law_text) (defBody s_law_text) (defScope s_law_text) .none kV13 dc13 pm13 an13 cd13 ct13), sl13⟩) (c13 : PySem.W.codeIn K cd13 "_law_text" = true) (k13 : PySem.W.keepIn K (.ref f13) = true)
    {f14 : Addr} {od14 an14 : Option Addr} {sl14 : Array (Option Value)} {oc14 kV14 dc14 pm14 cd14 ct14 : Value}
    (a14 : PySem.W.nsIn K mainGlobals "_law_right" = some (some (.ref f14))) (l14 : K.lookup f14 = some ⟨oc14, od14, .func (PySem.W.fnOf "_law_right" "_law_right" (defArgs s_law_right) (defBody s_law_right) (defScope s_law_right) .none kV14 dc14 pm14 an14 cd14 ct14), sl14⟩) (c14 : PySem.W.codeIn K cd14 "_law_right" = true) (k14 : PySem.W.keepIn K (.ref f14) = true)
    {f15 : Addr} {od15 an15 : Option Addr} {sl15 : Array (Option Value)} {oc15 kV15 dc15 pm15 cd15 ct15 : Value}
    (a15 : PySem.W.nsIn K mainGlobals "law" = some (some (.ref f15))) (l15 : K.lookup f15 = some ⟨oc15, od15, .func (PySem.W.fnOf "law" "law" (defArgs s_law) (defBody s_law) (defScope s_law) .none kV15 dc15 pm15 an15 cd15 ct15), sl15⟩) (c15 : PySem.W.codeIn K cd15 "law" = true) (k15 : PySem.W.keepIn K (.ref f15) = true)
    (z_abs : PySem.W.nsIn K mainGlobals "abs" = some none)
    (z_all : PySem.W.nsIn K mainGlobals "all" = some none)
    (z_bool : PySem.W.nsIn K mainGlobals "bool" = some none)
    (z_hardest : PySem.W.nsIn K mainGlobals "hardest" = some none)
    (z_int : PySem.W.nsIn K mainGlobals "int" = some none)
    (z_isinstance : PySem.W.nsIn K mainGlobals "isinstance" = some none)
    (z_len : PySem.W.nsIn K mainGlobals "len" = some none)
    (z_longest : PySem.W.nsIn K mainGlobals "longest" = some none)
    (z_max : PySem.W.nsIn K mainGlobals "max" = some none)
    (z_min : PySem.W.nsIn K mainGlobals "min" = some none)
    (z_range : PySem.W.nsIn K mainGlobals "range" = some none)
    (z_repr : PySem.W.nsIn K mainGlobals "repr" = some none)
    (z_str : PySem.W.nsIn K mainGlobals "str" = some none)
    (z_sum : PySem.W.nsIn K mainGlobals "sum" = some none)
    (z_tuple : PySem.W.nsIn K mainGlobals "tuple" = some none)
    {tk_FEWEST_NUMBERS : Tok} (z_FEWEST_NUMBERS : PySem.W.nsIn K mainGlobals "FEWEST_NUMBERS" = some (some (.int 2 tk_FEWEST_NUMBERS)))
    {tk_FIGURES : Tok} (z_FIGURES : PySem.W.nsIn K mainGlobals "FIGURES" = some (some (.str "0123456789" tk_FIGURES)))
    {tk_MOST_FIGURES : Tok} (z_MOST_FIGURES : PySem.W.nsIn K mainGlobals "MOST_FIGURES" = some (some (.int 3 tk_MOST_FIGURES)))
    {tk_MOST_NUMBERS : Tok} (z_MOST_NUMBERS : PySem.W.nsIn K mainGlobals "MOST_NUMBERS" = some (some (.int 100 tk_MOST_NUMBERS)))
    {tk_MOST_SPOTS : Tok} (z_MOST_SPOTS : PySem.W.nsIn K mainGlobals "MOST_SPOTS" = some (some (.int 8 tk_MOST_SPOTS)))
    {tk_NO_NUMBER : Tok} (z_NO_NUMBER : PySem.W.nsIn K mainGlobals "NO_NUMBER" = some (some (.str "-" tk_NO_NUMBER)))
    {C_NoWriting C_NoText : Addr} (n_NoWriting : PySem.W.nsIn K mainGlobals "NoWriting" = some (some (.ref C_NoWriting))) (n_NoText : PySem.W.nsIn K mainGlobals "NoText" = some (some (.ref C_NoText))) (fx_NoWriting : PySem.W.excIn K C_NoWriting [.type "ValueError", .type "Exception", .type "BaseException", .type "object"] "ValueError.__new__" = true) (fk_NoWriting : PySem.W.keepIn K (.ref C_NoWriting) = true) (fs_NoWriting : PySem.W.subIn K (.ref C_NoWriting) (.type "BaseException") = some true) (ft_NoWriting : PySem.W.typeIn K (.ref C_NoWriting) = some (.type "type")) (ea_NoWriting : PySem.W.findIn K (.ref C_NoWriting) "__getattribute__" = some (some (.builtin "BaseException.__getattribute__"))) (eb_NoWriting : PySem.W.findIn K (.ref C_NoWriting) "__getattr__" = some none) (ed_NoWriting : PySem.W.hasDictIn K C_NoWriting = true) (ec_NoWriting : PySem.W.findIn K (.ref C_NoWriting) "__class__" = some (some (.builtin "object.__class__"))) (em_NoWriting : PySem.W.mroIn K C_NoWriting (.type "object") = some true) (t_NoWriting_NoWriting : PySem.W.exmOne K (.ref C_NoWriting) (.ref C_NoWriting) = some true) (fx_NoText : PySem.W.excIn K C_NoText [.type "ValueError", .type "Exception", .type "BaseException", .type "object"] "ValueError.__new__" = true) (fk_NoText : PySem.W.keepIn K (.ref C_NoText) = true) (fs_NoText : PySem.W.subIn K (.ref C_NoText) (.type "BaseException") = some true) (ft_NoText : PySem.W.typeIn K (.ref C_NoText) = some (.type "type")) (ea_NoText : PySem.W.findIn K (.ref C_NoText) "__getattribute__" = some (some (.builtin "BaseException.__getattribute__"))) (eb_NoText : PySem.W.findIn K (.ref C_NoText) "__getattr__" = some none) (ed_NoText : PySem.W.hasDictIn K C_NoText = true) (ec_NoText : PySem.W.findIn K (.ref C_NoText) "__class__" = some (some (.builtin "object.__class__"))) (em_NoText : PySem.W.mroIn K C_NoText (.type "object") = some true) (en : PySem.W.specialIn K (.builtin "object.__class__") "__get__" = some (some (.builtin "getset_descriptor.__get__"))) (et : PySem.W.takesIn K (.builtin "object.__class__") = some true)
    : LawE l.prog w K mg h 7 fa "_law_script" := by
  have e := hfa.symm.trans (PySem.W.mg_of X G a15)
  cases e
  have B : Bl K mg C_NoWriting C_NoText := ⟨PySem.W.mg_none_of X G z_abs, PySem.W.mg_none_of X G z_all, PySem.W.mg_none_of X G z_bool, PySem.W.mg_none_of X G z_hardest, PySem.W.mg_none_of X G z_int, PySem.W.mg_none_of X G z_isinstance, PySem.W.mg_none_of X G z_len, PySem.W.mg_none_of X G z_longest, PySem.W.mg_none_of X G z_max, PySem.W.mg_none_of X G z_min, PySem.W.mg_none_of X G z_range, PySem.W.mg_none_of X G z_repr, PySem.W.mg_none_of X G z_str, PySem.W.mg_none_of X G z_sum, PySem.W.mg_none_of X G z_tuple, ⟨_, PySem.W.mg_of X G z_FEWEST_NUMBERS⟩, ⟨_, PySem.W.mg_of X G z_FIGURES⟩, ⟨_, PySem.W.mg_of X G z_MOST_FIGURES⟩, ⟨_, PySem.W.mg_of X G z_MOST_NUMBERS⟩, ⟨_, PySem.W.mg_of X G z_MOST_SPOTS⟩, ⟨_, PySem.W.mg_of X G z_NO_NUMBER⟩, n_NoWriting, PySem.W.mg_of X G n_NoWriting, n_NoText, PySem.W.mg_of X G n_NoText, ⟨n_NoWriting, fx_NoWriting, fk_NoWriting, fs_NoWriting, ft_NoWriting⟩, ⟨ea_NoWriting, eb_NoWriting, fs_NoWriting, ed_NoWriting, ec_NoWriting, en, et, em_NoWriting⟩, ⟨n_NoText, fx_NoText, fk_NoText, fs_NoText, ft_NoText⟩, ⟨ea_NoText, eb_NoText, fs_NoText, ed_NoText, ec_NoText, en, et, em_NoText⟩, t_NoWriting_NoWriting⟩
  have F0 := fun_mk (st := s_is_number) l0 c0 k0
  have F1 := fun_mk (st := s_is_between) l1 c1 k1
  have F2 := fun_mk (st := s_is_figures) l2 c2 k2
  have F3 := fun_mk (st := s_is_table) l3 c3 k3
  have F4 := fun_mk (st := s_made_writing) l4 c4 k4
  have F5 := fun_mk (st := s_writing_text) l5 c5 k5
  have F6 := fun_mk (st := s_is_head) l6 c6 k6
  have F7 := fun_mk (st := s_is_word) l7 c7 k7
  have F8 := fun_mk (st := s_read_writing) l8 c8 k8
  have F9 := fun_mk (st := s_law_stream) l9 c9 k9
  have F10 := fun_mk (st := s_law_take) l10 c10 k10
  have F11 := fun_mk (st := s_law_table) l11 c11 k11
  have F12 := fun_mk (st := s_law_otherwise) l12 c12 k12
  have F13 := fun_mk (st := s_law_text) l13 c13 k13
  have F14 := fun_mk (st := s_law_right) l14 c14 k14
  have F15 := fun_mk (st := s_law) l15 c15 k15
  refine lawE_none z_longest z_hardest (fd := PySem.W.fnOf "law" "law" (defArgs s_law) (defBody s_law) (defScope s_law) .none kV15 dc15 pm15 an15 cd15 ct15) (fun s v => .of_eq rfl) fun base _ _ => ?_
  have C_is_number := ok_is_number (P := l.prog) (w := w) (base := base) F0 (PySem.W.mg_of X G a0) B 
  have C_is_between := ok_is_between (P := l.prog) (w := w) (base := base) F1 (PySem.W.mg_of X G a1) B C_is_number
  have C_is_figures := ok_is_figures (P := l.prog) (w := w) (base := base) F2 (PySem.W.mg_of X G a2) B 
  have C_is_table := ok_is_table (P := l.prog) (w := w) (base := base) F3 (PySem.W.mg_of X G a3) B C_is_between
  have C_made_writing := ok_made_writing (P := l.prog) (w := w) (base := base) F4 (PySem.W.mg_of X G a4) B C_is_between C_is_table
  have C_writing_text := ok_writing_text (P := l.prog) (w := w) (base := base) F5 (PySem.W.mg_of X G a5) B 
  have C_is_head := ok_is_head (P := l.prog) (w := w) (base := base) F6 (PySem.W.mg_of X G a6) B C_is_figures
  have C_is_word := ok_is_word (P := l.prog) (w := w) (base := base) F7 (PySem.W.mg_of X G a7) B C_is_figures
  have C_read_writing := ok_read_writing (P := l.prog) (w := w) (base := base) F8 (PySem.W.mg_of X G a8) B C_is_head C_is_word C_made_writing
  have C_law_stream := ok_law_stream (P := l.prog) (w := w) (base := base) F9 (PySem.W.mg_of X G a9) B 
  have C_law_take := ok_law_take (P := l.prog) (w := w) (base := base) F10 (PySem.W.mg_of X G a10) B 
  have C_law_table := ok_law_table (P := l.prog) (w := w) (base := base) F11 (PySem.W.mg_of X G a11) B C_law_take
  have C_law_otherwise := ok_law_otherwise (P := l.prog) (w := w) (base := base) F12 (PySem.W.mg_of X G a12) B C_law_take
  have C_law_text := ok_law_text (P := l.prog) (w := w) (base := base) F13 (PySem.W.mg_of X G a13) B 
  have C_law_right := ok_law_right (P := l.prog) (w := w) (base := base) F14 (PySem.W.mg_of X G a14) B C_made_writing C_law_text C_writing_text C_read_writing
  exact law_imp (ok_law_fn F15 B C_law_stream C_law_take C_law_table C_law_otherwise C_law_right) law_true
end
end
end T
open PySem PySem.W PyProof.Rows
set_option maxHeartbeats 0 in
theorem PySem.Challenge.cw_notchledger_k82_writings_told_holds : PySem.Challenge.rw_notchledger_k82_writings_told.Holds := by
  w_on; o_law; k_head; (case hw => w_witness2)
  k_fill
  refine DL.walk_E (l := PySem.Challenge.rw_notchledger_k82_writings_told) (k := 7) (x := "_law_script") rfl rfl ⟨rfl, by decide, by decide⟩ (fun w h Y => PySem.W.kIn_of Y) ?F
  case F =>
    intro w mg fa h Y KX G hmg
    refine' T.all_mk KX G hmg ?a0 ?l0 ?c0 ?k0 ?a1 ?l1 ?c1 ?k1 ?a2 ?l2 ?c2 ?k2 ?a3 ?l3 ?c3 ?k3 ?a4 ?l4 ?c4 ?k4 ?a5 ?l5 ?c5 ?k5 ?a6 ?l6 ?c6 ?k6 ?a7 ?l7 ?c7 ?k7 ?a8 ?l8 ?c8 ?k8 ?a9 ?l9 ?c9 ?k9 ?a10 ?l10 ?c10 ?k10 ?a11 ?l11 ?c11 ?k11 ?a12 ?l12 ?c12 ?k12 ?a13 ?l13 ?c13 ?k13 ?a14 ?l14 ?c14 ?k14 ?a15 ?l15 ?c15 ?k15 ?z_abs ?z_all ?z_bool ?z_hardest ?z_int ?z_isinstance ?z_len ?z_longest ?z_max ?z_min ?z_range ?z_repr ?z_str ?z_sum ?z_tuple ?z_FEWEST_NUMBERS ?z_FIGURES ?z_MOST_FIGURES ?z_MOST_NUMBERS ?z_MOST_SPOTS ?z_NO_NUMBER ?n_NoWriting ?n_NoText ?fx_NoWriting ?fk_NoWriting ?fs_NoWriting ?ft_NoWriting ?ea_NoWriting ?eb_NoWriting ?ed_NoWriting ?ec_NoWriting ?em_NoWriting ?t_NoWriting_NoWriting ?fx_NoText ?fk_NoText ?fs_NoText ?ft_NoText ?ea_NoText ?eb_NoText ?ed_NoText ?ec_NoText ?em_NoText ?en ?et
    (case a0 => k_is); (case l0 => k_is); (case c0 => k_is); (case k0 => k_is); (case a1 => k_is); (case l1 => k_is); (case c1 => k_is); (case k1 => k_is); (case a2 => k_is); (case l2 => k_is); (case c2 => k_is); (case k2 => k_is); (case a3 => k_is); (case l3 => k_is); (case c3 => k_is); (case k3 => k_is); (case a4 => k_is); (case l4 => k_is); (case c4 => k_is); (case k4 => k_is); (case a5 => k_is); (case l5 => k_is); (case c5 => k_is); (case k5 => k_is); (case a6 => k_is); (case l6 => k_is); (case c6 => k_is); (case k6 => k_is); (case a7 => k_is); (case l7 => k_is); (case c7 => k_is); (case k7 => k_is); (case a8 => k_is); (case l8 => k_is); (case c8 => k_is); (case k8 => k_is); (case a9 => k_is); (case l9 => k_is); (case c9 => k_is); (case k9 => k_is); (case a10 => k_is); (case l10 => k_is); (case c10 => k_is); (case k10 => k_is); (case a11 => k_is); (case l11 => k_is); (case c11 => k_is); (case k11 => k_is); (case a12 => k_is); (case l12 => k_is); (case c12 => k_is); (case k12 => k_is); (case a13 => k_is); (case l13 => k_is); (case c13 => k_is); (case k13 => k_is); (case a14 => k_is); (case l14 => k_is); (case c14 => k_is); (case k14 => k_is); (case a15 => k_is); (case l15 => k_is); (case c15 => k_is); (case k15 => k_is); (case z_abs => k_is); (case z_all => k_is); (case z_bool => k_is); (case z_hardest => k_is); (case z_int => k_is); (case z_isinstance => k_is); (case z_len => k_is); (case z_longest => k_is); (case z_max => k_is); (case z_min => k_is); (case z_range => k_is); (case z_repr => k_is); (case z_str => k_is); (case z_sum => k_is); (case z_tuple => k_is); (case z_FEWEST_NUMBERS => k_is); (case z_FIGURES => k_is); (case z_MOST_FIGURES => k_is); (case z_MOST_NUMBERS => k_is); (case z_MOST_SPOTS => k_is); (case z_NO_NUMBER => k_is); (case n_NoWriting => k_is); (case n_NoText => k_is); (case fx_NoWriting => k_exc); (case fk_NoWriting => k_is); (case fs_NoWriting => k_is); (case ft_NoWriting => k_is); (case ea_NoWriting => k_is); (case eb_NoWriting => k_is); (case ed_NoWriting => k_is); (case ec_NoWriting => k_is); (case em_NoWriting => k_is); (case t_NoWriting_NoWriting => exact PySem.W.exm_ref (by k_is) (by k_is) (by k_is) (by k_is)); (case fx_NoText => k_exc); (case fk_NoText => k_is); (case fs_NoText => k_is); (case ft_NoText => k_is); (case ea_NoText => k_is); (case eb_NoText => k_is); (case ed_NoText => k_is); (case ec_NoText => k_is); (case em_NoText => k_is); (case en => k_is); (case et => k_is)
