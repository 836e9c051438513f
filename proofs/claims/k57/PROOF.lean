import PyProof.Rows.All
import Wide.All
import OpenK.AllK
import Wide.FinOn
import HandS.ForMost
import HandS.Lambda
import HandS.EndTab
import HandS.WordsExc
import HandS.ExcIs
import HandS.ExcOwn
import HandS.Wide
import HandS.IsInst
import HandS.Star
import HandS.WrittenGet
import HandS.DictTup
import HandS.SortInts
import HandS.RaiseMore
import HandS.TupAny
import HandS.Conv
import HandS.Deep
import HandS.Zip
import HandS.More
import HandS.Property
import HandS.IterVal
import HandS.CallLocal
import HandS.TupSets
import PySem.Challenge.RW_ownharm_k57_views_that_fit_and_the_first
import KE.KEqSeq
import HandS.Style
import HandS.Walk
import KE.GoesMore
import HandS.ExcInit
import HandS.FStr
import KE.KExcSuper
import HandS.TupLe
section
set_option Elab.async false
set_option linter.all false
set_option maxRecDepth 100000
set_option maxHeartbeats 2000000
/-! Calls that know that no repr is under way (guards = some []). -/
namespace OH
open PySem PySem.Spec PyProof.Rows L2
/-- a def's promise, for callers around whom no guard stands -/
structure FnG (P : Program) (w : World) (K : PySem.W.Frag) (mg : Str → Option Value) (base : Heap)
    (CX : CXT) (k : Nat) (f : Addr) (fd : FuncData) (ps : List Str) (sp : Sp) : Prop where
  len : ∀ vs H Q E, sp vs H Q E → vs.length = ps.length
  go : ∀ (A : Around) (out : List Env) (s : Shared) (H : Hp) (ar : Args) (us : List Value)
    (vs : List V) (Q : VK) (E : XK), A.guards = some [] → Room k A → Env0 P w K mg base A out s H →
    BindsTo s fd ar (ps.zip us) → Vals vs us → sp vs H Q E →
    codeAny (model P w) A (.call (.ref f) ar) (CR CX out P w H s Q E) s
theorem fnG_fun {P : Program} {w : World} {K : PySem.W.Frag} {mg : Str → Option Value} {base : Heap}
    {x qual : Str} {st : Stmt} {f : Addr} {fd : FuncData} {N ps : List Str} {k : Nat} {sp : Sp}
    (F : Fun K x qual st f fd) (S : FnScope N ps (defScope st))
    (len : ∀ vs H Q E, sp vs H Q E → vs.length = ps.length)
    (body : ∀ (cdv : Value) (A : Around) (out : List Env) (s : Shared) (H : Hp) (vs : List V) (Q : VK) (E : XK),
      (A.deeper (envOfC qual (defScope st) s.heap.objs.size f cdv)).guards = some [] →
      Room k (A.deeper (envOfC qual (defScope st) s.heap.objs.size f cdv)) → sp vs H Q E →
      ∃ t, PSs (cxOf CX0 P w K mg base N qual (defScope st) f cdv A out s H E).nox (defBody st) t ∧
        t { nx := fun _ H' => Q .non H', rt := Q } (start N vs) H) :
    FnG P w K mg base CX0 (k + 1) f fd ps sp := by
  obtain ⟨oc, od, kV, doc, pm, an, cdv, ct, osl, rfl, lk, hcd⟩ := F.ex
  refine ⟨len, fun A out s H ar us vs Q E hg hr e0 hb r hs => ?_⟩
  refine LamX.run_ofS lk hcd S hr e0 hb r (len _ _ _ _ hs) fun hr' => ?_
  obtain ⟨t, h1, h2⟩ := body cdv A out s H vs Q E hg hr' hs
  exact ⟨t, h1.nox, h2⟩
section
variable {X : Cx} {CX : CXT} {k : Nat} {f : Addr} {fd : FuncData} {ps : List Str} {sp : Sp} {E : XK}
  {x : Str} {p pos : Pos} {e : Expr} {es : List Expr} {t : TA}
theorem runG {pins : List (Addr × Obj)} {σ : L2.St} {H : Hp} {s : Shared} {Q : VK} {us : List Value}
    {vs : List V} (F : FnG X.prog X.w X.K X.mg X.base CX k f fd ps sp) (gd : X.A.guards = some [])
    (hr : Room k X.A) (hb : Binds X.K fd ps []) (hx : Passes CX X E) (I : Inv X pins σ H s) (r : Vals vs us)
    (h : sp vs H Q E) : wpAny (model X.prog X.w) X.A (call (.ref f) us) (EP X pins σ Q) X.xe s := by
  have n : (us ++ ([] : List Value)).length = ps.length := by
    rw [List.append_nil, ← r.length]
    exact F.len _ _ _ _ h
  have b := hb s us I.kIn n
  rw [List.append_nil] at b
  refine wpAny_call (codeAny_mono (F.go X.A X.stack s H ⟨us, []⟩ us vs Q E gd hr I.env0 b r h) fun res s2 done => ?_)
  rcases res with er | fl
  · exact hx pins σ H s er s2 I done
  · cases fl with
    | ret u => exact I.after done
    | _ => exact False.elim done
theorem pe_callG (F : FnG X.prog X.w X.K X.mg X.base CX k f fd ps sp) (gd : X.A.guards = some [])
    (hr : Room k X.A) (hg : Gl X x) (hm : X.mg x = some (.ref f)) (hk : PySem.W.keepIn X.K (.ref f) = true)
    (hb : Binds X.K fd ps []) (hx : Passes CX X E) (ha : PA X (e :: es) t)
    (hdb : (x == ("__debug__" : Str)) = false := by decide)
    (he : starEach (e :: es) X.env = (false, eval e X.env) :: starEach es X.env := by rfl)
    (hpl : (backTo pos (starEach es X.env)).any (·.1) = false := by rfl) :
    PE X (.Call (.Name x p) (e :: es) [] pos) (tCall sp [] E t) := by
  constructor
  intro pins s σ H Q I h
  refine wpAny_Call_Name_kw (ld_glob I hg hm ?_ hdb)
  refine PySem.W.callWith_K (h₀ := X.base) I.ok.mod.kin hk ?_ he hpl
  refine thn (ha.run pos pins s σ H _ I h) ?_
  rintro us s1 ⟨vs, H1, I1, r, q⟩
  refine ⟨I1.kIn, runG F gd hr hb hx I1 r ?_⟩
  have z : vs ++ ([] : List V) = vs := List.append_nil vs
  have q' : sp (vs ++ []) H1 Q E := q
  rw [z] at q'
  exact q'
end
/-- the law's call at the very caller, tables of code objects told -/
theorem law_callG {P : Program} {w : World} {K : PySem.W.Frag} {mg mb : Str → Option Value} {k : Nat}
    {fa a : Addr} {cs : List (Addr × Addr)} {fd : FuncData} {x : Str} {sp : Sp} {s₁ : Shared} {vs : List Value}
    {ns : List Int} (KX : K.In s₁.heap) (hns : s₁.heap.Ns mainGlobals mg) (hb : s₁.heap.Ns builtinsNs mb)
    (hbb : ∀ x : Str, x ≠ "__name__" → mb x = bootBuiltins x) (hlim : s₁.heap.NoLimit) (hg : s₁.gens = #[])
    (hT : ∀ p ∈ cs, s₁.heap.get? p.2 = some { cls := .none, data := .fields #[] })
    (nT : ∀ p ∈ cs, K.lookup p.2 = none) (C : ∀ p ∈ cs, PySem.W.CodeHd s₁.heap p.1 p.2)
    (hbm : ∃ (bm : Addr) (ob : Obj), mg "__builtins__" = some (.ref bm) ∧ bm ≠ builtinsNs ∧ s₁.heap.get? bm = some ob ∧
      ob.cls = .type "module" ∧ ob.dict = some builtinsNs ∧ ob.data = .plain)
    (ha : s₁.heap.get? a = some { cls := .type "list", data := .seq vs.toArray }) (hi : IntsAre vs ns)
    (hl : ns.length ≤ sizeLine) (hr : Room k callerA)
    (F : ∀ base : Heap, K.In base → base.Ns mainGlobals mg → (∀ p ∈ cs, LamX.TabB base mg p.1 p.2) →
      FnG P w K mg base CX0 k fa fd [x] sp)
    (hbind : ∀ (s : Shared) (u : Value), BindsTo s fd ⟨[u], []⟩ [(x, u)])
    (hsp : ∀ H : Hp, (∀ p ∈ cs, H p.2 = some (.tbl #[])) → SqL K H a (ns.map V.int) →
      sp [.ref a] H (fun v _ => v = .bl true) fun _ _ _ => False) :
    codeAny (model P w) callerA (.call (.ref fa) ⟨[.ref a], []⟩)
      (fun r s' => r = .ok (.ret (.bool true)) ∧ OldK s₁.heap s'.heap ∧ s'.os = s₁.os ∧ AllBare s'.gens) s₁ := by
  have rv := vals_ints hi
  have nvs := hi.length
  let tb : List Addr := cs.map (·.2)
  have tb_of : ∀ {p}, p ∈ cs → p.2 ∈ tb := fun {p} hp => List.mem_map.mpr ⟨p, hp, rfl⟩
  have tbE : ∀ {b}, b ∈ tb → s₁.heap.get? b = some { cls := .none, data := .fields #[] } := fun {b} hb => by
    obtain ⟨p, hp, e⟩ := List.mem_map.mp hb
    exact e ▸ hT p hp
  have aNt : a ∉ tb := fun z => by
    have q := (tbE z).symm.trans ha
    have q2 : Data.fields #[] = Data.seq vs.toArray _ := congrArg Obj.data (Option.some.inj q)
    exact nomatch q2
  let frz : HO := .frz { cls := .type "list", data := .seq vs.toArray } (.lst (ns.map V.int))
  let H : Hp := fun b => if b ∈ tb then some (.tbl #[]) else if b = a ∧ K.lookup a = none then some frz else none
  have H_tb : ∀ {b}, b ∈ tb → H b = some (.tbl #[]) := fun {b} hb => if_pos hb
  have H_cases : ∀ b o, H b = some o → (b ∈ tb ∧ o = .tbl #[]) ∨ (b = a ∧ K.lookup a = none ∧ o = frz) := fun b o e => by
    by_cases h1 : b ∈ tb
    · exact .inl ⟨h1, (Option.some.inj ((H_tb h1).symm.trans e)).symm⟩
    · have e1 : (if b = a ∧ K.lookup a = none then some frz else none) = some o := (if_neg h1).symm.trans e
      by_cases h2 : b = a ∧ K.lookup a = none
      · rw [if_pos h2] at e1
        exact .inr ⟨h2.1, h2.2, (Option.some.inj e1).symm⟩
      · rw [if_neg h2] at e1
        cases e1
  have okA : ObjOk P w H s₁.heap a frz := ⟨ha, by rw [List.length_map]; exact hl, vs, _, rv, ha⟩
  have hok : HOk P w H s₁.heap := fun b o e => by
    rcases H_cases b o e with ⟨h1, rfl⟩ | ⟨rfl, _, rfl⟩
    · exact tbE h1
    · exact okA
  have hS : SqL K H a (ns.map V.int) := by
    cases hk : K.lookup a with
    | none => exact .inl (.inr ⟨_, (if_neg aNt).trans (if_pos ⟨rfl, hk⟩)⟩)
    | some o =>
      have e := KX a o hk
      rw [ha] at e
      cases e
      exact .inr ⟨_, vs.toArray, _, hk, rfl, rfl, rfl, by rw [List.size_toArray, nvs]; exact hl, by simpa using rv⟩
  -- what is no seq and no empty fields is not tracked
  have off : ∀ {b : Addr} {o : Obj}, s₁.heap.get? b = some o → (∀ vs n, o.data ≠ .seq vs n) → o.data ≠ .fields #[] → H b = none := fun {b o} e h1 h2 => by
    cases q : H b with
    | none => rfl
    | some u =>
      rcases H_cases b u q with ⟨z, _⟩ | ⟨z, _, _⟩
      · rw [tbE z] at e
        cases e
        exact (h2 rfl).elim
      · rw [z, ha] at e
        cases e
        exact (h1 _ _ rfl).elim
  have seen : ∀ {b : Addr} {o : Obj}, s₁.heap.get? b = some o → (∀ vs n, o.data ≠ .seq vs n) → o.data ≠ .fields #[] → (hidT s₁.heap H).get? b = some o := fun e h1 h2 => hidT_get e (off e h1 h2)
  have seenNs : ∀ {b : Addr} {m : Str → Option Value}, s₁.heap.Ns b m → (hidT s₁.heap H).Ns b m := fun {b m} ⟨o, es, ep, e, d, r⟩ =>
    ⟨o, es, ep, seen e (fun _ _ z => by rw [d] at z; exact nomatch z) (fun z => by rw [d] at z; exact nomatch z), d, r⟩
  have kin : K.In (hidT s₁.heap H) := fun b o e => hidT_get (KX b o e) (by
    cases q : H b with
    | none => rfl
    | some u =>
      rcases H_cases b u q with ⟨z, _⟩ | ⟨z, z2, _⟩
      · obtain ⟨p, hp, ep⟩ := List.mem_map.mp z
        have n := nT p hp
        rw [ep, e] at n
        cases n
      · rw [z, z2] at e
        cases e)
  have hM : Mod K mg (hidT s₁.heap H) := by
    obtain ⟨mc, l1, l2⟩ := hlim
    exact ⟨kin, seenNs hns, ⟨mb, seenNs hb, hbb⟩, ⟨mc, seenNs l1, l2⟩⟩
  have TB : ∀ p ∈ cs, LamX.TabB (hidT s₁.heap H) mg p.1 p.2 := fun p hp => by
    have hTp := hT p hp
    constructor
    · obtain ⟨o, us, file, tf, flags, tg, inF, text, tt, e1, r1, r2, r3, rest⟩ := C p hp
      refine ⟨o, us, file, tf, flags, tg, inF, text, tt, seen e1 (fun _ _ z => by rw [r2] at z; exact nomatch z) (fun z => ?_), r1, r2, r3, rest⟩
      rw [r2] at z
      cases z
      simp at r3
    · obtain ⟨bm, ob, b1, b2, b3, b4, b5, b6⟩ := hbm
      refine ⟨bm, ob, b1, b2, fun q => ?_, fun q => ?_, seen b3 (fun _ _ z => by rw [b6] at z; exact nomatch z) (fun z => by rw [b6] at z; exact nomatch z), b4, b5, b6⟩
      · obtain ⟨o, es, ep, e, hd, _⟩ := hns
        rw [q, e] at b3
        cases b3
        rw [hd] at b6
        cases b6
      · rw [q, hTp] at b3
        cases b3
        cases b6
    · intro z
      obtain ⟨o, es, ep, e, hd, _⟩ := hns
      rw [z, hTp] at e
      cases e
      cases hd
  have e0 : Env0 P w K mg (hidT s₁.heap H) callerA [] s₁ H :=
    ⟨rfl, hM, fun _ _ e => of_hidT e, Nat.le_of_eq (hidT_size _ _), trivial, fun b z => absurd (show b ∈ ([] : List Addr) from z) List.not_mem_nil, hok, .of_eq hg⟩
  refine codeAny_mono ((F _ kin (seenNs hns) TB).go callerA [] s₁ H ⟨[.ref a], []⟩ [.ref a] [.ref a] _ _ rfl hr e0 (hbind s₁ (.ref a)) (.cons rfl .nil) (hsp H (fun p hp => H_tb (tb_of hp)) hS)) ?_
  rintro (er | fl) s2 h
  · exact False.elim h
  · obtain ⟨u, rfl⟩ : ∃ u, fl = .ret u := by
      cases fl with
      | ret u => exact ⟨u, rfl⟩
      | _ => exact False.elim h
    obtain ⟨v, H', os, bare, un, hok', r', q⟩ := h
    have q' : v = .bl true := q
    subst q'
    obtain rfl : u = Value.bool true := r'
    have grown : ∀ {b}, b ∈ tb → ∃ more : Array Value, s2.heap.get? b = some { cls := .none, data := .fields more } := fun {b} hb => by
      obtain ⟨more, z⟩ := un.tbls b #[] (H_tb hb)
      exact ⟨_, hok' b _ z⟩
    have kept : ∀ {b o}, b ∉ tb → s₁.heap.get? b = some o → s2.heap.get? b = some o := fun {b o} nb e => by
      cases q : H b with
      | none => exact un.keep b o e q (fun z => nomatch (show b ∈ ([] : List Addr) from z)) (by simp)
      | some u =>
        rcases H_cases b u q with ⟨z, _⟩ | ⟨rfl, _, rfl⟩
        · exact absurd z nb
        · have z2 := un.frzs b _ _ q
          obtain ⟨e2, _⟩ := hok' b _ z2
          rw [ha] at e
          cases e
          exact e2
    refine ⟨rfl, ⟨fun b o e => ?_, fun b o e => ?_⟩, os, bare⟩
    · by_cases hb : b ∈ tb
      · obtain ⟨more, hm⟩ := grown hb
        obtain ⟨p, hp, ep⟩ := List.mem_map.mp hb
        have c1 := ((C p hp).tab (hT p hp)).isCodeTable
        rw [tbE hb] at e
        cases e
        rw [← ep] at hm ⊢
        exact .inr (.inl ⟨c1, rfl, #[], more, rfl, by rw [Array.empty_append]; exact hm⟩)
      · exact .inl (kept hb e)
    · by_cases hb : b ∈ tb
      · obtain ⟨more, hm⟩ := grown hb
        exact ⟨_, hm⟩
      · exact ⟨o, kept hb e⟩
/-- what the head must tell of the law -/
def LawAtG (l : PySem.W.OpenLaw) (w : World) (K : PySem.W.Frag) (k n : Nat) (x : Str) (mg : Str → Option Value) (fa : Addr) (h : Heap) : Prop :=
  ∃ (fd : FuncData) (cs : List (Addr × Addr)) (sp : Sp),
    (∀ p ∈ cs, h.get? p.2 = some { cls := .none, data := .fields #[] } ∧ K.lookup p.2 = none ∧ PySem.W.CodeHd h p.1 p.2) ∧
    (∀ (s : Shared) (u : Value), BindsTo s fd ⟨[u], []⟩ [(x, u)]) ∧
    (∀ (H : Hp) (a : Addr) (ns : List Int), ns.length ≤ n → (∀ z ∈ ns, Builtin.Int.intBits z ≤ 1048576) →
      (∀ p ∈ cs, H p.2 = some (.tbl #[])) → SqL K H a (ns.map V.int) → sp [.ref a] H (fun v _ => v = .bl true) fun _ _ _ => False) ∧
    ∀ base : Heap, K.In base → base.Ns mainGlobals mg → (∀ p ∈ cs, LamX.TabB base mg p.1 p.2) → FnG l.prog w K mg base CX0 k fa fd [x] sp
theorem walk_ofG {l : PySem.W.OpenLaw} {n k : Nat} {q : Program} {loose : List Str} {XP : (Str → Option Value) → Heap → Prop}
    {YP : World → Heap → Prop} {d : DefRec} {K : Params → PySem.W.Frag} {x : Str} (hn : l.most = some n) (hn2 : n ≤ sizeLine)
    (hdf : d.params.defaults = []) (hr : Room k callerA) (hY : ∀ (w : World) (h : Heap), YP w h → (K w.params).In h)
    (F : ∀ (w : World) (mg : Str → Option Value) (fa : Addr) (h : Heap), YP w h → (K w.params).In h → h.Ns mainGlobals mg →
      mg d.name = some (.ref fa) → LawAtG l w (K w.params) k n x mg fa h) :
    PySem.W.WalkO q loose XP YP l.row.toRowW d [] (fun f vs => PySem.call f vs) := by
  refine Att.attach_callB hn hdf fun w s₀ s₁ mg mb fa o pm cd doc a vs ns G Y ho hd hcd hmg hobj hints hlen hbits hg => ?_
  have KX := hY w _ Y
  obtain ⟨fd, cs, sp, hT, hb, hsp, hF⟩ := F w mg fa _ Y KX G.T.g hmg
  exact law_callG KX G.T.g G.T.b G.T.builtins G.T.nolimit hg (fun p hp => (hT p hp).1) (fun p hp => (hT p hp).2.1) (fun p hp => (hT p hp).2.2)
    G.T.bmain hobj hints (Nat.le_trans hlen hn2) hr hF hb (fun H hH hS => hsp H a ns hlen hbits hH hS)
end OH
end
section
set_option Elab.async false
set_option linter.all false
set_option maxRecDepth 100000
set_option maxHeartbeats 2000000
/-! An error that a handler keeps under another name: tracked from there on. -/
namespace OH
open PySem PySem.Spec PyProof.Rows L2
/-- an exception object of the class cls that some name holds -/
def ExI (cls : Value) (a : Addr) : HO := .ext fun h => ∃ (oe : Obj) (vs : Array Value), h.get? a = some oe ∧ Zc cls none oe ∧ oe.data = .fields vs
section
variable {X : Cx} {pins : List (Addr × Obj)} {σ : L2.St} {H : Hp} {s : Shared}
/-- an object that nothing tracked so far is tracked from now on -/
theorem track {a : Addr} {oe : Obj} {o : HO} (I : Inv X pins σ H s) (ha : s.heap.get? a = some oe) (na : H a = none)
    (n0 : X.s_0.heap.get? a = none) (nL : a ≠ X.env.locals) (nc : ∀ v, oe.data ≠ .cell v) (np : ∀ p ∈ X.pn ++ pins, p.1 ≠ a)
    (new : ObjOk X.prog X.w (upd H a o) s.heap a o) : Inv X pins σ (upd H a o) s := by
  have off0 : ∀ {b u}, X.s_0.heap.get? b = some u → b ≠ a := fun {b u} e z => by
    rw [z, n0] at e
    cases e
  have offH : ∀ {b u}, H b = some u → b ≠ a := fun {b u} e => ne_of_none e na
  constructor
  · exact I.ok
  · exact I.os
  · exact I.bare
  · constructor
    · exact I.base.keep
    · exact I.base.slot
    · intro b u e n hx
      exact (upd_ne (off0 e)).trans (I.base.free b u e n hx)
    · exact I.base.there
    · intro b xs e
      have q := I.base.tups b xs e
      exact (upd_ne (offH q)).trans q
    · intro b u v e
      have q := I.base.frzs b u v e
      exact (upd_ne (offH q)).trans q
    · intro b ps e
      obtain ⟨more, q⟩ := I.base.tbls b ps e
      exact ⟨more, (upd_ne (offH q)).trans q⟩
  · exact I.loc
  · exact I.cell
  · exact (upd_ne (Ne.symm nL)).trans I.free
  · intro x c e
    obtain ⟨v, oc, q1, q2⟩ := I.cell x c e
    have z : c ≠ a := fun z => by
      rw [z, ha] at q1
      cases q1
      exact nc _ q2
    exact (upd_ne z).trans (I.freeC x c e)
  · intro p hp
    obtain ⟨p1, p2, p3⟩ := I.pin p hp
    exact ⟨p1, (upd_ne (np p hp)).trans p2, p3⟩
  · intro b u e
    by_cases hb : b = a
    · subst hb
      rw [upd_same] at e
      cases e
      exact new
    · rw [upd_ne hb] at e
      exact (I.hok b u e).stay (fun _ _ _ q => q) (fun c q => (upd_ne (offH q)).trans q) (fun c xs q => (upd_ne (offH q)).trans q)
  · exact I.len
/-- what a handler that keeps its error wishes of an error of the body -/
def wKeep (K : PySem.W.Frag) (c : Value) (i : Nat) (ts : Addr → Value → TS) (D : Ends) : WX := fun cls d σ H =>
  d = none ∧ PySem.W.exmOne K cls c = some true ∧ ∀ a, H a = none →
    ts a cls { nx := fun σ' H' => D.nx (σ'.set i none) (upd H' a (ExI cls a)), rt := fun _ _ => False, bk := fun _ _ => False, ct := fun _ _ => False } (σ.set i (some (.ref a))) H
variable {x n : Str} {c : Value} {i : Nat} {body suite : List Stmt} {b₀ : Stmt} {np pos pos' : Pos} {tb : WX → TS} {ts : Addr → Value → TS}
/-- try: body / except x as n: suite, behind which the error is held -/
theorem ps_try_keep (hs : X.stack = X.env :: X.outer) (hf : X.env.frame = some X.env.locals) (hex : X.ex = []) (hN : X.N.Nodup) (hi : X.N[i]? = some n)
    (hln : X.env.kindOf n = some .local) (hc : Names X x c)
    (hb : ∀ (W : WX) (pn : List (Addr × Obj)) (xe : Value → Shared → Prop), Takes (X.tr pn xe) W → PassesOwn (model X.prog X.w) X.A X.env xe → PSs (X.tr pn xe) body (tb W))
    (hsu : ∀ (a : Addr) (oe : Obj) (cls : Value) (pn : List (Addr × Obj)), Zc cls none oe → (∃ vs, oe.data = .fields vs) → PSs (X.suite a ((a, oe) :: pn)) (b₀ :: suite) (ts a cls)) :
    PS X (.Try body [.ExceptHandler (some (.Name x np)) (some n) (b₀ :: suite) pos'] [] [] pos) (fun D σ H => tb (wKeep X.K c i ts D) D σ H) := by
  constructor
  intro pins s σ H D I h
  have ok := I.ok
  have frm : X.A.frames = some (X.env :: X.outer) := ok.frames.trans (by rw [hs])
  apply wpAny_Try_except
  refine wpAny_mono ((hb (wKeep X.K c i ts D) (X.pn ++ pins)
    (fun e s₁ => wpAny (model X.prog X.w) X.A (noteFrame e X.env)
      (fun _ s₂ => wpAny (model X.prog X.w) X.A (setFlight e none)
        (fun _ s₃ => wpAny (model X.prog X.w) X.A (handleBy e X.env [.ExceptHandler (some (.Name x np)) (some n) (b₀ :: suite) pos']) (SP X pins D) X.xe s₃) X.xe s₂) X.xe s₁)
    ?took PassesOwn.looking).run [] s σ H D (I.toTry _) h) ?went (fun _ _ he => he)
  case went =>
    rintro (_ | _ | _ | u) s1 hsp
    · obtain ⟨σ', H', J, q⟩ := hsp
      exact wpAny_execs_nil ⟨σ', H', J.ofTry ok, q⟩
    · obtain ⟨σ', H', J, q⟩ := hsp
      exact ⟨σ', H', J.ofTry ok, q⟩
    · obtain ⟨σ', H', J, q⟩ := hsp
      exact ⟨σ', H', J.ofTry ok, q⟩
    · obtain ⟨v, σ', H', J, r, q⟩ := hsp
      exact ⟨v, σ', H', J.ofTry ok, r, q⟩
  case took =>
    rintro u s' ⟨a, B, sI, pins', σ', H', cls, d, rfl, J', nb, up, sky, na, os, ag, rfl, hm1, hyes⟩
    have J : Inv X pins σ' H' sI := J'.ofTry ok
    rw [show (X.tr (X.pn ++ pins) _).stack = X.env :: X.outer from hs] at sky
    show wpAny (model X.prog X.w) X.A (noteFrame (.ref a) X.env) _ _ _
    refine Sky.land Zc.steady frm hf sky fun h3 fl3 up3 => ?_
    obtain ⟨oe3, vs3, he3, hz3, hd3⟩ := fl3.there
    have Ba : B.get? a = none := fl3.2.1
    have aNf : a ∉ frs (X.env :: X.outer) := fun hm => by
      obtain ⟨_, o', e', hnf⟩ := fl3.2.2.1.mem hm
      rw [he3] at e'
      cases e'
      exact hnf _ hd3
    have aNs : a ∉ frs X.stack := by
      rw [hs]
      exact aNf
    have nL : a ≠ X.env.locals := fun z => aNf (List.mem_filterMap.mpr ⟨X.env, List.mem_cons_self, hf.trans (congrArg some z.symm)⟩)
    have nF : a ∉ X.fs := fun hm => by
      obtain ⟨en, he, q⟩ := List.mem_filterMap.mp hm
      exact aNf (List.mem_filterMap.mpr ⟨en, List.mem_cons_of_mem _ he, q⟩)
    have gI : sI.heap.get? a = none := by
      cases e : sI.heap.get? a with
      | none => rfl
      | some o => exact absurd ((nb a o e aNs).symm.trans Ba) (fun z => nomatch z)
    have g0 : X.s_0.heap.get? a = none := by
      cases e : X.s_0.heap.get? a with
      | none => rfl
      | some o =>
        obtain ⟨o', q⟩ := J.base.there a o e (by rw [hex]; exact List.not_mem_nil)
        rw [gI] at q
        cases q
    have pNa : ∀ p ∈ X.pn ++ pins, p.1 ≠ a := fun p hp z => by
      have q := (J.pin p hp).1
      rw [z, gI] at q
      cases q
    have J3 : Inv X pins σ' H' { s' with heap := h3 } := J.landed nb fl3.1 (up.trans up3) os ag
    have S3 := J3.suite he3 hd3 na nL nF
    refine wpAny_handleBy_cons (codeAny_handlers_test ?_) (by intro q; cases q)
    have tyA : PySem.W.Looks (model X.prog X.w) h3 (typeOf (.ref a)) cls := fun A Q E s k q => wpAny_typeOf_ref (k _ _ he3) (by rw [hz3.1]; exact q)
    have fit := PySem.W.exm_one (M := model X.prog X.w) J3.kIn tyA hm1
    have named : ∀ {Q : Value → Shared → Prop} {E : Value → Shared → Prop}, Q c { s' with heap := h3 } →
        wpAny (model X.prog X.w) (X.A.mark (some (.ref a))) (eval (.Name x np) X.env) Q E { s' with heap := h3 } := fun {Q E} q => by
      obtain ⟨hg, hdbg, hm | ⟨hm, hv, hnn⟩⟩ := hc
      · exact ld_glob (X := X.suite a ((a, oe3) :: (X.pn ++ pins))) S3 hg hm q hdbg
      · exact ld_blt (X := X.suite a ((a, oe3) :: (X.pn ++ pins))) S3 hg hm hv q hnn hdbg
    refine named (fit.here ?_)
    refine codeAny_handlers_suite_as ?_
    refine HandSPX.lands_againZ fl3 fun h4 fl4 up4 => ?_
    obtain ⟨oe4, vs4, he4, hz4, hd4⟩ := fl4.there
    have J4 : Inv X pins σ' H' { s' with heap := h4 } := J.landed nb fl4.1 ((up.trans up3).trans up4) os ag
    have S4 := J4.suite he4 hd4 na nL nF
    refine store_ok (X := X.suite a ((a, oe4) :: (X.pn ++ pins))) (v := .ref a) S4 hN hi (Or.inl hln) rfl (fun s5 S5 => ?_) (.inr hln)
    refine wpAny_mono ((hsu a oe4 cls (X.pn ++ pins) hz4 ⟨_, hd4⟩).run [] s5 _ H' _ S5 (hyes a na)) ?_ (fun _ _ z => False.elim z)
    rintro (_ | _ | _ | u) s6 hsp
    · obtain ⟨σ6, H6, S6, q6⟩ := hsp
      obtain ⟨g6, n6, _⟩ := S6.pin (a, oe4) (List.mem_append_left _ List.mem_cons_self)
      have T6 := track (o := ExI cls a) (S6.unsuite ok) g6 n6 g0 nL (fun v z => nomatch (hd4.symm.trans z)) pNa
        ⟨⟨oe4, vs4, g6, hz4, hd4⟩, ⟨oe4, g6⟩, fun _ _ ⟨o, v, q, r⟩ k => ⟨o, v, k o q, r⟩⟩
      exact gone_ok T6 hN hi hln fun s7 J7 => ⟨_, _, J7, q6⟩
    all_goals
      first
        | (obtain ⟨_, _, _, q6⟩ := hsp; exact False.elim q6)
        | (obtain ⟨_, _, _, _, _, q6⟩ := hsp; exact False.elim q6)
/-- isinstance(e, c), e an error that is held -/
theorem call_isH {D : Addr} (C : ExcC X.K D) : CallR X (.builtin "isinstance") (fun xs H Q => ∃ (a : Addr) (c : V) (cv : Value) (b : Bool),
    xs = [.ref a, c] ∧ H a = some (ExI (.ref D) a) ∧ (∀ u, RelV c u → u = cv) ∧ PySem.W.kitOne X.K (.ref D) cv = some b ∧ Q (.bl b) H) := by
  rintro pins s σ H xs us Q I r ⟨a, c, cv, b, rfl, hA, hcv, e, q⟩
  obtain ⟨⟨oe, vs, g, hz, hd⟩, _, _⟩ := I.hok a _ hA
  rcases r with _ | ⟨rx, rr⟩
  rcases rr with _ | ⟨rt, rr⟩
  cases rr
  obtain rfl : _ = Value.ref a := rx
  obtain rfl := hcv _ rt
  obtain ⟨oc, od, oda, osl⟩ := oe
  obtain ⟨z1, z2⟩ := hz
  dsimp only at z1 z2 hd
  subst z1 z2 hd
  have at_ : PySem.W.InstAt s.heap a ⟨.ref D, none, .fields vs, osl⟩ D none := ⟨g, rfl, rfl, trivial⟩
  exact PySem.W.kia_one (PySem.W.handS_kitx_exc C.hg C.hk C.hs C.hd C.ha C.hn C.ht C.hm) I.kIn at_ e (fun z => nomatch z)
    fun tk => ⟨.bl b, H, I.kept (t' := tk) fun _ _ z => z, rfl, q⟩
/-- told: found = None / try: a() / except x as e: found = e / return found -/
def TTk (K : PySem.W.Frag) (CS : Addr) : (XK → Hp → VK → Prop) → Hp → VK → Prop := fun tl H Q => ∀ Q' : VK, (∀ v H1, Q .non H1 → Q' v H1) →
  tl (fun cls d H' => d = none ∧ PySem.W.exmOne K cls (.ref CS) = some true ∧ ∀ a, H' a = none → Q (.ref a) (upd H' a (ExI cls a))) H Q'
end
end OH
end
section
set_option Elab.async false
set_option linter.all false
set_option maxRecDepth 100000
set_option maxHeartbeats 4000000
namespace OH
open PySem PySem.Spec PyProof.Rows L2
def top (i : Nat) : Stmt := PySem.Challenge.pw_ownharm_k57_views_that_fit_and_the_first.main.body.getD i (.Pass ⟨0, 0, 0, 0⟩)
abbrev s_Unfit___init__ : Stmt := inClass (top 6) 0
abbrev s_is_whole : Stmt := top 14
abbrev s_is_tuple : Stmt := top 15
abbrev s_all_unlike : Stmt := top 16
abbrev s_need_room_number : Stmt := top 18
abbrev s_are_wires : Stmt := top 20
abbrev s_RowWalk___init__ : Stmt := inClass (top 24) 0
abbrev s_RowWalk_fields : Stmt := inClass (top 24) 1
abbrev s_RowWalk_can_follow : Stmt := inClass (top 24) 2
abbrev s_RowWalk_take : Stmt := inClass (top 24) 3
abbrev s_good_row : Stmt := top 25
abbrev s_good_face : Stmt := top 26
abbrev s_are_events : Stmt := top 27
abbrev s_are_acts : Stmt := top 28
abbrev s_good_view : Stmt := top 29
abbrev s_is_view : Stmt := top 31
abbrev s_need_row : Stmt := top 32
abbrev s_need_face : Stmt := top 33
abbrev s_views_in : Stmt := top 34
abbrev s_view_of : Stmt := top 35
abbrev s_Joining___init__ : Stmt := inClass (top 36) 0
abbrev s_Joining_next_item : Stmt := inClass (top 36) 1
abbrev s_Joining_need_item : Stmt := inClass (top 36) 2
abbrev s_Joining_join : Stmt := inClass (top 36) 3
abbrev s_Joining_join_act : Stmt := inClass (top 36) 4
abbrev s_Joining_join_call : Stmt := inClass (top 36) 5
abbrev s_joined : Stmt := top 37
abbrev s__law_begun : Stmt := top 39
abbrev s__law_mixed : Stmt := top 40
abbrev s__law_draw : Stmt := top 41
abbrev s__law_pick : Stmt := top 42
abbrev s__law_shuffled : Stmt := top 43
abbrev s__law_small : Stmt := top 44
abbrev s__law_caught : Stmt := top 45
abbrev s__law_drawn_face : Stmt := top 46
abbrev s__law_open_face : Stmt := top 47
abbrev s__law_next : Stmt := top 48
abbrev s__law_behind : Stmt := top 49
abbrev s__law_few : Stmt := top 50
abbrev s__law_drawn_row : Stmt := top 51
abbrev s__law_view : Stmt := top 52
abbrev s__law_views : Stmt := top 53
abbrev s__law_is_below : Stmt := top 54
abbrev s__law_is_item : Stmt := top 55
abbrev s__law_view_judged : Stmt := top 56
abbrev s__law_take_item : Stmt := top 57
abbrev s__law_fault : Stmt := top 58
abbrev s__law_spoilt_item : Stmt := top 59
abbrev s__law_spoilt_views : Stmt := top 60
abbrev s__law_other_face : Stmt := top 61
abbrev s__law_answer_holds : Stmt := top 62
abbrev s_law : Stmt := top 63
end OH
end
section
set_option Elab.async false
set_option linter.all false
set_option maxRecDepth 100000
set_option maxHeartbeats 8000000
namespace OH
open PySem PySem.Spec PyProof.Rows L2
/-- what stands at the addresses outside S stays -/
def Kept (S : List Addr) (H H' : Hp) : Prop := ∀ q o, H q = some o → q ∉ S → H' q = some o
theorem Kept.refl {S : List Addr} {H : Hp} : Kept S H H := fun _ _ e _ => e
theorem Kept.trans {S : List Addr} {H H' H2 : Hp} (a : Kept S H H') (b : Kept S H' H2) : Kept S H H2 := fun q o e n => b q o (a q o e n) n
theorem Kept.mono {S T : List Addr} {H H' : Hp} (a : Kept S H H') (h : ∀ q ∈ S, q ∈ T) : Kept T H H' := fun q o e n => a q o e fun z => n (h q z)
theorem Kept.upd {S : List Addr} {H H' : Hp} (a : Kept S H H') {p : Addr} {o : HO} (hp : p ∈ S) : Kept S H (upd H' p o) := fun q u e n => by
  have ne : q ≠ p := fun z => n (by rw [z]; exact hp)
  rw [upd_ne ne]
  exact a q u e n
theorem Kept.new {S : List Addr} {H H' : Hp} (a : Kept S H H') {p : Addr} {o : HO} (hp : H' p = none) : Kept S H (L2.upd H' p o) := fun q u e n => by
  have e1 := a q u e n
  rw [upd_ne (ne_of_none e1 hp)]
  exact e1
theorem Kept.same {S : List Addr} {H H' H2 : Hp} (a : Kept S H H') (b : Same H' H2) : Kept S H H2 := fun q u e n => b _ _ (a q u e n)
/-- pairs of whole numbers at addresses -/
inductive PairsAt (H : Hp) : List Addr → List (Int × Int) → Prop where
  | nil : PairsAt H [] []
  | cons {p : Addr} {q : Int × Int} {ps : List Addr} {ws : List (Int × Int)} : H p = some (.tup [.int q.1, .int q.2]) → PairsAt H ps ws → PairsAt H (p :: ps) (q :: ws)
theorem PairsAt.mono {H H' : Hp} {ps : List Addr} {ws : List (Int × Int)} (h : PairsAt H ps ws) (k : ∀ q xs, H q = some (.tup xs) → H' q = some (.tup xs)) : PairsAt H' ps ws := by
  induction h with
  | nil => exact .nil
  | cons a _ ih => exact .cons (k _ _ a) ih
def pairD (q : Int × Int) : PyData := .tuple [.int q.1, .int q.2]
theorem PairsAt.dp {K : PySem.W.Frag} {H : Hp} {ps : List Addr} {ws : List (Int × Int)} (h : PairsAt H ps ws) : DpAll K H (ps.map V.ref) (ws.map pairD) := by
  induction h with
  | nil => exact .nil
  | cons a _ ih => exact .cons (.tup (SqT.of a) (.cons (.int _) (.cons (.int _) .nil))) ih
theorem op_inDT {X : Cx} (hu : X.A.units + 65 < cLine) : OpR X (compareOp .In) (fun x y H Q => ∃ d ds, Dp X.K H x d ∧ Dp X.K H y (.tuple ds) ∧ SeqAt.shaped d = true ∧ SeqAt.shaped (.list ds) = true ∧ Q (.bl (ds.any fun z => PyData.eqv z d)) H) := by
  intro pins s σ H x y v u Q I rx ry h
  obtain ⟨d, ds, hd, he, sd, se, q⟩ := h
  obtain ⟨as, r1⟩ := Dp.reads I d x v hd rx
  obtain ⟨bs, r2⟩ := Dp.reads I (.tuple ds) y u he ry
  exact SeqAt.in_tuple_reads r2 r1 (SeqAt.canLay_of_shaped se) (SeqAt.canLay_of_shaped sd) (room_in_shaped sd hu) ⟨.bl (ds.any fun y => y.eqv d), H, I, rfl, q⟩
theorem any_pair (ws : List (Int × Int)) (a b : Int) : ((ws.map pairD).any fun z => PyData.eqv z (pairD (a, b))) = decide ((a, b) ∈ ws) := by
  induction ws with
  | nil => rfl
  | cons w ws ih =>
    obtain ⟨c, d⟩ := w
    rw [List.map_cons, List.any_cons, ih]
    have e : PyData.eqv (pairD (c, d)) (pairD (a, b)) = (decide (c = a) && decide (d = b)) := by
      show (decide (c = a) && (decide (d = b) && true)) = _
      rw [Bool.and_true]
    rw [e]
    by_cases e1 : (c, d) = (a, b)
    · cases e1
      rw [decide_eq_true rfl, decide_eq_true rfl, decide_eq_true (List.mem_cons_self ..)]
      rfl
    · have ez : (decide (c = a) && decide (d = b)) = false := by
        by_cases z : c = a
        · by_cases z2 : d = b
          · exact absurd (by rw [z, z2]) e1
          · rw [decide_eq_false z2, Bool.and_false]
        · rw [decide_eq_false z]
          rfl
      rw [ez, Bool.false_or]
      by_cases m : (a, b) ∈ ws
      · rw [decide_eq_true m, decide_eq_true (List.mem_cons_of_mem _ m)]
      · rw [decide_eq_false m, decide_eq_false (fun z => (List.mem_cons.mp z).elim (fun y => e1 y.symm) m)]
theorem shaped_pair (a b : Int) : SeqAt.shaped (pairD (a, b)) = true := by rfl
theorem shaped_pairs (ws : List (Int × Int)) : SeqAt.shaped (.list (ws.map pairD)) = true := by
  have h1 : PyData.canLayAll0 (ws.map pairD) = true := by
    induction ws with
    | nil => rfl
    | cons w ws ih =>
      show (true && PyData.canLayAll0 (ws.map pairD)) = true
      rw [ih]
      rfl
  have h2 : PyData.depthAll (ws.map pairD) ≤ 1 := by
    clear h1
    induction ws with
    | nil => exact Nat.zero_le _
    | cons w ws ih =>
      show max (PyData.depth (pairD w)) (PyData.depthAll (ws.map pairD)) ≤ 1
      exact Nat.max_le.mpr ⟨Nat.le_refl 1, ih⟩
  show (PyData.canLayAll0 (ws.map pairD) && decide (PyData.depthAll (ws.map pairD) + 1 ≤ 64)) = true
  rw [h1, decide_eq_true (by omega)]
  rfl
theorem sadd {H H' : Hp} (s : Same H H') {p : Addr} {o : HO} (n : H' p = none) : Same H (upd H' p o) := fun b u e => by
  have e1 := s b u e
  rw [upd_ne (ne_of_none e1 n)]
  exact e1
theorem Room_u65 {k : Nat} {A : Around} (h : L2.Room k A) : A.units + 65 < cLine := by
  have := h.un
  omega
/-- the names of the top and of the built-ins that the text reads -/
structure Txt (K : PySem.W.Frag) (mg : Str → Option Value) : Prop where
  nIsi : mg "isinstance" = none
  nInt : mg "int" = none
  nBool : mg "bool" = none
  nTuple : mg "tuple" = none
  nStr : mg "str" = none
  nLen : mg "len" = none
  nAll : mg "all" = none
  nList : mg "list" = none
  nAbs : mg "abs" = none
  nRange : mg "range" = none
  nZip : mg "zip" = none
  nSorted : mg "sorted" = none
  nRepr : mg "repr" = none
  gMod : ∃ t, mg "MODULUS" = some (.int 10000 t)
/-- a value that the law hands to the program -/
def PlV (H : Hp) : V → Prop
  | .non => True
  | .bl _ => True
  | .int _ => True
  | .str _ => True
  | .ref a => (∃ xs, H a = some (.tup xs)) ∨ (∃ xs, H a = some (.lst xs))
  | _ => False
theorem PlV.same {H H' : Hp} {v : V} (h : PlV H v) (e : Same H H') : PlV H' v := by
  cases v with
  | ref a =>
    rcases h with ⟨xs, h⟩ | ⟨xs, h⟩
    · exact .inl ⟨xs, e _ _ h⟩
    · exact .inr ⟨xs, e _ _ h⟩
  | byt _ => exact h.elim
  | flt _ => exact h.elim
  | ty _ => exact h.elim
  | _ => trivial
/-- the name of its type -/
def tyn (H : Hp) : V → String
  | .non => "NoneType"
  | .bl _ => "bool"
  | .int _ => "int"
  | .str _ => "str"
  | .ref a => match H a with
    | some (.tup _) => "tuple"
    | _ => "list"
  | _ => "list"
theorem tyX {K : PySem.W.Frag} {H : Hp} {v : V} (h : PlV H v) : TyX K H v (.type (tyn H v)) := by
  cases v with
  | non => exact .base .non
  | bl b => exact .base (.bl b)
  | int i => exact .base (.int i)
  | str x => exact .base (.str x)
  | ref a =>
    rcases h with ⟨xs, h⟩ | ⟨xs, h⟩
    · have e : tyn H (.ref a) = "tuple" := by
        show (match H a with | some (.tup _) => "tuple" | _ => "list") = "tuple"
        rw [h]
      rw [e]
      exact .base (.tup h)
    · have e : tyn H (.ref a) = "list" := by
        show (match H a with | some (.tup _) => "tuple" | _ => "list") = "list"
        rw [h]
      rw [e]
      exact .base (.lst h)
  | _ => exact h.elim
/-- a whole from lo to hi -/
def isW (lo hi : Int) : V → Bool
  | .int i => decide (lo ≤ i) && decide (i ≤ hi)
  | _ => false
def spWhole : Sp := fun vs H Q _ => ∃ (v : V) (lo hi : Int), vs = [v, .int lo, .int hi] ∧ PlV H v ∧ Q (.bl (isW lo hi v)) H
/-- a tuple of lo to hi items -/
def isT (H : Hp) (lo hi : Int) : V → Bool
  | .ref a => match H a with
    | some (.tup xs) => decide (lo ≤ (xs.length : Int)) && decide ((xs.length : Int) ≤ hi)
    | _ => false
  | _ => false
def spTuple : Sp := fun vs H Q _ => ∃ (v : V) (lo hi : Int), vs = [v, .int lo, .int hi] ∧ PlV H v ∧ Q (.bl (isT H lo hi v)) H
section
variable {P : Program} {w : World} {K : PySem.W.Frag} {mg : Str → Option Value} {base : Heap}
theorem scWhole : FnScope ["value", "low", "high"] ["value", "low", "high"] (defScope s_is_whole) := ⟨rfl, rfl, rfl, by decide +kernel, rfl, by decide +kernel, by decide +kernel⟩
theorem ok_whole {f : Addr} {fd : FuncData} (F : Fun K "is_whole" "is_whole" s_is_whole f fd) (T : Txt K mg) : FnOk P w K mg base CX0 1 f fd ["value", "low", "high"] spWhole := by
  refine F.ok scWhole (fun vs H Q E h => ?_) (fun cdv A outer s H vs Q E hr h => ?_)
  · obtain ⟨v, lo, hi, rfl, _⟩ := h
    rfl
  · obtain ⟨v, lo, hi, rfl, hp, k⟩ := h
    refine ⟨_, pss_one (ps_ret (pe_and (pe_callB call_isi (by rfl) T.nIsi (by decide +kernel) (pa_cons (pv 0) (pa_cons (pe_bltn (v := .ty "int") (by rfl) T.nInt (by decide +kernel) rfl) pa_nil)))
      (pe_and (pe_not (pe_callB call_isi (by rfl) T.nIsi (by decide +kernel) (pa_cons (pv 0) (pa_cons (pe_bltn (v := .ty "bool") (by rfl) T.nBool (by decide +kernel) rfl) pa_nil))))
        (pe_one (pe_chain op_le op_le (pv 1) (pv 0) (pv 2)))))), ?_⟩
    cases v with
    | int i =>
      refine ⟨_, rfl, _, _, _, _, _, rfl, .ty "int", .base (.int i), kit_ty (r := true) (by decide +kernel), _, rfl, iteT ?_⟩
      refine ⟨_, rfl, _, _, _, _, _, rfl, .ty "bool", .base (.int i), kit_ty (r := false) (by decide +kernel), _, rfl, _, rfl, iteT ?_⟩
      refine ⟨_, rfl, _, rfl, _, _, rfl, rfl, _, rfl, ?_⟩
      refine ite2 (fun h1 => ?_) (fun h1 => ?_)
      · refine ⟨_, rfl, _, _, rfl, rfl, ?_⟩
        have e : isW lo hi (.int i) = decide (i ≤ hi) := by
          show (decide (lo ≤ i) && decide (i ≤ hi)) = _
          rw [h1, Bool.true_and]
        rw [e] at k
        exact k
      · have e : isW lo hi (.int i) = false := by
          show (decide (lo ≤ i) && decide (i ≤ hi)) = _
          rw [Bool.eq_false_iff.mpr h1, Bool.false_and]
        rw [e] at k
        exact k
    | bl b =>
      refine ⟨_, rfl, _, _, _, _, _, rfl, .ty "int", .base (.bl b), kit_ty (r := true) (by decide +kernel), _, rfl, iteT ?_⟩
      exact ⟨_, rfl, _, _, _, _, _, rfl, .ty "bool", .base (.bl b), kit_ty (r := true) (by decide +kernel), _, rfl, _, rfl, iteF k⟩
    | non => exact ⟨_, rfl, _, _, _, _, _, rfl, .ty "int", .base .non, kit_ty (r := false) (by decide +kernel), _, rfl, iteF k⟩
    | str x => exact ⟨_, rfl, _, _, _, _, _, rfl, .ty "int", .base (.str x), kit_ty (r := false) (by decide +kernel), _, rfl, iteF k⟩
    | ref a =>
      rcases hp with ⟨xs, hx⟩ | ⟨xs, hx⟩
      · exact ⟨_, rfl, _, _, _, _, _, rfl, .ty "int", .base (.tup hx), kit_ty (r := false) (by decide +kernel), _, rfl, iteF k⟩
      · exact ⟨_, rfl, _, _, _, _, _, rfl, .ty "int", .base (.lst hx), kit_ty (r := false) (by decide +kernel), _, rfl, iteF k⟩
    | byt _ => exact hp.elim
    | flt _ => exact hp.elim
    | ty _ => exact hp.elim
theorem scTuple : FnScope ["value", "least", "most"] ["value", "least", "most"] (defScope s_is_tuple) := ⟨rfl, rfl, rfl, by decide +kernel, rfl, by decide +kernel, by decide +kernel⟩
theorem ok_tuple {f : Addr} {fd : FuncData} (F : Fun K "is_tuple" "is_tuple" s_is_tuple f fd) (T : Txt K mg) : FnOk P w K mg base CX0 1 f fd ["value", "least", "most"] spTuple := by
  refine F.ok scTuple (fun vs H Q E h => ?_) (fun cdv A outer s H vs Q E hr h => ?_)
  · obtain ⟨v, lo, hi, rfl, _⟩ := h
    rfl
  · obtain ⟨v, lo, hi, rfl, hp, k⟩ := h
    refine ⟨_, pss_one (ps_ret (pe_and (pe_callB call_isi (by rfl) T.nIsi (by decide +kernel) (pa_cons (pv 0) (pa_cons (pe_bltn (v := .ty "tuple") (by rfl) T.nTuple (by decide +kernel) rfl) pa_nil)))
      (pe_one (pe_chain op_le op_le (pv 1) (pe_callB call_len (by rfl) T.nLen (by decide +kernel) (pa_cons (pv 0) pa_nil)) (pv 2))))), ?_⟩
    cases v with
    | ref a =>
      rcases hp with ⟨xs, hx⟩ | ⟨xs, hx⟩
      · refine ⟨_, rfl, _, _, _, _, _, rfl, .ty "tuple", .base (.tup hx), kit_ty (r := true) (by decide +kernel), _, rfl, iteT ?_⟩
        refine ⟨_, rfl, _, rfl, _, xs.length, rfl, .inr ⟨_, SqT.of hx, rfl⟩, ?_⟩
        have e0 : isT H lo hi (.ref a) = (decide (lo ≤ (xs.length : Int)) && decide ((xs.length : Int) ≤ hi)) := by
          show (match H a with | some (.tup xs) => _ | _ => false) = _
          rw [hx]
        rw [e0] at k
        refine ⟨_, _, rfl, rfl, _, rfl, ?_⟩
        refine ite2 (fun h1 => ?_) (fun h1 => ?_)
        · refine ⟨_, rfl, _, _, rfl, rfl, ?_⟩
          rw [h1, Bool.true_and] at k
          exact k
        · rw [Bool.eq_false_iff.mpr h1, Bool.false_and] at k
          exact k
      · have e0 : isT H lo hi (.ref a) = false := by
          show (match H a with | some (.tup xs) => _ | _ => false) = _
          rw [hx]
        rw [e0] at k
        exact ⟨_, rfl, _, _, _, _, _, rfl, .ty "tuple", .base (.lst hx), kit_ty (r := false) (by decide +kernel), _, rfl, iteF k⟩
    | int i => exact ⟨_, rfl, _, _, _, _, _, rfl, .ty "tuple", .base (.int i), kit_ty (r := false) (by decide +kernel), _, rfl, iteF k⟩
    | bl b => exact ⟨_, rfl, _, _, _, _, _, rfl, .ty "tuple", .base (.bl b), kit_ty (r := false) (by decide +kernel), _, rfl, iteF k⟩
    | non => exact ⟨_, rfl, _, _, _, _, _, rfl, .ty "tuple", .base .non, kit_ty (r := false) (by decide +kernel), _, rfl, iteF k⟩
    | str x => exact ⟨_, rfl, _, _, _, _, _, rfl, .ty "tuple", .base (.str x), kit_ty (r := false) (by decide +kernel), _, rfl, iteF k⟩
    | byt _ => exact hp.elim
    | flt _ => exact hp.elim
    | ty _ => exact hp.elim
end
theorem _root_.L2.Same.none {H H' : Hp} {p : Addr} (s : Same H H') (n : H' p = none) : H p = none := by
  cases q : H p with
  | none => rfl
  | some o =>
    have := s _ _ q
    rw [n] at this
    cases this
theorem isW_of {n : Int} (h0 : 0 ≤ n) (h1 : n ≤ 9999) : isW 0 9999 (.int n) = true := by
  show (decide (0 ≤ n) && decide (n ≤ 9999)) = true
  rw [decide_eq_true h0, decide_eq_true h1]
  rfl
/-- an error class of the program -/
structure ErrC (K : PySem.W.Frag) (mg : Str → Option Value) (x : Str) (C : Addr) : Prop where
  g : mg x = some (.ref C)
  x : PySem.W.excIn K C [.type "ValueError", .type "Exception", .type "BaseException", .type "object"] "ValueError.__new__" = true
  k : PySem.W.keepIn K (.ref C) = true
  b : PySem.W.subIn K (.ref C) (.type "BaseException") = some true
  t : PySem.W.typeIn K (.ref C) = some (.type "type")
end OH
end
section
set_option Elab.async false
set_option linter.all false
set_option maxRecDepth 100000
set_option maxHeartbeats 8000000
namespace OH
open PySem PySem.Spec PyProof.Rows L2
def stK (g c : Addr) (r t : Int) : List (Key × V) := [(.inr "great", .ref g), (.inr "cells", .ref c), (.inr "rest", .int r), (.inr "turn", .int t)]
theorem st_great (g c : Addr) (r t : Int) : valV (stK g c r t) (.inr "great" : Key) = some (.ref g) := rfl
theorem st_cells (g c : Addr) (r t : Int) : valV (stK g c r t) (.inr "cells" : Key) = some (.ref c) := rfl
theorem st_rest (g c : Addr) (r t : Int) : valV (stK g c r t) (.inr "rest" : Key) = some (.int r) := rfl
theorem st_turn (g c : Addr) (r t : Int) : valV (stK g c r t) (.inr "turn" : Key) = some (.int t) := rfl
theorem st_put_rest (g c : Addr) (r t z : Int) : putK (stK g c r t) (.inr "rest" : Key) (.int z) = stK g c z t := rfl
theorem st_put_turn (g c : Addr) (r t z : Int) : putK (stK g c r t) (.inr "turn" : Key) (.int z) = stK g c r z := rfl
theorem st_made (g c : Addr) : mergeK ([] : List (Key × V)) [(.inr "great", .ref g), (.inr "cells", .ref c), (.inr "rest", .int 0), (.inr "turn", .int 0)] = stK g c 0 0 := rfl
/-- the state of the drawing: the dict at st, its lists at g and c; at most n draws were mixed -/
structure SA (H : Hp) (st g c : Addr) (n : Nat) : Prop where
  dc : ∃ r t : Int, 0 ≤ r ∧ 0 ≤ t ∧ t ≤ n ∧ H st = some (.dK (stK g c r t))
  gl : ∃ gs : List Int, H g = some (.lst (gs.map V.int)) ∧ (∀ z ∈ gs, 0 ≤ z) ∧ gs.length ≤ 63
  cl : ∃ cs : List Int, H c = some (.lst (cs.map V.int)) ∧ (∀ z ∈ cs, 0 ≤ z) ∧ cs.length ≤ 63
  gc : g ≠ c
/-- all that was tracked is as it was, but the state's dict and its list of greats -/
def Fr (st g : Addr) (H H' : Hp) : Prop := ∀ b o, H b = some o → b ≠ st → b ≠ g → H' b = some o
theorem Fr.refl (st g : Addr) (H : Hp) : Fr st g H H := fun _ _ e _ _ => e
theorem Fr.trans {st g : Addr} {H H1 H2 : Hp} (a : Fr st g H H1) (b : Fr st g H1 H2) : Fr st g H H2 := fun c o e h1 h2 => b c o (a c o e h1 h2) h1 h2
theorem Fr.of {st g : Addr} {H H' : Hp} (a : Same H H') : Fr st g H H' := fun b o e _ _ => a b o e
theorem SA.same {H H' : Hp} {st g c : Addr} {n : Nat} (s : SA H st g c n) (e : Same H H') : SA H' st g c n := by
  obtain ⟨⟨r, t, h1, h2, h3, h4⟩, ⟨gs, g1, g2, g3⟩, ⟨cs, c1, c2, c3⟩, gc⟩ := s
  exact ⟨⟨r, t, h1, h2, h3, e _ _ h4⟩, ⟨gs, e _ _ g1, g2, g3⟩, ⟨cs, e _ _ c1, c2, c3⟩, gc⟩
theorem SA.mono {H : Hp} {st g c : Addr} {n m : Nat} (s : SA H st g c n) (h : n ≤ m) : SA H st g c m := by
  obtain ⟨⟨r, t, h1, h2, h3, h4⟩, x, y, z⟩ := s
  exact ⟨⟨r, t, h1, h2, by omega, h4⟩, x, y, z⟩
theorem SA.ne_st {H : Hp} {st g c b : Addr} {n : Nat} {o : HO} (s : SA H st g c n) (e : H b = some o) (h : ∀ kvs, o ≠ .dK kvs) : b ≠ st := by
  obtain ⟨⟨r, t, _, _, _, h4⟩, _⟩ := s
  exact ne_of e h4 (h _)
theorem SA.old {H : Hp} {st g c p : Addr} {n : Nat} (s : SA H st g c n) (e : H p = none) : p ≠ st ∧ p ≠ g ∧ p ≠ c := by
  obtain ⟨⟨r, t, _, _, _, h4⟩, ⟨gs, g1, _⟩, ⟨cs, c1, _⟩, _⟩ := s
  exact ⟨(ne_of_none h4 e).symm, (ne_of_none g1 e).symm, (ne_of_none c1 e).symm⟩
theorem sout {H H' : Hp} (s : Same H H') {p : Addr} {o : HO} (n : H p = none) : Same H (upd H' p o) := fun b u e => by
  rw [upd_ne (ne_of_none e n)]
  exact s b u e
def spBegun (K : PySem.W.Frag) : Sp := fun vs H Q _ => ∃ (a : Addr) (ns : List Int), vs = [.ref a] ∧ SqL K H a (ns.map V.int) ∧ ns.length ≤ 63 ∧
  ∀ st g c H', H st = none → H g = none → H c = none → Same H H' → SA H' st g c 0 → Q (.ref st) H'
section
variable {P : Program} {w : World} {K : PySem.W.Frag} {mg : Str → Option Value} {base : Heap}
theorem scBegun : FnScope ["script", "great", "cell"] ["script"] (defScope s__law_begun) := ⟨rfl, rfl, rfl, by decide +kernel, rfl, by decide +kernel, by decide +kernel⟩
theorem ok_begun {f : Addr} {fd : FuncData} (F : Fun K "_law_begun" "_law_begun" s__law_begun f fd) (T : Txt K mg) : FnOk P w K mg base CX0 1 f fd ["script"] (spBegun K) := by
  refine F.ok scBegun (fun vs H Q E h => ?_) (fun cdv A outer s H vs Q E hr h => ?_)
  · obtain ⟨a, ns, rfl, _⟩ := h
    rfl
  · obtain ⟨a, ns, rfl, hS, hl, k⟩ := h
    have nd := scBegun.nd
    refine ⟨_, pss_cons (ps_setLc (i := 1) (own := [("cell", 2)]) (g := gName 2) rfl nd rfl rfl (sw_true rfl rfl rfl (by decide +kernel)) (pi_list (pv 0))
        (blkOk_by (own := [("cell", 2)]) (N := ["script", "great", "cell"]) (sc := defScope s__law_begun) (by decide +kernel))
        (fun _ _ _ _ _ => pg_name (i := 2) nd rfl (Or.inl rfl))
        (fun _ _ _ _ _ => pts_one (pt_cmpR op_ge (pe_callB call_abs (by rfl) T.nAbs (by decide +kernel) (pa_cons (pv 2) pa_nil)) (pe_op op_pow pe_int pe_int) (nomark _)))
        (fun _ _ _ _ _ => pe_op op_sub (pe_callB call_abs (by rfl) T.nAbs (by decide +kernel) (pa_cons (pv 2) pa_nil)) (pe_op op_pow pe_int pe_int)))
      (pss_one (ps_ret (pe_disp (pps_cons pe_str (pv 1) (pps_cons pe_str
        (pe_lc (own := [("cell", 2)]) (g := gName 2) (tt := tYes) rfl nd (pi_list (pv 0)) (blkOk_by (own := [("cell", 2)]) (N := ["script", "great", "cell"]) (sc := defScope s__law_begun) (by decide +kernel))
          (fun _ _ _ _ _ => pg_name (i := 2) nd rfl (Or.inl rfl)) (fun _ _ _ _ _ => pts_nil)
          (fun _ _ _ _ _ => pe_callB call_abs (by rfl) T.nAbs (by decide +kernel) (pa_cons (pv 2) pa_nil)))
        (pps_cons pe_str pe_int (pps_cons pe_str pe_int pps_nil)))) (by rfl) (by rfl) (fun z => by cases z) (by decide)))), ?_⟩
    refine ⟨_, rfl, a, rfl, ⟨_, hS⟩, fun D nD => ?_⟩
    have get : ∀ {i : Nat} {x : V}, (ns.map V.int)[i]? = some x → ∃ z, x = .int z ∧ z ∈ ns ∧ ns[i]? = some z := fun {i x} hx => by
      rw [List.getElem?_map] at hx
      cases e : ns[i]? with
      | none => rw [e] at hx; cases hx
      | some z =>
        rw [e] at hx
        exact ⟨z, (Option.some.inj hx).symm, List.mem_of_getElem? e, rfl⟩
    refine lc_list (K := K) (a := a) (xs := ns.map V.int) (fun i H' => Same H H' ∧ ∃ gs : List Int, H' D = some (.lst (gs.map V.int)) ∧ (∀ z ∈ gs, 0 ≤ z) ∧ gs.length ≤ i)
      ⟨sadd (Same.refl H) nD, [], upd_same, by simp, Nat.le_refl _⟩ (fun i H' _ ⟨s, _⟩ => s.seq hS) ?turn ?done
    case turn =>
      rintro i x H' hx ⟨s, gs, hD, h0, hn⟩
      obtain ⟨z, rfl, _, hz⟩ := get hx
      have hi : i < ns.length := (List.getElem?_eq_some_iff.mp hz).1
      refine ⟨rfl, ?_⟩
      refine ⟨_, rfl, z, rfl, _, _, rfl, rfl, ⟨by decide, by decide, by decide⟩, _, _, rfl, rfl, _, rfl, ?_⟩
      refine ite2 (fun ht => ?_) (fun _ => ?_)
      · have hge := of_decide_eq_true ht
        refine ⟨_, rfl, z, rfl, _, _, rfl, rfl, ⟨by decide, by decide, by decide⟩, _, _, rfl, rfl, _, hD, ?_, sout s nD, gs ++ [(if z < 0 then -z else z) - 10 ^ Int.toNat 18], ?_, ?_, ?_⟩
        · rw [List.length_map, sizeLine_eq]
          omega
        · rw [upd_same, List.map_append]
          rfl
        · intro y hy
          rcases List.mem_append.mp hy with q | q
          · exact h0 y q
          · rw [List.mem_singleton] at q
            rw [q]
            omega
        · rw [List.length_append, List.length_singleton]
          omega
      · exact ⟨s, gs, hD, h0, by omega⟩
    case done =>
      rintro H1 ⟨s1, gs, hD, h0, hn⟩
      rw [List.length_map] at hn
      -- the display
      intro d nd1
      have nd0 : H d = none := s1.free nd1
      have zDd : D ≠ d := ne_of_none hD nd1
      refine ⟨_, rfl, _, rfl, a, rfl, ⟨_, s1.seq hS |> fun q => (sadd (Same.refl H1) nd1).seq q⟩, fun C nC => ?_⟩
      have zC : C ≠ d := fun z => by rw [z, upd_same] at nC; cases nC
      have nC1 : H1 C = none := (upd_ne zC).symm.trans nC
      have nC0 : H C = none := s1.free nC1
      have zDC : D ≠ C := ne_of_none hD nC1
      refine lc_list (K := K) (a := a) (xs := ns.map V.int) (fun i H' => Same (upd H1 d (.dK [])) H' ∧ ∃ cs : List Int, H' C = some (.lst (cs.map V.int)) ∧ (∀ z ∈ cs, 0 ≤ z) ∧ cs.length ≤ i)
        ⟨sadd (Same.refl _) nC, [], upd_same, by simp, Nat.le_refl _⟩ (fun i H' _ ⟨s, _⟩ => s.seq ((sadd (Same.refl H1) nd1).seq (s1.seq hS))) ?turn2 ?done2
      case turn2 =>
        rintro i x H' hx ⟨s, cs, hC, h0', hn'⟩
        obtain ⟨z, rfl, _, hz⟩ := get hx
        have hi : i < ns.length := (List.getElem?_eq_some_iff.mp hz).1
        refine ⟨rfl, ?_⟩
        unfold tYes
        refine iteT ?_
        refine ⟨_, rfl, z, rfl, _, hC, ?_, sout s nC, cs ++ [if z < 0 then -z else z], ?_, ?_, ?_⟩
        · rw [List.length_map, sizeLine_eq]
          omega
        · rw [upd_same, List.map_append]
          rfl
        · intro y hy
          rcases List.mem_append.mp hy with q | q
          · exact h0' y q
          · rw [List.mem_singleton] at q
            rw [q]
            split <;> omega
        · rw [List.length_append, List.length_singleton]
          omega
      case done2 =>
        rintro H2 ⟨s2, cs, hC, h0', hn'⟩
        rw [List.length_map] at hn'
        have hd2 := s2 d _ upd_same
        refine ⟨hd2, [(.inr "great", .ref D), (.inr "cells", .ref C), (.inr "rest", .int 0), (.inr "turn", .int 0)], rfl, (by show 4 ≤ 15; decide), ?_⟩
        rw [st_made]
        have hD2 : H2 D = some (.lst (gs.map V.int)) := s2 D _ ((upd_ne zDd).trans hD)
        refine k d D C _ nd0 nD nC0 (sout ((s1.trans (sadd (Same.refl H1) nd1)).trans s2) nd0) ⟨⟨0, 0, by decide, by decide, by decide, upd_same⟩, ⟨gs, (upd_ne zDd).trans hD2, h0, by omega⟩, ⟨cs, (upd_ne zC).trans hC, h0', by omega⟩, zDC⟩
end

def spMixed : Sp := fun vs H Q _ => ∃ (st g c : Addr) (n : Nat), vs = [.ref st] ∧ SA H st g c n ∧ n ≤ 1000000 ∧
  ∀ z H', 0 ≤ z → SA H' st g c (n + 1) → (∀ b o, H b = some o → b ≠ st → H' b = some o) → Q (.int z) H'
section
variable {P : Program} {w : World} {K : PySem.W.Frag} {mg : Str → Option Value} {base : Heap}
theorem scMixed : FnScope ["state", "turn", "found", "prime", "blend", "cell"] ["state"] (defScope s__law_mixed) := ⟨rfl, rfl, rfl, by decide +kernel, rfl, by decide +kernel, by decide +kernel⟩
theorem ok_mixed {f : Addr} {fd : FuncData} (F : Fun K "_law_mixed" "_law_mixed" s__law_mixed f fd) (T : Txt K mg) : FnOk P w K mg base CX0 1 f fd ["state"] spMixed := by
  refine F.ok scMixed (fun vs H Q E h => ?_) (fun cdv A outer s H vs Q E hr h => ?_)
  · obtain ⟨st, g, c, n, rfl, _⟩ := h
    rfl
  · obtain ⟨st, g, c, n, rfl, S, hn, k⟩ := h
    have nd := scMixed.nd
    have hu := hu_of hr
    refine ⟨_, pss_cons (ps_par (i := 1) (j := 2) rfl nd rfl rfl (by decide) rfl rfl (pa_cons (pe_op op_add (pe_dget hu (pv 0) pe_str (fun _ _ => rfl)) pe_int) (pa_cons pe_int pa_nil)) (by rfl))
      (pss_cons (ps_dput hu (pv 0) pe_str (pv 1) rfl)
      (pss_cons (ps_for PassesOwn.never rfl (pi_list (pe_lst (pa_cons pe_int (pa_cons pe_int (pa_cons pe_int (pa_cons pe_int pa_nil)))))) (pg_name (i := 3) nd rfl (Or.inl rfl))
        (pss_cons (ps_set (i := 4) nd rfl (Or.inl rfl) (pe_op op_add (pe_op op_mul pe_int (pv 1)) (pe_op op_fdiv (pv 3) pe_int)))
        (pss_cons (ps_for PassesOwn.never rfl (pi_list (pe_dget hu (pv 0) pe_str (fun _ _ => rfl))) (pg_name (i := 5) nd rfl (Or.inl rfl))
          (pss_one (ps_set (i := 4) nd rfl (Or.inl rfl) (pe_op op_mod (pe_callTy call_int1 (by rfl) T.nInt (by decide +kernel) (pa_cons (pe_op op_add (pe_op op_add (pe_op op_mul (pv 4) pe_int) (pv 5)) (pv 1)) pa_nil)) (pv 3)))))
        (pss_one (ps_set (i := 2) nd rfl (Or.inl rfl) (pe_op op_add (pe_op op_mul (pv 2) pe_int) (pe_op op_mod (pe_callTy call_int1 (by rfl) T.nInt (by decide +kernel) (pa_cons (pe_op op_pow (pv 4) pe_int) pa_nil)) (pv 3))))))))
      (pss_one (ps_ret (pv 2))))), ?_⟩
    obtain ⟨⟨r, t, r0, t0, tn, hst⟩, ⟨gs, hg, g0, g63⟩, ⟨cs, hc, c0, c63⟩, gc⟩ := S
    refine ⟨_, rfl, st, _, rfl, DGet.k (k := Sum.inr "turn") hst, _, _, rfl, rfl, _, _, rfl, ?_⟩
    -- state['turn'] = turn
    refine ⟨_, rfl, _, rfl, st, _, rfl, DPut.k (k := Sum.inr "turn") hst (by show 4 < sizeLine; decide), ?_⟩
    rw [st_put_turn]
    -- for prime in [..]
    refine ⟨by show 4 ≤ sizeLine; decide, fun l nl => ?_⟩
    have zlst : st ≠ l := fun z => by rw [← z, upd_same] at nl; cases nl
    have nl0 : H l = none := (upd_ne zlst.symm).symm.trans nl
    have zcst : c ≠ st := ne_of hc hst (by intro z; cases z)
    have zgst : g ≠ st := ne_of hg hst (by intro z; cases z)
    have zcl : c ≠ l := ne_of_none hc nl0
    have zgl : g ≠ l := ne_of_none hg nl0
    let Hl : Hp := upd (upd H st (.dK (stK g c r (t + 1)))) l (.lst [.int 2147483629, .int 2147483647, .int 2147483563, .int 2147483587])
    have lc : Hl c = some (.lst (cs.map V.int)) := (upd_ne zcl).trans ((upd_ne zcst).trans hc)
    have lst : Hl st = some (.dK (stK g c r (t + 1))) := (upd_ne zlst).trans upd_same
    refine ⟨l, rfl, ⟨_, SqL.of upd_same⟩, for_list (K := K) (a := l) (xs := [.int 2147483629, .int 2147483647, .int 2147483563, .int 2147483587])
      (fun i σ H2 => Same Hl H2 ∧ ∃ (fnd : Int) (vp vb vc : Option V), 0 ≤ fnd ∧ σ = [some (.ref st), some (.int (t + 1)), some (.int fnd), vp, vb, vc])
      ⟨Same.refl _, 0, none, none, none, by decide, rfl⟩ (fun i σ H2 _ ⟨s, _⟩ => SqL.of (s l _ upd_same)) ?turn ?done⟩
    case turn =>
      rintro i x σ H2 hx ⟨s, fnd, vp, vb, vc, f0, rfl⟩
      obtain ⟨p, rfl, p0, p1⟩ : ∃ p : Int, x = .int p ∧ 0 < p ∧ p < 2 ^ 31 := by
        have hm := List.mem_of_getElem? hx
        simp only [List.mem_cons, List.not_mem_nil, or_false] at hm
        rcases hm with rfl | rfl | rfl | rfl
        all_goals exact ⟨_, rfl, by decide, by decide⟩
      refine ⟨_, rfl, _, _, rfl, rfl, .inl ⟨by decide, by decide⟩, _, rfl, _, _, rfl, rfl, ⟨by decide, by decide⟩, _, _, rfl, rfl, ?_⟩
      refine ⟨_, rfl, st, _, rfl, DGet.k (k := Sum.inr "cells") (s st _ lst), c, rfl, ⟨_, SqL.of (s c _ lc)⟩, for_list (K := K) (a := c) (xs := cs.map V.int)
        (fun j σ' H3 => H3 = H2 ∧ ∃ (bl : Int) (vc : Option V), 0 ≤ bl ∧ bl < 2 ^ 64 ∧ σ' = [some (.ref st), some (.int (t + 1)), some (.int fnd), some (.int p), some (.int bl), vc])
        ⟨rfl, 69621 * (t + 1) + p / 41, vc, ?_, ?_, rfl⟩ (fun j σ' H3 _ ⟨e, _⟩ => SqL.of (e ▸ s c _ lc)) ?turn2 ?done2⟩
      · have := Int.ediv_nonneg (Int.le_of_lt p0) (by decide : (0 : Int) ≤ 41)
        omega
      · have h1 : p / 41 ≤ p := Int.ediv_le_self _ (Int.le_of_lt p0)
        omega
      case turn2 =>
        rintro j y σ' H3 hy ⟨rfl, bl, vc', b0, b1, rfl⟩
        obtain ⟨z, rfl⟩ : ∃ z : Int, y = .int z := by
          rw [List.getElem?_map] at hy
          cases e : cs[j]? with
          | none => rw [e] at hy; cases hy
          | some z =>
            rw [e] at hy
            exact ⟨z, (Option.some.inj hy).symm⟩
        refine ⟨_, rfl, _, _, rfl, rfl, .inr ⟨by decide, by decide⟩, _, rfl, _, _, rfl, rfl, _, rfl, _, _, rfl, rfl, .inl ⟨_, rfl, _, rfl, _, _, rfl, rfl, p0, rfl, _, _, ?_, ?_, rfl⟩⟩
        · exact Int.emod_nonneg _ (by omega)
        · have := Int.emod_lt_of_pos (bl * 48271 + z + (t + 1)) p0
          omega
      case done2 =>
        rintro σ' H3 ⟨rfl, bl, vc', b0, b1, rfl⟩
        refine ⟨_, rfl, _, _, rfl, rfl, .inr ⟨by decide, by decide⟩, _, rfl, _, _, rfl, rfl, ⟨by decide, by decide, by omega⟩, .inl ⟨_, rfl, _, rfl, _, _, rfl, rfl, p0, _, _, rfl, rfl, s, _, _, _, _, ?_, rfl⟩⟩
        have := Int.emod_nonneg (bl ^ Int.toNat 5) (show p ≠ 0 by omega)
        omega
    case done =>
      rintro σ H2 ⟨s, fnd, vp, vb, vc, f0, rfl⟩
      refine ⟨_, rfl, k fnd H2 f0 ⟨⟨r, t + 1, r0, by omega, by omega, s st _ lst⟩, ⟨gs, s g _ ((upd_ne zgl).trans ((upd_ne zgst).trans hg)), g0, g63⟩, ⟨cs, s c _ lc, c0, c63⟩, gc⟩ fun b o e hb => ?_⟩
      exact s b o ((upd_ne (ne_of_none e nl0)).trans ((upd_ne hb).trans e))
end

/-- a draw below room -/
def spDraw : Sp := fun vs H Q _ => ∃ (st g c : Addr) (n : Nat) (room : Int), vs = [.ref st, .int room] ∧ SA H st g c n ∧ n ≤ 1000000 ∧ 0 < room ∧ room ≤ 1000000 ∧
  ∀ z H', 0 ≤ z → z < room → SA H' st g c (n + 1) → Fr st g H H' → Q (.int z) H'
theorem dp_ints {K : PySem.W.Frag} {H : Hp} : ∀ l : List Int, DpAll K H (l.map V.int) (l.map PyData.int)
  | [] => .nil
  | z :: l => .cons (.int z) (dp_ints l)
theorem sh_ints (l : List Int) : SeqAt.shaped (.list (l.map PyData.int)) = true := PySem.W.ke_shaped_ints l
theorem seq0 {α : Type} (z : α) (l : List α) : seqIndex? 0 (z :: l).length = some 0 := by
  have h : ixN (z :: l).length 0 = some 0 := by
    unfold ixN
    rw [if_pos (by decide), if_pos (by rw [List.length_cons]; omega)]
    rfl
  exact (ixN_seq h).1
section
variable {P : Program} {w : World} {K : PySem.W.Frag} {mg : Str → Option Value} {base : Heap}
theorem scDraw : FnScope ["state", "room", "found"] ["state", "room"] (defScope s__law_draw) := ⟨rfl, rfl, rfl, by decide +kernel, rfl, by decide +kernel, by decide +kernel⟩
theorem ok_draw {f fM : Addr} {fd fdM : FuncData} (F : Fun K "_law_draw" "_law_draw" s__law_draw f fd) (T : Txt K mg)
    (FM : FnOk P w K mg base CX0 1 fM fdM ["state"] spMixed) (mM : mg "_law_mixed" = some (.ref fM)) (kM : PySem.W.keepIn K (.ref fM) = true) (bM : Binds K fdM ["state"] []) :
    FnOk P w K mg base CX0 2 f fd ["state", "room"] spDraw := by
  refine F.ok scDraw (fun vs H Q E h => ?_) (fun cdv A outer s H vs Q E hr h => ?_)
  · obtain ⟨st, g, c, n, room, rfl, _⟩ := h
    rfl
  · obtain ⟨st, g, c, n, room, rfl, S, hn, r1, r2, k⟩ := h
    have nd := scDraw.nd
    have hu := hu_of hr
    refine ⟨_, pss_cons (ps_if (pt_cmpR op_eq (pe_dget hu (pv 0) pe_str (fun _ _ => rfl)) pe_int (nomark _))
        (pss_one (ps_dput hu (pv 0) pe_str (pe_ifExp (pt_cmpR (op_neD hr.units) (pe_dget hu (pv 0) pe_str (fun _ _ => rfl)) (pe_lst pa_nil) (nomark _))
          (pe_bm PySem.F.plainAttrs_list PySem.F.slot_list_pop PySem.F.type_list_pop mt_popAt (pe_dget hu (pv 0) pe_str (fun _ _ => rfl)) (pa_cons pe_int pa_nil))
          (pe_call FM hr rfl mM kM bM .nil pass0 (pa_cons (pv 0) pa_nil))) rfl)) pss_nil)
      (pss_cons (ps_set (i := 2) nd rfl (Or.inl rfl) (pe_op op_mod (pe_callTy call_int1 (by rfl) T.nInt (by decide +kernel) (pa_cons (pe_dget hu (pv 0) pe_str (fun _ _ => rfl)) pa_nil)) (pv 1)))
      (pss_cons (ps_dput hu (pv 0) pe_str (pe_op op_fdiv (pe_dget hu (pv 0) pe_str (fun _ _ => rfl)) (pv 1)) rfl)
      (pss_one (ps_ret (pv 2))))), ?_⟩
    obtain ⟨⟨r, t, r0, t0, tn, hst⟩, ⟨gs, hg, g0, g63⟩, ⟨cs, hc, c0, c63⟩, gc⟩ := id S
    have cont : ∀ H1, SA H1 st g c (n + 1) → Fr st g H H1 → tSeq (tAsg (tOp (rI (fun _ j => 0 < j) fun i j => V.int (i % j)) (tCB (fun xs H Q => (∃ i, xs = [V.int i] ∧ Q (V.int i) H) ∨ ∃ k, xs = [V.bl k] ∧ Q (V.int (if k = true then 1 else 0)) H)
        (tCons (tDGet (tVar 0) (tC (V.str (Str.ofString "rest")))) tNil)) (tVar 1)) (gName 2))
        (tSeq (sDPut (tVar 0) (tC (V.str (Str.ofString "rest"))) (tOp (rI CDiv fun i j => V.int (i / j)) (tDGet (tVar 0) (tC (V.str (Str.ofString "rest")))) (tVar 1))) (tRet (tVar 2)))
        { nx := fun x H' => Q V.non H', rt := Q } (L2.start ["state", "room", "found"] [V.ref st, V.int room]) H1 := by
      intro H1 S1 F1
      obtain ⟨⟨r', t', r0', t0', tn', hst'⟩, ⟨gs', hg', g0', g63'⟩, ⟨cs', hc', c0', c63'⟩, gc'⟩ := id S1
      refine ⟨_, rfl, st, _, rfl, DGet.k (k := Sum.inr "rest") hst', .inl ⟨r', rfl, _, rfl, _, _, rfl, rfl, r1, ?_⟩⟩
      refine ⟨_, rfl, st, _, rfl, DGet.k (k := Sum.inr "rest") hst', _, rfl, _, _, rfl, rfl, ⟨r1, by omega⟩, _, rfl, st, _, rfl, DPut.k (k := Sum.inr "rest") hst' (by show 4 < sizeLine; decide), ?_⟩
      rw [st_put_rest]
      have zg : g ≠ st := ne_of hg' hst' (by intro z; cases z)
      have zc : c ≠ st := ne_of hc' hst' (by intro z; cases z)
      refine ⟨_, rfl, k _ _ (Int.emod_nonneg _ (by omega)) (Int.emod_lt_of_pos _ r1) ⟨⟨r' / room, t', Int.ediv_nonneg r0' (by omega), t0', tn', upd_same⟩, ⟨gs', (upd_ne zg).trans hg', g0', g63'⟩, ⟨cs', (upd_ne zc).trans hc', c0', c63'⟩, gc⟩ ?_⟩
      exact F1.trans fun b o e h1 h2 => (upd_ne h1).trans e
    have zg : g ≠ st := ne_of hg hst (by intro z; cases z)
    have zc : c ≠ st := ne_of hc hst (by intro z; cases z)
    refine ⟨_, rfl, st, _, rfl, DGet.k (k := Sum.inr "rest") hst, rfl, _, rfl, ?_⟩
    refine ite2 (fun hz => ?_) (fun hz => ?_)
    · -- a new rest
      refine ⟨_, rfl, st, _, rfl, DGet.k (k := Sum.inr "great") hst, ?_, fun l nl => ?_⟩
      · show 0 ≤ sizeLine
        omega
      have zgl : g ≠ l := ne_of_none hg nl
      have zcl : c ≠ l := ne_of_none hc nl
      have zsl : st ≠ l := ne_of_none hst nl
      have hgl : upd H l (.lst []) g = some (.lst (gs.map V.int)) := (upd_ne zgl).trans hg
      have hstl : upd H l (.lst []) st = some (.dK (stK g c r t)) := (upd_ne zsl).trans hst
      have hcl : upd H l (.lst []) c = some (.lst (cs.map V.int)) := (upd_ne zcl).trans hc
      refine ⟨.list (gs.map PyData.int), .list [], .lst (SqL.of hgl) (dp_ints gs), .lst (SqL.of upd_same) .nil, sh_ints gs, rfl, _, rfl, ?_⟩
      cases gs with
      | nil =>
        refine iteF ?_
        have S' : SA (upd H l (.lst [])) st g c n := S.same (sadd (Same.refl H) nl)
        refine ⟨_, rfl, st, g, c, n, rfl, S', hn, fun z H1 z0 S1 F1 => ?_⟩
        obtain ⟨⟨r', t', r0', t0', tn', hst'⟩, ⟨gs', hg', g0', g63'⟩, ⟨cs', hc', c0', c63'⟩, gc'⟩ := id S1
        refine ⟨_, rfl, st, _, rfl, DPut.k (k := Sum.inr "rest") hst' (by show 4 < sizeLine; decide), ?_⟩
        rw [st_put_rest]
        refine cont _ ⟨⟨z, t', z0, t0', tn', upd_same⟩, ⟨gs', (upd_ne zg).trans hg', g0', g63'⟩, ⟨cs', (upd_ne zc).trans hc', c0', c63'⟩, gc⟩ fun b o e h1 h2 => (upd_ne h1).trans (F1 b o ((upd_ne (ne_of_none e nl)).trans e) h1)
      | cons z gs =>
        refine iteT ?_
        have zgc : c ≠ g := gc.symm
        refine ⟨_, rfl, st, _, rfl, DGet.k (k := Sum.inr "great") hstl, .inl ⟨rfl, _, SqL.of hgl⟩, g, _, 0, 0, _, rfl, rfl, hgl, by decide, by decide, seq0 _ _, rfl, ?_⟩
        have e0 : ((z :: gs).map V.int).eraseIdx 0 = gs.map V.int := rfl
        rw [e0]
        refine ⟨_, rfl, st, _, rfl, DPut.k (k := Sum.inr "rest") ((upd_ne zg.symm).trans hstl) (by show 4 < sizeLine; decide), ?_⟩
        rw [st_put_rest]
        refine cont _ ⟨⟨z, t, g0 z List.mem_cons_self, t0, by omega, upd_same⟩, ⟨gs, (upd_ne zg).trans upd_same, fun y hy => g0 y (List.mem_cons_of_mem _ hy), by rw [List.length_cons] at g63; omega⟩,
          ⟨cs, (upd_ne zc).trans ((upd_ne zgc).trans hcl), c0, c63⟩, gc⟩ fun b o e h1 h2 => (upd_ne h1).trans ((upd_ne h2).trans ((upd_ne (ne_of_none e nl)).trans e))
    · exact cont H (S.mono (Nat.le_succ n)) (Fr.refl st g H)
end
end OH
end
section
set_option Elab.async false
set_option linter.all false
set_option maxRecDepth 100000
set_option maxHeartbeats 8000000
namespace OH
open PySem PySem.Spec PyProof.Rows L2
def spPick : Sp := fun vs H Q _ => ∃ (st g c a : Addr) (n : Nat) (xs : List V), vs = [.ref st, .ref a] ∧ SA H st g c n ∧ n ≤ 1000000 ∧ H a = some (.lst xs) ∧ a ≠ g ∧ 0 < xs.length ∧ xs.length ≤ 1000000 ∧
  ∀ x H', x ∈ xs → SA H' st g c (n + 1) → Fr st g H H' → Q x H'
theorem upd_under {H : Hp} {a b : Addr} {o u : HO} (h : a ≠ b) : upd (upd H a o) b u a = some o := (upd_ne h).trans upd_same
theorem SA.put {H : Hp} {st g c p : Addr} {n : Nat} {o : HO} (s : SA H st g c n) (z : p ≠ st ∧ p ≠ g ∧ p ≠ c) : SA (upd H p o) st g c n := by
  obtain ⟨⟨r, t, h1, h2, h3, h4⟩, ⟨gs, g1, g2, g3⟩, ⟨cs, c1, c2, c3⟩, gc⟩ := s
  exact ⟨⟨r, t, h1, h2, h3, (upd_ne z.1.symm).trans h4⟩, ⟨gs, (upd_ne z.2.1.symm).trans g1, g2, g3⟩, ⟨cs, (upd_ne z.2.2.symm).trans c1, c2, c3⟩, gc⟩
theorem Fr.free {st g l : Addr} {H H' : Hp} (f : Fr st g H H') (n : H' l = none) (z : l ≠ st) (z2 : l ≠ g) : H l = none := by
  cases e : H l with
  | none => rfl
  | some o =>
    have q := f l o e z z2
    rw [n] at q
    cases q
theorem Fr.out {st g l : Addr} {H H' : Hp} {o : HO} (f : Fr st g H H') (n : H l = none) : Fr st g H (upd H' l o) := fun b u e h1 h2 =>
  (upd_ne (ne_of_none e n)).trans (f b u e h1 h2)
/-- a drawn number -/
def spNo (used : Nat) : Sp := fun vs H Q _ => ∃ (st g c : Addr) (n : Nat), vs = [.ref st] ∧ SA H st g c n ∧ n ≤ 900000 ∧
  ∀ z H', 0 ≤ z → z ≤ 9999 → SA H' st g c (n + used) → Fr st g H H' → Q (.int z) H'
theorem ix_both {X : Cx} : IxR X (fun x y H Q => rIxL X.K x y H Q ∨ rIxT X.K x y H Q) := by
  intro value slice pins s σ H x y v u Q I rx ry h hs
  rcases h with h | h
  · exact ix_list value slice pins s σ H x y v u Q I rx ry h hs
  · exact ix_tup value slice pins s σ H x y v u Q I rx ry h hs
/-- xs stands at a, as a list or as a tuple -/
def Holds (H : Hp) (a g : Addr) (xs : List V) : Prop := (H a = some (.lst xs) ∧ a ≠ g) ∨ H a = some (.tup xs)
def spPick2 : Sp := fun vs H Q _ => ∃ (st g c a : Addr) (n : Nat) (xs : List V), vs = [.ref st, .ref a] ∧ SA H st g c n ∧ n ≤ 1000000 ∧ Holds H a g xs ∧ 0 < xs.length ∧ xs.length ≤ 1000000 ∧
  ∀ x H', x ∈ xs → SA H' st g c (n + 1) → Fr st g H H' → Q x H'
section
variable {P : Program} {w : World} {K : PySem.W.Frag} {mg : Str → Option Value} {base : Heap}
theorem scPick : FnScope ["state", "some"] ["state", "some"] (defScope s__law_pick) := ⟨rfl, rfl, rfl, by decide +kernel, rfl, by decide +kernel, by decide +kernel⟩
theorem ok_pick2 {f fD : Addr} {fd fdD : FuncData} (F : Fun K "_law_pick" "_law_pick" s__law_pick f fd) (T : Txt K mg)
    (FD : FnOk P w K mg base CX0 2 fD fdD ["state", "room"] spDraw) (mD : mg "_law_draw" = some (.ref fD)) (kD : PySem.W.keepIn K (.ref fD) = true) (bD : Binds K fdD ["state", "room"] []) :
    FnOk P w K mg base CX0 3 f fd ["state", "some"] spPick2 := by
  refine F.ok scPick (fun vs H Q E h => ?_) (fun cdv A outer s H vs Q E hr h => ?_)
  · obtain ⟨st, g, c, a, n, xs, rfl, _⟩ := h
    rfl
  · obtain ⟨st, g, c, a, n, xs, rfl, S, hn, ha, l0, l1, k⟩ := h
    refine ⟨_, pss_one (ps_ret (pe_ix ix_both (pv 1) (pe_call FD hr rfl mD kD bD .nil pass0 (pa_cons (pv 0) (pa_cons (pe_callB call_len (by rfl) T.nLen (by decide +kernel) (pa_cons (pv 1) pa_nil)) pa_nil))) (fun _ _ => rfl))), ?_⟩
    refine ⟨_, rfl, _, rfl, _, rfl, _, xs.length, rfl, ?_, st, g, c, n, _, rfl, S, hn, by omega, by omega, fun z H1 z0 z1 S1 F1 => ?_⟩
    · rcases ha with ⟨ha, _⟩ | ha
      · exact .inl ⟨_, SqL.of ha, rfl⟩
      · exact .inr ⟨_, SqT.of ha, rfl⟩
    · have hz : z.toNat < xs.length := by omega
      have cast : (z.toNat : Int) = z := Int.toNat_of_nonneg z0
      have hx : xs[z.toNat]? = some xs[z.toNat] := List.getElem?_eq_getElem hz
      have at_ : atI xs z = some xs[z.toNat] := by
        have q := atI_nat hx
        rw [cast] at q
        exact q
      rcases ha with ⟨ha, ag⟩ | ha
      · have ha1 := F1 a _ ha (S.ne_st ha (fun _ q => nomatch q)) ag
        exact .inl ⟨a, _, _, _, rfl, rfl, SqL.of ha1, at_, k _ H1 (List.getElem_mem hz) S1 F1⟩
      · have ag : a ≠ g := by
          obtain ⟨_, ⟨gs, g1, _⟩, _⟩ := S
          exact ne_of ha g1 (fun q => nomatch q)
        have ha1 := F1 a _ ha (S.ne_st ha (fun _ q => nomatch q)) ag
        exact .inr ⟨a, _, _, _, rfl, rfl, SqT.of ha1, at_, k _ H1 (List.getElem_mem hz) S1 F1⟩
/-- the contract for lists alone -/
theorem pick_of {f : Addr} {fd : FuncData} (F : FnOk P w K mg base CX0 3 f fd ["state", "some"] spPick2) : FnOk P w K mg base CX0 3 f fd ["state", "some"] spPick :=
  F.imp fun vs H Q E ⟨st, g, c, a, n, xs, e, S, hn, ha, ag, l0, l1, k⟩ => ⟨st, g, c, a, n, xs, e, S, hn, .inl ⟨ha, ag⟩, l0, l1, k⟩
end
section
variable {P : Program} {w : World} {K : PySem.W.Frag} {mg : Str → Option Value} {base : Heap}
theorem scSmall : FnScope ["state"] ["state"] (defScope s__law_small) := ⟨rfl, rfl, rfl, by decide +kernel, rfl, by decide +kernel, by decide +kernel⟩
theorem ok_small {f fD fP : Addr} {fd fdD fdP : FuncData} (F : Fun K "_law_small" "_law_small" s__law_small f fd)
    (FD : FnOk P w K mg base CX0 2 fD fdD ["state", "room"] spDraw) (mD : mg "_law_draw" = some (.ref fD)) (kD : PySem.W.keepIn K (.ref fD) = true) (bD : Binds K fdD ["state", "room"] [])
    (FP : FnOk P w K mg base CX0 3 fP fdP ["state", "some"] spPick) (mP : mg "_law_pick" = some (.ref fP)) (kP : PySem.W.keepIn K (.ref fP) = true) (bP : Binds K fdP ["state", "some"] []) :
    FnOk P w K mg base CX0 4 f fd ["state"] (spNo 2) := by
  refine F.ok scSmall (fun vs H Q E h => ?_) (fun cdv A outer s H vs Q E hr h => ?_)
  · obtain ⟨st, g, c, n, rfl, _⟩ := h
    rfl
  · obtain ⟨st, g, c, n, rfl, S, hn, k⟩ := h
    have nd := scSmall.nd
    have hr2 : Room 2 _ := hr.mono (by decide)
    refine ⟨_, pss_one (ps_ret (pe_call FP hr rfl mP kP bP .nil pass0 (pa_cons (pv 0) (pa_cons (pe_lst
      (pa_cons pe_int (pa_cons pe_int (pa_cons pe_int (pa_cons pe_int (pa_cons pe_int (pa_cons pe_int (pa_cons pe_int (pa_cons pe_int (pa_cons pe_int (pa_cons pe_int (pa_cons pe_int (pa_cons pe_int (pa_cons pe_int (pa_cons pe_int (pa_cons pe_int
      (pa_cons (pe_op op_add pe_int (pe_call FD hr2 rfl mD kD bD .nil pass0 (pa_cons (pv 0) (pa_cons pe_int pa_nil)))) pa_nil))))))))))))))))) pa_nil)))), ?_⟩
    refine ⟨_, rfl, _, rfl, st, g, c, n, 9999, rfl, S, by omega, by decide, by decide, fun z1 H1 z10 z11 S1 F1 => ?_⟩
    refine ⟨_, _, rfl, rfl, (by show 16 ≤ sizeLine; decide), fun l nl => ?_⟩
    have zl := S1.old nl
    have l0 : H l = none := F1.free nl zl.1 zl.2.1
    refine ⟨st, g, c, l, n + 1, _, rfl, S1.put zl, by omega, upd_same, zl.2.1, (by show 0 < 16; decide), (by show 16 ≤ 1000000; decide), fun x H2 hx S2 F2 => ?_⟩
    have F12 : Fr st g H H2 := (F1.out l0).trans F2
    have hx' : x ∈ ([.int 0, .int 1, .int 2, .int 3, .int 1, .int 0, .int 4, .int 5, .int 2, .int 9999, .int 7, .int 10, .int 9, .int 40, .int 9998, .int (1 + z1)] : List V) := hx
    simp only [List.mem_cons, List.not_mem_nil, or_false] at hx'
    rcases hx' with rfl | rfl | rfl | rfl | rfl | rfl | rfl | rfl | rfl | rfl | rfl | rfl | rfl | rfl | rfl | rfl
    all_goals exact k _ H2 (by omega) (by omega) S2 F12
end
end OH
end
section
set_option Elab.async false
set_option linter.all false
set_option maxRecDepth 100000
set_option maxHeartbeats 4000000
/-! enumerate over a tuple. -/
namespace OH
open PySem PySem.Spec PyProof.Rows L2
/-- what making an enumerate of anything that can be iterated leaves -/
theorem en_meets {v : Value} {o : Obj} {T : Heap → Prop} (B : Begins v o T) :
    Meets (Builtin.«enumerate.__new__» ⟨[.type "enumerate", v], []⟩) (fun _ R s => T s.heap ∧ R (.ok (.ret (.ref (s.heap.push o).objs.size)))
      { s with heap := (s.heap.push o).push { cls := .type "enumerate", data := .fields #[.none, .bool false, .ref s.heap.objs.size, rawInt 0, .none, .none] } }) :=
  Meets.of_wp fun prog w A R s hh => by
    obtain ⟨hp, gs, dr, tk, os⟩ := s
    obtain ⟨ht, hr⟩ := hh
    have hsub := sub_enumerate
    have go : ∀ {A' : Around} {E : Value → Shared → Prop} {Q : Value → Shared → Prop}, Q (.ref hp.objs.size) ⟨hp.push o, gs, dr, tk, os⟩ → wpAny (model prog w) A' (pyIter v) Q E ⟨hp, gs, dr, tk, os⟩ := fun q => B.iter prog w _ _ ⟨hp, gs, dr, tk, os⟩ _ ht q
    wp_walk using go
    refine wpAny_stack_any fun stk => wpAny_pure ?_
    split
    · next c _ _ _ _ _ =>
      cases (c == Value.type "enumerate") <;> (wp_walk using go; exact ⟨_, rfl, hr⟩)
    · wp_walk using go
      exact ⟨_, rfl, hr⟩
theorem en_call {prog : Program} {w : World} {A : Around} {E : Value → Shared → Prop} {s : Shared} {v : Value} {o : Obj} {T : Heap → Prop} {Q : Value → Shared → Prop} (B : Begins v o T) (ht : T s.heap)
    (h : ∀ h', IsEnum h' (s.heap.objs.size + 1) s.heap.objs.size 0 .none → h'.get? s.heap.objs.size = some o → (∀ b u, s.heap.get? b = some u → h'.get? b = some u) → Q (.ref (s.heap.objs.size + 1)) { s with heap := h' }) :
    wpAny (model prog w) A (call (.type "enumerate") [v]) Q E s := by
  refine callType_new F.called_enumerate (by decide) (F.typeCall_enumerate_1 _) (F.newCall_enumerate_1 _) (fun obj => F.args_object_init_2 obj _) F.entry_enumerate_new (en_meets B) ⟨ht, ?_⟩
  have hz : (s.heap.push o).objs.size = s.heap.objs.size + 1 := Heap.size_push ..
  show _ ∧ _
  rw [hz]
  have he : IsEnum ((s.heap.push o).push { cls := .type "enumerate", data := .fields #[.none, .bool false, .ref s.heap.objs.size, rawInt 0, .none, .none] }) (s.heap.objs.size + 1) s.heap.objs.size 0 .none := by
    have q := Heap.get?_push_size (s.heap.push o) (o := { cls := .type "enumerate", data := .fields #[.none, .bool false, .ref s.heap.objs.size, rawInt 0, .none, .none] }) rfl
    rw [hz] at q
    exact q
  exact ⟨⟨_, he, rfl⟩, h _ he (Heap.get?_push_of_some _ (Heap.get?_push_size _ B.free)) fun b u x => Heap.get?_push_of_some _ (Heap.get?_push_of_some _ x)⟩
/-- the tuple at a as it stands at each turn, each item in a new pair -/
def IteT (K : PySem.W.Frag) (a : Addr) : It :=
  ⟨fun i H => ∃ (xs : List V) (x : V), SqT K H a xs ∧ xs[i]? = some x,
   fun i H v H' => ∃ T x, v = .ref T ∧ H T = none ∧ H' = upd H T (.tup [.int (i : Nat), x]) ∧ ∀ ys, SqT K H a ys → ys[i]? = some x,
   fun i H => ∃ xs : List V, SqT K H a xs ∧ xs.length ≤ i⟩
theorem turn_enumT {P : Program} {w : World} {K : PySem.W.Frag} {elts : List Expr} {kk : Nat} {tpos : Pos} (a e it : Addr) :
    Turn P w K (.Tuple elts kk tpos) (IteT K a) [e, it] e (fun i h => (∃ old, IsEnum h e it ((i : Nat) : Int) old) ∧ h.IsTupleIter it a i ∧ e ≠ it) where
  mem := List.mem_cons_self ..
  obj := fun i h st b hb => by
    obtain ⟨⟨old, he⟩, ⟨o, ho, hc, hd⟩, _⟩ := st
    rcases List.mem_cons.mp hb with z | z
    · rw [z]; exact ⟨_, he, fun v q => nomatch q⟩
    · exact ⟨o, (List.mem_singleton.mp z) ▸ ho, fun v q => by rw [hd] at q; cases q⟩
  keep := fun i h h' st k => let ⟨⟨old, he⟩, hi, hne⟩ := st; ⟨⟨old, k e (List.mem_cons_self ..) _ he⟩, hi.at fun o q => k it (List.mem_cons_of_mem _ (List.mem_singleton.mpr rfl)) o q, hne⟩
  item := by
    intro X hP hw hK hc i pins s σ H E I hf st hg
    subst hP hw hK
    obtain ⟨⟨old, he⟩, hit, hne⟩ := st
    obtain ⟨xs, x, hq, hx⟩ := hg
    obtain ⟨its, rv, p, hz⟩ := I.tuple hq
    obtain ⟨u, hu, ru⟩ := rv.get hx
    have hT0 : s.heap.IsTuple a its.toArray := p
    have nai : a ≠ it := fun z => by
      obtain ⟨o1, q1, q2, _⟩ := hT0
      obtain ⟨o2, q3, q4, _⟩ := hit
      rw [z, q3] at q1
      cases q1
      rw [q4] at q2
      exact absurd q2 (by decide)
    have nae : a ≠ e := fun z => by
      obtain ⟨o1, q1, q2, _⟩ := hT0
      rw [z] at q1
      have q5 := (Option.some.inj (q1.symm.trans he))
      rw [q5] at q2
      exact absurd (show Value.type "enumerate" = Value.type "tuple" from q2) (by decide)
    have hel : e < s.heap.objs.size := Heap.lt_size he
    have hil : it < s.heap.objs.size := by obtain ⟨_, q, _⟩ := hit; exact Heap.lt_size q
    have hlt : i < its.toArray.size := by
      rw [List.size_toArray]
      exact (List.getElem?_eq_some_iff.mp hu).1
    refine wpAny_pyNext_enum_itemD (Draws.tuple (prog := X.prog) (w := X.w) (A := X.A.in1) (by have := I.ok.hd hc; simpa using this) it a nai its.toArray) he ⟨hit, hT0⟩ hlt hne (by
      intro z
      rcases List.mem_cons.mp z with z | z
      · exact hne z
      · exact nae (List.mem_singleton.mp z).symm) fun x' h' tk hP ho hst hT hsz hk => ?_
    obtain rfl : x' = u := by
      have q : its.toArray[i]? = some x' := hP
      rw [List.getElem?_toArray, hu] at q
      exact (Option.some.inj q).symm
    refine ⟨_, rfl, wpAny_letOwnedTupleGo_enum (s := { s with heap := h', toks := tk + 1 }) ho fun h'' he' sb => ?_⟩
    have hT2 : h''.get? s.heap.objs.size = some { cls := .type "tuple", data := .seq #[.int i tk, x'] } := (sb.2 _ (Nat.ne_of_gt hel)).trans hT
    have new : ObjOk X.prog X.w (upd H s.heap.objs.size (.tup [.int (i : Nat), x])) h'' s.heap.objs.size (.tup [.int (i : Nat), x]) :=
      ⟨by show 2 ≤ sizeLine; decide, [.int i tk, x'], .cons ⟨_, rfl⟩ (.cons ru .nil), ⟨_, hT2, rfl, _, rfl⟩⟩
    have I1 : Inv X pins σ (upd H s.heap.objs.size (.tup [.int (i : Nat), x])) { s with heap := h'', toks := tk + 1 } :=
      I.turnedNew (ch := [e, it]) (fun b ob hb q => (sb.2 b (fun z => hb (z ▸ List.mem_cons_self ..))).trans (hk b ob (fun z => hb (z ▸ List.mem_cons_self ..)) (fun z => hb (z ▸ List.mem_cons_of_mem _ (List.mem_singleton.mpr rfl))) q)) hf (Nat.le_refl _) new
    refine ⟨.ref s.heap.objs.size, _, I1, rfl, ⟨_, x, rfl, I.hok.fresh (Nat.le_refl _), rfl, fun ys hy => by rw [I.tuple_inj hy hq]; exact hx⟩, ⟨⟨x', ?_⟩, hst.1.at fun o q => (sb.2 it (Ne.symm hne)).trans q, hne⟩, fun b hb => ?_⟩
    · have e1 : ((i + 1 : Nat) : Int) = (i : Int) + 1 := by omega
      rw [e1]
      exact he'
    · have hb' : b < s.heap.objs.size := by
        rcases List.mem_cons.mp hb with z | z
        · rw [z]; exact hel
        · rw [List.mem_singleton.mp z]; exact hil
      rw [upd_ne (Nat.ne_of_lt hb')]
      exact (hf b hb).1
  done := by
    intro X hP hw hK hc i pins s σ H E I hf st hg
    subst hP hw hK
    obtain ⟨⟨old, he⟩, hit, hne⟩ := st
    obtain ⟨xs, hq, hx⟩ := hg
    obtain ⟨its, rv, p, hz⟩ := I.tuple hq
    have hT0 : s.heap.IsTuple a its.toArray := p
    obtain ⟨f0, f1, f2, f3, f4, f5⟩ := hf it (List.mem_cons_of_mem _ (List.mem_singleton.mpr rfl))
    have hl := rv.length
    have hT : s.TypeIs (.ref e) "enumerate" := ⟨_, he, rfl⟩
    unfold pyNext
    refine wpAny_bind (wpAny_attempt (wpAny_callSpecial?_slot (name := Str.ofString "__next__") hT F.slot_enumerate_next (wpAny_call_entry F.slot_enumerate_next hT F.entry_enumerate_next ?_ (F.args_enumerate_next_1 _))))
    show wpAny _ _ (field (.ref e) 2 >>= _) _ _ _
    refine wpAny_bind (wpAny_field he rfl (x := .ref it) rfl ?_)
    refine wpAny_bind (wpAny_nextOf_tuple_end (by have := I.ok.hd hc; simpa using this) hit hT0 (by rw [List.getElem?_toArray]; exact List.getElem?_eq_none (by omega)) fun h' x eb hx' => ?_)
    obtain ⟨o, ho, hcc⟩ := hx'
    refine wpAny_bind (wpAny_isInstance (T := "StopIteration") (b := true) ⟨o, ho, hcc⟩ isSubtype_stop (wpAny_pure ⟨rfl, I.turned (t' := s.toks) (fun b o hb q => eb b o hb q) f0 f1 f3 f4 f5⟩))
  self := fun A i s Q E st h => let ⟨⟨_, he⟩, _⟩ := st; wpAny_pyIter_enum he h
def iEnumT (K : PySem.W.Frag) (ta : TA) : TI := fun σ H R => ta σ H fun vs H1 => ∃ a xs, vs = [.ref a] ∧ SqT K H1 a xs ∧ R (IteT K a) H1
theorem pi_enumT {X : Cx} {e : Expr} {ta : TA} {p pos tpos : Pos} {elts : List Expr} {kk : Nat} (hg : Gl X "enumerate") (hm : X.mg "enumerate" = none) (ha : PA X [e] ta) (hs : starEach [e] X.env = [(false, eval e X.env)] := by rfl) :
    PI X (.Tuple elts kk tpos) (.Call (.Name "enumerate" p) [e] [] pos) (iEnumT X.K ta) := by
  refine ⟨fun pins s σ H R I h => ?_⟩
  refine Call_ (ld_blt I hg hm boot_enumerate (PyProof.Rows.callWith_type1 (thn (ha.run pos pins s σ H _ I h) fun us s1 ⟨vs, H1, I1, r1, a, xs, ex, hq, q⟩ => ?_) hs rfl))
  subst ex
  cases r1 with
  | cons r rr =>
    cases rr
    cases r
    obtain ⟨its, rv, p', hz⟩ := I1.tuple hq
    refine en_call (begins_tuple a its.toArray) p' fun h' he hit hk => wpAny_pyIter_enum he ?_
    have I2 : Inv X pins σ H1 { s1 with heap := h' } := I1.kept (t' := s1.toks) hk
    refine ⟨s1.heap.objs.size + 1, [s1.heap.objs.size + 1, s1.heap.objs.size], _, _, H1, rfl, I2, turn_enumT a (s1.heap.objs.size + 1) s1.heap.objs.size, ⟨⟨.none, he⟩, ⟨_, hit, rfl, rfl⟩, Nat.succ_ne_self _⟩, fun b hb => ?_, q⟩
    have hle : s1.heap.objs.size ≤ b := by
      rcases List.mem_cons.mp hb with z | z
      · rw [z]; exact Nat.le_add_right _ _
      · rw [List.mem_singleton.mp z]; exact Nat.le_refl _
    exact I1.fpOk hle (I1.hok.fresh hle)
/-- n turns of it, while the tuple stands -/
theorem walk_enumT {K : PySem.W.Frag} {a : Addr} {xs : List V} : Walk (IteT K a) xs.length (fun H => SqT K H a xs) (YPair (fun i => some (.int (i : Nat))) (fun i => xs[i]?)) := by
  refine ⟨fun i _ hi q => ⟨xs, xs[i], q, List.getElem?_eq_getElem hi⟩, fun _ q => ⟨xs, q, Nat.le_refl _⟩, fun i H v H' _ q y => ?_⟩
  obtain ⟨T, x, h1, h2, h3, h4⟩ := y
  exact ⟨T, .int (i : Nat), x, h1, h2, h3, rfl, h4 xs q⟩
end OH
end
section
set_option Elab.async false
set_option linter.all false
set_option maxRecDepth 100000
set_option maxHeartbeats 4000000
/-! len(set(t)), t a tuple of tuples of ints. -/
namespace OH
open PySem PySem.Spec PyProof.Rows L2
abbrev set0 (w : World) : Obj := { cls := .type "set", dict := none, data := .set #[] 0 (.fresh 0 0 (!w.params.followText "set-order")) }
section
variable {P : Program} {w : World} {A : Around} {E : Value → Shared → Prop} {s : Shared}
set_option maxHeartbeats 6400000 in
theorem set_of_tup {l : Addr} {its : Array Value} (ks : List (Addr × List Int)) {Q : Value → Shared → Prop} (hh : A.handled = none) (ht : s.heap.IsTuple l its) (hi : its.toList = ks.map fun p => Value.ref p.1)
    (hk : ∀ p ∈ ks, IsT P w s.heap p.2 p.1) (few : ks.length < 64) (hu : A.units + 3 < cLine)
    (kk : ∀ (h' : Heap) (tk : Nat) L es ep t, SetTR P w h' s.heap.objs.size L es ep t → Got ks ks.length L → (∀ b o, s.heap.get? b = some o → h'.get? b = some o) → Q (.ref s.heap.objs.size) { s with heap := h', toks := tk }) :
    wpAny (model P w) A (call (.type "set") [.ref l]) Q E s := by
  have isz : its.size = ks.length := by
    have q := congrArg List.length hi
    rwa [Array.length_toList, List.length_map] at q
  obtain ⟨c, tl, hmro⟩ := PySem.F.called_set.mro
  have m1 := PySem.F.called_set.made
  have m2 := PySem.F.called_set.sub
  have m3 := PySem.F.called_set.notType
  have m4 := PySem.F.called_set.canCreate
  have m5 := PySem.F.typeCall_set_1 (.ref l)
  refine wpAny_call (codeAny_of_tree ?_)
  show wpAny _ _ (callAny (.type "set") _) _ _ _
  refine wpAny_pure ⟨Code.quiet_builtin _ (by decide +kernel), codeAny_builtin PySem.F.entry_type_call ?_⟩
  rw [Around.under_plain (weight_type_call_type "set" [.ref l] []) rfl]
  repeat (any_goals (first | assumption | wp_step))
  refine codeAny_mono (code_set_led1 (.ref l) (E := E) (Q₁ := fun v s₁ => v = .ref s.heap.objs.size ∧ s₁ = { s with heap := s.heap.push (set0 w) }) ⟨rfl, rfl⟩) fun r s₁ hr => ?_
  cases r with
  | error er => exact hr
  | ok fl =>
    cases fl with
    | ret v =>
      obtain ⟨rfl, rfl⟩ := hr
      have hS : (s.heap.push (set0 w)).get? s.heap.objs.size = some (set0 w) := Heap.get?_push_size _ rfl
      have hT : Shared.TypeIs { s with heap := s.heap.push (set0 w) } (.ref s.heap.objs.size) "set" := ⟨_, hS, rfl⟩
      have n1 := PySem.F.called_set.init.lookup
      have n2 := PySem.F.called_set.init.bind (.ref s.heap.objs.size)
      repeat (any_goals (first | assumption | wp_step))
      refine codeAny_mono (codeAny_call_builtin (R := wants (fun r s₂ => r = .none ∧ ∃ h' tk L es ep t, s₂ = { s with heap := h', toks := tk } ∧ SetTR P w h' s.heap.objs.size L es ep t ∧ Got ks ks.length L ∧ (∀ b o, s.heap.get? b = some o → h'.get? b = some o)) E)
        PySem.F.called_set.init.plain PySem.F.entry_set_init (check_set_init_1 hT ?_)) fun r₂ s₂ hr₂ => ?_
      · obtain ⟨⟨c1, c2, c3, c4⟩, hol, hcl, nl, hdl⟩ := ht
        simp only at hcl hdl
        subst hcl hdl
        have hol' : (s.heap.push (set0 w)).get? l = some { cls := .type "tuple", dict := c2, data := .seq its nl, slots := c4 } := Heap.get?_push_of_some _ hol
        have q1 := PySem.F.sub_tuple_set
        have q2 := PySem.F.sub_tuple_frozenset
        have q3 : (Value.type "tuple" == Value.type "dict") = false := by decide
        have ht1 : (s.heap.push (set0 w)).IsTuple l its := ⟨_, hol', rfl, nl, rfl⟩
        unfold Builtin.«set.__init__» noKeywords Builtin.Frozenset.updateFrom
        generalize hPI : pyIter = PI
        wp_walk
        subst hPI
        refine wpAny_pyIter_tuple ht1 (wpAny_bind (wpAny_runValue ?_))
        have below : l < s.heap.objs.size := Heap.lt_size hol
        have h3 : A.in1.in1.in1.handled = none := by simp [hh]
        have szp : (s.heap.push (set0 w)).objs.size = s.heap.objs.size + 1 := Heap.size_push ..
        have apart : l ≠ (s.heap.push (set0 w)).objs.size := by
          rw [szp]
          exact Nat.ne_of_lt (Nat.lt_succ_of_lt below)
        have outS : s.heap.objs.size ∉ [(s.heap.push (set0 w)).objs.size, l] := by
          rw [szp]
          intro z
          rcases List.mem_cons.mp z with z | z
          · exact absurd z (Nat.ne_of_lt (Nat.lt_succ_self _))
          · exact absurd (List.mem_singleton.mp z) (Nat.ne_of_gt below)
        have vals : ∀ (i : Nat) (v : Value), its[i]? = some v → ∃ p, ks[i]? = some p ∧ v = .ref p.1 := fun i v hv => by
          have q : its.toList[i]? = some v := by rw [Array.getElem?_toList]; exact hv
          rw [hi, List.getElem?_map] at q
          obtain ⟨p, e1, e2⟩ := Option.map_eq_some_iff.mp q
          exact ⟨p, e1, e2.symm⟩
        have fresh : ∀ b, s.heap.objs.size ≤ b → s.heap.get? b = none := fun b hb => by
          cases q : s.heap.get? b with
          | none => rfl
          | some o => exact absurd (Nat.lt_of_lt_of_le (Heap.lt_size q) hb) (Nat.lt_irrefl _)
        refine set_update_tups ((Walks.tuple h3 _ l apart its).toS) s.heap.objs.size outS ks isz few vals s.heap hk (fresh _ (Nat.le_refl _)) (fun b hb => fresh b (by
            rw [List.mem_singleton.mp hb, szp]
            exact Nat.le_succ _)) hu (its.size - 0) 0 _ (by omega) (Nat.zero_le _)
          ⟨⟨_, Heap.get?_push_size _ rfl, rfl, rfl⟩, ht1.push _⟩ (fun b o e => Heap.get?_push_of_some _ (Heap.get?_push_of_some _ e)) ?first ?last
        case first =>
          have g0 : ((s.heap.push (set0 w)).push { cls := .type "tuple_iterator", data := .fields #[.ref l, .int 0 0] }).get? s.heap.objs.size = some (set0 w) := Heap.get?_push_of_some _ hS
          exact ⟨[], #[], 0, _, setTR_fresh g0, Got.zero ks⟩
        case last =>
          intro s' L es ep t mv R g kp
          obtain ⟨h', g2, d2, tk, o2⟩ := s'
          have e1 : g2 = s.gens := mv.gens
          have e2 : d2 = s.drawn := mv.drawn
          have e3 : o2 = s.os := mv.os
          subst e1 e2 e3
          show wpAny _ _ _ _ _ _
          refine wpAny_pure ?_
          show wpAny _ _ (ret Value.none) _ _ _
          rw [isz] at g
          exact wpAny_pure ⟨rfl, h', tk, L, es, ep, t, rfl, R, g, kp⟩
      · cases r₂ with
        | error er => exact hr₂
        | ok f₂ =>
          cases f₂ with
          | ret r =>
            obtain ⟨rfl, h', tk, L, es, ep, t, rfl, R, g, kp⟩ := hr₂
            repeat (any_goals (first | assumption | wp_step))
            exact kk _ _ _ _ _ _ R g kp
          | _ => exact hr₂.elim
    | _ => exact hr.elim
end
theorem nodup_le {α : Type} [DecidableEq α] : ∀ (l D : List α), l.Nodup → (∀ x ∈ l, x ∈ D) → l.length ≤ D.length
  | [], _, _, _ => Nat.zero_le _
  | x :: l, D, hn, hs => by
    obtain ⟨h1, h2⟩ := List.nodup_cons.mp hn
    have hx : x ∈ D := hs x List.mem_cons_self
    have ih := nodup_le l (D.erase x) h2 fun y hy => (by
      have ne : y ≠ x := fun e => h1 (by rw [← e]; exact hy)
      exact (List.mem_erase_of_ne ne).2 (hs y (List.mem_cons_of_mem _ hy)))
    rw [List.length_erase_of_mem hx] at ih
    have := List.length_pos_of_mem hx
    rw [List.length_cons]
    omega
/-- a list that holds all of a list without doubles that is as long has none either -/
theorem nodup_of_le {α : Type} [DecidableEq α] : ∀ (l D : List α), D.Nodup → (∀ x ∈ D, x ∈ l) → l.length ≤ D.length → l.Nodup
  | [], _, _, _, _ => List.nodup_nil
  | x :: l, D, hn, hs, hl => by
    have cover : ∀ (T : List α), T.Nodup → (∀ y ∈ T, y ∈ l) → T.length ≤ l.length := fun T h1 h2 => nodup_le T l h1 h2
    by_cases hx : x ∈ l
    · have q := cover D hn fun y hy => (List.mem_cons.mp (hs y hy)).elim (fun e => by rw [e]; exact hx) id
      rw [List.length_cons] at hl
      omega
    · refine List.nodup_cons.mpr ⟨hx, nodup_of_le l (D.erase x) (hn.erase x) (fun y hy => ?_) ?_⟩
      · have hy2 := List.mem_of_mem_erase hy
        rcases List.mem_cons.mp (hs y hy2) with e | z
        · rw [e] at hy
          exact absurd hy (fun h => by rw [List.Nodup.mem_erase_iff hn] at h; exact h.1 rfl)
        · exact z
      · have hxD : x ∈ D := by
          refine Classical.byContradiction fun nx => ?_
          have q := cover D hn fun y hy => (List.mem_cons.mp (hs y hy)).elim (fun e => absurd (show x ∈ D by rw [← e]; exact hy) nx) id
          rw [List.length_cons] at hl
          omega
        rw [List.length_erase_of_mem hxD]
        rw [List.length_cons] at hl
        omega
def tLenSetT (K : PySem.W.Frag) (ta : TE) : TE := fun σ H Q => ta σ H fun x H1 => ∃ (l : Addr) (ks : List (Addr × List Int)), x = .ref l ∧ SqT K H1 l (ks.map fun p => V.ref p.1) ∧ (∀ p ∈ ks, SqT K H1 p.1 (p.2.map V.int)) ∧ ks.length < 64 ∧
  ∀ n : Nat, (n = ks.length ↔ (ks.map (·.2)).Nodup) → Q (.int n) H1
theorem pe_lenSetT {X : Cx} {a : Expr} {ta : TE} {p p2 q pos : Pos} (hu : X.A.units + 64 < cLine) (hg : Gl X "len") (hm : X.mg "len" = none) (hg2 : Gl X "set") (hm2 : X.mg "set" = none) (ha : PE X a ta) (hc : X.calm = true := by rfl)
    (na : starEach [a] X.env = (false, eval a X.env) :: starEach [] X.env := by rfl) : PE X (.Call (.Name "len" p) [.Call (.Name "set" p2) [a] [] q] [] pos) (tLenSetT X.K ta) := by
  refine ⟨fun pins s σ H Q I h => ?_⟩
  refine Call_ (ld_blt I hg hm boot_len (PyProof.Rows.callWith_builtin1 (PyProof.Rows.args_cons ?_ rfl) rfl rfl))
  refine Call_ (ld_blt I hg2 hm2 boot_set (PyProof.Rows.callWith_type1 (PyProof.Rows.args_cons (thn (ha.run pins s σ H _ I h) fun v s1 ⟨x, H1, I1, r1, l, ks, ex, hq, hk, hf, q1⟩ => PyProof.Rows.args_nil ?_) na) na rfl))
  subst ex
  cases r1
  obtain ⟨its, r, pl, hz⟩ := I1.tuple hq
  refine set_of_tup (P := X.prog) (w := X.w) ks (I1.ok.hd hc) pl (by simpa using refs_of_vals r) (fun p hp => I1.isT (hk p hp)) hf (by omega) fun h' tk L es ep t R g kp => ?_
  refine PyProof.Rows.args_nil ?_
  obtain ⟨o, ho, hex, hd⟩ := R.ob
  have I2 : Inv X pins σ H1 { s1 with heap := h', toks := tk } := I1.kept fun b o e => kp b o e
  have es1 : es.size = L.length := R.size (s := { s1 with heap := h', toks := tk })
  have few := R.few
  refine call_len_set ho hex hd (R.fits (s := { s1 with heap := h', toks := tk })) (by rw [es1]; omega) ⟨.int L.length, H1, I2.tok _, ⟨_, by rw [es1]⟩, q1 L.length ⟨fun e => ?_, fun nd => ?_⟩⟩
  · refine nodup_of_le _ (L.map (·.2)) R.nd (fun y hy => ?_) (by rw [List.length_map, List.length_map, e]; exact Nat.le_refl _)
    obtain ⟨p, hp, rfl⟩ := List.mem_map.mp hy
    exact List.mem_map.mpr ⟨p, List.mem_of_mem_take (g.sub p hp), rfl⟩
  · have q1 := nodup_le (ks.map (·.2)) (L.map (·.2)) nd (fun y hy => by
      obtain ⟨p, hp, rfl⟩ := List.mem_map.mp hy
      exact g.all p (by rw [List.take_length]; exact hp))
    rw [List.length_map, List.length_map] at q1
    have := g.len
    omega
end OH
end
section
set_option Elab.async false
set_option linter.all false
set_option maxRecDepth 100000
set_option maxHeartbeats 4000000
/-! enumerate over a list, counted from a start. -/
namespace OH
open PySem PySem.Spec PyProof.Rows L2
theorem tc_en2 (a b : Value) : checkTypeCall "enumerate" ⟨[a, b], []⟩ = pure () := by kernel_rfl
theorem nc_en2 (a b : Value) : checkBuiltinCall "enumerate.__new__" ⟨[.type "enumerate", a, b], []⟩ = pure () := by kernel_rfl
theorem en2_meets {v : Value} {o : Obj} {T : Heap → Prop} (B : Begins v o T) (t : Tok) :
    Meets (Builtin.«enumerate.__new__» ⟨[.type "enumerate", v, .int 1 t], []⟩) (fun _ R s => T s.heap ∧ R (.ok (.ret (.ref (s.heap.push o).objs.size)))
      { s with heap := (s.heap.push o).push { cls := .type "enumerate", data := .fields #[.none, .bool false, .ref s.heap.objs.size, rawInt 1, .none, .none] } }) :=
  Meets.of_wp fun prog w A R s hh => by
    obtain ⟨hp, gs, dr, tk, os⟩ := s
    obtain ⟨ht, hr⟩ := hh
    have hsub := sub_enumerate
    have go : ∀ {A' : Around} {E : Value → Shared → Prop} {Q : Value → Shared → Prop}, Q (.ref hp.objs.size) ⟨hp.push o, gs, dr, tk, os⟩ → wpAny (model prog w) A' (pyIter v) Q E ⟨hp, gs, dr, tk, os⟩ := fun q => B.iter prog w _ _ ⟨hp, gs, dr, tk, os⟩ _ ht q
    wp_walk using go
    refine wpAny_stack_any fun stk => wpAny_pure ?_
    split
    · next c _ _ _ _ _ =>
      cases (c == Value.type "enumerate") <;> (wp_walk using go; exact ⟨_, rfl, hr⟩)
    · wp_walk using go
      exact ⟨_, rfl, hr⟩
theorem en2_call {prog : Program} {w : World} {A : Around} {E : Value → Shared → Prop} {s : Shared} {v : Value} {o : Obj} {T : Heap → Prop} {Q : Value → Shared → Prop} {t : Tok} (B : Begins v o T) (ht : T s.heap)
    (h : ∀ h', IsEnum h' (s.heap.objs.size + 1) s.heap.objs.size 1 .none → h'.get? s.heap.objs.size = some o → (∀ b u, s.heap.get? b = some u → h'.get? b = some u) → Q (.ref (s.heap.objs.size + 1)) { s with heap := h' }) :
    wpAny (model prog w) A (call (.type "enumerate") [v, .int 1 t]) Q E s := by
  refine callType_new F.called_enumerate (by decide) (tc_en2 _ _) (nc_en2 _ _) (fun obj => F.args_object_init_3 obj _ _) F.entry_enumerate_new (en2_meets B t) ⟨ht, ?_⟩
  have hz : (s.heap.push o).objs.size = s.heap.objs.size + 1 := Heap.size_push ..
  show _ ∧ _
  rw [hz]
  have he : IsEnum ((s.heap.push o).push { cls := .type "enumerate", data := .fields #[.none, .bool false, .ref s.heap.objs.size, rawInt 1, .none, .none] }) (s.heap.objs.size + 1) s.heap.objs.size 1 .none := by
    have q := Heap.get?_push_size (s.heap.push o) (o := { cls := .type "enumerate", data := .fields #[.none, .bool false, .ref s.heap.objs.size, rawInt 1, .none, .none] }) rfl
    rw [hz] at q
    exact q
  exact ⟨⟨_, he, rfl⟩, h _ he (Heap.get?_push_of_some _ (Heap.get?_push_size _ B.free)) fun b u x => Heap.get?_push_of_some _ (Heap.get?_push_of_some _ x)⟩
/-- the list at a as it stands at each turn, each item in a new pair, counted from 1 -/
def IteO (K : PySem.W.Frag) (a : Addr) : It :=
  ⟨fun i H => ∃ (xs : List V) (x : V), SqL K H a xs ∧ xs[i]? = some x,
   fun i H v H' => ∃ T x, v = .ref T ∧ H T = none ∧ H' = upd H T (.tup [.int ((i + 1 : Nat) : Int), x]) ∧ ∀ ys, SqL K H a ys → ys[i]? = some x,
   fun i H => ∃ xs : List V, SqL K H a xs ∧ xs.length ≤ i⟩
/-- the same draws, counted from 1 -/
theorem draws_one {prog : Program} {w : World} {A : Around} {it : Addr} {fp : List Addr} {n : Nat} {P : Nat → Value → Prop} {St : Nat → Heap → Prop} (D : Draws prog w A it fp n P St) :
    Draws prog w A it fp (n + 1) (fun i v => ∃ j, i = j + 1 ∧ P j v) (fun i h => ∃ j, i = j + 1 ∧ St j h) where
  live := fun i h ⟨j, _, st⟩ => D.live j h st
  frame := fun i h h' ⟨j, e, st⟩ k => ⟨j, e, D.frame j h h' st k⟩
  item := fun i s Q E hi ⟨j, e, st⟩ hQ => D.item j s Q E (by omega) st fun x h' tk p st' sb => hQ x h' tk ⟨j, e, p⟩ ⟨j + 1, by omega, st'⟩ sb
  done := fun s Q E ⟨j, e, st⟩ hE => D.done s Q E ((Nat.succ.inj e) ▸ st) hE
theorem turn_enumO {P : Program} {w : World} {K : PySem.W.Frag} {elts : List Expr} {kk : Nat} {tpos : Pos} (a e it : Addr) :
    Turn P w K (.Tuple elts kk tpos) (IteO K a) [e, it] e (fun i h => (∃ old, IsEnum h e it ((i + 1 : Nat) : Int) old) ∧ h.IsListIter it a i ∧ e ≠ it) where
  mem := List.mem_cons_self ..
  obj := fun i h st b hb => by
    obtain ⟨⟨old, he⟩, ⟨o, ho, hc, hd⟩, _⟩ := st
    rcases List.mem_cons.mp hb with z | z
    · rw [z]; exact ⟨_, he, fun v q => nomatch q⟩
    · exact ⟨o, (List.mem_singleton.mp z) ▸ ho, fun v q => by rw [hd] at q; cases q⟩
  keep := fun i h h' st k => let ⟨⟨old, he⟩, hi, hne⟩ := st; ⟨⟨old, k e (List.mem_cons_self ..) _ he⟩, hi.at fun o q => k it (List.mem_cons_of_mem _ (List.mem_singleton.mpr rfl)) o q, hne⟩
  item := by
    intro X hP hw hK hc i pins s σ H E I hf st hg
    subst hP hw hK
    obtain ⟨⟨old, he⟩, hit, hne⟩ := st
    obtain ⟨xs, x, hq, hx⟩ := hg
    obtain ⟨its, rv, p, hz⟩ := I.list hq
    obtain ⟨u, hu, ru⟩ := rv.get hx
    have hT0 : s.heap.IsList a its.toArray := p.isList
    have nai : a ≠ it := fun z => by
      obtain ⟨o1, q1, q2, _⟩ := hT0
      obtain ⟨o2, q3, q4, _⟩ := hit
      rw [z, q3] at q1
      cases q1
      rw [q4] at q2
      exact absurd q2 (by decide)
    have nae : a ≠ e := fun z => by
      obtain ⟨o1, q1, q2, _⟩ := hT0
      rw [z] at q1
      have q5 := (Option.some.inj (q1.symm.trans he))
      rw [q5] at q2
      exact absurd (show Value.type "enumerate" = Value.type "list" from q2) (by decide)
    have hel : e < s.heap.objs.size := Heap.lt_size he
    have hil : it < s.heap.objs.size := by obtain ⟨_, q, _⟩ := hit; exact Heap.lt_size q
    have hlt : i + 1 < its.toArray.size + 1 := by
      rw [List.size_toArray]
      have := (List.getElem?_eq_some_iff.mp hu).1
      omega
    refine wpAny_pyNext_enum_itemD (draws_one (Draws.list (prog := X.prog) (w := X.w) (A := X.A.in1) (by have := I.ok.hd hc; simpa using this) it a nai its.toArray)) he ⟨i, rfl, hit, hT0⟩ hlt hne (by
      intro z
      rcases List.mem_cons.mp z with z | z
      · exact hne z
      · exact nae (List.mem_singleton.mp z).symm) fun x' h' tk hP ho hst hT hsz hk => ?_
    obtain ⟨j, ej, hP⟩ := hP
    obtain rfl : j = i := by omega
    obtain rfl : x' = u := by
      have q : its.toArray[j]? = some x' := hP
      rw [List.getElem?_toArray, hu] at q
      exact (Option.some.inj q).symm
    refine ⟨_, rfl, wpAny_letOwnedTupleGo_enum (s := { s with heap := h', toks := tk + 1 }) ho fun h'' he' sb => ?_⟩
    have hT2 : h''.get? s.heap.objs.size = some { cls := .type "tuple", data := .seq #[.int ((j + 1 : Nat) : Int) tk, x'] } := (sb.2 _ (Nat.ne_of_gt hel)).trans hT
    have new : ObjOk X.prog X.w (upd H s.heap.objs.size (.tup [.int ((j + 1 : Nat) : Int), x])) h'' s.heap.objs.size (.tup [.int ((j + 1 : Nat) : Int), x]) :=
      ⟨by show 2 ≤ sizeLine; decide, [.int ((j + 1 : Nat) : Int) tk, x'], .cons ⟨_, rfl⟩ (.cons ru .nil), ⟨_, hT2, rfl, _, rfl⟩⟩
    have I1 : Inv X pins σ (upd H s.heap.objs.size (.tup [.int ((j + 1 : Nat) : Int), x])) { s with heap := h'', toks := tk + 1 } :=
      I.turnedNew (ch := [e, it]) (fun b ob hb q => (sb.2 b (fun z => hb (z ▸ List.mem_cons_self ..))).trans (hk b ob (fun z => hb (z ▸ List.mem_cons_self ..)) (fun z => hb (z ▸ List.mem_cons_of_mem _ (List.mem_singleton.mpr rfl))) q)) hf (Nat.le_refl _) new
    obtain ⟨j2, ej2, hst1, _⟩ := hst
    obtain rfl : j2 = j + 1 := by omega
    refine ⟨.ref s.heap.objs.size, _, I1, rfl, ⟨_, x, rfl, I.hok.fresh (Nat.le_refl _), rfl, fun ys hy => by rw [I.list_inj hy hq]; exact hx⟩, ⟨⟨x', ?_⟩, hst1.at fun o q => (sb.2 it (Ne.symm hne)).trans q, hne⟩, fun b hb => ?_⟩
    · have e1 : ((j + 1 + 1 : Nat) : Int) = ((j + 1 : Nat) : Int) + 1 := by omega
      rw [e1]
      exact he'
    · have hb' : b < s.heap.objs.size := by
        rcases List.mem_cons.mp hb with z | z
        · rw [z]; exact hel
        · rw [List.mem_singleton.mp z]; exact hil
      rw [upd_ne (Nat.ne_of_lt hb')]
      exact (hf b hb).1
  done := by
    intro X hP hw hK hc i pins s σ H E I hf st hg
    subst hP hw hK
    obtain ⟨⟨old, he⟩, hit, hne⟩ := st
    obtain ⟨xs, hq, hx⟩ := hg
    obtain ⟨its, rv, p, hz⟩ := I.list hq
    obtain ⟨f0, f1, f2, f3, f4, f5⟩ := hf it (List.mem_cons_of_mem _ (List.mem_singleton.mpr rfl))
    have hl := rv.length
    have hT : s.TypeIs (.ref e) "enumerate" := ⟨_, he, rfl⟩
    unfold pyNext
    refine wpAny_bind (wpAny_attempt (wpAny_callSpecial?_slot (name := Str.ofString "__next__") hT F.slot_enumerate_next (wpAny_call_entry F.slot_enumerate_next hT F.entry_enumerate_next ?_ (F.args_enumerate_next_1 _))))
    show wpAny _ _ (field (.ref e) 2 >>= _) _ _ _
    refine wpAny_bind (wpAny_field he rfl (x := .ref it) rfl ?_)
    refine wpAny_bind (wpAny_nextOf_list_end (by have := I.ok.hd hc; simpa using this) hit p.isList (by rw [List.getElem?_toArray]; exact List.getElem?_eq_none (by omega)) fun h' x eb hx' => ?_)
    obtain ⟨o, ho, hcc⟩ := hx'
    refine wpAny_bind (wpAny_isInstance (T := "StopIteration") (b := true) ⟨o, ho, hcc⟩ isSubtype_stop (wpAny_pure ⟨rfl, I.turned (t' := s.toks) (fun b o hb q => eb b o hb q) f0 f1 f3 f4 f5⟩))
  self := fun A i s Q E st h => let ⟨⟨_, he⟩, _⟩ := st; wpAny_pyIter_enum he h
def iEnumO (K : PySem.W.Frag) (ta : TA) : TI := fun σ H R => ta σ H fun vs H1 => ∃ a xs, vs = [.ref a, .int 1] ∧ SqL K H1 a xs ∧ R (IteO K a) H1
theorem pi_enumO {X : Cx} {e e2 : Expr} {ta : TA} {p pos tpos : Pos} {elts : List Expr} {kk : Nat} (hg : Gl X "enumerate") (hm : X.mg "enumerate" = none) (ha : PA X [e, e2] ta)
    (hs : starEach [e, e2] X.env = (false, eval e X.env) :: starEach [e2] X.env := by rfl) (hpl : (backTo pos (starEach [e2] X.env)).any (·.1) = false := by rfl) :
    PI X (.Tuple elts kk tpos) (.Call (.Name "enumerate" p) [e, e2] [] pos) (iEnumO X.K ta) := by
  refine ⟨fun pins s σ H R I h => ?_⟩
  refine Call_ (ld_blt I hg hm boot_enumerate (PyProof.Rows.callWith_type1 (thn (ha.run pos pins s σ H _ I h) fun us s1 ⟨vs, H1, I1, r1, a, xs, ex, hq, q⟩ => ?_) hs hpl))
  subst ex
  cases r1 with
  | cons r rr =>
    cases rr with
    | cons r2 rr =>
      cases rr
      cases r
      obtain ⟨t2, rfl⟩ := r2
      obtain ⟨its, rv, p', hz⟩ := I1.list hq
      refine en2_call (begins_list a its.toArray) p'.isList fun h' he hit hk => wpAny_pyIter_enum he ?_
      have I2 : Inv X pins σ H1 { s1 with heap := h' } := I1.kept (t' := s1.toks) hk
      refine ⟨s1.heap.objs.size + 1, [s1.heap.objs.size + 1, s1.heap.objs.size], _, _, H1, rfl, I2, turn_enumO a (s1.heap.objs.size + 1) s1.heap.objs.size, ⟨⟨.none, he⟩, ⟨_, hit, rfl, rfl⟩, Nat.succ_ne_self _⟩, fun b hb => ?_, q⟩
      have hle : s1.heap.objs.size ≤ b := by
        rcases List.mem_cons.mp hb with z | z
        · rw [z]; exact Nat.le_add_right _ _
        · rw [List.mem_singleton.mp z]; exact Nat.le_refl _
      exact I1.fpOk hle (I1.hok.fresh hle)
/-- so many turns of it, while the list stands -/
theorem walk_enumO {K : PySem.W.Frag} {a : Addr} {xs : List V} : Walk (IteO K a) xs.length (fun H => SqL K H a xs) (YPair (fun i => some (.int ((i + 1 : Nat) : Int))) (fun i => xs[i]?)) := by
  refine ⟨fun i _ hi q => ⟨xs, xs[i], q, List.getElem?_eq_getElem hi⟩, fun _ q => ⟨xs, q, Nat.le_refl _⟩, fun i H v H' _ q y => ?_⟩
  obtain ⟨T, x, h1, h2, h3, h4⟩ := y
  exact ⟨T, .int ((i + 1 : Nat) : Int), x, h1, h2, h3, rfl, h4 xs q⟩
end OH
end
section
set_option Elab.async false
set_option linter.all false
set_option maxRecDepth 100000
set_option maxHeartbeats 4000000
/-! xs[::2] and xs[1::2]. -/
namespace OH
open PySem PySem.Spec PyProof.Rows L2
/-- every other item, from the first one on -/
def evs {α : Type} : List α → List α
  | [] => []
  | [a] => [a]
  | a :: _ :: r => a :: evs r
theorem evs_range {α : Type} : ∀ xs : List α, (List.range ((xs.length + 1) / 2)).filterMap (fun k => xs[2 * k]?) = evs xs
  | [] => by simp [evs]
  | [a] => by
    rw [show ([a].length + 1) / 2 = 1 by rw [List.length_singleton], List.range_one]
    unfold evs
    rfl
  | a :: b :: r => by
    have h1 : ((a :: b :: r).length + 1) / 2 = (r.length + 1) / 2 + 1 := by
      show (r.length + 1 + 1 + 1) / 2 = _
      omega
    rw [h1, List.range_succ_eq_map, List.filterMap_cons, List.filterMap_map]
    unfold evs
    rw [← evs_range r]
    rfl
theorem fm_congr {α β : Type} {f g : α → Option β} (h : ∀ x, f x = g x) (l : List α) : l.filterMap f = l.filterMap g := by rw [show f = g from funext h]
theorem evs_vals : ∀ {xs : List V} {us : List Value}, Vals xs us → Vals (evs xs) (evs us)
  | _, _, .nil => by unfold evs; exact .nil
  | _, _, .cons a .nil => by unfold evs; exact .cons a .nil
  | _, _, .cons a (.cons _ r) => by unfold evs; exact .cons a (evs_vals r)
theorem evs_len {α : Type} : ∀ xs : List α, (evs xs).length ≤ xs.length
  | [] => by unfold evs; exact Nat.le_refl _
  | [_] => by unfold evs; exact Nat.le_refl _
  | _ :: _ :: r => by unfold evs; exact Nat.succ_le_succ (Nat.le_succ_of_le (evs_len r))
theorem range2 (lo n : Nat) (h : lo ≤ n) : sliceRange (lo : Int) (n : Int) 2 = (List.range ((n - lo + 1) / 2)).map fun k => lo + 2 * k := by
  unfold sliceRange
  rw [if_pos (by decide : (2 : Int) > 0)]
  have e : (if (lo : Int) < (n : Int) then ((n : Int) - lo + 2 - 1) / 2 else 0).toNat = (n - lo + 1) / 2 := by
    split
    · omega
    · omega
  show (List.range (if (lo : Int) < (n : Int) then ((n : Int) - lo + 2 - 1) / 2 else 0).toNat).map _ = _
  rw [e]
  apply List.map_congr_left
  intro k _
  omega
theorem pick_even (its : List Value) : slicePick its.toArray none none (some 2) = (evs its).toArray := by
  unfold slicePick
  have e : sliceBounds none none (some 2) its.toArray.size = (((0 : Nat) : Int), ((its.length : Nat) : Int), 2) := by
    show (_, _, _) = _
    rw [List.size_toArray]
    rfl
  rw [e]
  show ((sliceRange ((0 : Nat) : Int) (its.length : Int) 2).filterMap (its.toArray[·]?)).toArray = _
  rw [range2 0 its.length (Nat.zero_le _), List.filterMap_map, ← evs_range]
  congr 1
  refine fm_congr (fun k => ?_) _
  show its.toArray[0 + 2 * k]? = _
  rw [Nat.zero_add, List.getElem?_toArray]
theorem pick_odd (its : List Value) : slicePick its.toArray (some 1) none (some 2) = (evs its.tail).toArray := by
  unfold slicePick
  cases its with
  | nil => rfl
  | cons a r =>
    have e : sliceBounds (some 1) none (some 2) (a :: r).toArray.size = (((1 : Nat) : Int), (((a :: r).length : Nat) : Int), 2) := by
      show (_, _, _) = _
      rw [List.size_toArray]
      have : max (0 : Int) (min 1 (((a :: r).length : Nat) : Int)) = 1 := by
        show max (0 : Int) (min 1 ((r.length + 1 : Nat) : Int)) = 1
        omega
      show (max (0 : Int) (min 1 (((a :: r).length : Nat) : Int)), _, _) = _
      rw [this]
      rfl
    rw [e]
    show ((sliceRange ((1 : Nat) : Int) ((a :: r).length : Int) 2).filterMap ((a :: r).toArray[·]?)).toArray = _
    rw [range2 1 (a :: r).length (Nat.succ_le_succ (Nat.zero_le _)), List.filterMap_map]
    show _ = (evs r).toArray
    rw [← evs_range]
    congr 1
    show List.filterMap _ (List.range ((r.length + 1 - 1 + 1) / 2)) = _
    rw [Nat.add_sub_cancel]
    refine fm_congr (fun k => ?_) _
    show (a :: r).toArray[1 + 2 * k]? = _
    rw [List.getElem?_toArray, Nat.add_comm 1]
    rfl
def tEvL (K : PySem.W.Frag) (te : TE) : TE := fun σ H Q => te σ H fun x H1 => ∃ a xs, x = .ref a ∧ SqL K H1 a xs ∧ ∀ p, H1 p = none → Q (.ref p) (upd H1 p (.lst (evs xs)))
def tOdL (K : PySem.W.Frag) (te : TE) : TE := fun σ H Q => te σ H fun x H1 => ∃ a xs, x = .ref a ∧ SqL K H1 a xs ∧ ∀ p, H1 p = none → Q (.ref p) (upd H1 p (.lst (evs xs.tail)))
section
variable {X : Cx} {e : Expr} {te : TE} {k k2 : Nat} {p1 p2 p3 pos : Pos}
theorem pe_evL (he : PE X e te) : PE X (.Subscript e (.Slice none none (some (.Constant (.int 2) k p1)) p3) pos) (tEvL X.K te) := by
  refine ⟨fun pins s σ H Q I h => ?_⟩
  refine Subscript_ (thn (he.run pins s σ H _ I h) fun v s1 ⟨x, H1, I1, r1, a, xs, ex, hx, q⟩ => ?_)
  subst ex
  cases r1
  have hst : PO X (some (.Constant (.int 2) k p1)) (tPart (tC (.int 2))) := po_some pe_int
  refine wpAny_Slice (thn (po_none.run pins s1 σ H1 (fun o H2 => o = none ∧ H2 = H1) I1 ⟨rfl, rfl⟩) fun vl s2 ⟨l, H2, I2, pl, el, e2⟩ => ?_)
  subst el e2
  refine thn (po_none.run pins s2 σ H2 (fun o H3 => o = none ∧ H3 = H2) I2 ⟨rfl, rfl⟩) fun vu s3 ⟨u, H3, I3, pu, eu, e3⟩ => ?_
  subst eu e3
  refine thn (hst.run pins s3 σ H3 (fun o H4 => o = some 2 ∧ H4 = H3) I3 ⟨2, rfl, rfl, rfl⟩) fun vs s4 ⟨o, H4, I4, ps, eo, e4⟩ => ?_
  subst eo e4
  have I5 : Inv X pins σ H4 { s4 with heap := s4.heap.push { cls := .type "slice", data := .fields #[vl, vu, vs] } } := I4.kept (t' := s4.toks) fun b ob q => Heap.get?_push_of_some _ q
  obtain ⟨its, r, ht, hz⟩ := I5.list hx
  have hlen := r.length
  refine tail_any (s := { s4 with heap := s4.heap.push { cls := .type "slice", data := .fields #[vl, vu, vs] } }) (ops := [.ref a, .ref s4.heap.objs.size]) ht.isList.typeIs (PySem.slot_list_getitem.lookup) ?_ (by with_unfolding_all rfl)
  refine wpAny_getItem_list_slice ht.isList (Heap.IsSliceOf.new _ vl vu vs) pl pu ps (by decide) ?_ (by rw [List.size_toArray]; omega)
  rw [pick_even]
  have hz2 := evs_len xs
  exact ⟨.ref _, _, I5.laid (t' := s4.toks) (o := .lst (evs xs)) (fun b ob q => Heap.get?_push_of_some _ q) (Nat.le_refl _) ⟨by omega, _, 0, evs_vals r, Heap.get?_push_size _ rfl⟩, rfl, q _ (I5.hok.fresh (Nat.le_refl _))⟩
theorem pe_odL (he : PE X e te) : PE X (.Subscript e (.Slice (some (.Constant (.int 1) k2 p2)) none (some (.Constant (.int 2) k p1)) p3) pos) (tOdL X.K te) := by
  refine ⟨fun pins s σ H Q I h => ?_⟩
  refine Subscript_ (thn (he.run pins s σ H _ I h) fun v s1 ⟨x, H1, I1, r1, a, xs, ex, hx, q⟩ => ?_)
  subst ex
  cases r1
  have hst : PO X (some (.Constant (.int 2) k p1)) (tPart (tC (.int 2))) := po_some pe_int
  have hlo : PO X (some (.Constant (.int 1) k2 p2)) (tPart (tC (.int 1))) := po_some pe_int
  refine wpAny_Slice (thn (hlo.run pins s1 σ H1 (fun o H2 => o = some 1 ∧ H2 = H1) I1 ⟨1, rfl, rfl, rfl⟩) fun vl s2 ⟨l, H2, I2, pl, el, e2⟩ => ?_)
  subst el e2
  refine thn (po_none.run pins s2 σ H2 (fun o H3 => o = none ∧ H3 = H2) I2 ⟨rfl, rfl⟩) fun vu s3 ⟨u, H3, I3, pu, eu, e3⟩ => ?_
  subst eu e3
  refine thn (hst.run pins s3 σ H3 (fun o H4 => o = some 2 ∧ H4 = H3) I3 ⟨2, rfl, rfl, rfl⟩) fun vs s4 ⟨o, H4, I4, ps, eo, e4⟩ => ?_
  subst eo e4
  have I5 : Inv X pins σ H4 { s4 with heap := s4.heap.push { cls := .type "slice", data := .fields #[vl, vu, vs] } } := I4.kept (t' := s4.toks) fun b ob q => Heap.get?_push_of_some _ q
  obtain ⟨its, r, ht, hz⟩ := I5.list hx
  have hlen := r.length
  refine tail_any (s := { s4 with heap := s4.heap.push { cls := .type "slice", data := .fields #[vl, vu, vs] } }) (ops := [.ref a, .ref s4.heap.objs.size]) ht.isList.typeIs (PySem.slot_list_getitem.lookup) ?_ (by with_unfolding_all rfl)
  refine wpAny_getItem_list_slice ht.isList (Heap.IsSliceOf.new _ vl vu vs) pl pu ps (by decide) ?_ (by rw [List.size_toArray]; omega)
  rw [pick_odd]
  have hz2 := evs_len xs.tail
  rw [List.length_tail] at hz2
  have rt : Vals xs.tail its.tail := by
    cases r with
    | nil => exact .nil
    | cons _ r => exact r
  exact ⟨.ref _, _, I5.laid (t' := s4.toks) (o := .lst (evs xs.tail)) (fun b ob q => Heap.get?_push_of_some _ q) (Nat.le_refl _) ⟨by omega, _, 0, evs_vals rt, Heap.get?_push_size _ rfl⟩, rfl, q _ (I5.hok.fresh (Nat.le_refl _))⟩
end
end OH
end
section
set_option Elab.async false
set_option linter.all false
set_option maxRecDepth 100000
set_option maxHeartbeats 4000000
/-! Slices of the empty tuple. -/
namespace OH
open PySem PySem.Spec PyProof.Rows L2 HT
section
variable {prog : Program} {w : World} {A : Around} {E : Value → Shared → Prop} {s : Shared}
theorem applied_two {sl : Addr} {vl vu vs : Value} {lo : Option Int} {Q : _ → Shared → Prop} (hs : s.heap.IsSliceOf sl vl vu vs) (pl : IsPart vl lo) (hlo : lo = none ∨ lo = some 1) (pu : IsPart vu none) (ps : IsPart vs (some 2))
    (h : Q ((0 : Int), (2 : Int), Builtin.Slice.slicePlaces 0 0 2) s) : wpAny (model prog w) A (Builtin.Slice.sliceApplied (.ref sl) (pure (0 : Int))) Q E s := by
  obtain ⟨os, hos, hcs, hds⟩ := id hs
  unfold Builtin.Slice.sliceApplied Builtin.Slice.sliceFields
  refine wpAny_bind (wpAny_bind (wpAny_field hos hds (x := vl) rfl (wpAny_bind (wpAny_field hos hds (x := vu) rfl (wpAny_bind (wpAny_field hos hds (x := vs) rfl (wpAny_pure ?_)))))))
  refine wpAny_bind (slicePart_ ps ?_)
  show wpAny _ _ (if ((2 : Int) == 0) = true then _ else _) _ _ s
  rw [if_neg (by decide)]
  refine wpAny_bind (slicePart_ pl (wpAny_bind (slicePart_ pu (wpAny_bind (wpAny_pure ?_)))))
  rcases hlo with rfl | rfl
  · exact wpAny_pure h
  · exact wpAny_pure h
theorem getItem_nil2 {t sl : Addr} {vl vu vs : Value} {lo : Option Int} {Q : Value → Shared → Prop} (ht : IsTup s.heap t #[]) (hs : s.heap.IsSliceOf sl vl vu vs) (pl : IsPart vl lo) (hlo : lo = none ∨ lo = some 1) (pu : IsPart vu none) (ps : IsPart vs (some 2))
    (h : Q (Value.ref s.heap.objs.size) { s with heap := s.heap.push { cls := .type "tuple", data := .seq #[] } }) : wpAny (model prog w) A (getItem (.ref t) (.ref sl)) Q E s := by
  obtain ⟨os, hos, hcs, hds⟩ := id hs
  have hTs : s.TypeIs (.ref sl) "slice" := ⟨os, hos, hcs⟩
  unfold getItem
  try with_reducible refine wpAny_holding ?_
  first | refine wpAny_bind (wpAny_pure ?_) | skip
  refine wpAny_bind (wpAny_sequenceKey ht.typeIs (by decide) ?_)
  refine wpAny_bind (wpAny_callSpecial?_slot (name := Str.ofString "__getitem__") ht.typeIs PyProof.Rows.slot_tuple_getitem
    (wpAny_call_entry PyProof.Rows.slot_tuple_getitem ht.typeIs entry_tuple_getitem ?_ (args_tuple_getitem _ _)))
  show wpAny _ _ (Builtin.Tuple.tupleItemsOf (.ref t) >>= _) _ _ s
  refine wpAny_bind (tupleItemsOf_ ht ?_)
  refine wpAny_bind (wpAny_typeOf hTs ?_)
  rw [if_pos (by decide)]
  refine wpAny_bind (applied_two hs pl hlo pu ps ?_)
  show wpAny _ _ (if (((0 : Int) == 0) && ((2 : Int) == 1) && (Builtin.Slice.slicePlaces 0 0 2 == (#[] : Array Value).size)) = true then _ else _) _ _ s
  rw [if_neg (by decide)]
  show wpAny _ _ (Builtin.Tuple.tupleExact #[] >>= _) _ _ s
  have hz : sizeOk (.seq (#[] : Array Value)) := Nat.zero_le _
  refine wpAny_bind (m := Builtin.Tuple.tupleExact _) (wpAny_newObj_type (wpAny_pure ⟨_, rfl, wpAny_pure h⟩) hz)
theorem getItem_nil1 {t sl : Addr} {vl vu : Value} {Q : Value → Shared → Prop} (ht : IsTup s.heap t #[]) (hs : s.heap.IsSliceOf sl vl vu Value.none) (pl : IsPart vl none) (pu : IsPart vu (some (-1)))
    (h : Q (Value.ref t) s) : wpAny (model prog w) A (getItem (.ref t) (.ref sl)) Q E s := by
  obtain ⟨os, hos, hcs, hds⟩ := id hs
  have hTs : s.TypeIs (.ref sl) "slice" := ⟨os, hos, hcs⟩
  unfold getItem
  try with_reducible refine wpAny_holding ?_
  first | refine wpAny_bind (wpAny_pure ?_) | skip
  refine wpAny_bind (wpAny_sequenceKey ht.typeIs (by decide) ?_)
  refine wpAny_bind (wpAny_callSpecial?_slot (name := Str.ofString "__getitem__") ht.typeIs PyProof.Rows.slot_tuple_getitem
    (wpAny_call_entry PyProof.Rows.slot_tuple_getitem ht.typeIs entry_tuple_getitem ?_ (args_tuple_getitem _ _)))
  show wpAny _ _ (Builtin.Tuple.tupleItemsOf (.ref t) >>= _) _ _ s
  refine wpAny_bind (tupleItemsOf_ ht ?_)
  refine wpAny_bind (wpAny_typeOf hTs ?_)
  rw [if_pos (by decide)]
  refine wpAny_bind (sliceApplied_gen hs pl pu ?_)
  rw [show sIx (#[] : Array Value).size 0 none = 0 from rfl, show sIx (#[] : Array Value).size (#[] : Array Value).size (some (-1)) = 0 by decide]
  show wpAny _ _ (if (((0 : Int) == 0) && ((1 : Int) == 1) && (0 == (#[] : Array Value).size)) = true then _ else _) _ _ s
  rw [if_pos (by decide)]
  show wpAny _ _ (Builtin.Tuple.tupleIsExact _ >>= _) _ _ s
  unfold Builtin.Tuple.tupleIsExact
  refine wpAny_bind (wpAny_bind (wpAny_typeOf ht.typeIs (wpAny_pure ?_)))
  rw [if_pos (by decide)]
  exact wpAny_bind (wpAny_rule (wpAny_pure ⟨_, rfl, wpAny_pure h⟩))
end
def tEvE (K : PySem.W.Frag) (te : TE) : TE := fun σ H Q => te σ H fun x H1 => ∃ a, x = .ref a ∧ SqT K H1 a [] ∧ ∀ p, H1 p = none → Q (.ref p) (upd H1 p (.tup []))
section
variable {X : Cx} {e : Expr} {te : TE} {k k2 : Nat} {p1 p2 p3 pos : Pos}
theorem pe_evE (he : PE X e te) : PE X (.Subscript e (.Slice none none (some (.Constant (.int 2) k p1)) p3) pos) (tEvE X.K te) := by
  refine ⟨fun pins s σ H Q I h => ?_⟩
  refine Subscript_ (thn (he.run pins s σ H _ I h) fun v s1 ⟨x, H1, I1, r1, a, ex, hx, q⟩ => ?_)
  subst ex
  cases r1
  have hst : PO X (some (.Constant (.int 2) k p1)) (tPart (tC (.int 2))) := po_some pe_int
  refine wpAny_Slice (thn (po_none.run pins s1 σ H1 (fun o H2 => o = none ∧ H2 = H1) I1 ⟨rfl, rfl⟩) fun vl s2 ⟨l, H2, I2, pl, el, e2⟩ => ?_)
  subst el e2
  refine thn (po_none.run pins s2 σ H2 (fun o H3 => o = none ∧ H3 = H2) I2 ⟨rfl, rfl⟩) fun vu s3 ⟨u, H3, I3, pu, eu, e3⟩ => ?_
  subst eu e3
  refine thn (hst.run pins s3 σ H3 (fun o H4 => o = some 2 ∧ H4 = H3) I3 ⟨2, rfl, rfl, rfl⟩) fun vs s4 ⟨o, H4, I4, ps, eo, e4⟩ => ?_
  subst eo e4
  have I5 : Inv X pins σ H4 { s4 with heap := s4.heap.push { cls := .type "slice", data := .fields #[vl, vu, vs] } } := I4.kept (t' := s4.toks) fun b ob q => Heap.get?_push_of_some _ q
  obtain ⟨its, r, ht, hz⟩ := I5.tuple hx
  cases r
  refine tail_any (s := { s4 with heap := s4.heap.push { cls := .type "slice", data := .fields #[vl, vu, vs] } }) (ops := [.ref a, .ref s4.heap.objs.size]) ht.typeIs (PyProof.Rows.slot_tuple_getitem.lookup) ?_ (by with_unfolding_all rfl)
  refine getItem_nil2 ht (Heap.IsSliceOf.new _ vl vu vs) pl (.inl rfl) pu ps ?_
  exact ⟨.ref _, _, I5.laid (t' := s4.toks) (o := .tup []) (fun b ob q => Heap.get?_push_of_some _ q) (Nat.le_refl _) ⟨Nat.zero_le _, [], .nil, IsTup.new _ _⟩, rfl, q _ (I5.hok.fresh (Nat.le_refl _))⟩
theorem pe_odE (he : PE X e te) : PE X (.Subscript e (.Slice (some (.Constant (.int 1) k2 p2)) none (some (.Constant (.int 2) k p1)) p3) pos) (tEvE X.K te) := by
  refine ⟨fun pins s σ H Q I h => ?_⟩
  refine Subscript_ (thn (he.run pins s σ H _ I h) fun v s1 ⟨x, H1, I1, r1, a, ex, hx, q⟩ => ?_)
  subst ex
  cases r1
  have hst : PO X (some (.Constant (.int 2) k p1)) (tPart (tC (.int 2))) := po_some pe_int
  have hlo : PO X (some (.Constant (.int 1) k2 p2)) (tPart (tC (.int 1))) := po_some pe_int
  refine wpAny_Slice (thn (hlo.run pins s1 σ H1 (fun o H2 => o = some 1 ∧ H2 = H1) I1 ⟨1, rfl, rfl, rfl⟩) fun vl s2 ⟨l, H2, I2, pl, el, e2⟩ => ?_)
  subst el e2
  refine thn (po_none.run pins s2 σ H2 (fun o H3 => o = none ∧ H3 = H2) I2 ⟨rfl, rfl⟩) fun vu s3 ⟨u, H3, I3, pu, eu, e3⟩ => ?_
  subst eu e3
  refine thn (hst.run pins s3 σ H3 (fun o H4 => o = some 2 ∧ H4 = H3) I3 ⟨2, rfl, rfl, rfl⟩) fun vs s4 ⟨o, H4, I4, ps, eo, e4⟩ => ?_
  subst eo e4
  have I5 : Inv X pins σ H4 { s4 with heap := s4.heap.push { cls := .type "slice", data := .fields #[vl, vu, vs] } } := I4.kept (t' := s4.toks) fun b ob q => Heap.get?_push_of_some _ q
  obtain ⟨its, r, ht, hz⟩ := I5.tuple hx
  cases r
  refine tail_any (s := { s4 with heap := s4.heap.push { cls := .type "slice", data := .fields #[vl, vu, vs] } }) (ops := [.ref a, .ref s4.heap.objs.size]) ht.typeIs (PyProof.Rows.slot_tuple_getitem.lookup) ?_ (by with_unfolding_all rfl)
  refine getItem_nil2 ht (Heap.IsSliceOf.new _ vl vu vs) pl (.inr rfl) pu ps ?_
  exact ⟨.ref _, _, I5.laid (t' := s4.toks) (o := .tup []) (fun b ob q => Heap.get?_push_of_some _ q) (Nat.le_refl _) ⟨Nat.zero_le _, [], .nil, IsTup.new _ _⟩, rfl, q _ (I5.hok.fresh (Nat.le_refl _))⟩
/-- the empty tuple up to its last item is itself -/
theorem sl_tupE : SlR X (fun x lo hi H Q => ∃ a, x = .ref a ∧ SqT X.K H a [] ∧ lo = none ∧ hi = some (-1) ∧ Q (.ref a) H) := by
  intro pins s σ H x v vl vu lo hi sl Q I rx hs pl pu h
  obtain ⟨a, rfl, hx, rfl, rfl, q⟩ := h
  cases rx
  obtain ⟨its, r, ht, hz⟩ := I.tuple hx
  cases r
  refine ⟨"tuple", _, PyProof.Rows.slot_tuple_getitem.lookup, ht.typeIs, ?_⟩
  exact getItem_nil1 ht hs pl pu ⟨.ref a, H, I, rfl, q⟩
end
theorem op_inDTE {X : Cx} (hu : X.A.units + 65 < cLine) : OpR X (compareOp .In) (fun x y H Q => ∃ d ds, Dp X.K H x d ∧ Dp X.K H y (.tuple ds) ∧ SeqAt.shaped d = true ∧ SeqAt.shaped (.list ds) = true ∧ Q (.bl (ds.any fun z => PyData.eqv z d)) H) := by
  intro pins s σ H x y v u Q I rx ry h
  obtain ⟨d, ds, hd, he, sd, se, q⟩ := h
  obtain ⟨as, r1⟩ := Dp.reads I d x v hd rx
  obtain ⟨bs, r2⟩ := Dp.reads I (.tuple ds) y u he ry
  exact SeqAt.in_tuple_reads r2 r1 (SeqAt.canLay_of_shaped se) (SeqAt.canLay_of_shaped sd) (room_in_shaped sd hu) ⟨.bl (ds.any fun y => y.eqv d), H, I, rfl, q⟩
end OH
end
section
set_option Elab.async false
set_option linter.all false
set_option maxRecDepth 100000
set_option maxHeartbeats 4000000
/-! Defs, methods, classes and properties with all that a call of them asks, in one word each. -/
namespace OH
open PySem PySem.Spec PyProof.Rows L2
section
variable (P : Program) (w : World) (K : PySem.W.Frag) (mg : Str → Option Value) (base : Heap) (CX : CXT) (k : Nat)
/-- the top's def of that name -/
def DefF (x : Str) (ps : List Str) (sp : Sp) : Prop := ∃ (f : Addr) (fd : FuncData), FnOk P w K mg base CX k f fd ps sp ∧ mg x = some (.ref f) ∧ PySem.W.keepIn K (.ref f) = true ∧ Binds K fd ps []
/-- the class's method of that name -/
def MetF (C : Addr) (m : Str) (ps : List Str) (sp : Sp) : Prop := ∃ (f : Addr) (fd : FuncData), FnOk P w K mg base CX k f fd ps sp ∧ Meth K C m f ∧ Binds K fd ps []
/-- the class itself, by its __init__ -/
def MakF (x : Str) (C : Addr) (ps : List Str) (sp : Sp) : Prop := ∃ (f : Addr) (fd : FuncData), FnOk P w K mg base CX k f fd ps sp ∧ Mk K C f ∧ mg x = some (.ref C) ∧ Binds K fd ps []
/-- the class's property of that name -/
def ProF (C : Addr) (m : Str) (sp : Sp) : Prop := ∃ (p g : Addr) (fd : FuncData), FnOk P w K mg base CX k g fd ["self"] sp ∧ PropOf K C m p g ∧ Binds K fd ["self"] []
end
section
variable {P : Program} {w : World} {K : PySem.W.Frag} {mg : Str → Option Value} {base : Heap} {CX : CXT} {j k : Nat} {x m : Str} {C : Addr} {ps : List Str} {sp sp' : Sp}
theorem DefF.mono (D : DefF P w K mg base CX j x ps sp) (h : j ≤ k) : DefF P w K mg base CX k x ps sp := let ⟨f, fd, F, r⟩ := D; ⟨f, fd, F.mono h, r⟩
theorem MetF.mono (D : MetF P w K mg base CX j C m ps sp) (h : j ≤ k) : MetF P w K mg base CX k C m ps sp := let ⟨f, fd, F, r⟩ := D; ⟨f, fd, F.mono h, r⟩
theorem MakF.mono (D : MakF P w K mg base CX j x C ps sp) (h : j ≤ k) : MakF P w K mg base CX k x C ps sp := let ⟨f, fd, F, r⟩ := D; ⟨f, fd, F.mono h, r⟩
theorem ProF.mono (D : ProF P w K mg base CX j C m sp) (h : j ≤ k) : ProF P w K mg base CX k C m sp := let ⟨f, fd, g, F, r⟩ := D; ⟨f, fd, g, F.mono h, r⟩
theorem DefF.imp (D : DefF P w K mg base CX k x ps sp) (h : ∀ vs H Q E, sp' vs H Q E → sp vs H Q E) : DefF P w K mg base CX k x ps sp' := let ⟨f, fd, F, r⟩ := D; ⟨f, fd, F.imp h, r⟩
theorem MetF.imp (D : MetF P w K mg base CX k C m ps sp) (h : ∀ vs H Q E, sp' vs H Q E → sp vs H Q E) : MetF P w K mg base CX k C m ps sp' := let ⟨f, fd, F, r⟩ := D; ⟨f, fd, F.imp h, r⟩
end
section
variable {X : Cx} {CX : CXT} {k : Nat} {C : Addr} {ps : List Str} {sp : Sp} {E : XK} {x m : Str} {p pos apos : Pos} {e o : Expr} {es : List Expr} {ta : TE} {t : TA}
theorem pe_cD (D : DefF X.prog X.w X.K X.mg X.base CX k x ps sp) (hr : Room k X.A) (hg : Gl X x) (hx : Passes CX X E) (ha : PA X (e :: es) t) (hdb : (x == ("__debug__" : Str)) = false := by decide)
    (he : starEach (e :: es) X.env = (false, eval e X.env) :: starEach es X.env := by rfl) (hpl : (backTo pos (starEach es X.env)).any (·.1) = false := by rfl) :
    PE X (.Call (.Name x p) (e :: es) [] pos) (tCall sp [] E t) := by
  obtain ⟨f, fd, F, h1, h2, h3⟩ := D
  exact pe_call F hr hg h1 h2 h3 .nil hx ha hdb he hpl
theorem pe_mD {pl : Sem Bool} (he : PE X o ta) (c : Cls X.K C) (D : MetF X.prog X.w X.K X.mg X.base CX k C m ps sp) (hr : Room k X.A) (hx : Passes CX X E) (ha : PA X (e :: es) t)
    (hst : starEach (e :: es) X.env = (false, eval e X.env) :: starEach es X.env := by rfl) (hpl : (backTo pos (starEach es X.env)).any (·.1) = false := by rfl)
    (ht : eval (.Call (.Attribute o m apos) (e :: es) [] pos) X.env = (do
      let ov ← eval o X.env
      standAt apos.atName
      let (f, first) ← holding [ov] (getMethod ov m pl)
      callWith pos f first (backTo pos (starEach (e :: es) X.env)) (backToKw pos (keywordEach [] X.env))) := by rfl) :
    PE X (.Call (.Attribute o m apos) (e :: es) [] pos) (tMeth C m sp [] E ta t) := by
  obtain ⟨f, fd, F, h1, h2⟩ := D
  exact pe_meth he c h1 F hr h2 .nil hx ha hst hpl ht
theorem pe_mD0 {pl : Sem Bool} (he : PE X o ta) (c : Cls X.K C) (D : MetF X.prog X.w X.K X.mg X.base CX k C m ps sp) (hr : Room k X.A) (hx : Passes CX X E)
    (ht : eval (.Call (.Attribute o m apos) [] [] pos) X.env = (do
      let ov ← eval o X.env
      standAt apos.atName
      let (f, first) ← holding [ov] (getMethod ov m pl)
      callWith pos f first (backTo pos (starEach [] X.env)) (backToKw pos (keywordEach [] X.env))) := by rfl) :
    PE X (.Call (.Attribute o m apos) [] [] pos) (tMeth C m sp [] E ta tNil) := by
  obtain ⟨f, fd, F, h1, h2⟩ := D
  exact pe_meth0 he c h1 F hr h2 .nil hx ht
theorem pe_kD (D : MakF X.prog X.w X.K X.mg X.base CX k x C ps sp) (hr : Room (k + 1) X.A) (hg : Gl X x) (hx : Passes CX X E) (ha : PA X (e :: es) t) (hdb : (x == ("__debug__" : Str)) = false := by decide)
    (he : starEach (e :: es) X.env = (false, eval e X.env) :: starEach es X.env := by rfl) (hpl : (backTo pos (starEach es X.env)).any (·.1) = false := by rfl) :
    PE X (.Call (.Name x p) (e :: es) [] pos) (tMake C sp [] E t) := by
  obtain ⟨f, fd, F, h1, h2, h3⟩ := D
  exact pe_make h1 F hr hg h2 h3 .nil hx ha hdb he hpl
theorem pe_pD (he : PE X e ta) (c : Cls X.K C) (D : ProF X.prog X.w X.K X.mg X.base CX k C m sp) (hr : Room (k + 1) X.A) (hx : Passes CX X.nox E) (hab : attributeBase e m X.env (eval e X.env) = eval e X.env) :
    PE X (.Attribute e m pos) (tProp C sp [] E ta) := by
  obtain ⟨q, g, fd, F, h1, h2⟩ := D
  exact pe_prop he c h1 F hr h2 .nil hx hab
end
end OH
end
section
set_option Elab.async false
set_option linter.all false
set_option maxRecDepth 100000
set_option maxHeartbeats 8000000
namespace OH
open PySem PySem.Spec PyProof.Rows L2
inductive Crs where
  | start (n : Int) | call (a b d n : Int) | back (a b n : Int) | deep (a b d n : Int) | done (n : Int) | fin (a : Int)
deriving DecidableEq
def Crs.vs : Crs → List V
  | .start n => [.str "start", .int n]
  | .call a b d n => [.str "call", .int a, .int b, .int d, .int n]
  | .back a b n => [.str "back", .int a, .int b, .int n]
  | .deep a b d n => [.str "deep", .int a, .int b, .int d, .int n]
  | .done n => [.str "done", .int n]
  | .fin a => [.str "end", .int a]
def Num (z : Int) : Prop := 0 ≤ z ∧ z ≤ 9999
/-- tuples at addresses, told by f -/
inductive AllAt {α : Type} (H : Hp) (f : α → List V) : List Addr → List α → Prop where
  | nil : AllAt H f [] []
  | cons {p : Addr} {x : α} {ps : List Addr} {xs : List α} : H p = some (.tup (f x)) → AllAt H f ps xs → AllAt H f (p :: ps) (x :: xs)
section
variable {α : Type} {H H' : Hp} {f : α → List V} {ps : List Addr} {xs : List α}
theorem AllAt.mono (h : AllAt H f ps xs) (k : ∀ q ys, H q = some (.tup ys) → H' q = some (.tup ys)) : AllAt H' f ps xs := by
  induction h with
  | nil => exact .nil
  | cons a _ ih => exact .cons (k _ _ a) ih
theorem AllAt.len (h : AllAt H f ps xs) : ps.length = xs.length := by
  induction h with
  | nil => rfl
  | cons _ _ ih => exact congrArg (· + 1) ih
theorem AllAt.app (h : AllAt H f ps xs) {p : Addr} {x : α} (hp : H p = some (.tup (f x))) : AllAt H f (ps ++ [p]) (xs ++ [x]) := by
  induction h with
  | nil => exact .cons hp .nil
  | cons a _ ih => exact .cons a ih
theorem AllAt.get (h : AllAt H f ps xs) : ∀ {i : Nat} {x : α}, xs[i]? = some x → ∃ p, ps[i]? = some p ∧ H p = some (.tup (f x)) := by
  induction h with
  | nil => intro i x e; cases i <;> cases e
  | cons a _ ih =>
    intro i x e
    cases i with
    | zero => exact ⟨_, rfl, by cases e; exact a⟩
    | succ i => exact ih e
theorem AllAt.take (h : AllAt H f ps xs) : ∀ n, AllAt H f (ps.take n) (xs.take n) := by
  induction h with
  | nil => intro n; cases n <;> exact .nil
  | cons a _ ih =>
    intro n
    cases n with
    | zero => exact .nil
    | succ n => exact .cons a (ih n)
theorem AllAt.pop (h : AllAt H f ps xs) : AllAt H f ps.dropLast xs.dropLast := by
  rw [List.dropLast_eq_take, List.dropLast_eq_take, h.len]
  exact h.take _
end
def pairV (q : Int × Int) : List V := [.int q.1, .int q.2]
structure Txt3 (mg : Str → Option Value) : Prop where
  gOpen : ∃ t, mg "MOST_OPEN" = some (.int 60 t)
  gRooms : ∃ t, mg "MOST_ROOMS" = some (.int 6 t)
  gImp : ∃ t, mg "MOST_IMPORTS" = some (.int 8 t)
  nSet : mg "set" = none
theorem isT_of {H : Hp} {a : Addr} {xs : List V} {lo hi : Int} (h : H a = some (.tup xs)) (h1 : lo ≤ (xs.length : Int)) (h2 : (xs.length : Int) ≤ hi) : isT H lo hi (.ref a) = true := by
  show (match H a with | some (.tup xs) => decide (lo ≤ (xs.length : Int)) && decide ((xs.length : Int) ≤ hi) | _ => false) = true
  rw [h]
  show (decide (lo ≤ (xs.length : Int)) && decide ((xs.length : Int) ≤ hi)) = true
  rw [decide_eq_true h1, decide_eq_true h2]
  rfl
theorem isW_in {lo hi i : Int} (h1 : lo ≤ i) (h2 : i ≤ hi) : isW lo hi (.int i) = true := by
  show (decide (lo ≤ i) && decide (i ≤ hi)) = true
  rw [decide_eq_true h1, decide_eq_true h2]
  rfl
theorem PairsAt.len {H : Hp} {ps : List Addr} {ws : List (Int × Int)} (h : PairsAt H ps ws) : ps.length = ws.length := by
  induction h with
  | nil => rfl
  | cons _ _ ih => exact congrArg (· + 1) ih
theorem PairsAt.get {H : Hp} {ps : List Addr} {ws : List (Int × Int)} (h : PairsAt H ps ws) : ∀ {i : Nat} {p : Addr}, ps[i]? = some p → ∃ q, ws[i]? = some q ∧ H p = some (.tup [.int q.1, .int q.2]) := by
  induction h with
  | nil => intro i p e; cases i <;> cases e
  | cons a _ ih =>
    intro i p e
    cases i with
    | zero => exact ⟨_, rfl, by cases e; exact a⟩
    | succ i => exact ih e
/-- pairs as lists of two -/
def keysP (ps : List Addr) (ws : List (Int × Int)) : List (Addr × List Int) := ps.zip (ws.map fun q => [q.1, q.2])
theorem keysP_facts {H : Hp} {ps : List Addr} {ws : List (Int × Int)} (h : PairsAt H ps ws) : (keysP ps ws).map (fun p => V.ref p.1) = ps.map V.ref ∧ (∀ p ∈ keysP ps ws, H p.1 = some (.tup (p.2.map V.int))) ∧ (keysP ps ws).map (·.2) = ws.map fun q => [q.1, q.2] := by
  induction h with
  | nil => exact ⟨rfl, fun p hp => absurd hp List.not_mem_nil, rfl⟩
  | @cons p q ps ws a _ ih =>
    obtain ⟨h1, h2, h3⟩ := ih
    refine ⟨?_, fun x hx => ?_, ?_⟩
    · show V.ref p :: (keysP ps ws).map (fun p => V.ref p.1) = V.ref p :: ps.map V.ref
      rw [h1]
    · rcases List.mem_cons.mp (show x ∈ (p, [q.1, q.2]) :: keysP ps ws from hx) with e | e
      · rw [e]; exact a
      · exact h2 x e
    · show [q.1, q.2] :: (keysP ps ws).map (·.2) = [q.1, q.2] :: ws.map fun q => [q.1, q.2]
      rw [h3]
theorem nodup_pairs (ws : List (Int × Int)) : (ws.map fun q => [q.1, q.2]).Nodup ↔ ws.Nodup := by
  constructor
  · exact fun h => L2.nodup_of_map h
  · intro h
    induction ws with
    | nil => exact List.nodup_nil
    | cons w ws ih =>
      obtain ⟨h1, h2⟩ := List.nodup_cons.mp h
      refine List.nodup_cons.mpr ⟨fun z => ?_, ih h2⟩
      obtain ⟨q, hq, e⟩ := List.mem_map.mp z
      refine h1 ?_
      injection e with e1 e2
      injection e2 with e2 _
      rw [show w = q from Prod.ext e1.symm e2.symm]
      exact hq
def spUnlike : Sp := fun vs H Q _ => ∃ (a : Addr) (ps : List Addr) (ws : List (Int × Int)), vs = [.ref a] ∧ H a = some (.tup (ps.map V.ref)) ∧ PairsAt H ps ws ∧ ws.length < 64 ∧ Q (.bl (decide ws.Nodup)) H
def spWires : Sp := fun vs H Q _ => ∃ (a dl : Addr) (own : Int) (ps : List Addr) (ws : List (Int × Int)) (ds : List Int), vs = [.ref a, .int own, .ref dl] ∧ H a = some (.tup (ps.map V.ref)) ∧ PairsAt H ps ws ∧ ws.length ≤ 8 ∧ ws.Nodup ∧ H dl = some (.tup (ds.map V.int)) ∧
  (∀ p ∈ ws, 0 ≤ p.1 ∧ p.1 < (ds.length : Int) ∧ p.1 ≠ own ∧ 0 ≤ p.2 ∧ p.2 < ds.getD p.1.toNat 0) ∧ Q (.bl true) H
def spNeedR : Sp := fun vs H Q _ => ∃ i m : Int, vs = [.int i, .int m] ∧ 0 ≤ i ∧ i < m ∧ Q .non H
section
variable {P : Program} {w : World} {K : PySem.W.Frag} {mg : Str → Option Value} {base : Heap} {CS CR aE : Addr}
theorem sc_all_unlike : FnScope ["things"] ["things"] (defScope s_all_unlike) := ⟨rfl, rfl, rfl, by decide +kernel, rfl, by decide +kernel, by decide +kernel⟩
theorem ok_all_unlike {f : Addr} {fd : FuncData} (F : Fun K "all_unlike" "all_unlike" s_all_unlike f fd) (T : Txt K mg) (T3 : Txt3 mg) : FnOk P w K mg base CX0 1 f fd ["things"] spUnlike := by
  refine F.ok sc_all_unlike (fun vs H Q E h => ?_) (fun cdv A outer s H vs Q E hr h => ?_)
  · obtain ⟨a, ps, ws, rfl, _⟩ := h
    rfl
  · obtain ⟨a, ps, ws, rfl, ha, hp, hl, k⟩ := h
    refine ⟨_, pss_one (ps_ret (pe_or (pe_cmpR op_lt (pe_callB call_len_seq (by rfl) T.nLen PySem.boot_len (pa_cons (pv 0) pa_nil)) pe_int (nomark _))
      (pe_one (pe_cmpR op_eq (pe_lenSetT hr.units rfl T.nLen rfl T3.nSet (pv 0)) (pe_callB call_len_seq (by rfl) T.nLen PySem.boot_len (pa_cons (pv 0) pa_nil)) (nomark _))))), ?_⟩
    refine ⟨_, rfl, a, _, rfl, .inr (SqT.of ha), _, _, rfl, rfl, ?_⟩
    rw [List.length_map, hp.len]
    refine ⟨_, rfl, ite2 (fun qs => ?_) (fun _ => ?_)⟩
    · have l2 : ws.length < 2 := by
        have : (ws.length : Int) < 2 := by simpa using qs
        omega
      have nd : ws.Nodup := by
        match ws, l2 with
        | [], _ => exact List.nodup_nil
        | [x], _ => exact List.nodup_cons.mpr ⟨List.not_mem_nil, List.nodup_nil⟩
      rw [decide_eq_true nd] at k
      exact k
    obtain ⟨f1, f2, f3⟩ := keysP_facts hp
    have l1 : (keysP ps ws).length = ws.length := by
      have := congrArg List.length f3
      rwa [List.length_map, List.length_map] at this
    refine ⟨_, rfl, a, keysP ps ws, rfl, by rw [f1]; exact SqT.of ha, fun p hp => SqT.of (f2 p hp), by omega, fun n hn => ?_⟩
    refine ⟨_, rfl, a, _, rfl, .inr (SqT.of ha), rfl, ?_⟩
    rw [List.length_map, hp.len]
    rw [f3, nodup_pairs, l1] at hn
    have e : decide ((V.int (n : Int)) = V.int (ws.length : Int)) = decide ws.Nodup := by
      by_cases z : ws.Nodup
      · rw [decide_eq_true z, hn.mpr z, decide_eq_true rfl]
      · rw [decide_eq_false z]
        refine decide_eq_false fun y => z (hn.mp ?_)
        injection y with y
        omega
    show Q (.bl (decide ((V.int (n : Int)) = V.int (ws.length : Int)))) H
    rw [e]
    exact k
theorem sc_are_wires : FnScope ["value", "own", "doors", "pair"] ["value", "own", "doors"] (defScope s_are_wires) := ⟨rfl, rfl, rfl, by decide +kernel, rfl, by decide +kernel, by decide +kernel⟩
theorem ok_are_wires {f : Addr} {fd : FuncData} (F : Fun K "are_wires" "are_wires" s_are_wires f fd) (T : Txt K mg) (T3 : Txt3 mg)
    (DT : DefF P w K mg base CX0 1 "is_tuple" ["value", "least", "most"] spTuple) (DW : DefF P w K mg base CX0 1 "is_whole" ["value", "low", "high"] spWhole) (DU : DefF P w K mg base CX0 1 "all_unlike" ["things"] spUnlike) :
    FnOk P w K mg base CX0 2 f fd ["value", "own", "doors"] spWires := by
  refine F.ok sc_are_wires (fun vs H Q E h => ?_) (fun cdv A outer s H vs Q E hr h => ?_)
  · obtain ⟨a, dl, own, ps, ws, ds, rfl, _⟩ := h
    rfl
  · obtain ⟨a, dl, own, ps, ws, ds, rfl, ha, hp, h8, hN, hd, hw, k⟩ := h
    have nd := sc_are_wires.nd
    obtain ⟨t8, g8⟩ := T3.gImp
    refine ⟨_, pss_cons (ps_if (pt_not (pt_val (pe_cD DT hr rfl pass0 (pa_cons (pv 0) (pa_cons pe_int (pa_cons (pe_glob (v := .int 8) rfl g8 ⟨t8, rfl⟩) pa_nil)))))) (pss_one (ps_ret pe_bl)) pss_nil)
      (pss_cons (ps_for PassesOwn.never rfl (pi_tup (pv 0)) (pg_name (i := 3) nd rfl (Or.inl rfl))
        (pss_cons (ps_if (PW.pt (pw_or (pt_not (pt_val (pe_cD DT hr rfl pass0 (pa_cons (pv 3) (pa_cons pe_int (pa_cons pe_int pa_nil))))))
          (pw_or (pt_not (pt_val (pe_cD DW hr rfl pass0 (pa_cons (pe_ix ix_tup (pv 3) pe_int (fun _ _ => rfl)) (pa_cons pe_int (pa_cons (pe_op op_sub (pe_callB call_len_seq (by rfl) T.nLen PySem.boot_len (pa_cons (pv 2) pa_nil)) pe_int) pa_nil))))))
          (pw_or1 (pt_cmpR op_eq (pe_ix ix_tup (pv 3) pe_int (fun _ _ => rfl)) (pv 1) (nomark _)))))) (pss_one (ps_ret pe_bl)) pss_nil)
        (pss_one (ps_if (pt_not (pt_val (pe_cD DW hr rfl pass0 (pa_cons (pe_ix ix_tup (pv 3) pe_int (fun _ _ => rfl)) (pa_cons pe_int (pa_cons (pe_op op_sub (pe_ix ix_tup (pv 2) (pe_ix ix_tup (pv 3) pe_int (fun _ _ => rfl)) (fun _ _ => rfl)) pe_int) pa_nil)))))) (pss_one (ps_ret pe_bl)) pss_nil))))
      (pss_one (ps_ret (pe_cD DU hr rfl pass0 (pa_cons (pv 0) pa_nil))))), ?_⟩
    refine ⟨_, rfl, .ref a, 0, 8, rfl, .inl ⟨_, ha⟩, _, rfl, ?_⟩
    rw [isT_of ha (by omega) (by rw [List.length_map, hp.len]; omega)]
    refine iteF ?_
    refine ⟨_, rfl, a, rfl, ⟨_, SqT.of ha⟩, ?_⟩
    refine for_tup (xs := ps.map V.ref) (fun i σ H' => ∃ o : Option V, σ = [some (.ref a), some (.int own), some (.ref dl), o] ∧ H' = H) ⟨none, rfl, rfl⟩ ?_ ?_ ?_
    · rintro i σ H' _ ⟨o, rfl, rfl⟩
      exact SqT.of ha
    · rintro i x σ H' hx ⟨o, rfl, rfl⟩
      rw [List.getElem?_map] at hx
      obtain ⟨p, hp1, rfl⟩ := Option.map_eq_some_iff.mp hx
      obtain ⟨q, hq, hpp⟩ := hp.get hp1
      obtain ⟨w1, w2, w3, w4, w5⟩ := hw q (List.mem_of_getElem? hq)
      have hi : q.1.toNat < ds.length := by omega
      have cast : (q.1.toNat : Int) = q.1 := Int.toNat_of_nonneg w1
      obtain ⟨z, hz⟩ : ∃ z, ds[q.1.toNat]? = some z := ⟨_, List.getElem?_eq_getElem hi⟩
      have gz : ds.getD q.1.toNat 0 = z := by rw [List.getD_eq_getElem?_getD, hz]; rfl
      rw [gz] at w5
      have at1 : atI (ds.map V.int) q.1 = some (.int z) := by
        rw [← cast]
        exact atI_nat (by rw [List.getElem?_map, hz]; rfl)
      refine ⟨_, rfl, .ref p, 2, 2, rfl, .inl ⟨_, hpp⟩, _, rfl, ?_⟩
      rw [isT_of hpp (Int.le_refl 2) (Int.le_refl 2)]
      refine iteF ?_
      refine ⟨_, rfl, p, _, 0, _, rfl, rfl, SqT.of hpp, rfl, _, rfl, dl, _, rfl, .inr (SqT.of hd), _, _, rfl, rfl, ?_⟩
      refine ⟨.int q.1, 0, _, rfl, trivial, _, rfl, ?_⟩
      rw [List.length_map, isW_in w1 (by omega)]
      refine iteF ?_
      refine ⟨_, rfl, p, _, 0, _, rfl, rfl, SqT.of hpp, rfl, _, rfl, rfl, _, rfl, ?_⟩
      refine ite2 (fun z => absurd (V.int.inj (of_decide_eq_true z)) w3) (fun _ => ?_)
      refine ⟨_, rfl, p, _, 1, _, rfl, rfl, SqT.of hpp, rfl, _, rfl, _, rfl, p, _, 0, _, rfl, rfl, SqT.of hpp, rfl, dl, _, q.1, _, rfl, rfl, SqT.of hd, at1, _, _, rfl, rfl, ?_⟩
      refine ⟨.int q.2, 0, _, rfl, trivial, _, rfl, ?_⟩
      rw [isW_in w4 (by omega)]
      exact iteF ⟨_, rfl, rfl⟩
    · rintro σ H' ⟨o, rfl, rfl⟩
      refine ⟨_, rfl, a, ps, ws, rfl, ha, hp, by omega, ?_⟩
      rw [decide_eq_true hN]
      exact k
end
end OH
end
section
set_option Elab.async false
set_option linter.all false
set_option maxRecDepth 100000
set_option maxHeartbeats 8000000
/-! The law's shuffling. -/
namespace OH
open PySem PySem.Spec PyProof.Rows L2
section
variable {H H' : Hp}
theorem PairsAt.erase {ps : List Addr} {ws : List (Int × Int)} (h : PairsAt H ps ws) : ∀ k, PairsAt H (ps.eraseIdx k) (ws.eraseIdx k) := by
  induction h with
  | nil => intro k; cases k <;> exact .nil
  | cons a b ih =>
    intro k
    cases k with
    | zero => exact b
    | succ k => exact .cons a (ih k)
theorem PairsAt.app {ps : List Addr} {ws : List (Int × Int)} (h : PairsAt H ps ws) {p : Addr} {q : Int × Int} (hp : H p = some (.tup [.int q.1, .int q.2])) : PairsAt H (ps ++ [p]) (ws ++ [q]) := by
  induction h with
  | nil => exact .cons hp .nil
  | cons a _ ih => exact .cons a ih
theorem PairsAt.apps {ps qs : List Addr} {ws us : List (Int × Int)} (h : PairsAt H ps ws) (h2 : PairsAt H qs us) : PairsAt H (ps ++ qs) (ws ++ us) := by
  induction h with
  | nil => exact h2
  | cons a _ ih => exact .cons a ih
theorem PairsAt.taken {ps : List Addr} {ws : List (Int × Int)} (h : PairsAt H ps ws) : ∀ k, PairsAt H (ps.take k) (ws.take k) := by
  induction h with
  | nil => intro k; cases k <;> exact .nil
  | cons a _ ih =>
    intro k
    cases k with
    | zero => exact .nil
    | succ k => exact .cons a (ih k)
theorem map_erase {α β : Type} (f : α → β) : ∀ (l : List α) (k : Nat), (l.map f).eraseIdx k = (l.eraseIdx k).map f
  | [], k => by cases k <;> rfl
  | x :: l, 0 => rfl
  | x :: l, k + 1 => congrArg (f x :: ·) (map_erase f l k)
theorem erase_perm {α : Type} : ∀ (l : List α) (k : Nat) (x : α), l[k]? = some x → (x :: l.eraseIdx k).Perm l
  | [], k, x, h => by cases k <;> cases h
  | y :: l, 0, x, h => by cases h; exact List.Perm.refl _
  | y :: l, k + 1, x, h => ((List.Perm.swap y x _).trans ((erase_perm l k x h).cons y))
theorem fr_tup {st g c : Addr} {n : Nat} (S : SA H st g c n) (F : Fr st g H H') : ∀ q xs, H q = some (.tup xs) → H' q = some (.tup xs) := fun q xs e => by
  obtain ⟨_, ⟨gs, g1, _⟩, _⟩ := id S
  exact F q _ e (S.ne_st e (fun _ z => nomatch z)) (ne_of e g1 (fun z => nomatch z))
/-- a new list of the same pairs in another sequence -/
def spShuf : Sp := fun vs H Q _ => ∃ (st g c a : Addr) (n : Nat) (ps : List Addr) (qs : List (Int × Int)), vs = [.ref st, .ref a] ∧ SA H st g c n ∧ n ≤ 800000 ∧ H a = some (.lst (ps.map V.ref)) ∧ PairsAt H ps qs ∧ a ≠ g ∧ ps.length ≤ 1000 ∧
  ∀ (p : Addr) (ps' : List Addr) (qs' : List (Int × Int)) (H' : Hp), H p = none → p ≠ st → p ≠ g → p ≠ c → H' p = some (.lst (ps'.map V.ref)) → PairsAt H' ps' qs' → qs'.Perm qs → SA H' st g c (n + ps.length) → Fr st g H H' → Q (.ref p) H'
theorem eqv_nil (ws : List PyData) : PyData.eqv (.list ws) (.list []) = ws.isEmpty := by
  cases ws <;> rfl
end
section
variable {P : Program} {w : World} {K : PySem.W.Frag} {mg : Str → Option Value} {base : Heap} {CS CR CM aE : Addr}
theorem sc__law_shuffled : FnScope ["state", "some", "left", "found"] ["state", "some"] (defScope s__law_shuffled) := ⟨rfl, rfl, rfl, by decide +kernel, rfl, by decide +kernel, by decide +kernel⟩
theorem ok__law_shuffled {f : Addr} {fd : FuncData} (F : Fun K "_law_shuffled" "_law_shuffled" s__law_shuffled f fd) (T : Txt K mg)
    (DD : DefF P w K mg base CX0 2 "_law_draw" ["state", "room"] spDraw) : FnOk P w K mg base CX0 3 f fd ["state", "some"] spShuf := by
  refine F.ok sc__law_shuffled (fun vs H Q E h => ?_) (fun cdv A outer s H vs Q E hr h => ?_)
  · obtain ⟨st, g, c, a, n, ps, qs, rfl, _⟩ := h
    rfl
  · obtain ⟨st, g, c, a, n, ps, qs, rfl, S, hn, ha, hp, ag, l1, k⟩ := h
    have nd := sc__law_shuffled.nd
    refine ⟨_, pss_cons (ps_par (i := 2) (j := 3) (by rfl) nd rfl rfl (by decide) rfl rfl (pa_cons (pe_callTy call_list_of (by rfl) T.nList (by decide +kernel) (pa_cons (pv 1) pa_nil)) (pa_cons (pe_lst pa_nil) pa_nil)) (by rfl))
      (pss_cons (ps_while PassesOwn.never (pt_cmpR (op_neD hr.units) (pv 2) (pe_lst pa_nil) (nomark _))
        (pss_one (ps_expr (pe_bm PySem.F.plainAttrs_list PySem.F.slot_list_append PySem.F.type_list_append mt_append (pv 3)
          (pa_cons (pe_bm PySem.F.plainAttrs_list PySem.F.slot_list_pop PySem.F.type_list_pop mt_popAt (pv 2) (pa_cons (pe_cD DD hr rfl pass0 (pa_cons (pv 0) (pa_cons (pe_callB call_len_seq (by rfl) T.nLen PySem.boot_len (pa_cons (pv 2) pa_nil)) pa_nil))) pa_nil)) pa_nil)))))
      (pss_one (ps_ret (pv 3)))), ?_⟩
    refine ⟨_, rfl, a, _, rfl, .inl (SqL.of ha), fun L nL => ⟨(by show 0 ≤ sizeLine; decide), fun D nD => ⟨_, _, rfl, ?_⟩⟩⟩
    have s1 := sadd (o := .lst (ps.map V.ref)) (Same.refl H) nL
    have s2 := sadd (o := .lst []) s1 nD
    have nLD : L ≠ D := ne_of_none upd_same nD
    have zL := S.old nL
    have zD := S.old (s1.free nD)
    have hL0 : upd (upd H L (.lst (ps.map V.ref))) D (.lst []) L = some (.lst (ps.map V.ref)) := upd_under nLD
    have hD0 : upd (upd H L (.lst (ps.map V.ref))) D (.lst []) D = some (.lst []) := upd_same
    have D0 : H D = none := s1.free nD
    generalize upd (upd H L (.lst (ps.map V.ref))) D (.lst []) = H1 at s2 hL0 hD0 ⊢
    refine while_by (fun σ H' => ∃ (p1 p2 : List Addr) (q1 q2 : List (Int × Int)), σ = [some (.ref st), some (.ref a), some (.ref L), some (.ref D)] ∧ H' L = some (.lst (p1.map V.ref)) ∧ H' D = some (.lst (p2.map V.ref)) ∧ PairsAt H' p1 q1 ∧ PairsAt H' p2 q2 ∧
        (q1 ++ q2).Perm qs ∧ p1.length + p2.length = ps.length ∧ SA H' st g c (n + p2.length) ∧ Fr st g H H')
      (fun _ H' => match H' L with | some (.lst xs) => xs.length | _ => 0) ?h0 ?turn ?mono
    case h0 => exact ⟨ps, [], qs, [], rfl, hL0, hD0, hp.mono (fun q xs e => s2 _ _ e), .nil, by rw [List.append_nil], rfl, S.same s2, Fr.of s2⟩
    case mono =>
      rintro σ H' Q1 Q2 hQ ⟨x, e1, hl, f⟩
      refine ⟨x, e1, hl, fun l nl => ?_⟩
      obtain ⟨d, e, h1, h2, h3, h4, kk, e5, q⟩ := f l nl
      exact ⟨d, e, h1, h2, h3, h4, kk, e5, hQ _ _ q⟩
    case turn =>
      rintro σ H2 ⟨p1, p2, q1, q2, rfl, hL, hD, hp1, hp2, pm, hlen, S2, F2⟩
      refine ⟨_, rfl, (by show 0 ≤ sizeLine; decide), fun l nl => ?_⟩
      have sl := sadd (o := .lst []) (Same.refl H2) nl
      have hl1 : upd H2 l (.lst []) l = some (.lst []) := upd_same
      have hL3 := sl _ _ hL
      have hD3 := sl _ _ hD
      have hp13 := hp1.mono fun q xs e => sl _ _ e
      have hp23 := hp2.mono fun q xs e => sl _ _ e
      have S3 := S2.same sl
      have F3 := F2.trans (Fr.of sl)
      have eL : (match H2 L with | some (.lst xs) => xs.length | _ => 0) = p1.length := by rw [hL]; exact List.length_map ..
      generalize upd H2 l (.lst []) = H3 at sl hl1 hL3 hD3 hp13 hp23 S3 F3 ⊢
      refine ⟨.list (q1.map pairD), .list [], .lst (SqL.of hL3) hp13.dp, .lst (SqL.of hl1) .nil, shaped_pairs q1, rfl, _, rfl, ?_⟩
      rw [eqv_nil]
      have l11 := hp13.len
      cases q1 with
      | nil =>
        refine iteF ?_
        have e1 : p1 = [] := List.length_eq_zero_iff.mp l11
        subst e1
        have e2 : p2.length = ps.length := by
          have : ([] : List Addr).length = 0 := rfl
          omega
        refine ⟨_, rfl, k D p2 q2 H3 D0 zD.1 zD.2.1 zD.2.2 hD3 hp23 pm (by rw [← e2]; exact S3) F3⟩
      | cons w q1 =>
        refine iteT ?_
        have pos : 0 < p1.length := by rw [l11]; exact Nat.succ_pos _
        refine ⟨_, rfl, .inl ⟨rfl, _, SqL.of hD3⟩, _, rfl, .inl ⟨rfl, _, SqL.of hL3⟩, ?_⟩
        refine ⟨_, rfl, _, rfl, L, _, rfl, .inl (SqL.of hL3), ?_⟩
        rw [List.length_map]
        refine ⟨st, g, c, n + p2.length, _, rfl, S3, by omega, by omega, by omega, fun z H4 z0 z1 S4 F4 => ?_⟩
        have hL4 := F4 L _ hL3 zL.1 zL.2.1
        have hD4 := F4 D _ hD3 zD.1 zD.2.1
        have hp14 := hp13.mono (fr_tup S3 F4)
        have hp24 := hp23.mono (fr_tup S3 F4)
        have hz : z.toNat < p1.length := by omega
        obtain ⟨r, hr1⟩ : ∃ r, p1[z.toNat]? = some r := ⟨_, List.getElem?_eq_getElem hz⟩
        obtain ⟨v, hv1, hv2⟩ := hp14.get hr1
        have sx : seqIndex? z (p1.map V.ref).length = some z.toNat := (ixN_seq (by unfold L2.ixN; rw [if_pos z0, if_pos (by rw [List.length_map]; omega)])).1
        refine ⟨L, _, z, z.toNat, .ref r, rfl, rfl, hL4, by omega, by omega, sx, (by rw [List.getElem?_map, hr1]; rfl), ?_⟩
        have eE : (p1.map V.ref).eraseIdx z.toNat = (p1.eraseIdx z.toNat).map V.ref := by
          exact map_erase ..
        rw [eE]
        have kt : ∀ (o : List V) q xs, H4 q = some (.tup xs) → upd H4 L (.lst o) q = some (.tup xs) := fun o q xs e => (upd_ne (ne_of e hL4 (fun y => nomatch y))).trans e
        refine ⟨D, _, _, rfl, rfl, (upd_ne nLD.symm).trans hD4, (by rw [List.length_map, sizeLine_eq]; omega), ?_⟩
        have kt2 : ∀ (o o2 : List V) q xs, H4 q = some (.tup xs) → upd (upd H4 L (.lst o)) D (.lst o2) q = some (.tup xs) := fun o o2 q xs e => (upd_ne (ne_of e hD4 (fun y => nomatch y))).trans (kt o q xs e)
        have S5 : SA (upd (upd H4 L (.lst ((p1.eraseIdx z.toNat).map V.ref))) D (.lst (p2.map V.ref ++ [.ref r]))) st g c (n + p2.length + 1) := (S4.put zL).put zD
        have el2 : (p1.eraseIdx z.toNat).length = p1.length - 1 := by rw [List.length_eraseIdx, if_pos hz]
        refine ⟨⟨p1.eraseIdx z.toNat, p2 ++ [r], (w :: q1).eraseIdx z.toNat, q2 ++ [v], rfl, (upd_ne nLD).trans upd_same, by rw [upd_same, List.map_append]; rfl, ?_, ?_, ?_, ?_, ?_, ?_⟩, ?_⟩
        · exact (hp14.erase _).mono (kt2 _ _)
        · exact (hp24.mono (kt2 _ _)).app (kt2 _ _ _ _ hv2)
        · refine List.Perm.trans ?_ pm
          have e1 := erase_perm (w :: q1) z.toNat v hv1
          have e2 : ((w :: q1).eraseIdx z.toNat ++ (q2 ++ [v])).Perm ((w :: q1).eraseIdx z.toNat ++ ([v] ++ q2)) := (List.perm_append_comm).append_left _
          refine e2.trans ?_
          rw [← List.append_assoc]
          exact ((List.perm_append_comm).trans e1).append_right _
        · rw [List.length_append, el2]
          show p1.length - 1 + (p2.length + 1) = _
          omega
        · rw [List.length_append]
          exact S5
        · intro b o e h1 h2
          have e4 := (F3.trans F4) b o e h1 h2
          have nbL : b ≠ L := ne_of_none e nL
          have nbD : b ≠ D := ne_of_none e D0
          exact (upd_ne nbD).trans ((upd_ne nbL).trans e4)
        · show (match upd (upd H4 L (.lst ((p1.eraseIdx z.toNat).map V.ref))) D (.lst (p2.map V.ref ++ [.ref r])) L with | some (.lst xs) => xs.length | _ => 0) < (match H2 L with | some (.lst xs) => xs.length | _ => 0)
          rw [eL, (upd_ne nLD).trans upd_same]
          show ((p1.eraseIdx z.toNat).map V.ref).length < _
          rw [List.length_map, el2]
          omega
end
end OH
end
section
set_option Elab.async false
set_option linter.all false
set_option maxRecDepth 100000
set_option maxHeartbeats 1000000
/-! Rows and views in plain words. -/
namespace OH
open PySem PySem.Spec PyProof.Rows L2
inductive It where
  | inn (d n : Int) | got (n : Int) | calls (a d n : Int) | gives (n : Int) | ends
deriving DecidableEq
def It.vs : It → List V
  | .inn d n => [.str "in", .int d, .int n]
  | .got n => [.str "got", .int n]
  | .calls a d n => [.str "calls", .int a, .int d, .int n]
  | .gives n => [.str "gives", .int n]
  | .ends => [.str "ends"]
/-- a face: its depth, room by room its wires, the counts of doors -/
structure Fc where
  dep : Int
  wir : List (List (Int × Int))
  dor : List Int
def Fc.ws (F : Fc) (i : Nat) : List (Int × Int) := F.wir.getD i []
def Fc.R (F : Fc) : Nat := F.dor.length
structure Fc.Ok (F : Fc) : Prop where
  d1 : 1 ≤ F.dep
  d60 : F.dep ≤ 60
  lw : F.wir.length = F.R
  m1 : 1 ≤ F.R
  m6 : F.R ≤ 6
  dz : ∀ z ∈ F.dor, 1 ≤ z ∧ z ≤ 6
  wi : ∀ i, i < F.R → (F.ws i).length ≤ 8 ∧ (F.ws i).Nodup ∧ ∀ p ∈ F.ws i, 0 ≤ p.1 ∧ p.1 < (F.R : Int) ∧ p.1 ≠ i ∧ 0 ≤ p.2 ∧ p.2 < F.dor.getD p.1.toNat 0
abbrev Rs := Option Int × List (Int × Int)
/-- control and the open asks behind a crossing -/
def bh (s : Rs) : Crs → Rs
  | .start _ => (some 0, s.2)
  | .call a b _ _ => (some b, s.2 ++ [(a, b)])
  | .back _ b _ => (some b, s.2.dropLast)
  | _ => (none, s.2)
/-- what may come next where c has control -/
def Nx (F : Fc) (c : Int) (asks : List (Int × Int)) : Crs → Prop
  | .start _ => False
  | .call a b d n => a = c ∧ (b, d) ∈ F.ws c.toNat ∧ (asks.length : Int) < F.dep ∧ Num n
  | .deep a b d n => a = c ∧ (b, d) ∈ F.ws c.toNat ∧ (asks.length : Int) = F.dep ∧ Num n
  | .back a b n => a = c ∧ (∃ q, asks.getLast? = some q ∧ b = q.1) ∧ Num n
  | .done n => asks = [] ∧ Num n
  | .fin a => a = c
def VRr (F : Fc) : Rs → List Crs → Prop
  | _, [] => True
  | s, x :: xs => (∃ c, s.1 = some c ∧ Nx F c s.2 x) ∧ VRr F (bh s x) xs
def VR (F : Fc) (cs : List Crs) : Prop := ∃ n xs, cs = .start n :: xs ∧ Num n ∧ VRr F (some 0, []) xs
/-- the open asks hang together -/
inductive Chain (F : Fc) : List (Int × Int) → Int → Prop where
  | nil : Chain F [] 0
  | snoc {as : List (Int × Int)} {a b : Int} : Chain F as a → 0 ≤ b → b < (F.R : Int) → a ≠ b → Chain F (as ++ [(a, b)]) b
def stt (s : Rs) (cs : List Crs) : Rs := cs.foldl bh s
structure SOk (F : Fc) (s : Rs) : Prop where
  ch : ∃ c, Chain F s.2 c ∧ (s.1 = some c ∨ s.1 = none)
  le : (s.2.length : Int) ≤ F.dep
theorem Chain.inv {F : Fc} {asks : List (Int × Int)} {c : Int} (h : Chain F asks c) : (asks = [] ∧ c = 0) ∨ ∃ as a, asks = as ++ [(a, c)] ∧ Chain F as a ∧ a ≠ c := by
  cases h with
  | nil => exact .inl ⟨rfl, rfl⟩
  | snoc h h1 h2 h3 => exact .inr ⟨_, _, rfl, h, h3⟩
theorem Chain.rng {F : Fc} (hF : F.Ok) {asks : List (Int × Int)} {c : Int} (h : Chain F asks c) : 0 ≤ c ∧ c < (F.R : Int) := by
  cases h with
  | nil => have := hF.m1; exact ⟨by omega, by omega⟩
  | snoc _ h1 h2 _ => exact ⟨h1, h2⟩
theorem SOk.ctl {F : Fc} {s : Rs} (h : SOk F s) {c : Int} (hc : s.1 = some c) : Chain F s.2 c := by
  obtain ⟨c', h1, h2 | h2⟩ := h.ch
  · rw [hc] at h2
    cases h2
    exact h1
  · rw [hc] at h2
    cases h2
theorem SOk.step {F : Fc} (hF : F.Ok) {s : Rs} (h : SOk F s) {c : Int} (hc : s.1 = some c) {x : Crs} (hx : Nx F c s.2 x) : SOk F (bh s x) := by
  have ch := h.ctl hc
  obtain ⟨c0, c1⟩ := ch.rng hF
  cases x with
  | start n => exact hx.elim
  | call a b d n =>
    obtain ⟨e, hw, hl, _⟩ := hx
    subst e
    obtain ⟨w1, w2, w3, _⟩ := (hF.wi a.toNat (by omega)).2.2 _ hw
    have w1' : 0 ≤ b := w1
    have w2' : b < (F.R : Int) := w2
    have w3' : b ≠ (a.toNat : Int) := w3
    refine ⟨⟨b, .snoc ch w1' w2' (by omega), .inl rfl⟩, ?_⟩
    show ((s.2 ++ [(a, b)]).length : Int) ≤ F.dep
    rw [List.length_append]
    show ((s.2.length + 1 : Nat) : Int) ≤ _
    omega
  | back a b n =>
    obtain ⟨e, ⟨q, hq, hb⟩, _⟩ := hx
    have hl := h.le
    rcases ch.inv with ⟨e0, _⟩ | ⟨as, a', e0, h0, _⟩
    · rw [e0] at hq
      cases hq
    · rw [e0, List.getLast?_concat] at hq
      cases hq
      have hb' : b = a' := hb
      subst hb'
      refine ⟨⟨b, ?_, .inl rfl⟩, ?_⟩
      · show Chain F s.2.dropLast b
        rw [e0, List.dropLast_concat]
        exact h0
      · show (s.2.dropLast.length : Int) ≤ F.dep
        rw [List.length_dropLast]
        omega
  | deep a b d n => exact ⟨⟨c, ch, .inr rfl⟩, h.le⟩
  | done n => exact ⟨⟨c, ch, .inr rfl⟩, h.le⟩
  | fin a => exact ⟨⟨c, ch, .inr rfl⟩, h.le⟩
theorem SOk.init {F : Fc} (hF : F.Ok) : SOk F (some 0, []) := ⟨⟨0, .nil, .inl rfl⟩, by have := hF.d1; show ((0 : Nat) : Int) ≤ F.dep; omega⟩
theorem VRr.ok {F : Fc} (hF : F.Ok) : ∀ {xs : List Crs} {s : Rs}, SOk F s → VRr F s xs → SOk F (stt s xs)
  | [], _, h, _ => h
  | x :: xs, s, h, ⟨⟨c, hc, hx⟩, hr⟩ => VRr.ok (xs := xs) (s := bh s x) hF (h.step hF hc hx) hr
theorem VRr.take {F : Fc} : ∀ {xs : List Crs} {s : Rs}, VRr F s xs → ∀ k, VRr F s (xs.take k)
  | [], _, _, k => by rw [List.take_nil]; trivial
  | x :: xs, s, ⟨h1, h2⟩, 0 => trivial
  | x :: xs, s, ⟨h1, h2⟩, k + 1 => ⟨h1, h2.take k⟩
theorem VRr.snoc {F : Fc} {x : Crs} {c : Int} : ∀ {xs : List Crs} {s : Rs}, VRr F s xs → (stt s xs).1 = some c → Nx F c (stt s xs).2 x → VRr F s (xs ++ [x])
  | [], s, _, h1, h2 => ⟨⟨c, h1, h2⟩, trivial⟩
  | y :: xs, s, ⟨h0, hr⟩, h1, h2 => ⟨h0, hr.snoc h1 h2⟩
theorem VR.take {F : Fc} {cs : List Crs} (h : VR F cs) (k : Nat) : VR F (cs.take (k + 1)) := by
  obtain ⟨n, xs, rfl, hn, hr⟩ := h
  exact ⟨n, xs.take k, rfl, hn, hr.take k⟩
theorem VR.snoc {F : Fc} {cs : List Crs} (h : VR F cs) {x : Crs} {c : Int} (h1 : (stt (none, []) cs).1 = some c) (h2 : Nx F c (stt (none, []) cs).2 x) : VR F (cs ++ [x]) := by
  obtain ⟨n, xs, rfl, hn, hr⟩ := h
  exact ⟨n, xs ++ [x], rfl, hn, hr.snoc h1 h2⟩
theorem VR.ok {F : Fc} (hF : F.Ok) {cs : List Crs} (h : VR F cs) : SOk F (stt (none, []) cs) := by
  obtain ⟨n, xs, rfl, hn, hr⟩ := h
  exact VRr.ok (s := (some 0, [])) (xs := xs) hF (SOk.init hF) hr
theorem stt_snoc (s : Rs) (cs : List Crs) (x : Crs) : stt s (cs ++ [x]) = bh (stt s cs) x := by
  unfold stt
  rw [List.foldl_append]
  rfl
/-- what a crossing shows of a room -/
def shown (r : Int) : Crs → List It
  | .start n => if r = 0 then [.inn 0 n] else []
  | .call a b d n => (if r = a then [It.calls b d n] else []) ++ (if r = b then [It.inn d n] else [])
  | .back a b n => (if r = a then [It.gives n] else []) ++ (if r = b then [It.got n] else [])
  | .deep a b d n => if r = a then [.calls b d n] else []
  | .done n => if r = 0 then [.gives n] else []
  | .fin a => if r = a then [.ends] else []
def vw (r : Int) (cs : List Crs) : List It := cs.flatMap (shown r)
theorem vw_app (r : Int) (xs ys : List Crs) : vw r (xs ++ ys) = vw r xs ++ vw r ys := List.flatMap_append ..
theorem vw_cons (r : Int) (x : Crs) (ys : List Crs) : vw r (x :: ys) = shown r x ++ vw r ys := List.flatMap_cons ..
theorem vw_le (r : Int) {xs ys : List Crs} (h : xs <+: ys) : vw r xs <+: vw r ys := by
  obtain ⟨zs, rfl⟩ := h
  rw [vw_app]
  exact List.prefix_append ..
end OH
end
section
set_option Elab.async false
set_option linter.all false
set_option maxRecDepth 100000
set_option maxHeartbeats 1000000
/-! Views put together. -/
namespace OH
open PySem PySem.Spec PyProof.Rows L2
structure Jn where
  cnt : List Nat
  asks : List Nat
  joint : List Crs
def vat (vs : List (List It)) (r : Nat) : List It := vs.getD r []
def cat_ (cnt : List Nat) (r : Nat) : Nat := cnt.getD r 0
def nextI (vs : List (List It)) (cnt : List Nat) (r : Nat) : Option It := (vat vs r)[cat_ cnt r]?
def bump (cnt : List Nat) (r : Nat) : List Nat := cnt.set r (cat_ cnt r + 1)
inductive JR where
  | err (r at_ : Nat)
  | ok (c : Option Nat) (J : Jn)
def It.num : It → Int
  | .inn d _ => d
  | .got n => n
  | .calls a _ _ => a
  | .gives n => n
  | .ends => 0
def jact (F : Fc) (vs : List (List It)) (J : Jn) (r : Nat) : JR :=
  match nextI vs J.cnt r with
  | none => .ok none J
  | some (.calls a d n) =>
    if (a, d) ∈ F.ws r then
      if (J.asks.length : Int) = F.dep then .ok none ⟨bump J.cnt r, J.asks, J.joint ++ [.deep r a d n]⟩
      else if nextI vs (bump J.cnt r) a.toNat = some (.inn d n) then .ok (some a.toNat) ⟨bump (bump J.cnt r) a.toNat, J.asks ++ [r], J.joint ++ [.call r a d n]⟩
      else .err a.toNat (cat_ (bump J.cnt r) a.toNat)
    else .err r (cat_ J.cnt r)
  | some .ends => .ok none ⟨bump J.cnt r, J.asks, J.joint ++ [.fin r]⟩
  | some i =>
    match J.asks.getLast? with
    | none => .ok none ⟨bump J.cnt r, J.asks, J.joint ++ [.done i.num]⟩
    | some k => if nextI vs (bump J.cnt r) k = some (.got i.num) then .ok (some k) ⟨bump (bump J.cnt r) k, J.asks.dropLast, J.joint ++ [.back r k i.num]⟩
      else .err k (cat_ (bump J.cnt r) k)
inductive JO where
  | bad (r at_ : Nat)
  | fin (J : Jn)
/-- the loop that puts together, so many turns -/
inductive Runs (F : Fc) (vs : List (List It)) : Nat → Jn → Option Nat → JO → Prop where
  | stop {J : Jn} : Runs F vs 0 J none (.fin J)
  | err {J : Jn} {r a b : Nat} : jact F vs J r = .err a b → Runs F vs 1 J (some r) (.bad a b)
  | step {J J' : Jn} {r m : Nat} {c : Option Nat} {o : JO} : jact F vs J r = .ok c J' → Runs F vs m J' c o → Runs F vs (m + 1) J (some r) o
/-- what stands behind a part of a row -/
structure Jat (F : Fc) (pre : List Crs) (s : Rs) (J : Jn) : Prop where
  lc : J.cnt.length = F.R
  cn : ∀ r, r < F.R → cat_ J.cnt r = (vw (r : Int) pre).length
  as : J.asks.map (fun n : Nat => (n : Int)) = s.2.map (·.1)
  jo : J.joint = pre
/-- views of which each one begins that of the row -/
structure Cuts (F : Fc) (row : List Crs) (vs : List (List It)) : Prop where
  len : vs.length = F.R
  pre : ∀ r, r < F.R → vat vs r <+: vw (r : Int) row
def Vs (F : Fc) (vs : List (List It)) (cs : List Crs) : Prop := ∀ r, r < F.R → vat vs r = vw (r : Int) cs
theorem cat_bump {cnt : List Nat} {r j : Nat} (h : r < cnt.length) : cat_ (bump cnt r) j = if r = j then cat_ cnt r + 1 else cat_ cnt j := by
  unfold bump cat_
  rw [List.getD_eq_getElem?_getD, List.getElem?_set, List.getD_eq_getElem?_getD, List.getD_eq_getElem?_getD]
  by_cases e : r = j
  · subst e
    simp [h]
  · simp [e]
theorem len_bump (cnt : List Nat) (r : Nat) : (bump cnt r).length = cnt.length := List.length_set ..
section
variable {F : Fc} {row pre xs : List Crs} {vs : List (List It)} {s : Rs} {J : Jn}
/-- the next item of a room, if there is one, is the row's -/
theorem Jat.next (h : Jat F pre s J) (hc : Cuts F (pre ++ xs) vs) (hp : ∀ r, r < F.R → (vw (r : Int) pre).length ≤ (vat vs r).length) {r : Nat} (hr : r < F.R) : nextI vs J.cnt r = if (vw (r : Int) pre).length < (vat vs r).length then (vw (r : Int) xs)[0]? else none := by
  unfold nextI
  rw [h.cn r hr]
  obtain ⟨zs, e⟩ := hc.pre r hr
  rw [vw_app] at e
  have hl := hp r hr
  have e2 : vat vs r = (vw (r : Int) pre ++ vw (r : Int) xs).take (vat vs r).length := by
    rw [← e, List.take_left]
  split
  · next q =>
    rw [e2, List.getElem?_take_of_lt q, List.getElem?_append_right (Nat.le_refl _), Nat.sub_self]
  · next q => exact List.getElem?_eq_none (by omega)
end
theorem getLast?_map_fst {l : List (Int × Int)} {m : List Nat} (e : m.map (fun n : Nat => (n : Int)) = l.map (·.1)) : (m.getLast? = none ↔ l = []) ∧ (∀ q, l.getLast? = some q → ∃ k : Nat, m.getLast? = some k ∧ (k : Int) = q.1) ∧ m.dropLast.map (fun n : Nat => (n : Int)) = l.dropLast.map (·.1) ∧ m.length = l.length := by
  have hlen : m.length = l.length := by
    have := congrArg List.length e
    rwa [List.length_map, List.length_map] at this
  refine ⟨?_, fun q hq => ?_, ?_, hlen⟩
  · rw [List.getLast?_eq_none_iff]
    constructor
    · intro z; subst z; exact List.length_eq_zero_iff.mp hlen.symm
    · intro z; subst z; exact List.length_eq_zero_iff.mp hlen
  · have h2 : (l.map (·.1)).getLast? = some q.1 := by rw [List.getLast?_map, hq]; rfl
    rw [← e, List.getLast?_map] at h2
    obtain ⟨k, hk, e2⟩ := Option.map_eq_some_iff.mp h2
    exact ⟨k, hk, e2⟩
  · rw [List.map_dropLast, List.map_dropLast, e]
end OH
end
section
set_option Elab.async false
set_option linter.all false
set_option maxRecDepth 100000
set_option maxHeartbeats 1000000
/-! Views of a row, cut anywhere, are put together to a beginning of it, or do not fit. -/
namespace OH
open PySem PySem.Spec PyProof.Rows L2
def actOf : Crs → It
  | .start _ => .ends
  | .call _ b d n => .calls b d n
  | .back _ _ n => .gives n
  | .deep _ b d n => .calls b d n
  | .done n => .gives n
  | .fin _ => .ends
/-- to whom something comes in by a crossing, and what -/
def evOf : Crs → Option (Int × It)
  | .call _ b d n => some (b, .inn d n)
  | .back _ b n => some (b, .got n)
  | _ => none
theorem Nx.shown {F : Fc} (hF : F.Ok) {s : Rs} (hs : SOk F s) {c : Int} (hc : s.1 = some c) {x : Crs} (hx : Nx F c s.2 x) :
    OH.shown c x = [actOf x] ∧ (∀ e, evOf x = some e → e.1 ≠ c ∧ 0 ≤ e.1 ∧ e.1 < (F.R : Int) ∧ OH.shown e.1 x = [e.2]) ∧ ∀ r, r ≠ c → (∀ e, evOf x = some e → r ≠ e.1) → OH.shown r x = [] := by
  have ch := hs.ctl hc
  have st := hs.step hF hc hx
  cases x with
  | start n => exact hx.elim
  | call a b d n =>
    obtain ⟨e, hw, hl, _⟩ := hx
    subst e
    obtain ⟨b0, b1⟩ := (st.ctl (c := b) rfl).rng hF
    have nb : b ≠ a := by
      obtain ⟨w1, w2, w3, _⟩ := (hF.wi a.toNat (by have := (ch.rng hF); omega)).2.2 _ hw
      have w3' : b ≠ (a.toNat : Int) := w3
      have := (ch.rng hF).1
      omega
    refine ⟨?_, fun e he => ?_, fun r h1 h2 => ?_⟩
    · show (if a = a then _ else _) ++ (if a = b then _ else _) = _
      rw [if_pos rfl, if_neg (fun z => nb z.symm)]
      rfl
    · cases he
      refine ⟨nb, b0, b1, ?_⟩
      show (if b = a then _ else _) ++ (if b = b then _ else _) = _
      rw [if_neg nb, if_pos rfl]
      rfl
    · show (if r = a then _ else _) ++ (if r = b then _ else _) = _
      rw [if_neg h1, if_neg (h2 _ rfl)]
      rfl
  | back a b n =>
    obtain ⟨e, ⟨q, hq, hb⟩, _⟩ := hx
    subst e
    obtain ⟨b0, b1⟩ := (st.ctl (c := b) rfl).rng hF
    have nb : b ≠ a := by
      rcases ch.inv with ⟨e0, _⟩ | ⟨as, a', e0, h0, h1⟩
      · rw [e0] at hq; cases hq
      · rw [e0, List.getLast?_concat] at hq
        cases hq
        have hb' : b = a' := hb
        rw [hb']
        exact h1
    refine ⟨?_, fun e he => ?_, fun r h1 h2 => ?_⟩
    · show (if a = a then _ else _) ++ (if a = b then _ else _) = _
      rw [if_pos rfl, if_neg (fun z => nb z.symm)]
      rfl
    · cases he
      refine ⟨nb, b0, b1, ?_⟩
      show (if b = a then _ else _) ++ (if b = b then _ else _) = _
      rw [if_neg nb, if_pos rfl]
      rfl
    · show (if r = a then _ else _) ++ (if r = b then _ else _) = _
      rw [if_neg h1, if_neg (h2 _ rfl)]
      rfl
  | deep a b d n =>
    obtain ⟨e, _⟩ := hx
    subst e
    refine ⟨if_pos rfl, (fun e he => nomatch he), fun r h1 _ => if_neg h1⟩
  | done n =>
    obtain ⟨e, _⟩ := hx
    rcases ch.inv with ⟨_, e0⟩ | ⟨as, a', e0, _⟩
    · subst e0
      refine ⟨?_, (fun e he => nomatch he), fun r h1 _ => if_neg h1⟩
      rfl
    · rw [e] at e0
      have := congrArg List.length e0
      rw [List.length_append] at this
      simp at this
  | fin a =>
    have e : a = c := hx
    subst e
    refine ⟨if_pos rfl, (fun e he => nomatch he), fun r h1 _ => if_neg h1⟩
/-- what came of it -/
def Good (F : Fc) (row : List Crs) (vs : List (List It)) : JO → Prop
  | .fin J => ∃ k s', Jat F (row.take k) s' J ∧ (∀ r, r < F.R → (vw (r : Int) (row.take k)).length ≤ (vat vs r).length) ∧ 1 ≤ k ∧ k ≤ row.length ∧
      (∀ x, row[k]? = some x → ∃ c, c < F.R ∧ (vat vs c).length = (vw (c : Int) (row.take k)).length ∧ shown (c : Int) x ≠ [])
  | .bad r a => r < F.R ∧ a ≤ (vat vs r).length ∧ ∀ j, ¬ Vs F vs (row.take j)
/-- a room whose views end at what has been shown, though more comes of it -/
theorem no_more {F : Fc} {pre xs : List Crs} {x : Crs} {vs : List (List It)} {b c : Nat} (hb : b < F.R) (hc : c < F.R) (h1 : (vat vs b).length ≤ (vw (b : Int) pre).length) (h2 : shown (b : Int) x ≠ []) (h3 : (vw (c : Int) pre).length < (vat vs c).length) : ∀ j, ¬ Vs F vs ((pre ++ x :: xs).take j) := by
  intro j hv
  have e1 := congrArg List.length (hv b hb)
  have e2 := congrArg List.length (hv c hc)
  by_cases hj : j ≤ pre.length
  · rw [List.take_append_of_le_length hj] at e2
    have := (vw_le (c : Int) (List.take_prefix j pre)).length_le
    omega
  · have hp : pre ++ [x] <+: (pre ++ x :: xs).take j := by
      obtain ⟨i, rfl⟩ : ∃ i, j = pre.length + (i + 1) := ⟨j - pre.length - 1, by omega⟩
      rw [List.take_length_add_append]
      exact ⟨xs.take i, by rw [List.append_assoc]; rfl⟩
    have l1 := (vw_le (b : Int) hp).length_le
    rw [vw_app, List.length_append] at l1
    have l2 : 1 ≤ (vw (b : Int) [x]).length := by
      show 1 ≤ ((OH.shown (b : Int) x ++ []).length)
      rw [List.append_nil]
      cases h : OH.shown (b : Int) x with
      | nil => exact absurd h h2
      | cons _ _ => exact Nat.succ_le_succ (Nat.zero_le _)
    omega
theorem join_go {F : Fc} (hF : F.Ok) {vs : List (List It)} : ∀ (xs pre : List Crs) (s : Rs) (J : Jn), pre ≠ [] → SOk F s → VRr F s xs → Jat F pre s J → Cuts F (pre ++ xs) vs → (∀ r, r < F.R → (vw (r : Int) pre).length ≤ (vat vs r).length) →
    ∃ m out, Runs F vs m J (s.1.map Int.toNat) out ∧ Good F (pre ++ xs) vs out
  | [], pre, s, J, hne, hs, hv, hj, hc, hp => by
    have here : Good F (pre ++ []) vs (.fin J) := by
      refine ⟨pre.length, s, ?_, ?_, ?_, ?_, fun x hx => ?_⟩
      · rw [List.append_nil, List.take_length]; exact hj
      · rw [List.append_nil, List.take_length]; exact hp
      · cases pre with
        | nil => exact absurd rfl hne
        | cons _ _ => exact Nat.succ_le_succ (Nat.zero_le _)
      · rw [List.append_nil]; exact Nat.le_refl _
      · rw [List.append_nil, List.getElem?_eq_none (Nat.le_refl _)] at hx
        cases hx
    cases hctl : s.1 with
    | none => exact ⟨0, .fin J, .stop, here⟩
    | some c =>
      obtain ⟨c0, c1⟩ := (hs.ctl hctl).rng hF
      have hcc : c.toNat < F.R := by omega
      have nx := hj.next hc hp hcc
      have e : nextI vs J.cnt c.toNat = none := by
        rw [nx]
        split <;> rfl
      refine ⟨1, .fin J, .step (c := none) (J' := J) ?_ .stop, here⟩
      unfold jact
      rw [e]
  | x :: xs, pre, s, J, hne, hs, ⟨⟨c, hctl, hx⟩, hr⟩, hj, hc, hp => by
    obtain ⟨c0, c1⟩ := (hs.ctl hctl).rng hF
    have hcc : c.toNat < F.R := by omega
    have ce : ((c.toNat : Nat) : Int) = c := Int.toNat_of_nonneg c0
    obtain ⟨sh1, sh2, sh3⟩ := hx.shown hF hs hctl
    have nx := hj.next hc hp hcc
    rw [ce, vw_cons, sh1] at nx
    rw [hctl]
    have hrow : (pre ++ [x]) ++ xs = pre ++ x :: xs := by rw [List.append_assoc]; rfl
    have len1 : ∀ r : Int, (vw r (pre ++ [x])).length = (vw r pre).length + (OH.shown r x).length := fun r => by
      rw [vw_app, List.length_append]
      show _ + (OH.shown r x ++ []).length = _
      rw [List.append_nil]
    by_cases av : (vw c pre).length < (vat vs c.toNat).length
    · rw [if_pos av] at nx
      have nx' : nextI vs J.cnt c.toNat = some (actOf x) := nx
      have rec_ : ∀ J', jact F vs J c.toNat = .ok ((bh s x).1.map Int.toNat) J' → Jat F (pre ++ [x]) (bh s x) J' → (∀ r, r < F.R → (vw (r : Int) (pre ++ [x])).length ≤ (vat vs r).length) →
          ∃ m out, Runs F vs m J ((some c).map Int.toNat) out ∧ Good F (pre ++ x :: xs) vs out := fun J' h1 h2 h3 => by
        obtain ⟨m, out, r1, r2⟩ := join_go hF xs (pre ++ [x]) (bh s x) J' (by simp) (hs.step hF hctl hx) hr h2 (by rw [hrow]; exact hc) h3
        rw [hrow] at r2
        exact ⟨m + 1, out, .step h1 r1, r2⟩
      have lcb : c.toNat < J.cnt.length := by rw [hj.lc]; exact hcc
      -- nothing comes in
      have one : evOf x = none → (∀ r, r < F.R → cat_ (bump J.cnt c.toNat) r = (vw (r : Int) (pre ++ [x])).length) ∧ ∀ r, r < F.R → (vw (r : Int) (pre ++ [x])).length ≤ (vat vs r).length := fun he => by
        refine ⟨fun r hr' => ?_, fun r hr' => ?_⟩
        · rw [cat_bump lcb, len1]
          by_cases e : c.toNat = r
          · subst e
            rw [if_pos rfl, hj.cn _ hr', ce, sh1]
            rfl
          · rw [if_neg e, hj.cn _ hr', sh3 r (by omega) (fun e' h' => by rw [he] at h'; cases h')]
            rfl
        · rw [len1]
          by_cases e : c.toNat = r
          · subst e
            rw [ce, sh1]
            show _ + 1 ≤ _
            omega
          · rw [sh3 r (by omega) (fun e' h' => by rw [he] at h'; cases h')]
            exact hp r hr'
      -- something comes in to a room
      have two : ∀ (b : Nat) (i : It), evOf x = some ((b : Int), i) → (nextI vs (bump J.cnt c.toNat) b = some i ∧ (∀ r, r < F.R → cat_ (bump (bump J.cnt c.toNat) b) r = (vw (r : Int) (pre ++ [x])).length) ∧ ∀ r, r < F.R → (vw (r : Int) (pre ++ [x])).length ≤ (vat vs r).length) ∨
          (nextI vs (bump J.cnt c.toNat) b = none ∧ Good F (pre ++ x :: xs) vs (.bad b (cat_ (bump J.cnt c.toNat) b))) := fun b i he => by
        obtain ⟨e1, e2, e3, e4⟩ := sh2 _ he
        have e1' : (b : Int) ≠ c := e1
        have e3' : (b : Int) < (F.R : Int) := e3
        have e4' : OH.shown (b : Int) x = [i] := e4
        have hb : b < F.R := by omega
        have nb : c.toNat ≠ b := by omega
        have cb : cat_ (bump J.cnt c.toNat) b = (vw (b : Int) pre).length := by rw [cat_bump lcb, if_neg nb, hj.cn b hb]
        have nxb : nextI vs (bump J.cnt c.toNat) b = nextI vs J.cnt b := by
          unfold nextI
          rw [cb, hj.cn b hb]
        have lb := hj.next hc hp hb
        rw [vw_cons, e4'] at lb
        rw [nxb, lb]
        by_cases ab : (vw (b : Int) pre).length < (vat vs b).length
        · refine .inl ⟨by rw [if_pos ab]; rfl, fun r hr' => ?_, fun r hr' => ?_⟩
          · rw [cat_bump (by rw [len_bump, hj.lc]; exact hb), cat_bump lcb, cat_bump lcb, len1]
            by_cases z : b = r
            · subst z
              rw [if_pos rfl, if_neg nb, hj.cn _ hb, e4']
              rfl
            · rw [if_neg z]
              by_cases e : c.toNat = r
              · subst e
                rw [if_pos rfl, hj.cn _ hr', ce, sh1]
                rfl
              · rw [if_neg e, hj.cn _ hr', sh3 r (by omega) (fun e' h' => by rw [he] at h'; cases h'; intro y; exact z (by omega))]
                rfl
          · rw [len1]
            by_cases z : b = r
            · subst z
              rw [e4']
              show _ + 1 ≤ _
              omega
            · by_cases e : c.toNat = r
              · subst e
                rw [ce, sh1]
                show _ + 1 ≤ _
                omega
              · rw [sh3 r (by omega) (fun e' h' => by rw [he] at h'; cases h'; intro y; exact z (by omega))]
                exact hp r hr'
        · refine .inr ⟨by rw [if_neg ab], hb, ?_, ?_⟩
          · rw [cb]
            exact hp b hb
          · refine no_more (b := b) (c := c.toNat) hb hcc (by omega) (by rw [e4']; exact List.cons_ne_nil _ _) (by rw [ce]; exact av)
      cases x with
      | start n => exact hx.elim
      | call a b d n =>
        obtain ⟨ea, hw, hl, _⟩ := hx
        subst ea
        obtain ⟨b', rfl⟩ : ∃ b' : Nat, b = b' := ⟨b.toNat, by have := (sh2 _ rfl).2.1; have this' : 0 ≤ b := this; omega⟩
        have hla : ¬ (J.asks.length : Int) = F.dep := by rw [(getLast?_map_fst hj.as).2.2.2]; omega
        have jj : jact F vs J a.toNat = if nextI vs (bump J.cnt a.toNat) b' = some (.inn d n) then .ok (some b') ⟨bump (bump J.cnt a.toNat) b', J.asks ++ [a.toNat], J.joint ++ [.call a.toNat b' d n]⟩ else .err b' (cat_ (bump J.cnt a.toNat) b') := by
          unfold jact
          rw [nx']
          show (if ((b' : Int), d) ∈ F.ws a.toNat then _ else _) = _
          rw [if_pos hw, if_neg hla]
          rfl
        rcases two b' (.inn d n) rfl with ⟨t1, t2, t3⟩ | ⟨t1, t2⟩
        · rw [if_pos t1] at jj
          refine rec_ _ jj ⟨by rw [len_bump, len_bump, hj.lc], t2, ?_, ?_⟩ t3
          · show (J.asks ++ [a.toNat]).map _ = (s.2 ++ [(a, (b' : Int))]).map _
            rw [List.map_append, List.map_append, hj.as]
            show _ ++ [((a.toNat : Nat) : Int)] = _
            rw [ce]
            rfl
          · show J.joint ++ _ = _
            rw [hj.jo, ce]
        · rw [if_neg (by rw [t1]; exact fun z => nomatch z)] at jj
          exact ⟨1, _, .err jj, t2⟩
      | back a b n =>
        obtain ⟨ea, ⟨q, hq, hb⟩, _⟩ := hx
        subst ea
        have hb' : b = q.1 := hb
        obtain ⟨b', rfl⟩ : ∃ b' : Nat, b = b' := ⟨b.toNat, by have := (sh2 _ rfl).2.1; have this' : 0 ≤ b := this; omega⟩
        obtain ⟨g1, g2, g3, g4⟩ := getLast?_map_fst hj.as
        obtain ⟨k, hk, ek⟩ := g2 q hq
        have ekb : k = b' := by omega
        subst ekb
        have jj : jact F vs J a.toNat = if nextI vs (bump J.cnt a.toNat) k = some (.got n) then .ok (some k) ⟨bump (bump J.cnt a.toNat) k, J.asks.dropLast, J.joint ++ [.back a.toNat k n]⟩ else .err k (cat_ (bump J.cnt a.toNat) k) := by
          unfold jact
          rw [nx']
          show (match J.asks.getLast? with
            | none => _
            | some k => _) = _
          rw [hk]
          rfl
        rcases two k (.got n) rfl with ⟨t1, t2, t3⟩ | ⟨t1, t2⟩
        · rw [if_pos t1] at jj
          refine rec_ _ jj ⟨by rw [len_bump, len_bump, hj.lc], t2, ?_, ?_⟩ t3
          · show J.asks.dropLast.map _ = s.2.dropLast.map _
            exact g3
          · show J.joint ++ _ = _
            rw [hj.jo, ce]
        · rw [if_neg (by rw [t1]; exact fun z => nomatch z)] at jj
          exact ⟨1, _, .err jj, t2⟩
      | deep a b d n =>
        obtain ⟨ea, hw, hl, _⟩ := hx
        subst ea
        have hla : (J.asks.length : Int) = F.dep := by rw [(getLast?_map_fst hj.as).2.2.2]; exact hl
        obtain ⟨t2, t3⟩ := one rfl
        refine rec_ ⟨bump J.cnt a.toNat, J.asks, J.joint ++ [.deep a.toNat b d n]⟩ ?_ ⟨by rw [len_bump, hj.lc], t2, hj.as, by show J.joint ++ _ = _; rw [hj.jo, ce]⟩ t3
        unfold jact
        rw [nx']
        show (if (b, d) ∈ F.ws a.toNat then _ else _) = _
        rw [if_pos hw, if_pos hla]
        rfl
      | done n =>
        obtain ⟨ea, _⟩ := hx
        obtain ⟨t2, t3⟩ := one rfl
        refine rec_ ⟨bump J.cnt c.toNat, J.asks, J.joint ++ [.done n]⟩ ?_ ⟨by rw [len_bump, hj.lc], t2, hj.as, by show J.joint ++ _ = _; rw [hj.jo]⟩ t3
        unfold jact
        rw [nx']
        show (match J.asks.getLast? with
            | none => _
            | some k => _) = _
        rw [(getLast?_map_fst hj.as).1.mpr ea]
        rfl
      | fin a =>
        have ea : a = c := hx
        subst ea
        obtain ⟨t2, t3⟩ := one rfl
        refine rec_ ⟨bump J.cnt a.toNat, J.asks, J.joint ++ [.fin a.toNat]⟩ ?_ ⟨by rw [len_bump, hj.lc], t2, hj.as, by show J.joint ++ _ = _; rw [hj.jo, ce]⟩ t3
        unfold jact
        rw [nx']
        rfl
    · have e : nextI vs J.cnt c.toNat = none := by rw [nx, if_neg av]
      refine ⟨1, .fin J, .step (c := none) (J' := J) ?_ .stop, ?_⟩
      · unfold jact
        rw [e]
      · have tl : (pre ++ x :: xs).take pre.length = pre := List.take_left
        refine ⟨pre.length, s, by rw [tl]; exact hj, by rw [tl]; exact hp, ?_, ?_, fun y hy => ⟨c.toNat, hcc, ?_, ?_⟩⟩
        · cases pre with
          | nil => exact absurd rfl hne
          | cons _ _ => exact Nat.succ_le_succ (Nat.zero_le _)
        · rw [List.length_append]; omega
        · have := hp c.toNat hcc
          rw [ce] at this
          rw [tl, ce]
          omega
        · rw [List.getElem?_append_right (Nat.le_refl _), Nat.sub_self] at hy
          cases hy
          rw [ce, sh1]
          exact List.cons_ne_nil _ _
end OH
end
section
set_option Elab.async false
set_option linter.all false
set_option maxRecDepth 100000
set_option maxHeartbeats 1000000
/-! What is put together at the end; rows told apart by their views. -/
namespace OH
open PySem PySem.Spec PyProof.Rows L2
section
variable {F : Fc} {row : List Crs} {vs : List (List It)} {J : Jn}
theorem join_end (hc : Cuts F row vs) (h : Good F row vs (.fin J)) (he : ∀ r, r < F.R → (vat vs r).length ≤ cat_ J.cnt r) : ∃ k, 1 ≤ k ∧ k ≤ row.length ∧ J.joint = row.take k ∧ Vs F vs (row.take k) := by
  obtain ⟨k, s', hj, hp, k1, k2, _⟩ := h
  refine ⟨k, k1, k2, hj.jo, fun r hr => ?_⟩
  have h1 := hc.pre r hr
  have h2 := vw_le (r : Int) (List.take_prefix k row)
  have h3 := hp r hr
  have h4 := he r hr
  rw [hj.cn r hr] at h4
  have e1 := List.prefix_of_prefix_length_le h1 h2 h4
  exact e1.eq_of_length (Nat.le_antisymm h4 h3)
theorem join_left (h : Good F row vs (.fin J)) {r : Nat} (hr : r < F.R) (hl : cat_ J.cnt r < (vat vs r).length) : ∀ j, ¬ Vs F vs (row.take j) := by
  obtain ⟨k, s', hj, hp, k1, k2, hk⟩ := h
  rw [hj.cn r hr] at hl
  by_cases e : k < row.length
  · obtain ⟨c, c1, c2, c3⟩ := hk _ (List.getElem?_eq_getElem e)
    have q := no_more (xs := row.drop (k + 1)) c1 hr (Nat.le_of_eq c2) c3 hl
    have e2 : row.take k ++ row[k] :: row.drop (k + 1) = row := by
      rw [← List.drop_eq_getElem_cons e, List.take_append_drop]
    rw [e2] at q
    exact q
  · intro j hv
    have e1 := congrArg List.length (hv r hr)
    have e2 : row.take k = row := List.take_of_length_le (by omega)
    rw [e2] at hl
    have := (vw_le (r : Int) (List.take_prefix j row)).length_le
    omega
end
/-- the act tells the crossing -/
theorem Nx.same {F : Fc} {c : Int} {asks : List (Int × Int)} {x y : Crs} (hx : Nx F c asks x) (hy : Nx F c asks y) (e : actOf x = actOf y) : x = y := by
  cases x <;> cases y <;> first
    | exact hx.elim
    | exact hy.elim
    | (injection e with e1 e2 e3; done)
    | skip
  all_goals first
    | (cases e; done)
    | skip
  · obtain ⟨a1, _, a3, _⟩ := hx
    obtain ⟨b1, _, b3, _⟩ := hy
    injection e with e1 e2 e3
    subst a1 b1 e1 e2 e3
    rfl
  · obtain ⟨a1, _, a3, _⟩ := hx
    obtain ⟨b1, _, b3, _⟩ := hy
    omega
  · obtain ⟨a1, ⟨q, q1, q2⟩, _⟩ := hx
    obtain ⟨b1, ⟨p, p1, p2⟩, _⟩ := hy
    injection e with e1
    rw [q1] at p1
    cases p1
    subst a1 b1 e1 q2 p2
    rfl
  · obtain ⟨a1, ⟨q, q1, q2⟩, _⟩ := hx
    obtain ⟨b1, _⟩ := hy
    rw [b1] at q1
    cases q1
  · obtain ⟨a1, _, a3, _⟩ := hx
    obtain ⟨b1, _, b3, _⟩ := hy
    omega
  · obtain ⟨a1, _, a3, _⟩ := hx
    obtain ⟨b1, _, b3, _⟩ := hy
    injection e with e1 e2 e3
    subst a1 b1 e1 e2 e3
    rfl
  · obtain ⟨b1, ⟨q, q1, q2⟩, _⟩ := hy
    obtain ⟨a1, _⟩ := hx
    rw [a1] at q1
    cases q1
  · injection e with e1
    subst e1
    rfl
  · have a1 : _ = c := hx
    have b1 : _ = c := hy
    subst a1 b1
    rfl
def Near (l1 l2 : List It) : Prop := l1 <+: l2 ∨ l2 <+: l1
theorem near_go {F : Fc} (hF : F.Ok) : ∀ (xs ys : List Crs) (s : Rs), SOk F s → VRr F s xs → VRr F s ys → (∀ r : Nat, r < F.R → Near (vw (r : Int) xs) (vw (r : Int) ys)) → xs <+: ys ∨ ys <+: xs
  | [], ys, _, _, _, _, _ => .inl (List.nil_prefix)
  | x :: xs, [], _, _, _, _, _ => .inr (List.nil_prefix)
  | x :: xs, y :: ys, s, hs, ⟨⟨c, hc, hx⟩, hrx⟩, ⟨⟨c', hc', hy⟩, hry⟩, hn => by
    rw [hc] at hc'
    cases hc'
    obtain ⟨c0, c1⟩ := (hs.ctl hc).rng hF
    have ce : ((c.toNat : Nat) : Int) = c := Int.toNat_of_nonneg c0
    obtain ⟨sx, _, _⟩ := hx.shown hF hs hc
    obtain ⟨sy, _, _⟩ := hy.shown hF hs hc
    have h := hn c.toNat (by omega)
    rw [ce, vw_cons, vw_cons, sx, sy] at h
    have ea : actOf x = actOf y := by
      rcases h with h | h
      · exact (List.cons_prefix_cons.mp h).1
      · exact (List.cons_prefix_cons.mp h).1.symm
    have exy := hx.same hy ea
    subst exy
    have ih := near_go hF xs ys (bh s x) (hs.step hF hc hx) hrx hry (fun r hr => by
      have h := hn r hr
      rw [vw_cons, vw_cons] at h
      rcases h with h | h
      · exact .inl ((List.prefix_append_right_inj _).mp h)
      · exact .inr ((List.prefix_append_right_inj _).mp h))
    rcases ih with h | h
    · exact .inl (List.cons_prefix_cons.mpr ⟨rfl, h⟩)
    · exact .inr (List.cons_prefix_cons.mpr ⟨rfl, h⟩)
theorem near_iff {F : Fc} (hF : F.Ok) {a b : List Crs} (ha : VR F a) (hb : VR F b) (h0 : a[0]? = b[0]?) : (∀ r : Nat, r < F.R → Near (vw (r : Int) a) (vw (r : Int) b)) ↔ (a <+: b ∨ b <+: a) := by
  obtain ⟨n, xs, rfl, _, hx⟩ := ha
  obtain ⟨m, ys, rfl, _, hy⟩ := hb
  have e : n = m := by
    have h0' : some (Crs.start n) = some (Crs.start m) := h0
    injection h0' with h0'
    injection h0'
  subst e
  constructor
  · intro h
    have ih := near_go hF xs ys (some 0, []) (SOk.init hF) hx hy (fun r hr => by
      have h := h r hr
      rw [vw_cons, vw_cons] at h
      rcases h with h | h
      · exact .inl ((List.prefix_append_right_inj _).mp h)
      · exact .inr ((List.prefix_append_right_inj _).mp h))
    rcases ih with h | h
    · exact .inl (List.cons_prefix_cons.mpr ⟨rfl, h⟩)
    · exact .inr (List.cons_prefix_cons.mpr ⟨rfl, h⟩)
  · rintro (h | h) r _
    · exact .inl (vw_le _ h)
    · exact .inr (vw_le _ h)
/-- the row is told by its views -/
theorem Vs.one {F : Fc} (hF : F.Ok) {row : List Crs} (h : VR F row) {vs : List (List It)} {i j : Nat} (hi : i ≤ row.length) (hj : j ≤ row.length) (vi : Vs F vs (row.take i)) (vj : Vs F vs (row.take j)) : i = j := by
  have main : ∀ i j, i < j → j ≤ row.length → Vs F vs (row.take i) → Vs F vs (row.take j) → False := fun i j lt hj vi vj => by
    obtain ⟨n, xs, rfl, hn, hr⟩ := h
    cases i with
    | zero =>
      have e1 := vi 0 (by have := hF.m1; omega)
      have e2 := vj 0 (by have := hF.m1; omega)
      rw [List.take_zero] at e1
      obtain ⟨j', rfl⟩ : ∃ j', j = j' + 1 := ⟨j - 1, by omega⟩
      rw [List.take_succ_cons, vw_cons, e1] at e2
      cases e2
    | succ i =>
      have hi : i < xs.length := by simp at hj; omega
      have hv := hr.take (i + 1)
      have ex : xs.take (i + 1) = xs.take i ++ [xs[i]] := by rw [List.take_add_one, List.getElem?_eq_getElem hi]; rfl
      have key : ∀ (ys : List Crs) (s : Rs) (x : Crs), SOk F s → VRr F s (ys ++ [x]) → ∃ c : Nat, c < F.R ∧ shown (c : Int) x ≠ [] := fun ys => by
        induction ys with
        | nil =>
          rintro s x hs ⟨⟨c, hc, hx⟩, _⟩
          obtain ⟨c0, c1⟩ := (hs.ctl hc).rng hF
          refine ⟨c.toNat, by omega, ?_⟩
          rw [Int.toNat_of_nonneg c0, (hx.shown hF hs hc).1]
          exact List.cons_ne_nil _ _
        | cons y ys ih =>
          rintro s x hs ⟨⟨c, hc, hy⟩, hr⟩
          exact ih _ _ (hs.step hF hc hy) hr
      rw [ex] at hv
      obtain ⟨c, c1, c2⟩ := key _ _ _ (SOk.init hF) hv
      have e1 := congrArg List.length (vi c c1)
      have e2 := congrArg List.length (vj c c1)
      have hp : (Crs.start n :: xs).take (i + 1) ++ [xs[i]] <+: (Crs.start n :: xs).take j := by
        rw [List.take_succ_cons, List.cons_append, ← ex]
        obtain ⟨j', rfl⟩ : ∃ j', j = j' + 1 := ⟨j - 1, by omega⟩
        rw [List.take_succ_cons]
        refine List.cons_prefix_cons.mpr ⟨rfl, ?_⟩
        exact List.take_prefix_take_left (by omega)
      have l1 := (vw_le (c : Int) hp).length_le
      rw [vw_app, List.length_append] at l1
      have l2 : 1 ≤ (vw (c : Int) [xs[i]]).length := by
        show 1 ≤ ((shown (c : Int) xs[i] ++ []).length)
        rw [List.append_nil]
        cases h : shown (c : Int) xs[i] with
        | nil => exact absurd h c2
        | cons _ _ => exact Nat.succ_le_succ (Nat.zero_le _)
      omega
  rcases Nat.lt_trichotomy i j with h1 | h1 | h1
  · exact (main i j h1 hj vi vj).elim
  · exact h1
  · exact (main j i h1 hi vj vi).elim
end OH
end
section
set_option Elab.async false
set_option linter.all false
set_option maxRecDepth 100000
set_option maxHeartbeats 4000000
/-! RowWalk. -/
namespace OH
open PySem PySem.Spec PyProof.Rows L2
theorem _root_.L2.SqT.sm {K : PySem.W.Frag} {H H' : Hp} {a : Addr} {xs : List V} (h : SqT K H a xs) (e : Same H H') : SqT K H' a xs :=
  h.elim (fun h => .inl (h.elim (fun h => .inl (e _ _ h)) fun ⟨o, h⟩ => .inr ⟨o, e _ _ h⟩)) fun h => .inr h
/-- tuples at addresses, own ones or the top's, told by f -/
inductive AllQ {α : Type} (K : PySem.W.Frag) (H : Hp) (f : α → List V) : List Addr → List α → Prop where
  | nil : AllQ K H f [] []
  | cons {p : Addr} {x : α} {ps : List Addr} {xs : List α} : SqT K H p (f x) → AllQ K H f ps xs → AllQ K H f (p :: ps) (x :: xs)
section
variable {α : Type} {K : PySem.W.Frag} {H H' : Hp} {f : α → List V} {ps : List Addr} {xs : List α}
theorem AllQ.same (h : AllQ K H f ps xs) (s : Same H H') : AllQ K H' f ps xs := by
  induction h with
  | nil => exact .nil
  | cons a _ ih => exact .cons (a.sm s) ih
theorem AllQ.len (h : AllQ K H f ps xs) : ps.length = xs.length := by
  induction h with
  | nil => rfl
  | cons _ _ ih => exact congrArg (· + 1) ih
theorem AllQ.get (h : AllQ K H f ps xs) : ∀ {i : Nat} {p : Addr}, ps[i]? = some p → ∃ x, xs[i]? = some x ∧ SqT K H p (f x) := by
  induction h with
  | nil => intro i p e; cases i <;> cases e
  | cons a _ ih =>
    intro i p e
    cases i with
    | zero => exact ⟨_, rfl, by cases e; exact a⟩
    | succ i => exact ih e
end
theorem atI_end {α : Type} {xs : List α} {v : α} (h : xs[xs.length - 1]? = some v) : atI xs (-1) = some v := by
  rcases List.eq_nil_or_concat xs with rfl | ⟨ys, y, rfl⟩
  · cases h
  · rw [List.concat_eq_append] at h ⊢
    rw [List.length_append, List.getElem?_append_right (by show ys.length ≤ ys.length + 1 - 1; omega)] at h
    have e : ys.length + [y].length - 1 - ys.length = 0 := by show ys.length + 1 - 1 - ys.length = 0; omega
    rw [e] at h
    cases h
    exact atI_last ys _
def optV : Option Int → V
  | none => .non
  | some i => .int i
structure Wk where
  ins : Option Int
  asks : List (Int × Int)
  over : Bool
abbrev Fd := Int × Int × Option Int
def fdV (f : Fd) : List V := [.int f.1, .int f.2.1, optV f.2.2]
def numF : Fd := (0, 9999, none)
def dorF : Fd := (0, 5, none)
/-- what the fields of a crossing of a kind must be -/
def fld (w : Wk) (x : Str) : Option (List Fd) :=
  if w.over = true then none else
  match w.ins with
  | none => if x = "start" then some [numF] else none
  | some r =>
    if (x = "call" ∧ w.asks.length < 60) ∨ (x = "deep" ∧ 0 < w.asks.length) then some [(r, r, none), (0, 5, some r), dorF, numF]
    else if x = "back" ∧ 0 < w.asks.length then some [(r, r, none), ((w.asks.getLast?.getD (0, 0)).1, (w.asks.getLast?.getD (0, 0)).1, none), numF]
    else if x = "done" ∧ w.asks.length = 0 then some [numF]
    else if x = "end" then some [(r, r, none)] else none
def wkf (w : Wk) (al : Addr) : List (Str × V) := [("inside", optV w.ins), ("asks", .ref al), ("over", .bl w.over)]
structure WkAt (CW : Addr) (H : Hp) (p d al : Addr) (w : Wk) : Prop where
  hp : H p = some (.ins CW d (wkf w al))
  ha : ∃ ps : List Addr, H al = some (.lst (ps.map V.ref)) ∧ AllAt H pairV ps w.asks
structure TxW (K : PySem.W.Frag) (CW : Addr) : Prop where
  cl : Cls K CW
  nI : NoAttr K CW "inside"
  nA : NoAttr K CW "asks"
  nO : NoAttr K CW "over"
structure TxC (K : PySem.W.Frag) (mg : Str → Option Value) (aN aD : Addr) : Prop where
  gN : mg "NUMBER" = some (.ref aN)
  tN : ∀ H, SqT K H aN (fdV numF)
  gD : mg "DOOR" = some (.ref aD)
  tD : ∀ H, SqT K H aD (fdV dorF)
  gO : ∃ t, mg "MOST_OPEN" = some (.int 60 t)
  gR : ∃ t, mg "MOST_ROOMS" = some (.int 6 t)
  nLen : mg "len" = none
def spKInit (CW : Addr) : Sp := fun vs H Q _ => ∃ (p d : Addr), vs = [.ref p] ∧ H p = some (.ins CW d []) ∧ ∀ al H', H al = none → al ≠ p → WkAt CW H' p d al ⟨none, [], false⟩ → Kept [p] H H' → Q .non H'
def spFields (K : PySem.W.Frag) (CW : Addr) : Sp := fun vs H Q _ => ∃ (p d al : Addr) (w : Wk) (x : Str), vs = [.ref p, .str x] ∧ WkAt CW H p d al w ∧ w.asks.length ≤ 1000000 ∧
  (fld w x = none → ∀ H', Same H H' → Q .non H') ∧ ∀ fs, fld w x = some fs → ∀ l ps H', Same H H' → H l = none → H' l = some (.lst (ps.map V.ref)) → AllQ K H' fdV ps fs → Q (.ref l) H'
section
variable {P : Program} {w : World} {K : PySem.W.Frag} {mg : Str → Option Value} {base : Heap} {CW aN aD : Addr}
theorem sc_RowWalk___init__ : FnScope ["self"] ["self"] (defScope s_RowWalk___init__) := ⟨rfl, rfl, rfl, by decide +kernel, rfl, by decide +kernel, by decide +kernel⟩
theorem ok_RowWalk___init__ {f : Addr} {fd : FuncData} (F : Fun K "__init__" "RowWalk.__init__" s_RowWalk___init__ f fd) (T : TxW K CW) : FnOk P w K mg base CX0 1 f fd ["self"] (spKInit CW) := by
  refine F.ok sc_RowWalk___init__ (fun vs H Q E h => ?_) (fun cdv A outer s H vs Q E hr h => ?_)
  · obtain ⟨p, d, rfl, _⟩ := h
    rfl
  · obtain ⟨p, d, rfl, hp, k⟩ := h
    refine ⟨_, pss_cons (ps_fld (pv 0) pe_non rfl)
      (pss_cons (ps_fld (pv 0) (pe_lst pa_nil) rfl)
      (pss_one (ps_fld (pv 0) pe_bl rfl))), ?_⟩
    refine ⟨_, rfl, p, CW, d, _, rfl, hp, T.cl, T.nI, (by show 0 < 1000; decide), ?_⟩
    refine ⟨(by show 0 ≤ sizeLine; decide), fun al nal => ?_⟩
    have nalp : al ≠ p := (ne_of_none upd_same nal).symm
    have nalH : H al = none := by
      rw [upd_ne nalp] at nal
      exact nal
    refine ⟨_, rfl, p, CW, d, _, rfl, (upd_ne nalp.symm).trans upd_same, T.cl, T.nA, (by show 1 < 1000; decide), ?_⟩
    refine ⟨_, rfl, p, CW, d, _, rfl, upd_same, T.cl, T.nO, (by show 2 < 1000; decide), ?_⟩
    refine k al _ nalH nalp ⟨by rw [upd_same]; rfl, [], ?_, .nil⟩ ?_
    · rw [upd_ne nalp, upd_ne nalp]
      exact upd_same
    · exact (((Kept.refl.upd (List.mem_singleton.mpr rfl)).new nal).upd (List.mem_singleton.mpr rfl)).upd (List.mem_singleton.mpr rfl)
abbrev nFields : List Str := ["self", "word", "own", "asked", "asker"]
theorem sc_RowWalk_fields : FnScope nFields ["self", "word"] (defScope s_RowWalk_fields) := ⟨rfl, rfl, rfl, by decide +kernel, rfl, by decide +kernel, by decide +kernel⟩
theorem ok_RowWalk_fields {f : Addr} {fd : FuncData} (F : Fun K "fields" "RowWalk.fields" s_RowWalk_fields f fd) (T : TxW K CW) (G : TxC K mg aN aD) : FnOk P w K mg base CX0 1 f fd ["self", "word"] (spFields K CW) := by
  refine F.ok sc_RowWalk_fields (fun vs H Q E h => ?_) (fun cdv A outer s H vs Q E hr h => ?_)
  · obtain ⟨p, d, al, w, x, rfl, _⟩ := h
    rfl
  · obtain ⟨p, d, al, w, x, rfl, W, hl, k1, k2⟩ := h
    have nd := sc_RowWalk_fields.nd
    obtain ⟨tO, gO⟩ := G.gO
    obtain ⟨tR, gR⟩ := G.gR
    refine ⟨_, pss_cons (ps_if (pt_val (pe_fld (pv 0) rfl)) (pss_one (ps_ret pe_non)) pss_nil)
      (pss_cons (ps_if (pt_cmpR op_isN (pe_fld (pv 0) rfl) pe_non (nomark _)) (pss_one (ps_ret (pe_ifExp (pt_cmpR op_eq (pv 1) pe_str (nomark _)) (pe_lst (pa_cons (pe_glob (v := .ref aN) rfl G.gN rfl) pa_nil)) pe_non))) pss_nil)
      (pss_cons (ps_set (i := 2) nd rfl (Or.inl rfl) (pe_tup (pa_cons (pe_fld (pv 0) rfl) (pa_cons (pe_fld (pv 0) rfl) (pa_cons pe_non pa_nil)))))
      (pss_cons (ps_set (i := 3) nd rfl (Or.inl rfl) (pe_tup (pa_cons pe_int (pa_cons (pe_op op_sub (pe_glob (v := .int 6) rfl gR ⟨tR, rfl⟩) pe_int) (pa_cons (pe_fld (pv 0) rfl) pa_nil)))))
      (pss_cons (ps_if (PW.pt (pw_or (PW.pt (pw_and (pt_cmpR op_eq (pv 1) pe_str (nomark _)) (pw_and1 (pt_cmpR op_lt (pe_callB call_len_seq (by rfl) G.nLen PySem.boot_len (pa_cons (pe_fld (pv 0) rfl) pa_nil)) (pe_glob (v := .int 60) rfl gO ⟨tO, rfl⟩) (nomark _))))) (pw_or1 (PW.pt (pw_and (pt_cmpR op_eq (pv 1) pe_str (nomark _)) (pw_and1 (pt_cmpR op_gt (pe_callB call_len_seq (by rfl) G.nLen PySem.boot_len (pa_cons (pe_fld (pv 0) rfl) pa_nil)) pe_int (nomark _)))))))) (pss_one (ps_ret (pe_lst (pa_cons (pv 2) (pa_cons (pv 3) (pa_cons (pe_glob (v := .ref aD) rfl G.gD rfl) (pa_cons (pe_glob (v := .ref aN) rfl G.gN rfl) pa_nil))))))) pss_nil)
      (pss_cons (ps_if (PW.pt (pw_and (pt_cmpR op_eq (pv 1) pe_str (nomark _)) (pw_and1 (pt_cmpR op_gt (pe_callB call_len_seq (by rfl) G.nLen PySem.boot_len (pa_cons (pe_fld (pv 0) rfl) pa_nil)) pe_int (nomark _))))) (pss_cons (ps_set (i := 4) nd rfl (Or.inl rfl) (pe_ix ix_tup (pe_ix ix_list (pe_fld (pv 0) rfl) (pe_un un_neg pe_int) (fun _ _ => rfl)) pe_int (fun _ _ => rfl)))
      (pss_one (ps_ret (pe_lst (pa_cons (pv 2) (pa_cons (pe_tup (pa_cons (pv 4) (pa_cons (pv 4) (pa_cons pe_non pa_nil)))) (pa_cons (pe_glob (v := .ref aN) rfl G.gN rfl) pa_nil))))))) pss_nil)
      (pss_cons (ps_if (PW.pt (pw_and (pt_cmpR op_eq (pv 1) pe_str (nomark _)) (pw_and1 (pt_cmpR op_eq (pe_callB call_len_seq (by rfl) G.nLen PySem.boot_len (pa_cons (pe_fld (pv 0) rfl) pa_nil)) pe_int (nomark _))))) (pss_one (ps_ret (pe_lst (pa_cons (pe_glob (v := .ref aN) rfl G.gN rfl) pa_nil)))) pss_nil)
      (pss_one (ps_ret (pe_ifExp (pt_cmpR op_eq (pv 1) pe_str (nomark _)) (pe_lst (pa_cons (pv 2) pa_nil)) pe_non))))))))), ?_⟩
    obtain ⟨aps, ha, ha2⟩ := W.ha
    have la := ha2.len
    have fI : ∀ {H' : Hp}, Same H H' → H' p = some (.ins CW d (wkf w al)) := fun s => s _ _ W.hp
    refine ⟨_, rfl, p, CW, d, _, _, rfl, W.hp, T.cl, T.nO, rfl, _, rfl, ?_⟩
    unfold fld at k1 k2
    cases ho : w.over with
    | true =>
      rw [ho, if_pos rfl] at k1
      exact iteT (k1 rfl _ (Same.refl H))
    | false =>
      rw [ho, if_neg Bool.false_ne_true] at k1 k2
      refine iteF ?_
      refine ⟨_, rfl, p, CW, d, _, _, rfl, W.hp, T.cl, T.nI, rfl, rfl, _, rfl, ?_⟩
      cases hi : w.ins with
      | none =>
        rw [hi] at k1 k2
        refine iteT ?_
        refine ⟨_, rfl, rfl, _, rfl, ?_⟩
        refine ite2 (fun q => ?_) (fun q => ?_)
        · have e : x = "start" := by simpa using q
          refine ⟨(by show 1 ≤ sizeLine; decide), fun l nl => ?_⟩
          exact k2 [numF] (if_pos e) l [aN] _ (sadd (Same.refl H) nl) nl upd_same (.cons (G.tN _) .nil)
        · have e : ¬ x = "start" := by simpa using q
          exact k1 (if_neg e) _ (Same.refl H)
      | some r =>
        rw [hi] at k1 k2
        dsimp only at k1 k2
        refine iteF ?_
        have eI : optV w.ins = .int r := by rw [hi]; rfl
        have fl : (wkf w al).lookup ("inside" : Str) = some (.int r) := by rw [← eI]; rfl
        -- own
        refine ⟨_, rfl, p, CW, d, _, _, rfl, W.hp, T.cl, T.nI, fl, _, rfl, p, CW, d, _, _, rfl, W.hp, T.cl, T.nI, fl, (by show 3 ≤ sizeLine; decide), fun o1 n1 => ?_⟩
        have s1 := sadd (o := .tup [.int r, .int r, .non]) (Same.refl H) n1
        have h1 : upd H o1 (.tup [.int r, .int r, .non]) o1 = some (.tup (fdV (r, r, none))) := upd_same
        generalize upd H o1 (.tup [.int r, .int r, .non]) = H1 at s1 h1 ⊢
        -- asked
        refine ⟨_, _, rfl, rfl, _, rfl, p, CW, d, _, _, rfl, fI s1, T.cl, T.nI, fl, (by show 3 ≤ sizeLine; decide), fun o2 n2 => ?_⟩
        have s2 := s1.trans (sadd (o := .tup [.int 0, .int (6 - 1), .int r]) (Same.refl H1) n2)
        have s12 := sadd (o := .tup [.int 0, .int (6 - 1), .int r]) (Same.refl H1) n2
        have h2 : upd H1 o2 (.tup [.int 0, .int (6 - 1), .int r]) o2 = some (.tup (fdV (0, 5, some r))) := upd_same
        have h1' := s12 _ _ h1
        generalize upd H1 o2 (.tup [.int 0, .int (6 - 1), .int r]) = H2 at s2 h2 h1' ⊢
        have hal := s2 _ _ ha
        have hll : (aps.map V.ref).length = w.asks.length := by rw [List.length_map, la]
        -- so many asks are open
        refine ⟨_, rfl, rfl, _, rfl, ?_⟩
        refine ite2 (fun qc => ?_) (fun qc => ?_)
        · have xc : x = "call" := by simpa using qc
          subst xc
          refine ⟨_, rfl, p, CW, d, _, _, rfl, fI s2, T.cl, T.nA, rfl, al, _, rfl, .inl (SqL.of hal), _, _, rfl, rfl, _, rfl, ?_⟩
          refine ite2 (fun ql => ?_) (fun ql => ?_)
          · have l60 : w.asks.length < 60 := by
              have : ((aps.map V.ref).length : Int) < 60 := by simpa using ql
              rw [hll] at this
              omega
            refine iteT ?_
            refine ⟨_, rfl, _, rfl, (by show 4 ≤ sizeLine; decide), fun l nl => ?_⟩
            have s3 := sadd (o := .lst [.ref o1, .ref o2, .ref aD, .ref aN]) (Same.refl H2) nl
            exact k2 _ (if_pos (.inl ⟨rfl, l60⟩)) l [o1, o2, aD, aN] _ (s2.trans s3) (s2.free nl) upd_same (.cons (SqT.of (s3 _ _ h1')) (.cons (SqT.of (s3 _ _ h2)) (.cons (G.tD _) (.cons (G.tN _) .nil))))
          · have l60 : ¬ w.asks.length < 60 := by
              have : ¬ ((aps.map V.ref).length : Int) < 60 := by simpa using ql
              rw [hll] at this
              omega
            refine ⟨_, rfl, rfl, _, rfl, iteF ?_⟩
            refine iteF ?_
            refine ⟨_, rfl, rfl, _, rfl, iteF ?_⟩
            refine ⟨_, rfl, rfl, _, rfl, iteF ?_⟩
            refine ⟨_, rfl, rfl, _, rfl, iteF ?_⟩
            exact k1 (by rw [if_neg (fun z => z.elim (fun z => l60 z.2) (fun z => absurd z.1 (by decide))), if_neg (fun z => absurd z.1 (by decide)), if_neg (fun z => absurd z.1 (by decide)), if_neg (by decide)]) _ s2
        · have xc : ¬ x = "call" := by simpa using qc
          refine iteF ?_
          refine ⟨_, rfl, rfl, _, rfl, ?_⟩
          refine ite2 (fun qd => ?_) (fun qd => ?_)
          · have xd : x = "deep" := by simpa using qd
            subst xd
            refine ⟨_, rfl, p, CW, d, _, _, rfl, fI s2, T.cl, T.nA, rfl, al, _, rfl, .inl (SqL.of hal), _, _, rfl, rfl, _, rfl, ?_⟩
            refine ite2 (fun ql => ?_) (fun ql => ?_)
            · have l0 : 0 < w.asks.length := by
                have : (0 : Int) < ((aps.map V.ref).length : Int) := by simpa using ql
                rw [hll] at this
                omega
              refine ⟨_, rfl, _, rfl, (by show 4 ≤ sizeLine; decide), fun l nl => ?_⟩
              have s3 := sadd (o := .lst [.ref o1, .ref o2, .ref aD, .ref aN]) (Same.refl H2) nl
              exact k2 _ (if_pos (.inr ⟨rfl, l0⟩)) l [o1, o2, aD, aN] _ (s2.trans s3) (s2.free nl) upd_same (.cons (SqT.of (s3 _ _ h1')) (.cons (SqT.of (s3 _ _ h2)) (.cons (G.tD _) (.cons (G.tN _) .nil))))
            · have l0 : ¬ 0 < w.asks.length := by
                have : ¬ (0 : Int) < ((aps.map V.ref).length : Int) := by simpa using ql
                rw [hll] at this
                omega
              refine ⟨_, rfl, rfl, _, rfl, iteF ?_⟩
              refine ⟨_, rfl, rfl, _, rfl, iteF ?_⟩
              refine ⟨_, rfl, rfl, _, rfl, iteF ?_⟩
              exact k1 (by rw [if_neg (fun z => z.elim (fun z => absurd z.1 (by decide)) (fun z => l0 z.2)), if_neg (fun z => absurd z.1 (by decide)), if_neg (fun z => absurd z.1 (by decide)), if_neg (by decide)]) _ s2
          · have xd : ¬ x = "deep" := by simpa using qd
            have nf : ¬ ((x = "call" ∧ w.asks.length < 60) ∨ (x = "deep" ∧ 0 < w.asks.length)) := fun z => z.elim (fun z => xc z.1) (fun z => xd z.1)
            simp only [if_neg nf] at k1 k2
            refine iteF ?_
            refine ⟨_, rfl, rfl, _, rfl, ?_⟩
            refine ite2 (fun qb => ?_) (fun qb => ?_)
            · have xb : x = "back" := by simpa using qb
              subst xb
              refine ⟨_, rfl, p, CW, d, _, _, rfl, fI s2, T.cl, T.nA, rfl, al, _, rfl, .inl (SqL.of hal), _, _, rfl, rfl, _, rfl, ?_⟩
              refine ite2 (fun ql => ?_) (fun ql => ?_)
              · have l0 : 0 < w.asks.length := by
                  have : (0 : Int) < ((aps.map V.ref).length : Int) := by simpa using ql
                  rw [hll] at this
                  omega
                obtain ⟨q, hq⟩ : ∃ q, w.asks.getLast? = some q := by
                  cases e : w.asks.getLast? with
                  | none => rw [List.getLast?_eq_none_iff] at e; rw [e] at l0; exact absurd l0 (by decide)
                  | some q => exact ⟨q, rfl⟩
                rw [List.getLast?_eq_getElem?] at hq
                obtain ⟨lp, hlp, hlp2⟩ := ha2.get hq
                have at1 : atI (aps.map V.ref) (-1) = some (.ref lp) := atI_end (by rw [List.getElem?_map, List.length_map, la, hlp]; rfl)
                have eg : w.asks.getLast?.getD (0, 0) = q := by rw [List.getLast?_eq_getElem?, hq]; rfl
                rw [eg] at k2
                refine ⟨_, rfl, p, CW, d, _, _, rfl, fI s2, T.cl, T.nA, rfl, _, rfl, al, _, -1, _, rfl, rfl, SqL.of hal, at1, lp, _, 0, _, rfl, rfl, SqT.of (s2 _ _ hlp2), rfl, ?_⟩
                refine ⟨_, rfl, _, rfl, _, rfl, (by show 3 ≤ sizeLine; decide), fun o3 n3 => ⟨(by show 3 ≤ sizeLine; decide), fun l nl => ?_⟩⟩
                have s3 := sadd (o := .tup [.int q.1, .int q.1, .non]) (Same.refl H2) n3
                have h3 : upd H2 o3 (.tup [.int q.1, .int q.1, .non]) o3 = some (.tup (fdV (q.1, q.1, none))) := upd_same
                have nl2 : H2 l = none := s3.free nl
                have s4 := sadd (o := .lst [.ref o1, .ref o3, .ref aN]) s3 nl
                have h34 : upd (upd H2 o3 (.tup [.int q.1, .int q.1, .non])) l (.lst [.ref o1, .ref o3, .ref aN]) o3 = some (.tup (fdV (q.1, q.1, none))) := (upd_ne (ne_of_none h3 nl)).trans h3
                exact k2 _ (if_pos ⟨rfl, l0⟩) l [o1, o3, aN] _ (s2.trans s4) (s2.free nl2) upd_same (.cons (SqT.of (s4 _ _ h1')) (.cons (SqT.of h34) (.cons (G.tN _) .nil)))
              · have l0 : ¬ 0 < w.asks.length := by
                  have : ¬ (0 : Int) < ((aps.map V.ref).length : Int) := by simpa using ql
                  rw [hll] at this
                  omega
                refine ⟨_, rfl, rfl, _, rfl, iteF ?_⟩
                refine ⟨_, rfl, rfl, _, rfl, iteF ?_⟩
                exact k1 (by rw [if_neg (fun z => l0 z.2), if_neg (fun z => absurd z.1 (by decide)), if_neg (by decide)]) _ s2
            · have xb : ¬ x = "back" := by simpa using qb
              have nb : ¬ (x = "back" ∧ 0 < w.asks.length) := fun z => xb z.1
              simp only [if_neg nb] at k1 k2
              refine ⟨_, rfl, rfl, _, rfl, ?_⟩
              refine ite2 (fun qe => ?_) (fun qe => ?_)
              · have xe : x = "done" := by simpa using qe
                subst xe
                refine ⟨_, rfl, p, CW, d, _, _, rfl, fI s2, T.cl, T.nA, rfl, al, _, rfl, .inl (SqL.of hal), rfl, _, rfl, ?_⟩
                refine ite2 (fun ql => ?_) (fun ql => ?_)
                · have l0 : w.asks.length = 0 := by
                    have : ((aps.map V.ref).length : Int) = 0 := by simpa using ql
                    rw [hll] at this
                    omega
                  refine ⟨(by show 1 ≤ sizeLine; decide), fun l nl => ?_⟩
                  have s3 := sadd (o := .lst [.ref aN]) (Same.refl H2) nl
                  exact k2 _ (if_pos ⟨rfl, l0⟩) l [aN] _ (s2.trans s3) (s2.free nl) upd_same (.cons (G.tN _) .nil)
                · have l0 : ¬ w.asks.length = 0 := by
                    have : ¬ ((aps.map V.ref).length : Int) = 0 := by simpa using ql
                    rw [hll] at this
                    omega
                  refine ⟨_, rfl, rfl, _, rfl, iteF ?_⟩
                  exact k1 (by rw [if_neg (fun z => l0 z.2), if_neg (by decide)]) _ s2
              · have xe : ¬ x = "done" := by simpa using qe
                have ne : ¬ (x = "done" ∧ w.asks.length = 0) := fun z => xe z.1
                simp only [if_neg ne] at k1 k2
                refine ⟨_, rfl, rfl, _, rfl, ?_⟩
                refine ite2 (fun qz => ?_) (fun qz => ?_)
                · have xz : x = "end" := by simpa using qz
                  refine ⟨_, rfl, (by show 1 ≤ sizeLine; decide), fun l nl => ?_⟩
                  have s3 := sadd (o := .lst [.ref o1]) (Same.refl H2) nl
                  exact k2 _ (if_pos xz) l [o1] _ (s2.trans s3) (s2.free nl) upd_same (.cons (SqT.of (s3 _ _ h1')) .nil)
                · have xz : ¬ x = "end" := by simpa using qz
                  exact k1 (if_neg xz) _ s2
end
end OH
end
section
set_option Elab.async false
set_option linter.all false
set_option maxRecDepth 100000
set_option maxHeartbeats 4000000
/-! RowWalk.can_follow. -/
namespace OH
open PySem PySem.Spec PyProof.Rows L2
/-- a whole number or a truth value compared with a truth value by `is` -/
theorem op_isB {X : Cx} : OpR X (compareOp .Is) (fun x y H Q => ∃ b : Bool, y = .bl b ∧ (((∃ i, x = .int i) ∧ Q (.bl false) H) ∨ ∃ c : Bool, x = .bl c ∧ Q (.bl (decide (c = b))) H)) := by
  intro pins s σ H x y v u Q I rx ry h
  obtain ⟨b, rfl, h⟩ := h
  rcases h with ⟨⟨i, rfl⟩, q⟩ | ⟨c, rfl, q⟩
  · obtain ⟨t, rfl⟩ := rx
    cases (show u = Value.bool b from ry)
    exact wpAny_is_other rfl (fun z => nomatch z) ⟨.bl false, H, I, rfl, q⟩
  · exact op_isBl pins s σ H _ _ v u Q I rx ry ⟨c, b, rfl, rfl, q⟩
def okF (f : Fd) (i : Int) : Bool := decide (f.1 ≤ i) && decide (i ≤ f.2.1) && !decide (f.2.2 = some i)
def canF (w : Wk) (x : Str) (is : List Int) : Bool :=
  match fld w x with
  | none => false
  | some fs => decide (is.length = fs.length) && (fs.zip is).all fun q => okF q.1 q.2
def spCan (CW : Addr) : Sp := fun vs H Q _ => ∃ (p d al c : Addr) (w : Wk) (x : Str) (is : List Int), vs = [.ref p, .ref c] ∧ WkAt CW H p d al w ∧ w.asks.length ≤ 1000000 ∧ H c = some (.tup (.str x :: is.map V.int)) ∧ is.length ≤ 1000 ∧ ∀ H', Same H H' → Q (.bl (canF w x is)) H'
section
variable {P : Program} {w : World} {K : PySem.W.Frag} {mg : Str → Option Value} {base : Heap} {CW aN aD : Addr}
abbrev nCan : List Str := ["self", "crossing", "told", "at", "low", "high", "other", "item"]
theorem sc_RowWalk_can_follow : FnScope nCan ["self", "crossing"] (defScope s_RowWalk_can_follow) := ⟨rfl, rfl, rfl, by decide +kernel, rfl, by decide +kernel, by decide +kernel⟩
theorem ok_RowWalk_can_follow {f : Addr} {fd : FuncData} (F : Fun K "can_follow" "RowWalk.can_follow" s_RowWalk_can_follow f fd) (T : Txt K mg) (TW : TxW K CW) (nEnum : mg "enumerate" = none)
    (DF : MetF P w K mg base CX0 1 CW "fields" ["self", "word"] (spFields K CW)) : FnOk P w K mg base CX0 2 f fd ["self", "crossing"] (spCan CW) := by
  refine F.ok sc_RowWalk_can_follow (fun vs H Q E h => ?_) (fun cdv A outer s H vs Q E hr h => ?_)
  · obtain ⟨p, d, al, c, w, x, is, rfl, _⟩ := h
    rfl
  · obtain ⟨p, d, al, c, w, x, is, rfl, W, hl, hc, hi, k⟩ := h
    have nd := sc_RowWalk_can_follow.nd
    refine ⟨_, pss_cons (ps_if (PW.pt (pw_or (pt_not (pt_val (pe_callB call_isi (by rfl) T.nIsi (by decide +kernel) (pa_cons (pv 1) (pa_cons (pe_bltn (v := .ty "tuple") (by rfl) T.nTuple (by decide +kernel) rfl) pa_nil))))) (pw_or1 (pt_cmpR op_eq (pe_callB call_len_seq (by rfl) T.nLen PySem.boot_len (pa_cons (pv 1) pa_nil)) pe_int (nomark _))))) (pss_one (ps_ret pe_bl)) pss_nil)
      (pss_cons (ps_set (i := 2) nd rfl (Or.inl rfl) (pe_mD (pv 0) TW.cl DF hr pass0 (pa_cons (pe_ix ix_tup (pv 1) pe_int (fun _ _ => rfl)) pa_nil)))
      (pss_cons (ps_if (PW.pt (pw_or (pt_cmpR op_isN (pv 2) pe_non (nomark _)) (pw_or1 (pt_cmpR op_ne (pe_callB call_len_seq (by rfl) T.nLen PySem.boot_len (pa_cons (pv 1) pa_nil)) (pe_op op_add pe_int (pe_callB call_len_seq (by rfl) T.nLen PySem.boot_len (pa_cons (pv 2) pa_nil))) (nomark _))))) (pss_one (ps_ret pe_bl)) pss_nil)
      (pss_cons (ps_for PassesOwn.never rfl (pi_enumO rfl nEnum (pa_cons (pv 2) (pa_cons pe_int pa_nil))) (pg_tup (by rfl) (pgs_cons (pg_name (i := 3) nd rfl (Or.inl rfl)) (pgs_cons (pg_tup (by rfl) (pgs_cons (pg_name (i := 4) nd rfl (Or.inl rfl)) (pgs_cons (pg_name (i := 5) nd rfl (Or.inl rfl)) (pgs_cons (pg_name (i := 6) nd rfl (Or.inl rfl)) pgs_nil)))) pgs_nil)))
        (pss_cons (ps_set (i := 7) nd rfl (Or.inl rfl) (pe_ix ix_tup (pv 1) (pv 3) (fun _ _ => rfl)))
      (pss_one (ps_if (PW.pt (pw_or (pt_not (pt_val (pe_callB call_isi (by rfl) T.nIsi (by decide +kernel) (pa_cons (pv 7) (pa_cons (pe_bltn (v := .ty "int") (by rfl) T.nInt (by decide +kernel) rfl) pa_nil))))) (pw_or (pt_cmpR op_isB (pv 7) pe_bl (nomark _)) (pw_or (pt_cmpR op_isB (pv 7) pe_bl (nomark _)) (pw_or (pt_not (pt_chain op_le op_le (pv 4) (pv 7) (pv 5))) (pw_or1 (pt_cmpR op_eq (pv 7) (pv 6) (nomark _)))))))) (pss_one (ps_ret pe_bl)) pss_nil))))
      (pss_one (ps_ret pe_bl))))), ?_⟩
    have hil : ((.str x :: is.map V.int : List V).length : Int) = (is.length : Int) + 1 := by
      rw [List.length_cons, List.length_map]
      omega
    refine ⟨_, rfl, _, _, _, _, _, rfl, .ty "tuple", .base (.tup hc), kit_ty (r := true) (by decide +kernel), _, rfl, iteF ?_⟩
    refine ⟨_, rfl, c, _, rfl, .inr (SqT.of hc), rfl, _, rfl, ?_⟩
    refine ite2 (fun q => ?_) (fun _ => ?_)
    · have : ((.str x :: is.map V.int : List V).length : Int) = 0 := by simpa using q
      omega
    refine ⟨_, rfl, p, d, _, rfl, W.hp, rfl, _, rfl, c, _, 0, _, rfl, rfl, SqT.of hc, atI_nat (j := 0) rfl, ?_⟩
    refine ⟨p, d, al, w, x, rfl, W, hl, fun hn H1 s1 => ?_, fun fs hf l ps H1 s1 nl hls hq => ?_⟩
    · refine ⟨_, rfl, rfl, _, rfl, iteT ?_⟩
      refine iteT ?_
      have e : canF w x is = false := by
        unfold canF
        rw [hn]
      have k1 := k H1 s1
      rw [e] at k1
      exact k1
    · have hlp : ps.length = fs.length := hq.len
      have hc1 := s1 _ _ hc
      refine ⟨_, rfl, rfl, _, rfl, iteF ?_⟩
      refine ⟨_, rfl, c, _, rfl, .inr (SqT.of hc1), _, rfl, l, _, rfl, .inl (SqL.of hls), _, _, rfl, rfl, rfl, _, rfl, ?_⟩
      have lps : (ps.map V.ref).length = fs.length := by rw [List.length_map, hlp]
      have ke : ∀ b, (decide (is.length = fs.length) && (fs.zip is).all fun q => okF q.1 q.2) = b → ∀ H', Same H H' → Q (.bl b) H' := fun b e H' s => by
        have k1 := k H' s
        unfold canF at k1
        rw [hf] at k1
        dsimp only at k1
        rw [e] at k1
        exact k1
      refine ite2 (fun q => ?_) (fun q => ?_)
      · have q' : ((.str x :: is.map V.int : List V).length : Int) ≠ 1 + ((ps.map V.ref).length : Int) := by simpa using q
        have ne : ¬ is.length = fs.length := by
          rw [lps] at q'
          omega
        refine ke false ?_ _ s1
        rw [decide_eq_false ne, Bool.false_and]
      · have q' : ((.str x :: is.map V.int : List V).length : Int) = 1 + ((ps.map V.ref).length : Int) := by simpa using q
        have el : is.length = fs.length := by
          rw [lps] at q'
          omega
        refine ⟨_, rfl, l, _, rfl, SqL.of hls, ?_⟩
        refine for_it (walk_enumO (K := K) (a := l) (xs := ps.map V.ref)) (fun i σ H' => ∃ o3 o4 o5 o6 o7 : Option V, σ = [some (.ref p), some (.ref c), some (.ref l), o3, o4, o5, o6, o7] ∧ Same H1 H' ∧ (((fs.zip is).take i).all fun q => okF q.1 q.2) = true)
          ⟨none, none, none, none, none, rfl, Same.refl H1, rfl⟩ (fun i σ H' _ ⟨_, _, _, _, _, _, s, _⟩ => SqL.of (s _ _ hls)) ?turn ?done
        case done =>
          rintro σ H2 ⟨o3, o4, o5, o6, o7, rfl, s2, hall⟩
          have lz : (fs.zip is).length = fs.length := by rw [List.length_zip, el, Nat.min_self]
          rw [lps, ← lz, List.take_length] at hall
          refine ke true ?_ _ (s1.trans s2)
          rw [hall, decide_eq_true el]
          rfl
        case turn =>
          rintro i y σ H2 H3 hi' ⟨o3, o4, o5, o6, o7, rfl, s2, hall⟩ ⟨tp, x0, y0, rfl, ntp, rfl, ex, ey⟩
          cases ex
          have hi2 : i < fs.length := by rw [← lps]; exact hi'
          obtain ⟨fp, hfp⟩ : ∃ fp, ps[i]? = some fp := ⟨_, List.getElem?_eq_getElem (by rw [hlp]; exact hi2)⟩
          have ey' : y0 = .ref fp := by
            have ey2 : (ps.map V.ref)[i]? = some y0 := ey
            rw [List.getElem?_map, hfp] at ey2
            exact (Option.some.inj ey2).symm
          subst ey'
          obtain ⟨f, hf2, hfq⟩ := hq.get hfp
          obtain ⟨z, hz⟩ : ∃ z, is[i]? = some z := ⟨_, List.getElem?_eq_getElem (by omega)⟩
          have hzip : (fs.zip is)[i]? = some (f, z) := by rw [List.getElem?_zip_eq_some]; exact ⟨hf2, hz⟩
          have s3 := sadd (o := .tup [.int ((i + 1 : Nat) : Int), .ref fp]) s2 ntp
          have htp : upd H2 tp (.tup [.int ((i + 1 : Nat) : Int), .ref fp]) tp = some (.tup [.int ((i + 1 : Nat) : Int), .ref fp]) := upd_same
          generalize upd H2 tp (.tup [.int ((i + 1 : Nat) : Int), .ref fp]) = H3 at s3 htp ⊢
          have bad : okF f z = false → Q (.bl false) H3 := fun e => by
            refine ke false ?_ _ (s1.trans s3)
            have : ((fs.zip is).all fun q => okF q.1 q.2) = false := List.all_eq_false.mpr ⟨(f, z), List.mem_of_getElem? hzip, by rw [e]; exact Bool.false_ne_true⟩
            rw [this, Bool.and_false]
          have good : okF f z = true → (((fs.zip is).take (i + 1)).all fun q => okF q.1 q.2) = true := fun e => by
            rw [List.take_add_one, hzip, List.all_append, hall]
            show (true && (okF f z && true)) = true
            rw [e]
            rfl
          have hfq3 := hfq.sm s3
          have hc3 := s3 _ _ hc1
          obtain ⟨lo, hi, ot⟩ := f
          refine ⟨tp, _, rfl, SqT.of htp, rfl, _, _, rfl, _, _, rfl, fp, _, rfl, hfq3, rfl, _, _, rfl, _, _, rfl, _, _, rfl, rfl, rfl, ?_⟩
          refine ⟨_, rfl, _, rfl, c, _, ((i + 1 : Nat) : Int), _, rfl, rfl, SqT.of hc3, atI_nat (j := i + 1) (v := .int z) (by rw [List.getElem?_cons_succ, List.getElem?_map, hz]; rfl), ?_⟩
          refine ⟨_, rfl, _, _, _, _, _, rfl, .ty "int", .base (.int z), kit_ty (r := true) (by decide +kernel), _, rfl, iteF ?_⟩
          refine ⟨_, rfl, true, rfl, .inl ⟨⟨z, rfl⟩, _, rfl, iteF ?_⟩⟩
          refine ⟨_, rfl, false, rfl, .inl ⟨⟨z, rfl⟩, _, rfl, iteF ?_⟩⟩
          refine ⟨_, rfl, _, rfl, _, _, rfl, rfl, _, rfl, ?_⟩
          refine ite2 (fun h1 => ?_) (fun h1 => ?_)
          · refine ⟨_, rfl, _, _, rfl, rfl, _, rfl, ?_⟩
            cases h2 : decide (z ≤ hi) with
            | false =>
              refine iteT (iteT (bad ?_))
              show (decide (lo ≤ z) && decide (z ≤ hi) && _) = false
              rw [h2, Bool.and_false, Bool.false_and]
            | true =>
              refine iteF ?_
              refine ⟨_, rfl, _, rfl, ?_⟩
              have sc : scal (V.int z) (optV ot) = true := by cases ot <;> rfl
              have eo : decide (V.int z = optV ot) = decide (ot = some z) := by
                cases ot with
                | none => rfl
                | some o =>
                  show decide (V.int z = V.int o) = _
                  by_cases e : o = z
                  · subst e
                    rw [decide_eq_true rfl, decide_eq_true rfl]
                  · rw [decide_eq_false (fun y => e (Option.some.inj y)), decide_eq_false (fun y => e (V.int.inj y).symm)]
              refine ⟨sc, _, rfl, ?_⟩
              rw [eo]
              have e0 : okF (lo, hi, ot) z = !decide (ot = some z) := by
                show (decide (lo ≤ z) && decide (z ≤ hi) && !decide (ot = some z)) = _
                rw [h1, h2]
                rfl
              refine ite2 (fun h3 => ?_) (fun h3 => ?_)
              · exact bad (by rw [e0, h3]; rfl)
              · exact ⟨_, _, _, _, _, rfl, s3, good (by rw [e0, Bool.eq_false_iff.mpr h3]; rfl)⟩
          · refine ⟨_, rfl, iteT (iteT (bad ?_))⟩
            show (decide (lo ≤ z) && decide (z ≤ hi) && _) = false
            rw [Bool.eq_false_iff.mpr h1, Bool.false_and, Bool.false_and]
end
end OH
end
section
set_option Elab.async false
set_option linter.all false
set_option maxRecDepth 100000
set_option maxHeartbeats 4000000
/-! RowWalk.take, good rows, rows walked. -/
namespace OH
open PySem PySem.Spec PyProof.Rows L2
def tk (w : Wk) : Crs → Wk
  | .start _ => { w with ins := some 0 }
  | .call a b _ _ => { w with asks := w.asks ++ [(a, b)], ins := some b }
  | .back _ b _ => { w with asks := w.asks.dropLast, ins := some b }
  | _ => { w with over := true }
def Crs.wd : Crs → Str
  | .start _ => "start"
  | .call .. => "call"
  | .back .. => "back"
  | .deep .. => "deep"
  | .done _ => "done"
  | .fin _ => "end"
def Crs.is : Crs → List Int
  | .start n => [n]
  | .call a b d n => [a, b, d, n]
  | .back a b n => [a, b, n]
  | .deep a b d n => [a, b, d, n]
  | .done n => [n]
  | .fin a => [a]
theorem Crs.vs_eq (x : Crs) : x.vs = .str x.wd :: x.is.map V.int := by cases x <;> rfl
def canC (w : Wk) (x : Crs) : Bool := canF w x.wd x.is
/-- a back takes an open ask -/
def tkOk (w : Wk) : Crs → Prop
  | .back .. => w.asks ≠ []
  | _ => True
def spTake (CW : Addr) : Sp := fun vs H Q _ => ∃ (p d al c : Addr) (w : Wk) (x : Crs), vs = [.ref p, .ref c] ∧ WkAt CW H p d al w ∧ p ≠ al ∧ w.asks.length ≤ 1000000 ∧ H c = some (.tup x.vs) ∧ tkOk w x ∧ ∀ H', WkAt CW H' p d al (tk w x) → Kept [p, al] H H' → Q .non H'
section
variable {P : Program} {w : World} {K : PySem.W.Frag} {mg : Str → Option Value} {base : Heap} {CW aN aD : Addr}
abbrev nTake : List Str := ["self", "crossing", "word"]
theorem sc_RowWalk_take : FnScope nTake ["self", "crossing"] (defScope s_RowWalk_take) := ⟨rfl, rfl, rfl, by decide +kernel, rfl, by decide +kernel, by decide +kernel⟩
theorem ok_RowWalk_take {f : Addr} {fd : FuncData} (F : Fun K "take" "RowWalk.take" s_RowWalk_take f fd) (TW : TxW K CW) : FnOk P w K mg base CX0 1 f fd ["self", "crossing"] (spTake CW) := by
  refine F.ok sc_RowWalk_take (fun vs H Q E h => ?_) (fun cdv A outer s H vs Q E hr h => ?_)
  · obtain ⟨p, d, al, c, w, x, rfl, _⟩ := h
    rfl
  · obtain ⟨p, d, al, c, w, x, rfl, W, npa, hl, hc, hb, k⟩ := h
    have nd := sc_RowWalk_take.nd
    refine ⟨_, pss_cons (ps_set (i := 2) nd rfl (Or.inl rfl) (pe_ix ix_tup (pv 1) pe_int (fun _ _ => rfl)))
      (pss_one (ps_if (pt_cmpR op_eq (pv 2) pe_str (nomark _)) (pss_one (ps_fld (pv 0) pe_int rfl)) (pss_one (ps_if (pt_cmpR op_eq (pv 2) pe_str (nomark _)) (pss_cons (ps_expr (pe_bm PySem.F.plainAttrs_list PySem.F.slot_list_append PySem.F.type_list_append mt_append (pe_fld (pv 0) rfl) (pa_cons (pe_tup (pa_cons (pe_ix ix_tup (pv 1) pe_int (fun _ _ => rfl)) (pa_cons (pe_ix ix_tup (pv 1) pe_int (fun _ _ => rfl)) pa_nil))) pa_nil)))
      (pss_one (ps_fld (pv 0) (pe_ix ix_tup (pv 1) pe_int (fun _ _ => rfl)) rfl))) (pss_one (ps_if (pt_cmpR op_eq (pv 2) pe_str (nomark _)) (pss_cons (ps_expr (pe_bm0 PySem.F.plainAttrs_list PySem.F.slot_list_pop PySem.F.type_list_pop mt_pop (pe_fld (pv 0) rfl)))
      (pss_one (ps_fld (pv 0) (pe_ix ix_tup (pv 1) pe_int (fun _ _ => rfl)) rfl))) (pss_one (ps_fld (pv 0) pe_bl rfl)))))))), ?_⟩
    obtain ⟨aps, ha, ha2⟩ := W.ha
    have la := ha2.len
    have kp : ∀ {H' : Hp}, Kept [p, al] H H' → ∀ q xs, H q = some (.tup xs) → H' q = some (.tup xs) := fun kk q xs e => kk _ _ e (fun z => by
      rcases List.mem_cons.mp z with z | z
      · rw [z, W.hp] at e; cases e
      · rw [List.mem_singleton.mp z, ha] at e; cases e)
    -- the instance alone changes
    have fin1 : ∀ (i : Option Int) (o : Bool), WkAt CW (upd H p (.ins CW d (wkf { w with ins := i, over := o } al))) p d al { w with ins := i, over := o } := fun i o =>
      ⟨upd_same, aps, (upd_ne npa.symm).trans ha, ha2.mono (kp (Kept.refl.upd (List.mem_cons_self ..)))⟩
    have k1 : ∀ o, Kept [p, al] H (upd H p o) := fun o => Kept.refl.upd (List.mem_cons_self ..)
    cases x with
    | start n =>
      refine ⟨_, rfl, c, _, 0, _, rfl, rfl, SqT.of hc, rfl, ?_⟩
      refine ⟨_, rfl, rfl, _, rfl, iteT ?_⟩
      refine ⟨_, rfl, p, CW, d, _, rfl, W.hp, TW.cl, TW.nI, (by show 3 < 1000; decide), ?_⟩
      exact k _ (fin1 (some 0) w.over) (k1 _)
    | deep a b e n =>
      refine ⟨_, rfl, c, _, 0, _, rfl, rfl, SqT.of hc, rfl, ?_⟩
      refine ⟨_, rfl, rfl, _, rfl, iteF ?_⟩
      refine ⟨_, rfl, rfl, _, rfl, iteF ?_⟩
      refine ⟨_, rfl, rfl, _, rfl, iteF ?_⟩
      refine ⟨_, rfl, p, CW, d, _, rfl, W.hp, TW.cl, TW.nO, (by show 3 < 1000; decide), ?_⟩
      exact k _ (fin1 w.ins true) (k1 _)
    | done n =>
      refine ⟨_, rfl, c, _, 0, _, rfl, rfl, SqT.of hc, rfl, ?_⟩
      refine ⟨_, rfl, rfl, _, rfl, iteF ?_⟩
      refine ⟨_, rfl, rfl, _, rfl, iteF ?_⟩
      refine ⟨_, rfl, rfl, _, rfl, iteF ?_⟩
      refine ⟨_, rfl, p, CW, d, _, rfl, W.hp, TW.cl, TW.nO, (by show 3 < 1000; decide), ?_⟩
      exact k _ (fin1 w.ins true) (k1 _)
    | fin a =>
      refine ⟨_, rfl, c, _, 0, _, rfl, rfl, SqT.of hc, rfl, ?_⟩
      refine ⟨_, rfl, rfl, _, rfl, iteF ?_⟩
      refine ⟨_, rfl, rfl, _, rfl, iteF ?_⟩
      refine ⟨_, rfl, rfl, _, rfl, iteF ?_⟩
      refine ⟨_, rfl, p, CW, d, _, rfl, W.hp, TW.cl, TW.nO, (by show 3 < 1000; decide), ?_⟩
      exact k _ (fin1 w.ins true) (k1 _)
    | call a b e n =>
      refine ⟨_, rfl, c, _, 0, _, rfl, rfl, SqT.of hc, rfl, ?_⟩
      refine ⟨_, rfl, rfl, _, rfl, iteF ?_⟩
      refine ⟨_, rfl, rfl, _, rfl, iteT ?_⟩
      refine ⟨_, rfl, p, CW, d, _, _, rfl, W.hp, TW.cl, TW.nA, rfl, .inl ⟨rfl, _, SqL.of ha⟩, ?_⟩
      refine ⟨_, rfl, c, _, 1, _, rfl, rfl, SqT.of hc, rfl, _, rfl, c, _, 2, _, rfl, rfl, SqT.of hc, rfl, (by show 2 ≤ sizeLine; decide), fun t nt => ?_⟩
      have s1 := sadd (o := .tup [.int a, .int b]) (Same.refl H) nt
      have ht : upd H t (.tup [.int a, .int b]) t = some (.tup (pairV (a, b))) := upd_same
      have na := s1 _ _ ha
      have kk1 : Kept [p, al] H (upd H t (.tup [.int a, .int b])) := Kept.refl.new nt
      have ha3 := ha2.mono (fun q xs e => s1 q _ e)
      refine ⟨al, _, _, rfl, rfl, na, (by rw [List.length_map, la, sizeLine_eq]; omega), ?_⟩
      have hp1 := s1 _ _ W.hp
      have hc1 := s1 _ _ hc
      generalize upd H t (.tup [.int a, .int b]) = H1 at s1 ht na kk1 ha3 hp1 hc1 ⊢
      have nca : c ≠ al := ne_of hc1 na (fun z => nomatch z)
      have hp2 : upd H1 al (.lst (aps.map V.ref ++ [.ref t])) p = some (.ins CW d (wkf w al)) := (upd_ne npa).trans hp1
      have hc2 : upd H1 al (.lst (aps.map V.ref ++ [.ref t])) c = some (.tup (Crs.call a b e n).vs) := (upd_ne nca).trans hc1
      have kk2 : Kept [p, al] H (upd H1 al (.lst (aps.map V.ref ++ [.ref t]))) := kk1.upd (List.mem_cons_of_mem _ (List.mem_singleton.mpr rfl))
      have ha4 : upd H1 al (.lst (aps.map V.ref ++ [.ref t])) al = some (.lst ((aps ++ [t]).map V.ref)) := by rw [upd_same, List.map_append]; rfl
      have tn : ∀ q xs, H1 q = some (.tup xs) → upd H1 al (.lst (aps.map V.ref ++ [.ref t])) q = some (.tup xs) := fun q xs e => (upd_ne (ne_of e na (fun z => nomatch z))).trans e
      have ha5 := AllAt.app (ha3.mono tn) (tn _ _ ht) (x := (a, b))
      generalize upd H1 al (.lst (aps.map V.ref ++ [.ref t])) = H2 at hp2 hc2 kk2 ha4 ha5 ⊢
      refine ⟨_, rfl, c, _, 2, _, rfl, rfl, SqT.of hc2, rfl, _, rfl, p, CW, d, _, rfl, hp2, TW.cl, TW.nI, (by show 3 < 1000; decide), ?_⟩
      refine k _ ⟨upd_same, aps ++ [t], (upd_ne npa.symm).trans ha4, ha5.mono fun q xs e => (upd_ne (ne_of e hp2 (fun z => nomatch z))).trans e⟩ (kk2.upd (List.mem_cons_self ..))
    | back a b n =>
      refine ⟨_, rfl, c, _, 0, _, rfl, rfl, SqT.of hc, rfl, ?_⟩
      refine ⟨_, rfl, rfl, _, rfl, iteF ?_⟩
      refine ⟨_, rfl, rfl, _, rfl, iteF ?_⟩
      refine ⟨_, rfl, rfl, _, rfl, iteT ?_⟩
      have hne : w.asks ≠ [] := hb
      have l0 : 0 < w.asks.length := List.length_pos_iff.mpr hne
      obtain ⟨lp, hlp⟩ : ∃ lp, aps[aps.length - 1]? = some lp := ⟨_, List.getElem?_eq_getElem (by omega)⟩
      refine ⟨_, rfl, p, CW, d, _, _, rfl, W.hp, TW.cl, TW.nA, rfl, .inl ⟨rfl, _, SqL.of ha⟩, al, _, .ref lp, rfl, rfl, ha, (by rw [List.length_map, List.getElem?_map, hlp]; rfl), ?_⟩
      have ed : (aps.map V.ref).dropLast = aps.dropLast.map V.ref := List.map_dropLast.symm
      rw [ed]
      have hp2 : upd H al (.lst (aps.dropLast.map V.ref)) p = some (.ins CW d (wkf w al)) := (upd_ne npa).trans W.hp
      have nca : c ≠ al := ne_of hc ha (fun z => nomatch z)
      have hc2 : upd H al (.lst (aps.dropLast.map V.ref)) c = some (.tup (Crs.back a b n).vs) := (upd_ne nca).trans hc
      have kk2 : Kept [p, al] H (upd H al (.lst (aps.dropLast.map V.ref))) := Kept.refl.upd (List.mem_cons_of_mem _ (List.mem_singleton.mpr rfl))
      have ha4 : upd H al (.lst (aps.dropLast.map V.ref)) al = some (.lst (aps.dropLast.map V.ref)) := upd_same
      have ha5 := (ha2.mono (kp kk2)).pop
      generalize upd H al (.lst (aps.dropLast.map V.ref)) = H2 at hp2 hc2 kk2 ha4 ha5 ⊢
      refine ⟨_, rfl, c, _, 2, _, rfl, rfl, SqT.of hc2, rfl, _, rfl, p, CW, d, _, rfl, hp2, TW.cl, TW.nI, (by show 3 < 1000; decide), ?_⟩
      refine k _ ⟨upd_same, aps.dropLast, (upd_ne npa.symm).trans ha4, ha5.mono fun q xs e => (upd_ne (ne_of e hp2 (fun z => nomatch z))).trans e⟩ (kk2.upd (List.mem_cons_self ..))
end
end OH
end
section
set_option Elab.async false
set_option linter.all false
set_option maxRecDepth 100000
set_option maxHeartbeats 4000000
/-! Good rows, rows walked. -/
namespace OH
open PySem PySem.Spec PyProof.Rows L2
theorem Crs.is_le (x : Crs) : x.is.length ≤ 1000 := by
  cases x <;> (show _ ≤ _; simp [Crs.is])
def w0 : Wk := ⟨none, [], false⟩
def goodGo (w : Wk) : List Crs → Bool
  | [] => true
  | x :: xs => canC w x && goodGo (tk w x) xs
def goodB (cs : List Crs) : Bool := !cs.isEmpty && goodGo w0 cs
def wk (w : Wk) (cs : List Crs) : Wk := cs.foldl tk w
theorem canC_back {w : Wk} {x : Crs} (h : canC w x = true) : tkOk w x := by
  cases x with
  | back a b n =>
    intro e
    unfold canC canF at h
    have hf : fld w "back" = none := by
      unfold fld
      split
      · rfl
      · split
        · rw [if_neg (by decide)]
        · rw [if_neg (fun z => z.elim (fun z => absurd z.1 (by decide)) (fun z => absurd z.1 (by decide))), if_neg (fun z => by rw [e] at z; exact absurd z.2 (by decide)), if_neg (fun z => absurd z.1 (by decide)), if_neg (by decide)]
    rw [show Crs.wd (.back a b n) = "back" from rfl, hf] at h
    cases h
  | _ => trivial
theorem tk_len (w : Wk) (x : Crs) : (tk w x).asks.length ≤ w.asks.length + 1 := by
  cases x with
  | call a b d n => show (w.asks ++ [(a, b)]).length ≤ _; rw [List.length_append]; exact Nat.le_refl _
  | back a b n => show (w.asks.dropLast).length ≤ _; rw [List.length_dropLast]; omega
  | _ => exact Nat.le_succ _
theorem wk_len : ∀ (cs : List Crs) (w : Wk), (wk w cs).asks.length ≤ w.asks.length + cs.length
  | [], w => Nat.le_refl _
  | x :: xs, w => by
    have h1 := wk_len xs (tk w x)
    have h2 := tk_len w x
    show (wk (tk w x) xs).asks.length ≤ _
    rw [List.length_cons]
    omega
theorem wk_snoc (w : Wk) (cs : List Crs) (x : Crs) : wk w (cs ++ [x]) = tk (wk w cs) x := by
  unfold wk
  rw [List.foldl_append]
  rfl
theorem goodGo_app : ∀ (xs ys : List Crs) (w : Wk), goodGo w (xs ++ ys) = (goodGo w xs && goodGo (wk w xs) ys)
  | [], ys, w => rfl
  | x :: xs, ys, w => by
    show (canC w x && goodGo (tk w x) (xs ++ ys)) = ((canC w x && goodGo (tk w x) xs) && goodGo (wk (tk w x) xs) ys)
    rw [goodGo_app xs ys, Bool.and_assoc]
def RwAt (H : Hp) (l : Addr) (cs : List Crs) : Prop := ∃ ps : List Addr, H l = some (.lst (ps.map V.ref)) ∧ AllAt H Crs.vs ps cs
theorem RwAt.same {H H' : Hp} {l : Addr} {cs : List Crs} (h : RwAt H l cs) (s : Same H H') : RwAt H' l cs := by
  obtain ⟨ps, h1, h2⟩ := h
  exact ⟨ps, s _ _ h1, h2.mono fun q xs e => s _ _ e⟩
/-- new objects alone have changed -/
theorem Same.kept {H H1 H2 : Hp} {S : List Addr} (s : Same H H1) (k : Kept S H1 H2) (f : ∀ q ∈ S, H q = none) : Same H H2 := fun q o e => k _ _ (s _ _ e) (fun z => by rw [f q z] at e; cases e)
def spGoodR : Sp := fun vs H Q _ => ∃ (l : Addr) (cs : List Crs), vs = [.ref l] ∧ RwAt H l cs ∧ cs.length ≤ 1000 ∧ ∀ H', Same H H' → Q (.bl (goodB cs)) H'
def spNeedRow : Sp := fun vs H Q _ => ∃ (l : Addr) (cs : List Crs), vs = [.ref l] ∧ RwAt H l cs ∧ cs.length ≤ 1000 ∧ goodB cs = true ∧ ∀ H', Same H H' → Q .non H'
def spWalked (CW : Addr) : Sp := fun vs H Q _ => ∃ (l : Addr) (cs : List Crs), vs = [.ref l] ∧ RwAt H l cs ∧ cs.length ≤ 1000 ∧ goodB cs = true ∧ ∀ p d al H', Same H H' → H p = none → H al = none → p ≠ al → WkAt CW H' p d al (wk w0 cs) → Q (.ref p) H'
def spControl : Sp := fun vs H Q _ => ∃ (l : Addr) (cs : List Crs), vs = [.ref l] ∧ RwAt H l cs ∧ cs.length ≤ 1000 ∧ goodB cs = true ∧ ∀ H', Same H H' → Q (if (wk w0 cs).over = true then .non else optV (wk w0 cs).ins) H'
def spOpen : Sp := fun vs H Q _ => ∃ (l : Addr) (cs : List Crs), vs = [.ref l] ∧ RwAt H l cs ∧ cs.length ≤ 1000 ∧ goodB cs = true ∧ ∀ al ps H', Same H H' → H al = none → H' al = some (.lst (ps.map V.ref)) → AllAt H' pairV ps (wk w0 cs).asks → Q (.ref al) H'
section
variable {X : Cx} {CX : CXT} {k : Nat} {C : Addr} {sp : Sp} {E : XK} {x : Str} {p pos : Pos}
theorem pe_kD0 (D : MakF X.prog X.w X.K X.mg X.base CX k x C ["self"] sp) (hr : Room (k + 1) X.A) (hg : Gl X x) (hx : Passes CX X E) (hdb : (x == ("__debug__" : Str)) = false := by decide) : PE X (.Call (.Name x p) [] [] pos) (tMake C sp [] E tNil) := by
  obtain ⟨f, fd, F, h1, h2, h3⟩ := D
  exact pe_make0 h1 F hr hg h2 h3 .nil hx hdb
end
section
variable {P : Program} {w : World} {K : PySem.W.Frag} {mg : Str → Option Value} {base : Heap} {CW aN aD : Addr}
theorem sc_good_row : FnScope ["value", "walk", "crossing"] ["value"] (defScope s_good_row) := ⟨rfl, rfl, rfl, by decide +kernel, rfl, by decide +kernel, by decide +kernel⟩
theorem ok_good_row {f : Addr} {fd : FuncData} (F : Fun K "good_row" "good_row" s_good_row f fd) (T : Txt K mg) (TW : TxW K CW)
    (DK : MakF P w K mg base CX0 2 "RowWalk" CW ["self"] (spKInit CW)) (DC : MetF P w K mg base CX0 3 CW "can_follow" ["self", "crossing"] (spCan CW)) (DT : MetF P w K mg base CX0 3 CW "take" ["self", "crossing"] (spTake CW)) :
    FnOk P w K mg base CX0 4 f fd ["value"] spGoodR := by
  refine F.ok sc_good_row (fun vs H Q E h => ?_) (fun cdv A outer s H vs Q E hr h => ?_)
  · obtain ⟨l, cs, rfl, _⟩ := h
    rfl
  · obtain ⟨l, cs, rfl, hl, hn, k⟩ := h
    have nd := sc_good_row.nd
    refine ⟨_, pss_cons (ps_if (PW.pt (pw_or (pt_not (pt_val (pe_callB call_isiT (by rfl) T.nIsi (by decide +kernel) (pa_cons (pv 0) (pa_cons (pe_tup (pa_cons (pe_bltn (v := .ty "list") (by rfl) T.nList (by decide +kernel) rfl) (pa_cons (pe_bltn (v := .ty "tuple") (by rfl) T.nTuple (by decide +kernel) rfl) pa_nil))) pa_nil))))) (pw_or1 (pt_cmpR op_eq (pe_callB call_len_seq (by rfl) T.nLen PySem.boot_len (pa_cons (pv 0) pa_nil)) pe_int (nomark _))))) (pss_one (ps_ret pe_bl)) pss_nil)
      (pss_cons (ps_set (i := 1) nd rfl (Or.inl rfl) (pe_kD0 DK hr rfl pass0))
      (pss_cons (ps_for PassesOwn.never rfl (pi_list (pv 0)) (pg_name (i := 2) nd rfl (Or.inl rfl))
        (pss_cons (ps_if (pt_not (pt_val (pe_mD (pv 1) TW.cl DC hr pass0 (pa_cons (pv 2) pa_nil)))) (pss_one (ps_ret pe_bl)) pss_nil)
      (pss_one (ps_expr (pe_mD (pv 1) TW.cl DT hr pass0 (pa_cons (pv 2) pa_nil))))))
      (pss_one (ps_ret pe_bl)))), ?_⟩
    obtain ⟨ps, h1, h2⟩ := hl
    have lp := h2.len
    refine ⟨_, rfl, (by show 2 ≤ sizeLine; decide), fun tp ntp => ?_⟩
    have s1 := sadd (o := .tup [.ty "list", .ty "tuple"]) (Same.refl H) ntp
    have htp : upd H tp (.tup [.ty "list", .ty "tuple"]) tp = some (.tup [.ty "list", .ty "tuple"]) := upd_same
    generalize upd H tp (.tup [.ty "list", .ty "tuple"]) = H1 at s1 htp ⊢
    have hl1 := s1 _ _ h1
    refine ⟨_, tp, _, _, _, _, rfl, htp, .cons (.ty _) (.cons (.ty _) .nil), .base (.lst hl1), kitAny_cons (kit_ty (r := true) (by decide +kernel)) (fun z => nomatch z) (fun _ => rfl), _, rfl, iteF ?_⟩
    refine ⟨_, rfl, l, _, rfl, .inl (SqL.of hl1), rfl, _, rfl, ?_⟩
    refine ite2 (fun q => ?_) (fun q => ?_)
    · have e0 : ((ps.map V.ref).length : Int) = 0 := by simpa using q
      have e : cs = [] := by
        rw [List.length_map, lp] at e0
        exact List.length_eq_zero_iff.mp (by omega)
      subst e
      exact k H1 s1
    · have e0 : ¬ ((ps.map V.ref).length : Int) = 0 := by simpa using q
      have ne : goodB cs = goodGo w0 cs := by
        unfold goodB
        cases cs with
        | nil => rw [List.length_map, lp] at e0; exact absurd rfl e0
        | cons _ _ => rfl
      rw [ne] at k
      intro p d np ndx npd
      have s2 := sadd (o := .ins CW d []) (sadd (o := .own p) (Same.refl H1) ndx) (by rw [upd_ne npd.symm]; exact np)
      have hp2 : upd (upd H1 d (.own p)) p (.ins CW d []) p = some (.ins CW d []) := upd_same
      have npH : H p = none := s1.free np
      generalize upd (upd H1 d (.own p)) p (.ins CW d []) = H2 at s2 hp2 ⊢
      refine ⟨p, d, rfl, hp2, fun al H3 nal alp W k3 => ⟨rfl, ?_⟩⟩
      have s12 := s1.trans s2
      have nalH : H al = none := s12.free nal
      have f2 : ∀ q ∈ [p], H q = none := fun q hq => by rw [List.mem_singleton.mp hq]; exact npH
      have f3 : ∀ q ∈ [p, al], H q = none := fun q hq => by
        rcases List.mem_cons.mp hq with z | z
        · rw [z]; exact npH
        · rw [List.mem_singleton.mp z]; exact nalH
      have s3 : Same H H3 := Same.kept s12 k3 f2
      refine ⟨_, rfl, l, rfl, ⟨_, SqL.of (s3 _ _ h1)⟩, ?_⟩
      refine for_list (xs := ps.map V.ref) (fun i σ H' => ∃ o : Option V, σ = [some (.ref l), some (.ref p), o] ∧ Same H H' ∧ WkAt CW H' p d al (wk w0 (cs.take i)) ∧ goodGo w0 (cs.take i) = true) ⟨none, rfl, s3, W, rfl⟩ (fun i σ H' _ ⟨o, _, s, _⟩ => SqL.of (s _ _ h1)) ?turn ?done
      case done =>
        rintro σ H4 ⟨o, rfl, s4, W4, g4⟩
        have e : cs.take (ps.map V.ref).length = cs := by rw [List.length_map, lp]; exact List.take_length
        rw [e] at g4
        have k4 := k H4 s4
        rw [g4] at k4
        exact k4
      case turn =>
        rintro i y σ H4 hy ⟨o, rfl, s4, W4, g4⟩
        rw [List.getElem?_map] at hy
        obtain ⟨c, hc, rfl⟩ := Option.map_eq_some_iff.mp hy
        have hi : i < cs.length := by rw [← lp]; exact (List.getElem?_eq_some_iff.mp hc).1
        obtain ⟨x, hx⟩ : ∃ x, cs[i]? = some x := ⟨_, List.getElem?_eq_getElem hi⟩
        obtain ⟨c', hc', hcx⟩ := h2.get hx
        rw [hc] at hc'
        cases hc'
        have hc4 := s4 _ _ hcx
        have tki : cs.take (i + 1) = cs.take i ++ [x] := by rw [List.take_add_one, hx]; rfl
        have lw : (wk w0 (cs.take i)).asks.length ≤ 1000000 := by
          have := wk_len (cs.take i) w0
          rw [List.length_take] at this
          have e0 : w0.asks.length = 0 := rfl
          omega
        refine ⟨_, rfl, p, d, _, rfl, W4.hp, rfl, _, rfl, ?_⟩
        refine ⟨p, d, al, c, _, x.wd, x.is, rfl, W4, lw, by rw [← Crs.vs_eq]; exact hc4, x.is_le, fun H5 s5 => ?_⟩
        have W5 : WkAt CW H5 p d al (wk w0 (cs.take i)) := ⟨s5 _ _ W4.hp, by obtain ⟨as, a1, a2⟩ := W4.ha; exact ⟨as, s5 _ _ a1, a2.mono fun q xs e => s5 _ _ e⟩⟩
        refine ⟨_, rfl, ?_⟩
        have ce : canF (wk w0 (cs.take i)) x.wd x.is = canC (wk w0 (cs.take i)) x := rfl
        rw [ce]
        cases hcan : canC (wk w0 (cs.take i)) x with
        | false =>
          refine iteT ?_
          have eg : goodGo w0 cs = false := by
            have e1 : cs = cs.take i ++ cs.drop i := (List.take_append_drop i cs).symm
            have e2 : cs.drop i = x :: cs.drop (i + 1) := by
              have := List.getElem?_eq_some_iff.mp hx
              rw [List.drop_eq_getElem_cons hi, this.2]
            rw [e1, goodGo_app, e2, g4]
            show (true && (canC (wk w0 (cs.take i)) x && _)) = false
            rw [hcan]
            rfl
          have k5 := k H5 (s4.trans s5)
          rw [eg] at k5
          exact k5
        | true =>
          refine iteF ?_
          refine ⟨_, rfl, p, d, _, rfl, W5.hp, rfl, _, rfl, ?_⟩
          refine ⟨p, d, al, c, _, x, rfl, W5, alp.symm, lw, s5 _ _ hc4, canC_back hcan, fun H6 W6 k6 => ?_⟩
          refine ⟨some (.ref c), rfl, Same.kept (s4.trans s5) k6 f3, ?_, ?_⟩
          · rw [tki, wk_snoc]
            exact W6
          · rw [tki, goodGo_app, g4]
            show (true && (canC (wk w0 (cs.take i)) x && true)) = true
            rw [hcan]
            rfl
theorem sc_need_row : FnScope ["row"] ["row"] (defScope s_need_row) := ⟨rfl, rfl, rfl, by decide +kernel, rfl, by decide +kernel, by decide +kernel⟩
theorem ok_need_row {f : Addr} {fd : FuncData} (F : Fun K "need_row" "need_row" s_need_row f fd) (DG : DefF P w K mg base CX0 4 "good_row" ["value"] spGoodR) : FnOk P w K mg base CX0 5 f fd ["row"] spNeedRow := by
  refine F.ok sc_need_row (fun vs H Q E h => ?_) (fun cdv A outer s H vs Q E hr h => ?_)
  · obtain ⟨l, cs, rfl, _⟩ := h
    rfl
  · obtain ⟨l, cs, rfl, hl, hn, hg, k⟩ := h
    refine ⟨_, pss_one (ps_if (pt_not (pt_val (pe_cD DG hr rfl pass0 (pa_cons (pv 0) pa_nil)))) (pss_one ps_never) pss_nil), ?_⟩
    refine ⟨_, rfl, l, cs, rfl, hl, hn, fun H1 s1 => ?_⟩
    rw [hg]
    exact ⟨_, rfl, iteF (k H1 s1)⟩
end
end OH
end
section
set_option Elab.async false
set_option linter.all false
set_option maxRecDepth 100000
set_option maxHeartbeats 1000000
/-! Rows of a face are good rows. -/
namespace OH
open PySem PySem.Spec PyProof.Rows L2
structure WR (s : Rs) (w : Wk) : Prop where
  as : w.asks = s.2
  st : s.1 = none → w.over = true
  ru : ∀ c, s.1 = some c → w.over = false ∧ w.ins = some c
theorem okF_num {n : Int} (h : Num n) : okF numF n = true := by
  obtain ⟨h0, h9⟩ := h
  show (decide ((0 : Int) ≤ n) && decide (n ≤ 9999) && !decide ((none : Option Int) = some n)) = true
  rw [decide_eq_true h0, decide_eq_true h9]
  rfl
theorem okF_own (r : Int) : okF (r, r, none) r = true := by
  show (decide (r ≤ r) && decide (r ≤ r) && !decide ((none : Option Int) = some r)) = true
  rw [decide_eq_true (Int.le_refl r)]
  rfl
theorem okF_asked {r b : Int} (b0 : 0 ≤ b) (b5 : b ≤ 5) (ne : b ≠ r) : okF (0, 5, some r) b = true := by
  show (decide ((0 : Int) ≤ b) && decide (b ≤ 5) && !decide (some r = some b)) = true
  rw [decide_eq_true b0, decide_eq_true b5, decide_eq_false (fun z => ne (Option.some.inj z).symm)]
  rfl
theorem okF_dor {d : Int} (d0 : 0 ≤ d) (d5 : d ≤ 5) : okF dorF d = true := by
  show (decide ((0 : Int) ≤ d) && decide (d ≤ 5) && !decide ((none : Option Int) = some d)) = true
  rw [decide_eq_true d0, decide_eq_true d5]
  rfl
theorem canF_of {w : Wk} {x : Str} {is : List Int} {fs : List Fd} (h : fld w x = some fs) (hl : is.length = fs.length) (ha : ((fs.zip is).all fun q => okF q.1 q.2) = true) : canF w x is = true := by
  unfold canF
  rw [h]
  show (decide (is.length = fs.length) && (fs.zip is).all fun q => okF q.1 q.2) = true
  rw [decide_eq_true hl, ha]
  rfl
theorem wire_rng {F : Fc} (hF : F.Ok) {c : Int} (c0 : 0 ≤ c) (c1 : c < (F.R : Int)) {b d : Int} (h : (b, d) ∈ F.ws c.toNat) : 0 ≤ b ∧ b ≤ 5 ∧ b < (F.R : Int) ∧ b ≠ c ∧ 0 ≤ d ∧ d ≤ 5 := by
  obtain ⟨w1, w2, w3, w4, w5⟩ := (hF.wi c.toNat (by omega)).2.2 _ h
  have w1' : 0 ≤ b := w1
  have w2' : b < (F.R : Int) := w2
  have w3' : b ≠ (c.toNat : Int) := w3
  have w4' : 0 ≤ d := w4
  have w5' : d < F.dor.getD b.toNat 0 := w5
  have h6 := hF.m6
  have d6 : F.dor.getD b.toNat 0 ≤ 6 := by
    rw [List.getD_eq_getElem?_getD, List.getElem?_eq_getElem (show b.toNat < F.dor.length by show b.toNat < F.R; omega)]
    exact (hF.dz _ (List.getElem_mem _)).2
  exact ⟨w1', by omega, w2', by omega, w4', by omega⟩
theorem WR.step {F : Fc} (hF : F.Ok) {s : Rs} {w : Wk} (hs : SOk F s) (hw : WR s w) {c : Int} (hc : s.1 = some c) {x : Crs} (hx : Nx F c s.2 x) : canC w x = true ∧ WR (bh s x) (tk w x) := by
  have ch := hs.ctl hc
  obtain ⟨c0, c1⟩ := ch.rng hF
  obtain ⟨ho, hi⟩ := hw.ru c hc
  have fl : ∀ x : Str, fld w x = if (x = "call" ∧ w.asks.length < 60) ∨ (x = "deep" ∧ 0 < w.asks.length) then some [(c, c, none), (0, 5, some c), dorF, numF]
    else if x = "back" ∧ 0 < w.asks.length then some [(c, c, none), ((w.asks.getLast?.getD (0, 0)).1, (w.asks.getLast?.getD (0, 0)).1, none), numF]
    else if x = "done" ∧ w.asks.length = 0 then some [numF]
    else if x = "end" then some [(c, c, none)] else none := fun x => by
    unfold fld
    rw [ho, hi]
    rfl
  have hle := hs.le
  have d60 := hF.d60
  have d1 := hF.d1
  have ea := hw.as
  cases x with
  | start n => exact hx.elim
  | call a b d n =>
    obtain ⟨e, hb, hl, hn⟩ := hx
    subst e
    obtain ⟨b0, b5, _, nb, e0, e5⟩ := wire_rng hF c0 c1 hb
    refine ⟨canF_of (fs := [(a, a, none), (0, 5, some a), dorF, numF]) ?_ rfl ?_, ?_, fun z => ?_, fun c' z => ?_⟩
    · rw [fl, if_pos (.inl ⟨rfl, by rw [ea]; omega⟩)]
    · show (okF (a, a, none) a && (okF (0, 5, some a) b && (okF dorF d && (okF numF n && true)))) = true
      rw [okF_own, okF_asked b0 b5 nb, okF_dor e0 e5, okF_num hn]
      rfl
    · show w.asks ++ [(a, b)] = s.2 ++ [(a, b)]
      rw [ea]
    · cases z
    · cases z
      exact ⟨ho, rfl⟩
  | deep a b d n =>
    obtain ⟨e, hb, hl, hn⟩ := hx
    subst e
    obtain ⟨b0, b5, _, nb, e0, e5⟩ := wire_rng hF c0 c1 hb
    refine ⟨canF_of (fs := [(a, a, none), (0, 5, some a), dorF, numF]) ?_ rfl ?_, ea, fun _ => rfl, fun c' z => by cases z⟩
    · rw [fl, if_pos (.inr ⟨rfl, by rw [ea]; omega⟩)]
    · show (okF (a, a, none) a && (okF (0, 5, some a) b && (okF dorF d && (okF numF n && true)))) = true
      rw [okF_own, okF_asked b0 b5 nb, okF_dor e0 e5, okF_num hn]
      rfl
  | back a b n =>
    obtain ⟨e, ⟨q, hq, hb⟩, hn⟩ := hx
    subst e
    have l0 : 0 < w.asks.length := by
      rw [ea]
      cases h : s.2 with
      | nil => rw [h] at hq; cases hq
      | cons _ _ => exact Nat.succ_pos _
    refine ⟨canF_of (fs := [(a, a, none), (b, b, none), numF]) ?_ rfl ?_, ?_, fun z => ?_, fun c' z => ?_⟩
    · show fld w "back" = _
      rw [fl, if_neg (fun z => z.elim (fun z => absurd z.1 (by decide)) (fun z => absurd z.1 (by decide))), if_pos ⟨rfl, l0⟩, ea, hq]
      show some [(a, a, none), (q.1, q.1, none), numF] = _
      rw [← hb]
    · show (okF (a, a, none) a && (okF (b, b, none) b && (okF numF n && true))) = true
      rw [okF_own, okF_own, okF_num hn]
      rfl
    · show w.asks.dropLast = s.2.dropLast
      rw [ea]
    · cases z
    · cases z
      exact ⟨ho, rfl⟩
  | done n =>
    obtain ⟨e, hn⟩ := hx
    refine ⟨canF_of (fs := [numF]) ?_ rfl ?_, ea, fun _ => rfl, fun c' z => by cases z⟩
    · show fld w "done" = _
      rw [fl, if_neg (fun z => z.elim (fun z => absurd z.1 (by decide)) (fun z => absurd z.1 (by decide))), if_neg (fun z => absurd z.1 (by decide)), if_pos ⟨rfl, by rw [ea, e]; rfl⟩]
    · show (okF numF n && true) = true
      rw [okF_num hn]
      rfl
  | fin a =>
    have e : a = c := hx
    subst e
    refine ⟨canF_of (fs := [(a, a, none)]) ?_ rfl ?_, ea, fun _ => rfl, fun c' z => by cases z⟩
    · show fld w "end" = _
      rw [fl, if_neg (fun z => z.elim (fun z => absurd z.1 (by decide)) (fun z => absurd z.1 (by decide))), if_neg (fun z => absurd z.1 (by decide)), if_neg (fun z => absurd z.1 (by decide)), if_pos rfl]
    · show (okF (a, a, none) a && true) = true
      rw [okF_own]
      rfl
theorem VRr.good {F : Fc} (hF : F.Ok) : ∀ {xs : List Crs} {s : Rs} {w : Wk}, SOk F s → WR s w → VRr F s xs → goodGo w xs = true ∧ WR (stt s xs) (wk w xs)
  | [], _, _, _, hw, _ => ⟨rfl, hw⟩
  | x :: xs, s, w, hs, hw, ⟨⟨c, hc, hx⟩, hr⟩ => by
    obtain ⟨h1, h2⟩ := hw.step hF hs hc hx
    obtain ⟨h3, h4⟩ := VRr.good (xs := xs) (s := bh s x) (w := tk w x) hF (hs.step hF hc hx) h2 hr
    refine ⟨?_, h4⟩
    show (canC w x && goodGo (tk w x) xs) = true
    rw [h1, h3]
    rfl
theorem VR.good {F : Fc} (hF : F.Ok) {cs : List Crs} (h : VR F cs) : goodB cs = true ∧ WR (stt (none, []) cs) (wk w0 cs) := by
  obtain ⟨n, xs, rfl, hn, hr⟩ := h
  have hw : WR (some 0, []) (tk w0 (.start n)) := ⟨rfl, (fun z => nomatch z), (fun c z => by injection z with z; subst z; exact ⟨rfl, rfl⟩)⟩
  obtain ⟨h1, h2⟩ := VRr.good (xs := xs) hF (SOk.init hF) hw hr
  refine ⟨?_, h2⟩
  show (true && (canC w0 (.start n) && goodGo (tk w0 (.start n)) xs)) = true
  have e : canC w0 (.start n) = true := canF_of (fs := [numF]) rfl rfl (by show (okF numF n && true) = true; rw [okF_num hn]; rfl)
  rw [e, h1]
  rfl
/-- what comes behind the begin of a row is no row -/
theorem VR.tail_bad {F : Fc} {cs : List Crs} (h : VR F cs) : goodB cs.tail = false := by
  obtain ⟨n, xs, rfl, hn, hr⟩ := h
  show goodB xs = false
  cases xs with
  | nil => rfl
  | cons x xs =>
    obtain ⟨⟨c, hc, hx⟩, _⟩ := hr
    show (true && (canC w0 x && _)) = false
    have e : canC w0 x = false := by
      cases x with
      | start n => exact hx.elim
      | call a b d n => rfl
      | back a b n => rfl
      | deep a b d n => rfl
      | done n => rfl
      | fin a => rfl
    rw [e]
    rfl
end OH
end
section
set_option Elab.async false
set_option linter.all false
set_option maxRecDepth 100000
set_option maxHeartbeats 8000000
/-! Good faces. -/
namespace OH
open PySem PySem.Spec PyProof.Rows L2
structure FcAt (H : Hp) (a : Addr) (F : Fc) : Prop where
  ex : ∃ (wt dt : Addr) (wps : List Addr), H a = some (.tup [.int F.dep, .ref wt, .ref dt]) ∧ H wt = some (.tup (wps.map V.ref)) ∧ H dt = some (.tup (F.dor.map V.int)) ∧ wps.length = F.R ∧
    ∀ (i : Nat) (q : Addr), wps[i]? = some q → ∃ ps : List Addr, H q = some (.tup (ps.map V.ref)) ∧ PairsAt H ps (F.ws i)
  ok : F.Ok
theorem FcAt.mono {H H' : Hp} {a : Addr} {F : Fc} (h : FcAt H a F) (s : ∀ q xs, H q = some (.tup xs) → H' q = some (.tup xs)) : FcAt H' a F := by
  obtain ⟨⟨wt, dt, wps, h1, h2, h3, h4, h5⟩, ok⟩ := h
  refine ⟨⟨wt, dt, wps, s _ _ h1, s _ _ h2, s _ _ h3, h4, fun i q e => ?_⟩, ok⟩
  obtain ⟨ps, p1, p2⟩ := h5 i q e
  exact ⟨ps, s _ _ p1, p2.mono fun _ _ z => s _ _ z⟩
theorem FcAt.same {H H' : Hp} {a : Addr} {F : Fc} (h : FcAt H a F) (s : Same H H') : FcAt H' a F := h.mono fun q xs e => s _ _ e
def spGoodF : Sp := fun vs H Q _ => ∃ (a : Addr) (F : Fc), vs = [.ref a] ∧ FcAt H a F ∧ ∀ H', Same H H' → Q (.bl true) H'
def spNeedF : Sp := fun vs H Q _ => ∃ (a : Addr) (F : Fc), vs = [.ref a] ∧ FcAt H a F ∧ ∀ H', Same H H' → Q .non H'
theorem all_trueR (n : Nat) : (List.replicate n true).all id = true := by
  rw [List.all_eq_true]
  intro y hy
  rw [List.eq_of_mem_replicate hy]
  rfl
section
variable {P : Program} {w : World} {K : PySem.W.Frag} {mg : Str → Option Value} {base : Heap}
abbrev nGF : List Str := ["value", "wires", "doors", "many", "room", "one"]
theorem sc_good_face : FnScope nGF ["value"] (defScope s_good_face) := ⟨rfl, rfl, rfl, by decide +kernel, rfl, by decide +kernel, by decide +kernel⟩
theorem ok_good_face {f : Addr} {fd : FuncData} (F : Fun K "good_face" "good_face" s_good_face f fd) (T : Txt K mg) (T3 : Txt3 mg) (gD : ∃ t, mg "MOST_DOORS" = some (.int 6 t)) (nEnum : mg "enumerate" = none)
    (DT : DefF P w K mg base CX0 3 "is_tuple" ["value", "least", "most"] spTuple) (DW : DefF P w K mg base CX0 3 "is_whole" ["value", "low", "high"] spWhole) (DA : DefF P w K mg base CX0 3 "are_wires" ["value", "own", "doors"] spWires) :
    FnOk P w K mg base CX0 4 f fd ["value"] spGoodF := by
  refine F.ok sc_good_face (fun vs H Q E h => ?_) (fun cdv A outer s H vs Q E hr h => ?_)
  · obtain ⟨a, F, rfl, _⟩ := h
    rfl
  · obtain ⟨a, F, rfl, hb, k⟩ := h
    have nd := sc_good_face.nd
    obtain ⟨t60, g60⟩ := T3.gOpen
    obtain ⟨t6, g6⟩ := T3.gRooms
    obtain ⟨tD, gD⟩ := gD
    refine ⟨_, pss_cons (ps_if (PW.pt (pw_or (pt_not (pt_val (pe_cD DT hr rfl pass0 (pa_cons (pv 0) (pa_cons pe_int (pa_cons pe_int pa_nil)))))) (pw_or1 (pt_not (pt_val (pe_cD DW hr rfl pass0 (pa_cons (pe_ix ix_tup (pv 0) pe_int (fun _ _ => rfl)) (pa_cons pe_int (pa_cons (pe_glob (v := .int 60) rfl g60 ⟨t60, rfl⟩) pa_nil))))))))) (pss_one (ps_ret pe_bl)) pss_nil)
      (pss_cons (ps_asg (pe_tup (pa_cons (pe_ix ix_tup (pv 0) pe_int (fun _ _ => rfl)) (pa_cons (pe_ix ix_tup (pv 0) pe_int (fun _ _ => rfl)) pa_nil))) (pg_tup (by rfl) (pgs_cons (pg_name (i := 1) nd rfl (Or.inl rfl)) (pgs_cons (pg_name (i := 2) nd rfl (Or.inr rfl)) pgs_nil))))
      (pss_cons (ps_if (PW.pt (pw_or (pt_not (pt_val (pe_cD DT hr rfl pass0 (pa_cons (pv 2) (pa_cons pe_int (pa_cons (pe_glob (v := .int 6) rfl g6 ⟨t6, rfl⟩) pa_nil)))))) (pw_or1 (pt_not (pt_val (pe_cD DT hr rfl pass0 (pa_cons (pv 1) (pa_cons (pe_callB call_len_seq (by rfl) T.nLen PySem.boot_len (pa_cons (pv 2) pa_nil)) (pa_cons (pe_callB call_len_seq (by rfl) T.nLen PySem.boot_len (pa_cons (pv 2) pa_nil)) pa_nil))))))))) (pss_one (ps_ret pe_bl)) pss_nil)
      (pss_cons (ps_if (pt_not (pt_val (pe_callB (cr_all rfl) (by rfl) T.nAll (by decide +kernel) (pa_cons (pe_lc (own := [("many", 3)]) (g := gName 3) (tt := tYes)  rfl nd (pi_tup (pv 2)) (blkOk_by (own := [("many", 3)]) (N := nGF) (sc := defScope s_good_face) (by decide +kernel)) (fun _ _ _ _ _ => (pg_name (i := 3) nd rfl (Or.inl rfl))) (fun _ _ _ _ _ => pts_nil) (fun _ _ _ _ _ => (pe_cD DW hr rfl pass0 (pa_cons (pv 3) (pa_cons pe_int (pa_cons (pe_glob (v := .int 6) rfl gD ⟨tD, rfl⟩) pa_nil)))))) pa_nil)))) (pss_one (ps_ret pe_bl)) pss_nil)
      (pss_one (ps_ret (pe_callB (cr_all rfl) (by rfl) T.nAll (by decide +kernel) (pa_cons (pe_lc (own := [("room", 4), ("one", 5)]) (g := gTup K 2 (gCons (gName 4) (gCons (gName 5) gNil))) (tt := tYes) rfl nd (pi_enumT rfl nEnum (pa_cons (pv 1) pa_nil)) (blkOk_by (own := [("room", 4), ("one", 5)]) (N := nGF) (sc := defScope s_good_face) (by decide +kernel)) (fun _ _ _ _ _ => pg_tup rfl (pgs_cons (pg_name (i := 4) nd rfl (Or.inl rfl)) (pgs_cons (pg_name (i := 5) nd rfl (Or.inl rfl)) pgs_nil))) (fun _ _ _ _ _ => pts_nil) (fun _ _ _ _ _ => (pe_cD DA hr rfl pass0 (pa_cons (pv 5) (pa_cons (pv 4) (pa_cons (pv 2) pa_nil)))))) pa_nil))))))), ?_⟩
    have hF := hb.ok
    obtain ⟨wt, dt, wps, b1, b2, b3, b4, b5⟩ := hb.ex
    have lwp : (wps.map V.ref).length = F.R := by rw [List.length_map, b4]
    have ldr : (F.dor.map V.int).length = F.R := List.length_map ..
    have m1 := hF.m1
    have m6 := hF.m6
    refine ⟨_, rfl, .ref a, 3, 3, rfl, .inl ⟨_, b1⟩, _, rfl, ?_⟩
    rw [isT_of b1 (Int.le_refl 3) (Int.le_refl 3)]
    refine iteF ?_
    refine ⟨_, rfl, a, _, 0, _, rfl, rfl, SqT.of b1, rfl, ?_⟩
    refine ⟨.int F.dep, 1, 60, rfl, trivial, _, rfl, ?_⟩
    rw [isW_in hF.d1 hF.d60]
    refine iteF ?_
    refine ⟨_, rfl, a, _, 1, _, rfl, rfl, SqT.of b1, rfl, _, rfl, a, _, 2, _, rfl, rfl, SqT.of b1, rfl, (by show 2 ≤ sizeLine; decide), fun t0 n0 => ?_⟩
    have s0 := sadd (o := .tup [.ref wt, .ref dt]) (Same.refl H) n0
    have h0 : upd H t0 (.tup [.ref wt, .ref dt]) t0 = some (.tup [.ref wt, .ref dt]) := upd_same
    have c2 := s0 _ _ b2
    have c3 := s0 _ _ b3
    generalize upd H t0 (.tup [.ref wt, .ref dt]) = H0 at s0 h0 c2 c3 ⊢
    refine ⟨t0, _, rfl, SqT.of h0, rfl, _, _, rfl, _, _, rfl, rfl, ?_⟩
    refine ⟨_, rfl, .ref dt, 1, 6, rfl, .inl ⟨_, c3⟩, _, rfl, ?_⟩
    rw [isT_of c3 (by rw [ldr]; omega) (by rw [ldr]; omega)]
    refine iteF ?_
    refine ⟨_, rfl, _, rfl, dt, _, rfl, .inr (SqT.of c3), _, rfl, dt, _, rfl, .inr (SqT.of c3), ?_⟩
    refine ⟨.ref wt, _, _, rfl, .inl ⟨_, c2⟩, _, rfl, ?_⟩
    rw [isT_of c2 (by rw [lwp, ldr]; omega) (by rw [lwp, ldr]; omega)]
    refine iteF ?_
    -- the doors
    refine ⟨_, rfl, dt, rfl, ⟨_, SqT.of c3⟩, fun D nD => ?_⟩
    refine lc_tup (K := K) (a := dt) (xs := F.dor.map V.int) (fun i H' => Same H0 H' ∧ H' D = some (.lst ((List.replicate i true).map V.bl))) ⟨sadd (Same.refl H0) nD, upd_same⟩ (fun i H' _ ⟨s, _⟩ => SqT.of (s _ _ c3)) ?turn ?done
    case turn =>
      rintro i x H4 hx ⟨s4, hD⟩
      rw [List.getElem?_map] at hx
      obtain ⟨z, hz0, rfl⟩ := Option.map_eq_some_iff.mp hx
      have hi : i < F.dor.length := (List.getElem?_eq_some_iff.mp hz0).1
      obtain ⟨z0, z9⟩ := hF.dz z (List.mem_of_getElem? hz0)
      refine ⟨rfl, ?_⟩
      unfold tYes
      refine iteT ?_
      refine ⟨_, rfl, .int z, 1, 6, rfl, trivial, ?_⟩
      rw [isW_in z0 z9]
      refine ⟨_, hD, ?_, sout s4 nD, ?_⟩
      · rw [List.length_map, List.length_replicate, sizeLine_eq]
        have : F.dor.length = F.R := rfl
        omega
      · rw [upd_same, List.replicate_succ', List.map_append]
        rfl
    case done =>
      rintro H4 ⟨s4, hD⟩
      refine ⟨D, _, rfl, SqL.of hD, ?_⟩
      rw [all_trueR]
      refine ⟨_, rfl, iteF ?_⟩
      -- the wires
      have e2 := s4 _ _ c2
      have e3 := s4 _ _ c3
      have sH := s0.trans s4
      refine ⟨_, rfl, wt, _, rfl, SqT.of e2, fun D2 nD2 => ?_⟩
      refine lc_it walk_enumT (fun i H' => Same H4 H' ∧ H' D2 = some (.lst ((List.replicate i true).map V.bl))) ⟨sadd (Same.refl H4) nD2, upd_same⟩ (fun i H' _ ⟨s, _⟩ => SqT.of (s _ _ e2)) ?hs ?hd
      case hs =>
        rintro i x H5 H6 hi ⟨s5, hD5⟩ ⟨tp, x0, y0, rfl, ntp, rfl, ex, ey⟩
        cases ex
        obtain ⟨wp, hwp⟩ : ∃ wp, wps[i]? = some wp := ⟨_, List.getElem?_eq_getElem (by rw [b4, ← lwp]; exact hi)⟩
        have ey' : y0 = .ref wp := by
          have ey2 : (wps.map V.ref)[i]? = some y0 := ey
          rw [List.getElem?_map, hwp] at ey2
          exact (Option.some.inj ey2).symm
        subst ey'
        have hiR : i < F.R := by rw [← lwp]; exact hi
        have s6 := sadd (o := .tup [.int (i : Int), .ref wp]) s5 ntp
        have htp : upd H5 tp (.tup [.int (i : Int), .ref wp]) tp = some (.tup [.int (i : Int), .ref wp]) := upd_same
        have nDt : D2 ≠ tp := ne_of_none hD5 ntp
        have hD6 : upd H5 tp (.tup [.int (i : Int), .ref wp]) D2 = some (.lst ((List.replicate i true).map V.bl)) := (upd_ne nDt).trans hD5
        generalize upd H5 tp (.tup [.int (i : Int), .ref wp]) = H6 at s6 htp hD6 ⊢
        refine ⟨tp, _, rfl, SqT.of htp, rfl, _, _, rfl, _, _, rfl, rfl, rfl, ?_⟩
        unfold tYes
        refine iteT ?_
        obtain ⟨ps, p1, p2⟩ := b5 i wp hwp
        obtain ⟨w8, wn, wr⟩ := hF.wi i hiR
        have up : ∀ {q : Addr} {xs : List V}, H q = some (.tup xs) → H6 q = some (.tup xs) := fun e => s6 _ _ (sH _ _ e)
        refine ⟨_, rfl, _, rfl, _, rfl, ?_⟩
        refine ⟨wp, dt, (i : Int), ps, F.ws i, F.dor, rfl, up p1, p2.mono (fun q xs e => up e), w8, wn, up b3, ?_⟩
        refine ⟨fun p hp => ?_, ⟨_, hD6, ?_, sout s6 nD2, ?_⟩⟩
        · obtain ⟨a1, a2, a3, a4, a5⟩ := wr p hp
          exact ⟨a1, a2, a3, a4, a5⟩
        · rw [List.length_map, List.length_replicate, sizeLine_eq]
          omega
        · rw [upd_same, List.replicate_succ', List.map_append]
          rfl
      case hd =>
        rintro H5 ⟨s5, hD5⟩
        refine ⟨D2, _, rfl, SqL.of hD5, ?_⟩
        rw [all_trueR]
        exact k H5 (sH.trans s5)
theorem sc_need_face : FnScope ["face"] ["face"] (defScope s_need_face) := ⟨rfl, rfl, rfl, by decide +kernel, rfl, by decide +kernel, by decide +kernel⟩
theorem ok_need_face {f : Addr} {fd : FuncData} (F : Fun K "need_face" "need_face" s_need_face f fd) (DG : DefF P w K mg base CX0 4 "good_face" ["value"] spGoodF) : FnOk P w K mg base CX0 5 f fd ["face"] spNeedF := by
  refine F.ok sc_need_face (fun vs H Q E h => ?_) (fun cdv A outer s H vs Q E hr h => ?_)
  · obtain ⟨a, F, rfl, _⟩ := h
    rfl
  · obtain ⟨a, F, rfl, hb, k⟩ := h
    refine ⟨_, pss_one (ps_if (pt_not (pt_val (pe_cD DG hr rfl pass0 (pa_cons (pv 0) pa_nil)))) (pss_one ps_never) pss_nil), ?_⟩
    exact ⟨_, rfl, a, F, rfl, hb, fun H1 s1 => ⟨_, rfl, iteF (k H1 s1)⟩⟩
end
end OH
end
section
set_option Elab.async false
set_option linter.all false
set_option maxRecDepth 100000
set_option maxHeartbeats 8000000
/-! What the law asks of a crossing. -/
namespace OH
open PySem PySem.Spec PyProof.Rows L2
theorem op_notInDT {X : Cx} (hu : X.A.units + 65 < cLine) : OpR X (compareOp .NotIn) (fun x y H Q => ∃ d ds, Dp X.K H x d ∧ Dp X.K H y (.tuple ds) ∧ SeqAt.shaped d = true ∧ SeqAt.shaped (.list ds) = true ∧ Q (.bl (!ds.any fun z => PyData.eqv z d)) H) := by
  intro pins s σ H x y v u Q I rx ry h
  obtain ⟨d, ds, hd, he, sd, se, q⟩ := h
  obtain ⟨as, r1⟩ := Dp.reads I d x v hd rx
  obtain ⟨bs, r2⟩ := Dp.reads I (.tuple ds) y u he ry
  exact SeqAt.notIn_tuple_reads r2 r1 (SeqAt.canLay_of_shaped se) (SeqAt.canLay_of_shaped sd) (room_in_shaped sd hu) ⟨.bl (!ds.any fun y => y.eqv d), H, I, rfl, q⟩
end OH
end
section
set_option Elab.async false
set_option linter.all false
set_option maxRecDepth 100000
set_option maxHeartbeats 8000000
/-! Rows that fit. -/
namespace OH
open PySem PySem.Spec PyProof.Rows L2
theorem VRr.at {F : Fc} (hF : F.Ok) : ∀ {xs : List Crs} {s : Rs} {j : Nat}, SOk F s → VRr F s xs → j < xs.length → ∃ c x, xs[j]? = some x ∧ (stt s (xs.take j)).1 = some c ∧ Nx F c (stt s (xs.take j)).2 x ∧ SOk F (stt s (xs.take j))
  | [], _, j, _, _, h => absurd h (Nat.not_lt_zero j)
  | x :: xs, s, 0, hs, ⟨⟨c, hc, hx⟩, _⟩, _ => ⟨c, x, rfl, hc, hx, hs⟩
  | x :: xs, s, j + 1, hs, ⟨⟨c, hc, hx⟩, hr⟩, h => VRr.at (xs := xs) (s := bh s x) (j := j) hF (hs.step hF hc hx) hr (Nat.lt_of_succ_lt_succ h)
theorem VR.at {F : Fc} (hF : F.Ok) {cs : List Crs} (h : VR F cs) {i : Nat} (hi : i < cs.length) : (i = 0 ∧ ∃ n, cs[i]? = some (.start n) ∧ Num n) ∨
    (∃ c x, cs[i]? = some x ∧ (stt (none, []) (cs.take i)).1 = some c ∧ Nx F c (stt (none, []) (cs.take i)).2 x ∧ SOk F (stt (none, []) (cs.take i))) := by
  obtain ⟨n, xs, rfl, hn, hr⟩ := h
  cases i with
  | zero => exact .inl ⟨rfl, n, rfl, hn⟩
  | succ j => exact .inr (VRr.at (xs := xs) (s := (some 0, [])) (j := j) hF (SOk.init hF) hr (Nat.lt_of_succ_lt_succ hi))
def spFits : Sp := fun vs H Q _ => ∃ (l a : Addr) (F : Fc) (cs : List Crs), vs = [.ref l, .ref a] ∧ RwAt H l cs ∧ FcAt H a F ∧ VR F cs ∧ cs.length ≤ 1000 ∧ ∀ H', Same H H' → Q (.bl true) H'
section
variable {P : Program} {w : World} {K : PySem.W.Frag} {mg : Str → Option Value} {base : Heap}
abbrev nFits : List Str := ["row", "face", "depth", "wires", "_", "many", "crossing", "word"]
end
end OH
end
section
set_option Elab.async false
set_option linter.all false
set_option maxRecDepth 100000
set_option maxHeartbeats 8000000
/-! The views in a row. -/
namespace OH
open PySem PySem.Spec PyProof.Rows L2
/-- a list of items at l -/
def VwAt (K : PySem.W.Frag) (H : Hp) (l : Addr) (v : List It) : Prop := ∃ ps : List Addr, H l = some (.lst (ps.map V.ref)) ∧ AllQ K H It.vs ps v
theorem VwAt.same {K : PySem.W.Frag} {H H' : Hp} {l : Addr} {v : List It} (h : VwAt K H l v) (s : Same H H') : VwAt K H' l v := by
  obtain ⟨ps, h1, h2⟩ := h
  exact ⟨ps, s _ _ h1, h2.same s⟩
/-- so many lists of items -/
structure VsAt (K : PySem.W.Frag) (H : Hp) (D : Addr) (vl : List Addr) (g : Nat → List It) : Prop where
  hd : H D = some (.lst (vl.map V.ref))
  nd : vl.Nodup
  dn : D ∉ vl
  vw : ∀ (r : Nat) (q : Addr), vl[r]? = some q → VwAt K H q (g r)
theorem AllQ.mono {α : Type} {K : PySem.W.Frag} {H H' : Hp} {f : α → List V} {ps : List Addr} {xs : List α} (h : AllQ K H f ps xs) (s : ∀ q zs, SqT K H q zs → SqT K H' q zs) : AllQ K H' f ps xs := by
  induction h with
  | nil => exact .nil
  | cons a _ ih => exact .cons (s _ _ a) ih
theorem AllQ.app {α : Type} {K : PySem.W.Frag} {H : Hp} {f : α → List V} {ps : List Addr} {xs : List α} {t : Addr} {x : α} (h : AllQ K H f ps xs) (ht : SqT K H t (f x)) : AllQ K H f (ps ++ [t]) (xs ++ [x]) := by
  induction h with
  | nil => exact .cons ht .nil
  | cons a _ ih => exact .cons a ih
/-- where a list changes, tuples stay -/
theorem _root_.L2.SqT.upl {K : PySem.W.Frag} {H : Hp} {q a : Addr} {xs ys zs : List V} (h : SqT K H a xs) (e : H q = some (.lst ys)) : SqT K (upd H q (.lst zs)) a xs := by
  rcases h with h | h
  · refine .inl ?_
    rcases h with h | ⟨o, h⟩
    · exact .inl ((upd_ne (ne_of h e (fun z => nomatch z))).trans h)
    · exact .inr ⟨o, (upd_ne (ne_of h e (fun z => nomatch z))).trans h⟩
  · exact .inr h
theorem VsAt.at_ {K : PySem.W.Frag} {H : Hp} {D : Addr} {vl : List Addr} {g : Nat → List It} (Y : VsAt K H D vl g) {a : Int} (h0 : 0 ≤ a) (h1 : a < (vl.length : Int)) : ∃ (q : Addr) (ps : List Addr), vl[a.toNat]? = some q ∧ atI (vl.map V.ref) a = some (.ref q) ∧ H q = some (.lst (ps.map V.ref)) ∧ ps.length = (g a.toNat).length ∧ q ∈ vl := by
  obtain ⟨q, hq⟩ : ∃ q, vl[a.toNat]? = some q := ⟨_, List.getElem?_eq_getElem (by omega)⟩
  obtain ⟨ps, p1, p2⟩ := Y.vw _ _ hq
  refine ⟨q, ps, hq, ?_, p1, p2.len, List.mem_of_getElem? hq⟩
  have := atI_nat (xs := vl.map V.ref) (j := a.toNat) (v := .ref q) (by rw [List.getElem?_map, hq]; rfl)
  rw [Int.toNat_of_nonneg h0] at this
  exact this
theorem VsAt.same {K : PySem.W.Frag} {H H' : Hp} {D : Addr} {vl : List Addr} {g : Nat → List It} (Y : VsAt K H D vl g) (s : Same H H') : VsAt K H' D vl g := ⟨s _ _ Y.hd, Y.nd, Y.dn, fun r q e => (Y.vw r q e).same s⟩
theorem VsAt.congr {K : PySem.W.Frag} {H : Hp} {D : Addr} {vl : List Addr} {g g' : Nat → List It} (Y : VsAt K H D vl g) (e : ∀ r, r < vl.length → g r = g' r) : VsAt K H D vl g' := ⟨Y.hd, Y.nd, Y.dn, fun r q h => by rw [← e r (List.getElem?_eq_some_iff.mp h).1]; exact Y.vw r q h⟩
theorem VsAt.add {K : PySem.W.Frag} {H : Hp} {D : Addr} {vl : List Addr} {g : Nat → List It} (Y : VsAt K H D vl g) {k : Nat} {q t : Addr} {ps : List Addr} {it : It} (hq : vl[k]? = some q) (hp : H q = some (.lst (ps.map V.ref))) (ht : SqT K H t it.vs) :
    VsAt K (upd H q (.lst (ps.map V.ref ++ [.ref t]))) D vl (fun j => g j ++ if j = k then [it] else []) := by
  refine ⟨(upd_ne (fun z => Y.dn (by rw [z]; exact List.mem_of_getElem? hq))).trans Y.hd, Y.nd, Y.dn, fun r q' h => ?_⟩
  by_cases e : r = k
  · subst e
    rw [hq] at h
    cases h
    obtain ⟨ps', p1, p2⟩ := Y.vw _ _ hq
    rw [hp] at p1
    have e2 : ps = ps' := by
      have := HO.lst.inj (Option.some.inj p1)
      exact List.map_inj_right (fun x y z => V.ref.inj z) |>.mp this
    subst e2
    show VwAt K _ q (g r ++ if r = r then [it] else [])
    rw [if_pos rfl]
    refine ⟨ps ++ [t], by rw [upd_same, List.map_append]; rfl, (p2.mono fun a zs z => z.upl hp).app (ht.upl hp)⟩
  · show VwAt K _ q' (g r ++ if r = k then [it] else [])
    rw [if_neg e, List.append_nil]
    have nq : q' ≠ q := fun z => by
      subst z
      have h1 := (List.getElem?_eq_some_iff.mp h)
      have h2 := (List.getElem?_eq_some_iff.mp hq)
      exact e ((List.getElem?_inj h1.1 Y.nd).mp (h.trans hq.symm))
    obtain ⟨ps', p1, p2⟩ := Y.vw _ _ h
    exact ⟨ps', (upd_ne nq).trans p1, p2.mono fun a zs z => z.upl hp⟩
theorem sel_ {α : Type} (j : Nat) {a : Int} (h : 0 ≤ a) (xs : List α) : (if j = a.toNat then xs else []) = if (j : Int) = a then xs else [] := by
  by_cases z : j = a.toNat
  · rw [if_pos z, if_pos (by omega)]
  · rw [if_neg z, if_neg (by omega)]
theorem vw_bound (r : Int) : ∀ cs : List Crs, (OH.vw r cs).length ≤ 2 * cs.length
  | [] => Nat.le_refl _
  | x :: xs => by
    have h := vw_bound r xs
    rw [vw_cons, List.length_append, List.length_cons]
    have : (shown r x).length ≤ 2 := by
      cases x <;> simp only [shown] <;> (repeat' split) <;> simp
    omega
/-- the rooms of a crossing that may come are the face's -/
def rmOk (F : Fc) : Crs → Prop
  | .start _ => False
  | .call a b _ _ | .back a b _ => (0 ≤ a ∧ a < (F.R : Int)) ∧ (0 ≤ b ∧ b < (F.R : Int)) ∧ a ≠ b
  | .deep a _ _ _ | .fin a => 0 ≤ a ∧ a < (F.R : Int)
  | .done _ => True
theorem Nx.rooms {F : Fc} (hF : F.Ok) {s : Rs} (hs : SOk F s) {c : Int} (hc : s.1 = some c) {x : Crs} (hx : Nx F c s.2 x) : rmOk F x := by
  have ch := hs.ctl hc
  obtain ⟨c0, c1⟩ := ch.rng hF
  cases x with
  | start n => exact hx.elim
  | call a b d n =>
    obtain ⟨e, hw, _⟩ := hx
    subst e
    obtain ⟨w1, w2, w3, _⟩ := (hF.wi a.toNat (by omega)).2.2 _ hw
    have w1' : 0 ≤ b := w1
    have w2' : b < (F.R : Int) := w2
    have w3' : b ≠ (a.toNat : Int) := w3
    exact ⟨⟨c0, c1⟩, ⟨w1', w2'⟩, by omega⟩
  | back a b n =>
    obtain ⟨e, ⟨q, hq, hb⟩, _⟩ := hx
    subst e
    rcases ch.inv with ⟨e0, _⟩ | ⟨as, a', e0, h0, hn⟩
    · rw [e0] at hq
      cases hq
    · rw [e0, List.getLast?_concat] at hq
      cases hq
      have hb' : b = a' := hb
      subst hb'
      exact ⟨⟨c0, c1⟩, h0.rng hF, fun z => hn z.symm⟩
  | deep a b d n => obtain ⟨e, _⟩ := hx; subst e; exact ⟨c0, c1⟩
  | done n => trivial
  | fin a => have e : a = c := hx; subst e; exact ⟨c0, c1⟩
def spViewsIn (K : PySem.W.Frag) : Sp := fun vs H Q _ => ∃ (l : Addr) (F : Fc) (cs : List Crs), vs = [.ref l] ∧ RwAt H l cs ∧ F.Ok ∧ VR F cs ∧ cs.length ≤ 1000 ∧
  ∀ D vl H', Same H H' → H D = none → (∀ q ∈ vl, H q = none) → vl.length = 6 → VsAt K H' D vl (fun r => OH.vw (r : Int) cs) → Q (.ref D) H'
section
variable {P : Program} {w : World} {K : PySem.W.Frag} {mg : Str → Option Value} {base : Heap}
abbrev nViews : List Str := ["row", "views", "_", "crossing", "word", "asker", "asked", "door", "number", "giver"]
theorem sc_views_in : FnScope nViews ["row"] (defScope s_views_in) := ⟨rfl, rfl, rfl, by decide +kernel, rfl, by decide +kernel, by decide +kernel⟩
theorem ok_views_in {f : Addr} {fd : FuncData} {aE : Addr} (F : Fun K "views_in" "views_in" s_views_in f fd) (g6 : ∃ t, mg "MOST_ROOMS" = some (.int 6 t)) (nRange : mg "range" = none) (gE : mg "ENDS" = some (.ref aE)) (tE : ∀ H, SqT K H aE It.ends.vs) : FnOk P w K mg base CX0 1 f fd ["row"] (spViewsIn K) := by
  refine F.ok sc_views_in (fun vs H Q E h => ?_) (fun cdv A outer s H vs Q E hr h => ?_)
  · obtain ⟨l, F, cs, rfl, _⟩ := h
    rfl
  · obtain ⟨l, F, cs, rfl, hl, hF, hv, hn, k⟩ := h
    have nd := sc_views_in.nd
    obtain ⟨t6, g6⟩ := g6
    refine ⟨_, pss_cons (ps_setLc (i := 1) (own := [("_", 2)]) (g := gName 2) (tt := tYes) rfl nd rfl rfl (sw_true rfl rfl rfl (by decide +kernel)) (pi_range1 rfl nRange (pa_cons (pe_glob (v := .int 6) rfl g6 ⟨t6, rfl⟩) pa_nil)) (blkOk_by (own := [("_", 2)]) (N := nViews) (sc := defScope s_views_in) (by decide +kernel)) (fun _ _ _ _ _ => (pg_name (i := 2) nd rfl (Or.inl rfl))) (fun _ _ _ _ _ => pts_nil) (fun _ _ _ _ _ => (pe_lst pa_nil)))
      (pss_cons (ps_for PassesOwn.never rfl (pi_list (pv 0)) (pg_name (i := 3) nd rfl (Or.inl rfl))
        (pss_cons (ps_set (i := 4) nd rfl (Or.inl rfl) (pe_ix ix_tup (pv 3) pe_int (fun _ _ => rfl)))
      (pss_one (ps_if (pt_cmpR op_eq (pv 4) pe_str (nomark _)) (pss_cons (ps_asg (pv 3) (pg_tup (by rfl) (pgs_cons (pg_name (i := 2) nd rfl (Or.inl rfl)) (pgs_cons (pg_name (i := 5) nd rfl (Or.inl rfl)) (pgs_cons (pg_name (i := 6) nd rfl (Or.inl rfl)) (pgs_cons (pg_name (i := 7) nd rfl (Or.inl rfl)) (pgs_cons (pg_name (i := 8) nd rfl (Or.inl rfl)) pgs_nil)))))))
      (pss_cons (ps_expr (pe_bm PySem.F.plainAttrs_list PySem.F.slot_list_append PySem.F.type_list_append mt_append (pe_ix ix_list (pv 1) (pv 5) (fun _ _ => rfl)) (pa_cons (pe_tup (pa_cons pe_str (pa_cons (pv 6) (pa_cons (pv 7) (pa_cons (pv 8) pa_nil))))) pa_nil)))
      (pss_one (ps_expr (pe_bm PySem.F.plainAttrs_list PySem.F.slot_list_append PySem.F.type_list_append mt_append (pe_ix ix_list (pv 1) (pv 6) (fun _ _ => rfl)) (pa_cons (pe_tup (pa_cons pe_str (pa_cons (pv 7) (pa_cons (pv 8) pa_nil)))) pa_nil)))))) (pss_one (ps_if (pt_cmpR op_eq (pv 4) pe_str (nomark _)) (pss_cons (ps_asg (pv 3) (pg_tup (by rfl) (pgs_cons (pg_name (i := 2) nd rfl (Or.inl rfl)) (pgs_cons (pg_name (i := 9) nd rfl (Or.inl rfl)) (pgs_cons (pg_name (i := 5) nd rfl (Or.inl rfl)) (pgs_cons (pg_name (i := 8) nd rfl (Or.inl rfl)) pgs_nil))))))
      (pss_cons (ps_expr (pe_bm PySem.F.plainAttrs_list PySem.F.slot_list_append PySem.F.type_list_append mt_append (pe_ix ix_list (pv 1) (pv 9) (fun _ _ => rfl)) (pa_cons (pe_tup (pa_cons pe_str (pa_cons (pv 8) pa_nil))) pa_nil)))
      (pss_one (ps_expr (pe_bm PySem.F.plainAttrs_list PySem.F.slot_list_append PySem.F.type_list_append mt_append (pe_ix ix_list (pv 1) (pv 5) (fun _ _ => rfl)) (pa_cons (pe_tup (pa_cons pe_str (pa_cons (pv 8) pa_nil))) pa_nil)))))) (pss_one (ps_if (pt_cmpR op_eq (pv 4) pe_str (nomark _)) (pss_one (ps_expr (pe_bm PySem.F.plainAttrs_list PySem.F.slot_list_append PySem.F.type_list_append mt_append (pe_ix ix_list (pv 1) pe_int (fun _ _ => rfl)) (pa_cons (pe_tup (pa_cons pe_str (pa_cons pe_int (pa_cons (pe_ix ix_tup (pv 3) pe_int (fun _ _ => rfl)) pa_nil)))) pa_nil)))) (pss_one (ps_if (pt_cmpR op_eq (pv 4) pe_str (nomark _)) (pss_one (ps_expr (pe_bm PySem.F.plainAttrs_list PySem.F.slot_list_append PySem.F.type_list_append mt_append (pe_ix ix_list (pv 1) pe_int (fun _ _ => rfl)) (pa_cons (pe_tup (pa_cons pe_str (pa_cons (pe_ix ix_tup (pv 3) pe_int (fun _ _ => rfl)) pa_nil))) pa_nil)))) (pss_one (ps_if (pt_cmpR op_eq (pv 4) pe_str (nomark _)) (pss_one (ps_expr (pe_bm PySem.F.plainAttrs_list PySem.F.slot_list_append PySem.F.type_list_append mt_append (pe_ix ix_list (pv 1) (pe_ix ix_tup (pv 3) pe_int (fun _ _ => rfl)) (fun _ _ => rfl)) (pa_cons (pe_tup (pa_cons pe_str (StX.pa_star (pe_slice sl_tup (pv 3) (po_some pe_int) po_none) pa_nil))) pa_nil)))) (pss_one (ps_expr (pe_bm PySem.F.plainAttrs_list PySem.F.slot_list_append PySem.F.type_list_append mt_append (pe_ix ix_list (pv 1) (pe_ix ix_tup (pv 3) pe_int (fun _ _ => rfl)) (fun _ _ => rfl)) (pa_cons (pe_glob (v := .ref aE) rfl gE rfl) pa_nil))))))))))))))))
      (pss_one (ps_ret (pv 1)))), ?_⟩
    obtain ⟨ps, h1, h2⟩ := hl
    have lp := h2.len
    refine ⟨6, rfl, by decide, by decide, fun D nD => ?_⟩
    refine lc_range (lo := 0) (n := 6) (fun i H' => Same H H' ∧ ∃ qs : List Addr, H' D = some (.lst (qs.map V.ref)) ∧ qs.length = i ∧ qs.Nodup ∧ D ∉ qs ∧ ∀ q ∈ qs, H q = none ∧ H' q = some (.lst [])) ⟨sadd (Same.refl H) nD, [], upd_same, rfl, List.nodup_nil, List.not_mem_nil, fun q z => absurd z List.not_mem_nil⟩ ?t1 ?d1
    case t1 =>
      rintro i H4 hi ⟨s4, qs, hD, lq, nq, dq, fq⟩
      refine ⟨rfl, ?_⟩
      unfold tYes
      refine iteT ?_
      refine ⟨(by show 0 ≤ sizeLine; decide), fun q nq' => ?_⟩
      have nqH : H q = none := s4.free nq'
      have qD : D ≠ q := ne_of_none hD nq'
      have nqs : q ∉ qs := fun z => by
        have := (fq q z).2
        rw [nq'] at this
        cases this
      refine ⟨_, (upd_ne qD).trans hD, by rw [List.length_map, lq, sizeLine_eq]; omega, sout (sadd s4 nq') nD, qs ++ [q], by rw [upd_same, List.map_append]; rfl, by rw [List.length_append, lq]; rfl, ?_, ?_, fun x hx => ?_⟩
      · rw [List.nodup_append]
        exact ⟨nq, List.nodup_cons.mpr ⟨List.not_mem_nil, List.nodup_nil⟩, fun a ha b hb => by rw [List.mem_singleton.mp hb]; exact fun z => nqs (z ▸ ha)⟩
      · intro z
        rcases List.mem_append.mp z with z | z
        · exact dq z
        · exact qD (List.mem_singleton.mp z)
      · rcases List.mem_append.mp hx with z | z
        · have hxD : x ≠ D := fun e => dq (e ▸ z)
          have hxq : x ≠ q := fun e => nqs (e ▸ z)
          exact ⟨(fq x z).1, (upd_ne hxD).trans ((upd_ne hxq).trans (fq x z).2)⟩
        · rw [List.mem_singleton.mp z]
          exact ⟨nqH, (upd_ne qD.symm).trans upd_same⟩
    case d1 =>
      rintro H3 ⟨s3, qs, hD, lq, nq, dq, fq⟩
      have fv : ∀ q, q ∈ qs → H q = none := fun q z => (fq q z).1
      have V0 : VsAt K H3 D qs (fun r => OH.vw (r : Int) (cs.take 0)) := ⟨hD, nq, dq, fun r q e => ⟨[], (fq q (List.mem_of_getElem? e)).2, .nil⟩⟩
      refine ⟨_, rfl, l, rfl, ⟨_, SqL.of (s3 _ _ h1)⟩, ?_⟩
      refine for_list (xs := ps.map V.ref) (fun i σ H' => ∃ (o2 o3 o4 o5 o6 o7 o8 o9 : Option V), σ = [some (.ref l), some (.ref D), o2, o3, o4, o5, o6, o7, o8, o9] ∧ Same H H' ∧ VsAt K H' D qs (fun r => OH.vw (r : Int) (cs.take i))) ⟨none, none, none, none, none, none, none, none, rfl, s3, V0⟩ (fun i σ H' _ ⟨_, _, _, _, _, _, _, _, _, s, _⟩ => SqL.of (s _ _ h1)) ?turn ?done
      case done =>
        rintro σ H4 ⟨o2, o3, o4, o5, o6, o7, o8, o9, rfl, s4, V4⟩
        have e : cs.take (ps.map V.ref).length = cs := by rw [List.length_map, lp]; exact List.take_length
        rw [e] at V4
        exact ⟨_, rfl, k D qs H4 s4 nD fv lq V4⟩
      case turn =>
      rintro i y σ H4 hy ⟨o2, o3, o4, o5, o6, o7, o8, o9, rfl, s4, V4⟩
      rw [List.getElem?_map] at hy
      obtain ⟨c, hc, rfl⟩ := Option.map_eq_some_iff.mp hy
      have hi : i < cs.length := by rw [← lp]; exact (List.getElem?_eq_some_iff.mp hc).1
      obtain ⟨x, hx, hrest⟩ : ∃ x, cs[i]? = some x ∧ ((∃ n, x = .start n) ∨ rmOk F x) := by
        rcases hv.at hF hi with ⟨e, n, h, _⟩ | ⟨q, x, h, r1, r2, r3⟩
        · exact ⟨_, h, .inl ⟨n, rfl⟩⟩
        · exact ⟨_, h, .inr (r2.rooms hF r3 r1)⟩
      obtain ⟨c', hc', hcx⟩ := h2.get hx
      rw [hc] at hc'
      cases hc'
      have hc4 := s4 _ _ hcx
      have tki : ∀ j : Nat, OH.vw (j : Int) (cs.take (i + 1)) = OH.vw (j : Int) (cs.take i) ++ shown (j : Int) x := fun j => by
        rw [List.take_add_one, hx, vw_app]
        show _ ++ OH.vw (j : Int) [x] = _
        rw [show OH.vw (j : Int) [x] = shown (j : Int) x from List.append_nil _]
      have sz : ∀ j : Nat, (OH.vw (j : Int) (cs.take i)).length ≤ 2000 := fun j => by
        have h := vw_bound (j : Int) (cs.take i)
        rw [List.length_take] at h
        omega
      have m6 := hF.m6
      have fin_ : ∀ {H5 : Hp} {o2 o3 o4 o5 o6 o7 o8 o9 : Option V}, Same H H5 → VsAt K H5 D qs (fun r => OH.vw (r : Int) (cs.take i) ++ shown (r : Int) x) →
          ∃ (p2 p3 p4 p5 p6 p7 p8 p9 : Option V), [some (.ref l), some (.ref D), o2, o3, o4, o5, o6, o7, o8, o9] = [some (.ref l), some (.ref D), p2, p3, p4, p5, p6, p7, p8, p9] ∧ Same H H5 ∧ VsAt K H5 D qs (fun r => OH.vw (r : Int) (cs.take (i + 1))) := fun s V => ⟨_, _, _, _, _, _, _, _, rfl, s, V.congr fun r _ => (tki r).symm⟩
      cases x with
      | start n =>
        refine ⟨_, rfl, c, _, 0, _, rfl, rfl, SqT.of hc4, rfl, ?_⟩
        refine ⟨_, rfl, rfl, _, rfl, iteF ?_⟩
        refine ⟨_, rfl, rfl, _, rfl, iteF ?_⟩
        refine ⟨_, rfl, rfl, _, rfl, iteT ?_⟩
        obtain ⟨q5, ps5, e5, at5, f5, l5, mem5⟩ := V4.at_ (a := 0) (by omega) (by omega)
        refine ⟨_, rfl, D, _, 0, .ref q5, rfl, rfl, SqL.of V4.hd, at5, .inl ⟨rfl, _, SqL.of f5⟩, ?_⟩
        refine ⟨_, rfl, c, _, 1, _, rfl, rfl, SqT.of hc4, rfl, (by show 3 ≤ sizeLine; decide), fun t5 nt5 => ?_⟩
        have r5 := sadd (o := .tup [.str "in", .int 0, .int n]) s4 nt5
        have W5 := V4.same (sadd (o := .tup [.str "in", .int 0, .int n]) (Same.refl _) nt5)
        have g5 := (sadd (o := .tup [.str "in", .int 0, .int n]) (Same.refl _) nt5) _ _ f5
        have ht5 : upd H4 t5 (.tup [.str "in", .int 0, .int n]) t5 = some (.tup (It.inn 0 n).vs) := upd_same
        generalize upd H4 t5 (.tup [.str "in", .int 0, .int n]) = G5 at r5 W5 g5 ht5 ⊢
        refine ⟨q5, _, _, rfl, rfl, g5, (by have z := sz (Int.toNat 0); simp only [List.length_map, List.length_append, sizeLine_eq] at l5 ⊢; rw [l5]; omega), ?_⟩
        have V5 := W5.add e5 g5 (it := .inn 0 n) (SqT.of ht5)
        have s5 := sout (o := .lst (ps5.map V.ref ++ [.ref t5])) r5 (fv q5 mem5)
        generalize upd G5 q5 (.lst (ps5.map V.ref ++ [.ref t5])) = H5 at s5 V5 ⊢
        refine fin_ s5 (V5.congr fun j hj => ?_)
        show _ ++ (if j = (0 : Int).toNat then _ else []) = _
        rw [sel_ j (Int.le_refl 0)]
        rfl
      | done n =>
        refine ⟨_, rfl, c, _, 0, _, rfl, rfl, SqT.of hc4, rfl, ?_⟩
        refine ⟨_, rfl, rfl, _, rfl, iteF ?_⟩
        refine ⟨_, rfl, rfl, _, rfl, iteF ?_⟩
        refine ⟨_, rfl, rfl, _, rfl, iteF ?_⟩
        refine ⟨_, rfl, rfl, _, rfl, iteT ?_⟩
        obtain ⟨q5, ps5, e5, at5, f5, l5, mem5⟩ := V4.at_ (a := 0) (by omega) (by omega)
        refine ⟨_, rfl, D, _, 0, .ref q5, rfl, rfl, SqL.of V4.hd, at5, .inl ⟨rfl, _, SqL.of f5⟩, ?_⟩
        refine ⟨_, rfl, c, _, 1, _, rfl, rfl, SqT.of hc4, rfl, (by show 2 ≤ sizeLine; decide), fun t5 nt5 => ?_⟩
        have r5 := sadd (o := .tup [.str "gives", .int n]) s4 nt5
        have W5 := V4.same (sadd (o := .tup [.str "gives", .int n]) (Same.refl _) nt5)
        have g5 := (sadd (o := .tup [.str "gives", .int n]) (Same.refl _) nt5) _ _ f5
        have ht5 : upd H4 t5 (.tup [.str "gives", .int n]) t5 = some (.tup (It.gives n).vs) := upd_same
        generalize upd H4 t5 (.tup [.str "gives", .int n]) = G5 at r5 W5 g5 ht5 ⊢
        refine ⟨q5, _, _, rfl, rfl, g5, (by have z := sz (Int.toNat 0); simp only [List.length_map, List.length_append, sizeLine_eq] at l5 ⊢; rw [l5]; omega), ?_⟩
        have V5 := W5.add e5 g5 (it := .gives n) (SqT.of ht5)
        have s5 := sout (o := .lst (ps5.map V.ref ++ [.ref t5])) r5 (fv q5 mem5)
        generalize upd G5 q5 (.lst (ps5.map V.ref ++ [.ref t5])) = H5 at s5 V5 ⊢
        refine fin_ s5 (V5.congr fun j hj => ?_)
        show _ ++ (if j = (0 : Int).toNat then _ else []) = _
        rw [sel_ j (Int.le_refl 0)]
        rfl
      | call a b d n =>
        rcases hrest with ⟨n', e⟩ | hr0
        · cases e
        obtain ⟨⟨a0, a1⟩, ⟨b0, b1⟩, ab⟩ := hr0
        refine ⟨_, rfl, c, _, 0, _, rfl, rfl, SqT.of hc4, rfl, ?_⟩
        refine ⟨_, rfl, rfl, _, rfl, iteT ?_⟩
        refine ⟨_, rfl, c, _, rfl, SqT.of hc4, rfl, _, _, rfl, _, _, rfl, _, _, rfl, _, _, rfl, _, _, rfl, rfl, ?_⟩
        obtain ⟨q5, ps5, e5, at5, f5, l5, mem5⟩ := V4.at_ (a := a) (by omega) (by omega)
        refine ⟨_, rfl, _, rfl, D, _, a, .ref q5, rfl, rfl, SqL.of V4.hd, at5, .inl ⟨rfl, _, SqL.of f5⟩, ?_⟩
        refine ⟨_, rfl, _, rfl, _, rfl, (by show 4 ≤ sizeLine; decide), fun t5 nt5 => ?_⟩
        have r5 := sadd (o := .tup [.str "calls", .int b, .int d, .int n]) s4 nt5
        have W5 := V4.same (sadd (o := .tup [.str "calls", .int b, .int d, .int n]) (Same.refl _) nt5)
        have g5 := (sadd (o := .tup [.str "calls", .int b, .int d, .int n]) (Same.refl _) nt5) _ _ f5
        have ht5 : upd H4 t5 (.tup [.str "calls", .int b, .int d, .int n]) t5 = some (.tup (It.calls b d n).vs) := upd_same
        generalize upd H4 t5 (.tup [.str "calls", .int b, .int d, .int n]) = G5 at r5 W5 g5 ht5 ⊢
        refine ⟨q5, _, _, rfl, rfl, g5, (by have z := sz (a).toNat; simp only [List.length_map, List.length_append, sizeLine_eq] at l5 ⊢; rw [l5]; omega), ?_⟩
        have V5 := W5.add e5 g5 (it := .calls b d n) (SqT.of ht5)
        have s5 := sout (o := .lst (ps5.map V.ref ++ [.ref t5])) r5 (fv q5 mem5)
        generalize upd G5 q5 (.lst (ps5.map V.ref ++ [.ref t5])) = H5 at s5 V5 ⊢
        obtain ⟨q6, ps6, e6, at6, f6, l6, mem6⟩ := V5.at_ (a := b) (by omega) (by omega)
        refine ⟨_, rfl, _, rfl, D, _, b, .ref q6, rfl, rfl, SqL.of V5.hd, at6, .inl ⟨rfl, _, SqL.of f6⟩, ?_⟩
        refine ⟨_, rfl, _, rfl, (by show 3 ≤ sizeLine; decide), fun t6 nt6 => ?_⟩
        have r6 := sadd (o := .tup [.str "in", .int d, .int n]) s5 nt6
        have W6 := V5.same (sadd (o := .tup [.str "in", .int d, .int n]) (Same.refl _) nt6)
        have g6 := (sadd (o := .tup [.str "in", .int d, .int n]) (Same.refl _) nt6) _ _ f6
        have ht6 : upd H5 t6 (.tup [.str "in", .int d, .int n]) t6 = some (.tup (It.inn d n).vs) := upd_same
        generalize upd H5 t6 (.tup [.str "in", .int d, .int n]) = G6 at r6 W6 g6 ht6 ⊢
        refine ⟨q6, _, _, rfl, rfl, g6, (by have z := sz (b).toNat; simp only [List.length_map, List.length_append, sizeLine_eq] at l6 ⊢; rw [l6]; split <;> (simp only [List.length_nil, List.length_cons]; omega)), ?_⟩
        have V6 := W6.add e6 g6 (it := .inn d n) (SqT.of ht6)
        have s6 := sout (o := .lst (ps6.map V.ref ++ [.ref t6])) r6 (fv q6 mem6)
        generalize upd G6 q6 (.lst (ps6.map V.ref ++ [.ref t6])) = H6 at s6 V6 ⊢
        refine fin_ s6 (V6.congr fun j hj => ?_)
        show (_ ++ (if j = a.toNat then _ else [])) ++ (if j = b.toNat then _ else []) = _
        rw [sel_ j a0, sel_ j b0, List.append_assoc]
        rfl
      | back a b n =>
        rcases hrest with ⟨n', e⟩ | hr0
        · cases e
        obtain ⟨⟨a0, a1⟩, ⟨b0, b1⟩, ab⟩ := hr0
        refine ⟨_, rfl, c, _, 0, _, rfl, rfl, SqT.of hc4, rfl, ?_⟩
        refine ⟨_, rfl, rfl, _, rfl, iteF ?_⟩
        refine ⟨_, rfl, rfl, _, rfl, iteT ?_⟩
        refine ⟨_, rfl, c, _, rfl, SqT.of hc4, rfl, _, _, rfl, _, _, rfl, _, _, rfl, _, _, rfl, rfl, ?_⟩
        obtain ⟨q5, ps5, e5, at5, f5, l5, mem5⟩ := V4.at_ (a := a) (by omega) (by omega)
        refine ⟨_, rfl, _, rfl, D, _, a, .ref q5, rfl, rfl, SqL.of V4.hd, at5, .inl ⟨rfl, _, SqL.of f5⟩, ?_⟩
        refine ⟨_, rfl, (by show 2 ≤ sizeLine; decide), fun t5 nt5 => ?_⟩
        have r5 := sadd (o := .tup [.str "gives", .int n]) s4 nt5
        have W5 := V4.same (sadd (o := .tup [.str "gives", .int n]) (Same.refl _) nt5)
        have g5 := (sadd (o := .tup [.str "gives", .int n]) (Same.refl _) nt5) _ _ f5
        have ht5 : upd H4 t5 (.tup [.str "gives", .int n]) t5 = some (.tup (It.gives n).vs) := upd_same
        generalize upd H4 t5 (.tup [.str "gives", .int n]) = G5 at r5 W5 g5 ht5 ⊢
        refine ⟨q5, _, _, rfl, rfl, g5, (by have z := sz (a).toNat; simp only [List.length_map, List.length_append, sizeLine_eq] at l5 ⊢; rw [l5]; omega), ?_⟩
        have V5 := W5.add e5 g5 (it := .gives n) (SqT.of ht5)
        have s5 := sout (o := .lst (ps5.map V.ref ++ [.ref t5])) r5 (fv q5 mem5)
        generalize upd G5 q5 (.lst (ps5.map V.ref ++ [.ref t5])) = H5 at s5 V5 ⊢
        obtain ⟨q6, ps6, e6, at6, f6, l6, mem6⟩ := V5.at_ (a := b) (by omega) (by omega)
        refine ⟨_, rfl, _, rfl, D, _, b, .ref q6, rfl, rfl, SqL.of V5.hd, at6, .inl ⟨rfl, _, SqL.of f6⟩, ?_⟩
        refine ⟨_, rfl, (by show 2 ≤ sizeLine; decide), fun t6 nt6 => ?_⟩
        have r6 := sadd (o := .tup [.str "got", .int n]) s5 nt6
        have W6 := V5.same (sadd (o := .tup [.str "got", .int n]) (Same.refl _) nt6)
        have g6 := (sadd (o := .tup [.str "got", .int n]) (Same.refl _) nt6) _ _ f6
        have ht6 : upd H5 t6 (.tup [.str "got", .int n]) t6 = some (.tup (It.got n).vs) := upd_same
        generalize upd H5 t6 (.tup [.str "got", .int n]) = G6 at r6 W6 g6 ht6 ⊢
        refine ⟨q6, _, _, rfl, rfl, g6, (by have z := sz (b).toNat; simp only [List.length_map, List.length_append, sizeLine_eq] at l6 ⊢; rw [l6]; split <;> (simp only [List.length_nil, List.length_cons]; omega)), ?_⟩
        have V6 := W6.add e6 g6 (it := .got n) (SqT.of ht6)
        have s6 := sout (o := .lst (ps6.map V.ref ++ [.ref t6])) r6 (fv q6 mem6)
        generalize upd G6 q6 (.lst (ps6.map V.ref ++ [.ref t6])) = H6 at s6 V6 ⊢
        refine fin_ s6 (V6.congr fun j hj => ?_)
        show (_ ++ (if j = a.toNat then _ else [])) ++ (if j = b.toNat then _ else []) = _
        rw [sel_ j a0, sel_ j b0, List.append_assoc]
        rfl
      | deep a b d n =>
        rcases hrest with ⟨n', e⟩ | hr0
        · cases e
        obtain ⟨a0, a1⟩ := hr0
        refine ⟨_, rfl, c, _, 0, _, rfl, rfl, SqT.of hc4, rfl, ?_⟩
        refine ⟨_, rfl, rfl, _, rfl, iteF ?_⟩
        refine ⟨_, rfl, rfl, _, rfl, iteF ?_⟩
        refine ⟨_, rfl, rfl, _, rfl, iteF ?_⟩
        refine ⟨_, rfl, rfl, _, rfl, iteF ?_⟩
        refine ⟨_, rfl, rfl, _, rfl, iteT ?_⟩
        obtain ⟨q5, ps5, e5, at5, f5, l5, mem5⟩ := V4.at_ (a := a) (by omega) (by omega)
        refine ⟨_, rfl, _, rfl, c, _, 1, _, rfl, rfl, SqT.of hc4, rfl, D, _, a, .ref q5, rfl, rfl, SqL.of V4.hd, at5, .inl ⟨rfl, _, SqL.of f5⟩, ?_⟩
        refine ⟨_, rfl, 2, rfl, c, _, rfl, SqT.of hc4, (by show ¬ (HT.sIx 5 0 (some 2) = 0 ∧ HT.sIx 5 5 none = 5); decide), fun z nz => ?_⟩
        refine ⟨z, _, rfl, .inl (SqT.of upd_same), ?_⟩
        have rz := sadd (o := .tup (cutV (Crs.deep a b d n).vs (some 2) none)) s4 nz
        have Vz := V4.same (sadd (o := .tup (cutV (Crs.deep a b d n).vs (some 2) none)) (Same.refl _) nz)
        have gz := (sadd (o := .tup (cutV (Crs.deep a b d n).vs (some 2) none)) (Same.refl _) nz) _ _ f5
        generalize upd H4 z (.tup (cutV (Crs.deep a b d n).vs (some 2) none)) = Hz at rz Vz gz ⊢
        refine ⟨(by show 4 ≤ sizeLine; decide), fun t nt => ?_⟩
        show ∃ _, _
        have r5 := sadd (o := .tup [.str "calls", .int b, .int d, .int n]) rz nt
        have W5 := Vz.same (sadd (o := .tup [.str "calls", .int b, .int d, .int n]) (Same.refl _) nt)
        have g5 := (sadd (o := .tup [.str "calls", .int b, .int d, .int n]) (Same.refl _) nt) _ _ gz
        have ht5 : upd Hz t (.tup [.str "calls", .int b, .int d, .int n]) t = some (.tup (It.calls b d n).vs) := upd_same
        refine ⟨q5, _, _, rfl, rfl, g5, (by have z := sz (a).toNat; simp only [List.length_map, List.length_append, sizeLine_eq] at l5 ⊢; rw [l5]; omega), ?_⟩
        have V5 := W5.add e5 g5 (it := .calls b d n) (SqT.of ht5)
        have s5 := sout (o := .lst (ps5.map V.ref ++ [.ref t])) r5 (fv q5 mem5)
        refine fin_ s5 (V5.congr fun j hj => ?_)
        show _ ++ (if j = a.toNat then _ else []) = _
        rw [sel_ j a0]
        rfl
      | fin a =>
        rcases hrest with ⟨n', e⟩ | hr0
        · cases e
        obtain ⟨a0, a1⟩ := hr0
        refine ⟨_, rfl, c, _, 0, _, rfl, rfl, SqT.of hc4, rfl, ?_⟩
        refine ⟨_, rfl, rfl, _, rfl, iteF ?_⟩
        refine ⟨_, rfl, rfl, _, rfl, iteF ?_⟩
        refine ⟨_, rfl, rfl, _, rfl, iteF ?_⟩
        refine ⟨_, rfl, rfl, _, rfl, iteF ?_⟩
        refine ⟨_, rfl, rfl, _, rfl, iteF ?_⟩
        obtain ⟨q5, ps5, e5, at5, f5, l5, mem5⟩ := V4.at_ (a := a) (by omega) (by omega)
        refine ⟨_, rfl, _, rfl, c, _, 1, _, rfl, rfl, SqT.of hc4, rfl, D, _, a, .ref q5, rfl, rfl, SqL.of V4.hd, at5, .inl ⟨rfl, _, SqL.of f5⟩, ?_⟩
        refine ⟨q5, _, _, rfl, rfl, f5, (by have z := sz (a).toNat; simp only [List.length_map, List.length_append, sizeLine_eq] at l5 ⊢; rw [l5]; omega), ?_⟩
        have V5 := V4.add e5 f5 (it := .ends) (tE H4)
        have s5 := sout (o := .lst (ps5.map V.ref ++ [.ref aE])) s4 (fv q5 mem5)
        refine fin_ s5 (V5.congr fun j hj => ?_)
        show _ ++ (if j = a.toNat then _ else []) = _
        rw [sel_ j a0]
        rfl
end
end OH
end
section
set_option Elab.async false
set_option linter.all false
set_option maxRecDepth 100000
set_option maxHeartbeats 4000000
/-! fits, view_of. -/
namespace OH
open PySem PySem.Spec PyProof.Rows L2
def spNRoom : Sp := fun vs H Q _ => ∃ (r m : Int), vs = [.int r, .int m] ∧ 0 ≤ r ∧ r < m ∧ m ≤ 1000 ∧ Q .non H
def spFits2 : Sp := fun vs H Q _ => ∃ (l a : Addr) (F : Fc) (cs : List Crs), vs = [.ref l, .ref a] ∧ RwAt H l cs ∧ FcAt H a F ∧ VR F cs ∧ cs.length ≤ 1000 ∧ ∀ H', Same H H' → Q (.bl true) H'
def spViewOf (K : PySem.W.Frag) : Sp := fun vs H Q _ => ∃ (l : Addr) (r : Int) (F : Fc) (cs : List Crs), vs = [.ref l, .int r] ∧ RwAt H l cs ∧ F.Ok ∧ VR F cs ∧ cs.length ≤ 1000 ∧ 0 ≤ r ∧ r < 6 ∧
  ∀ q H', Same H H' → H q = none → VwAt K H' q (OH.vw r cs) → Q (.ref q) H'
section
variable {P : Program} {w : World} {K : PySem.W.Frag} {mg : Str → Option Value} {base : Heap}
theorem sc_need_room_number : FnScope ["room", "many"] ["room", "many"] (defScope s_need_room_number) := ⟨rfl, rfl, rfl, by decide +kernel, rfl, by decide +kernel, by decide +kernel⟩
theorem ok_need_room_number {f : Addr} {fd : FuncData} (F : Fun K "need_room_number" "need_room_number" s_need_room_number f fd) (DW : DefF P w K mg base CX0 5 "is_whole" ["value", "low", "high"] spWhole) : FnOk P w K mg base CX0 6 f fd ["room", "many"] spNRoom := by
  refine F.ok sc_need_room_number (fun vs H Q E h => ?_) (fun cdv A outer s H vs Q E hr h => ?_)
  · obtain ⟨r, m, rfl, _⟩ := h
    rfl
  · obtain ⟨r, m, rfl, r0, r1, m1, k⟩ := h
    refine ⟨_, pss_one (ps_if (pt_not (pt_val (pe_cD DW hr rfl pass0 (pa_cons (pv 0) (pa_cons pe_int (pa_cons (pe_op op_sub (pv 1) pe_int) pa_nil)))))) (pss_one ps_never) pss_nil), ?_⟩
    refine ⟨_, rfl, _, rfl, _, _, rfl, rfl, .int r, 0, m - 1, rfl, trivial, ?_⟩
    rw [isW_in r0 (by omega)]
    exact ⟨_, rfl, iteF k⟩
theorem sc_view_of : FnScope ["row", "room"] ["row", "room"] (defScope s_view_of) := ⟨rfl, rfl, rfl, by decide +kernel, rfl, by decide +kernel, by decide +kernel⟩
theorem ok_view_of {f : Addr} {fd : FuncData} (F : Fun K "view_of" "view_of" s_view_of f fd) (g6 : ∃ t, mg "MOST_ROOMS" = some (.int 6 t)) (DN : DefF P w K mg base CX0 6 "need_row" ["row"] spNeedRow) (DR : DefF P w K mg base CX0 6 "need_room_number" ["room", "many"] spNRoom) (DV : DefF P w K mg base CX0 6 "views_in" ["row"] (spViewsIn K)) :
    FnOk P w K mg base CX0 7 f fd ["row", "room"] (spViewOf K) := by
  refine F.ok sc_view_of (fun vs H Q E h => ?_) (fun cdv A outer s H vs Q E hr h => ?_)
  · obtain ⟨l, r, F, cs, rfl, _⟩ := h
    rfl
  · obtain ⟨l, r, F, cs, rfl, hl, hF, hv, hn, r0, r6, k⟩ := h
    have nd := sc_view_of.nd
    obtain ⟨t6, g6⟩ := g6
    refine ⟨_, pss_cons (ps_expr (pe_cD DN hr rfl pass0 (pa_cons (pv 0) pa_nil)))
      (pss_cons (ps_expr (pe_cD DR hr rfl pass0 (pa_cons (pv 1) (pa_cons (pe_glob (v := .int 6) rfl g6 ⟨t6, rfl⟩) pa_nil))))
      (pss_one (ps_ret (pe_ix ix_list (pe_cD DV hr rfl pass0 (pa_cons (pv 0) pa_nil)) (pv 1) (fun _ _ => rfl))))), ?_⟩
    refine ⟨_, rfl, l, cs, rfl, hl, hn, (hv.good hF).1, fun H1 s1 => ?_⟩
    refine ⟨_, rfl, r, 6, rfl, r0, r6, by decide, ?_⟩
    refine ⟨_, rfl, l, F, cs, rfl, hl.same s1, hF, hv, hn, fun D vl H2 s2 nD fv lv V2 => ?_⟩
    obtain ⟨q, ps, e, at_, f, _, mem⟩ := V2.at_ (a := r) r0 (by omega)
    refine ⟨_, rfl, D, _, r, .ref q, rfl, rfl, SqL.of V2.hd, at_, ?_⟩
    have Y := V2.vw _ _ e
    have e2 : ((r.toNat : Nat) : Int) = r := Int.toNat_of_nonneg r0
    have Y2 : VwAt K H2 q (OH.vw ((r.toNat : Nat) : Int) cs) := Y
    rw [e2] at Y2
    exact k q H2 (s1.trans s2) (s1.free (fv q mem)) Y2
end
end OH
end
section
set_option Elab.async false
set_option linter.all false
set_option maxRecDepth 100000
set_option maxHeartbeats 1000000
/-! Views of rows are good views. -/
namespace OH
open PySem PySem.Spec PyProof.Rows L2
def isEv : It → Prop
  | .inn d n => (0 ≤ d ∧ d < 6) ∧ Num n
  | .got n => Num n
  | _ => False
def isAc : It → Prop
  | .calls a d n => (0 ≤ a ∧ a < 6) ∧ (0 ≤ d ∧ d < 6) ∧ Num n
  | .gives n => Num n
  | .ends => True
  | _ => False
def dW : It → Int
  | .calls _ _ _ => 1
  | .got _ => -1
  | _ => 0
def wt (its : List It) : Int := (its.map dW).sum
def kindAt (i : Nat) (it : It) : Prop := if i % 2 = 0 then isEv it else isAc it
structure GV (its : List It) : Prop where
  al : ∀ i it, its[i]? = some it → kindAt i it
  en : ∀ i, its[i]? = some It.ends → i + 1 = its.length
  wt : ∀ k, 0 ≤ wt (its.take k)
theorem GV.le {xs ys : List It} (h : GV ys) (p : xs <+: ys) : GV xs := by
  obtain ⟨zs, rfl⟩ := p
  have g : ∀ i it, xs[i]? = some it → (xs ++ zs)[i]? = some it := fun i it e => by
    rw [List.getElem?_append_left (List.getElem?_eq_some_iff.mp e).1]
    exact e
  refine ⟨fun i it e => h.al i it (g i it e), fun i e => ?_, fun k => ?_⟩
  · have h1 := h.en i (g i _ e)
    have h2 := (List.getElem?_eq_some_iff.mp e).1
    rw [List.length_append] at h1
    omega
  · by_cases q : k ≤ xs.length
    · have := h.wt k
      rwa [List.take_append_of_le_length q] at this
    · have := h.wt xs.length
      rw [List.take_append_of_le_length (Nat.le_refl _)] at this
      rw [List.take_of_length_le (by omega : xs.length ≤ k)]
      rwa [List.take_length] at this
theorem wt_app (xs ys : List It) : OH.wt (xs ++ ys) = OH.wt xs + OH.wt ys := by
  unfold OH.wt
  rw [List.map_append, List.sum_append]
/-- one more item -/
theorem GV.snoc {xs : List It} {it : It} (h : GV xs) (ne : It.ends ∉ xs) (k : kindAt xs.length it) (w : 0 ≤ OH.wt xs + dW it) : GV (xs ++ [it]) := by
  refine ⟨fun i x e => ?_, fun i e => ?_, fun j => ?_⟩
  · rcases Nat.lt_or_ge i xs.length with q | q
    · rw [List.getElem?_append_left q] at e
      exact h.al i x e
    · rw [List.getElem?_append_right q] at e
      have e0 : i = xs.length := by
        have := (List.getElem?_eq_some_iff.mp e).1
        rw [List.length_singleton] at this
        omega
      subst e0
      rw [Nat.sub_self] at e
      cases e
      exact k
  · rcases Nat.lt_or_ge i xs.length with q | q
    · rw [List.getElem?_append_left q] at e
      exact absurd (List.mem_of_getElem? e) ne
    · have := (List.getElem?_eq_some_iff.mp e).1
      rw [List.length_append, List.length_singleton] at this ⊢
      omega
  · by_cases q : j ≤ xs.length
    · rw [List.take_append_of_le_length q]
      exact h.wt j
    · rw [List.take_of_length_le (by rw [List.length_append, List.length_singleton]; omega), wt_app]
      show 0 ≤ OH.wt xs + (dW it + 0)
      omega
def cntA (r : Int) (asks : List (Int × Int)) : Int := ((asks.filter fun p => decide (p.1 = r)).length : Nat)
theorem cntA_snoc (r : Int) (as : List (Int × Int)) (p : Int × Int) : cntA r (as ++ [p]) = cntA r as + if p.1 = r then 1 else 0 := by
  unfold cntA
  rw [List.filter_append, List.length_append]
  by_cases e : p.1 = r
  · rw [if_pos e, List.filter_cons_of_pos (by simpa using e)]
    show ((_ + 1 : Nat) : Int) = _
    omega
  · rw [if_neg e, List.filter_cons_of_neg (by simpa using e)]
    show ((_ + 0 : Nat) : Int) = _
    omega
/-- the view of room r behind a part of a row that goes on -/
structure Vst (r c : Int) (asks : List (Int × Int)) (its : List It) : Prop where
  gv : GV its
  ne : It.ends ∉ its
  pa : its.length % 2 = if c = r then 1 else 0
  wt : OH.wt its = cntA r asks
theorem kind_ev {its : List It} {it : It} (h : its.length % 2 = 0) (e : isEv it) : kindAt its.length it := by
  unfold kindAt
  rw [if_pos h]
  exact e
theorem kind_ac {its : List It} {it : It} (h : its.length % 2 = 1) (e : isAc it) : kindAt its.length it := by
  unfold kindAt
  rw [if_neg (by omega)]
  exact e
theorem cntA_nn (r : Int) (as : List (Int × Int)) : 0 ≤ cntA r as := Int.natCast_nonneg _
theorem Vst.run {F : Fc} (hF : F.Ok) {r : Int} : ∀ {xs : List Crs} {s : Rs} {c : Int} {its : List It}, SOk F s → s.1 = some c → Vst r c s.2 its → VRr F s xs → GV (its ++ vw r xs)
  | [], _, _, its, _, _, v, _ => by
    show GV (its ++ [])
    rw [List.append_nil]
    exact v.gv
  | x :: xs, s, c, its, hs, hc, v, ⟨⟨c', hc', hx⟩, hr⟩ => by
    rw [hc] at hc'
    cases hc'
    have ch := hs.ctl hc
    obtain ⟨c0, c1⟩ := ch.rng hF
    have m6 := hF.m6
    have hs2 := hs.step hF hc hx
    rw [vw_cons, ← List.append_assoc]
    have nn := cntA_nn r s.2
    have vw0 := v.wt
    cases x with
    | start n => exact hx.elim
    | call a b d n =>
      obtain ⟨e, hw, hl, hn⟩ := hx
      subst e
      obtain ⟨b0, b5, bR, bc, d0, d5⟩ := wire_rng hF c0 c1 hw
      refine Vst.run (xs := xs) (s := bh s (.call a b d n)) (c := b) hF hs2 rfl ?_ hr
      show Vst r b (s.2 ++ [(a, b)]) (its ++ ((if r = a then [It.calls b d n] else []) ++ (if r = b then [It.inn d n] else [])))
      have pa := v.pa
      by_cases ea : a = r
      · subst ea
        rw [if_pos rfl, if_neg (fun z => bc z.symm), List.append_nil]
        rw [if_pos rfl] at pa
        refine ⟨v.gv.snoc v.ne (kind_ac pa ⟨⟨b0, by omega⟩, ⟨d0, by omega⟩, hn⟩) (by show 0 ≤ OH.wt its + 1; omega), fun z => (List.mem_append.mp z).elim v.ne (fun z => nomatch List.mem_singleton.mp z), ?_, ?_⟩
        · rw [if_neg bc, List.length_append, List.length_singleton]; omega
        · rw [wt_app, cntA_snoc, if_pos rfl, vw0]; rfl
      · rw [if_neg (fun z => ea z.symm), List.nil_append]
        rw [if_neg ea] at pa
        by_cases eb : r = b
        · subst eb
          rw [if_pos rfl]
          refine ⟨v.gv.snoc v.ne (kind_ev pa ⟨⟨d0, by omega⟩, hn⟩) (by show 0 ≤ OH.wt its + 0; omega), fun z => (List.mem_append.mp z).elim v.ne (fun z => nomatch List.mem_singleton.mp z), ?_, ?_⟩
          · rw [if_pos rfl, List.length_append, List.length_singleton]; omega
          · rw [wt_app, cntA_snoc, if_neg ea, vw0]; rfl
        · rw [if_neg eb, List.append_nil]
          refine ⟨v.gv, v.ne, by rw [if_neg (fun z => eb z.symm)]; exact pa, ?_⟩
          rw [cntA_snoc, if_neg ea, vw0, Int.add_zero]
    | back a b n =>
      obtain ⟨e, ⟨q, hq, hb⟩, hn⟩ := hx
      subst e
      have hq0 := hq
      rcases ch.inv with ⟨e0, _⟩ | ⟨as, a', e0, h0, hne⟩
      · rw [e0] at hq
        cases hq
      rw [e0, List.getLast?_concat] at hq
      cases hq
      have hb' : b = a' := hb
      subst hb'
      have dl : s.2.dropLast = as := by rw [e0, List.dropLast_concat]
      refine Vst.run (xs := xs) (s := bh s (.back a b n)) (c := b) hF hs2 rfl ?_ hr
      show Vst r b s.2.dropLast (its ++ ((if r = a then [It.gives n] else []) ++ (if r = b then [It.got n] else [])))
      have pa := v.pa
      rw [dl]
      rw [e0, cntA_snoc] at vw0
      have nna := cntA_nn r as
      by_cases ea : a = r
      · subst ea
        rw [if_pos rfl, if_neg (fun z => hne z.symm), List.append_nil]
        rw [if_pos rfl] at pa
        rw [if_neg hne] at vw0
        refine ⟨v.gv.snoc v.ne (kind_ac pa hn) (by show 0 ≤ OH.wt its + 0; omega), fun z => (List.mem_append.mp z).elim v.ne (fun z => nomatch List.mem_singleton.mp z), ?_, ?_⟩
        · rw [if_neg hne, List.length_append, List.length_singleton]; omega
        · rw [wt_app, vw0]; show _ + 0 + (0 + 0) = _; omega
      · rw [if_neg (fun z => ea z.symm), List.nil_append]
        rw [if_neg ea] at pa
        by_cases eb : r = b
        · subst eb
          rw [if_pos rfl]
          rw [if_pos rfl] at vw0
          refine ⟨v.gv.snoc v.ne (kind_ev pa hn) (by show 0 ≤ OH.wt its + -1; omega), fun z => (List.mem_append.mp z).elim v.ne (fun z => nomatch List.mem_singleton.mp z), ?_, ?_⟩
          · rw [if_pos rfl, List.length_append, List.length_singleton]; omega
          · rw [wt_app, vw0]; show _ + 1 + (-1 + 0) = _; omega
        · rw [if_neg eb, List.append_nil]
          rw [if_neg (fun z => eb z.symm)] at vw0
          exact ⟨v.gv, v.ne, by rw [if_neg (fun z => eb z.symm)]; exact pa, by rw [vw0, Int.add_zero]⟩
    | deep a b d n =>
      obtain ⟨e, hw, hl, hn⟩ := hx
      subst e
      obtain ⟨b0, b5, bR, bc, d0, d5⟩ := wire_rng hF c0 c1 hw
      have hxs : xs = [] := by
        cases xs with
        | nil => rfl
        | cons y ys => obtain ⟨⟨_, z, _⟩, _⟩ := hr; cases z
      subst hxs
      show GV ((its ++ if r = a then [It.calls b d n] else []) ++ [])
      rw [List.append_nil]
      have pa := v.pa
      by_cases ea : a = r
      · subst ea
        rw [if_pos rfl]
        rw [if_pos rfl] at pa
        exact v.gv.snoc v.ne (kind_ac pa ⟨⟨b0, by omega⟩, ⟨d0, by omega⟩, hn⟩) (by show 0 ≤ OH.wt its + 1; omega)
      · rw [if_neg (fun z => ea z.symm), List.append_nil]
        exact v.gv
    | done n =>
      obtain ⟨e, hn⟩ := hx
      have hxs : xs = [] := by
        cases xs with
        | nil => rfl
        | cons y ys => obtain ⟨⟨_, z, _⟩, _⟩ := hr; cases z
      subst hxs
      show GV ((its ++ if r = 0 then [It.gives n] else []) ++ [])
      rw [List.append_nil]
      have pa := v.pa
      have c00 : c = 0 := by
        rcases ch.inv with ⟨_, z⟩ | ⟨as, a', z, _⟩
        · exact z
        · rw [e] at z
          cases as <;> cases z
      by_cases ea : r = 0
      · subst ea
        rw [if_pos rfl]
        rw [if_pos c00] at pa
        exact v.gv.snoc v.ne (kind_ac pa hn) (by show 0 ≤ OH.wt its + 0; omega)
      · rw [if_neg ea, List.append_nil]
        exact v.gv
    | fin a =>
      have e : a = c := hx
      subst e
      have hxs : xs = [] := by
        cases xs with
        | nil => rfl
        | cons y ys => obtain ⟨⟨_, z, _⟩, _⟩ := hr; cases z
      subst hxs
      show GV ((its ++ if r = a then [It.ends] else []) ++ [])
      rw [List.append_nil]
      have pa := v.pa
      by_cases ea : a = r
      · subst ea
        rw [if_pos rfl]
        rw [if_pos rfl] at pa
        exact v.gv.snoc v.ne (kind_ac pa trivial) (by show 0 ≤ OH.wt its + 0; omega)
      · rw [if_neg (fun z => ea z.symm), List.append_nil]
        exact v.gv
theorem GV.nil : GV [] := ⟨fun i it e => absurd (List.mem_of_getElem? e) List.not_mem_nil, fun i e => absurd (List.mem_of_getElem? e) List.not_mem_nil, fun k => by rw [List.take_nil]; exact Int.le_refl 0⟩
theorem VR.gv {F : Fc} (hF : F.Ok) {cs : List Crs} (h : VR F cs) (r : Int) : GV (vw r cs) := by
  obtain ⟨n, xs, rfl, hn, hr⟩ := h
  rw [vw_cons]
  refine Vst.run (s := (some 0, [])) (c := 0) hF (SOk.init hF) rfl ?_ hr
  show Vst r 0 [] (if r = 0 then [It.inn 0 n] else [])
  by_cases e : r = 0
  · subst e
    rw [if_pos rfl]
    exact ⟨GV.nil.snoc List.not_mem_nil (kind_ev rfl ⟨⟨Int.le_refl 0, by decide⟩, hn⟩) (Int.le_refl 0), fun z => (nomatch List.mem_singleton.mp z), by rw [if_pos rfl]; rfl, rfl⟩
  · rw [if_neg e]
    exact ⟨GV.nil, List.not_mem_nil, by rw [if_neg (fun z => e z.symm)]; rfl, rfl⟩
end OH
end
section
set_option Elab.async false
set_option linter.all false
set_option maxRecDepth 100000
set_option maxHeartbeats 4000000
/-! Events and acts of views. -/
namespace OH
open PySem PySem.Spec PyProof.Rows L2
theorem _root_.L2.SqT.tyx {K : PySem.W.Frag} {H : Hp} {p : Addr} {xs : List V} (h : SqT K H p xs) : TyX K H (.ref p) (.type "tuple") := by
  rcases h with (h | ⟨o, h⟩) | ⟨o, its, n, h1, h2, _⟩
  · exact .base (.tup h)
  · exact .fTuple h
  · exact .kTuple h1 h2
/-- a list of items -/
def spItems (K : PySem.W.Frag) (Ok : It → Prop) : Sp := fun vs H Q _ => ∃ (l : Addr) (its : List It), vs = [.ref l] ∧ VwAt K H l its ∧ (∀ it ∈ its, Ok it) ∧ its.length ≤ 10000 ∧ ∀ H', Same H H' → Q (.bl true) H'
section
variable {P : Program} {w : World} {K : PySem.W.Frag} {mg : Str → Option Value} {base : Heap}
abbrev nEv : List Str := ["values", "value", "many", "word", "number", "door"]
abbrev nAc : List Str := ["values", "value", "many", "word", "number", "door", "room"]
theorem sc_are_events : FnScope nEv ["values"] (defScope s_are_events) := ⟨rfl, rfl, rfl, by decide +kernel, rfl, by decide +kernel, by decide +kernel⟩
theorem ok_are_events {f : Addr} {fd : FuncData} (F : Fun K "are_events" "are_events" s_are_events f fd) (T : Txt K mg) (g6 : ∃ t, mg "MOST_DOORS" = some (.int 6 t)) (g4 : ∃ t, mg "MODULUS" = some (.int 10000 t)) : FnOk P w K mg base CX0 1 f fd ["values"] (spItems K isEv) := by
  refine F.ok sc_are_events (fun vs H Q E h => ?_) (fun cdv A outer s H vs Q E hr h => ?_)
  · obtain ⟨l, its, rfl, _⟩ := h
    rfl
  · obtain ⟨l, its, rfl, hl, ho, hn, k⟩ := h
    have nd := sc_are_events.nd
    obtain ⟨t6, g6⟩ := g6
    obtain ⟨t4, g4⟩ := g4
    refine ⟨_, pss_cons (ps_for PassesOwn.never rfl (pi_list (pv 0)) (pg_name (i := 1) nd rfl (Or.inl rfl))
        (pss_cons (ps_set (i := 2) nd rfl (Or.inl rfl) (pe_ifExp (pt_val (pe_callB call_isi (by rfl) T.nIsi (by decide +kernel) (pa_cons (pv 1) (pa_cons (pe_bltn (v := .ty "tuple") (by rfl) T.nTuple (by decide +kernel) rfl) pa_nil)))) (pe_callB call_len_seq (by rfl) T.nLen PySem.boot_len (pa_cons (pv 1) pa_nil)) pe_int))
      (pss_cons (ps_if (pt_cmpR op_eq (pv 2) pe_int (nomark _)) (pss_cons (ps_asg (pv 1) (pg_tup (by rfl) (pgs_cons (pg_name (i := 3) nd rfl (Or.inl rfl)) (pgs_cons (pg_name (i := 4) nd rfl (Or.inl rfl)) pgs_nil))))
      (pss_one (ps_if (pt_cmpR op_ne (pv 3) pe_str (nomark _)) (pss_one (ps_ret pe_bl)) pss_nil))) (pss_one (ps_if (pt_cmpR op_eq (pv 2) pe_int (nomark _)) (pss_cons (ps_asg (pv 1) (pg_tup (by rfl) (pgs_cons (pg_name (i := 3) nd rfl (Or.inl rfl)) (pgs_cons (pg_name (i := 5) nd rfl (Or.inl rfl)) (pgs_cons (pg_name (i := 4) nd rfl (Or.inl rfl)) pgs_nil)))))
      (pss_one (ps_if (PW.pt (pw_or (pt_cmpR op_ne (pv 3) pe_str (nomark _)) (pw_or (pt_not (pt_val (pe_callB call_isi (by rfl) T.nIsi (by decide +kernel) (pa_cons (pv 5) (pa_cons (pe_bltn (v := .ty "int") (by rfl) T.nInt (by decide +kernel) rfl) pa_nil))))) (pw_or (pt_cmpR op_isB (pv 5) pe_bl (nomark _)) (pw_or (pt_cmpR op_isB (pv 5) pe_bl (nomark _)) (pw_or1 (pt_not (pt_chain op_le op_lt pe_int (pv 5) (pe_glob (v := .int 6) rfl g6 ⟨t6, rfl⟩))))))))) (pss_one (ps_ret pe_bl)) pss_nil))) (pss_one (ps_ret pe_bl)))))
      (pss_one (ps_if (PW.pt (pw_or (pt_not (pt_val (pe_callB call_isi (by rfl) T.nIsi (by decide +kernel) (pa_cons (pv 4) (pa_cons (pe_bltn (v := .ty "int") (by rfl) T.nInt (by decide +kernel) rfl) pa_nil))))) (pw_or (pt_cmpR op_isB (pv 4) pe_bl (nomark _)) (pw_or (pt_cmpR op_isB (pv 4) pe_bl (nomark _)) (pw_or1 (pt_not (pt_chain op_le op_lt pe_int (pv 4) (pe_glob (v := .int 10000) rfl g4 ⟨t4, rfl⟩)))))))) (pss_one (ps_ret pe_bl)) pss_nil)))))
      (pss_one (ps_ret pe_bl)), ?_⟩
    obtain ⟨ps, h1, h2⟩ := hl
    have lp := h2.len
    refine ⟨_, rfl, l, rfl, ⟨_, SqL.of h1⟩, ?_⟩
    refine for_list (xs := ps.map V.ref) (fun i σ H' => ∃ (o1 o2 o3 o4 o5 : Option V), σ = [some (.ref l), o1, o2, o3, o4, o5] ∧ H' = H)
      ⟨none, none, none, none, none, rfl, rfl⟩ (fun i σ H' _ ⟨_, _, _, _, _, _, s⟩ => by rw [s]; exact SqL.of h1) ?turn ?done
    case done =>
      rintro σ H4 ⟨o1, o2, o3, o4, o5, rfl, rfl⟩
      exact k H4 (Same.refl _)
    case turn =>
      rintro i y σ H4 hy ⟨o1, o2, o3, o4, o5, rfl, rfl⟩
      rw [List.getElem?_map] at hy
      obtain ⟨c, hc, rfl⟩ := Option.map_eq_some_iff.mp hy
      obtain ⟨x, hx, hcx⟩ := h2.get hc
      have hox := ho x (List.mem_of_getElem? hx)
      have nx : ∀ {o1 o2 o3 o4 o5 : Option V}, ∃ (p1 p2 p3 p4 p5 : Option V), [some (.ref l), o1, o2, o3, o4, o5] = [some (.ref l), p1, p2, p3, p4, p5] ∧ H4 = H4 := ⟨_, _, _, _, _, rfl, rfl⟩
      refine ⟨_, rfl, _, _, _, _, _, rfl, .ty "tuple", hcx.tyx, kit_ty (r := true) (by decide +kernel), _, rfl, iteT ?_⟩
      refine ⟨_, rfl, c, _, rfl, .inr hcx, ?_⟩
      cases x with
      | inn d n =>
        obtain ⟨⟨d0, d6⟩, n0, n9⟩ := hox
        change _ at hcx
        refine ⟨_, rfl, rfl, _, rfl, iteF ?_⟩
        refine ⟨_, rfl, rfl, _, rfl, iteT ?_⟩
        refine ⟨_, rfl, c, _, rfl, hcx, rfl, _, _, rfl, _, _, rfl, _, _, rfl, rfl, ?_⟩
        refine ⟨_, rfl, rfl, _, rfl, iteF ?_⟩
        refine ⟨_, rfl, _, _, _, _, _, rfl, .ty "int", .base (.int d), kit_ty (r := true) (by decide +kernel), _, rfl, iteF ?_⟩
        refine ⟨_, rfl, true, rfl, .inl ⟨⟨d, rfl⟩, _, rfl, iteF ?_⟩⟩
        refine ⟨_, rfl, false, rfl, .inl ⟨⟨d, rfl⟩, _, rfl, iteF ?_⟩⟩
        refine ⟨_, rfl, _, _, rfl, rfl, _, rfl, ?_⟩
        rw [show decide ((0 : Int) ≤ d) = true from decide_eq_true d0]
        refine iteT ?_
        refine ⟨_, _, rfl, rfl, _, rfl, ?_⟩
        rw [show decide (d < (6 : Int)) = true from decide_eq_true (by omega)]
        refine iteF ?_
        refine ⟨_, rfl, _, _, _, _, _, rfl, .ty "int", .base (.int n), kit_ty (r := true) (by decide +kernel), _, rfl, iteF ?_⟩
        refine ⟨_, rfl, true, rfl, .inl ⟨⟨n, rfl⟩, _, rfl, iteF ?_⟩⟩
        refine ⟨_, rfl, false, rfl, .inl ⟨⟨n, rfl⟩, _, rfl, iteF ?_⟩⟩
        refine ⟨_, rfl, _, _, rfl, rfl, _, rfl, ?_⟩
        rw [show decide ((0 : Int) ≤ n) = true from decide_eq_true n0]
        refine iteT ?_
        refine ⟨_, _, rfl, rfl, _, rfl, ?_⟩
        rw [show decide (n < (10000 : Int)) = true from decide_eq_true (by omega)]
        refine iteF ?_
        exact nx
      | got n =>
        obtain ⟨n0, n9⟩ := hox
        refine ⟨_, rfl, rfl, _, rfl, iteT ?_⟩
        refine ⟨_, rfl, c, _, rfl, hcx, rfl, _, _, rfl, _, _, rfl, rfl, ?_⟩
        refine ⟨_, rfl, rfl, _, rfl, iteF ?_⟩
        refine ⟨_, rfl, _, _, _, _, _, rfl, .ty "int", .base (.int n), kit_ty (r := true) (by decide +kernel), _, rfl, iteF ?_⟩
        refine ⟨_, rfl, true, rfl, .inl ⟨⟨n, rfl⟩, _, rfl, iteF ?_⟩⟩
        refine ⟨_, rfl, false, rfl, .inl ⟨⟨n, rfl⟩, _, rfl, iteF ?_⟩⟩
        refine ⟨_, rfl, _, _, rfl, rfl, _, rfl, ?_⟩
        rw [show decide ((0 : Int) ≤ n) = true from decide_eq_true n0]
        refine iteT ?_
        refine ⟨_, _, rfl, rfl, _, rfl, ?_⟩
        rw [show decide (n < (10000 : Int)) = true from decide_eq_true (by omega)]
        refine iteF ?_
        exact nx
      | _ => exact hox.elim
theorem sc_are_acts : FnScope nAc ["values"] (defScope s_are_acts) := ⟨rfl, rfl, rfl, by decide +kernel, rfl, by decide +kernel, by decide +kernel⟩
theorem ok_are_acts {f : Addr} {fd : FuncData} (F : Fun K "are_acts" "are_acts" s_are_acts f fd) (T : Txt K mg) (gr : ∃ t, mg "MOST_ROOMS" = some (.int 6 t)) (g6 : ∃ t, mg "MOST_DOORS" = some (.int 6 t)) (g4 : ∃ t, mg "MODULUS" = some (.int 10000 t)) : FnOk P w K mg base CX0 1 f fd ["values"] (spItems K isAc) := by
  refine F.ok sc_are_acts (fun vs H Q E h => ?_) (fun cdv A outer s H vs Q E hr h => ?_)
  · obtain ⟨l, its, rfl, _⟩ := h
    rfl
  · obtain ⟨l, its, rfl, hl, ho, hn, k⟩ := h
    have nd := sc_are_acts.nd
    obtain ⟨tr, gr⟩ := gr
    obtain ⟨t6, g6⟩ := g6
    obtain ⟨t4, g4⟩ := g4
    refine ⟨_, pss_cons (ps_for PassesOwn.never rfl (pi_list (pv 0)) (pg_name (i := 1) nd rfl (Or.inl rfl))
        (pss_cons (ps_set (i := 2) nd rfl (Or.inl rfl) (pe_ifExp (pt_val (pe_callB call_isi (by rfl) T.nIsi (by decide +kernel) (pa_cons (pv 1) (pa_cons (pe_bltn (v := .ty "tuple") (by rfl) T.nTuple (by decide +kernel) rfl) pa_nil)))) (pe_callB call_len_seq (by rfl) T.nLen PySem.boot_len (pa_cons (pv 1) pa_nil)) pe_int))
      (pss_cons (ps_if (pt_cmpR op_eq (pv 2) pe_int (nomark _)) (pss_cons (ps_asg (pv 1) (pg_tup (by rfl) (pgs_cons (pg_name (i := 3) nd rfl (Or.inl rfl)) (pgs_cons (pg_name (i := 4) nd rfl (Or.inl rfl)) pgs_nil))))
      (pss_one (ps_if (pt_cmpR op_ne (pv 3) pe_str (nomark _)) (pss_one (ps_ret pe_bl)) pss_nil))) (pss_one (ps_if (pt_cmpR op_eq (pv 2) pe_int (nomark _)) (pss_cons (ps_asg (pv 1) (pg_tup (by rfl) (pgs_cons (pg_name (i := 3) nd rfl (Or.inl rfl)) (pgs_cons (pg_name (i := 6) nd rfl (Or.inl rfl)) (pgs_cons (pg_name (i := 5) nd rfl (Or.inl rfl)) (pgs_cons (pg_name (i := 4) nd rfl (Or.inl rfl)) pgs_nil))))))
      (pss_cons (ps_if (PW.pt (pw_or (pt_cmpR op_ne (pv 3) pe_str (nomark _)) (pw_or (pt_not (pt_val (pe_callB call_isi (by rfl) T.nIsi (by decide +kernel) (pa_cons (pv 6) (pa_cons (pe_bltn (v := .ty "int") (by rfl) T.nInt (by decide +kernel) rfl) pa_nil))))) (pw_or (pt_cmpR op_isB (pv 6) pe_bl (nomark _)) (pw_or1 (pt_cmpR op_isB (pv 6) pe_bl (nomark _))))))) (pss_one (ps_ret pe_bl)) pss_nil)
      (pss_cons (ps_if (PW.pt (pw_or (pt_not (pt_val (pe_callB call_isi (by rfl) T.nIsi (by decide +kernel) (pa_cons (pv 5) (pa_cons (pe_bltn (v := .ty "int") (by rfl) T.nInt (by decide +kernel) rfl) pa_nil))))) (pw_or (pt_cmpR op_isB (pv 5) pe_bl (nomark _)) (pw_or1 (pt_cmpR op_isB (pv 5) pe_bl (nomark _)))))) (pss_one (ps_ret pe_bl)) pss_nil)
      (pss_one (ps_if (PW.pt (pw_or (pt_not (pt_chain op_le op_lt pe_int (pv 6) (pe_glob (v := .int 6) rfl gr ⟨tr, rfl⟩))) (pw_or1 (pt_not (pt_chain op_le op_lt pe_int (pv 5) (pe_glob (v := .int 6) rfl g6 ⟨t6, rfl⟩)))))) (pss_one (ps_ret pe_bl)) pss_nil))))) (pss_one (ps_if (PW.pt (pw_and (pt_cmpR op_eq (pv 2) pe_int (nomark _)) (pw_and1 (pt_cmpR op_eq (pe_ix ix_tup (pv 1) pe_int (fun _ _ => rfl)) pe_str (nomark _))))) (pss_one ps_continue) (pss_one (ps_ret pe_bl)))))))
      (pss_one (ps_if (PW.pt (pw_or (pt_not (pt_val (pe_callB call_isi (by rfl) T.nIsi (by decide +kernel) (pa_cons (pv 4) (pa_cons (pe_bltn (v := .ty "int") (by rfl) T.nInt (by decide +kernel) rfl) pa_nil))))) (pw_or (pt_cmpR op_isB (pv 4) pe_bl (nomark _)) (pw_or (pt_cmpR op_isB (pv 4) pe_bl (nomark _)) (pw_or1 (pt_not (pt_chain op_le op_lt pe_int (pv 4) (pe_glob (v := .int 10000) rfl g4 ⟨t4, rfl⟩)))))))) (pss_one (ps_ret pe_bl)) pss_nil)))))
      (pss_one (ps_ret pe_bl)), ?_⟩
    obtain ⟨ps, h1, h2⟩ := hl
    have lp := h2.len
    refine ⟨_, rfl, l, rfl, ⟨_, SqL.of h1⟩, ?_⟩
    refine for_list (xs := ps.map V.ref) (fun i σ H' => ∃ (o1 o2 o3 o4 o5 o6 : Option V), σ = [some (.ref l), o1, o2, o3, o4, o5, o6] ∧ H' = H)
      ⟨none, none, none, none, none, none, rfl, rfl⟩ (fun i σ H' _ ⟨_, _, _, _, _, _, _, s⟩ => by rw [s]; exact SqL.of h1) ?turn ?done
    case done =>
      rintro σ H4 ⟨o1, o2, o3, o4, o5, o6, rfl, rfl⟩
      exact k H4 (Same.refl _)
    case turn =>
      rintro i y σ H4 hy ⟨o1, o2, o3, o4, o5, o6, rfl, rfl⟩
      rw [List.getElem?_map] at hy
      obtain ⟨c, hc, rfl⟩ := Option.map_eq_some_iff.mp hy
      obtain ⟨x, hx, hcx⟩ := h2.get hc
      have hox := ho x (List.mem_of_getElem? hx)
      have nx : ∀ {o1 o2 o3 o4 o5 o6 : Option V}, ∃ (p1 p2 p3 p4 p5 p6 : Option V), [some (.ref l), o1, o2, o3, o4, o5, o6] = [some (.ref l), p1, p2, p3, p4, p5, p6] ∧ H4 = H4 := ⟨_, _, _, _, _, _, rfl, rfl⟩
      refine ⟨_, rfl, _, _, _, _, _, rfl, .ty "tuple", hcx.tyx, kit_ty (r := true) (by decide +kernel), _, rfl, iteT ?_⟩
      refine ⟨_, rfl, c, _, rfl, .inr hcx, ?_⟩
      cases x with
      | calls a d n =>
        obtain ⟨⟨a0, a6⟩, ⟨d0, d6⟩, n0, n9⟩ := hox
        refine ⟨_, rfl, rfl, _, rfl, iteF ?_⟩
        refine ⟨_, rfl, rfl, _, rfl, iteT ?_⟩
        refine ⟨_, rfl, c, _, rfl, hcx, rfl, _, _, rfl, _, _, rfl, _, _, rfl, _, _, rfl, rfl, ?_⟩
        refine ⟨_, rfl, rfl, _, rfl, iteF ?_⟩
        refine ⟨_, rfl, _, _, _, _, _, rfl, .ty "int", .base (.int a), kit_ty (r := true) (by decide +kernel), _, rfl, iteF ?_⟩
        refine ⟨_, rfl, true, rfl, .inl ⟨⟨a, rfl⟩, _, rfl, iteF ?_⟩⟩
        refine ⟨_, rfl, false, rfl, .inl ⟨⟨a, rfl⟩, _, rfl, iteF ?_⟩⟩
        refine ⟨_, rfl, _, _, _, _, _, rfl, .ty "int", .base (.int d), kit_ty (r := true) (by decide +kernel), _, rfl, iteF ?_⟩
        refine ⟨_, rfl, true, rfl, .inl ⟨⟨d, rfl⟩, _, rfl, iteF ?_⟩⟩
        refine ⟨_, rfl, false, rfl, .inl ⟨⟨d, rfl⟩, _, rfl, iteF ?_⟩⟩
        refine ⟨_, rfl, _, _, rfl, rfl, _, rfl, ?_⟩
        rw [show decide ((0 : Int) ≤ a) = true from decide_eq_true a0]
        refine iteT ?_
        refine ⟨_, _, rfl, rfl, _, rfl, ?_⟩
        rw [show decide (a < (6 : Int)) = true from decide_eq_true (by omega)]
        refine iteF ?_
        refine ⟨_, rfl, _, _, rfl, rfl, _, rfl, ?_⟩
        rw [show decide ((0 : Int) ≤ d) = true from decide_eq_true d0]
        refine iteT ?_
        refine ⟨_, _, rfl, rfl, _, rfl, ?_⟩
        rw [show decide (d < (6 : Int)) = true from decide_eq_true (by omega)]
        refine iteF ?_
        refine ⟨_, rfl, _, _, _, _, _, rfl, .ty "int", .base (.int n), kit_ty (r := true) (by decide +kernel), _, rfl, iteF ?_⟩
        refine ⟨_, rfl, true, rfl, .inl ⟨⟨n, rfl⟩, _, rfl, iteF ?_⟩⟩
        refine ⟨_, rfl, false, rfl, .inl ⟨⟨n, rfl⟩, _, rfl, iteF ?_⟩⟩
        refine ⟨_, rfl, _, _, rfl, rfl, _, rfl, ?_⟩
        rw [show decide ((0 : Int) ≤ n) = true from decide_eq_true n0]
        refine iteT ?_
        refine ⟨_, _, rfl, rfl, _, rfl, ?_⟩
        rw [show decide (n < (10000 : Int)) = true from decide_eq_true (by omega)]
        refine iteF ?_
        exact nx
      | gives n =>
        obtain ⟨n0, n9⟩ := hox
        refine ⟨_, rfl, rfl, _, rfl, iteT ?_⟩
        refine ⟨_, rfl, c, _, rfl, hcx, rfl, _, _, rfl, _, _, rfl, rfl, ?_⟩
        refine ⟨_, rfl, rfl, _, rfl, iteF ?_⟩
        refine ⟨_, rfl, _, _, _, _, _, rfl, .ty "int", .base (.int n), kit_ty (r := true) (by decide +kernel), _, rfl, iteF ?_⟩
        refine ⟨_, rfl, true, rfl, .inl ⟨⟨n, rfl⟩, _, rfl, iteF ?_⟩⟩
        refine ⟨_, rfl, false, rfl, .inl ⟨⟨n, rfl⟩, _, rfl, iteF ?_⟩⟩
        refine ⟨_, rfl, _, _, rfl, rfl, _, rfl, ?_⟩
        rw [show decide ((0 : Int) ≤ n) = true from decide_eq_true n0]
        refine iteT ?_
        refine ⟨_, _, rfl, rfl, _, rfl, ?_⟩
        rw [show decide (n < (10000 : Int)) = true from decide_eq_true (by omega)]
        refine iteF ?_
        exact nx
      | ends =>
        refine ⟨_, rfl, rfl, _, rfl, iteF ?_⟩
        refine ⟨_, rfl, rfl, _, rfl, iteF ?_⟩
        refine ⟨_, rfl, rfl, _, rfl, iteT ?_⟩
        refine ⟨_, rfl, c, _, 0, _, rfl, rfl, hcx, rfl, rfl, _, rfl, iteT ?_⟩
        exact nx
      | _ => exact hox.elim
end
end OH
end
section
set_option Elab.async false
set_option linter.all false
set_option maxRecDepth 100000
set_option maxHeartbeats 1000000
/-! Items and crossings as data. -/
namespace OH
open PySem PySem.Spec PyProof.Rows L2
def tD (w : Str) (is : List Int) : PyData := .tuple (.str w :: is.map .int)
theorem eqvAll_int : ∀ xs ys : List Int, PyData.eqvAll (xs.map .int) (ys.map .int) = decide (xs = ys)
  | [], [] => rfl
  | [], _ :: _ => rfl
  | _ :: _, [] => rfl
  | x :: xs, y :: ys => by
    show ((x == y) && PyData.eqvAll (xs.map .int) (ys.map .int)) = _
    rw [eqvAll_int xs ys]
    by_cases e : x = y
    · subst e
      by_cases e2 : xs = ys
      · subst e2; simp
      · simp [e2]
    · simp [e]
theorem tD_eqv (w v : Str) (is js : List Int) : PyData.eqv (tD w is) (tD v js) = decide (w = v ∧ is = js) := by
  show ((w == v) && PyData.eqvAll (is.map .int) (js.map .int)) = _
  rw [eqvAll_int]
  by_cases e : w = v
  · subst e; simp
  · simp [e]
theorem intsDp {K : PySem.W.Frag} {H : Hp} : ∀ is : List Int, DpAll K H (is.map V.int) (is.map .int)
  | [] => .nil
  | i :: is => .cons (.int i) (intsDp is)
theorem tD_dp {K : PySem.W.Frag} {H : Hp} {p : Addr} {w : Str} {is : List Int} (h : SqT K H p (.str w :: is.map V.int)) : Dp K H (.ref p) (tD w is) := .tup h (.cons (.str w) (intsDp is))
theorem ints_lay : ∀ is : List Int, PyData.canLayAll0 (is.map .int) = true ∧ PyData.depthAll (is.map .int) = 0
  | [] => ⟨rfl, rfl⟩
  | i :: is => by
    obtain ⟨h1, h2⟩ := ints_lay is
    refine ⟨?_, ?_⟩
    · show (true && PyData.canLayAll0 (is.map .int)) = true
      rw [h1]
      rfl
    · show max 0 (PyData.depthAll (is.map .int)) = 0
      rw [h2]
      rfl
theorem tD_lay {w : Str} (hw : PyData.canLay0 (.str w) = true) (is : List Int) : PyData.canLay0 (tD w is) = true ∧ PyData.depth (tD w is) = 1 := by
  obtain ⟨h1, h2⟩ := ints_lay is
  refine ⟨?_, ?_⟩
  · show (PyData.canLay0 (.str w) && PyData.canLayAll0 (is.map .int)) = true
    rw [h1, hw]
    rfl
  · show max 0 (PyData.depthAll (is.map .int)) + 1 = 1
    rw [h2]
    rfl
theorem shaped_tD {w : Str} (hw : PyData.canLay0 (.str w) = true) (is : List Int) : SeqAt.shaped (tD w is) = true := by
  obtain ⟨h1, h2⟩ := tD_lay hw is
  show (PyData.canLay0 (tD w is) && decide (PyData.depth (tD w is) ≤ 64)) = true
  rw [h1, h2]
  rfl
theorem shaped_tDs {α : Type} (f : α → Str) (g : α → List Int) (hw : ∀ x, PyData.canLay0 (.str (f x)) = true) (xs : List α) : SeqAt.shaped (.list (xs.map fun x => tD (f x) (g x))) = true := by
  have h : PyData.canLayAll0 (xs.map fun x => tD (f x) (g x)) = true ∧ PyData.depthAll (xs.map fun x => tD (f x) (g x)) ≤ 1 := by
    induction xs with
    | nil => exact ⟨rfl, Nat.zero_le _⟩
    | cons x xs ih =>
      obtain ⟨h1, h2⟩ := tD_lay (hw x) (g x)
      refine ⟨?_, ?_⟩
      · show (PyData.canLay0 (tD (f x) (g x)) && PyData.canLayAll0 _) = true
        rw [h1, ih.1]
        rfl
      · show max (PyData.depth (tD (f x) (g x))) (PyData.depthAll _) ≤ 1
        rw [h2]
        exact Nat.max_le.mpr ⟨Nat.le_refl 1, ih.2⟩
  show (PyData.canLayAll0 _ && decide (PyData.depthAll _ + 1 ≤ 64)) = true
  rw [h.1, decide_eq_true (by have := h.2; omega)]
  rfl
theorem eqvAll_map {α : Type} [DecidableEq α] {d : α → PyData} (h : ∀ x y, PyData.eqv (d x) (d y) = decide (x = y)) : ∀ xs ys : List α, PyData.eqvAll (xs.map d) (ys.map d) = decide (xs = ys)
  | [], [] => rfl
  | [], _ :: _ => rfl
  | _ :: _, [] => rfl
  | x :: xs, y :: ys => by
    show (PyData.eqv (d x) (d y) && PyData.eqvAll (xs.map d) (ys.map d)) = _
    rw [eqvAll_map h xs ys, h]
    by_cases e : x = y
    · subst e
      by_cases e2 : xs = ys
      · subst e2; simp
      · simp [e2]
    · simp [e]
theorem any_map {α : Type} [DecidableEq α] {d : α → PyData} (h : ∀ x y, PyData.eqv (d x) (d y) = decide (x = y)) (xs : List α) (y : α) : ((xs.map d).any fun z => PyData.eqv z (d y)) = decide (y ∈ xs) := by
  induction xs with
  | nil => rfl
  | cons x xs ih =>
    rw [List.map_cons, List.any_cons, ih, h]
    by_cases e : x = y
    · subst e; simp
    · have e2 : ¬ y = x := fun z => e z.symm
      simp [e, e2]
def It.w : It → Str
  | .inn _ _ => "in"
  | .got _ => "got"
  | .calls _ _ _ => "calls"
  | .gives _ => "gives"
  | .ends => "ends"
def It.ns : It → List Int
  | .inn d n => [d, n]
  | .got n => [n]
  | .calls a d n => [a, d, n]
  | .gives n => [n]
  | .ends => []
def It.d (x : It) : PyData := tD x.w x.ns
theorem It.vs_eq (x : It) : x.vs = .str x.w :: x.ns.map V.int := by cases x <;> rfl
theorem It.w_inj {x y : It} : (x.w = y.w ∧ x.ns = y.ns) ↔ x = y := by
  constructor
  · rintro ⟨h1, h2⟩
    cases x <;> cases y <;> first | (simp only [It.w] at h1; exact absurd h1 (by decide +kernel)) | (simp only [It.ns, List.cons.injEq, and_true] at h2; simp_all)
  · rintro rfl
    exact ⟨rfl, rfl⟩
theorem It.eqv (x y : It) : PyData.eqv x.d y.d = decide (x = y) := by
  unfold It.d
  rw [tD_eqv]
  exact decide_eq_decide.mpr It.w_inj
theorem It.dp {K : PySem.W.Frag} {H : Hp} {p : Addr} {x : It} (h : SqT K H p x.vs) : Dp K H (.ref p) x.d := tD_dp (by rw [← It.vs_eq]; exact h)
theorem AllQ.itdp {K : PySem.W.Frag} {H : Hp} {ps : List Addr} {xs : List It} (h : AllQ K H It.vs ps xs) : DpAll K H (ps.map V.ref) (xs.map It.d) := by
  induction h with
  | nil => exact .nil
  | cons e _ ih => exact .cons (It.dp e) ih
theorem shaped_its (xs : List It) : SeqAt.shaped (.list (xs.map It.d)) = true := shaped_tDs It.w It.ns (fun x => by cases x <;> (simp only [It.w]; decide +kernel)) xs
theorem shaped_it (x : It) : SeqAt.shaped x.d = true := shaped_tD (by cases x <;> (simp only [It.w]; decide +kernel)) _
def Crs.d (x : Crs) : PyData := tD x.wd x.is
theorem Crs.w_inj {x y : Crs} : (x.wd = y.wd ∧ x.is = y.is) ↔ x = y := by
  constructor
  · rintro ⟨h1, h2⟩
    cases x <;> cases y <;> first | (simp only [Crs.wd] at h1; exact absurd h1 (by decide +kernel)) | (simp only [Crs.is, List.cons.injEq, and_true] at h2; simp_all)
  · rintro rfl
    exact ⟨rfl, rfl⟩
theorem Crs.eqv (x y : Crs) : PyData.eqv x.d y.d = decide (x = y) := by
  unfold Crs.d
  rw [tD_eqv]
  exact decide_eq_decide.mpr Crs.w_inj
theorem Crs.dp {K : PySem.W.Frag} {H : Hp} {p : Addr} {x : Crs} (h : SqT K H p x.vs) : Dp K H (.ref p) x.d := tD_dp (by rw [← Crs.vs_eq]; exact h)
theorem AllAt.rowdp {K : PySem.W.Frag} {H : Hp} {ps : List Addr} {row : List Crs} (h : AllAt H Crs.vs ps row) : DpAll K H (ps.map V.ref) (row.map Crs.d) := by
  induction h with
  | nil => exact .nil
  | cons e _ ih => exact .cons (Crs.dp (SqT.of e)) ih
theorem shaped_row (xs : List Crs) : SeqAt.shaped (.list (xs.map Crs.d)) = true := shaped_tDs Crs.wd Crs.is (fun x => by cases x <;> (simp only [Crs.wd]; decide +kernel)) xs
/-- rows, views compared -/
theorem row_eqv (xs ys : List Crs) : PyData.eqv (.list (xs.map Crs.d)) (.list (ys.map Crs.d)) = decide (xs = ys) := eqvAll_map Crs.eqv xs ys
theorem its_eqv (xs ys : List It) : PyData.eqv (.list (xs.map It.d)) (.list (ys.map It.d)) = decide (xs = ys) := eqvAll_map It.eqv xs ys
end OH
end
section
set_option Elab.async false
set_option linter.all false
set_option maxRecDepth 100000
set_option maxHeartbeats 4000000
/-! Good views. -/
namespace OH
open PySem PySem.Spec PyProof.Rows L2
theorem AllQ.evs_ {α : Type} {K : PySem.W.Frag} {H : Hp} {f : α → List V} : ∀ {xs : List α} {ps : List Addr}, AllQ K H f ps xs → AllQ K H f (evs ps) (evs xs)
  | [], _, h => by
    cases h
    unfold evs
    exact .nil
  | [a], _, h => by
    cases h with
    | cons e t =>
      cases t
      unfold evs
      exact .cons e .nil
  | a :: b :: r, _, h => by
    cases h with
    | cons e t =>
      cases t with
      | cons e2 t2 =>
        unfold evs
        exact .cons e (AllQ.evs_ (xs := r) t2)
theorem AllQ.tail_ {α : Type} {K : PySem.W.Frag} {H : Hp} {f : α → List V} : ∀ {ps : List Addr} {xs : List α}, AllQ K H f ps xs → AllQ K H f ps.tail xs.tail
  | _, _, .nil => .nil
  | _, _, .cons _ r => r
theorem AllQ.drop_ {α : Type} {K : PySem.W.Frag} {H : Hp} {f : α → List V} : ∀ {xs : List α} {ps : List Addr}, AllQ K H f ps xs → AllQ K H f ps.dropLast xs.dropLast
  | [], _, h => by
    cases h
    exact .nil
  | [a], _, h => by
    cases h with
    | cons e t =>
      cases t
      exact .nil
  | a :: b :: r, _, h => by
    cases h with
    | cons e t =>
      cases t with
      | cons e2 t2 => exact .cons e (AllQ.drop_ (xs := b :: r) (.cons e2 t2))
theorem evs_map {α β : Type} (f : α → β) : ∀ xs : List α, evs (xs.map f) = (evs xs).map f
  | [] => rfl
  | [_] => rfl
  | a :: b :: r => by
    show evs (f a :: f b :: r.map f) = _
    unfold evs
    rw [evs_map f r]
    rfl
theorem evs_all {α : Type} {p : α → Prop} : ∀ {xs : List α}, (∀ i x, xs[i]? = some x → i % 2 = 0 → p x) → ∀ x ∈ evs xs, p x
  | [], _, x, hx => by unfold evs at hx; exact absurd hx List.not_mem_nil
  | [a], h, x, hx => by
    unfold evs at hx
    rw [List.mem_singleton.mp hx]
    exact h 0 a rfl rfl
  | a :: b :: r, h, x, hx => by
    unfold evs at hx
    rcases List.mem_cons.mp hx with e | e
    · rw [e]
      exact h 0 a rfl rfl
    · exact evs_all (xs := r) (fun i y hy hi => h (i + 2) y hy (by omega)) x e
theorem cutV_pop (xs : List V) : cutV xs none (some (-1)) = xs.dropLast := by
  unfold cutV
  have e1 : HT.sIx xs.length 0 none = 0 := by simp [HT.sIx]
  have e2 : HT.sIx xs.length xs.length (some (-1)) = xs.length - 1 := by
    show (if (-1 : Int) < 0 then ((-1 : Int) + (xs.length : Int)).toNat else min (-1 : Int).toNat xs.length) = _
    rw [if_pos (by decide)]
    omega
  rw [e1, e2, List.drop_zero, Nat.sub_zero, List.dropLast_eq_take]
theorem GV.evs_ {its : List It} (h : GV its) : ∀ it ∈ evs its, isEv it := evs_all fun i x e z => by
  have := h.al i x e
  unfold kindAt at this
  rwa [if_pos z] at this
theorem GV.ods_ {its : List It} (h : GV its) : ∀ it ∈ evs its.tail, isAc it := evs_all fun i x e z => by
  rw [List.getElem?_tail] at e
  have := h.al (i + 1) x e
  unfold kindAt at this
  rwa [if_neg (by omega)] at this
theorem GV.noEnd {its : List It} (h : GV its) : It.ends ∉ its.dropLast := fun z => by
  obtain ⟨i, hi⟩ := List.getElem?_of_mem z
  have h1 := (List.getElem?_eq_some_iff.mp hi).1
  rw [List.length_dropLast] at h1
  rw [List.getElem?_dropLast, if_pos h1] at hi
  have := h.en i hi
  omega
def spGoodV (K : PySem.W.Frag) : Sp := fun vs H Q _ => ∃ (l : Addr) (its : List It), vs = [.ref l] ∧ VwAt K H l its ∧ GV its ∧ its.length ≤ 10000 ∧ ∀ H', Same H H' → Q (.bl true) H'
section
variable {P : Program} {w : World} {K : PySem.W.Frag} {mg : Str → Option Value} {base : Heap}
abbrev nGv : List Str := ["value", "waiting", "item"]
theorem sc_good_view : FnScope nGv ["value"] (defScope s_good_view) := ⟨rfl, rfl, rfl, by decide +kernel, rfl, by decide +kernel, by decide +kernel⟩
theorem ok_good_view {f : Addr} {fd : FuncData} {aE : Addr} (F : Fun K "good_view" "good_view" s_good_view f fd) (T : Txt K mg) (gE : mg "ENDS" = some (.ref aE)) (tE : ∀ H, SqT K H aE It.ends.vs)
    (DE : DefF P w K mg base CX0 2 "are_events" ["values"] (spItems K isEv)) (DA : DefF P w K mg base CX0 2 "are_acts" ["values"] (spItems K isAc)) : FnOk P w K mg base CX0 3 f fd ["value"] (spGoodV K) := by
  refine F.ok sc_good_view (fun vs H Q E h => ?_) (fun cdv A outer s H vs Q E hr h => ?_)
  · obtain ⟨l, its, rfl, _⟩ := h
    rfl
  · obtain ⟨l, its, rfl, hl, hg, hn, k⟩ := h
    have nd := sc_good_view.nd
    refine ⟨_, pss_cons (ps_if (PW.pt (pw_or (pt_not (pt_val (pe_callB call_isiT (by rfl) T.nIsi (by decide +kernel) (pa_cons (pv 0) (pa_cons (pe_tup (pa_cons (pe_bltn (v := .ty "list") (by rfl) T.nList (by decide +kernel) rfl) (pa_cons (pe_bltn (v := .ty "tuple") (by rfl) T.nTuple (by decide +kernel) rfl) pa_nil))) pa_nil))))) (pw_or (pt_not (pt_val (pe_cD DE hr rfl pass0 (pa_cons (pe_evL (pv 0)) pa_nil)))) (pw_or1 (pt_not (pt_val (pe_cD DA hr rfl pass0 (pa_cons (pe_odL (pv 0)) pa_nil)))))))) (pss_one (ps_ret pe_bl)) pss_nil)
      (pss_cons (ps_if (pt_cmpR (op_inD (Room_u65 hr)) (pe_glob (v := .ref aE) rfl gE rfl) (pe_slice sl_list (pv 0) po_none (po_some (pe_un un_neg pe_int))) (by rfl)) (pss_one (ps_ret pe_bl)) pss_nil)
      (pss_cons (ps_set (i := 1) nd rfl (Or.inl rfl) pe_int)
      (pss_cons (ps_for PassesOwn.never rfl (pi_list (pv 0)) (pg_name (i := 2) nd rfl (Or.inl rfl))
        (pss_one (ps_if (pt_cmpR op_eq (pe_ix ix_tup (pv 2) pe_int (fun _ _ => rfl)) pe_str (nomark _)) (pss_one (ps_aug (i := 1) nd rfl (Or.inl rfl) pe_int ip_add)) (pss_one (ps_if (pt_cmpR op_eq (pe_ix ix_tup (pv 2) pe_int (fun _ _ => rfl)) pe_str (nomark _)) (pss_cons (ps_aug (i := 1) nd rfl (Or.inl rfl) pe_int ip_sub)
      (pss_one (ps_if (pt_cmpR op_lt (pv 1) pe_int (nomark _)) (pss_one (ps_ret pe_bl)) pss_nil))) pss_nil)))))
      (pss_one (ps_ret pe_bl))))), ?_⟩
    obtain ⟨ps, h1, h2⟩ := hl
    have lp := h2.len
    refine ⟨_, rfl, (by show 2 ≤ sizeLine; decide), fun tp ntp => ?_⟩
    have s1 := sadd (o := .tup [.ty "list", .ty "tuple"]) (Same.refl H) ntp
    have htp : upd H tp (.tup [.ty "list", .ty "tuple"]) tp = some (.tup [.ty "list", .ty "tuple"]) := upd_same
    generalize upd H tp (.tup [.ty "list", .ty "tuple"]) = H1 at s1 htp ⊢
    have hl1 := s1 _ _ h1
    refine ⟨_, tp, _, _, _, _, rfl, htp, .cons (.ty _) (.cons (.ty _) .nil), .base (.lst hl1), kitAny_cons (kit_ty (r := true) (by decide +kernel)) (fun z => nomatch z) (fun _ => rfl), _, rfl, iteF ?_⟩
    refine ⟨_, rfl, l, _, rfl, SqL.of hl1, fun p np => ?_⟩
    have s2 := sadd (o := .lst (evs (ps.map V.ref))) s1 np
    have hp : upd H1 p (.lst (evs (ps.map V.ref))) p = some (.lst ((evs ps).map V.ref)) := by rw [upd_same, evs_map]
    generalize upd H1 p (.lst (evs (ps.map V.ref))) = H2 at s2 hp ⊢
    refine ⟨p, evs its, rfl, ⟨evs ps, hp, (h2.same s2).evs_⟩, hg.evs_, Nat.le_trans (evs_len its) hn, fun H3 s3 => ?_⟩
    have s13 := s2.trans s3
    have hl3 := s13 _ _ h1
    refine ⟨_, rfl, iteF ?_⟩
    refine ⟨_, rfl, l, _, rfl, SqL.of hl3, fun q nq => ?_⟩
    have s4 := sadd (o := .lst (evs (ps.map V.ref).tail)) s13 nq
    have hq : upd H3 q (.lst (evs (ps.map V.ref).tail)) q = some (.lst ((evs ps.tail).map V.ref)) := by rw [upd_same, ← evs_map, List.map_tail]
    generalize upd H3 q (.lst (evs (ps.map V.ref).tail)) = H4 at s4 hq ⊢
    refine ⟨q, evs its.tail, rfl, ⟨evs ps.tail, hq, (h2.same s4).tail_.evs_⟩, hg.ods_, Nat.le_trans (evs_len its.tail) (by rw [List.length_tail]; omega), fun H5 s5 => ?_⟩
    have s15 := s4.trans s5
    have hl5 := s15 _ _ h1
    refine ⟨_, rfl, iteF ?_⟩
    refine ⟨_, rfl, _, rfl, _, rfl, l, _, rfl, SqL.of hl5, fun r nr => ?_⟩
    rw [cutV_pop]
    have s6 := sadd (o := .lst ((ps.map V.ref).dropLast)) s15 nr
    have hr6 : upd H5 r (.lst ((ps.map V.ref).dropLast)) r = some (.lst (ps.dropLast.map V.ref)) := by rw [upd_same, List.map_dropLast]
    generalize upd H5 r (.lst ((ps.map V.ref).dropLast)) = H6 at s6 hr6 ⊢
    have q6 := h2.same s6
    have hl6 := s6 _ _ h1
    refine ⟨It.ends.d, its.dropLast.map It.d, It.dp (tE _), .lst (SqL.of hr6) q6.drop_.itdp, shaped_it _, shaped_its _, ?_⟩
    rw [any_map It.eqv, decide_eq_false hg.noEnd]
    refine ⟨_, rfl, iteF ?_⟩
    refine ⟨_, rfl, l, rfl, ⟨_, SqL.of hl6⟩, ?_⟩
    refine for_list (xs := ps.map V.ref) (fun i σ H' => ∃ o2 : Option V, σ = [some (.ref l), some (.int (OH.wt (its.take i))), o2] ∧ H' = H6)
      ⟨none, rfl, rfl⟩ (fun i σ H' _ ⟨_, _, s⟩ => by rw [s]; exact SqL.of hl6) ?turn ?done
    case done =>
      rintro σ H7 ⟨o2, rfl, rfl⟩
      exact k H7 s6
    case turn =>
      rintro i y σ H7 hy ⟨o2, rfl, rfl⟩
      rw [List.getElem?_map] at hy
      obtain ⟨c, hc, rfl⟩ := Option.map_eq_some_iff.mp hy
      obtain ⟨x, hx, hcx⟩ := q6.get hc
      have tki : OH.wt (its.take (i + 1)) = OH.wt (its.take i) + dW x := by
        rw [List.take_add_one, hx, wt_app]
        show _ + (dW x + 0) = _
        rw [Int.add_zero]
      have pos := hg.wt (i + 1)
      have nx : ∀ {m : Int} {o2 : Option V}, m = OH.wt (its.take i) + dW x → ∃ p2 : Option V, [some (.ref l), some (.int m), o2] = [some (.ref l), some (.int (OH.wt (its.take (i + 1)))), p2] ∧ H7 = H7 := fun {m o2} e => by
        subst e
        exact ⟨o2, by rw [tki], rfl⟩
      cases x with
      | calls a d n =>
        refine ⟨_, rfl, c, _, 0, _, rfl, rfl, hcx, rfl, rfl, _, rfl, iteT ?_⟩
        refine ⟨_, rfl, _, _, rfl, rfl, ?_⟩
        exact nx rfl
      | got n =>
        refine ⟨_, rfl, c, _, 0, _, rfl, rfl, hcx, rfl, rfl, _, rfl, iteF ?_⟩
        refine ⟨_, rfl, c, _, 0, _, rfl, rfl, hcx, rfl, rfl, _, rfl, iteT ?_⟩
        refine ⟨_, rfl, _, _, rfl, rfl, ?_⟩
        refine ⟨_, rfl, _, _, rfl, rfl, _, rfl, ?_⟩
        have e : decide (OH.wt (its.take i) - 1 < 0) = false := decide_eq_false (by
          rw [tki] at pos
          have : dW (It.got n) = -1 := rfl
          omega)
        rw [e]
        refine iteF ?_
        exact nx rfl
      | inn d n =>
        refine ⟨_, rfl, c, _, 0, _, rfl, rfl, hcx, rfl, rfl, _, rfl, iteF ?_⟩
        refine ⟨_, rfl, c, _, 0, _, rfl, rfl, hcx, rfl, rfl, _, rfl, iteF ?_⟩
        exact nx (Int.add_zero _).symm
      | gives n =>
        refine ⟨_, rfl, c, _, 0, _, rfl, rfl, hcx, rfl, rfl, _, rfl, iteF ?_⟩
        refine ⟨_, rfl, c, _, 0, _, rfl, rfl, hcx, rfl, rfl, _, rfl, iteF ?_⟩
        exact nx (Int.add_zero _).symm
      | ends =>
        refine ⟨_, rfl, c, _, 0, _, rfl, rfl, hcx, rfl, rfl, _, rfl, iteF ?_⟩
        refine ⟨_, rfl, c, _, 0, _, rfl, rfl, hcx, rfl, rfl, _, rfl, iteF ?_⟩
        exact nx (Int.add_zero _).symm
end
end OH
end
section
set_option Elab.async false
set_option linter.all false
set_option maxRecDepth 100000
set_option maxHeartbeats 4000000
/-! An own error whose __init__ says super().__init__(..) and then sets its fields. -/
namespace OH
open PySem PySem.Spec PyProof.Rows L2
/-- the context of such an __init__, in which the class stands as __class__ -/
def cxS (CX : CXT) (P : Program) (w : World) (K : PySem.W.Frag) (mg : Str → Option Value) (base : Heap) (N : List Str) (qual : Str) (scope : Scope) (f : Addr) (cd : Value) (cc : Addr) (A : Around) (outer : List Env) (s : Shared) (H : Hp) (E : XK) : Cx where
  prog := P
  w := w
  K := K
  mg := mg
  base := base
  A := A.deeper (PySem.W.ksEnv qual scope s.heap.objs.size f cd cc)
  N := N
  s_0 := s
  H_0 := H
  env := PySem.W.ksEnv qual scope s.heap.objs.size f cd cc
  outer := outer
  stack := PySem.W.ksEnv qual scope s.heap.objs.size f cd cc :: outer
  ex := []
  calm := true
  fn := fun _ => false
  pn := []
  xe := fun e s' => wpAny (model P w) (A.deeper (PySem.W.ksEnv qual scope s.heap.objs.size f cd cc)) (leaving (PySem.W.ksEnv qual scope s.heap.objs.size f cd cc) e) (fun _ s'' => CX outer H s E e s'') (fun e' s'' => CX outer H s E e' s'') s'
structure ScopeS (N ps : List Str) (sc : Scope) : Prop where
  kind : sc.kind = .function
  co : sc.isCoroutine = false
  gen : sc.isGenerator = false
  nd : N.Nodup
  pre : N.take ps.length = ps
  par : ∀ x ∈ ps, sc.names.lookup x = some .local
  nocell : ∀ y ∈ sc.names, y.2 ≠ .cell
  free : ∀ y ∈ sc.names, y.2 = .free → y.1 = "__class__"
  sup : sc.names.lookup ("super" : Str) = some .globalImplicit
  cls : sc.names.lookup ("__class__" : Str) = some .free
theorem rev_lookup : ∀ {ps : List Str} {us : List Value} {i : Nat} {y : Str} {u : Value}, ps.Nodup → ps[i]? = some y → us[i]? = some u → (ps.zip us).reverse.lookup y = some u
  | [], _, _, _, _, _, h, _ => by simp at h
  | _ :: _, [], _, _, _, _, _, h => by simp at h
  | p :: ps, v :: us, 0, y, u, nd, h1, h2 => by
    simp at h1 h2
    subst h1
    subst h2
    rw [List.zip_cons_cons, List.reverse_cons, List.lookup_append]
    have e : (ps.zip us).reverse.lookup p = none := by
      refine List.lookup_eq_none_iff.mpr fun q hq => ?_
      have hq' := List.mem_reverse.mp hq
      have hm : q.1 ∈ ps := by
        obtain ⟨q1, q2⟩ := q
        exact (List.of_mem_zip hq').1
      have ne : p ≠ q.1 := fun z => (List.nodup_cons.mp nd).1 (z ▸ hm)
      simpa using ne
    rw [e]
    simp [List.lookup]
  | p :: ps, v :: us, i + 1, y, u, nd, h1, h2 => by
    rw [List.zip_cons_cons, List.reverse_cons, List.lookup_append, rev_lookup (i := i) (List.nodup_cons.mp nd).2 (by simpa using h1) (by simpa using h2)]
    rfl
section
variable {CX : CXT} {P : Program} {w : World} {K : PySem.W.Frag} {mg : Str → Option Value} {base : Heap} {N ps : List Str} {qual : Str} {scope : Scope} {f cc : Addr} {cd : Value} {A : Around} {outer : List Env} {s : Shared} {H : Hp} {E : XK} {us : List Value} {vs : List V}
theorem invS_start {h₁ : Heap} {t : Nat} (S : ScopeS N ps scope) (hd : A.handled = none) (e0 : Env0 P w K mg base A outer s H) (hl : vs.length = ps.length) (r : Vals vs us)
    (hcc : ∃ o v, base.get? cc = some o ∧ o.data = .cell v) (hns : h₁.Ns s.heap.objs.size (fun y => (ps.zip us).reverse.lookup y)) (hk : ∀ b o, s.heap.get? b = some o → h₁.get? b = some o) :
    Inv (cxS CX P w K mg base N qual scope f cd cc A outer s H E) [] (L2.start N vs) H { s with heap := h₁, toks := t } := by
  have hpl : ps.length ≤ N.length := by have := congrArg List.length S.pre; rw [List.length_take] at this; omega
  have noA : ∀ b : Addr, b ∉ (cxS CX P w K mg base N qual scope f cd cc A outer s H E).ex := fun b z => absurd (show b ∈ ([] : List Addr) from z) (by simp)
  have one : ∀ {x : Str} {c : Addr}, (cxS CX P w K mg base N qual scope f cd cc A outer s H E).env.cells.lookup x = some c → x = "__class__" ∧ c = cc := fun {x c} h => by
    have h' : List.lookup x [(("__class__" : Str), cc)] = some c := h
    unfold List.lookup at h'
    split at h'
    · rename_i z
      exact ⟨by simpa using z, (Option.some.inj h').symm⟩
    · cases h'
  obtain ⟨oc, vc, hoc, hdc⟩ := hcc
  obtain ⟨hcs, hcH⟩ := e0.bs cc oc hoc
  have cellOk : ∀ x c, (cxS CX P w K mg base N qual scope f cd cc A outer s H E).env.cells.lookup x = some c → ∃ v, h₁.IsCell c v := fun x c h => by
    obtain ⟨_, rfl⟩ := one h
    exact ⟨vc, oc, hk _ _ hcs, hdc⟩
  refine ⟨⟨e0.mod, S.kind, rfl, rfl, Nat.le_refl _, fun y z c h1 h2 => ?_, fun y hy => ?_, fun y c h _ => ?_, fun _ => hd, Around.frames_deeper e0.frames, .inr ⟨rfl, rfl⟩, fun b z => absurd z (noA b), e0.bs, e0.bsz, fun b _ _ => noA b, fun b z => absurd z (noA b), e0.funs, e0.frf⟩,
    rfl, e0.bare, Un.kept hk, ⟨_, hns, fun i y v h1 h2 h3 => ?_⟩, cellOk, e0.hok.fresh (Nat.le_refl _), fun y c h => ?_, fun p hp => absurd (show p ∈ ([] : List (Addr × Obj)) from hp) (by simp), e0.hok.kept hk, ?_⟩
  · exact (one h1).1.trans (one h2).1.symm
  · have hy : scope.names.lookup y = some .cell ∨ scope.names.lookup y = some .free := hy
    rcases hy with hy | hy
    · exact absurd rfl (S.nocell _ (PySem.mem_of_lookup hy))
    · have e := S.free _ (PySem.mem_of_lookup hy) rfl
      have e' : y = "__class__" := e
      subst e'
      exact ⟨cc, by show List.lookup ("__class__" : Str) [(("__class__" : Str), cc)] = some cc; simp [List.lookup]⟩
  · cases h
  · have hi : i < vs.length := by
      unfold L2.start at h2
      by_cases hi : i < vs.length
      · exact hi
      · rw [List.getElem?_append_right (by simpa using hi)] at h2
        rw [List.getElem?_replicate] at h2
        split at h2 <;> cases h2
    have ha : vs[i]? = some v := by
      unfold L2.start at h2
      rw [List.getElem?_append_left (by simpa using hi), List.getElem?_map] at h2
      cases e : vs[i]? with
      | none => rw [e] at h2; cases h2
      | some a => rw [e] at h2; cases h2; rfl
    obtain ⟨u, hu, rv⟩ := r.get ha
    have hp : ps[i]? = some y := by
      rw [← S.pre, List.getElem?_take_of_lt (by omega)]; exact h1
    have ndP : ps.Nodup := by rw [← S.pre]; exact S.nd.sublist (List.take_sublist _ _)
    exact ⟨u, rv, .inl ⟨S.par y (List.mem_of_getElem? hp), rev_lookup ndP hp hu⟩⟩
  · obtain ⟨_, rfl⟩ := one h
    exact hcH
  · unfold L2.start
    show _ = N.length
    rw [List.length_append, List.length_map, List.length_replicate]
    omega
end
/-- such an __init__ as it stands behind the top: of the class at D, its __class__ in the cell at cc -/
structure FunS (P : Program) (K : PySem.W.Frag) (x qual : Str) (st : Stmt) (f : Addr) (fd : FuncData) (D cc : Addr) : Prop where
  ex : ∃ (oc : Value) (od : Option Addr) (kV doc pm : Value) (an : Option Addr) (cda : Addr) (ct : Value) (osl : Array (Option Value)),
    fd = PySem.W.ksFn x qual (defArgs st) (defBody st) (defScope st) .none kV doc pm an (.ref cda) ct cc ∧ K.lookup f = some ⟨oc, od, .func fd, osl⟩ ∧ PySem.W.codeIn K (.ref cda) qual = true ∧
    ∃ (ccl : Value) (cdd : Option Addr) (cvs : Array Value) (ccs : Array (Option Value)) (file : Str) (tf : Tok), K.lookup cda = some ⟨ccl, cdd, .fields cvs, ccs⟩ ∧ cvs[2]? = some (.str file tf) ∧ ((P.main.file : Str) == file) = true
  kp : PySem.W.keepIn K (.ref f) = true
  cell : ∃ cl cld csl, K.lookup cc = some ⟨cl, cld, .cell (some (.ref D)), csl⟩
  self : ∃ ar, ((defArgs st).posonlyargs ++ (defArgs st).args).head? = some ar ∧ ar.arg = "self"
/-- what super() asks of the class -/
structure SupC (P : Program) (K : PySem.W.Frag) (mg : Str → Option Value) (C : Addr) : Prop extends OexC K C where
  mS : mg "super" = none
  top : (P.main.scope.names.lookup ("super" : Str)).isSome = false
  any : PySem.W.nsIn K PySem.cStatics "thirdparty.any" = some none
  up : PySem.W.ks_superIn K C C "__init__" = some (some (.builtin "ValueError.__init__"))
  ve : PySem.W.subIn K (.ref C) (.type "ValueError") = some true
  own : PySem.W.mroIn K C (.ref C) = some true
theorem boot_super : bootBuiltins "super" = some (.type "super") := by decide +kernel
section
variable {X : Cx} {pins : List (Addr × Obj)} {σ : L2.St} {H : Hp} {s : Shared} {a C u : Addr}
/-- the bound built-in __init__ is called -/
theorem call_mw {us : List Value} {Q : Value → Shared → Prop} {E : Value → Shared → Prop} {A : Around} (T : OexC X.K C) (I : Inv X pins σ H s) (hu : s.heap.get? u = some (PySem.W.kxs_mw "ValueError.__init__" a)) (e : H a = some (exo a C none)) (hl : us.length ≤ sizeLine)
    (h : ∀ s', Inv X pins σ H s' → Q .none s') : wpAny (model X.prog X.w) A (call (.ref u) us) Q E s := by
  obtain ⟨nm, q, N, bs, bm, sn, sub, ab, col, dd, k0, k1, k2, k3, k5, hC, hbm⟩ := T.cls
  obtain ⟨t1, ho⟩ := exo_at I.hok e
  have kI := I.kIn
  obtain ⟨hp, g, d, t, os⟩ := s
  refine wpAny_call (codeAny_of_tree ?_)
  show wpAny _ A.in1 (callAny (.ref u) ⟨us, []⟩) _ _ _
  simp only [callAny]
  refine wpAny_bind (wpAny_load hu ?_)
  simp only [PySem.W.kxs_mw, show (Value.type "method-wrapper" == Value.type "method" || Value.type "method-wrapper" == Value.type "builtin_function_or_method" || Value.type "method-wrapper" == Value.type "method-wrapper") = true by decide, if_true]
  refine PySem.W.KFB.if_so (by decide) ?_
  refine wpAny_bind (PySem.W.check_bound_init F.excBase_ValueError.toExcCallFacts (kI _ _ hC) ho rfl ?_)
  refine wpAny_bind (wpAny_pure (wpAny_pure ?_))
  refine ⟨plainId_quiet F.excBase_ValueError.init.plain _, codeAny_builtin F.excBase_ValueError.initEntry ?_⟩
  refine PySem.W.exc_init_tree (cls := .ref C) (t0 := t1) (dv := none) (c2 := .none) (c3 := .none) (b4 := .bool false) ho hl fun h' k hx _ => ?_
  have J := I.write (t' := t) (x := a) (e := a) (o := exo a C none) (by rw [e]; exact True.intro) (.inl rfl) k ⟨_, hx⟩ (exo_ok hx)
  have eu : upd H a (exo a C none) = H := by
    funext b
    by_cases hb : b = a
    · rw [hb, upd_same, e]
    · rw [upd_ne hb]
  rw [eu] at J
  exact h _ J
end
section
variable {P : Program} {w : World} {K : PySem.W.Frag} {mg : Str → Option Value} {base : Heap}
/-- THE RULE for an __init__ that begins with super().__init__(e) -/
theorem FunS.ok {x qual : Str} {st : Stmt} {f C cc : Addr} {fd : FuncData} {N ps : List Str} {k : Nat} {sp : Sp} {e : Expr} {rest : List Stmt} {p0 p1 p2 p3 p4 : Pos} {pl : Env → Sem Bool} (F : FunS P K x qual st f fd C cc) (T : SupC P K mg C) (S : ScopeS N ps (defScope st))
    (hN : N[0]? = some ("self" : Str)) (h0 : ps[0]? = some ("self" : Str)) (hb : defBody st = .Expr (.Call (.Attribute (.Call (.Name "super" p0) [] [] p1) "__init__" p2) [e] [] p3) p4 :: rest) (len : ∀ vs H Q E, sp vs H Q E → vs.length = ps.length)
    (he : ∀ env, starEach [e] env = (false, eval e env) :: starEach [] env)
    (hev : ∀ env, eval (.Call (.Attribute (.Call (.Name "super" p0) [] [] p1) "__init__" p2) [e] [] p3) env = (do
      let ov ← attributeBase (.Call (.Name "super" p0) [] [] p1) "__init__" env (eval (.Call (.Name "super" p0) [] [] p1) env)
      standAt p2.atName
      let (f, first) ← holding [ov] (getMethod ov "__init__" (pl env))
      callWith p3 f first (backTo p3 (starEach [e] env)) []))
    (hi : ∀ L cd, interactive (PySem.W.ksEnv qual (defScope st) L f cd cc) = false) (hs : ∀ L cd, swapsWith (.Call (.Attribute (.Call (.Name "super" p0) [] [] p1) "__init__" p2) [e] [] p3) none p4.line (PySem.W.ksEnv qual (defScope st) L f cd cc) = pure false)
    (hbody : ∀ (cdv : Value) (A : Around) (outer : List Env) (s : Shared) (H : Hp) (vs : List V) (Q : VK) (E : XK), Room k (A.deeper (PySem.W.ksEnv qual (defScope st) s.heap.objs.size f cdv cc)) → sp vs H Q E →
      ∃ (a : Addr) (ta : TA) (t : TS), vs[0]? = some (.ref a) ∧ H a = some (exo a C none) ∧ PA (cxS CX0 P w K mg base N qual (defScope st) f cdv cc A outer s H E) [e] ta ∧ PSs (cxS CX0 P w K mg base N qual (defScope st) f cdv cc A outer s H E) rest t ∧
        ta (L2.start N vs) H fun ws H1 => ws.length ≤ 1000 ∧ H1 a = some (exo a C none) ∧ t { nx := fun _ H' => Q .non H', rt := Q } (L2.start N vs) H1) :
    FnOk P w K mg base CX0 (k + 1) f fd ps sp := by
  obtain ⟨oc, od, kV, doc, pm, an, cda, ct, osl, rfl, lk, hcd, ccl, cdd, cvs, ccs, file, tf, lc, hvs, hfile⟩ := F.ex
  refine ⟨len, fun A outer s H args us vs Q E hr e0 hbd r hsp => ?_⟩
  have keepB : ∀ b o, base.get? b = some o → s.heap.get? b = some o := fun b o z => (e0.bs b o z).1
  have KX : K.In s.heap := e0.mod.kin.keeps keepB
  have lim : s.heap.NoLimit := e0.mod.nolimit.keeps keepB
  obtain ⟨cl, cld, csl, lcc⟩ := F.cell
  obtain ⟨ar, har, hself⟩ := F.self
  refine ks_codeAny_call_defAt (body := defBody st) (binds := ps.zip us) hr.depth (KX _ _ lk) rfl lim (PySem.W.codeRec_of KX hcd) rfl hbd S.nocell (fun y hy => S.par y.1 (by obtain ⟨y1, y2⟩ := y; exact (List.of_mem_zip hy).1)) (fun h₁ hns hk₁ => ?_) S.co S.gen S.kind
  obtain ⟨a, ta, t, hva, hHa, hA, hR, ht⟩ := hbody (.ref cda) A outer s H vs Q E (hr.deeper _) hsp
  have I : Inv (cxS CX0 P w K mg base N qual (defScope st) f (.ref cda) cc A outer s H E) [] (L2.start N vs) H { s with heap := h₁, toks := s.toks + (ps.zip us).length } :=
    invS_start S hr.hd e0 (len _ _ _ _ hsp) r ⟨_, _, e0.mod.kin _ _ lcc, rfl⟩ hns hk₁
  obtain ⟨u0, hu0, rv0⟩ := r.get hva
  obtain rfl : u0 = Value.ref a := rv0
  have ndP : ps.Nodup := by rw [← S.pre]; exact S.nd.sublist (List.take_sublist _ _)
  have hself' : (fun y => (ps.zip us).reverse.lookup y) "self" = some (Value.ref a) := rev_lookup ndP h0 hu0
  have fin : ∀ {s' : Shared} {σ' : L2.St} {H' : Hp} {v : V} {u : Value}, Inv (cxS CX0 P w K mg base N qual (defScope st) f (.ref cda) cc A outer s H E) [] σ' H' s' → L2.RelV v u → Q v H' → CE outer P w H s Q u s' :=
    fun {s' σ' H' v u} J rv q => ⟨v, H', J.os, J.bare, J.base, J.hok, rv, q⟩
  obtain ⟨nm, q0, N0, bs, bm, sn, sub, ab, col, dd, k0, k1, k2, k3, k5, hC, hbm⟩ := T.cls
  have hcl : PySem.W.clsIn K C = some { name := nm, bases := bs, mro := .ref C :: bm, ns := N0, qualname := q0, hasDict := true, slotNames := sn, subclasses := sub, abstract := ab, collection := col, hasDel := false } := by unfold PySem.W.clsIn; rw [hC] <;> rfl
  have hal : PySem.W.alongIn K "__init__" (((.ref C :: bm).dropWhile (· != .ref C)).drop 1) = some (some (.builtin "ValueError.__init__")) := by
    have z := T.up
    unfold PySem.W.ks_superIn at z
    rw [hcl] at z
    exact z
  show PySem.wpAt _ _ _ (execs (defBody st) _) _ _ _
  rw [hb]
  refine ks_wpAt_execs_cons (ks_wpAt_Expr_any (ks_wpAt_MethodCall ?_ (hev _)) (hi _ _) (hs _ _))
  obtain ⟨t1, ho1⟩ := exo_at I.hok hHa
  have kI : K.In h₁ := KX.keeps hk₁
  have hxC : a ≠ C := fun z => by
    have z1 := kI _ _ hC
    rw [← z, ho1] at z1
    cases z1
  obtain ⟨mb, hmb, hmb2⟩ := e0.mod.blt
  have kb : ∀ b o, base.get? b = some o → h₁.get? b = some o := fun b o z => hk₁ b o (keepB b o z)
  refine ks_wpAt_super_base (env := PySem.W.ksEnv qual (defScope st) s.heap.objs.size f (.ref cda) cc) S.sup S.cls rfl rfl (kI _ _ lk) rfl har rfl (kI _ _ lc) rfl hvs hfile T.top ?_
  refine PySem.W.ks_loadName_global S.kind S.sup (Calls.loadGlobal_builtin (env := PySem.W.ksEnv qual (defScope st) s.heap.objs.size f (.ref cda) cc) (e0.mod.glob.keeps kb) T.mS (hmb.keeps kb) ((hmb2 _ (by decide)).trans boot_super) ⟨rfl, ?_⟩)
  refine wpAny_loadName_free S.kind S.cls (c := cc) (v := .ref C) (by show List.lookup ("__class__" : Str) [(("__class__" : Str), cc)] = some cc; simp [List.lookup]) ⟨_, kI _ _ lcc, rfl⟩ ?_
  rw [hself]
  refine wpAny_loadName_local S.kind (S.par "self" (List.mem_of_getElem? h0)) hns hself' ?_
  refine ks_wpAny_isType_cls (kI _ _ hC) rfl ⟨rfl, ?_⟩
  refine ks_wpAny_call_super (kI _ _ hC) rfl ho1 rfl (fun c z => by cases z) (PySem.W.looks_mroIn kI T.own) (fun h2 e2 k2' => ?_)
  have I2 : Inv (cxS CX0 P w K mg base N qual (defScope st) f (.ref cda) cc A outer s H E) [] (L2.start N vs) H ⟨h2, s.gens, s.drawn, s.toks + (ps.zip us).length, s.os⟩ := I.kept (h' := h2) (t' := s.toks + (ps.zip us).length) k2'
  have kI2 : K.In h2 := kI.keeps k2'
  have IA : PySem.W.InstAt h2 a ({ cls := .ref C, dict := none, data := .fields #[.ref t1, .none, .none, .none, .bool false, .none] } : Obj) C none := ⟨k2' _ _ ho1, rfl, rfl, trivial⟩
  refine PySem.W.kxs_getMethod PySem.W.kxs_ValueError e2 (PySem.W.looks_opaque kI2 T.any) (l₀ := .ref C :: bm) ((PySem.W.looks_clsIn kI2 hcl).andThen .now) rfl kI2 hal (IA.type.andThen (PySem.W.looks_subIn kI2 T.ve)) hxC (by decide) ?_
  have I3 : Inv (cxS CX0 P w K mg base N qual (defScope st) f (.ref cda) cc A outer s H E) [] (L2.start N vs) H ⟨h2.push (PySem.W.kxs_mw "ValueError.__init__" a), s.gens, s.drawn, s.toks + (ps.zip us).length + 1, s.os⟩ := I2.kept (h' := h2.push (PySem.W.kxs_mw "ValueError.__init__" a)) (t' := s.toks + (ps.zip us).length + 1) (fun b o z => Heap.get?_push_of_some _ z)
  have hmw : (h2.push (PySem.W.kxs_mw "ValueError.__init__" a)).get? h2.objs.size = some (PySem.W.kxs_mw "ValueError.__init__" a) := Heap.get?_push_size _ rfl
  have I4 : Inv (cxS CX0 P w K mg base N qual (defScope st) f (.ref cda) cc A outer s H E) [(h2.objs.size, PySem.W.kxs_mw "ValueError.__init__" a)] (L2.start N vs) H ⟨h2.push (PySem.W.kxs_mw "ValueError.__init__" a), s.gens, s.drawn, s.toks + (ps.zip us).length + 1, s.os⟩ := by
    refine I3.pins_of fun p hp => ?_
    obtain rfl := List.mem_singleton.mp hp
    refine ⟨hmw, I2.hok.fresh (Nat.le_refl _), fun z => ?_, I2.nofs (Nat.le_refl _), fun v z => nomatch z⟩
    have z1 := I2.lt
    have z' : h2.objs.size = (cxS CX0 P w K mg base N qual (defScope st) f (.ref cda) cc A outer s H E).env.locals := z
    rw [← z'] at z1
    exact absurd z1 (Nat.lt_irrefl _)
  show wpAny _ _ (callWith p3 (.ref h2.objs.size) [] (backTo p3 (starEach [e] _)) []) _ _ _
  rw [he]
  refine PySem.W.kxs_callWith (i := "ValueError.__init__") (x := a) (by rfl) (Calls.evalArgs_plain ?_)
  have hrun := hA.run p3 _ _ _ _ (fun ws H1 => ws.length ≤ 1000 ∧ H1 a = some (exo a C none) ∧ t { nx := fun _ H' => Q .non H', rt := Q } (L2.start N vs) H1) I4 ht
  rw [he] at hrun
  refine thn hrun fun us1 s1 ⟨ws, H1, I5, r1, hl, ea, q⟩ => ?_
  obtain ⟨g1, _⟩ := I5.pin _ (List.mem_append_right _ List.mem_cons_self)
  refine ⟨g1, ?_⟩
  show wpAny _ _ (call (.ref h2.objs.size) us1) _ _ _
  have I6 := I5.pins_of (pins' := []) fun p hp => absurd hp (by simp)
  refine call_mw (X := cxS CX0 P w K mg base N qual (defScope st) f (.ref cda) cc A outer s H E) T.toOexC I6 g1 ea (by rw [← r1.length, sizeLine_eq]; omega) fun s2 J => ?_
  show PySem.wpAt _ _ _ (execs rest _) _ _ _
  refine wpAt_of_wpAny (wpAny_mono (hR.run [] s2 _ H1 _ J q) (fun fl s' hs => ?_) fun e s' hs => hs)
  cases fl with
  | ret u =>
    obtain ⟨v, σ', H', J', rv, q'⟩ := hs
    exact fin J' rv q'
  | next =>
    obtain ⟨σ', H', J', q'⟩ := hs
    exact fin (v := V.non) (u := Value.none) J' rfl q'
  | brk =>
    obtain ⟨_, _, _, q'⟩ := hs
    exact False.elim q'
  | cont =>
    obtain ⟨_, _, _, q'⟩ := hs
    exact False.elim q'
end
end OH
end
section
set_option Elab.async false
set_option linter.all false
set_option maxRecDepth 100000
set_option maxHeartbeats 4000000
/-! An error that a handler keeps, with the dict of its fields. -/
namespace OH
namespace JX
open PySem PySem.W PySem.Spec PySem.Calls PyProof.Rows
section
variable {prog : Program} {w : World} {A : Around} {E : Value → Shared → Prop} {s : Shared} {K : Frag} {x D : Addr} {ox : Obj} {od : Option Obj} {Q : Option Value → Shared → Prop}
/-- what is handed out as the class of an error, whatever its own dict tells -/
theorem class_seen (C : L2.ExcC K D) (kin : K.In s.heap) (at_ : InstAt s.heap x ox D od) (done : Q (some (.ref D)) { s with toks := s.toks + 1 }) : wpAny (model prog w) A (getAttr? (.ref x) "__class__") Q E s := by
  obtain ⟨cd, hcd, _⟩ := any_some C.hd
  have found : findObj K D od "__class__" = some (.bind (.builtin "getset_descriptor.__get__") (.builtin "object.__class__")) := by
    simp [findObj, hcd, C.ha, C.hn, C.ht]
  obtain ⟨hp, g, d, t, os⟩ := s
  have ty := at_.type (M := model prog w)
  have isB : Looks (model prog w) hp (isInstance (.ref x) (.type "BaseException")) true := ty.andThen (looks_subIn kin C.hs)
  have way := looks_findIn (M := model prog w) kin C.hg
  have hook := looks_findIn (M := model prog w) kin C.hk
  have item := looks_find (M := model prog w) kin at_ found
  have ga := PySem.F.excAttr_ValueError.ga
  have inner : ∀ (A : Around) (Q : Value → Shared → Prop) (E : Value → Shared → Prop) (k : Nat), Q (.ref D) ⟨hp, g, d, k, os⟩ → wpAny (model prog w) A (call (.builtin "BaseException.__getattribute__") [.ref x, .str "__class__" t]) Q E ⟨hp, g, d, k, os⟩ := by
    intro A Q E k q
    refine wpAny_call (codeAny_call_builtin ga.plain PySem.F.entry_bexc_ga ?_)
    have kd : builtinKind "BaseException.__getattribute__" = some .slot := by decide +kernel
    have sp : splitId "BaseException.__getattribute__" = some ("BaseException", "__getattribute__") := by decide +kernel
    refine check_slot (i := "BaseException.__getattribute__") (owner := "BaseException") (n := "__getattribute__") (self := .ref x) (rest := [.str "__class__" t]) (kw := []) kd sp isB (PySem.F.args_bexc_ga (.ref x) (.str "__class__" t)) ?_
    unfold Builtin.«object.__getattribute__»
    refine wpAny_bind (wpAny_of_eq (a := ((Value.ref x : Value), [Value.str "__class__" t])) (by first | rfl | (simp only [slotArgs]; rfl)) (wpAny_bind (wpAny_pure ?_)))
    refine wpAny_bind (ty.at (wpAny_bind (item.at (wpAny_bind (wpAny_holding (wpAny_call (class_get (s := ⟨hp, g, d, k, os⟩) kin at_ C.hm ?_)))))))
    exact wpAny_pure q
  have notObj : (onTheHeap (Value.ref D) && Value.builtin "BaseException.__getattribute__" == Value.builtin "object.__getattribute__") = false := by
    have z : (Value.builtin "BaseException.__getattribute__" == Value.builtin "object.__getattribute__") = false := by decide +kernel
    rw [z]
    rfl
  unfold getAttr? getAttrBy? getAttrBy
  refine wpAny_bind (wpAny_mkText (wpAny_bind (wpAny_attempt (wpAny_holding (wpAny_bind (ty.at (wpAny_bind (way.at ?_))))))))
  dsimp only
  rw [if_neg (by rw [notObj]; exact Bool.false_ne_true)]
  unfold getAttrByItsOwn hookBefore callGetattribute boundAndCalled
  rw [if_pos (show onTheHeap (Value.ref D) = true from rfl)]
  refine wpAny_bind (hook.at (wpAny_bind (wpAny_attempt (wpAny_holding ?_))))
  rw [ga.bind (.ref x)]
  refine wpAny_bind (wpAny_pure (inner _ _ _ _ ?_))
  dsimp only
  rw [handedOut_of (v := .ref D) rfl]
  exact wpAny_pure (wpAny_pure done)
theorem kitx_j (C : L2.ExcC K D) : KitX K (.ref x) (.ref D) (fun h => InstAt h x ox D od) := by
  obtain ⟨cd, hcd, _⟩ := any_some C.hd
  obtain ⟨o, lo, ho⟩ : ∃ o, K.lookup D = some o ∧ o.data = .cls cd := by
    unfold clsIn at hcd
    split at hcd
    · rename_i c' d' cd' sl' ho
      cases hcd
      exact ⟨_, ho, rfl⟩
    · cases hcd
  refine ⟨fun _ _ _ I => I.type, fun _ _ kin _ => ?_, fun h tp dd its n sl kin htp => ?_, fun kin I k => class_seen C kin I k⟩
  · intro A' Q' E' s' k q
    unfold isType loadHead
    refine wpAny_bind (wpAny_loadPart (k _ _ (kin _ _ lo)) ?_)
    rw [ho]
    exact wpAny_pure q
  · cases hq : (Value.ref D == Value.ref tp) with
    | false => rfl
    | true =>
      obtain rfl : D = tp := Value.ref.inj (beq_iff_eq.mp hq)
      have z := (kin _ _ lo).symm.trans htp
      cases z
      cases ho
end
end JX
end OH
namespace OH
open PySem PySem.Spec PyProof.Rows L2
/-- an exception object of the class cls, its own dict at d, that some name holds -/
def ExJ (cls : Value) (d : Option Addr) (a : Addr) : HO := .ext fun h => ∃ (oe : Obj) (vs : Array Value), h.get? a = some oe ∧ Zc cls d oe ∧ oe.data = .fields vs
theorem kitx_any {K : PySem.W.Frag} {x D : Addr} {ox : Obj} {od : Option Obj} (C : ExcC K D) : PySem.W.KitX K (.ref x) (.ref D) (fun h => PySem.W.InstAt h x ox D od) :=
  JX.kitx_j C
section
variable {X : Cx} {pins : List (Addr × Obj)} {σ : L2.St} {H : Hp} {s : Shared}
/-- what a handler that keeps its error wishes of an error of the body -/
def wKeepJ (K : PySem.W.Frag) (c : Value) (i : Nat) (ts : Addr → Value → TS) (D : Ends) : WX := fun cls d σ H =>
  PySem.W.exmOne K cls c = some true ∧ ∀ a, H a = none →
    ts a cls { nx := fun σ' H' => D.nx (σ'.set i none) (upd H' a (ExJ cls d a)), rt := fun _ _ => False, bk := fun _ _ => False, ct := fun _ _ => False } (σ.set i (some (.ref a))) H
variable {x n : Str} {c : Value} {i : Nat} {body suite : List Stmt} {b₀ : Stmt} {np pos pos' : Pos} {tb : WX → TS} {ts : Addr → Value → TS}
/-- try: body / except x as n: suite, behind which the error is held -/
theorem ps_try_keepJ (hs : X.stack = X.env :: X.outer) (hf : X.env.frame = some X.env.locals) (hex : X.ex = []) (hN : X.N.Nodup) (hi : X.N[i]? = some n)
    (hln : X.env.kindOf n = some .local) (hc : Names X x c)
    (hb : ∀ (W : WX) (pn : List (Addr × Obj)) (xe : Value → Shared → Prop), Takes (X.tr pn xe) W → PassesOwn (model X.prog X.w) X.A X.env xe → PSs (X.tr pn xe) body (tb W))
    (hsu : ∀ (a : Addr) (oe : Obj) (cls : Value) (d : Option Addr) (pn : List (Addr × Obj)), Zc cls d oe → (∃ vs, oe.data = .fields vs) → PSs (X.suite a ((a, oe) :: pn)) (b₀ :: suite) (ts a cls)) :
    PS X (.Try body [.ExceptHandler (some (.Name x np)) (some n) (b₀ :: suite) pos'] [] [] pos) (fun D σ H => tb (wKeepJ X.K c i ts D) D σ H) := by
  constructor
  intro pins s σ H D I h
  have ok := I.ok
  have frm : X.A.frames = some (X.env :: X.outer) := ok.frames.trans (by rw [hs])
  apply wpAny_Try_except
  refine wpAny_mono ((hb (wKeepJ X.K c i ts D) (X.pn ++ pins)
    (fun e s₁ => wpAny (model X.prog X.w) X.A (noteFrame e X.env)
      (fun _ s₂ => wpAny (model X.prog X.w) X.A (setFlight e none)
        (fun _ s₃ => wpAny (model X.prog X.w) X.A (handleBy e X.env [.ExceptHandler (some (.Name x np)) (some n) (b₀ :: suite) pos']) (SP X pins D) X.xe s₃) X.xe s₂) X.xe s₁)
    ?took PassesOwn.looking).run [] s σ H D (I.toTry _) h) ?went (fun _ _ he => he)
  case went =>
    rintro (_ | _ | _ | u) s1 hsp
    · obtain ⟨σ', H', J, q⟩ := hsp
      exact wpAny_execs_nil ⟨σ', H', J.ofTry ok, q⟩
    · obtain ⟨σ', H', J, q⟩ := hsp
      exact ⟨σ', H', J.ofTry ok, q⟩
    · obtain ⟨σ', H', J, q⟩ := hsp
      exact ⟨σ', H', J.ofTry ok, q⟩
    · obtain ⟨v, σ', H', J, r, q⟩ := hsp
      exact ⟨v, σ', H', J.ofTry ok, r, q⟩
  case took =>
    rintro u s' ⟨a, B, sI, pins', σ', H', cls, d, rfl, J', nb, up, sky, na, os, ag, hm1, hyes⟩
    have J : Inv X pins σ' H' sI := J'.ofTry ok
    rw [show (X.tr (X.pn ++ pins) _).stack = X.env :: X.outer from hs] at sky
    show wpAny (model X.prog X.w) X.A (noteFrame (.ref a) X.env) _ _ _
    refine Sky.land Zc.steady frm hf sky fun h3 fl3 up3 => ?_
    obtain ⟨oe3, vs3, he3, hz3, hd3⟩ := fl3.there
    have Ba : B.get? a = none := fl3.2.1
    have aNf : a ∉ frs (X.env :: X.outer) := fun hm => by
      obtain ⟨_, o', e', hnf⟩ := fl3.2.2.1.mem hm
      rw [he3] at e'
      cases e'
      exact hnf _ hd3
    have aNs : a ∉ frs X.stack := by
      rw [hs]
      exact aNf
    have nL : a ≠ X.env.locals := fun z => aNf (List.mem_filterMap.mpr ⟨X.env, List.mem_cons_self, hf.trans (congrArg some z.symm)⟩)
    have nF : a ∉ X.fs := fun hm => by
      obtain ⟨en, he, q⟩ := List.mem_filterMap.mp hm
      exact aNf (List.mem_filterMap.mpr ⟨en, List.mem_cons_of_mem _ he, q⟩)
    have gI : sI.heap.get? a = none := by
      cases e : sI.heap.get? a with
      | none => rfl
      | some o => exact absurd ((nb a o e aNs).symm.trans Ba) (fun z => nomatch z)
    have g0 : X.s_0.heap.get? a = none := by
      cases e : X.s_0.heap.get? a with
      | none => rfl
      | some o =>
        obtain ⟨o', q⟩ := J.base.there a o e (by rw [hex]; exact List.not_mem_nil)
        rw [gI] at q
        cases q
    have pNa : ∀ p ∈ X.pn ++ pins, p.1 ≠ a := fun p hp z => by
      have q := (J.pin p hp).1
      rw [z, gI] at q
      cases q
    have J3 : Inv X pins σ' H' { s' with heap := h3 } := J.landed nb fl3.1 (up.trans up3) os ag
    have S3 := J3.suite he3 hd3 na nL nF
    refine wpAny_handleBy_cons (codeAny_handlers_test ?_) (by intro q; cases q)
    have tyA : PySem.W.Looks (model X.prog X.w) h3 (typeOf (.ref a)) cls := fun A Q E s k q => wpAny_typeOf_ref (k _ _ he3) (by rw [hz3.1]; exact q)
    have fit := PySem.W.exm_one (M := model X.prog X.w) J3.kIn tyA hm1
    have named : ∀ {Q : Value → Shared → Prop} {E : Value → Shared → Prop}, Q c { s' with heap := h3 } →
        wpAny (model X.prog X.w) (X.A.mark (some (.ref a))) (eval (.Name x np) X.env) Q E { s' with heap := h3 } := fun {Q E} q => by
      obtain ⟨hg, hdbg, hm | ⟨hm, hv, hnn⟩⟩ := hc
      · exact ld_glob (X := X.suite a ((a, oe3) :: (X.pn ++ pins))) S3 hg hm q hdbg
      · exact ld_blt (X := X.suite a ((a, oe3) :: (X.pn ++ pins))) S3 hg hm hv q hnn hdbg
    refine named (fit.here ?_)
    refine codeAny_handlers_suite_as ?_
    refine HandSPX.lands_againZ fl3 fun h4 fl4 up4 => ?_
    obtain ⟨oe4, vs4, he4, hz4, hd4⟩ := fl4.there
    have J4 : Inv X pins σ' H' { s' with heap := h4 } := J.landed nb fl4.1 ((up.trans up3).trans up4) os ag
    have S4 := J4.suite he4 hd4 na nL nF
    refine store_ok (X := X.suite a ((a, oe4) :: (X.pn ++ pins))) (v := .ref a) S4 hN hi (Or.inl hln) rfl (fun s5 S5 => ?_) (.inr hln)
    refine wpAny_mono ((hsu a oe4 cls d (X.pn ++ pins) hz4 ⟨_, hd4⟩).run [] s5 _ H' _ S5 (hyes a na)) ?_ (fun _ _ z => False.elim z)
    rintro (_ | _ | _ | u) s6 hsp
    · obtain ⟨σ6, H6, S6, q6⟩ := hsp
      obtain ⟨g6, n6, _⟩ := S6.pin (a, oe4) (List.mem_append_left _ List.mem_cons_self)
      have T6 := track (o := ExJ cls d a) (S6.unsuite ok) g6 n6 g0 nL (fun v z => nomatch (hd4.symm.trans z)) pNa
        ⟨⟨oe4, vs4, g6, hz4, hd4⟩, ⟨oe4, g6⟩, fun _ _ ⟨o, v, q, r⟩ k => ⟨o, v, k o q, r⟩⟩
      exact gone_ok T6 hN hi hln fun s7 J7 => ⟨_, _, J7, q6⟩
    all_goals
      first
        | (obtain ⟨_, _, _, q6⟩ := hsp; exact False.elim q6)
        | (obtain ⟨_, _, _, _, _, q6⟩ := hsp; exact False.elim q6)
/-- told: found = None / try: a() / except x as e: found = e / return found -/
def TTj (K : PySem.W.Frag) (CS : Addr) : (XK → Hp → VK → Prop) → Hp → VK → Prop := fun tl H Q => ∀ Q' : VK, (∀ v H1, Q .non H1 → Q' v H1) →
  tl (fun cls d H' => PySem.W.exmOne K cls (.ref CS) = some true ∧ ∀ a, H' a = none → Q (.ref a) (upd H' a (ExJ cls d a))) H Q'
/-- what is at a: an error of the class D that is held, its dict with what fs tells (none: it has none) -/
def Held (H : Hp) (a D : Addr) (fs : Option (List (Str × V))) : Prop := match fs with
  | none => H a = some (ExJ (.ref D) none a)
  | some l => ∃ d, H a = some (ExJ (.ref D) (some d) a) ∧ H d = some (.xd l)
theorem held_inst {a D : Addr} {fs : Option (List (Str × V))} (I : Inv X pins σ H s) (h : Held H a D fs) : ∃ (oe : Obj) (od : Option Obj), PySem.W.InstAt s.heap a oe D od ∧
    ∀ l, fs = some l → ∃ (o : Obj) (mA : Str → Option Value), od = some o ∧ (∀ f, RelO (l.lookup f) (mA f)) ∧ ∀ name, PySem.W.lookIn name o = some (mA name) := by
  cases fs with
  | none =>
    obtain ⟨⟨oe, vs, g, hz, hd⟩, _, _⟩ := I.hok a _ h
    obtain ⟨oc, od, oda, osl⟩ := oe
    obtain ⟨z1, z2⟩ := hz
    dsimp only at z1 z2 hd
    subst z1 z2 hd
    exact ⟨_, none, ⟨g, rfl, rfl, trivial⟩, fun l z => nomatch z⟩
  | some l =>
    obtain ⟨d, ha, hd'⟩ := h
    obtain ⟨⟨oe, vs, g, hz, hd⟩, _, _⟩ := I.hok a _ ha
    have hx : ObjOk X.prog X.w H s.heap d (.xd l) := I.hok d _ hd'
    obtain ⟨mA, hns, hr⟩ := hx
    obtain ⟨od1, ho, hl⟩ := lookIn_ns hns
    obtain ⟨oc, od, oda, osl⟩ := oe
    obtain ⟨z1, z2⟩ := hz
    dsimp only at z1 z2 hd
    subst z1 z2 hd
    refine ⟨_, some od1, ⟨g, rfl, rfl, ho⟩, fun l' z => ?_⟩
    cases z
    exact ⟨od1, mA, rfl, hr, hl⟩
/-- isinstance(e, c), e an error that is held -/
theorem call_isJ {D : Addr} {fs : Option (List (Str × V))} (C : ExcC X.K D) : CallR X (.builtin "isinstance") (fun xs H Q => ∃ (a : Addr) (c : V) (cv : Value) (b : Bool),
    xs = [.ref a, c] ∧ Held H a D fs ∧ (∀ u, RelV c u → u = cv) ∧ PySem.W.kitOne X.K (.ref D) cv = some b ∧ Q (.bl b) H) := by
  rintro pins s σ H xs us Q I r ⟨a, c, cv, b, rfl, hA, hcv, e, q⟩
  obtain ⟨oe, od, J, _⟩ := held_inst I hA
  rcases r with _ | ⟨rx, rr⟩
  rcases rr with _ | ⟨rt, rr⟩
  cases rr
  obtain rfl : _ = Value.ref a := rx
  obtain rfl := hcv _ rt
  exact PySem.W.kia_one (kitx_any (od := od) C) I.kIn J e (fun z => nomatch z)
    fun tk => ⟨.bl b, H, I.kept (t' := tk) fun _ _ z => z, rfl, q⟩
/-- what a class of errors must say, so that a field f of its objects is read rightly -/
structure ExcF (K : PySem.W.Frag) (D : Addr) (f : Str) : Prop where
  ga : PySem.W.findIn K (.ref D) "__getattribute__" = some (some (.builtin "BaseException.__getattribute__"))
  gg : PySem.W.findIn K (.ref D) "__getattr__" = some none
  ex : PySem.W.subIn K (.ref D) (.type "BaseException") = some true
  hd : PySem.W.hasDictIn K D = true
  no : PySem.W.findIn K (.ref D) f = some none
/-- e.f, e an error that is held -/
def tHeld (D : Addr) (f : Str) (te : TE) : TE := fun σ H Q => te σ H fun x H1 => ∃ (a : Addr) (l : List (Str × V)) (v : V), x = .ref a ∧ Held H1 a D (some l) ∧ l.lookup f = some v ∧ Q v H1
theorem pe_heldf {D : Addr} {e : Expr} {f : Str} {te : TE} {pos : Pos} (T : ExcF X.K D f) (he : PE X e te) (hb : attributeBase e f X.env (eval e X.env) = eval e X.env := by rfl) : PE X (.Attribute e f pos) (tHeld D f te) := by
  refine ⟨fun pins s σ H Q I h => ?_⟩
  refine attr_of hb (thn (he.run pins s σ H _ I h) fun u s1 hh => ?_)
  obtain ⟨x, H1, I1, rx, a, l, v, ex, hA, hv, q⟩ := hh
  subst ex
  obtain rfl : u = Value.ref a := rx
  obtain ⟨oe, od, J, hJ⟩ := held_inst I1 hA
  obtain ⟨o, mA, rfl, hr, hl⟩ := hJ l rfl
  obtain ⟨u, hu, ru⟩ := RelO.some_of (v := v) (o := mA f) (by rw [← hv]; exact hr f)
  exact PySem.HandSPX.exc_get I1.kIn J T.ga T.gg T.ex (PySem.W.findObj_own T.hd T.no rfl (by rw [hl, hu])) (handed_of ru) ⟨v, H1, I1.tok _, ru, q⟩
/-- {x}: a text, an int, a bool or None, as a text -/
inductive FmtAs : V → Str → Prop where
  | str (y : Str) (h : y.length ≤ sizeLine) : FmtAs (.str y) y
  | int (i : Int) (h : i.natAbs.log2 < 1920) : FmtAs (.int i) (toString i)
  | non : FmtAs .non "None"
  | bl (b : Bool) : FmtAs (.bl b) (if b then "True" else "False")
def tFmtA (te : TE) : TE := fun σ H Q => te σ H fun x H1 => ∃ y : Str, FmtAs x y ∧ Q (.str y) H1
theorem pe_fmtA {e : Expr} {te : TE} {pos : Pos} (he : PE X e te) : PE X (.FormattedValue e (-1) none pos) (tFmtA te) := by
  refine ⟨fun pins s σ H Q I h => ?_⟩
  refine wpAny_FormattedValue_plain (thn (he.run pins s σ H _ I h) fun v s1 hv => ?_)
  obtain ⟨x, H1, I1, r1, y, f, q⟩ := hv
  cases f with
  | str y hz =>
    obtain ⟨t, rfl⟩ := r1
    exact wpAny_formatField_str ⟨.str y, H1, I1, ⟨t, rfl⟩, q⟩ ⟨.str y, H1, I1.tok _, ⟨_, rfl⟩, q⟩ hz
  | int i hz =>
    obtain ⟨t, rfl⟩ := r1
    exact wpAny_formatField_int hz ⟨.str (toString i), H1, I1.tok _, ⟨_, rfl⟩, q⟩
  | non =>
    cases r1
    exact wpAny_formatField_none ⟨.str "None", H1, I1.tok _, ⟨_, rfl⟩, q⟩
  | bl b =>
    cases r1
    exact wpAny_formatField_bool ⟨.str (if b then "True" else "False"), H1, I1.tok _, ⟨_, rfl⟩, q⟩
end
end OH
namespace OH
open PySem PySem.Spec PyProof.Rows L2
/-! Making such an error. -/
def FmtV (v : V) : Prop := ∃ y, FmtAs v y ∧ y.length ≤ 100000
structure ErrF (P : Program) (K : PySem.W.Frag) (mg : Str → Option Value) (x f : Str) (C : Addr) : Prop where
  g : mg x = some (.ref C)
  s : SupC P K mg C
  i : ExcC K C
  no : PySem.W.findIn K (.ref C) f = some none
theorem ErrF.f {P : Program} {K : PySem.W.Frag} {mg : Str → Option Value} {x f : Str} {C : Addr} (T : ErrF P K mg x f C) : ExcF K C f := ⟨T.i.hg, T.i.hk, T.i.hs, T.i.hd, T.no⟩
/-- what __init__(self, v) with one field f does -/
def spErr1 (C : Addr) (f : Str) : Sp := fun vs H Q _ => ∃ (a : Addr) (v : V), vs = [.ref a, v] ∧ FmtV v ∧ H a = some (exo a C none) ∧
  ∀ dx, H dx = none → dx ≠ a → Q .non (upd (upd H dx (exd dx [(f, v)])) a (exo a C (some dx)))
section
variable {X : Cx} {C fI : Addr} {x f : Str} {e : Expr} {ta : TA} {p pos : Pos} {fd : FuncData}
/-- a reading whose end may be weakened -/
def tUp (ta : TA) : TA := fun σ H Q => ∃ R, ta σ H R ∧ ∀ vs H1, R vs H1 → Q vs H1
theorem pa_up {es : List Expr} (ha : PA X es ta) : PA X es (tUp ta) := ⟨fun pos pins s σ H Q I ⟨R, h, k⟩ => thn (ha.run pos pins s σ H R I h) fun us s1 ⟨vs, H1, I1, r, q⟩ => ⟨vs, H1, I1, r, k vs H1 q⟩⟩
def tMk1 (C : Addr) (f : Str) (ta : TA) : L2.St → Hp → XK → Prop := fun σ H Q => ta σ H fun vs H1 => ∃ v, vs = [v] ∧ FmtV v ∧ ∀ d, H1 d = none → Q (.ref C) (some d) (upd H1 d (.xd [(f, v)]))
theorem pmk_err1 (T : ErrF X.prog X.K X.mg x f C) (iC : PySem.W.findIn X.K (.ref C) "__init__" = some (some (.ref fI))) (tI : PySem.W.typeIn X.K (.ref fI) = some (.type "function"))
    (F1 : FnOk X.prog X.w X.K X.mg X.base CX0 1 fI fd ["self", f] (spErr1 C f)) (hr : Room 2 X.A) (hb : Binds X.K fd ["self", f] []) (hg : Gl X x) (ha : PA X [e] ta)
    (hdb : (x == ("__debug__" : Str)) = false := by decide) (he : starEach [e] X.env = (false, eval e X.env) :: starEach [] X.env := by rfl) (hpl : (backTo pos (starEach [] X.env)).any (·.1) = false := by rfl) :
    PMk X (.Call (.Name x p) [e] [] pos) (tMk1 C f ta) := by
  intro pins s σ H Q I h
  refine pmk_oex (pos := pos) T.s.toOexC iC tI F1 hr hb .nil pass0 hg T.g (pa_up ha) hdb he hpl pins s σ H Q I ⟨_, h, fun vs H1 hv => ?_⟩
  obtain ⟨v, rfl, fm, q⟩ := hv
  refine ⟨by show 1 ≤ 1000; omega, fun a na => ⟨a, v, rfl, fm, upd_same, fun dx n1 n2 => ⟨rfl, dx, [(f, v)], upd_same, (upd_ne n2).trans upd_same, ?_, ?_⟩⟩⟩
  · rw [upd_ne n2] at n1
    exact n1
  · have n0 : H1 dx = none := by
      rw [upd_ne n2] at n1
      exact n1
    have eh : upd (L2.del (upd (upd (upd H1 a (exo a C none)) dx (exd dx [(f, v)])) a (exo a C (some dx))) a) dx (.xd [(f, v)]) = upd H1 dx (.xd [(f, v)]) := by
      funext b
      by_cases h1 : b = dx
      · rw [h1, upd_same, upd_same]
      · rw [upd_ne h1, upd_ne h1]
        by_cases h2 : b = a
        · rw [h2, L2.del_same, na]
        · rw [L2.del_ne h2, upd_ne h2, upd_ne h1, upd_ne h2]
    have eh' : _ = _ := eh
    rw [eh']
    exact q dx n0
end
end OH
end
section
set_option Elab.async false
set_option linter.all false
set_option maxRecDepth 100000
set_option maxHeartbeats 8000000
/-! Errors with two fields; Unfit. -/
namespace OH
open PySem PySem.Spec PyProof.Rows L2
/-- what __init__(self, v, u) with two fields f, g does -/
def spErr2 (C : Addr) (f g : Str) : Sp := fun vs H Q _ => ∃ (a : Addr) (v u : V), vs = [.ref a, v, u] ∧ FmtV v ∧ FmtV u ∧ H a = some (exo a C none) ∧
  ∀ dx, H dx = none → dx ≠ a → Q .non (upd (upd (upd H dx (exd dx [(f, v)])) a (exo a C (some dx))) dx (exd dx [(g, u), (f, v)]))
section
variable {X : Cx} {C fI : Addr} {x f g : Str} {e1 e2 : Expr} {ta : TA} {p pos : Pos} {fd : FuncData}
def tMk2 (C : Addr) (f g : Str) (ta : TA) : L2.St → Hp → XK → Prop := fun σ H Q => ta σ H fun vs H1 => ∃ v u, vs = [v, u] ∧ FmtV v ∧ FmtV u ∧ ∀ d, H1 d = none → Q (.ref C) (some d) (upd H1 d (.xd [(g, u), (f, v)]))
theorem pmk_err2 (T : ErrF X.prog X.K X.mg x f C) (iC : PySem.W.findIn X.K (.ref C) "__init__" = some (some (.ref fI))) (tI : PySem.W.typeIn X.K (.ref fI) = some (.type "function"))
    (F1 : FnOk X.prog X.w X.K X.mg X.base CX0 1 fI fd ["self", f, g] (spErr2 C f g)) (hr : Room 2 X.A) (hb : Binds X.K fd ["self", f, g] []) (hg : Gl X x) (ha : PA X [e1, e2] ta)
    (hdb : (x == ("__debug__" : Str)) = false := by decide) (he : starEach [e1, e2] X.env = (false, eval e1 X.env) :: starEach [e2] X.env := by rfl) (hpl : (backTo pos (starEach [e2] X.env)).any (·.1) = false := by rfl) :
    PMk X (.Call (.Name x p) [e1, e2] [] pos) (tMk2 C f g ta) := by
  intro pins s σ H Q I h
  refine pmk_oex (pos := pos) T.s.toOexC iC tI F1 hr hb .nil pass0 hg T.g (pa_up ha) hdb he hpl pins s σ H Q I ⟨_, h, fun vs H1 hv => ?_⟩
  obtain ⟨v, u, rfl, fv, fu, q⟩ := hv
  refine ⟨by show 2 ≤ 1000; omega, fun a na => ⟨a, v, u, rfl, fv, fu, upd_same, fun dx n1 n2 => ⟨rfl, dx, [(g, u), (f, v)], (upd_ne n2.symm).trans upd_same, upd_same, ?_, ?_⟩⟩⟩
  · rw [upd_ne n2] at n1
    exact n1
  · have n0 : H1 dx = none := by
      rw [upd_ne n2] at n1
      exact n1
    have eh : upd (L2.del (upd (upd (upd (upd H1 a (exo a C none)) dx (exd dx [(f, v)])) a (exo a C (some dx))) dx (exd dx [(g, u), (f, v)])) a) dx (.xd [(g, u), (f, v)]) = upd H1 dx (.xd [(g, u), (f, v)]) := by
      funext b
      by_cases h1 : b = dx
      · rw [h1, upd_same, upd_same]
      · rw [upd_ne h1, upd_ne h1]
        by_cases h2 : b = a
        · rw [h2, L2.del_same, na]
        · rw [L2.del_ne h2, upd_ne h1, upd_ne h2, upd_ne h1, upd_ne h2]
    have eh' : _ = _ := eh
    rw [eh']
    exact q dx n0
end
section
variable {P : Program} {w : World} {K : PySem.W.Frag} {mg : Str → Option Value} {base : Heap}
theorem scUnfit : ScopeS ["self", "room", "at"] ["self", "room", "at"] (defScope s_Unfit___init__) := ⟨rfl, rfl, rfl, by decide +kernel, rfl, by decide +kernel, by decide +kernel, by decide +kernel, rfl, rfl⟩
theorem ok_Unfit_init {f C cc : Addr} {fd : FuncData} (F : FunS P K "__init__" "Unfit.__init__" s_Unfit___init__ f fd C cc) (T : ErrF P K mg "Unfit" "room" C) (nA : PySem.W.findIn K (.ref C) "at" = some none) :
    FnOk P w K mg base CX0 1 f fd ["self", "room", "at"] (spErr2 C "room" "at") := by
  refine F.ok (k := 0) (pl := fun _ => pure false) T.s scUnfit rfl rfl rfl (fun vs H Q E h => ?_) (fun _ => rfl) (fun _ => rfl) (fun _ _ => rfl) (fun _ _ => rfl) (fun cdv A outer s H vs Q E hr h => ?_)
  · obtain ⟨a, v, u, rfl, _⟩ := h
    rfl
  · obtain ⟨a, v, u, rfl, fv, fu, ha, k⟩ := h
    refine ⟨a, _, _, rfl, ha, pa_cons (pe_joined (PJ.cons pe_str (PJ.cons (pe_fmtA (pv 2)) (PJ.cons pe_str (PJ.cons (pe_fmtA (pv 1)) (PJ.cons pe_str PJ.nil)))))) pa_nil, pss_cons (ps_ost (pv 0) (pv 1)) (pss_one (ps_ost (pv 0) (pv 2))), ?_⟩
    obtain ⟨y, hy, ly⟩ := fv
    obtain ⟨z, hz, lz⟩ := fu
    have l1 : ("the item " : Str).length = 9 := by decide +kernel
    have l2 : (" of the view of room " : Str).length = 21 := by decide +kernel
    have l3 : (" does not fit" : Str).length = 13 := by decide +kernel
    refine ⟨_, rfl, ?_, _, rfl, _, hz, _, rfl, ?_, _, rfl, ?_, _, rfl, _, hy, _, rfl, ?_, _, rfl, ?_, (by show 1 ≤ 1000; decide), ha, _, rfl, _, rfl, a, C, rfl, T.s.toOexC, T.no, .inl ⟨ha, fun dx n1 n2 => ?_⟩⟩
    · rw [Str.length_append, l1, sizeLine_eq]
      show 0 + 9 ≤ _
      omega
    · rw [Str.length_append, Str.length_append, l1, sizeLine_eq]
      show 0 + 9 + _ ≤ _
      omega
    · rw [Str.length_append, Str.length_append, Str.length_append, l1, l2, sizeLine_eq]
      show 0 + 9 + _ + 21 ≤ _
      omega
    · rw [Str.length_append, Str.length_append, Str.length_append, Str.length_append, l1, l2, sizeLine_eq]
      show 0 + 9 + _ + 21 + _ ≤ _
      omega
    · rw [Str.length_append, Str.length_append, Str.length_append, Str.length_append, Str.length_append, l1, l2, l3, sizeLine_eq]
      show 0 + 9 + _ + 21 + _ + 13 ≤ _
      omega
    · exact ⟨_, rfl, _, rfl, a, C, rfl, T.s.toOexC, nA, .inr ⟨dx, [("room", v)], upd_same, (upd_ne n2).trans upd_same, (by show 1 ≤ 900; decide), k dx n1 n2⟩⟩
end
end OH
end
section
set_option Elab.async false
set_option linter.all false
set_option maxRecDepth 100000
set_option maxHeartbeats 4000000
/-! Views while they are put together. -/
namespace OH
open PySem PySem.Spec PyProof.Rows L2
def natV (n : Nat) : V := .int (n : Int)
def jnf (F : Fc) (wt vl cl al jl : Addr) : List (Str × V) := [("depth", .int F.dep), ("wires", .ref wt), ("views", .ref vl), ("counts", .ref cl), ("asks", .ref al), ("joint", .ref jl)]
structure JnAt (CJ : Addr) (H : Hp) (F : Fc) (p d wt vl cl al jl : Addr) (J : Jn) : Prop where
  hp : H p = some (.ins CJ d (jnf F wt vl cl al jl))
  hc : H cl = some (.lst (J.cnt.map natV))
  ha : H al = some (.lst (J.asks.map natV))
  hj : RwAt H jl J.joint
/-- what stays as it is -/
structure JnC (K : PySem.W.Frag) (H : Hp) (F : Fc) (vs : List (List It)) (wt vl : Addr) : Prop where
  w : ∃ wps : List Addr, H wt = some (.tup (wps.map V.ref)) ∧ wps.length = F.R ∧ ∀ (i : Nat) (q : Addr), wps[i]? = some q → ∃ ps : List Addr, H q = some (.tup (ps.map V.ref)) ∧ PairsAt H ps (F.ws i)
  v : ∃ vps : List Addr, H vl = some (.lst (vps.map V.ref)) ∧ vps.length = F.R ∧ ∀ (r : Nat) (q : Addr), vps[r]? = some q → VwAt K H q (vat vs r)
  lv : vs.length = F.R
  le : ∀ r, (vat vs r).length ≤ 10000
  ok : F.Ok
structure JnX (K : PySem.W.Frag) (CJ : Addr) (H0 H : Hp) (F : Fc) (vs : List (List It)) (p d wt vl cl al jl : Addr) (J : Jn) : Prop where
  c : JnC K H0 F vs wt vl
  s : Same H0 H
  fc : H0 cl = none
  fa : H0 al = none
  fj : H0 jl = none
  nca : cl ≠ al
  ncj : cl ≠ jl
  naj : al ≠ jl
  at_ : JnAt CJ H F p d wt vl cl al jl J
  lc : J.cnt.length = F.R
  cb : ∀ r, cat_ J.cnt r ≤ (vat vs r).length
structure TxJ (K : PySem.W.Frag) (CJ : Addr) : Prop where
  cl : Cls K CJ
  n0 : NoAttr K CJ "depth"
  n1 : NoAttr K CJ "wires"
  n2 : NoAttr K CJ "views"
  n3 : NoAttr K CJ "counts"
  n4 : NoAttr K CJ "asks"
  n5 : NoAttr K CJ "joint"
def spJInit (CJ : Addr) : Sp := fun vs H Q _ => ∃ (p d a wt dt vl : Addr) (F : Fc) (xs : List V), vs = [.ref p, .ref a, .ref vl] ∧ H p = some (.ins CJ d []) ∧ H a = some (.tup [.int F.dep, .ref wt, .ref dt]) ∧ H vl = some (.lst xs) ∧ xs.length ≤ 1000 ∧
  ∀ cl al jl H', H cl = none → H al = none → H jl = none → cl ≠ al → cl ≠ jl → al ≠ jl → JnAt CJ H' F p d wt vl cl al jl ⟨List.replicate xs.length 0, [], []⟩ → Kept [p] H H' → Q .non H'
def spNext (K : PySem.W.Frag) (CJ : Addr) : Sp := fun vs' H Q _ => ∃ (H0 : Hp) (F : Fc) (vs : List (List It)) (p d wt vl cl al jl : Addr) (J : Jn) (r : Nat), vs' = [.ref p, .int (r : Int)] ∧ JnX K CJ H0 H F vs p d wt vl cl al jl J ∧ r < F.R ∧
  (nextI vs J.cnt r = none → Q .non H) ∧ ∀ it q, nextI vs J.cnt r = some it → SqT K H q it.vs → Q (.ref q) H
section
variable {P : Program} {w : World} {K : PySem.W.Frag} {mg : Str → Option Value} {base : Heap} {CJ : Addr}
theorem sc_Joining___init__ : FnScope ["self", "face", "views"] ["self", "face", "views"] (defScope s_Joining___init__) := ⟨rfl, rfl, rfl, by decide +kernel, rfl, by decide +kernel, by decide +kernel⟩
theorem ok_Joining___init__ {f : Addr} {fd : FuncData} (F : Fun K "__init__" "Joining.__init__" s_Joining___init__ f fd) (T : TxJ K CJ) (nLen : mg "len" = none) : FnOk P w K mg base CX0 1 f fd ["self", "face", "views"] (spJInit CJ) := by
  refine F.ok sc_Joining___init__ (fun vs H Q E h => ?_) (fun cdv A outer s H vs Q E hr h => ?_)
  · obtain ⟨p, d, a, wt, dt, vl, F, xs, rfl, _⟩ := h
    rfl
  · obtain ⟨p, d, a, wt, dt, vl, F, xs, rfl, hp, ha, hv, lx, k⟩ := h
    refine ⟨_, pss_cons (ps_fld (pv 0) (pe_ix ix_tup (pv 1) pe_int (fun _ _ => rfl)) rfl)
      (pss_cons (ps_fld (pv 0) (pe_ix ix_tup (pv 1) pe_int (fun _ _ => rfl)) rfl)
      (pss_cons (ps_fld (pv 0) (pv 2) rfl)
      (pss_cons (ps_fld (pv 0) (pe_op op_rep (pe_lst (pa_cons pe_int pa_nil)) (pe_callB call_len_seq (by rfl) nLen PySem.boot_len (pa_cons (pv 2) pa_nil))) rfl)
      (pss_cons (ps_fld (pv 0) (pe_lst pa_nil) rfl)
      (pss_one (ps_fld (pv 0) (pe_lst pa_nil) rfl)))))), ?_⟩
    refine ⟨_, rfl, a, _, 0, _, rfl, rfl, SqT.of ha, rfl, ?_⟩
    refine ⟨_, rfl, p, CJ, d, _, rfl, hp, T.cl, T.n0, (by show 0 < 1000; decide), ?_⟩
    have npa : a ≠ p := ne_of ha hp (fun z => nomatch z)
    have npv : vl ≠ p := ne_of hv hp (fun z => nomatch z)
    refine ⟨_, rfl, a, _, 1, _, rfl, rfl, SqT.of ((upd_ne npa).trans ha), rfl, ?_⟩
    refine ⟨_, rfl, p, CJ, d, _, rfl, upd_same, T.cl, T.n1, (by show 1 < 1000; decide), ?_⟩
    refine ⟨_, rfl, _, rfl, p, CJ, d, _, rfl, upd_same, T.cl, T.n2, (by show 2 < 1000; decide), ?_⟩
    have kp3 : Kept [p] H (upd (upd (upd H p (.ins CJ d [("depth", .int F.dep)])) p (.ins CJ d [("depth", .int F.dep), ("wires", .ref wt)])) p (.ins CJ d [("depth", .int F.dep), ("wires", .ref wt), ("views", .ref vl)])) := ((Kept.refl.upd (List.mem_singleton.mpr rfl)).upd (List.mem_singleton.mpr rfl)).upd (List.mem_singleton.mpr rfl)
    have hp3 : (upd (upd (upd H p (.ins CJ d [("depth", .int F.dep)])) p (.ins CJ d [("depth", .int F.dep), ("wires", .ref wt)])) p (.ins CJ d [("depth", .int F.dep), ("wires", .ref wt), ("views", .ref vl)])) p = some (.ins CJ d [("depth", .int F.dep), ("wires", .ref wt), ("views", .ref vl)]) := upd_same
    have hv3 : (upd (upd (upd H p (.ins CJ d [("depth", .int F.dep)])) p (.ins CJ d [("depth", .int F.dep), ("wires", .ref wt)])) p (.ins CJ d [("depth", .int F.dep), ("wires", .ref wt), ("views", .ref vl)])) vl = some (.lst xs) := (upd_ne npv).trans ((upd_ne npv).trans ((upd_ne npv).trans hv))
    have fr3 : ∀ q, (upd (upd (upd H p (.ins CJ d [("depth", .int F.dep)])) p (.ins CJ d [("depth", .int F.dep), ("wires", .ref wt)])) p (.ins CJ d [("depth", .int F.dep), ("wires", .ref wt), ("views", .ref vl)])) q = none → H q = none ∧ q ≠ p := fun q e => by
      have nq : q ≠ p := fun z => by
        rw [z, upd_same] at e
        cases e
      rw [upd_ne nq, upd_ne nq, upd_ne nq] at e
      exact ⟨e, nq⟩
    have f1 : putF "depth" (V.int F.dep) [] = ([(("depth" : Str), V.int F.dep)] : List (Str × V)) := rfl
    have f2 : putF "wires" (V.ref wt) ([(("depth" : Str), V.int F.dep)] : List (Str × V)) = ([(("depth" : Str), V.int F.dep), (("wires" : Str), V.ref wt)] : List (Str × V)) := rfl
    have f3 : putF "views" (V.ref vl) ([(("depth" : Str), V.int F.dep), (("wires" : Str), V.ref wt)] : List (Str × V)) = ([(("depth" : Str), V.int F.dep), (("wires" : Str), V.ref wt), (("views" : Str), V.ref vl)] : List (Str × V)) := rfl
    rw [f1, f2, f3]
    generalize (upd (upd (upd H p (.ins CJ d [("depth", .int F.dep)])) p (.ins CJ d [("depth", .int F.dep), ("wires", .ref wt)])) p (.ins CJ d [("depth", .int F.dep), ("wires", .ref wt), ("views", .ref vl)])) = H3 at kp3 hp3 hv3 fr3 ⊢
    refine ⟨(by show 1 ≤ sizeLine; decide), fun a1 na1 => ?_⟩
    have s1 := sadd (o := .lst [.int 0]) (Same.refl H3) na1
    have ha1 : upd H3 a1 (.lst [.int 0]) a1 = some (.lst [.int 0]) := upd_same
    generalize upd H3 a1 (.lst [.int 0]) = H4 at s1 ha1 ⊢
    refine ⟨_, rfl, vl, _, rfl, .inl (SqL.of (s1 _ _ hv3)), ?_⟩
    refine ⟨a1, (xs.length : Int), _, rfl, rfl, ha1, by omega, by omega, (by rw [Int.toNat_natCast, sizeLine_eq]; show 1 * _ ≤ _; omega), fun cl ncl => ?_⟩
    rw [Int.toNat_natCast, show (List.replicate xs.length ([.int 0] : List V)).flatten = (List.replicate xs.length 0).map natV by rw [List.flatten_replicate_singleton, List.map_replicate]; rfl]
    have s2 := sadd (o := .lst ((List.replicate xs.length 0).map natV)) s1 ncl
    have hcl : upd H4 cl (.lst ((List.replicate xs.length 0).map natV)) cl = some (.lst ((List.replicate xs.length 0).map natV)) := upd_same
    have ncl3 := s1.free ncl
    generalize upd H4 cl (.lst ((List.replicate xs.length 0).map natV)) = H5 at s2 hcl ⊢
    obtain ⟨fcl, pcl⟩ := fr3 cl ncl3
    refine ⟨_, rfl, p, CJ, d, _, rfl, s2 _ _ hp3, T.cl, T.n3, (by show 3 < 1000; decide), ?_⟩
    have g1 : putF "counts" (V.ref cl) ([(("depth" : Str), V.int F.dep), (("wires" : Str), V.ref wt), (("views" : Str), V.ref vl)] : List (Str × V)) = ([(("depth" : Str), V.int F.dep), (("wires" : Str), V.ref wt), (("views" : Str), V.ref vl), (("counts" : Str), V.ref cl)] : List (Str × V)) := rfl
    rw [g1]
    have kp5 : Kept [p] H H5 := fun q o e hq => s2 _ _ (kp3 q o e hq)
    have fr5 : ∀ q, H5 q = none → H q = none ∧ q ≠ p := fun q e => fr3 q (s2.free e)
    refine ⟨(by show 0 ≤ sizeLine; decide), fun al nal => ?_⟩
    have alp : al ≠ p := (ne_of_none upd_same nal).symm
    rw [upd_ne alp] at nal
    obtain ⟨fal, _⟩ := fr5 al nal
    have nca : cl ≠ al := ne_of_none hcl nal
    refine ⟨_, rfl, p, CJ, d, _, rfl, (upd_ne alp.symm).trans upd_same, T.cl, T.n4, (by show 4 < 1000; decide), ?_⟩
    have g2 : putF "asks" (V.ref al) ([(("depth" : Str), V.int F.dep), (("wires" : Str), V.ref wt), (("views" : Str), V.ref vl), (("counts" : Str), V.ref cl)] : List (Str × V)) = ([(("depth" : Str), V.int F.dep), (("wires" : Str), V.ref wt), (("views" : Str), V.ref vl), (("counts" : Str), V.ref cl), (("asks" : Str), V.ref al)] : List (Str × V)) := rfl
    rw [g2]
    refine ⟨(by show 0 ≤ sizeLine; decide), fun jl njl => ?_⟩
    have jlp : jl ≠ p := (ne_of_none upd_same njl).symm
    rw [upd_ne jlp] at njl
    have jla : jl ≠ al := (ne_of_none upd_same njl).symm
    rw [upd_ne jla, upd_ne jlp] at njl
    obtain ⟨fjl, _⟩ := fr5 jl njl
    have ncj : cl ≠ jl := ne_of_none hcl njl
    refine ⟨_, rfl, p, CJ, d, _, rfl, (upd_ne jlp.symm).trans upd_same, T.cl, T.n5, (by show 5 < 1000; decide), ?_⟩
    have g3 : putF "joint" (V.ref jl) ([(("depth" : Str), V.int F.dep), (("wires" : Str), V.ref wt), (("views" : Str), V.ref vl), (("counts" : Str), V.ref cl), (("asks" : Str), V.ref al)] : List (Str × V)) = ([(("depth" : Str), V.int F.dep), (("wires" : Str), V.ref wt), (("views" : Str), V.ref vl), (("counts" : Str), V.ref cl), (("asks" : Str), V.ref al), (("joint" : Str), V.ref jl)] : List (Str × V)) := rfl
    rw [g3]
    refine k cl al jl _ fcl fal fjl nca ncj jla.symm ⟨upd_same, ?_, ?_, ⟨[], ?_, .nil⟩⟩ ?_
    · rw [upd_ne pcl, upd_ne ncj, upd_ne pcl, upd_ne nca, upd_ne pcl]
      exact hcl
    · rw [upd_ne alp, upd_ne jla.symm, upd_ne alp]
      exact upd_same
    · rw [upd_ne jlp]
      exact upd_same
    · intro q o e hq
      have qp : q ≠ p := fun z => hq (List.mem_singleton.mpr z)
      have qa : q ≠ al := ne_of_none e fal
      have qj : q ≠ jl := ne_of_none e fjl
      rw [upd_ne qp, upd_ne qj, upd_ne qp, upd_ne qa, upd_ne qp]
      exact kp5 q o e hq
theorem sc_Joining_next_item : FnScope ["self", "room", "view"] ["self", "room"] (defScope s_Joining_next_item) := ⟨rfl, rfl, rfl, by decide +kernel, rfl, by decide +kernel, by decide +kernel⟩
theorem ok_Joining_next_item {f : Addr} {fd : FuncData} (F : Fun K "next_item" "Joining.next_item" s_Joining_next_item f fd) (T : TxJ K CJ) (nLen : mg "len" = none) : FnOk P w K mg base CX0 1 f fd ["self", "room"] (spNext K CJ) := by
  refine F.ok sc_Joining_next_item (fun vs H Q E h => ?_) (fun cdv A outer s H vs Q E hr h => ?_)
  · obtain ⟨H0, F, vs, p, d, wt, vl, cl, al, jl, J, r, rfl, _⟩ := h
    rfl
  · obtain ⟨H0, F, vs, p, d, wt, vl, cl, al, jl, J, r, rfl, Y, hr, k1, k2⟩ := h
    have nd := sc_Joining_next_item.nd
    refine ⟨_, pss_cons (ps_set (i := 2) nd rfl (Or.inl rfl) (pe_ix ix_list (pe_fld (pv 0) rfl) (pv 1) (fun _ _ => rfl)))
      (pss_one (ps_ret (pe_ifExp (pt_cmpR op_lt (pe_ix ix_list (pe_fld (pv 0) rfl) (pv 1) (fun _ _ => rfl)) (pe_callB call_len_seq (by rfl) nLen PySem.boot_len (pa_cons (pv 2) pa_nil)) (nomark _)) (pe_ix ix_list (pv 2) (pe_ix ix_list (pe_fld (pv 0) rfl) (pv 1) (fun _ _ => rfl)) (fun _ _ => rfl)) pe_non))), ?_⟩
    obtain ⟨vps, v1, v2, v3⟩ := Y.c.v
    obtain ⟨q, hq⟩ : ∃ q, vps[r]? = some q := ⟨_, List.getElem?_eq_getElem (by omega)⟩
    obtain ⟨ips, i1, i2⟩ := v3 r q hq
    have li := i2.len
    have hv := Y.s _ _ v1
    have hi := Y.s _ _ i1
    have q2 := i2.same Y.s
    have lc := Y.lc
    obtain ⟨m, hm⟩ : ∃ m, J.cnt[r]? = some m := ⟨_, List.getElem?_eq_getElem (by omega)⟩
    have em : cat_ J.cnt r = m := by unfold cat_; rw [List.getD_eq_getElem?_getD, hm]; rfl
    have a1 : atI (vps.map V.ref) (r : Int) = some (.ref q) := atI_nat (by rw [List.getElem?_map, hq]; rfl)
    have a2 : atI (J.cnt.map natV) (r : Int) = some (.int (m : Int)) := atI_nat (by rw [List.getElem?_map, hm]; rfl)
    refine ⟨_, rfl, p, CJ, d, _, _, rfl, Y.at_.hp, T.cl, T.n2, rfl, _, rfl, vl, _, (r : Int), .ref q, rfl, rfl, SqL.of hv, a1, ?_⟩
    refine ⟨_, rfl, p, CJ, d, _, _, rfl, Y.at_.hp, T.cl, T.n3, rfl, _, rfl, cl, _, (r : Int), .int (m : Int), rfl, rfl, SqL.of Y.at_.hc, a2, _, rfl, q, _, rfl, .inl (SqL.of hi), _, _, rfl, rfl, _, rfl, ?_⟩
    have lz : (ips.map V.ref).length = (vat vs r).length := by rw [List.length_map, li]
    refine ite2 (fun z => ?_) (fun z => ?_)
    · have z1 : m < (vat vs r).length := by
        have := of_decide_eq_true z
        omega
      obtain ⟨t, ht⟩ : ∃ t, ips[m]? = some t := ⟨_, List.getElem?_eq_getElem (by omega)⟩
      obtain ⟨it, hit, hq2⟩ := q2.get ht
      refine ⟨_, rfl, _, rfl, p, CJ, d, _, _, rfl, Y.at_.hp, T.cl, T.n3, rfl, _, rfl, cl, _, (r : Int), .int (m : Int), rfl, rfl, SqL.of Y.at_.hc, a2, q, _, (m : Int), .ref t, rfl, rfl, SqL.of hi, atI_nat (by rw [List.getElem?_map, ht]; rfl), ?_⟩
      refine k2 it t ?_ hq2
      unfold nextI
      rw [em]
      exact hit
    · have z1 : ¬ m < (vat vs r).length := fun y => z (decide_eq_true (by omega))
      refine k1 ?_
      unfold nextI
      rw [em]
      exact List.getElem?_eq_none (by omega)
end
end OH
end
section
set_option Elab.async false
set_option linter.all false
set_option maxRecDepth 100000
set_option maxHeartbeats 4000000
/-! An item that must come. -/
namespace OH
open PySem PySem.Spec PyProof.Rows L2
theorem get_listN {X : Cx} : PGet X (fun x y H Q => ∃ (p : Addr) (xs : List V) (i : Nat) (v : V), x = .ref p ∧ y = .int (i : Int) ∧ SqL X.K H p xs ∧ xs[i]? = some v ∧ Q v H) := by
  intro pins s σ H o i ov iv Q I ro ri h
  obtain ⟨p, xs, i, z, rfl, rfl, hq, he, q⟩ := h
  cases ro
  obtain ⟨t, rfl⟩ := ri
  obtain ⟨its, r, pl, hz⟩ := I.list hq
  obtain ⟨w, ew, rw'⟩ := r.get he
  have hn := line63
  have hl := r.length
  have hi := (List.getElem?_eq_some_iff.mp he).1
  exact wpAny_getItem_list pl.isList (Int.natCast_nonneg i) (by omega) (by rw [Int.toNat_natCast]; simpa using ew) ⟨z, H, I, rw', q⟩
theorem fmtNat {k : Nat} (hk : k ≤ 80001) : FmtV (.int (k : Int)) := ⟨toString (k : Int), .int _ (by
  have : (k : Int).natAbs = k := Int.natAbs_natCast k
  rw [this]
  have h2 : k.log2 ≤ k := Nat.log2_le_self k
  have h3 : k < 2 ^ 17 := by omega
  by_cases hk0 : k = 0
  · rw [hk0]
    decide
  · have := (Nat.log2_lt hk0).mpr h3
    omega), Nat.le_trans (PyProof.Rows.toString_length_le (k := 10) (Int.natCast_nonneg k) (by decide) (by omega)) (by omega)⟩
def unf (r a : Nat) : HO := .xd [("at", .int (a : Int)), ("room", .int (r : Int))]
theorem cnt_set (J : Jn) (r : Nat) : (J.cnt.map natV).set r (.int ((cat_ J.cnt r : Int) + 1)) = (bump J.cnt r).map natV := by
  unfold bump
  rw [List.map_set]
  rfl
/-- a count goes on -/
theorem JnX.bump_ {K : PySem.W.Frag} {CJ : Addr} {H0 H : Hp} {F : Fc} {vs : List (List It)} {p d wt vl cl al jl : Addr} {J : Jn} (Y : JnX K CJ H0 H F vs p d wt vl cl al jl J) {r : Nat} (hr : r < F.R) {it : It} (hn : nextI vs J.cnt r = some it) :
    JnX K CJ H0 (upd H cl (.lst ((bump J.cnt r).map natV))) F vs p d wt vl cl al jl ⟨bump J.cnt r, J.asks, J.joint⟩ := by
  have pc : p ≠ cl := ne_of Y.at_.hp Y.at_.hc (fun z => nomatch z)
  obtain ⟨jps, j1, j2⟩ := Y.at_.hj
  have lt : cat_ J.cnt r < (vat vs r).length := by
    unfold nextI at hn
    exact (List.getElem?_eq_some_iff.mp hn).1
  refine ⟨Y.c, sout Y.s Y.fc, Y.fc, Y.fa, Y.fj, Y.nca, Y.ncj, Y.naj, ⟨(upd_ne pc).trans Y.at_.hp, upd_same, (upd_ne Y.nca.symm).trans Y.at_.ha, jps, (upd_ne Y.ncj.symm).trans j1, j2.mono fun q xs e => (upd_ne (ne_of e Y.at_.hc (fun z => nomatch z))).trans e⟩, by rw [len_bump]; exact Y.lc, fun j => ?_⟩
  rw [cat_bump (by rw [Y.lc]; exact hr)]
  split
  · next e => subst e; exact lt
  · exact Y.cb j
def spNeedI (K : PySem.W.Frag) (CJ C : Addr) : Sp := fun vs' H Q E => ∃ (H0 : Hp) (F : Fc) (vs : List (List It)) (p d wt vl cl al jl : Addr) (J : Jn) (r : Nat) (it : It) (t : Addr), vs' = [.ref p, .int (r : Int), .ref t] ∧ JnX K CJ H0 H F vs p d wt vl cl al jl J ∧ r < F.R ∧ SqT K H t it.vs ∧
  (nextI vs J.cnt r = some it → JnX K CJ H0 (upd H cl (.lst ((bump J.cnt r).map natV))) F vs p d wt vl cl al jl ⟨bump J.cnt r, J.asks, J.joint⟩ → Q .non (upd H cl (.lst ((bump J.cnt r).map natV)))) ∧
  (nextI vs J.cnt r ≠ some it → ∀ e, H e = none → E (.ref C) (some e) (upd H e (unf r (cat_ J.cnt r))))
section
variable {P : Program} {w : World} {K : PySem.W.Frag} {mg : Str → Option Value} {base : Heap} {CJ C fI : Addr} {fdI : FuncData}
theorem sc_Joining_need_item : FnScope ["self", "room", "item"] ["self", "room", "item"] (defScope s_Joining_need_item) := ⟨rfl, rfl, rfl, by decide +kernel, rfl, by decide +kernel, by decide +kernel⟩
theorem ok_Joining_need_item {f : Addr} {fd : FuncData} (F : Fun K "need_item" "Joining.need_item" s_Joining_need_item f fd) (T : TxJ K CJ)
    (TE : ErrF P K mg "Unfit" "room" C) (iC : PySem.W.findIn K (.ref C) "__init__" = some (some (.ref fI))) (tI : PySem.W.typeIn K (.ref fI) = some (.type "function"))
    (FI : FnOk P w K mg base CX0 1 fI fdI ["self", "room", "at"] (spErr2 C "room" "at")) (bI : Binds K fdI ["self", "room", "at"] [])
    (DX : MetF P w K mg base CX0 2 CJ "next_item" ["self", "room"] (spNext K CJ)) : FnOk P w K mg base (L2.CX P w) 3 f fd ["self", "room", "item"] (spNeedI K CJ C) := by
  refine F.okX sc_Joining_need_item (fun vs H Q E h => ?_) (fun cdv A outer s H vs Q E hr h => ?_)
  · obtain ⟨H0, F, vs, p, d, wt, vl, cl, al, jl, J, r, it, t, rfl, _⟩ := h
    rfl
  · obtain ⟨H0, F, vs, p, d, wt, vl, cl, al, jl, J, r, it, t, rfl, Y, hR, ht, k1, k2⟩ := h
    have nd := sc_Joining_need_item.nd
    have hr2 : Room 2 _ := hr.mono (by decide)
    have hr : Room 2 _ := hr2
    refine ⟨_, pss_cons (ps_if (pt_cmpR (op_neD hr.units) (pe_mD (pv 0) T.cl DX hr pass0 (pa_cons (pv 1) pa_nil)) (pv 2) (nomark _)) (pss_one (ps_raise rfl (takes_of rfl rfl rfl rfl) (pmk_err2 TE iC tI FI hr2 bI (by rfl) (pa_cons (pv 1) (pa_cons (pe_ix ix_list (pe_fld (pv 0) rfl) (pv 1) (fun _ _ => rfl)) pa_nil))))) pss_nil)
      (pss_one (ps_augS (pe_fld (pv 0) rfl) (pv 1) get_listN pe_int ip_add set_list)), ?_⟩
    have lc := Y.lc
    have cb := Y.cb r
    have le := Y.c.le r
    have m6 := Y.c.ok.m6
    obtain ⟨m, hm⟩ : ∃ m, J.cnt[r]? = some m := ⟨_, List.getElem?_eq_getElem (by omega)⟩
    have em : cat_ J.cnt r = m := by unfold cat_; rw [List.getD_eq_getElem?_getD, hm]; rfl
    have hm2 : (J.cnt.map natV)[r]? = some (.int (m : Int)) := by rw [List.getElem?_map, hm]; rfl
    have a2 : atI (J.cnt.map natV) (r : Int) = some (.int (m : Int)) := atI_nat hm2
    refine ⟨_, rfl, p, d, _, rfl, Y.at_.hp, rfl, _, rfl, H0, F, vs, p, d, wt, vl, cl, al, jl, J, r, rfl, Y, hR, fun hn => ?_, fun i2 q hn hq => ?_⟩
    · refine ⟨_, rfl, .none, it.d, .non, It.dp ht, rfl, shaped_it _, _, rfl, iteT ?_⟩
      refine ⟨_, rfl, _, rfl, p, CJ, d, _, _, rfl, Y.at_.hp, T.cl, T.n3, rfl, _, rfl, cl, _, (r : Int), .int (m : Int), rfl, rfl, SqL.of Y.at_.hc, a2, .int (r : Int), .int (m : Int), rfl, fmtNat (by omega), fmtNat (by omega), fun e ne => ?_⟩
      have k3 := k2 (by rw [hn]; exact fun z => nomatch z) e ne
      rw [em] at k3
      exact k3
    · refine ⟨_, rfl, i2.d, it.d, It.dp hq, It.dp ht, shaped_it _, shaped_it _, ?_⟩
      rw [It.eqv]
      refine ⟨_, rfl, ?_⟩
      by_cases e0 : i2 = it
      · subst e0
        rw [decide_eq_true rfl]
        refine iteF ?_
        refine ⟨_, rfl, p, CJ, d, _, _, rfl, Y.at_.hp, T.cl, T.n3, rfl, _, rfl, cl, _, r, .int (m : Int), rfl, rfl, SqL.of Y.at_.hc, hm2, _, _, rfl, rfl, cl, _, (r : Int), r, rfl, rfl, Y.at_.hc, ?_, ?_⟩
        · unfold ixN
          rw [if_pos (Int.natCast_nonneg r), if_pos (by rw [List.length_map]; omega), Int.toNat_natCast]
        · rw [← em, cnt_set]
          exact k1 hn (Y.bump_ hR hn)
      · rw [decide_eq_false e0]
        refine iteT ?_
        refine ⟨_, rfl, _, rfl, p, CJ, d, _, _, rfl, Y.at_.hp, T.cl, T.n3, rfl, _, rfl, cl, _, (r : Int), .int (m : Int), rfl, rfl, SqL.of Y.at_.hc, a2, .int (r : Int), .int (m : Int), rfl, fmtNat (by omega), fmtNat (by omega), fun e ne => ?_⟩
        have k3 := k2 (by rw [hn]; exact fun z => e0 (Option.some.inj z)) e ne
        rw [em] at k3
        exact k3
end
end OH
end
section
set_option Elab.async false
set_option linter.all false
set_option maxRecDepth 100000
set_option maxHeartbeats 8000000
/-! An ask while views are put together. -/
namespace OH
open PySem PySem.Spec PyProof.Rows L2
def tMethX (C : Addr) (m : Str) (sp : Sp) (E : L2.St → XK) (ta : TE) (t : TA) : TE := fun σ H Q =>
  ta σ H fun x H1 => ∃ a dx fs, x = .ref a ∧ H1 a = some (.ins C dx fs) ∧ List.lookup m fs = none ∧ t σ H1 fun vs H2 => sp (.ref a :: vs) H2 Q (E σ)
section
variable {X : Cx} {CX : CXT} {k : Nat} {f C : Addr} {fd : FuncData} {ps : List Str} {sp : Sp} {E : L2.St → XK} {m : Str} {pos apos : Pos} {e o : Expr} {es : List Expr} {ta : TE} {t : TA}
theorem pe_methX {pl : Sem Bool} (he : PE X o ta) (c : Cls X.K C) (hm : Meth X.K C m f) (F : FnOk X.prog X.w X.K X.mg X.base CX k f fd ps sp) (hr : Room k X.A) (hb : Binds X.K fd ps []) (hx : ∀ σ, PassesAt CX X σ (E σ)) (ha : PA X (e :: es) t)
    (hst : starEach (e :: es) X.env = (false, eval e X.env) :: starEach es X.env := by rfl) (hpl : (backTo pos (starEach es X.env)).any (·.1) = false := by rfl)
    (ht : eval (.Call (.Attribute o m apos) (e :: es) [] pos) X.env = (do
      let ov ← eval o X.env
      standAt apos.atName
      let (f, first) ← holding [ov] (getMethod ov m pl)
      callWith pos f first (backTo pos (starEach (e :: es) X.env)) (backToKw pos (keywordEach [] X.env))) := by rfl) :
    PE X (.Call (.Attribute o m apos) (e :: es) [] pos) (tMethX C m sp E ta t) := by
  constructor
  intro pins s σ H Q I h
  refine PySem.W.methodCall_KW (pl := pl) (thn (he.run pins s σ H _ I h) ?_) ht
  rintro u s1 ⟨x, H1, I1, rx, a, dx, fs, rfl, ea, l, q⟩
  obtain rfl : u = Value.ref a := rx
  refine getmeth_ok I1 ea c hm l ?_
  refine PySem.W.callWith_K (first := [.ref a]) (h₀ := X.base) I1.ok.mod.kin hm.kp (thn (ha.run pos pins s1 σ H1 _ I1 q) ?_) hst hpl
  rintro us s2 ⟨vs, H2, I2, r, q2⟩
  exact ⟨I2.kIn, run_fnS (us := .ref a :: us) (vs := .ref a :: vs) F hr hb (hx σ) I2 (.cons rfl r) q2⟩
end
theorem JnX.same {K : PySem.W.Frag} {CJ : Addr} {H0 H H' : Hp} {F : Fc} {vs : List (List It)} {p d wt vl cl al jl : Addr} {J : Jn} (Y : JnX K CJ H0 H F vs p d wt vl cl al jl J) (s : Same H H') : JnX K CJ H0 H' F vs p d wt vl cl al jl J :=
  ⟨Y.c, Y.s.trans s, Y.fc, Y.fa, Y.fj, Y.nca, Y.ncj, Y.naj, ⟨s _ _ Y.at_.hp, s _ _ Y.at_.hc, s _ _ Y.at_.ha, Y.at_.hj.same s⟩, Y.lc, Y.cb⟩
theorem JnX.ask_ {K : PySem.W.Frag} {CJ : Addr} {H0 H : Hp} {F : Fc} {vs : List (List It)} {p d wt vl cl al jl : Addr} {J : Jn} (Y : JnX K CJ H0 H F vs p d wt vl cl al jl J) (as : List Nat) : JnX K CJ H0 (upd H al (.lst (as.map natV))) F vs p d wt vl cl al jl ⟨J.cnt, as, J.joint⟩ := by
  have pa : p ≠ al := ne_of Y.at_.hp Y.at_.ha (fun z => nomatch z)
  obtain ⟨jps, j1, j2⟩ := Y.at_.hj
  exact ⟨Y.c, sout Y.s Y.fa, Y.fc, Y.fa, Y.fj, Y.nca, Y.ncj, Y.naj, ⟨(upd_ne pa).trans Y.at_.hp, (upd_ne Y.nca).trans Y.at_.hc, upd_same, jps, (upd_ne Y.naj.symm).trans j1, j2.mono fun q xs e => (upd_ne (ne_of e Y.at_.ha (fun z => nomatch z))).trans e⟩, Y.lc, Y.cb⟩
theorem JnX.joi_ {K : PySem.W.Frag} {CJ : Addr} {H0 H : Hp} {F : Fc} {vs : List (List It)} {p d wt vl cl al jl : Addr} {J : Jn} (Y : JnX K CJ H0 H F vs p d wt vl cl al jl J) {t : Addr} {x : Crs} (ht : H t = some (.tup x.vs)) {jps : List Addr} (j1 : H jl = some (.lst (jps.map V.ref))) (j2 : AllAt H Crs.vs jps J.joint) :
    JnX K CJ H0 (upd H jl (.lst (jps.map V.ref ++ [.ref t]))) F vs p d wt vl cl al jl ⟨J.cnt, J.asks, J.joint ++ [x]⟩ := by
  have pj : p ≠ jl := ne_of Y.at_.hp j1 (fun z => nomatch z)
  have tn : ∀ q xs, H q = some (.tup xs) → upd H jl (.lst (jps.map V.ref ++ [.ref t])) q = some (.tup xs) := fun q xs e => (upd_ne (ne_of e j1 (fun z => nomatch z))).trans e
  exact ⟨Y.c, sout Y.s Y.fj, Y.fc, Y.fa, Y.fj, Y.nca, Y.ncj, Y.naj, ⟨(upd_ne pj).trans Y.at_.hp, (upd_ne Y.ncj).trans Y.at_.hc, (upd_ne Y.naj).trans Y.at_.ha, jps ++ [t], by rw [upd_same, List.map_append]; rfl, (j2.mono tn).app (tn _ _ ht)⟩, Y.lc, Y.cb⟩
def optN : Option Nat → V
  | none => .non
  | some n => .int (n : Int)
/-- new at new addresses, the three lists changed -/
structure JnN (J : Jn) (F : Fc) : Prop where
  la : J.asks.length ≤ 100000
  lj : J.joint.length ≤ 100000
  rg : ∀ k ∈ J.asks, k < F.R
def spJCall (K : PySem.W.Frag) (CJ C : Addr) : Sp := fun vs' H Q E => ∃ (H0 : Hp) (F : Fc) (vs : List (List It)) (p d wt vl cl al jl : Addr) (J : Jn) (r : Nat) (a dd n : Int) (t : Addr), vs' = [.ref p, .int (r : Int), .ref t] ∧ JnX K CJ H0 H F vs p d wt vl cl al jl J ∧ JnN J F ∧ r < F.R ∧ SqT K H t (It.calls a dd n).vs ∧ nextI vs J.cnt r = some (.calls a dd n) ∧
  (∀ c J', jact F vs J r = .ok c J' → ∀ H', JnX K CJ H0 H' F vs p d wt vl cl al jl J' → Q (optN c) H') ∧
  (∀ x y, jact F vs J r = .err x y → ∀ e H', Same H0 H' → H' e = none → E (.ref C) (some e) (upd H' e (unf x y)))
section
variable {P : Program} {w : World} {K : PySem.W.Frag} {mg : Str → Option Value} {base : Heap} {CJ C fI fN : Addr} {fdI fdN : FuncData}
abbrev nJc : List Str := ["self", "room", "act", "_", "to", "door", "number"]
theorem sc_Joining_join_call : FnScope nJc ["self", "room", "act"] (defScope s_Joining_join_call) := ⟨rfl, rfl, rfl, by decide +kernel, rfl, by decide +kernel, by decide +kernel⟩
theorem ok_Joining_join_call {f : Addr} {fd : FuncData} (F : Fun K "join_call" "Joining.join_call" s_Joining_join_call f fd) (T : TxJ K CJ) (nLen : mg "len" = none)
    (TE : ErrF P K mg "Unfit" "room" C) (iC : PySem.W.findIn K (.ref C) "__init__" = some (some (.ref fI))) (tI : PySem.W.typeIn K (.ref fI) = some (.type "function"))
    (FI : FnOk P w K mg base CX0 1 fI fdI ["self", "room", "at"] (spErr2 C "room" "at")) (bI : Binds K fdI ["self", "room", "at"] [])
    (MN : Meth K CJ "need_item" fN) (FN : FnOk P w K mg base (L2.CX P w) 3 fN fdN ["self", "room", "item"] (spNeedI K CJ C)) (bN : Binds K fdN ["self", "room", "item"] []) : FnOk P w K mg base (L2.CX P w) 4 f fd ["self", "room", "act"] (spJCall K CJ C) := by
  refine F.okX sc_Joining_join_call (fun vs H Q E h => ?_) (fun cdv A outer s H vs Q E hr h => ?_)
  · obtain ⟨H0, F, vs, p, d, wt, vl, cl, al, jl, J, r, a, dd, n, t, rfl, _⟩ := h
    rfl
  · obtain ⟨H0, F, vs, p, d, wt, vl, cl, al, jl, J, r, a, dd, n, t, rfl, Y, YN, hR, ht, hnx, k1, k2⟩ := h
    have nd := sc_Joining_join_call.nd
    have hr2 : Room 2 _ := hr.mono (by decide)
    have hr3 : Room 3 _ := hr
    refine ⟨_, pss_cons (ps_asg (pv 2) (pg_tup (by rfl) (pgs_cons (pg_name (i := 3) nd rfl (Or.inl rfl)) (pgs_cons (pg_name (i := 4) nd rfl (Or.inl rfl)) (pgs_cons (pg_name (i := 5) nd rfl (Or.inl rfl)) (pgs_cons (pg_name (i := 6) nd rfl (Or.inl rfl)) pgs_nil))))))
      (pss_cons (ps_if (pt_cmpR (op_notInDT (Room_u65 hr)) (pe_tup (pa_cons (pv 4) (pa_cons (pv 5) pa_nil))) (pe_ix ix_tup (pe_fld (pv 0) rfl) (pv 1) (fun _ _ => rfl)) (by rfl)) (pss_one (ps_raise rfl (takes_of rfl rfl rfl rfl) (pmk_err2 TE iC tI FI hr2 bI (by rfl) (pa_cons (pv 1) (pa_cons (pe_ix ix_list (pe_fld (pv 0) rfl) (pv 1) (fun _ _ => rfl)) pa_nil))))) pss_nil)
      (pss_cons (ps_augS (pe_fld (pv 0) rfl) (pv 1) get_listN pe_int ip_add set_list)
      (pss_cons (ps_if (pt_cmpR op_eq (pe_callB call_len_seq (by rfl) nLen PySem.boot_len (pa_cons (pe_fld (pv 0) rfl) pa_nil)) (pe_fld (pv 0) rfl) (nomark _)) (pss_cons (ps_expr (pe_bm PySem.F.plainAttrs_list PySem.F.slot_list_append PySem.F.type_list_append mt_append (pe_fld (pv 0) rfl) (pa_cons (pe_tup (pa_cons pe_str (pa_cons (pv 1) (pa_cons (pv 4) (pa_cons (pv 5) (pa_cons (pv 6) pa_nil)))))) pa_nil)))
      (pss_one (ps_ret pe_non))) pss_nil)
      (pss_cons (ps_expr (pe_methX (pv 0) T.cl MN FN hr3 bN (fun σ => passAt (takes_of rfl rfl rfl rfl) σ) (pa_cons (pv 4) (pa_cons (pe_tup (pa_cons pe_str (pa_cons (pv 5) (pa_cons (pv 6) pa_nil)))) pa_nil))))
      (pss_cons (ps_expr (pe_bm PySem.F.plainAttrs_list PySem.F.slot_list_append PySem.F.type_list_append mt_append (pe_fld (pv 0) rfl) (pa_cons (pv 1) pa_nil)))
      (pss_cons (ps_expr (pe_bm PySem.F.plainAttrs_list PySem.F.slot_list_append PySem.F.type_list_append mt_append (pe_fld (pv 0) rfl) (pa_cons (pe_tup (pa_cons pe_str (pa_cons (pv 1) (pa_cons (pv 4) (pa_cons (pv 5) (pa_cons (pv 6) pa_nil)))))) pa_nil)))
      (pss_one (ps_ret (pv 4))))))))), ?_⟩
    have hF := Y.c.ok
    have lc := Y.lc
    have cb := Y.cb r
    have le := Y.c.le r
    have m6 := hF.m6
    obtain ⟨m, hm⟩ : ∃ m, J.cnt[r]? = some m := ⟨_, List.getElem?_eq_getElem (by omega)⟩
    have em : cat_ J.cnt r = m := by unfold cat_; rw [List.getD_eq_getElem?_getD, hm]; rfl
    have hm2 : (J.cnt.map natV)[r]? = some (.int (m : Int)) := by rw [List.getElem?_map, hm]; rfl
    have a2 : atI (J.cnt.map natV) (r : Int) = some (.int (m : Int)) := atI_nat hm2
    obtain ⟨wps, w1, w2, w3⟩ := Y.c.w
    obtain ⟨wp, hwp⟩ : ∃ wp, wps[r]? = some wp := ⟨_, List.getElem?_eq_getElem (by omega)⟩
    obtain ⟨pps, pp1, pp2⟩ := w3 _ _ hwp
    have aw : atI (wps.map V.ref) (r : Int) = some (.ref wp) := atI_nat (by rw [List.getElem?_map, hwp]; rfl)
    refine ⟨_, rfl, t, _, rfl, ht, rfl, _, _, rfl, _, _, rfl, _, _, rfl, _, _, rfl, rfl, ?_⟩
    refine ⟨_, rfl, _, rfl, (by show 2 ≤ sizeLine; decide), fun x nx => ?_⟩
    have s1 := sadd (o := .tup [.int a, .int dd]) (Same.refl H) nx
    have hx : upd H x (.tup [.int a, .int dd]) x = some (.tup [.int a, .int dd]) := upd_same
    generalize upd H x (.tup [.int a, .int dd]) = H1 at s1 hx ⊢
    have Y1 := Y.same s1
    refine ⟨_, rfl, p, CJ, d, _, _, rfl, Y1.at_.hp, T.cl, T.n1, rfl, _, rfl, wt, _, (r : Int), .ref wp, rfl, rfl, SqT.of (Y1.s _ _ w1), aw, ?_⟩
    refine ⟨pairD (a, dd), _, .tup (SqT.of hx) (.cons (.int _) (.cons (.int _) .nil)), .tup (SqT.of (Y1.s _ _ pp1)) ((pp2.mono fun q xs e => Y1.s _ _ e).dp), shaped_pair _ _, shaped_pairs _, ?_⟩
    rw [any_pair]
    by_cases hw : (a, dd) ∈ F.ws r
    · rw [decide_eq_true hw]
      refine ⟨_, rfl, iteF ?_⟩
      have Y2 := Y1.bump_ hR hnx
      refine ⟨_, rfl, p, CJ, d, _, _, rfl, Y1.at_.hp, T.cl, T.n3, rfl, _, rfl, cl, _, r, .int (m : Int), rfl, rfl, SqL.of Y1.at_.hc, hm2, _, _, rfl, rfl, cl, _, (r : Int), r, rfl, rfl, Y1.at_.hc, ?_, ?_⟩
      · unfold ixN
        rw [if_pos (Int.natCast_nonneg r), if_pos (by rw [List.length_map]; omega), Int.toNat_natCast]
      rw [← em, cnt_set]
      generalize upd H1 cl (.lst ((bump J.cnt r).map natV)) = H2 at Y2 ⊢
      obtain ⟨w1', w2', w3', _⟩ := (hF.wi r hR).2.2 _ hw
      have b0 : 0 ≤ a := w1'
      have b1 : a < (F.R : Int) := w2'
      obtain ⟨b, rfl⟩ := Int.eq_ofNat_of_zero_le b0
      refine ⟨_, rfl, p, CJ, d, _, _, rfl, Y2.at_.hp, T.cl, T.n4, rfl, al, _, rfl, .inl (SqL.of Y2.at_.ha), _, rfl, p, CJ, d, _, _, rfl, Y2.at_.hp, T.cl, T.n0, rfl, rfl, _, rfl, ?_⟩
      have la : (J.asks.map natV).length = J.asks.length := List.length_map ..
      refine ite2 (fun z => ?_) (fun z => ?_)
      · have hl : (J.asks.length : Int) = F.dep := by
          have z1 := V.int.inj (of_decide_eq_true z)
          rwa [la] at z1
        obtain ⟨jps, j1, j2⟩ := Y2.at_.hj
        have lj : jps.length = J.joint.length := j2.len
        have lj2 := YN.lj
        refine ⟨_, rfl, p, CJ, d, _, _, rfl, Y2.at_.hp, T.cl, T.n5, rfl, .inl ⟨rfl, _, SqL.of j1⟩, ?_⟩
        refine ⟨_, rfl, _, rfl, _, rfl, _, rfl, (by show 5 ≤ sizeLine; decide), fun u nu => ?_⟩
        have s3 := sadd (o := .tup [.str "deep", .int (r : Int), .int (b : Int), .int dd, .int n]) (Same.refl H2) nu
        have hu : upd H2 u (.tup [.str "deep", .int (r : Int), .int (b : Int), .int dd, .int n]) u = some (.tup (Crs.deep (r : Int) (b : Int) dd n).vs) := upd_same
        generalize upd H2 u (.tup [.str "deep", .int (r : Int), .int (b : Int), .int dd, .int n]) = H3 at s3 hu ⊢
        have Y3 := Y2.same s3
        have j3 := s3 _ _ j1
        refine ⟨jl, _, _, rfl, rfl, j3, (by rw [List.length_map, lj, sizeLine_eq]; omega), ?_⟩
        exact k1 none _ (by unfold jact; rw [hnx]; dsimp only; rw [if_pos hw, if_pos hl]) _ (Y3.joi_ (x := .deep (r : Int) (b : Int) dd n) hu j3 (j2.mono fun q xs e => s3 _ _ e))
      · have hl : ¬ (J.asks.length : Int) = F.dep := fun y => z (decide_eq_true (by rw [la, y]))
        refine ⟨_, rfl, p, d, _, rfl, Y2.at_.hp, rfl, _, rfl, _, rfl, _, rfl, (by show 3 ≤ sizeLine; decide), fun u nu => ?_⟩
        have s3 := sadd (o := .tup [.str "in", .int dd, .int n]) (Same.refl H2) nu
        have hu : upd H2 u (.tup [.str "in", .int dd, .int n]) u = some (.tup (It.inn dd n).vs) := upd_same
        generalize upd H2 u (.tup [.str "in", .int dd, .int n]) = H3 at s3 hu ⊢
        have Y3 := Y2.same s3
        refine ⟨H0, F, vs, p, d, wt, vl, cl, al, jl, _, b, .inn dd n, u, rfl, Y3, by omega, SqT.of hu, fun hb Y4 => ?_, fun hb e ne => ?_⟩
        · generalize upd H3 cl (.lst ((bump (bump J.cnt r) b).map natV)) = H4 at Y4 ⊢
          have lb := YN.la
          refine ⟨_, rfl, p, CJ, d, _, _, rfl, Y4.at_.hp, T.cl, T.n4, rfl, .inl ⟨rfl, _, SqL.of Y4.at_.ha⟩, _, rfl, al, _, _, rfl, rfl, Y4.at_.ha, (by rw [List.length_map, sizeLine_eq]; show J.asks.length < _; omega), ?_⟩
          rw [show (J.asks.map natV ++ [V.int (r : Int)]) = (J.asks ++ [r]).map natV by rw [List.map_append]; rfl]
          have Y5 := Y4.ask_ (J.asks ++ [r])
          generalize upd H4 al (.lst ((J.asks ++ [r]).map natV)) = H5 at Y5 ⊢
          obtain ⟨jps, j1, j2⟩ := Y5.at_.hj
          have lj : jps.length = J.joint.length := j2.len
          have lj2 := YN.lj
          refine ⟨_, rfl, p, CJ, d, _, _, rfl, Y5.at_.hp, T.cl, T.n5, rfl, .inl ⟨rfl, _, SqL.of j1⟩, ?_⟩
          refine ⟨_, rfl, _, rfl, _, rfl, _, rfl, (by show 5 ≤ sizeLine; decide), fun y ny => ?_⟩
          have s6 := sadd (o := .tup [.str "call", .int (r : Int), .int (b : Int), .int dd, .int n]) (Same.refl H5) ny
          have hy : upd H5 y (.tup [.str "call", .int (r : Int), .int (b : Int), .int dd, .int n]) y = some (.tup (Crs.call (r : Int) (b : Int) dd n).vs) := upd_same
          generalize upd H5 y (.tup [.str "call", .int (r : Int), .int (b : Int), .int dd, .int n]) = H6 at s6 hy ⊢
          have Y6 := Y5.same s6
          have j3 := s6 _ _ j1
          refine ⟨jl, _, _, rfl, rfl, j3, (by rw [List.length_map, lj, sizeLine_eq]; omega), ?_⟩
          exact ⟨_, rfl, k1 (some b) _ (by unfold jact; rw [hnx]; dsimp only; rw [if_pos hw, if_neg hl, if_pos (show nextI vs (bump J.cnt r) (Int.toNat (b : Int)) = _ from hb)]; rfl) _ (Y6.joi_ (x := .call (r : Int) (b : Int) dd n) hy j3 (j2.mono fun q xs e => s6 _ _ e))⟩
        · exact k2 b (cat_ (bump J.cnt r) b) (by unfold jact; rw [hnx]; dsimp only; rw [if_pos hw, if_neg hl, if_neg (show ¬ nextI vs (bump J.cnt r) (Int.toNat (b : Int)) = _ from hb)]; rfl) e H3 Y3.s ne
    · rw [decide_eq_false hw]
      refine ⟨_, rfl, iteT ?_⟩
      refine ⟨_, rfl, _, rfl, p, CJ, d, _, _, rfl, Y1.at_.hp, T.cl, T.n3, rfl, _, rfl, cl, _, (r : Int), .int (m : Int), rfl, rfl, SqL.of Y1.at_.hc, a2, .int (r : Int), .int (m : Int), rfl, fmtNat (by omega), fmtNat (by omega), fun e ne => ?_⟩
      have k3 := k2 r (cat_ J.cnt r) (by unfold jact; rw [hnx]; dsimp only; rw [if_neg hw]) e H1 Y1.s ne
      rw [em] at k3
      exact k3
end
end OH
end
section
set_option Elab.async false
set_option linter.all false
set_option maxRecDepth 100000
set_option maxHeartbeats 8000000
/-! An act while views are put together. -/
namespace OH
open PySem PySem.Spec PyProof.Rows L2
def spJAct (K : PySem.W.Frag) (CJ C : Addr) : Sp := fun vs' H Q E => ∃ (H0 : Hp) (F : Fc) (vs : List (List It)) (p d wt vl cl al jl : Addr) (J : Jn) (r : Nat), vs' = [.ref p, .int (r : Int)] ∧ JnX K CJ H0 H F vs p d wt vl cl al jl J ∧ JnN J F ∧ r < F.R ∧
  (∀ c J', jact F vs J r = .ok c J' → ∀ H', JnX K CJ H0 H' F vs p d wt vl cl al jl J' → Q (optN c) H') ∧
  (∀ x y, jact F vs J r = .err x y → ∀ e H', Same H0 H' → H' e = none → E (.ref C) (some e) (upd H' e (unf x y)))
section
variable {P : Program} {w : World} {K : PySem.W.Frag} {mg : Str → Option Value} {base : Heap} {CJ C fC fN : Addr} {fdC fdN : FuncData}
abbrev nJa : List Str := ["self", "room", "act", "asker"]
theorem sc_Joining_join_act : FnScope nJa ["self", "room"] (defScope s_Joining_join_act) := ⟨rfl, rfl, rfl, by decide +kernel, rfl, by decide +kernel, by decide +kernel⟩
theorem ok_Joining_join_act {f : Addr} {fd : FuncData} (F : Fun K "join_act" "Joining.join_act" s_Joining_join_act f fd) (T : TxJ K CJ)
    (DX : MetF P w K mg base CX0 2 CJ "next_item" ["self", "room"] (spNext K CJ))
    (MC : Meth K CJ "join_call" fC) (FC : FnOk P w K mg base (L2.CX P w) 4 fC fdC ["self", "room", "act"] (spJCall K CJ C)) (bC : Binds K fdC ["self", "room", "act"] [])
    (MN : Meth K CJ "need_item" fN) (FN : FnOk P w K mg base (L2.CX P w) 3 fN fdN ["self", "room", "item"] (spNeedI K CJ C)) (bN : Binds K fdN ["self", "room", "item"] []) : FnOk P w K mg base (L2.CX P w) 5 f fd ["self", "room"] (spJAct K CJ C) := by
  refine F.okX sc_Joining_join_act (fun vs H Q E h => ?_) (fun cdv A outer s H vs Q E hr h => ?_)
  · obtain ⟨H0, F, vs, p, d, wt, vl, cl, al, jl, J, r, rfl, _⟩ := h
    rfl
  · obtain ⟨H0, F, vs, p, d, wt, vl, cl, al, jl, J, r, rfl, Y, YN, hR, k1, k2⟩ := h
    have nd := sc_Joining_join_act.nd
    have hr2 : Room 2 _ := hr.mono (by decide)
    have hr3 : Room 3 _ := hr.mono (by decide)
    have hr4 : Room 4 _ := hr
    refine ⟨_, pss_cons (ps_set (i := 2) nd rfl (Or.inl rfl) (pe_mD (pv 0) T.cl DX hr2 pass0 (pa_cons (pv 1) pa_nil)))
      (pss_cons (ps_if (pt_cmpR op_isN (pv 2) pe_non (nomark _)) (pss_one (ps_ret pe_non)) pss_nil)
      (pss_cons (ps_if (pt_cmpR op_eq (pe_ix ix_tup (pv 2) pe_int (fun _ _ => rfl)) pe_str (nomark _)) (pss_one (ps_ret (pe_methX (pv 0) T.cl MC FC hr4 bC (fun σ => passAt (takes_of rfl rfl rfl rfl) σ) (pa_cons (pv 1) (pa_cons (pv 2) pa_nil))))) pss_nil)
      (pss_cons (ps_augS (pe_fld (pv 0) rfl) (pv 1) get_listN pe_int ip_add set_list)
      (pss_cons (ps_if (pt_cmpR op_eq (pe_ix ix_tup (pv 2) pe_int (fun _ _ => rfl)) pe_str (nomark _)) (pss_cons (ps_expr (pe_bm PySem.F.plainAttrs_list PySem.F.slot_list_append PySem.F.type_list_append mt_append (pe_fld (pv 0) rfl) (pa_cons (pe_tup (pa_cons pe_str (pa_cons (pv 1) pa_nil))) pa_nil)))
      (pss_one (ps_ret pe_non))) pss_nil)
      (pss_cons (ps_if (pt_not (pt_truth (pe_fld (pv 0) rfl) (by intro _; rfl))) (pss_cons (ps_expr (pe_bm PySem.F.plainAttrs_list PySem.F.slot_list_append PySem.F.type_list_append mt_append (pe_fld (pv 0) rfl) (pa_cons (pe_tup (pa_cons pe_str (pa_cons (pe_ix ix_tup (pv 2) pe_int (fun _ _ => rfl)) pa_nil))) pa_nil)))
      (pss_one (ps_ret pe_non))) pss_nil)
      (pss_cons (ps_set (i := 3) nd rfl (Or.inl rfl) (pe_bm0 PySem.F.plainAttrs_list PySem.F.slot_list_pop PySem.F.type_list_pop mt_pop (pe_fld (pv 0) rfl)))
      (pss_cons (ps_expr (pe_methX (pv 0) T.cl MN FN hr3 bN (fun σ => passAt (takes_of rfl rfl rfl rfl) σ) (pa_cons (pv 3) (pa_cons (pe_tup (pa_cons pe_str (pa_cons (pe_ix ix_tup (pv 2) pe_int (fun _ _ => rfl)) pa_nil))) pa_nil))))
      (pss_cons (ps_expr (pe_bm PySem.F.plainAttrs_list PySem.F.slot_list_append PySem.F.type_list_append mt_append (pe_fld (pv 0) rfl) (pa_cons (pe_tup (pa_cons pe_str (pa_cons (pv 1) (pa_cons (pv 3) (pa_cons (pe_ix ix_tup (pv 2) pe_int (fun _ _ => rfl)) pa_nil))))) pa_nil)))
      (pss_one (ps_ret (pv 3))))))))))), ?_⟩
    have hF := Y.c.ok
    have lc := Y.lc
    have m6 := hF.m6
    obtain ⟨m, hm⟩ : ∃ m, J.cnt[r]? = some m := ⟨_, List.getElem?_eq_getElem (by omega)⟩
    have em : cat_ J.cnt r = m := by unfold cat_; rw [List.getD_eq_getElem?_getD, hm]; rfl
    have hm2 : (J.cnt.map natV)[r]? = some (.int (m : Int)) := by rw [List.getElem?_map, hm]; rfl
    refine ⟨_, rfl, p, d, _, rfl, Y.at_.hp, rfl, _, rfl, H0, F, vs, p, d, wt, vl, cl, al, jl, J, r, rfl, Y, hR, fun hn => ?_, fun it t hn ht => ?_⟩
    · refine ⟨_, rfl, rfl, _, rfl, iteT ?_⟩
      exact k1 none J (by unfold jact; rw [hn]) H Y
    · refine ⟨_, rfl, rfl, _, rfl, iteF ?_⟩
      have lb := YN.la
      have lb2 := YN.lj
      have ixr : ixN (J.cnt.map natV).length (r : Int) = some r := by
        unfold ixN
        rw [if_pos (Int.natCast_nonneg r), if_pos (by rw [List.length_map]; omega), Int.toNat_natCast]
      cases it with
      | calls a dd n =>
        refine ⟨_, rfl, t, _, 0, _, rfl, rfl, ht, rfl, rfl, _, rfl, iteT ?_⟩
        exact ⟨_, rfl, p, d, _, rfl, Y.at_.hp, rfl, _, rfl, _, rfl, H0, F, vs, p, d, wt, vl, cl, al, jl, J, r, a, dd, n, t, rfl, Y, YN, hR, ht, hn, k1, k2⟩
      | ends =>
        refine ⟨_, rfl, t, _, 0, _, rfl, rfl, ht, rfl, rfl, _, rfl, iteF ?_⟩
        refine ⟨_, rfl, p, CJ, d, _, _, rfl, Y.at_.hp, T.cl, T.n3, rfl, _, rfl, cl, _, r, .int (m : Int), rfl, rfl, SqL.of Y.at_.hc, hm2, _, _, rfl, rfl, cl, _, (r : Int), r, rfl, rfl, Y.at_.hc, ixr, ?_⟩
        rw [← em, cnt_set]
        have Y2 := Y.bump_ hR hn
        have ht2 := ht.upl (zs := (bump J.cnt r).map natV) Y.at_.hc
        generalize upd H cl (.lst ((bump J.cnt r).map natV)) = H2 at Y2 ht2 ⊢
        refine ⟨_, rfl, t, _, 0, _, rfl, rfl, ht2, rfl, rfl, _, rfl, iteT ?_⟩
        obtain ⟨jps, j1, j2⟩ := Y2.at_.hj
        have lj : jps.length = J.joint.length := j2.len
        refine ⟨_, rfl, p, CJ, d, _, _, rfl, Y2.at_.hp, T.cl, T.n5, rfl, .inl ⟨rfl, _, SqL.of j1⟩, ?_⟩
        refine ⟨_, rfl, (by show 2 ≤ sizeLine; decide), fun u nu => ?_⟩
        have s7 := sadd (o := .tup [.str "end", .int (r : Int)]) (Same.refl H2) nu
        have hu7 : upd H2 u (.tup [.str "end", .int (r : Int)]) u = some (.tup (Crs.fin (r : Int)).vs) := upd_same
        generalize upd H2 u (.tup [.str "end", .int (r : Int)]) = H7 at s7 hu7 ⊢
        have Y7 := Y2.same s7
        have j3 := s7 _ _ j1
        refine ⟨jl, _, _, rfl, rfl, j3, (by rw [List.length_map, lj, sizeLine_eq]; omega), ?_⟩
        exact k1 none _ (by unfold jact; rw [hn]) _ (Y7.joi_ (x := .fin (r : Int)) hu7 j3 (j2.mono fun q xs e => s7 _ _ e))
      | inn dn n =>
        refine ⟨_, rfl, t, _, 0, _, rfl, rfl, ht, rfl, rfl, _, rfl, iteF ?_⟩
        refine ⟨_, rfl, p, CJ, d, _, _, rfl, Y.at_.hp, T.cl, T.n3, rfl, _, rfl, cl, _, r, .int (m : Int), rfl, rfl, SqL.of Y.at_.hc, hm2, _, _, rfl, rfl, cl, _, (r : Int), r, rfl, rfl, Y.at_.hc, ixr, ?_⟩
        rw [← em, cnt_set]
        have Y2 := Y.bump_ hR hn
        have ht2 := ht.upl (zs := (bump J.cnt r).map natV) Y.at_.hc
        generalize upd H cl (.lst ((bump J.cnt r).map natV)) = H2 at Y2 ht2 ⊢
        refine ⟨_, rfl, t, _, 0, _, rfl, rfl, ht2, rfl, rfl, _, rfl, iteF ?_⟩
        refine ⟨_, rfl, p, CJ, d, _, _, rfl, Y2.at_.hp, T.cl, T.n4, rfl, _, .inl ⟨_, SqL.of Y2.at_.ha, rfl⟩, ?_⟩
        rcases List.eq_nil_or_concat J.asks with e | ⟨as, q, e⟩
        · have e1 : (!(J.asks.map natV).isEmpty) = false := by rw [e]; rfl
          have gl : J.asks.getLast? = none := by rw [e]; rfl
          rw [e1]
          refine iteT ?_
          obtain ⟨jps, j1, j2⟩ := Y2.at_.hj
          have lj : jps.length = J.joint.length := j2.len
          refine ⟨_, rfl, p, CJ, d, _, _, rfl, Y2.at_.hp, T.cl, T.n5, rfl, .inl ⟨rfl, _, SqL.of j1⟩, ?_⟩
          refine ⟨_, rfl, t, _, 1, _, rfl, rfl, ht2, rfl, (by show 2 ≤ sizeLine; decide), fun u nu => ?_⟩
          have s7 := sadd (o := .tup [.str "done", .int dn]) (Same.refl H2) nu
          have hu7 : upd H2 u (.tup [.str "done", .int dn]) u = some (.tup (Crs.done dn).vs) := upd_same
          generalize upd H2 u (.tup [.str "done", .int dn]) = H7 at s7 hu7 ⊢
          have Y7 := Y2.same s7
          have j3 := s7 _ _ j1
          refine ⟨jl, _, _, rfl, rfl, j3, (by rw [List.length_map, lj, sizeLine_eq]; omega), ?_⟩
          exact k1 none _ (by unfold jact; rw [hn]; dsimp only; rw [gl]; rfl) _ (Y7.joi_ (x := .done dn) hu7 j3 (j2.mono fun q xs e => s7 _ _ e))
        · rw [List.concat_eq_append] at e
          have e1 : (!(J.asks.map natV).isEmpty) = true := by rw [e, List.map_append]; cases as <;> rfl
          have gl : J.asks.getLast? = some q := by rw [e, List.getLast?_concat]
          have dl : J.asks.dropLast = as := by rw [e, List.dropLast_concat]
          have hq : q < F.R := YN.rg q (by rw [e]; exact List.mem_append_right _ (List.mem_singleton.mpr rfl))
          rw [e1]
          refine iteF ?_
          refine ⟨_, rfl, p, CJ, d, _, _, rfl, Y2.at_.hp, T.cl, T.n4, rfl, .inl ⟨rfl, _, SqL.of Y2.at_.ha⟩, al, _, .int (q : Int), rfl, rfl, Y2.at_.ha, ?_, ?_⟩
          · show (J.asks.map natV)[(J.asks.map natV).length - 1]? = _
            rw [← List.getLast?_eq_getElem?, List.getLast?_map, gl]
            rfl
          have e3 : (J.asks.map natV).dropLast = J.asks.dropLast.map natV := List.map_dropLast.symm
          show _
          have Y3 := Y2.ask_ J.asks.dropLast
          rw [← e3] at Y3
          have ht3 := ht2.upl (zs := (J.asks.map natV).dropLast) Y2.at_.ha
          generalize upd H2 al (.lst (J.asks.map natV).dropLast) = H3 at Y3 ht3 ⊢
          refine ⟨_, rfl, p, d, _, rfl, Y3.at_.hp, rfl, _, rfl, _, rfl, t, _, 1, _, rfl, rfl, ht3, rfl, (by show 2 ≤ sizeLine; decide), fun u nu => ?_⟩
          have s4 := sadd (o := .tup [.str "got", .int dn]) (Same.refl H3) nu
          have hu : upd H3 u (.tup [.str "got", .int dn]) u = some (.tup (It.got dn).vs) := upd_same
          generalize upd H3 u (.tup [.str "got", .int dn]) = H4 at s4 hu ⊢
          have Y4 := Y3.same s4
          have ht4 := ht3.sm s4
          refine ⟨H0, F, vs, p, d, wt, vl, cl, al, jl, _, q, .got dn, u, rfl, Y4, hq, SqT.of hu, fun hb Y5 => ?_, fun hb e ne => ?_⟩
          · have ht5 := ht4.upl (zs := (bump (bump J.cnt r) q).map natV) Y4.at_.hc
            generalize upd H4 cl (.lst ((bump (bump J.cnt r) q).map natV)) = H5 at Y5 ht5 ⊢
            obtain ⟨jps, j1, j2⟩ := Y5.at_.hj
            have lj : jps.length = J.joint.length := j2.len
            refine ⟨_, rfl, p, CJ, d, _, _, rfl, Y5.at_.hp, T.cl, T.n5, rfl, .inl ⟨rfl, _, SqL.of j1⟩, ?_⟩
            refine ⟨_, rfl, _, rfl, _, rfl, t, _, 1, _, rfl, rfl, ht5, rfl, (by show 4 ≤ sizeLine; decide), fun u nu => ?_⟩
            have s7 := sadd (o := .tup [.str "back", .int (r : Int), .int (q : Int), .int dn]) (Same.refl H5) nu
            have hu7 : upd H5 u (.tup [.str "back", .int (r : Int), .int (q : Int), .int dn]) u = some (.tup (Crs.back (r : Int) (q : Int) dn).vs) := upd_same
            generalize upd H5 u (.tup [.str "back", .int (r : Int), .int (q : Int), .int dn]) = H7 at s7 hu7 ⊢
            have Y7 := Y5.same s7
            have j3 := s7 _ _ j1
            refine ⟨jl, _, _, rfl, rfl, j3, (by rw [List.length_map, lj, sizeLine_eq]; omega), ?_⟩
            exact ⟨_, rfl, k1 (some q) _ (by unfold jact; rw [hn]; dsimp only; rw [gl]; dsimp only; exact if_pos hb) _ (Y7.joi_ (x := .back (r : Int) (q : Int) dn) hu7 j3 (j2.mono fun q xs e => s7 _ _ e))⟩
          · exact k2 q (cat_ (bump J.cnt r) q) (by unfold jact; rw [hn]; dsimp only; rw [gl]; dsimp only; exact if_neg hb) e H4 Y4.s ne
      | got n =>
        refine ⟨_, rfl, t, _, 0, _, rfl, rfl, ht, rfl, rfl, _, rfl, iteF ?_⟩
        refine ⟨_, rfl, p, CJ, d, _, _, rfl, Y.at_.hp, T.cl, T.n3, rfl, _, rfl, cl, _, r, .int (m : Int), rfl, rfl, SqL.of Y.at_.hc, hm2, _, _, rfl, rfl, cl, _, (r : Int), r, rfl, rfl, Y.at_.hc, ixr, ?_⟩
        rw [← em, cnt_set]
        have Y2 := Y.bump_ hR hn
        have ht2 := ht.upl (zs := (bump J.cnt r).map natV) Y.at_.hc
        generalize upd H cl (.lst ((bump J.cnt r).map natV)) = H2 at Y2 ht2 ⊢
        refine ⟨_, rfl, t, _, 0, _, rfl, rfl, ht2, rfl, rfl, _, rfl, iteF ?_⟩
        refine ⟨_, rfl, p, CJ, d, _, _, rfl, Y2.at_.hp, T.cl, T.n4, rfl, _, .inl ⟨_, SqL.of Y2.at_.ha, rfl⟩, ?_⟩
        rcases List.eq_nil_or_concat J.asks with e | ⟨as, q, e⟩
        · have e1 : (!(J.asks.map natV).isEmpty) = false := by rw [e]; rfl
          have gl : J.asks.getLast? = none := by rw [e]; rfl
          rw [e1]
          refine iteT ?_
          obtain ⟨jps, j1, j2⟩ := Y2.at_.hj
          have lj : jps.length = J.joint.length := j2.len
          refine ⟨_, rfl, p, CJ, d, _, _, rfl, Y2.at_.hp, T.cl, T.n5, rfl, .inl ⟨rfl, _, SqL.of j1⟩, ?_⟩
          refine ⟨_, rfl, t, _, 1, _, rfl, rfl, ht2, rfl, (by show 2 ≤ sizeLine; decide), fun u nu => ?_⟩
          have s7 := sadd (o := .tup [.str "done", .int n]) (Same.refl H2) nu
          have hu7 : upd H2 u (.tup [.str "done", .int n]) u = some (.tup (Crs.done n).vs) := upd_same
          generalize upd H2 u (.tup [.str "done", .int n]) = H7 at s7 hu7 ⊢
          have Y7 := Y2.same s7
          have j3 := s7 _ _ j1
          refine ⟨jl, _, _, rfl, rfl, j3, (by rw [List.length_map, lj, sizeLine_eq]; omega), ?_⟩
          exact k1 none _ (by unfold jact; rw [hn]; dsimp only; rw [gl]; rfl) _ (Y7.joi_ (x := .done n) hu7 j3 (j2.mono fun q xs e => s7 _ _ e))
        · rw [List.concat_eq_append] at e
          have e1 : (!(J.asks.map natV).isEmpty) = true := by rw [e, List.map_append]; cases as <;> rfl
          have gl : J.asks.getLast? = some q := by rw [e, List.getLast?_concat]
          have dl : J.asks.dropLast = as := by rw [e, List.dropLast_concat]
          have hq : q < F.R := YN.rg q (by rw [e]; exact List.mem_append_right _ (List.mem_singleton.mpr rfl))
          rw [e1]
          refine iteF ?_
          refine ⟨_, rfl, p, CJ, d, _, _, rfl, Y2.at_.hp, T.cl, T.n4, rfl, .inl ⟨rfl, _, SqL.of Y2.at_.ha⟩, al, _, .int (q : Int), rfl, rfl, Y2.at_.ha, ?_, ?_⟩
          · show (J.asks.map natV)[(J.asks.map natV).length - 1]? = _
            rw [← List.getLast?_eq_getElem?, List.getLast?_map, gl]
            rfl
          have e3 : (J.asks.map natV).dropLast = J.asks.dropLast.map natV := List.map_dropLast.symm
          show _
          have Y3 := Y2.ask_ J.asks.dropLast
          rw [← e3] at Y3
          have ht3 := ht2.upl (zs := (J.asks.map natV).dropLast) Y2.at_.ha
          generalize upd H2 al (.lst (J.asks.map natV).dropLast) = H3 at Y3 ht3 ⊢
          refine ⟨_, rfl, p, d, _, rfl, Y3.at_.hp, rfl, _, rfl, _, rfl, t, _, 1, _, rfl, rfl, ht3, rfl, (by show 2 ≤ sizeLine; decide), fun u nu => ?_⟩
          have s4 := sadd (o := .tup [.str "got", .int n]) (Same.refl H3) nu
          have hu : upd H3 u (.tup [.str "got", .int n]) u = some (.tup (It.got n).vs) := upd_same
          generalize upd H3 u (.tup [.str "got", .int n]) = H4 at s4 hu ⊢
          have Y4 := Y3.same s4
          have ht4 := ht3.sm s4
          refine ⟨H0, F, vs, p, d, wt, vl, cl, al, jl, _, q, .got n, u, rfl, Y4, hq, SqT.of hu, fun hb Y5 => ?_, fun hb e ne => ?_⟩
          · have ht5 := ht4.upl (zs := (bump (bump J.cnt r) q).map natV) Y4.at_.hc
            generalize upd H4 cl (.lst ((bump (bump J.cnt r) q).map natV)) = H5 at Y5 ht5 ⊢
            obtain ⟨jps, j1, j2⟩ := Y5.at_.hj
            have lj : jps.length = J.joint.length := j2.len
            refine ⟨_, rfl, p, CJ, d, _, _, rfl, Y5.at_.hp, T.cl, T.n5, rfl, .inl ⟨rfl, _, SqL.of j1⟩, ?_⟩
            refine ⟨_, rfl, _, rfl, _, rfl, t, _, 1, _, rfl, rfl, ht5, rfl, (by show 4 ≤ sizeLine; decide), fun u nu => ?_⟩
            have s7 := sadd (o := .tup [.str "back", .int (r : Int), .int (q : Int), .int n]) (Same.refl H5) nu
            have hu7 : upd H5 u (.tup [.str "back", .int (r : Int), .int (q : Int), .int n]) u = some (.tup (Crs.back (r : Int) (q : Int) n).vs) := upd_same
            generalize upd H5 u (.tup [.str "back", .int (r : Int), .int (q : Int), .int n]) = H7 at s7 hu7 ⊢
            have Y7 := Y5.same s7
            have j3 := s7 _ _ j1
            refine ⟨jl, _, _, rfl, rfl, j3, (by rw [List.length_map, lj, sizeLine_eq]; omega), ?_⟩
            exact ⟨_, rfl, k1 (some q) _ (by unfold jact; rw [hn]; dsimp only; rw [gl]; dsimp only; exact if_pos hb) _ (Y7.joi_ (x := .back (r : Int) (q : Int) n) hu7 j3 (j2.mono fun q xs e => s7 _ _ e))⟩
          · exact k2 q (cat_ (bump J.cnt r) q) (by unfold jact; rw [hn]; dsimp only; rw [gl]; dsimp only; exact if_neg hb) e H4 Y4.s ne
      | gives n =>
        refine ⟨_, rfl, t, _, 0, _, rfl, rfl, ht, rfl, rfl, _, rfl, iteF ?_⟩
        refine ⟨_, rfl, p, CJ, d, _, _, rfl, Y.at_.hp, T.cl, T.n3, rfl, _, rfl, cl, _, r, .int (m : Int), rfl, rfl, SqL.of Y.at_.hc, hm2, _, _, rfl, rfl, cl, _, (r : Int), r, rfl, rfl, Y.at_.hc, ixr, ?_⟩
        rw [← em, cnt_set]
        have Y2 := Y.bump_ hR hn
        have ht2 := ht.upl (zs := (bump J.cnt r).map natV) Y.at_.hc
        generalize upd H cl (.lst ((bump J.cnt r).map natV)) = H2 at Y2 ht2 ⊢
        refine ⟨_, rfl, t, _, 0, _, rfl, rfl, ht2, rfl, rfl, _, rfl, iteF ?_⟩
        refine ⟨_, rfl, p, CJ, d, _, _, rfl, Y2.at_.hp, T.cl, T.n4, rfl, _, .inl ⟨_, SqL.of Y2.at_.ha, rfl⟩, ?_⟩
        rcases List.eq_nil_or_concat J.asks with e | ⟨as, q, e⟩
        · have e1 : (!(J.asks.map natV).isEmpty) = false := by rw [e]; rfl
          have gl : J.asks.getLast? = none := by rw [e]; rfl
          rw [e1]
          refine iteT ?_
          obtain ⟨jps, j1, j2⟩ := Y2.at_.hj
          have lj : jps.length = J.joint.length := j2.len
          refine ⟨_, rfl, p, CJ, d, _, _, rfl, Y2.at_.hp, T.cl, T.n5, rfl, .inl ⟨rfl, _, SqL.of j1⟩, ?_⟩
          refine ⟨_, rfl, t, _, 1, _, rfl, rfl, ht2, rfl, (by show 2 ≤ sizeLine; decide), fun u nu => ?_⟩
          have s7 := sadd (o := .tup [.str "done", .int n]) (Same.refl H2) nu
          have hu7 : upd H2 u (.tup [.str "done", .int n]) u = some (.tup (Crs.done n).vs) := upd_same
          generalize upd H2 u (.tup [.str "done", .int n]) = H7 at s7 hu7 ⊢
          have Y7 := Y2.same s7
          have j3 := s7 _ _ j1
          refine ⟨jl, _, _, rfl, rfl, j3, (by rw [List.length_map, lj, sizeLine_eq]; omega), ?_⟩
          exact k1 none _ (by unfold jact; rw [hn]; dsimp only; rw [gl]; rfl) _ (Y7.joi_ (x := .done n) hu7 j3 (j2.mono fun q xs e => s7 _ _ e))
        · rw [List.concat_eq_append] at e
          have e1 : (!(J.asks.map natV).isEmpty) = true := by rw [e, List.map_append]; cases as <;> rfl
          have gl : J.asks.getLast? = some q := by rw [e, List.getLast?_concat]
          have dl : J.asks.dropLast = as := by rw [e, List.dropLast_concat]
          have hq : q < F.R := YN.rg q (by rw [e]; exact List.mem_append_right _ (List.mem_singleton.mpr rfl))
          rw [e1]
          refine iteF ?_
          refine ⟨_, rfl, p, CJ, d, _, _, rfl, Y2.at_.hp, T.cl, T.n4, rfl, .inl ⟨rfl, _, SqL.of Y2.at_.ha⟩, al, _, .int (q : Int), rfl, rfl, Y2.at_.ha, ?_, ?_⟩
          · show (J.asks.map natV)[(J.asks.map natV).length - 1]? = _
            rw [← List.getLast?_eq_getElem?, List.getLast?_map, gl]
            rfl
          have e3 : (J.asks.map natV).dropLast = J.asks.dropLast.map natV := List.map_dropLast.symm
          show _
          have Y3 := Y2.ask_ J.asks.dropLast
          rw [← e3] at Y3
          have ht3 := ht2.upl (zs := (J.asks.map natV).dropLast) Y2.at_.ha
          generalize upd H2 al (.lst (J.asks.map natV).dropLast) = H3 at Y3 ht3 ⊢
          refine ⟨_, rfl, p, d, _, rfl, Y3.at_.hp, rfl, _, rfl, _, rfl, t, _, 1, _, rfl, rfl, ht3, rfl, (by show 2 ≤ sizeLine; decide), fun u nu => ?_⟩
          have s4 := sadd (o := .tup [.str "got", .int n]) (Same.refl H3) nu
          have hu : upd H3 u (.tup [.str "got", .int n]) u = some (.tup (It.got n).vs) := upd_same
          generalize upd H3 u (.tup [.str "got", .int n]) = H4 at s4 hu ⊢
          have Y4 := Y3.same s4
          have ht4 := ht3.sm s4
          refine ⟨H0, F, vs, p, d, wt, vl, cl, al, jl, _, q, .got n, u, rfl, Y4, hq, SqT.of hu, fun hb Y5 => ?_, fun hb e ne => ?_⟩
          · have ht5 := ht4.upl (zs := (bump (bump J.cnt r) q).map natV) Y4.at_.hc
            generalize upd H4 cl (.lst ((bump (bump J.cnt r) q).map natV)) = H5 at Y5 ht5 ⊢
            obtain ⟨jps, j1, j2⟩ := Y5.at_.hj
            have lj : jps.length = J.joint.length := j2.len
            refine ⟨_, rfl, p, CJ, d, _, _, rfl, Y5.at_.hp, T.cl, T.n5, rfl, .inl ⟨rfl, _, SqL.of j1⟩, ?_⟩
            refine ⟨_, rfl, _, rfl, _, rfl, t, _, 1, _, rfl, rfl, ht5, rfl, (by show 4 ≤ sizeLine; decide), fun u nu => ?_⟩
            have s7 := sadd (o := .tup [.str "back", .int (r : Int), .int (q : Int), .int n]) (Same.refl H5) nu
            have hu7 : upd H5 u (.tup [.str "back", .int (r : Int), .int (q : Int), .int n]) u = some (.tup (Crs.back (r : Int) (q : Int) n).vs) := upd_same
            generalize upd H5 u (.tup [.str "back", .int (r : Int), .int (q : Int), .int n]) = H7 at s7 hu7 ⊢
            have Y7 := Y5.same s7
            have j3 := s7 _ _ j1
            refine ⟨jl, _, _, rfl, rfl, j3, (by rw [List.length_map, lj, sizeLine_eq]; omega), ?_⟩
            exact ⟨_, rfl, k1 (some q) _ (by unfold jact; rw [hn]; dsimp only; rw [gl]; dsimp only; exact if_pos hb) _ (Y7.joi_ (x := .back (r : Int) (q : Int) n) hu7 j3 (j2.mono fun q xs e => s7 _ _ e))⟩
          · exact k2 q (cat_ (bump J.cnt r) q) (by unfold jact; rw [hn]; dsimp only; rw [gl]; dsimp only; exact if_neg hb) e H4 Y4.s ne
end
end OH
end
section
set_option Elab.async false
set_option linter.all false
set_option maxRecDepth 100000
set_option maxHeartbeats 1000000
/-! How much is put together. -/
namespace OH
open PySem PySem.Spec PyProof.Rows L2
theorem sum_set : ∀ (l : List Nat) (r : Nat), r < l.length → (l.set r (l.getD r 0 + 1)).sum = l.sum + 1
  | [], r, h => absurd h (Nat.not_lt_zero r)
  | x :: xs, 0, _ => by
    show (x + 1) + xs.sum = x + xs.sum + 1
    omega
  | x :: xs, r + 1, h => by
    have ih := sum_set xs r (Nat.lt_of_succ_lt_succ h)
    show x + (xs.set r (xs.getD r 0 + 1)).sum = x + xs.sum + 1
    omega
theorem sum_bump {l : List Nat} {r : Nat} (h : r < l.length) : (bump l r).sum = l.sum + 1 := sum_set l r h
theorem sum_le : ∀ (l : List Nat) (b : Nat), (∀ r, l.getD r 0 ≤ b) → l.sum ≤ l.length * b
  | [], b, _ => Nat.zero_le _
  | x :: xs, b, h => by
    have h0 : x ≤ b := h 0
    have ih := sum_le xs b (fun r => h (r + 1))
    show x + xs.sum ≤ (xs.length + 1) * b
    rw [Nat.succ_mul]
    omega
/-- no more has been put together than has been read -/
structure JnS (F : Fc) (J : Jn) : Prop where
  lj : J.joint.length ≤ J.cnt.sum
  la : J.asks.length ≤ J.cnt.sum
  rg : ∀ k ∈ J.asks, k < F.R
theorem JnS.step {F : Fc} {vs : List (List It)} {J J' : Jn} {r : Nat} {c : Option Nat} (hF : F.Ok) (S : JnS F J) (lc : J.cnt.length = F.R) (hr : r < F.R) (h : jact F vs J r = .ok c J') : JnS F J' ∧ ∀ k, c = some k → k < F.R := by
  have s1 := sum_bump (l := J.cnt) (r := r) (by omega)
  have l1 : (bump J.cnt r).length = F.R := by rw [len_bump]; exact lc
  have lj := S.lj
  have la := S.la
  unfold jact at h
  split at h
  · cases h
    exact ⟨S, fun k z => nomatch z⟩
  · next a d n _ =>
    split at h
    · next hw =>
      obtain ⟨b0, b1, _⟩ := (hF.wi r hr).2.2 _ hw
      have b0' : 0 ≤ a := b0
      have b1' : a < (F.R : Int) := b1
      split at h
      · cases h
        exact ⟨⟨by rw [List.length_append]; show _ + 1 ≤ (bump J.cnt r).sum; omega, by show J.asks.length ≤ (bump J.cnt r).sum; omega, S.rg⟩, fun k z => nomatch z⟩
      · split at h
        · cases h
          have s2 := sum_bump (l := bump J.cnt r) (r := a.toNat) (by omega)
          refine ⟨⟨by rw [List.length_append]; show _ + 1 ≤ (bump (bump J.cnt r) a.toNat).sum; omega, by rw [List.length_append]; show _ + 1 ≤ (bump (bump J.cnt r) a.toNat).sum; omega, fun k hk => ?_⟩, fun k z => ?_⟩
          · rcases List.mem_append.mp hk with z | z
            · exact S.rg k z
            · rw [List.mem_singleton.mp z]
              exact hr
          · cases z
            omega
        · cases h
    · cases h
  · cases h
    exact ⟨⟨by rw [List.length_append]; show _ + 1 ≤ (bump J.cnt r).sum; omega, by show J.asks.length ≤ (bump J.cnt r).sum; omega, S.rg⟩, fun k z => nomatch z⟩
  · next i _ _ _ =>
    split at h
    · cases h
      exact ⟨⟨by rw [List.length_append]; show _ + 1 ≤ (bump J.cnt r).sum; omega, by show J.asks.length ≤ (bump J.cnt r).sum; omega, S.rg⟩, fun k z => nomatch z⟩
    · next q gl =>
      have hq : q < F.R := S.rg q (List.mem_of_getLast? gl)
      split at h
      · cases h
        have s2 := sum_bump (l := bump J.cnt r) (r := q) (by omega)
        refine ⟨⟨by rw [List.length_append]; show _ + 1 ≤ (bump (bump J.cnt r) q).sum; omega, by rw [List.length_dropLast]; show _ ≤ (bump (bump J.cnt r) q).sum; omega, fun k hk => S.rg k (List.dropLast_subset _ hk)⟩, fun k z => ?_⟩
        cases z
        exact hq
      · cases h
theorem JnX.jnn {K : PySem.W.Frag} {CJ : Addr} {H0 H : Hp} {F : Fc} {vs : List (List It)} {p d wt vl cl al jl : Addr} {J : Jn} (Y : JnX K CJ H0 H F vs p d wt vl cl al jl J) (S : JnS F J) : JnN J F := by
  have h := sum_le J.cnt 10000 (fun r => Nat.le_trans (Y.cb r) (Y.c.le r))
  have lc := Y.lc
  have m6 := Y.c.ok.m6
  have h2 : J.cnt.sum ≤ 60000 := Nat.le_trans h (by rw [lc]; exact Nat.mul_le_mul_right 10000 m6)
  exact ⟨Nat.le_trans S.la (by omega), Nat.le_trans S.lj (by omega), S.rg⟩
end OH
end
section
set_option Elab.async false
set_option linter.all false
set_option maxRecDepth 100000
set_option maxHeartbeats 8000000
/-! Views put together: the whole. -/
namespace OH
open PySem PySem.Spec PyProof.Rows L2
def jn0 (F : Fc) : Jn := ⟨List.replicate F.R 0, [], []⟩
def spJoin (K : PySem.W.Frag) (CJ C : Addr) : Sp := fun vs' H Q E => ∃ (H0 : Hp) (F : Fc) (vs : List (List It)) (p d wt vl cl al jl : Addr) (row : List Crs), vs' = [.ref p] ∧ JnX K CJ H0 H F vs p d wt vl cl al jl (jn0 F) ∧ VR F row ∧ Cuts F row vs ∧
  (∀ k, 1 ≤ k → k ≤ row.length → Vs F vs (row.take k) → ∀ J' H', JnX K CJ H0 H' F vs p d wt vl cl al jl J' → J'.joint = row.take k → Q .non H') ∧
  (∀ x y, x < F.R → y ≤ (vat vs x).length → (∀ j, 1 ≤ j → ¬ Vs F vs (row.take j)) → ∀ e H', Same H0 H' → H' e = none → E (.ref C) (some e) (upd H' e (unf x y)))
section
variable {P : Program} {w : World} {K : PySem.W.Frag} {mg : Str → Option Value} {base : Heap} {CJ C fI fA : Addr} {fdI fdA : FuncData}
abbrev nJo : List Str := ["self", "first", "control", "room", "view"]
theorem sc_Joining_join : FnScope nJo ["self"] (defScope s_Joining_join) := ⟨rfl, rfl, rfl, by decide +kernel, rfl, by decide +kernel, by decide +kernel⟩
theorem ok_Joining_join {f : Addr} {fd : FuncData} (F : Fun K "join" "Joining.join" s_Joining_join f fd) (T : TxJ K CJ) (nLen : mg "len" = none) (nEnum : mg "enumerate" = none)
    (TE : ErrF P K mg "Unfit" "room" C) (iC : PySem.W.findIn K (.ref C) "__init__" = some (some (.ref fI))) (tI : PySem.W.typeIn K (.ref fI) = some (.type "function"))
    (FI : FnOk P w K mg base CX0 1 fI fdI ["self", "room", "at"] (spErr2 C "room" "at")) (bI : Binds K fdI ["self", "room", "at"] [])
    (DX : MetF P w K mg base CX0 2 CJ "next_item" ["self", "room"] (spNext K CJ))
    (MA : Meth K CJ "join_act" fA) (FA : FnOk P w K mg base (L2.CX P w) 5 fA fdA ["self", "room"] (spJAct K CJ C)) (bA : Binds K fdA ["self", "room"] []) : FnOk P w K mg base (L2.CX P w) 6 f fd ["self"] (spJoin K CJ C) := by
  refine F.okX sc_Joining_join (fun vs H Q E h => ?_) (fun cdv A outer s H vs Q E hr h => ?_)
  · obtain ⟨H0, F, vs, p, d, wt, vl, cl, al, jl, row, rfl, _⟩ := h
    rfl
  · obtain ⟨H0, F, vs, p, d, wt, vl, cl, al, jl, row, rfl, Y, hv, hc, k1, k2⟩ := h
    have nd := sc_Joining_join.nd
    have hr2 : Room 2 _ := hr.mono (by decide)
    have hr5 : Room 5 _ := hr
    refine ⟨_, pss_cons (ps_set (i := 1) nd rfl (Or.inl rfl) (pe_mD (pv 0) T.cl DX hr2 pass0 (pa_cons pe_int pa_nil)))
      (pss_cons (ps_if (PW.pt (pw_or (pt_cmpR op_isN (pv 1) pe_non (nomark _)) (pw_or1 (pt_cmpR op_ne (pe_ix ix_tup (pv 1) pe_int (fun _ _ => rfl)) pe_int (nomark _))))) (pss_one (ps_raise rfl (takes_of rfl rfl rfl rfl) (pmk_err2 TE iC tI FI hr2 bI (by rfl) (pa_cons pe_int (pa_cons pe_int pa_nil))))) pss_nil)
      (pss_cons (ps_asg pe_int (pg_sub (pe_fld (pv 0) rfl) pe_int set_list))
      (pss_cons (ps_expr (pe_bm PySem.F.plainAttrs_list PySem.F.slot_list_append PySem.F.type_list_append mt_append (pe_fld (pv 0) rfl) (pa_cons (pe_tup (pa_cons pe_str (pa_cons (pe_ix ix_tup (pv 1) pe_int (fun _ _ => rfl)) pa_nil))) pa_nil)))
      (pss_cons (ps_set (i := 2) nd rfl (Or.inl rfl) pe_int)
      (pss_cons (ps_while (passes_of rfl) (pt_cmpR op_notN (pv 2) pe_non (nomark _)) (pss_one (ps_set (i := 2) nd rfl (Or.inl rfl) (pe_methX (pv 0) T.cl MA FA hr5 bA (fun σ => passAt (takes_of rfl rfl rfl rfl) σ) (pa_cons (pv 2) pa_nil)))))
      (pss_one (ps_for (passes_of rfl) rfl (pi_enum (by rfl) nEnum (pa_cons (pe_fld (pv 0) rfl) pa_nil)) (pg_tup (by rfl) (pgs_cons (pg_name (i := 3) nd rfl (Or.inl rfl)) (pgs_cons (pg_name (i := 4) nd rfl (Or.inl rfl)) pgs_nil))) (pss_one (ps_if (pt_cmpR op_lt (pe_ix ix_list (pe_fld (pv 0) rfl) (pv 3) (fun _ _ => rfl)) (pe_callB call_len_seq (by rfl) nLen PySem.boot_len (pa_cons (pv 4) pa_nil)) (nomark _)) (pss_one (ps_raise rfl (takes_of rfl rfl rfl rfl) (pmk_err2 TE iC tI FI hr2 bI (by rfl) (pa_cons (pv 3) (pa_cons (pe_ix ix_list (pe_fld (pv 0) rfl) (pv 3) (fun _ _ => rfl)) pa_nil))))) pss_nil))))))))), ?_⟩
    have hF := Y.c.ok
    have m1 := hF.m1
    have m6 := hF.m6
    have c0 : ∀ r, cat_ (jn0 F).cnt r = 0 := fun r => by
      show (List.replicate F.R 0).getD r 0 = 0
      rw [List.getD_eq_getElem?_getD, List.getElem?_replicate]
      split <;> rfl
    obtain ⟨n, xs, rfl, hnn, hrr⟩ := hv
    have hpre := hc.pre 0 (by omega)
    have ev0 : vw ((0 : Nat) : Int) (.start n :: xs) = .inn 0 n :: vw 0 xs := rfl
    rw [ev0] at hpre
    refine ⟨_, rfl, p, d, _, rfl, Y.at_.hp, rfl, H0, F, vs, p, d, wt, vl, cl, al, jl, jn0 F, 0, rfl, Y, by omega, fun hn => ?_, fun it t hn ht => ?_⟩
    · refine ⟨_, rfl, rfl, _, rfl, iteT ?_⟩
      have e0 : vat vs 0 = [] := by
        unfold nextI at hn
        rw [c0] at hn
        cases h : vat vs 0 with
        | nil => rfl
        | cons _ _ => rw [h] at hn; cases hn
      refine ⟨.int 0, .int 0, rfl, fmtNat (k := 0) (by decide), fmtNat (k := 0) (by decide), fun e ne => ?_⟩
      refine k2 0 0 (by omega) (Nat.zero_le _) (fun j hj hV => ?_) e H Y.s ne
      have h1 := hV 0 (by omega)
      obtain ⟨i, rfl⟩ : ∃ i, j = i + 1 := ⟨j - 1, by omega⟩
      rw [e0, List.take_succ_cons] at h1
      exact nomatch h1
    · have eit : vat vs 0 = it :: (vat vs 0).tail ∧ it = .inn 0 n := by
        unfold nextI at hn
        rw [c0] at hn
        cases h : vat vs 0 with
        | nil => rw [h] at hn; cases hn
        | cons a b =>
          rw [h] at hn hpre
          cases hn
          obtain ⟨zs, ez⟩ := hpre
          exact ⟨rfl, (List.cons.inj ez).1⟩
      obtain ⟨e1, rfl⟩ := eit
      refine ⟨_, rfl, rfl, _, rfl, iteF ?_⟩
      refine ⟨_, rfl, t, _, 1, _, rfl, rfl, ht, rfl, rfl, _, rfl, iteF ?_⟩
      have Y2 := Y.bump_ (r := 0) (by omega) hn
      refine ⟨_, rfl, p, CJ, d, _, _, rfl, Y.at_.hp, T.cl, T.n3, rfl, cl, _, 0, 0, rfl, rfl, Y.at_.hc, ?_, ?_⟩
      · unfold ixN
        rw [if_pos (Int.le_refl 0), if_pos (by rw [List.length_map]; show (0 : Int) < ((List.replicate F.R 0).length : Nat); rw [List.length_replicate]; omega)]
        rfl
      have e2 : ((jn0 F).cnt.map natV).set 0 (.int 1) = (bump (jn0 F).cnt 0).map natV := by
        have := cnt_set (jn0 F) 0
        rw [c0] at this
        exact this
      rw [e2]
      have ht2 := ht.upl (zs := (bump (jn0 F).cnt 0).map natV) Y.at_.hc
      generalize upd H cl (.lst ((bump (jn0 F).cnt 0).map natV)) = H2 at Y2 ht2 ⊢
      obtain ⟨jps, j1, j2⟩ := Y2.at_.hj
      have lj : jps.length = 0 := j2.len
      refine ⟨_, rfl, p, CJ, d, _, _, rfl, Y2.at_.hp, T.cl, T.n5, rfl, .inl ⟨rfl, _, SqL.of j1⟩, ?_⟩
      refine ⟨_, rfl, t, _, 2, _, rfl, rfl, ht2, rfl, (by show 2 ≤ sizeLine; decide), fun u nu => ?_⟩
      have s3 := sadd (o := .tup [.str "start", .int n]) (Same.refl H2) nu
      have hu : upd H2 u (.tup [.str "start", .int n]) u = some (.tup (Crs.start n).vs) := upd_same
      generalize upd H2 u (.tup [.str "start", .int n]) = H3 at s3 hu ⊢
      have Y3 := Y2.same s3
      have j3 := s3 _ _ j1
      refine ⟨jl, _, _, rfl, rfl, j3, (by rw [List.length_map, lj, sizeLine_eq]; omega), ?_⟩
      have Y4 := Y3.joi_ (x := .start n) hu j3 (j2.mono fun q xs e => s3 _ _ e)
      generalize upd H3 jl (.lst (jps.map V.ref ++ [.ref u])) = H4 at Y4 ⊢
      have JA : Jat F [.start n] (some 0, []) ⟨bump (jn0 F).cnt 0, (jn0 F).asks, (jn0 F).joint ++ [.start n]⟩ := by
        refine ⟨Y4.lc, fun r hr' => ?_, rfl, rfl⟩
        show cat_ (bump (jn0 F).cnt 0) r = ((if (r : Int) = 0 then [It.inn 0 n] else []) ++ []).length
        rw [cat_bump (by show 0 < (List.replicate F.R 0).length; rw [List.length_replicate]; omega), c0, c0, List.append_nil]
        by_cases z : 0 = r
        · rw [if_pos z, if_pos (by omega)]
          rfl
        · rw [if_neg z, if_neg (by omega)]
          rfl
      have hp1 : ∀ r, r < F.R → (vw (r : Int) [.start n]).length ≤ (vat vs r).length := fun r hr' => by
        have := Y4.cb r
        rwa [JA.cn r hr'] at this
      have hc' : Cuts F ([.start n] ++ xs) vs := hc
      obtain ⟨m, out, R, G⟩ := join_go hF xs [.start n] (some 0, []) _ (fun z => nomatch z) (SOk.init hF) hrr JA hc' hp1
      have S4 : JnS F ⟨bump (jn0 F).cnt 0, (jn0 F).asks, (jn0 F).joint ++ [.start n]⟩ := by
        have s1 := sum_bump (l := (jn0 F).cnt) (r := 0) (by show 0 < (List.replicate F.R 0).length; rw [List.length_replicate]; omega)
        exact ⟨by show 1 ≤ (bump (jn0 F).cnt 0).sum; omega, by show 0 ≤ (bump (jn0 F).cnt 0).sum; omega, fun k z => nomatch z⟩
      refine ⟨fun k σ H' => ∃ (J : Jn) (c : Option Nat) (o3 o4 : Option V), σ = [some (.ref p), some (.ref t), some (optN c), o3, o4] ∧ Runs F vs k J c out ∧ JnX K CJ H0 H' F vs p d wt vl cl al jl J ∧ JnS F J ∧ ∀ r, c = some r → r < F.R,
        ⟨m, _, some 0, none, none, rfl, R, Y4, S4, fun r z => by cases z; omega⟩, ?_⟩
      rintro k σ H5 ⟨J, c, o3, o4, rfl, R5, Y5, S5, hc5⟩
      cases c with
      | some r =>
        refine ⟨_, rfl, rfl, _, rfl, iteT ⟨fun σ' H' => ∃ k', k' < k ∧ ∃ (J : Jn) (c : Option Nat) (o3 o4 : Option V), σ' = [some (.ref p), some (.ref t), some (optN c), o3, o4] ∧ Runs F vs k' J c out ∧ JnX K CJ H0 H' F vs p d wt vl cl al jl J ∧ JnS F J ∧ ∀ r, c = some r → r < F.R, fun σ' H' z => z, ?_⟩⟩
        refine ⟨_, rfl, p, d, _, rfl, Y5.at_.hp, rfl, _, rfl, H0, F, vs, p, d, wt, vl, cl, al, jl, J, r, rfl, Y5, Y5.jnn S5, hc5 r rfl, fun c' J' hj H6 Y6 => ?_, fun x y hj e H6 s6 ne => ?_⟩
        · cases R5 with
          | err hj' => rw [hj] at hj'; cases hj'
          | step hj' R' =>
            rw [hj] at hj'
            cases hj'
            obtain ⟨S6, hc6⟩ := S5.step hF Y5.lc (hc5 r rfl) hj
            exact ⟨_, Nat.lt_succ_self _, J', c', o3, o4, rfl, R', Y6, S6, hc6⟩
        · cases R5 with
          | err hj' =>
            rw [hj] at hj'
            cases hj'
            exact k2 x y G.1 G.2.1 (fun j _ => G.2.2 j) e H6 s6 ne
          | step hj' R' => rw [hj] at hj'; cases hj'
      | none =>
        refine ⟨_, rfl, rfl, _, rfl, iteF ?_⟩
        cases R5
        obtain ⟨vps, v1, v2, v3⟩ := Y.c.v
        refine ⟨_, rfl, p, CJ, d, _, _, rfl, Y5.at_.hp, T.cl, T.n2, rfl, vl, _, rfl, SqL.of (Y5.s _ _ v1), ?_⟩
        refine for_it (walk_enum (K := K) (a := vl) (xs := vps.map V.ref)) (fun i σ H' => ∃ o3 o4 : Option V, σ = [some (.ref p), some (.ref t), some .non, o3, o4] ∧ JnX K CJ H0 H' F vs p d wt vl cl al jl J ∧ ∀ j, j < i → (vat vs j).length ≤ cat_ J.cnt j)
          ⟨o3, o4, rfl, Y5, fun j z => absurd z (Nat.not_lt_zero j)⟩ (fun i σ H' _ ⟨_, _, _, Y', _⟩ => SqL.of (Y'.s _ _ v1)) ?turn ?done
        case done =>
          rintro σ H6 ⟨o3, o4, rfl, Y6, all⟩
          obtain ⟨k, ka, kb, kj, kV⟩ := join_end hc' G (fun r hr' => all r (by rw [List.length_map]; omega))
          exact k1 k ka kb kV J H6 Y6 kj
        case turn =>
          rintro i y σ H6 H7 hi' ⟨o3, o4, rfl, Y6, all⟩ ⟨tp, x0, y0, rfl, ntp, rfl, ex, ey⟩
          cases ex
          have hiR : i < F.R := by
            rw [List.length_map] at hi'
            omega
          obtain ⟨q, hq⟩ : ∃ q, vps[i]? = some q := ⟨_, List.getElem?_eq_getElem (by omega)⟩
          have ey' : y0 = .ref q := by
            have ey2 : (vps.map V.ref)[i]? = some y0 := ey
            rw [List.getElem?_map, hq] at ey2
            exact (Option.some.inj ey2).symm
          subst ey'
          have s7 := sadd (o := .tup [.int (i : Int), .ref q]) (Same.refl H6) ntp
          have htp : upd H6 tp (.tup [.int (i : Int), .ref q]) tp = some (.tup [.int (i : Int), .ref q]) := upd_same
          generalize upd H6 tp (.tup [.int (i : Int), .ref q]) = H7 at s7 htp ⊢
          have Y7 := Y6.same s7
          have lc := Y7.lc
          have le := Y7.c.le i
          have cb := Y7.cb i
          obtain ⟨ips, i1, i2⟩ := v3 i q hq
          have li := i2.len
          have hi7 := Y7.s _ _ i1
          obtain ⟨m, hm⟩ : ∃ m, J.cnt[i]? = some m := ⟨_, List.getElem?_eq_getElem (by omega)⟩
          have em : cat_ J.cnt i = m := by unfold cat_; rw [List.getD_eq_getElem?_getD, hm]; rfl
          have a2 : atI (J.cnt.map natV) (i : Int) = some (.int (m : Int)) := atI_nat (by rw [List.getElem?_map, hm]; rfl)
          have lz : (ips.map V.ref).length = (vat vs i).length := by rw [List.length_map, li]
          refine ⟨tp, _, rfl, SqT.of htp, rfl, _, _, rfl, _, _, rfl, rfl, ?_⟩
          refine ⟨_, rfl, p, CJ, d, _, _, rfl, Y7.at_.hp, T.cl, T.n3, rfl, _, rfl, cl, _, (i : Int), .int (m : Int), rfl, rfl, SqL.of Y7.at_.hc, a2, _, rfl, q, _, rfl, .inl (SqL.of hi7), _, _, rfl, rfl, _, rfl, ?_⟩
          refine ite2 (fun z => ?_) (fun z => ?_)
          · have z1 : m < (vat vs i).length := by
              have := of_decide_eq_true z
              omega
            refine ⟨_, rfl, _, rfl, p, CJ, d, _, _, rfl, Y7.at_.hp, T.cl, T.n3, rfl, _, rfl, cl, _, (i : Int), .int (m : Int), rfl, rfl, SqL.of Y7.at_.hc, a2, .int (i : Int), .int (m : Int), rfl, fmtNat (by omega), fmtNat (by omega), fun e ne => ?_⟩
            have k3 := k2 i (cat_ J.cnt i) hiR cb (fun j _ => join_left G hiR (by rw [em]; exact z1) j) e H7 Y7.s ne
            rw [em] at k3
            exact k3
          · have z1 : ¬ m < (vat vs i).length := fun y => z (decide_eq_true (by omega))
            refine ⟨_, _, rfl, Y7, fun j hj => ?_⟩
            by_cases e : j = i
            · subst e
              omega
            · exact all j (by omega)
end
end OH
end
section
set_option Elab.async false
set_option linter.all false
set_option maxRecDepth 100000
set_option maxHeartbeats 8000000
/-! joined. -/
namespace OH
open PySem PySem.Spec PyProof.Rows L2
def tMethX0 (C : Addr) (m : Str) (sp : Sp) (E : L2.St → XK) (ta : TE) : TE := fun σ H Q =>
  ta σ H fun x H1 => ∃ a dx fs, x = .ref a ∧ H1 a = some (.ins C dx fs) ∧ List.lookup m fs = none ∧ sp [.ref a] H1 Q (E σ)
section
variable {X : Cx} {CX : CXT} {k : Nat} {f C : Addr} {fd : FuncData} {ps : List Str} {sp : Sp} {E : L2.St → XK} {m : Str} {pos apos : Pos} {o : Expr} {ta : TE}
theorem pe_methX0 {pl : Sem Bool} (he : PE X o ta) (c : Cls X.K C) (hm : Meth X.K C m f) (F : FnOk X.prog X.w X.K X.mg X.base CX k f fd ps sp) (hr : Room k X.A) (hb : Binds X.K fd ps []) (hx : ∀ σ, PassesAt CX X σ (E σ))
    (ht : eval (.Call (.Attribute o m apos) [] [] pos) X.env = (do
      let ov ← eval o X.env
      standAt apos.atName
      let (f, first) ← holding [ov] (getMethod ov m pl)
      callWith pos f first (backTo pos (starEach [] X.env)) (backToKw pos (keywordEach [] X.env))) := by rfl) :
    PE X (.Call (.Attribute o m apos) [] [] pos) (tMethX0 C m sp E ta) := by
  constructor
  intro pins s σ H Q I h
  refine PySem.W.methodCall_KW (pl := pl) (thn (he.run pins s σ H _ I h) ?_) ht
  rintro u s1 ⟨x, H1, I1, rx, a, dx, fs, rfl, ea, l, q⟩
  obtain rfl : u = Value.ref a := rx
  refine getmeth_ok I1 ea c hm l ?_
  exact PySem.W.callWith_K0 (first := [.ref a]) I1.kIn hm.kp (run_fnS (us := [.ref a]) (vs := [.ref a]) F hr hb (hx σ) I1 (.cons rfl .nil) q)
end
def spJoined (K : PySem.W.Frag) (C : Addr) : Sp := fun vs' H Q E => ∃ (a vl : Addr) (F : Fc) (vs : List (List It)) (row : List Crs) (vps : List Addr), vs' = [.ref a, .ref vl] ∧ FcAt H a F ∧ H vl = some (.lst (vps.map V.ref)) ∧ vps.length = F.R ∧ (∀ (r : Nat) (q : Addr), vps[r]? = some q → VwAt K H q (vat vs r)) ∧
  VR F row ∧ Cuts F row vs ∧ row.length ≤ 4000 ∧
  (∀ k, 1 ≤ k → k ≤ row.length → Vs F vs (row.take k) → ∀ l H', Same H H' → H l = none → RwAt H' l (row.take k) → Q (.ref l) H') ∧
  (∀ x y, x < F.R → y ≤ (vat vs x).length → (∀ j, 1 ≤ j → ¬ Vs F vs (row.take j)) → ∀ e H', Same H H' → H' e = none → E (.ref C) (some e) (upd H' e (unf x y)))
section
variable {P : Program} {w : World} {K : PySem.W.Frag} {mg : Str → Option Value} {base : Heap} {CJ C fJ : Addr} {fdJ : FuncData}
abbrev nJd : List Str := ["face", "views", "view", "joining"]
theorem sc_joined : FnScope nJd ["face", "views"] (defScope s_joined) := ⟨rfl, rfl, rfl, by decide +kernel, rfl, by decide +kernel, by decide +kernel⟩
theorem ok_joined {f : Addr} {fd : FuncData} (F : Fun K "joined" "joined" s_joined f fd) (T : Txt K mg) (TJ : TxJ K CJ)
    (DF : DefF P w K mg base CX0 7 "need_face" ["face"] spNeedF) (DG : DefF P w K mg base CX0 7 "good_view" ["value"] (spGoodV K)) (DK : MakF P w K mg base CX0 6 "Joining" CJ ["self", "face", "views"] (spJInit CJ))
    (MJ : Meth K CJ "join" fJ) (FJ : FnOk P w K mg base (L2.CX P w) 6 fJ fdJ ["self"] (spJoin K CJ C)) (bJ : Binds K fdJ ["self"] []) : FnOk P w K mg base (L2.CX P w) 8 f fd ["face", "views"] (spJoined K C) := by
  refine F.okX sc_joined (fun vs H Q E h => ?_) (fun cdv A outer s H vs Q E hr h => ?_)
  · obtain ⟨a, vl, F, vs, row, vps, rfl, _⟩ := h
    rfl
  · obtain ⟨a, vl, F, vs, row, vps, rfl, hf, hvl, lvp, hvs, hv, hc, hn, k1, k2⟩ := h
    have nd := sc_joined.nd
    have hr6 : Room 6 _ := hr.mono (by decide)
    refine ⟨_, pss_cons (ps_expr (pe_cD DF hr rfl pass0 (pa_cons (pv 0) pa_nil)))
      (pss_cons (ps_if (PW.pt (pw_or (pt_not (pt_val (pe_callB call_isiT (by rfl) T.nIsi (by decide +kernel) (pa_cons (pv 1) (pa_cons (pe_tup (pa_cons (pe_bltn (v := .ty "list") (by rfl) T.nList (by decide +kernel) rfl) (pa_cons (pe_bltn (v := .ty "tuple") (by rfl) T.nTuple (by decide +kernel) rfl) pa_nil))) pa_nil))))) (pw_or1 (pt_cmpR op_ne (pe_callB call_len_seq (by rfl) T.nLen PySem.boot_len (pa_cons (pv 1) pa_nil)) (pe_callB call_len_seq (by rfl) T.nLen PySem.boot_len (pa_cons (pe_ix ix_tup (pv 0) pe_int (fun _ _ => rfl)) pa_nil)) (nomark _))))) (pss_one ps_never) pss_nil)
      (pss_cons (ps_if (pt_not (pt_val (pe_callB (cr_all rfl) (by rfl) T.nAll (by decide +kernel) (pa_cons (pe_lc (own := [("view", 2)]) (g := gName 2) (tt := tYes) rfl nd (pi_list (pv 1)) (blkOk_by (own := [("view", 2)]) (N := nJd) (sc := defScope s_joined) (by decide +kernel)) (fun _ _ _ _ _ => (pg_name (i := 2) nd rfl (Or.inl rfl))) (fun _ _ _ _ _ => pts_nil) (fun _ _ _ _ _ => (pe_cD DG hr rfl pass0 (pa_cons (pv 2) pa_nil)))) pa_nil)))) (pss_one ps_never) pss_nil)
      (pss_cons (ps_set (i := 3) nd rfl (Or.inl rfl) (pe_kD DK hr rfl pass0 (pa_cons (pv 0) (pa_cons (pv 1) pa_nil))))
      (pss_cons (ps_expr (pe_methX0 (pv 3) TJ.cl MJ FJ hr6 bJ (fun σ => passAt (takes_of rfl rfl rfl rfl) σ)))
      (pss_one (ps_ret (pe_fld (pv 3) rfl))))))), ?_⟩
    have hF := hf.ok
    have m6 := hF.m6
    refine ⟨_, rfl, a, F, rfl, hf, fun H1 s1 => ?_⟩
    refine ⟨_, rfl, (by show 2 ≤ sizeLine; decide), fun tp ntp => ?_⟩
    have s2 := sadd (o := .tup [.ty "list", .ty "tuple"]) s1 ntp
    have htp : upd H1 tp (.tup [.ty "list", .ty "tuple"]) tp = some (.tup [.ty "list", .ty "tuple"]) := upd_same
    generalize upd H1 tp (.tup [.ty "list", .ty "tuple"]) = H2 at s2 htp ⊢
    have v2 := s2 _ _ hvl
    have f2 := hf.same s2
    obtain ⟨wt, dt, wps, b1, b2, b3, b4, b5⟩ := f2.ex
    refine ⟨_, tp, _, _, _, _, rfl, htp, .cons (.ty _) (.cons (.ty _) .nil), .base (.lst v2), kitAny_cons (kit_ty (r := true) (by decide +kernel)) (fun z => nomatch z) (fun _ => rfl), _, rfl, iteF ?_⟩
    refine ⟨_, rfl, vl, _, rfl, .inl (SqL.of v2), _, rfl, a, _, 2, _, rfl, rfl, SqT.of b1, rfl, dt, _, rfl, .inr (SqT.of b3), rfl, _, rfl, ?_⟩
    have e0 : decide (V.int ((vps.map V.ref).length : Nat) = V.int ((F.dor.map V.int).length : Nat)) = true := decide_eq_true (by rw [List.length_map, List.length_map, lvp]; rfl)
    refine ite2 (fun z => ?_) (fun _ => ?_)
    · have z' : (!decide (V.int ((vps.map V.ref).length : Nat) = V.int ((F.dor.map V.int).length : Nat))) = true := z
      rw [e0] at z'
      cases z'
    have gvs : ∀ r, r < F.R → GV (vat vs r) ∧ (vat vs r).length ≤ 10000 := fun r hr' => by
      refine ⟨(hv.gv hF (r : Int)).le (hc.pre r hr'), ?_⟩
      have h1 := (hc.pre r hr').length_le
      have h2 := vw_bound (r : Int) row
      omega
    refine ⟨_, rfl, vl, rfl, ⟨_, SqL.of v2⟩, fun D nD => ?_⟩
    refine lc_list (K := K) (a := vl) (xs := vps.map V.ref) (fun i H' => Same H2 H' ∧ H' D = some (.lst ((List.replicate i true).map V.bl))) ⟨sadd (Same.refl H2) nD, upd_same⟩ (fun i H' _ ⟨s, _⟩ => SqL.of (s _ _ v2)) ?turn ?done
    case turn =>
      rintro i x H4 hx ⟨s4, hD⟩
      rw [List.getElem?_map] at hx
      obtain ⟨q, hq, rfl⟩ := Option.map_eq_some_iff.mp hx
      have hi : i < F.R := by rw [← lvp]; exact (List.getElem?_eq_some_iff.mp hq).1
      refine ⟨rfl, ?_⟩
      unfold tYes
      refine iteT ?_
      refine ⟨_, rfl, q, vat vs i, rfl, (hvs i q hq).same (s2.trans s4), (gvs i hi).1, (gvs i hi).2, fun H5 s5 => ?_⟩
      refine ⟨_, s5 _ _ hD, ?_, sout (s4.trans s5) nD, ?_⟩
      · rw [List.length_map, List.length_replicate, sizeLine_eq]
        omega
      · rw [upd_same, List.replicate_succ', List.map_append]
        rfl
    case done =>
      rintro H4 ⟨s4, hD⟩
      refine ⟨D, _, rfl, SqL.of hD, ?_⟩
      rw [all_trueR]
      refine ⟨_, rfl, iteF ?_⟩
      have s24 := s2.trans s4
      refine ⟨_, rfl, _, rfl, fun p d np ndx npd => ?_⟩
      have s5 := sadd (o := .ins CJ d []) (sadd (o := .own p) (Same.refl H4) ndx) (by rw [upd_ne npd.symm]; exact np)
      have hp5 : upd (upd H4 d (.own p)) p (.ins CJ d []) p = some (.ins CJ d []) := upd_same
      generalize upd (upd H4 d (.own p)) p (.ins CJ d []) = H5 at s5 hp5 ⊢
      have s45 := s4.trans s5
      refine ⟨p, d, a, wt, dt, vl, F, _, rfl, hp5, s45 _ _ b1, s45 _ _ v2, (by rw [List.length_map]; omega), fun cl al jl H6 ncl nal njl n1 n2 n3 JA k6 => ⟨rfl, ?_⟩⟩
      rw [List.length_map, lvp] at JA
      have s46 : Same H4 H6 := Same.kept s5 k6 (fun q hq => by rw [List.mem_singleton.mp hq]; exact np)
      have YC : JnC K H4 F vs wt vl := ⟨⟨wps, s4 _ _ b2, b4, fun i q e => by
          obtain ⟨ps, p1, p2⟩ := b5 i q e
          exact ⟨ps, s4 _ _ p1, p2.mono fun q xs z => s4 _ _ z⟩⟩, ⟨vps, s4 _ _ v2, lvp, fun r q e => (hvs r q e).same s24⟩, hc.len, fun r => by
          by_cases hr' : r < F.R
          · exact (gvs r hr').2
          · unfold vat
            rw [List.getD_eq_getElem?_getD, List.getElem?_eq_none (by rw [hc.len]; omega)]
            exact Nat.zero_le _, hF⟩
      have YX : JnX K CJ H4 H6 F vs p d wt vl cl al jl (jn0 F) := ⟨YC, s46, s5.free ncl, s5.free nal, s5.free njl, n1, n2, n3, JA, List.length_replicate .., fun r => by
        have : cat_ (jn0 F).cnt r = 0 := by
          show (List.replicate F.R 0).getD r 0 = 0
          rw [List.getD_eq_getElem?_getD, List.getElem?_replicate]
          split <;> rfl
        rw [this]
        exact Nat.zero_le _⟩
      refine ⟨_, rfl, p, d, _, rfl, JA.hp, rfl, H4, F, vs, p, d, wt, vl, cl, al, jl, row, rfl, YX, hv, hc, fun k ka kb kV J' H7 Y7 e => ?_, fun x y hx hy hno e H7 s7 ne => ?_⟩
      · have hj := Y7.at_.hj
        rw [e] at hj
        exact ⟨_, rfl, p, CJ, d, _, _, rfl, Y7.at_.hp, TJ.cl, TJ.n5, rfl, k1 k ka kb kV jl H7 (s24.trans Y7.s) (s24.free Y7.fj) hj⟩
      · exact k2 x y hx hy hno e H7 (s24.trans s7) ne
end
end OH
end
section
set_option Elab.async false
set_option linter.all false
set_option maxRecDepth 100000
set_option maxHeartbeats 4000000
/-! What the law says of control and asks. -/
namespace OH
open PySem PySem.Spec PyProof.Rows L2
def AkAt (H : Hp) (l : Addr) (as : List (Int × Int)) : Prop := ∃ ps : List Addr, H l = some (.lst (ps.map V.ref)) ∧ AllAt H pairV ps as
theorem AkAt.same {H H' : Hp} {l : Addr} {as : List (Int × Int)} (h : AkAt H l as) (s : Same H H') : AkAt H' l as := by
  obtain ⟨ps, h1, h2⟩ := h
  exact ⟨ps, s _ _ h1, h2.mono fun q xs e => s _ _ e⟩
theorem AllAt.drop_ {α : Type} {H : Hp} {f : α → List V} : ∀ {xs : List α} {ps : List Addr}, AllAt H f ps xs → AllAt H f ps.dropLast xs.dropLast
  | [], _, h => by
    cases h
    exact .nil
  | [a], _, h => by
    cases h with
    | cons e t =>
      cases t
      exact .nil
  | a :: b :: r, _, h => by
    cases h with
    | cons e t =>
      cases t with
      | cons e2 t2 => exact .cons e (AllAt.drop_ (xs := b :: r) (.cons e2 t2))
def spBehind (K : PySem.W.Frag) : Sp := fun vs H Q _ => ∃ (cv : V) (al t : Addr) (c : Option Int) (as : List (Int × Int)) (x : Crs), vs = [cv, .ref al, .ref t] ∧ AkAt H al as ∧ H t = some (.tup x.vs) ∧ as.length ≤ 100000 ∧
  ∀ u al' H', Same H H' → H u = none → (al' = al ∨ H al' = none) → H' u = some (.tup [optV (bh (c, as) x).1, .ref al']) → AkAt H' al' (bh (c, as) x).2 → Q (.ref u) H'
section
variable {P : Program} {w : World} {K : PySem.W.Frag} {mg : Str → Option Value} {base : Heap}
theorem sc__law_behind : FnScope ["control", "asks", "crossing"] ["control", "asks", "crossing"] (defScope s__law_behind) := ⟨rfl, rfl, rfl, by decide +kernel, rfl, by decide +kernel, by decide +kernel⟩
theorem ok__law_behind {f : Addr} {fd : FuncData} (F : Fun K "_law_behind" "_law_behind" s__law_behind f fd) : FnOk P w K mg base CX0 1 f fd ["control", "asks", "crossing"] (spBehind K) := by
  refine F.ok sc__law_behind (fun vs H Q E h => ?_) (fun cdv A outer s H vs Q E hr h => ?_)
  · obtain ⟨cv, al, t, c, as, x, rfl, _⟩ := h
    rfl
  · obtain ⟨cv, al, t, c, as, x, rfl, ha, ht, hn, k⟩ := h
    refine ⟨_, pss_cons (ps_if (pt_cmpR op_eq (pe_ix ix_tup (pv 2) pe_int (fun _ _ => rfl)) pe_str (nomark _)) (pss_one (ps_ret (pe_tup (pa_cons (pe_ix ix_tup (pv 2) pe_int (fun _ _ => rfl)) (pa_cons (pe_op op_cat (pv 1) (pe_lst (pa_cons (pe_tup (pa_cons (pe_ix ix_tup (pv 2) pe_int (fun _ _ => rfl)) (pa_cons (pe_ix ix_tup (pv 2) pe_int (fun _ _ => rfl)) pa_nil))) pa_nil))) pa_nil))))) pss_nil)
      (pss_cons (ps_if (pt_cmpR op_eq (pe_ix ix_tup (pv 2) pe_int (fun _ _ => rfl)) pe_str (nomark _)) (pss_one (ps_ret (pe_tup (pa_cons (pe_ix ix_tup (pv 2) pe_int (fun _ _ => rfl)) (pa_cons (pe_slice sl_list (pv 1) po_none (po_some (pe_un un_neg pe_int))) pa_nil))))) pss_nil)
      (pss_one (ps_ret (pe_tup (pa_cons (pe_ifExp (pt_cmpR op_eq (pe_ix ix_tup (pv 2) pe_int (fun _ _ => rfl)) pe_str (nomark _)) pe_int pe_non) (pa_cons (pv 1) pa_nil)))))), ?_⟩
    obtain ⟨ps, a1, a2⟩ := ha
    have lp := a2.len
    have T : SqT K H t x.vs := SqT.of ht
    have keep : ∀ {v : V} {w0 : Option Int}, v = optV w0 → (bh (c, as) x) = (w0, as) → ∀ u, H u = none → Q (.ref u) (upd H u (.tup [v, .ref al])) := fun {v w0} e1 e2 u nu => by
      have s1 := sadd (o := .tup [v, .ref al]) (Same.refl H) nu
      exact k u al _ s1 nu (.inl rfl) (by rw [e2, upd_same, e1]) (by rw [e2]; exact ⟨ps, s1 _ _ a1, a2.mono fun q xs e => s1 _ _ e⟩)
    cases x with
    | call a b d n =>
      refine ⟨_, rfl, t, _, 0, _, rfl, rfl, T, rfl, rfl, _, rfl, iteT ?_⟩
      refine ⟨_, rfl, t, _, 2, _, rfl, rfl, T, rfl, _, rfl, _, rfl, t, _, 1, _, rfl, rfl, T, rfl, _, rfl, t, _, 2, _, rfl, rfl, T, rfl, (by show 2 ≤ sizeLine; decide), fun pq npq => ?_⟩
      have s1 := sadd (o := .tup [.int a, .int b]) (Same.refl H) npq
      have hpq : upd H pq (.tup [.int a, .int b]) pq = some (.tup (pairV (a, b))) := upd_same
      generalize upd H pq (.tup [.int a, .int b]) = H1 at s1 hpq ⊢
      refine ⟨(by show 1 ≤ sizeLine; decide), fun la nla => ?_⟩
      have s2 := sadd (o := .lst [.ref pq]) s1 nla
      have s12 := sadd (o := .lst [.ref pq]) (Same.refl H1) nla
      have hla : upd H1 la (.lst [.ref pq]) la = some (.lst [.ref pq]) := upd_same
      have hp2 := s12 _ _ hpq
      generalize upd H1 la (.lst [.ref pq]) = H2 at s2 hla hp2 ⊢
      refine ⟨al, la, _, _, rfl, rfl, s2 _ _ a1, hla, (by rw [List.length_map, lp, sizeLine_eq]; show _ + 1 ≤ _; omega), fun ca nca => ?_⟩
      have s3 := sadd (o := .lst (ps.map V.ref ++ [.ref pq])) s2 nca
      have s23 := sadd (o := .lst (ps.map V.ref ++ [.ref pq])) (Same.refl H2) nca
      have hca : upd H2 ca (.lst (ps.map V.ref ++ [.ref pq])) ca = some (.lst ((ps ++ [pq]).map V.ref)) := by rw [upd_same, List.map_append]; rfl
      have hp3 := s23 _ _ hp2
      generalize upd H2 ca (.lst (ps.map V.ref ++ [.ref pq])) = H3 at s3 hca hp3 ⊢
      refine ⟨(by show 2 ≤ sizeLine; decide), fun u nu => ?_⟩
      have s4 := sadd (o := .tup [.int b, .ref ca]) s3 nu
      have s34 := sadd (o := .tup [.int b, .ref ca]) (Same.refl H3) nu
      exact k u ca _ s4 (s3.free nu) (.inr (s2.free nca)) upd_same ⟨ps ++ [pq], s34 _ _ hca, AllAt.app (a2.mono fun q xs e => s4 _ _ e) (s34 _ _ hp3)⟩
    | back a b n =>
      refine ⟨_, rfl, t, _, 0, _, rfl, rfl, T, rfl, rfl, _, rfl, iteF ?_⟩
      refine ⟨_, rfl, t, _, 0, _, rfl, rfl, T, rfl, rfl, _, rfl, iteT ?_⟩
      refine ⟨_, rfl, t, _, 2, _, rfl, rfl, T, rfl, _, rfl, _, rfl, _, rfl, al, _, rfl, SqL.of a1, fun r nr => ?_⟩
      rw [cutV_pop]
      have s1 := sadd (o := .lst (ps.map V.ref).dropLast) (Same.refl H) nr
      have hr1 : upd H r (.lst (ps.map V.ref).dropLast) r = some (.lst (ps.dropLast.map V.ref)) := by rw [upd_same, List.map_dropLast]
      generalize upd H r (.lst (ps.map V.ref).dropLast) = H1 at s1 hr1 ⊢
      refine ⟨(by show 2 ≤ sizeLine; decide), fun u nu => ?_⟩
      have s2 := sadd (o := .tup [.int b, .ref r]) s1 nu
      have s12 := sadd (o := .tup [.int b, .ref r]) (Same.refl H1) nu
      exact k u r _ s2 (s1.free nu) (.inr nr) upd_same ⟨ps.dropLast, s12 _ _ hr1, (a2.mono fun q xs e => s2 _ _ e).drop_⟩
    | start n =>
      refine ⟨_, rfl, t, _, 0, _, rfl, rfl, T, rfl, rfl, _, rfl, iteF ?_⟩
      refine ⟨_, rfl, t, _, 0, _, rfl, rfl, T, rfl, rfl, _, rfl, iteF ?_⟩
      refine ⟨_, rfl, t, _, 0, _, rfl, rfl, T, rfl, rfl, _, rfl, iteT ?_⟩
      exact ⟨_, rfl, (by show 2 ≤ sizeLine; decide), keep (w0 := some 0) rfl rfl⟩
    | _ =>
      refine ⟨_, rfl, t, _, 0, _, rfl, rfl, T, rfl, rfl, _, rfl, iteF ?_⟩
      refine ⟨_, rfl, t, _, 0, _, rfl, rfl, T, rfl, rfl, _, rfl, iteF ?_⟩
      refine ⟨_, rfl, t, _, 0, _, rfl, rfl, T, rfl, rfl, _, rfl, iteF ?_⟩
      exact ⟨_, rfl, (by show 2 ≤ sizeLine; decide), keep (w0 := none) rfl rfl⟩
end
end OH
end
section
set_option Elab.async false
set_option linter.all false
set_option maxRecDepth 100000
set_option maxHeartbeats 4000000
/-! Control and asks behind a row. -/
namespace OH
open PySem PySem.Spec PyProof.Rows L2
theorem stt_len : ∀ (cs : List Crs) (s : Rs), (stt s cs).2.length ≤ s.2.length + cs.length
  | [], s => Nat.le_refl _
  | x :: xs, s => by
    have h1 := stt_len xs (bh s x)
    have h2 : (bh s x).2.length ≤ s.2.length + 1 := by
      cases x with
      | call a b d n => show (s.2 ++ [(a, b)]).length ≤ _; rw [List.length_append]; exact Nat.le_refl _
      | back a b n => show (s.2.dropLast).length ≤ _; rw [List.length_dropLast]; omega
      | _ => exact Nat.le_succ _
    show (stt (bh s x) xs).2.length ≤ _
    rw [List.length_cons]
    omega
def spBehindRow : Sp := fun vs H Q _ => ∃ (l : Addr) (cs : List Crs), vs = [.ref l] ∧ RwAt H l cs ∧ cs.length ≤ 1000 ∧
  ∀ u al' H', Same H H' → H u = none → H al' = none → H' u = some (.tup [optV (stt (none, []) cs).1, .ref al']) → AkAt H' al' (stt (none, []) cs).2 → Q (.ref u) H'
section
variable {P : Program} {w : World} {K : PySem.W.Frag} {mg : Str → Option Value} {base : Heap}
abbrev nBr : List Str := ["row", "control", "asks", "crossing"]
end
end OH
end
section
set_option Elab.async false
set_option linter.all false
set_option maxRecDepth 100000
set_option maxHeartbeats 4000000
/-! One list a beginning of another. -/
namespace OH
open PySem PySem.Spec PyProof.Rows L2
theorem same_seq {K : PySem.W.Frag} {H H' : Hp} {a : Addr} {xs : List V} (s : Same H H') (h : SqL K H a xs) : SqL K H' a xs := h.elim (fun h => .inl (h.elim (fun h => .inl (s _ _ h)) fun ⟨o, h⟩ => .inr ⟨o, s _ _ h⟩)) fun h => .inr h
mutual
theorem Dp_mono {K : PySem.W.Frag} {H H' : Hp} {v : V} {d : PyData} : Dp K H v d → Same H H' → Dp K H' v d
  | .non, _ => .non
  | .bl b, _ => .bl b
  | .int i, _ => .int i
  | .str x, _ => .str x
  | .lst h hs, s => .lst (same_seq s h) (DpAll_mono hs s)
  | .tup h hs, s => .tup (h.imp (fun e => e.imp (fun q => s _ _ q) fun ⟨o, q⟩ => ⟨o, s _ _ q⟩) id) (DpAll_mono hs s)
theorem DpAll_mono {K : PySem.W.Frag} {H H' : Hp} {vs : List V} {ds : List PyData} : DpAll K H vs ds → Same H H' → DpAll K H' vs ds
  | .nil, _ => .nil
  | .cons h hs, s => .cons (Dp_mono h s) (DpAll_mono hs s)
end
theorem DpAll_take {K : PySem.W.Frag} {H : Hp} : ∀ {n : Nat} {vs : List V} {ds : List PyData}, DpAll K H vs ds → DpAll K H (vs.take n) (ds.take n)
  | 0, _, _, _ => .nil
  | n + 1, [], _, h => by
    cases h
    exact .nil
  | n + 1, v :: vs, _, h => by
    cases h with
    | cons e t => exact .cons e (DpAll_take (n := n) t)
theorem DpAll_len {K : PySem.W.Frag} {H : Hp} : ∀ {vs : List V} {ds : List PyData}, DpAll K H vs ds → vs.length = ds.length
  | [], _, h => by
    cases h
    rfl
  | v :: vs, _, h => by
    cases h with
    | cons e t => exact congrArg (· + 1) (DpAll_len t)
theorem cutV_take (xs : List V) (n : Nat) : cutV xs none (some (n : Int)) = xs.take n := by
  unfold cutV
  have e1 : HT.sIx xs.length 0 none = 0 := by simp [HT.sIx]
  have e2 : HT.sIx xs.length xs.length (some (n : Int)) = min n xs.length := by
    show (if ((n : Int) < 0) then ((n : Int) + (xs.length : Int)).toNat else min ((n : Int)).toNat xs.length) = _
    rw [if_neg (by omega), Int.toNat_natCast]
  rw [e1, e2, List.drop_zero, Nat.sub_zero]
  by_cases h : n ≤ xs.length
  · rw [Nat.min_eq_left h]
  · rw [Nat.min_eq_right (by omega), List.take_length, List.take_of_length_le (by omega)]
def spIsB (K : PySem.W.Frag) : Sp := fun vs H Q _ => ∃ (a b : Addr) (xs ys : List V) (ds es : List PyData), vs = [.ref a, .ref b] ∧ H a = some (.lst xs) ∧ H b = some (.lst ys) ∧ DpAll K H xs ds ∧ DpAll K H ys es ∧ xs.length ≤ 100000 ∧ ys.length ≤ 100000 ∧
  SeqAt.shaped (.list ds) = true ∧ SeqAt.shaped (.list (es.take ds.length)) = true ∧ ∀ H', Same H H' → Q (.bl (PyData.eqv (.list (es.take ds.length)) (.list ds))) H'
section
variable {P : Program} {w : World} {K : PySem.W.Frag} {mg : Str → Option Value} {base : Heap}
end
end OH
end
section
set_option Elab.async false
set_option linter.all false
set_option maxRecDepth 100000
set_option maxHeartbeats 4000000
/-! A few numbers. -/
namespace OH
open PySem PySem.Spec PyProof.Rows L2
def spFew : Sp := fun vs H Q _ => ∃ (st g c : Addr) (n : Nat), vs = [.ref st] ∧ SA H st g c n ∧ n ≤ 800000 ∧
  ∀ (l : Addr) (ns : List Int) (H' : Hp), H l = none → l ≠ st → l ≠ g → l ≠ c → H' l = some (.lst (ns.map V.int)) → 1 ≤ ns.length → ns.length ≤ 3 → (∀ z ∈ ns, Num z) → SA H' st g c (n + 7) → Fr st g H H' → Q (.ref l) H'
section
variable {P : Program} {w : World} {K : PySem.W.Frag} {mg : Str → Option Value} {base : Heap}
abbrev nFew : List Str := ["state", "turn"]
theorem sc__law_few : FnScope nFew ["state"] (defScope s__law_few) := ⟨rfl, rfl, rfl, by decide +kernel, rfl, by decide +kernel, by decide +kernel⟩
theorem ok__law_few {f : Addr} {fd : FuncData} (F : Fun K "_law_few" "_law_few" s__law_few f fd) (T : Txt K mg) (DD : DefF P w K mg base CX0 8 "_law_draw" ["state", "room"] spDraw) (DS : DefF P w K mg base CX0 8 "_law_small" ["state"] (spNo 2)) : FnOk P w K mg base CX0 9 f fd ["state"] spFew := by
  refine F.ok sc__law_few (fun vs H Q E h => ?_) (fun cdv A outer s H vs Q E hr h => ?_)
  · obtain ⟨st, g, c, n, rfl, _⟩ := h
    rfl
  · obtain ⟨st, g, c, n, rfl, S, hn, k⟩ := h
    have nd := sc__law_few.nd
    refine ⟨_, pss_one (ps_ret (pe_lc (own := [("turn", 1)]) (g := gName 1) (tt := tYes) (te := tCall (spNo 2) [] (fun _ _ _ => False) (tCons (tVar 0) tNil)) rfl nd (pi_range1 rfl T.nRange (pa_cons (pe_op op_add pe_int (pe_cD DD hr rfl pass0 (pa_cons (pv 0) (pa_cons pe_int pa_nil)))) pa_nil)) (blkOk_by (own := [("turn", 1)]) (N := nFew) (sc := defScope s__law_few) (by decide +kernel)) (fun _ _ _ _ _ => (pg_name (i := 1) nd rfl (Or.inl rfl))) (fun _ _ _ _ _ => pts_nil) (fun _ _ _ _ _ => (pe_cD DS hr rfl pass0 (pa_cons (pv 0) pa_nil))))), ?_⟩
    refine ⟨_, rfl, st, g, c, n, 3, rfl, S, by omega, by decide, by decide, fun u H1 u0 u3 S1 F1 => ?_⟩
    refine ⟨_, _, rfl, rfl, _, rfl, by omega, by omega, fun D nD => ?_⟩
    obtain ⟨m, em⟩ : ∃ m : Nat, 1 + u = (m : Int) := ⟨(1 + u).toNat, by omega⟩
    rw [em, Int.toNat_natCast]
    have zD := S1.old nD
    have sD := sadd (o := .lst []) (Same.refl H1) nD
    refine lc_range (lo := 0) (n := m) (fun i H' => ∃ ns : List Int, ns.length = i ∧ H' D = some (.lst (ns.map V.int)) ∧ (∀ z ∈ ns, Num z) ∧ SA H' st g c (n + 1 + 2 * i) ∧ Fr st g H1 H') ?h0 ?turn ?done
    case h0 => exact ⟨[], rfl, upd_same, fun z hz => absurd hz List.not_mem_nil, S1.same sD, Fr.of sD⟩
    case turn =>
      rintro i H4 hi ⟨ns, ln, hD, nm, S4, F4⟩
      refine ⟨rfl, ?_⟩
      unfold tYes
      refine iteT ?_
      refine ⟨_, rfl, st, g, c, n + 1 + 2 * i, rfl, S4, by omega, fun z H5 z0 z9 S5 F5 => ?_⟩
      have hD5 : H5 D = some (.lst (ns.map V.int)) := F5 _ _ hD zD.1 zD.2.1
      refine ⟨_, hD5, by rw [List.length_map, sizeLine_eq]; omega, ns ++ [z], by rw [List.length_append, ln]; rfl, by rw [upd_same, List.map_append]; rfl, fun y hy => ?_, (S5.put zD).mono (by omega), (F4.trans F5).out nD⟩
      rcases List.mem_append.mp hy with h | h
      · exact nm y h
      · rw [List.mem_singleton.mp h]
        exact ⟨z0, z9⟩
    case done =>
      rintro H4 ⟨ns, ln, hD, nm, S4, F4⟩
      exact k D ns H4 (F1.free nD zD.1 zD.2.1) zD.1 zD.2.1 zD.2.2 hD (by omega) (by omega) nm (S4.mono (by omega)) (F1.trans F4)
end
end OH
end
section
set_option Elab.async false
set_option linter.all false
set_option maxRecDepth 100000
set_option maxHeartbeats 8000000
/-! The law's views. -/
namespace OH
open PySem PySem.Spec PyProof.Rows L2
def spLView (K : PySem.W.Frag) : Sp := fun vs H Q _ => ∃ (l : Addr) (r : Int) (cs : List Crs), vs = [.ref l, .int r] ∧ RwAt H l cs ∧ cs.length ≤ 1000 ∧
  ∀ q H', Same H H' → H q = none → VwAt K H' q (OH.vw r cs) → Q (.ref q) H'
theorem VwAt.add {K : PySem.W.Frag} {H : Hp} {q t : Addr} {its : List It} {it : It} {ps : List Addr} (h : H q = some (.lst (ps.map V.ref))) (h2 : AllQ K H It.vs ps its) (ht : H t = some (.tup it.vs)) : VwAt K (upd H q (.lst (ps.map V.ref ++ [.ref t]))) q (its ++ [it]) :=
  ⟨ps ++ [t], by rw [upd_same, List.map_append]; rfl, (h2.mono fun a zs z => z.upl h).app ((SqT.of ht).upl h)⟩
section
variable {P : Program} {w : World} {K : PySem.W.Frag} {mg : Str → Option Value} {base : Heap}
abbrev nLv : List Str := ["row", "room", "found", "asks", "crossing", "word"]
theorem sc__law_view : FnScope nLv ["row", "room"] (defScope s__law_view) := ⟨rfl, rfl, rfl, by decide +kernel, rfl, by decide +kernel, by decide +kernel⟩
theorem ok__law_view {f : Addr} {fd : FuncData} (F : Fun K "_law_view" "_law_view" s__law_view f fd) : FnOk P w K mg base CX0 1 f fd ["row", "room"] (spLView K) := by
  refine F.ok sc__law_view (fun vs H Q E h => ?_) (fun cdv A outer s H vs Q E hr h => ?_)
  · obtain ⟨l, r, cs, rfl, _⟩ := h
    rfl
  · obtain ⟨l, r, cs, rfl, hl, hn, k⟩ := h
    have nd := sc__law_view.nd
    refine ⟨_, pss_cons (ps_par (i := 2) (j := 3) (by rfl) nd rfl rfl (by decide) rfl rfl (pa_cons (pe_lst pa_nil) (pa_cons (pe_lst pa_nil) pa_nil)) (by rfl))
      (pss_cons (ps_for PassesOwn.never rfl (pi_list (pv 0)) (pg_name (i := 4) nd rfl (Or.inl rfl))
        (pss_cons (ps_set (i := 5) nd rfl (Or.inl rfl) (pe_ix ix_tup (pv 4) pe_int (fun _ _ => rfl)))
      (pss_cons (ps_if (PW.pt (pw_and (pt_cmpR op_in_seq (pv 5) (pe_lst (pa_cons pe_str (pa_cons pe_str pa_nil))) (by rfl)) (pw_and1 (pt_cmpR op_eq (pv 1) pe_int (nomark _))))) (pss_one (ps_expr (pe_bm PySem.F.plainAttrs_list PySem.F.slot_list_append PySem.F.type_list_append mt_append (pv 2) (pa_cons (pe_ifExp (pt_cmpR op_eq (pv 5) pe_str (nomark _)) (pe_tup (pa_cons pe_str (pa_cons pe_int (pa_cons (pe_ix ix_tup (pv 4) pe_int (fun _ _ => rfl)) pa_nil)))) (pe_tup (pa_cons pe_str (pa_cons (pe_ix ix_tup (pv 4) pe_int (fun _ _ => rfl)) pa_nil)))) pa_nil)))) pss_nil)
      (pss_cons (ps_if (PW.pt (pw_and (pt_cmpR op_in_seq (pv 5) (pe_lst (pa_cons pe_str (pa_cons pe_str pa_nil))) (by rfl)) (pw_and1 (pt_cmpR op_eq (pe_ix ix_tup (pv 4) pe_int (fun _ _ => rfl)) (pv 1) (nomark _))))) (pss_one (ps_expr (pe_bm PySem.F.plainAttrs_list PySem.F.slot_list_append PySem.F.type_list_append mt_append (pv 2) (pa_cons (pe_tup (pa_cons pe_str (pa_cons (pe_ix ix_tup (pv 4) pe_int (fun _ _ => rfl)) (pa_cons (pe_ix ix_tup (pv 4) pe_int (fun _ _ => rfl)) (pa_cons (pe_ix ix_tup (pv 4) pe_int (fun _ _ => rfl)) pa_nil))))) pa_nil)))) pss_nil)
      (pss_cons (ps_if (PW.pt (pw_and (pt_cmpR op_eq (pv 5) pe_str (nomark _)) (pw_and1 (pt_cmpR op_eq (pe_ix ix_tup (pv 4) pe_int (fun _ _ => rfl)) (pv 1) (nomark _))))) (pss_one (ps_expr (pe_bm PySem.F.plainAttrs_list PySem.F.slot_list_append PySem.F.type_list_append mt_append (pv 2) (pa_cons (pe_tup (pa_cons pe_str (pa_cons (pe_ix ix_tup (pv 4) pe_int (fun _ _ => rfl)) (pa_cons (pe_ix ix_tup (pv 4) pe_int (fun _ _ => rfl)) pa_nil)))) pa_nil)))) pss_nil)
      (pss_cons (ps_if (PW.pt (pw_and (pt_cmpR op_eq (pv 5) pe_str (nomark _)) (pw_and1 (pt_cmpR op_eq (pe_ix ix_tup (pv 4) pe_int (fun _ _ => rfl)) (pv 1) (nomark _))))) (pss_one (ps_expr (pe_bm PySem.F.plainAttrs_list PySem.F.slot_list_append PySem.F.type_list_append mt_append (pv 2) (pa_cons (pe_tup (pa_cons pe_str (pa_cons (pe_ix ix_tup (pv 4) pe_int (fun _ _ => rfl)) pa_nil))) pa_nil)))) pss_nil)
      (pss_cons (ps_if (PW.pt (pw_and (pt_cmpR op_eq (pv 5) pe_str (nomark _)) (pw_and1 (pt_cmpR op_eq (pe_ix ix_tup (pv 4) pe_int (fun _ _ => rfl)) (pv 1) (nomark _))))) (pss_one (ps_expr (pe_bm PySem.F.plainAttrs_list PySem.F.slot_list_append PySem.F.type_list_append mt_append (pv 2) (pa_cons (pe_tup (pa_cons pe_str (pa_cons (pe_ix ix_tup (pv 4) pe_int (fun _ _ => rfl)) pa_nil))) pa_nil)))) pss_nil)
      (pss_one (ps_if (PW.pt (pw_and (pt_cmpR op_eq (pv 5) pe_str (nomark _)) (pw_and1 (pt_cmpR op_eq (pe_ix ix_tup (pv 4) pe_int (fun _ _ => rfl)) (pv 1) (nomark _))))) (pss_one (ps_expr (pe_bm PySem.F.plainAttrs_list PySem.F.slot_list_append PySem.F.type_list_append mt_append (pv 2) (pa_cons (pe_tup (pa_cons pe_str pa_nil)) pa_nil)))) pss_nil)))))))))
      (pss_one (ps_ret (pv 2)))), ?_⟩
    obtain ⟨ps, h1, h2⟩ := hl
    have lp := h2.len
    refine ⟨(by show 0 ≤ sizeLine; decide), fun q nq => ⟨(by show 0 ≤ sizeLine; decide), fun al nal => ⟨_, _, rfl, ?_⟩⟩⟩
    have s1 := sadd (o := .lst []) (Same.refl H) nq
    have hq : upd H q (.lst []) q = some (.lst []) := upd_same
    have s2 := sadd (o := .lst []) s1 nal
    have hq2 := (sadd (o := .lst []) (Same.refl _) nal : Same (upd H q (.lst [])) _) _ _ hq
    generalize upd (upd H q (.lst [])) al (.lst []) = H1 at s2 hq2 ⊢
    refine ⟨_, rfl, l, rfl, ⟨_, SqL.of (s2 _ _ h1)⟩, ?_⟩
    refine for_list (xs := ps.map V.ref) (fun i σ H' => ∃ o4 o5 : Option V, σ = [some (.ref l), some (.int r), some (.ref q), some (.ref al), o4, o5] ∧ Same H H' ∧ VwAt K H' q (OH.vw r (cs.take i)))
      ⟨none, none, rfl, s2, ⟨[], hq2, .nil⟩⟩ (fun i σ H' _ ⟨_, _, _, s, _⟩ => SqL.of (s _ _ h1)) ?turn ?done
    case done =>
      rintro σ H4 ⟨o4, o5, rfl, s4, V4⟩
      have e : cs.take (ps.map V.ref).length = cs := by rw [List.length_map, lp]; exact List.take_length
      rw [e] at V4
      exact ⟨_, rfl, k q H4 s4 nq V4⟩
    case turn =>
      rintro i y σ H4 hy ⟨o4, o5, rfl, s4, V4⟩
      rw [List.getElem?_map] at hy
      obtain ⟨c, hc, rfl⟩ := Option.map_eq_some_iff.mp hy
      obtain ⟨x, hx⟩ : ∃ x, cs[i]? = some x := ⟨_, List.getElem?_eq_getElem (by rw [← lp]; exact (List.getElem?_eq_some_iff.mp hc).1)⟩
      obtain ⟨c', hc', hcx⟩ := h2.get hx
      rw [hc] at hc'
      cases hc'
      have hc4 := s4 _ _ hcx
      have tki : OH.vw r (cs.take (i + 1)) = OH.vw r (cs.take i) ++ shown r x := by
        rw [List.take_add_one, hx, vw_app]
        show _ ++ OH.vw r [x] = _
        rw [show OH.vw r [x] = shown r x from List.append_nil _]
      have sz : (OH.vw r (cs.take i)).length ≤ 2000 := by
        have h := vw_bound r (cs.take i)
        rw [List.length_take] at h
        omega
      obtain ⟨ips, i1, i2⟩ := V4
      have li := i2.len
      have j4 := i1
      have k4 := i2
      cases x with
      | fin a =>
        refine ⟨_, rfl, c, _, 0, _, rfl, rfl, SqT.of hc4, rfl, ?_⟩
        refine ⟨_, rfl, (by show 2 ≤ sizeLine; decide), fun x5 nx5 => ?_⟩
        have t5 := sadd (o := .lst [.str "start", .str "done"]) (Same.refl H4) nx5
        have hx5 : upd H4 x5 (.lst [.str "start", .str "done"]) x5 = some (.lst [.str "start", .str "done"]) := upd_same
        generalize upd H4 x5 (.lst [.str "start", .str "done"]) = H5 at t5 hx5 ⊢
        have s5 := s4.trans t5
        have j5 := t5 _ _ j4
        have k5 := k4.same t5
        have hc5 := t5 _ _ hc4
        refine ⟨x5, _, rfl, .inl (SqL.of hx5), rfl, rfl, _, rfl, iteF ?_⟩
        refine ⟨_, rfl, (by show 2 ≤ sizeLine; decide), fun x6 nx6 => ?_⟩
        have t6 := sadd (o := .lst [.str "call", .str "deep"]) (Same.refl H5) nx6
        have hx6 : upd H5 x6 (.lst [.str "call", .str "deep"]) x6 = some (.lst [.str "call", .str "deep"]) := upd_same
        generalize upd H5 x6 (.lst [.str "call", .str "deep"]) = H6 at t6 hx6 ⊢
        have s6 := s5.trans t6
        have j6 := t6 _ _ j5
        have k6 := k5.same t6
        have hc6 := t6 _ _ hc5
        refine ⟨x6, _, rfl, .inl (SqL.of hx6), rfl, rfl, _, rfl, iteF ?_⟩
        refine ⟨_, rfl, rfl, _, rfl, iteF ?_⟩
        refine ⟨_, rfl, rfl, _, rfl, iteF ?_⟩
        refine ⟨_, rfl, rfl, _, rfl, iteF ?_⟩
        refine ⟨_, rfl, rfl, _, rfl, iteT ?_⟩
        refine ⟨_, rfl, c, _, 1, _, rfl, rfl, SqT.of hc6, rfl, _, rfl, rfl, _, rfl, ?_⟩
        refine ite2 (fun z => ?_) (fun z => ?_)
        · have e65 : r = a := (V.int.inj (of_decide_eq_true z)).symm
          refine ⟨_, rfl, .inl ⟨rfl, _, SqL.of j6⟩, ?_⟩
          refine ⟨(by show 1 ≤ sizeLine; decide), fun u7 nu7 => ?_⟩
          have t7 := sadd (o := .tup [.str "ends"]) (Same.refl H6) nu7
          have hu7 : upd H6 u7 (.tup [.str "ends"]) u7 = some (.tup (It.ends).vs) := upd_same
          generalize upd H6 u7 (.tup [.str "ends"]) = G7 at t7 hu7 ⊢
          refine ⟨q, _, _, rfl, rfl, t7 _ _ j6, (by have := (k6).len; simp only [List.length_map, List.length_append, List.length_cons, List.length_nil, sizeLine_eq] at this ⊢; omega), ?_⟩
          have v7 := VwAt.add (it := It.ends) (t7 _ _ j6) (k6.same t7) hu7
          have s7 := sout (o := .lst (ips.map V.ref ++ [.ref u7])) (s6.trans t7) nq
          have hc7 := s7 _ _ hcx
          generalize upd G7 q (.lst (ips.map V.ref ++ [.ref u7])) = H7 at v7 s7 hc7 ⊢
          obtain ⟨ip7, j7, k7⟩ := v7
          refine ⟨_, _, rfl, s7, ?_⟩
          rw [tki, show shown r (.fin a) = if r = a then [It.ends] else [] from rfl, if_pos e65]
          have hh : VwAt K H7 q (OH.vw r (cs.take i) ++ [It.ends]) := ⟨_, j7, k7⟩
          simpa only [List.append_assoc, List.append_nil, List.nil_append] using hh
        · have e65 : ¬ r = a := fun y => z (decide_eq_true (by rw [y]))
          refine ⟨_, _, rfl, s6, ?_⟩
          rw [tki, show shown r (.fin a) = if r = a then [It.ends] else [] from rfl, if_neg e65]
          have hh : VwAt K H6 q (OH.vw r (cs.take i)) := ⟨_, j6, k6⟩
          simpa only [List.append_assoc, List.append_nil, List.nil_append] using hh
      | start n =>
        refine ⟨_, rfl, c, _, 0, _, rfl, rfl, SqT.of hc4, rfl, ?_⟩
        refine ⟨_, rfl, (by show 2 ≤ sizeLine; decide), fun x8 nx8 => ?_⟩
        have t8 := sadd (o := .lst [.str "start", .str "done"]) (Same.refl H4) nx8
        have hx8 : upd H4 x8 (.lst [.str "start", .str "done"]) x8 = some (.lst [.str "start", .str "done"]) := upd_same
        generalize upd H4 x8 (.lst [.str "start", .str "done"]) = H8 at t8 hx8 ⊢
        have s8 := s4.trans t8
        have j8 := t8 _ _ j4
        have k8 := k4.same t8
        have hc8 := t8 _ _ hc4
        refine ⟨x8, _, rfl, .inl (SqL.of hx8), rfl, rfl, _, rfl, iteT ?_⟩
        refine ⟨_, rfl, rfl, _, rfl, ?_⟩
        refine ite2 (fun z => ?_) (fun z => ?_)
        · have e80 : r = 0 := V.int.inj (of_decide_eq_true z)
          refine ⟨_, rfl, .inl ⟨rfl, _, SqL.of j8⟩, ?_⟩
          refine ⟨_, rfl, rfl, _, rfl, iteT ?_⟩
          refine ⟨_, rfl, c, _, 1, _, rfl, rfl, SqT.of hc8, rfl, (by show 3 ≤ sizeLine; decide), fun u9 nu9 => ?_⟩
          have t9 := sadd (o := .tup [.str "in", .int 0, .int n]) (Same.refl H8) nu9
          have hu9 : upd H8 u9 (.tup [.str "in", .int 0, .int n]) u9 = some (.tup (It.inn 0 n).vs) := upd_same
          generalize upd H8 u9 (.tup [.str "in", .int 0, .int n]) = G9 at t9 hu9 ⊢
          refine ⟨q, _, _, rfl, rfl, t9 _ _ j8, (by have := (k8).len; simp only [List.length_map, List.length_append, List.length_cons, List.length_nil, sizeLine_eq] at this ⊢; omega), ?_⟩
          have v9 := VwAt.add (it := It.inn 0 n) (t9 _ _ j8) (k8.same t9) hu9
          have s9 := sout (o := .lst (ips.map V.ref ++ [.ref u9])) (s8.trans t9) nq
          have hc9 := s9 _ _ hcx
          generalize upd G9 q (.lst (ips.map V.ref ++ [.ref u9])) = H9 at v9 s9 hc9 ⊢
          obtain ⟨ip9, j9, k9⟩ := v9
          refine ⟨_, rfl, (by show 2 ≤ sizeLine; decide), fun x10 nx10 => ?_⟩
          have t10 := sadd (o := .lst [.str "call", .str "deep"]) (Same.refl H9) nx10
          have hx10 : upd H9 x10 (.lst [.str "call", .str "deep"]) x10 = some (.lst [.str "call", .str "deep"]) := upd_same
          generalize upd H9 x10 (.lst [.str "call", .str "deep"]) = H10 at t10 hx10 ⊢
          have s10 := s9.trans t10
          have j10 := t10 _ _ j9
          have k10 := k9.same t10
          have hc10 := t10 _ _ hc9
          refine ⟨x10, _, rfl, .inl (SqL.of hx10), rfl, rfl, _, rfl, iteF ?_⟩
          refine ⟨_, rfl, rfl, _, rfl, iteF ?_⟩
          refine ⟨_, rfl, rfl, _, rfl, iteF ?_⟩
          refine ⟨_, rfl, rfl, _, rfl, iteF ?_⟩
          refine ⟨_, rfl, rfl, _, rfl, iteF ?_⟩
          refine ⟨_, _, rfl, s10, ?_⟩
          rw [tki, show shown r (.start n) = if r = 0 then [It.inn 0 n] else [] from rfl, if_pos e80]
          have hh : VwAt K H10 q (OH.vw r (cs.take i) ++ [It.inn 0 n]) := ⟨_, j10, k10⟩
          simpa only [List.append_assoc, List.append_nil, List.nil_append] using hh
        · have e80 : ¬ r = 0 := fun y => z (decide_eq_true (by rw [y]))
          refine ⟨_, rfl, (by show 2 ≤ sizeLine; decide), fun x11 nx11 => ?_⟩
          have t11 := sadd (o := .lst [.str "call", .str "deep"]) (Same.refl H8) nx11
          have hx11 : upd H8 x11 (.lst [.str "call", .str "deep"]) x11 = some (.lst [.str "call", .str "deep"]) := upd_same
          generalize upd H8 x11 (.lst [.str "call", .str "deep"]) = H11 at t11 hx11 ⊢
          have s11 := s8.trans t11
          have j11 := t11 _ _ j8
          have k11 := k8.same t11
          have hc11 := t11 _ _ hc8
          refine ⟨x11, _, rfl, .inl (SqL.of hx11), rfl, rfl, _, rfl, iteF ?_⟩
          refine ⟨_, rfl, rfl, _, rfl, iteF ?_⟩
          refine ⟨_, rfl, rfl, _, rfl, iteF ?_⟩
          refine ⟨_, rfl, rfl, _, rfl, iteF ?_⟩
          refine ⟨_, rfl, rfl, _, rfl, iteF ?_⟩
          refine ⟨_, _, rfl, s11, ?_⟩
          rw [tki, show shown r (.start n) = if r = 0 then [It.inn 0 n] else [] from rfl, if_neg e80]
          have hh : VwAt K H11 q (OH.vw r (cs.take i)) := ⟨_, j11, k11⟩
          simpa only [List.append_assoc, List.append_nil, List.nil_append] using hh
      | done n =>
        refine ⟨_, rfl, c, _, 0, _, rfl, rfl, SqT.of hc4, rfl, ?_⟩
        refine ⟨_, rfl, (by show 2 ≤ sizeLine; decide), fun x12 nx12 => ?_⟩
        have t12 := sadd (o := .lst [.str "start", .str "done"]) (Same.refl H4) nx12
        have hx12 : upd H4 x12 (.lst [.str "start", .str "done"]) x12 = some (.lst [.str "start", .str "done"]) := upd_same
        generalize upd H4 x12 (.lst [.str "start", .str "done"]) = H12 at t12 hx12 ⊢
        have s12 := s4.trans t12
        have j12 := t12 _ _ j4
        have k12 := k4.same t12
        have hc12 := t12 _ _ hc4
        refine ⟨x12, _, rfl, .inl (SqL.of hx12), rfl, rfl, _, rfl, iteT ?_⟩
        refine ⟨_, rfl, rfl, _, rfl, ?_⟩
        refine ite2 (fun z => ?_) (fun z => ?_)
        · have e120 : r = 0 := V.int.inj (of_decide_eq_true z)
          refine ⟨_, rfl, .inl ⟨rfl, _, SqL.of j12⟩, ?_⟩
          refine ⟨_, rfl, rfl, _, rfl, iteF ?_⟩
          refine ⟨_, rfl, c, _, 1, _, rfl, rfl, SqT.of hc12, rfl, (by show 2 ≤ sizeLine; decide), fun u13 nu13 => ?_⟩
          have t13 := sadd (o := .tup [.str "gives", .int n]) (Same.refl H12) nu13
          have hu13 : upd H12 u13 (.tup [.str "gives", .int n]) u13 = some (.tup (It.gives n).vs) := upd_same
          generalize upd H12 u13 (.tup [.str "gives", .int n]) = G13 at t13 hu13 ⊢
          refine ⟨q, _, _, rfl, rfl, t13 _ _ j12, (by have := (k12).len; simp only [List.length_map, List.length_append, List.length_cons, List.length_nil, sizeLine_eq] at this ⊢; omega), ?_⟩
          have v13 := VwAt.add (it := It.gives n) (t13 _ _ j12) (k12.same t13) hu13
          have s13 := sout (o := .lst (ips.map V.ref ++ [.ref u13])) (s12.trans t13) nq
          have hc13 := s13 _ _ hcx
          generalize upd G13 q (.lst (ips.map V.ref ++ [.ref u13])) = H13 at v13 s13 hc13 ⊢
          obtain ⟨ip13, j13, k13⟩ := v13
          refine ⟨_, rfl, (by show 2 ≤ sizeLine; decide), fun x14 nx14 => ?_⟩
          have t14 := sadd (o := .lst [.str "call", .str "deep"]) (Same.refl H13) nx14
          have hx14 : upd H13 x14 (.lst [.str "call", .str "deep"]) x14 = some (.lst [.str "call", .str "deep"]) := upd_same
          generalize upd H13 x14 (.lst [.str "call", .str "deep"]) = H14 at t14 hx14 ⊢
          have s14 := s13.trans t14
          have j14 := t14 _ _ j13
          have k14 := k13.same t14
          have hc14 := t14 _ _ hc13
          refine ⟨x14, _, rfl, .inl (SqL.of hx14), rfl, rfl, _, rfl, iteF ?_⟩
          refine ⟨_, rfl, rfl, _, rfl, iteF ?_⟩
          refine ⟨_, rfl, rfl, _, rfl, iteF ?_⟩
          refine ⟨_, rfl, rfl, _, rfl, iteF ?_⟩
          refine ⟨_, rfl, rfl, _, rfl, iteF ?_⟩
          refine ⟨_, _, rfl, s14, ?_⟩
          rw [tki, show shown r (.done n) = if r = 0 then [It.gives n] else [] from rfl, if_pos e120]
          have hh : VwAt K H14 q (OH.vw r (cs.take i) ++ [It.gives n]) := ⟨_, j14, k14⟩
          simpa only [List.append_assoc, List.append_nil, List.nil_append] using hh
        · have e120 : ¬ r = 0 := fun y => z (decide_eq_true (by rw [y]))
          refine ⟨_, rfl, (by show 2 ≤ sizeLine; decide), fun x15 nx15 => ?_⟩
          have t15 := sadd (o := .lst [.str "call", .str "deep"]) (Same.refl H12) nx15
          have hx15 : upd H12 x15 (.lst [.str "call", .str "deep"]) x15 = some (.lst [.str "call", .str "deep"]) := upd_same
          generalize upd H12 x15 (.lst [.str "call", .str "deep"]) = H15 at t15 hx15 ⊢
          have s15 := s12.trans t15
          have j15 := t15 _ _ j12
          have k15 := k12.same t15
          have hc15 := t15 _ _ hc12
          refine ⟨x15, _, rfl, .inl (SqL.of hx15), rfl, rfl, _, rfl, iteF ?_⟩
          refine ⟨_, rfl, rfl, _, rfl, iteF ?_⟩
          refine ⟨_, rfl, rfl, _, rfl, iteF ?_⟩
          refine ⟨_, rfl, rfl, _, rfl, iteF ?_⟩
          refine ⟨_, rfl, rfl, _, rfl, iteF ?_⟩
          refine ⟨_, _, rfl, s15, ?_⟩
          rw [tki, show shown r (.done n) = if r = 0 then [It.gives n] else [] from rfl, if_neg e120]
          have hh : VwAt K H15 q (OH.vw r (cs.take i)) := ⟨_, j15, k15⟩
          simpa only [List.append_assoc, List.append_nil, List.nil_append] using hh
      | deep a b d n =>
        refine ⟨_, rfl, c, _, 0, _, rfl, rfl, SqT.of hc4, rfl, ?_⟩
        refine ⟨_, rfl, (by show 2 ≤ sizeLine; decide), fun x16 nx16 => ?_⟩
        have t16 := sadd (o := .lst [.str "start", .str "done"]) (Same.refl H4) nx16
        have hx16 : upd H4 x16 (.lst [.str "start", .str "done"]) x16 = some (.lst [.str "start", .str "done"]) := upd_same
        generalize upd H4 x16 (.lst [.str "start", .str "done"]) = H16 at t16 hx16 ⊢
        have s16 := s4.trans t16
        have j16 := t16 _ _ j4
        have k16 := k4.same t16
        have hc16 := t16 _ _ hc4
        refine ⟨x16, _, rfl, .inl (SqL.of hx16), rfl, rfl, _, rfl, iteF ?_⟩
        refine ⟨_, rfl, (by show 2 ≤ sizeLine; decide), fun x17 nx17 => ?_⟩
        have t17 := sadd (o := .lst [.str "call", .str "deep"]) (Same.refl H16) nx17
        have hx17 : upd H16 x17 (.lst [.str "call", .str "deep"]) x17 = some (.lst [.str "call", .str "deep"]) := upd_same
        generalize upd H16 x17 (.lst [.str "call", .str "deep"]) = H17 at t17 hx17 ⊢
        have s17 := s16.trans t17
        have j17 := t17 _ _ j16
        have k17 := k16.same t17
        have hc17 := t17 _ _ hc16
        refine ⟨x17, _, rfl, .inl (SqL.of hx17), rfl, rfl, _, rfl, iteT ?_⟩
        refine ⟨_, rfl, c, _, 1, _, rfl, rfl, SqT.of hc17, rfl, _, rfl, rfl, _, rfl, ?_⟩
        refine ite2 (fun z => ?_) (fun z => ?_)
        · have e171 : r = a := (V.int.inj (of_decide_eq_true z)).symm
          refine ⟨_, rfl, .inl ⟨rfl, _, SqL.of j17⟩, ?_⟩
          refine ⟨_, rfl, c, _, 2, _, rfl, rfl, SqT.of hc17, rfl, _, rfl, c, _, 3, _, rfl, rfl, SqT.of hc17, rfl, _, rfl, c, _, 4, _, rfl, rfl, SqT.of hc17, rfl, (by show 4 ≤ sizeLine; decide), fun u18 nu18 => ?_⟩
          have t18 := sadd (o := .tup [.str "calls", .int b, .int d, .int n]) (Same.refl H17) nu18
          have hu18 : upd H17 u18 (.tup [.str "calls", .int b, .int d, .int n]) u18 = some (.tup (It.calls b d n).vs) := upd_same
          generalize upd H17 u18 (.tup [.str "calls", .int b, .int d, .int n]) = G18 at t18 hu18 ⊢
          refine ⟨q, _, _, rfl, rfl, t18 _ _ j17, (by have := (k17).len; simp only [List.length_map, List.length_append, List.length_cons, List.length_nil, sizeLine_eq] at this ⊢; omega), ?_⟩
          have v18 := VwAt.add (it := It.calls b d n) (t18 _ _ j17) (k17.same t18) hu18
          have s18 := sout (o := .lst (ips.map V.ref ++ [.ref u18])) (s17.trans t18) nq
          have hc18 := s18 _ _ hcx
          generalize upd G18 q (.lst (ips.map V.ref ++ [.ref u18])) = H18 at v18 s18 hc18 ⊢
          obtain ⟨ip18, j18, k18⟩ := v18
          refine ⟨_, rfl, rfl, _, rfl, iteF ?_⟩
          refine ⟨_, rfl, rfl, _, rfl, iteF ?_⟩
          refine ⟨_, rfl, rfl, _, rfl, iteF ?_⟩
          refine ⟨_, rfl, rfl, _, rfl, iteF ?_⟩
          refine ⟨_, _, rfl, s18, ?_⟩
          rw [tki, show shown r (.deep a b d n) = if r = a then [It.calls b d n] else [] from rfl, if_pos e171]
          have hh : VwAt K H18 q (OH.vw r (cs.take i) ++ [It.calls b d n]) := ⟨_, j18, k18⟩
          simpa only [List.append_assoc, List.append_nil, List.nil_append] using hh
        · have e171 : ¬ r = a := fun y => z (decide_eq_true (by rw [y]))
          refine ⟨_, rfl, rfl, _, rfl, iteF ?_⟩
          refine ⟨_, rfl, rfl, _, rfl, iteF ?_⟩
          refine ⟨_, rfl, rfl, _, rfl, iteF ?_⟩
          refine ⟨_, rfl, rfl, _, rfl, iteF ?_⟩
          refine ⟨_, _, rfl, s17, ?_⟩
          rw [tki, show shown r (.deep a b d n) = if r = a then [It.calls b d n] else [] from rfl, if_neg e171]
          have hh : VwAt K H17 q (OH.vw r (cs.take i)) := ⟨_, j17, k17⟩
          simpa only [List.append_assoc, List.append_nil, List.nil_append] using hh
      | call a b d n =>
        refine ⟨_, rfl, c, _, 0, _, rfl, rfl, SqT.of hc4, rfl, ?_⟩
        refine ⟨_, rfl, (by show 2 ≤ sizeLine; decide), fun x19 nx19 => ?_⟩
        have t19 := sadd (o := .lst [.str "start", .str "done"]) (Same.refl H4) nx19
        have hx19 : upd H4 x19 (.lst [.str "start", .str "done"]) x19 = some (.lst [.str "start", .str "done"]) := upd_same
        generalize upd H4 x19 (.lst [.str "start", .str "done"]) = H19 at t19 hx19 ⊢
        have s19 := s4.trans t19
        have j19 := t19 _ _ j4
        have k19 := k4.same t19
        have hc19 := t19 _ _ hc4
        refine ⟨x19, _, rfl, .inl (SqL.of hx19), rfl, rfl, _, rfl, iteF ?_⟩
        refine ⟨_, rfl, (by show 2 ≤ sizeLine; decide), fun x20 nx20 => ?_⟩
        have t20 := sadd (o := .lst [.str "call", .str "deep"]) (Same.refl H19) nx20
        have hx20 : upd H19 x20 (.lst [.str "call", .str "deep"]) x20 = some (.lst [.str "call", .str "deep"]) := upd_same
        generalize upd H19 x20 (.lst [.str "call", .str "deep"]) = H20 at t20 hx20 ⊢
        have s20 := s19.trans t20
        have j20 := t20 _ _ j19
        have k20 := k19.same t20
        have hc20 := t20 _ _ hc19
        refine ⟨x20, _, rfl, .inl (SqL.of hx20), rfl, rfl, _, rfl, iteT ?_⟩
        refine ⟨_, rfl, c, _, 1, _, rfl, rfl, SqT.of hc20, rfl, _, rfl, rfl, _, rfl, ?_⟩
        refine ite2 (fun z => ?_) (fun z => ?_)
        · have e201 : r = a := (V.int.inj (of_decide_eq_true z)).symm
          refine ⟨_, rfl, .inl ⟨rfl, _, SqL.of j20⟩, ?_⟩
          refine ⟨_, rfl, c, _, 2, _, rfl, rfl, SqT.of hc20, rfl, _, rfl, c, _, 3, _, rfl, rfl, SqT.of hc20, rfl, _, rfl, c, _, 4, _, rfl, rfl, SqT.of hc20, rfl, (by show 4 ≤ sizeLine; decide), fun u21 nu21 => ?_⟩
          have t21 := sadd (o := .tup [.str "calls", .int b, .int d, .int n]) (Same.refl H20) nu21
          have hu21 : upd H20 u21 (.tup [.str "calls", .int b, .int d, .int n]) u21 = some (.tup (It.calls b d n).vs) := upd_same
          generalize upd H20 u21 (.tup [.str "calls", .int b, .int d, .int n]) = G21 at t21 hu21 ⊢
          refine ⟨q, _, _, rfl, rfl, t21 _ _ j20, (by have := (k20).len; simp only [List.length_map, List.length_append, List.length_cons, List.length_nil, sizeLine_eq] at this ⊢; omega), ?_⟩
          have v21 := VwAt.add (it := It.calls b d n) (t21 _ _ j20) (k20.same t21) hu21
          have s21 := sout (o := .lst (ips.map V.ref ++ [.ref u21])) (s20.trans t21) nq
          have hc21 := s21 _ _ hcx
          generalize upd G21 q (.lst (ips.map V.ref ++ [.ref u21])) = H21 at v21 s21 hc21 ⊢
          obtain ⟨ip21, j21, k21⟩ := v21
          refine ⟨_, rfl, rfl, _, rfl, iteT ?_⟩
          refine ⟨_, rfl, c, _, 2, _, rfl, rfl, SqT.of hc21, rfl, _, rfl, rfl, _, rfl, ?_⟩
          refine ite2 (fun z => ?_) (fun z => ?_)
          · have e212 : r = b := (V.int.inj (of_decide_eq_true z)).symm
            refine ⟨_, rfl, .inl ⟨rfl, _, SqL.of j21⟩, ?_⟩
            refine ⟨_, rfl, c, _, 3, _, rfl, rfl, SqT.of hc21, rfl, _, rfl, c, _, 4, _, rfl, rfl, SqT.of hc21, rfl, (by show 3 ≤ sizeLine; decide), fun u22 nu22 => ?_⟩
            have t22 := sadd (o := .tup [.str "in", .int d, .int n]) (Same.refl H21) nu22
            have hu22 : upd H21 u22 (.tup [.str "in", .int d, .int n]) u22 = some (.tup (It.inn d n).vs) := upd_same
            generalize upd H21 u22 (.tup [.str "in", .int d, .int n]) = G22 at t22 hu22 ⊢
            refine ⟨q, _, _, rfl, rfl, t22 _ _ j21, (by have := (k21).len; simp only [List.length_map, List.length_append, List.length_cons, List.length_nil, sizeLine_eq] at this ⊢; omega), ?_⟩
            have v22 := VwAt.add (it := It.inn d n) (t22 _ _ j21) (k21.same t22) hu22
            have s22 := sout (o := .lst (ip21.map V.ref ++ [.ref u22])) (s21.trans t22) nq
            have hc22 := s22 _ _ hcx
            generalize upd G22 q (.lst (ip21.map V.ref ++ [.ref u22])) = H22 at v22 s22 hc22 ⊢
            obtain ⟨ip22, j22, k22⟩ := v22
            refine ⟨_, rfl, rfl, _, rfl, iteF ?_⟩
            refine ⟨_, rfl, rfl, _, rfl, iteF ?_⟩
            refine ⟨_, rfl, rfl, _, rfl, iteF ?_⟩
            refine ⟨_, _, rfl, s22, ?_⟩
            rw [tki, show shown r (.call a b d n) = (if r = a then [It.calls b d n] else []) ++ (if r = b then [It.inn d n] else []) from rfl, if_pos e201, if_pos e212]
            have hh : VwAt K H22 q (OH.vw r (cs.take i) ++ [It.calls b d n] ++ [It.inn d n]) := ⟨_, j22, k22⟩
            simpa only [List.append_assoc, List.append_nil, List.nil_append] using hh
          · have e212 : ¬ r = b := fun y => z (decide_eq_true (by rw [y]))
            refine ⟨_, rfl, rfl, _, rfl, iteF ?_⟩
            refine ⟨_, rfl, rfl, _, rfl, iteF ?_⟩
            refine ⟨_, rfl, rfl, _, rfl, iteF ?_⟩
            refine ⟨_, _, rfl, s21, ?_⟩
            rw [tki, show shown r (.call a b d n) = (if r = a then [It.calls b d n] else []) ++ (if r = b then [It.inn d n] else []) from rfl, if_pos e201, if_neg e212]
            have hh : VwAt K H21 q (OH.vw r (cs.take i) ++ [It.calls b d n]) := ⟨_, j21, k21⟩
            simpa only [List.append_assoc, List.append_nil, List.nil_append] using hh
        · have e201 : ¬ r = a := fun y => z (decide_eq_true (by rw [y]))
          refine ⟨_, rfl, rfl, _, rfl, iteT ?_⟩
          refine ⟨_, rfl, c, _, 2, _, rfl, rfl, SqT.of hc20, rfl, _, rfl, rfl, _, rfl, ?_⟩
          refine ite2 (fun z => ?_) (fun z => ?_)
          · have e202 : r = b := (V.int.inj (of_decide_eq_true z)).symm
            refine ⟨_, rfl, .inl ⟨rfl, _, SqL.of j20⟩, ?_⟩
            refine ⟨_, rfl, c, _, 3, _, rfl, rfl, SqT.of hc20, rfl, _, rfl, c, _, 4, _, rfl, rfl, SqT.of hc20, rfl, (by show 3 ≤ sizeLine; decide), fun u23 nu23 => ?_⟩
            have t23 := sadd (o := .tup [.str "in", .int d, .int n]) (Same.refl H20) nu23
            have hu23 : upd H20 u23 (.tup [.str "in", .int d, .int n]) u23 = some (.tup (It.inn d n).vs) := upd_same
            generalize upd H20 u23 (.tup [.str "in", .int d, .int n]) = G23 at t23 hu23 ⊢
            refine ⟨q, _, _, rfl, rfl, t23 _ _ j20, (by have := (k20).len; simp only [List.length_map, List.length_append, List.length_cons, List.length_nil, sizeLine_eq] at this ⊢; omega), ?_⟩
            have v23 := VwAt.add (it := It.inn d n) (t23 _ _ j20) (k20.same t23) hu23
            have s23 := sout (o := .lst (ips.map V.ref ++ [.ref u23])) (s20.trans t23) nq
            have hc23 := s23 _ _ hcx
            generalize upd G23 q (.lst (ips.map V.ref ++ [.ref u23])) = H23 at v23 s23 hc23 ⊢
            obtain ⟨ip23, j23, k23⟩ := v23
            refine ⟨_, rfl, rfl, _, rfl, iteF ?_⟩
            refine ⟨_, rfl, rfl, _, rfl, iteF ?_⟩
            refine ⟨_, rfl, rfl, _, rfl, iteF ?_⟩
            refine ⟨_, _, rfl, s23, ?_⟩
            rw [tki, show shown r (.call a b d n) = (if r = a then [It.calls b d n] else []) ++ (if r = b then [It.inn d n] else []) from rfl, if_neg e201, if_pos e202]
            have hh : VwAt K H23 q (OH.vw r (cs.take i) ++ [It.inn d n]) := ⟨_, j23, k23⟩
            simpa only [List.append_assoc, List.append_nil, List.nil_append] using hh
          · have e202 : ¬ r = b := fun y => z (decide_eq_true (by rw [y]))
            refine ⟨_, rfl, rfl, _, rfl, iteF ?_⟩
            refine ⟨_, rfl, rfl, _, rfl, iteF ?_⟩
            refine ⟨_, rfl, rfl, _, rfl, iteF ?_⟩
            refine ⟨_, _, rfl, s20, ?_⟩
            rw [tki, show shown r (.call a b d n) = (if r = a then [It.calls b d n] else []) ++ (if r = b then [It.inn d n] else []) from rfl, if_neg e201, if_neg e202]
            have hh : VwAt K H20 q (OH.vw r (cs.take i)) := ⟨_, j20, k20⟩
            simpa only [List.append_assoc, List.append_nil, List.nil_append] using hh
      | back a b n =>
        refine ⟨_, rfl, c, _, 0, _, rfl, rfl, SqT.of hc4, rfl, ?_⟩
        refine ⟨_, rfl, (by show 2 ≤ sizeLine; decide), fun x24 nx24 => ?_⟩
        have t24 := sadd (o := .lst [.str "start", .str "done"]) (Same.refl H4) nx24
        have hx24 : upd H4 x24 (.lst [.str "start", .str "done"]) x24 = some (.lst [.str "start", .str "done"]) := upd_same
        generalize upd H4 x24 (.lst [.str "start", .str "done"]) = H24 at t24 hx24 ⊢
        have s24 := s4.trans t24
        have j24 := t24 _ _ j4
        have k24 := k4.same t24
        have hc24 := t24 _ _ hc4
        refine ⟨x24, _, rfl, .inl (SqL.of hx24), rfl, rfl, _, rfl, iteF ?_⟩
        refine ⟨_, rfl, (by show 2 ≤ sizeLine; decide), fun x25 nx25 => ?_⟩
        have t25 := sadd (o := .lst [.str "call", .str "deep"]) (Same.refl H24) nx25
        have hx25 : upd H24 x25 (.lst [.str "call", .str "deep"]) x25 = some (.lst [.str "call", .str "deep"]) := upd_same
        generalize upd H24 x25 (.lst [.str "call", .str "deep"]) = H25 at t25 hx25 ⊢
        have s25 := s24.trans t25
        have j25 := t25 _ _ j24
        have k25 := k24.same t25
        have hc25 := t25 _ _ hc24
        refine ⟨x25, _, rfl, .inl (SqL.of hx25), rfl, rfl, _, rfl, iteF ?_⟩
        refine ⟨_, rfl, rfl, _, rfl, iteF ?_⟩
        refine ⟨_, rfl, rfl, _, rfl, iteT ?_⟩
        refine ⟨_, rfl, c, _, 1, _, rfl, rfl, SqT.of hc25, rfl, _, rfl, rfl, _, rfl, ?_⟩
        refine ite2 (fun z => ?_) (fun z => ?_)
        · have e253 : r = a := (V.int.inj (of_decide_eq_true z)).symm
          refine ⟨_, rfl, .inl ⟨rfl, _, SqL.of j25⟩, ?_⟩
          refine ⟨_, rfl, c, _, 3, _, rfl, rfl, SqT.of hc25, rfl, (by show 2 ≤ sizeLine; decide), fun u26 nu26 => ?_⟩
          have t26 := sadd (o := .tup [.str "gives", .int n]) (Same.refl H25) nu26
          have hu26 : upd H25 u26 (.tup [.str "gives", .int n]) u26 = some (.tup (It.gives n).vs) := upd_same
          generalize upd H25 u26 (.tup [.str "gives", .int n]) = G26 at t26 hu26 ⊢
          refine ⟨q, _, _, rfl, rfl, t26 _ _ j25, (by have := (k25).len; simp only [List.length_map, List.length_append, List.length_cons, List.length_nil, sizeLine_eq] at this ⊢; omega), ?_⟩
          have v26 := VwAt.add (it := It.gives n) (t26 _ _ j25) (k25.same t26) hu26
          have s26 := sout (o := .lst (ips.map V.ref ++ [.ref u26])) (s25.trans t26) nq
          have hc26 := s26 _ _ hcx
          generalize upd G26 q (.lst (ips.map V.ref ++ [.ref u26])) = H26 at v26 s26 hc26 ⊢
          obtain ⟨ip26, j26, k26⟩ := v26
          refine ⟨_, rfl, rfl, _, rfl, iteT ?_⟩
          refine ⟨_, rfl, c, _, 2, _, rfl, rfl, SqT.of hc26, rfl, _, rfl, rfl, _, rfl, ?_⟩
          refine ite2 (fun z => ?_) (fun z => ?_)
          · have e264 : r = b := (V.int.inj (of_decide_eq_true z)).symm
            refine ⟨_, rfl, .inl ⟨rfl, _, SqL.of j26⟩, ?_⟩
            refine ⟨_, rfl, c, _, 3, _, rfl, rfl, SqT.of hc26, rfl, (by show 2 ≤ sizeLine; decide), fun u27 nu27 => ?_⟩
            have t27 := sadd (o := .tup [.str "got", .int n]) (Same.refl H26) nu27
            have hu27 : upd H26 u27 (.tup [.str "got", .int n]) u27 = some (.tup (It.got n).vs) := upd_same
            generalize upd H26 u27 (.tup [.str "got", .int n]) = G27 at t27 hu27 ⊢
            refine ⟨q, _, _, rfl, rfl, t27 _ _ j26, (by have := (k26).len; simp only [List.length_map, List.length_append, List.length_cons, List.length_nil, sizeLine_eq] at this ⊢; omega), ?_⟩
            have v27 := VwAt.add (it := It.got n) (t27 _ _ j26) (k26.same t27) hu27
            have s27 := sout (o := .lst (ip26.map V.ref ++ [.ref u27])) (s26.trans t27) nq
            have hc27 := s27 _ _ hcx
            generalize upd G27 q (.lst (ip26.map V.ref ++ [.ref u27])) = H27 at v27 s27 hc27 ⊢
            obtain ⟨ip27, j27, k27⟩ := v27
            refine ⟨_, rfl, rfl, _, rfl, iteF ?_⟩
            refine ⟨_, _, rfl, s27, ?_⟩
            rw [tki, show shown r (.back a b n) = (if r = a then [It.gives n] else []) ++ (if r = b then [It.got n] else []) from rfl, if_pos e253, if_pos e264]
            have hh : VwAt K H27 q (OH.vw r (cs.take i) ++ [It.gives n] ++ [It.got n]) := ⟨_, j27, k27⟩
            simpa only [List.append_assoc, List.append_nil, List.nil_append] using hh
          · have e264 : ¬ r = b := fun y => z (decide_eq_true (by rw [y]))
            refine ⟨_, rfl, rfl, _, rfl, iteF ?_⟩
            refine ⟨_, _, rfl, s26, ?_⟩
            rw [tki, show shown r (.back a b n) = (if r = a then [It.gives n] else []) ++ (if r = b then [It.got n] else []) from rfl, if_pos e253, if_neg e264]
            have hh : VwAt K H26 q (OH.vw r (cs.take i) ++ [It.gives n]) := ⟨_, j26, k26⟩
            simpa only [List.append_assoc, List.append_nil, List.nil_append] using hh
        · have e253 : ¬ r = a := fun y => z (decide_eq_true (by rw [y]))
          refine ⟨_, rfl, rfl, _, rfl, iteT ?_⟩
          refine ⟨_, rfl, c, _, 2, _, rfl, rfl, SqT.of hc25, rfl, _, rfl, rfl, _, rfl, ?_⟩
          refine ite2 (fun z => ?_) (fun z => ?_)
          · have e254 : r = b := (V.int.inj (of_decide_eq_true z)).symm
            refine ⟨_, rfl, .inl ⟨rfl, _, SqL.of j25⟩, ?_⟩
            refine ⟨_, rfl, c, _, 3, _, rfl, rfl, SqT.of hc25, rfl, (by show 2 ≤ sizeLine; decide), fun u28 nu28 => ?_⟩
            have t28 := sadd (o := .tup [.str "got", .int n]) (Same.refl H25) nu28
            have hu28 : upd H25 u28 (.tup [.str "got", .int n]) u28 = some (.tup (It.got n).vs) := upd_same
            generalize upd H25 u28 (.tup [.str "got", .int n]) = G28 at t28 hu28 ⊢
            refine ⟨q, _, _, rfl, rfl, t28 _ _ j25, (by have := (k25).len; simp only [List.length_map, List.length_append, List.length_cons, List.length_nil, sizeLine_eq] at this ⊢; omega), ?_⟩
            have v28 := VwAt.add (it := It.got n) (t28 _ _ j25) (k25.same t28) hu28
            have s28 := sout (o := .lst (ips.map V.ref ++ [.ref u28])) (s25.trans t28) nq
            have hc28 := s28 _ _ hcx
            generalize upd G28 q (.lst (ips.map V.ref ++ [.ref u28])) = H28 at v28 s28 hc28 ⊢
            obtain ⟨ip28, j28, k28⟩ := v28
            refine ⟨_, rfl, rfl, _, rfl, iteF ?_⟩
            refine ⟨_, _, rfl, s28, ?_⟩
            rw [tki, show shown r (.back a b n) = (if r = a then [It.gives n] else []) ++ (if r = b then [It.got n] else []) from rfl, if_neg e253, if_pos e254]
            have hh : VwAt K H28 q (OH.vw r (cs.take i) ++ [It.got n]) := ⟨_, j28, k28⟩
            simpa only [List.append_assoc, List.append_nil, List.nil_append] using hh
          · have e254 : ¬ r = b := fun y => z (decide_eq_true (by rw [y]))
            refine ⟨_, rfl, rfl, _, rfl, iteF ?_⟩
            refine ⟨_, _, rfl, s25, ?_⟩
            rw [tki, show shown r (.back a b n) = (if r = a then [It.gives n] else []) ++ (if r = b then [It.got n] else []) from rfl, if_neg e253, if_neg e254]
            have hh : VwAt K H25 q (OH.vw r (cs.take i)) := ⟨_, j25, k25⟩
            simpa only [List.append_assoc, List.append_nil, List.nil_append] using hh
end
end OH
end
section
set_option Elab.async false
set_option linter.all false
set_option maxRecDepth 100000
set_option maxHeartbeats 4000000
/-! The law's views of all rooms. -/
namespace OH
open PySem PySem.Spec PyProof.Rows L2
def spLViews (K : PySem.W.Frag) : Sp := fun vs H Q _ => ∃ (l : Addr) (m : Nat) (cs : List Crs), vs = [.ref l, .int (m : Int)] ∧ RwAt H l cs ∧ cs.length ≤ 1000 ∧ m ≤ 1000 ∧
  ∀ D vl H', Same H H' → H D = none → (∀ q ∈ vl, H q = none) → vl.length = m → VsAt K H' D vl (fun r => OH.vw (r : Int) cs) → Q (.ref D) H'
theorem VwAt.upl {K : PySem.W.Frag} {H : Hp} {q D : Addr} {its : List It} {ys zs : List V} (h : VwAt K H q its) (e : H D = some (.lst ys)) (n : q ≠ D) : VwAt K (upd H D (.lst zs)) q its := by
  obtain ⟨ps, h1, h2⟩ := h
  exact ⟨ps, (upd_ne n).trans h1, h2.mono fun a xs z => z.upl e⟩
section
variable {P : Program} {w : World} {K : PySem.W.Frag} {mg : Str → Option Value} {base : Heap}
abbrev nLvs : List Str := ["row", "many", "room"]
theorem sc__law_views : FnScope nLvs ["row", "many"] (defScope s__law_views) := ⟨rfl, rfl, rfl, by decide +kernel, rfl, by decide +kernel, by decide +kernel⟩
theorem ok__law_views {f : Addr} {fd : FuncData} (F : Fun K "_law_views" "_law_views" s__law_views f fd) (nRange : mg "range" = none) (DV : DefF P w K mg base CX0 1 "_law_view" ["row", "room"] (spLView K)) : FnOk P w K mg base CX0 2 f fd ["row", "many"] (spLViews K) := by
  refine F.ok sc__law_views (fun vs H Q E h => ?_) (fun cdv A outer s H vs Q E hr h => ?_)
  · obtain ⟨l, m, cs, rfl, _⟩ := h
    rfl
  · obtain ⟨l, m, cs, rfl, hl, hn, hm, k⟩ := h
    have nd := sc__law_views.nd
    refine ⟨_, pss_one (ps_ret (pe_lc (own := [("room", 2)]) (g := gName 2) (tt := tYes) (te := tCall (spLView K) [] (fun _ _ _ => False) (tCons (tVar 0) (tCons (tVar 2) tNil))) rfl nd (pi_range1 rfl nRange (pa_cons (pv 1) pa_nil)) (blkOk_by (own := [("room", 2)]) (N := nLvs) (sc := defScope s__law_views) (by decide +kernel)) (fun _ _ _ _ _ => (pg_name (i := 2) nd rfl (Or.inl rfl))) (fun _ _ _ _ _ => pts_nil) (fun _ _ _ _ _ => (pe_cD DV hr rfl pass0 (pa_cons (pv 0) (pa_cons (pv 2) pa_nil)))))), ?_⟩
    refine ⟨_, rfl, _, rfl, by omega, by omega, fun D nD => ?_⟩
    rw [Int.toNat_natCast]
    refine lc_range (lo := 0) (n := m) (fun i H' => Same H H' ∧ ∃ qs : List Addr, H' D = some (.lst (qs.map V.ref)) ∧ qs.length = i ∧ qs.Nodup ∧ D ∉ qs ∧ (∀ q ∈ qs, H q = none) ∧ ∀ (j : Nat) (q : Addr), qs[j]? = some q → VwAt K H' q (OH.vw (j : Int) cs))
      ⟨sadd (Same.refl H) nD, [], upd_same, rfl, List.nodup_nil, List.not_mem_nil, fun q z => absurd z List.not_mem_nil, fun j q z => absurd (List.mem_of_getElem? z) List.not_mem_nil⟩ ?turn ?done
    case turn =>
      rintro i H4 hi ⟨s4, qs, hD, lq, nq, dq, fq, vq⟩
      refine ⟨rfl, ?_⟩
      unfold tYes
      refine iteT ?_
      refine ⟨_, rfl, _, rfl, l, (0 : Int) + (i : Int), cs, rfl, hl.same s4, hn, fun q H5 s5 nq5 v5 => ?_⟩
      rw [Int.zero_add] at v5
      have hD5 := s5 _ _ hD
      have qD : q ≠ D := fun z => by rw [z, hD] at nq5; cases nq5
      have nin : q ∉ qs := fun z => by
        obtain ⟨j, hj⟩ := List.getElem?_of_mem z
        obtain ⟨ps, p1, _⟩ := vq j q hj
        rw [nq5] at p1
        cases p1
      refine ⟨_, hD5, by rw [List.length_map, lq, sizeLine_eq]; omega, sout (s4.trans s5) nD, qs ++ [q], by rw [upd_same, List.map_append]; rfl, by rw [List.length_append, lq]; rfl, ?_, ?_, fun x hx => ?_, fun j x hx => ?_⟩
      · rw [List.nodup_append]
        exact ⟨nq, List.nodup_cons.mpr ⟨List.not_mem_nil, List.nodup_nil⟩, fun a ha b hb => by rw [List.mem_singleton.mp hb]; exact fun z => nin (z ▸ ha)⟩
      · intro z
        rcases List.mem_append.mp z with z | z
        · exact dq z
        · exact qD (List.mem_singleton.mp z).symm
      · rcases List.mem_append.mp hx with z | z
        · exact fq x z
        · rw [List.mem_singleton.mp z]
          exact s4.free nq5
      · rcases Nat.lt_or_ge j qs.length with z | z
        · rw [List.getElem?_append_left z] at hx
          have hxD : x ≠ D := fun e => dq (e ▸ List.mem_of_getElem? hx)
          exact ((vq j x hx).same s5).upl hD5 hxD
        · rw [List.getElem?_append_right z] at hx
          have e0 : j = qs.length := by
            have := (List.getElem?_eq_some_iff.mp hx).1
            rw [List.length_singleton] at this
            omega
          subst e0
          rw [Nat.sub_self] at hx
          cases hx
          rw [lq]
          exact v5.upl hD5 qD
    case done =>
      rintro H4 ⟨s4, qs, hD, lq, nq, dq, fq, vq⟩
      exact k D qs H4 s4 nD fq lq ⟨hD, nq, dq, vq⟩
end
end OH
end
section
set_option Elab.async false
set_option linter.all false
set_option maxRecDepth 100000
set_option maxHeartbeats 8000000
/-! An error that is caught. -/
namespace OH
open PySem PySem.Spec PyProof.Rows L2
open LamX (Tabs TabS ExtN TabB CodeO)
theorem sc__law_caught : FnScope ["action", "found", "error"] ["action"] (defScope s__law_caught) := ⟨rfl, rfl, rfl, by decide +kernel, rfl, by decide +kernel, by decide +kernel⟩
/-- what is called gives its error on, whatever fields it has -/
theorem caught_givesJ {X : Cx} {q : Str} {g CS : Addr} {cdg : Value} (hme : X.mg "OwnharmError" = some (.ref CS)) :
    LamX.GivesTo X ["action", "found", "error"] "_law_caught" (defScope s__law_caught) g cdg (defBody s__law_caught) "action" q (TTj X.K CS) := by
  intro f c' s H Q tl act hc h
  have nd := sc__law_caught.nd
  refine ⟨_, pss_cons (ps_set (i := 1) nd rfl (Or.inl rfl) pe_non)
    (pss_cons (ps_try_keepJ (X := (cxOf C8.CX0 X.prog X.w X.K X.mg X.base ["action", "found", "error"] "_law_caught" (defScope s__law_caught) g cdg X.A X.stack s H C8.E0).nox) (i := 2) (c := .ref CS)
      (tb := fun W D σ H => ∃ Ech : XK, (∀ cls d σ' H', σ'.length = 3 → Ech cls d H' → W cls d σ' H') ∧ σ[0]? = some (some (.ref f)) ∧ H c' = some (LamX.CodeO c' q) ∧ tl Ech H (fun _ H1 => D.nx σ H1))
      rfl rfl rfl nd rfl rfl ⟨rfl, by decide, .inl hme⟩ (fun W pn xe tk _ => ?_) (fun a oe cls d pn _ _ => pss_one (ps_set (i := 1) nd rfl (Or.inl rfl) (pv 2))))
    (pss_one (ps_ret (pv 1)))), ?_⟩
  · refine ⟨fun pins s' σ H' D I h' => ?_⟩
    obtain ⟨Ech, hW, h1, h2, h3⟩ := h'
    have tk' : Takes _ (fun cls d σ H => σ.length = 3 → W cls d σ H) := fun u s' ⟨a, B, sI, pins, σ, H, cls, d, e, I, nb, up, sky, na, os, ag, w⟩ =>
      tk u s' ⟨a, B, sI, pins, σ, H, cls, d, e, I, nb, up, sky, na, os, ag, w I.len⟩
    exact (pss_one (ps_expr (act _ pn xe Ech _ _ tk' (fun cls d σ' H' e n => hW cls d σ' H' n e)))).run pins s' σ H' D I ⟨h1, h2, h3⟩
  · refine ⟨_, fun cls d σ' H' n e => ?_, rfl, hc, h _ fun _ _ z => ⟨.non, rfl, z⟩⟩
    obtain ⟨e2, e3⟩ := e
    refine ⟨e2, fun a na => ?_⟩
    match σ', n with
    | [y0, y1, y2], _ => exact ⟨.ref a, rfl, .ref a, rfl, e3 a na⟩
end OH
end
section
set_option Elab.async false
set_option linter.all false
set_option maxRecDepth 100000
set_option maxHeartbeats 8000000
/-! The faces of the law. -/
namespace OH
open PySem PySem.Spec PyProof.Rows L2
/-- wires of room i, where so many doors are -/
def WiOk (ds : List Int) (i : Nat) (ws : List (Int × Int)) : Prop := ws.length ≤ 8 ∧ ws.Nodup ∧ ∀ p ∈ ws, 0 ≤ p.1 ∧ p.1 < (ds.length : Int) ∧ p.1 ≠ i ∧ 0 ≤ p.2 ∧ p.2 < ds.getD p.1.toNat 0
theorem getD_app_last {α : Type} (l : List α) (x d : α) : (l ++ [x]).getD l.length d = x := by
  rw [List.getD_eq_getElem?_getD, List.getElem?_append_right (Nat.le_refl _), Nat.sub_self]
  rfl
theorem getD_app_old {α : Type} (l : List α) (x d : α) {i : Nat} (h : i < l.length) : (l ++ [x]).getD i d = l.getD i d := by
  rw [List.getD_eq_getElem?_getD, List.getElem?_append_left h, List.getD_eq_getElem?_getD]
/-- a new face -/
def spFaceD (m1 : Int) (m2 : Int) : Sp := fun vs H Q _ => ∃ (st g c : Addr) (n : Nat) (most : Int), vs = [.ref st, .int most] ∧ SA H st g c n ∧ n ≤ 700000 ∧ m1 ≤ most ∧ most ≤ m2 ∧
  ∀ (p : Addr) (F : Fc) (H' : Hp), H p = none → FcAt H' p F → SA H' st g c (n + 400) → Fr st g H H' → Q (.ref p) H'
section
variable {P : Program} {w : World} {K : PySem.W.Frag} {mg : Str → Option Value} {base : Heap}
abbrev nDF : List Str := ["state", "most", "doors", "wires", "at", "pool", "room", "many", "door"]
theorem sc__law_drawn_face : FnScope nDF ["state", "most"] (defScope s__law_drawn_face) := ⟨rfl, rfl, rfl, by decide +kernel, rfl, by decide +kernel, by decide +kernel⟩
theorem ok__law_drawn_face {f : Addr} {fd : FuncData} (F : Fun K "_law_drawn_face" "_law_drawn_face" s__law_drawn_face f fd) (T : Txt K mg) (nEnum : mg "enumerate" = none)
    (DD : DefF P w K mg base CX0 4 "_law_draw" ["state", "room"] spDraw) (DS : DefF P w K mg base CX0 4 "_law_shuffled" ["state", "some"] spShuf) (DP : DefF P w K mg base CX0 4 "_law_pick" ["state", "some"] spPick) : FnOk P w K mg base CX0 5 f fd ["state", "most"] (spFaceD 1 6) := by
  refine F.ok sc__law_drawn_face (fun vs H Q E h => ?_) (fun cdv A outer s H vs Q E hr h => ?_)
  · obtain ⟨st, g, c, n, most, rfl, _⟩ := h
    rfl
  · obtain ⟨st, g, c, n, most, rfl, S, hn, m1, m2, k⟩ := h
    have nd := sc__law_drawn_face.nd
    refine ⟨_, pss_cons (ps_set (i := 2) nd rfl (Or.inl rfl) (pe_callTy call_tuple_of (by rfl) T.nTuple (by decide +kernel) (pa_cons (pe_lc (own := [("at", 4)]) (g := gName 4) (tt := tYes) (te := tOp _ _ (tCall spDraw [] (fun _ _ _ => False) (tCons (tVar 0) (tCons (tC (V.int 3)) tNil)))) rfl nd (pi_range1 rfl T.nRange (pa_cons (pe_op op_add pe_int (pe_cD DD hr rfl pass0 (pa_cons (pv 0) (pa_cons (pv 1) pa_nil)))) pa_nil)) (blkOk_by (own := [("at", 4)]) (N := nDF) (sc := defScope s__law_drawn_face) (by decide +kernel)) (fun _ _ _ _ _ => (pg_name (i := 4) nd rfl (Or.inl rfl))) (fun _ _ _ _ _ => pts_nil) (fun _ _ _ _ _ => (pe_op op_add pe_int (pe_cD DD hr rfl pass0 (pa_cons (pv 0) (pa_cons pe_int pa_nil)))))) pa_nil)))
      (pss_cons (ps_set (i := 3) nd rfl (Or.inl rfl) (pe_lst pa_nil))
      (pss_cons (ps_for PassesOwn.never rfl (pi_range1 rfl T.nRange (pa_cons (pe_callB call_len_seq (by rfl) T.nLen PySem.boot_len (pa_cons (pv 2) pa_nil)) pa_nil)) (pg_name (i := 4) nd rfl (Or.inr rfl))
        (pss_cons (ps_set (i := 5) nd rfl (Or.inl rfl) (pe_lst pa_nil))
      (pss_cons (ps_for PassesOwn.never rfl (pi_enumT rfl nEnum (pa_cons (pv 2) pa_nil)) (pg_tup (by rfl) (pgs_cons (pg_name (i := 6) nd rfl (Or.inr rfl)) (pgs_cons (pg_name (i := 7) nd rfl (Or.inl rfl)) pgs_nil)))
        (pss_one (ps_set (i := 5) nd rfl (Or.inl rfl) (pe_op op_cat (pv 5) (pe_lc (own := [("door", 8)]) (g := gName 8)   rfl nd (pi_range1 rfl T.nRange (pa_cons (pv 7) pa_nil)) (blkOk_by (own := [("door", 8)]) (N := nDF) (sc := defScope s__law_drawn_face) (by decide +kernel)) (fun _ _ _ _ _ => (pg_name (i := 8) nd rfl (Or.inl rfl))) (fun _ _ _ _ _ => pts_one (pt_cmpR op_ne (pv 6) (pv 4) (nomark _))) (fun _ _ _ _ _ => (pe_tup (pa_cons (pv 6) (pa_cons (pv 8) pa_nil)))))))))
      (pss_one (ps_expr (pe_bm PySem.F.plainAttrs_list PySem.F.slot_list_append PySem.F.type_list_append mt_append (pv 3) (pa_cons (pe_callTy call_tuple_of (by rfl) T.nTuple (by decide +kernel) (pa_cons (pe_slice sl_list (pe_cD DS hr rfl pass0 (pa_cons (pv 0) (pa_cons (pv 5) pa_nil))) po_none (po_some (pe_cD DP hr rfl pass0 (pa_cons (pv 0) (pa_cons (pe_lst (pa_cons pe_int (pa_cons pe_int (pa_cons pe_int (pa_cons pe_int (pa_cons pe_int (pa_cons pe_int pa_nil))))))) pa_nil))))) pa_nil)) pa_nil)))))))
      (pss_one (ps_ret (pe_tup (pa_cons (pe_cD DP hr rfl pass0 (pa_cons (pv 0) (pa_cons (pe_lst (pa_cons pe_int (pa_cons pe_int (pa_cons pe_int (pa_cons pe_int (pa_cons pe_int (pa_cons pe_int (pa_cons pe_int pa_nil)))))))) pa_nil))) (pa_cons (pe_callTy call_tuple_of (by rfl) T.nTuple (by decide +kernel) (pa_cons (pv 3) pa_nil)) (pa_cons (pv 2) pa_nil)))))))), ?_⟩
    refine ⟨_, rfl, _, rfl, st, g, c, n, most, rfl, S, by omega, by omega, by omega, fun u H1 u0 u1 S1 F1 => ?_⟩
    obtain ⟨m, em⟩ : ∃ m : Nat, 1 + u = (m : Int) := ⟨(1 + u).toNat, by omega⟩
    refine ⟨_, _, rfl, rfl, _, rfl, by omega, by omega, fun D nD => ?_⟩
    rw [em, Int.toNat_natCast]
    have hm1 : 1 ≤ m := by omega
    have hm6 : m ≤ 6 := by omega
    have zD := S1.old nD
    have D0 : H D = none := F1.free nD zD.1 zD.2.1
    have sD := sadd (o := .lst []) (Same.refl H1) nD
    refine lc_range (lo := 0) (n := m) (fun i H' => ∃ ns : List Int, ns.length = i ∧ H' D = some (.lst (ns.map V.int)) ∧ (∀ z ∈ ns, 1 ≤ z ∧ z ≤ 6) ∧ SA H' st g c (n + 1 + i) ∧ Fr st g H1 H') ?d0 ?dturn ?ddone
    case d0 => exact ⟨[], rfl, upd_same, fun z hz => absurd hz List.not_mem_nil, S1.same sD, Fr.of sD⟩
    case dturn =>
      rintro i H4 hi ⟨ns, ln, hD, nm, S4, F4⟩
      refine ⟨rfl, ?_⟩
      unfold tYes
      refine iteT ?_
      refine ⟨_, rfl, st, g, c, n + 1 + i, 3, rfl, S4, by omega, by decide, by decide, fun z H5 z0 z9 S5 F5 => ?_⟩
      have hD5 : H5 D = some (.lst (ns.map V.int)) := F5 _ _ hD zD.1 zD.2.1
      refine ⟨_, _, rfl, rfl, _, hD5, by rw [List.length_map, sizeLine_eq]; omega, ns ++ [1 + z], by rw [List.length_append, ln]; rfl, by rw [upd_same, List.map_append]; rfl, fun y hy => ?_, (S5.put zD).mono (by omega), (F4.trans F5).out nD⟩
      rcases List.mem_append.mp hy with h | h
      · exact nm y h
      · rw [List.mem_singleton.mp h]
        exact ⟨by omega, by omega⟩
    case ddone =>
    rintro H2 ⟨ds, lds, hD, hd, S2, F2⟩
    refine ⟨D, _, rfl, .inl ⟨SqL.of hD, fun dt ndt => ?_⟩⟩
    have zdt := S2.old ndt
    have sdt := sadd (o := .tup (ds.map V.int)) (Same.refl H2) ndt
    have hdt : upd H2 dt (.tup (ds.map V.int)) dt = some (.tup (ds.map V.int)) := upd_same
    have S3 := S2.same sdt
    have F3 := (F1.trans F2).trans (Fr.of (st := st) (g := g) sdt)
    have dt0 : H dt = none := (F1.trans F2).free ndt zdt.1 zdt.2.1
    generalize upd H2 dt (.tup (ds.map V.int)) = Ha at hdt S3 F3
    clear sdt hD F2 S2
    refine ⟨(by show 0 ≤ sizeLine; decide), fun W nW => ?_⟩
    have zW := S3.old nW
    have sW := sadd (o := .lst []) (Same.refl Ha) nW
    have hW0 : upd Ha W (.lst []) W = some (.lst []) := upd_same
    have W0 : H W = none := F3.free nW zW.1 zW.2.1
    have hdtW := sW _ _ hdt
    have ndtW : dt ≠ W := ne_of_none hdt nW
    have SW := S3.same sW
    have FW := F3.trans (Fr.of (st := st) (g := g) sW)
    generalize upd Ha W (.lst []) = Hb at hW0 hdtW SW FW ⊢
    have la : (ds.map V.int).length = ds.length := List.length_map ..
    have lds6 : ds.length ≤ 6 := by omega
    refine ⟨_, rfl, dt, _, rfl, .inr (SqT.of hdtW), _, rfl, (by omega), (by rw [la]; omega), ?_⟩
    rw [la]
    refine for_range (lo := 0) (n := ds.length) (fun i σ H' => ∃ (o4 o5 o6 o7 : Option V) (wps : List Addr) (wss : List (List (Int × Int))), σ = [some (.ref st), some (.int most), some (.ref dt), some (.ref W), o4, o5, o6, o7, none] ∧ wps.length = i ∧ wss.length = i ∧
        H' W = some (.lst (wps.map V.ref)) ∧ (∀ (j : Nat) (q : Addr), wps[j]? = some q → ∃ ps : List Addr, H' q = some (.tup (ps.map V.ref)) ∧ PairsAt H' ps (wss.getD j [])) ∧ (∀ j, j < i → WiOk ds j (wss.getD j [])) ∧
        SA H' st g c (n + 7 + 40 * i) ∧ H' dt = some (.tup (ds.map V.int)) ∧ Fr st g H H') ?h0 ?turn ?done
    case h0 => exact ⟨_, _, _, _, [], [], rfl, rfl, rfl, hW0, (fun j q e => absurd (List.mem_of_getElem? e) List.not_mem_nil), (fun j hj => absurd hj (Nat.not_lt_zero _)), SW.mono (by omega), hdtW, FW⟩
    case turn =>
      rintro i σ H1 hi ⟨o4, o5, o6, o7, wps, wss, rfl, l1, l2, hW1, hw, hok, S1, hdt1, F1⟩
      rw [Int.zero_add]
      refine ⟨(by show 0 ≤ sizeLine; decide), fun L nL => ?_⟩
      have sL := sadd (o := .lst []) (Same.refl H1) nL
      have hL0 : upd H1 L (.lst []) L = some (.lst []) := upd_same
      have zL := S1.old nL
      generalize upd H1 L (.lst []) = H2 at sL hL0 ⊢
      refine ⟨_, rfl, dt, _, rfl, SqT.of (sL _ _ hdt1), ?_⟩
      refine for_it walk_enumT (fun j σ H' => ∃ (o6 o7 : Option V) (L' : Addr) (ps : List Addr) (qs : List (Int × Int)), σ = [some (.ref st), some (.int most), some (.ref dt), some (.ref W), some (.int (i : Int)), some (.ref L'), o6, o7, none] ∧
          Same H1 H' ∧ H1 L' = none ∧ H' L' = some (.lst (ps.map V.ref)) ∧ PairsAt H' ps qs ∧ qs.Nodup ∧ qs.length ≤ 6 * j ∧ ∀ p ∈ qs, 0 ≤ p.1 ∧ p.1 < (j : Int) ∧ p.1 ≠ i ∧ 0 ≤ p.2 ∧ p.2 < ds.getD p.1.toNat 0) ?g0 (fun j σ H' _ ⟨_, _, _, _, _, _, s, _⟩ => SqT.of (s _ _ hdt1)) ?gturn ?gdone
      case g0 => exact ⟨o6, o7, L, [], [], rfl, sL, nL, hL0, .nil, List.nodup_nil, Nat.zero_le _, fun p hp => absurd hp List.not_mem_nil⟩
      case gturn =>
        rintro j x σ H3 H3' hj ⟨o6, o7, L', ps, qs, rfl, s3, nL', hL', hp, nq, lq, hq⟩ ⟨tp, x0, y0, rfl, ntp, rfl, ex, ey⟩
        rw [la] at hj
        cases ex
        obtain ⟨z, hz⟩ : ∃ z, ds[j]? = some z := ⟨_, List.getElem?_eq_getElem hj⟩
        have ey' : y0 = .int z := by
          have ey2 : (ds.map V.int)[j]? = some y0 := ey
          rw [List.getElem?_map, hz] at ey2
          exact (Option.some.inj ey2).symm
        subst ey'
        obtain ⟨z1, z6⟩ := hd z (List.mem_of_getElem? hz)
        have gz : ds.getD j 0 = z := by rw [List.getD_eq_getElem?_getD, hz]; rfl
        obtain ⟨zn, hzn⟩ : ∃ zn : Nat, z = zn := ⟨z.toNat, by omega⟩
        subst hzn
        have st3 := sadd (o := .tup [.int (j : Int), .int (zn : Int)]) (Same.refl H3) ntp
        have htp : upd H3 tp (.tup [.int (j : Int), .int (zn : Int)]) tp = some (.tup [.int (j : Int), .int (zn : Int)]) := upd_same
        replace s3 := s3.trans st3
        replace hL' := st3 _ _ hL'
        replace hp := hp.mono fun q xs e => st3 _ _ e
        generalize upd H3 tp (.tup [.int (j : Int), .int (zn : Int)]) = H3 at s3 hL' hp htp ⊢
        refine ⟨tp, _, rfl, SqT.of htp, rfl, _, _, rfl, _, _, rfl, rfl, ?_⟩
        refine ⟨_, rfl, _, rfl, _, rfl, (by omega), (by omega), fun C nC => ?_⟩
        rw [Int.toNat_natCast]
        refine lc_range (lo := 0) (n := zn) (fun d H' => Same H3 H' ∧ ∃ (p2 : List Addr) (q2 : List (Int × Int)), H' C = some (.lst (p2.map V.ref)) ∧ PairsAt H' p2 q2 ∧ q2.Nodup ∧ q2.length ≤ d ∧ ∀ p ∈ q2, p.1 = j ∧ j ≠ i ∧ 0 ≤ p.2 ∧ p.2 < (d : Int))
          ⟨sadd (Same.refl H3) nC, [], [], upd_same, .nil, List.nodup_nil, Nat.le_refl _, fun p hp => absurd hp List.not_mem_nil⟩ ?cturn ?cdone
        case cturn =>
          rintro d H4 hdz ⟨s4, p2, q2, hC, hp2, n2, l2', hq2⟩
          rw [Int.zero_add]
          refine ⟨rfl, ?_⟩
          refine ⟨_, rfl, _, rfl, rfl, _, rfl, ?_⟩
          refine ite2 (fun ht => ?_) (fun ht => ?_)
          · have hne : j ≠ i := fun e => by
              subst e
              simp at ht
            refine ⟨_, rfl, _, rfl, (by show 2 ≤ sizeLine; decide), fun t nt => ?_⟩
            have s5 := sadd (o := .tup [.int (j : Int), .int (d : Int)]) (Same.refl H4) nt
            have ht5 : upd H4 t (.tup [.int (j : Int), .int (d : Int)]) t = some (.tup [.int (j : Int), .int (d : Int)]) := upd_same
            have hC5 := s5 _ _ hC
            have hp5 := hp2.mono fun q xs e => s5 _ _ e
            generalize upd H4 t (.tup [.int (j : Int), .int (d : Int)]) = H5 at s5 ht5 hC5 hp5 ⊢
            have lp := hp5.len
            have kt : ∀ (o : List V) q xs, H5 q = some (.tup xs) → upd H5 C (.lst o) q = some (.tup xs) := fun o q xs e => (upd_ne (ne_of e hC5 (fun y => nomatch y))).trans e
            refine ⟨_, hC5, (by rw [List.length_map, lp, sizeLine_eq]; omega), sout (s4.trans s5) nC, p2 ++ [t], q2 ++ [((j : Int), (d : Int))], by rw [upd_same, List.map_append]; rfl, (hp5.mono (kt _)).app (kt _ _ _ ht5), ?_, ?_, ?_⟩
            · rw [List.nodup_append]
              refine ⟨n2, List.nodup_cons.mpr ⟨List.not_mem_nil, List.nodup_nil⟩, fun x hx y hy e => ?_⟩
              rw [List.mem_singleton.mp hy] at e
              have := (hq2 x hx).2.2.2
              rw [e] at this
              have this' : (d : Int) < d := this
              omega
            · rw [List.length_append]
              show q2.length + 1 ≤ d + 1
              omega
            · intro p hp
              rcases List.mem_append.mp hp with hp | hp
              · obtain ⟨a1, a2, a3, a4⟩ := hq2 p hp
                exact ⟨a1, a2, a3, by omega⟩
              · rw [List.mem_singleton.mp hp]
                exact ⟨rfl, hne, by show (0 : Int) ≤ (d : Int); omega, by show (d : Int) < ((d + 1 : Nat) : Int); omega⟩
          · exact ⟨s4, p2, q2, hC, hp2, n2, by omega, fun p hp => by
              obtain ⟨a1, a2, a3, a4⟩ := hq2 p hp
              exact ⟨a1, a2, a3, by omega⟩⟩
        case cdone =>
          rintro H4 ⟨s4, p2, q2, hC, hp2, n2, l2', hq2⟩
          have lp := hp.len
          have lp2 := hp2.len
          have zn6 : zn ≤ 6 := by omega
          refine ⟨L', C, _, _, rfl, rfl, s4 _ _ hL', hC, (by rw [List.length_map, List.length_map, lp, lp2, sizeLine_eq]; omega), fun M nM => ?_⟩
          have s5 := sadd (o := .lst (ps.map V.ref ++ p2.map V.ref)) (Same.refl H4) nM
          have M1 : H1 M = none := (s3.trans s4).free nM
          refine ⟨_, _, M, ps ++ p2, qs ++ q2, rfl, (s3.trans s4).trans s5, M1, by rw [upd_same, List.map_append], ?_, ?_, ?_, ?_⟩
          · exact (hp.mono fun q xs e => s5 _ _ (s4 _ _ e)).apps (hp2.mono fun q xs e => s5 _ _ e)
          · rw [List.nodup_append]
            refine ⟨nq, n2, fun x hx y hy e => ?_⟩
            have h1 := (hq x hx).2.1
            have h2 := (hq2 y hy).1
            rw [e, h2] at h1
            omega
          · rw [List.length_append]
            omega
          · intro p hp'
            rcases List.mem_append.mp hp' with hp' | hp'
            · obtain ⟨a1, a2, a3, a4, a5⟩ := hq p hp'
              exact ⟨a1, by omega, a3, a4, a5⟩
            · obtain ⟨a1, a2, a3, a4⟩ := hq2 p hp'
              refine ⟨by omega, by omega, fun e => a2 (by omega), a3, ?_⟩
              rw [a1, Int.toNat_natCast, gz]
              exact a4
      case gdone =>
        rintro σ H3 ⟨o6', o7', L', ps, qs, rfl, s3, nL', hL', hp, nq, lq, hq⟩
        rw [la] at lq hq
        have S3' := S1.same s3
        have lp := hp.len
        refine ⟨_, rfl, .inl ⟨rfl, _, SqL.of (s3 _ _ hW1)⟩, ?_⟩
        have zL' := S1.old nL'
        refine ⟨_, rfl, _, rfl, st, g, c, L', n + 7 + 40 * i, ps, qs, rfl, S3', by omega, hL', hp, zL'.2.1, by omega, fun p ps' qs' H4 np z1 z2 z3 hp4 hps' pm S4 F4 => ?_⟩
        refine ⟨_, rfl, (by show 6 ≤ sizeLine; decide), fun l nl => ?_⟩
        have zl := S4.old nl
        have sl := sadd (o := .lst [.int 1, .int 2, .int 3, .int 8, .int 8, .int 0]) (Same.refl H4) nl
        refine ⟨st, g, c, l, n + 7 + 40 * i + ps.length, _, rfl, S4.put zl, by omega, upd_same, zl.2.1, (by show 0 < 6; decide), (by show 6 ≤ 1000000; decide), fun x H5 hx S5 F5 => ?_⟩
        obtain ⟨kn, rfl, hkn⟩ : ∃ kn : Nat, x = .int (kn : Int) ∧ kn ≤ 8 := by
          have hx' : x ∈ ([.int 1, .int 2, .int 3, .int 8, .int 8, .int 0] : List V) := hx
          simp only [List.mem_cons, List.not_mem_nil, or_false] at hx'
          rcases hx' with rfl | rfl | rfl | rfl | rfl | rfl
          · exact ⟨1, rfl, by decide⟩
          · exact ⟨2, rfl, by decide⟩
          · exact ⟨3, rfl, by decide⟩
          · exact ⟨8, rfl, by decide⟩
          · exact ⟨8, rfl, by decide⟩
          · exact ⟨0, rfl, by decide⟩
        have hp5 := F5 p _ (sl _ _ hp4) z1 z2
        have hps5 := (hps'.mono fun q xs e => sl _ _ e).mono (fr_tup (S4.put zl) F5)
        have F4l : Fr st g H3 (upd H4 l (.lst [.int 1, .int 2, .int 3, .int 8, .int 8, .int 0])) := F4.trans (Fr.of sl)
        have F35 : Fr st g H3 H5 := F4l.trans F5
        refine ⟨_, rfl, p, _, rfl, SqL.of hp5, fun u nu => ?_⟩
        rw [cutV_take, ← List.map_take]
        have su := sadd (o := .lst ((ps'.take kn).map V.ref)) (Same.refl H5) nu
        have hu : upd H5 u (.lst ((ps'.take kn).map V.ref)) u = some (.lst ((ps'.take kn).map V.ref)) := upd_same
        have S6 := S5.same su
        have hps6 := (hps5.taken kn).mono fun q xs e => su _ _ e
        generalize upd H5 u (.lst ((ps'.take kn).map V.ref)) = H6 at su hu S6 hps6 ⊢
        refine ⟨u, _, rfl, .inl ⟨SqL.of hu, fun v nv => ?_⟩⟩
        have sv := sadd (o := .tup ((ps'.take kn).map V.ref)) (Same.refl H6) nv
        have hv : upd H6 v (.tup ((ps'.take kn).map V.ref)) v = some (.tup ((ps'.take kn).map V.ref)) := upd_same
        have S7 := S6.same sv
        have hps7 := hps6.mono fun q xs e => sv _ _ e
        have F15 : Fr st g H1 H5 := (Fr.of s3).trans F35
        have F17 := (F15.trans (Fr.of su)).trans (Fr.of sv)
        generalize upd H6 v (.tup ((ps'.take kn).map V.ref)) = H7 at sv hv S7 hps7 F17 ⊢
        have hD7 := F17 W _ hW1 zW.1 zW.2.1
        refine ⟨W, _, _, rfl, rfl, hD7, (by rw [List.length_map, l1, sizeLine_eq]; omega), ?_⟩
        have kt : ∀ (o : List V) q xs, H7 q = some (.tup xs) → upd H7 W (.lst o) q = some (.tup xs) := fun o q xs e => (upd_ne (ne_of e hD7 (fun y => nomatch y))).trans e
        have lqs : qs.length ≤ 36 := by omega
        refine ⟨_, _, _, _, wps ++ [v], wss ++ [qs'.take kn], rfl, by rw [List.length_append, l1]; rfl, by rw [List.length_append, l2]; rfl, by rw [upd_same, List.map_append]; rfl, fun j q hq' => ?_, fun j hj => ?_, ?_, (upd_ne ndtW).trans (F17 dt _ hdt1 zdt.1 zdt.2.1), ?_⟩
        · by_cases hj : j < wps.length
          · rw [List.getElem?_append_left hj] at hq'
            obtain ⟨ps0, e1, e2⟩ := hw j q hq'
            rw [getD_app_old _ _ _ (by omega)]
            have t17 : ∀ q xs, H1 q = some (.tup xs) → H7 q = some (.tup xs) := fr_tup S1 F17
            exact ⟨ps0, kt _ _ _ (t17 _ _ e1), e2.mono fun q xs e => kt _ _ _ (t17 _ _ e)⟩
          · have ej : j = i := by
              have := (List.getElem?_eq_some_iff.mp hq').1
              rw [List.length_append] at this
              have : ([v] : List Addr).length = 1 := rfl
              omega
            subst ej
            rw [List.getElem?_append_right (by omega), l1, Nat.sub_self] at hq'
            cases hq'
            rw [show (wss ++ [qs'.take kn]).getD j [] = qs'.take kn by rw [← l2]; exact getD_app_last ..]
            exact ⟨ps'.take kn, kt _ _ _ hv, hps7.mono (kt _)⟩
        · by_cases hji : j < i
          · rw [getD_app_old _ _ _ (by omega)]
            exact hok j hji
          · rw [show j = wss.length by omega, getD_app_last, l2]
            refine ⟨by rw [List.length_take]; omega, ((pm.nodup_iff).mpr nq).sublist (List.take_sublist _ _), fun p hp' => hq p (pm.mem_iff.mp (List.mem_of_mem_take hp'))⟩
        · exact (S7.put zW).mono (by omega)
        · intro b o e h1 h2
          have nb : b ≠ W := ne_of_none e W0
          exact (upd_ne nb).trans ((F1.trans F17) b o e h1 h2)
    case done =>
      rintro σ H1 ⟨o4, o5, o6, o7, wps, wss, rfl, l1, l2, hW1, hw, hok, S1, hdt1, F1⟩
      refine ⟨_, rfl, (by show 7 ≤ sizeLine; decide), fun l nl => ?_⟩
      have zl := S1.old nl
      have sl := sadd (o := .lst [.int 1, .int 2, .int 3, .int 4, .int 5, .int 60, .int 7]) (Same.refl H1) nl
      have tl := fr_tup S1 (Fr.of (st := st) (g := g) sl)
      refine ⟨st, g, c, l, n + 7 + 40 * ds.length, _, rfl, S1.put zl, by omega, upd_same, zl.2.1, (by show 0 < 7; decide), (by show 7 ≤ 1000000; decide), fun x H2 hx S2 F2 => ?_⟩
      obtain ⟨dep, rfl, d1, d60⟩ : ∃ dep : Int, x = .int dep ∧ 1 ≤ dep ∧ dep ≤ 60 := by
        have hx' : x ∈ ([.int 1, .int 2, .int 3, .int 4, .int 5, .int 60, .int 7] : List V) := hx
        simp only [List.mem_cons, List.not_mem_nil, or_false] at hx'
        rcases hx' with rfl | rfl | rfl | rfl | rfl | rfl | rfl
        all_goals exact ⟨_, rfl, by decide, by decide⟩
      have tl2 := fr_tup (S1.put (o := .lst [.int 1, .int 2, .int 3, .int 4, .int 5, .int 60, .int 7]) zl) F2
      have F12 : Fr st g H1 H2 := (Fr.of sl).trans F2
      have F02 := F1.trans F12
      have hW2 := F12 W _ hW1 zW.1 zW.2.1
      refine ⟨_, rfl, W, _, rfl, .inl ⟨SqL.of hW2, fun p np => ?_⟩⟩
      have zp := S2.old np
      have sp := sadd (o := .tup (wps.map V.ref)) (Same.refl H2) np
      have hp : upd H2 p (.tup (wps.map V.ref)) p = some (.tup (wps.map V.ref)) := upd_same
      have S3 := S2.same sp
      have F03 := F02.trans (Fr.of (st := st) (g := g) sp)
      have t13 : ∀ q xs, H1 q = some (.tup xs) → upd H2 p (.tup (wps.map V.ref)) q = some (.tup xs) := fun q xs e => sp _ _ (tl2 _ _ (tl _ _ e))
      generalize upd H2 p (.tup (wps.map V.ref)) = H3 at hp S3 F03 t13 ⊢
      refine ⟨_, rfl, (by show 3 ≤ sizeLine; decide), fun u nu => ?_⟩
      have zu := S3.old nu
      have su := sadd (o := .tup [.int dep, .ref p, .ref dt]) (Same.refl H3) nu
      refine k u ⟨dep, wss, ds⟩ _ (F03.free nu zu.1 zu.2.1) ⟨⟨p, dt, wps, upd_same, su _ _ hp, su _ _ (t13 _ _ hdt1), l1, fun i q e => ?_⟩, ?_⟩ ((S3.same su).mono (by omega)) (F03.trans (Fr.of su))
      · obtain ⟨ps, e1, e2⟩ := hw i q e
        exact ⟨ps, su _ _ (t13 _ _ e1), e2.mono fun q xs z => su _ _ (t13 _ _ z)⟩
      · have hl : ds.length = m := lds
        exact ⟨d1, d60, l2, by show 1 ≤ ds.length; omega, by show ds.length ≤ 6; omega, hd, hok⟩
end
end OH
end
section
set_option Elab.async false
set_option linter.all false
set_option maxRecDepth 100000
set_option maxHeartbeats 8000000
/-! The other face of the law. -/
namespace OH
open PySem PySem.Spec PyProof.Rows L2
section
variable {P : Program} {w : World} {K : PySem.W.Frag} {mg : Str → Option Value} {base : Heap}
abbrev nOF : List Str := ["state", "many", "doors", "wires", "at", "pool", "room", "count", "door"]
theorem sc__law_open_face : FnScope nOF ["state", "many"] (defScope s__law_open_face) := ⟨rfl, rfl, rfl, by decide +kernel, rfl, by decide +kernel, by decide +kernel⟩
theorem ok__law_open_face {f : Addr} {fd : FuncData} (F : Fun K "_law_open_face" "_law_open_face" s__law_open_face f fd) (T : Txt K mg) (nEnum : mg "enumerate" = none)
    (DD : DefF P w K mg base CX0 4 "_law_draw" ["state", "room"] spDraw) (DS : DefF P w K mg base CX0 4 "_law_shuffled" ["state", "some"] spShuf) (DP : DefF P w K mg base CX0 4 "_law_pick" ["state", "some"] spPick) : FnOk P w K mg base CX0 5 f fd ["state", "many"] (spFaceD 2 4) := by
  refine F.ok sc__law_open_face (fun vs H Q E h => ?_) (fun cdv A outer s H vs Q E hr h => ?_)
  · obtain ⟨st, g, c, n, most, rfl, _⟩ := h
    rfl
  · obtain ⟨st, g, c, n, most, rfl, S, hn, m1, m2, k⟩ := h
    have nd := sc__law_open_face.nd
    refine ⟨_, pss_cons (ps_set (i := 2) nd rfl (Or.inl rfl) (pe_callTy call_tuple_of (by rfl) T.nTuple (by decide +kernel) (pa_cons (pe_lc (own := [("at", 4)]) (g := gName 4) (tt := tYes) (te := tOp _ _ (tCall spDraw [] (fun _ _ _ => False) (tCons (tVar 0) (tCons (tC (V.int 2)) tNil)))) rfl nd (pi_range1 rfl T.nRange (pa_cons (pv 1) pa_nil)) (blkOk_by (own := [("at", 4)]) (N := nOF) (sc := defScope s__law_open_face) (by decide +kernel)) (fun _ _ _ _ _ => (pg_name (i := 4) nd rfl (Or.inl rfl))) (fun _ _ _ _ _ => pts_nil) (fun _ _ _ _ _ => (pe_op op_add pe_int (pe_cD DD hr rfl pass0 (pa_cons (pv 0) (pa_cons pe_int pa_nil)))))) pa_nil)))
      (pss_cons (ps_set (i := 3) nd rfl (Or.inl rfl) (pe_lst pa_nil))
      (pss_cons (ps_for PassesOwn.never rfl (pi_range1 rfl T.nRange (pa_cons (pv 1) pa_nil)) (pg_name (i := 4) nd rfl (Or.inr rfl))
        (pss_cons (ps_set (i := 5) nd rfl (Or.inl rfl) (pe_lst pa_nil))
      (pss_cons (ps_for PassesOwn.never rfl (pi_enumT rfl nEnum (pa_cons (pv 2) pa_nil)) (pg_tup (by rfl) (pgs_cons (pg_name (i := 6) nd rfl (Or.inr rfl)) (pgs_cons (pg_name (i := 7) nd rfl (Or.inl rfl)) pgs_nil)))
        (pss_one (ps_set (i := 5) nd rfl (Or.inl rfl) (pe_op op_cat (pv 5) (pe_lc (own := [("door", 8)]) (g := gName 8)   rfl nd (pi_range1 rfl T.nRange (pa_cons (pv 7) pa_nil)) (blkOk_by (own := [("door", 8)]) (N := nOF) (sc := defScope s__law_open_face) (by decide +kernel)) (fun _ _ _ _ _ => (pg_name (i := 8) nd rfl (Or.inl rfl))) (fun _ _ _ _ _ => pts_one (pt_cmpR op_ne (pv 6) (pv 4) (nomark _))) (fun _ _ _ _ _ => (pe_tup (pa_cons (pv 6) (pa_cons (pv 8) pa_nil)))))))))
      (pss_one (ps_expr (pe_bm PySem.F.plainAttrs_list PySem.F.slot_list_append PySem.F.type_list_append mt_append (pv 3) (pa_cons (pe_callTy call_tuple_of (by rfl) T.nTuple (by decide +kernel) (pa_cons (pe_slice sl_list (pe_cD DS hr rfl pass0 (pa_cons (pv 0) (pa_cons (pv 5) pa_nil))) po_none (po_some pe_int)) pa_nil)) pa_nil)))))))
      (pss_one (ps_ret (pe_tup (pa_cons (pe_cD DP hr rfl pass0 (pa_cons (pv 0) (pa_cons (pe_lst (pa_cons pe_int (pa_cons pe_int (pa_cons pe_int (pa_cons pe_int (pa_cons pe_int pa_nil)))))) pa_nil))) (pa_cons (pe_callTy call_tuple_of (by rfl) T.nTuple (by decide +kernel) (pa_cons (pv 3) pa_nil)) (pa_cons (pv 2) pa_nil)))))))), ?_⟩
    obtain ⟨m, em⟩ : ∃ m : Nat, most = (m : Int) := ⟨most.toNat, by omega⟩
    subst em
    have hm1 : 1 ≤ m := by omega
    have hm6 : m ≤ 6 := by omega
    obtain ⟨H1, eH1, S1, F1⟩ : ∃ H1, H1 = H ∧ SA H1 st g c (n + 1) ∧ Fr st g H H1 := ⟨H, rfl, S.mono (Nat.le_succ n), Fr.refl st g H⟩
    refine ⟨_, rfl, _, rfl, by omega, by omega, fun D nD => ?_⟩
    rw [Int.toNat_natCast, ← eH1]
    rw [← eH1] at nD
    have zD := S1.old nD
    have D0 : H D = none := F1.free nD zD.1 zD.2.1
    have sD := sadd (o := .lst []) (Same.refl H1) nD
    refine lc_range (lo := 0) (n := m) (fun i H' => ∃ ns : List Int, ns.length = i ∧ H' D = some (.lst (ns.map V.int)) ∧ (∀ z ∈ ns, 1 ≤ z ∧ z ≤ 6) ∧ SA H' st g c (n + 1 + i) ∧ Fr st g H1 H') ?d0 ?dturn ?ddone
    case d0 => exact ⟨[], rfl, upd_same, fun z hz => absurd hz List.not_mem_nil, S1.same sD, Fr.of sD⟩
    case dturn =>
      rintro i H4 hi ⟨ns, ln, hD, nm, S4, F4⟩
      refine ⟨rfl, ?_⟩
      unfold tYes
      refine iteT ?_
      refine ⟨_, rfl, st, g, c, n + 1 + i, 2, rfl, S4, by omega, by decide, by decide, fun z H5 z0 z9 S5 F5 => ?_⟩
      have hD5 : H5 D = some (.lst (ns.map V.int)) := F5 _ _ hD zD.1 zD.2.1
      refine ⟨_, _, rfl, rfl, _, hD5, by rw [List.length_map, sizeLine_eq]; omega, ns ++ [1 + z], by rw [List.length_append, ln]; rfl, by rw [upd_same, List.map_append]; rfl, fun y hy => ?_, (S5.put zD).mono (by omega), (F4.trans F5).out nD⟩
      rcases List.mem_append.mp hy with h | h
      · exact nm y h
      · rw [List.mem_singleton.mp h]
        exact ⟨by omega, by omega⟩
    case ddone =>
    rintro H2 ⟨ds, lds, hD, hd, S2, F2⟩
    refine ⟨D, _, rfl, .inl ⟨SqL.of hD, fun dt ndt => ?_⟩⟩
    have zdt := S2.old ndt
    have sdt := sadd (o := .tup (ds.map V.int)) (Same.refl H2) ndt
    have hdt : upd H2 dt (.tup (ds.map V.int)) dt = some (.tup (ds.map V.int)) := upd_same
    have S3 := S2.same sdt
    have F3 := (F1.trans F2).trans (Fr.of (st := st) (g := g) sdt)
    have dt0 : H dt = none := (F1.trans F2).free ndt zdt.1 zdt.2.1
    generalize upd H2 dt (.tup (ds.map V.int)) = Ha at hdt S3 F3
    clear sdt hD F2 S2
    refine ⟨(by show 0 ≤ sizeLine; decide), fun W nW => ?_⟩
    have zW := S3.old nW
    have sW := sadd (o := .lst []) (Same.refl Ha) nW
    have hW0 : upd Ha W (.lst []) W = some (.lst []) := upd_same
    have W0 : H W = none := F3.free nW zW.1 zW.2.1
    have hdtW := sW _ _ hdt
    have ndtW : dt ≠ W := ne_of_none hdt nW
    have SW := S3.same sW
    have FW := F3.trans (Fr.of (st := st) (g := g) sW)
    generalize upd Ha W (.lst []) = Hb at hW0 hdtW SW FW ⊢
    have la : (ds.map V.int).length = ds.length := List.length_map ..
    have lds6 : ds.length ≤ 6 := by omega
    refine ⟨_, rfl, _, rfl, by omega, by omega, ?_⟩
    rw [Int.toNat_natCast, ← lds]
    refine for_range (lo := 0) (n := ds.length) (fun i σ H' => ∃ (o4 o5 o6 o7 : Option V) (wps : List Addr) (wss : List (List (Int × Int))), σ = [some (.ref st), some (.int (ds.length : Int)), some (.ref dt), some (.ref W), o4, o5, o6, o7, none] ∧ wps.length = i ∧ wss.length = i ∧
        H' W = some (.lst (wps.map V.ref)) ∧ (∀ (j : Nat) (q : Addr), wps[j]? = some q → ∃ ps : List Addr, H' q = some (.tup (ps.map V.ref)) ∧ PairsAt H' ps (wss.getD j [])) ∧ (∀ j, j < i → WiOk ds j (wss.getD j [])) ∧
        SA H' st g c (n + 7 + 40 * i) ∧ H' dt = some (.tup (ds.map V.int)) ∧ Fr st g H H') ?h0 ?turn ?done
    case h0 => exact ⟨_, _, _, _, [], [], rfl, rfl, rfl, hW0, (fun j q e => absurd (List.mem_of_getElem? e) List.not_mem_nil), (fun j hj => absurd hj (Nat.not_lt_zero _)), SW.mono (by omega), hdtW, FW⟩
    case turn =>
      rintro i σ H1 hi ⟨o4, o5, o6, o7, wps, wss, rfl, l1, l2, hW1, hw, hok, S1, hdt1, F1⟩
      rw [Int.zero_add]
      refine ⟨(by show 0 ≤ sizeLine; decide), fun L nL => ?_⟩
      have sL := sadd (o := .lst []) (Same.refl H1) nL
      have hL0 : upd H1 L (.lst []) L = some (.lst []) := upd_same
      have zL := S1.old nL
      generalize upd H1 L (.lst []) = H2 at sL hL0 ⊢
      refine ⟨_, rfl, dt, _, rfl, SqT.of (sL _ _ hdt1), ?_⟩
      refine for_it walk_enumT (fun j σ H' => ∃ (o6 o7 : Option V) (L' : Addr) (ps : List Addr) (qs : List (Int × Int)), σ = [some (.ref st), some (.int (ds.length : Int)), some (.ref dt), some (.ref W), some (.int (i : Int)), some (.ref L'), o6, o7, none] ∧
          Same H1 H' ∧ H1 L' = none ∧ H' L' = some (.lst (ps.map V.ref)) ∧ PairsAt H' ps qs ∧ qs.Nodup ∧ qs.length ≤ 6 * j ∧ ∀ p ∈ qs, 0 ≤ p.1 ∧ p.1 < (j : Int) ∧ p.1 ≠ i ∧ 0 ≤ p.2 ∧ p.2 < ds.getD p.1.toNat 0) ?g0 (fun j σ H' _ ⟨_, _, _, _, _, _, s, _⟩ => SqT.of (s _ _ hdt1)) ?gturn ?gdone
      case g0 => exact ⟨o6, o7, L, [], [], rfl, sL, nL, hL0, .nil, List.nodup_nil, Nat.zero_le _, fun p hp => absurd hp List.not_mem_nil⟩
      case gturn =>
        rintro j x σ H3 H3' hj ⟨o6, o7, L', ps, qs, rfl, s3, nL', hL', hp, nq, lq, hq⟩ ⟨tp, x0, y0, rfl, ntp, rfl, ex, ey⟩
        rw [la] at hj
        cases ex
        obtain ⟨z, hz⟩ : ∃ z, ds[j]? = some z := ⟨_, List.getElem?_eq_getElem hj⟩
        have ey' : y0 = .int z := by
          have ey2 : (ds.map V.int)[j]? = some y0 := ey
          rw [List.getElem?_map, hz] at ey2
          exact (Option.some.inj ey2).symm
        subst ey'
        obtain ⟨z1, z6⟩ := hd z (List.mem_of_getElem? hz)
        have gz : ds.getD j 0 = z := by rw [List.getD_eq_getElem?_getD, hz]; rfl
        obtain ⟨zn, hzn⟩ : ∃ zn : Nat, z = zn := ⟨z.toNat, by omega⟩
        subst hzn
        have st3 := sadd (o := .tup [.int (j : Int), .int (zn : Int)]) (Same.refl H3) ntp
        have htp : upd H3 tp (.tup [.int (j : Int), .int (zn : Int)]) tp = some (.tup [.int (j : Int), .int (zn : Int)]) := upd_same
        replace s3 := s3.trans st3
        replace hL' := st3 _ _ hL'
        replace hp := hp.mono fun q xs e => st3 _ _ e
        generalize upd H3 tp (.tup [.int (j : Int), .int (zn : Int)]) = H3 at s3 hL' hp htp ⊢
        refine ⟨tp, _, rfl, SqT.of htp, rfl, _, _, rfl, _, _, rfl, rfl, ?_⟩
        refine ⟨_, rfl, _, rfl, _, rfl, (by omega), (by omega), fun C nC => ?_⟩
        rw [Int.toNat_natCast]
        refine lc_range (lo := 0) (n := zn) (fun d H' => Same H3 H' ∧ ∃ (p2 : List Addr) (q2 : List (Int × Int)), H' C = some (.lst (p2.map V.ref)) ∧ PairsAt H' p2 q2 ∧ q2.Nodup ∧ q2.length ≤ d ∧ ∀ p ∈ q2, p.1 = j ∧ j ≠ i ∧ 0 ≤ p.2 ∧ p.2 < (d : Int))
          ⟨sadd (Same.refl H3) nC, [], [], upd_same, .nil, List.nodup_nil, Nat.le_refl _, fun p hp => absurd hp List.not_mem_nil⟩ ?cturn ?cdone
        case cturn =>
          rintro d H4 hdz ⟨s4, p2, q2, hC, hp2, n2, l2', hq2⟩
          rw [Int.zero_add]
          refine ⟨rfl, ?_⟩
          refine ⟨_, rfl, _, rfl, rfl, _, rfl, ?_⟩
          refine ite2 (fun ht => ?_) (fun ht => ?_)
          · have hne : j ≠ i := fun e => by
              subst e
              simp at ht
            refine ⟨_, rfl, _, rfl, (by show 2 ≤ sizeLine; decide), fun t nt => ?_⟩
            have s5 := sadd (o := .tup [.int (j : Int), .int (d : Int)]) (Same.refl H4) nt
            have ht5 : upd H4 t (.tup [.int (j : Int), .int (d : Int)]) t = some (.tup [.int (j : Int), .int (d : Int)]) := upd_same
            have hC5 := s5 _ _ hC
            have hp5 := hp2.mono fun q xs e => s5 _ _ e
            generalize upd H4 t (.tup [.int (j : Int), .int (d : Int)]) = H5 at s5 ht5 hC5 hp5 ⊢
            have lp := hp5.len
            have kt : ∀ (o : List V) q xs, H5 q = some (.tup xs) → upd H5 C (.lst o) q = some (.tup xs) := fun o q xs e => (upd_ne (ne_of e hC5 (fun y => nomatch y))).trans e
            refine ⟨_, hC5, (by rw [List.length_map, lp, sizeLine_eq]; omega), sout (s4.trans s5) nC, p2 ++ [t], q2 ++ [((j : Int), (d : Int))], by rw [upd_same, List.map_append]; rfl, (hp5.mono (kt _)).app (kt _ _ _ ht5), ?_, ?_, ?_⟩
            · rw [List.nodup_append]
              refine ⟨n2, List.nodup_cons.mpr ⟨List.not_mem_nil, List.nodup_nil⟩, fun x hx y hy e => ?_⟩
              rw [List.mem_singleton.mp hy] at e
              have := (hq2 x hx).2.2.2
              rw [e] at this
              have this' : (d : Int) < d := this
              omega
            · rw [List.length_append]
              show q2.length + 1 ≤ d + 1
              omega
            · intro p hp
              rcases List.mem_append.mp hp with hp | hp
              · obtain ⟨a1, a2, a3, a4⟩ := hq2 p hp
                exact ⟨a1, a2, a3, by omega⟩
              · rw [List.mem_singleton.mp hp]
                exact ⟨rfl, hne, by show (0 : Int) ≤ (d : Int); omega, by show (d : Int) < ((d + 1 : Nat) : Int); omega⟩
          · exact ⟨s4, p2, q2, hC, hp2, n2, by omega, fun p hp => by
              obtain ⟨a1, a2, a3, a4⟩ := hq2 p hp
              exact ⟨a1, a2, a3, by omega⟩⟩
        case cdone =>
          rintro H4 ⟨s4, p2, q2, hC, hp2, n2, l2', hq2⟩
          have lp := hp.len
          have lp2 := hp2.len
          have zn6 : zn ≤ 6 := by omega
          refine ⟨L', C, _, _, rfl, rfl, s4 _ _ hL', hC, (by rw [List.length_map, List.length_map, lp, lp2, sizeLine_eq]; omega), fun M nM => ?_⟩
          have s5 := sadd (o := .lst (ps.map V.ref ++ p2.map V.ref)) (Same.refl H4) nM
          have M1 : H1 M = none := (s3.trans s4).free nM
          refine ⟨_, _, M, ps ++ p2, qs ++ q2, rfl, (s3.trans s4).trans s5, M1, by rw [upd_same, List.map_append], ?_, ?_, ?_, ?_⟩
          · exact (hp.mono fun q xs e => s5 _ _ (s4 _ _ e)).apps (hp2.mono fun q xs e => s5 _ _ e)
          · rw [List.nodup_append]
            refine ⟨nq, n2, fun x hx y hy e => ?_⟩
            have h1 := (hq x hx).2.1
            have h2 := (hq2 y hy).1
            rw [e, h2] at h1
            omega
          · rw [List.length_append]
            omega
          · intro p hp'
            rcases List.mem_append.mp hp' with hp' | hp'
            · obtain ⟨a1, a2, a3, a4, a5⟩ := hq p hp'
              exact ⟨a1, by omega, a3, a4, a5⟩
            · obtain ⟨a1, a2, a3, a4⟩ := hq2 p hp'
              refine ⟨by omega, by omega, fun e => a2 (by omega), a3, ?_⟩
              rw [a1, Int.toNat_natCast, gz]
              exact a4
      case gdone =>
        rintro σ H3 ⟨o6', o7', L', ps, qs, rfl, s3, nL', hL', hp, nq, lq, hq⟩
        rw [la] at lq hq
        have S3' := S1.same s3
        have lp := hp.len
        refine ⟨_, rfl, .inl ⟨rfl, _, SqL.of (s3 _ _ hW1)⟩, ?_⟩
        have zL' := S1.old nL'
        refine ⟨_, rfl, _, rfl, st, g, c, L', n + 7 + 40 * i, ps, qs, rfl, S3', by omega, hL', hp, zL'.2.1, by omega, fun p ps' qs' H4 np z1 z2 z3 hp4 hps' pm S4 F4 => ?_⟩
        obtain ⟨kn, ekn, hkn⟩ : ∃ kn : Nat, (8 : Int) = (kn : Int) ∧ kn ≤ 8 := ⟨8, rfl, by decide⟩
        obtain ⟨H5, eH5, S5, F35, hp5, hps5⟩ : ∃ H5, H5 = H4 ∧ SA H5 st g c (n + 7 + 40 * i + ps.length + 1) ∧ Fr st g H3 H5 ∧ H5 p = some (.lst (ps'.map V.ref)) ∧ PairsAt H5 ps' qs' := ⟨H4, rfl, S4.mono (Nat.le_succ _), F4, hp4, hps'⟩
        rw [ekn, ← eH5]
        refine ⟨_, rfl, p, _, rfl, SqL.of hp5, fun u nu => ?_⟩
        rw [cutV_take, ← List.map_take]
        have su := sadd (o := .lst ((ps'.take kn).map V.ref)) (Same.refl H5) nu
        have hu : upd H5 u (.lst ((ps'.take kn).map V.ref)) u = some (.lst ((ps'.take kn).map V.ref)) := upd_same
        have S6 := S5.same su
        have hps6 := (hps5.taken kn).mono fun q xs e => su _ _ e
        generalize upd H5 u (.lst ((ps'.take kn).map V.ref)) = H6 at su hu S6 hps6 ⊢
        refine ⟨u, _, rfl, .inl ⟨SqL.of hu, fun v nv => ?_⟩⟩
        have sv := sadd (o := .tup ((ps'.take kn).map V.ref)) (Same.refl H6) nv
        have hv : upd H6 v (.tup ((ps'.take kn).map V.ref)) v = some (.tup ((ps'.take kn).map V.ref)) := upd_same
        have S7 := S6.same sv
        have hps7 := hps6.mono fun q xs e => sv _ _ e
        have F15 : Fr st g H1 H5 := (Fr.of s3).trans F35
        have F17 := (F15.trans (Fr.of su)).trans (Fr.of sv)
        generalize upd H6 v (.tup ((ps'.take kn).map V.ref)) = H7 at sv hv S7 hps7 F17 ⊢
        have hD7 := F17 W _ hW1 zW.1 zW.2.1
        refine ⟨W, _, _, rfl, rfl, hD7, (by rw [List.length_map, l1, sizeLine_eq]; omega), ?_⟩
        have kt : ∀ (o : List V) q xs, H7 q = some (.tup xs) → upd H7 W (.lst o) q = some (.tup xs) := fun o q xs e => (upd_ne (ne_of e hD7 (fun y => nomatch y))).trans e
        have lqs : qs.length ≤ 36 := by omega
        refine ⟨_, _, _, _, wps ++ [v], wss ++ [qs'.take kn], rfl, by rw [List.length_append, l1]; rfl, by rw [List.length_append, l2]; rfl, by rw [upd_same, List.map_append]; rfl, fun j q hq' => ?_, fun j hj => ?_, ?_, (upd_ne ndtW).trans (F17 dt _ hdt1 zdt.1 zdt.2.1), ?_⟩
        · by_cases hj : j < wps.length
          · rw [List.getElem?_append_left hj] at hq'
            obtain ⟨ps0, e1, e2⟩ := hw j q hq'
            rw [getD_app_old _ _ _ (by omega)]
            have t17 : ∀ q xs, H1 q = some (.tup xs) → H7 q = some (.tup xs) := fr_tup S1 F17
            exact ⟨ps0, kt _ _ _ (t17 _ _ e1), e2.mono fun q xs e => kt _ _ _ (t17 _ _ e)⟩
          · have ej : j = i := by
              have := (List.getElem?_eq_some_iff.mp hq').1
              rw [List.length_append] at this
              have : ([v] : List Addr).length = 1 := rfl
              omega
            subst ej
            rw [List.getElem?_append_right (by omega), l1, Nat.sub_self] at hq'
            cases hq'
            rw [show (wss ++ [qs'.take kn]).getD j [] = qs'.take kn by rw [← l2]; exact getD_app_last ..]
            exact ⟨ps'.take kn, kt _ _ _ hv, hps7.mono (kt _)⟩
        · by_cases hji : j < i
          · rw [getD_app_old _ _ _ (by omega)]
            exact hok j hji
          · rw [show j = wss.length by omega, getD_app_last, l2]
            refine ⟨by rw [List.length_take]; omega, ((pm.nodup_iff).mpr nq).sublist (List.take_sublist _ _), fun p hp' => hq p (pm.mem_iff.mp (List.mem_of_mem_take hp'))⟩
        · exact (S7.put zW).mono (by omega)
        · intro b o e h1 h2
          have nb : b ≠ W := ne_of_none e W0
          exact (upd_ne nb).trans ((F1.trans F17) b o e h1 h2)
    case done =>
      rintro σ H1 ⟨o4, o5, o6, o7, wps, wss, rfl, l1, l2, hW1, hw, hok, S1, hdt1, F1⟩
      refine ⟨_, rfl, (by show 5 ≤ sizeLine; decide), fun l nl => ?_⟩
      have zl := S1.old nl
      have sl := sadd (o := .lst [.int 3, .int 4, .int 6, .int 9, .int 60]) (Same.refl H1) nl
      have tl := fr_tup S1 (Fr.of (st := st) (g := g) sl)
      refine ⟨st, g, c, l, n + 7 + 40 * ds.length, _, rfl, S1.put zl, by omega, upd_same, zl.2.1, (by show 0 < 5; decide), (by show 5 ≤ 1000000; decide), fun x H2 hx S2 F2 => ?_⟩
      obtain ⟨dep, rfl, d1, d60⟩ : ∃ dep : Int, x = .int dep ∧ 1 ≤ dep ∧ dep ≤ 60 := by
        have hx' : x ∈ ([.int 3, .int 4, .int 6, .int 9, .int 60] : List V) := hx
        simp only [List.mem_cons, List.not_mem_nil, or_false] at hx'
        rcases hx' with rfl | rfl | rfl | rfl | rfl
        all_goals exact ⟨_, rfl, by decide, by decide⟩
      have tl2 := fr_tup (S1.put (o := .lst [.int 3, .int 4, .int 6, .int 9, .int 60]) zl) F2
      have F12 : Fr st g H1 H2 := (Fr.of sl).trans F2
      have F02 := F1.trans F12
      have hW2 := F12 W _ hW1 zW.1 zW.2.1
      refine ⟨_, rfl, W, _, rfl, .inl ⟨SqL.of hW2, fun p np => ?_⟩⟩
      have zp := S2.old np
      have sp := sadd (o := .tup (wps.map V.ref)) (Same.refl H2) np
      have hp : upd H2 p (.tup (wps.map V.ref)) p = some (.tup (wps.map V.ref)) := upd_same
      have S3 := S2.same sp
      have F03 := F02.trans (Fr.of (st := st) (g := g) sp)
      have t13 : ∀ q xs, H1 q = some (.tup xs) → upd H2 p (.tup (wps.map V.ref)) q = some (.tup xs) := fun q xs e => sp _ _ (tl2 _ _ (tl _ _ e))
      generalize upd H2 p (.tup (wps.map V.ref)) = H3 at hp S3 F03 t13 ⊢
      refine ⟨_, rfl, (by show 3 ≤ sizeLine; decide), fun u nu => ?_⟩
      have zu := S3.old nu
      have su := sadd (o := .tup [.int dep, .ref p, .ref dt]) (Same.refl H3) nu
      refine k u ⟨dep, wss, ds⟩ _ (F03.free nu zu.1 zu.2.1) ⟨⟨p, dt, wps, upd_same, su _ _ hp, su _ _ (t13 _ _ hdt1), l1, fun i q e => ?_⟩, ?_⟩ ((S3.same su).mono (by omega)) (F03.trans (Fr.of su))
      · obtain ⟨ps, e1, e2⟩ := hw i q e
        exact ⟨ps, su _ _ (t13 _ _ e1), e2.mono fun q xs z => su _ _ (t13 _ _ z)⟩
      · have hl : ds.length = m := lds
        exact ⟨d1, d60, l2, by show 1 ≤ ds.length; omega, by show ds.length ≤ 6; omega, hd, hok⟩
end
end OH
end
section
set_option Elab.async false
set_option linter.all false
set_option maxRecDepth 100000
set_option maxHeartbeats 1000000
/-! A test, an expression whose end may be weakened: what follows is read once, for all its ways. -/
namespace OH
open PySem PySem.Spec PyProof.Rows L2
def tTUp (t : TT) : TT := fun σ H Q => ∃ R : Bool → Hp → Prop, t σ H R ∧ ∀ b H', R b H' → Q b H'
theorem pt_up {X : Cx} {e : Expr} {t : TT} (h : PT X e t) : PT X e (tTUp t) := ⟨fun pins s σ H Q I ⟨R, h1, k⟩ => thn (h.run pins s σ H R I h1) fun b s1 ⟨H1, I1, r⟩ => ⟨H1, I1, k b H1 r⟩⟩
def tEUp (t : TE) : TE := fun σ H Q => ∃ R : V → Hp → Prop, t σ H R ∧ ∀ v H', R v H' → Q v H'
theorem pe_up {X : Cx} {e : Expr} {t : TE} (h : PE X e t) : PE X e (tEUp t) := ⟨fun pins s σ H Q I ⟨R, h1, k⟩ => thn (h.run pins s σ H R I h1) fun u s1 ⟨v, H1, I1, r, q⟩ => ⟨v, H1, I1, r, k v H1 q⟩⟩
theorem ps_up {X : Cx} {st : Stmt} {t : TS} (h : PS X st t) : PS X st (fun D σ H => ∃ A : L2.St → Hp → Prop, t { D with nx := A } σ H ∧ ∀ σ' H', A σ' H' → D.nx σ' H') := by
  refine ⟨fun pins s σ H D I ⟨A, h1, k⟩ => thn (h.run pins s σ H _ I h1) fun fl s' q => ?_⟩
  cases fl with
  | next =>
    obtain ⟨σ', H', J, q⟩ := q
    exact ⟨σ', H', J, k _ _ q⟩
  | brk => exact q
  | cont => exact q
  | ret u => exact q
end OH
end
section
set_option Elab.async false
set_option linter.all false
set_option maxRecDepth 100000
set_option maxHeartbeats 8000000
/-! A crossing that can stand next. -/
namespace OH
open PySem PySem.Spec PyProof.Rows L2
theorem eqv_nilT (ws : List PyData) : PyData.eqv (.tuple ws) (.tuple []) = ws.isEmpty := by
  cases ws <;> rfl
theorem shaped_pairsT (ws : List (Int × Int)) : SeqAt.shaped (.tuple (ws.map pairD)) = true := shaped_pairs ws
theorem PairsAt.of_mem {H : Hp} {ps : List Addr} {ws : List (Int × Int)} (h : PairsAt H ps ws) {p : Addr} (hp : p ∈ ps) : ∃ q ∈ ws, H p = some (.tup [.int q.1, .int q.2]) := by
  obtain ⟨i, hi⟩ := List.mem_iff_getElem?.mp hp
  obtain ⟨q, q1, q2⟩ := h.get hi
  exact ⟨q, List.mem_of_getElem? q1, q2⟩
theorem AkAt.frm {H H' : Hp} {st g c : Addr} {n : Nat} {al : Addr} {as : List (Int × Int)} (h : AkAt H al as) (S : SA H st g c n) (F : Fr st g H H') (ag : al ≠ g) : AkAt H' al as := by
  obtain ⟨ps, h1, h2⟩ := h
  exact ⟨ps, F al _ h1 (S.ne_st h1 (fun _ z => nomatch z)) ag, h2.mono (fr_tup S F)⟩
theorem AllAt.dpp {K : PySem.W.Frag} {H : Hp} {ps : List Addr} {as : List (Int × Int)} (h : AllAt H pairV ps as) : DpAll K H (ps.map V.ref) (as.map pairD) := by
  induction h with
  | nil => exact .nil
  | cons a _ ih => exact .cons (.tup (SqT.of a) (.cons (.int _) (.cons (.int _) .nil))) ih
/-- what stands while a crossing is drawn -/
structure NxA (H : Hp) (st g c : Addr) (n : Nat) (a al fl : Addr) (F : Fc) (as : List (Int × Int)) (ns : List Int) : Prop where
  S : SA H st g c n
  f : FcAt H a F
  k : AkAt H al as
  l : H fl = some (.lst (ns.map V.int))
  ag : al ≠ g
  lg : fl ≠ g
section
variable {H H' : Hp} {st g c : Addr} {n m : Nat} {a al fl : Addr} {F : Fc} {as : List (Int × Int)} {ns : List Int}
theorem NxA.fr (h : NxA H st g c n a al fl F as ns) (G : Fr st g H H') (S : SA H' st g c m) : NxA H' st g c m a al fl F as ns :=
  ⟨S, h.f.mono (fr_tup h.S G), h.k.frm h.S G h.ag, G fl _ h.l (h.S.ne_st h.l (fun _ z => nomatch z)) h.lg, h.ag, h.lg⟩
theorem NxA.same (h : NxA H st g c n a al fl F as ns) (G : Same H H') : NxA H' st g c n a al fl F as ns := h.fr (Fr.of G) (h.S.same G)
end
def spNextC : Sp := fun vs H Q _ => ∃ (st g c a al fl : Addr) (n : Nat) (r : Int) (F : Fc) (as : List (Int × Int)) (ns : List Int), vs = [.ref st, .ref a, .int r, .ref al, .ref fl] ∧ NxA H st g c n a al fl F as ns ∧ n ≤ 700000 ∧
  SOk F (some r, as) ∧ 1 ≤ ns.length ∧ ns.length ≤ 3 ∧ (∀ z ∈ ns, Num z) ∧
  ∀ (t : Addr) (x : Crs) (H' : Hp), H t = none → H' t = some (.tup x.vs) → Nx F r as x → SA H' st g c (n + 4) → Fr st g H H' → Q (.ref t) H'
section
variable {P : Program} {w : World} {K : PySem.W.Frag} {mg : Str → Option Value} {base : Heap}
abbrev nNx : List Str := ["state", "face", "control", "asks", "few", "way", "number", "to", "door"]
theorem sc__law_next : FnScope nNx ["state", "face", "control", "asks", "few"] (defScope s__law_next) := ⟨rfl, rfl, rfl, by decide +kernel, rfl, by decide +kernel, by decide +kernel⟩
theorem ok__law_next {f : Addr} {fd : FuncData} (F : Fun K "_law_next" "_law_next" s__law_next f fd) (T : Txt K mg)
    (DD : DefF P w K mg base CX0 4 "_law_draw" ["state", "room"] spDraw) (DP : DefF P w K mg base CX0 4 "_law_pick" ["state", "some"] spPick2) : FnOk P w K mg base CX0 5 f fd ["state", "face", "control", "asks", "few"] spNextC := by
  refine F.ok sc__law_next (fun vs H Q E h => ?_) (fun cdv A outer s H vs Q E hr h => ?_)
  · obtain ⟨st, g, c, a, al, fl, n, r, F, as, ns, rfl, _⟩ := h
    rfl
  · obtain ⟨st, g, c, a, al, fl, n, r, F, as, ns, rfl, N, hn, hs, l1, l3, hnum, k⟩ := h
    have nd := sc__law_next.nd
    refine ⟨_, pss_cons (ps_par (i := 5) (j := 6) (by rfl) nd rfl rfl (by decide) rfl rfl (pa_cons (pe_cD DD hr rfl pass0 (pa_cons (pv 0) (pa_cons pe_int pa_nil))) (pa_cons (pe_cD DP hr rfl pass0 (pa_cons (pv 0) (pa_cons (pv 4) pa_nil))) pa_nil)) (by rfl))
      (pss_cons (ps_if (pt_up (PW.pt (pw_and (pt_cmpR op_eq (pv 5) pe_int (nomark _)) (pw_and1 (pt_cmpR op_eq (pe_cD DD hr rfl pass0 (pa_cons (pv 0) (pa_cons pe_int pa_nil))) pe_int (nomark _)))))) (pss_one (ps_ret (pe_tup (pa_cons pe_str (pa_cons (pv 2) pa_nil))))) pss_nil)
      (pss_cons (ps_if (pt_up (PW.pt (pw_and (pt_cmpR (op_neD hr.units) (pe_ix ix_tup (pe_ix ix_tup (pv 1) pe_int (fun _ _ => rfl)) (pv 2) (fun _ _ => rfl)) (pe_tup pa_nil) (nomark _)) (pw_and1 (pt_cmpR op_lt (pv 5) (pe_ifExp (pt_cmpR (op_neD hr.units) (pv 3) (pe_lst pa_nil) (nomark _)) pe_int pe_int) (nomark _)))))) (pss_cons (ps_asg (pe_cD DP hr rfl pass0 (pa_cons (pv 0) (pa_cons (pe_ix ix_tup (pe_ix ix_tup (pv 1) pe_int (fun _ _ => rfl)) (pv 2) (fun _ _ => rfl)) pa_nil))) (pg_tup (by rfl) (pgs_cons (pg_name (i := 7) nd rfl (Or.inl rfl)) (pgs_cons (pg_name (i := 8) nd rfl (Or.inl rfl)) pgs_nil))))
      (pss_one (ps_ret (pe_tup (pa_cons (pe_ifExp (pt_cmpR op_lt (pe_callB call_len_seq (by rfl) T.nLen PySem.boot_len (pa_cons (pv 3) pa_nil)) (pe_ix ix_tup (pv 1) pe_int (fun _ _ => rfl)) (nomark _)) pe_str pe_str) (pa_cons (pv 2) (pa_cons (pv 7) (pa_cons (pv 8) (pa_cons (pv 6) pa_nil))))))))) pss_nil)
      (pss_one (ps_ret (pe_ifExp (pt_cmpR (op_neD hr.units) (pv 3) (pe_lst pa_nil) (nomark _)) (pe_tup (pa_cons pe_str (pa_cons (pv 2) (pa_cons (pe_ix ix_tup (pe_ix ix_list (pv 3) (pe_un un_neg pe_int) (fun _ _ => rfl)) pe_int (fun _ _ => rfl)) (pa_cons (pv 6) pa_nil))))) (pe_tup (pa_cons pe_str (pa_cons (pv 6) pa_nil)))))))), ?_⟩
    have hF := N.f.ok
    obtain ⟨r0, r1⟩ := (hs.ctl (c := r) rfl).rng hF
    have hle : (as.length : Int) ≤ F.dep := hs.le
    refine ⟨_, rfl, st, g, c, n, 10, rfl, N.S, by omega, by decide, by decide, fun wy H1 w0 w9 S1 F1 => ?_⟩
    have N1 := N.fr F1 S1
    refine ⟨_, rfl, _, rfl, st, g, c, fl, n + 1, _, rfl, S1, by omega, .inl ⟨N1.l, N.lg⟩, by rw [List.length_map]; omega, by rw [List.length_map]; omega, fun x H2 hx S2 F2 => ?_⟩
    obtain ⟨num, hnm, rfl⟩ := List.mem_map.mp hx
    have hN := hnum num hnm
    have N2 := N1.fr F2 S2
    have F02 := F1.trans F2
    clear hx F1 F2 S1 S2 N1
    refine ⟨_, _, rfl, ?_⟩
    -- the first test
    refine ⟨fun _ H' => NxA H' st g c (n + 3) a al fl F as ns ∧ Fr st g H H', ?_, fun b H3 ⟨N3, F03⟩ => ?_⟩
    · refine ⟨_, rfl, rfl, _, rfl, ite2 (fun z => ?_) (fun z => ?_)⟩
      · refine ⟨_, rfl, st, g, c, n + 1 + 1, 3, rfl, N2.S, by omega, by decide, by decide, fun y H3 y0 y9 S3 F3 => ?_⟩
        refine ⟨rfl, _, rfl, N2.fr F3 S3, F02.trans F3⟩
      · exact ⟨N2.fr (Fr.refl st g H2) (N2.S.mono (by omega)), F02⟩
    have give : ∀ {H3 : Hp} {m : Nat} (x : Crs) (u : Addr), SA H3 st g c m → m ≤ n + 4 → Fr st g H H3 → H3 u = none → Nx F r as x → Q (.ref u) (upd H3 u (.tup x.vs)) := fun x u S3 hm F3 nu hx =>
      k u x _ (F3.free nu (S3.old nu).1 (S3.old nu).2.1) upd_same hx ((S3.same (sadd (Same.refl _) nu)).mono hm) (F3.trans (Fr.of (sadd (Same.refl _) nu)))
    cases b with
    | true =>
      refine iteT ?_
      exact ⟨_, rfl, (by show 2 ≤ sizeLine; decide), fun u nu => give (.fin r) u N3.S (by omega) F03 nu rfl⟩
    | false =>
      refine iteF ?_
      obtain ⟨wt, dt, wps, b1, b2, b3, b4, b5⟩ := N3.f.ex
      obtain ⟨wp, hwp⟩ : ∃ wp, wps[r.toNat]? = some wp := ⟨_, List.getElem?_eq_getElem (by rw [b4]; omega)⟩
      obtain ⟨ps, p1, p2⟩ := b5 _ _ hwp
      obtain ⟨as_, a1, a2⟩ := id N3.k
      have at_ : atI (wps.map V.ref) r = some (.ref wp) := by
        have := atI_nat (xs := wps.map V.ref) (j := r.toNat) (v := .ref wp) (by rw [List.getElem?_map, hwp]; rfl)
        rwa [Int.toNat_of_nonneg r0] at this
      have lw8 : (F.ws r.toNat).length ≤ 8 := (hF.wi r.toNat (by omega)).1
      have sp2 := shaped_pairsT (F.ws r.toNat)
      have spa := shaped_pairs as
      refine ⟨fun b H' => Same H3 H' ∧ (b = true → F.ws r.toNat ≠ []), ?_, fun b H4 ⟨s4, hb⟩ => ?_⟩
      · refine ⟨_, rfl, a, _, 1, _, rfl, rfl, SqT.of b1, rfl, _, rfl, wt, _, r, .ref wp, rfl, rfl, SqT.of b2, at_, (by show 0 ≤ sizeLine; decide), fun e ne => ?_⟩
        have se := sadd (o := .tup []) (Same.refl H3) ne
        have he : upd H3 e (.tup []) e = some (.tup []) := upd_same
        have p13 := se _ _ p1
        have p23 := p2.mono fun q xs z => se _ _ z
        have a13 := se _ _ a1
        have a23 := a2.mono fun q xs z => se _ _ z
        generalize upd H3 e (.tup []) = H4 at se he p13 p23 a13 a23 ⊢
        refine ⟨.tuple ((F.ws r.toNat).map pairD), .tuple [], .tup (SqT.of p13) p23.dp, .tup (SqT.of he) .nil, sp2, rfl, _, rfl, ?_⟩
        rw [eqv_nilT]
        cases hws : ((F.ws r.toNat).map pairD).isEmpty with
        | true => exact iteF ⟨se, fun z => nomatch z⟩
        | false =>
          refine iteT ?_
          have hne : F.ws r.toNat ≠ [] := fun z => by rw [z] at hws; cases hws
          refine ⟨_, rfl, _, rfl, (by show 0 ≤ sizeLine; decide), fun e2 ne2 => ?_⟩
          have se2 := sadd (o := .lst []) (Same.refl H4) ne2
          have he2 : upd H4 e2 (.lst []) e2 = some (.lst []) := upd_same
          refine ⟨.list (as.map pairD), .list [], .lst (SqL.of (se2 _ _ a13)) (a23.mono fun q xs z => se2 _ _ z).dpp, .lst (SqL.of he2) .nil, spa, rfl, _, rfl, ?_⟩
          refine ite2 (fun _ => ?_) (fun _ => ?_)
          · exact ⟨_, _, rfl, rfl, _, rfl, se.trans se2, fun _ => hne⟩
          · exact ⟨_, _, rfl, rfl, _, rfl, se.trans se2, fun _ => hne⟩
      have N4 := N3.same s4
      have F04 := F03.trans (Fr.of s4)
      replace b1 := s4 _ _ b1
      replace b2 := s4 _ _ b2
      replace p1 := s4 _ _ p1
      replace p2 := p2.mono fun q xs z => s4 _ _ z
      replace a1 := s4 _ _ a1
      replace a2 := a2.mono fun q xs z => s4 _ _ z
      have lps := p2.len
      have las := a2.len
      cases b with
      | true =>
        refine iteT ?_
        have pos : 0 < (F.ws r.toNat).length := List.length_pos_iff.mpr (hb rfl)
        refine ⟨_, rfl, _, rfl, a, _, 1, _, rfl, rfl, SqT.of b1, rfl, _, rfl, wt, _, r, .ref wp, rfl, rfl, SqT.of b2, at_, ?_⟩
        refine ⟨st, g, c, wp, n + 3, _, rfl, N4.S, by omega, .inr p1, by rw [List.length_map]; omega, by rw [List.length_map]; omega, fun x H5 hx S5 F5 => ?_⟩
        obtain ⟨q, hq, rfl⟩ := List.mem_map.mp hx
        obtain ⟨v, hv, hqv⟩ := p2.of_mem hq
        have t5 := fr_tup N4.S F5
        refine ⟨q, _, rfl, SqT.of (t5 _ _ hqv), rfl, _, _, rfl, _, _, rfl, rfl, ?_⟩
        have N5 := N4.fr F5 S5
        have F05 := F04.trans F5
        obtain ⟨as5, a15, a25⟩ := id N5.k
        have la5 := a25.len
        refine ⟨_, rfl, al, _, rfl, .inl (SqL.of a15), _, rfl, a, _, 0, _, rfl, rfl, SqT.of (t5 _ _ b1), rfl, _, _, rfl, rfl, _, rfl, ?_⟩
        rw [List.length_map, la5]
        refine ite2 (fun z => ?_) (fun z => ?_)
        · have hlt : (as.length : Int) < F.dep := by simpa using z
          refine ⟨_, rfl, _, rfl, _, rfl, _, rfl, (by show 5 ≤ sizeLine; decide), fun u nu => ?_⟩
          exact give (.call r v.1 v.2 num) u N5.S (by omega) F05 nu ⟨rfl, hv, hlt, hN⟩
        · have hlt : ¬ (as.length : Int) < F.dep := by simpa using z
          refine ⟨_, rfl, _, rfl, _, rfl, _, rfl, (by show 5 ≤ sizeLine; decide), fun u nu => ?_⟩
          exact give (.deep r v.1 v.2 num) u N5.S (by omega) F05 nu ⟨rfl, hv, by omega, hN⟩
      | false =>
        refine iteF ?_
        refine ⟨_, rfl, (by show 0 ≤ sizeLine; decide), fun e2 ne2 => ?_⟩
        have se2 := sadd (o := .lst []) (Same.refl H4) ne2
        have he2 : upd H4 e2 (.lst []) e2 = some (.lst []) := upd_same
        have S5 := N4.S.same se2
        have F05 := F04.trans (Fr.of se2)
        replace a1 := se2 _ _ a1
        replace a2 := a2.mono fun q xs z => se2 _ _ z
        generalize upd H4 e2 (.lst []) = H5 at se2 he2 S5 F05 a1 a2 ⊢
        refine ⟨.list (as.map pairD), .list [], .lst (SqL.of a1) a2.dpp, .lst (SqL.of he2) .nil, spa, rfl, _, rfl, ?_⟩
        rw [eqv_nil]
        cases has : (as.map pairD).isEmpty with
        | true =>
          refine iteF ?_
          have e0 : as = [] := by
            cases as with
            | nil => rfl
            | cons _ _ => cases has
          exact ⟨_, rfl, (by show 2 ≤ sizeLine; decide), fun u nu => give (.done num) u S5 (by omega) F05 nu ⟨e0, hN⟩⟩
        | false =>
          refine iteT ?_
          obtain ⟨q, hq⟩ : ∃ q, as.getLast? = some q := by
            cases h : as.getLast? with
            | none => rw [List.getLast?_eq_none_iff.mp h] at has; cases has
            | some q => exact ⟨q, rfl⟩
          have hq' := hq
          rw [List.getLast?_eq_getElem?] at hq'
          obtain ⟨pq, hpq, e2'⟩ := a2.get hq'
          rw [← las] at hpq
          refine ⟨_, rfl, _, rfl, _, rfl, al, _, -1, .ref pq, rfl, rfl, SqL.of a1, atI_end (by rw [List.length_map, List.getElem?_map, hpq]; rfl), pq, _, 0, _, rfl, rfl, SqT.of e2', rfl, _, rfl, (by show 4 ≤ sizeLine; decide), fun u nu => ?_⟩
          exact give (.back r q.1 num) u S5 (by omega) F05 nu ⟨rfl, ⟨q, hq, rfl⟩, hN⟩
end
end OH
end
section
set_option Elab.async false
set_option linter.all false
set_option maxRecDepth 100000
set_option maxHeartbeats 8000000
/-! A row is drawn. -/
namespace OH
open PySem PySem.Spec PyProof.Rows L2
theorem RwAt.frm {H H' : Hp} {st g c : Addr} {n : Nat} {l : Addr} {cs : List Crs} (h : RwAt H l cs) (S : SA H st g c n) (F : Fr st g H H') (ag : l ≠ g) : RwAt H' l cs := by
  obtain ⟨ps, h1, h2⟩ := h
  exact ⟨ps, F l _ h1 (S.ne_st h1 (fun _ z => nomatch z)) ag, h2.mono (fr_tup S F)⟩
theorem RwAt.add {H : Hp} {l t : Addr} {cs : List Crs} {x : Crs} (h : RwAt H l cs) (ht : H t = some (.tup x.vs)) : ∃ ps : List Addr, H l = some (.lst (ps.map V.ref)) ∧ ps.length = cs.length ∧ RwAt (upd H l (.lst (ps.map V.ref ++ [.ref t]))) l (cs ++ [x]) ∧ ∀ q xs, H q = some (.tup xs) → upd H l (.lst (ps.map V.ref ++ [.ref t])) q = some (.tup xs) := by
  obtain ⟨ps, h1, h2⟩ := h
  have kt : ∀ q xs, H q = some (.tup xs) → upd H l (.lst (ps.map V.ref ++ [.ref t])) q = some (.tup xs) := fun q xs e => (upd_ne (ne_of e h1 (fun z => nomatch z))).trans e
  exact ⟨ps, h1, h2.len, ⟨ps ++ [t], by rw [upd_same, List.map_append]; rfl, (h2.mono kt).app (kt _ _ ht)⟩, kt⟩
def spRowD : Sp := fun vs H Q _ => ∃ (st g c a : Addr) (n : Nat) (F : Fc) (most : Int), vs = [.ref st, .ref a, .int most] ∧ SA H st g c n ∧ FcAt H a F ∧ n ≤ 600000 ∧ 0 ≤ most ∧ most ≤ 100 ∧
  ∀ (l : Addr) (cs : List Crs) (H' : Hp), H l = none → RwAt H' l cs → VR F cs → (cs.length : Int) ≤ most + 1 → SA H' st g c (n + 500) → Fr st g H H' → Q (.ref l) H'
section
variable {P : Program} {w : World} {K : PySem.W.Frag} {mg : Str → Option Value} {base : Heap}
abbrev nDr : List Str := ["state", "face", "most", "few", "row", "control", "asks", "turn"]
theorem sc__law_drawn_row : FnScope nDr ["state", "face", "most"] (defScope s__law_drawn_row) := ⟨rfl, rfl, rfl, by decide +kernel, rfl, by decide +kernel, by decide +kernel⟩
theorem ok__law_drawn_row {f : Addr} {fd : FuncData} (F : Fun K "_law_drawn_row" "_law_drawn_row" s__law_drawn_row f fd) (T : Txt K mg)
    (DF : DefF P w K mg base CX0 9 "_law_few" ["state"] spFew) (DD : DefF P w K mg base CX0 9 "_law_draw" ["state", "room"] spDraw) (DP : DefF P w K mg base CX0 9 "_law_pick" ["state", "some"] spPick2)
    (DN : DefF P w K mg base CX0 9 "_law_next" ["state", "face", "control", "asks", "few"] spNextC) (DB : DefF P w K mg base CX0 9 "_law_behind" ["control", "asks", "crossing"] (spBehind K)) :
    FnOk P w K mg base CX0 10 f fd ["state", "face", "most"] spRowD := by
  refine F.ok sc__law_drawn_row (fun vs H Q E h => ?_) (fun cdv A outer s H vs Q E hr h => ?_)
  · obtain ⟨st, g, c, a, n, F, most, rfl, _⟩ := h
    rfl
  · obtain ⟨st, g, c, a, n, F, most, rfl, S, hf, hn, m0, m1, k⟩ := h
    have nd := sc__law_drawn_row.nd
    refine ⟨_, pss_cons (ps_set (i := 3) nd rfl (Or.inl rfl) (pe_cD DF hr rfl pass0 (pa_cons (pv 0) pa_nil)))
      (pss_cons (ps_par3 (i := 4) (j := 5) (l := 6) rfl nd rfl rfl rfl (by decide) (by decide) (by decide) rfl rfl rfl (pa_cons (pe_lst (pa_cons (pe_tup (pa_cons pe_str (pa_cons (pe_cD DP hr rfl pass0 (pa_cons (pv 0) (pa_cons (pv 3) pa_nil))) pa_nil))) pa_nil)) (pa_cons pe_int (pa_cons (pe_lst pa_nil) pa_nil))) (by rfl))
      (pss_cons (ps_for PassesOwn.never rfl (pi_range1 rfl T.nRange (pa_cons (pe_cD DD hr rfl pass0 (pa_cons (pv 0) (pa_cons (pe_op op_add (pv 2) pe_int) pa_nil))) pa_nil)) (pg_name (i := 7) nd rfl (Or.inl rfl))
        (pss_one (ps_if (pt_cmpR op_notN (pv 5) pe_non (nomark _)) (pss_cons (ps_expr (pe_bm PySem.F.plainAttrs_list PySem.F.slot_list_append PySem.F.type_list_append mt_append (pv 4) (pa_cons (pe_cD DN hr rfl pass0 (pa_cons (pv 0) (pa_cons (pv 1) (pa_cons (pv 5) (pa_cons (pv 6) (pa_cons (pv 3) pa_nil)))))) pa_nil)))
      (pss_one (ps_asg (pe_cD DB hr rfl pass0 (pa_cons (pv 5) (pa_cons (pv 6) (pa_cons (pe_ix ix_list (pv 4) (pe_un un_neg pe_int) (fun _ _ => rfl)) pa_nil)))) (pg_tup (by rfl) (pgs_cons (pg_name (i := 5) nd rfl (Or.inl rfl)) (pgs_cons (pg_name (i := 6) nd rfl (Or.inl rfl)) pgs_nil)))))) pss_nil)))
      (pss_one (ps_ret (pv 4))))), ?_⟩
    have hF := hf.ok
    refine ⟨_, rfl, st, g, c, n, rfl, S, by omega, fun fl ns H1 nfl f1 f2 f3 hfl l1 l3 hnum S1 F1 => ?_⟩
    refine ⟨_, rfl, _, rfl, st, g, c, fl, n + 7, _, rfl, S1, by omega, .inl ⟨hfl, f2⟩, by rw [List.length_map]; omega, by rw [List.length_map]; omega, fun x H2 hx S2 F2 => ?_⟩
    obtain ⟨num, hnm, rfl⟩ := List.mem_map.mp hx
    have hN := hnum num hnm
    have hf2 := (hf.mono (fr_tup S F1)).mono (fr_tup S1 F2)
    have hfl2 := F2 fl _ hfl f1 f2
    have F02 := F1.trans F2
    refine ⟨(by show 2 ≤ sizeLine; decide), fun t0 nt0 => ?_⟩
    have st0 := sadd (o := .tup [.str "start", .int num]) (Same.refl H2) nt0
    have ht0 : upd H2 t0 (.tup [.str "start", .int num]) t0 = some (.tup (Crs.start num).vs) := upd_same
    have S3 := S2.same st0
    have F03 := F02.trans (Fr.of st0)
    have hf3 := hf2.same st0
    have hfl3 := st0 _ _ hfl2
    generalize upd H2 t0 (.tup [.str "start", .int num]) = H3 at ht0 S3 F03 hf3 hfl3 ⊢
    refine ⟨(by show 1 ≤ sizeLine; decide), fun l nl => ?_⟩
    have zl := S3.old nl
    have nfll : fl ≠ l := ne_of_none hfl3 nl
    have l0 := F03.free nl zl.1 zl.2.1
    have sl := sadd (o := .lst [.ref t0]) (Same.refl H3) nl
    have hl : upd H3 l (.lst [.ref t0]) l = some (.lst ([t0].map V.ref)) := upd_same
    have S4 := S3.same sl
    have F04 := F03.trans (Fr.of sl)
    have hf4 := hf3.same sl
    have hfl4 := sl _ _ hfl3
    have ht4 := sl _ _ ht0
    generalize upd H3 l (.lst [.ref t0]) = H4 at hl S4 F04 hf4 hfl4 ht4 ⊢
    refine ⟨(by show 0 ≤ sizeLine; decide), fun al nal => ?_⟩
    have zal := S4.old nal
    have nall0 : al ≠ l := (ne_of_none hl nal).symm
    have sal := sadd (o := .lst []) (Same.refl H4) nal
    have hal : upd H4 al (.lst []) al = some (.lst (([] : List Addr).map V.ref)) := upd_same
    have S5 := S4.same sal
    have F05 := F04.trans (Fr.of sal)
    have hf5 := hf4.same sal
    have hfl5 := sal _ _ hfl4
    have hl5 := sal _ _ hl
    have ht5 := sal _ _ ht4
    generalize upd H4 al (.lst []) = H5 at hal S5 F05 hf5 hfl5 hl5 ht5 ⊢
    have R5 : RwAt H5 l [.start num] := ⟨[t0], hl5, .cons ht5 .nil⟩
    have A5 : AkAt H5 al [] := ⟨[], hal, .nil⟩
    refine ⟨_, _, _, rfl, ?_⟩
    refine ⟨_, rfl, _, rfl, _, _, rfl, rfl, st, g, c, _, most + 1, rfl, S5, by omega, by omega, by omega, fun u H6 u0 u1 S6 F6 => ?_⟩
    refine ⟨_, rfl, by omega, by omega, ?_⟩
    refine for_range (lo := 0) (n := u.toNat) (fun i σ H' => ∃ (cs : List Crs) (al : Addr) (o7 : Option V), σ = [some (.ref st), some (.ref a), some (.int most), some (.ref fl), some (.ref l), some (optV (stt (none, []) cs).1), some (.ref al), o7] ∧
      VR F cs ∧ RwAt H' l cs ∧ cs.length ≤ i + 1 ∧ al ≠ l ∧ NxA H' st g c (n + 9 + 4 * i) a al fl F (stt (none, []) cs).2 ns ∧ Fr st g H H') ?h0 ?turn ?done
    case h0 =>
      have A6 := A5.frm S5 F6 zal.2.1
      exact ⟨[.start num], al, none, rfl, ⟨num, [], rfl, hN, trivial⟩, R5.frm S5 F6 zl.2.1, Nat.le_refl _, nall0, ⟨S6.mono (by omega), hf5.mono (fr_tup S5 F6), A6, F6 fl _ hfl5 f1 f2, zal.2.1, f2⟩, F05.trans F6⟩
    case done =>
      rintro σ H7 ⟨cs, al, o7, rfl, hv, hr7, lc, nall, N7, F7⟩
      exact ⟨_, rfl, k l cs H7 l0 hr7 hv (by omega) (N7.S.mono (by omega)) F7⟩
    case turn =>
      rintro i σ H7 hi ⟨cs, al, o7, rfl, hv, hr7, lc, nall, N7, F7⟩
      refine ⟨_, rfl, rfl, _, rfl, ?_⟩
      cases hc : (stt (none, []) cs).1 with
      | none => exact iteF ⟨cs, al, _, by rw [hc]; rfl, hv, hr7, by omega, nall, N7.fr (Fr.refl st g H7) (N7.S.mono (by omega)), F7⟩
      | some r =>
        refine iteT ?_
        have sok := hv.ok hF
        have hs : SOk F (some r, (stt (none, []) cs).2) := by rw [← hc]; exact sok
        have las : (stt (none, []) cs).2.length ≤ 60 := by
          have h1 := hs.le
          have h2 := hF.d60
          have h3 : ((stt (none, []) cs).2.length : Int) ≤ F.dep := h1
          omega
        obtain ⟨ps7, r1, r2⟩ := id hr7
        refine ⟨_, rfl, .inl ⟨rfl, _, SqL.of r1⟩, ?_⟩
        refine ⟨_, rfl, _, rfl, _, rfl, _, rfl, _, rfl, st, g, c, a, al, fl, n + 9 + 4 * i, r, F, _, ns, rfl, N7, by omega, hs, l1, l3, hnum, fun t x H8 nt8 ht8 hx S8 F8 => ?_⟩
        have N8 := N7.fr F8 S8
        obtain ⟨ps8, q1, q2, q3, q4⟩ := (hr7.frm N7.S F8 zl.2.1).add ht8
        refine ⟨l, _, _, rfl, rfl, q1, (by rw [List.length_map, q2, sizeLine_eq]; omega), ?_⟩
        have k8 : ∀ b o, H8 b = some o → b ≠ l → upd H8 l (.lst (ps8.map V.ref ++ [.ref t])) b = some o := fun b o e nb => (upd_ne nb).trans e
        have ht9 := q4 _ _ ht8
        have S9 := S8.put (o := .lst (ps8.map V.ref ++ [.ref t])) zl
        have hf9 := N8.f.mono q4
        have nfl2 : fl ≠ l := nfll
        have nal2 : al ≠ l := nall
        have hfl9 := k8 fl _ N8.l nfl2
        have ak9 : AkAt (upd H8 l (.lst (ps8.map V.ref ++ [.ref t]))) al (stt (none, []) cs).2 := by
          obtain ⟨as_, a1, a2⟩ := N8.k
          exact ⟨as_, k8 al _ a1 nal2, a2.mono q4⟩
        have F9 : Fr st g H (upd H8 l (.lst (ps8.map V.ref ++ [.ref t]))) := fun b o e h1 h2 => k8 b o ((F7.trans F8) b o e h1 h2) (ne_of_none e l0)
        generalize upd H8 l (.lst (ps8.map V.ref ++ [.ref t])) = H9 at q3 ht9 S9 hf9 hfl9 ak9 F9 ⊢
        obtain ⟨ps9, w1, w2⟩ := id q3
        obtain ⟨t', ht', ht9'⟩ := w2.get (i := cs.length) (x := x) (by rw [List.getElem?_append_right (Nat.le_refl _), Nat.sub_self]; rfl)
        have lw := w2.len
        rw [List.length_append] at lw
        refine ⟨_, rfl, _, rfl, _, rfl, _, rfl, l, _, -1, .ref t', rfl, rfl, SqL.of w1, atI_end (by rw [List.length_map, lw, List.getElem?_map, show cs.length + [x].length - 1 = cs.length from rfl, ht']; rfl), ?_⟩
        refine ⟨_, al, t', some r, (stt (none, []) cs).2, x, rfl, ak9, ht9', by omega, fun u' al' Ha sa nu' ha' hu' ak' => ?_⟩
        refine ⟨u', _, rfl, SqT.of hu', rfl, _, _, rfl, _, _, rfl, rfl, ?_⟩
        have est : stt (none, []) (cs ++ [x]) = bh (some r, (stt (none, []) cs).2) x := by rw [stt_snoc, ← hc]
        have nag : al' ≠ g := by
          rcases ha' with rfl | ha'
          · exact N8.ag
          · exact (S9.old ha').2.1
        have nal9 : al' ≠ l := by
          rcases ha' with rfl | ha'
          · exact nall
          · exact (ne_of_none w1 ha').symm
        refine ⟨cs ++ [x], al', _, by rw [est]; rfl, hv.snoc hc hx, q3.same sa, by rw [List.length_append]; show cs.length + 1 ≤ _; omega, nal9, ⟨(S9.same sa).mono (by omega), hf9.same sa, by rw [est]; exact ak', sa _ _ hfl9, nag, f2⟩, F9.trans (Fr.of sa)⟩
end
end OH
end
section
set_option Elab.async false
set_option linter.all false
set_option maxRecDepth 100000
set_option maxHeartbeats 4000000
/-! A def called by keywords alone. -/
namespace OH
open PySem PySem.Spec PyProof.Rows L2
section
variable {X : Cx} {CX : CXT} {k : Nat} {f : Addr} {fd : FuncData} {ps ks : List Str} {sp : Sp} {E : XK} {x : Str} {p pos : Pos} {kws : List Keyword} {tk : TA}
  {g : List Value → List Value → List Value} {gV : List V → List V → List V}
theorem pe_callK0 (F : FnOk X.prog X.w X.K X.mg X.base CX k f fd ps sp) (hr : Room k X.A) (hg : Gl X x) (hm : X.mg x = some (.ref f)) (hk : PySem.W.keepIn X.K (.ref f) = true)
    (hb : KBinds X.K fd ps ks g gV) (hx : Passes CX X E) (hkw : PK X kws tk)
    (hall : ((backToKw pos (keywordEach kws X.env)).all fun x => x.fst.isSome) = true := by rfl)
    (hks : List.filterMap (fun x => x.fst) (backToKw pos (keywordEach kws X.env)) = ks := by rfl)
    (hdb : (x == ("__debug__" : Str)) = false := by decide)
    (hno : (((backTo pos (starEach [] X.env)).any fun x => x.fst) || (backToKw pos (keywordEach kws X.env)).any fun x => x.fst.isNone) = false := by rfl) :
    PE X (.Call (.Name x p) [] kws pos) (tCallK sp gV E tNil tk) := by
  constructor
  intro pins s σ H Q I h
  refine wpAny_Call_Name_kw (ld_glob I hg hm ?_ hdb)
  refine PySem.W.callWith_KW0 (h₀ := X.base) I.ok.mod.kin hk hall ?_ hno
  have h' : tk σ H fun zs H2 => sp (gV [] zs) H2 Q E := h
  refine thn (hkw.run pos pins s σ H _ I h') ?_
  rintro us s1 ⟨zs, H1, I1, r, q⟩
  refine ⟨I1.kIn, ?_⟩
  rw [hks]
  have rr := hb.rel (vs := []) (us := []) .nil r
  have n : (g [] us).length = ps.length := by
    rw [← rr.length]
    exact F.len _ _ _ _ q
  have b := hb.to s1 [] us I1.kIn n
  refine wpAny_call (codeAny_mono (F.run X.A X.stack s1 H1 ⟨[], ks.zip us⟩ (g [] us) (gV [] zs) Q E hr I1.env0 b rr q) fun res s2 done => ?_)
  rcases res with er | fl
  · exact hx pins σ H1 s1 er s2 I1 done
  · cases fl with
    | ret u => exact I1.after done
    | _ => exact False.elim done
end
end OH
end
section
set_option Elab.async false
set_option linter.all false
set_option maxRecDepth 100000
set_option maxHeartbeats 8000000
/-! Items of any sort, judged. -/
namespace OH
open PySem PySem.Spec PyProof.Rows L2
/-- a number, True or None -/
inductive Av where
  | n (z : Int) | t | o
deriving DecidableEq
def Av.v : Av → V
  | .n z => .int z
  | .t => .bl true
  | .o => .non
def Av.ok (hi : Int) : Av → Bool
  | .n z => decide (0 ≤ z) && decide (z < hi)
  | _ => false
inductive Jt where
  | inn (d n : Av) | got (n : Av) | calls (a d n : Av) | gives (n : Av) | ends
deriving DecidableEq
def Jt.vs : Jt → List V
  | .inn d n => [.str "in", d.v, n.v]
  | .got n => [.str "got", n.v]
  | .calls a d n => [.str "calls", a.v, d.v, n.v]
  | .gives n => [.str "gives", n.v]
  | .ends => [.str "ends"]
def evOk : Jt → Bool
  | .inn a b => a.ok 6 && b.ok 10000
  | .got a => a.ok 10000
  | _ => false
def acOk : Jt → Bool
  | .calls a b c => a.ok 6 && b.ok 6 && c.ok 10000
  | .gives a => a.ok 10000
  | .ends => true
  | _ => false
def VjAt (K : PySem.W.Frag) (H : Hp) (l : Addr) (v : List Jt) : Prop := ∃ ps : List Addr, H l = some (.lst (ps.map V.ref)) ∧ AllQ K H Jt.vs ps v
def spItemsJ (K : PySem.W.Frag) (Ok : Jt → Bool) : Sp := fun vs H Q _ => ∃ (l : Addr) (its : List Jt), vs = [.ref l] ∧ VjAt K H l its ∧ Q (.bl (its.all Ok)) H
section
variable {P : Program} {w : World} {K : PySem.W.Frag} {mg : Str → Option Value} {base : Heap}
theorem ok_are_eventsJ {f : Addr} {fd : FuncData} (F : Fun K "are_events" "are_events" s_are_events f fd) (T : Txt K mg) (g6 : ∃ t, mg "MOST_DOORS" = some (.int 6 t)) (g4 : ∃ t, mg "MODULUS" = some (.int 10000 t)) : FnOk P w K mg base CX0 1 f fd ["values"] (spItemsJ K evOk) := by
  refine F.ok sc_are_events (fun vs H Q E h => ?_) (fun cdv A outer s H vs Q E hr h => ?_)
  · obtain ⟨l, its, rfl, _⟩ := h
    rfl
  · obtain ⟨l, its, rfl, hl, k⟩ := h
    have nd := sc_are_events.nd
    obtain ⟨t6, g6⟩ := g6
    obtain ⟨t4, g4⟩ := g4
    refine ⟨_, pss_cons (ps_for PassesOwn.never rfl (pi_list (pv 0)) (pg_name (i := 1) nd rfl (Or.inl rfl))
        (pss_cons (ps_set (i := 2) nd rfl (Or.inl rfl) (pe_ifExp (pt_val (pe_callB call_isi (by rfl) T.nIsi (by decide +kernel) (pa_cons (pv 1) (pa_cons (pe_bltn (v := .ty "tuple") (by rfl) T.nTuple (by decide +kernel) rfl) pa_nil)))) (pe_callB call_len_seq (by rfl) T.nLen PySem.boot_len (pa_cons (pv 1) pa_nil)) pe_int))
      (pss_cons (ps_if (pt_cmpR op_eq (pv 2) pe_int (nomark _)) (pss_cons (ps_asg (pv 1) (pg_tup (by rfl) (pgs_cons (pg_name (i := 3) nd rfl (Or.inl rfl)) (pgs_cons (pg_name (i := 4) nd rfl (Or.inl rfl)) pgs_nil))))
      (pss_one (ps_if (pt_cmpR op_ne (pv 3) pe_str (nomark _)) (pss_one (ps_ret pe_bl)) pss_nil))) (pss_one (ps_if (pt_cmpR op_eq (pv 2) pe_int (nomark _)) (pss_cons (ps_asg (pv 1) (pg_tup (by rfl) (pgs_cons (pg_name (i := 3) nd rfl (Or.inl rfl)) (pgs_cons (pg_name (i := 5) nd rfl (Or.inl rfl)) (pgs_cons (pg_name (i := 4) nd rfl (Or.inl rfl)) pgs_nil)))))
      (pss_one (ps_if (PW.pt (pw_or (pt_cmpR op_ne (pv 3) pe_str (nomark _)) (pw_or (pt_not (pt_val (pe_callB call_isi (by rfl) T.nIsi (by decide +kernel) (pa_cons (pv 5) (pa_cons (pe_bltn (v := .ty "int") (by rfl) T.nInt (by decide +kernel) rfl) pa_nil))))) (pw_or (pt_cmpR op_isB (pv 5) pe_bl (nomark _)) (pw_or (pt_cmpR op_isB (pv 5) pe_bl (nomark _)) (pw_or1 (pt_not (pt_chain op_le op_lt pe_int (pv 5) (pe_glob (v := .int 6) rfl g6 ⟨t6, rfl⟩))))))))) (pss_one (ps_ret pe_bl)) pss_nil))) (pss_one (ps_ret pe_bl)))))
      (pss_one (ps_if (PW.pt (pw_or (pt_not (pt_val (pe_callB call_isi (by rfl) T.nIsi (by decide +kernel) (pa_cons (pv 4) (pa_cons (pe_bltn (v := .ty "int") (by rfl) T.nInt (by decide +kernel) rfl) pa_nil))))) (pw_or (pt_cmpR op_isB (pv 4) pe_bl (nomark _)) (pw_or (pt_cmpR op_isB (pv 4) pe_bl (nomark _)) (pw_or1 (pt_not (pt_chain op_le op_lt pe_int (pv 4) (pe_glob (v := .int 10000) rfl g4 ⟨t4, rfl⟩)))))))) (pss_one (ps_ret pe_bl)) pss_nil)))))
      (pss_one (ps_ret pe_bl)), ?_⟩
    obtain ⟨ps, h1, h2⟩ := hl
    have lp := h2.len
    refine ⟨_, rfl, l, rfl, ⟨_, SqL.of h1⟩, ?_⟩
    refine for_list (xs := ps.map V.ref) (fun i σ H' => (∃ (o1 o2 o3 o4 o5 : Option V), σ = [some (.ref l), o1, o2, o3, o4, o5] ∧ H' = H) ∧ (its.take i).all evOk = true)
      ⟨⟨none, none, none, none, none, rfl, rfl⟩, rfl⟩ (fun i σ H' _ ⟨⟨_, _, _, _, _, _, s⟩, _⟩ => by rw [s]; exact SqL.of h1) ?turn ?done
    case done =>
      rintro σ H4 ⟨⟨o1, o2, o3, o4, o5, rfl, rfl⟩, ha⟩
      rw [List.length_map, lp, List.take_length] at ha
      rw [ha] at k
      exact k
    case turn =>
      rintro i y σ H4 hy ⟨⟨o1, o2, o3, o4, o5, rfl, rfl⟩, ha⟩
      rw [List.getElem?_map] at hy
      obtain ⟨c, hc, rfl⟩ := Option.map_eq_some_iff.mp hy
      obtain ⟨x, hx, hcx⟩ := h2.get hc
      have no : evOk x = false → Q (.bl false) H4 := fun e => by
        have e2 : its.all evOk = false := by
          rw [List.all_eq_false]
          exact ⟨x, List.mem_of_getElem? hx, by rw [e]; decide⟩
        rw [e2] at k
        exact k
      have nx : ∀ {o1 o2 o3 o4 o5 : Option V}, evOk x = true → (∃ (p1 p2 p3 p4 p5 : Option V), [some (.ref l), o1, o2, o3, o4, o5] = [some (.ref l), p1, p2, p3, p4, p5] ∧ H4 = H4) ∧ (its.take (i + 1)).all evOk = true := fun e => ⟨⟨_, _, _, _, _, rfl, rfl⟩, by rw [List.take_add_one, hx, List.all_append, ha]; simp [e]⟩
      refine ⟨_, rfl, _, _, _, _, _, rfl, .ty "tuple", hcx.tyx, kit_ty (r := true) (by decide +kernel), _, rfl, iteT ?_⟩
      refine ⟨_, rfl, c, _, rfl, .inr hcx, ?_⟩
      clear hy hc
      cases x with
        | inn d n =>
          refine ⟨_, rfl, rfl, _, rfl, iteF ?_⟩
          refine ⟨_, rfl, rfl, _, rfl, iteT ?_⟩
          refine ⟨_, rfl, c, _, rfl, hcx, rfl, _, _, rfl, _, _, rfl, _, _, rfl, rfl, ?_⟩
          refine ⟨_, rfl, rfl, _, rfl, iteF ?_⟩
          cases d with
          | o =>
            refine ⟨_, rfl, _, _, _, _, _, rfl, .ty "int", .base (.non), kit_ty (r := false) (by decide +kernel), _, rfl, iteT (iteT ?_)⟩
            exact no (by simp [evOk, acOk, Av.ok])
          | t =>
            refine ⟨_, rfl, _, _, _, _, _, rfl, .ty "int", .base (.bl true), kit_ty (r := true) (by decide +kernel), _, rfl, iteF ?_⟩
            refine ⟨_, rfl, true, rfl, .inr ⟨true, rfl, _, rfl, iteT (iteT ?_)⟩⟩
            exact no (by simp [evOk, acOk, Av.ok])
          | n d =>
          refine ⟨_, rfl, _, _, _, _, _, rfl, .ty "int", .base (.int d), kit_ty (r := true) (by decide +kernel), _, rfl, iteF ?_⟩
          refine ⟨_, rfl, true, rfl, .inl ⟨⟨d, rfl⟩, _, rfl, iteF ?_⟩⟩
          refine ⟨_, rfl, false, rfl, .inl ⟨⟨d, rfl⟩, _, rfl, iteF ?_⟩⟩
          refine ⟨_, rfl, _, _, rfl, rfl, _, rfl, ?_⟩
          by_cases d0 : (0 : Int) ≤ d
          case neg =>
            rw [show decide ((0 : Int) ≤ d) = false from decide_eq_false d0]
            refine iteF ?_
            refine ⟨_, rfl, iteT ?_⟩
            exact no (by simp [evOk, acOk, Av.ok, d0])
          rw [show decide ((0 : Int) ≤ d) = true from decide_eq_true d0]
          refine iteT ?_
          refine ⟨_, _, rfl, rfl, _, rfl, ?_⟩
          by_cases d1 : d < (6 : Int)
          case neg =>
            rw [show decide (d < (6 : Int)) = false from decide_eq_false d1]
            refine iteT ?_
            exact no (by simp [evOk, acOk, Av.ok, d1])
          rw [show decide (d < (6 : Int)) = true from decide_eq_true d1]
          refine iteF ?_
          cases n with
          | o =>
            refine ⟨_, rfl, _, _, _, _, _, rfl, .ty "int", .base (.non), kit_ty (r := false) (by decide +kernel), _, rfl, iteT (iteT ?_)⟩
            exact no (by simp [evOk, acOk, Av.ok])
          | t =>
            refine ⟨_, rfl, _, _, _, _, _, rfl, .ty "int", .base (.bl true), kit_ty (r := true) (by decide +kernel), _, rfl, iteF ?_⟩
            refine ⟨_, rfl, true, rfl, .inr ⟨true, rfl, _, rfl, iteT (iteT ?_)⟩⟩
            exact no (by simp [evOk, acOk, Av.ok])
          | n n =>
          refine ⟨_, rfl, _, _, _, _, _, rfl, .ty "int", .base (.int n), kit_ty (r := true) (by decide +kernel), _, rfl, iteF ?_⟩
          refine ⟨_, rfl, true, rfl, .inl ⟨⟨n, rfl⟩, _, rfl, iteF ?_⟩⟩
          refine ⟨_, rfl, false, rfl, .inl ⟨⟨n, rfl⟩, _, rfl, iteF ?_⟩⟩
          refine ⟨_, rfl, _, _, rfl, rfl, _, rfl, ?_⟩
          by_cases n0 : (0 : Int) ≤ n
          case neg =>
            rw [show decide ((0 : Int) ≤ n) = false from decide_eq_false n0]
            refine iteF ?_
            refine ⟨_, rfl, iteT ?_⟩
            exact no (by simp [evOk, acOk, Av.ok, n0])
          rw [show decide ((0 : Int) ≤ n) = true from decide_eq_true n0]
          refine iteT ?_
          refine ⟨_, _, rfl, rfl, _, rfl, ?_⟩
          by_cases n1 : n < (10000 : Int)
          case neg =>
            rw [show decide (n < (10000 : Int)) = false from decide_eq_false n1]
            refine iteT ?_
            exact no (by simp [evOk, acOk, Av.ok, n1])
          rw [show decide (n < (10000 : Int)) = true from decide_eq_true n1]
          refine iteF ?_
          exact nx (by simp [evOk, Av.ok, d0, d1, n0, n1])
        | got n =>
          refine ⟨_, rfl, rfl, _, rfl, iteT ?_⟩
          refine ⟨_, rfl, c, _, rfl, hcx, rfl, _, _, rfl, _, _, rfl, rfl, ?_⟩
          refine ⟨_, rfl, rfl, _, rfl, iteF ?_⟩
          cases n with
          | o =>
            refine ⟨_, rfl, _, _, _, _, _, rfl, .ty "int", .base (.non), kit_ty (r := false) (by decide +kernel), _, rfl, iteT (iteT ?_)⟩
            exact no (by simp [evOk, acOk, Av.ok])
          | t =>
            refine ⟨_, rfl, _, _, _, _, _, rfl, .ty "int", .base (.bl true), kit_ty (r := true) (by decide +kernel), _, rfl, iteF ?_⟩
            refine ⟨_, rfl, true, rfl, .inr ⟨true, rfl, _, rfl, iteT (iteT ?_)⟩⟩
            exact no (by simp [evOk, acOk, Av.ok])
          | n n =>
          refine ⟨_, rfl, _, _, _, _, _, rfl, .ty "int", .base (.int n), kit_ty (r := true) (by decide +kernel), _, rfl, iteF ?_⟩
          refine ⟨_, rfl, true, rfl, .inl ⟨⟨n, rfl⟩, _, rfl, iteF ?_⟩⟩
          refine ⟨_, rfl, false, rfl, .inl ⟨⟨n, rfl⟩, _, rfl, iteF ?_⟩⟩
          refine ⟨_, rfl, _, _, rfl, rfl, _, rfl, ?_⟩
          by_cases n0 : (0 : Int) ≤ n
          case neg =>
            rw [show decide ((0 : Int) ≤ n) = false from decide_eq_false n0]
            refine iteF ?_
            refine ⟨_, rfl, iteT ?_⟩
            exact no (by simp [evOk, acOk, Av.ok, n0])
          rw [show decide ((0 : Int) ≤ n) = true from decide_eq_true n0]
          refine iteT ?_
          refine ⟨_, _, rfl, rfl, _, rfl, ?_⟩
          by_cases n1 : n < (10000 : Int)
          case neg =>
            rw [show decide (n < (10000 : Int)) = false from decide_eq_false n1]
            refine iteT ?_
            exact no (by simp [evOk, acOk, Av.ok, n1])
          rw [show decide (n < (10000 : Int)) = true from decide_eq_true n1]
          refine iteF ?_
          exact nx (by simp [evOk, Av.ok, n0, n1])
        | gives n =>
          refine ⟨_, rfl, rfl, _, rfl, iteT ?_⟩
          refine ⟨_, rfl, c, _, rfl, hcx, rfl, _, _, rfl, _, _, rfl, rfl, ?_⟩
          refine ⟨_, rfl, rfl, _, rfl, iteT ?_⟩
          exact no rfl
        | calls a d n =>
          refine ⟨_, rfl, rfl, _, rfl, iteF ?_⟩
          refine ⟨_, rfl, rfl, _, rfl, iteF ?_⟩
          exact no rfl
        | ends =>
          refine ⟨_, rfl, rfl, _, rfl, iteF ?_⟩
          refine ⟨_, rfl, rfl, _, rfl, iteF ?_⟩
          exact no rfl
theorem ok_are_actsJ {f : Addr} {fd : FuncData} (F : Fun K "are_acts" "are_acts" s_are_acts f fd) (T : Txt K mg) (gr : ∃ t, mg "MOST_ROOMS" = some (.int 6 t)) (g6 : ∃ t, mg "MOST_DOORS" = some (.int 6 t)) (g4 : ∃ t, mg "MODULUS" = some (.int 10000 t)) : FnOk P w K mg base CX0 1 f fd ["values"] (spItemsJ K acOk) := by
  refine F.ok sc_are_acts (fun vs H Q E h => ?_) (fun cdv A outer s H vs Q E hr h => ?_)
  · obtain ⟨l, its, rfl, _⟩ := h
    rfl
  · obtain ⟨l, its, rfl, hl, k⟩ := h
    have nd := sc_are_acts.nd
    obtain ⟨tr, gr⟩ := gr
    obtain ⟨t6, g6⟩ := g6
    obtain ⟨t4, g4⟩ := g4
    refine ⟨_, pss_cons (ps_for PassesOwn.never rfl (pi_list (pv 0)) (pg_name (i := 1) nd rfl (Or.inl rfl))
        (pss_cons (ps_set (i := 2) nd rfl (Or.inl rfl) (pe_ifExp (pt_val (pe_callB call_isi (by rfl) T.nIsi (by decide +kernel) (pa_cons (pv 1) (pa_cons (pe_bltn (v := .ty "tuple") (by rfl) T.nTuple (by decide +kernel) rfl) pa_nil)))) (pe_callB call_len_seq (by rfl) T.nLen PySem.boot_len (pa_cons (pv 1) pa_nil)) pe_int))
      (pss_cons (ps_if (pt_cmpR op_eq (pv 2) pe_int (nomark _)) (pss_cons (ps_asg (pv 1) (pg_tup (by rfl) (pgs_cons (pg_name (i := 3) nd rfl (Or.inl rfl)) (pgs_cons (pg_name (i := 4) nd rfl (Or.inl rfl)) pgs_nil))))
      (pss_one (ps_if (pt_cmpR op_ne (pv 3) pe_str (nomark _)) (pss_one (ps_ret pe_bl)) pss_nil))) (pss_one (ps_if (pt_cmpR op_eq (pv 2) pe_int (nomark _)) (pss_cons (ps_asg (pv 1) (pg_tup (by rfl) (pgs_cons (pg_name (i := 3) nd rfl (Or.inl rfl)) (pgs_cons (pg_name (i := 6) nd rfl (Or.inl rfl)) (pgs_cons (pg_name (i := 5) nd rfl (Or.inl rfl)) (pgs_cons (pg_name (i := 4) nd rfl (Or.inl rfl)) pgs_nil))))))
      (pss_cons (ps_if (PW.pt (pw_or (pt_cmpR op_ne (pv 3) pe_str (nomark _)) (pw_or (pt_not (pt_val (pe_callB call_isi (by rfl) T.nIsi (by decide +kernel) (pa_cons (pv 6) (pa_cons (pe_bltn (v := .ty "int") (by rfl) T.nInt (by decide +kernel) rfl) pa_nil))))) (pw_or (pt_cmpR op_isB (pv 6) pe_bl (nomark _)) (pw_or1 (pt_cmpR op_isB (pv 6) pe_bl (nomark _))))))) (pss_one (ps_ret pe_bl)) pss_nil)
      (pss_cons (ps_if (PW.pt (pw_or (pt_not (pt_val (pe_callB call_isi (by rfl) T.nIsi (by decide +kernel) (pa_cons (pv 5) (pa_cons (pe_bltn (v := .ty "int") (by rfl) T.nInt (by decide +kernel) rfl) pa_nil))))) (pw_or (pt_cmpR op_isB (pv 5) pe_bl (nomark _)) (pw_or1 (pt_cmpR op_isB (pv 5) pe_bl (nomark _)))))) (pss_one (ps_ret pe_bl)) pss_nil)
      (pss_one (ps_if (PW.pt (pw_or (pt_not (pt_chain op_le op_lt pe_int (pv 6) (pe_glob (v := .int 6) rfl gr ⟨tr, rfl⟩))) (pw_or1 (pt_not (pt_chain op_le op_lt pe_int (pv 5) (pe_glob (v := .int 6) rfl g6 ⟨t6, rfl⟩)))))) (pss_one (ps_ret pe_bl)) pss_nil))))) (pss_one (ps_if (PW.pt (pw_and (pt_cmpR op_eq (pv 2) pe_int (nomark _)) (pw_and1 (pt_cmpR op_eq (pe_ix ix_tup (pv 1) pe_int (fun _ _ => rfl)) pe_str (nomark _))))) (pss_one ps_continue) (pss_one (ps_ret pe_bl)))))))
      (pss_one (ps_if (PW.pt (pw_or (pt_not (pt_val (pe_callB call_isi (by rfl) T.nIsi (by decide +kernel) (pa_cons (pv 4) (pa_cons (pe_bltn (v := .ty "int") (by rfl) T.nInt (by decide +kernel) rfl) pa_nil))))) (pw_or (pt_cmpR op_isB (pv 4) pe_bl (nomark _)) (pw_or (pt_cmpR op_isB (pv 4) pe_bl (nomark _)) (pw_or1 (pt_not (pt_chain op_le op_lt pe_int (pv 4) (pe_glob (v := .int 10000) rfl g4 ⟨t4, rfl⟩)))))))) (pss_one (ps_ret pe_bl)) pss_nil)))))
      (pss_one (ps_ret pe_bl)), ?_⟩
    obtain ⟨ps, h1, h2⟩ := hl
    have lp := h2.len
    refine ⟨_, rfl, l, rfl, ⟨_, SqL.of h1⟩, ?_⟩
    refine for_list (xs := ps.map V.ref) (fun i σ H' => (∃ (o1 o2 o3 o4 o5 o6 : Option V), σ = [some (.ref l), o1, o2, o3, o4, o5, o6] ∧ H' = H) ∧ (its.take i).all acOk = true)
      ⟨⟨none, none, none, none, none, none, rfl, rfl⟩, rfl⟩ (fun i σ H' _ ⟨⟨_, _, _, _, _, _, _, s⟩, _⟩ => by rw [s]; exact SqL.of h1) ?turn ?done
    case done =>
      rintro σ H4 ⟨⟨o1, o2, o3, o4, o5, o6, rfl, rfl⟩, ha⟩
      rw [List.length_map, lp, List.take_length] at ha
      rw [ha] at k
      exact k
    case turn =>
      rintro i y σ H4 hy ⟨⟨o1, o2, o3, o4, o5, o6, rfl, rfl⟩, ha⟩
      rw [List.getElem?_map] at hy
      obtain ⟨c, hc, rfl⟩ := Option.map_eq_some_iff.mp hy
      obtain ⟨x, hx, hcx⟩ := h2.get hc
      have no : acOk x = false → Q (.bl false) H4 := fun e => by
        have e2 : its.all acOk = false := by
          rw [List.all_eq_false]
          exact ⟨x, List.mem_of_getElem? hx, by rw [e]; decide⟩
        rw [e2] at k
        exact k
      have nx : ∀ {o1 o2 o3 o4 o5 o6 : Option V}, acOk x = true → (∃ (p1 p2 p3 p4 p5 p6 : Option V), [some (.ref l), o1, o2, o3, o4, o5, o6] = [some (.ref l), p1, p2, p3, p4, p5, p6] ∧ H4 = H4) ∧ (its.take (i + 1)).all acOk = true := fun e => ⟨⟨_, _, _, _, _, _, rfl, rfl⟩, by rw [List.take_add_one, hx, List.all_append, ha]; simp [e]⟩
      refine ⟨_, rfl, _, _, _, _, _, rfl, .ty "tuple", hcx.tyx, kit_ty (r := true) (by decide +kernel), _, rfl, iteT ?_⟩
      refine ⟨_, rfl, c, _, rfl, .inr hcx, ?_⟩
      clear hy hc
      cases x with
        | calls a d n =>
          refine ⟨_, rfl, rfl, _, rfl, iteF ?_⟩
          refine ⟨_, rfl, rfl, _, rfl, iteT ?_⟩
          refine ⟨_, rfl, c, _, rfl, hcx, rfl, _, _, rfl, _, _, rfl, _, _, rfl, _, _, rfl, rfl, ?_⟩
          refine ⟨_, rfl, rfl, _, rfl, iteF ?_⟩
          cases a with
          | o =>
            refine ⟨_, rfl, _, _, _, _, _, rfl, .ty "int", .base (.non), kit_ty (r := false) (by decide +kernel), _, rfl, iteT (iteT ?_)⟩
            exact no (by simp [evOk, acOk, Av.ok])
          | t =>
            refine ⟨_, rfl, _, _, _, _, _, rfl, .ty "int", .base (.bl true), kit_ty (r := true) (by decide +kernel), _, rfl, iteF ?_⟩
            refine ⟨_, rfl, true, rfl, .inr ⟨true, rfl, _, rfl, iteT (iteT ?_)⟩⟩
            exact no (by simp [evOk, acOk, Av.ok])
          | n a =>
          refine ⟨_, rfl, _, _, _, _, _, rfl, .ty "int", .base (.int a), kit_ty (r := true) (by decide +kernel), _, rfl, iteF ?_⟩
          refine ⟨_, rfl, true, rfl, .inl ⟨⟨a, rfl⟩, _, rfl, iteF ?_⟩⟩
          refine ⟨_, rfl, false, rfl, .inl ⟨⟨a, rfl⟩, _, rfl, iteF ?_⟩⟩
          cases d with
          | o =>
            refine ⟨_, rfl, _, _, _, _, _, rfl, .ty "int", .base (.non), kit_ty (r := false) (by decide +kernel), _, rfl, iteT (iteT ?_)⟩
            exact no (by simp [evOk, acOk, Av.ok])
          | t =>
            refine ⟨_, rfl, _, _, _, _, _, rfl, .ty "int", .base (.bl true), kit_ty (r := true) (by decide +kernel), _, rfl, iteF ?_⟩
            refine ⟨_, rfl, true, rfl, .inr ⟨true, rfl, _, rfl, iteT (iteT ?_)⟩⟩
            exact no (by simp [evOk, acOk, Av.ok])
          | n d =>
          refine ⟨_, rfl, _, _, _, _, _, rfl, .ty "int", .base (.int d), kit_ty (r := true) (by decide +kernel), _, rfl, iteF ?_⟩
          refine ⟨_, rfl, true, rfl, .inl ⟨⟨d, rfl⟩, _, rfl, iteF ?_⟩⟩
          refine ⟨_, rfl, false, rfl, .inl ⟨⟨d, rfl⟩, _, rfl, iteF ?_⟩⟩
          refine ⟨_, rfl, _, _, rfl, rfl, _, rfl, ?_⟩
          by_cases a0 : (0 : Int) ≤ a
          case neg =>
            rw [show decide ((0 : Int) ≤ a) = false from decide_eq_false a0]
            refine iteF ?_
            refine ⟨_, rfl, iteT (iteT ?_)⟩
            exact no (by simp [evOk, acOk, Av.ok, a0])
          rw [show decide ((0 : Int) ≤ a) = true from decide_eq_true a0]
          refine iteT ?_
          refine ⟨_, _, rfl, rfl, _, rfl, ?_⟩
          by_cases a1 : a < (6 : Int)
          case neg =>
            rw [show decide (a < (6 : Int)) = false from decide_eq_false a1]
            refine iteT (iteT ?_)
            exact no (by simp [evOk, acOk, Av.ok, a1])
          rw [show decide (a < (6 : Int)) = true from decide_eq_true a1]
          refine iteF ?_
          refine ⟨_, rfl, _, _, rfl, rfl, _, rfl, ?_⟩
          by_cases d0 : (0 : Int) ≤ d
          case neg =>
            rw [show decide ((0 : Int) ≤ d) = false from decide_eq_false d0]
            refine iteF ?_
            refine ⟨_, rfl, iteT ?_⟩
            exact no (by simp [evOk, acOk, Av.ok, d0])
          rw [show decide ((0 : Int) ≤ d) = true from decide_eq_true d0]
          refine iteT ?_
          refine ⟨_, _, rfl, rfl, _, rfl, ?_⟩
          by_cases d1 : d < (6 : Int)
          case neg =>
            rw [show decide (d < (6 : Int)) = false from decide_eq_false d1]
            refine iteT ?_
            exact no (by simp [evOk, acOk, Av.ok, d1])
          rw [show decide (d < (6 : Int)) = true from decide_eq_true d1]
          refine iteF ?_
          cases n with
          | o =>
            refine ⟨_, rfl, _, _, _, _, _, rfl, .ty "int", .base (.non), kit_ty (r := false) (by decide +kernel), _, rfl, iteT (iteT ?_)⟩
            exact no (by simp [evOk, acOk, Av.ok])
          | t =>
            refine ⟨_, rfl, _, _, _, _, _, rfl, .ty "int", .base (.bl true), kit_ty (r := true) (by decide +kernel), _, rfl, iteF ?_⟩
            refine ⟨_, rfl, true, rfl, .inr ⟨true, rfl, _, rfl, iteT (iteT ?_)⟩⟩
            exact no (by simp [evOk, acOk, Av.ok])
          | n n =>
          refine ⟨_, rfl, _, _, _, _, _, rfl, .ty "int", .base (.int n), kit_ty (r := true) (by decide +kernel), _, rfl, iteF ?_⟩
          refine ⟨_, rfl, true, rfl, .inl ⟨⟨n, rfl⟩, _, rfl, iteF ?_⟩⟩
          refine ⟨_, rfl, false, rfl, .inl ⟨⟨n, rfl⟩, _, rfl, iteF ?_⟩⟩
          refine ⟨_, rfl, _, _, rfl, rfl, _, rfl, ?_⟩
          by_cases n0 : (0 : Int) ≤ n
          case neg =>
            rw [show decide ((0 : Int) ≤ n) = false from decide_eq_false n0]
            refine iteF ?_
            refine ⟨_, rfl, iteT ?_⟩
            exact no (by simp [evOk, acOk, Av.ok, n0])
          rw [show decide ((0 : Int) ≤ n) = true from decide_eq_true n0]
          refine iteT ?_
          refine ⟨_, _, rfl, rfl, _, rfl, ?_⟩
          by_cases n1 : n < (10000 : Int)
          case neg =>
            rw [show decide (n < (10000 : Int)) = false from decide_eq_false n1]
            refine iteT ?_
            exact no (by simp [evOk, acOk, Av.ok, n1])
          rw [show decide (n < (10000 : Int)) = true from decide_eq_true n1]
          refine iteF ?_
          exact nx (by simp [acOk, Av.ok, a0, a1, d0, d1, n0, n1])
        | gives n =>
          refine ⟨_, rfl, rfl, _, rfl, iteT ?_⟩
          refine ⟨_, rfl, c, _, rfl, hcx, rfl, _, _, rfl, _, _, rfl, rfl, ?_⟩
          refine ⟨_, rfl, rfl, _, rfl, iteF ?_⟩
          cases n with
          | o =>
            refine ⟨_, rfl, _, _, _, _, _, rfl, .ty "int", .base (.non), kit_ty (r := false) (by decide +kernel), _, rfl, iteT (iteT ?_)⟩
            exact no (by simp [evOk, acOk, Av.ok])
          | t =>
            refine ⟨_, rfl, _, _, _, _, _, rfl, .ty "int", .base (.bl true), kit_ty (r := true) (by decide +kernel), _, rfl, iteF ?_⟩
            refine ⟨_, rfl, true, rfl, .inr ⟨true, rfl, _, rfl, iteT (iteT ?_)⟩⟩
            exact no (by simp [evOk, acOk, Av.ok])
          | n n =>
          refine ⟨_, rfl, _, _, _, _, _, rfl, .ty "int", .base (.int n), kit_ty (r := true) (by decide +kernel), _, rfl, iteF ?_⟩
          refine ⟨_, rfl, true, rfl, .inl ⟨⟨n, rfl⟩, _, rfl, iteF ?_⟩⟩
          refine ⟨_, rfl, false, rfl, .inl ⟨⟨n, rfl⟩, _, rfl, iteF ?_⟩⟩
          refine ⟨_, rfl, _, _, rfl, rfl, _, rfl, ?_⟩
          by_cases n0 : (0 : Int) ≤ n
          case neg =>
            rw [show decide ((0 : Int) ≤ n) = false from decide_eq_false n0]
            refine iteF ?_
            refine ⟨_, rfl, iteT ?_⟩
            exact no (by simp [evOk, acOk, Av.ok, n0])
          rw [show decide ((0 : Int) ≤ n) = true from decide_eq_true n0]
          refine iteT ?_
          refine ⟨_, _, rfl, rfl, _, rfl, ?_⟩
          by_cases n1 : n < (10000 : Int)
          case neg =>
            rw [show decide (n < (10000 : Int)) = false from decide_eq_false n1]
            refine iteT ?_
            exact no (by simp [evOk, acOk, Av.ok, n1])
          rw [show decide (n < (10000 : Int)) = true from decide_eq_true n1]
          refine iteF ?_
          exact nx (by simp [acOk, Av.ok, n0, n1])
        | ends =>
          refine ⟨_, rfl, rfl, _, rfl, iteF ?_⟩
          refine ⟨_, rfl, rfl, _, rfl, iteF ?_⟩
          refine ⟨_, rfl, rfl, _, rfl, iteT ?_⟩
          refine ⟨_, rfl, c, _, 0, _, rfl, rfl, hcx, rfl, rfl, _, rfl, iteT ?_⟩
          exact nx rfl
        | got n =>
          refine ⟨_, rfl, rfl, _, rfl, iteT ?_⟩
          refine ⟨_, rfl, c, _, rfl, hcx, rfl, _, _, rfl, _, _, rfl, rfl, ?_⟩
          refine ⟨_, rfl, rfl, _, rfl, iteT ?_⟩
          exact no rfl
        | inn d n =>
          refine ⟨_, rfl, rfl, _, rfl, iteF ?_⟩
          refine ⟨_, rfl, rfl, _, rfl, iteF ?_⟩
          refine ⟨_, rfl, rfl, _, rfl, iteF ?_⟩
          exact no rfl
end
end OH
end
section
set_option Elab.async false
set_option linter.all false
set_option maxRecDepth 100000
set_option maxHeartbeats 8000000
/-! Lists of items of any sort, judged. -/
namespace OH
open PySem PySem.Spec PyProof.Rows L2
theorem lay_tup {ds : List PyData} {k : Nat} (h : ∀ d ∈ ds, PyData.canLay0 d = true ∧ PyData.depth d ≤ k) : PyData.canLay0 (.tuple ds) = true ∧ PyData.depth (.tuple ds) ≤ k + 1 := by
  have h1 : PyData.canLayAll0 ds = true := by
    induction ds with
    | nil => rfl
    | cons c cs ih =>
      show (PyData.canLay0 c && PyData.canLayAll0 cs) = true
      rw [ih fun d hd => h d (List.mem_cons_of_mem _ hd), (h c List.mem_cons_self).1]
      rfl
  have h2 : PyData.depthAll ds ≤ k := by
    clear h1
    induction ds with
    | nil => exact Nat.zero_le _
    | cons c cs ih =>
      show max (PyData.depth c) (PyData.depthAll cs) ≤ k
      exact Nat.max_le.mpr ⟨(h c List.mem_cons_self).2, ih fun d hd => h d (List.mem_cons_of_mem _ hd)⟩
  exact ⟨h1, Nat.succ_le_succ h2⟩
theorem shaped_tup {ds : List PyData} {k : Nat} (hk : k ≤ 63) (h : ∀ d ∈ ds, PyData.canLay0 d = true ∧ PyData.depth d ≤ k) : SeqAt.shaped (.tuple ds) = true := by
  obtain ⟨h1, h2⟩ := lay_tup h
  show (PyData.canLay0 (.tuple ds) && decide (PyData.depth (.tuple ds) ≤ 64)) = true
  rw [h1, decide_eq_true (by omega)]
  rfl
theorem shaped_lst {ds : List PyData} {k : Nat} (hk : k ≤ 63) (h : ∀ d ∈ ds, PyData.canLay0 d = true ∧ PyData.depth d ≤ k) : SeqAt.shaped (.list ds) = true := by
  obtain ⟨h1, h2⟩ := lay_tup h
  show (PyData.canLay0 (.tuple ds) && decide (PyData.depth (.tuple ds) ≤ 64)) = true
  rw [h1, decide_eq_true (by omega)]
  rfl
def Av.d : Av → PyData
  | .n z => .int z
  | .t => .bool true
  | .o => .none
def Jt.d : Jt → PyData
  | .inn a b => .tuple [.str "in", a.d, b.d]
  | .got a => .tuple [.str "got", a.d]
  | .calls a b c => .tuple [.str "calls", a.d, b.d, c.d]
  | .gives a => .tuple [.str "gives", a.d]
  | .ends => .tuple [.str "ends"]
theorem Av.dp {K : PySem.W.Frag} {H : Hp} (a : Av) : Dp K H a.v a.d := by
  cases a with
  | n z => exact .int z
  | t => exact .bl true
  | o => exact .non
theorem Jt.dp {K : PySem.W.Frag} {H : Hp} {x : Jt} {p : Addr} (h : SqT K H p x.vs) : Dp K H (.ref p) x.d := by
  cases x with
  | inn a b => exact .tup h (.cons (.str _) (.cons a.dp (.cons b.dp .nil)))
  | got a => exact .tup h (.cons (.str _) (.cons a.dp .nil))
  | calls a b c => exact .tup h (.cons (.str _) (.cons a.dp (.cons b.dp (.cons c.dp .nil))))
  | gives a => exact .tup h (.cons (.str _) (.cons a.dp .nil))
  | ends => exact .tup h (.cons (.str _) .nil)
theorem AllQ.jdp {K : PySem.W.Frag} {H : Hp} {ps : List Addr} {xs : List Jt} (h : AllQ K H Jt.vs ps xs) : DpAll K H (ps.map V.ref) (xs.map Jt.d) := by
  induction h with
  | nil => exact .nil
  | cons a _ ih => exact .cons (Jt.dp a) ih
theorem Av.lay (a : Av) : PyData.canLay0 a.d = true ∧ PyData.depth a.d ≤ 0 := by
  cases a <;> exact ⟨rfl, Nat.le_refl 0⟩
theorem Jt.lay (x : Jt) : PyData.canLay0 x.d = true ∧ PyData.depth x.d ≤ 1 := by
  have st : ∀ {w : Str}, PyData.canLay0 (.str w) = true → PyData.canLay0 (.str w) = true ∧ PyData.depth (.str w) ≤ 0 := fun h => ⟨h, Nat.le_refl 0⟩
  cases x with
  | inn a b =>
    exact lay_tup fun d hd => by
      simp only [List.mem_cons, List.not_mem_nil, or_false] at hd
      rcases hd with rfl | rfl | rfl
      · exact st (by decide +kernel)
      · exact a.lay
      · exact b.lay
  | got a =>
    exact lay_tup fun d hd => by
      simp only [List.mem_cons, List.not_mem_nil, or_false] at hd
      rcases hd with rfl | rfl
      · exact st (by decide +kernel)
      · exact a.lay
  | calls a b c =>
    exact lay_tup fun d hd => by
      simp only [List.mem_cons, List.not_mem_nil, or_false] at hd
      rcases hd with rfl | rfl | rfl | rfl
      · exact st (by decide +kernel)
      · exact a.lay
      · exact b.lay
      · exact c.lay
  | gives a =>
    exact lay_tup fun d hd => by
      simp only [List.mem_cons, List.not_mem_nil, or_false] at hd
      rcases hd with rfl | rfl
      · exact st (by decide +kernel)
      · exact a.lay
  | ends =>
    exact lay_tup fun d hd => by
      rw [List.mem_singleton.mp hd]
      exact st (by decide +kernel)
theorem shaped_jts (xs : List Jt) : SeqAt.shaped (.list (xs.map Jt.d)) = true := shaped_lst (k := 1) (by decide) fun d hd => by
  obtain ⟨x, _, rfl⟩ := List.mem_map.mp hd
  exact x.lay
theorem shaped_jt (x : Jt) : SeqAt.shaped x.d = true := by
  obtain ⟨h1, h2⟩ := x.lay
  show (PyData.canLay0 x.d && decide (PyData.depth x.d ≤ 64)) = true
  rw [h1, decide_eq_true (by omega)]
  rfl
theorem any_ends (xs : List Jt) : ((xs.map Jt.d).any fun z => PyData.eqv z Jt.ends.d) = decide (Jt.ends ∈ xs) := by
  induction xs with
  | nil => rfl
  | cons x xs ih =>
    have e : PyData.eqv x.d Jt.ends.d = decide (Jt.ends = x) := by
      cases x with
      | ends => rfl
      | inn a b => rfl
      | got a => rfl
      | calls a b c => rfl
      | gives a => rfl
    rw [List.map_cons, List.any_cons, ih, e]
    simp [List.mem_cons]
def dWJ : Jt → Int
  | .calls _ _ _ => 1
  | .got _ => -1
  | _ => 0
/-- the waiting asks never go below none -/
def wgo : Int → List Jt → Bool
  | _, [] => true
  | w, .got a :: xs => decide (0 ≤ w - 1) && wgo (w - 1) xs
  | w, .calls _ _ _ :: xs => wgo (w + 1) xs
  | w, _ :: xs => wgo w xs
def goodJ (its : List Jt) : Bool := (evs its).all evOk && (evs its.tail).all acOk && !decide (Jt.ends ∈ its.dropLast) && wgo 0 its
def spGoodVJ (K : PySem.W.Frag) : Sp := fun vs H Q _ => ∃ (l : Addr) (its : List Jt), vs = [.ref l] ∧ VjAt K H l its ∧ ∀ H', Same H H' → Q (.bl (goodJ its)) H'
section
variable {P : Program} {w : World} {K : PySem.W.Frag} {mg : Str → Option Value} {base : Heap}
theorem ok_good_viewJ {f : Addr} {fd : FuncData} {aE : Addr} (F : Fun K "good_view" "good_view" s_good_view f fd) (T : Txt K mg) (gE : mg "ENDS" = some (.ref aE)) (tE : ∀ H, SqT K H aE Jt.ends.vs)
    (DE : DefF P w K mg base CX0 2 "are_events" ["values"] (spItemsJ K evOk)) (DA : DefF P w K mg base CX0 2 "are_acts" ["values"] (spItemsJ K acOk)) : FnOk P w K mg base CX0 3 f fd ["value"] (spGoodVJ K) := by
  refine F.ok sc_good_view (fun vs H Q E h => ?_) (fun cdv A outer s H vs Q E hr h => ?_)
  · obtain ⟨l, its, rfl, _⟩ := h
    rfl
  · obtain ⟨l, its, rfl, hl, k⟩ := h
    have nd := sc_good_view.nd
    refine ⟨_, pss_cons (ps_if (PW.pt (pw_or (pt_not (pt_val (pe_callB call_isiT (by rfl) T.nIsi (by decide +kernel) (pa_cons (pv 0) (pa_cons (pe_tup (pa_cons (pe_bltn (v := .ty "list") (by rfl) T.nList (by decide +kernel) rfl) (pa_cons (pe_bltn (v := .ty "tuple") (by rfl) T.nTuple (by decide +kernel) rfl) pa_nil))) pa_nil))))) (pw_or (pt_not (pt_val (pe_cD DE hr rfl pass0 (pa_cons (pe_evL (pv 0)) pa_nil)))) (pw_or1 (pt_not (pt_val (pe_cD DA hr rfl pass0 (pa_cons (pe_odL (pv 0)) pa_nil)))))))) (pss_one (ps_ret pe_bl)) pss_nil)
      (pss_cons (ps_if (pt_cmpR (op_inD (Room_u65 hr)) (pe_glob (v := .ref aE) rfl gE rfl) (pe_slice sl_list (pv 0) po_none (po_some (pe_un un_neg pe_int))) (by rfl)) (pss_one (ps_ret pe_bl)) pss_nil)
      (pss_cons (ps_set (i := 1) nd rfl (Or.inl rfl) pe_int)
      (pss_cons (ps_for PassesOwn.never rfl (pi_list (pv 0)) (pg_name (i := 2) nd rfl (Or.inl rfl))
        (pss_one (ps_if (pt_cmpR op_eq (pe_ix ix_tup (pv 2) pe_int (fun _ _ => rfl)) pe_str (nomark _)) (pss_one (ps_aug (i := 1) nd rfl (Or.inl rfl) pe_int ip_add)) (pss_one (ps_if (pt_cmpR op_eq (pe_ix ix_tup (pv 2) pe_int (fun _ _ => rfl)) pe_str (nomark _)) (pss_cons (ps_aug (i := 1) nd rfl (Or.inl rfl) pe_int ip_sub)
      (pss_one (ps_if (pt_cmpR op_lt (pv 1) pe_int (nomark _)) (pss_one (ps_ret pe_bl)) pss_nil))) pss_nil)))))
      (pss_one (ps_ret pe_bl))))), ?_⟩
    obtain ⟨ps, h1, h2⟩ := hl
    have lp := h2.len
    refine ⟨_, rfl, (by show 2 ≤ sizeLine; decide), fun tp ntp => ?_⟩
    have s1 := sadd (o := .tup [.ty "list", .ty "tuple"]) (Same.refl H) ntp
    have htp : upd H tp (.tup [.ty "list", .ty "tuple"]) tp = some (.tup [.ty "list", .ty "tuple"]) := upd_same
    generalize upd H tp (.tup [.ty "list", .ty "tuple"]) = H1 at s1 htp ⊢
    have hl1 := s1 _ _ h1
    refine ⟨_, tp, _, _, _, _, rfl, htp, .cons (.ty _) (.cons (.ty _) .nil), .base (.lst hl1), kitAny_cons (kit_ty (r := true) (by decide +kernel)) (fun z => nomatch z) (fun _ => rfl), _, rfl, iteF ?_⟩
    refine ⟨_, rfl, l, _, rfl, SqL.of hl1, fun p np => ?_⟩
    have s2 := sadd (o := .lst (evs (ps.map V.ref))) s1 np
    have hp : upd H1 p (.lst (evs (ps.map V.ref))) p = some (.lst ((evs ps).map V.ref)) := by rw [upd_same, evs_map]
    generalize upd H1 p (.lst (evs (ps.map V.ref))) = H2 at s2 hp ⊢
    refine ⟨p, evs its, rfl, ⟨evs ps, hp, (h2.same s2).evs_⟩, ?_⟩
    have hl3 := s2 _ _ h1
    cases g1 : (evs its).all evOk with
    | false =>
      refine ⟨_, rfl, iteT (iteT ?_)⟩
      have e : goodJ its = false := by unfold goodJ; rw [g1]; rfl
      rw [e] at k
      exact k _ s2
    | true =>
    refine ⟨_, rfl, iteF ?_⟩
    refine ⟨_, rfl, l, _, rfl, SqL.of hl3, fun q nq => ?_⟩
    have s4 := sadd (o := .lst (evs (ps.map V.ref).tail)) s2 nq
    have hq : upd H2 q (.lst (evs (ps.map V.ref).tail)) q = some (.lst ((evs ps.tail).map V.ref)) := by rw [upd_same, ← evs_map, List.map_tail]
    generalize upd H2 q (.lst (evs (ps.map V.ref).tail)) = H4 at s4 hq ⊢
    refine ⟨q, evs its.tail, rfl, ⟨evs ps.tail, hq, (h2.same s4).tail_.evs_⟩, ?_⟩
    have hl5 := s4 _ _ h1
    cases g2 : (evs its.tail).all acOk with
    | false =>
      refine ⟨_, rfl, iteT ?_⟩
      have e : goodJ its = false := by unfold goodJ; rw [g1, g2]; rfl
      rw [e] at k
      exact k _ s4
    | true =>
    refine ⟨_, rfl, iteF ?_⟩
    refine ⟨_, rfl, _, rfl, _, rfl, l, _, rfl, SqL.of hl5, fun r nr => ?_⟩
    rw [cutV_pop]
    have s6 := sadd (o := .lst ((ps.map V.ref).dropLast)) s4 nr
    have hr6 : upd H4 r (.lst ((ps.map V.ref).dropLast)) r = some (.lst (ps.dropLast.map V.ref)) := by rw [upd_same, List.map_dropLast]
    generalize upd H4 r (.lst ((ps.map V.ref).dropLast)) = H6 at s6 hr6 ⊢
    have q6 := h2.same s6
    have hl6 := s6 _ _ h1
    refine ⟨Jt.ends.d, its.dropLast.map Jt.d, Jt.dp (tE _), .lst (SqL.of hr6) q6.drop_.jdp, shaped_jt _, shaped_jts _, ?_⟩
    rw [any_ends]
    cases g3 : decide (Jt.ends ∈ its.dropLast) with
    | true =>
      refine ⟨_, rfl, iteT ?_⟩
      have e : goodJ its = false := by unfold goodJ; rw [g1, g2, g3]; rfl
      rw [e] at k
      exact k _ s6
    | false =>
    refine ⟨_, rfl, iteF ?_⟩
    have eg : goodJ its = wgo 0 its := by unfold goodJ; rw [g1, g2, g3]; rfl
    rw [eg] at k
    refine ⟨_, rfl, l, rfl, ⟨_, SqL.of hl6⟩, ?_⟩
    refine for_list (xs := ps.map V.ref) (fun i σ H' => ∃ (m : Int) (o2 : Option V), σ = [some (.ref l), some (.int m), o2] ∧ H' = H6 ∧ wgo 0 its = wgo m (its.drop i))
      ⟨0, none, rfl, rfl, rfl⟩ (fun i σ H' _ ⟨_, _, _, s, _⟩ => by rw [s]; exact SqL.of hl6) ?turn ?done
    case done =>
      rintro σ H7 ⟨m, o2, rfl, rfl, ew⟩
      rw [List.length_map, lp, List.drop_length] at ew
      rw [ew] at k
      exact k H7 s6
    case turn =>
      rintro i y σ H7 hy ⟨m, o2, rfl, rfl, ew⟩
      rw [List.getElem?_map] at hy
      obtain ⟨c, hc, rfl⟩ := Option.map_eq_some_iff.mp hy
      obtain ⟨x, hx, hcx⟩ := q6.get hc
      have ed : its.drop i = x :: its.drop (i + 1) := by
        obtain ⟨hi, e⟩ := List.getElem?_eq_some_iff.mp hx
        rw [List.drop_eq_getElem_cons hi, e]
      rw [ed] at ew
      have nx : ∀ {m' : Int} {o2 : Option V}, wgo m (x :: its.drop (i + 1)) = wgo m' (its.drop (i + 1)) → ∃ (p1 : Int) (p2 : Option V), [some (.ref l), some (.int m'), o2] = [some (.ref l), some (.int p1), p2] ∧ H7 = H7 ∧ wgo 0 its = wgo p1 (its.drop (i + 1)) := fun {m' o2} e => ⟨m', o2, rfl, rfl, ew.trans e⟩
      cases x with
      | calls a d n =>
        refine ⟨_, rfl, c, _, 0, _, rfl, rfl, hcx, rfl, rfl, _, rfl, iteT ?_⟩
        refine ⟨_, rfl, _, _, rfl, rfl, ?_⟩
        exact nx rfl
      | got n =>
        refine ⟨_, rfl, c, _, 0, _, rfl, rfl, hcx, rfl, rfl, _, rfl, iteF ?_⟩
        refine ⟨_, rfl, c, _, 0, _, rfl, rfl, hcx, rfl, rfl, _, rfl, iteT ?_⟩
        refine ⟨_, rfl, _, _, rfl, rfl, ?_⟩
        refine ⟨_, rfl, _, _, rfl, rfl, _, rfl, ?_⟩
        by_cases z : m - 1 < 0
        · rw [show decide (m - 1 < 0) = true from decide_eq_true z]
          refine iteT ?_
          have e : wgo 0 its = false := by
            rw [ew]
            show (decide (0 ≤ m - 1) && _) = false
            rw [decide_eq_false (by omega)]
            rfl
          rw [e] at k
          exact k _ s6
        · rw [show decide (m - 1 < 0) = false from decide_eq_false z]
          refine iteF ?_
          exact nx (by
            show (decide (0 ≤ m - 1) && _) = _
            rw [decide_eq_true (by omega)]
            rfl)
      | inn d n =>
        refine ⟨_, rfl, c, _, 0, _, rfl, rfl, hcx, rfl, rfl, _, rfl, iteF ?_⟩
        refine ⟨_, rfl, c, _, 0, _, rfl, rfl, hcx, rfl, rfl, _, rfl, iteF ?_⟩
        exact nx rfl
      | gives n =>
        refine ⟨_, rfl, c, _, 0, _, rfl, rfl, hcx, rfl, rfl, _, rfl, iteF ?_⟩
        refine ⟨_, rfl, c, _, 0, _, rfl, rfl, hcx, rfl, rfl, _, rfl, iteF ?_⟩
        exact nx rfl
      | ends =>
        refine ⟨_, rfl, c, _, 0, _, rfl, rfl, hcx, rfl, rfl, _, rfl, iteF ?_⟩
        refine ⟨_, rfl, c, _, 0, _, rfl, rfl, hcx, rfl, rfl, _, rfl, iteF ?_⟩
        exact nx rfl
end
end OH
end
section
set_option Elab.async false
set_option linter.all false
set_option maxRecDepth 100000
set_option maxHeartbeats 4000000
/-! Views of any sort put together: what comes out. -/
namespace OH
open PySem PySem.Spec PyProof.Rows L2
structure JInv (F : Fc) (vs : List (List It)) (J : Jn) (c : Option Nat) : Prop where
  vr : VR F J.joint
  st : ∀ r : Nat, c = some r → r < F.R ∧ (stt (none, []) J.joint).1 = some (r : Int) ∧ J.asks.map (fun n : Nat => (n : Int)) = (stt (none, []) J.joint).2.map (·.1) ∧ ∀ j, j < F.R → cat_ J.cnt j % 2 = if r = j then 1 else 0
  lc : J.cnt.length = F.R
  pre : ∀ r : Nat, r < F.R → vw (r : Int) J.joint = (vat vs r).take (cat_ J.cnt r) ∧ cat_ J.cnt r ≤ (vat vs r).length
theorem nextI_at {vs : List (List It)} {cnt : List Nat} {r : Nat} {it : It} (h : nextI vs cnt r = some it) : cat_ cnt r < (vat vs r).length ∧ (vat vs r).take (cat_ cnt r + 1) = (vat vs r).take (cat_ cnt r) ++ [it] := by
  unfold nextI at h
  refine ⟨(List.getElem?_eq_some_iff.mp h).1, ?_⟩
  rw [List.take_add_one, h]
  rfl
section
variable {F : Fc} {vs : List (List It)} {J : Jn} {r : Nat}
theorem JInv.one (hF : F.Ok) (h : JInv F vs J (some r)) {x : Crs} (hx : Nx F (r : Int) (stt (none, []) J.joint).2 x) (hn : nextI vs J.cnt r = some (actOf x)) (he : evOf x = none) (as : List Nat) : JInv F vs ⟨bump J.cnt r, as, J.joint ++ [x]⟩ none := by
  obtain ⟨hr, s1, s2, s3⟩ := h.st r rfl
  obtain ⟨e1, e2, e3⟩ := Nx.shown hF (h.vr.ok hF) s1 hx
  obtain ⟨n1, n2⟩ := nextI_at hn
  have hr' : r < J.cnt.length := by rw [h.lc]; exact hr
  refine ⟨h.vr.snoc s1 hx, (fun _ z => nomatch z), by rw [len_bump]; exact h.lc, fun j hj => ?_⟩
  obtain ⟨p1, p2⟩ := h.pre j hj
  show vw (j : Int) (J.joint ++ [x]) = _ ∧ cat_ (bump J.cnt r) j ≤ _
  rw [vw_app, cat_bump hr', p1, vw_cons]
  show (vat vs j).take (cat_ J.cnt j) ++ (OH.shown (j : Int) x ++ []) = _ ∧ _
  rw [List.append_nil]
  by_cases e : r = j
  · subst e
    rw [if_pos rfl, e1, n2]
    exact ⟨rfl, n1⟩
  · rw [if_neg e, e3 (j : Int) (fun z => e (by omega)) (fun q hq => by rw [he] at hq; cases hq), List.append_nil]
    exact ⟨rfl, p2⟩
theorem JInv.two (hF : F.Ok) (h : JInv F vs J (some r)) {x : Crs} {b : Nat} {e : It} (hx : Nx F (r : Int) (stt (none, []) J.joint).2 x) (hn : nextI vs J.cnt r = some (actOf x)) (he : evOf x = some ((b : Int), e)) (hm : nextI vs (bump J.cnt r) b = some e) {as : List Nat}
    (h1 : (bh (stt (none, []) J.joint) x).1 = some (b : Int)) (h2 : as.map (fun n : Nat => (n : Int)) = (bh (stt (none, []) J.joint) x).2.map (·.1)) : JInv F vs ⟨bump (bump J.cnt r) b, as, J.joint ++ [x]⟩ (some b) := by
  obtain ⟨hr, s1, s2, s3⟩ := h.st r rfl
  obtain ⟨e1, e2, e3⟩ := Nx.shown hF (h.vr.ok hF) s1 hx
  obtain ⟨b1, b2, b3, b4⟩ := e2 _ he
  have b1' : (b : Int) ≠ (r : Int) := b1
  have b3' : (b : Int) < (F.R : Int) := b3
  have b4' : OH.shown (b : Int) x = [e] := b4
  have nb : r ≠ b := fun z => b1' (by omega)
  have hb : b < F.R := by omega
  obtain ⟨n1, n2⟩ := nextI_at hn
  obtain ⟨m1, m2⟩ := nextI_at hm
  have hr' : r < J.cnt.length := by rw [h.lc]; exact hr
  have hb' : b < (bump J.cnt r).length := by rw [len_bump, h.lc]; exact hb
  rw [cat_bump hr', if_neg nb] at m1 m2
  have cb : ∀ j, cat_ (bump (bump J.cnt r) b) j = if b = j then cat_ J.cnt b + 1 else if r = j then cat_ J.cnt r + 1 else cat_ J.cnt j := fun j => by
    rw [cat_bump hb', cat_bump hr', cat_bump hr', if_neg nb]
  refine ⟨h.vr.snoc s1 hx, fun k z => ?_, by show (bump (bump J.cnt r) b).length = _; rw [len_bump, len_bump]; exact h.lc, fun j hj => ?_⟩
  · cases z
    refine ⟨hb, ?_, ?_, fun j hj => ?_⟩
    · show (stt (none, []) (J.joint ++ [x])).1 = _
      rw [stt_snoc]
      exact h1
    · show as.map _ = (stt (none, []) (J.joint ++ [x])).2.map _
      rw [stt_snoc]
      exact h2
    · show cat_ (bump (bump J.cnt r) b) j % 2 = _
      rw [cb]
      have t1 := s3 r hr
      rw [if_pos rfl] at t1
      have t2 := s3 b hb
      rw [if_neg nb] at t2
      have t3 := s3 j hj
      by_cases e1 : b = j
      · rw [if_pos e1, if_pos e1]
        omega
      · rw [if_neg e1, if_neg e1]
        by_cases e2 : r = j
        · rw [if_pos e2]
          omega
        · rw [if_neg e2]
          rw [if_neg e2] at t3
          exact t3
  · obtain ⟨p1, p2⟩ := h.pre j hj
    show vw (j : Int) (J.joint ++ [x]) = List.take (cat_ (bump (bump J.cnt r) b) j) _ ∧ cat_ (bump (bump J.cnt r) b) j ≤ _
    rw [vw_app, cb, p1, vw_cons]
    show (vat vs j).take (cat_ J.cnt j) ++ (OH.shown (j : Int) x ++ []) = _ ∧ _
    rw [List.append_nil]
    by_cases e1' : b = j
    · subst e1'
      rw [if_pos rfl, b4', m2]
      exact ⟨rfl, m1⟩
    · rw [if_neg e1']
      by_cases e : r = j
      · subst e
        rw [if_pos rfl, e1, n2]
        exact ⟨rfl, n1⟩
      · rw [if_neg e, e3 (j : Int) (fun z => e (by omega)) (fun q hq => by rw [he] at hq; cases hq; exact fun z => e1' (by have z' : (j : Int) = (b : Int) := z; omega)), List.append_nil]
        exact ⟨rfl, p2⟩
/-- one turn -/
theorem JInv.step (hF : F.Ok) (hG : ∀ r, r < F.R → GV (vat vs r)) (h : JInv F vs J (some r)) {c : Option Nat} {J' : Jn} (hj : jact F vs J r = .ok c J') : JInv F vs J' c := by
  obtain ⟨hr, s1, s2, s3⟩ := h.st r rfl
  have hr' : r < J.cnt.length := by rw [h.lc]; exact hr
  have odd := s3 r hr
  rw [if_pos rfl] at odd
  have kind : ∀ it, nextI vs J.cnt r = some it → isAc it := fun it e => by
    have := (hG r hr).al _ _ e
    unfold kindAt at this
    rwa [if_neg (by omega)] at this
  have al := (getLast?_map_fst s2)
  unfold jact at hj
  split at hj
  · cases hj
    exact ⟨h.vr, (fun _ z => nomatch z), h.lc, h.pre⟩
  · next a d n hn =>
    obtain ⟨_, _, nn⟩ := kind _ hn
    split at hj
    · next hw =>
      obtain ⟨b0, b1, b2, _⟩ := (hF.wi r hr).2.2 _ hw
      have b0' : 0 ≤ a := b0
      split at hj
      · next hd =>
        cases hj
        exact h.one hF (x := .deep r a d n) ⟨rfl, hw, by rw [← al.2.2.2]; exact hd, nn⟩ hn rfl _
      · next hd =>
        split at hj
        · next hm =>
          cases hj
          have ea : ((a.toNat : Nat) : Int) = a := by omega
          have le : ((stt (none, []) J.joint).2.length : Int) ≤ F.dep := (h.vr.ok hF).le
          refine h.two hF (x := .call r a d n) (b := a.toNat) (e := .inn d n) ⟨rfl, hw, by rw [← al.2.2.2] at le ⊢; omega, nn⟩ hn (by rw [ea]; rfl) hm (by rw [ea]; rfl) ?_
          show (J.asks ++ [r]).map _ = ((stt (none, []) J.joint).2 ++ [((r : Int), a)]).map _
          rw [List.map_append, List.map_append, s2]
          rfl
        · cases hj
    · cases hj
  · next hn =>
    cases hj
    exact h.one hF (x := .fin r) rfl hn rfl _
  · next it e1 e2 hn =>
    have hk := kind _ hn
    obtain ⟨n, rfl, nn⟩ : ∃ n, it = .gives n ∧ Num n := by
      cases it with
      | inn _ _ => exact hk.elim
      | got _ => exact hk.elim
      | calls a b c => exact absurd rfl (e1 a b c)
      | gives n => exact ⟨n, rfl, hk⟩
      | ends => exact absurd rfl e2
    split at hj
    · next gl =>
      cases hj
      exact h.one hF (x := .done n) ⟨al.1.mp gl, nn⟩ hn rfl _
    · next k gl =>
      split at hj
      · next hm =>
        cases hj
        have hne : (stt (none, []) J.joint).2 ≠ [] := fun z => by
          rw [al.1.mpr z] at gl
          cases gl
        obtain ⟨q, hq⟩ : ∃ q, (stt (none, []) J.joint).2.getLast? = some q := ⟨_, List.getLast?_eq_some_getLast hne⟩
        obtain ⟨k', hk', ek⟩ := al.2.1 q hq
        rw [gl] at hk'
        cases hk'
        exact h.two hF (x := .back r k n) (b := k) (e := .got n) ⟨rfl, ⟨q, hq, ek⟩, nn⟩ hn rfl hm rfl al.2.2.1
      · cases hj
/-- what comes out of views that are put together -/
inductive Out where
  | row (cs : List Crs)
  | bad (x y : Nat)
def jn1 (F : Fc) (n : Int) : Jn := ⟨bump (List.replicate F.R 0) 0, [], [.start n]⟩
inductive Joins (F : Fc) (vs : List (List It)) : Out → Prop where
  | first : (∀ n, (vat vs 0)[0]? ≠ some (.inn 0 n)) → Joins F vs (.bad 0 0)
  | bad {n : Int} {m x y : Nat} : (vat vs 0)[0]? = some (.inn 0 n) → Runs F vs m (jn1 F n) (some 0) (.bad x y) → Joins F vs (.bad x y)
  | left {n : Int} {m r : Nat} {J : Jn} : (vat vs 0)[0]? = some (.inn 0 n) → Runs F vs m (jn1 F n) (some 0) (.fin J) → r < F.R → (∀ j, j < r → (vat vs j).length ≤ cat_ J.cnt j) → cat_ J.cnt r < (vat vs r).length → Joins F vs (.bad r (cat_ J.cnt r))
  | row {n : Int} {m : Nat} {J : Jn} : (vat vs 0)[0]? = some (.inn 0 n) → Runs F vs m (jn1 F n) (some 0) (.fin J) → (∀ j, j < F.R → (vat vs j).length ≤ cat_ J.cnt j) → Joins F vs (.row J.joint)
theorem JInv.init (hF : F.Ok) (hG : ∀ r, r < F.R → GV (vat vs r)) {n : Int} (h0 : (vat vs 0)[0]? = some (.inn 0 n)) : JInv F vs (jn1 F n) (some 0) := by
  have m1 := hF.m1
  have hk : isEv (.inn 0 n) := by
    have := (hG 0 (by omega)).al 0 _ h0
    unfold kindAt at this
    rwa [if_pos rfl] at this
  have cz : ∀ j, cat_ (List.replicate F.R 0) j = 0 := fun j => by
    unfold cat_
    rw [List.getD_eq_getElem?_getD, List.getElem?_replicate]
    split <;> rfl
  have c1 : ∀ j, cat_ (bump (List.replicate F.R 0) 0) j = if 0 = j then 1 else 0 := fun j => by
    rw [cat_bump (by rw [List.length_replicate]; omega), cz, cz]
  refine ⟨⟨n, [], rfl, hk.2, trivial⟩, fun r z => ?_, by show (bump _ 0).length = _; rw [len_bump, List.length_replicate], fun r hr => ?_⟩
  · cases z
    refine ⟨by omega, rfl, rfl, fun j hj => ?_⟩
    show cat_ (bump (List.replicate F.R 0) 0) j % 2 = _
    rw [c1]
    split <;> rfl
  · show vw (r : Int) [.start n] = List.take (cat_ (bump (List.replicate F.R 0) 0) r) _ ∧ cat_ (bump (List.replicate F.R 0) 0) r ≤ _
    rw [c1]
    by_cases e : 0 = r
    · subst e
      rw [if_pos rfl, List.take_add_one, h0]
      exact ⟨rfl, (List.getElem?_eq_some_iff.mp h0).1⟩
    · rw [if_neg e]
      refine ⟨?_, Nat.zero_le _⟩
      show (if (r : Int) = 0 then [It.inn 0 n] else []) ++ [] = _
      rw [if_neg (by omega)]
      rfl
theorem JInv.runs (hF : F.Ok) (hG : ∀ r, r < F.R → GV (vat vs r)) {m : Nat} {c : Option Nat} {o : JO} (R : Runs F vs m J c o) : JInv F vs J c → ∀ J', o = .fin J' → ∃ c', JInv F vs J' c' := by
  induction R with
  | stop => intro h J' e; cases e; exact ⟨_, h⟩
  | err _ => intro _ _ e; cases e
  | step hj _ ih => intro h J' e; exact ih (h.step hF hG hj) J' e
/-- a row that comes out has these views -/
theorem Joins.sound (hF : F.Ok) (hG : ∀ r, r < F.R → GV (vat vs r)) {cs : List Crs} (h : Joins F vs (.row cs)) : VR F cs ∧ ∀ r : Nat, r < F.R → vw (r : Int) cs = vat vs r := by
  cases h with
  | row h0 R hl =>
    obtain ⟨c', I⟩ := (JInv.init hF hG h0).runs hF hG R _ rfl
    refine ⟨I.vr, fun r hr => ?_⟩
    rw [(I.pre r hr).1, List.take_of_length_le (hl r hr)]
theorem jact_sum (hF : F.Ok) (hr : r < F.R) (lc : J.cnt.length = F.R) {c : Nat} {J' : Jn} (hj : jact F vs J r = .ok (some c) J') (hc : c < F.R) : J'.cnt.sum = J.cnt.sum + 2 := by
  have s1 := sum_bump (l := J.cnt) (r := r) (by omega)
  have s2 : ∀ k, k < F.R → (bump (bump J.cnt r) k).sum = J.cnt.sum + 2 := fun k hk => by
    have := sum_bump (l := bump J.cnt r) (r := k) (by rw [len_bump]; omega)
    omega
  unfold jact at hj
  split at hj
  · cases hj
  · split at hj
    · split at hj
      · cases hj
      · split at hj
        · cases hj
          exact s2 _ hc
        · cases hj
    · cases hj
  · cases hj
  · split at hj
    · cases hj
    · split at hj
      · cases hj
        exact s2 _ hc
      · cases hj
theorem runs_ex (hF : F.Ok) (hG : ∀ r, r < F.R → GV (vat vs r)) (hl : ∀ r, (vat vs r).length ≤ 10000) (lv : vs.length = F.R) : ∀ (k : Nat) (J : Jn) (r : Nat), JInv F vs J (some r) → 60000 < J.cnt.sum + k → ∃ m o, Runs F vs m J (some r) o := by
  have bound : ∀ {J : Jn} {c : Option Nat}, JInv F vs J c → J.cnt.sum ≤ 60000 := fun {J c} I => by
    have h := sum_le J.cnt 10000 (fun r => by
      by_cases e : r < F.R
      · exact Nat.le_trans (I.pre r e).2 (hl r)
      · show cat_ J.cnt r ≤ _
        unfold cat_
        rw [List.getD_eq_getElem?_getD, List.getElem?_eq_none (by rw [I.lc]; omega)]
        exact Nat.zero_le _)
    rw [I.lc] at h
    exact Nat.le_trans h (Nat.mul_le_mul_right 10000 hF.m6)
  intro k
  induction k with
  | zero =>
    intro J r I h
    have := bound I
    omega
  | succ k ih =>
    intro J r I h
    cases hj : jact F vs J r with
    | err a b => exact ⟨_, _, .err hj⟩
    | ok c J' =>
      have I' := I.step hF hG hj
      cases c with
      | none => exact ⟨_, _, .step hj .stop⟩
      | some c =>
        have hc := (I'.st c rfl).1
        have e := jact_sum hF (I.st r rfl).1 I.lc hj hc
        obtain ⟨m, o, R⟩ := ih J' c I' (by omega)
        exact ⟨_, _, .step hj R⟩
theorem joins_ex (hF : F.Ok) (hG : ∀ r, r < F.R → GV (vat vs r)) (hl : ∀ r, (vat vs r).length ≤ 10000) (lv : vs.length = F.R) : ∃ o, Joins F vs o := by
  by_cases h0 : ∃ n, (vat vs 0)[0]? = some (.inn 0 n)
  · obtain ⟨n, h0⟩ := h0
    obtain ⟨m, o, R⟩ := runs_ex hF hG hl lv 60001 (jn1 F n) 0 (JInv.init hF hG h0) (by omega)
    cases o with
    | bad x y => exact ⟨_, .bad h0 R⟩
    | fin J =>
      by_cases e : ∃ r, r < F.R ∧ cat_ J.cnt r < (vat vs r).length
      · obtain ⟨r, hr, hlt, hmin⟩ : ∃ r, r < F.R ∧ cat_ J.cnt r < (vat vs r).length ∧ ∀ j, j < r → ¬ (j < F.R ∧ cat_ J.cnt j < (vat vs j).length) := by
          obtain ⟨r0, h0r⟩ := e
          induction r0 using Nat.strongRecOn with
          | _ r0 ihr =>
            by_cases q : ∃ j, j < r0 ∧ (j < F.R ∧ cat_ J.cnt j < (vat vs j).length)
            · obtain ⟨j, jl, jh⟩ := q
              exact ihr j jl jh
            · exact ⟨r0, h0r.1, h0r.2, fun j jl jh => q ⟨j, jl, jh⟩⟩
        exact ⟨_, .left h0 R hr (fun j hj => by have := hmin j hj; omega) hlt⟩
      · exact ⟨_, .row h0 R fun j hj => by
          have : ¬ cat_ J.cnt j < (vat vs j).length := fun z => e ⟨j, hj, z⟩
          omega⟩
  · exact ⟨_, .first fun n z => h0 ⟨n, z⟩⟩
end
end OH
end
section
set_option Elab.async false
set_option linter.all false
set_option maxRecDepth 100000
set_option maxHeartbeats 8000000
/-! Putting any views together. -/
namespace OH
open PySem PySem.Spec PyProof.Rows L2
def spJoinG (K : PySem.W.Frag) (CJ C : Addr) : Sp := fun vs' H Q E => ∃ (H0 : Hp) (F : Fc) (vs : List (List It)) (p d wt vl cl al jl : Addr) (o : Out), vs' = [.ref p] ∧ JnX K CJ H0 H F vs p d wt vl cl al jl (jn0 F) ∧ Joins F vs o ∧ (∀ r, r < F.R → GV (vat vs r)) ∧
  (∀ cs, o = .row cs → ∀ J' H', JnX K CJ H0 H' F vs p d wt vl cl al jl J' → J'.joint = cs → Q .non H') ∧
  (∀ x y, o = .bad x y → ∀ e H', Same H0 H' → H' e = none → E (.ref C) (some e) (upd H' e (unf x y)))
section
variable {P : Program} {w : World} {K : PySem.W.Frag} {mg : Str → Option Value} {base : Heap} {CJ C fI fA : Addr} {fdI fdA : FuncData}
theorem ok_Joining_joinG {f : Addr} {fd : FuncData} (F : Fun K "join" "Joining.join" s_Joining_join f fd) (T : TxJ K CJ) (nLen : mg "len" = none) (nEnum : mg "enumerate" = none)
    (TE : ErrF P K mg "Unfit" "room" C) (iC : PySem.W.findIn K (.ref C) "__init__" = some (some (.ref fI))) (tI : PySem.W.typeIn K (.ref fI) = some (.type "function"))
    (FI : FnOk P w K mg base CX0 1 fI fdI ["self", "room", "at"] (spErr2 C "room" "at")) (bI : Binds K fdI ["self", "room", "at"] [])
    (DX : MetF P w K mg base CX0 2 CJ "next_item" ["self", "room"] (spNext K CJ))
    (MA : Meth K CJ "join_act" fA) (FA : FnOk P w K mg base (L2.CX P w) 5 fA fdA ["self", "room"] (spJAct K CJ C)) (bA : Binds K fdA ["self", "room"] []) : FnOk P w K mg base (L2.CX P w) 6 f fd ["self"] (spJoinG K CJ C) := by
  refine F.okX sc_Joining_join (fun vs H Q E h => ?_) (fun cdv A outer s H vs Q E hr h => ?_)
  · obtain ⟨H0, F, vs, p, d, wt, vl, cl, al, jl, o, rfl, _⟩ := h
    rfl
  · obtain ⟨H0, F, vs, p, d, wt, vl, cl, al, jl, o, rfl, Y, hj, hG, k1, k2⟩ := h
    have nd := sc_Joining_join.nd
    have hr2 : Room 2 _ := hr.mono (by decide)
    have hr5 : Room 5 _ := hr
    refine ⟨_, pss_cons (ps_set (i := 1) nd rfl (Or.inl rfl) (pe_mD (pv 0) T.cl DX hr2 pass0 (pa_cons pe_int pa_nil)))
      (pss_cons (ps_if (PW.pt (pw_or (pt_cmpR op_isN (pv 1) pe_non (nomark _)) (pw_or1 (pt_cmpR op_ne (pe_ix ix_tup (pv 1) pe_int (fun _ _ => rfl)) pe_int (nomark _))))) (pss_one (ps_raise rfl (takes_of rfl rfl rfl rfl) (pmk_err2 TE iC tI FI hr2 bI (by rfl) (pa_cons pe_int (pa_cons pe_int pa_nil))))) pss_nil)
      (pss_cons (ps_asg pe_int (pg_sub (pe_fld (pv 0) rfl) pe_int set_list))
      (pss_cons (ps_expr (pe_bm PySem.F.plainAttrs_list PySem.F.slot_list_append PySem.F.type_list_append mt_append (pe_fld (pv 0) rfl) (pa_cons (pe_tup (pa_cons pe_str (pa_cons (pe_ix ix_tup (pv 1) pe_int (fun _ _ => rfl)) pa_nil))) pa_nil)))
      (pss_cons (ps_set (i := 2) nd rfl (Or.inl rfl) pe_int)
      (pss_cons (ps_while (passes_of rfl) (pt_cmpR op_notN (pv 2) pe_non (nomark _)) (pss_one (ps_set (i := 2) nd rfl (Or.inl rfl) (pe_methX (pv 0) T.cl MA FA hr5 bA (fun σ => passAt (takes_of rfl rfl rfl rfl) σ) (pa_cons (pv 2) pa_nil)))))
      (pss_one (ps_for (passes_of rfl) rfl (pi_enum (by rfl) nEnum (pa_cons (pe_fld (pv 0) rfl) pa_nil)) (pg_tup (by rfl) (pgs_cons (pg_name (i := 3) nd rfl (Or.inl rfl)) (pgs_cons (pg_name (i := 4) nd rfl (Or.inl rfl)) pgs_nil))) (pss_one (ps_if (pt_cmpR op_lt (pe_ix ix_list (pe_fld (pv 0) rfl) (pv 3) (fun _ _ => rfl)) (pe_callB call_len_seq (by rfl) nLen PySem.boot_len (pa_cons (pv 4) pa_nil)) (nomark _)) (pss_one (ps_raise rfl (takes_of rfl rfl rfl rfl) (pmk_err2 TE iC tI FI hr2 bI (by rfl) (pa_cons (pv 3) (pa_cons (pe_ix ix_list (pe_fld (pv 0) rfl) (pv 3) (fun _ _ => rfl)) pa_nil))))) pss_nil))))))))), ?_⟩
    have hF := Y.c.ok
    have m1 := hF.m1
    have m6 := hF.m6
    have c0 : ∀ r, cat_ (jn0 F).cnt r = 0 := fun r => by
      show (List.replicate F.R 0).getD r 0 = 0
      rw [List.getD_eq_getElem?_getD, List.getElem?_replicate]
      split <;> rfl
    have nx0 : nextI vs (jn0 F).cnt 0 = (vat vs 0)[0]? := by unfold nextI; rw [c0]
    refine ⟨_, rfl, p, d, _, rfl, Y.at_.hp, rfl, H0, F, vs, p, d, wt, vl, cl, al, jl, jn0 F, 0, rfl, Y, by omega, fun hn => ?_, fun it t hn ht => ?_⟩
    · refine ⟨_, rfl, rfl, _, rfl, iteT ?_⟩
      rw [nx0] at hn
      have e0 : o = .bad 0 0 := by
        cases hj with
        | first _ => rfl
        | bad h0 _ => rw [hn] at h0; cases h0
        | left h0 _ _ _ _ => rw [hn] at h0; cases h0
        | row h0 _ _ => rw [hn] at h0; cases h0
      refine ⟨.int 0, .int 0, rfl, fmtNat (k := 0) (by decide), fmtNat (k := 0) (by decide), fun e ne => ?_⟩
      exact k2 0 0 e0 e H Y.s ne
    · rw [nx0] at hn
      obtain ⟨dz, n, rfl⟩ : ∃ dz n, it = .inn dz n := by
        have hk := (hG 0 (by omega)).al 0 _ hn
        unfold kindAt at hk
        rw [if_pos rfl] at hk
        cases it with
        | inn a b => exact ⟨a, b, rfl⟩
        | got a =>
          have w1 := (hG 0 (by omega)).wt 1
          rw [List.take_add_one, hn] at w1
          have w2 : (0 : Int) ≤ -1 + 0 := w1
          omega
        | calls a b c => exact hk.elim
        | gives a => exact hk.elim
        | ends => exact hk.elim
      refine ⟨_, rfl, rfl, _, rfl, iteF ?_⟩
      refine ⟨_, rfl, t, _, 1, _, rfl, rfl, ht, rfl, rfl, _, rfl, ?_⟩
      by_cases ez : dz = 0
      case neg =>
        have e1 : (!decide (V.int dz = V.int 0)) = true := by
          rw [decide_eq_false (fun z => ez (V.int.inj z))]
          rfl
        rw [e1]
        refine iteT ?_
        have e0 : o = .bad 0 0 := by
          cases hj with
          | first _ => rfl
          | bad h0 _ => rw [hn] at h0; cases h0; exact absurd rfl ez
          | left h0 _ _ _ _ => rw [hn] at h0; cases h0; exact absurd rfl ez
          | row h0 _ _ => rw [hn] at h0; cases h0; exact absurd rfl ez
        refine ⟨.int 0, .int 0, rfl, fmtNat (k := 0) (by decide), fmtNat (k := 0) (by decide), fun e ne => ?_⟩
        exact k2 0 0 e0 e H Y.s ne
      subst ez
      refine (show (if (!decide (V.int 0 = V.int 0)) = true then _ else _ : Prop) from iteF ?_)
      obtain ⟨m, out, R, hout⟩ : ∃ m out, Runs F vs m (jn1 F n) (some 0) out ∧ ((∃ x y, out = .bad x y ∧ o = .bad x y) ∨ ∃ J, out = .fin J ∧ ((o = .row J.joint ∧ ∀ j, j < F.R → (vat vs j).length ≤ cat_ J.cnt j) ∨ ∃ r, o = .bad r (cat_ J.cnt r) ∧ r < F.R ∧ (∀ j, j < r → (vat vs j).length ≤ cat_ J.cnt j) ∧ cat_ J.cnt r < (vat vs r).length)) := by
        cases hj with
        | first h => exact absurd hn (h n)
        | bad h0 R => rw [hn] at h0; cases h0; exact ⟨_, _, R, .inl ⟨_, _, rfl, rfl⟩⟩
        | left h0 R a b c => rw [hn] at h0; cases h0; exact ⟨_, _, R, .inr ⟨_, rfl, .inr ⟨_, rfl, a, b, c⟩⟩⟩
        | row h0 R a => rw [hn] at h0; cases h0; exact ⟨_, _, R, .inr ⟨_, rfl, .inl ⟨rfl, a⟩⟩⟩
      have Y2 := Y.bump_ (r := 0) (by omega) (nx0.trans hn)
      refine ⟨_, rfl, p, CJ, d, _, _, rfl, Y.at_.hp, T.cl, T.n3, rfl, cl, _, 0, 0, rfl, rfl, Y.at_.hc, ?_, ?_⟩
      · unfold ixN
        rw [if_pos (Int.le_refl 0), if_pos (by rw [List.length_map]; show (0 : Int) < ((List.replicate F.R 0).length : Nat); rw [List.length_replicate]; omega)]
        rfl
      have e2 : ((jn0 F).cnt.map natV).set 0 (.int 1) = (bump (jn0 F).cnt 0).map natV := by
        have := cnt_set (jn0 F) 0
        rw [c0] at this
        exact this
      rw [e2]
      have ht2 := ht.upl (zs := (bump (jn0 F).cnt 0).map natV) Y.at_.hc
      generalize upd H cl (.lst ((bump (jn0 F).cnt 0).map natV)) = H2 at Y2 ht2 ⊢
      obtain ⟨jps, j1, j2⟩ := Y2.at_.hj
      have lj : jps.length = 0 := j2.len
      refine ⟨_, rfl, p, CJ, d, _, _, rfl, Y2.at_.hp, T.cl, T.n5, rfl, .inl ⟨rfl, _, SqL.of j1⟩, ?_⟩
      refine ⟨_, rfl, t, _, 2, _, rfl, rfl, ht2, rfl, (by show 2 ≤ sizeLine; decide), fun u nu => ?_⟩
      have s3 := sadd (o := .tup [.str "start", .int n]) (Same.refl H2) nu
      have hu : upd H2 u (.tup [.str "start", .int n]) u = some (.tup (Crs.start n).vs) := upd_same
      generalize upd H2 u (.tup [.str "start", .int n]) = H3 at s3 hu ⊢
      have Y3 := Y2.same s3
      have j3 := s3 _ _ j1
      refine ⟨jl, _, _, rfl, rfl, j3, (by rw [List.length_map, lj, sizeLine_eq]; omega), ?_⟩
      have Y4 := Y3.joi_ (x := .start n) hu j3 (j2.mono fun q xs e => s3 _ _ e)
      generalize upd H3 jl (.lst (jps.map V.ref ++ [.ref u])) = H4 at Y4 ⊢
      have S4 : JnS F ⟨bump (jn0 F).cnt 0, (jn0 F).asks, (jn0 F).joint ++ [.start n]⟩ := by
        have s1 := sum_bump (l := (jn0 F).cnt) (r := 0) (by show 0 < (List.replicate F.R 0).length; rw [List.length_replicate]; omega)
        exact ⟨by show 1 ≤ (bump (jn0 F).cnt 0).sum; omega, by show 0 ≤ (bump (jn0 F).cnt 0).sum; omega, fun k z => nomatch z⟩
      refine ⟨fun k σ H' => ∃ (J : Jn) (c : Option Nat) (o3 o4 : Option V), σ = [some (.ref p), some (.ref t), some (optN c), o3, o4] ∧ Runs F vs k J c out ∧ JnX K CJ H0 H' F vs p d wt vl cl al jl J ∧ JnS F J ∧ ∀ r, c = some r → r < F.R,
        ⟨m, _, some 0, none, none, rfl, R, Y4, S4, fun r z => by cases z; omega⟩, ?_⟩
      rintro k σ H5 ⟨J, c, o3, o4, rfl, R5, Y5, S5, hc5⟩
      cases c with
      | some r =>
        refine ⟨_, rfl, rfl, _, rfl, iteT ⟨fun σ' H' => ∃ k', k' < k ∧ ∃ (J : Jn) (c : Option Nat) (o3 o4 : Option V), σ' = [some (.ref p), some (.ref t), some (optN c), o3, o4] ∧ Runs F vs k' J c out ∧ JnX K CJ H0 H' F vs p d wt vl cl al jl J ∧ JnS F J ∧ ∀ r, c = some r → r < F.R, fun σ' H' z => z, ?_⟩⟩
        refine ⟨_, rfl, p, d, _, rfl, Y5.at_.hp, rfl, _, rfl, H0, F, vs, p, d, wt, vl, cl, al, jl, J, r, rfl, Y5, Y5.jnn S5, hc5 r rfl, fun c' J' hj H6 Y6 => ?_, fun x y hj e H6 s6 ne => ?_⟩
        · cases R5 with
          | err hj' => rw [hj] at hj'; cases hj'
          | step hj' R' =>
            rw [hj] at hj'
            cases hj'
            obtain ⟨S6, hc6⟩ := S5.step hF Y5.lc (hc5 r rfl) hj
            exact ⟨_, Nat.lt_succ_self _, J', c', o3, o4, rfl, R', Y6, S6, hc6⟩
        · cases R5 with
          | err hj' =>
            rw [hj] at hj'
            cases hj'
            rcases hout with ⟨x', y', e1, e2⟩ | ⟨J1, e1, _⟩
            · cases e1
              exact k2 x y e2 e H6 s6 ne
            · cases e1
          | step hj' R' => rw [hj] at hj'; cases hj'
      | none =>
        refine ⟨_, rfl, rfl, _, rfl, iteF ?_⟩
        cases R5
        obtain ⟨vps, v1, v2, v3⟩ := Y.c.v
        refine ⟨_, rfl, p, CJ, d, _, _, rfl, Y5.at_.hp, T.cl, T.n2, rfl, vl, _, rfl, SqL.of (Y5.s _ _ v1), ?_⟩
        refine for_it (walk_enum (K := K) (a := vl) (xs := vps.map V.ref)) (fun i σ H' => ∃ o3 o4 : Option V, σ = [some (.ref p), some (.ref t), some .non, o3, o4] ∧ JnX K CJ H0 H' F vs p d wt vl cl al jl J ∧ ∀ j, j < i → (vat vs j).length ≤ cat_ J.cnt j)
          ⟨o3, o4, rfl, Y5, fun j z => absurd z (Nat.not_lt_zero j)⟩ (fun i σ H' _ ⟨_, _, _, Y', _⟩ => SqL.of (Y'.s _ _ v1)) ?turn ?done
        case done =>
          rintro σ H6 ⟨o3, o4, rfl, Y6, all⟩
          rcases hout with ⟨x', y', e1, _⟩ | ⟨J1, e1, e2⟩
          · cases e1
          · cases e1
            rcases e2 with ⟨e2, _⟩ | ⟨r, _, hr', _, hlt⟩
            · exact k1 _ e2 J H6 Y6 rfl
            · have := all r (by rw [List.length_map]; omega)
              omega
        case turn =>
          rintro i y σ H6 H7 hi' ⟨o3, o4, rfl, Y6, all⟩ ⟨tp, x0, y0, rfl, ntp, rfl, ex, ey⟩
          cases ex
          have hiR : i < F.R := by
            rw [List.length_map] at hi'
            omega
          obtain ⟨q, hq⟩ : ∃ q, vps[i]? = some q := ⟨_, List.getElem?_eq_getElem (by omega)⟩
          have ey' : y0 = .ref q := by
            have ey2 : (vps.map V.ref)[i]? = some y0 := ey
            rw [List.getElem?_map, hq] at ey2
            exact (Option.some.inj ey2).symm
          subst ey'
          have s7 := sadd (o := .tup [.int (i : Int), .ref q]) (Same.refl H6) ntp
          have htp : upd H6 tp (.tup [.int (i : Int), .ref q]) tp = some (.tup [.int (i : Int), .ref q]) := upd_same
          generalize upd H6 tp (.tup [.int (i : Int), .ref q]) = H7 at s7 htp ⊢
          have Y7 := Y6.same s7
          have lc := Y7.lc
          have le := Y7.c.le i
          have cb := Y7.cb i
          obtain ⟨ips, i1, i2⟩ := v3 i q hq
          have li := i2.len
          have hi7 := Y7.s _ _ i1
          obtain ⟨m, hm⟩ : ∃ m, J.cnt[i]? = some m := ⟨_, List.getElem?_eq_getElem (by omega)⟩
          have em : cat_ J.cnt i = m := by unfold cat_; rw [List.getD_eq_getElem?_getD, hm]; rfl
          have a2 : atI (J.cnt.map natV) (i : Int) = some (.int (m : Int)) := atI_nat (by rw [List.getElem?_map, hm]; rfl)
          have lz : (ips.map V.ref).length = (vat vs i).length := by rw [List.length_map, li]
          refine ⟨tp, _, rfl, SqT.of htp, rfl, _, _, rfl, _, _, rfl, rfl, ?_⟩
          refine ⟨_, rfl, p, CJ, d, _, _, rfl, Y7.at_.hp, T.cl, T.n3, rfl, _, rfl, cl, _, (i : Int), .int (m : Int), rfl, rfl, SqL.of Y7.at_.hc, a2, _, rfl, q, _, rfl, .inl (SqL.of hi7), _, _, rfl, rfl, _, rfl, ?_⟩
          refine ite2 (fun z => ?_) (fun z => ?_)
          · have z1 : m < (vat vs i).length := by
              have := of_decide_eq_true z
              omega
            refine ⟨_, rfl, _, rfl, p, CJ, d, _, _, rfl, Y7.at_.hp, T.cl, T.n3, rfl, _, rfl, cl, _, (i : Int), .int (m : Int), rfl, rfl, SqL.of Y7.at_.hc, a2, .int (i : Int), .int (m : Int), rfl, fmtNat (by omega), fmtNat (by omega), fun e ne => ?_⟩
            rcases hout with ⟨x', y', e1, _⟩ | ⟨J1, e1, e2⟩
            · cases e1
            · cases e1
              rcases e2 with ⟨_, hall⟩ | ⟨r, e2, hr', hmin, hlt⟩
              · have := hall i hiR
                omega
              · have eri : r = i := by
                  rcases Nat.lt_trichotomy r i with q | q | q
                  · have := all r q
                    omega
                  · exact q
                  · have := hmin i q
                    omega
                subst eri
                have k3 := k2 r (cat_ J.cnt r) e2 e H7 Y7.s ne
                rw [em] at k3
                exact k3
          · have z1 : ¬ m < (vat vs i).length := fun y => z (decide_eq_true (by omega))
            refine ⟨_, _, rfl, Y7, fun j hj => ?_⟩
            by_cases e : j = i
            · subst e
              omega
            · exact all j (by omega)
end
end OH
end
section
set_option Elab.async false
set_option linter.all false
set_option maxRecDepth 100000
set_option maxHeartbeats 8000000
/-! Any lists of items put together. -/
namespace OH
open PySem PySem.Spec PyProof.Rows L2
def Jt.of : It → Jt
  | .inn d n => .inn (.n d) (.n n)
  | .got n => .got (.n n)
  | .calls a d n => .calls (.n a) (.n d) (.n n)
  | .gives n => .gives (.n n)
  | .ends => .ends
theorem Jt.of_vs (x : It) : (Jt.of x).vs = x.vs := by cases x <;> rfl
theorem VjAt.same {K : PySem.W.Frag} {H H' : Hp} {l : Addr} {v : List Jt} (h : VjAt K H l v) (s : Same H H') : VjAt K H' l v := by
  obtain ⟨ps, h1, h2⟩ := h
  exact ⟨ps, s _ _ h1, h2.same s⟩
theorem VjAt.proper {K : PySem.W.Frag} {H : Hp} {l : Addr} {xs : List It} (h : VjAt K H l (xs.map Jt.of)) : VwAt K H l xs := by
  obtain ⟨ps, h1, h2⟩ := h
  refine ⟨ps, h1, ?_⟩
  clear h1
  induction xs generalizing ps with
  | nil => cases h2; exact .nil
  | cons x xs ih =>
    cases h2 with
    | cons a b => exact .cons (by rw [← Jt.of_vs]; exact a) (ih _ b)
def spJoinedG (K : PySem.W.Frag) (C CB : Addr) : Sp := fun vs' H Q E => ∃ (a vl : Addr) (F : Fc) (vj : List (List Jt)) (vps : List Addr), vs' = [.ref a, .ref vl] ∧ FcAt H a F ∧ H vl = some (.lst (vps.map V.ref)) ∧ vps.length = F.R ∧ (∀ (r : Nat) (q : Addr), vps[r]? = some q → VjAt K H q (vj.getD r [])) ∧
  (((∃ r, r < F.R ∧ goodJ (vj.getD r []) = false) ∧ ∀ H', Same H H' → E (.ref CB) none H') ∨
  ∃ (vs : List (List It)) (o : Out), vs.length = F.R ∧ (∀ r, (vat vs r).length ≤ 10000) ∧ (∀ r, r < F.R → vj.getD r [] = (vat vs r).map Jt.of ∧ goodJ (vj.getD r []) = true) ∧ (∀ r, r < F.R → GV (vat vs r)) ∧ Joins F vs o ∧
    (∀ cs, o = .row cs → ∀ l H', Same H H' → H l = none → RwAt H' l cs → Q (.ref l) H') ∧
    (∀ x y, o = .bad x y → ∀ e H', Same H H' → H' e = none → E (.ref C) (some e) (upd H' e (unf x y))))
section
variable {P : Program} {w : World} {K : PySem.W.Frag} {mg : Str → Option Value} {base : Heap} {CJ C CB fJ : Addr} {fdJ : FuncData}
theorem ok_joinedG {f : Addr} {fd : FuncData} (F : Fun K "joined" "joined" s_joined f fd) (T : Txt K mg) (TJ : TxJ K CJ) (EB : ErrC K mg "BadViews" CB)
    (DF : DefF P w K mg base CX0 7 "need_face" ["face"] spNeedF) (DG : DefF P w K mg base CX0 7 "good_view" ["value"] (spGoodVJ K)) (DK : MakF P w K mg base CX0 6 "Joining" CJ ["self", "face", "views"] (spJInit CJ))
    (MJ : Meth K CJ "join" fJ) (FJ : FnOk P w K mg base (L2.CX P w) 6 fJ fdJ ["self"] (spJoinG K CJ C)) (bJ : Binds K fdJ ["self"] []) : FnOk P w K mg base (L2.CX P w) 8 f fd ["face", "views"] (spJoinedG K C CB) := by
  refine F.okX sc_joined (fun vs H Q E h => ?_) (fun cdv A outer s H vs Q E hr h => ?_)
  · obtain ⟨a, vl, F, vj, vps, rfl, _⟩ := h
    rfl
  · obtain ⟨a, vl, F, vj, vps, rfl, hf, hvl, lvp, hvs, hk⟩ := h
    have nd := sc_joined.nd
    have hr6 : Room 6 _ := hr.mono (by decide)
    refine ⟨_, pss_cons (ps_expr (pe_cD DF hr rfl pass0 (pa_cons (pv 0) pa_nil)))
      (pss_cons (ps_if (PW.pt (pw_or (pt_not (pt_val (pe_callB call_isiT (by rfl) T.nIsi (by decide +kernel) (pa_cons (pv 1) (pa_cons (pe_tup (pa_cons (pe_bltn (v := .ty "list") (by rfl) T.nList (by decide +kernel) rfl) (pa_cons (pe_bltn (v := .ty "tuple") (by rfl) T.nTuple (by decide +kernel) rfl) pa_nil))) pa_nil))))) (pw_or1 (pt_cmpR op_ne (pe_callB call_len_seq (by rfl) T.nLen PySem.boot_len (pa_cons (pv 1) pa_nil)) (pe_callB call_len_seq (by rfl) T.nLen PySem.boot_len (pa_cons (pe_ix ix_tup (pv 0) pe_int (fun _ _ => rfl)) pa_nil)) (nomark _))))) (pss_one ps_never) pss_nil)
      (pss_cons (ps_if (pt_not (pt_val (pe_callB (cr_all rfl) (by rfl) T.nAll (by decide +kernel) (pa_cons (pe_lc (own := [("view", 2)]) (g := gName 2) (tt := tYes) rfl nd (pi_list (pv 1)) (blkOk_by (own := [("view", 2)]) (N := nJd) (sc := defScope s_joined) (by decide +kernel)) (fun _ _ _ _ _ => (pg_name (i := 2) nd rfl (Or.inl rfl))) (fun _ _ _ _ _ => pts_nil) (fun _ _ _ _ _ => (pe_cD DG hr rfl pass0 (pa_cons (pv 2) pa_nil)))) pa_nil)))) (pss_one (ps_raise rfl (takes_of rfl rfl rfl rfl) (pmk_own PySem.F.excBase_ValueError EB.x EB.g EB.k (raises_own EB.b EB.t) (by exact rfl)))) pss_nil)
      (pss_cons (ps_set (i := 3) nd rfl (Or.inl rfl) (pe_kD DK hr rfl pass0 (pa_cons (pv 0) (pa_cons (pv 1) pa_nil))))
      (pss_cons (ps_expr (pe_methX0 (pv 3) TJ.cl MJ FJ hr6 bJ (fun σ => passAt (takes_of rfl rfl rfl rfl) σ)))
      (pss_one (ps_ret (pe_fld (pv 3) rfl))))))), ?_⟩
    have hF := hf.ok
    have m6 := hF.m6
    refine ⟨_, rfl, a, F, rfl, hf, fun H1 s1 => ?_⟩
    refine ⟨_, rfl, (by show 2 ≤ sizeLine; decide), fun tp ntp => ?_⟩
    have s2 := sadd (o := .tup [.ty "list", .ty "tuple"]) s1 ntp
    have htp : upd H1 tp (.tup [.ty "list", .ty "tuple"]) tp = some (.tup [.ty "list", .ty "tuple"]) := upd_same
    generalize upd H1 tp (.tup [.ty "list", .ty "tuple"]) = H2 at s2 htp ⊢
    have v2 := s2 _ _ hvl
    have f2 := hf.same s2
    obtain ⟨wt, dt, wps, b1, b2, b3, b4, b5⟩ := f2.ex
    refine ⟨_, tp, _, _, _, _, rfl, htp, .cons (.ty _) (.cons (.ty _) .nil), .base (.lst v2), kitAny_cons (kit_ty (r := true) (by decide +kernel)) (fun z => nomatch z) (fun _ => rfl), _, rfl, iteF ?_⟩
    refine ⟨_, rfl, vl, _, rfl, .inl (SqL.of v2), _, rfl, a, _, 2, _, rfl, rfl, SqT.of b1, rfl, dt, _, rfl, .inr (SqT.of b3), rfl, _, rfl, ?_⟩
    have e0 : decide (V.int ((vps.map V.ref).length : Nat) = V.int ((F.dor.map V.int).length : Nat)) = true := decide_eq_true (by rw [List.length_map, List.length_map, lvp]; rfl)
    refine ite2 (fun z => ?_) (fun _ => ?_)
    · have z' : (!decide (V.int ((vps.map V.ref).length : Nat) = V.int ((F.dor.map V.int).length : Nat))) = true := z
      rw [e0] at z'
      cases z'
    refine ⟨_, rfl, vl, rfl, ⟨_, SqL.of v2⟩, fun D nD => ?_⟩
    refine lc_list (K := K) (a := vl) (xs := vps.map V.ref) (fun i H' => Same H2 H' ∧ H' D = some (.lst (((List.range i).map fun r => goodJ (vj.getD r [])).map V.bl))) ⟨sadd (Same.refl H2) nD, upd_same⟩ (fun i H' _ ⟨s, _⟩ => SqL.of (s _ _ v2)) ?turn ?done
    case turn =>
      rintro i x H4 hx ⟨s4, hD⟩
      rw [List.getElem?_map] at hx
      obtain ⟨q, hq, rfl⟩ := Option.map_eq_some_iff.mp hx
      have hi : i < F.R := by rw [← lvp]; exact (List.getElem?_eq_some_iff.mp hq).1
      refine ⟨rfl, ?_⟩
      unfold tYes
      refine iteT ?_
      refine ⟨_, rfl, q, vj.getD i [], rfl, (hvs i q hq).same (s2.trans s4), fun H5 s5 => ?_⟩
      refine ⟨_, s5 _ _ hD, ?_, sout (s4.trans s5) nD, ?_⟩
      · rw [List.length_map, List.length_map, List.length_range, sizeLine_eq]
        omega
      · rw [upd_same, List.range_succ, List.map_append, List.map_append]
        rfl
    case done =>
      rintro H4 ⟨s4, hD⟩
      have lD : ((vps.map V.ref).length : Nat) = F.R := by rw [List.length_map, lvp]
      rw [lD] at hD
      refine ⟨D, _, rfl, SqL.of hD, ?_⟩
      rcases hk with ⟨⟨r, hr', hg⟩, kb⟩ | ⟨vs, o, hlv, hle, hvv, hgv, hj, k1, k2⟩
      · have eb : (((List.range F.R).map fun r => goodJ (vj.getD r [])).all id) = false := by
          rw [List.all_eq_false]
          exact ⟨_, List.mem_map.mpr ⟨r, List.mem_range.mpr hr', rfl⟩, by rw [hg]; decide⟩
        rw [eb]
        refine ⟨_, rfl, iteT ?_⟩
        exact kb _ (s2.trans s4)
      have eg : (((List.range F.R).map fun r => goodJ (vj.getD r [])).all id) = true := by
        rw [List.all_eq_true]
        intro y hy
        obtain ⟨r, hr', rfl⟩ := List.mem_map.mp hy
        exact (hvv r (List.mem_range.mp hr')).2
      rw [eg]
      refine ⟨_, rfl, iteF ?_⟩
      have s24 := s2.trans s4
      refine ⟨_, rfl, _, rfl, fun p d np ndx npd => ?_⟩
      have s5 := sadd (o := .ins CJ d []) (sadd (o := .own p) (Same.refl H4) ndx) (by rw [upd_ne npd.symm]; exact np)
      have hp5 : upd (upd H4 d (.own p)) p (.ins CJ d []) p = some (.ins CJ d []) := upd_same
      generalize upd (upd H4 d (.own p)) p (.ins CJ d []) = H5 at s5 hp5 ⊢
      have s45 := s4.trans s5
      refine ⟨p, d, a, wt, dt, vl, F, _, rfl, hp5, s45 _ _ b1, s45 _ _ v2, (by rw [List.length_map]; omega), fun cl al jl H6 ncl nal njl n1 n2 n3 JA k6 => ⟨rfl, ?_⟩⟩
      rw [List.length_map, lvp] at JA
      have s46 : Same H4 H6 := Same.kept s5 k6 (fun q hq => by rw [List.mem_singleton.mp hq]; exact np)
      have YC : JnC K H4 F vs wt vl := ⟨⟨wps, s4 _ _ b2, b4, fun i q e => by
          obtain ⟨ps, p1, p2⟩ := b5 i q e
          exact ⟨ps, s4 _ _ p1, p2.mono fun q xs z => s4 _ _ z⟩⟩, ⟨vps, s4 _ _ v2, lvp, fun r q e => by
          have h1 := (hvs r q e).same s24
          rw [(hvv r (by rw [← lvp]; exact (List.getElem?_eq_some_iff.mp e).1)).1] at h1
          exact h1.proper⟩, hlv, hle, hF⟩
      have YX : JnX K CJ H4 H6 F vs p d wt vl cl al jl (jn0 F) := ⟨YC, s46, s5.free ncl, s5.free nal, s5.free njl, n1, n2, n3, JA, List.length_replicate .., fun r => by
        have : cat_ (jn0 F).cnt r = 0 := by
          show (List.replicate F.R 0).getD r 0 = 0
          rw [List.getD_eq_getElem?_getD, List.getElem?_replicate]
          split <;> rfl
        rw [this]
        exact Nat.zero_le _⟩
      refine ⟨_, rfl, p, d, _, rfl, JA.hp, rfl, H4, F, vs, p, d, wt, vl, cl, al, jl, o, rfl, YX, hj, hgv, fun cs ec J' H7 Y7 e => ?_, fun x y ec e H7 s7 ne => ?_⟩
      · have hjj := Y7.at_.hj
        rw [e] at hjj
        exact ⟨_, rfl, p, CJ, d, _, _, rfl, Y7.at_.hp, TJ.cl, TJ.n5, rfl, k1 cs ec jl H7 (s24.trans Y7.s) (s24.free Y7.fj) hjj⟩
      · exact k2 x y ec e H7 (s24.trans s7) ne
end
end OH
end
section
set_option Elab.async false
set_option linter.all false
set_option maxRecDepth 100000
set_option maxHeartbeats 8000000
/-! The law's own judging of views. -/
namespace OH
open PySem PySem.Spec PyProof.Rows L2
open RZ (ItzT pi_zipA)
theorem walk_zipT {K : PySem.W.Frag} {a b : Addr} {xs ys : List V} {n : Nat} (hn : n = min xs.length ys.length) : Walk (ItzT K a b) n (fun H => SqT K H a xs ∧ SqT K H b ys) (YPair (fun i => xs[i]?) (fun i => ys[i]?)) := by
  subst hn
  refine ⟨fun i _ hi q => ?_, fun _ q => ⟨xs, ys, q.1, q.2, by omega⟩, fun i H v H' _ q y => ?_⟩
  · have h1 : i < xs.length := by omega
    have h2 : i < ys.length := by omega
    exact ⟨xs, ys, xs[i], ys[i], q.1, q.2, List.getElem?_eq_getElem h1, List.getElem?_eq_getElem h2⟩
  · obtain ⟨T, x, y, h1, h2, h3, h4, h5⟩ := y
    exact ⟨T, x, y, h1, h2, h3, h4 xs q.1, h5 ys q.2⟩
theorem same_seq2 {K : PySem.W.Frag} {H H' : Hp} {a : Addr} {xs : List V} (s : Same H H') (h : SqT K H a xs) : SqT K H' a xs := h.elim (fun h => .inl (h.elim (fun e => .inl (s _ _ e)) (fun ⟨o, e⟩ => .inr ⟨o, s _ _ e⟩))) .inr
theorem sIx_cons (x : V) (xs : List V) : HT.sIx (x :: xs).length 0 (some (1 : Int)) = 1 := by
  rw [show (1 : Int) = ((1 : Nat) : Int) from rfl, HT.sIx_nat, List.length_cons]
  omega
theorem cutV_tail1 (x : V) (xs : List V) : cutV (x :: xs) (some 1) none = xs := by
  unfold cutV
  have e1 : HT.sIx (x :: xs).length 0 (some (1 : Int)) = 1 := by
    rw [show (1 : Int) = ((1 : Nat) : Int) from rfl, HT.sIx_nat, List.length_cons]
    omega
  have e2 : HT.sIx (x :: xs).length (x :: xs).length none = (x :: xs).length := by simp [HT.sIx]
  rw [e1, e2]
  exact List.take_of_length_le (by rw [List.length_drop]; exact Nat.le_refl _)
def spBelow : Sp := fun vs H Q _ => ∃ (a : Av) (hi : Int), vs = [a.v, .int hi] ∧ Q (.bl (a.ok hi)) H
def Jt.word : Jt → Str
  | .inn _ _ => "in"
  | .got _ => "got"
  | .calls _ _ _ => "calls"
  | .gives _ => "gives"
  | .ends => "ends"
def Jt.args : Jt → List Av
  | .inn d n => [d, n]
  | .got n => [n]
  | .calls a d n => [a, d, n]
  | .gives n => [n]
  | .ends => []
theorem Jt.vs_eq (x : Jt) : x.vs = .str x.word :: x.args.map Av.v := by cases x <;> rfl
def bnd (md : Bool) : Jt → Option (List Int)
  | .inn _ _ => if md then some [6, 10000] else none
  | .got _ => if md then some [10000] else none
  | .calls _ _ _ => if md then none else some [6, 6, 10000]
  | .gives _ => if md then none else some [10000]
  | .ends => if md then none else some []
def mOk (md : Bool) (x : Jt) : Bool := if md then evOk x else acOk x
theorem bnd_none {md : Bool} {x : Jt} (h : bnd md x = none) : mOk md x = false := by
  cases md <;> cases x <;> first | rfl | cases h
theorem bnd_some {md : Bool} {x : Jt} {bs : List Int} (h : bnd md x = some bs) : x.args.length = bs.length ∧ mOk md x = (x.args.zip bs).all fun p => p.1.ok p.2 := by
  cases md <;> cases x <;> first | (cases h; exact ⟨rfl, by simp [mOk, evOk, acOk, Jt.args, Bool.and_assoc]⟩) | cases h
structure WdAt (K : PySem.W.Frag) (H : Hp) (wd : Addr) (md : Bool) : Prop where
  ex : ∃ kvs : List (Key × V), H wd = some (.dK kvs) ∧ ∀ x : Jt, (bnd md x = none → valV kvs (Sum.inr x.word) = none) ∧ ∀ bs, bnd md x = some bs → ∃ t, valV kvs (Sum.inr x.word) = some (.ref t) ∧ SqT K H t (bs.map V.int)
theorem wd_ev {K : PySem.W.Frag} {H : Hp} {wd t1 t2 : Addr} (h : H wd = some (.dK [(.inr "in", .ref t1), (.inr "got", .ref t2)])) (h1 : H t1 = some (.tup [.int 6, .int 10000])) (h2 : H t2 = some (.tup [.int 10000])) : WdAt K H wd true :=
  ⟨_, h, fun x => match x with
    | .inn _ _ => ⟨fun e => (by cases e), fun bs e => by cases e; exact ⟨t1, rfl, SqT.of h1⟩⟩
    | .got _ => ⟨fun e => (by cases e), fun bs e => by cases e; exact ⟨t2, rfl, SqT.of h2⟩⟩
    | .calls _ _ _ => ⟨fun _ => rfl, fun bs e => by cases e⟩
    | .gives _ => ⟨fun _ => rfl, fun bs e => by cases e⟩
    | .ends => ⟨fun _ => rfl, fun bs e => by cases e⟩⟩
theorem wd_ac {K : PySem.W.Frag} {H : Hp} {wd t1 t2 t3 : Addr} (h : H wd = some (.dK [(.inr "calls", .ref t1), (.inr "gives", .ref t2), (.inr "ends", .ref t3)])) (h1 : H t1 = some (.tup [.int 6, .int 6, .int 10000])) (h2 : H t2 = some (.tup [.int 10000])) (h3 : H t3 = some (.tup [])) : WdAt K H wd false :=
  ⟨_, h, fun x => match x with
    | .inn _ _ => ⟨fun _ => rfl, fun bs e => by cases e⟩
    | .got _ => ⟨fun _ => rfl, fun bs e => by cases e⟩
    | .calls _ _ _ => ⟨fun e => (by cases e), fun bs e => by cases e; exact ⟨t1, rfl, SqT.of h1⟩⟩
    | .gives _ => ⟨fun e => (by cases e), fun bs e => by cases e; exact ⟨t2, rfl, SqT.of h2⟩⟩
    | .ends => ⟨fun e => (by cases e), fun bs e => by cases e; exact ⟨t3, rfl, SqT.of h3⟩⟩⟩
theorem WdAt.same {K : PySem.W.Frag} {H H' : Hp} {wd : Addr} {md : Bool} (h : WdAt K H wd md) (s : Same H H') : WdAt K H' wd md := by
  obtain ⟨kvs, h1, h2⟩ := h.ex
  exact ⟨kvs, s _ _ h1, fun x => ⟨(h2 x).1, fun bs e => let ⟨t, a, b⟩ := (h2 x).2 bs e; ⟨t, a, same_seq2 s b⟩⟩⟩
def spItem (K : PySem.W.Frag) : Sp := fun vs H Q _ => ∃ (c wd : Addr) (x : Jt) (md : Bool), vs = [.ref c, .ref wd] ∧ SqT K H c x.vs ∧ WdAt K H wd md ∧ ∀ H', Same H H' → Q (.bl (mOk md x)) H'
section
variable {P : Program} {w : World} {K : PySem.W.Frag} {mg : Str → Option Value} {base : Heap}
theorem sc__law_is_below : FnScope ["thing", "bound"] ["thing", "bound"] (defScope s__law_is_below) := ⟨rfl, rfl, rfl, by decide +kernel, rfl, by decide +kernel, by decide +kernel⟩
theorem ok__law_is_below {f : Addr} {fd : FuncData} (F : Fun K "_law_is_below" "_law_is_below" s__law_is_below f fd) (T : Txt K mg) : FnOk P w K mg base CX0 1 f fd ["thing", "bound"] spBelow := by
  refine F.ok sc__law_is_below (fun vs H Q E h => ?_) (fun cdv A outer s H vs Q E hr h => ?_)
  · obtain ⟨a, hi, rfl, _⟩ := h
    rfl
  · obtain ⟨a, hi, rfl, k⟩ := h
    refine ⟨_, (pss_one (ps_ret (pe_and (pe_callB call_isi (by rfl) T.nIsi (by decide +kernel) (pa_cons (pv 0) (pa_cons (pe_bltn (v := .ty "int") (by rfl) T.nInt (by decide +kernel) rfl) pa_nil))) (pe_and (pe_not (pe_callB call_isi (by rfl) T.nIsi (by decide +kernel) (pa_cons (pv 0) (pa_cons (pe_bltn (v := .ty "bool") (by rfl) T.nBool (by decide +kernel) rfl) pa_nil)))) (pe_one (pe_chain op_le op_lt pe_int (pv 0) (pv 1))))))), ?_⟩
    cases a with
    | n i =>
      refine ⟨_, rfl, _, _, _, _, _, rfl, .ty "int", .base (.int i), kit_ty (r := true) (by decide +kernel), _, rfl, iteT ?_⟩
      refine ⟨_, rfl, _, _, _, _, _, rfl, .ty "bool", .base (.int i), kit_ty (r := false) (by decide +kernel), _, rfl, _, rfl, iteT ?_⟩
      refine ⟨_, rfl, _, _, rfl, rfl, _, rfl, ?_⟩
      refine ite2 (fun h1 => ?_) (fun h1 => ?_)
      · refine ⟨_, rfl, _, _, rfl, rfl, ?_⟩
        have e : (Av.n i).ok hi = decide (i < hi) := by
          show (decide (0 ≤ i) && decide (i < hi)) = _
          rw [h1, Bool.true_and]
        rw [e] at k
        exact k
      · have e : (Av.n i).ok hi = false := by
          show (decide (0 ≤ i) && decide (i < hi)) = _
          rw [Bool.eq_false_iff.mpr h1, Bool.false_and]
        rw [e] at k
        exact k
    | t =>
      refine ⟨_, rfl, _, _, _, _, _, rfl, .ty "int", .base (.bl true), kit_ty (r := true) (by decide +kernel), _, rfl, iteT ?_⟩
      exact ⟨_, rfl, _, _, _, _, _, rfl, .ty "bool", .base (.bl true), kit_ty (r := true) (by decide +kernel), _, rfl, _, rfl, iteF k⟩
    | o => exact ⟨_, rfl, _, _, _, _, _, rfl, .ty "int", .base .non, kit_ty (r := false) (by decide +kernel), _, rfl, iteF k⟩
abbrev nIt : List Str := ["thing", "words", "bounds", "item", "bound"]
theorem sc__law_is_item : FnScope nIt ["thing", "words"] (defScope s__law_is_item) := ⟨rfl, rfl, rfl, by decide +kernel, rfl, by decide +kernel, by decide +kernel⟩
theorem ok__law_is_item {f : Addr} {fd : FuncData} (F : Fun K "_law_is_item" "_law_is_item" s__law_is_item f fd) (T : Txt K mg) (DB : DefF P w K mg base CX0 1 "_law_is_below" ["thing", "bound"] spBelow) : FnOk P w K mg base CX0 2 f fd ["thing", "words"] (spItem K) := by
  refine F.ok sc__law_is_item (fun vs H Q E h => ?_) (fun cdv A outer s H vs Q E hr h => ?_)
  · obtain ⟨c, wd, x, md, rfl, _⟩ := h
    rfl
  · obtain ⟨c, wd, x, md, rfl, hcx, hw, k⟩ := h
    have nd := sc__law_is_item.nd
    have hu := hu_of hr
    refine ⟨_, pss_cons (ps_if (PW.pt (pw_or (pt_not (pt_val (pe_callB call_isi (by rfl) T.nIsi (by decide +kernel) (pa_cons (pv 0) (pa_cons (pe_bltn (v := .ty "tuple") (by rfl) T.nTuple (by decide +kernel) rfl) pa_nil))))) (pw_or (pt_cmpR (op_eqD hr.units) (pv 0) (pe_tup pa_nil) (nomark _)) (pw_or (pt_not (pt_val (pe_callB call_isi (by rfl) T.nIsi (by decide +kernel) (pa_cons (pe_ix ix_tup (pv 0) pe_int (fun _ _ => rfl)) (pa_cons (pe_bltn (v := .ty "str") (by rfl) T.nStr (by decide +kernel) rfl) pa_nil))))) (pw_or1 (pt_cmp (pc_dnotin hu (pe_ix ix_tup (pv 0) pe_int (fun _ _ => rfl)) (pv 1)))))))) (pss_one (ps_ret pe_bl)) pss_nil)
      (pss_cons (ps_set (i := 2) nd rfl (Or.inl rfl) (pe_dget hu (pv 1) (pe_ix ix_tup (pv 0) pe_int (fun _ _ => rfl)) (fun _ _ => rfl)))
      (pss_cons (ps_if (pt_cmpR op_ne (pe_callB call_len_seq (by rfl) T.nLen PySem.boot_len (pa_cons (pv 0) pa_nil)) (pe_op op_add (pe_callB call_len_seq (by rfl) T.nLen PySem.boot_len (pa_cons (pv 2) pa_nil)) pe_int) (nomark _)) (pss_one (ps_ret pe_bl)) pss_nil)
      (pss_cons (ps_for PassesOwn.never rfl (pi_zipA (by rfl) T.nZip (pa_cons (pe_slice sl_tup (pv 0) (po_some pe_int) po_none) (pa_cons (pv 2) pa_nil))) (pg_tup (by rfl) (pgs_cons (pg_name (i := 3) nd rfl (Or.inl rfl)) (pgs_cons (pg_name (i := 4) nd rfl (Or.inl rfl)) pgs_nil)))
        (pss_one (ps_if (pt_not (pt_val (pe_cD DB hr rfl pass0 (pa_cons (pv 3) (pa_cons (pv 4) pa_nil))))) (pss_one (ps_ret pe_bl)) pss_nil)))
      (pss_one (ps_ret pe_bl))))), ?_⟩
    obtain ⟨kvs, hwd, hb⟩ := hw.ex
    have hcv := hcx
    rw [Jt.vs_eq] at hcv
    refine ⟨_, rfl, _, _, _, _, _, rfl, .ty "tuple", hcx.tyx, kit_ty (r := true) (by decide +kernel), _, rfl, iteF ?_⟩
    refine ⟨_, rfl, (by show 0 ≤ sizeLine; decide), fun p np => ?_⟩
    have s1 := sadd (o := .tup []) (Same.refl H) np
    refine ⟨x.d, .tuple [], Jt.dp (same_seq2 s1 hcx), .tup (SqT.of upd_same) .nil, shaped_jt x, rfl, ?_⟩
    rw [show PyData.eqv x.d (.tuple []) = false by cases x <;> rfl]
    refine ⟨_, rfl, iteF ?_⟩
    have hcv1 := same_seq2 s1 hcv
    have hwd1 := s1 _ _ hwd
    generalize upd H p (.tup []) = H1 at s1 hcv1 hwd1 ⊢
    have at0 : atI ((.str x.word :: x.args.map Av.v) : List V) 0 = some (.str x.word) := atI_nat (j := 0) rfl
    refine ⟨_, rfl, c, _, 0, .str x.word, rfl, rfl, hcv1, at0, ?_⟩
    refine ⟨_, _, _, _, _, rfl, .ty "str", .base (.str x.word), kit_ty (r := true) (by decide +kernel), _, rfl, iteF ?_⟩
    refine ⟨_, rfl, c, _, 0, .str x.word, rfl, rfl, hcv1, at0, _, rfl, wd, valV kvs (Sum.inr x.word), rfl, DGet.k (k := Sum.inr x.word) hwd1, _, rfl, ?_⟩
    cases hbn : bnd md x with
    | none =>
      rw [(hb x).1 hbn]
      refine iteT ?_
      rw [bnd_none hbn] at k
      exact k _ s1
    | some bs =>
    obtain ⟨t, ht, hbt⟩ := (hb x).2 bs hbn
    obtain ⟨el, eo⟩ := bnd_some hbn
    rw [eo] at k
    rw [ht]
    refine iteF ?_
    have hbt1 := same_seq2 s1 hbt
    refine ⟨_, rfl, _, rfl, c, _, 0, .str x.word, rfl, rfl, hcv1, at0, wd, _, rfl, (by have g := DGet.k (k := Sum.inr x.word) hwd1; rw [ht] at g; exact g), ?_⟩
    refine ⟨_, rfl, c, _, rfl, .inr hcv1, _, rfl, t, _, rfl, .inr hbt1, _, _, rfl, rfl, rfl, _, rfl, ?_⟩
    have e1 : (!decide (V.int ((((.str x.word :: x.args.map Av.v) : List V).length : Nat) : Int) = V.int ((((bs.map V.int).length : Nat) : Int) + 1))) = false := by
      rw [decide_eq_true]
      · rfl
      · rw [List.length_cons, List.length_map, List.length_map, el]
        rfl
    rw [e1]
    refine iteF ?_
    refine ⟨_, rfl, _, rfl, c, _, rfl, hcv1, ?_, fun q nq => ?_⟩
    · rintro ⟨z, _⟩
      rw [sIx_cons] at z
      cases z
    have ec : cutV ((.str x.word :: x.args.map Av.v) : List V) (some 1) none = x.args.map Av.v := cutV_tail1 _ _
    rw [ec]
    have s2 := sadd (o := .tup (x.args.map Av.v)) s1 nq
    have hq : upd H1 q (.tup (x.args.map Av.v)) q = some (.tup (x.args.map Av.v)) := upd_same
    generalize upd H1 q (.tup (x.args.map Av.v)) = H2 at s2 hq ⊢
    have hbt2 := same_seq2 s2 hbt
    refine ⟨_, rfl, q, t, _, _, rfl, .inr ⟨SqT.of hq, hbt2, ?_⟩⟩
    refine for_it (walk_zipT (K := K) (a := q) (b := t) (xs := x.args.map Av.v) (ys := bs.map V.int) (n := bs.length) (by rw [List.length_map, List.length_map, el, Nat.min_self])) (fun i σ H' => ∃ (o3 o4 : Option V), σ = [some (.ref c), some (.ref wd), some (.ref t), o3, o4] ∧ Same H H' ∧ SqT K H' q (x.args.map Av.v) ∧ ((x.args.zip bs).take i).all (fun p => p.1.ok p.2) = true)
      ⟨none, none, rfl, s2, SqT.of hq, rfl⟩ (fun i σ H' _ ⟨_, _, _, s, a, _⟩ => ⟨a, same_seq2 s hbt⟩) ?turn ?done
    case done =>
      rintro σ H3 ⟨o3, o4, rfl, s3, _, ha⟩
      have lz : (x.args.zip bs).length = bs.length := by rw [List.length_zip, el, Nat.min_self]
      rw [← lz, List.take_length] at ha
      rw [ha] at k
      exact k _ s3
    case turn =>
      rintro i y σ H3 H4 hi ⟨o3, o4, rfl, s3, hq3, ha⟩ ⟨tp, y1, y2, rfl, ntp, rfl, e1, e2⟩
      replace e1 : (x.args.map Av.v)[i]? = some y1 := e1
      replace e2 : (bs.map V.int)[i]? = some y2 := e2
      rw [List.getElem?_map] at e1 e2
      obtain ⟨av, h1, rfl⟩ := Option.map_eq_some_iff.mp e1
      obtain ⟨b, h2, rfl⟩ := Option.map_eq_some_iff.mp e2
      have s4 := sadd (o := .tup [av.v, .int b]) s3 ntp
      have hq4 := same_seq2 (sadd (o := .tup [av.v, .int b]) (Same.refl H3) ntp) hq3
      refine ⟨tp, _, rfl, SqT.of upd_same, rfl, _, _, rfl, _, _, rfl, rfl, ?_⟩
      generalize upd H3 tp (.tup [av.v, .int b]) = H4 at s4 hq4 ⊢
      refine ⟨_, rfl, _, rfl, av, b, rfl, ?_⟩
      have hz : (x.args.zip bs)[i]? = some (av, b) := by rw [List.getElem?_zip_eq_some]; exact ⟨h1, h2⟩
      cases hav : av.ok b with
      | false =>
        refine ⟨_, rfl, iteT ?_⟩
        have e : (x.args.zip bs).all (fun p => p.1.ok p.2) = false := by
          rw [List.all_eq_false]
          exact ⟨_, List.mem_of_getElem? hz, by show ¬ av.ok b = true; rw [hav]; decide⟩
        rw [e] at k
        exact k _ s4
      | true =>
        refine ⟨_, rfl, iteF ?_⟩
        exact ⟨_, _, rfl, s4, hq4, by rw [List.take_add_one, hz, List.all_append, ha]; simp [hav]⟩
/-- how the law goes through a view -/
def lgo (n : Nat) : Nat → Int → List Jt → Bool
  | _, _, [] => true
  | i, w, x :: xs => mOk (decide (i % 2 = 0)) x && !((decide (x.word = "got") && decide (w = 0)) || (decide (x.word = "ends") && decide (i + 1 < n))) && lgo n (i + 1) (w + dWJ x) xs
def spJudged (K : PySem.W.Frag) : Sp := fun vs H Q _ => ∃ (l : Addr) (its : List Jt), vs = [.ref l] ∧ VjAt K H l its ∧ its.length ≤ 10000 ∧ ∀ H', Same H H' → Q (.bl (lgo its.length 0 0 its)) H'
abbrev nJg : List Str := ["thing", "events", "acts", "asked", "at", "item"]
theorem sc__law_view_judged : FnScope nJg ["thing"] (defScope s__law_view_judged) := ⟨rfl, rfl, rfl, by decide +kernel, rfl, by decide +kernel, by decide +kernel⟩
theorem ok__law_view_judged {f : Addr} {fd : FuncData} (F : Fun K "_law_view_judged" "_law_view_judged" s__law_view_judged f fd) (T : Txt K mg) (nEnum : mg "enumerate" = none) (DI : DefF P w K mg base CX0 3 "_law_is_item" ["thing", "words"] (spItem K)) : FnOk P w K mg base CX0 4 f fd ["thing"] (spJudged K) := by
  refine F.ok sc__law_view_judged (fun vs H Q E h => ?_) (fun cdv A outer s H vs Q E hr h => ?_)
  · obtain ⟨l, its, rfl, _⟩ := h
    rfl
  · obtain ⟨l, its, rfl, hl, hn, k⟩ := h
    have nd := sc__law_view_judged.nd
    refine ⟨_, pss_cons (ps_if (pt_not (pt_val (pe_callB call_isiT (by rfl) T.nIsi (by decide +kernel) (pa_cons (pv 0) (pa_cons (pe_tup (pa_cons (pe_bltn (v := .ty "list") (by rfl) T.nList (by decide +kernel) rfl) (pa_cons (pe_bltn (v := .ty "tuple") (by rfl) T.nTuple (by decide +kernel) rfl) pa_nil))) pa_nil))))) (pss_one (ps_ret pe_bl)) pss_nil)
      (pss_cons (ps_par (i := 1) (j := 2) (by rfl) nd rfl rfl (by decide) rfl rfl (pa_cons (pe_disp (pps_cons pe_str (pe_tup (pa_cons pe_int (pa_cons pe_int pa_nil))) (pps_cons pe_str (pe_tup (pa_cons pe_int pa_nil)) pps_nil)) (by rfl) rfl (by simp) (by decide)) (pa_cons (pe_disp (pps_cons pe_str (pe_tup (pa_cons pe_int (pa_cons pe_int (pa_cons pe_int pa_nil)))) (pps_cons pe_str (pe_tup (pa_cons pe_int pa_nil)) (pps_cons pe_str (pe_tup pa_nil) pps_nil))) (by rfl) rfl (by simp) (by decide)) pa_nil)) (by rfl))
      (pss_cons (ps_set (i := 3) nd rfl (Or.inl rfl) pe_int)
      (pss_cons (ps_for PassesOwn.never rfl (pi_enum (by rfl) nEnum (pa_cons (pv 0) pa_nil)) (pg_tup (by rfl) (pgs_cons (pg_name (i := 4) nd rfl (Or.inl rfl)) (pgs_cons (pg_name (i := 5) nd rfl (Or.inl rfl)) pgs_nil)))
        (pss_cons (ps_if (pt_not (pt_val (pe_cD DI hr rfl pass0 (pa_cons (pv 5) (pa_cons (pe_ifExp (pt_cmpR op_eq (pe_op op_mod (pv 4) pe_int) pe_int (nomark _)) (pv 1) (pv 2)) pa_nil))))) (pss_one (ps_ret pe_bl)) pss_nil)
      (pss_cons (ps_if (PW.pt (pw_or (PW.pt (pw_and (pt_cmpR op_eq (pe_ix ix_tup (pv 5) pe_int (fun _ _ => rfl)) pe_str (nomark _)) (pw_and1 (pt_cmpR op_eq (pv 3) pe_int (nomark _))))) (pw_or1 (PW.pt (pw_and (pt_cmpR op_eq (pe_ix ix_tup (pv 5) pe_int (fun _ _ => rfl)) pe_str (nomark _)) (pw_and1 (pt_cmpR op_lt (pe_op op_add (pv 4) pe_int) (pe_callB call_len_seq (by rfl) T.nLen PySem.boot_len (pa_cons (pv 0) pa_nil)) (nomark _)))))))) (pss_one (ps_ret pe_bl)) pss_nil)
      (pss_one (ps_set (i := 3) nd rfl (Or.inl rfl) (pe_op op_add (pv 3) (pe_ifExp (pt_cmpR op_eq (pe_ix ix_tup (pv 5) pe_int (fun _ _ => rfl)) pe_str (nomark _)) pe_int (pe_ifExp (pt_cmpR op_eq (pe_ix ix_tup (pv 5) pe_int (fun _ _ => rfl)) pe_str (nomark _)) (pe_un un_neg pe_int) pe_int))))))))
      (pss_one (ps_ret pe_bl))))), ?_⟩
    obtain ⟨ps, h1, h2⟩ := hl
    have lp := h2.len
    refine ⟨_, rfl, (by show 2 ≤ sizeLine; decide), fun tp ntp => ?_⟩
    have s1 := sadd (o := .tup [.ty "list", .ty "tuple"]) (Same.refl H) ntp
    have htp : upd H tp (.tup [.ty "list", .ty "tuple"]) tp = some (.tup [.ty "list", .ty "tuple"]) := upd_same
    generalize upd H tp (.tup [.ty "list", .ty "tuple"]) = H1 at s1 htp ⊢
    have hl1 := s1 _ _ h1
    refine ⟨_, tp, _, _, _, _, rfl, htp, .cons (.ty _) (.cons (.ty _) .nil), .base (.lst hl1), kitAny_cons (kit_ty (r := true) (by decide +kernel)) (fun z => nomatch z) (fun _ => rfl), _, rfl, iteF ?_⟩
    -- the two tables
    refine fun d1 nd1 => ⟨(by show 2 ≤ sizeLine; decide), fun t1 nt1 => ⟨(by show 1 ≤ sizeLine; decide), fun t2 nt2 => ⟨?_, [(.inr "in", .ref t1), (.inr "got", .ref t2)], rfl, (by show 2 ≤ 15; decide), ?_⟩⟩⟩
    · exact sadd (o := .tup [.int 10000]) (sadd (o := .tup [.int 6, .int 10000]) (Same.refl _) nt1) nt2 _ _ upd_same
    rw [show mergeK ([] : List (Key × V)) [(.inr "in", .ref t1), (.inr "got", .ref t2)] = [(.inr "in", .ref t1), (.inr "got", .ref t2)] from rfl]
    have a1 := sadd (o := .dK []) s1 nd1
    have a2 := sadd (o := .tup [.int 6, .int 10000]) a1 nt1
    have a3 := sadd (o := .tup [.int 10000]) a2 nt2
    have e1 : t1 ≠ d1 := (ne_of_none (upd_same (H := H1) (a := d1) (o := .dK [])) nt1).symm
    have e2 : t2 ≠ d1 := (ne_of_none ((sadd (o := .tup [.int 6, .int 10000]) (Same.refl _) nt1) _ _ (upd_same (H := H1) (a := d1) (o := .dK []))) nt2).symm
    have e3 : t1 ≠ t2 := ne_of_none upd_same nt2
    have s4 := sout (o := .dK [(.inr "in", .ref t1), (.inr "got", .ref t2)]) a3 (s1.free nd1)
    have w1 : WdAt K (upd (upd (upd (upd H1 d1 (.dK [])) t1 (.tup [.int 6, .int 10000])) t2 (.tup [.int 10000])) d1 (.dK [(.inr "in", .ref t1), (.inr "got", .ref t2)])) d1 true :=
      wd_ev upd_same ((upd_ne e1).trans ((upd_ne e3).trans upd_same)) ((upd_ne e2).trans upd_same)
    generalize upd (upd (upd (upd H1 d1 (.dK [])) t1 (.tup [.int 6, .int 10000])) t2 (.tup [.int 10000])) d1 (.dK [(.inr "in", .ref t1), (.inr "got", .ref t2)]) = H4 at s4 w1 ⊢
    clear a1 a2 a3 e1 e2 e3 nt1 nt2
    refine fun d2 nd2 => ⟨(by show 3 ≤ sizeLine; decide), fun t1 nt1 => ⟨(by show 1 ≤ sizeLine; decide), fun t2 nt2 => ⟨(by show 0 ≤ sizeLine; decide), fun t3 nt3 => ⟨?_, [(.inr "calls", .ref t1), (.inr "gives", .ref t2), (.inr "ends", .ref t3)], rfl, (by show 3 ≤ 15; decide), ?_⟩⟩⟩⟩
    · exact sadd (o := .tup []) (sadd (o := .tup [.int 10000]) (sadd (o := .tup [.int 6, .int 6, .int 10000]) (Same.refl _) nt1) nt2) nt3 _ _ upd_same
    rw [show mergeK ([] : List (Key × V)) [(.inr "calls", .ref t1), (.inr "gives", .ref t2), (.inr "ends", .ref t3)] = [(.inr "calls", .ref t1), (.inr "gives", .ref t2), (.inr "ends", .ref t3)] from rfl]
    have b0 := Same.refl H4
    have b1 := sadd (o := .dK []) b0 nd2
    have b2 := sadd (o := .tup [.int 6, .int 6, .int 10000]) b1 nt1
    have b3 := sadd (o := .tup [.int 10000]) b2 nt2
    have b4 := sadd (o := .tup []) b3 nt3
    have q1 := sadd (o := .tup [.int 6, .int 6, .int 10000]) (Same.refl _) nt1
    have q2 := sadd (o := .tup [.int 10000]) q1 nt2
    have q3 := sadd (o := .tup [.int 10000]) (Same.refl _) nt2
    have e1 : t1 ≠ d2 := (ne_of_none (upd_same (H := H4) (a := d2) (o := .dK [])) nt1).symm
    have e2 : t2 ≠ d2 := (ne_of_none (q1 _ _ (upd_same (H := H4) (a := d2) (o := .dK []))) nt2).symm
    have e3 : t3 ≠ d2 := (ne_of_none (q2 _ _ (upd_same (H := H4) (a := d2) (o := .dK []))) nt3).symm
    have e4 : t1 ≠ t2 := ne_of_none upd_same nt2
    have e5 : t1 ≠ t3 := ne_of_none (q3 _ _ upd_same) nt3
    have e6 : t2 ≠ t3 := ne_of_none upd_same nt3
    have s5 := sout (o := .dK [(.inr "calls", .ref t1), (.inr "gives", .ref t2), (.inr "ends", .ref t3)]) b4 nd2
    have w2 : WdAt K (upd (upd (upd (upd (upd H4 d2 (.dK [])) t1 (.tup [.int 6, .int 6, .int 10000])) t2 (.tup [.int 10000])) t3 (.tup [])) d2 (.dK [(.inr "calls", .ref t1), (.inr "gives", .ref t2), (.inr "ends", .ref t3)])) d2 false :=
      wd_ac upd_same ((upd_ne e1).trans ((upd_ne e5).trans ((upd_ne e4).trans upd_same))) ((upd_ne e2).trans ((upd_ne e6).trans upd_same)) ((upd_ne e3).trans upd_same)
    generalize upd (upd (upd (upd (upd H4 d2 (.dK [])) t1 (.tup [.int 6, .int 6, .int 10000])) t2 (.tup [.int 10000])) t3 (.tup [])) d2 (.dK [(.inr "calls", .ref t1), (.inr "gives", .ref t2), (.inr "ends", .ref t3)]) = H5 at s5 w2 ⊢
    clear b0 b1 b2 b3 b4 q1 q2 q3 e1 e2 e3 e4 e5 e6 nt1 nt2 nt3
    replace w1 := w1.same s5
    replace s5 := s4.trans s5
    refine ⟨_, _, rfl, ?_⟩
    refine ⟨_, rfl, l, _, rfl, SqL.of (s5 _ _ h1), ?_⟩
    refine for_it (walk_enum (K := K) (a := l) (xs := ps.map V.ref)) (fun i σ H' => ∃ (m : Int) (o4 o5 : Option V), σ = [some (.ref l), some (.ref d1), some (.ref d2), some (.int m), o4, o5] ∧ Same H5 H' ∧ lgo its.length 0 0 its = lgo its.length i m (its.drop i))
      ⟨0, none, none, rfl, Same.refl _, rfl⟩ (fun i σ H' _ ⟨_, _, _, _, s, _⟩ => SqL.of (s _ _ (s5 _ _ h1))) ?turn ?done
    case done =>
      rintro σ H6 ⟨m, o4, o5, rfl, s6, ew⟩
      rw [List.length_map, lp, List.drop_length] at ew
      rw [ew] at k
      exact k H6 (s5.trans s6)
    case turn =>
      rintro i y σ H6 H7 hi ⟨m, o4, o5, rfl, s6, ew⟩ ⟨tp, y1, y2, rfl, ntp, rfl, g1, g2⟩
      cases g1
      replace g2 : (ps.map V.ref)[i]? = some y2 := g2
      rw [List.getElem?_map] at g2
      obtain ⟨c, hc, rfl⟩ := Option.map_eq_some_iff.mp g2
      obtain ⟨x, hx, hcx0⟩ := h2.get hc
      have ed : its.drop i = x :: its.drop (i + 1) := by
        obtain ⟨hi, e⟩ := List.getElem?_eq_some_iff.mp hx
        rw [List.drop_eq_getElem_cons hi, e]
      have hin := (List.getElem?_eq_some_iff.mp hx).1
      rw [ed] at ew
      have s7 := sadd (o := .tup [.int ((i : Nat) : Int), .ref c]) s6 ntp
      refine ⟨tp, _, rfl, SqT.of upd_same, rfl, _, _, rfl, _, _, rfl, rfl, ?_⟩
      generalize upd H6 tp (.tup [.int ((i : Nat) : Int), .ref c]) = H7 at s7 ⊢
      have hcx7 := same_seq2 (s5.trans s7) hcx0
      refine ⟨_, rfl, _, rfl, _, _, rfl, rfl, (by show (0 : Int) < 2; decide), rfl, _, rfl, ?_⟩
      have em : decide (V.int (((i : Nat) : Int) % 2) = V.int 0) = decide (i % 2 = 0) := by
        by_cases e : i % 2 = 0
        · rw [decide_eq_true e, decide_eq_true (by rw [show ((i : Nat) : Int) % 2 = 0 by omega])]
        · rw [decide_eq_false e, decide_eq_false (fun z => e (by have := V.int.inj z; omega))]
      rw [em]
      cases hm : decide (i % 2 = 0) with
      | true =>
        refine iteT ⟨_, rfl, c, d1, x, true, rfl, hcx7, w1.same s7, fun H8 s8 => ?_⟩
        replace s8 := s7.trans s8
        have hcx := same_seq2 (s5.trans s8) hcx0
        have h1l := s8 _ _ (s5 _ _ h1)
        cases hmk : mOk true x with
        | false =>
          refine ⟨_, rfl, iteT ?_⟩
          have e : lgo its.length 0 0 its = false := by
            rw [ew]
            show (mOk (decide (i % 2 = 0)) x && _ && _) = false
            rw [hm, hmk]
            rfl
          rw [e] at k
          exact k _ (s5.trans s8)
        | true =>
          refine ⟨_, rfl, iteF ?_⟩
          have nx : ∀ {m' : Int} {o4 o5 : Option V}, (!((decide (x.word = "got") && decide (m = 0)) || (decide (x.word = "ends") && decide (i + 1 < its.length)))) = true → m' = m + dWJ x → ∃ (p1 : Int) (p2 p3 : Option V), [some (.ref l), some (.ref d1), some (.ref d2), some (.int m'), o4, o5] = [some (.ref l), some (.ref d1), some (.ref d2), some (.int p1), p2, p3] ∧ Same H5 H8 ∧ lgo its.length 0 0 its = lgo its.length (i + 1) p1 (its.drop (i + 1)) := fun {m' o4 o5} e e2 => ⟨m', o4, o5, rfl, s8, by
            rw [ew, e2]
            show (mOk (decide (i % 2 = 0)) x && _ && _) = _
            rw [hm, hmk, e]
            rfl⟩
          have no : (!((decide (x.word = "got") && decide (m = 0)) || (decide (x.word = "ends") && decide (i + 1 < its.length)))) = false → Q (.bl false) H8 := fun e => by
            have e2 : lgo its.length 0 0 its = false := by
              rw [ew]
              show (mOk (decide (i % 2 = 0)) x && _ && _) = _
              rw [hm, hmk, e]
              rfl
            rw [e2] at k
            exact k _ (s5.trans s8)
          clear hcx7 hcx0 ew hmk
          cases x with
          | inn a b =>
            refine ⟨_, rfl, c, _, 0, _, rfl, rfl, hcx, rfl, rfl, _, rfl, iteF (iteF ?_)⟩
            refine ⟨_, rfl, c, _, 0, _, rfl, rfl, hcx, rfl, rfl, _, rfl, iteF (iteF ?_)⟩
            refine ⟨_, rfl, _, rfl, c, _, 0, _, rfl, rfl, hcx, rfl, rfl, _, rfl, iteF ⟨_, rfl, c, _, 0, _, rfl, rfl, hcx, rfl, rfl, _, rfl, iteF ⟨_, _, rfl, rfl, ?_⟩⟩⟩
            exact nx rfl rfl
          | got a =>
            refine ⟨_, rfl, c, _, 0, _, rfl, rfl, hcx, rfl, rfl, _, rfl, iteT ?_⟩
            refine ⟨_, rfl, rfl, _, rfl, ?_⟩
            by_cases hz : m = 0
            · rw [show decide (V.int m = V.int 0) = true from decide_eq_true (by rw [hz])]
              refine iteT (iteT ?_)
              exact no (by rw [decide_eq_true hz]; rfl)
            · rw [show decide (V.int m = V.int 0) = false from decide_eq_false (fun z => hz (V.int.inj z))]
              refine iteF ?_
              refine ⟨_, rfl, c, _, 0, _, rfl, rfl, hcx, rfl, rfl, _, rfl, iteF (iteF ?_)⟩
              refine ⟨_, rfl, _, rfl, c, _, 0, _, rfl, rfl, hcx, rfl, rfl, _, rfl, iteF ⟨_, rfl, c, _, 0, _, rfl, rfl, hcx, rfl, rfl, _, rfl, iteT ⟨_, rfl, _, _, rfl, rfl, ?_⟩⟩⟩
              exact nx (by rw [decide_eq_false hz]; rfl) rfl
          | calls a b d =>
            refine ⟨_, rfl, c, _, 0, _, rfl, rfl, hcx, rfl, rfl, _, rfl, iteF (iteF ?_)⟩
            refine ⟨_, rfl, c, _, 0, _, rfl, rfl, hcx, rfl, rfl, _, rfl, iteF (iteF ?_)⟩
            refine ⟨_, rfl, _, rfl, c, _, 0, _, rfl, rfl, hcx, rfl, rfl, _, rfl, iteT ⟨_, _, rfl, rfl, ?_⟩⟩
            exact nx rfl rfl
          | gives a =>
            refine ⟨_, rfl, c, _, 0, _, rfl, rfl, hcx, rfl, rfl, _, rfl, iteF (iteF ?_)⟩
            refine ⟨_, rfl, c, _, 0, _, rfl, rfl, hcx, rfl, rfl, _, rfl, iteF (iteF ?_)⟩
            refine ⟨_, rfl, _, rfl, c, _, 0, _, rfl, rfl, hcx, rfl, rfl, _, rfl, iteF ⟨_, rfl, c, _, 0, _, rfl, rfl, hcx, rfl, rfl, _, rfl, iteF ⟨_, _, rfl, rfl, ?_⟩⟩⟩
            exact nx rfl rfl
          | ends =>
            refine ⟨_, rfl, c, _, 0, _, rfl, rfl, hcx, rfl, rfl, _, rfl, iteF (iteF ?_)⟩
            refine ⟨_, rfl, c, _, 0, _, rfl, rfl, hcx, rfl, rfl, _, rfl, iteT ?_⟩
            refine ⟨_, rfl, _, _, rfl, rfl, _, rfl, l, _, rfl, .inl (SqL.of h1l), _, _, rfl, rfl, _, rfl, ?_⟩
            have el : decide (((i : Nat) : Int) + 1 < (((ps.map V.ref).length : Nat) : Int)) = decide (i + 1 < its.length) := by
              rw [List.length_map, lp]
              by_cases e : i + 1 < its.length
              · rw [decide_eq_true e, decide_eq_true (by omega)]
              · rw [decide_eq_false e, decide_eq_false (by omega)]
            rw [el]
            cases hz : decide (i + 1 < its.length) with
            | true =>
              refine iteT ?_
              exact no (by rw [hz]; rfl)
            | false =>
              refine iteF ?_
              refine ⟨_, rfl, _, rfl, c, _, 0, _, rfl, rfl, hcx, rfl, rfl, _, rfl, iteF ⟨_, rfl, c, _, 0, _, rfl, rfl, hcx, rfl, rfl, _, rfl, iteF ⟨_, _, rfl, rfl, ?_⟩⟩⟩
              exact nx (by rw [hz]; rfl) rfl
      | false =>
        refine iteF ⟨_, rfl, c, d2, x, false, rfl, hcx7, w2.same s7, fun H8 s8 => ?_⟩
        replace s8 := s7.trans s8
        have hcx := same_seq2 (s5.trans s8) hcx0
        have h1l := s8 _ _ (s5 _ _ h1)
        cases hmk : mOk false x with
        | false =>
          refine ⟨_, rfl, iteT ?_⟩
          have e : lgo its.length 0 0 its = false := by
            rw [ew]
            show (mOk (decide (i % 2 = 0)) x && _ && _) = false
            rw [hm, hmk]
            rfl
          rw [e] at k
          exact k _ (s5.trans s8)
        | true =>
          refine ⟨_, rfl, iteF ?_⟩
          have nx : ∀ {m' : Int} {o4 o5 : Option V}, (!((decide (x.word = "got") && decide (m = 0)) || (decide (x.word = "ends") && decide (i + 1 < its.length)))) = true → m' = m + dWJ x → ∃ (p1 : Int) (p2 p3 : Option V), [some (.ref l), some (.ref d1), some (.ref d2), some (.int m'), o4, o5] = [some (.ref l), some (.ref d1), some (.ref d2), some (.int p1), p2, p3] ∧ Same H5 H8 ∧ lgo its.length 0 0 its = lgo its.length (i + 1) p1 (its.drop (i + 1)) := fun {m' o4 o5} e e2 => ⟨m', o4, o5, rfl, s8, by
            rw [ew, e2]
            show (mOk (decide (i % 2 = 0)) x && _ && _) = _
            rw [hm, hmk, e]
            rfl⟩
          have no : (!((decide (x.word = "got") && decide (m = 0)) || (decide (x.word = "ends") && decide (i + 1 < its.length)))) = false → Q (.bl false) H8 := fun e => by
            have e2 : lgo its.length 0 0 its = false := by
              rw [ew]
              show (mOk (decide (i % 2 = 0)) x && _ && _) = _
              rw [hm, hmk, e]
              rfl
            rw [e2] at k
            exact k _ (s5.trans s8)
          clear hcx7 hcx0 ew hmk
          cases x with
          | inn a b =>
            refine ⟨_, rfl, c, _, 0, _, rfl, rfl, hcx, rfl, rfl, _, rfl, iteF (iteF ?_)⟩
            refine ⟨_, rfl, c, _, 0, _, rfl, rfl, hcx, rfl, rfl, _, rfl, iteF (iteF ?_)⟩
            refine ⟨_, rfl, _, rfl, c, _, 0, _, rfl, rfl, hcx, rfl, rfl, _, rfl, iteF ⟨_, rfl, c, _, 0, _, rfl, rfl, hcx, rfl, rfl, _, rfl, iteF ⟨_, _, rfl, rfl, ?_⟩⟩⟩
            exact nx rfl rfl
          | got a =>
            refine ⟨_, rfl, c, _, 0, _, rfl, rfl, hcx, rfl, rfl, _, rfl, iteT ?_⟩
            refine ⟨_, rfl, rfl, _, rfl, ?_⟩
            by_cases hz : m = 0
            · rw [show decide (V.int m = V.int 0) = true from decide_eq_true (by rw [hz])]
              refine iteT (iteT ?_)
              exact no (by rw [decide_eq_true hz]; rfl)
            · rw [show decide (V.int m = V.int 0) = false from decide_eq_false (fun z => hz (V.int.inj z))]
              refine iteF ?_
              refine ⟨_, rfl, c, _, 0, _, rfl, rfl, hcx, rfl, rfl, _, rfl, iteF (iteF ?_)⟩
              refine ⟨_, rfl, _, rfl, c, _, 0, _, rfl, rfl, hcx, rfl, rfl, _, rfl, iteF ⟨_, rfl, c, _, 0, _, rfl, rfl, hcx, rfl, rfl, _, rfl, iteT ⟨_, rfl, _, _, rfl, rfl, ?_⟩⟩⟩
              exact nx (by rw [decide_eq_false hz]; rfl) rfl
          | calls a b d =>
            refine ⟨_, rfl, c, _, 0, _, rfl, rfl, hcx, rfl, rfl, _, rfl, iteF (iteF ?_)⟩
            refine ⟨_, rfl, c, _, 0, _, rfl, rfl, hcx, rfl, rfl, _, rfl, iteF (iteF ?_)⟩
            refine ⟨_, rfl, _, rfl, c, _, 0, _, rfl, rfl, hcx, rfl, rfl, _, rfl, iteT ⟨_, _, rfl, rfl, ?_⟩⟩
            exact nx rfl rfl
          | gives a =>
            refine ⟨_, rfl, c, _, 0, _, rfl, rfl, hcx, rfl, rfl, _, rfl, iteF (iteF ?_)⟩
            refine ⟨_, rfl, c, _, 0, _, rfl, rfl, hcx, rfl, rfl, _, rfl, iteF (iteF ?_)⟩
            refine ⟨_, rfl, _, rfl, c, _, 0, _, rfl, rfl, hcx, rfl, rfl, _, rfl, iteF ⟨_, rfl, c, _, 0, _, rfl, rfl, hcx, rfl, rfl, _, rfl, iteF ⟨_, _, rfl, rfl, ?_⟩⟩⟩
            exact nx rfl rfl
          | ends =>
            refine ⟨_, rfl, c, _, 0, _, rfl, rfl, hcx, rfl, rfl, _, rfl, iteF (iteF ?_)⟩
            refine ⟨_, rfl, c, _, 0, _, rfl, rfl, hcx, rfl, rfl, _, rfl, iteT ?_⟩
            refine ⟨_, rfl, _, _, rfl, rfl, _, rfl, l, _, rfl, .inl (SqL.of h1l), _, _, rfl, rfl, _, rfl, ?_⟩
            have el : decide (((i : Nat) : Int) + 1 < (((ps.map V.ref).length : Nat) : Int)) = decide (i + 1 < its.length) := by
              rw [List.length_map, lp]
              by_cases e : i + 1 < its.length
              · rw [decide_eq_true e, decide_eq_true (by omega)]
              · rw [decide_eq_false e, decide_eq_false (by omega)]
            rw [el]
            cases hz : decide (i + 1 < its.length) with
            | true =>
              refine iteT ?_
              exact no (by rw [hz]; rfl)
            | false =>
              refine iteF ?_
              refine ⟨_, rfl, _, rfl, c, _, 0, _, rfl, rfl, hcx, rfl, rfl, _, rfl, iteF ⟨_, rfl, c, _, 0, _, rfl, rfl, hcx, rfl, rfl, _, rfl, iteF ⟨_, _, rfl, rfl, ?_⟩⟩⟩
              exact nx (by rw [hz]; rfl) rfl
end
end OH
end
section
set_option Elab.async false
set_option linter.all false
set_option maxRecDepth 100000
set_option maxHeartbeats 4000000
/-! The two judgings say the same; good lists of items are views. -/
namespace OH
open PySem PySem.Spec PyProof.Rows L2
theorem evs_cons {α : Type} (x : α) (xs : List α) : evs (x :: xs) = x :: evs xs.tail := by
  cases xs <;> rfl
def isGot : Jt → Bool
  | .got _ => true
  | _ => false
def isEnds : Jt → Bool
  | .ends => true
  | _ => false
theorem word_got (x : Jt) : decide (x.word = "got") = isGot x := by cases x <;> rfl
theorem word_ends (x : Jt) : decide (x.word = "ends") = isEnds x := by cases x <;> rfl
theorem isEnds_iff (x : Jt) : isEnds x = decide (x = .ends) := by cases x <;> rfl
theorem wgo_cons (w : Int) (x : Jt) (xs : List Jt) : wgo w (x :: xs) = (!(isGot x && decide (w - 1 < 0)) && wgo (w + dWJ x) xs) := by
  cases x with
  | got a =>
    show (decide (0 ≤ w - 1) && wgo (w - 1) xs) = (!(true && decide (w - 1 < 0)) && wgo (w + -1) xs)
    rw [Bool.true_and, show w + -1 = w - 1 from rfl]
    congr 1
    by_cases e : w - 1 < 0
    · rw [decide_eq_true e, decide_eq_false (by omega)]
      rfl
    · rw [decide_eq_false e, decide_eq_true (by omega)]
      rfl
  | inn a b => show wgo w xs = (true && wgo (w + 0) xs); rw [Int.add_zero]; rfl
  | calls a b c => rfl
  | gives a => show wgo w xs = (true && wgo (w + 0) xs); rw [Int.add_zero]; rfl
  | ends => show wgo w xs = (true && wgo (w + 0) xs); rw [Int.add_zero]; rfl
theorem lgo_eq (n : Nat) : ∀ (xs : List Jt) (i : Nat) (w : Int), i + xs.length = n → 0 ≤ w →
    lgo n i w xs = ((evs xs).all (mOk (decide (i % 2 = 0))) && (evs xs.tail).all (mOk (!decide (i % 2 = 0))) && !decide (Jt.ends ∈ xs.dropLast) && wgo w xs)
  | [], i, w, _, _ => rfl
  | x :: xs, i, w, hn, hw => by
    rw [List.length_cons] at hn
    have par : decide ((i + 1) % 2 = 0) = !decide (i % 2 = 0) := by
      by_cases e : i % 2 = 0
      · rw [decide_eq_true e, decide_eq_false (by omega)]
        rfl
      · rw [decide_eq_false e, decide_eq_true (by omega)]
        rfl
    have dl : decide (Jt.ends ∈ (x :: xs).dropLast) = (decide (i + 1 < n) && (isEnds x || decide (Jt.ends ∈ xs.dropLast))) := by
      cases xs with
      | nil =>
        rw [decide_eq_false (by rw [List.length_nil] at hn; omega : ¬ i + 1 < n)]
        rfl
      | cons y ys =>
        rw [List.length_cons] at hn
        rw [decide_eq_true (by omega : i + 1 < n), Bool.true_and, isEnds_iff, List.dropLast_cons₂]
        by_cases e : x = .ends
        · rw [decide_eq_true e, decide_eq_true (by rw [e]; exact List.mem_cons_self)]
          rfl
        · rw [decide_eq_false e, Bool.false_or]
          by_cases e2 : Jt.ends ∈ (y :: ys).dropLast
          · rw [decide_eq_true e2, decide_eq_true (List.mem_cons_of_mem _ e2)]
          · rw [decide_eq_false e2, decide_eq_false (fun z => by
              rcases List.mem_cons.mp z with z | z
              · exact e z.symm
              · exact e2 z)]
    rw [wgo_cons, dl, evs_cons, List.all_cons, List.tail_cons]
    show (mOk (decide (i % 2 = 0)) x && !((decide (x.word = "got") && decide (w = 0)) || (decide (x.word = "ends") && decide (i + 1 < n))) && lgo n (i + 1) (w + dWJ x) xs) = _
    rw [word_got, word_ends]
    have e0 : decide (w = 0) = decide (w - 1 < 0) := by
      by_cases e : w = 0
      · rw [decide_eq_true e, decide_eq_true (by omega)]
      · rw [decide_eq_false e, decide_eq_false (by omega)]
    rw [e0]
    by_cases hg : isGot x = true ∧ w - 1 < 0
    · rw [hg.1, decide_eq_true hg.2]
      simp
    · have hw' : 0 ≤ w + dWJ x := by
        cases x with
        | got a =>
          have : ¬ w - 1 < 0 := fun z => hg ⟨rfl, z⟩
          show 0 ≤ w + -1
          omega
        | calls _ _ _ => show 0 ≤ w + 1; omega
        | inn _ _ => show 0 ≤ w + 0; omega
        | gives _ => show 0 ≤ w + 0; omega
        | ends => show 0 ≤ w + 0; omega
      have hf : (isGot x && decide (w - 1 < 0)) = false := by
        rw [Bool.eq_false_iff]
        intro z
        rw [Bool.and_eq_true] at z
        exact hg ⟨z.1, of_decide_eq_true z.2⟩
      rw [lgo_eq n xs (i + 1) (w + dWJ x) (by omega) hw', par, hf, Bool.not_not]
      have e3 : decide (i + 1 < n) = false → decide (Jt.ends ∈ xs.dropLast) = false := fun z => by
        have : xs = [] := by
          have := of_decide_eq_false z
          exact List.length_eq_zero_iff.mp (by omega)
        rw [this]
        rfl
      generalize decide (i + 1 < n) = b1 at e3 ⊢
      generalize decide (Jt.ends ∈ xs.dropLast) = b2 at e3 ⊢
      generalize isEnds x = b3
      generalize mOk (decide (i % 2 = 0)) x = b4
      generalize (evs xs).all _ = b5
      generalize (evs xs.tail).all _ = b6
      generalize wgo (w + dWJ x) xs = b7
      cases b1
      · rw [e3 rfl]
        cases b3 <;> cases b4 <;> cases b5 <;> cases b6 <;> cases b7 <;> rfl
      · cases b2 <;> cases b3 <;> cases b4 <;> cases b5 <;> cases b6 <;> cases b7 <;> rfl
theorem judged_good (its : List Jt) : lgo its.length 0 0 its = goodJ its := by
  rw [lgo_eq its.length its 0 0 (by omega) (Int.le_refl 0)]
  rfl
theorem Av.ok_n {a : Av} {hi : Int} (h : a.ok hi = true) : ∃ z, a = .n z ∧ 0 ≤ z ∧ z < hi := by
  cases a with
  | n z =>
    have h' : (decide (0 ≤ z) && decide (z < hi)) = true := h
    rw [Bool.and_eq_true] at h'
    exact ⟨z, rfl, of_decide_eq_true h'.1, of_decide_eq_true h'.2⟩
  | t => cases h
  | o => cases h
theorem ev_of {x : Jt} (h : evOk x = true) : ∃ y, x = Jt.of y ∧ isEv y := by
  cases x with
  | inn a b =>
    have h' : (a.ok 6 && b.ok 10000) = true := h
    rw [Bool.and_eq_true] at h'
    obtain ⟨z, rfl, z0, z1⟩ := Av.ok_n h'.1
    obtain ⟨u, rfl, u0, u1⟩ := Av.ok_n h'.2
    exact ⟨.inn z u, rfl, ⟨z0, z1⟩, u0, by omega⟩
  | got a =>
    obtain ⟨u, rfl, u0, u1⟩ := Av.ok_n h
    exact ⟨.got u, rfl, u0, by omega⟩
  | calls _ _ _ => cases h
  | gives _ => cases h
  | ends => cases h
theorem ac_of {x : Jt} (h : acOk x = true) : ∃ y, x = Jt.of y ∧ isAc y := by
  cases x with
  | calls a b c =>
    have h' : (a.ok 6 && b.ok 6 && c.ok 10000) = true := h
    rw [Bool.and_eq_true, Bool.and_eq_true] at h'
    obtain ⟨z, rfl, z0, z1⟩ := Av.ok_n h'.1.1
    obtain ⟨y, rfl, y0, y1⟩ := Av.ok_n h'.1.2
    obtain ⟨u, rfl, u0, u1⟩ := Av.ok_n h'.2
    exact ⟨.calls z y u, rfl, ⟨z0, z1⟩, ⟨y0, y1⟩, u0, by omega⟩
  | gives a =>
    obtain ⟨u, rfl, u0, u1⟩ := Av.ok_n h
    exact ⟨.gives u, rfl, u0, by omega⟩
  | ends => exact ⟨.ends, rfl, trivial⟩
  | inn _ _ => cases h
  | got _ => cases h
theorem evs_at {α : Type} : ∀ (xs : List α) (i : Nat) (x : α), xs[i]? = some x → (i % 2 = 0 → x ∈ evs xs) ∧ (i % 2 = 1 → x ∈ evs xs.tail)
  | [], i, x, h => by cases h
  | y :: ys, 0, x, h => by
    cases h
    exact ⟨fun _ => by rw [evs_cons]; exact List.mem_cons_self, fun z => by cases z⟩
  | y :: ys, i + 1, x, h => by
    obtain ⟨h1, h2⟩ := evs_at ys i x h
    exact ⟨fun z => by rw [evs_cons]; exact List.mem_cons_of_mem _ (h2 (by omega)), fun z => h1 (by omega)⟩
theorem dW_of (y : It) : dWJ (Jt.of y) = dW y := by cases y <;> rfl
theorem wgo_wt : ∀ (ys : List It) (w : Int), 0 ≤ w → wgo w (ys.map Jt.of) = true → ∀ k, 0 ≤ w + OH.wt (ys.take k)
  | [], w, hw, _, k => by
    rw [List.take_nil]
    show 0 ≤ w + 0
    omega
  | y :: ys, w, hw, h, 0 => by
    show 0 ≤ w + 0
    omega
  | y :: ys, w, hw, h, k + 1 => by
    rw [List.map_cons, wgo_cons, Bool.and_eq_true, dW_of] at h
    have h0 : 0 ≤ w + dW y := by
      cases y with
      | got a =>
        have h1 : (!(true && decide (w - 1 < 0))) = true := h.1
        rw [Bool.true_and, Bool.not_eq_true'] at h1
        have := of_decide_eq_false h1
        show 0 ≤ w + -1
        omega
      | calls _ _ _ => show 0 ≤ w + 1; omega
      | inn _ _ => show 0 ≤ w + 0; omega
      | gives _ => show 0 ≤ w + 0; omega
      | ends => show 0 ≤ w + 0; omega
    have ih := wgo_wt ys (w + dW y) h0 h.2 k
    rw [List.take_succ_cons]
    show 0 ≤ w + (dW y + OH.wt (ys.take k))
    omega
theorem good_of {its : List Jt} (h : goodJ its = true) : ∃ ys : List It, its = ys.map Jt.of ∧ GV ys := by
  unfold goodJ at h
  rw [Bool.and_eq_true, Bool.and_eq_true, Bool.and_eq_true] at h
  obtain ⟨⟨⟨h1, h2⟩, h3⟩, h4⟩ := h
  have kind : ∀ i x, its[i]? = some x → ∃ y, x = Jt.of y ∧ kindAt i y := fun i x e => by
    obtain ⟨a, b⟩ := evs_at its i x e
    by_cases p : i % 2 = 0
    · obtain ⟨y, e1, e2⟩ := ev_of (List.all_eq_true.mp h1 x (a p))
      exact ⟨y, e1, by unfold kindAt; rw [if_pos p]; exact e2⟩
    · obtain ⟨y, e1, e2⟩ := ac_of (List.all_eq_true.mp h2 x (b (by omega)))
      exact ⟨y, e1, by unfold kindAt; rw [if_neg p]; exact e2⟩
  have lift : ∀ zs : List Jt, (∀ x ∈ zs, ∃ y, x = Jt.of y) → ∃ ys : List It, zs = ys.map Jt.of := fun zs => by
    induction zs with
    | nil => intro _; exact ⟨[], rfl⟩
    | cons z zs ih =>
      intro hh
      obtain ⟨y, e⟩ := hh z List.mem_cons_self
      obtain ⟨ys, e2⟩ := ih (fun x hx => hh x (List.mem_cons_of_mem _ hx))
      exact ⟨y :: ys, by rw [e, e2]; rfl⟩
  obtain ⟨ys, rfl⟩ := lift its (fun x hx => by
    obtain ⟨i, hi⟩ := List.getElem?_of_mem hx
    obtain ⟨y, e, _⟩ := kind i x hi
    exact ⟨y, e⟩)
  have inj : ∀ a b : It, Jt.of a = Jt.of b → a = b := fun a b e => by
    cases a <;> cases b <;> first | rfl | (cases e; rfl) | cases e
  refine ⟨ys, rfl, fun i it e => ?_, fun i e => ?_, fun k => ?_⟩
  · obtain ⟨y, e1, e2⟩ := kind i (Jt.of it) (by rw [List.getElem?_map, e]; rfl)
    rw [inj _ _ e1]
    exact e2
  · have hi := (List.getElem?_eq_some_iff.mp e).1
    by_cases p : i + 1 = ys.length
    · exact p
    · exfalso
      have m : Jt.ends ∈ (ys.map Jt.of).dropLast := by
        refine List.mem_of_getElem? (i := i) ?_
        rw [List.getElem?_dropLast, if_pos (by rw [List.length_map]; omega), List.getElem?_map, e]
        rfl
      rw [decide_eq_true m] at h3
      cases h3
  · have := wgo_wt ys 0 (Int.le_refl 0) h4 k
    omega
end OH
end
section
set_option Elab.async false
set_option linter.all false
set_option maxRecDepth 100000
set_option maxHeartbeats 8000000
/-! The law's own putting together: one item taken. -/
namespace OH
open PySem PySem.Spec PyProof.Rows L2
/-- lists of items, each known -/
structure VsL (K : PySem.W.Frag) (H : Hp) (vl : Addr) (vs : List (List It)) (R : Nat) : Prop where
  ex : ∃ vps : List Addr, H vl = some (.lst (vps.map V.ref)) ∧ vps.length = R ∧ ∀ (r : Nat) (q : Addr), vps[r]? = some q → VwAt K H q (vat vs r)
theorem VsL.same {K : PySem.W.Frag} {H H' : Hp} {vl : Addr} {vs : List (List It)} {R : Nat} (h : VsL K H vl vs R) (s : Same H H') : VsL K H' vl vs R := by
  obtain ⟨vps, h1, h2, h3⟩ := h.ex
  exact ⟨vps, s _ _ h1, h2, fun r q e => (h3 r q e).same s⟩
def spTakeI (K : PySem.W.Frag) : Sp := fun vs' H Q _ => ∃ (vl cl t : Addr) (vs : List (List It)) (R : Nat) (cnt : List Nat) (r : Nat) (it : It), vs' = [.ref vl, .ref cl, .int (r : Int), .ref t] ∧ VsL K H vl vs R ∧ H cl = some (.lst (cnt.map natV)) ∧ cnt.length = R ∧ r < R ∧ cat_ cnt r ≤ (vat vs r).length ∧ (vat vs r).length ≤ 10000 ∧ SqT K H t it.vs ∧
  (nextI vs cnt r = some it → Q .non (upd H cl (.lst ((bump cnt r).map natV)))) ∧
  (nextI vs cnt r ≠ some it → ∀ p, H p = none → Q (.ref p) (upd H p (.tup [.int (r : Int), .int (cat_ cnt r : Nat)])))
section
variable {P : Program} {w : World} {K : PySem.W.Frag} {mg : Str → Option Value} {base : Heap}
abbrev nTk : List Str := ["views", "places", "room", "item", "at"]
theorem sc__law_take_item : FnScope nTk ["views", "places", "room", "item"] (defScope s__law_take_item) := ⟨rfl, rfl, rfl, by decide +kernel, rfl, by decide +kernel, by decide +kernel⟩
theorem ok__law_take_item {f : Addr} {fd : FuncData} (F : Fun K "_law_take_item" "_law_take_item" s__law_take_item f fd) (nLen : mg "len" = none) : FnOk P w K mg base CX0 1 f fd ["views", "places", "room", "item"] (spTakeI K) := by
  refine F.ok sc__law_take_item (fun vs H Q E h => ?_) (fun cdv A outer s H vs Q E hr h => ?_)
  · obtain ⟨vl, cl, t, vs, R, cnt, r, it, rfl, _⟩ := h
    rfl
  · obtain ⟨vl, cl, t, vs, R, cnt, r, it, rfl, hV, hcl, lc, hr', cb, le, ht, k1, k2⟩ := h
    have nd := sc__law_take_item.nd
    refine ⟨_, pss_cons (ps_set (i := 4) nd rfl (Or.inl rfl) (pe_ix ix_list (pv 1) (pv 2) (fun _ _ => rfl)))
      (pss_cons (ps_if (PW.pt (pw_or (pt_cmpR op_eq (pv 4) (pe_callB call_len_seq (by rfl) nLen PySem.boot_len (pa_cons (pe_ix ix_list (pv 0) (pv 2) (fun _ _ => rfl)) pa_nil)) (nomark _)) (pw_or1 (pt_cmpR (op_neD hr.units) (pe_ix ix_list (pe_ix ix_list (pv 0) (pv 2) (fun _ _ => rfl)) (pv 4) (fun _ _ => rfl)) (pv 3) (nomark _))))) (pss_one (ps_ret (pe_tup (pa_cons (pv 2) (pa_cons (pv 4) pa_nil))))) pss_nil)
      (pss_cons (ps_asg (pe_op op_add (pv 4) pe_int) (pg_sub (pv 1) (pv 2) set_list))
      (pss_one (ps_ret pe_non)))), ?_⟩
    obtain ⟨vps, v1, v2, v3⟩ := hV.ex
    obtain ⟨m, hm⟩ : ∃ m, cnt[r]? = some m := ⟨_, List.getElem?_eq_getElem (by omega)⟩
    have em : cat_ cnt r = m := by unfold cat_; rw [List.getD_eq_getElem?_getD, hm]; rfl
    have a2 : atI (cnt.map natV) (r : Int) = some (.int (m : Int)) := atI_nat (by rw [List.getElem?_map, hm]; rfl)
    obtain ⟨q, hq⟩ : ∃ q, vps[r]? = some q := ⟨_, List.getElem?_eq_getElem (by omega)⟩
    have av : atI (vps.map V.ref) (r : Int) = some (.ref q) := atI_nat (by rw [List.getElem?_map, hq]; rfl)
    obtain ⟨ips, i1, i2⟩ := v3 r q hq
    have li := i2.len
    rw [em] at k2 cb
    refine ⟨_, rfl, _, rfl, cl, _, (r : Int), .int (m : Int), rfl, rfl, SqL.of hcl, a2, ?_⟩
    refine ⟨_, rfl, _, rfl, _, rfl, vl, _, (r : Int), .ref q, rfl, rfl, SqL.of v1, av, q, _, rfl, .inl (SqL.of i1), rfl, _, rfl, ?_⟩
    have el : decide (V.int (m : Int) = V.int (((ips.map V.ref).length : Nat) : Int)) = decide (m = (vat vs r).length) := by
      rw [List.length_map, li]
      by_cases e : m = (vat vs r).length
      · rw [decide_eq_true e, decide_eq_true (by rw [e])]
      · rw [decide_eq_false e, decide_eq_false (fun z => e (by have := V.int.inj z; omega))]
    rw [el]
    by_cases e : m = (vat vs r).length
    · rw [decide_eq_true e]
      refine iteT (iteT ?_)
      refine ⟨_, rfl, _, rfl, (by show 2 ≤ sizeLine; decide), fun p np => ?_⟩
      exact k2 (fun z => by
        have := (nextI_at z).1
        rw [em] at this
        omega) p np
    · rw [decide_eq_false e]
      refine iteF ?_
      have hlt : m < (vat vs r).length := by omega
      obtain ⟨u, hu⟩ : ∃ u, ips[m]? = some u := ⟨_, List.getElem?_eq_getElem (by omega)⟩
      obtain ⟨x, hx, hux⟩ := i2.get hu
      have au : atI (ips.map V.ref) (m : Int) = some (.ref u) := atI_nat (by rw [List.getElem?_map, hu]; rfl)
      have en : nextI vs cnt r = some x := by unfold nextI; rw [em]; exact hx
      refine ⟨_, rfl, _, rfl, vl, _, (r : Int), .ref q, rfl, rfl, SqL.of v1, av, _, rfl, q, _, (m : Int), .ref u, rfl, rfl, SqL.of i1, au, _, rfl, x.d, it.d, It.dp hux, It.dp ht, shaped_it _, shaped_it _, _, rfl, ?_⟩
      rw [It.eqv]
      by_cases ex : x = it
      · rw [decide_eq_true ex]
        refine iteF ?_
        have k3 := k1 (by rw [en, ex])
        refine ⟨_, rfl, _, _, rfl, rfl, ?_⟩
        refine ⟨_, rfl, _, rfl, cl, _, (r : Int), r, rfl, rfl, hcl, ?_, ?_⟩
        · unfold ixN
          rw [if_pos (by omega), if_pos (by rw [List.length_map]; omega)]
          congr 1
        · have e2 : (cnt.map natV).set r (.int ((m : Int) + 1)) = (bump cnt r).map natV := by
            have := cnt_set ⟨cnt, [], []⟩ r
            show (cnt.map natV).set r (.int ((m : Int) + 1)) = _
            rw [← em]
            exact this
          rw [← e2] at k3
          exact k3
      · rw [decide_eq_false ex]
        refine iteT ?_
        refine ⟨_, rfl, _, rfl, (by show 2 ≤ sizeLine; decide), fun p np => ?_⟩
        exact k2 (fun z => ex (by rw [en] at z; exact Option.some.inj z)) p np
end
end OH
end
section
set_option Elab.async false
set_option linter.all false
set_option maxRecDepth 100000
set_option maxHeartbeats 8000000
/-! The law's own putting together. -/
namespace OH
open PySem PySem.Spec PyProof.Rows L2
theorem JInv.sum {F : Fc} {vs : List (List It)} {J : Jn} {c : Option Nat} (hF : F.Ok) (hl : ∀ r, (vat vs r).length ≤ 10000) (I : JInv F vs J c) : J.cnt.sum ≤ 60000 := by
  have h := sum_le J.cnt 10000 (fun r => by
    by_cases e : r < F.R
    · exact Nat.le_trans (I.pre r e).2 (hl r)
    · show cat_ J.cnt r ≤ _
      unfold cat_
      rw [List.getD_eq_getElem?_getD, List.getElem?_eq_none (by rw [I.lc]; omega)]
      exact Nat.zero_le _)
  rw [I.lc] at h
  exact Nat.le_trans h (Nat.mul_le_mul_right 10000 hF.m6)
theorem eqv_nilZ (l : List PyData) : PyData.eqv (.list l) (.list []) = l.isEmpty := by cases l <;> rfl
/-- what the law has put together so far -/
structure FaX (H0 H : Hp) (cl rl al : Addr) (cnt : List Nat) (joint : List Crs) (as : List (Int × Int)) : Prop where
  s : Same H0 H
  hc : H cl = some (.lst (cnt.map natV))
  hr : RwAt H rl joint
  ha : AkAt H al as
  fc : H0 cl = none
  fr : H0 rl = none
  fa : H0 al = none
  ncr : cl ≠ rl
  nca : cl ≠ al
  nra : rl ≠ al
theorem FaX.same {H0 H H' : Hp} {cl rl al : Addr} {cnt : List Nat} {joint : List Crs} {as : List (Int × Int)} (h : FaX H0 H cl rl al cnt joint as) (s : Same H H') : FaX H0 H' cl rl al cnt joint as :=
  ⟨h.s.trans s, s _ _ h.hc, h.hr.same s, h.ha.same s, h.fc, h.fr, h.fa, h.ncr, h.nca, h.nra⟩
theorem FaX.putc {H0 H : Hp} {cl rl al : Addr} {cnt : List Nat} {joint : List Crs} {as : List (Int × Int)} (h : FaX H0 H cl rl al cnt joint as) (cnt' : List Nat) : FaX H0 (upd H cl (.lst (cnt'.map natV))) cl rl al cnt' joint as := by
  obtain ⟨ps, r1, r2⟩ := h.hr
  obtain ⟨qs, a1, a2⟩ := h.ha
  have tk : ∀ q ys, H q = some (.tup ys) → upd H cl (.lst (cnt'.map natV)) q = some (.tup ys) := fun q ys e => (upd_ne (ne_of e h.hc (fun z => nomatch z))).trans e
  exact ⟨sout h.s h.fc, upd_same, ⟨ps, (upd_ne h.ncr.symm).trans r1, r2.mono tk⟩, ⟨qs, (upd_ne h.nca.symm).trans a1, a2.mono tk⟩, h.fc, h.fr, h.fa, h.ncr, h.nca, h.nra⟩
theorem FaX.putr {H0 H : Hp} {cl rl al t : Addr} {cnt : List Nat} {joint : List Crs} {as : List (Int × Int)} {x : Crs} {ps : List Addr} (h : FaX H0 H cl rl al cnt joint as) (ht : H t = some (.tup x.vs)) (r1 : H rl = some (.lst (ps.map V.ref))) (r2 : AllAt H Crs.vs ps joint) : FaX H0 (upd H rl (.lst (ps.map V.ref ++ [.ref t]))) cl rl al cnt (joint ++ [x]) as := by
  obtain ⟨qs, a1, a2⟩ := h.ha
  have tk : ∀ q ys, H q = some (.tup ys) → upd H rl (.lst (ps.map V.ref ++ [.ref t])) q = some (.tup ys) := fun q ys e => (upd_ne (ne_of e r1 (fun z => nomatch z))).trans e
  refine ⟨sout h.s h.fr, (upd_ne h.ncr).trans h.hc, ⟨ps ++ [t], ?_, (r2.mono tk).app (tk _ _ ht)⟩, ⟨qs, (upd_ne h.nra.symm).trans a1, a2.mono tk⟩, h.fc, h.fr, h.fa, h.ncr, h.nca, h.nra⟩
  rw [upd_same, List.map_append]
  rfl
theorem FaX.seta {H0 H H' : Hp} {cl rl al al' : Addr} {cnt : List Nat} {joint : List Crs} {as as' : List (Int × Int)} (h : FaX H0 H cl rl al cnt joint as) (s : Same H H') (e : al' = al ∨ H al' = none) (ha : AkAt H' al' as') : FaX H0 H' cl rl al' cnt joint as' := by
  have h' := h.same s
  rcases e with e | e
  · subst e
    exact ⟨h'.s, h'.hc, h'.hr, ha, h.fc, h.fr, h.fa, h.ncr, h.nca, h.nra⟩
  · obtain ⟨ps, r1, _⟩ := h.hr
    exact ⟨h'.s, h'.hc, h'.hr, ha, h.fc, h.fr, h.s.free e, h.ncr, ne_of_none h.hc e, ne_of_none r1 e⟩
def spFault (K : PySem.W.Frag) : Sp := fun vs' H Q _ => ∃ (a vl : Addr) (F : Fc) (vs : List (List It)) (o : Out), vs' = [.ref a, .ref vl] ∧ FcAt H a F ∧ VsL K H vl vs F.R ∧ vs.length = F.R ∧ (∀ r, (vat vs r).length ≤ 10000) ∧ (∀ r, r < F.R → GV (vat vs r)) ∧ Joins F vs o ∧
  (∀ cs, o = .row cs → ∀ p q H', Same H H' → H q = none → H' p = some (.tup [.ref q, .non]) → RwAt H' q cs → Q (.ref p) H') ∧
  (∀ x y : Nat, o = .bad x y → ∀ p q H', Same H H' → H' p = some (.tup [.non, .ref q]) → H' q = some (.tup [.int (x : Int), .int (y : Int)]) → Q (.ref p) H')
section
variable {P : Program} {w : World} {K : PySem.W.Frag} {mg : Str → Option Value} {base : Heap}
abbrev nFa : List Str := ["face", "views", "depth", "wires", "doors", "row", "places", "control", "asks", "act", "at", "wrong", "crossing", "room", "view"]
theorem sc__law_fault : FnScope nFa ["face", "views"] (defScope s__law_fault) := ⟨rfl, rfl, rfl, by decide +kernel, rfl, by decide +kernel, by decide +kernel⟩
theorem ok__law_fault {f : Addr} {fd : FuncData} (F : Fun K "_law_fault" "_law_fault" s__law_fault f fd) (nLen : mg "len" = none) (nEnum : mg "enumerate" = none) (DT : DefF P w K mg base CX0 2 "_law_take_item" ["views", "places", "room", "item"] (spTakeI K)) (DB : DefF P w K mg base CX0 2 "_law_behind" ["control", "asks", "crossing"] (spBehind K)) : FnOk P w K mg base CX0 3 f fd ["face", "views"] (spFault K) := by
  refine F.ok sc__law_fault (fun vs H Q E h => ?_) (fun cdv A outer s H vs Q E hr h => ?_)
  · obtain ⟨a, vl, F, vs, o, rfl, _⟩ := h
    rfl
  · obtain ⟨a, vl, F, vs, o, rfl, hf, hV, lv, hl, hG, hj, k1, k2⟩ := h
    have nd := sc__law_fault.nd
    refine ⟨_, pss_cons (ps_asg (pv 0) (pg_tup (by rfl) (pgs_cons (pg_name (i := 2) nd rfl (Or.inl rfl)) (pgs_cons (pg_name (i := 3) nd rfl (Or.inl rfl)) (pgs_cons (pg_name (i := 4) nd rfl (Or.inl rfl)) pgs_nil)))))
      (pss_cons (ps_if (PW.pt (pw_or (pt_cmpR (op_eqD hr.units) (pe_ix ix_list (pv 1) pe_int (fun _ _ => rfl)) (pe_lst pa_nil) (nomark _)) (pw_or1 (pt_cmpR (op_neD hr.units) (pe_slice sl_tup (pe_ix ix_list (pe_ix ix_list (pv 1) pe_int (fun _ _ => rfl)) pe_int (fun _ _ => rfl)) po_none (po_some pe_int)) (pe_tup (pa_cons pe_str (pa_cons pe_int pa_nil))) (nomark _))))) (pss_one (ps_ret (pe_tup (pa_cons pe_non (pa_cons (pe_tup (pa_cons pe_int (pa_cons pe_int pa_nil))) pa_nil))))) pss_nil)
      (pss_cons (ps_asg (pe_tup (pa_cons (pe_lst (pa_cons (pe_tup (pa_cons pe_str (pa_cons (pe_ix ix_tup (pe_ix ix_list (pe_ix ix_list (pv 1) pe_int (fun _ _ => rfl)) pe_int (fun _ _ => rfl)) pe_int (fun _ _ => rfl)) pa_nil))) pa_nil)) (pa_cons (pe_op op_rep (pe_lst (pa_cons pe_int pa_nil)) (pe_callB call_len_seq (by rfl) nLen PySem.boot_len (pa_cons (pv 1) pa_nil))) (pa_cons pe_int (pa_cons (pe_lst pa_nil) pa_nil))))) (pg_tup (by rfl) (pgs_cons (pg_name (i := 5) nd rfl (Or.inl rfl)) (pgs_cons (pg_name (i := 6) nd rfl (Or.inl rfl)) (pgs_cons (pg_name (i := 7) nd rfl (Or.inl rfl)) (pgs_cons (pg_name (i := 8) nd rfl (Or.inl rfl)) pgs_nil))))))
      (pss_cons (ps_asg pe_int (pg_sub (pv 6) pe_int set_list))
      (pss_cons (ps_while PassesOwn.never (PW.pt (pw_and (pt_cmpR op_notN (pv 7) pe_non (nomark _)) (pw_and1 (pt_cmpR op_lt (pe_ix ix_list (pv 6) (pv 7) (fun _ _ => rfl)) (pe_callB call_len_seq (by rfl) nLen PySem.boot_len (pa_cons (pe_ix ix_list (pv 1) (pv 7) (fun _ _ => rfl)) pa_nil)) (nomark _))))) (pss_cons (ps_par3 (i := 9) (j := 10) (l := 11) rfl nd rfl rfl rfl (by decide) (by decide) (by decide) rfl rfl rfl (pa_cons (pe_ix ix_list (pe_ix ix_list (pv 1) (pv 7) (fun _ _ => rfl)) (pe_ix ix_list (pv 6) (pv 7) (fun _ _ => rfl)) (fun _ _ => rfl)) (pa_cons (pe_ix ix_list (pv 6) (pv 7) (fun _ _ => rfl)) (pa_cons pe_non pa_nil))) (by rfl))
      (pss_cons (ps_asg (pe_op op_add (pv 10) pe_int) (pg_sub (pv 6) (pv 7) set_list))
      (pss_cons (ps_if (pt_cmpR op_eq (pe_ix ix_tup (pv 9) pe_int (fun _ _ => rfl)) pe_str (nomark _)) (pss_one (ps_set (i := 12) nd rfl (Or.inl rfl) (pe_tup (pa_cons pe_str (pa_cons (pv 7) pa_nil))))) (pss_one (ps_if (pt_cmpR op_eq (pe_ix ix_tup (pv 9) pe_int (fun _ _ => rfl)) pe_str (nomark _)) (pss_one (ps_set (i := 12) nd rfl (Or.inl rfl) (pe_ifExp (pt_cmpR (op_neD hr.units) (pv 8) (pe_lst pa_nil) (nomark _)) (pe_tup (pa_cons pe_str (pa_cons (pv 7) (pa_cons (pe_ix ix_tup (pe_ix ix_list (pv 8) (pe_un un_neg pe_int) (fun _ _ => rfl)) pe_int (fun _ _ => rfl)) (pa_cons (pe_ix ix_tup (pv 9) pe_int (fun _ _ => rfl)) pa_nil))))) (pe_tup (pa_cons pe_str (pa_cons (pe_ix ix_tup (pv 9) pe_int (fun _ _ => rfl)) pa_nil)))))) (pss_cons (ps_if (pt_cmpR (op_notInDT (Room_u65 hr)) (pe_slice sl_tup (pv 9) (po_some pe_int) (po_some pe_int)) (pe_ix ix_tup (pv 3) (pv 7) (fun _ _ => rfl)) (by rfl)) (pss_one (ps_ret (pe_tup (pa_cons pe_non (pa_cons (pe_tup (pa_cons (pv 7) (pa_cons (pv 10) pa_nil))) pa_nil))))) pss_nil)
      (pss_one (ps_set (i := 12) nd rfl (Or.inl rfl) (pe_op op_catT (pe_tup (pa_cons (pe_ifExp (pt_cmpR op_lt (pe_callB call_len_seq (by rfl) nLen PySem.boot_len (pa_cons (pv 8) pa_nil)) (pv 2) (nomark _)) pe_str pe_str) (pa_cons (pv 7) pa_nil))) (pe_slice sl_tup (pv 9) (po_some pe_int) po_none))))))))
      (pss_cons (ps_if (pt_cmpR op_eq (pe_ix ix_tup (pv 12) pe_int (fun _ _ => rfl)) pe_str (nomark _)) (pss_one (ps_set (i := 11) nd rfl (Or.inl rfl) (pe_cD DT hr rfl pass0 (pa_cons (pv 1) (pa_cons (pv 6) (pa_cons (pe_ix ix_tup (pv 12) pe_int (fun _ _ => rfl)) (pa_cons (pe_op op_catT (pe_tup (pa_cons pe_str pa_nil)) (pe_slice sl_tup (pv 12) (po_some pe_int) po_none)) pa_nil))))))) pss_nil)
      (pss_cons (ps_if (pt_cmpR op_eq (pe_ix ix_tup (pv 12) pe_int (fun _ _ => rfl)) pe_str (nomark _)) (pss_one (ps_set (i := 11) nd rfl (Or.inl rfl) (pe_cD DT hr rfl pass0 (pa_cons (pv 1) (pa_cons (pv 6) (pa_cons (pe_ix ix_tup (pv 12) pe_int (fun _ _ => rfl)) (pa_cons (pe_tup (pa_cons pe_str (pa_cons (pe_ix ix_tup (pv 12) pe_int (fun _ _ => rfl)) pa_nil))) pa_nil))))))) pss_nil)
      (pss_cons (ps_if (pt_cmpR op_notN (pv 11) pe_non (nomark _)) (pss_one (ps_ret (pe_tup (pa_cons pe_non (pa_cons (pv 11) pa_nil))))) pss_nil)
      (pss_cons (ps_expr (pe_bm PySem.F.plainAttrs_list PySem.F.slot_list_append PySem.F.type_list_append mt_append (pv 5) (pa_cons (pv 12) pa_nil)))
      (pss_one (ps_asg (pe_cD DB hr rfl pass0 (pa_cons (pv 7) (pa_cons (pv 8) (pa_cons (pv 12) pa_nil)))) (pg_tup (by rfl) (pgs_cons (pg_name (i := 7) nd rfl (Or.inl rfl)) (pgs_cons (pg_name (i := 8) nd rfl (Or.inl rfl)) pgs_nil)))))))))))))
      (pss_cons (ps_for PassesOwn.never rfl (pi_enum (by rfl) nEnum (pa_cons (pv 1) pa_nil)) (pg_tup (by rfl) (pgs_cons (pg_name (i := 13) nd rfl (Or.inl rfl)) (pgs_cons (pg_name (i := 14) nd rfl (Or.inl rfl)) pgs_nil)))
        (pss_one (ps_if (pt_cmpR op_lt (pe_ix ix_list (pv 6) (pv 13) (fun _ _ => rfl)) (pe_callB call_len_seq (by rfl) nLen PySem.boot_len (pa_cons (pv 14) pa_nil)) (nomark _)) (pss_one (ps_ret (pe_tup (pa_cons pe_non (pa_cons (pe_tup (pa_cons (pv 13) (pa_cons (pe_ix ix_list (pv 6) (pv 13) (fun _ _ => rfl)) pa_nil))) pa_nil))))) pss_nil)))
      (pss_one (ps_ret (pe_tup (pa_cons (pv 5) (pa_cons pe_non pa_nil)))))))))), ?_⟩
    have hF := hf.ok
    have m1 := hF.m1
    have m6 := hF.m6
    obtain ⟨wt, dt, wps, b1, b2, b3, b4, b5⟩ := id hf.ex
    obtain ⟨vps, v1, v2, v3⟩ := id hV.ex
    refine ⟨_, rfl, a, _, rfl, SqT.of b1, rfl, _, _, rfl, _, _, rfl, _, _, rfl, rfl, ?_⟩
    obtain ⟨q0, hq0⟩ : ∃ q, vps[0]? = some q := ⟨_, List.getElem?_eq_getElem (by omega)⟩
    have av0 : atI (vps.map V.ref) 0 = some (.ref q0) := atI_nat (j := 0) (by rw [List.getElem?_map, hq0]; rfl)
    obtain ⟨ips, i1, i2⟩ := v3 0 q0 hq0
    refine ⟨_, rfl, vl, _, 0, .ref q0, rfl, rfl, SqL.of v1, av0, (by show 0 ≤ sizeLine; decide), fun e1 ne1 => ?_⟩
    have s1 := sadd (o := .lst []) (Same.refl H) ne1
    have f1 : upd H e1 (.lst []) e1 = some (.lst []) := upd_same
    generalize upd H e1 (.lst []) = H1 at s1 f1 ⊢
    refine ⟨.list ((vat vs 0).map It.d), .list [], .lst (SqL.of (s1 _ _ i1)) (i2.same s1).itdp, .lst (SqL.of f1) .nil, shaped_its _, rfl, _, rfl, ?_⟩
    clear f1 ne1
    have bad0 : o = .bad 0 0 → ∀ H', Same H H' → ∀ u p, H' u = none → upd H' u (.tup [.int 0, .int 0]) p = none → Q (.ref p) (upd (upd H' u (.tup [.int 0, .int 0])) p (.tup [.non, .ref u])) := fun e H' s u p nu np => by
      have a1 := sadd (o := .tup [.int 0, .int 0]) s nu
      exact k2 0 0 e p u _ (sadd a1 np) upd_same ((upd_ne (ne_of_none upd_same np)).trans upd_same)
    cases hv0 : vat vs 0 with
    | nil =>
      refine iteT (iteT ?_)
      refine ⟨(by show 2 ≤ sizeLine; decide), fun u nu => ⟨(by show 2 ≤ sizeLine; decide), fun p np => ?_⟩⟩
      refine bad0 ?_ H1 s1 u p nu np
      cases hj with
      | first _ => rfl
      | bad h0 _ => rw [hv0] at h0; cases h0
      | left h0 _ _ _ _ => rw [hv0] at h0; cases h0
      | row h0 _ _ => rw [hv0] at h0; cases h0
    | cons it rest =>
    have hn : (vat vs 0)[0]? = some it := by rw [hv0]; rfl
    obtain ⟨dz, n, rfl⟩ : ∃ dz n, it = .inn dz n := by
      have hk := (hG 0 (by omega)).al 0 _ hn
      unfold kindAt at hk
      rw [if_pos rfl] at hk
      cases it with
      | inn a b => exact ⟨a, b, rfl⟩
      | got a =>
        have w1 := (hG 0 (by omega)).wt 1
        rw [List.take_add_one, hn] at w1
        have w2 : (0 : Int) ≤ -1 + 0 := w1
        omega
      | calls a b c => exact hk.elim
      | gives a => exact hk.elim
      | ends => exact hk.elim
    refine iteF ?_
    obtain ⟨u0, hu0⟩ : ∃ u, ips[0]? = some u := ⟨_, List.getElem?_eq_getElem (by rw [i2.len, hv0]; exact Nat.succ_pos _)⟩
    obtain ⟨x0, hx0, hux⟩ := i2.get hu0
    rw [hn] at hx0
    cases hx0
    have au0 : atI (ips.map V.ref) 0 = some (.ref u0) := atI_nat (j := 0) (by rw [List.getElem?_map, hu0]; rfl)
    refine ⟨_, rfl, vl, _, 0, .ref q0, rfl, rfl, SqL.of (s1 _ _ v1), av0, q0, _, 0, .ref u0, rfl, rfl, SqL.of (s1 _ _ i1), au0, _, rfl, u0, _, rfl, same_seq2 s1 hux, (by show ¬ (_ ∧ (2 : Nat) = 3); rintro ⟨_, z⟩; cases z), fun e2 ne2 => ?_⟩
    rw [show cutV (It.inn dz n).vs none (some 2) = [.str "in", .int dz] from rfl]
    have s2 := sadd (o := .tup [.str "in", .int dz]) s1 ne2
    have f2 : upd H1 e2 (.tup [.str "in", .int dz]) e2 = some (.tup [.str "in", .int dz]) := upd_same
    generalize upd H1 e2 (.tup [.str "in", .int dz]) = H2 at s2 f2 ⊢
    refine ⟨(by show 2 ≤ sizeLine; decide), fun e3 ne3 => ?_⟩
    have s3 := sadd (o := .tup [.str "in", .int 0]) s2 ne3
    have f2' := sadd (o := .tup [.str "in", .int 0]) (Same.refl H2) ne3 _ _ f2
    refine ⟨tD "in" [dz], tD "in" [0], tD_dp (SqT.of f2'), tD_dp (SqT.of upd_same), shaped_tD (by decide +kernel) _, shaped_tD (by decide +kernel) _, _, rfl, ?_⟩
    rw [tD_eqv]
    generalize upd H2 e3 (.tup [.str "in", .int 0]) = H3 at s3 ⊢
    clear f2 f2' ne2 ne3 s1 s2
    by_cases ez : dz = 0
    case neg =>
      rw [decide_eq_false (fun z => ez (List.cons.inj z.2).1)]
      refine iteT ?_
      refine ⟨(by show 2 ≤ sizeLine; decide), fun u nu => ⟨(by show 2 ≤ sizeLine; decide), fun p np => ?_⟩⟩
      refine bad0 ?_ H3 s3 u p nu np
      cases hj with
      | first _ => rfl
      | bad h0 _ => rw [hn] at h0; cases h0; exact absurd rfl ez
      | left h0 _ _ _ _ => rw [hn] at h0; cases h0; exact absurd rfl ez
      | row h0 _ _ => rw [hn] at h0; cases h0; exact absurd rfl ez
    subst ez
    rw [decide_eq_true ⟨rfl, rfl⟩]
    refine iteF ?_
    obtain ⟨m, out, R, hout⟩ : ∃ m out, Runs F vs m (jn1 F n) (some 0) out ∧ ((∃ x y, out = .bad x y ∧ o = .bad x y) ∨ ∃ J, out = .fin J ∧ ((o = .row J.joint ∧ ∀ j, j < F.R → (vat vs j).length ≤ cat_ J.cnt j) ∨ ∃ r, o = .bad r (cat_ J.cnt r) ∧ r < F.R ∧ (∀ j, j < r → (vat vs j).length ≤ cat_ J.cnt j) ∧ cat_ J.cnt r < (vat vs r).length)) := by
      cases hj with
      | first h => exact absurd hn (h n)
      | bad h0 R => rw [hn] at h0; cases h0; exact ⟨_, _, R, .inl ⟨_, _, rfl, rfl⟩⟩
      | left h0 R a b c => rw [hn] at h0; cases h0; exact ⟨_, _, R, .inr ⟨_, rfl, .inr ⟨_, rfl, a, b, c⟩⟩⟩
      | row h0 R a => rw [hn] at h0; cases h0; exact ⟨_, _, R, .inr ⟨_, rfl, .inl ⟨rfl, a⟩⟩⟩
    have I1 := JInv.init hF hG hn
    clear bad0 hj
    -- row, places, control, asks
    refine ⟨_, rfl, vl, _, 0, .ref q0, rfl, rfl, SqL.of (s3 _ _ v1), av0, q0, _, 0, .ref u0, rfl, rfl, SqL.of (s3 _ _ i1), au0, u0, _, 2, _, rfl, rfl, same_seq2 s3 hux, rfl, (by show 2 ≤ sizeLine; decide), fun t1 nt1 => ⟨(by show 1 ≤ sizeLine; decide), fun rl nrl => ⟨(by show 1 ≤ sizeLine; decide), fun a1 na1 => ?_⟩⟩⟩
    have s4 := sadd (o := .tup [.str "start", .int n]) s3 nt1
    have s5 := sadd (o := .lst [.ref t1]) s4 nrl
    have s6 := sadd (o := .lst [.int 0]) s5 na1
    refine ⟨_, rfl, vl, _, rfl, .inl (SqL.of (s6 _ _ v1)), a1, ((vps.map V.ref).length : Int), _, rfl, rfl, upd_same, by omega, by rw [List.length_map]; omega, (by rw [Int.toNat_natCast, sizeLine_eq, List.length_map]; show 1 * _ ≤ _; omega), fun cl ncl => ?_⟩
    rw [Int.toNat_natCast, List.length_map, v2, show (List.replicate F.R ([.int 0] : List V)).flatten = (List.replicate F.R 0).map natV by rw [List.flatten_replicate_singleton, List.map_replicate]; rfl]
    have s7 := sadd (o := .lst ((List.replicate F.R 0).map natV)) s6 ncl
    refine ⟨(by show 0 ≤ sizeLine; decide), fun al nal => ⟨(by show 4 ≤ sizeLine; decide), fun tp ntp => ?_⟩⟩
    have s8 := sadd (o := .lst []) s7 nal
    have s9 := sadd (o := .tup [.ref rl, .ref cl, .int 0, .ref al]) s8 ntp
    have X9 : FaX H (upd (upd (upd (upd (upd (upd H3 t1 (.tup [.str "start", .int n])) rl (.lst [.ref t1])) a1 (.lst [.int 0])) cl (.lst ((List.replicate F.R 0).map natV))) al (.lst [])) tp (.tup [.ref rl, .ref cl, .int 0, .ref al])) cl rl al (List.replicate F.R 0) [.start n] [] := by
      have g9 := sadd (o := .tup [.ref rl, .ref cl, .int 0, .ref al]) (Same.refl _) ntp
      have g8 := (sadd (o := .lst []) (Same.refl _) nal).trans g9
      have g7 := (sadd (o := .lst ((List.replicate F.R 0).map natV)) (Same.refl _) ncl).trans g8
      have g6 := (sadd (o := .lst [.int 0]) (Same.refl _) na1).trans g7
      have g5 := (sadd (o := .lst [.ref t1]) (Same.refl _) nrl).trans g6
      have rr := g6 rl _ upd_same
      refine ⟨s9, g8 cl _ upd_same, ⟨[t1], rr, .cons (g5 t1 _ upd_same) .nil⟩, ⟨[], g9 al _ upd_same, .nil⟩, s6.free ncl, s4.free nrl, s7.free nal, ?_, ?_, ?_⟩
      · exact (ne_of_none (sadd (o := .lst [.int 0]) (Same.refl _) na1 rl _ upd_same) ncl).symm
      · exact ne_of_none (upd_same (a := cl)) nal
      · exact ne_of_none ((sadd (o := .lst ((List.replicate F.R 0).map natV)) (Same.refl _) ncl) rl _ (sadd (o := .lst [.int 0]) (Same.refl _) na1 rl _ upd_same)) nal
    have h9 : upd (upd (upd (upd (upd (upd H3 t1 (.tup [.str "start", .int n])) rl (.lst [.ref t1])) a1 (.lst [.int 0])) cl (.lst ((List.replicate F.R 0).map natV))) al (.lst [])) tp (.tup [.ref rl, .ref cl, .int 0, .ref al]) tp = some (.tup [.ref rl, .ref cl, .int 0, .ref al]) := upd_same
    generalize upd (upd (upd (upd (upd (upd H3 t1 (.tup [.str "start", .int n])) rl (.lst [.ref t1])) a1 (.lst [.int 0])) cl (.lst ((List.replicate F.R 0).map natV))) al (.lst [])) tp (.tup [.ref rl, .ref cl, .int 0, .ref al]) = H9 at X9 h9 ⊢
    clear s3 s4 s5 s6 s7 s8 s9 nt1 nrl na1 ncl nal ntp
    refine ⟨tp, _, rfl, SqT.of h9, rfl, _, _, rfl, _, _, rfl, _, _, rfl, _, _, rfl, rfl, ?_⟩
    refine ⟨_, rfl, cl, _, 0, 0, rfl, rfl, X9.hc, ?_, ?_⟩
    · unfold ixN
      rw [if_pos (Int.le_refl 0), if_pos (by rw [List.length_map, List.length_replicate]; omega)]
      rfl
    have e2 : ((List.replicate F.R 0).map natV).set 0 (.int 1) = (bump (List.replicate F.R 0) 0).map natV := by
      have h := cnt_set ⟨List.replicate F.R 0, [], []⟩ 0
      have z : cat_ (List.replicate F.R 0) 0 = 0 := by
        unfold cat_
        rw [List.getD_eq_getElem?_getD, List.getElem?_replicate]
        split <;> rfl
      have h' : ((List.replicate F.R 0).map natV).set 0 (.int ((cat_ (List.replicate F.R 0) 0 : Nat) + 1 : Int)) = (bump (List.replicate F.R 0) 0).map natV := h
      rw [z] at h'
      exact h'
    rw [e2]
    have X1 := X9.putc (bump (List.replicate F.R 0) 0)
    generalize upd H9 cl (.lst ((bump (List.replicate F.R 0) 0).map natV)) = H10 at X1 ⊢
    clear X9 h9 e2
    have S1 : JnS F (jn1 F n) := by
      have s1 := sum_bump (l := List.replicate F.R 0) (r := 0) (by rw [List.length_replicate]; omega)
      exact ⟨by show 1 ≤ (bump (List.replicate F.R 0) 0).sum; omega, by show 0 ≤ (bump (List.replicate F.R 0) 0).sum; omega, fun k z => nomatch z⟩
    have ea : (jn1 F n).asks.map (fun n : Nat => (n : Int)) = ([] : List (Int × Int)).map (·.1) := rfl
    refine ⟨fun k σ H' => ∃ (J : Jn) (c : Option Nat) (al : Addr) (as : List (Int × Int)) (o9 o10 o11 o12 : Option V), σ = [some (.ref a), some (.ref vl), some (.int F.dep), some (.ref wt), some (.ref dt), some (.ref rl), some (.ref cl), some (optN c), some (.ref al), o9, o10, o11, o12, none, none] ∧ Runs F vs k J c out ∧ FaX H H' cl rl al J.cnt J.joint as ∧ JInv F vs J c ∧ (∀ r, c = some r → as = (stt (none, []) J.joint).2) ∧ JnS F J,
      ⟨m, jn1 F n, some 0, al, [], none, none, none, none, rfl, R, X1, I1, (fun r z => by cases z; rfl), S1⟩, ?_⟩
    clear X1 I1 R
    rintro k σ H5 ⟨J, c, al, as, o9, o10, o11, o12, rfl, R5, X5, I5, ha5, S5⟩
    cases c with
    | none =>
      have eout : out = .fin J := by cases R5; rfl
      refine ⟨_, rfl, rfl, _, rfl, iteF (iteF ?_)⟩
      refine ⟨_, rfl, vl, _, rfl, SqL.of (X5.s _ _ v1), ?_⟩
      refine for_it (walk_enum (K := K) (a := vl) (xs := vps.map V.ref)) (fun i σ H' => ∃ o13 o14 : Option V, σ = [some (.ref a), some (.ref vl), some (.int F.dep), some (.ref wt), some (.ref dt), some (.ref rl), some (.ref cl), some (optN none), some (.ref al), o9, o10, o11, o12, o13, o14] ∧ FaX H H' cl rl al J.cnt J.joint as ∧ ∀ j, j < i → (vat vs j).length ≤ cat_ J.cnt j)
        ⟨none, none, rfl, X5, fun j z => absurd z (Nat.not_lt_zero j)⟩ (fun i σ H' _ ⟨_, _, _, X', _⟩ => SqL.of (X'.s _ _ v1)) ?turnA ?doneA
      case doneA =>
        rintro σ H6 ⟨o13, o14, rfl, X6, all⟩
        refine ⟨_, rfl, (by show 2 ≤ sizeLine; decide), fun p np => ?_⟩
        rcases hout with ⟨x', y', e1, _⟩ | ⟨J1, e1, e2⟩
        · rw [e1] at eout; cases eout
        · rw [e1] at eout
          cases eout
          rcases e2 with ⟨e2, _⟩ | ⟨r', _, hr', _, hlt⟩
          · have X7 := X6.same (sadd (o := .tup [.ref rl, .non]) (Same.refl _) np)
            exact k1 _ e2 p rl _ X7.s X7.fr upd_same X7.hr
          · have := all r' (by rw [List.length_map]; omega)
            omega
      case turnA =>
        rintro i y σ H6 H7 hi' ⟨o13, o14, rfl, X6, all⟩ ⟨tp, x0, y0, rfl, ntp, rfl, ex, ey⟩
        cases ex
        replace ey : (vps.map V.ref)[i]? = some y0 := ey
        rw [List.getElem?_map] at ey
        obtain ⟨q, hq, rfl⟩ := Option.map_eq_some_iff.mp ey
        have hiR : i < F.R := by rw [← v2]; exact (List.getElem?_eq_some_iff.mp hq).1
        have X7 := X6.same (sadd (o := .tup [.int ((i : Nat) : Int), .ref q]) (Same.refl _) ntp)
        have htp : upd H6 tp (.tup [.int ((i : Nat) : Int), .ref q]) tp = some (.tup [.int ((i : Nat) : Int), .ref q]) := upd_same
        generalize upd H6 tp (.tup [.int ((i : Nat) : Int), .ref q]) = H7 at X7 htp ⊢
        obtain ⟨ips, i1, i2⟩ := v3 i q hq
        have li := i2.len
        obtain ⟨m, hm⟩ : ∃ m, J.cnt[i]? = some m := ⟨_, List.getElem?_eq_getElem (by rw [I5.lc]; omega)⟩
        have em : cat_ J.cnt i = m := by unfold cat_; rw [List.getD_eq_getElem?_getD, hm]; rfl
        have a2 : atI (J.cnt.map natV) (i : Int) = some (.int (m : Int)) := atI_nat (by rw [List.getElem?_map, hm]; rfl)
        refine ⟨tp, _, rfl, SqT.of htp, rfl, _, _, rfl, _, _, rfl, rfl, ?_⟩
        refine ⟨_, rfl, _, rfl, cl, _, (i : Int), .int (m : Int), rfl, rfl, SqL.of X7.hc, a2, _, rfl, q, _, rfl, .inl (SqL.of (X7.s _ _ i1)), _, _, rfl, rfl, _, rfl, ?_⟩
        refine ite2 (fun z => ?_) (fun z => ?_)
        · have z1 : m < (vat vs i).length := by
            have := of_decide_eq_true z
            rw [List.length_map, li] at this
            omega
          refine ⟨_, rfl, _, rfl, _, rfl, cl, _, (i : Int), .int (m : Int), rfl, rfl, SqL.of X7.hc, a2, (by show 2 ≤ sizeLine; decide), fun u nu => ⟨(by show 2 ≤ sizeLine; decide), fun p np => ?_⟩⟩
          rcases hout with ⟨x', y', e1, _⟩ | ⟨J1, e1, e2⟩
          · rw [e1] at eout; cases eout
          · rw [e1] at eout
            cases eout
            rcases e2 with ⟨_, hall⟩ | ⟨r', e2, hr', hmin, hlt⟩
            · have := hall i hiR
              omega
            · have eri : r' = i := by
                rcases Nat.lt_trichotomy r' i with w | w | w
                · have := all r' w
                  omega
                · exact w
                · have := hmin i w
                  omega
              subst eri
              rw [em] at e2
              have X8 := X7.same (sadd (o := .tup [.int (r' : Int), .int (m : Int)]) (Same.refl _) nu)
              have X9 := X8.same (sadd (o := .tup [.non, .ref u]) (Same.refl _) np)
              exact k2 _ _ e2 p u _ X9.s upd_same ((upd_ne (ne_of_none upd_same np)).trans upd_same)
        · have z1 : ¬ m < (vat vs i).length := fun w => z (decide_eq_true (by rw [List.length_map, li]; omega))
          refine ⟨_, _, rfl, X7, fun j hj => ?_⟩
          by_cases e : j = i
          · subst e
            omega
          · exact all j (by omega)
    | some r =>
      obtain ⟨hr5, st5, as5, par5⟩ := I5.st r rfl
      have eas := ha5 r rfl
      refine ⟨_, rfl, rfl, _, rfl, iteT ?_⟩
      obtain ⟨q, hq⟩ : ∃ q, vps[r]? = some q := ⟨_, List.getElem?_eq_getElem (by omega)⟩
      have av : atI (vps.map V.ref) (r : Int) = some (.ref q) := atI_nat (by rw [List.getElem?_map, hq]; rfl)
      obtain ⟨ips, i1, i2⟩ := v3 r q hq
      have li := i2.len
      obtain ⟨m, hm⟩ : ∃ m, J.cnt[r]? = some m := ⟨_, List.getElem?_eq_getElem (by rw [I5.lc]; omega)⟩
      have em : cat_ J.cnt r = m := by unfold cat_; rw [List.getD_eq_getElem?_getD, hm]; rfl
      have a2 : atI (J.cnt.map natV) (r : Int) = some (.int (m : Int)) := atI_nat (by rw [List.getElem?_map, hm]; rfl)
      refine ⟨_, rfl, _, rfl, cl, _, (r : Int), .int (m : Int), rfl, rfl, SqL.of X5.hc, a2, _, rfl, _, rfl, vl, _, (r : Int), .ref q, rfl, rfl, SqL.of (X5.s _ _ v1), av, q, _, rfl, .inl (SqL.of (X5.s _ _ i1)), _, _, rfl, rfl, _, rfl, ?_⟩
      have edl : decide ((m : Int) < (((ips.map V.ref).length : Nat) : Int)) = decide (m < (vat vs r).length) := by
        rw [List.length_map, li]
        by_cases e : m < (vat vs r).length
        · rw [decide_eq_true e, decide_eq_true (by omega)]
        · rw [decide_eq_false e, decide_eq_false (by omega)]
      rw [edl]
      by_cases hlt : m < (vat vs r).length
      case neg =>
        rw [decide_eq_false hlt]
        refine iteF ?_
        have hnx : nextI vs J.cnt r = none := by unfold nextI; rw [em]; exact List.getElem?_eq_none (by omega)
        have hja : jact F vs J r = .ok none J := by unfold jact; rw [hnx]
        have eout : out = .fin J := by
          cases R5 with
          | err h => rw [hja] at h; cases h
          | step h R' => rw [hja] at h; cases h; cases R'; rfl
        refine ⟨_, rfl, vl, _, rfl, SqL.of (X5.s _ _ v1), ?_⟩
        refine for_it (walk_enum (K := K) (a := vl) (xs := vps.map V.ref)) (fun i σ H' => ∃ o13 o14 : Option V, σ = [some (.ref a), some (.ref vl), some (.int F.dep), some (.ref wt), some (.ref dt), some (.ref rl), some (.ref cl), some (optN (some r)), some (.ref al), o9, o10, o11, o12, o13, o14] ∧ FaX H H' cl rl al J.cnt J.joint as ∧ ∀ j, j < i → (vat vs j).length ≤ cat_ J.cnt j)
          ⟨none, none, rfl, X5, fun j z => absurd z (Nat.not_lt_zero j)⟩ (fun i σ H' _ ⟨_, _, _, X', _⟩ => SqL.of (X'.s _ _ v1)) ?turnB ?doneB
        case doneB =>
          rintro σ H6 ⟨o13, o14, rfl, X6, all⟩
          refine ⟨_, rfl, (by show 2 ≤ sizeLine; decide), fun p np => ?_⟩
          rcases hout with ⟨x', y', e1, _⟩ | ⟨J1, e1, e2⟩
          · rw [e1] at eout; cases eout
          · rw [e1] at eout
            cases eout
            rcases e2 with ⟨e2, _⟩ | ⟨r', _, hr', _, hlt⟩
            · have X7 := X6.same (sadd (o := .tup [.ref rl, .non]) (Same.refl _) np)
              exact k1 _ e2 p rl _ X7.s X7.fr upd_same X7.hr
            · have := all r' (by rw [List.length_map]; omega)
              omega
        case turnB =>
          rintro i y σ H6 H7 hi' ⟨o13, o14, rfl, X6, all⟩ ⟨tp, x0, y0, rfl, ntp, rfl, ex, ey⟩
          cases ex
          replace ey : (vps.map V.ref)[i]? = some y0 := ey
          rw [List.getElem?_map] at ey
          obtain ⟨q, hq, rfl⟩ := Option.map_eq_some_iff.mp ey
          have hiR : i < F.R := by rw [← v2]; exact (List.getElem?_eq_some_iff.mp hq).1
          have X7 := X6.same (sadd (o := .tup [.int ((i : Nat) : Int), .ref q]) (Same.refl _) ntp)
          have htp : upd H6 tp (.tup [.int ((i : Nat) : Int), .ref q]) tp = some (.tup [.int ((i : Nat) : Int), .ref q]) := upd_same
          generalize upd H6 tp (.tup [.int ((i : Nat) : Int), .ref q]) = H7 at X7 htp ⊢
          obtain ⟨ips, i1, i2⟩ := v3 i q hq
          have li := i2.len
          obtain ⟨m, hm⟩ : ∃ m, J.cnt[i]? = some m := ⟨_, List.getElem?_eq_getElem (by rw [I5.lc]; omega)⟩
          have em : cat_ J.cnt i = m := by unfold cat_; rw [List.getD_eq_getElem?_getD, hm]; rfl
          have a2 : atI (J.cnt.map natV) (i : Int) = some (.int (m : Int)) := atI_nat (by rw [List.getElem?_map, hm]; rfl)
          refine ⟨tp, _, rfl, SqT.of htp, rfl, _, _, rfl, _, _, rfl, rfl, ?_⟩
          refine ⟨_, rfl, _, rfl, cl, _, (i : Int), .int (m : Int), rfl, rfl, SqL.of X7.hc, a2, _, rfl, q, _, rfl, .inl (SqL.of (X7.s _ _ i1)), _, _, rfl, rfl, _, rfl, ?_⟩
          refine ite2 (fun z => ?_) (fun z => ?_)
          · have z1 : m < (vat vs i).length := by
              have := of_decide_eq_true z
              rw [List.length_map, li] at this
              omega
            refine ⟨_, rfl, _, rfl, _, rfl, cl, _, (i : Int), .int (m : Int), rfl, rfl, SqL.of X7.hc, a2, (by show 2 ≤ sizeLine; decide), fun u nu => ⟨(by show 2 ≤ sizeLine; decide), fun p np => ?_⟩⟩
            rcases hout with ⟨x', y', e1, _⟩ | ⟨J1, e1, e2⟩
            · rw [e1] at eout; cases eout
            · rw [e1] at eout
              cases eout
              rcases e2 with ⟨_, hall⟩ | ⟨r', e2, hr', hmin, hlt⟩
              · have := hall i hiR
                omega
              · have eri : r' = i := by
                  rcases Nat.lt_trichotomy r' i with w | w | w
                  · have := all r' w
                    omega
                  · exact w
                  · have := hmin i w
                    omega
                subst eri
                rw [em] at e2
                have X8 := X7.same (sadd (o := .tup [.int (r' : Int), .int (m : Int)]) (Same.refl _) nu)
                have X9 := X8.same (sadd (o := .tup [.non, .ref u]) (Same.refl _) np)
                exact k2 _ _ e2 p u _ X9.s upd_same ((upd_ne (ne_of_none upd_same np)).trans upd_same)
          · have z1 : ¬ m < (vat vs i).length := fun w => z (decide_eq_true (by rw [List.length_map, li]; omega))
            refine ⟨_, _, rfl, X7, fun j hj => ?_⟩
            by_cases e : j = i
            · subst e
              omega
            · exact all j (by omega)
      rw [decide_eq_true hlt]
      refine iteT ⟨fun σ' H' => ∃ k', k' < k ∧ (fun k σ H' => ∃ (J : Jn) (c : Option Nat) (al : Addr) (as : List (Int × Int)) (o9 o10 o11 o12 : Option V), σ = [some (.ref a), some (.ref vl), some (.int F.dep), some (.ref wt), some (.ref dt), some (.ref rl), some (.ref cl), some (optN c), some (.ref al), o9, o10, o11, o12, none, none] ∧ Runs F vs k J c out ∧ FaX H H' cl rl al J.cnt J.joint as ∧ JInv F vs J c ∧ (∀ r, c = some r → as = (stt (none, []) J.joint).2) ∧ JnS F J) k' σ' H', fun σ' H' z => z, ?_⟩
      obtain ⟨u, hu⟩ : ∃ u, ips[m]? = some u := ⟨_, List.getElem?_eq_getElem (by omega)⟩
      obtain ⟨x, hx, hux⟩ := i2.get hu
      have au : atI (ips.map V.ref) (m : Int) = some (.ref u) := atI_nat (by rw [List.getElem?_map, hu]; rfl)
      have hnx : nextI vs J.cnt r = some x := by unfold nextI; rw [em]; exact hx
      have kx : isAc x := by
        have h1 := (hG r hr5).al m x hx
        have h2 := par5 r hr5
        rw [if_pos rfl, em] at h2
        unfold kindAt at h1
        rwa [if_neg (by omega)] at h1
      refine ⟨_, rfl, _, rfl, vl, _, (r : Int), .ref q, rfl, rfl, SqL.of (X5.s _ _ v1), av, _, rfl, _, rfl, cl, _, (r : Int), .int (m : Int), rfl, rfl, SqL.of X5.hc, a2, q, _, (m : Int), .ref u, rfl, rfl, SqL.of (X5.s _ _ i1), au, _, rfl, _, rfl, cl, _, (r : Int), .int (m : Int), rfl, rfl, SqL.of X5.hc, a2, _, _, _, rfl, ?_⟩
      refine ⟨_, rfl, _, _, rfl, rfl, _, rfl, _, rfl, cl, _, (r : Int), r, rfl, rfl, X5.hc, ?_, ?_⟩
      · unfold ixN
        rw [if_pos (by omega), if_pos (by rw [List.length_map, I5.lc]; omega)]
        congr 1
      have e2 : (J.cnt.map natV).set r (.int ((m : Int) + 1)) = (bump J.cnt r).map natV := by
        have := cnt_set J r
        rw [em] at this
        exact this
      rw [e2]
      have X6 := X5.putc (bump J.cnt r)
      generalize upd H5 cl (.lst ((bump J.cnt r).map natV)) = H6 at X6 ⊢
      have hux6 := same_seq2 X6.s hux
      have as6 : as.length ≤ 60000 := by
        have h1 := congrArg List.length as5
        rw [List.length_map, List.length_map, ← eas] at h1
        have h2 := S5.la
        have h3 := I5.sum hF hl
        omega
      have jl6 : J.joint.length ≤ 60000 := by
        have h2 := S5.lj
        have h3 := I5.sum hF hl
        omega
      have est : stt (none, []) J.joint = (some (r : Int), as) := Prod.ext st5 eas.symm
      have al5 := getLast?_map_fst as5
      cases x with
      | ends =>
        refine ⟨_, rfl, u, _, 0, _, rfl, rfl, hux6, rfl, rfl, _, rfl, iteT ?_⟩
        refine ⟨_, rfl, (by show 2 ≤ sizeLine; decide), fun t nt => ?_⟩
        have XK := X6.same (sadd (o := .tup [.str "end", optN (some r)]) (Same.refl _) nt)
        have ht : upd H6 t (.tup [.str "end", optN (some r)]) t = some (.tup (Crs.fin (r : Int)).vs) := upd_same
        generalize upd H6 t (.tup [.str "end", optN (some r)]) = H7 at XK ht ⊢
        have hja : jact F vs J r = .ok none ⟨bump J.cnt r, J.asks, J.joint ++ [.fin r]⟩ := by unfold jact; rw [hnx]
        refine ⟨_, rfl, t, _, 0, _, rfl, rfl, SqT.of ht, rfl, rfl, _, rfl, iteF ?_⟩
        refine ⟨_, rfl, t, _, 0, _, rfl, rfl, SqT.of ht, rfl, rfl, _, rfl, iteF ?_⟩
        obtain ⟨ps, r1, r2⟩ := id XK.hr
        refine ⟨_, rfl, rfl, _, rfl, iteF ?_⟩
        refine ⟨_, rfl, .inl ⟨rfl, _, SqL.of r1⟩, _, rfl, rl, _, _, rfl, rfl, r1, (by rw [List.length_map, r2.len, sizeLine_eq]; omega), ?_⟩
        have XL := XK.putr (x := (Crs.fin (r : Int))) ht r1 r2
        have htl := (upd_ne (o := .lst (ps.map V.ref ++ [.ref t])) (ne_of ht r1 (fun z => nomatch z))).trans ht
        generalize upd _ rl (.lst (ps.map V.ref ++ [.ref t])) = HL at XL htl ⊢
        cases R5 with
        | err h => rw [hja] at h; cases h
        | step h R' =>
          rw [hja] at h
          cases h
          have I6 := I5.step hF hG hja
          have S6 := (S5.step hF I5.lc hr5 hja).1
          refine ⟨_, rfl, _, rfl, _, rfl, _, al, t, some (r : Int), as, (Crs.fin (r : Int)), rfl, XL.ha, htl, by omega, fun w' al' H8 s8 nw e8 hw ha' => ?_⟩
          refine ⟨w', _, rfl, SqT.of hw, rfl, _, _, rfl, _, _, rfl, rfl, ?_⟩
          exact ⟨_, Nat.lt_succ_self _, _, _, al', _, _, _, _, _, rfl, R', XL.seta s8 e8 ha', I6, (fun r' z => by cases z), S6⟩
      | gives n2 =>
        refine ⟨_, rfl, u, _, 0, _, rfl, rfl, hux6, rfl, rfl, _, rfl, iteF ?_⟩
        refine ⟨_, rfl, u, _, 0, _, rfl, rfl, hux6, rfl, rfl, _, rfl, iteT ?_⟩
        refine ⟨_, rfl, (by show 0 ≤ sizeLine; decide), fun e ne => ?_⟩
        have X7 := X6.same (sadd (o := .lst []) (Same.refl _) ne)
        have he : upd H6 e (.lst []) e = some (.lst []) := upd_same
        have hux7 := same_seq2 (sadd (o := .lst []) (Same.refl H6) ne) hux6
        generalize upd H6 e (.lst []) = H7 at X7 he hux7 ⊢
        obtain ⟨qs, a1, aa2⟩ := id X7.ha
        refine ⟨.list (as.map pairD), .list [], .lst (SqL.of a1) aa2.dpp, .lst (SqL.of he) .nil, shaped_pairs _, rfl, _, rfl, ?_⟩
        rw [eqv_nilZ]
        cases has : (as.map pairD).isEmpty with
        | true =>
          refine iteF ?_
          have e0 : as = [] := by
            cases as with
            | nil => rfl
            | cons _ _ => cases has
          have gl : J.asks.getLast? = none := al5.1.mpr (by rw [← eas]; exact e0)
          refine ⟨_, rfl, u, _, 1, _, rfl, rfl, hux7, rfl, (by show 2 ≤ sizeLine; decide), fun t nt => ?_⟩
          have XK := X7.same (sadd (o := .tup [.str "done", .int n2]) (Same.refl _) nt)
          have ht : upd H7 t (.tup [.str "done", .int n2]) t = some (.tup (Crs.done n2).vs) := upd_same
          generalize upd H7 t (.tup [.str "done", .int n2]) = H8 at XK ht ⊢
          have hja : jact F vs J r = .ok none ⟨bump J.cnt r, J.asks, J.joint ++ [.done n2]⟩ := by unfold jact; rw [hnx]; show (match J.asks.getLast? with | none => _ | some k => _) = _; rw [gl]; rfl
          refine ⟨_, rfl, t, _, 0, _, rfl, rfl, SqT.of ht, rfl, rfl, _, rfl, iteF ?_⟩
          refine ⟨_, rfl, t, _, 0, _, rfl, rfl, SqT.of ht, rfl, rfl, _, rfl, iteF ?_⟩
          obtain ⟨ps, r1, r2⟩ := id XK.hr
          refine ⟨_, rfl, rfl, _, rfl, iteF ?_⟩
          refine ⟨_, rfl, .inl ⟨rfl, _, SqL.of r1⟩, _, rfl, rl, _, _, rfl, rfl, r1, (by rw [List.length_map, r2.len, sizeLine_eq]; omega), ?_⟩
          have XL := XK.putr (x := (Crs.done n2)) ht r1 r2
          have htl := (upd_ne (o := .lst (ps.map V.ref ++ [.ref t])) (ne_of ht r1 (fun z => nomatch z))).trans ht
          generalize upd _ rl (.lst (ps.map V.ref ++ [.ref t])) = HL at XL htl ⊢
          cases R5 with
          | err h => rw [hja] at h; cases h
          | step h R' =>
            rw [hja] at h
            cases h
            have I6 := I5.step hF hG hja
            have S6 := (S5.step hF I5.lc hr5 hja).1
            refine ⟨_, rfl, _, rfl, _, rfl, _, al, t, some (r : Int), as, (Crs.done n2), rfl, XL.ha, htl, by omega, fun w' al' H8 s8 nw e8 hw ha' => ?_⟩
            refine ⟨w', _, rfl, SqT.of hw, rfl, _, _, rfl, _, _, rfl, rfl, ?_⟩
            exact ⟨_, Nat.lt_succ_self _, _, _, al', _, _, _, _, _, rfl, R', XL.seta s8 e8 ha', I6, (fun r' z => by cases z), S6⟩
        | false =>
          refine iteT ?_
          obtain ⟨q1, hq1⟩ : ∃ q, as.getLast? = some q := by
            cases h : as.getLast? with
            | none => rw [List.getLast?_eq_none_iff.mp h] at has; cases has
            | some q => exact ⟨q, rfl⟩
          obtain ⟨k2', gl, ek⟩ := al5.2.1 q1 (by rw [← eas]; exact hq1)
          obtain ⟨qa, qb⟩ := q1
          replace ek : (k2' : Int) = qa := ek
          subst ek
          have hk2 : k2' < F.R := S5.rg k2' (List.mem_of_getLast? gl)
          have hq1' := hq1
          rw [List.getLast?_eq_getElem?] at hq1'
          obtain ⟨pq, hpq, e2'⟩ := aa2.get hq1'
          have las := aa2.len
          rw [← las] at hpq
          refine ⟨_, rfl, _, rfl, _, rfl, al, _, -1, .ref pq, rfl, rfl, SqL.of a1, atI_end (by rw [List.length_map, List.getElem?_map, hpq]; rfl), pq, _, 0, _, rfl, rfl, SqT.of e2', rfl, _, rfl, u, _, 1, _, rfl, rfl, hux7, rfl, (by show 4 ≤ sizeLine; decide), fun t nt => ?_⟩
          have XK0 := X7.same (sadd (o := .tup [.str "back", optN (some r), .int (k2' : Int), .int n2]) (Same.refl _) nt)
          have htX : upd H7 t (.tup [.str "back", optN (some r), .int (k2' : Int), .int n2]) t = some (.tup (Crs.back (r : Int) (k2' : Int) n2).vs) := upd_same
          generalize upd H7 t (.tup [.str "back", optN (some r), .int (k2' : Int), .int n2]) = H8 at XK0 htX ⊢
          refine ⟨_, rfl, t, _, 0, _, rfl, rfl, SqT.of htX, rfl, rfl, _, rfl, iteF ?_⟩
          refine ⟨_, rfl, t, _, 0, _, rfl, rfl, SqT.of htX, rfl, rfl, _, rfl, iteT ?_⟩
          refine ⟨_, rfl, _, rfl, _, rfl, t, _, 2, _, rfl, rfl, SqT.of htX, rfl, _, rfl, t, _, 3, _, rfl, rfl, SqT.of htX, rfl, (by show 2 ≤ sizeLine; decide), fun tI ntI => ?_⟩
          have XI := XK0.same (sadd (o := .tup [.str "got", .int n2]) (Same.refl _) ntI)
          have htI : upd H8 tI (.tup [.str "got", .int n2]) tI = some (.tup (It.got n2).vs) := upd_same
          replace htX := (sadd (o := .tup [.str "got", .int n2]) (Same.refl H8) ntI) _ _ htX
          generalize upd H8 tI (.tup [.str "got", .int n2]) = H9 at XI htI htX ⊢
          have hkB := hk2
          have cbB : cat_ (bump J.cnt r) k2' ≤ (vat vs k2').length := by
            rw [cat_bump (by rw [I5.lc]; exact hr5)]
            by_cases e : r = k2'
            · rw [if_pos e, e, ← e, em]
              exact hlt
            · rw [if_neg e]
              exact (I5.pre k2' hkB).2
          refine ⟨vl, cl, tI, vs, F.R, bump J.cnt r, k2', .got n2, rfl, hV.same XI.s, XI.hc, (by rw [len_bump]; exact I5.lc), hkB, cbB, hl k2', SqT.of htI, fun hyes => ?_, fun hno p np => ?_⟩
          · have XK := XI.putc (bump (bump J.cnt r) k2')
            have ht := (upd_ne (o := .lst ((bump (bump J.cnt r) k2').map natV)) (ne_of htX XI.hc (fun z => nomatch z))).trans htX
            generalize upd H9 cl (.lst ((bump (bump J.cnt r) k2').map natV)) = HK at XK ht ⊢
            have hja : jact F vs J r = .ok (some k2') ⟨bump (bump J.cnt r) k2', J.asks.dropLast, J.joint ++ [.back r k2' n2]⟩ := by unfold jact; rw [hnx]; show (match J.asks.getLast? with | none => _ | some k => _) = _; rw [gl]; exact if_pos hyes
            obtain ⟨ps, r1, r2⟩ := id XK.hr
            refine ⟨_, rfl, rfl, _, rfl, iteF ?_⟩
            refine ⟨_, rfl, .inl ⟨rfl, _, SqL.of r1⟩, _, rfl, rl, _, _, rfl, rfl, r1, (by rw [List.length_map, r2.len, sizeLine_eq]; omega), ?_⟩
            have XL := XK.putr (x := (Crs.back (r : Int) (k2' : Int) n2)) ht r1 r2
            have htl := (upd_ne (o := .lst (ps.map V.ref ++ [.ref t])) (ne_of ht r1 (fun z => nomatch z))).trans ht
            generalize upd _ rl (.lst (ps.map V.ref ++ [.ref t])) = HL at XL htl ⊢
            cases R5 with
            | err h => rw [hja] at h; cases h
            | step h R' =>
              rw [hja] at h
              cases h
              have I6 := I5.step hF hG hja
              have S6 := (S5.step hF I5.lc hr5 hja).1
              refine ⟨_, rfl, _, rfl, _, rfl, _, al, t, some (r : Int), as, (Crs.back (r : Int) (k2' : Int) n2), rfl, XL.ha, htl, by omega, fun w' al' H8 s8 nw e8 hw ha' => ?_⟩
              refine ⟨w', _, rfl, SqT.of hw, rfl, _, _, rfl, _, _, rfl, rfl, ?_⟩
              exact ⟨_, Nat.lt_succ_self _, _, _, al', _, _, _, _, _, rfl, R', XL.seta s8 e8 ha', I6, (fun r' z => by cases z; show _ = (stt (none, []) (J.joint ++ [(Crs.back (r : Int) (k2' : Int) n2)])).2; rw [stt_snoc, est]), S6⟩
          · have XK := XI.same (sadd (o := .tup [.int (k2' : Int), .int (cat_ (bump J.cnt r) k2' : Nat)]) (Same.refl _) np)
            have hp : upd H9 p (.tup [.int (k2' : Int), .int (cat_ (bump J.cnt r) k2' : Nat)]) p = some (.tup [.int (k2' : Int), .int (cat_ (bump J.cnt r) k2' : Nat)]) := upd_same
            have htK := sadd (o := .tup [.int (k2' : Int), .int (cat_ (bump J.cnt r) k2' : Nat)]) (Same.refl _) np _ _ htX
            generalize upd H9 p (.tup [.int (k2' : Int), .int (cat_ (bump J.cnt r) k2' : Nat)]) = HK at XK hp htK ⊢
            have hja : jact F vs J r = .err k2' (cat_ (bump J.cnt r) k2') := by unfold jact; rw [hnx]; show (match J.asks.getLast? with | none => _ | some k => _) = _; rw [gl]; exact if_neg hno
            refine ⟨_, rfl, rfl, _, rfl, iteT ?_⟩
            refine ⟨_, rfl, (by show 2 ≤ sizeLine; decide), fun p2 np2 => ?_⟩
            have XM := XK.same (sadd (o := .tup [.non, .ref p]) (Same.refl _) np2)
            cases R5 with
            | step h R' => rw [hja] at h; cases h
            | err h =>
              rw [hja] at h
              cases h
              rcases hout with ⟨x', y', e1, e2⟩ | ⟨J1, e1, _⟩
              · cases e1
                exact k2 _ _ e2 p2 p _ XM.s upd_same ((upd_ne (ne_of_none hp np2)).trans hp)
              · cases e1
      | calls b d n2 =>
        refine ⟨_, rfl, u, _, 0, _, rfl, rfl, hux6, rfl, rfl, _, rfl, iteF ?_⟩
        refine ⟨_, rfl, u, _, 0, _, rfl, rfl, hux6, rfl, rfl, _, rfl, iteF ?_⟩
        obtain ⟨wp, hwp⟩ : ∃ wp, wps[r]? = some wp := ⟨_, List.getElem?_eq_getElem (by omega)⟩
        obtain ⟨pps, pp1, pp2⟩ := b5 _ _ hwp
        have aw : atI (wps.map V.ref) (r : Int) = some (.ref wp) := atI_nat (by rw [List.getElem?_map, hwp]; rfl)
        refine ⟨_, rfl, _, rfl, _, rfl, u, _, rfl, hux6, (by show ¬ ((1 : Nat) = 0 ∧ _); rintro ⟨z, _⟩; cases z), fun e ne => ?_⟩
        rw [show cutV (It.calls b d n2).vs (some 1) (some 3) = [.int b, .int d] from rfl]
        have X7 := X6.same (sadd (o := .tup [.int b, .int d]) (Same.refl _) ne)
        have he : upd H6 e (.tup [.int b, .int d]) e = some (.tup [.int b, .int d]) := upd_same
        have hux7 := same_seq2 (sadd (o := .tup [.int b, .int d]) (Same.refl H6) ne) hux6
        generalize upd H6 e (.tup [.int b, .int d]) = H7 at X7 he hux7 ⊢
        refine ⟨_, rfl, _, rfl, wt, _, (r : Int), .ref wp, rfl, rfl, SqT.of (X7.s _ _ b2), aw, ?_⟩
        refine ⟨pairD (b, d), _, .tup (SqT.of he) (.cons (.int _) (.cons (.int _) .nil)), .tup (SqT.of (X7.s _ _ pp1)) ((pp2.mono fun q xs e => X7.s _ _ e).dp), shaped_pair _ _, shaped_pairs _, ?_⟩
        rw [any_pair]
        by_cases hw : (b, d) ∈ F.ws r
        case neg =>
          rw [decide_eq_false hw]
          refine ⟨_, rfl, iteT ?_⟩
          refine ⟨_, rfl, _, rfl, (by show 2 ≤ sizeLine; decide), fun p np => ⟨(by show 2 ≤ sizeLine; decide), fun p2 np2 => ?_⟩⟩
          have XK := X7.same (sadd (o := .tup [optN (some r), .int (m : Int)]) (Same.refl _) np)
          have hp : upd H7 p (.tup [optN (some r), .int (m : Int)]) p = some (.tup [.int (r : Int), .int (m : Int)]) := upd_same
          generalize upd H7 p (.tup [optN (some r), .int (m : Int)]) = HK at XK hp np2 ⊢
          have XM := XK.same (sadd (o := .tup [.non, .ref p]) (Same.refl _) np2)
          have hja : jact F vs J r = .err r m := by unfold jact; rw [hnx, ← em]; exact if_neg hw
          cases R5 with
          | step h R' => rw [hja] at h; cases h
          | err h =>
            rw [hja] at h
            cases h
            rcases hout with ⟨x', y', e1, e2⟩ | ⟨J1, e1, _⟩
            · cases e1
              exact k2 _ _ e2 p2 p _ XM.s upd_same ((upd_ne (ne_of_none hp np2)).trans hp)
            · cases e1
        rw [decide_eq_true hw]
        refine ⟨_, rfl, iteF ?_⟩
        obtain ⟨w1', w2', w3', _⟩ := (hF.wi r hr5).2.2 _ hw
        have b0 : 0 ≤ b := w1'
        have b1' : b < (F.R : Int) := w2'
        obtain ⟨b', rfl⟩ := Int.eq_ofNat_of_zero_le b0
        have hkB : b' < F.R := by omega
        obtain ⟨qs, a1, aa2⟩ := id X7.ha
        have lq := aa2.len
        have lasks : J.asks.length = as.length := by rw [eas]; exact al5.2.2.2
        refine ⟨_, rfl, al, _, rfl, .inl (SqL.of a1), _, rfl, _, _, rfl, rfl, _, rfl, ?_⟩
        have ela : decide ((((qs.map V.ref).length : Nat) : Int) < F.dep) = decide ((as.length : Int) < F.dep) := by rw [List.length_map, lq]
        rw [ela]
        by_cases hd : (as.length : Int) < F.dep
        case neg =>
          rw [decide_eq_false hd]
          refine iteF ?_
          refine ⟨_, rfl, (by show 2 ≤ sizeLine; decide), fun t1 nt1 => ?_⟩
          have X8 := X7.same (sadd (o := .tup [.str "deep", optN (some r)]) (Same.refl _) nt1)
          have hux8 := same_seq2 (sadd (o := .tup [.str "deep", optN (some r)]) (Same.refl H7) nt1) hux7
          have ht1 : upd H7 t1 (.tup [.str "deep", optN (some r)]) t1 = some (.tup [.str "deep", optN (some r)]) := upd_same
          generalize upd H7 t1 (.tup [.str "deep", optN (some r)]) = H8 at X8 hux8 ht1 ⊢
          refine ⟨_, rfl, _, rfl, u, _, rfl, hux8, (by show ¬ ((1 : Nat) = 0 ∧ _); rintro ⟨z, _⟩; cases z), fun t2 nt2 => ?_⟩
          rw [show cutV (It.calls (b' : Int) d n2).vs (some 1) none = [.int (b' : Int), .int d, .int n2] from rfl]
          have X9 := X8.same (sadd (o := .tup [.int (b' : Int), .int d, .int n2]) (Same.refl _) nt2)
          have ht19 := sadd (o := .tup [.int (b' : Int), .int d, .int n2]) (Same.refl H8) nt2 _ _ ht1
          have ht2 : upd H8 t2 (.tup [.int (b' : Int), .int d, .int n2]) t2 = some (.tup [.int (b' : Int), .int d, .int n2]) := upd_same
          generalize upd H8 t2 (.tup [.int (b' : Int), .int d, .int n2]) = H9 at X9 ht19 ht2 ⊢
          refine ⟨t1, t2, _, _, rfl, rfl, SqT.of ht19, SqT.of ht2, (fun z => nomatch z), (by show 5 ≤ sizeLine; decide), (fun z => nomatch z), fun _ t nt => ?_⟩
          have XQ := X9.same (sadd (o := .tup ([.str "deep", optN (some r)] ++ [.int (b' : Int), .int d, .int n2])) (Same.refl _) nt)
          have htX : upd H9 t (.tup ([.str "deep", optN (some r)] ++ [.int (b' : Int), .int d, .int n2])) t = some (.tup (Crs.deep (r : Int) (b' : Int) d n2).vs) := upd_same
          generalize upd H9 t (.tup ([.str "deep", optN (some r)] ++ [.int (b' : Int), .int d, .int n2])) = H11 at XQ htX ⊢
          have XK := XQ
          have ht := htX
          have hja : jact F vs J r = .ok none ⟨bump J.cnt r, J.asks, J.joint ++ [.deep r (b' : Int) d n2]⟩ := by
            have le : ((stt (none, []) J.joint).2.length : Int) ≤ F.dep := (I5.vr.ok hF).le
            rw [← eas] at le
            unfold jact
            rw [hnx]
            show (if _ then (if _ then _ else _) else _) = _
            rw [if_pos hw, if_pos (by rw [lasks]; omega)]
          refine ⟨_, rfl, t, _, 0, _, rfl, rfl, SqT.of ht, rfl, rfl, _, rfl, iteF ?_⟩
          refine ⟨_, rfl, t, _, 0, _, rfl, rfl, SqT.of ht, rfl, rfl, _, rfl, iteF ?_⟩
          obtain ⟨ps, r1, r2⟩ := id XK.hr
          refine ⟨_, rfl, rfl, _, rfl, iteF ?_⟩
          refine ⟨_, rfl, .inl ⟨rfl, _, SqL.of r1⟩, _, rfl, rl, _, _, rfl, rfl, r1, (by rw [List.length_map, r2.len, sizeLine_eq]; omega), ?_⟩
          have XL := XK.putr (x := (Crs.deep (r : Int) (b' : Int) d n2)) ht r1 r2
          have htl := (upd_ne (o := .lst (ps.map V.ref ++ [.ref t])) (ne_of ht r1 (fun z => nomatch z))).trans ht
          generalize upd _ rl (.lst (ps.map V.ref ++ [.ref t])) = HL at XL htl ⊢
          cases R5 with
          | err h => rw [hja] at h; cases h
          | step h R' =>
            rw [hja] at h
            cases h
            have I6 := I5.step hF hG hja
            have S6 := (S5.step hF I5.lc hr5 hja).1
            refine ⟨_, rfl, _, rfl, _, rfl, _, al, t, some (r : Int), as, (Crs.deep (r : Int) (b' : Int) d n2), rfl, XL.ha, htl, by omega, fun w' al' H8 s8 nw e8 hw ha' => ?_⟩
            refine ⟨w', _, rfl, SqT.of hw, rfl, _, _, rfl, _, _, rfl, rfl, ?_⟩
            exact ⟨_, Nat.lt_succ_self _, _, _, al', _, _, _, _, _, rfl, R', XL.seta s8 e8 ha', I6, (fun r' z => by cases z), S6⟩
        rw [decide_eq_true hd]
        refine iteT ?_
        refine ⟨_, rfl, (by show 2 ≤ sizeLine; decide), fun t1 nt1 => ?_⟩
        have X8 := X7.same (sadd (o := .tup [.str "call", optN (some r)]) (Same.refl _) nt1)
        have hux8 := same_seq2 (sadd (o := .tup [.str "call", optN (some r)]) (Same.refl H7) nt1) hux7
        have ht1 : upd H7 t1 (.tup [.str "call", optN (some r)]) t1 = some (.tup [.str "call", optN (some r)]) := upd_same
        generalize upd H7 t1 (.tup [.str "call", optN (some r)]) = H8 at X8 hux8 ht1 ⊢
        refine ⟨_, rfl, _, rfl, u, _, rfl, hux8, (by show ¬ ((1 : Nat) = 0 ∧ _); rintro ⟨z, _⟩; cases z), fun t2 nt2 => ?_⟩
        rw [show cutV (It.calls (b' : Int) d n2).vs (some 1) none = [.int (b' : Int), .int d, .int n2] from rfl]
        have X9 := X8.same (sadd (o := .tup [.int (b' : Int), .int d, .int n2]) (Same.refl _) nt2)
        have ht19 := sadd (o := .tup [.int (b' : Int), .int d, .int n2]) (Same.refl H8) nt2 _ _ ht1
        have ht2 : upd H8 t2 (.tup [.int (b' : Int), .int d, .int n2]) t2 = some (.tup [.int (b' : Int), .int d, .int n2]) := upd_same
        generalize upd H8 t2 (.tup [.int (b' : Int), .int d, .int n2]) = H9 at X9 ht19 ht2 ⊢
        refine ⟨t1, t2, _, _, rfl, rfl, SqT.of ht19, SqT.of ht2, (fun z => nomatch z), (by show 5 ≤ sizeLine; decide), (fun z => nomatch z), fun _ t nt => ?_⟩
        have XQ := X9.same (sadd (o := .tup ([.str "call", optN (some r)] ++ [.int (b' : Int), .int d, .int n2])) (Same.refl _) nt)
        have htX : upd H9 t (.tup ([.str "call", optN (some r)] ++ [.int (b' : Int), .int d, .int n2])) t = some (.tup (Crs.call (r : Int) (b' : Int) d n2).vs) := upd_same
        generalize upd H9 t (.tup ([.str "call", optN (some r)] ++ [.int (b' : Int), .int d, .int n2])) = H11 at XQ htX ⊢
        refine ⟨_, rfl, t, _, 0, _, rfl, rfl, SqT.of htX, rfl, rfl, _, rfl, iteT ?_⟩
        refine ⟨_, rfl, _, rfl, _, rfl, t, _, 2, _, rfl, rfl, SqT.of htX, rfl, (by show 1 ≤ sizeLine; decide), fun t3 nt3 => ?_⟩
        have X12 := XQ.same (sadd (o := .tup [.str "in"]) (Same.refl _) nt3)
        have ht3 : upd H11 t3 (.tup [.str "in"]) t3 = some (.tup [.str "in"]) := upd_same
        replace htX := (sadd (o := .tup [.str "in"]) (Same.refl H11) nt3) _ _ htX
        generalize upd H11 t3 (.tup [.str "in"]) = H12 at X12 ht3 htX ⊢
        refine ⟨_, rfl, _, rfl, t, _, rfl, SqT.of htX, (by show ¬ ((3 : Nat) = 0 ∧ _); rintro ⟨z, _⟩; cases z), fun t4 nt4 => ?_⟩
        rw [show cutV (Crs.call (r : Int) (b' : Int) d n2).vs (some 3) none = [.int d, .int n2] from rfl]
        have X13 := X12.same (sadd (o := .tup [.int d, .int n2]) (Same.refl _) nt4)
        have ht4 : upd H12 t4 (.tup [.int d, .int n2]) t4 = some (.tup [.int d, .int n2]) := upd_same
        replace htX := (sadd (o := .tup [.int d, .int n2]) (Same.refl H12) nt4) _ _ htX
        replace ht3 := (sadd (o := .tup [.int d, .int n2]) (Same.refl H12) nt4) _ _ ht3
        generalize upd H12 t4 (.tup [.int d, .int n2]) = H13 at X13 ht3 ht4 htX ⊢
        refine ⟨t3, t4, _, _, rfl, rfl, SqT.of ht3, SqT.of ht4, (fun z => nomatch z), (by show 3 ≤ sizeLine; decide), (fun z => nomatch z), fun _ tI ntI => ?_⟩
        have XI := X13.same (sadd (o := .tup ([.str "in"] ++ [.int d, .int n2])) (Same.refl _) ntI)
        have htI : upd H13 tI (.tup ([.str "in"] ++ [.int d, .int n2])) tI = some (.tup (It.inn d n2).vs) := upd_same
        replace htX := (sadd (o := .tup ([.str "in"] ++ [.int d, .int n2])) (Same.refl H13) ntI) _ _ htX
        generalize upd H13 tI (.tup ([.str "in"] ++ [.int d, .int n2])) = H14 at XI htI htX ⊢
        have cbB : cat_ (bump J.cnt r) b' ≤ (vat vs b').length := by
          rw [cat_bump (by rw [I5.lc]; exact hr5)]
          by_cases e : r = b'
          · rw [if_pos e, e, ← e, em]
            exact hlt
          · rw [if_neg e]
            exact (I5.pre b' hkB).2
        refine ⟨vl, cl, tI, vs, F.R, bump J.cnt r, b', .inn d n2, rfl, hV.same XI.s, XI.hc, (by rw [len_bump]; exact I5.lc), hkB, cbB, hl b', SqT.of htI, fun hyes => ?_, fun hno p np => ?_⟩
        · have XK := XI.putc (bump (bump J.cnt r) b')
          have ht := (upd_ne (o := .lst ((bump (bump J.cnt r) b').map natV)) (ne_of htX XI.hc (fun z => nomatch z))).trans htX
          generalize upd H14 cl (.lst ((bump (bump J.cnt r) b').map natV)) = HK at XK ht ⊢
          have hja : jact F vs J r = .ok (some b') ⟨bump (bump J.cnt r) b', J.asks ++ [r], J.joint ++ [.call r (b' : Int) d n2]⟩ := by unfold jact; rw [hnx]; show (if _ then (if _ then _ else (if nextI vs (bump J.cnt r) (Int.toNat (b' : Int)) = _ then _ else _)) else _) = _; rw [if_pos hw, if_neg (by rw [lasks]; omega), Int.toNat_natCast]; exact if_pos hyes
          refine ⟨_, rfl, t, _, 0, _, rfl, rfl, SqT.of ht, rfl, rfl, _, rfl, iteF ?_⟩
          obtain ⟨ps, r1, r2⟩ := id XK.hr
          refine ⟨_, rfl, rfl, _, rfl, iteF ?_⟩
          refine ⟨_, rfl, .inl ⟨rfl, _, SqL.of r1⟩, _, rfl, rl, _, _, rfl, rfl, r1, (by rw [List.length_map, r2.len, sizeLine_eq]; omega), ?_⟩
          have XL := XK.putr (x := (Crs.call (r : Int) (b' : Int) d n2)) ht r1 r2
          have htl := (upd_ne (o := .lst (ps.map V.ref ++ [.ref t])) (ne_of ht r1 (fun z => nomatch z))).trans ht
          generalize upd _ rl (.lst (ps.map V.ref ++ [.ref t])) = HL at XL htl ⊢
          cases R5 with
          | err h => rw [hja] at h; cases h
          | step h R' =>
            rw [hja] at h
            cases h
            have I6 := I5.step hF hG hja
            have S6 := (S5.step hF I5.lc hr5 hja).1
            refine ⟨_, rfl, _, rfl, _, rfl, _, al, t, some (r : Int), as, (Crs.call (r : Int) (b' : Int) d n2), rfl, XL.ha, htl, by omega, fun w' al' H8 s8 nw e8 hw ha' => ?_⟩
            refine ⟨w', _, rfl, SqT.of hw, rfl, _, _, rfl, _, _, rfl, rfl, ?_⟩
            exact ⟨_, Nat.lt_succ_self _, _, _, al', _, _, _, _, _, rfl, R', XL.seta s8 e8 ha', I6, (fun r' z => by cases z; show _ = (stt (none, []) (J.joint ++ [(Crs.call (r : Int) (b' : Int) d n2)])).2; rw [stt_snoc, est]), S6⟩
        · have XK := XI.same (sadd (o := .tup [.int (b' : Int), .int (cat_ (bump J.cnt r) b' : Nat)]) (Same.refl _) np)
          have hp : upd H14 p (.tup [.int (b' : Int), .int (cat_ (bump J.cnt r) b' : Nat)]) p = some (.tup [.int (b' : Int), .int (cat_ (bump J.cnt r) b' : Nat)]) := upd_same
          have htK := sadd (o := .tup [.int (b' : Int), .int (cat_ (bump J.cnt r) b' : Nat)]) (Same.refl _) np _ _ htX
          generalize upd H14 p (.tup [.int (b' : Int), .int (cat_ (bump J.cnt r) b' : Nat)]) = HK at XK hp htK ⊢
          have hja : jact F vs J r = .err b' (cat_ (bump J.cnt r) b') := by unfold jact; rw [hnx]; show (if _ then (if _ then _ else (if nextI vs (bump J.cnt r) (Int.toNat (b' : Int)) = _ then _ else _)) else _) = _; rw [if_pos hw, if_neg (by rw [lasks]; omega), Int.toNat_natCast]; exact if_neg hno
          refine ⟨_, rfl, t, _, 0, _, rfl, rfl, SqT.of htK, rfl, rfl, _, rfl, iteF ?_⟩
          refine ⟨_, rfl, rfl, _, rfl, iteT ?_⟩
          refine ⟨_, rfl, (by show 2 ≤ sizeLine; decide), fun p2 np2 => ?_⟩
          have XM := XK.same (sadd (o := .tup [.non, .ref p]) (Same.refl _) np2)
          cases R5 with
          | step h R' => rw [hja] at h; cases h
          | err h =>
            rw [hja] at h
            cases h
            rcases hout with ⟨x', y', e1, e2⟩ | ⟨J1, e1, _⟩
            · cases e1
              exact k2 _ _ e2 p2 p _ XM.s upd_same ((upd_ne (ne_of_none hp np2)).trans hp)
            · cases e1
      | inn _ _ => exact kx.elim
      | got _ => exact kx.elim
end
end OH
end
section
set_option Elab.async false
set_option linter.all false
set_option maxRecDepth 100000
set_option maxHeartbeats 8000000
/-! Spoilt items. -/
namespace OH
open PySem PySem.Spec PyProof.Rows L2
theorem sqt_fr {K : PySem.W.Frag} {H H' : Hp} {st g c a : Addr} {n : Nat} {xs : List V} (S : SA H st g c n) (F : Fr st g H H') (h : SqT K H a xs) : SqT K H' a xs := by
  obtain ⟨⟨r, t, _, _, _, e1⟩, ⟨gs, e2, _⟩, _⟩ := S
  rcases h with (h | ⟨o, h⟩) | h
  · exact .inl (.inl (F _ _ h (ne_of h e1 (fun z => nomatch z)) (ne_of h e2 (fun z => nomatch z))))
  · exact .inl (.inr ⟨o, F _ _ h (ne_of h e1 (fun z => nomatch z)) (ne_of h e2 (fun z => nomatch z))⟩)
  · exact .inr h
theorem Jt.setv (x : Jt) (i : Nat) (a : Av) (h1 : 1 ≤ i) (h2 : i < x.vs.length) : ∃ y : Jt, y.vs = x.vs.take i ++ [a.v] ++ x.vs.drop (i + 1) := by
  cases x with
  | inn d n =>
    match i, h1, h2 with
    | 1, _, _ => exact ⟨.inn a n, rfl⟩
    | 2, _, _ => exact ⟨.inn d a, rfl⟩
    | i + 3, _, h => exact absurd h (by show ¬ i + 3 < 3; omega)
  | got n =>
    match i, h1, h2 with
    | 1, _, _ => exact ⟨.got a, rfl⟩
    | i + 2, _, h => exact absurd h (by show ¬ i + 2 < 2; omega)
  | calls b d n =>
    match i, h1, h2 with
    | 1, _, _ => exact ⟨.calls a d n, rfl⟩
    | 2, _, _ => exact ⟨.calls b a n, rfl⟩
    | 3, _, _ => exact ⟨.calls b d a, rfl⟩
    | i + 4, _, h => exact absurd h (by show ¬ i + 4 < 4; omega)
  | gives n =>
    match i, h1, h2 with
    | 1, _, _ => exact ⟨.gives a, rfl⟩
    | i + 2, _, h => exact absurd h (by show ¬ i + 2 < 2; omega)
  | ends => exact absurd h2 (by show ¬ i < 1; omega)
theorem cutV_fromZ (xs : List V) (n : Nat) (h : n ≤ xs.length) : cutV xs (some (n : Int)) none = xs.drop n := by
  unfold cutV
  have e1 : HT.sIx xs.length 0 (some (n : Int)) = n := by
    rw [HT.sIx_nat]
    omega
  have e2 : HT.sIx xs.length xs.length none = xs.length := by simp [HT.sIx]
  rw [e1, e2]
  exact List.take_of_length_le (by rw [List.length_drop]; exact Nat.le_refl _)
theorem Jt.at0 (x : Jt) : atI x.vs 0 = some (.str x.word) := by cases x <;> rfl
theorem Jt.len4 (x : Jt) : 1 ≤ x.vs.length ∧ x.vs.length ≤ 4 := by cases x <;> simp [Jt.vs]
def spSpI (K : PySem.W.Frag) : Sp := fun vs H Q _ => ∃ (st g c u : Addr) (n : Nat) (x : Jt), vs = [.ref st, .ref u] ∧ SA H st g c n ∧ n ≤ 700000 ∧ SqT K H u x.vs ∧
  ∀ (t : Addr) (y : Jt) H', SqT K H' t y.vs → SA H' st g c (n + 20) → Fr st g H H' → Q (.ref t) H'
section
variable {P : Program} {w : World} {K : PySem.W.Frag} {mg : Str → Option Value} {base : Heap}
abbrev nSI : List Str := ["state", "item", "way", "events", "acts", "at", "fresh"]
theorem sc__law_spoilt_item : FnScope nSI ["state", "item"] (defScope s__law_spoilt_item) := ⟨rfl, rfl, rfl, by decide +kernel, rfl, by decide +kernel, by decide +kernel⟩
theorem ok__law_spoilt_item {f : Addr} {fd : FuncData} (F : Fun K "_law_spoilt_item" "_law_spoilt_item" s__law_spoilt_item f fd) (T : Txt K mg) (DD : DefF P w K mg base CX0 4 "_law_draw" ["state", "room"] spDraw) (DP : DefF P w K mg base CX0 4 "_law_pick" ["state", "some"] spPick2) (DM : DefF P w K mg base CX0 4 "_law_small" ["state"] (spNo 2)) : FnOk P w K mg base CX0 5 f fd ["state", "item"] (spSpI K) := by
  refine F.ok sc__law_spoilt_item (fun vs H Q E h => ?_) (fun cdv A outer s H vs Q E hr h => ?_)
  · obtain ⟨st, g, c, u, n, x, rfl, _⟩ := h
    rfl
  · obtain ⟨st, g, c, u, n, x, rfl, S, hn, hu, k⟩ := h
    have nd := sc__law_spoilt_item.nd
    refine ⟨_, pss_cons (ps_set (i := 2) nd rfl (Or.inl rfl) (pe_cD DD hr rfl pass0 (pa_cons (pv 0) (pa_cons pe_int pa_nil))))
      (pss_cons (ps_if (pt_up (PW.pt (pw_or (pt_cmpR op_eq (pe_callB call_len_seq (by rfl) T.nLen PySem.boot_len (pa_cons (pv 1) pa_nil)) pe_int (nomark _)) (pw_or1 (pt_cmpR op_eq (pv 2) pe_int (nomark _)))))) (pss_cons (ps_set (i := 3) nd rfl (Or.inl rfl) (pe_lst (pa_cons (pe_tup (pa_cons pe_str (pa_cons (pe_cD DD hr rfl pass0 (pa_cons (pv 0) (pa_cons pe_int pa_nil))) (pa_cons (pe_cD DM hr rfl pass0 (pa_cons (pv 0) pa_nil)) pa_nil)))) (pa_cons (pe_tup (pa_cons pe_str (pa_cons (pe_cD DM hr rfl pass0 (pa_cons (pv 0) pa_nil)) pa_nil))) pa_nil))))
      (pss_cons (ps_set (i := 4) nd rfl (Or.inl rfl) (pe_lst (pa_cons (pe_tup (pa_cons pe_str (pa_cons (pe_cD DD hr rfl pass0 (pa_cons (pv 0) (pa_cons pe_int pa_nil))) (pa_cons (pe_cD DD hr rfl pass0 (pa_cons (pv 0) (pa_cons pe_int pa_nil))) (pa_cons (pe_cD DM hr rfl pass0 (pa_cons (pv 0) pa_nil)) pa_nil))))) (pa_cons (pe_tup (pa_cons pe_str (pa_cons pe_int pa_nil))) (pa_cons (pe_tup (pa_cons pe_str pa_nil)) pa_nil)))))
      (pss_one (ps_ret (pe_cD DP hr rfl pass0 (pa_cons (pv 0) (pa_cons (pe_ifExp (pt_cmpR op_in_seq (pe_ix ix_tup (pv 1) pe_int (fun _ _ => rfl)) (pe_lst (pa_cons pe_str (pa_cons pe_str pa_nil))) (by rfl)) (pv 3) (pv 4)) pa_nil))))))) pss_nil)
      (pss_cons (ps_set (i := 5) nd rfl (Or.inl rfl) (pe_op op_add pe_int (pe_cD DD hr rfl pass0 (pa_cons (pv 0) (pa_cons (pe_op op_sub (pe_callB call_len_seq (by rfl) T.nLen PySem.boot_len (pa_cons (pv 1) pa_nil)) pe_int) pa_nil)))))
      (pss_cons (ps_set (i := 6) nd rfl (Or.inl rfl) (pe_up (pe_ifExp (pt_cmpR op_eq (pv 5) (pe_op op_sub (pe_callB call_len_seq (by rfl) T.nLen PySem.boot_len (pa_cons (pv 1) pa_nil)) pe_int) (nomark _)) (pe_cD DM hr rfl pass0 (pa_cons (pv 0) pa_nil)) (pe_cD DD hr rfl pass0 (pa_cons (pv 0) (pa_cons pe_int pa_nil))))))
      (pss_one (ps_ret (pe_op op_catT (pe_op op_catT (pe_slice sl_tup (pv 1) po_none (po_some (pv 5))) (pe_tup (pa_cons (pe_cD DP hr rfl pass0 (pa_cons (pv 0) (pa_cons (pe_lst (pa_cons (pv 6) (pa_cons (pv 6) (pa_cons (pv 6) (pa_cons (pv 6) (pa_cons pe_int (pa_cons pe_bl (pa_cons pe_non pa_nil)))))))) pa_nil))) pa_nil))) (pe_slice sl_tup (pv 1) (po_some (pe_op op_add (pv 5) pe_int)) po_none))))))), ?_⟩
    refine ⟨_, rfl, st, g, c, _, 4, rfl, S, by omega, by decide, by decide, fun way H1 w0 w4 S1 F1 => ?_⟩
    replace hu := sqt_fr S F1 hu
    clear S
    refine ⟨fun b H' => H' = H1 ∧ (b = false → x.vs.length ≠ 1), ?_, ?_⟩
    · refine ⟨_, rfl, u, _, rfl, .inr hu, rfl, _, rfl, ite2 (fun z => ⟨rfl, fun e => nomatch e⟩) (fun z => ?_)⟩
      refine ⟨_, rfl, rfl, _, rfl, rfl, fun _ e => z (decide_eq_true ?_)⟩
      rw [e]
      rfl
    rintro b H' ⟨rfl, hb⟩
    cases b with
    | true =>
      refine iteT ?_
      refine ⟨_, rfl, st, g, c, _, 3, rfl, S1, by omega, by decide, by decide, fun d1 H2 _ _ S2 F2 => ?_⟩
      refine ⟨_, rfl, st, g, c, _, rfl, S2, by omega, fun z1 H3 _ _ S3 F3 => ?_⟩
      refine ⟨(by show 3 ≤ sizeLine; decide), fun t1 nt1 => ?_⟩
      have a1 := sadd (o := .tup [.str "in", .int d1, .int z1]) (Same.refl H3) nt1
      have ht1 : upd H3 t1 (.tup [.str "in", .int d1, .int z1]) t1 = some (.tup (Jt.inn (.n d1) (.n z1)).vs) := upd_same
      generalize upd H3 t1 (.tup [.str "in", .int d1, .int z1]) = H4 at a1 ht1 ⊢
      have S4 := S3.same a1
      have F4 := ((F1.trans F2).trans F3).trans (Fr.of a1)
      replace hu := sqt_fr S3 (Fr.of a1) (sqt_fr S2 F3 (sqt_fr S1 F2 hu))
      clear S1 S2 S3 F1 F2 F3 a1 nt1
      have q1 : SqT K H4 t1 (Jt.inn (.n d1) (.n z1)).vs := SqT.of ht1
      clear ht1
      refine ⟨_, rfl, st, g, c, _, rfl, S4, by omega, fun z2 H5 _ _ S5 F5 => ?_⟩
      refine ⟨(by show 2 ≤ sizeLine; decide), fun t2 nt2 => ?_⟩
      have a1 := sadd (o := .tup [.str "got", .int z2]) (Same.refl H5) nt2
      have ht2 : upd H5 t2 (.tup [.str "got", .int z2]) t2 = some (.tup (Jt.got (.n z2)).vs) := upd_same
      generalize upd H5 t2 (.tup [.str "got", .int z2]) = H6 at a1 ht2 ⊢
      have q2 : SqT K H6 t2 (Jt.got (.n z2)).vs := SqT.of ht2
      clear ht2 nt2
      refine ⟨(by show 2 ≤ sizeLine; decide), fun l1 nl1 => ?_⟩
      have a2 := sadd (o := .lst [.ref t1, .ref t2]) a1 nl1
      have hl1 : upd H6 l1 (.lst [.ref t1, .ref t2]) l1 = some (.lst [.ref t1, .ref t2]) := upd_same
      have b2 := sadd (o := .lst [.ref t1, .ref t2]) (Same.refl H6) nl1
      have ol1 := (S5.same a1).old nl1
      generalize upd H6 l1 (.lst [.ref t1, .ref t2]) = H7 at a2 hl1 b2 ⊢
      have S7 := S5.same a2
      have F7 := (F4.trans F5).trans (Fr.of a2)
      replace hu := sqt_fr S5 (Fr.of a2) (sqt_fr S4 F5 hu)
      replace q1 := sqt_fr S5 (Fr.of a2) (sqt_fr S4 F5 q1)
      replace q2 := same_seq2 b2 q2
      clear S4 S5 F4 F5 a1 a2 b2 nl1
      -- acts
      refine ⟨_, rfl, st, g, c, _, 5, rfl, S7, by omega, by decide, by decide, fun d2 H8 _ _ S8 F8 => ?_⟩
      refine ⟨_, rfl, st, g, c, _, 3, rfl, S8, by omega, by decide, by decide, fun d3 H9 _ _ S9 F9 => ?_⟩
      refine ⟨_, rfl, st, g, c, _, rfl, S9, by omega, fun z3 H10 _ _ S10 F10 => ?_⟩
      have fl1 := F10 _ _ (F9 _ _ (F8 _ _ hl1 ol1.1 ol1.2.1) ol1.1 ol1.2.1) ol1.1 ol1.2.1
      replace hu := sqt_fr S9 F10 (sqt_fr S8 F9 (sqt_fr S7 F8 hu))
      replace q1 := sqt_fr S9 F10 (sqt_fr S8 F9 (sqt_fr S7 F8 q1))
      replace q2 := sqt_fr S9 F10 (sqt_fr S8 F9 (sqt_fr S7 F8 q2))
      have G10 := ((F7.trans F8).trans F9).trans F10
      clear S7 S8 S9 F7 F8 F9 F10 hl1
      refine ⟨(by show 4 ≤ sizeLine; decide), fun t3 nt3 => ?_⟩
      have c3 := sadd (o := .tup [.str "calls", .int d2, .int d3, .int z3]) (Same.refl H10) nt3
      have q3 : SqT K (upd H10 t3 (.tup [.str "calls", .int d2, .int d3, .int z3])) t3 (Jt.calls (.n d2) (.n d3) (.n z3)).vs := SqT.of upd_same
      generalize upd H10 t3 (.tup [.str "calls", .int d2, .int d3, .int z3]) = H11 at c3 q3 ⊢
      refine ⟨(by show 2 ≤ sizeLine; decide), fun t4 nt4 => ?_⟩
      have c4 := sadd (o := .tup [.str "gives", .int 1]) c3 nt4
      have q4 : SqT K (upd H11 t4 (.tup [.str "gives", .int 1])) t4 (Jt.gives (.n 1)).vs := SqT.of upd_same
      replace q3 := same_seq2 (sadd (o := .tup [.str "gives", .int 1]) (Same.refl H11) nt4) q3
      generalize upd H11 t4 (.tup [.str "gives", .int 1]) = H12 at c4 q3 q4 ⊢
      refine ⟨(by show 1 ≤ sizeLine; decide), fun t5 nt5 => ?_⟩
      have c5 := sadd (o := .tup [.str "ends"]) c4 nt5
      have q5 : SqT K (upd H12 t5 (.tup [.str "ends"])) t5 Jt.ends.vs := SqT.of upd_same
      replace q3 := same_seq2 (sadd (o := .tup [.str "ends"]) (Same.refl H12) nt5) q3
      replace q4 := same_seq2 (sadd (o := .tup [.str "ends"]) (Same.refl H12) nt5) q4
      generalize upd H12 t5 (.tup [.str "ends"]) = H13 at c5 q3 q4 q5 ⊢
      refine ⟨(by show 3 ≤ sizeLine; decide), fun l2 nl2 => ?_⟩
      have c6 := sadd (o := .lst [.ref t3, .ref t4, .ref t5]) c5 nl2
      have hl2 : upd H13 l2 (.lst [.ref t3, .ref t4, .ref t5]) l2 = some (.lst [.ref t3, .ref t4, .ref t5]) := upd_same
      have b6 := sadd (o := .lst [.ref t3, .ref t4, .ref t5]) (Same.refl H13) nl2
      have ol2 := (S10.same c5).old nl2
      replace q3 := same_seq2 b6 q3
      replace q4 := same_seq2 b6 q4
      replace q5 := same_seq2 b6 q5
      replace q1 := same_seq2 c6 q1
      replace q2 := same_seq2 c6 q2
      replace hu := same_seq2 c6 hu
      replace fl1 := c6 _ _ fl1
      generalize upd H13 l2 (.lst [.ref t3, .ref t4, .ref t5]) = H14 at c6 hl2 q1 q2 q3 q4 q5 hu fl1 ⊢
      have S14 := S10.same c6
      have G14 := G10.trans (Fr.of c6)
      clear c3 c4 c5 c6 b6 nt3 nt4 nt5 nl2 S10 G10
      have fin : ∀ (l : Addr) (t : Addr) (y : Jt) H', SqT K H14 t y.vs → SA H' st g c (n + 20) → Fr st g H14 H' → Q (.ref t) H' := fun l t y H' q s f => k t y H' (sqt_fr S14 f q) s (G14.trans f)
      refine ⟨_, rfl, _, rfl, u, _, 0, _, rfl, rfl, hu, Jt.at0 x, (by show 2 ≤ sizeLine; decide), fun l3 nl3 => ?_⟩
      have a3 := sadd (o := .lst [.str "in", .str "got"]) (Same.refl H14) nl3
      refine ⟨l3, _, rfl, .inl (SqL.of upd_same), rfl, rfl, _, rfl, ?_⟩
      have ol3 := S14.old nl3
      have S15 := S14.same a3
      have G15 := Fr.of (st := st) (g := g) a3
      have fl1' := a3 _ _ fl1
      have fl2' := a3 _ _ hl2
      have r1 := same_seq2 a3 q1
      have r2 := same_seq2 a3 q2
      have r3 := same_seq2 a3 q3
      have r4 := same_seq2 a3 q4
      have r5 := same_seq2 a3 q5
      generalize upd H14 l3 (.lst [.str "in", .str "got"]) = H15 at S15 G15 fl1' fl2' r1 r2 r3 r4 r5 ⊢
      refine ite2 (fun _ => ?_) (fun _ => ?_)
      · refine ⟨_, rfl, st, g, c, l1, _, _, rfl, S15, by omega, .inl ⟨fl1', ol1.2.1⟩, (by show 0 < 2; decide), (by show 2 ≤ 1000000; decide), fun v H16 hv S16 F16 => ?_⟩
        have hv' : v ∈ [V.ref t1, V.ref t2] := hv
        simp only [List.mem_cons, List.not_mem_nil, or_false] at hv'
        rcases hv' with rfl | rfl
        · exact k t1 _ H16 (sqt_fr S15 F16 r1) (S16.mono (by omega)) ((G14.trans G15).trans F16)
        · exact k t2 _ H16 (sqt_fr S15 F16 r2) (S16.mono (by omega)) ((G14.trans G15).trans F16)
      · refine ⟨_, rfl, st, g, c, l2, _, _, rfl, S15, by omega, .inl ⟨fl2', ol2.2.1⟩, (by show 0 < 3; decide), (by show 3 ≤ 1000000; decide), fun v H16 hv S16 F16 => ?_⟩
        have hv' : v ∈ [V.ref t3, V.ref t4, V.ref t5] := hv
        simp only [List.mem_cons, List.not_mem_nil, or_false] at hv'
        rcases hv' with rfl | rfl | rfl
        · exact k t3 _ H16 (sqt_fr S15 F16 r3) (S16.mono (by omega)) ((G14.trans G15).trans F16)
        · exact k t4 _ H16 (sqt_fr S15 F16 r4) (S16.mono (by omega)) ((G14.trans G15).trans F16)
        · exact k t5 _ H16 (sqt_fr S15 F16 r5) (S16.mono (by omega)) ((G14.trans G15).trans F16)
    | false =>
      refine iteF ?_
      have hl := hb rfl
      obtain ⟨l1, l4⟩ := x.len4
      refine ⟨_, rfl, _, rfl, u, _, rfl, .inr hu, _, _, rfl, rfl, st, g, c, _, ((x.vs.length : Nat) : Int) - 1, rfl, S1, by omega, by omega, by omega, fun z H2 z0 z1 S2 F2 => ?_⟩
      refine ⟨_, _, rfl, rfl, ?_⟩
      obtain ⟨i, ei⟩ : ∃ i : Nat, (1 : Int) + z = (i : Int) := ⟨(1 + z).toNat, by omega⟩
      show gName 5 (V.int ((1 : Int) + z)) _ _ _
      rw [ei]
      have i1 : 1 ≤ i := by omega
      have i2 : i < x.vs.length := by omega
      replace hu := sqt_fr S1 F2 hu
      replace F1 := F1.trans F2
      clear S1 F2
      refine ⟨fun v H' => ∃ z, v = .int z ∧ SA H' st g c (n + 10) ∧ Fr st g H2 H', ?_, ?_⟩
      · refine ⟨_, rfl, _, rfl, u, _, rfl, .inr hu, _, _, rfl, rfl, rfl, _, rfl, ite2 (fun _ => ?_) (fun _ => ?_)⟩
        · refine ⟨_, rfl, st, g, c, _, rfl, S2, by omega, fun z H3 _ _ S3 F3 => ⟨z, rfl, S3.mono (by omega), F3⟩⟩
        · refine ⟨_, rfl, st, g, c, _, 6, rfl, S2, by omega, by decide, by decide, fun z H3 _ _ S3 F3 => ⟨z, rfl, S3.mono (by omega), F3⟩⟩
      rintro v H3 ⟨fz, rfl, S3, F3⟩
      replace hu := sqt_fr S2 F3 hu
      replace F1 := F1.trans F3
      clear S2 F3
      refine ⟨_, rfl, _, rfl, _, rfl, u, _, rfl, hu, ?_, fun s1 n1 => ?_⟩
      · rintro ⟨_, z⟩
        rw [HT.sIx_nat] at z
        omega
      rw [cutV_take]
      have a1 := sadd (o := .tup (x.vs.take i)) (Same.refl H3) n1
      have p1 : SqT K (upd H3 s1 (.tup (x.vs.take i))) s1 (x.vs.take i) := SqT.of upd_same
      generalize upd H3 s1 (.tup (x.vs.take i)) = H4 at a1 p1 ⊢
      refine ⟨_, rfl, _, rfl, _, rfl, _, rfl, _, rfl, (by show 7 ≤ sizeLine; decide), fun l nl => ?_⟩
      have ol := (S3.same a1).old nl
      have a2 := sadd (o := .lst [.int fz, .int fz, .int fz, .int fz, .int 10000, .bl true, .non]) a1 nl
      have b2 := sadd (o := .lst [.int fz, .int fz, .int fz, .int fz, .int 10000, .bl true, .non]) (Same.refl H4) nl
      have hl2 : upd H4 l (.lst [.int fz, .int fz, .int fz, .int fz, .int 10000, .bl true, .non]) l = some (.lst [.int fz, .int fz, .int fz, .int fz, .int 10000, .bl true, .non]) := upd_same
      generalize upd H4 l (.lst [.int fz, .int fz, .int fz, .int fz, .int 10000, .bl true, .non]) = H5 at a2 b2 hl2 ⊢
      have S5 := S3.same a2
      replace hu := same_seq2 a2 hu
      replace p1 := same_seq2 b2 p1
      refine ⟨st, g, c, l, _, _, rfl, S5, by omega, .inl ⟨hl2, ol.2.1⟩, (by show 0 < 7; decide), (by show 7 ≤ 1000000; decide), fun v H6 hv S6 F6 => ?_⟩
      obtain ⟨av, rfl⟩ : ∃ av : Av, v = av.v := by
        have hv' : v ∈ [V.int fz, .int fz, .int fz, .int fz, .int 10000, .bl true, .non] := hv
        simp only [List.mem_cons, List.not_mem_nil, or_false] at hv'
        rcases hv' with rfl | rfl | rfl | rfl | rfl | rfl | rfl
        · exact ⟨.n fz, rfl⟩
        · exact ⟨.n fz, rfl⟩
        · exact ⟨.n fz, rfl⟩
        · exact ⟨.n fz, rfl⟩
        · exact ⟨.n 10000, rfl⟩
        · exact ⟨.t, rfl⟩
        · exact ⟨.o, rfl⟩
      obtain ⟨y, ey⟩ := x.setv i av i1 i2
      replace hu := sqt_fr S5 F6 hu
      replace p1 := sqt_fr S5 F6 p1
      have G6 := (F1.trans (Fr.of a2)).trans F6
      clear S5 S3 F1 a1 a2 b2 F6 hl2 hv
      refine ⟨(by show 1 ≤ sizeLine; decide), fun s2 n2 => ?_⟩
      have c1 := sadd (o := .tup [av.v]) (Same.refl H6) n2
      have p2 : SqT K (upd H6 s2 (.tup [av.v])) s2 [av.v] := SqT.of upd_same
      replace p1 := same_seq2 c1 p1
      generalize upd H6 s2 (.tup [av.v]) = H7 at c1 p1 p2 ⊢
      have z5 : (5 : Nat) ≤ sizeLine := by decide
      refine ⟨s1, s2, _, _, rfl, rfl, p1, p2, (fun z => by have := congrArg List.length z; rw [List.length_take, List.length_nil] at this; omega), (by rw [List.length_take, List.length_singleton]; omega), (fun z => nomatch z), fun _ s3 n3 => ?_⟩
      have c2 := sadd (o := .tup (x.vs.take i ++ [av.v])) c1 n3
      have p3 : SqT K (upd H7 s3 (.tup (x.vs.take i ++ [av.v]))) s3 (x.vs.take i ++ [av.v]) := SqT.of upd_same
      generalize upd H7 s3 (.tup (x.vs.take i ++ [av.v])) = H8 at c2 p3 ⊢
      have ei1 : (i : Int) + 1 = ((i + 1 : Nat) : Int) := by omega
      refine ⟨_, rfl, _, rfl, _, _, rfl, rfl, _, rfl, u, _, rfl, same_seq2 c2 hu, ?_, fun s4 n4 => ?_⟩
      · rintro ⟨z, _⟩
        rw [ei1, HT.sIx_nat] at z
        omega
      rw [ei1, cutV_fromZ _ _ (by omega)]
      have c3 := sadd (o := .tup (x.vs.drop (i + 1))) c2 n4
      have p4 : SqT K (upd H8 s4 (.tup (x.vs.drop (i + 1)))) s4 (x.vs.drop (i + 1)) := SqT.of upd_same
      replace p3 := same_seq2 (sadd (o := .tup (x.vs.drop (i + 1))) (Same.refl H8) n4) p3
      generalize upd H8 s4 (.tup (x.vs.drop (i + 1))) = H9 at c3 p3 p4 ⊢
      refine ⟨s3, s4, _, _, rfl, rfl, p3, p4, (fun z => by have := congrArg List.length z; rw [List.length_append, List.length_singleton, List.length_nil] at this; omega), (by rw [List.length_append, List.length_singleton, List.length_take, List.length_drop]; omega), fun e => ?_, fun e s5 n5 => ?_⟩
      · rw [e, List.append_nil] at ey
        exact k s3 y _ (by rw [ey]; exact p3) ((S6.same c3).mono (by omega)) (G6.trans (Fr.of c3))
      · have c4 := sadd (o := .tup (x.vs.take i ++ [av.v] ++ x.vs.drop (i + 1))) c3 n5
        exact k s5 y _ (by rw [ey]; exact SqT.of upd_same) ((S6.same c4).mono (by omega)) (G6.trans (Fr.of c4))
end
end OH
end
section
set_option Elab.async false
set_option linter.all false
set_option maxRecDepth 100000
set_option maxHeartbeats 8000000
/-! Another face. -/
namespace OH
open PySem PySem.Spec PyProof.Rows L2
def spOtherF : Sp := fun vs H Q _ => ∃ (st g c a : Addr) (n : Nat) (F : Fc), vs = [.ref st, .ref a] ∧ SA H st g c n ∧ n ≤ 700000 ∧ FcAt H a F ∧
  ∀ (t : Addr) (F' : Fc) H', FcAt H' t F' → F'.R = F.R → SA H' st g c (n + 3) → Fr st g H H' → Q (.ref t) H'
theorem Fc.ws_set (F : Fc) (i j : Nat) (x : List (Int × Int)) : ({ F with wir := F.wir.set i x } : Fc).ws j = if i = j ∧ i < F.wir.length then x else F.ws j := by
  show (F.wir.set i x).getD j [] = if _ then x else F.wir.getD j []
  rw [List.getD_eq_getElem?_getD, List.getElem?_set, List.getD_eq_getElem?_getD]
  by_cases e : i = j
  · subst e
    by_cases hl : i < F.wir.length
    · simp [hl]
    · simp [hl, List.getElem?_eq_none (by omega : F.wir.length ≤ i)]
  · simp [e]
theorem Fc.Ok.depth {F : Fc} (h : F.Ok) {z : Int} (z1 : 1 ≤ z) (z6 : z ≤ 60) : ({ F with dep := z } : Fc).Ok := ⟨z1, z6, h.lw, h.m1, h.m6, h.dz, h.wi⟩
theorem Fc.Ok.fewer {F : Fc} (h : F.Ok) (i : Nat) : ({ F with wir := F.wir.set i (F.ws i).tail } : Fc).Ok := by
  refine ⟨h.d1, h.d60, (by show (F.wir.set i _).length = F.R; rw [List.length_set]; exact h.lw), h.m1, h.m6, h.dz, fun j hj => ?_⟩
  obtain ⟨w1, w2, w3⟩ := h.wi j hj
  rw [Fc.ws_set]
  split
  · next e =>
    rw [e.1]
    exact ⟨by rw [List.length_tail]; omega, w2.sublist (List.tail_sublist _), fun p hp => w3 p (List.mem_of_mem_tail hp)⟩
  · exact ⟨w1, w2, w3⟩
section
variable {P : Program} {w : World} {K : PySem.W.Frag} {mg : Str → Option Value} {base : Heap}
abbrev nOF2 : List Str := ["state", "face", "depth", "wires", "doors", "at"]
theorem sc__law_other_face : FnScope nOF2 ["state", "face"] (defScope s__law_other_face) := ⟨rfl, rfl, rfl, by decide +kernel, rfl, by decide +kernel, by decide +kernel⟩
theorem ok__law_other_face {f : Addr} {fd : FuncData} (F : Fun K "_law_other_face" "_law_other_face" s__law_other_face f fd) (T : Txt K mg) (DD : DefF P w K mg base CX0 4 "_law_draw" ["state", "room"] spDraw) : FnOk P w K mg base CX0 5 f fd ["state", "face"] spOtherF := by
  refine F.ok sc__law_other_face (fun vs H Q E h => ?_) (fun cdv A outer s H vs Q E hr h => ?_)
  · obtain ⟨st, g, c, a, n, F, rfl, _⟩ := h
    rfl
  · obtain ⟨st, g, c, a, n, F, rfl, S, hn, hf, k⟩ := h
    have nd := sc__law_other_face.nd
    refine ⟨_, pss_cons (ps_asg (pv 1) (pg_tup (by rfl) (pgs_cons (pg_name (i := 2) nd rfl (Or.inl rfl)) (pgs_cons (pg_name (i := 3) nd rfl (Or.inl rfl)) (pgs_cons (pg_name (i := 4) nd rfl (Or.inl rfl)) pgs_nil)))))
      (pss_cons (ps_if (pt_cmpR op_eq (pe_cD DD hr rfl pass0 (pa_cons (pv 0) (pa_cons pe_int pa_nil))) pe_int (nomark _)) (pss_one (ps_ret (pe_tup (pa_cons (pe_op op_add pe_int (pe_cD DD hr rfl pass0 (pa_cons (pv 0) (pa_cons pe_int pa_nil)))) (pa_cons (pv 3) (pa_cons (pv 4) pa_nil)))))) pss_nil)
      (pss_cons (ps_set (i := 5) nd rfl (Or.inl rfl) (pe_cD DD hr rfl pass0 (pa_cons (pv 0) (pa_cons (pe_callB call_len_seq (by rfl) T.nLen PySem.boot_len (pa_cons (pv 3) pa_nil)) pa_nil))))
      (pss_one (ps_ret (pe_tup (pa_cons (pv 2) (pa_cons (pe_up (pe_op op_catA (pe_up (pe_op op_catA (pe_slice sl_tup (pv 3) po_none (po_some (pv 5))) (pe_tup (pa_cons (pe_up (pe_slice sl_tupA (pe_ix ix_tup (pv 3) (pv 5) (fun _ _ => rfl)) (po_some pe_int) po_none)) pa_nil)))) (pe_slice sl_tup (pv 3) (po_some (pe_op op_add (pv 5) pe_int)) po_none))) (pa_cons (pv 4) pa_nil)))))))), ?_⟩
    have hF := hf.ok
    have m1 := hF.m1
    have m6 := hF.m6
    have lw := hF.lw
    obtain ⟨wt, dt, wps, b1, b2, b3, b4, b5⟩ := id hf.ex
    refine ⟨_, rfl, a, _, rfl, SqT.of b1, rfl, _, _, rfl, _, _, rfl, _, _, rfl, rfl, ?_⟩
    refine ⟨_, rfl, st, g, c, _, 2, rfl, S, by omega, by decide, by decide, fun y H1 _ _ S1 F1 => ?_⟩
    have tk := fr_tup S F1
    have b2' := tk _ _ b2
    have b3' := tk _ _ b3
    have b5' : ∀ (i : Nat) (q : Addr), wps[i]? = some q → ∃ ps : List Addr, H1 q = some (.tup (ps.map V.ref)) ∧ PairsAt H1 ps (F.ws i) := fun i q e => by
      obtain ⟨ps, p1, p2⟩ := b5 i q e
      exact ⟨ps, tk _ _ p1, p2.mono tk⟩
    clear S tk b2 b3 b5
    refine ⟨rfl, _, rfl, ite2 (fun _ => ?_) (fun _ => ?_)⟩
    · refine ⟨_, rfl, st, g, c, _, 6, rfl, S1, by omega, by decide, by decide, fun z H2 z0 z6 S2 F2 => ?_⟩
      have tk := fr_tup S1 F2
      refine ⟨_, _, rfl, rfl, _, rfl, _, rfl, (by show 3 ≤ sizeLine; decide), fun t nt => ?_⟩
      have s3 := sadd (o := .tup [.int (1 + z), .ref wt, .ref dt]) (Same.refl H2) nt
      have tk2 : ∀ q xs, H1 q = some (.tup xs) → upd H2 t (.tup [.int (1 + z), .ref wt, .ref dt]) q = some (.tup xs) := fun q xs e => s3 _ _ (tk _ _ e)
      exact k t { F with dep := 1 + z } _ ⟨⟨wt, dt, wps, upd_same, tk2 _ _ b2', tk2 _ _ b3', b4, fun i q e => by
        obtain ⟨ps, p1, p2⟩ := b5' i q e
        exact ⟨ps, tk2 _ _ p1, p2.mono tk2⟩⟩, hF.depth (by omega) (by omega)⟩ rfl ((S2.same s3).mono (by omega)) ((F1.trans F2).trans (Fr.of s3))
    · refine ⟨_, rfl, _, rfl, wt, _, rfl, .inr (SqT.of b2'), st, g, c, _, (((wps.map V.ref).length : Nat) : Int), rfl, S1, by omega, by rw [List.length_map]; omega, by rw [List.length_map]; omega, fun z H2 z0 zR S2 F2 => ?_⟩
      rw [List.length_map] at zR
      obtain ⟨i, rfl⟩ := Int.eq_ofNat_of_zero_le z0
      have hi : i < wps.length := by omega
      have tk := fr_tup S1 F2
      have hw2 := tk _ _ b2'
      have hd2 := tk _ _ b3'
      have b52 : ∀ (i : Nat) (q : Addr), wps[i]? = some q → ∃ ps : List Addr, H2 q = some (.tup (ps.map V.ref)) ∧ PairsAt H2 ps (F.ws i) := fun i q e => by
        obtain ⟨ps, p1, p2⟩ := b5' i q e
        exact ⟨ps, tk _ _ p1, p2.mono tk⟩
      have F2' := F1.trans F2
      clear b2' b3' b5' tk S1 F1 F2
      obtain ⟨wp, hwp⟩ : ∃ wp, wps[i]? = some wp := ⟨_, List.getElem?_eq_getElem hi⟩
      have aw : atI (wps.map V.ref) (i : Int) = some (.ref wp) := atI_nat (by rw [List.getElem?_map, hwp]; rfl)
      obtain ⟨pps, pp1, pp2⟩ := b52 i wp hwp
      have z9 : (9 : Nat) ≤ sizeLine := by decide
      refine ⟨_, rfl, fun v H' => ∃ s, v = .ref s ∧ Same H2 H' ∧ ∃ s2, H' s = some (.tup ((wps.set i s2).map V.ref)) ∧ ∃ ps, H' s2 = some (.tup (ps.map V.ref)) ∧ PairsAt H' ps (F.ws i).tail, ?_, ?_⟩
      · refine ⟨fun v H' => ∃ s, v = .ref s ∧ Same H2 H' ∧ ∃ s2, H' s = some (.tup ((wps.take i).map V.ref ++ [.ref s2])) ∧ ∃ ps, H' s2 = some (.tup (ps.map V.ref)) ∧ PairsAt H' ps (F.ws i).tail, ?_, ?_⟩
        · refine ⟨_, rfl, _, rfl, _, rfl, wt, _, rfl, SqT.of hw2, ?_, fun s1 n1 => ?_⟩
          · rintro ⟨_, z⟩
            rw [HT.sIx_nat, List.length_map] at z
            omega
          rw [cutV_take, ← List.map_take]
          have a1 := sadd (o := .tup ((wps.take i).map V.ref)) (Same.refl H2) n1
          have f1 : upd H2 s1 (.tup ((wps.take i).map V.ref)) s1 = some (.tup ((wps.take i).map V.ref)) := upd_same
          generalize upd H2 s1 (.tup ((wps.take i).map V.ref)) = H3 at a1 f1 ⊢
          refine ⟨fun v H' => ∃ s2, v = .ref s2 ∧ Same H3 H' ∧ ∃ ps, H' s2 = some (.tup (ps.map V.ref)) ∧ PairsAt H' ps (F.ws i).tail, ?_, ?_⟩
          · refine ⟨_, rfl, _, rfl, wt, _, (i : Int), .ref wp, rfl, rfl, SqT.of (a1 _ _ hw2), aw, _, rfl, wp, _, rfl, SqT.of (a1 _ _ pp1), fun e => ?_, fun e p np => ?_⟩
            · have l0 : pps = [] := by
                have e1 := e.1
                cases pps with
                | nil => rfl
                | cons q qs =>
                  rw [List.map_cons, sIx_cons] at e1
                  cases e1
              subst l0
              refine ⟨wp, rfl, Same.refl H3, [], a1 _ _ pp1, ?_⟩
              have e2 : F.ws i = [] := by
                generalize F.ws i = ws at pp2
                cases pp2
                rfl
              rw [e2]
              exact .nil
            · have c1 := sadd (o := .tup (cutV (pps.map V.ref) (some 1) none)) (Same.refl H3) np
              refine ⟨p, rfl, c1, pps.tail, ?_, ?_⟩
              · rw [upd_same]
                cases pps with
                | nil => rfl
                | cons q qs => rw [List.map_cons, cutV_tail1]; rfl
              · generalize F.ws i = ws at pp2
                cases pp2 with
                | nil => exact .nil
                | cons x y => exact y.mono fun q xs e => c1 _ _ (a1 _ _ e)
          rintro v H4 ⟨s2, rfl, c4, ps, g1, g2⟩
          refine ⟨(by show 1 ≤ sizeLine; decide), fun s3 n3 => ?_⟩
          have c5 := sadd (o := .tup [.ref s2]) (Same.refl H4) n3
          have f3 : upd H4 s3 (.tup [.ref s2]) s3 = some (.tup [.ref s2]) := upd_same
          have f1' := c5 _ _ (c4 _ _ f1)
          replace g1 := c5 _ _ g1
          replace g2 := g2.mono fun q xs e => c5 _ _ e
          generalize upd H4 s3 (.tup [.ref s2]) = H5 at c5 f3 f1' g1 g2 ⊢
          have c25 := (a1.trans c4).trans c5
          refine ⟨s1, s3, _, _, rfl, rfl, SqT.of f1', SqT.of f3, (by rw [List.length_map, List.length_take, List.length_singleton]; omega), fun e => ?_, fun e e2 => absurd e2 (by simp), fun e e2 s4 n4 => ?_⟩
          · exact ⟨s3, rfl, c25, s2, by rw [e]; exact f3, ps, g1, g2⟩
          · have c6 := sadd (o := .tup ((wps.take i).map V.ref ++ [.ref s2])) (Same.refl H5) n4
            exact ⟨s4, rfl, c25.trans c6, s2, upd_same, ps, c6 _ _ g1, g2.mono fun q xs e => c6 _ _ e⟩
        rintro v H5 ⟨s4, rfl, c25, s2, f4, ps, g1, g2⟩
        have ei1 : (i : Int) + 1 = ((i + 1 : Nat) : Int) := by omega
        refine ⟨_, rfl, _, rfl, _, _, rfl, rfl, _, rfl, wt, _, rfl, SqT.of (c25 _ _ hw2), ?_, fun s5 n5 => ?_⟩
        · rintro ⟨z, _⟩
          rw [ei1, HT.sIx_nat, List.length_map] at z
          omega
        rw [ei1, cutV_fromZ _ _ (by rw [List.length_map]; omega), ← List.map_drop]
        have c6 := sadd (o := .tup ((wps.drop (i + 1)).map V.ref)) (Same.refl H5) n5
        have f5 : upd H5 s5 (.tup ((wps.drop (i + 1)).map V.ref)) s5 = some (.tup ((wps.drop (i + 1)).map V.ref)) := upd_same
        replace f4 := c6 _ _ f4
        replace g1 := c6 _ _ g1
        replace g2 := g2.mono fun q xs e => c6 _ _ e
        generalize upd H5 s5 (.tup ((wps.drop (i + 1)).map V.ref)) = H6 at c6 f4 f5 g1 g2 ⊢
        have es : ((wps.set i s2).map V.ref : List V) = (wps.take i).map V.ref ++ [.ref s2] ++ (wps.drop (i + 1)).map V.ref := by
          rw [List.set_eq_take_append_cons_drop, if_pos hi, List.map_append, List.map_cons, List.append_assoc]
          rfl
        refine ⟨s4, s5, _, _, rfl, rfl, SqT.of f4, SqT.of f5, (by rw [List.length_append, List.length_singleton, List.length_map, List.length_map, List.length_take, List.length_drop]; omega), fun e => absurd e (by simp), fun _ e2 => ?_, fun _ e2 s6 n6 => ?_⟩
        · exact ⟨s4, rfl, c25.trans c6, s2, by rw [es, e2, List.append_nil]; exact f4, ps, g1, g2⟩
        · have c7 := sadd (o := .tup ((wps.take i).map V.ref ++ [.ref s2] ++ (wps.drop (i + 1)).map V.ref)) (Same.refl H6) n6
          exact ⟨s6, rfl, (c25.trans c6).trans c7, s2, by rw [es]; exact upd_same, ps, c7 _ _ g1, g2.mono fun q xs e => c7 _ _ e⟩
      rintro v H7 ⟨s7, rfl, c27, s2, f7, ps, g1, g2⟩
      refine ⟨_, rfl, (by show 3 ≤ sizeLine; decide), fun t nt => ?_⟩
      have c8 := sadd (o := .tup [.int F.dep, .ref s7, .ref dt]) (Same.refl H7) nt
      have c28 := c27.trans c8
      refine k t { F with wir := F.wir.set i (F.ws i).tail } _ ⟨⟨s7, dt, wps.set i s2, upd_same, c8 _ _ f7, c28 _ _ hd2, (by rw [List.length_set]; exact b4), fun j q e => ?_⟩, hF.fewer i⟩ rfl ((S2.same c28).mono (by omega)) (F2'.trans (Fr.of c28))
      rw [Fc.ws_set]
      rw [List.getElem?_set] at e
      by_cases ej : i = j
      · rw [if_pos ej, if_pos (by omega)] at e
        cases e
        rw [if_pos ⟨ej, by omega⟩]
        exact ⟨ps, c8 _ _ g1, g2.mono fun q xs e => c8 _ _ e⟩
      · rw [if_neg ej] at e
        rw [if_neg (fun z => ej z.1)]
        obtain ⟨qs, p1, p2⟩ := b52 j q e
        exact ⟨qs, c28 _ _ p1, p2.mono fun q xs e => c28 _ _ e⟩
end
end OH
end
section
set_option Elab.async false
set_option linter.all false
set_option maxRecDepth 100000
set_option maxHeartbeats 8000000
/-! Spoilt views. -/
namespace OH
open PySem PySem.Spec PyProof.Rows L2
/-- lists of items of any sort -/
structure VjL (K : PySem.W.Frag) (H : Hp) (vl : Addr) (vj : List (List Jt)) : Prop where
  ex : ∃ vps : List Addr, H vl = some (.lst (vps.map V.ref)) ∧ vps.length = vj.length ∧ ∀ (r : Nat) (q : Addr), vps[r]? = some q → VjAt K H q (vj.getD r [])
/-- copies of lists, each by itself, beside a state of drawing -/
structure FX (K : PySem.W.Frag) (H Hk : Hp) (st g c : Addr) (n : Nat) (D : Addr) (ls : List Addr) (vj : List (List Jt)) : Prop where
  S : SA Hk st g c n
  F : Fr st g H Hk
  hD : Hk D = some (.lst (ls.map V.ref))
  ll : ls.length = vj.length
  at_ : ∀ (r : Nat) (q : Addr), ls[r]? = some q → VjAt K Hk q (vj.getD r [])
  nd : ls.Nodup
  nq : ∀ q ∈ ls, q ≠ D ∧ q ≠ st ∧ q ≠ g ∧ q ≠ c
  nD : D ≠ st ∧ D ≠ g ∧ D ≠ c
theorem VjAt.frm {K : PySem.W.Frag} {H H' : Hp} {st g c q : Addr} {n : Nat} {v : List Jt} (S : SA H st g c n) (F : Fr st g H H') (h : VjAt K H q v) (z : q ≠ st) (z2 : q ≠ g) : VjAt K H' q v := by
  obtain ⟨ps, h1, h2⟩ := h
  exact ⟨ps, F _ _ h1 z z2, h2.mono fun q zs e => sqt_fr S F e⟩
section
variable {K : PySem.W.Frag} {H Hk H' : Hp} {st g c D : Addr} {n n' : Nat} {ls : List Addr} {vj : List (List Jt)}
theorem FX.draw (h : FX K H Hk st g c n D ls vj) (S' : SA H' st g c n') (F' : Fr st g Hk H') : FX K H H' st g c n' D ls vj :=
  ⟨S', h.F.trans F', F' _ _ h.hD h.nD.1 h.nD.2.1, h.ll, fun r q e => (h.at_ r q e).frm h.S F' (h.nq q (List.mem_of_getElem? e)).2.1 (h.nq q (List.mem_of_getElem? e)).2.2.1, h.nd, h.nq, h.nD⟩
theorem FX.same (h : FX K H Hk st g c n D ls vj) (s : Same Hk H') : FX K H H' st g c n D ls vj := h.draw (h.S.same s) (Fr.of s)
theorem FX.mono (h : FX K H Hk st g c n D ls vj) (k : n ≤ n') : FX K H Hk st g c n' D ls vj := ⟨h.S.mono k, h.F, h.hD, h.ll, h.at_, h.nd, h.nq, h.nD⟩
theorem sqt_put {H : Hp} {q a : Addr} {xs ys : List V} (u : HO) (e : H q = some (.lst ys)) (h : SqT K H a xs) : SqT K (upd H q u) a xs := by
  rcases h with (h | ⟨o, h⟩) | h
  · exact .inl (.inl ((upd_ne (ne_of h e (fun z => nomatch z))).trans h))
  · exact .inl (.inr ⟨o, (upd_ne (ne_of h e (fun z => nomatch z))).trans h⟩)
  · exact .inr h
theorem getD_setj (l : List (List Jt)) (i j : Nat) (x : List Jt) : (l.set i x).getD j [] = if i = j ∧ i < l.length then x else l.getD j [] := by
  rw [List.getD_eq_getElem?_getD, List.getElem?_set, List.getD_eq_getElem?_getD]
  by_cases e : i = j
  · subst e
    by_cases hl : i < l.length
    · simp [hl]
    · simp [hl, List.getElem?_eq_none (by omega : l.length ≤ i)]
  · simp [e]
theorem AllQ.set_ {α : Type} {f : α → List V} : ∀ {xs : List α} {ps : List Addr} (i : Nat) {t : Addr} {y : α}, AllQ K H f ps xs → SqT K H t (f y) → AllQ K H f (ps.set i t) (xs.set i y)
  | [], _, _, _, _, h, _ => by
    cases h
    exact .nil
  | x :: xs, _, 0, _, _, h, ht => by
    cases h with
    | cons a b => exact .cons ht b
  | x :: xs, _, i + 1, _, _, h, ht => by
    cases h with
    | cons a b => exact .cons a (AllQ.set_ (xs := xs) i b ht)
theorem AllQ.takeZ {α : Type} {f : α → List V} : ∀ {xs : List α} {ps : List Addr} (i : Nat), AllQ K H f ps xs → AllQ K H f (ps.take i) (xs.take i)
  | _, _, 0, _ => by
    rw [List.take_zero, List.take_zero]
    exact .nil
  | [], _, i + 1, h => by
    cases h
    exact .nil
  | x :: xs, _, i + 1, h => by
    cases h with
    | cons a b => exact .cons a (AllQ.takeZ (xs := xs) i b)
theorem AllQ.dropZ {α : Type} {f : α → List V} : ∀ {xs : List α} {ps : List Addr} (i : Nat), AllQ K H f ps xs → AllQ K H f (ps.drop i) (xs.drop i)
  | _, _, 0, h => h
  | [], _, i + 1, h => by
    cases h
    exact .nil
  | x :: xs, _, i + 1, h => by
    cases h with
    | cons a b => exact AllQ.dropZ (xs := xs) i b
theorem AllQ.both {α : Type} {f : α → List V} : ∀ {xs ys : List α} {ps qs : List Addr}, AllQ K H f ps xs → AllQ K H f qs ys → AllQ K H f (ps ++ qs) (xs ++ ys)
  | [], _, _, _, h, h2 => by
    cases h
    exact h2
  | x :: xs, _, _, _, h, h2 => by
    cases h with
    | cons a b => exact .cons a (AllQ.both (xs := xs) b h2)
theorem mem_setj {l : List (List Jt)} {i b : Nat} {v : List Jt} (h : ∀ x ∈ l, x.length ≤ b) (hv : v.length ≤ b + 2) : ∀ x ∈ l.set i v, x.length ≤ b + 2 := fun x hx => by
  rcases List.mem_or_eq_of_mem_set hx with e | e
  · have := h x e
    omega
  · rw [e]
    exact hv
/-- one of the lists gets other items -/
theorem FX.items (h : FX K H Hk st g c n D ls vj) (nh : ∀ q ∈ ls, H q = none) {i : Nat} {q : Addr} (hq : ls[i]? = some q) {ps : List Addr} {v : List Jt} (a : AllQ K Hk Jt.vs ps v) : FX K H (upd Hk q (.lst (ps.map V.ref))) st g c n D ls (vj.set i v) := by
  have mq := List.mem_of_getElem? hq
  obtain ⟨z1, z2, z3, z4⟩ := h.nq q mq
  obtain ⟨ps0, e0, _⟩ := h.at_ i q hq
  have hi : i < vj.length := by rw [← h.ll]; exact (List.getElem?_eq_some_iff.mp hq).1
  refine ⟨h.S.put ⟨z2, z3, z4⟩, fun b o e s1 s2 => (upd_ne (fun w => by rw [w, nh q mq] at e; cases e)).trans (h.F b o e s1 s2), (upd_ne z1.symm).trans h.hD, by rw [List.length_set]; exact h.ll, fun r u e => ?_, h.nd, h.nq, h.nD⟩
  rw [getD_setj]
  by_cases er : i = r
  · subst er
    rw [hq] at e
    cases e
    rw [if_pos ⟨rfl, hi⟩]
    exact ⟨ps, upd_same, a.mono fun _ _ w => sqt_put _ e0 w⟩
  · rw [if_neg (fun w => er w.1)]
    obtain ⟨ps1, e1, a1⟩ := h.at_ r u e
    have nu : u ≠ q := fun w => by
      subst w
      have h1 := (List.getElem?_eq_some_iff.mp hq)
      have h2 := (List.getElem?_eq_some_iff.mp e)
      exact er ((List.getElem_inj h.nd).mp (h1.2.trans h2.2.symm))
    exact ⟨ps1, (upd_ne nu).trans e1, a1.mono fun _ _ w => sqt_put _ e0 w⟩
theorem upd_upd {H : Hp} {a : Addr} {x y : HO} : upd (upd H a x) a y = upd H a y := by
  funext b
  unfold upd
  by_cases e : b = a
  · rw [if_pos e, if_pos e]
  · rw [if_neg e, if_neg e, if_neg e]
theorem cutV_last2 (xs : List V) : ∃ d, xs.length ≤ d + 2 ∧ cutV xs (some (-2)) none = xs.drop d := by
  refine ⟨((-2 : Int) + (xs.length : Int)).toNat, by omega, ?_⟩
  unfold cutV
  have e1 : HT.sIx xs.length 0 (some (-2)) = ((-2 : Int) + (xs.length : Int)).toNat := by
    show (if (-2 : Int) < 0 then ((-2 : Int) + (xs.length : Int)).toNat else min (-2 : Int).toNat xs.length) = _
    rw [if_pos (by decide)]
  have e2 : HT.sIx xs.length xs.length none = xs.length := by simp [HT.sIx]
  rw [e1, e2]
  exact List.take_of_length_le (by rw [List.length_drop]; exact Nat.le_refl _)
/-- two of the lists exchanged: what comes out -/
theorem FX.swap (h : FX K H Hk st g c n D ls vj) {i j : Nat} {q q2 : Addr} (hq : ls[i]? = some q) (hq2 : ls[j]? = some q2) : VjL K (upd Hk D (.lst (((ls.set i q2).set j q).map V.ref))) D ((vj.set i (vj.getD j [])).set j (vj.getD i [])) := by
  have hi : i < vj.length := by rw [← h.ll]; exact (List.getElem?_eq_some_iff.mp hq).1
  have hj : j < vj.length := by rw [← h.ll]; exact (List.getElem?_eq_some_iff.mp hq2).1
  have keep : ∀ {r u}, ls[r]? = some u → VjAt K (upd Hk D (.lst (((ls.set i q2).set j q).map V.ref))) u (vj.getD r []) := fun {r u} e => by
    obtain ⟨ps, e1, a1⟩ := h.at_ r u e
    exact ⟨ps, (upd_ne (h.nq u (List.mem_of_getElem? e)).1).trans e1, a1.mono fun _ _ w => sqt_put _ h.hD w⟩
  refine ⟨(ls.set i q2).set j q, upd_same, by simp only [List.length_set]; exact h.ll, fun r u e => ?_⟩
  rw [getD_setj, getD_setj, List.length_set]
  rw [List.getElem?_set, List.getElem?_set, List.length_set] at e
  by_cases ej : j = r
  · rw [if_pos ej, if_pos (by rw [h.ll]; exact hj)] at e
    cases e
    rw [if_pos ⟨ej, hj⟩]
    exact keep hq
  · rw [if_neg ej] at e
    rw [if_neg (fun w => ej w.1)]
    by_cases ei : i = r
    · rw [if_pos ei, if_pos (by rw [h.ll]; exact hi)] at e
      cases e
      rw [if_pos ⟨ei, hi⟩]
      exact keep hq2
    · rw [if_neg ei] at e
      rw [if_neg (fun w => ei w.1)]
      exact keep e
/-- another list in place of one of them: what comes out -/
theorem FX.out (h : FX K H Hk st g c n D ls vj) {i : Nat} {l : Addr} {v : List Jt} (hi : i < vj.length) (nl : l ≠ D) (a : VjAt K Hk l v) : VjL K (upd Hk D (.lst ((ls.set i l).map V.ref))) D (vj.set i v) := by
  refine ⟨ls.set i l, upd_same, by rw [List.length_set, List.length_set]; exact h.ll, fun r u e => ?_⟩
  rw [getD_setj]
  rw [List.getElem?_set] at e
  by_cases er : i = r
  · rw [if_pos er, if_pos (by rw [h.ll]; exact hi)] at e
    cases e
    rw [if_pos ⟨er, hi⟩]
    obtain ⟨ps, e1, a1⟩ := a
    exact ⟨ps, (upd_ne nl).trans e1, a1.mono fun _ _ w => sqt_put _ h.hD w⟩
  · rw [if_neg er] at e
    rw [if_neg (fun w => er w.1)]
    obtain ⟨ps, e1, a1⟩ := h.at_ r u e
    exact ⟨ps, (upd_ne (h.nq u (List.mem_of_getElem? e)).1).trans e1, a1.mono fun _ _ w => sqt_put _ h.hD w⟩
end
def NG (H : Hp) (st g fl : Addr) : Prop := ∃ vps : List Addr, H fl = some (.lst (vps.map V.ref)) ∧ ∀ q ∈ vps, q ≠ st ∧ q ≠ g
def spSpV (K : PySem.W.Frag) : Sp := fun vs H Q _ => ∃ (st g c vl : Addr) (n b : Nat) (vj : List (List Jt)), vs = [.ref st, .ref vl] ∧ SA H st g c n ∧ n ≤ 600000 ∧ VjL K H vl vj ∧ vl ≠ g ∧ 1 ≤ vj.length ∧ vj.length ≤ 6 ∧ (∀ x ∈ vj, x.length ≤ b) ∧ b ≤ 1000 ∧
  ∀ (fl : Addr) (vj' : List (List Jt)) H', VjL K H' fl vj' → H fl = none → vj'.length = vj.length → (∀ x ∈ vj', x.length ≤ b + 2) → SA H' st g c (n + 40) → Fr st g H H' → NG H' st g fl → Q (.ref fl) H'
section
variable {P : Program} {w : World} {K : PySem.W.Frag} {mg : Str → Option Value} {base : Heap}
abbrev nSV : List Str := ["state", "views", "found", "at", "way", "spot", "more", "other", "view"]
theorem sc__law_spoilt_views : FnScope nSV ["state", "views"] (defScope s__law_spoilt_views) := ⟨rfl, rfl, rfl, by decide +kernel, rfl, by decide +kernel, by decide +kernel⟩
theorem ok__law_spoilt_views {f : Addr} {fd : FuncData} (F : Fun K "_law_spoilt_views" "_law_spoilt_views" s__law_spoilt_views f fd) (T : Txt K mg) (DD : DefF P w K mg base CX0 6 "_law_draw" ["state", "room"] spDraw) (DP : DefF P w K mg base CX0 6 "_law_pick" ["state", "some"] spPick2) (DM : DefF P w K mg base CX0 6 "_law_small" ["state"] (spNo 2)) (DS : DefF P w K mg base CX0 6 "_law_spoilt_item" ["state", "item"] (spSpI K)) : FnOk P w K mg base CX0 7 f fd ["state", "views"] (spSpV K) := by
  refine F.ok sc__law_spoilt_views (fun vs H Q E h => ?_) (fun cdv A outer s H vs Q E hr h => ?_)
  · obtain ⟨st, g, c, vl, n, b, vj, rfl, _⟩ := h
    rfl
  · obtain ⟨st, g, c, vl, n, b, vj, rfl, S, hn, hv, ng, m1, m6, hb, b1, k⟩ := h
    have nd := sc__law_spoilt_views.nd
    refine ⟨_, pss_cons (ps_par3 (i := 2) (j := 3) (l := 4) rfl nd rfl rfl rfl (by decide) (by decide) (by decide) rfl rfl rfl (pa_cons (pe_lc (own := [("view", 8)]) (g := gName 8) (tt := tYes) (te := tCB (fun xs H Q => ∃ p ys, xs = [.ref p] ∧ (SqL K H p ys ∨ SqT K H p ys) ∧ ∀ l, H l = none → Q (.ref l) (upd H l (.lst ys))) (tCons (tVar 8) tNil)) rfl nd (pi_list (pv 1)) (blkOk_by (own := [("view", 8)]) (N := nSV) (sc := defScope s__law_spoilt_views) (by decide +kernel)) (fun _ _ _ _ _ => (pg_name (i := 8) nd rfl (Or.inl rfl))) (fun _ _ _ _ _ => pts_nil) (fun _ _ _ _ _ => (pe_callTy call_list_of (by rfl) T.nList (by decide +kernel) (pa_cons (pv 8) pa_nil)))) (pa_cons (pe_cD DD hr rfl pass0 (pa_cons (pv 0) (pa_cons (pe_callB call_len_seq (by rfl) T.nLen PySem.boot_len (pa_cons (pv 1) pa_nil)) pa_nil))) (pa_cons (pe_cD DD hr rfl pass0 (pa_cons (pv 0) (pa_cons pe_int pa_nil))) pa_nil))) (by rfl))
      (pss_cons (ps_set (i := 5) nd rfl (Or.inl rfl) (pe_up (pe_ifExp (pt_cmpR (op_neD hr.units) (pe_ix ix_list (pv 2) (pv 3) (fun _ _ => rfl)) (pe_lst pa_nil) (nomark _)) (pe_cD DD hr rfl pass0 (pa_cons (pv 0) (pa_cons (pe_callB call_len_seq (by rfl) T.nLen PySem.boot_len (pa_cons (pe_ix ix_list (pv 2) (pv 3) (fun _ _ => rfl)) pa_nil)) pa_nil))) pe_int)))
      (pss_cons (ps_up (ps_if (pt_up (PW.pt (pw_and (pt_cmpR op_lt (pv 4) pe_int (nomark _)) (pw_and1 (pt_cmpR (op_neD hr.units) (pe_ix ix_list (pv 2) (pv 3) (fun _ _ => rfl)) (pe_lst pa_nil) (nomark _)))))) (pss_one (ps_asg (pe_cD DS hr rfl pass0 (pa_cons (pv 0) (pa_cons (pe_ix ix_list (pe_ix ix_list (pv 2) (pv 3) (fun _ _ => rfl)) (pv 5) (fun _ _ => rfl)) pa_nil))) (pg_sub (pe_ix ix_list (pv 2) (pv 3) (fun _ _ => rfl)) (pv 5) set_list))) (pss_one (ps_if (pt_cmpR op_eq (pv 4) pe_int (nomark _)) (pss_one (ps_asg (pe_slice sl_list (pe_ix ix_list (pv 2) (pv 3) (fun _ _ => rfl)) po_none (po_some (pv 5))) (pg_sub (pv 2) (pv 3) set_list))) (pss_one (ps_if (pt_cmpR op_eq (pv 4) pe_int (nomark _)) (pss_cons (ps_set (i := 6) nd rfl (Or.inl rfl) (pe_lst (pa_cons (pe_tup (pa_cons pe_str (pa_cons pe_int (pa_cons (pe_cD DM hr rfl pass0 (pa_cons (pv 0) pa_nil)) pa_nil)))) (pa_cons (pe_tup (pa_cons pe_str (pa_cons pe_int pa_nil))) pa_nil))))
      (pss_cons (ps_up (ps_if (pt_cmpR op_eq (pe_op op_mod (pe_callB call_len_seq (by rfl) T.nLen PySem.boot_len (pa_cons (pe_ix ix_list (pv 2) (pv 3) (fun _ _ => rfl)) pa_nil)) pe_int) pe_int (nomark _)) (pss_one (ps_set (i := 6) nd rfl (Or.inl rfl) (pe_lst (pa_cons (pe_tup (pa_cons pe_str (pa_cons pe_int pa_nil))) (pa_cons (pe_tup (pa_cons pe_str (pa_cons pe_int (pa_cons pe_int (pa_cons pe_int pa_nil))))) (pa_cons (pe_tup (pa_cons pe_str pa_nil)) pa_nil)))))) pss_nil))
      (pss_one (ps_expr (pe_bm PySem.F.plainAttrs_list PySem.F.slot_list_append PySem.F.type_list_append mt_append (pe_ix ix_list (pv 2) (pv 3) (fun _ _ => rfl)) (pa_cons (pe_cD DP hr rfl pass0 (pa_cons (pv 0) (pa_cons (pv 6) pa_nil))) pa_nil)))))) (pss_one (ps_if (pt_cmpR op_eq (pv 4) pe_int (nomark _)) (pss_cons (ps_set (i := 7) nd rfl (Or.inl rfl) (pe_cD DD hr rfl pass0 (pa_cons (pv 0) (pa_cons (pe_callB call_len_seq (by rfl) T.nLen PySem.boot_len (pa_cons (pv 2) pa_nil)) pa_nil))))
      (pss_one (ps_asg (pe_tup (pa_cons (pe_ix ix_list (pv 2) (pv 7) (fun _ _ => rfl)) (pa_cons (pe_ix ix_list (pv 2) (pv 3) (fun _ _ => rfl)) pa_nil))) (pg_tup (by rfl) (pgs_cons (pg_sub (pv 2) (pv 3) set_list) (pgs_cons (pg_sub (pv 2) (pv 7) set_list) pgs_nil)))))) (pss_one (ps_if (pt_up (PW.pt (pw_and (pt_cmpR op_eq (pv 4) pe_int (nomark _)) (pw_and1 (pt_cmpR (op_neD hr.units) (pe_ix ix_list (pv 2) (pv 3) (fun _ _ => rfl)) (pe_lst pa_nil) (nomark _)))))) (pss_one (ps_asg (pe_op op_cat (pe_slice sl_list (pe_ix ix_list (pv 2) (pv 3) (fun _ _ => rfl)) po_none (po_some (pv 5))) (pe_slice sl_list (pe_ix ix_list (pv 2) (pv 3) (fun _ _ => rfl)) (po_some (pe_op op_add (pv 5) pe_int)) po_none)) (pg_sub (pv 2) (pv 3) set_list))) (pss_one (ps_if (pt_cmpR (op_neD hr.units) (pe_ix ix_list (pv 2) (pv 3) (fun _ _ => rfl)) (pe_lst pa_nil) (nomark _)) (pss_one (ps_asg (pe_op op_cat (pe_ix ix_list (pv 2) (pv 3) (fun _ _ => rfl)) (pe_slice sl_list (pe_ix ix_list (pv 2) (pv 3) (fun _ _ => rfl)) (po_some (pe_un un_neg pe_int)) po_none)) (pg_sub (pv 2) (pv 3) set_list))) pss_nil))))))))))))
      (pss_one (ps_ret (pv 2))))), ?_⟩
    obtain ⟨vps, v1, v2, v3⟩ := hv.ex
    have z0k : (100000 : Nat) ≤ sizeLine := by rw [sizeLine_eq]; decide
    have bi : ∀ r, (vj.getD r []).length ≤ b := fun r => by
      rw [List.getD_eq_getElem?_getD]
      cases e : vj[r]? with
      | none => exact Nat.zero_le _
      | some x => exact hb x (List.mem_of_getElem? e)
    refine ⟨_, rfl, vl, rfl, ⟨_, SqL.of v1⟩, fun D nD => ?_⟩
    have oD := S.old nD
    refine lc_list (K := K) (a := vl) (xs := vps.map V.ref) (fun i H' => ∃ ls : List Addr, ls.length = i ∧ Same H H' ∧ H' D = some (.lst (ls.map V.ref)) ∧ (∀ (r : Nat) (q : Addr), ls[r]? = some q → VjAt K H' q (vj.getD r [])) ∧ ls.Nodup ∧ ∀ q ∈ ls, H q = none ∧ q ≠ D ∧ ∃ ys, H' q = some (.lst ys))
      ⟨[], rfl, sadd (Same.refl H) nD, upd_same, (fun r q e => by cases e), List.nodup_nil, fun q hq => absurd hq List.not_mem_nil⟩ (fun i H' _ ⟨_, _, s, _⟩ => SqL.of (s _ _ v1)) ?turn ?done
    case turn =>
      rintro i x H1 hx ⟨ls, ll, s1, hD, ha, hnd, hq⟩
      rw [List.getElem?_map] at hx
      obtain ⟨q, hq0, rfl⟩ := Option.map_eq_some_iff.mp hx
      refine ⟨rfl, ?_⟩
      unfold tYes
      refine iteT ?_
      obtain ⟨ps, p1, p2⟩ := v3 i q hq0
      refine ⟨_, rfl, q, _, rfl, .inl (SqL.of (s1 _ _ p1)), fun l nl => ?_⟩
      have nlD : l ≠ D := (ne_of_none hD nl).symm
      have s2 := sadd (o := .lst (ps.map V.ref)) (Same.refl H1) nl
      have li : i < vps.length := (List.getElem?_eq_some_iff.mp hq0).1
      refine ⟨_, s2 _ _ hD, by rw [List.length_map, ll]; omega, ls ++ [l], by rw [List.length_append, ll]; rfl, sout (s1.trans s2) nD, by rw [upd_same, List.map_append]; rfl, fun r u e => ?_, ?_, fun u hu => ?_⟩
      · rcases Nat.lt_or_ge r i with hr | hr
        · rw [List.getElem?_append_left (by rw [ll]; exact hr)] at e
          obtain ⟨ps1, e1, a1⟩ := ha r u e
          have nu := (hq u (List.mem_of_getElem? e)).2.1
          exact ⟨ps1, (upd_ne nu).trans (s2 _ _ e1), (a1.same s2).mono fun _ _ w => sqt_put _ (s2 _ _ hD) w⟩
        · have er : r = i := by
            have := (List.getElem?_eq_some_iff.mp e).1
            rw [List.length_append, ll, List.length_singleton] at this
            omega
          subst er
          rw [← ll, List.getElem?_append_right (Nat.le_refl _), Nat.sub_self] at e
          cases e
          exact ⟨ps, (upd_ne nlD).trans upd_same, (p2.same (s1.trans s2)).mono fun _ _ w => sqt_put _ (s2 _ _ hD) w⟩
      · rw [List.nodup_append]
        refine ⟨hnd, List.nodup_cons.mpr ⟨List.not_mem_nil, List.nodup_nil⟩, fun u hu w hw e => ?_⟩
        rw [List.mem_singleton.mp hw] at e
        obtain ⟨_, _, ys, hy⟩ := hq u hu
        rw [e, nl] at hy
        cases hy
      · rcases List.mem_append.mp hu with hu | hu
        · obtain ⟨g1, g2, ys, hy⟩ := hq u hu
          exact ⟨g1, g2, ys, (upd_ne g2).trans (s2 _ _ hy)⟩
        · rw [List.mem_singleton.mp hu]
          exact ⟨s1.free nl, nlD, _, (upd_ne nlD).trans upd_same⟩
    case done =>
    rintro H1 ⟨ls, ll, s1, hD, ha, hnd, hq⟩
    rw [List.length_map, v2] at ll
    have X1 : FX K H H1 st g c n D ls vj := ⟨S.same s1, Fr.of s1, hD, ll, ha, hnd, fun q m => ⟨(hq q m).2.1, (S.old (hq q m).1).1, (S.old (hq q m).1).2.1, (S.old (hq q m).1).2.2⟩, oD⟩
    have nh : ∀ q ∈ ls, H q = none := fun q m => (hq q m).1
    have v11 := s1 _ _ v1
    clear s1 hD ha hnd hq
    refine ⟨_, rfl, _, rfl, vl, _, rfl, .inl (SqL.of v11), st, g, c, _, (((vps.map V.ref).length : Nat) : Int), rfl, X1.S, by omega, by rw [List.length_map, v2]; omega, by rw [List.length_map, v2]; omega, fun z H2 z0 zR S2 F2 => ?_⟩
    have X2 := X1.draw S2 F2
    rw [List.length_map, v2] at zR
    obtain ⟨i, rfl⟩ := Int.eq_ofNat_of_zero_le z0
    refine ⟨_, rfl, st, g, c, _, 7, rfl, X2.S, by omega, by decide, by decide, fun way H3 _ _ S3 F3 => ⟨_, _, _, rfl, ?_⟩⟩
    have X3 := X2.draw S3 F3
    clear X1 X2 S2 F2 S3 F3 v11 S
    have hi : i < vj.length := by omega
    obtain ⟨q, hq⟩ : ∃ q, ls[i]? = some q := ⟨_, List.getElem?_eq_getElem (by omega)⟩
    have ai : atI (ls.map V.ref) (i : Int) = some (.ref q) := atI_nat (by rw [List.getElem?_map, hq]; rfl)
    have mq := List.mem_of_getElem? hq
    generalize hvi : vj.getD i [] = vi at *
    have lvi : vi.length ≤ b := by rw [← hvi]; exact bi i
    refine ⟨fun v H' => ∃ s : Nat, v = .int (s : Int) ∧ s ≤ vi.length ∧ (vi ≠ [] → s < vi.length) ∧ FX K H H' st g c (n + 10) D ls vj, ?_, ?_⟩
    · refine ⟨_, rfl, _, rfl, D, _, (i : Int), .ref q, rfl, rfl, SqL.of X3.hD, ai, (by show 0 ≤ sizeLine; decide), fun e ne => ?_⟩
      have se := sadd (o := .lst []) (Same.refl H3) ne
      have X4 := X3.same se
      obtain ⟨ps, p1, p2⟩ := X4.at_ i q hq
      rw [hvi] at p2
      refine ⟨.list (vi.map Jt.d), .list [], .lst (SqL.of p1) p2.jdp, .lst (SqL.of upd_same) .nil, shaped_jts _, rfl, _, rfl, ?_⟩
      rw [eqv_nilZ]
      cases hv0 : vi with
      | nil =>
        refine iteF ?_
        exact ⟨0, rfl, Nat.le_refl 0, (fun z => absurd rfl z), X4.mono (by omega)⟩
      | cons y ys =>
        rw [hv0] at p2
        refine iteT ?_
        refine ⟨_, rfl, _, rfl, _, rfl, D, _, (i : Int), .ref q, rfl, rfl, SqL.of X4.hD, ai, q, _, rfl, .inl (SqL.of p1), st, g, c, _, (((ps.map V.ref).length : Nat) : Int), rfl, X4.S, by omega, ?_, ?_, fun z H4 z0 z1 S4 F4 => ?_⟩
        · rw [List.length_map, p2.len, List.length_cons]; omega
        · rw [List.length_map, p2.len, ← hv0]; omega
        · rw [List.length_map, p2.len] at z1
          exact ⟨z.toNat, by rw [Int.toNat_of_nonneg z0], by omega, (fun _ => by omega), (X4.draw S4 F4).mono (by omega)⟩
    rintro v H5 ⟨s, rfl, sl, sl2, X5⟩
    clear X3
    refine ⟨fun σ' H' => σ'[2]? = some (some (.ref D)) ∧ ∃ vj' : List (List Jt), VjL K H' D vj' ∧ vj'.length = vj.length ∧ (∀ x ∈ vj', x.length ≤ b + 2) ∧ SA H' st g c (n + 40) ∧ Fr st g H H' ∧ NG H' st g D, ?_, fun σ' H' ⟨e, vj', g1, g2, g3, g4, g5, g6⟩ => ⟨_, e, k D vj' H' g1 nD g2 g3 g4 g5 g6⟩⟩
    have out : ∀ {Hk : Hp} {vj2 : List (List Jt)} {n2 : Nat}, FX K H Hk st g c n2 D ls vj2 → n2 ≤ n + 40 → vj2.length = vj.length → (∀ x ∈ vj2, x.length ≤ b + 2) → ∃ vj' : List (List Jt), VjL K Hk D vj' ∧ vj'.length = vj.length ∧ (∀ x ∈ vj', x.length ≤ b + 2) ∧ SA Hk st g c (n + 40) ∧ Fr st g H Hk ∧ NG Hk st g D := fun X hn2 hl hb2 => ⟨_, ⟨ls, X.hD, X.ll, X.at_⟩, hl, hb2, X.S.mono hn2, X.F, ls, X.hD, fun q m => ⟨(X.nq q m).2.1, (X.nq q m).2.2.1⟩⟩
    have rep : ∀ {Hk : Hp} {n2 : Nat} {l : Addr} {v : List Jt}, FX K H Hk st g c n2 D ls vj → n2 ≤ n + 40 → l ≠ D → (l ≠ st ∧ l ≠ g ∧ l ≠ c) → VjAt K Hk l v → v.length ≤ b + 2 → ∃ vj' : List (List Jt), VjL K (upd Hk D (.lst ((ls.map V.ref).set i (.ref l)))) D vj' ∧ vj'.length = vj.length ∧ (∀ x ∈ vj', x.length ≤ b + 2) ∧ SA (upd Hk D (.lst ((ls.map V.ref).set i (.ref l)))) st g c (n + 40) ∧ Fr st g H (upd Hk D (.lst ((ls.map V.ref).set i (.ref l)))) ∧ NG (upd Hk D (.lst ((ls.map V.ref).set i (.ref l)))) st g D := fun {Hk n2 l v} X hn2 nl ol a lv => by
      rw [show (ls.map V.ref).set i (.ref l) = (ls.set i l).map V.ref from (List.map_set ..).symm]
      exact ⟨_, X.out hi nl a, by rw [List.length_set], mem_setj hb lv, (X.S.put X.nD).mono hn2, (fun b' o e s1 s2 => (upd_ne (fun w => by rw [w, nD] at e; cases e)).trans (X.F b' o e s1 s2)), ls.set i l, upd_same, fun u m => (List.mem_or_eq_of_mem_set m).elim (fun e => ⟨(X.nq u e).2.1, (X.nq u e).2.2.1⟩) (fun e => e ▸ ⟨ol.1, ol.2.1⟩)⟩
    have ixD : ixN (ls.map V.ref).length (i : Int) = some i := by
      unfold ixN
      rw [if_pos (by omega), if_pos (by rw [List.length_map, X5.ll]; omega)]
      congr 1
    have s1000 : (10000 : Nat) ≤ sizeLine := by rw [sizeLine_eq]; decide
    -- way < 2
    refine ⟨fun bb H' => Same H5 H' ∧ (bb = true → vi ≠ []), ?_, ?_⟩
    · refine ⟨_, rfl, _, _, rfl, rfl, _, rfl, ite2 (fun _ => ?_) (fun _ => ⟨Same.refl _, fun z => nomatch z⟩)⟩
      refine ⟨_, rfl, _, rfl, D, _, (i : Int), .ref q, rfl, rfl, SqL.of X5.hD, ai, (by show 0 ≤ sizeLine; decide), fun e ne => ?_⟩
      have se := sadd (o := .lst []) (Same.refl H5) ne
      obtain ⟨ps, p1, p2⟩ := (X5.same se).at_ i q hq
      rw [hvi] at p2
      refine ⟨.list (vi.map Jt.d), .list [], .lst (SqL.of p1) p2.jdp, .lst (SqL.of upd_same) .nil, shaped_jts _, rfl, _, rfl, se, fun z e => ?_⟩
      rw [eqv_nilZ, e] at z
      cases z
    rintro bb H6 ⟨s6, hne⟩
    have X6 := X5.same s6
    clear X5 s6
    cases bb with
    | true =>
      have hne := hne rfl
      refine iteT ?_
      obtain ⟨ps, p1, p2⟩ := X6.at_ i q hq
      rw [hvi] at p2
      have lps := p2.len
      obtain ⟨u, hu⟩ : ∃ u, ps[s]? = some u := ⟨_, List.getElem?_eq_getElem (by have := sl2 hne; omega)⟩
      obtain ⟨x, hx, hux⟩ := p2.get hu
      have au : atI (ps.map V.ref) (s : Int) = some (.ref u) := atI_nat (by rw [List.getElem?_map, hu]; rfl)
      refine ⟨_, rfl, _, rfl, _, rfl, D, _, (i : Int), .ref q, rfl, rfl, SqL.of X6.hD, ai, _, rfl, q, _, (s : Int), .ref u, rfl, rfl, SqL.of p1, au, st, g, c, u, _, x, rfl, X6.S, by omega, hux, fun t y H7 hy S7 F7 => ?_⟩
      have X7 := X6.draw S7 F7
      have p17 := F7 _ _ p1 (X6.nq q mq).2.1 (X6.nq q mq).2.2.1
      have p27 : AllQ K H7 Jt.vs ps vi := p2.mono fun _ _ w => sqt_fr X6.S F7 w
      refine ⟨_, rfl, _, rfl, D, _, (i : Int), .ref q, rfl, rfl, SqL.of X7.hD, ai, _, rfl, q, _, (s : Int), s, rfl, rfl, p17, ?_, ?_⟩
      · unfold ixN
        rw [if_pos (by omega), if_pos (by rw [List.length_map]; have := sl2 hne; omega)]
        congr 1
      rw [show (ps.map V.ref).set s (.ref t) = (ps.set s t).map V.ref from (List.map_set ..).symm]
      have X8 := X7.items nh hq (p27.set_ s hy)
      exact ⟨rfl, out X8 (by omega) (by rw [List.length_set]) (mem_setj hb (by rw [List.length_set]; omega))⟩
    | false =>
    refine iteF ?_
    clear hne
    -- way == 2
    refine ⟨_, rfl, rfl, _, rfl, ite2 (fun _ => ?_) (fun _ => ?_)⟩
    · obtain ⟨ps, p1, p2⟩ := X6.at_ i q hq
      rw [hvi] at p2
      refine ⟨_, rfl, _, rfl, D, _, (i : Int), .ref q, rfl, rfl, SqL.of X6.hD, ai, _, rfl, _, rfl, q, _, rfl, SqL.of p1, fun l nl => ?_⟩
      rw [cutV_take, ← List.map_take]
      have a1 := sadd (o := .lst ((ps.take s).map V.ref)) (Same.refl H6) nl
      have X7 := X6.same a1
      have nlD : l ≠ D := (ne_of_none X6.hD nl).symm
      refine ⟨_, rfl, _, rfl, D, _, (i : Int), i, rfl, rfl, X7.hD, ixD, ?_⟩
      exact ⟨rfl, rep X7 (by omega) nlD (X6.S.old nl) ⟨ps.take s, upd_same, (p2.same a1).takeZ s⟩ (by rw [List.length_take]; omega)⟩
    -- way == 3
    refine ⟨_, rfl, rfl, _, rfl, ite2 (fun _ => ?_) (fun _ => ?_)⟩
    · refine ⟨_, rfl, st, g, c, _, rfl, X6.S, by omega, fun z1 H7 _ _ S7 F7 => ?_⟩
      have X7 := X6.draw S7 F7
      refine ⟨(by show 3 ≤ sizeLine; decide), fun t1 nt1 => ?_⟩
      have a1 := sadd (o := .tup [.str "in", .int 0, .int z1]) (Same.refl H7) nt1
      have r1 : SqT K (upd H7 t1 (.tup [.str "in", .int 0, .int z1])) t1 (Jt.inn (.n 0) (.n z1)).vs := SqT.of upd_same
      generalize upd H7 t1 (.tup [.str "in", .int 0, .int z1]) = H8 at a1 r1 ⊢
      refine ⟨(by show 2 ≤ sizeLine; decide), fun t2 nt2 => ?_⟩
      have a2 := sadd (o := .tup [.str "got", .int 1]) a1 nt2
      have r2 : SqT K (upd H8 t2 (.tup [.str "got", .int 1])) t2 (Jt.got (.n 1)).vs := SqT.of upd_same
      replace r1 := same_seq2 (sadd (o := .tup [.str "got", .int 1]) (Same.refl H8) nt2) r1
      generalize upd H8 t2 (.tup [.str "got", .int 1]) = H9 at a2 r1 r2 ⊢
      refine ⟨(by show 2 ≤ sizeLine; decide), fun l1 nl1 => ?_⟩
      have a3 := sadd (o := .lst [.ref t1, .ref t2]) a2 nl1
      have b3 := sadd (o := .lst [.ref t1, .ref t2]) (Same.refl H9) nl1
      have f1 : upd H9 l1 (.lst [.ref t1, .ref t2]) l1 = some (.lst [.ref t1, .ref t2]) := upd_same
      replace r1 := same_seq2 b3 r1
      replace r2 := same_seq2 b3 r2
      have ol1 := (X7.same a2).S.old nl1
      generalize upd H9 l1 (.lst [.ref t1, .ref t2]) = H10 at a3 r1 r2 f1 ⊢
      have X10 := X7.same a3
      clear X6 X7 S7 F7 a1 a2 a3 b3
      refine ⟨fun σ' H' => ∃ (l : Addr) (ts : List Addr) (ys : List Jt), σ' = [some (.ref st), some (.ref vl), some (.ref D), some (.int (i : Int)), some (.int way), some (.int (s : Int)), some (.ref l), none, none] ∧ H' l = some (.lst (ts.map V.ref)) ∧ l ≠ g ∧ 0 < ts.length ∧ ts.length ≤ 10 ∧ AllQ K H' Jt.vs ts ys ∧ FX K H H' st g c (n + 20) D ls vj, ?_, ?_⟩
      · obtain ⟨ps, p1, p2⟩ := X10.at_ i q hq
        refine ⟨_, rfl, _, rfl, D, _, (i : Int), .ref q, rfl, rfl, SqL.of X10.hD, ai, q, _, rfl, .inl (SqL.of p1), _, _, rfl, rfl, (by show (0 : Int) < 2; decide), rfl, _, rfl, ite2 (fun _ => ?_) (fun _ => ?_)⟩
        · refine ⟨(by show 2 ≤ sizeLine; decide), fun t3 nt3 => ?_⟩
          have a1 := sadd (o := .tup [.str "gives", .int 3]) (Same.refl H10) nt3
          have r3 : SqT K (upd H10 t3 (.tup [.str "gives", .int 3])) t3 (Jt.gives (.n 3)).vs := SqT.of upd_same
          generalize upd H10 t3 (.tup [.str "gives", .int 3]) = H11 at a1 r3 ⊢
          refine ⟨(by show 4 ≤ sizeLine; decide), fun t4 nt4 => ?_⟩
          have a2 := sadd (o := .tup [.str "calls", .int 0, .int 0, .int 1]) a1 nt4
          have r4 : SqT K (upd H11 t4 (.tup [.str "calls", .int 0, .int 0, .int 1])) t4 (Jt.calls (.n 0) (.n 0) (.n 1)).vs := SqT.of upd_same
          replace r3 := same_seq2 (sadd (o := .tup [.str "calls", .int 0, .int 0, .int 1]) (Same.refl H11) nt4) r3
          generalize upd H11 t4 (.tup [.str "calls", .int 0, .int 0, .int 1]) = H12 at a2 r3 r4 ⊢
          refine ⟨(by show 1 ≤ sizeLine; decide), fun t5 nt5 => ?_⟩
          have a3 := sadd (o := .tup [.str "ends"]) a2 nt5
          have r5 : SqT K (upd H12 t5 (.tup [.str "ends"])) t5 Jt.ends.vs := SqT.of upd_same
          replace r3 := same_seq2 (sadd (o := .tup [.str "ends"]) (Same.refl H12) nt5) r3
          replace r4 := same_seq2 (sadd (o := .tup [.str "ends"]) (Same.refl H12) nt5) r4
          generalize upd H12 t5 (.tup [.str "ends"]) = H13 at a3 r3 r4 r5 ⊢
          refine ⟨(by show 3 ≤ sizeLine; decide), fun l2 nl2 => ?_⟩
          have a4 := sadd (o := .lst [.ref t3, .ref t4, .ref t5]) a3 nl2
          have b4 := sadd (o := .lst [.ref t3, .ref t4, .ref t5]) (Same.refl H13) nl2
          have ol2 := (X10.same a3).S.old nl2
          exact ⟨l2, [t3, t4, t5], [_, _, _], rfl, upd_same, ol2.2.1, (by show 0 < 3; decide), (by show 3 ≤ 10; decide), .cons (same_seq2 b4 r3) (.cons (same_seq2 b4 r4) (.cons (same_seq2 b4 r5) .nil)), (X10.same a4).mono (by omega)⟩
        · exact ⟨l1, [t1, t2], [_, _], rfl, f1, ol1.2.1, (by show 0 < 2; decide), (by show 2 ≤ 10; decide), .cons r1 (.cons r2 .nil), X10.mono (by omega)⟩
      rintro σ' H11 ⟨l, ts, ys, rfl, hl, lg, l0, l10, hts, X11⟩
      clear X10
      obtain ⟨ps, p1, p2⟩ := X11.at_ i q hq
      rw [hvi] at p2
      refine ⟨_, rfl, _, rfl, D, _, (i : Int), .ref q, rfl, rfl, SqL.of X11.hD, ai, .inl ⟨rfl, _, SqL.of p1⟩, _, rfl, _, rfl, st, g, c, l, _, _, rfl, X11.S, by omega, .inl ⟨hl, lg⟩, by rw [List.length_map]; exact l0, by rw [List.length_map]; omega, fun v H12 hv S12 F12 => ?_⟩
      obtain ⟨t, ht, rfl⟩ := List.mem_map.mp hv
      obtain ⟨k0, hk0⟩ := List.getElem?_of_mem ht
      obtain ⟨y, _, hty⟩ := hts.get hk0
      have X12 := X11.draw S12 F12
      have p1' := F12 _ _ p1 (X11.nq q mq).2.1 (X11.nq q mq).2.2.1
      have p2' : AllQ K H12 Jt.vs ps vi := p2.mono fun _ _ w => sqt_fr X11.S F12 w
      have hty' := sqt_fr X11.S F12 hty
      refine ⟨q, _, _, rfl, rfl, p1', by rw [List.length_map, p2.len]; omega, ?_⟩
      rw [show ps.map V.ref ++ [V.ref t] = (ps ++ [t]).map V.ref by rw [List.map_append]; rfl]
      have X13 := X12.items nh hq (p2'.both (.cons hty' .nil))
      exact ⟨rfl, out X13 (by omega) (by rw [List.length_set]) (mem_setj hb (by rw [List.length_append, List.length_singleton]; omega))⟩
    -- way == 4
    refine ⟨_, rfl, rfl, _, rfl, ite2 (fun _ => ?_) (fun _ => ?_)⟩
    · refine ⟨_, rfl, _, rfl, D, _, rfl, .inl (SqL.of X6.hD), st, g, c, _, (((ls.map V.ref).length : Nat) : Int), rfl, X6.S, by omega, by rw [List.length_map, X6.ll]; omega, by rw [List.length_map, X6.ll]; omega, fun z H7 z0 zR S7 F7 => ?_⟩
      have X7 := X6.draw S7 F7
      rw [List.length_map, X6.ll] at zR
      obtain ⟨j, rfl⟩ := Int.eq_ofNat_of_zero_le z0
      obtain ⟨q2, hq2⟩ : ∃ q2, ls[j]? = some q2 := ⟨_, List.getElem?_eq_getElem (by rw [X6.ll]; omega)⟩
      have aj : atI (ls.map V.ref) (j : Int) = some (.ref q2) := atI_nat (by rw [List.getElem?_map, hq2]; rfl)
      refine ⟨_, rfl, _, rfl, D, _, (j : Int), .ref q2, rfl, rfl, SqL.of X7.hD, aj, _, rfl, _, rfl, D, _, (i : Int), .ref q, rfl, rfl, SqL.of X7.hD, ai, (by show 2 ≤ sizeLine; decide), fun tp ntp => ?_⟩
      have a1 := sadd (o := .tup [.ref q2, .ref q]) (Same.refl H7) ntp
      have ft : upd H7 tp (.tup [.ref q2, .ref q]) tp = some (.tup [.ref q2, .ref q]) := upd_same
      have X8 := X7.same a1
      generalize upd H7 tp (.tup [.ref q2, .ref q]) = H8 at X8 ft ⊢
      refine ⟨tp, _, rfl, SqT.of ft, rfl, _, _, rfl, _, rfl, _, rfl, D, _, (i : Int), i, rfl, rfl, X8.hD, ixD, _, _, rfl, _, rfl, _, rfl, D, _, (j : Int), j, rfl, rfl, upd_same, ?_, rfl, ?_⟩
      · unfold ixN
        rw [if_pos (by omega), if_pos (by rw [List.length_set, List.length_map, X7.ll]; omega)]
        congr 1
      rw [upd_upd, show ((ls.map V.ref).set i (.ref q2)).set j (.ref q) = ((ls.set i q2).set j q).map V.ref by rw [← List.map_set, ← List.map_set]]
      refine ⟨rfl, _, X8.swap hq hq2, by simp only [List.length_set], ?_, (X8.S.put X8.nD).mono (by omega), (fun b' o e s1 s2 => (upd_ne (fun w => by rw [w, nD] at e; cases e)).trans (X8.F b' o e s1 s2)), (ls.set i q2).set j q, upd_same, fun u m => ?_⟩
      · intro x hx
        rcases List.mem_or_eq_of_mem_set hx with e | e
        · exact mem_setj hb (by have := bi j; omega) x e
        · rw [e]
          have := bi i
          omega
      · have hm : u ∈ ls := by
          rcases List.mem_or_eq_of_mem_set m with e | e
          · rcases List.mem_or_eq_of_mem_set e with e | e
            · exact e
            · rw [e]; exact List.mem_of_getElem? hq2
          · rw [e]; exact mq
        exact ⟨(X8.nq u hm).2.1, (X8.nq u hm).2.2.1⟩
    -- way == 5
    refine ⟨fun bb H' => Same H6 H' ∧ (bb = true → vi ≠ []), ?_, ?_⟩
    · refine ⟨_, rfl, rfl, _, rfl, ite2 (fun _ => ?_) (fun _ => ⟨Same.refl _, fun z => nomatch z⟩)⟩
      refine ⟨_, rfl, _, rfl, D, _, (i : Int), .ref q, rfl, rfl, SqL.of X6.hD, ai, (by show 0 ≤ sizeLine; decide), fun e ne => ?_⟩
      have se := sadd (o := .lst []) (Same.refl H6) ne
      obtain ⟨ps, p1, p2⟩ := (X6.same se).at_ i q hq
      rw [hvi] at p2
      refine ⟨.list (vi.map Jt.d), .list [], .lst (SqL.of p1) p2.jdp, .lst (SqL.of upd_same) .nil, shaped_jts _, rfl, _, rfl, se, fun z e => ?_⟩
      rw [eqv_nilZ, e] at z
      cases z
    rintro bb H7 ⟨s7, hne⟩
    have X7 := X6.same s7
    clear X6 s7
    obtain ⟨ps, p1, p2⟩ := X7.at_ i q hq
    rw [hvi] at p2
    have lps := p2.len
    cases bb with
    | true =>
      have hne := hne rfl
      have hsl := sl2 hne
      refine iteT ?_
      refine ⟨_, rfl, _, rfl, D, _, (i : Int), .ref q, rfl, rfl, SqL.of X7.hD, ai, _, rfl, _, rfl, q, _, rfl, SqL.of p1, fun l1 nl1 => ?_⟩
      rw [cutV_take, ← List.map_take]
      have a1 := sadd (o := .lst ((ps.take s).map V.ref)) (Same.refl H7) nl1
      have f1 : upd H7 l1 (.lst ((ps.take s).map V.ref)) l1 = some (.lst ((ps.take s).map V.ref)) := upd_same
      generalize upd H7 l1 (.lst ((ps.take s).map V.ref)) = H8 at a1 f1 ⊢
      have X8 := X7.same a1
      have e1 : (s : Int) + 1 = ((s + 1 : Nat) : Int) := by omega
      refine ⟨_, rfl, _, rfl, D, _, (i : Int), .ref q, rfl, rfl, SqL.of X8.hD, ai, _, rfl, _, _, rfl, rfl, _, rfl, q, _, rfl, SqL.of (a1 _ _ p1), fun l2 nl2 => ?_⟩
      rw [e1, cutV_fromZ _ _ (by rw [List.length_map]; omega), ← List.map_drop]
      have a2 := sadd (o := .lst ((ps.drop (s + 1)).map V.ref)) a1 nl2
      have b2 := sadd (o := .lst ((ps.drop (s + 1)).map V.ref)) (Same.refl H8) nl2
      have f2 : upd H8 l2 (.lst ((ps.drop (s + 1)).map V.ref)) l2 = some (.lst ((ps.drop (s + 1)).map V.ref)) := upd_same
      replace f1 := b2 _ _ f1
      generalize upd H8 l2 (.lst ((ps.drop (s + 1)).map V.ref)) = H9 at a2 f1 f2 b2 ⊢
      have X9 := X7.same a2
      refine ⟨l1, l2, _, _, rfl, rfl, f1, f2, by rw [List.length_map, List.length_map, List.length_take, List.length_drop]; omega, fun l nl => ?_⟩
      rw [← List.map_append]
      have a3 := sadd (o := .lst ((ps.take s ++ ps.drop (s + 1)).map V.ref)) (Same.refl H9) nl
      have X10 := X9.same a3
      have nlD : l ≠ D := (ne_of_none X9.hD nl).symm
      refine ⟨_, rfl, _, rfl, D, _, (i : Int), i, rfl, rfl, X10.hD, ixD, ?_⟩
      exact ⟨rfl, rep X10 (by omega) nlD (X9.S.old nl) ⟨_, upd_same, (((p2.same (a2.trans a3)).takeZ s).both ((p2.same (a2.trans a3)).dropZ (s + 1)))⟩ (by rw [List.length_append, List.length_take, List.length_drop]; omega)⟩
    | false =>
    refine iteF ?_
    -- else
    refine ⟨_, rfl, _, rfl, D, _, (i : Int), .ref q, rfl, rfl, SqL.of X7.hD, ai, (by show 0 ≤ sizeLine; decide), fun e ne => ?_⟩
    have se := sadd (o := .lst []) (Same.refl H7) ne
    refine ⟨.list (vi.map Jt.d), .list [], .lst (SqL.of (se _ _ p1)) (p2.same se).jdp, .lst (SqL.of upd_same) .nil, shaped_jts _, rfl, _, rfl, ?_⟩
    have X8 := X7.same se
    have p18 := se _ _ p1
    have p28 := p2.same se
    generalize upd H7 e (.lst []) = H8 at X8 p18 p28 ⊢
    refine ite2 (fun _ => ?_) (fun _ => ?_)
    · refine ⟨_, rfl, _, rfl, D, _, (i : Int), .ref q, rfl, rfl, SqL.of X8.hD, ai, _, rfl, _, rfl, D, _, (i : Int), .ref q, rfl, rfl, SqL.of X8.hD, ai, _, rfl, _, rfl, q, _, rfl, SqL.of p18, fun l1 nl1 => ?_⟩
      obtain ⟨d, hd, ed⟩ := cutV_last2 (ps.map V.ref)
      rw [List.length_map] at hd
      rw [ed, ← List.map_drop]
      have a1 := sadd (o := .lst ((ps.drop d).map V.ref)) (Same.refl H8) nl1
      have f1 : upd H8 l1 (.lst ((ps.drop d).map V.ref)) l1 = some (.lst ((ps.drop d).map V.ref)) := upd_same
      generalize upd H8 l1 (.lst ((ps.drop d).map V.ref)) = H9 at a1 f1 ⊢
      have X9 := X8.same a1
      refine ⟨q, l1, _, _, rfl, rfl, a1 _ _ p18, f1, by rw [List.length_map, List.length_map, List.length_drop]; omega, fun l nl => ?_⟩
      rw [← List.map_append]
      have a2 := sadd (o := .lst ((ps ++ ps.drop d).map V.ref)) (Same.refl H9) nl
      have X10 := X9.same a2
      have nlD : l ≠ D := (ne_of_none X9.hD nl).symm
      refine ⟨_, rfl, _, rfl, D, _, (i : Int), i, rfl, rfl, X10.hD, ixD, ?_⟩
      exact ⟨rfl, rep X10 (by omega) nlD (X9.S.old nl) ⟨_, upd_same, ((p28.same (a1.trans a2)).both ((p28.same (a1.trans a2)).dropZ d))⟩ (by rw [List.length_append, List.length_drop]; omega)⟩
    · exact ⟨rfl, out X8 (by omega) rfl (fun x hx => by have := hb x hx; omega)⟩
end
end OH
end
section
set_option Elab.async false
set_option linter.all false
set_option maxRecDepth 100000
set_option maxHeartbeats 4000000
/-! is_view of lists, and of values that are none. -/
namespace OH
open PySem PySem.Spec PyProof.Rows L2
/-- what is no list and no tuple is no view -/
def spNoView (K : PySem.W.Frag) : Sp := fun vs H Q _ => ∃ v : V, vs = [v] ∧ (v = .non ∨ (∃ i, v = .int i) ∨ (∃ x, v = .str x) ∨ ∃ d kvs, v = .ref d ∧ H d = some (.dK kvs)) ∧ ∀ H', Same H H' → Q (.bl false) H'
section
variable {P : Program} {w : World} {K : PySem.W.Frag} {mg : Str → Option Value} {base : Heap}
theorem ok_no_view {f : Addr} {fd : FuncData} {aE : Addr} (F : Fun K "good_view" "good_view" s_good_view f fd) (T : Txt K mg) (gE : mg "ENDS" = some (.ref aE))
    (DE : DefF P w K mg base CX0 2 "are_events" ["values"] (spItemsJ K evOk)) (DA : DefF P w K mg base CX0 2 "are_acts" ["values"] (spItemsJ K acOk)) : FnOk P w K mg base CX0 3 f fd ["value"] (spNoView K) := by
  refine F.ok sc_good_view (fun vs H Q E h => ?_) (fun cdv A outer s H vs Q E hr h => ?_)
  · obtain ⟨v, rfl, _⟩ := h
    rfl
  · obtain ⟨v, rfl, hv, k⟩ := h
    have nd := sc_good_view.nd
    refine ⟨_, pss_cons (ps_if (PW.pt (pw_or (pt_not (pt_val (pe_callB call_isiT (by rfl) T.nIsi (by decide +kernel) (pa_cons (pv 0) (pa_cons (pe_tup (pa_cons (pe_bltn (v := .ty "list") (by rfl) T.nList (by decide +kernel) rfl) (pa_cons (pe_bltn (v := .ty "tuple") (by rfl) T.nTuple (by decide +kernel) rfl) pa_nil))) pa_nil))))) (pw_or (pt_not (pt_val (pe_cD DE hr rfl pass0 (pa_cons (pe_evL (pv 0)) pa_nil)))) (pw_or1 (pt_not (pt_val (pe_cD DA hr rfl pass0 (pa_cons (pe_odL (pv 0)) pa_nil)))))))) (pss_one (ps_ret pe_bl)) pss_nil)
      (pss_cons (ps_if (pt_cmpR (op_inD (Room_u65 hr)) (pe_glob (v := .ref aE) rfl gE rfl) (pe_slice sl_list (pv 0) po_none (po_some (pe_un un_neg pe_int))) (by rfl)) (pss_one (ps_ret pe_bl)) pss_nil)
      (pss_cons (ps_set (i := 1) nd rfl (Or.inl rfl) pe_int)
      (pss_cons (ps_for PassesOwn.never rfl (pi_list (pv 0)) (pg_name (i := 2) nd rfl (Or.inl rfl))
        (pss_one (ps_if (pt_cmpR op_eq (pe_ix ix_tup (pv 2) pe_int (fun _ _ => rfl)) pe_str (nomark _)) (pss_one (ps_aug (i := 1) nd rfl (Or.inl rfl) pe_int ip_add)) (pss_one (ps_if (pt_cmpR op_eq (pe_ix ix_tup (pv 2) pe_int (fun _ _ => rfl)) pe_str (nomark _)) (pss_cons (ps_aug (i := 1) nd rfl (Or.inl rfl) pe_int ip_sub)
      (pss_one (ps_if (pt_cmpR op_lt (pv 1) pe_int (nomark _)) (pss_one (ps_ret pe_bl)) pss_nil))) pss_nil)))))
      (pss_one (ps_ret pe_bl))))), ?_⟩
    refine ⟨_, rfl, (by show 2 ≤ sizeLine; decide), fun tp ntp => ?_⟩
    have s1 := sadd (o := .tup [.ty "list", .ty "tuple"]) (Same.refl H) ntp
    have htp : upd H tp (.tup [.ty "list", .ty "tuple"]) tp = some (.tup [.ty "list", .ty "tuple"]) := upd_same
    generalize upd H tp (.tup [.ty "list", .ty "tuple"]) = H1 at s1 htp ⊢
    rcases hv with rfl | ⟨i, rfl⟩ | ⟨x, rfl⟩ | ⟨d, kvs, rfl, hd⟩
    · refine ⟨_, tp, _, _, _, _, rfl, htp, .cons (.ty _) (.cons (.ty _) .nil), .base .non, kitAny_cons (kit_ty (r := false) (by decide +kernel)) (fun _ => kitAny_cons (kit_ty (r := false) (by decide +kernel)) (fun _ => kitAny_nil) (fun z => nomatch z)) (fun z => nomatch z), _, rfl, iteT (iteT ?_)⟩
      exact k _ s1
    · refine ⟨_, tp, _, _, _, _, rfl, htp, .cons (.ty _) (.cons (.ty _) .nil), .base (.int i), kitAny_cons (kit_ty (r := false) (by decide +kernel)) (fun _ => kitAny_cons (kit_ty (r := false) (by decide +kernel)) (fun _ => kitAny_nil) (fun z => nomatch z)) (fun z => nomatch z), _, rfl, iteT (iteT ?_)⟩
      exact k _ s1
    · refine ⟨_, tp, _, _, _, _, rfl, htp, .cons (.ty _) (.cons (.ty _) .nil), .base (.str x), kitAny_cons (kit_ty (r := false) (by decide +kernel)) (fun _ => kitAny_cons (kit_ty (r := false) (by decide +kernel)) (fun _ => kitAny_nil) (fun z => nomatch z)) (fun z => nomatch z), _, rfl, iteT (iteT ?_)⟩
      exact k _ s1
    · refine ⟨_, tp, _, _, _, _, rfl, htp, .cons (.ty _) (.cons (.ty _) .nil), .base (.dK (s1 _ _ hd)), kitAny_cons (kit_ty (r := false) (by decide +kernel)) (fun _ => kitAny_cons (kit_ty (r := false) (by decide +kernel)) (fun _ => kitAny_nil) (fun z => nomatch z)) (fun z => nomatch z), _, rfl, iteT (iteT ?_)⟩
      exact k _ s1
theorem sc_is_view : FnScope ["value"] ["value"] (defScope s_is_view) := ⟨rfl, rfl, rfl, by decide +kernel, rfl, by decide +kernel, by decide +kernel⟩
theorem ok_is_view {f : Addr} {fd : FuncData} (F : Fun K "is_view" "is_view" s_is_view f fd) (DG : DefF P w K mg base CX0 4 "good_view" ["value"] (spGoodVJ K)) : FnOk P w K mg base CX0 5 f fd ["value"] (spGoodVJ K) := by
  refine F.ok sc_is_view (fun vs H Q E h => ?_) (fun cdv A outer s H vs Q E hr h => ?_)
  · obtain ⟨l, its, rfl, _⟩ := h
    rfl
  · obtain ⟨l, its, rfl, hl, k⟩ := h
    refine ⟨_, pss_one (ps_ret (pe_cD DG hr rfl pass0 (pa_cons (pv 0) pa_nil))), ?_⟩
    exact ⟨_, rfl, l, its, rfl, hl, k⟩
theorem ok_is_no_view {f : Addr} {fd : FuncData} (F : Fun K "is_view" "is_view" s_is_view f fd) (DG : DefF P w K mg base CX0 4 "good_view" ["value"] (spNoView K)) : FnOk P w K mg base CX0 5 f fd ["value"] (spNoView K) := by
  refine F.ok sc_is_view (fun vs H Q E h => ?_) (fun cdv A outer s H vs Q E hr h => ?_)
  · obtain ⟨v, rfl, _⟩ := h
    rfl
  · obtain ⟨v, rfl, hv, k⟩ := h
    refine ⟨_, pss_one (ps_ret (pe_cD DG hr rfl pass0 (pa_cons (pv 0) pa_nil))), ?_⟩
    exact ⟨_, rfl, v, rfl, hv, k⟩
end
end OH
end
section
set_option Elab.async false
set_option linter.all false
set_option maxRecDepth 100000
set_option maxHeartbeats 8000000
/-! Answers that hold. -/
namespace OH
open PySem PySem.Spec PyProof.Rows L2
open LamX (Tabs TabS ExtN TabB CodeO)
theorem call_isJA {X : Cx} {D : Addr} (C : ExcC X.K D) : CallR X (.builtin "isinstance") (fun xs H Q => ∃ (fs : Option (List (Str × V))) (a : Addr) (c : V) (cv : Value) (b : Bool),
    xs = [.ref a, c] ∧ Held H a D fs ∧ (∀ u, RelV c u → u = cv) ∧ PySem.W.kitOne X.K (.ref D) cv = some b ∧ Q (.bl b) H) :=
  fun pins s σ H xs us Q I r ⟨fs, h⟩ => call_isJ (fs := fs) C pins s σ H xs us Q I r h
theorem lift_good : ∀ vj : List (List Jt), vj.all goodJ = true → ∃ vs : List (List It), vj = vs.map (fun ys => ys.map Jt.of) ∧ ∀ ys ∈ vs, GV ys
  | [], _ => ⟨[], rfl, fun _ h => absurd h List.not_mem_nil⟩
  | x :: xs, h => by
    rw [List.all_cons, Bool.and_eq_true] at h
    obtain ⟨ys, e, g⟩ := good_of h.1
    obtain ⟨vs, e2, g2⟩ := lift_good xs h.2
    exact ⟨ys :: vs, by rw [e, e2]; rfl, fun z hz => by
      rcases List.mem_cons.mp hz with w | w
      · rw [w]; exact g
      · exact g2 z w⟩
def vjD (vj : List (List Jt)) : PyData := .list (vj.map fun its => .list (its.map Jt.d))
theorem dpAllZ {K : PySem.W.Frag} {H : Hp} : ∀ (ps : List Addr) (vj : List (List Jt)), ps.length = vj.length → (∀ (r : Nat) (q : Addr), ps[r]? = some q → VjAt K H q (vj.getD r [])) → DpAll K H (ps.map V.ref) (vj.map fun its => .list (its.map Jt.d))
  | [], [], _, _ => .nil
  | [], _ :: _, h, _ => by cases h
  | _ :: _, [], h, _ => by cases h
  | p :: ps, x :: xs, h, hh => .cons (by obtain ⟨qs, e1, a1⟩ := hh 0 p rfl; exact .lst (SqL.of e1) a1.jdp) (dpAllZ ps xs (Nat.succ.inj h) fun r q e => hh (r + 1) q e)
theorem shaped_vj (vj : List (List Jt)) : SeqAt.shaped (vjD vj) = true := shaped_lst (k := 2) (by decide) fun d hd => by
  obtain ⟨its, _, rfl⟩ := List.mem_map.mp hd
  exact lay_tup (ds := its.map Jt.d) (k := 1) fun e he => by
    obtain ⟨x, _, rfl⟩ := List.mem_map.mp he
    exact x.lay
theorem eqv_shZ {d : PyData} (h : SeqAt.shaped d = true) : PyData.eqv d d = true := SeqAt.eqv_refl d (by unfold SeqAt.shaped at h; rw [Bool.and_eq_true] at h; exact h.1)
theorem sqt_ext {K : PySem.W.Frag} {H H' : Hp} {a : Addr} {xs : List V} (e : ExtN H H') (h : SqT K H a xs) : SqT K H' a xs := by
  rcases h with (h | ⟨o, h⟩) | h
  · exact .inl (.inl (e _ _ h (fun _ z => nomatch z)))
  · exact .inl (.inr ⟨o, e _ _ h (fun _ z => nomatch z)⟩)
  · exact .inr h
theorem VjAt.ext {K : PySem.W.Frag} {H H' : Hp} {l : Addr} {v : List Jt} (h : VjAt K H l v) (e : ExtN H H') : VjAt K H' l v := by
  obtain ⟨ps, h1, h2⟩ := h
  exact ⟨ps, e _ _ h1 (fun _ z => nomatch z), h2.mono fun _ _ w => sqt_ext e w⟩
theorem extN_of {H H' : Hp} (s : Same H H') : ExtN H H' := ExtN.of fun q o e => s q o e
theorem VwAt.jt {K : PySem.W.Frag} {H : Hp} {l : Addr} {xs : List It} (h : VwAt K H l xs) : VjAt K H l (xs.map Jt.of) := by
  obtain ⟨ps, h1, h2⟩ := h
  refine ⟨ps, h1, ?_⟩
  clear h1
  induction xs generalizing ps with
  | nil => cases h2; exact .nil
  | cons x xs ih =>
    cases h2 with
    | cons a b => exact .cons (by rw [Jt.of_vs]; exact a) (ih _ b)
theorem runs_short {F : Fc} {vs : List (List It)} {J : Jn} (hF : F.Ok) (hG : ∀ r, r < F.R → GV (vat vs r)) {m : Nat} {c : Option Nat} {o : JO} (R : Runs F vs m J c o) : JInv F vs J c → JnS F J → ∀ J', o = .fin J' → JnS F J' ∧ ∃ c', JInv F vs J' c' := by
  induction R with
  | stop => intro h S J' e; cases e; exact ⟨S, _, h⟩
  | err _ => intro _ _ _ e; cases e
  | step hj _ ih =>
    intro h S J' e
    exact ih (h.step hF hG hj) (S.step hF h.lc (h.st _ rfl).1 hj).1 J' e
theorem Joins.short {F : Fc} {vs : List (List It)} (hF : F.Ok) (hG : ∀ r, r < F.R → GV (vat vs r)) {b : Nat} (hb : ∀ r, (vat vs r).length ≤ b) {cs : List Crs} (h : Joins F vs (.row cs)) : cs.length ≤ F.R * b := by
  have m1 := hF.m1
  cases h with
  | @row n m J h0 R hl =>
    have s0 := sum_bump (l := List.replicate F.R 0) (r := 0) (by rw [List.length_replicate]; omega)
    have S0 : JnS F (jn1 F n) := ⟨by show 1 ≤ (bump (List.replicate F.R 0) 0).sum; omega, Nat.zero_le _, fun k hk => absurd hk List.not_mem_nil⟩
    obtain ⟨S, c', I⟩ := runs_short hF hG R (JInv.init hF hG h0) S0 _ rfl
    have := sum_le J.cnt b (fun r => by
      rcases Nat.lt_or_ge r F.R with z | z
      · exact Nat.le_trans (I.pre r z).2 (hb r)
      · rw [List.getD_eq_getElem?_getD, List.getElem?_eq_none (by rw [I.lc]; exact z)]
        exact Nat.zero_le _)
    rw [I.lc] at this
    exact Nat.le_trans S.lj this
def spAns (K : PySem.W.Frag) (T : List (Addr × Str)) : Sp := fun vs H Q _ => ∃ (a vl : Addr) (F : Fc) (vj : List (List Jt)), vs = [.ref a, .ref vl] ∧ FcAt H a F ∧ VjL K H vl vj ∧ vj.length = F.R ∧ (∀ x ∈ vj, x.length ≤ 100) ∧ Tabs T H ∧ ∀ H', ExtN H H' → Tabs T H' → Q (.bl true) H'
section
variable {P : Program} {w : World} {K : PySem.W.Frag} {mg : Str → Option Value} {base : Heap}
abbrev nAn : List Str := ["face", "views", "view", "right", "kept", "told", "due", "row", "fault", "caught", "room"]
theorem sc__law_answer_holds : FnScope nAn ["face", "views"] (defScope s__law_answer_holds) := ⟨rfl, rfl, rfl, by decide +kernel, rfl, by decide +kernel, by decide +kernel⟩
theorem ok__law_answer_holds {f c0 Pt CO C CB fC fJ fV : Addr} {fdC fdJ fdV : FuncData} {Ts : List (Addr × Str)} {oc : Value} {od an : Option Addr} {kV doc pm ct : Value} {osl : Array (Option Value)} {gV : List Value → List Value → List Value} {gW : List V → List V → List V}
    (lk : K.lookup f = some ⟨oc, od, .func (PySem.W.fnOf "_law_answer_holds" "_law_answer_holds" (defArgs s__law_answer_holds) (defBody s__law_answer_holds) (defScope s__law_answer_holds) .none kV doc pm an (.ref c0) ct), osl⟩) (hcd : PySem.W.codeIn K (.ref c0) "_law_answer_holds" = true)
    (T : Txt K mg) (TB : TabB base mg c0 Pt) (hT : ((Pt, "_law_answer_holds.<locals>.<lambda>") : Addr × Str) ∈ Ts) (hu : ∀ p ∈ Ts, p.1 = Pt → p.2 = "_law_answer_holds.<locals>.<lambda>")
    (EB : ErrC K mg "BadViews" CB) (XB : ExcC K CB) (mOB : PySem.W.exmOne K (.ref CB) (.ref CO) = some true) (iBB : PySem.W.kitOne K (.ref CB) (.ref CB) = some true)
    (TR : ErrF P K mg "Unfit" "room" C) (TA : ErrF P K mg "Unfit" "at" C) (gO : mg "OwnharmError" = some (.ref CO)) (mO : PySem.W.exmOne K (.ref C) (.ref CO) = some true) (iB : PySem.W.kitOne K (.ref C) (.ref C) = some true)
    (FJ : FnOk P w K mg base (L2.CX P w) 9 fJ fdJ ["face", "views"] (spJoinedG K C CB)) (mJ : mg "joined" = some (.ref fJ)) (kJ : PySem.W.keepIn K (.ref fJ) = true) (bJ : Binds K fdJ ["face", "views"] [])
    (FC : Fun K "_law_caught" "_law_caught" s__law_caught fC fdC) (mC : mg "_law_caught" = some (.ref fC)) (bC : Binds K fdC ["action"] [])
    (FV : FnOk P w K mg base CX0 9 fV fdV ["value"] (spGoodVJ K)) (mV : mg "is_view" = some (.ref fV)) (kV2 : PySem.W.keepIn K (.ref fV) = true) (kbV : KBinds K fdV ["value"] ["value"] gV gW) (hgW : ∀ v : V, gW [] [v] = [v])
    (DJ : DefF P w K mg base CX0 11 "_law_view_judged" ["thing"] (spJudged K)) (DF : DefF P w K mg base CX0 11 "_law_fault" ["face", "views"] (spFault K)) (DVo : DefF P w K mg base CX0 11 "view_of" ["row", "room"] (spViewOf K)) :
    FnOk P w K mg base CX0 12 f (PySem.W.fnOf "_law_answer_holds" "_law_answer_holds" (defArgs s__law_answer_holds) (defBody s__law_answer_holds) (defScope s__law_answer_holds) .none kV doc pm an (.ref c0) ct) ["face", "views"] (spAns K Ts) := by
  obtain ⟨oC, oD, kVC, docC, pmC, anC, cdC, ctC, oslC, rfl, lkC, cgC⟩ := FC.ex
  refine fn_of lk hcd sc__law_answer_holds (fun vs H Q E h => ?_) fun A outer s H vs Q E hr h => ?_
  · obtain ⟨a, vl, F, vj, rfl, _⟩ := h
    rfl
  obtain ⟨a, vl, F, vj, rfl, hf, hv, lv, hb, hTb, k⟩ := h
  have nd := sc__law_answer_holds.nd
  refine (fun (main : ∃ t, PSs (cxOf CX0 P w K mg base nAn "_law_answer_holds" (defScope s__law_answer_holds) f (.ref c0) A outer s H E).nox (defBody s__law_answer_holds) t ∧
      t { nx := fun _ H' => Q .non H', rt := Q } (L2.start nAn [.ref a, .ref vl]) H) => (by obtain ⟨t, h1, h2⟩ := main; exact ⟨t, h1.nox, h2⟩)) ?_
  refine ⟨_, pss_cons (ps_par (i := 3) (j := 4) (by rfl) nd rfl rfl (by decide) rfl rfl (pa_cons pe_bl (pa_cons (pe_lc (own := [("view", 2)]) (g := gName 2) (tt := tYes) (te := tCB (fun xs H Q => ∃ p ys, xs = [.ref p] ∧ (SqL K H p ys ∨ SqT K H p ys) ∧ ∀ l, H l = none → Q (.ref l) (upd H l (.lst ys))) (tCons (tVar 2) tNil)) rfl nd (pi_list (pv 1)) (blkOk_by (own := [("view", 2)]) (N := nAn) (sc := defScope s__law_answer_holds) (by decide +kernel)) (fun _ _ _ _ _ => (pg_name (i := 2) nd rfl (Or.inl rfl))) (fun _ _ _ _ _ => pts_nil) (fun _ _ _ _ _ => (pe_callTy call_list_of (by rfl) T.nList (by decide +kernel) (pa_cons (pv 2) pa_nil)))) pa_nil)) (by rfl))
      (pss_cons (ps_for PassesOwn.never rfl (pi_list (pv 1)) (pg_name (i := 2) nd rfl (Or.inl rfl))
        (pss_cons (ps_par (i := 5) (j := 6) (by rfl) nd rfl rfl (by decide) rfl rfl (pa_cons (pe_callK0 FV (hr.mono (by decide)) rfl mV kV2 kbV pass0 (pk_cons (pv 2) pk_nil)) (pa_cons (pe_cD DJ hr rfl pass0 (pa_cons (pv 2) pa_nil)) pa_nil)) (by rfl))
      (pss_cons (ps_if (PW.pt (pw_or (pt_not (pt_val (pe_callB call_isi (by rfl) T.nIsi (by decide +kernel) (pa_cons (pv 5) (pa_cons (pe_bltn (v := .ty "bool") (by rfl) T.nBool (by decide +kernel) rfl) pa_nil))))) (pw_or1 (pt_cmpR op_ne (pv 5) (pv 6) (nomark _))))) (pss_one (ps_ret pe_bl)) pss_nil)
      (pss_one (ps_set (i := 3) nd rfl (Or.inl rfl) (pe_and (pv 3) (pe_one (pv 6))))))))
      (pss_cons (ps_if (pt_not (pt_val (pv 3))) (pss_one (ps_ret (pe_callB (call_isJA XB) (by rfl) T.nIsi (by decide +kernel) (pa_cons (LamX.pe_lamcall (k := 9) (params := _) (t := fun E => _) rfl mC FC.kp lkC cgC bC sc__law_caught rfl (Or.inl rfl) (caught_givesJ gO) TB rfl hT hu hr
        (LamX.lamS_by (by show LamX.lamSB (defScope s__law_answer_holds) _ = true; decide +kernel)) rfl (fun _ _ _ _ _ => rfl)
        (fun A outer s H E f c' hr2 => (pe_callS FJ hr2 rfl mJ kJ bJ (fun σ => L2.passAt (takes_of rfl rfl rfl rfl) σ) (pa_cons (pv 0) (pa_cons (pv 1) pa_nil))))) (pa_cons (pe_glob (v := .ref CB) rfl EB.g rfl) pa_nil))))) pss_nil)
      (pss_cons (ps_asg (pe_cD DF hr rfl pass0 (pa_cons (pv 0) (pa_cons (pv 1) pa_nil))) (pg_tup (by rfl) (pgs_cons (pg_name (i := 7) nd rfl (Or.inr rfl)) (pgs_cons (pg_name (i := 8) nd rfl (Or.inl rfl)) pgs_nil))))
      (pss_cons (ps_if (pt_cmpR op_isN (pv 8) pe_non (nomark _)) (pss_one (ps_ret (pe_and (pe_cmpR (op_eqD hr.units) (pe_call FJ (hr.mono (by decide)) rfl mJ kJ bJ .nil passL (pa_cons (pv 0) (pa_cons (pv 1) pa_nil))) (pv 7) (nomark _)) (pe_one (pe_cmpR (op_eqD hr.units) (pe_lc (own := [("room", 10)]) (g := gName 10) (tt := tYes) (te := tCall (spViewOf K) [] (fun _ _ _ => False) (tCons (tVar 7) (tCons (tVar 10) tNil))) rfl nd (pi_range1 rfl T.nRange (pa_cons (pe_callB call_len_seq (by rfl) T.nLen PySem.boot_len (pa_cons (pv 1) pa_nil)) pa_nil)) (blkOk_by (own := [("room", 10)]) (N := nAn) (sc := defScope s__law_answer_holds) (by decide +kernel)) (fun _ _ _ _ _ => (pg_name (i := 10) nd rfl (Or.inl rfl))) (fun _ _ _ _ _ => pts_nil) (fun _ _ _ _ _ => (pe_cD DVo hr rfl pass0 (pa_cons (pv 7) (pa_cons (pv 10) pa_nil))))) (pv 1) (nomark _)))))) pss_nil)
      (pss_cons (ps_set (i := 9) nd rfl (Or.inl rfl) (LamX.pe_lamcall (k := 9) (params := _) (t := fun E => _) rfl mC FC.kp lkC cgC bC sc__law_caught rfl (Or.inl rfl) (caught_givesJ gO) TB rfl hT hu hr
        (LamX.lamS_by (by show LamX.lamSB (defScope s__law_answer_holds) _ = true; decide +kernel)) rfl (fun _ _ _ _ _ => rfl)
        (fun A outer s H E f c' hr2 => (pe_callS FJ hr2 rfl mJ kJ bJ (fun σ => L2.passAt (takes_of rfl rfl rfl rfl) σ) (pa_cons (pv 0) (pa_cons (pv 1) pa_nil))))))
      (pss_one (ps_ret (pe_and (pe_callB (call_isJA TR.i) (by rfl) T.nIsi (by decide +kernel) (pa_cons (pv 9) (pa_cons (pe_glob (v := .ref C) rfl TR.g rfl) pa_nil))) (pe_and (pe_cmpR (op_eqD hr.units) (pe_tup (pa_cons (pe_heldf TR.f (pv 9)) (pa_cons (pe_heldf TA.f (pv 9)) pa_nil))) (pv 8) (nomark _)) (pe_one (pe_cmpR (op_eqD hr.units) (pv 1) (pv 4) (nomark _)))))))))))), ?_⟩
  have hF := hf.ok
  have m1 := hF.m1
  have m6 := hF.m6
  obtain ⟨vps, v1, v2, v3⟩ := hv.ex
  refine ⟨_, rfl, vl, rfl, ⟨_, SqL.of v1⟩, fun D nD => ?_⟩
  refine lc_list (K := K) (a := vl) (xs := vps.map V.ref) (fun i H' => ∃ ls : List Addr, ls.length = i ∧ Same H H' ∧ H' D = some (.lst (ls.map V.ref)) ∧ (∀ (r : Nat) (q : Addr), ls[r]? = some q → VjAt K H' q (vj.getD r []) ∧ q ≠ D))
    ⟨[], rfl, sadd (Same.refl H) nD, upd_same, fun r q e => by cases e⟩ (fun i H' _ ⟨_, _, s, _⟩ => SqL.of (s _ _ v1)) ?turn ?done
  case turn =>
    rintro i x H1 hx ⟨ls, ll, s1, hD, ha⟩
    rw [List.getElem?_map] at hx
    obtain ⟨q, hq0, rfl⟩ := Option.map_eq_some_iff.mp hx
    refine ⟨rfl, ?_⟩
    unfold tYes
    refine iteT ?_
    obtain ⟨ps, p1, p2⟩ := v3 i q hq0
    refine ⟨_, rfl, q, _, rfl, .inl (SqL.of (s1 _ _ p1)), fun l nl => ?_⟩
    have nlD : l ≠ D := (ne_of_none hD nl).symm
    have s2 := sadd (o := .lst (ps.map V.ref)) (Same.refl H1) nl
    have li : i < vps.length := (List.getElem?_eq_some_iff.mp hq0).1
    refine ⟨_, s2 _ _ hD, by rw [List.length_map, ll, sizeLine_eq]; omega, ls ++ [l], by rw [List.length_append, ll]; rfl, sout (s1.trans s2) nD, by rw [upd_same, List.map_append]; rfl, fun r u e => ?_⟩
    rcases Nat.lt_or_ge r i with hr | hr
    · rw [List.getElem?_append_left (by rw [ll]; exact hr)] at e
      obtain ⟨⟨ps1, e1, a1⟩, nu⟩ := ha r u e
      exact ⟨⟨ps1, (upd_ne nu).trans (s2 _ _ e1), (a1.same s2).mono fun _ _ w => sqt_put _ (s2 _ _ hD) w⟩, nu⟩
    · have er : r = i := by
        have := (List.getElem?_eq_some_iff.mp e).1
        rw [List.length_append, ll, List.length_singleton] at this
        omega
      subst er
      rw [← ll, List.getElem?_append_right (Nat.le_refl _), Nat.sub_self] at e
      cases e
      exact ⟨⟨ps, (upd_ne nlD).trans upd_same, (p2.same (s1.trans s2)).mono fun _ _ w => sqt_put _ (s2 _ _ hD) w⟩, nlD⟩
  case done =>
  rintro H1 ⟨ls, ll, s1, hD, ha⟩
  rw [List.length_map, v2] at ll
  refine ⟨_, _, rfl, ?_⟩
  -- each view judged
  refine ⟨_, rfl, vl, rfl, ⟨_, SqL.of (s1 _ _ v1)⟩, ?_⟩
  refine for_list (xs := vps.map V.ref) (fun i σ H' => ∃ (o2 o5 o6 : Option V), σ = [some (.ref a), some (.ref vl), o2, some (.bl ((vj.take i).all goodJ)), some (.ref D), o5, o6, none, none, none, none] ∧ Same H1 H') ⟨none, none, none, rfl, Same.refl _⟩ (fun i σ H' _ ⟨_, _, _, _, s⟩ => SqL.of (s _ _ (s1 _ _ v1))) ?turn2 ?done2
  case turn2 =>
    rintro i y σ H2 hy ⟨o2, o5, o6, rfl, s2⟩
    rw [List.getElem?_map] at hy
    obtain ⟨q, hq, rfl⟩ := Option.map_eq_some_iff.mp hy
    obtain ⟨x, hx⟩ : ∃ x, vj[i]? = some x := ⟨_, List.getElem?_eq_getElem (by rw [← v2]; exact (List.getElem?_eq_some_iff.mp hq).1)⟩
    have ex : vj.getD i [] = x := by rw [List.getD_eq_getElem?_getD, hx]; rfl
    have hqx := ((v3 i q hq).same s1).same s2
    rw [ex] at hqx
    refine ⟨_, rfl, q, x, hgW _, hqx, fun H3 s3 => ?_⟩
    refine ⟨_, rfl, q, x, rfl, hqx.same s3, Nat.le_trans (hb x (List.mem_of_getElem? hx)) (by decide), fun H4 s4 => ⟨_, _, rfl, ?_⟩⟩
    rw [judged_good]
    refine ⟨_, rfl, _, _, _, _, _, rfl, .ty "bool", .base (.bl _), kit_ty (r := true) (by decide +kernel), _, rfl, iteF ?_⟩
    refine ⟨_, rfl, _, rfl, rfl, _, rfl, ?_⟩
    refine ite2 (fun z => absurd z (by simp)) (fun _ => ?_)
    have et : (vj.take (i + 1)).all goodJ = ((vj.take i).all goodJ && goodJ x) := by
      rw [List.take_add_one, hx, List.all_append]
      simp
    rw [et]
    refine ⟨_, rfl, _, rfl, ?_⟩
    cases (vj.take i).all goodJ with
    | true => exact iteT ⟨_, rfl, _, _, _, rfl, (s2.trans s3).trans s4⟩
    | false => exact iteF ⟨_, _, _, rfl, (s2.trans s3).trans s4⟩
  case done2 =>
  rintro σ H2 ⟨o2, o5, o6, rfl, s2⟩
  rw [List.length_map, v2, List.take_length]
  have s02 := s1.trans s2
  refine ⟨_, rfl, _, rfl, ?_⟩
  cases hall : vj.all goodJ with
  | false =>
    refine iteT ?_
    obtain ⟨x, hx, hgx⟩ : ∃ x, x ∈ vj ∧ ¬ goodJ x = true := List.all_eq_false.mp hall
    obtain ⟨r, hr'⟩ := List.getElem?_of_mem hx
    have hrR : r < F.R := by rw [← lv]; exact (List.getElem?_eq_some_iff.mp hr').1
    have hgr : goodJ (vj.getD r []) = false := by
      rw [List.getD_eq_getElem?_getD, hr']
      exact Bool.eq_false_iff.mpr hgx
    refine ⟨hTb.ext s02, fun H3 e3 T3 Q' hQ' => ⟨_, rfl, _, rfl, a, vl, F, vj, vps, rfl, (hf.same s02).mono (fun q xs h => e3 _ _ h (fun _ z => nomatch z)), e3 _ _ (s02 _ _ v1) (fun _ z => nomatch z), v2.trans lv, fun r q e => ((v3 r q e).same s02).ext e3, .inl ⟨⟨r, hrR, hgr⟩, fun H4 s4 => ⟨mOB, fun ea nea => ?_⟩⟩⟩⟩
    refine ⟨none, ea, .ref CB, .ref CB, true, rfl, upd_same, fun u r => r, iBB, ?_⟩
    have s5 := sadd (o := ExJ (.ref CB) none ea) s4 nea
    exact k _ (((extN_of s02).trans e3).trans (extN_of s5)) (T3.ext s5)
  | true =>
  refine iteF ?_
  -- all are good
  obtain ⟨vs, rfl, hgs⟩ := lift_good vj hall
  rw [List.length_map] at lv
  have at_ : ∀ r, (vs.map fun ys => ys.map Jt.of).getD r [] = (vat vs r).map Jt.of := fun r => by
    unfold vat
    rw [List.getD_eq_getElem?_getD, List.getElem?_map, List.getD_eq_getElem?_getD]
    cases vs[r]? <;> rfl
  have hG : ∀ r, r < F.R → GV (vat vs r) := fun r hr' => by
    unfold vat
    rw [List.getD_eq_getElem?_getD, List.getElem?_eq_getElem (by omega)]
    exact hgs _ (List.getElem_mem (by omega))
  have hle1 : ∀ r, (vat vs r).length ≤ 100 := fun r => by
    unfold vat
    rw [List.getD_eq_getElem?_getD]
    cases e : vs[r]? with
    | none => exact Nat.zero_le _
    | some y =>
      have := hb _ (List.mem_map.mpr ⟨y, List.mem_of_getElem? e, rfl⟩)
      rwa [List.length_map] at this
  have hle : ∀ r, (vat vs r).length ≤ 10000 := fun r => Nat.le_trans (hle1 r) (by decide)
  have hvj : ∀ r, r < F.R → (vs.map fun ys => ys.map Jt.of).getD r [] = (vat vs r).map Jt.of ∧ goodJ ((vs.map fun ys => ys.map Jt.of).getD r []) = true := fun r hr' => by
    refine ⟨at_ r, ?_⟩
    obtain ⟨x, hx⟩ : ∃ x, (vs.map fun ys => ys.map Jt.of)[r]? = some x := ⟨_, List.getElem?_eq_getElem (by rw [List.length_map]; omega)⟩
    rw [List.getD_eq_getElem?_getD, hx]
    exact List.all_eq_true.mp hall x (List.mem_of_getElem? hx)
  obtain ⟨o, hj⟩ := joins_ex hF hG hle lv
  rw [List.length_map] at v2
  have hVL : VsL K H2 vl vs F.R := ⟨vps, s02 _ _ v1, v2.trans lv, fun r q e => by
    have h1 := (v3 r q e).same s02
    rw [at_] at h1
    exact h1.proper⟩
  refine ⟨_, rfl, _, rfl, a, vl, F, vs, o, rfl, hf.same s02, hVL, lv, hle, hG, hj, fun cs ec p q H3 s3 nq hp hq => ?_, fun x y ec p q H3 s3 hp hq => ?_⟩
  · refine ⟨p, _, rfl, SqT.of hp, rfl, _, _, rfl, _, _, rfl, rfl, ?_⟩
    refine ⟨_, rfl, rfl, _, rfl, iteT ?_⟩
    have s03 := s02.trans s3
    have m1' := hF.m1
    rw [ec] at hj
    obtain ⟨hVR, hvw⟩ := hj.sound hF hG
    have hsh : cs.length ≤ 1000 := by
      have := Joins.short hF hG hle1 hj
      have : F.R * 100 ≤ 6 * 100 := Nat.mul_le_mul_right 100 m6
      omega
    refine ⟨_, rfl, _, rfl, a, vl, F, _, vps, rfl, hf.same s03, s03 _ _ v1, v2.trans lv, fun r q e => (v3 r q e).same s03, .inr ⟨vs, .row cs, lv, hle, hvj, hG, hj, fun cs' ec' l H4 s4 nl hl => ?_, (fun x' y' ec' => by cases ec')⟩⟩
    cases ec'
    have s04 := s03.trans s4
    obtain ⟨qs, q1, q2⟩ := hl
    obtain ⟨us, u1, u2⟩ := hq.same s4
    refine ⟨_, rfl, .list (cs.map Crs.d), .list (cs.map Crs.d), .lst (SqL.of q1) q2.rowdp, .lst (SqL.of u1) u2.rowdp, shaped_row cs, shaped_row cs, _, rfl, ?_⟩
    rw [row_eqv, decide_eq_true rfl]
    refine iteT ?_
    refine ⟨_, rfl, vl, _, rfl, .inl (SqL.of (s04 _ _ v1)), _, rfl, ?_, ?_, fun D2 nD2 => ?_⟩
    · rw [List.length_map, v2]; omega
    · rw [List.length_map, v2]; omega
    rw [Int.toNat_natCast, List.length_map, v2, lv]
    refine lc_range (lo := 0) (n := F.R) (fun i H' => Same H4 H' ∧ ∃ zs : List Addr, zs.length = i ∧ H' D2 = some (.lst (zs.map V.ref)) ∧ ∀ (r : Nat) (q : Addr), zs[r]? = some q → VjAt K H' q ((vs.map fun ys => ys.map Jt.of).getD r []) ∧ q ≠ D2)
      ⟨sadd (Same.refl H4) nD2, [], rfl, upd_same, fun r q e => by cases e⟩ ?turn3 ?done3
    case turn3 =>
      rintro i H5 hi ⟨s5, zs, lz, hD2, hz⟩
      refine ⟨rfl, ?_⟩
      unfold tYes
      refine iteT ?_
      refine ⟨_, rfl, _, rfl, q, (0 : Int) + (i : Int), F, cs, rfl, hq.same (s4.trans s5), hF, hVR, hsh, by omega, by omega, fun z H6 s6 nz hv6 => ?_⟩
      rw [Int.zero_add, hvw i hi] at hv6
      have hj6 := hv6.jt
      rw [← at_] at hj6
      have hD6 := s6 _ _ hD2
      have nzD : z ≠ D2 := fun w => by rw [w, hD2] at nz; cases nz
      have up : ∀ {r : Nat} {u : Addr}, VjAt K H6 u ((vs.map fun ys => ys.map Jt.of).getD r []) → u ≠ D2 → ∀ ws, VjAt K (upd H6 D2 (.lst ws)) u ((vs.map fun ys => ys.map Jt.of).getD r []) := fun {r u} h n ws => by
        obtain ⟨ps, e1, a1⟩ := h
        exact ⟨ps, (upd_ne n).trans e1, a1.mono fun _ _ w => sqt_put _ hD6 w⟩
      refine ⟨_, hD6, by rw [List.length_map, lz, sizeLine_eq]; omega, sout (s5.trans s6) nD2, zs ++ [z], by rw [List.length_append, lz]; rfl, by rw [upd_same, List.map_append]; rfl, fun r u e => ?_⟩
      rcases Nat.lt_or_ge r i with hr' | hr'
      · rw [List.getElem?_append_left (by rw [lz]; exact hr')] at e
        obtain ⟨h1, h2⟩ := hz r u e
        exact ⟨up (h1.same s6) h2 _, h2⟩
      · have er : r = i := by
          have := (List.getElem?_eq_some_iff.mp e).1
          rw [List.length_append, lz, List.length_singleton] at this
          omega
        subst er
        rw [← lz, List.getElem?_append_right (Nat.le_refl _), Nat.sub_self] at e
        cases e
        exact ⟨up hj6 nzD _, nzD⟩
    case done3 =>
    rintro H5 ⟨s5, zs, lz, hD2, hz⟩
    have s05 := s04.trans s5
    refine ⟨_, rfl, vjD _, vjD _, .lst (SqL.of hD2) (dpAllZ zs _ (by rw [List.length_map]; omega) fun r q e => (hz r q e).1), .lst (SqL.of (s05 _ _ v1)) (dpAllZ vps _ (by rw [List.length_map]; exact v2) fun r q e => (v3 r q e).same s05), shaped_vj _, shaped_vj _, ?_⟩
    rw [eqv_shZ (shaped_vj _)]
    exact k _ (extN_of s05) (hTb.ext s05)
  · refine ⟨p, _, rfl, SqT.of hp, rfl, _, _, rfl, _, _, rfl, rfl, ?_⟩
    refine ⟨_, rfl, rfl, _, rfl, iteF ?_⟩
    have s03 := s02.trans s3
    refine ⟨hTb.ext s03, fun H4 e4 T4 Q' hQ' => ⟨_, rfl, _, rfl, a, vl, F, _, vps, rfl, (hf.same s03).mono (fun q xs h => e4 _ _ h (fun _ z => nomatch z)), e4 _ _ (s03 _ _ v1) (fun _ z => nomatch z), v2.trans lv, fun r q e => ((v3 r q e).same s03).ext e4, .inr ⟨vs, o, lv, hle, hvj, hG, hj, (fun cs ec' => by rw [ec] at ec'; cases ec'), fun x' y' ec' e5 H5 s5 ne5 => ⟨mO, fun ex nex => ?_⟩⟩⟩⟩
    rw [ec] at ec'
    cases ec'
    have s9 := sadd (o := unf x y) s5 ne5
    have h9 : upd H5 e5 (unf x y) e5 = some (unf x y) := upd_same
    generalize upd H5 e5 (unf x y) = H9 at nex h9 s9 ⊢
    have s10 := sadd (o := ExJ (.ref C) (some e5) ex) (Same.refl H9) nex
    have h10 : upd H9 ex (ExJ (.ref C) (some e5) ex) ex = some (ExJ (.ref C) (some e5) ex) := upd_same
    replace h9 := s10 _ _ h9
    replace s10 := s9.trans s10
    generalize upd H9 ex (ExJ (.ref C) (some e5) ex) = Hz at h9 h10 s10 ⊢
    have held : Held Hz ex C (some [(("at" : Str), .int (y : Int)), (("room" : Str), .int (x : Int))]) := ⟨e5, h10, h9⟩
    have x0z := ((extN_of s03).trans e4).trans (extN_of s10)
    have x3z := e4.trans (extN_of s10)
    have Tz := T4.ext s10
    refine ⟨_, rfl, some _, ex, .ref C, .ref C, true, rfl, held, fun u z => z, iB, _, rfl, iteT ?_⟩
    refine ⟨_, rfl, ex, _, .int (x : Int), rfl, held, rfl, _, rfl, ex, _, .int (y : Int), rfl, held, rfl, (by show 2 ≤ sizeLine; decide), fun t nt => ?_⟩
    have s11 := sadd (o := .tup [.int (x : Int), .int (y : Int)]) (Same.refl Hz) nt
    refine ⟨_, rfl, pairD ((x : Int), (y : Int)), pairD ((x : Int), (y : Int)), .tup (SqT.of upd_same) (.cons (.int _) (.cons (.int _) .nil)), .tup (SqT.of (s11 _ _ (x3z _ _ hq (fun _ z => nomatch z)))) (.cons (.int _) (.cons (.int _) .nil)), shaped_pair _ _, shaped_pair _ _, _, rfl, ?_⟩
    rw [eqv_shZ (shaped_pair _ _)]
    refine iteT ?_
    have xe := x0z.trans (extN_of s11)
    have x1e : ExtN H1 _ := (((extN_of (s2.trans s3)).trans e4).trans (extN_of s10)).trans (extN_of s11)
    refine ⟨_, rfl, _, rfl, vjD _, vjD _, .lst (SqL.of (xe _ _ v1 (fun _ z => nomatch z))) (dpAllZ vps _ (by rw [List.length_map]; exact v2) fun r q e => (v3 r q e).ext xe), .lst (SqL.of (x1e _ _ hD (fun _ z => nomatch z))) (dpAllZ ls _ ll fun r q e => (ha r q e).1.ext x1e), shaped_vj _, shaped_vj _, ?_⟩
    rw [eqv_shZ (shaped_vj _)]
    exact k _ xe (Tz.ext s11)
end
end OH
end
section
set_option Elab.async false
set_option linter.all false
set_option maxRecDepth 100000
set_option maxHeartbeats 4000000
/-! is_view of the empty tuple, and of any value. -/
namespace OH
open PySem PySem.Spec PyProof.Rows L2
def spNil0 (K : PySem.W.Frag) : Sp := fun vs H Q _ => ∃ t, vs = [.ref t] ∧ SqT K H t [] ∧ Q (.bl true) H
def spNilT : Sp := fun vs H Q _ => ∃ t, vs = [.ref t] ∧ H t = some (.tup []) ∧ ∀ H', Same H H' → Q (.bl true) H'
section
variable {P : Program} {w : World} {K : PySem.W.Frag} {mg : Str → Option Value} {base : Heap}
theorem ok_are_events0 {f : Addr} {fd : FuncData} (F : Fun K "are_events" "are_events" s_are_events f fd) : FnOk P w K mg base CX0 1 f fd ["values"] (spNil0 K) := by
  refine F.ok sc_are_events (fun vs H Q E h => ?_) (fun cdv A outer s H vs Q E hr h => ?_)
  · obtain ⟨t, rfl, _⟩ := h
    rfl
  · obtain ⟨t, rfl, ht, k⟩ := h
    have nd := sc_are_events.nd
    refine ⟨_, pss_cons (ps_for PassesOwn.never rfl (pi_tup (pv 0)) (pg_name (i := 1) nd rfl (Or.inl rfl))
        (pss_cons ps_never (pss_cons ps_never (pss_one ps_never))))
      (pss_one (ps_ret pe_bl)), ?_⟩
    refine ⟨_, rfl, t, rfl, ⟨_, ht⟩, ?_⟩
    refine for_tup (xs := []) (fun i σ H' => H' = H) rfl (fun i σ H' _ e => by rw [e]; exact ht) (fun i y σ H' hy _ => by cases hy) (fun σ H' e => ?_)
    rw [e]
    exact k
theorem ok_are_acts0 {f : Addr} {fd : FuncData} (F : Fun K "are_acts" "are_acts" s_are_acts f fd) : FnOk P w K mg base CX0 1 f fd ["values"] (spNil0 K) := by
  refine F.ok sc_are_acts (fun vs H Q E h => ?_) (fun cdv A outer s H vs Q E hr h => ?_)
  · obtain ⟨t, rfl, _⟩ := h
    rfl
  · obtain ⟨t, rfl, ht, k⟩ := h
    have nd := sc_are_acts.nd
    refine ⟨_, pss_cons (ps_for PassesOwn.never rfl (pi_tup (pv 0)) (pg_name (i := 1) nd rfl (Or.inl rfl))
        (pss_cons ps_never (pss_cons ps_never (pss_one ps_never))))
      (pss_one (ps_ret pe_bl)), ?_⟩
    refine ⟨_, rfl, t, rfl, ⟨_, ht⟩, ?_⟩
    refine for_tup (xs := []) (fun i σ H' => H' = H) rfl (fun i σ H' _ e => by rw [e]; exact ht) (fun i y σ H' hy _ => by cases hy) (fun σ H' e => ?_)
    rw [e]
    exact k
theorem ok_good_view0 {f : Addr} {fd : FuncData} {aE : Addr} (F : Fun K "good_view" "good_view" s_good_view f fd) (T : Txt K mg) (gE : mg "ENDS" = some (.ref aE)) (tE : ∀ H, SqT K H aE Jt.ends.vs)
    (DE : DefF P w K mg base CX0 2 "are_events" ["values"] (spNil0 K)) (DA : DefF P w K mg base CX0 2 "are_acts" ["values"] (spNil0 K)) : FnOk P w K mg base CX0 3 f fd ["value"] spNilT := by
  refine F.ok sc_good_view (fun vs H Q E h => ?_) (fun cdv A outer s H vs Q E hr h => ?_)
  · obtain ⟨t, rfl, _⟩ := h
    rfl
  · obtain ⟨t, rfl, ht, k⟩ := h
    have nd := sc_good_view.nd
    refine ⟨_, pss_cons (ps_if (PW.pt (pw_or (pt_not (pt_val (pe_callB call_isiT (by rfl) T.nIsi (by decide +kernel) (pa_cons (pv 0) (pa_cons (pe_tup (pa_cons (pe_bltn (v := .ty "list") (by rfl) T.nList (by decide +kernel) rfl) (pa_cons (pe_bltn (v := .ty "tuple") (by rfl) T.nTuple (by decide +kernel) rfl) pa_nil))) pa_nil))))) (pw_or (pt_not (pt_val (pe_cD DE hr rfl pass0 (pa_cons (pe_evE (pv 0)) pa_nil)))) (pw_or1 (pt_not (pt_val (pe_cD DA hr rfl pass0 (pa_cons (pe_odE (pv 0)) pa_nil)))))))) (pss_one (ps_ret pe_bl)) pss_nil)
      (pss_cons (ps_if (pt_cmpR (op_inDTE (Room_u65 hr)) (pe_glob (v := .ref aE) rfl gE rfl) (pe_slice sl_tupE (pv 0) po_none (po_some (pe_un un_neg pe_int))) (by rfl)) (pss_one (ps_ret pe_bl)) pss_nil)
      (pss_cons (ps_set (i := 1) nd rfl (Or.inl rfl) pe_int)
      (pss_cons (ps_for PassesOwn.never rfl (pi_tup (pv 0)) (pg_name (i := 2) nd rfl (Or.inl rfl)) (pss_one ps_never))
      (pss_one (ps_ret pe_bl))))), ?_⟩
    refine ⟨_, rfl, (by show 2 ≤ sizeLine; decide), fun tp ntp => ?_⟩
    have s1 := sadd (o := .tup [.ty "list", .ty "tuple"]) (Same.refl H) ntp
    have htp : upd H tp (.tup [.ty "list", .ty "tuple"]) tp = some (.tup [.ty "list", .ty "tuple"]) := upd_same
    generalize upd H tp (.tup [.ty "list", .ty "tuple"]) = H1 at s1 htp ⊢
    have ht1 := s1 _ _ ht
    refine ⟨_, tp, _, _, _, _, rfl, htp, .cons (.ty _) (.cons (.ty _) .nil), .base (.tup ht1), kitAny_cons (kit_ty (r := false) (by decide +kernel)) (fun _ => kitAny_cons (kit_ty (r := true) (by decide +kernel)) (fun z => nomatch z) (fun _ => rfl)) (fun z => nomatch z), _, rfl, iteF ?_⟩
    refine ⟨_, rfl, t, rfl, SqT.of ht1, fun p np => ?_⟩
    have s2 := sadd (o := .tup []) s1 np
    have hp : upd H1 p (.tup []) p = some (.tup []) := upd_same
    generalize upd H1 p (.tup []) = H2 at s2 hp ⊢
    refine ⟨p, rfl, SqT.of hp, _, rfl, iteF ?_⟩
    have ht2 := s2 _ _ ht
    refine ⟨_, rfl, t, rfl, SqT.of ht2, fun q nq => ?_⟩
    have s4 := sadd (o := .tup []) s2 nq
    have hq : upd H2 q (.tup []) q = some (.tup []) := upd_same
    generalize upd H2 q (.tup []) = H4 at s4 hq ⊢
    refine ⟨q, rfl, SqT.of hq, _, rfl, iteF ?_⟩
    have ht4 := s4 _ _ ht
    refine ⟨_, rfl, _, rfl, _, rfl, t, rfl, SqT.of ht4, rfl, rfl, ?_⟩
    refine ⟨Jt.ends.d, [], Jt.dp (tE _), .tup (SqT.of ht4) .nil, shaped_jt _, rfl, _, rfl, iteF ?_⟩
    refine ⟨_, rfl, t, rfl, ⟨_, SqT.of ht4⟩, ?_⟩
    refine for_tup (xs := []) (fun i σ H' => H' = H4) rfl (fun i σ H' _ e => by rw [e]; exact SqT.of ht4) (fun i y σ H' hy _ => by cases hy) (fun σ H' e => ?_)
    rw [e]
    exact k _ s4
theorem ok_is_view0 {f : Addr} {fd : FuncData} (F : Fun K "is_view" "is_view" s_is_view f fd) (DG : DefF P w K mg base CX0 4 "good_view" ["value"] spNilT) : FnOk P w K mg base CX0 5 f fd ["value"] spNilT := by
  refine F.ok sc_is_view (fun vs H Q E h => ?_) (fun cdv A outer s H vs Q E hr h => ?_)
  · obtain ⟨t, rfl, _⟩ := h
    rfl
  · obtain ⟨t, rfl, ht, k⟩ := h
    refine ⟨_, pss_one (ps_ret (pe_cD DG hr rfl pass0 (pa_cons (pv 0) pa_nil))), ?_⟩
    exact ⟨_, rfl, t, rfl, ht, k⟩
theorem _root_.L2.FnOk.or {CX : CXT} {k : Nat} {f : Addr} {fd : FuncData} {ps : List Str} {sp sp' : Sp} (F : FnOk P w K mg base CX k f fd ps sp) (G : FnOk P w K mg base CX k f fd ps sp') : FnOk P w K mg base CX k f fd ps (fun vs H Q E => sp vs H Q E ∨ sp' vs H Q E) :=
  ⟨fun vs H Q E h => h.elim (F.len vs H Q E) (G.len vs H Q E), fun A out s H ar us vs Q E hr he hb hv hs => hs.elim (F.run A out s H ar us vs Q E hr he hb hv) (G.run A out s H ar us vs Q E hr he hb hv)⟩
def spIsV (K : PySem.W.Frag) : Sp := fun vs H Q E => spGoodVJ K vs H Q E ∨ spNoView K vs H Q E ∨ spNilT vs H Q E
end
end OH
end
section
set_option Elab.async false
set_option linter.all false
set_option maxRecDepth 100000
set_option maxHeartbeats 16000000
/-! The law. -/
namespace OH
open PySem PySem.Spec PyProof.Rows L2
open LamX (Tabs TabS ExtN TabB CodeO)
theorem shown_len (r : Int) (x : Crs) : (shown r x).length ≤ 2 := by
  cases x <;> simp only [shown] <;> (repeat' split) <;> simp
theorem vw_len (r : Int) : ∀ cs : List Crs, (vw r cs).length ≤ 2 * cs.length
  | [] => Nat.le_refl 0
  | x :: xs => by
    rw [vw_cons, List.length_append, List.length_cons]
    have := shown_len r x
    have := vw_len r xs
    omega
structure VK (K : PySem.W.Frag) (H : Hp) (st g D : Addr) (vj : List (List Jt)) : Prop where
  a : VjL K H D vj
  b : NG H st g D
  c : D ≠ st ∧ D ≠ g
section
variable {K : PySem.W.Frag} {H H' : Hp} {st g c D : Addr} {n : Nat} {vj : List (List Jt)}
theorem VK.ex (h : VK K H st g D vj) : ∃ vps : List Addr, H D = some (.lst (vps.map V.ref)) ∧ vps.length = vj.length ∧ (∀ (r : Nat) (q : Addr), vps[r]? = some q → VjAt K H q (vj.getD r [])) ∧ ∀ q ∈ vps, q ≠ st ∧ q ≠ g := by
  obtain ⟨⟨vps, h1, h2, h3⟩, ⟨ws, w1, w2⟩, _⟩ := h
  rw [h1] at w1
  have e : vps.map V.ref = ws.map V.ref := by
    injection w1 with e
    injection e
  have e2 : vps = ws := (List.map_inj_right (fun x y h => by cases h; rfl)).mp e
  subst e2
  exact ⟨vps, h1, h2, h3, w2⟩
theorem VK.frm (h : VK K H st g D vj) (S : SA H st g c n) (F : Fr st g H H') : VK K H' st g D vj := by
  obtain ⟨vps, h1, h2, h3, h4⟩ := h.ex
  have h1' := F _ _ h1 h.c.1 h.c.2
  exact ⟨⟨vps, h1', h2, fun r q e => (h3 r q e).frm S F (h4 q (List.mem_of_getElem? e)).1 (h4 q (List.mem_of_getElem? e)).2⟩, ⟨vps, h1', h4⟩, h.c⟩
theorem VK.ext (h : VK K H st g D vj) (x : ExtN H H') : VK K H' st g D vj := by
  obtain ⟨vps, h1, h2, h3, h4⟩ := h.ex
  have h1' := x _ _ h1 (fun _ z => nomatch z)
  exact ⟨⟨vps, h1', h2, fun r q e => (h3 r q e).ext x⟩, ⟨vps, h1', h4⟩, h.c⟩
theorem vk_of {vl : List Addr} {G : Nat → List It} {m : Nat} (h : VsAt K H D vl G) (lm : vl.length = m) (z : D ≠ st ∧ D ≠ g) (zs : ∀ q ∈ vl, q ≠ st ∧ q ≠ g) : VK K H st g D ((List.range m).map fun r => (G r).map Jt.of) :=
  ⟨⟨vl, h.hd, by rw [List.length_map, List.length_range, lm], fun r q e => by
    have hr : r < m := by rw [← lm]; exact (List.getElem?_eq_some_iff.mp e).1
    rw [List.getD_eq_getElem?_getD, List.getElem?_map, List.getElem?_range hr]
    exact (h.vw r q e).jt⟩, ⟨vl, h.hd, zs⟩, z⟩
theorem SA.extZ (s : SA H st g c n) (e : ExtN H H') : SA H' st g c n := by
  obtain ⟨⟨r, t, h1, h2, h3, h4⟩, ⟨gs, g1, g2, g3⟩, ⟨cs, c1, c2, c3⟩, gc⟩ := s
  exact ⟨⟨r, t, h1, h2, h3, e _ _ h4 (fun _ z => nomatch z)⟩, ⟨gs, e _ _ g1 (fun _ z => nomatch z), g2, g3⟩, ⟨cs, e _ _ c1 (fun _ z => nomatch z), c2, c3⟩, gc⟩
theorem tabs_frZ {T : List (Addr × Str)} (t : Tabs T H) (S : SA H st g c n) (f : Fr st g H H') : Tabs T H' := fun p hp => by
  obtain ⟨ps, h1, h2, h3⟩ := t p hp
  obtain ⟨⟨r, tt, _, _, _, e1⟩, ⟨gs, e2, _⟩, _⟩ := S
  refine ⟨ps, f _ _ h1 (ne_of h1 e1 (fun z => nomatch z)) (ne_of h1 e2 (fun z => nomatch z)), h2, fun pos cv hc => ?_⟩
  obtain ⟨cc, q1, q2⟩ := h3 pos cv hc
  exact ⟨cc, q1, f _ _ q2 (ne_of q2 e1 (fun z => by unfold CodeO at z; cases z)) (ne_of q2 e2 (fun z => by unfold CodeO at z; cases z))⟩
theorem FcAt.extZ {a : Addr} {F : Fc} (h : FcAt H a F) (x : ExtN H H') : FcAt H' a F := h.mono fun q xs e => x _ _ e (fun _ z => nomatch z)
end
def spLawT (K : PySem.W.Frag) (T : List (Addr × Str)) : Sp := fun vs H Q _ => ∃ (a : Addr) (ns : List Int), vs = [.ref a] ∧ SqL K H a (ns.map V.int) ∧ ns.length ≤ 63 ∧ Tabs T H ∧ ∀ H', Q (.bl true) H'
def Wr (K : PySem.W.Frag) (H : Hp) (v : V) : Prop := (∃ (l : Addr) (its : List Jt), v = .ref l ∧ VjAt K H l its ∧ goodJ its = false) ∨ v = .non ∨ (∃ i, v = .int i) ∨ (∃ x, v = .str x) ∨ ∃ d kvs, v = .ref d ∧ H d = some (.dK kvs)
theorem Wr.same {K : PySem.W.Frag} {H H' : Hp} {v : V} (h : Wr K H v) (s : Same H H') : Wr K H' v := by
  rcases h with ⟨l, its, e, a, b⟩ | h | h | h | ⟨d, kvs, e, a⟩
  · exact .inl ⟨l, its, e, a.same s, b⟩
  · exact .inr (.inl h)
  · exact .inr (.inr (.inl h))
  · exact .inr (.inr (.inr (.inl h)))
  · exact .inr (.inr (.inr (.inr ⟨d, kvs, e, s _ _ a⟩)))
theorem Wr.use {K : PySem.W.Frag} {H : Hp} {v : V} {Q : L2.VK} {E : XK} (h : Wr K H v) (k : ∀ H', Same H H' → Q (.bl false) H') : spIsV K [v] H Q E := by
  rcases h with ⟨l, its, e, a, b⟩ | h
  · exact .inl ⟨l, its, by rw [e], a, fun H' s => by rw [b]; exact k H' s⟩
  · exact .inr (.inl ⟨v, rfl, h, k⟩)
theorem VjAt.upw {K : PySem.W.Frag} {H : Hp} {l w : Addr} {its : List Jt} {ys zs : List V} (h : VjAt K H l its) (e : H w = some (.lst ys)) (n : l ≠ w) : VjAt K (upd H w (.lst zs)) l its := by
  obtain ⟨ps, h1, h2⟩ := h
  exact ⟨ps, (upd_ne n).trans h1, h2.mono fun _ _ x => sqt_put _ e x⟩
/-- a value that is no view, beside a list that grows -/
def WrN (K : PySem.W.Frag) (H : Hp) (w : Addr) (v : V) : Prop := ∃ (l : Addr) (its : List Jt), v = .ref l ∧ VjAt K H l its ∧ goodJ its = false ∧ l ≠ w
theorem WrN.same {K : PySem.W.Frag} {H H' : Hp} {w : Addr} {v : V} (h : WrN K H w v) (s : Same H H') : WrN K H' w v := by
  obtain ⟨l, its, e, a, b, n⟩ := h
  exact ⟨l, its, e, a.same s, b, n⟩
theorem WrN.upw {K : PySem.W.Frag} {H : Hp} {w : Addr} {v : V} {ys zs : List V} (h : WrN K H w v) (e : H w = some (.lst ys)) : WrN K (upd H w (.lst zs)) w v := by
  obtain ⟨l, its, e1, a, b, n⟩ := h
  exact ⟨l, its, e1, a.upw e n, b, n⟩
theorem WrN.wr {K : PySem.W.Frag} {H : Hp} {w : Addr} {v : V} (h : WrN K H w v) : Wr K H v := by
  obtain ⟨l, its, e, a, b, n⟩ := h
  exact .inl ⟨l, its, e, a, b⟩
def badActs : List Jt := [.calls (.n 6) (.n 0) (.n 0), .calls (.n 0) (.n 6) (.n 0), .calls (.n 0) (.n 0) (.n 10000), .gives (.n (-1)), .gives (.n 10000)]
theorem badActs_ : ∀ x ∈ badActs, goodJ [.inn (.n 0) (.n 1), x] = false := by decide +kernel
section
variable {P : Program} {w : World} {K : PySem.W.Frag} {mg : Str → Option Value} {base : Heap}
abbrev nLaw : List Str := ["script", "state", "face", "views", "turn", "spoilt", "short", "wrong", "act", "other", "most"]
theorem sc_law : FnScope nLaw ["script"] (defScope s_law) := ⟨rfl, rfl, rfl, by decide +kernel, rfl, by decide +kernel, by decide +kernel⟩
theorem ok_law {f : Addr} {fd : FuncData} {Ts : List (Addr × Str)} (F : Fun K "law" "law" s_law f fd) (T : Txt K mg)
    (DB : DefF P w K mg base CX0 12 "_law_begun" ["script"] (spBegun K)) (DD : DefF P w K mg base CX0 12 "_law_draw" ["state", "room"] spDraw)
    (DFc : DefF P w K mg base CX0 12 "_law_drawn_face" ["state", "most"] (spFaceD 1 6)) (DOf : DefF P w K mg base CX0 12 "_law_open_face" ["state", "many"] (spFaceD 2 4))
    (DR : DefF P w K mg base CX0 12 "_law_drawn_row" ["state", "face", "most"] spRowD) (DLV : DefF P w K mg base CX0 12 "_law_views" ["row", "many"] (spLViews K))
    (DS : DefF P w K mg base CX0 12 "_law_spoilt_views" ["state", "views"] (spSpV K)) (DO : DefF P w K mg base CX0 12 "_law_other_face" ["state", "face"] spOtherF)
    (DA : DefF P w K mg base CX0 12 "_law_answer_holds" ["face", "views"] (spAns K Ts)) (DIV : DefF P w K mg base CX0 12 "is_view" ["value"] (spIsV K)) :
    FnOk P w K mg base CX0 13 f fd ["script"] (spLawT K Ts) := by
  refine F.ok sc_law (fun vs H Q E h => ?_) (fun cdv A outer s H vs Q E hr h => ?_)
  · obtain ⟨a, ns, rfl, _⟩ := h
    rfl
  · obtain ⟨a, ns, rfl, ha, hn, hT, k⟩ := h
    have nd := sc_law.nd
    refine ⟨_, pss_cons (ps_set (i := 1) nd rfl (Or.inl rfl) (pe_cD DB hr rfl pass0 (pa_cons (pv 0) pa_nil)))
      (pss_cons (ps_set (i := 2) nd rfl (Or.inl rfl) (pe_up (pe_ifExp (pt_cmpR op_eq (pe_cD DD hr rfl pass0 (pa_cons (pv 1) (pa_cons pe_int pa_nil))) pe_int (nomark _)) (pe_cD DFc hr rfl pass0 (pa_cons (pv 1) (pa_cons pe_int pa_nil))) (pe_cD DOf hr rfl pass0 (pa_cons (pv 1) (pa_cons (pe_op op_add pe_int (pe_cD DD hr rfl pass0 (pa_cons (pv 1) (pa_cons pe_int pa_nil)))) pa_nil))))))
      (pss_cons (ps_set (i := 3) nd rfl (Or.inl rfl) (pe_cD DLV hr rfl pass0 (pa_cons (pe_cD DR hr rfl pass0 (pa_cons (pv 1) (pa_cons (pv 2) (pa_cons pe_int pa_nil)))) (pa_cons (pe_callB call_len_seq (by rfl) T.nLen PySem.boot_len (pa_cons (pe_ix ix_tup (pv 2) pe_int (fun _ _ => rfl)) pa_nil)) pa_nil))))
      (pss_cons (ps_if (pt_not (pt_val (pe_cD DA hr rfl pass0 (pa_cons (pv 2) (pa_cons (pv 3) pa_nil))))) (pss_one (ps_ret pe_bl)) pss_nil)
      (pss_cons (ps_for PassesOwn.never rfl (pi_range1 rfl T.nRange (pa_cons pe_int pa_nil)) (pg_name (i := 4) nd rfl (Or.inl rfl))
        (pss_cons (ps_set (i := 5) nd rfl (Or.inl rfl) (pe_cD DS hr rfl pass0 (pa_cons (pv 1) (pa_cons (pv 3) pa_nil))))
      (pss_cons (ps_up (ps_if (pt_cmpR op_eq (pe_cD DD hr rfl pass0 (pa_cons (pv 1) (pa_cons pe_int pa_nil))) pe_int (nomark _)) (pss_one (ps_set (i := 5) nd rfl (Or.inl rfl) (pe_cD DS hr rfl pass0 (pa_cons (pv 1) (pa_cons (pv 5) pa_nil))))) pss_nil))
      (pss_one (ps_if (pt_not (pt_val (pe_cD DA hr rfl pass0 (pa_cons (pv 2) (pa_cons (pv 5) pa_nil))))) (pss_one (ps_ret pe_bl)) pss_nil)))))
      (pss_cons (ps_for PassesOwn.never rfl (pi_range1 rfl T.nRange (pa_cons pe_int pa_nil)) (pg_name (i := 4) nd rfl (Or.inl rfl))
        (pss_one (ps_if (pt_not (pt_val (pe_cD DA hr rfl pass0 (pa_cons (pe_cD DO hr rfl pass0 (pa_cons (pv 1) (pa_cons (pv 2) pa_nil))) (pa_cons (pv 3) pa_nil))))) (pss_one (ps_ret pe_bl)) pss_nil)))
      (pss_cons (ps_set (i := 6) nd rfl (Or.inl rfl) (pe_lst (pa_cons (pe_tup (pa_cons pe_str (pa_cons pe_int (pa_cons pe_int pa_nil)))) (pa_cons (pe_tup (pa_cons pe_str (pa_cons pe_int pa_nil))) pa_nil))))
      (pss_cons (ps_set (i := 7) nd rfl (Or.inl rfl) (pe_lst (pa_cons (pe_lst (pa_cons (pe_tup (pa_cons pe_str (pa_cons pe_int (pa_cons pe_int pa_nil)))) pa_nil)) (pa_cons (pe_lst (pa_cons (pe_tup (pa_cons pe_str (pa_cons pe_int (pa_cons (pe_un un_neg pe_int) pa_nil)))) pa_nil)) (pa_cons (pe_lst (pa_cons (pe_tup (pa_cons pe_str (pa_cons (pe_un un_neg pe_int) (pa_cons pe_int pa_nil)))) pa_nil)) (pa_cons (pe_lst (pa_cons (pe_tup (pa_cons pe_str (pa_cons pe_int (pa_cons pe_int pa_nil)))) pa_nil)) (pa_cons (pe_op op_cat (pv 6) (pe_lst (pa_cons (pe_tup (pa_cons pe_str (pa_cons pe_int pa_nil))) pa_nil))) pa_nil)))))))
      (pss_cons (ps_for PassesOwn.never rfl (pi_list (pe_lst (pa_cons (pe_tup (pa_cons pe_str (pa_cons pe_int (pa_cons pe_int (pa_cons pe_int pa_nil))))) (pa_cons (pe_tup (pa_cons pe_str (pa_cons pe_int (pa_cons pe_int (pa_cons pe_int pa_nil))))) (pa_cons (pe_tup (pa_cons pe_str (pa_cons pe_int (pa_cons pe_int (pa_cons pe_int pa_nil))))) (pa_cons (pe_tup (pa_cons pe_str (pa_cons (pe_un un_neg pe_int) pa_nil))) (pa_cons (pe_tup (pa_cons pe_str (pa_cons pe_int pa_nil))) pa_nil))))))) (pg_name (i := 8) nd rfl (Or.inl rfl))
        (pss_one (ps_expr (pe_bm PySem.F.plainAttrs_list PySem.F.slot_list_append PySem.F.type_list_append mt_append (pv 7) (pa_cons (pe_lst (pa_cons (pe_tup (pa_cons pe_str (pa_cons pe_int (pa_cons pe_int pa_nil)))) (pa_cons (pv 8) pa_nil))) pa_nil)))))
      (pss_cons (ps_for PassesOwn.never rfl (pi_list (pe_op op_cat (pv 7) (pe_lst (pa_cons pe_non (pa_cons pe_str (pa_cons pe_int (pa_cons (pe_dnewK) (pa_cons (pe_lst (pa_cons (pe_tup (pa_cons pe_str (pa_cons pe_int pa_nil))) pa_nil)) (pa_cons (pe_op op_cat (pv 6) (pe_lst (pa_cons (pe_tup (pa_cons pe_str (pa_cons pe_int pa_nil))) pa_nil))) (pa_cons (pe_lst (pa_cons (pe_tup (pa_cons pe_str (pa_cons pe_int (pa_cons pe_int pa_nil)))) (pa_cons (pe_tup (pa_cons pe_str (pa_cons pe_int (pa_cons pe_int pa_nil)))) pa_nil))) pa_nil)))))))))) (pg_name (i := 9) nd rfl (Or.inl rfl))
        (pss_one (ps_if (pt_cmpR op_isnot_bl (pe_cD DIV hr rfl pass0 (pa_cons (pv 9) pa_nil)) pe_bl (nomark _)) (pss_one (ps_ret pe_bl)) pss_nil)))
      (pss_cons (ps_set (i := 10) nd rfl (Or.inl rfl) (pe_lst (pa_cons (pe_tup (pa_cons pe_str (pa_cons pe_int (pa_cons pe_int pa_nil)))) (pa_cons (pe_tup (pa_cons pe_str (pa_cons pe_int (pa_cons pe_int (pa_cons pe_int pa_nil))))) (pa_cons (pe_tup (pa_cons pe_str (pa_cons pe_int pa_nil))) (pa_cons (pe_tup (pa_cons pe_str (pa_cons pe_int pa_nil))) pa_nil))))))
      (pss_one (ps_ret (pe_and (pe_cmpR op_is_bl (pe_cD DIV hr rfl pass0 (pa_cons (pe_lst pa_nil) pa_nil)) pe_bl (nomark _)) (pe_and (pe_cmpR op_is_bl (pe_cD DIV hr rfl pass0 (pa_cons (pe_tup pa_nil) pa_nil)) pe_bl (nomark _)) (pe_one (pe_cmpR op_is_bl (pe_cD DIV hr rfl pass0 (pa_cons (pv 10) pa_nil)) pe_bl (nomark _))))))))))))))))), ?_⟩
    refine ⟨_, rfl, a, ns, rfl, ha, hn, fun st g c H1 n1 n2 n3 s1 S1 => ?_⟩
    have T1 := hT.ext s1
    refine ⟨fun v H' => ∃ (p : Addr) (F : Fc), v = .ref p ∧ FcAt H' p F ∧ SA H' st g c 500 ∧ Fr st g H1 H', ?_, ?_⟩
    · refine ⟨_, rfl, st, g, c, _, 2, rfl, S1, by omega, by decide, by decide, fun u H2 u0 u1 S2 F2 => ⟨rfl, _, rfl, ite2 (fun _ => ?_) (fun _ => ?_)⟩⟩
      · exact ⟨_, rfl, st, g, c, _, 5, rfl, S2, by omega, by decide, by decide, fun p F H3 np hf S3 F3 => ⟨p, F, rfl, hf, S3.mono (by omega), F2.trans F3⟩⟩
      · refine ⟨_, rfl, _, rfl, st, g, c, _, 2, rfl, S2, by omega, by decide, by decide, fun z H3 z0 z1 S3 F3 => ?_⟩
        refine ⟨_, _, rfl, rfl, st, g, c, _, _, rfl, S3, by omega, by omega, by omega, fun p F H4 np hf S4 F4 => ⟨p, F, rfl, hf, S4.mono (by omega), (F2.trans F3).trans F4⟩⟩
    rintro v H2 ⟨p, F, rfl, hf, S2, F2⟩
    have T2 := tabs_frZ T1 S1 F2
    have hF := hf.ok
    have m1 := hF.m1
    have m6 := hF.m6
    refine ⟨_, rfl, _, rfl, st, g, c, p, _, F, 14, rfl, S2, hf, by omega, by decide, by decide, fun l cs H3 nl hl hv hc S3 F3 => ?_⟩
    have T3 := tabs_frZ T2 S2 F3
    have hf3 := hf.mono (fr_tup S2 F3)
    obtain ⟨wt, dt, wps, b1, b2, b3, b4, b5⟩ := hf3.ex
    refine ⟨_, rfl, p, _, 2, _, rfl, rfl, SqT.of b1, rfl, dt, _, rfl, .inr (SqT.of b3), l, _, cs, rfl, hl, by omega, ?_, fun D vl H4 s4 nD fv lvl V4 => ?_⟩
    · rw [List.length_map]
      show F.R ≤ 1000
      omega
    rw [List.length_map] at lvl
    have lvl' : vl.length = F.R := lvl
    have zD := S3.old nD
    have V := vk_of (st := st) (g := g) V4 lvl' ⟨zD.1, zD.2.1⟩ (fun q hq => ⟨(S3.old (fv q hq)).1, (S3.old (fv q hq)).2.1⟩)
    have lv : ((List.range F.R).map fun (r : Nat) => (OH.vw (r : Int) cs).map Jt.of).length = F.R := by rw [List.length_map, List.length_range]
    have bv : ∀ x ∈ (List.range F.R).map fun (r : Nat) => (OH.vw (r : Int) cs).map Jt.of, x.length ≤ 30 := fun x hx => by
      obtain ⟨r, _, rfl⟩ := List.mem_map.mp hx
      rw [List.length_map]
      have := vw_len (r : Int) cs
      omega
    generalize ((List.range F.R).map fun (r : Nat) => (OH.vw (r : Int) cs).map Jt.of) = vj at V lv bv
    have S4 := S3.same s4
    have hf4 := hf3.same s4
    have T4 := T3.ext s4
    clear b1 b2 b3 b4 b5 hl hv hc V4 fv nD nl S2 S1 T1 T2 T3 hf hf3 F2 F3
    refine ⟨_, rfl, _, rfl, p, D, F, vj, rfl, hf4, V.a, lv, fun x hx => Nat.le_trans (bv x hx) (by decide), T4, fun H5 e5 T5 => ⟨_, rfl, iteF ?_⟩⟩
    have S5 := (S4.extZ e5).mono (m := 1000) (by omega)
    have hf5 := hf4.extZ e5
    have V5 := V.ext e5
    clear S4 hf4 V T4 s4
    refine ⟨_, rfl, by decide, by decide, ?_⟩
    refine for_range (lo := 0) (n := 6) (fun i σ H' => ∃ o4 o5 : Option V, σ = [some (.ref a), some (.ref st), some (.ref p), some (.ref D), o4, o5, none, none, none, none, none] ∧ FcAt H' p F ∧ VK K H' st g D vj ∧ SA H' st g c (1000 + 100 * i) ∧ Tabs Ts H') ⟨none, none, rfl, hf5, V5, S5.mono (by omega), T5⟩ ?turn ?done
    case turn =>
      rintro i σ H6 hi ⟨o4, o5, rfl, hf6, V6, S6, T6⟩
      refine ⟨_, rfl, _, rfl, st, g, c, D, _, 30, vj, rfl, S6, by omega, V6.a, V6.c.2, by omega, by omega, bv, by decide, fun fl vj1 H7 w1 nf l1 b1 S7 F7 N7 => ?_⟩
      have W1 : VK K H7 st g fl vj1 := ⟨w1, N7, (S6.old nf).1, (S6.old nf).2.1⟩
      have hf7 := hf6.mono (fr_tup S6 F7)
      have V7 := V6.frm S6 F7
      have T7 := tabs_frZ T6 S6 F7
      clear hf6 V6 T6 S6 w1 N7 nf F7
      refine ⟨fun σ' H' => ∃ (fl : Addr) (vj2 : List (List Jt)), σ' = [some (.ref a), some (.ref st), some (.ref p), some (.ref D), some (.int (0 + (i : Int))), some (.ref fl), none, none, none, none, none] ∧ VK K H' st g fl vj2 ∧ vj2.length = F.R ∧ (∀ x ∈ vj2, x.length ≤ 34) ∧ FcAt H' p F ∧ VK K H' st g D vj ∧ SA H' st g c (1000 + 100 * i + 100) ∧ Tabs Ts H', ?_, ?_⟩
      · refine ⟨_, rfl, st, g, c, _, 4, rfl, S7, by omega, by decide, by decide, fun u H8 u0 u1 S8 F8 => ⟨rfl, _, rfl, ite2 (fun _ => ?_) (fun _ => ?_)⟩⟩
        · have W8 := W1.frm S7 F8
          have V8 := V7.frm S7 F8
          have hf8 := hf7.mono (fr_tup S7 F8)
          have T8 := tabs_frZ T7 S7 F8
          refine ⟨_, rfl, _, rfl, st, g, c, fl, _, 32, vj1, rfl, S8, by omega, W8.a, W8.c.2, by omega, by omega, b1, by decide, fun fl2 vj2 H9 w2 nf2 l2 b2 S9 F9 N9 => ?_⟩
          exact ⟨fl2, vj2, rfl, ⟨w2, N9, (S8.old nf2).1, (S8.old nf2).2.1⟩, by omega, b2, hf8.mono (fr_tup S8 F9), V8.frm S8 F9, S9.mono (by omega), tabs_frZ T8 S8 F9⟩
        · exact ⟨fl, vj1, rfl, W1.frm S7 F8, by omega, fun x hx => Nat.le_trans (b1 x hx) (by decide), hf7.mono (fr_tup S7 F8), V7.frm S7 F8, S8.mono (by omega), tabs_frZ T7 S7 F8⟩
      rintro σ' H8 ⟨fl8, vj2, rfl, W8, l8, b8, hf8, V8, S8, T8⟩
      refine ⟨_, rfl, _, rfl, p, fl8, F, vj2, rfl, hf8, W8.a, l8, fun x hx => Nat.le_trans (b8 x hx) (by decide), T8, fun H9 e9 T9 => ⟨_, rfl, iteF ?_⟩⟩
      exact ⟨_, _, rfl, hf8.extZ e9, V8.ext e9, (S8.extZ e9).mono (by omega), T9⟩
    case done =>
    rintro σ H6 ⟨o4, o5, rfl, hf6, V6, S6, T6⟩
    clear hf5 V5 S5 T5
    refine ⟨_, rfl, by decide, by decide, ?_⟩
    refine for_range (lo := 0) (n := 2) (fun i σ H' => ∃ o4 : Option V, σ = [some (.ref a), some (.ref st), some (.ref p), some (.ref D), o4, o5, none, none, none, none, none] ∧ FcAt H' p F ∧ VK K H' st g D vj ∧ SA H' st g c (2000 + 100 * i) ∧ Tabs Ts H') ⟨_, rfl, hf6, V6, S6.mono (by decide), T6⟩ ?turn2 ?done2
    case turn2 =>
      rintro i σ H7 hi ⟨o4, rfl, hf7, V7, S7, T7⟩
      refine ⟨_, rfl, _, rfl, st, g, c, p, _, F, rfl, S7, by omega, hf7, fun t F' H8 hf8 er S8 F8 => ?_⟩
      refine ⟨_, rfl, t, D, F', vj, rfl, hf8, (V7.frm S7 F8).a, by omega, fun x hx => Nat.le_trans (bv x hx) (by decide), tabs_frZ T7 S7 F8, fun H9 e9 T9 => ⟨_, rfl, iteF ?_⟩⟩
      exact ⟨_, rfl, (hf7.mono (fr_tup S7 F8)).extZ e9, (V7.frm S7 F8).ext e9, (S8.extZ e9).mono (by omega), T9⟩
    case done2 =>
    rintro σ H7 ⟨o4', rfl, _⟩
    clear hf6 V6 S6 T6
    have J : Same H7 H7 := Same.refl H7
    clear J
    refine ⟨(by show 3 ≤ sizeLine; decide), fun t1 nt1 => ?_⟩
    have a1 := sadd (o := .tup [.str "in", .int 0, .int 1]) (Same.refl H7) nt1
    have ft1 : upd H7 t1 (.tup [.str "in", .int 0, .int 1]) t1 = some (.tup [.str "in", .int 0, .int 1]) := upd_same
    generalize upd H7 t1 (.tup [.str "in", .int 0, .int 1]) = J1 at *
    clear a1 nt1
    have qt1 : SqT K J1 t1 (Jt.vs (.inn (.n 0) (.n 1))) := SqT.of ft1
    clear ft1
    refine ⟨(by show 2 ≤ sizeLine; decide), fun t2 nt2 => ?_⟩
    have a2 := sadd (o := .tup [.str "gives", .int 1]) (Same.refl J1) nt2
    have ft2 : upd J1 t2 (.tup [.str "gives", .int 1]) t2 = some (.tup [.str "gives", .int 1]) := upd_same
    replace qt1 := same_seq2 a2 qt1
    generalize upd J1 t2 (.tup [.str "gives", .int 1]) = J2 at *
    clear a2 nt2
    have qt2 : SqT K J2 t2 (Jt.vs (.gives (.n 1))) := SqT.of ft2
    clear ft2
    refine ⟨(by show 2 ≤ sizeLine; decide), fun sh nsh => ?_⟩
    have a3 := sadd (o := .lst [.ref t1, .ref t2]) (Same.refl J2) nsh
    have fsh : upd J2 sh (.lst [.ref t1, .ref t2]) sh = some (.lst [.ref t1, .ref t2]) := upd_same
    replace qt1 := same_seq2 a3 qt1
    replace qt2 := same_seq2 a3 qt2
    generalize upd J2 sh (.lst [.ref t1, .ref t2]) = J3 at *
    clear a3 nsh
    have vsh : VjAt K J3 sh [.inn (.n 0) (.n 1), .gives (.n 1)] := ⟨[t1, t2], fsh, (.cons qt1 (.cons qt2 .nil))⟩
    clear fsh qt1 qt2
    refine ⟨(by show 3 ≤ sizeLine; decide), fun t3 nt3 => ?_⟩
    have a4 := sadd (o := .tup [.str "in", .int 6, .int 0]) (Same.refl J3) nt3
    have ft3 : upd J3 t3 (.tup [.str "in", .int 6, .int 0]) t3 = some (.tup [.str "in", .int 6, .int 0]) := upd_same
    replace vsh := vsh.same a4
    generalize upd J3 t3 (.tup [.str "in", .int 6, .int 0]) = J4 at *
    clear a4 nt3
    have qt3 : SqT K J4 t3 (Jt.vs (.inn (.n 6) (.n 0))) := SqT.of ft3
    clear ft3
    refine ⟨(by show 1 ≤ sizeLine; decide), fun l1 nl1 => ?_⟩
    have a5 := sadd (o := .lst [.ref t3]) (Same.refl J4) nl1
    have fl1 : upd J4 l1 (.lst [.ref t3]) l1 = some (.lst [.ref t3]) := upd_same
    replace vsh := vsh.same a5
    replace qt3 := same_seq2 a5 qt3
    generalize upd J4 l1 (.lst [.ref t3]) = J5 at *
    clear a5 nl1
    have vl1 : VjAt K J5 l1 [.inn (.n 6) (.n 0)] := ⟨[t3], fl1, (.cons qt3 .nil)⟩
    clear fl1 qt3
    refine ⟨_, rfl, (by show 3 ≤ sizeLine; decide), fun t4 nt4 => ?_⟩
    have a6 := sadd (o := .tup [.str "in", .int 0, .int (-1)]) (Same.refl J5) nt4
    have ft4 : upd J5 t4 (.tup [.str "in", .int 0, .int (-1)]) t4 = some (.tup [.str "in", .int 0, .int (-1)]) := upd_same
    replace vsh := vsh.same a6
    replace vl1 := vl1.same a6
    generalize upd J5 t4 (.tup [.str "in", .int 0, .int (-1)]) = J6 at *
    clear a6 nt4
    have qt4 : SqT K J6 t4 (Jt.vs (.inn (.n 0) (.n (-1)))) := SqT.of ft4
    clear ft4
    refine ⟨(by show 1 ≤ sizeLine; decide), fun l2 nl2 => ?_⟩
    have a7 := sadd (o := .lst [.ref t4]) (Same.refl J6) nl2
    have fl2 : upd J6 l2 (.lst [.ref t4]) l2 = some (.lst [.ref t4]) := upd_same
    replace vsh := vsh.same a7
    replace vl1 := vl1.same a7
    replace qt4 := same_seq2 a7 qt4
    generalize upd J6 l2 (.lst [.ref t4]) = J7 at *
    clear a7 nl2
    have vl2 : VjAt K J7 l2 [.inn (.n 0) (.n (-1))] := ⟨[t4], fl2, (.cons qt4 .nil)⟩
    clear fl2 qt4
    refine ⟨_, rfl, (by show 3 ≤ sizeLine; decide), fun t5 nt5 => ?_⟩
    have a8 := sadd (o := .tup [.str "in", .int (-1), .int 0]) (Same.refl J7) nt5
    have ft5 : upd J7 t5 (.tup [.str "in", .int (-1), .int 0]) t5 = some (.tup [.str "in", .int (-1), .int 0]) := upd_same
    replace vsh := vsh.same a8
    replace vl1 := vl1.same a8
    replace vl2 := vl2.same a8
    generalize upd J7 t5 (.tup [.str "in", .int (-1), .int 0]) = J8 at *
    clear a8 nt5
    have qt5 : SqT K J8 t5 (Jt.vs (.inn (.n (-1)) (.n 0))) := SqT.of ft5
    clear ft5
    refine ⟨(by show 1 ≤ sizeLine; decide), fun l3 nl3 => ?_⟩
    have a9 := sadd (o := .lst [.ref t5]) (Same.refl J8) nl3
    have fl3 : upd J8 l3 (.lst [.ref t5]) l3 = some (.lst [.ref t5]) := upd_same
    replace vsh := vsh.same a9
    replace vl1 := vl1.same a9
    replace vl2 := vl2.same a9
    replace qt5 := same_seq2 a9 qt5
    generalize upd J8 l3 (.lst [.ref t5]) = J9 at *
    clear a9 nl3
    have vl3 : VjAt K J9 l3 [.inn (.n (-1)) (.n 0)] := ⟨[t5], fl3, (.cons qt5 .nil)⟩
    clear fl3 qt5
    refine ⟨(by show 3 ≤ sizeLine; decide), fun t6 nt6 => ?_⟩
    have a10 := sadd (o := .tup [.str "in", .int 0, .int 10000]) (Same.refl J9) nt6
    have ft6 : upd J9 t6 (.tup [.str "in", .int 0, .int 10000]) t6 = some (.tup [.str "in", .int 0, .int 10000]) := upd_same
    replace vsh := vsh.same a10
    replace vl1 := vl1.same a10
    replace vl2 := vl2.same a10
    replace vl3 := vl3.same a10
    generalize upd J9 t6 (.tup [.str "in", .int 0, .int 10000]) = J10 at *
    clear a10 nt6
    have qt6 : SqT K J10 t6 (Jt.vs (.inn (.n 0) (.n 10000))) := SqT.of ft6
    clear ft6
    refine ⟨(by show 1 ≤ sizeLine; decide), fun l4 nl4 => ?_⟩
    have a11 := sadd (o := .lst [.ref t6]) (Same.refl J10) nl4
    have fl4 : upd J10 l4 (.lst [.ref t6]) l4 = some (.lst [.ref t6]) := upd_same
    replace vsh := vsh.same a11
    replace vl1 := vl1.same a11
    replace vl2 := vl2.same a11
    replace vl3 := vl3.same a11
    replace qt6 := same_seq2 a11 qt6
    generalize upd J10 l4 (.lst [.ref t6]) = J11 at *
    clear a11 nl4
    have vl4 : VjAt K J11 l4 [.inn (.n 0) (.n 10000)] := ⟨[t6], fl4, (.cons qt6 .nil)⟩
    clear fl4 qt6
    refine ⟨_, rfl, ?_⟩
    refine ⟨(by show 2 ≤ sizeLine; decide), fun t7 nt7 => ?_⟩
    have a12 := sadd (o := .tup [.str "got", .int 10000]) (Same.refl J11) nt7
    have ft7 : upd J11 t7 (.tup [.str "got", .int 10000]) t7 = some (.tup [.str "got", .int 10000]) := upd_same
    replace vsh := vsh.same a12
    replace vl1 := vl1.same a12
    replace vl2 := vl2.same a12
    replace vl3 := vl3.same a12
    replace vl4 := vl4.same a12
    generalize upd J11 t7 (.tup [.str "got", .int 10000]) = J12 at *
    clear a12 nt7
    have qt7 : SqT K J12 t7 (Jt.vs (.got (.n 10000))) := SqT.of ft7
    clear ft7
    refine ⟨(by show 1 ≤ sizeLine; decide), fun l5 nl5 => ?_⟩
    have a13 := sadd (o := .lst [.ref t7]) (Same.refl J12) nl5
    have fl5 : upd J12 l5 (.lst [.ref t7]) l5 = some (.lst [.ref t7]) := upd_same
    replace vsh := vsh.same a13
    replace vl1 := vl1.same a13
    replace vl2 := vl2.same a13
    replace vl3 := vl3.same a13
    replace vl4 := vl4.same a13
    replace qt7 := same_seq2 a13 qt7
    generalize upd J12 l5 (.lst [.ref t7]) = J13 at *
    clear a13 nl5
    have vl5 : VjAt K J13 l5 [.got (.n 10000)] := ⟨[t7], fl5, (.cons qt7 .nil)⟩
    clear fl5 qt7
    obtain ⟨ps1, e1, k1⟩ := id vsh
    obtain ⟨ps2, e2, k2⟩ := id vl5
    refine ⟨sh, l5, _, _, rfl, rfl, e1, e2, by rw [List.length_map, List.length_map, k1.len, k2.len]; decide, fun l6 nl6 => ?_⟩
    rw [← List.map_append]
    have a14 := sadd (o := .lst ((ps1 ++ ps2).map V.ref)) (Same.refl J13) nl6
    have vl6 : VjAt K (upd J13 l6 (.lst ((ps1 ++ ps2).map V.ref))) l6 ([.inn (.n 0) (.n 1), .gives (.n 1)] ++ [.got (.n 10000)]) := ⟨ps1 ++ ps2, upd_same, (k1.both k2).same a14⟩
    replace vsh := vsh.same a14
    replace vl1 := vl1.same a14
    replace vl2 := vl2.same a14
    replace vl3 := vl3.same a14
    replace vl4 := vl4.same a14
    replace vl5 := vl5.same a14
    generalize upd J13 l6 (.lst ((ps1 ++ ps2).map V.ref)) = J14 at *
    clear a14 nl6 e1 e2 k1 k2 ps1 ps2 vl5
    refine ⟨(by show 5 ≤ sizeLine; decide), fun wr nwr => ?_⟩
    have a15 := sadd (o := .lst [.ref l1, .ref l2, .ref l3, .ref l4, .ref l6]) (Same.refl J14) nwr
    have wl1 : WrN K J14 wr (.ref l1) := ⟨l1, _, rfl, vl1, by decide +kernel, by obtain ⟨ps, e, _⟩ := vl1; exact ne_of_none e nwr⟩
    have wl2 : WrN K J14 wr (.ref l2) := ⟨l2, _, rfl, vl2, by decide +kernel, by obtain ⟨ps, e, _⟩ := vl2; exact ne_of_none e nwr⟩
    have wl3 : WrN K J14 wr (.ref l3) := ⟨l3, _, rfl, vl3, by decide +kernel, by obtain ⟨ps, e, _⟩ := vl3; exact ne_of_none e nwr⟩
    have wl4 : WrN K J14 wr (.ref l4) := ⟨l4, _, rfl, vl4, by decide +kernel, by obtain ⟨ps, e, _⟩ := vl4; exact ne_of_none e nwr⟩
    have wl6 : WrN K J14 wr (.ref l6) := ⟨l6, _, rfl, vl6, by decide +kernel, by obtain ⟨ps, e, _⟩ := vl6; exact ne_of_none e nwr⟩
    have zsh : sh ≠ wr := by obtain ⟨ps, e, _⟩ := vsh; exact ne_of_none e nwr
    have hall : ∀ v ∈ [V.ref l1, V.ref l2, V.ref l3, V.ref l4, V.ref l6], WrN K (upd J14 wr (.lst [.ref l1, .ref l2, .ref l3, .ref l4, .ref l6])) wr v := fun v hv => by
      simp only [List.mem_cons, List.not_mem_nil, or_false] at hv
      rcases hv with rfl | rfl | rfl | rfl | rfl
      · exact wl1.same a15
      · exact wl2.same a15
      · exact wl3.same a15
      · exact wl4.same a15
      · exact wl6.same a15
    have fwr : upd J14 wr (.lst [.ref l1, .ref l2, .ref l3, .ref l4, .ref l6]) wr = some (.lst [.ref l1, .ref l2, .ref l3, .ref l4, .ref l6]) := upd_same
    replace vsh := vsh.same a15
    clear wl1 vl1 wl2 vl2 wl3 vl3 wl4 vl4 wl6 vl6
    generalize upd J14 wr (.lst [.ref l1, .ref l2, .ref l3, .ref l4, .ref l6]) = J15 at *
    clear a15 nwr
    obtain ⟨ws, ews, lws⟩ : ∃ ws, ws = [V.ref l1, V.ref l2, V.ref l3, V.ref l4, V.ref l6] ∧ ws.length = 5 := ⟨_, rfl, rfl⟩
    rw [← ews] at hall fwr
    clear ews
    refine ⟨(by show 4 ≤ sizeLine; decide), fun u1 nu1 => ?_⟩
    have a16 := sadd (o := .tup [.str "calls", .int 6, .int 0, .int 0]) (Same.refl J15) nu1
    have fu1 : upd J15 u1 (.tup [.str "calls", .int 6, .int 0, .int 0]) u1 = some (.tup [.str "calls", .int 6, .int 0, .int 0]) := upd_same
    replace vsh := vsh.same a16
    replace hall := fun v hv => (hall v hv).same a16
    replace fwr := a16 _ _ fwr
    generalize upd J15 u1 (.tup [.str "calls", .int 6, .int 0, .int 0]) = J16 at *
    clear a16 nu1
    have qu1 : SqT K J16 u1 (Jt.vs (.calls (.n 6) (.n 0) (.n 0))) := SqT.of fu1
    clear fu1
    refine ⟨(by show 4 ≤ sizeLine; decide), fun u2 nu2 => ?_⟩
    have a17 := sadd (o := .tup [.str "calls", .int 0, .int 6, .int 0]) (Same.refl J16) nu2
    have fu2 : upd J16 u2 (.tup [.str "calls", .int 0, .int 6, .int 0]) u2 = some (.tup [.str "calls", .int 0, .int 6, .int 0]) := upd_same
    replace vsh := vsh.same a17
    replace hall := fun v hv => (hall v hv).same a17
    replace fwr := a17 _ _ fwr
    replace qu1 := same_seq2 a17 qu1
    generalize upd J16 u2 (.tup [.str "calls", .int 0, .int 6, .int 0]) = J17 at *
    clear a17 nu2
    have qu2 : SqT K J17 u2 (Jt.vs (.calls (.n 0) (.n 6) (.n 0))) := SqT.of fu2
    clear fu2
    refine ⟨(by show 4 ≤ sizeLine; decide), fun u3 nu3 => ?_⟩
    have a18 := sadd (o := .tup [.str "calls", .int 0, .int 0, .int 10000]) (Same.refl J17) nu3
    have fu3 : upd J17 u3 (.tup [.str "calls", .int 0, .int 0, .int 10000]) u3 = some (.tup [.str "calls", .int 0, .int 0, .int 10000]) := upd_same
    replace vsh := vsh.same a18
    replace hall := fun v hv => (hall v hv).same a18
    replace fwr := a18 _ _ fwr
    replace qu1 := same_seq2 a18 qu1
    replace qu2 := same_seq2 a18 qu2
    generalize upd J17 u3 (.tup [.str "calls", .int 0, .int 0, .int 10000]) = J18 at *
    clear a18 nu3
    have qu3 : SqT K J18 u3 (Jt.vs (.calls (.n 0) (.n 0) (.n 10000))) := SqT.of fu3
    clear fu3
    refine ⟨_, rfl, (by show 2 ≤ sizeLine; decide), fun u4 nu4 => ?_⟩
    have a19 := sadd (o := .tup [.str "gives", .int (-1)]) (Same.refl J18) nu4
    have fu4 : upd J18 u4 (.tup [.str "gives", .int (-1)]) u4 = some (.tup [.str "gives", .int (-1)]) := upd_same
    replace vsh := vsh.same a19
    replace hall := fun v hv => (hall v hv).same a19
    replace fwr := a19 _ _ fwr
    replace qu1 := same_seq2 a19 qu1
    replace qu2 := same_seq2 a19 qu2
    replace qu3 := same_seq2 a19 qu3
    generalize upd J18 u4 (.tup [.str "gives", .int (-1)]) = J19 at *
    clear a19 nu4
    have qu4 : SqT K J19 u4 (Jt.vs (.gives (.n (-1)))) := SqT.of fu4
    clear fu4
    refine ⟨(by show 2 ≤ sizeLine; decide), fun u5 nu5 => ?_⟩
    have a20 := sadd (o := .tup [.str "gives", .int 10000]) (Same.refl J19) nu5
    have fu5 : upd J19 u5 (.tup [.str "gives", .int 10000]) u5 = some (.tup [.str "gives", .int 10000]) := upd_same
    replace vsh := vsh.same a20
    replace hall := fun v hv => (hall v hv).same a20
    replace fwr := a20 _ _ fwr
    replace qu1 := same_seq2 a20 qu1
    replace qu2 := same_seq2 a20 qu2
    replace qu3 := same_seq2 a20 qu3
    replace qu4 := same_seq2 a20 qu4
    generalize upd J19 u5 (.tup [.str "gives", .int 10000]) = J20 at *
    clear a20 nu5
    have qu5 : SqT K J20 u5 (Jt.vs (.gives (.n 10000))) := SqT.of fu5
    clear fu5
    refine ⟨(by show 5 ≤ sizeLine; decide), fun al nal => ?_⟩
    have a21 := sadd (o := .lst [.ref u1, .ref u2, .ref u3, .ref u4, .ref u5]) (Same.refl J20) nal
    have fal : upd J20 al (.lst [.ref u1, .ref u2, .ref u3, .ref u4, .ref u5]) al = some (.lst [.ref u1, .ref u2, .ref u3, .ref u4, .ref u5]) := upd_same
    have zal : al ≠ wr := (ne_of_none fwr nal).symm
    replace vsh := vsh.same a21
    replace hall := fun v hv => (hall v hv).same a21
    replace fwr := a21 _ _ fwr
    replace qu1 := same_seq2 a21 qu1
    replace qu2 := same_seq2 a21 qu2
    replace qu3 := same_seq2 a21 qu3
    replace qu4 := same_seq2 a21 qu4
    replace qu5 := same_seq2 a21 qu5
    generalize upd J20 al (.lst [.ref u1, .ref u2, .ref u3, .ref u4, .ref u5]) = J21 at *
    clear a21 nal
    have val : VjAt K J21 al [.calls (.n 6) (.n 0) (.n 0), .calls (.n 0) (.n 6) (.n 0), .calls (.n 0) (.n 0) (.n 10000), .gives (.n (-1)), .gives (.n 10000)] := ⟨[u1, u2, u3, u4, u5], fal, (.cons qu1 (.cons qu2 (.cons qu3 (.cons qu4 (.cons qu5 .nil)))))⟩
    clear fal qu1 qu2 qu3 qu4 qu5
    obtain ⟨us, hal, hus⟩ := val
    have hus' : AllQ K J21 Jt.vs us badActs := hus
    clear hus
    refine ⟨al, rfl, ⟨_, SqL.of hal⟩, ?_⟩
    refine for_list (xs := us.map V.ref) (fun i σ H' => ∃ (o8 : Option V) (xs : List V), σ = [some (.ref a), some (.ref st), some (.ref p), some (.ref D), o4', o5, some (.ref sh), some (.ref wr), o8, none, none] ∧ H' wr = some (.lst xs) ∧ xs.length = 5 + i ∧ (∀ v ∈ xs, WrN K H' wr v) ∧ VjAt K H' sh [.inn (.n 0) (.n 1), .gives (.n 1)] ∧ H' al = some (.lst (us.map V.ref)) ∧ AllQ K H' Jt.vs us badActs) ⟨none, ws, rfl, fwr, lws, hall, vsh, hal, hus'⟩ (fun i σ H' _ ⟨_, _, _, _, _, _, _, h, _⟩ => SqL.of h) ?turn3 ?done3
    case turn3 =>
      rintro i y σ HA hy ⟨o8, xs, rfl, hwr, lxs, hxs, hsh, hal8, hus8⟩
      rw [List.getElem?_map] at hy
      obtain ⟨u, hu, rfl⟩ := Option.map_eq_some_iff.mp hy
      have hi : i < us.length := (List.getElem?_eq_some_iff.mp hu).1
      have lus := hus8.len
      have l5 : badActs.length = 5 := rfl
      obtain ⟨x, hx, hux⟩ := hus8.get hu
      have gx := badActs_ x (List.mem_of_getElem? hx)
      refine ⟨_, rfl, .inl ⟨rfl, _, SqL.of hwr⟩, ?_⟩
      refine ⟨(by show 3 ≤ sizeLine; decide), fun tt ntt => ?_⟩
      have a22 := sadd (o := .tup [.str "in", .int 0, .int 1]) (Same.refl HA) ntt
      have ftt : upd HA tt (.tup [.str "in", .int 0, .int 1]) tt = some (.tup [.str "in", .int 0, .int 1]) := upd_same
      replace hwr := a22 _ _ hwr
      replace hxs := fun v hv => (hxs v hv).same a22
      replace hsh := hsh.same a22
      replace hal8 := a22 _ _ hal8
      replace hus8 := hus8.same a22
      replace hux := same_seq2 a22 hux
      generalize upd HA tt (.tup [.str "in", .int 0, .int 1]) = J22 at *
      clear a22 ntt
      have qtt : SqT K J22 tt (Jt.vs (.inn (.n 0) (.n 1))) := SqT.of ftt
      clear ftt
      refine ⟨_, rfl, ?_⟩
      refine ⟨(by show 2 ≤ sizeLine; decide), fun ll nll => ?_⟩
      have a23 := sadd (o := .lst [.ref tt, .ref u]) (Same.refl J22) nll
      have zll : ll ≠ wr := (ne_of_none hwr nll).symm
      have vll : WrN K (upd J22 ll (.lst [.ref tt, .ref u])) wr (.ref ll) := ⟨ll, [.inn (.n 0) (.n 1), x], rfl, ⟨[tt, u], upd_same, .cons (same_seq2 a23 qtt) (.cons (same_seq2 a23 hux) .nil)⟩, gx, zll⟩
      replace hwr := a23 _ _ hwr
      replace hxs := fun v hv => (hxs v hv).same a23
      replace hsh := hsh.same a23
      replace hal8 := a23 _ _ hal8
      replace hus8 := hus8.same a23
      replace hux := same_seq2 a23 hux
      replace qtt := same_seq2 a23 qtt
      generalize upd J22 ll (.lst [.ref tt, .ref u]) = J23 at *
      refine ⟨wr, _, _, rfl, rfl, hwr, by rw [lxs, sizeLine_eq]; omega, ?_⟩
      refine ⟨_, xs ++ [.ref ll], rfl, upd_same, by rw [List.length_append, lxs, List.length_singleton]; omega, fun v hv => ?_, hsh.upw hwr zsh, (upd_ne zal).trans hal8, hus8.mono fun _ _ z => sqt_put _ hwr z⟩
      rcases List.mem_append.mp hv with hv | hv
      · exact (hxs v hv).upw hwr
      · rw [List.mem_singleton.mp hv]
        exact vll.upw hwr
    case done3 =>
    rintro σ HB ⟨o8, xs, rfl, hwr, lxs, hxs, vsh, _, _⟩
    have lx : xs.length = 10 := by rw [lxs, List.length_map, hus'.len]; rfl
    clear hall fwr hus' hal
    refine ⟨_, rfl, ?_⟩
    refine fun d nd' => ?_
    have a61 := sadd (o := .dK []) (Same.refl HB) nd'
    have fd : upd HB d (.dK []) d = some (.dK []) := upd_same
    replace hwr := a61 _ _ hwr
    replace hxs := fun v hv => (hxs v hv).same a61
    replace vsh := vsh.same a61
    generalize upd HB d (.dK []) = J61 at *
    clear a61 nd'
    refine ⟨(by show 2 ≤ sizeLine; decide), fun x1 nx1 => ?_⟩
    have a62 := sadd (o := .tup [.str "got", .int 1]) (Same.refl J61) nx1
    have fx1 : upd J61 x1 (.tup [.str "got", .int 1]) x1 = some (.tup [.str "got", .int 1]) := upd_same
    replace hwr := a62 _ _ hwr
    replace hxs := fun v hv => (hxs v hv).same a62
    replace vsh := vsh.same a62
    replace fd := a62 _ _ fd
    generalize upd J61 x1 (.tup [.str "got", .int 1]) = J62 at *
    clear a62 nx1
    have qx1 : SqT K J62 x1 (Jt.vs (.got (.n 1))) := SqT.of fx1
    clear fx1
    refine ⟨(by show 1 ≤ sizeLine; decide), fun m1 nm1 => ?_⟩
    have a63 := sadd (o := .lst [.ref x1]) (Same.refl J62) nm1
    have fm1 : upd J62 m1 (.lst [.ref x1]) m1 = some (.lst [.ref x1]) := upd_same
    replace hwr := a63 _ _ hwr
    replace hxs := fun v hv => (hxs v hv).same a63
    replace vsh := vsh.same a63
    replace fd := a63 _ _ fd
    replace qx1 := same_seq2 a63 qx1
    generalize upd J62 m1 (.lst [.ref x1]) = J63 at *
    clear a63 nm1
    have vm1 : VjAt K J63 m1 [.got (.n 1)] := ⟨[x1], fm1, (.cons qx1 .nil)⟩
    clear fm1 qx1
    refine ⟨_, rfl, ?_⟩
    refine ⟨(by show 2 ≤ sizeLine; decide), fun x2 nx2 => ?_⟩
    have a64 := sadd (o := .tup [.str "got", .int 1]) (Same.refl J63) nx2
    have fx2 : upd J63 x2 (.tup [.str "got", .int 1]) x2 = some (.tup [.str "got", .int 1]) := upd_same
    replace hwr := a64 _ _ hwr
    replace hxs := fun v hv => (hxs v hv).same a64
    replace vsh := vsh.same a64
    replace fd := a64 _ _ fd
    replace vm1 := vm1.same a64
    generalize upd J63 x2 (.tup [.str "got", .int 1]) = J64 at *
    clear a64 nx2
    have qx2 : SqT K J64 x2 (Jt.vs (.got (.n 1))) := SqT.of fx2
    clear fx2
    refine ⟨(by show 1 ≤ sizeLine; decide), fun m2 nm2 => ?_⟩
    have a65 := sadd (o := .lst [.ref x2]) (Same.refl J64) nm2
    have fm2 : upd J64 m2 (.lst [.ref x2]) m2 = some (.lst [.ref x2]) := upd_same
    replace hwr := a65 _ _ hwr
    replace hxs := fun v hv => (hxs v hv).same a65
    replace vsh := vsh.same a65
    replace fd := a65 _ _ fd
    replace vm1 := vm1.same a65
    replace qx2 := same_seq2 a65 qx2
    generalize upd J64 m2 (.lst [.ref x2]) = J65 at *
    clear a65 nm2
    have vm2 : VjAt K J65 m2 [.got (.n 1)] := ⟨[x2], fm2, (.cons qx2 .nil)⟩
    clear fm2 qx2
    obtain ⟨ps1, e1, k1⟩ := id vsh
    obtain ⟨ps2, e2, k2⟩ := id vm2
    refine ⟨sh, m2, _, _, rfl, rfl, e1, e2, by rw [List.length_map, List.length_map, k1.len, k2.len]; decide, fun m3 nm3 => ?_⟩
    rw [← List.map_append]
    have a66 := sadd (o := .lst ((ps1 ++ ps2).map V.ref)) (Same.refl J65) nm3
    have vm3 : VjAt K (upd J65 m3 (.lst ((ps1 ++ ps2).map V.ref))) m3 ([.inn (.n 0) (.n 1), .gives (.n 1)] ++ [.got (.n 1)]) := ⟨ps1 ++ ps2, upd_same, (k1.both k2).same a66⟩
    replace hwr := a66 _ _ hwr
    replace hxs := fun v hv => (hxs v hv).same a66
    replace vsh := vsh.same a66
    replace fd := a66 _ _ fd
    replace vm1 := vm1.same a66
    replace vm2 := vm2.same a66
    generalize upd J65 m3 (.lst ((ps1 ++ ps2).map V.ref)) = J66 at *
    clear a66 nm3 e1 e2 k1 k2 ps1 ps2 vm2
    refine ⟨(by show 3 ≤ sizeLine; decide), fun x3 nx3 => ?_⟩
    have a67 := sadd (o := .tup [.str "in", .int 0, .int 1]) (Same.refl J66) nx3
    have fx3 : upd J66 x3 (.tup [.str "in", .int 0, .int 1]) x3 = some (.tup [.str "in", .int 0, .int 1]) := upd_same
    replace hwr := a67 _ _ hwr
    replace hxs := fun v hv => (hxs v hv).same a67
    replace vsh := vsh.same a67
    replace fd := a67 _ _ fd
    replace vm1 := vm1.same a67
    replace vm3 := vm3.same a67
    generalize upd J66 x3 (.tup [.str "in", .int 0, .int 1]) = J67 at *
    clear a67 nx3
    have qx3 : SqT K J67 x3 (Jt.vs (.inn (.n 0) (.n 1))) := SqT.of fx3
    clear fx3
    refine ⟨(by show 3 ≤ sizeLine; decide), fun x4 nx4 => ?_⟩
    have a68 := sadd (o := .tup [.str "in", .int 0, .int 1]) (Same.refl J67) nx4
    have fx4 : upd J67 x4 (.tup [.str "in", .int 0, .int 1]) x4 = some (.tup [.str "in", .int 0, .int 1]) := upd_same
    replace hwr := a68 _ _ hwr
    replace hxs := fun v hv => (hxs v hv).same a68
    replace vsh := vsh.same a68
    replace fd := a68 _ _ fd
    replace vm1 := vm1.same a68
    replace vm3 := vm3.same a68
    replace qx3 := same_seq2 a68 qx3
    generalize upd J67 x4 (.tup [.str "in", .int 0, .int 1]) = J68 at *
    clear a68 nx4
    have qx4 : SqT K J68 x4 (Jt.vs (.inn (.n 0) (.n 1))) := SqT.of fx4
    clear fx4
    refine ⟨(by show 2 ≤ sizeLine; decide), fun m4 nm4 => ?_⟩
    have a69 := sadd (o := .lst [.ref x3, .ref x4]) (Same.refl J68) nm4
    have fm4 : upd J68 m4 (.lst [.ref x3, .ref x4]) m4 = some (.lst [.ref x3, .ref x4]) := upd_same
    replace hwr := a69 _ _ hwr
    replace hxs := fun v hv => (hxs v hv).same a69
    replace vsh := vsh.same a69
    replace fd := a69 _ _ fd
    replace vm1 := vm1.same a69
    replace vm3 := vm3.same a69
    replace qx3 := same_seq2 a69 qx3
    replace qx4 := same_seq2 a69 qx4
    generalize upd J68 m4 (.lst [.ref x3, .ref x4]) = J69 at *
    clear a69 nm4
    have vm4 : VjAt K J69 m4 [.inn (.n 0) (.n 1), .inn (.n 0) (.n 1)] := ⟨[x3, x4], fm4, (.cons qx3 (.cons qx4 .nil))⟩
    clear fm4 qx3 qx4
    refine ⟨(by show 7 ≤ sizeLine; decide), fun ol nol => ?_⟩
    have a70 := sadd (o := .lst [.non, .str "in", .int 3, .ref d, .ref m1, .ref m3, .ref m4]) (Same.refl J69) nol
    have fol : upd J69 ol (.lst [.non, .str "in", .int 3, .ref d, .ref m1, .ref m3, .ref m4]) ol = some (.lst [.non, .str "in", .int 3, .ref d, .ref m1, .ref m3, .ref m4]) := upd_same
    replace hwr := a70 _ _ hwr
    replace hxs := fun v hv => (hxs v hv).same a70
    replace vsh := vsh.same a70
    replace fd := a70 _ _ fd
    replace vm1 := vm1.same a70
    replace vm3 := vm3.same a70
    replace vm4 := vm4.same a70
    generalize upd J69 ol (.lst [.non, .str "in", .int 3, .ref d, .ref m1, .ref m3, .ref m4]) = J70 at *
    clear a70 nol
    refine ⟨wr, ol, _, _, rfl, rfl, hwr, fol, by rw [lx, sizeLine_eq]; show 10 + 7 ≤ _; decide, fun oc noc => ?_⟩
    have a71 := sadd (o := .lst (xs ++ [V.non, V.str "in", V.int 3, V.ref d, V.ref m1, V.ref m3, V.ref m4])) (Same.refl J70) noc
    have foc : upd J70 oc (.lst (xs ++ [V.non, V.str "in", V.int 3, V.ref d, V.ref m1, V.ref m3, V.ref m4])) oc = some (.lst (xs ++ [V.non, V.str "in", V.int 3, V.ref d, V.ref m1, V.ref m3, V.ref m4])) := upd_same
    replace hwr := a71 _ _ hwr
    replace hxs := fun v hv => (hxs v hv).same a71
    replace vsh := vsh.same a71
    replace fd := a71 _ _ fd
    replace vm1 := vm1.same a71
    replace vm3 := vm3.same a71
    replace vm4 := vm4.same a71
    replace fol := a71 _ _ fol
    generalize upd J70 oc (.lst (xs ++ [V.non, V.str "in", V.int 3, V.ref d, V.ref m1, V.ref m3, V.ref m4])) = J71 at *
    clear a71 noc
    have hw : ∀ v ∈ xs ++ [V.non, V.str "in", V.int 3, V.ref d, V.ref m1, V.ref m3, V.ref m4], Wr K J71 v := fun v hv => by
      rcases List.mem_append.mp hv with hv | hv
      · exact (hxs v hv).wr
      simp only [List.mem_cons, List.not_mem_nil, or_false] at hv
      rcases hv with rfl | rfl | rfl | rfl | rfl | rfl | rfl
      · exact .inr (.inl rfl)
      · exact .inr (.inr (.inr (.inl ⟨_, rfl⟩)))
      · exact .inr (.inr (.inl ⟨_, rfl⟩))
      · exact .inr (.inr (.inr (.inr ⟨d, _, rfl, fd⟩)))
      · exact .inl ⟨m1, _, rfl, vm1, by decide +kernel⟩
      · exact .inl ⟨m3, _, rfl, vm3, by decide +kernel⟩
      · exact .inl ⟨m4, _, rfl, vm4, by decide +kernel⟩
    clear hxs vm1 vm3 vm4 fd
    generalize xs ++ [V.non, V.str "in", V.int 3, V.ref d, V.ref m1, V.ref m3, V.ref m4] = ys at *
    refine ⟨oc, rfl, ⟨_, SqL.of foc⟩, ?_⟩
    refine for_list (xs := ys) (fun i σ H' => ∃ o9 : Option V, σ = [some (.ref a), some (.ref st), some (.ref p), some (.ref D), o4', o5, some (.ref sh), some (.ref wr), o8, o9, none] ∧ Same J71 H') ⟨none, rfl, Same.refl _⟩ (fun i σ H' _ ⟨_, _, s⟩ => SqL.of (s _ _ foc)) ?turn4 ?done4
    case turn4 =>
      rintro i y σ HC hy ⟨o9, rfl, s9⟩
      refine ⟨_, rfl, Wr.use ((hw y (List.mem_of_getElem? hy)).same s9) fun HD sD => ⟨_, _, rfl, rfl, _, rfl, iteF ?_⟩⟩
      exact ⟨_, rfl, s9.trans sD⟩
    case done4 =>
    rintro σ HC ⟨o9, rfl, _⟩
    clear hw foc hwr vsh fol
    refine ⟨(by show 3 ≤ sizeLine; decide), fun y1 ny1 => ?_⟩
    have a101 := sadd (o := .tup [.str "in", .int 5, .int 9999]) (Same.refl HC) ny1
    have fy1 : upd HC y1 (.tup [.str "in", .int 5, .int 9999]) y1 = some (.tup [.str "in", .int 5, .int 9999]) := upd_same
    generalize upd HC y1 (.tup [.str "in", .int 5, .int 9999]) = J101 at *
    clear a101 ny1
    have qy1 : SqT K J101 y1 (Jt.vs (.inn (.n 5) (.n 9999))) := SqT.of fy1
    clear fy1
    refine ⟨(by show 4 ≤ sizeLine; decide), fun y2 ny2 => ?_⟩
    have a102 := sadd (o := .tup [.str "calls", .int 5, .int 5, .int 9999]) (Same.refl J101) ny2
    have fy2 : upd J101 y2 (.tup [.str "calls", .int 5, .int 5, .int 9999]) y2 = some (.tup [.str "calls", .int 5, .int 5, .int 9999]) := upd_same
    replace qy1 := same_seq2 a102 qy1
    generalize upd J101 y2 (.tup [.str "calls", .int 5, .int 5, .int 9999]) = J102 at *
    clear a102 ny2
    have qy2 : SqT K J102 y2 (Jt.vs (.calls (.n 5) (.n 5) (.n 9999))) := SqT.of fy2
    clear fy2
    refine ⟨(by show 2 ≤ sizeLine; decide), fun y3 ny3 => ?_⟩
    have a103 := sadd (o := .tup [.str "got", .int 9999]) (Same.refl J102) ny3
    have fy3 : upd J102 y3 (.tup [.str "got", .int 9999]) y3 = some (.tup [.str "got", .int 9999]) := upd_same
    replace qy1 := same_seq2 a103 qy1
    replace qy2 := same_seq2 a103 qy2
    generalize upd J102 y3 (.tup [.str "got", .int 9999]) = J103 at *
    clear a103 ny3
    have qy3 : SqT K J103 y3 (Jt.vs (.got (.n 9999))) := SqT.of fy3
    clear fy3
    refine ⟨(by show 2 ≤ sizeLine; decide), fun y4 ny4 => ?_⟩
    have a104 := sadd (o := .tup [.str "gives", .int 9999]) (Same.refl J103) ny4
    have fy4 : upd J103 y4 (.tup [.str "gives", .int 9999]) y4 = some (.tup [.str "gives", .int 9999]) := upd_same
    replace qy1 := same_seq2 a104 qy1
    replace qy2 := same_seq2 a104 qy2
    replace qy3 := same_seq2 a104 qy3
    generalize upd J103 y4 (.tup [.str "gives", .int 9999]) = J104 at *
    clear a104 ny4
    have qy4 : SqT K J104 y4 (Jt.vs (.gives (.n 9999))) := SqT.of fy4
    clear fy4
    refine ⟨(by show 4 ≤ sizeLine; decide), fun mo nmo => ?_⟩
    have a105 := sadd (o := .lst [.ref y1, .ref y2, .ref y3, .ref y4]) (Same.refl J104) nmo
    have fmo : upd J104 mo (.lst [.ref y1, .ref y2, .ref y3, .ref y4]) mo = some (.lst [.ref y1, .ref y2, .ref y3, .ref y4]) := upd_same
    replace qy1 := same_seq2 a105 qy1
    replace qy2 := same_seq2 a105 qy2
    replace qy3 := same_seq2 a105 qy3
    replace qy4 := same_seq2 a105 qy4
    generalize upd J104 mo (.lst [.ref y1, .ref y2, .ref y3, .ref y4]) = J105 at *
    clear a105 nmo
    have vmo : VjAt K J105 mo [.inn (.n 5) (.n 9999), .calls (.n 5) (.n 5) (.n 9999), .got (.n 9999), .gives (.n 9999)] := ⟨[y1, y2, y3, y4], fmo, (.cons qy1 (.cons qy2 (.cons qy3 (.cons qy4 .nil))))⟩
    clear fmo qy1 qy2 qy3 qy4
    refine ⟨(by show 0 ≤ sizeLine; decide), fun e0 ne0 => ?_⟩
    have a106 := sadd (o := .lst []) (Same.refl J105) ne0
    have ve0 : VjAt K (upd J105 e0 (.lst [])) e0 [] := ⟨[], upd_same, .nil⟩
    replace vmo := vmo.same a106
    generalize upd J105 e0 (.lst []) = J106 at *
    refine .inl ⟨e0, [], rfl, ve0, fun HE sE => ?_⟩
    have g0 : goodJ [] = true := by decide +kernel
    rw [g0]
    replace vmo := vmo.same sE
    refine ⟨true, true, rfl, rfl, _, rfl, iteT ?_⟩
    refine ⟨(by show 0 ≤ sizeLine; decide), fun e1 ne1 => ?_⟩
    have b1 := sadd (o := .tup []) (Same.refl HE) ne1
    have fe1 : upd HE e1 (.tup []) e1 = some (.tup []) := upd_same
    replace vmo := vmo.same b1
    generalize upd HE e1 (.tup []) = HF at *
    refine .inr (.inr ⟨e1, rfl, fe1, fun HG sG => ?_⟩)
    replace vmo := vmo.same sG
    refine ⟨true, true, rfl, rfl, _, rfl, iteT ?_⟩
    refine ⟨_, rfl, .inl ⟨mo, _, rfl, vmo, fun HI sI => ?_⟩⟩
    have g1 : goodJ [.inn (.n 5) (.n 9999), .calls (.n 5) (.n 5) (.n 9999), .got (.n 9999), .gives (.n 9999)] = true := by decide +kernel
    rw [g1]
    exact ⟨true, true, rfl, rfl, k HI⟩
end
end OH
end
section
set_option Elab.async false
set_option linter.all false
set_option maxRecDepth 100000
namespace OH
open PySem PySem.Spec PyProof.Rows L2
def kw0 {α : Type} (us ws : List α) : List α := match us, ws with
  | [], [x] => [x]
  | _, _ => []
theorem kb_one {K : PySem.W.Frag} {fd : FuncData} (h : ∀ (s : Shared) (x : Value), K.In s.heap → BindsTo s fd ⟨[], [("value", x)]⟩ [("value", x)]) : KBinds K fd ["value"] ["value"] kw0 kw0 := by
  refine ⟨fun s us ws k l => ?_, fun {vs us zs ws} a b => ?_⟩
  · match us, ws, l with
    | [], [x], _ => exact h s x k
    | [], [], l => cases l
    | [], _ :: _ :: _, l => cases l
    | _ :: _, _, l => cases l
  · match vs, us, a, zs, ws, b with
    | [], [], _, [x], [x'], .cons h1 _ => exact .cons h1 .nil
    | [], [], _, [], [], _ => exact .nil
    | [], [], _, _ :: _ :: _, _ :: _ :: _, _ => exact .nil
    | _ :: _, _ :: _, _, _, _, _ => exact .nil
theorem kb_is_view {K : PySem.W.Frag} {f : Addr} {fd : FuncData} (F : Fun K "is_view" "is_view" s_is_view f fd) : KBinds K fd ["value"] ["value"] kw0 kw0 := by
  obtain ⟨oc, od, kV, doc, pm, an, cdv, ct, osl, rfl, lk, hcd⟩ := F.ex
  exact kb_one fun s x k => .of_eq rfl
end OH
end
section
set_option Elab.async false
set_option linter.all false
set_option maxRecDepth 100000
set_option maxHeartbeats 16000000
/-! The facts of the head put together. -/
namespace OH
open PySem PySem.Spec PyProof.Rows L2
open LamX (Tabs TabS ExtN TabB CodeO)
theorem _root_.L2.FnOk.toG {P : Program} {w : World} {K : PySem.W.Frag} {mg : Str → Option Value} {base : Heap} {CX : CXT} {k : Nat} {f : Addr} {fd : FuncData} {ps : List Str} {sp : Sp} (F : FnOk P w K mg base CX k f fd ps sp) : FnG P w K mg base CX k f fd ps sp :=
  ⟨F.len, fun A out s H ar us vs Q E _ hr he hb hv hs => F.run A out s H ar us vs Q E hr he hb hv hs⟩
theorem t1 {K : PySem.W.Frag} {p : Addr} {dd : Option Addr} {a : Str} {ta : Tok} {n : Nat} {sl : Array (Option Value)} (hl : K.lookup p = some ⟨.type "tuple", dd, .seq #[.str a ta] n, sl⟩) : ∀ H, SqT K H p [.str a] := fun H =>
  .inr ⟨_, _, _, hl, rfl, rfl, by show 1 ≤ sizeLine; decide, .cons ⟨ta, rfl⟩ .nil⟩
theorem t3n {K : PySem.W.Frag} {p : Addr} {dd : Option Addr} {a b : Int} {ta tb : Tok} {n : Nat} {sl : Array (Option Value)} (hl : K.lookup p = some ⟨.type "tuple", dd, .seq #[.int a ta, .int b tb, .none] n, sl⟩) : ∀ H, SqT K H p [.int a, .int b, .non] := fun H =>
  .inr ⟨_, _, _, hl, rfl, rfl, by show 3 ≤ sizeLine; decide, .cons ⟨ta, rfl⟩ (.cons ⟨tb, rfl⟩ (.cons rfl .nil))⟩
theorem all_mk {l : PySem.W.OpenLaw} {w : World} {K : PySem.W.Frag} {mg : Str → Option Value} {fa : Addr} {h : Heap} {n : Nat}
    {f0 : Addr} {oc0 kV0 dc0 pm0 ct0 cd0 : Value} {od0 an0 : Option Addr} {sl0 : Array (Option Value)}
    {f1 : Addr} {oc1 kV1 dc1 pm1 ct1 cd1 : Value} {od1 an1 : Option Addr} {sl1 : Array (Option Value)}
    {f2 : Addr} {oc2 kV2 dc2 pm2 ct2 cd2 : Value} {od2 an2 : Option Addr} {sl2 : Array (Option Value)}
    {f3 : Addr} {oc3 kV3 dc3 pm3 ct3 cd3 : Value} {od3 an3 : Option Addr} {sl3 : Array (Option Value)}
    {f4 : Addr} {oc4 kV4 dc4 pm4 ct4 cd4 : Value} {od4 an4 : Option Addr} {sl4 : Array (Option Value)}
    {f5 : Addr} {oc5 kV5 dc5 pm5 ct5 cd5 : Value} {od5 an5 : Option Addr} {sl5 : Array (Option Value)}
    {f6 : Addr} {oc6 kV6 dc6 pm6 ct6 cd6 : Value} {od6 an6 : Option Addr} {sl6 : Array (Option Value)}
    {f7 : Addr} {oc7 kV7 dc7 pm7 ct7 cd7 : Value} {od7 an7 : Option Addr} {sl7 : Array (Option Value)}
    {f8 : Addr} {oc8 kV8 dc8 pm8 ct8 cd8 : Value} {od8 an8 : Option Addr} {sl8 : Array (Option Value)}
    {f9 : Addr} {oc9 kV9 dc9 pm9 ct9 cd9 : Value} {od9 an9 : Option Addr} {sl9 : Array (Option Value)}
    {f10 : Addr} {oc10 kV10 dc10 pm10 ct10 cd10 : Value} {od10 an10 : Option Addr} {sl10 : Array (Option Value)}
    {f11 : Addr} {oc11 kV11 dc11 pm11 ct11 cd11 : Value} {od11 an11 : Option Addr} {sl11 : Array (Option Value)}
    {f12 : Addr} {oc12 kV12 dc12 pm12 ct12 cd12 : Value} {od12 an12 : Option Addr} {sl12 : Array (Option Value)}
    {f13 : Addr} {oc13 kV13 dc13 pm13 ct13 cd13 : Value} {od13 an13 : Option Addr} {sl13 : Array (Option Value)}
    {f14 : Addr} {oc14 kV14 dc14 pm14 ct14 cd14 : Value} {od14 an14 : Option Addr} {sl14 : Array (Option Value)}
    {f15 : Addr} {oc15 kV15 dc15 pm15 ct15 cd15 : Value} {od15 an15 : Option Addr} {sl15 : Array (Option Value)}
    {f16 : Addr} {oc16 kV16 dc16 pm16 ct16 cd16 : Value} {od16 an16 : Option Addr} {sl16 : Array (Option Value)}
    {f17 : Addr} {oc17 kV17 dc17 pm17 ct17 cd17 : Value} {od17 an17 : Option Addr} {sl17 : Array (Option Value)}
    {f18 : Addr} {oc18 kV18 dc18 pm18 ct18 cd18 : Value} {od18 an18 : Option Addr} {sl18 : Array (Option Value)}
    {f19 : Addr} {oc19 kV19 dc19 pm19 ct19 cd19 : Value} {od19 an19 : Option Addr} {sl19 : Array (Option Value)}
    {f20 : Addr} {oc20 kV20 dc20 pm20 ct20 cd20 : Value} {od20 an20 : Option Addr} {sl20 : Array (Option Value)}
    {f21 : Addr} {oc21 kV21 dc21 pm21 ct21 cd21 : Value} {od21 an21 : Option Addr} {sl21 : Array (Option Value)}
    {f22 : Addr} {oc22 kV22 dc22 pm22 ct22 cd22 : Value} {od22 an22 : Option Addr} {sl22 : Array (Option Value)}
    {f23 : Addr} {oc23 kV23 dc23 pm23 ct23 cd23 : Value} {od23 an23 : Option Addr} {sl23 : Array (Option Value)}
    {f24 : Addr} {oc24 kV24 dc24 pm24 ct24 cd24 : Value} {od24 an24 : Option Addr} {sl24 : Array (Option Value)}
    {f25 : Addr} {oc25 kV25 dc25 pm25 ct25 cd25 : Value} {od25 an25 : Option Addr} {sl25 : Array (Option Value)}
    {f26 : Addr} {oc26 kV26 dc26 pm26 ct26 cd26 : Value} {od26 an26 : Option Addr} {sl26 : Array (Option Value)}
    {f27 : Addr} {oc27 kV27 dc27 pm27 ct27 cd27 : Value} {od27 an27 : Option Addr} {sl27 : Array (Option Value)}
    {f28 : Addr} {oc28 kV28 dc28 pm28 ct28 cd28 : Value} {od28 an28 : Option Addr} {sl28 : Array (Option Value)}
    {f29 : Addr} {oc29 kV29 dc29 pm29 ct29 cd29 : Value} {od29 an29 : Option Addr} {sl29 : Array (Option Value)}
    {f30 : Addr} {oc30 kV30 dc30 pm30 ct30 cd30 : Value} {od30 an30 : Option Addr} {sl30 : Array (Option Value)}
    {f31 : Addr} {oc31 kV31 dc31 pm31 ct31 cd31 : Value} {od31 an31 : Option Addr} {sl31 : Array (Option Value)}
    {f32 : Addr} {oc32 kV32 dc32 pm32 ct32 cd32 : Value} {od32 an32 : Option Addr} {sl32 : Array (Option Value)}
    {f33 : Addr} {oc33 kV33 dc33 pm33 ct33 cd33 : Value} {od33 an33 : Option Addr} {sl33 : Array (Option Value)}
    {f34 : Addr} {oc34 kV34 dc34 pm34 ct34 cd34 : Value} {od34 an34 : Option Addr} {sl34 : Array (Option Value)}
    {f35 : Addr} {oc35 kV35 dc35 pm35 ct35 cd35 : Value} {od35 an35 : Option Addr} {sl35 : Array (Option Value)}
    {f36 : Addr} {oc36 kV36 dc36 pm36 ct36 cd36 : Value} {od36 an36 : Option Addr} {sl36 : Array (Option Value)}
    {f37 : Addr} {oc37 kV37 dc37 pm37 ct37 cd37 : Value} {od37 an37 : Option Addr} {sl37 : Array (Option Value)}
    {f38 : Addr} {oc38 kV38 dc38 pm38 ct38 cd38 : Value} {od38 an38 : Option Addr} {sl38 : Array (Option Value)}
    {f39 c39 P39 : Addr} {oc39 kV39 dc39 pm39 ct39 : Value} {od39 an39 : Option Addr} {sl39 : Array (Option Value)}
    {f40 : Addr} {oc40 kV40 dc40 pm40 ct40 cd40 : Value} {od40 an40 : Option Addr} {sl40 : Array (Option Value)}
    {CW : Addr}
    {CJ : Addr}
    {fm0 : Addr} {ocm0 kVm0 dcm0 pmm0 ctm0 cdm0 : Value} {odm0 anm0 : Option Addr} {slm0 : Array (Option Value)}
    {fm1 : Addr} {ocm1 kVm1 dcm1 pmm1 ctm1 cdm1 : Value} {odm1 anm1 : Option Addr} {slm1 : Array (Option Value)}
    {fm2 : Addr} {ocm2 kVm2 dcm2 pmm2 ctm2 cdm2 : Value} {odm2 anm2 : Option Addr} {slm2 : Array (Option Value)}
    {fm3 : Addr} {ocm3 kVm3 dcm3 pmm3 ctm3 cdm3 : Value} {odm3 anm3 : Option Addr} {slm3 : Array (Option Value)}
    {fm4 : Addr} {ocm4 kVm4 dcm4 pmm4 ctm4 cdm4 : Value} {odm4 anm4 : Option Addr} {slm4 : Array (Option Value)}
    {fm5 : Addr} {ocm5 kVm5 dcm5 pmm5 ctm5 cdm5 : Value} {odm5 anm5 : Option Addr} {slm5 : Array (Option Value)}
    {fm6 : Addr} {ocm6 kVm6 dcm6 pmm6 ctm6 cdm6 : Value} {odm6 anm6 : Option Addr} {slm6 : Array (Option Value)}
    {fm7 : Addr} {ocm7 kVm7 dcm7 pmm7 ctm7 cdm7 : Value} {odm7 anm7 : Option Addr} {slm7 : Array (Option Value)}
    {fm8 : Addr} {ocm8 kVm8 dcm8 pmm8 ctm8 cdm8 : Value} {odm8 anm8 : Option Addr} {slm8 : Array (Option Value)}
    {fm9 : Addr} {ocm9 kVm9 dcm9 pmm9 ctm9 cdm9 : Value} {odm9 anm9 : Option Addr} {slm9 : Array (Option Value)}
    {mt0 : Tok}
    {mt1 : Tok}
    {mt2 : Tok}
    {mt3 : Tok}
    {mt4 : Tok}
    {CO : Addr}
    {EBadViews : Addr}
    {EUnfit : Addr}
    {IEUnfit LEUnfit DEUnfit NEUnfit : Addr} {nmEUnfit qEUnfit : Str} {bsEUnfit subEUnfit : List Value} {snEUnfit : List Str} {abEUnfit : Bool} {colEUnfit : Option Bool} {ddEUnfit : Option Addr} {m0EUnfit m1EUnfit m2EUnfit m3EUnfit m5EUnfit : Option Value}
    {oiEUnfit kiEUnfit diEUnfit piEUnfit tiEUnfit ciEUnfit giEUnfit : Value} {xiEUnfit yiEUnfit ziEUnfit wiEUnfit : Option Addr} {siEUnfit riEUnfit hiEUnfit : Array (Option Value)} {viEUnfit : Array Value} {fiEUnfit : Str} {uiEUnfit : Tok}
    {aE : Addr} {nEn : Nat} {dEn : Option Addr} {sEn : Array (Option Value)} {tEn : Tok}
    {aN : Addr} {nNu : Nat} {dNu : Option Addr} {sNu : Array (Option Value)} {tNu tNv : Tok}
    {aD : Addr} {nDo : Nat} {dDo : Option Addr} {sDo : Array (Option Value)} {tDo tDp : Tok}
    (KX : K.In h) (G : h.Ns mainGlobals mg) (hfa : mg "law" = some (.ref fa)) (n63 : n ≤ 63)
    (a0 : PySem.W.nsIn K mainGlobals "is_whole" = some (some (.ref f0)))
    (l0 : K.lookup f0 = some ⟨oc0, od0, .func (PySem.W.fnOf "is_whole" "is_whole" (defArgs s_is_whole) (defBody s_is_whole) (defScope s_is_whole) .none kV0 dc0 pm0 an0 cd0 ct0), sl0⟩)
    (c0d : PySem.W.codeIn K cd0 "is_whole" = true)
    (k0 : PySem.W.keepIn K (.ref f0) = true)
    (a1 : PySem.W.nsIn K mainGlobals "is_tuple" = some (some (.ref f1)))
    (l1 : K.lookup f1 = some ⟨oc1, od1, .func (PySem.W.fnOf "is_tuple" "is_tuple" (defArgs s_is_tuple) (defBody s_is_tuple) (defScope s_is_tuple) .none kV1 dc1 pm1 an1 cd1 ct1), sl1⟩)
    (c1d : PySem.W.codeIn K cd1 "is_tuple" = true)
    (k1 : PySem.W.keepIn K (.ref f1) = true)
    (a2 : PySem.W.nsIn K mainGlobals "all_unlike" = some (some (.ref f2)))
    (l2 : K.lookup f2 = some ⟨oc2, od2, .func (PySem.W.fnOf "all_unlike" "all_unlike" (defArgs s_all_unlike) (defBody s_all_unlike) (defScope s_all_unlike) .none kV2 dc2 pm2 an2 cd2 ct2), sl2⟩)
    (c2d : PySem.W.codeIn K cd2 "all_unlike" = true)
    (k2 : PySem.W.keepIn K (.ref f2) = true)
    (a3 : PySem.W.nsIn K mainGlobals "need_room_number" = some (some (.ref f3)))
    (l3 : K.lookup f3 = some ⟨oc3, od3, .func (PySem.W.fnOf "need_room_number" "need_room_number" (defArgs s_need_room_number) (defBody s_need_room_number) (defScope s_need_room_number) .none kV3 dc3 pm3 an3 cd3 ct3), sl3⟩)
    (c3d : PySem.W.codeIn K cd3 "need_room_number" = true)
    (k3 : PySem.W.keepIn K (.ref f3) = true)
    (a4 : PySem.W.nsIn K mainGlobals "are_wires" = some (some (.ref f4)))
    (l4 : K.lookup f4 = some ⟨oc4, od4, .func (PySem.W.fnOf "are_wires" "are_wires" (defArgs s_are_wires) (defBody s_are_wires) (defScope s_are_wires) .none kV4 dc4 pm4 an4 cd4 ct4), sl4⟩)
    (c4d : PySem.W.codeIn K cd4 "are_wires" = true)
    (k4 : PySem.W.keepIn K (.ref f4) = true)
    (a5 : PySem.W.nsIn K mainGlobals "good_row" = some (some (.ref f5)))
    (l5 : K.lookup f5 = some ⟨oc5, od5, .func (PySem.W.fnOf "good_row" "good_row" (defArgs s_good_row) (defBody s_good_row) (defScope s_good_row) .none kV5 dc5 pm5 an5 cd5 ct5), sl5⟩)
    (c5d : PySem.W.codeIn K cd5 "good_row" = true)
    (k5 : PySem.W.keepIn K (.ref f5) = true)
    (a6 : PySem.W.nsIn K mainGlobals "good_face" = some (some (.ref f6)))
    (l6 : K.lookup f6 = some ⟨oc6, od6, .func (PySem.W.fnOf "good_face" "good_face" (defArgs s_good_face) (defBody s_good_face) (defScope s_good_face) .none kV6 dc6 pm6 an6 cd6 ct6), sl6⟩)
    (c6d : PySem.W.codeIn K cd6 "good_face" = true)
    (k6 : PySem.W.keepIn K (.ref f6) = true)
    (a7 : PySem.W.nsIn K mainGlobals "are_events" = some (some (.ref f7)))
    (l7 : K.lookup f7 = some ⟨oc7, od7, .func (PySem.W.fnOf "are_events" "are_events" (defArgs s_are_events) (defBody s_are_events) (defScope s_are_events) .none kV7 dc7 pm7 an7 cd7 ct7), sl7⟩)
    (c7d : PySem.W.codeIn K cd7 "are_events" = true)
    (k7 : PySem.W.keepIn K (.ref f7) = true)
    (a8 : PySem.W.nsIn K mainGlobals "are_acts" = some (some (.ref f8)))
    (l8 : K.lookup f8 = some ⟨oc8, od8, .func (PySem.W.fnOf "are_acts" "are_acts" (defArgs s_are_acts) (defBody s_are_acts) (defScope s_are_acts) .none kV8 dc8 pm8 an8 cd8 ct8), sl8⟩)
    (c8d : PySem.W.codeIn K cd8 "are_acts" = true)
    (k8 : PySem.W.keepIn K (.ref f8) = true)
    (a9 : PySem.W.nsIn K mainGlobals "good_view" = some (some (.ref f9)))
    (l9 : K.lookup f9 = some ⟨oc9, od9, .func (PySem.W.fnOf "good_view" "good_view" (defArgs s_good_view) (defBody s_good_view) (defScope s_good_view) .none kV9 dc9 pm9 an9 cd9 ct9), sl9⟩)
    (c9d : PySem.W.codeIn K cd9 "good_view" = true)
    (k9 : PySem.W.keepIn K (.ref f9) = true)
    (a10 : PySem.W.nsIn K mainGlobals "is_view" = some (some (.ref f10)))
    (l10 : K.lookup f10 = some ⟨oc10, od10, .func (PySem.W.fnOf "is_view" "is_view" (defArgs s_is_view) (defBody s_is_view) (defScope s_is_view) .none kV10 dc10 pm10 an10 cd10 ct10), sl10⟩)
    (c10d : PySem.W.codeIn K cd10 "is_view" = true)
    (k10 : PySem.W.keepIn K (.ref f10) = true)
    (a11 : PySem.W.nsIn K mainGlobals "need_row" = some (some (.ref f11)))
    (l11 : K.lookup f11 = some ⟨oc11, od11, .func (PySem.W.fnOf "need_row" "need_row" (defArgs s_need_row) (defBody s_need_row) (defScope s_need_row) .none kV11 dc11 pm11 an11 cd11 ct11), sl11⟩)
    (c11d : PySem.W.codeIn K cd11 "need_row" = true)
    (k11 : PySem.W.keepIn K (.ref f11) = true)
    (a12 : PySem.W.nsIn K mainGlobals "need_face" = some (some (.ref f12)))
    (l12 : K.lookup f12 = some ⟨oc12, od12, .func (PySem.W.fnOf "need_face" "need_face" (defArgs s_need_face) (defBody s_need_face) (defScope s_need_face) .none kV12 dc12 pm12 an12 cd12 ct12), sl12⟩)
    (c12d : PySem.W.codeIn K cd12 "need_face" = true)
    (k12 : PySem.W.keepIn K (.ref f12) = true)
    (a13 : PySem.W.nsIn K mainGlobals "views_in" = some (some (.ref f13)))
    (l13 : K.lookup f13 = some ⟨oc13, od13, .func (PySem.W.fnOf "views_in" "views_in" (defArgs s_views_in) (defBody s_views_in) (defScope s_views_in) .none kV13 dc13 pm13 an13 cd13 ct13), sl13⟩)
    (c13d : PySem.W.codeIn K cd13 "views_in" = true)
    (k13 : PySem.W.keepIn K (.ref f13) = true)
    (a14 : PySem.W.nsIn K mainGlobals "view_of" = some (some (.ref f14)))
    (l14 : K.lookup f14 = some ⟨oc14, od14, .func (PySem.W.fnOf "view_of" "view_of" (defArgs s_view_of) (defBody s_view_of) (defScope s_view_of) .none kV14 dc14 pm14 an14 cd14 ct14), sl14⟩)
    (c14d : PySem.W.codeIn K cd14 "view_of" = true)
    (k14 : PySem.W.keepIn K (.ref f14) = true)
    (a15 : PySem.W.nsIn K mainGlobals "joined" = some (some (.ref f15)))
    (l15 : K.lookup f15 = some ⟨oc15, od15, .func (PySem.W.fnOf "joined" "joined" (defArgs s_joined) (defBody s_joined) (defScope s_joined) .none kV15 dc15 pm15 an15 cd15 ct15), sl15⟩)
    (c15d : PySem.W.codeIn K cd15 "joined" = true)
    (k15 : PySem.W.keepIn K (.ref f15) = true)
    (a16 : PySem.W.nsIn K mainGlobals "_law_begun" = some (some (.ref f16)))
    (l16 : K.lookup f16 = some ⟨oc16, od16, .func (PySem.W.fnOf "_law_begun" "_law_begun" (defArgs s__law_begun) (defBody s__law_begun) (defScope s__law_begun) .none kV16 dc16 pm16 an16 cd16 ct16), sl16⟩)
    (c16d : PySem.W.codeIn K cd16 "_law_begun" = true)
    (k16 : PySem.W.keepIn K (.ref f16) = true)
    (a17 : PySem.W.nsIn K mainGlobals "_law_mixed" = some (some (.ref f17)))
    (l17 : K.lookup f17 = some ⟨oc17, od17, .func (PySem.W.fnOf "_law_mixed" "_law_mixed" (defArgs s__law_mixed) (defBody s__law_mixed) (defScope s__law_mixed) .none kV17 dc17 pm17 an17 cd17 ct17), sl17⟩)
    (c17d : PySem.W.codeIn K cd17 "_law_mixed" = true)
    (k17 : PySem.W.keepIn K (.ref f17) = true)
    (a18 : PySem.W.nsIn K mainGlobals "_law_draw" = some (some (.ref f18)))
    (l18 : K.lookup f18 = some ⟨oc18, od18, .func (PySem.W.fnOf "_law_draw" "_law_draw" (defArgs s__law_draw) (defBody s__law_draw) (defScope s__law_draw) .none kV18 dc18 pm18 an18 cd18 ct18), sl18⟩)
    (c18d : PySem.W.codeIn K cd18 "_law_draw" = true)
    (k18 : PySem.W.keepIn K (.ref f18) = true)
    (a19 : PySem.W.nsIn K mainGlobals "_law_pick" = some (some (.ref f19)))
    (l19 : K.lookup f19 = some ⟨oc19, od19, .func (PySem.W.fnOf "_law_pick" "_law_pick" (defArgs s__law_pick) (defBody s__law_pick) (defScope s__law_pick) .none kV19 dc19 pm19 an19 cd19 ct19), sl19⟩)
    (c19d : PySem.W.codeIn K cd19 "_law_pick" = true)
    (k19 : PySem.W.keepIn K (.ref f19) = true)
    (a20 : PySem.W.nsIn K mainGlobals "_law_shuffled" = some (some (.ref f20)))
    (l20 : K.lookup f20 = some ⟨oc20, od20, .func (PySem.W.fnOf "_law_shuffled" "_law_shuffled" (defArgs s__law_shuffled) (defBody s__law_shuffled) (defScope s__law_shuffled) .none kV20 dc20 pm20 an20 cd20 ct20), sl20⟩)
    (c20d : PySem.W.codeIn K cd20 "_law_shuffled" = true)
    (k20 : PySem.W.keepIn K (.ref f20) = true)
    (a21 : PySem.W.nsIn K mainGlobals "_law_small" = some (some (.ref f21)))
    (l21 : K.lookup f21 = some ⟨oc21, od21, .func (PySem.W.fnOf "_law_small" "_law_small" (defArgs s__law_small) (defBody s__law_small) (defScope s__law_small) .none kV21 dc21 pm21 an21 cd21 ct21), sl21⟩)
    (c21d : PySem.W.codeIn K cd21 "_law_small" = true)
    (k21 : PySem.W.keepIn K (.ref f21) = true)
    (a22 : PySem.W.nsIn K mainGlobals "_law_caught" = some (some (.ref f22)))
    (l22 : K.lookup f22 = some ⟨oc22, od22, .func (PySem.W.fnOf "_law_caught" "_law_caught" (defArgs s__law_caught) (defBody s__law_caught) (defScope s__law_caught) .none kV22 dc22 pm22 an22 cd22 ct22), sl22⟩)
    (c22d : PySem.W.codeIn K cd22 "_law_caught" = true)
    (k22 : PySem.W.keepIn K (.ref f22) = true)
    (a23 : PySem.W.nsIn K mainGlobals "_law_drawn_face" = some (some (.ref f23)))
    (l23 : K.lookup f23 = some ⟨oc23, od23, .func (PySem.W.fnOf "_law_drawn_face" "_law_drawn_face" (defArgs s__law_drawn_face) (defBody s__law_drawn_face) (defScope s__law_drawn_face) .none kV23 dc23 pm23 an23 cd23 ct23), sl23⟩)
    (c23d : PySem.W.codeIn K cd23 "_law_drawn_face" = true)
    (k23 : PySem.W.keepIn K (.ref f23) = true)
    (a24 : PySem.W.nsIn K mainGlobals "_law_open_face" = some (some (.ref f24)))
    (l24 : K.lookup f24 = some ⟨oc24, od24, .func (PySem.W.fnOf "_law_open_face" "_law_open_face" (defArgs s__law_open_face) (defBody s__law_open_face) (defScope s__law_open_face) .none kV24 dc24 pm24 an24 cd24 ct24), sl24⟩)
    (c24d : PySem.W.codeIn K cd24 "_law_open_face" = true)
    (k24 : PySem.W.keepIn K (.ref f24) = true)
    (a25 : PySem.W.nsIn K mainGlobals "_law_next" = some (some (.ref f25)))
    (l25 : K.lookup f25 = some ⟨oc25, od25, .func (PySem.W.fnOf "_law_next" "_law_next" (defArgs s__law_next) (defBody s__law_next) (defScope s__law_next) .none kV25 dc25 pm25 an25 cd25 ct25), sl25⟩)
    (c25d : PySem.W.codeIn K cd25 "_law_next" = true)
    (k25 : PySem.W.keepIn K (.ref f25) = true)
    (a26 : PySem.W.nsIn K mainGlobals "_law_behind" = some (some (.ref f26)))
    (l26 : K.lookup f26 = some ⟨oc26, od26, .func (PySem.W.fnOf "_law_behind" "_law_behind" (defArgs s__law_behind) (defBody s__law_behind) (defScope s__law_behind) .none kV26 dc26 pm26 an26 cd26 ct26), sl26⟩)
    (c26d : PySem.W.codeIn K cd26 "_law_behind" = true)
    (k26 : PySem.W.keepIn K (.ref f26) = true)
    (a27 : PySem.W.nsIn K mainGlobals "_law_few" = some (some (.ref f27)))
    (l27 : K.lookup f27 = some ⟨oc27, od27, .func (PySem.W.fnOf "_law_few" "_law_few" (defArgs s__law_few) (defBody s__law_few) (defScope s__law_few) .none kV27 dc27 pm27 an27 cd27 ct27), sl27⟩)
    (c27d : PySem.W.codeIn K cd27 "_law_few" = true)
    (k27 : PySem.W.keepIn K (.ref f27) = true)
    (a28 : PySem.W.nsIn K mainGlobals "_law_drawn_row" = some (some (.ref f28)))
    (l28 : K.lookup f28 = some ⟨oc28, od28, .func (PySem.W.fnOf "_law_drawn_row" "_law_drawn_row" (defArgs s__law_drawn_row) (defBody s__law_drawn_row) (defScope s__law_drawn_row) .none kV28 dc28 pm28 an28 cd28 ct28), sl28⟩)
    (c28d : PySem.W.codeIn K cd28 "_law_drawn_row" = true)
    (k28 : PySem.W.keepIn K (.ref f28) = true)
    (a29 : PySem.W.nsIn K mainGlobals "_law_view" = some (some (.ref f29)))
    (l29 : K.lookup f29 = some ⟨oc29, od29, .func (PySem.W.fnOf "_law_view" "_law_view" (defArgs s__law_view) (defBody s__law_view) (defScope s__law_view) .none kV29 dc29 pm29 an29 cd29 ct29), sl29⟩)
    (c29d : PySem.W.codeIn K cd29 "_law_view" = true)
    (k29 : PySem.W.keepIn K (.ref f29) = true)
    (a30 : PySem.W.nsIn K mainGlobals "_law_views" = some (some (.ref f30)))
    (l30 : K.lookup f30 = some ⟨oc30, od30, .func (PySem.W.fnOf "_law_views" "_law_views" (defArgs s__law_views) (defBody s__law_views) (defScope s__law_views) .none kV30 dc30 pm30 an30 cd30 ct30), sl30⟩)
    (c30d : PySem.W.codeIn K cd30 "_law_views" = true)
    (k30 : PySem.W.keepIn K (.ref f30) = true)
    (a31 : PySem.W.nsIn K mainGlobals "_law_is_below" = some (some (.ref f31)))
    (l31 : K.lookup f31 = some ⟨oc31, od31, .func (PySem.W.fnOf "_law_is_below" "_law_is_below" (defArgs s__law_is_below) (defBody s__law_is_below) (defScope s__law_is_below) .none kV31 dc31 pm31 an31 cd31 ct31), sl31⟩)
    (c31d : PySem.W.codeIn K cd31 "_law_is_below" = true)
    (k31 : PySem.W.keepIn K (.ref f31) = true)
    (a32 : PySem.W.nsIn K mainGlobals "_law_is_item" = some (some (.ref f32)))
    (l32 : K.lookup f32 = some ⟨oc32, od32, .func (PySem.W.fnOf "_law_is_item" "_law_is_item" (defArgs s__law_is_item) (defBody s__law_is_item) (defScope s__law_is_item) .none kV32 dc32 pm32 an32 cd32 ct32), sl32⟩)
    (c32d : PySem.W.codeIn K cd32 "_law_is_item" = true)
    (k32 : PySem.W.keepIn K (.ref f32) = true)
    (a33 : PySem.W.nsIn K mainGlobals "_law_view_judged" = some (some (.ref f33)))
    (l33 : K.lookup f33 = some ⟨oc33, od33, .func (PySem.W.fnOf "_law_view_judged" "_law_view_judged" (defArgs s__law_view_judged) (defBody s__law_view_judged) (defScope s__law_view_judged) .none kV33 dc33 pm33 an33 cd33 ct33), sl33⟩)
    (c33d : PySem.W.codeIn K cd33 "_law_view_judged" = true)
    (k33 : PySem.W.keepIn K (.ref f33) = true)
    (a34 : PySem.W.nsIn K mainGlobals "_law_take_item" = some (some (.ref f34)))
    (l34 : K.lookup f34 = some ⟨oc34, od34, .func (PySem.W.fnOf "_law_take_item" "_law_take_item" (defArgs s__law_take_item) (defBody s__law_take_item) (defScope s__law_take_item) .none kV34 dc34 pm34 an34 cd34 ct34), sl34⟩)
    (c34d : PySem.W.codeIn K cd34 "_law_take_item" = true)
    (k34 : PySem.W.keepIn K (.ref f34) = true)
    (a35 : PySem.W.nsIn K mainGlobals "_law_fault" = some (some (.ref f35)))
    (l35 : K.lookup f35 = some ⟨oc35, od35, .func (PySem.W.fnOf "_law_fault" "_law_fault" (defArgs s__law_fault) (defBody s__law_fault) (defScope s__law_fault) .none kV35 dc35 pm35 an35 cd35 ct35), sl35⟩)
    (c35d : PySem.W.codeIn K cd35 "_law_fault" = true)
    (k35 : PySem.W.keepIn K (.ref f35) = true)
    (a36 : PySem.W.nsIn K mainGlobals "_law_spoilt_item" = some (some (.ref f36)))
    (l36 : K.lookup f36 = some ⟨oc36, od36, .func (PySem.W.fnOf "_law_spoilt_item" "_law_spoilt_item" (defArgs s__law_spoilt_item) (defBody s__law_spoilt_item) (defScope s__law_spoilt_item) .none kV36 dc36 pm36 an36 cd36 ct36), sl36⟩)
    (c36d : PySem.W.codeIn K cd36 "_law_spoilt_item" = true)
    (k36 : PySem.W.keepIn K (.ref f36) = true)
    (a37 : PySem.W.nsIn K mainGlobals "_law_spoilt_views" = some (some (.ref f37)))
    (l37 : K.lookup f37 = some ⟨oc37, od37, .func (PySem.W.fnOf "_law_spoilt_views" "_law_spoilt_views" (defArgs s__law_spoilt_views) (defBody s__law_spoilt_views) (defScope s__law_spoilt_views) .none kV37 dc37 pm37 an37 cd37 ct37), sl37⟩)
    (c37d : PySem.W.codeIn K cd37 "_law_spoilt_views" = true)
    (k37 : PySem.W.keepIn K (.ref f37) = true)
    (a38 : PySem.W.nsIn K mainGlobals "_law_other_face" = some (some (.ref f38)))
    (l38 : K.lookup f38 = some ⟨oc38, od38, .func (PySem.W.fnOf "_law_other_face" "_law_other_face" (defArgs s__law_other_face) (defBody s__law_other_face) (defScope s__law_other_face) .none kV38 dc38 pm38 an38 cd38 ct38), sl38⟩)
    (c38d : PySem.W.codeIn K cd38 "_law_other_face" = true)
    (k38 : PySem.W.keepIn K (.ref f38) = true)
    (a39 : PySem.W.nsIn K mainGlobals "_law_answer_holds" = some (some (.ref f39)))
    (l39 : K.lookup f39 = some ⟨oc39, od39, .func (PySem.W.fnOf "_law_answer_holds" "_law_answer_holds" (defArgs s__law_answer_holds) (defBody s__law_answer_holds) (defScope s__law_answer_holds) .none kV39 dc39 pm39 an39 (.ref c39) ct39), sl39⟩)
    (c39d : PySem.W.codeIn K (.ref c39) "_law_answer_holds" = true)
    (k39 : PySem.W.keepIn K (.ref f39) = true)
    (a40 : PySem.W.nsIn K mainGlobals "law" = some (some (.ref f40)))
    (l40 : K.lookup f40 = some ⟨oc40, od40, .func (PySem.W.fnOf "law" "law" (defArgs s_law) (defBody s_law) (defScope s_law) .none kV40 dc40 pm40 an40 cd40 ct40), sl40⟩)
    (c40d : PySem.W.codeIn K cd40 "law" = true)
    (k40 : PySem.W.keepIn K (.ref f40) = true)
    (gCW : PySem.W.nsIn K mainGlobals "RowWalk" = some (some (.ref CW)))
    (pgCW : PySem.W.plainGet K CW Str.empty = true)
    (hdCW : PySem.W.hasDictIn K CW = true)
    (poCW : PySem.W.plainOver K CW = true)
    (saCW : PySem.W.findIn K (.ref CW) "__setattr__" = some (some (.builtin "object.__setattr__")))
    (mkCW : PySem.W.makesIn K CW = true)
    (kcCW : PySem.W.keepIn K (.ref CW) = true)
    (nCW_inside : PySem.W.findIn K (.ref CW) "inside" = some none)
    (nCW_asks : PySem.W.findIn K (.ref CW) "asks" = some none)
    (nCW_over : PySem.W.findIn K (.ref CW) "over" = some none)
    (gCJ : PySem.W.nsIn K mainGlobals "Joining" = some (some (.ref CJ)))
    (pgCJ : PySem.W.plainGet K CJ Str.empty = true)
    (hdCJ : PySem.W.hasDictIn K CJ = true)
    (poCJ : PySem.W.plainOver K CJ = true)
    (saCJ : PySem.W.findIn K (.ref CJ) "__setattr__" = some (some (.builtin "object.__setattr__")))
    (mkCJ : PySem.W.makesIn K CJ = true)
    (kcCJ : PySem.W.keepIn K (.ref CJ) = true)
    (nCJ_depth : PySem.W.findIn K (.ref CJ) "depth" = some none)
    (nCJ_wires : PySem.W.findIn K (.ref CJ) "wires" = some none)
    (nCJ_views : PySem.W.findIn K (.ref CJ) "views" = some none)
    (nCJ_counts : PySem.W.findIn K (.ref CJ) "counts" = some none)
    (nCJ_asks : PySem.W.findIn K (.ref CJ) "asks" = some none)
    (nCJ_joint : PySem.W.findIn K (.ref CJ) "joint" = some none)
    (im0 : PySem.W.findIn K (.ref CW) "__init__" = some (some (.ref fm0)))
    (ym0 : PySem.W.isFn K (.ref fm0) = true)
    (lm0 : K.lookup fm0 = some ⟨ocm0, odm0, .func (PySem.W.fnOf "__init__" "RowWalk.__init__" (defArgs s_RowWalk___init__) (defBody s_RowWalk___init__) (defScope s_RowWalk___init__) .none kVm0 dcm0 pmm0 anm0 cdm0 ctm0), slm0⟩)
    (cm0d : PySem.W.codeIn K cdm0 "RowWalk.__init__" = true)
    (km0 : PySem.W.keepIn K (.ref fm0) = true)
    (im1 : PySem.W.findIn K (.ref CW) "fields" = some (some (.ref fm1)))
    (ym1 : PySem.W.isFn K (.ref fm1) = true)
    (lm1 : K.lookup fm1 = some ⟨ocm1, odm1, .func (PySem.W.fnOf "fields" "RowWalk.fields" (defArgs s_RowWalk_fields) (defBody s_RowWalk_fields) (defScope s_RowWalk_fields) .none kVm1 dcm1 pmm1 anm1 cdm1 ctm1), slm1⟩)
    (cm1d : PySem.W.codeIn K cdm1 "RowWalk.fields" = true)
    (km1 : PySem.W.keepIn K (.ref fm1) = true)
    (im2 : PySem.W.findIn K (.ref CW) "can_follow" = some (some (.ref fm2)))
    (ym2 : PySem.W.isFn K (.ref fm2) = true)
    (lm2 : K.lookup fm2 = some ⟨ocm2, odm2, .func (PySem.W.fnOf "can_follow" "RowWalk.can_follow" (defArgs s_RowWalk_can_follow) (defBody s_RowWalk_can_follow) (defScope s_RowWalk_can_follow) .none kVm2 dcm2 pmm2 anm2 cdm2 ctm2), slm2⟩)
    (cm2d : PySem.W.codeIn K cdm2 "RowWalk.can_follow" = true)
    (km2 : PySem.W.keepIn K (.ref fm2) = true)
    (im3 : PySem.W.findIn K (.ref CW) "take" = some (some (.ref fm3)))
    (ym3 : PySem.W.isFn K (.ref fm3) = true)
    (lm3 : K.lookup fm3 = some ⟨ocm3, odm3, .func (PySem.W.fnOf "take" "RowWalk.take" (defArgs s_RowWalk_take) (defBody s_RowWalk_take) (defScope s_RowWalk_take) .none kVm3 dcm3 pmm3 anm3 cdm3 ctm3), slm3⟩)
    (cm3d : PySem.W.codeIn K cdm3 "RowWalk.take" = true)
    (km3 : PySem.W.keepIn K (.ref fm3) = true)
    (im4 : PySem.W.findIn K (.ref CJ) "__init__" = some (some (.ref fm4)))
    (ym4 : PySem.W.isFn K (.ref fm4) = true)
    (lm4 : K.lookup fm4 = some ⟨ocm4, odm4, .func (PySem.W.fnOf "__init__" "Joining.__init__" (defArgs s_Joining___init__) (defBody s_Joining___init__) (defScope s_Joining___init__) .none kVm4 dcm4 pmm4 anm4 cdm4 ctm4), slm4⟩)
    (cm4d : PySem.W.codeIn K cdm4 "Joining.__init__" = true)
    (km4 : PySem.W.keepIn K (.ref fm4) = true)
    (im5 : PySem.W.findIn K (.ref CJ) "next_item" = some (some (.ref fm5)))
    (ym5 : PySem.W.isFn K (.ref fm5) = true)
    (lm5 : K.lookup fm5 = some ⟨ocm5, odm5, .func (PySem.W.fnOf "next_item" "Joining.next_item" (defArgs s_Joining_next_item) (defBody s_Joining_next_item) (defScope s_Joining_next_item) .none kVm5 dcm5 pmm5 anm5 cdm5 ctm5), slm5⟩)
    (cm5d : PySem.W.codeIn K cdm5 "Joining.next_item" = true)
    (km5 : PySem.W.keepIn K (.ref fm5) = true)
    (im6 : PySem.W.findIn K (.ref CJ) "need_item" = some (some (.ref fm6)))
    (ym6 : PySem.W.isFn K (.ref fm6) = true)
    (lm6 : K.lookup fm6 = some ⟨ocm6, odm6, .func (PySem.W.fnOf "need_item" "Joining.need_item" (defArgs s_Joining_need_item) (defBody s_Joining_need_item) (defScope s_Joining_need_item) .none kVm6 dcm6 pmm6 anm6 cdm6 ctm6), slm6⟩)
    (cm6d : PySem.W.codeIn K cdm6 "Joining.need_item" = true)
    (km6 : PySem.W.keepIn K (.ref fm6) = true)
    (im7 : PySem.W.findIn K (.ref CJ) "join_call" = some (some (.ref fm7)))
    (ym7 : PySem.W.isFn K (.ref fm7) = true)
    (lm7 : K.lookup fm7 = some ⟨ocm7, odm7, .func (PySem.W.fnOf "join_call" "Joining.join_call" (defArgs s_Joining_join_call) (defBody s_Joining_join_call) (defScope s_Joining_join_call) .none kVm7 dcm7 pmm7 anm7 cdm7 ctm7), slm7⟩)
    (cm7d : PySem.W.codeIn K cdm7 "Joining.join_call" = true)
    (km7 : PySem.W.keepIn K (.ref fm7) = true)
    (im8 : PySem.W.findIn K (.ref CJ) "join_act" = some (some (.ref fm8)))
    (ym8 : PySem.W.isFn K (.ref fm8) = true)
    (lm8 : K.lookup fm8 = some ⟨ocm8, odm8, .func (PySem.W.fnOf "join_act" "Joining.join_act" (defArgs s_Joining_join_act) (defBody s_Joining_join_act) (defScope s_Joining_join_act) .none kVm8 dcm8 pmm8 anm8 cdm8 ctm8), slm8⟩)
    (cm8d : PySem.W.codeIn K cdm8 "Joining.join_act" = true)
    (km8 : PySem.W.keepIn K (.ref fm8) = true)
    (im9 : PySem.W.findIn K (.ref CJ) "join" = some (some (.ref fm9)))
    (ym9 : PySem.W.isFn K (.ref fm9) = true)
    (lm9 : K.lookup fm9 = some ⟨ocm9, odm9, .func (PySem.W.fnOf "join" "Joining.join" (defArgs s_Joining_join) (defBody s_Joining_join) (defScope s_Joining_join) .none kVm9 dcm9 pmm9 anm9 cdm9 ctm9), slm9⟩)
    (cm9d : PySem.W.codeIn K cdm9 "Joining.join" = true)
    (km9 : PySem.W.keepIn K (.ref fm9) = true)
    (z_isinstance : PySem.W.nsIn K mainGlobals "isinstance" = some none)
    (z_int : PySem.W.nsIn K mainGlobals "int" = some none)
    (z_bool : PySem.W.nsIn K mainGlobals "bool" = some none)
    (z_tuple : PySem.W.nsIn K mainGlobals "tuple" = some none)
    (z_str : PySem.W.nsIn K mainGlobals "str" = some none)
    (z_len : PySem.W.nsIn K mainGlobals "len" = some none)
    (z_all : PySem.W.nsIn K mainGlobals "all" = some none)
    (z_list : PySem.W.nsIn K mainGlobals "list" = some none)
    (z_abs : PySem.W.nsIn K mainGlobals "abs" = some none)
    (z_range : PySem.W.nsIn K mainGlobals "range" = some none)
    (z_zip : PySem.W.nsIn K mainGlobals "zip" = some none)
    (z_sorted : PySem.W.nsIn K mainGlobals "sorted" = some none)
    (z_repr : PySem.W.nsIn K mainGlobals "repr" = some none)
    (z_enumerate : PySem.W.nsIn K mainGlobals "enumerate" = some none)
    (z_set : PySem.W.nsIn K mainGlobals "set" = some none)
    (cst0 : PySem.W.nsIn K mainGlobals "MODULUS" = some (some (.int 10000 mt0)))
    (cst1 : PySem.W.nsIn K mainGlobals "MOST_DOORS" = some (some (.int 6 mt1)))
    (cst2 : PySem.W.nsIn K mainGlobals "MOST_OPEN" = some (some (.int 60 mt2)))
    (cst3 : PySem.W.nsIn K mainGlobals "MOST_IMPORTS" = some (some (.int 8 mt3)))
    (cst4 : PySem.W.nsIn K mainGlobals "MOST_ROOMS" = some (some (.int 6 mt4)))
    (gCO : PySem.W.nsIn K mainGlobals "OwnharmError" = some (some (.ref CO)))
    (v1 : PySem.W.specialIn K (.builtin "object.__class__") "__get__" = some (some (.builtin "getset_descriptor.__get__")))
    (v2 : PySem.W.takesIn K (.builtin "object.__class__") = some true)
    (gEBadViews : PySem.W.nsIn K mainGlobals "BadViews" = some (some (.ref EBadViews)))
    (xEBadViews : PySem.W.excIn K EBadViews [.type "ValueError", .type "Exception", .type "BaseException", .type "object"] "ValueError.__new__" = true)
    (kEBadViews : PySem.W.keepIn K (.ref EBadViews) = true)
    (gEUnfit : PySem.W.nsIn K mainGlobals "Unfit" = some (some (.ref EUnfit)))
    (bEBadViews : PySem.W.subIn K (.ref EBadViews) (.type "BaseException") = some true)
    (tEBadViews : PySem.W.typeIn K (.ref EBadViews) = some (.type "type"))
    (u1EBadViews : PySem.W.findIn K (.ref EBadViews) "__getattribute__" = some (some (.builtin "BaseException.__getattribute__")))
    (u2EBadViews : PySem.W.findIn K (.ref EBadViews) "__getattr__" = some none)
    (u3EBadViews : PySem.W.hasDictIn K EBadViews = true)
    (u4EBadViews : PySem.W.findIn K (.ref EBadViews) "__class__" = some (some (.builtin "object.__class__")))
    (u5EBadViews : PySem.W.mroIn K EBadViews (.type "object") = some true)
    (iEBadViews : PySem.W.kitOne K (.ref EBadViews) (.ref EBadViews) = some true)
    (eEBadViews : PySem.W.exmOne K (.ref EBadViews) (.ref CO) = some true)
    (bEUnfit : PySem.W.subIn K (.ref EUnfit) (.type "BaseException") = some true)
    (tEUnfit : PySem.W.typeIn K (.ref EUnfit) = some (.type "type"))
    (u1EUnfit : PySem.W.findIn K (.ref EUnfit) "__getattribute__" = some (some (.builtin "BaseException.__getattribute__")))
    (u2EUnfit : PySem.W.findIn K (.ref EUnfit) "__getattr__" = some none)
    (u3EUnfit : PySem.W.hasDictIn K EUnfit = true)
    (u4EUnfit : PySem.W.findIn K (.ref EUnfit) "__class__" = some (some (.builtin "object.__class__")))
    (u5EUnfit : PySem.W.mroIn K EUnfit (.type "object") = some true)
    (iEUnfit : PySem.W.kitOne K (.ref EUnfit) (.ref EUnfit) = some true)
    (eEUnfit : PySem.W.exmOne K (.ref EUnfit) (.ref CO) = some true)
    (zS : PySem.W.nsIn K mainGlobals "super" = some none)
    (zT : PySem.W.nsIn K PySem.cStatics "thirdparty.any" = some none)
    (zP : (l.prog.main.scope.names.lookup ("super" : Str)).isSome = false)
    (xEUnfit : K.lookup EUnfit = some (excClassObj nmEUnfit qEUnfit EUnfit NEUnfit bsEUnfit [.ref CO, .type "ValueError", .type "Exception", .type "BaseException", .type "object"] true snEUnfit subEUnfit abEUnfit colEUnfit ddEUnfit m0EUnfit m1EUnfit m2EUnfit m3EUnfit m5EUnfit "ValueError.__new__"))
    (kEUnfit : PySem.W.keepIn K (.ref EUnfit) = true)
    (j1EUnfit : PySem.W.findIn K (.ref EUnfit) "__setattr__" = some (some (.builtin "object.__setattr__")))
    (j2EUnfit : PySem.W.ks_superIn K EUnfit EUnfit "__init__" = some (some (.builtin "ValueError.__init__")))
    (j3EUnfit : PySem.W.subIn K (.ref EUnfit) (.type "ValueError") = some true)
    (j4EUnfit : PySem.W.mroIn K EUnfit (.ref EUnfit) = some true)
    (j5EUnfit_room : PySem.W.findIn K (.ref EUnfit) "room" = some none)
    (j5EUnfit_at : PySem.W.findIn K (.ref EUnfit) "at" = some none)
    (j6EUnfit : PySem.W.findIn K (.ref EUnfit) "__init__" = some (some (.ref IEUnfit)))
    (j7EUnfit : PySem.W.typeIn K (.ref IEUnfit) = some (.type "function"))
    (lEUnfit : K.lookup IEUnfit = some ⟨oiEUnfit, xiEUnfit, .func (PySem.W.ksFn "__init__" "Unfit.__init__" (defArgs s_Unfit___init__) (defBody s_Unfit___init__) (defScope s_Unfit___init__) .none kiEUnfit diEUnfit piEUnfit yiEUnfit (.ref DEUnfit) tiEUnfit LEUnfit), siEUnfit⟩)
    (cEUnfit : PySem.W.codeIn K (.ref DEUnfit) "Unfit.__init__" = true)
    (wEUnfit : PySem.W.keepIn K (.ref IEUnfit) = true)
    (nEUnfit : K.lookup LEUnfit = some ⟨ciEUnfit, ziEUnfit, .cell (some (.ref EUnfit)), riEUnfit⟩)
    (dEUnfit : K.lookup DEUnfit = some ⟨giEUnfit, wiEUnfit, .fields viEUnfit, hiEUnfit⟩)
    (sEUnfit : viEUnfit[2]? = some (.str fiEUnfit uiEUnfit))
    (rEUnfit : ((l.prog.main.file : Str) == fiEUnfit) = true)
    (aEND : PySem.W.nsIn K mainGlobals "ENDS" = some (some (.ref aE)))
    (lEND : K.lookup aE = some ⟨.type "tuple", dEn, .seq #[.str "ends" tEn] nEn, sEn⟩)
    (aNUM : PySem.W.nsIn K mainGlobals "NUMBER" = some (some (.ref aN)))
    (lNUM : K.lookup aN = some ⟨.type "tuple", dNu, .seq #[.int 0 tNu, .int 9999 tNv, .none] nNu, sNu⟩)
    (aDOR : PySem.W.nsIn K mainGlobals "DOOR" = some (some (.ref aD)))
    (lDOR : K.lookup aD = some ⟨.type "tuple", dDo, .seq #[.int 0 tDo, .int 5 tDp, .none] nDo, sDo⟩)
    (tH39 : PySem.W.codeHdIn K c39 P39 = true)
    (tN39 : K.lookup P39 = none)
    (tO39 : h.get? P39 = some { cls := .none, data := .fields #[] }) :
    LawAtG l w K 13 n "script" mg fa h := by
  have e := hfa.symm.trans (PySem.W.mg_of KX G a40)
  cases e
  have T : Txt K mg := ⟨PySem.W.mg_none_of KX G z_isinstance, PySem.W.mg_none_of KX G z_int, PySem.W.mg_none_of KX G z_bool, PySem.W.mg_none_of KX G z_tuple, PySem.W.mg_none_of KX G z_str, PySem.W.mg_none_of KX G z_len, PySem.W.mg_none_of KX G z_all, PySem.W.mg_none_of KX G z_list, PySem.W.mg_none_of KX G z_abs, PySem.W.mg_none_of KX G z_range, PySem.W.mg_none_of KX G z_zip, PySem.W.mg_none_of KX G z_sorted, PySem.W.mg_none_of KX G z_repr, mt0, PySem.W.mg_of KX G cst0⟩
  have T3 : Txt3 mg := ⟨⟨_, PySem.W.mg_of KX G cst2⟩, ⟨_, PySem.W.mg_of KX G cst4⟩, ⟨_, PySem.W.mg_of KX G cst3⟩, PySem.W.mg_none_of KX G z_set⟩
  have TC : TxC K mg aN aD := ⟨PySem.W.mg_of KX G aNUM, t3n lNUM, PySem.W.mg_of KX G aDOR, t3n lDOR, ⟨_, PySem.W.mg_of KX G cst2⟩, ⟨_, PySem.W.mg_of KX G cst4⟩, PySem.W.mg_none_of KX G z_len⟩
  have F0 := fun_mk (st := s_is_whole) l0 c0d k0
  have b0 := F0.binds (ps := ["value", "low", "high"]) fun _ _ _ _ _ _ us hl => match us, hl with | [_, _, _], _ => rfl
  have g0 : mg "is_whole" = some (.ref f0) := PySem.W.mg_of KX G a0
  have F1 := fun_mk (st := s_is_tuple) l1 c1d k1
  have b1 := F1.binds (ps := ["value", "least", "most"]) fun _ _ _ _ _ _ us hl => match us, hl with | [_, _, _], _ => rfl
  have g1 : mg "is_tuple" = some (.ref f1) := PySem.W.mg_of KX G a1
  have F2 := fun_mk (st := s_all_unlike) l2 c2d k2
  have b2 := F2.binds (ps := ["things"]) fun _ _ _ _ _ _ us hl => match us, hl with | [_], _ => rfl
  have g2 : mg "all_unlike" = some (.ref f2) := PySem.W.mg_of KX G a2
  have F3 := fun_mk (st := s_need_room_number) l3 c3d k3
  have b3 := F3.binds (ps := ["room", "many"]) fun _ _ _ _ _ _ us hl => match us, hl with | [_, _], _ => rfl
  have g3 : mg "need_room_number" = some (.ref f3) := PySem.W.mg_of KX G a3
  have F4 := fun_mk (st := s_are_wires) l4 c4d k4
  have b4 := F4.binds (ps := ["value", "own", "doors"]) fun _ _ _ _ _ _ us hl => match us, hl with | [_, _, _], _ => rfl
  have g4 : mg "are_wires" = some (.ref f4) := PySem.W.mg_of KX G a4
  have F5 := fun_mk (st := s_good_row) l5 c5d k5
  have b5 := F5.binds (ps := ["value"]) fun _ _ _ _ _ _ us hl => match us, hl with | [_], _ => rfl
  have g5 : mg "good_row" = some (.ref f5) := PySem.W.mg_of KX G a5
  have F6 := fun_mk (st := s_good_face) l6 c6d k6
  have b6 := F6.binds (ps := ["value"]) fun _ _ _ _ _ _ us hl => match us, hl with | [_], _ => rfl
  have g6 : mg "good_face" = some (.ref f6) := PySem.W.mg_of KX G a6
  have F7 := fun_mk (st := s_are_events) l7 c7d k7
  have b7 := F7.binds (ps := ["values"]) fun _ _ _ _ _ _ us hl => match us, hl with | [_], _ => rfl
  have g7 : mg "are_events" = some (.ref f7) := PySem.W.mg_of KX G a7
  have F8 := fun_mk (st := s_are_acts) l8 c8d k8
  have b8 := F8.binds (ps := ["values"]) fun _ _ _ _ _ _ us hl => match us, hl with | [_], _ => rfl
  have g8 : mg "are_acts" = some (.ref f8) := PySem.W.mg_of KX G a8
  have F9 := fun_mk (st := s_good_view) l9 c9d k9
  have b9 := F9.binds (ps := ["value"]) fun _ _ _ _ _ _ us hl => match us, hl with | [_], _ => rfl
  have g9 : mg "good_view" = some (.ref f9) := PySem.W.mg_of KX G a9
  have F10 := fun_mk (st := s_is_view) l10 c10d k10
  have b10 := F10.binds (ps := ["value"]) fun _ _ _ _ _ _ us hl => match us, hl with | [_], _ => rfl
  have g10 : mg "is_view" = some (.ref f10) := PySem.W.mg_of KX G a10
  have F11 := fun_mk (st := s_need_row) l11 c11d k11
  have b11 := F11.binds (ps := ["row"]) fun _ _ _ _ _ _ us hl => match us, hl with | [_], _ => rfl
  have g11 : mg "need_row" = some (.ref f11) := PySem.W.mg_of KX G a11
  have F12 := fun_mk (st := s_need_face) l12 c12d k12
  have b12 := F12.binds (ps := ["face"]) fun _ _ _ _ _ _ us hl => match us, hl with | [_], _ => rfl
  have g12 : mg "need_face" = some (.ref f12) := PySem.W.mg_of KX G a12
  have F13 := fun_mk (st := s_views_in) l13 c13d k13
  have b13 := F13.binds (ps := ["row"]) fun _ _ _ _ _ _ us hl => match us, hl with | [_], _ => rfl
  have g13 : mg "views_in" = some (.ref f13) := PySem.W.mg_of KX G a13
  have F14 := fun_mk (st := s_view_of) l14 c14d k14
  have b14 := F14.binds (ps := ["row", "room"]) fun _ _ _ _ _ _ us hl => match us, hl with | [_, _], _ => rfl
  have g14 : mg "view_of" = some (.ref f14) := PySem.W.mg_of KX G a14
  have F15 := fun_mk (st := s_joined) l15 c15d k15
  have b15 := F15.binds (ps := ["face", "views"]) fun _ _ _ _ _ _ us hl => match us, hl with | [_, _], _ => rfl
  have g15 : mg "joined" = some (.ref f15) := PySem.W.mg_of KX G a15
  have F16 := fun_mk (st := s__law_begun) l16 c16d k16
  have b16 := F16.binds (ps := ["script"]) fun _ _ _ _ _ _ us hl => match us, hl with | [_], _ => rfl
  have g16 : mg "_law_begun" = some (.ref f16) := PySem.W.mg_of KX G a16
  have F17 := fun_mk (st := s__law_mixed) l17 c17d k17
  have b17 := F17.binds (ps := ["state"]) fun _ _ _ _ _ _ us hl => match us, hl with | [_], _ => rfl
  have g17 : mg "_law_mixed" = some (.ref f17) := PySem.W.mg_of KX G a17
  have F18 := fun_mk (st := s__law_draw) l18 c18d k18
  have b18 := F18.binds (ps := ["state", "room"]) fun _ _ _ _ _ _ us hl => match us, hl with | [_, _], _ => rfl
  have g18 : mg "_law_draw" = some (.ref f18) := PySem.W.mg_of KX G a18
  have F19 := fun_mk (st := s__law_pick) l19 c19d k19
  have b19 := F19.binds (ps := ["state", "some"]) fun _ _ _ _ _ _ us hl => match us, hl with | [_, _], _ => rfl
  have g19 : mg "_law_pick" = some (.ref f19) := PySem.W.mg_of KX G a19
  have F20 := fun_mk (st := s__law_shuffled) l20 c20d k20
  have b20 := F20.binds (ps := ["state", "some"]) fun _ _ _ _ _ _ us hl => match us, hl with | [_, _], _ => rfl
  have g20 : mg "_law_shuffled" = some (.ref f20) := PySem.W.mg_of KX G a20
  have F21 := fun_mk (st := s__law_small) l21 c21d k21
  have b21 := F21.binds (ps := ["state"]) fun _ _ _ _ _ _ us hl => match us, hl with | [_], _ => rfl
  have g21 : mg "_law_small" = some (.ref f21) := PySem.W.mg_of KX G a21
  have F22 := fun_mk (st := s__law_caught) l22 c22d k22
  have b22 := F22.binds (ps := ["action"]) fun _ _ _ _ _ _ us hl => match us, hl with | [_], _ => rfl
  have g22 : mg "_law_caught" = some (.ref f22) := PySem.W.mg_of KX G a22
  have F23 := fun_mk (st := s__law_drawn_face) l23 c23d k23
  have b23 := F23.binds (ps := ["state", "most"]) fun _ _ _ _ _ _ us hl => match us, hl with | [_, _], _ => rfl
  have g23 : mg "_law_drawn_face" = some (.ref f23) := PySem.W.mg_of KX G a23
  have F24 := fun_mk (st := s__law_open_face) l24 c24d k24
  have b24 := F24.binds (ps := ["state", "many"]) fun _ _ _ _ _ _ us hl => match us, hl with | [_, _], _ => rfl
  have g24 : mg "_law_open_face" = some (.ref f24) := PySem.W.mg_of KX G a24
  have F25 := fun_mk (st := s__law_next) l25 c25d k25
  have b25 := F25.binds (ps := ["state", "face", "control", "asks", "few"]) fun _ _ _ _ _ _ us hl => match us, hl with | [_, _, _, _, _], _ => rfl
  have g25 : mg "_law_next" = some (.ref f25) := PySem.W.mg_of KX G a25
  have F26 := fun_mk (st := s__law_behind) l26 c26d k26
  have b26 := F26.binds (ps := ["control", "asks", "crossing"]) fun _ _ _ _ _ _ us hl => match us, hl with | [_, _, _], _ => rfl
  have g26 : mg "_law_behind" = some (.ref f26) := PySem.W.mg_of KX G a26
  have F27 := fun_mk (st := s__law_few) l27 c27d k27
  have b27 := F27.binds (ps := ["state"]) fun _ _ _ _ _ _ us hl => match us, hl with | [_], _ => rfl
  have g27 : mg "_law_few" = some (.ref f27) := PySem.W.mg_of KX G a27
  have F28 := fun_mk (st := s__law_drawn_row) l28 c28d k28
  have b28 := F28.binds (ps := ["state", "face", "most"]) fun _ _ _ _ _ _ us hl => match us, hl with | [_, _, _], _ => rfl
  have g28 : mg "_law_drawn_row" = some (.ref f28) := PySem.W.mg_of KX G a28
  have F29 := fun_mk (st := s__law_view) l29 c29d k29
  have b29 := F29.binds (ps := ["row", "room"]) fun _ _ _ _ _ _ us hl => match us, hl with | [_, _], _ => rfl
  have g29 : mg "_law_view" = some (.ref f29) := PySem.W.mg_of KX G a29
  have F30 := fun_mk (st := s__law_views) l30 c30d k30
  have b30 := F30.binds (ps := ["row", "many"]) fun _ _ _ _ _ _ us hl => match us, hl with | [_, _], _ => rfl
  have g30 : mg "_law_views" = some (.ref f30) := PySem.W.mg_of KX G a30
  have F31 := fun_mk (st := s__law_is_below) l31 c31d k31
  have b31 := F31.binds (ps := ["thing", "bound"]) fun _ _ _ _ _ _ us hl => match us, hl with | [_, _], _ => rfl
  have g31 : mg "_law_is_below" = some (.ref f31) := PySem.W.mg_of KX G a31
  have F32 := fun_mk (st := s__law_is_item) l32 c32d k32
  have b32 := F32.binds (ps := ["thing", "words"]) fun _ _ _ _ _ _ us hl => match us, hl with | [_, _], _ => rfl
  have g32 : mg "_law_is_item" = some (.ref f32) := PySem.W.mg_of KX G a32
  have F33 := fun_mk (st := s__law_view_judged) l33 c33d k33
  have b33 := F33.binds (ps := ["thing"]) fun _ _ _ _ _ _ us hl => match us, hl with | [_], _ => rfl
  have g33 : mg "_law_view_judged" = some (.ref f33) := PySem.W.mg_of KX G a33
  have F34 := fun_mk (st := s__law_take_item) l34 c34d k34
  have b34 := F34.binds (ps := ["views", "places", "room", "item"]) fun _ _ _ _ _ _ us hl => match us, hl with | [_, _, _, _], _ => rfl
  have g34 : mg "_law_take_item" = some (.ref f34) := PySem.W.mg_of KX G a34
  have F35 := fun_mk (st := s__law_fault) l35 c35d k35
  have b35 := F35.binds (ps := ["face", "views"]) fun _ _ _ _ _ _ us hl => match us, hl with | [_, _], _ => rfl
  have g35 : mg "_law_fault" = some (.ref f35) := PySem.W.mg_of KX G a35
  have F36 := fun_mk (st := s__law_spoilt_item) l36 c36d k36
  have b36 := F36.binds (ps := ["state", "item"]) fun _ _ _ _ _ _ us hl => match us, hl with | [_, _], _ => rfl
  have g36 : mg "_law_spoilt_item" = some (.ref f36) := PySem.W.mg_of KX G a36
  have F37 := fun_mk (st := s__law_spoilt_views) l37 c37d k37
  have b37 := F37.binds (ps := ["state", "views"]) fun _ _ _ _ _ _ us hl => match us, hl with | [_, _], _ => rfl
  have g37 : mg "_law_spoilt_views" = some (.ref f37) := PySem.W.mg_of KX G a37
  have F38 := fun_mk (st := s__law_other_face) l38 c38d k38
  have b38 := F38.binds (ps := ["state", "face"]) fun _ _ _ _ _ _ us hl => match us, hl with | [_, _], _ => rfl
  have g38 : mg "_law_other_face" = some (.ref f38) := PySem.W.mg_of KX G a38
  have F39 := fun_mk (st := s__law_answer_holds) l39 c39d k39
  have b39 := F39.binds (ps := ["face", "views"]) fun _ _ _ _ _ _ us hl => match us, hl with | [_, _], _ => rfl
  have g39 : mg "_law_answer_holds" = some (.ref f39) := PySem.W.mg_of KX G a39
  have F40 := fun_mk (st := s_law) l40 c40d k40
  have b40 := F40.binds (ps := ["script"]) fun _ _ _ _ _ _ us hl => match us, hl with | [_], _ => rfl
  have ClCW : Cls K CW := ⟨pgCW, hdCW, poCW, saCW⟩
  have GcCW : mg "RowWalk" = some (.ref CW) := PySem.W.mg_of KX G gCW
  have TW := (⟨ClCW, nCW_inside, nCW_asks, nCW_over⟩ : TxW K CW)
  have ClCJ : Cls K CJ := ⟨pgCJ, hdCJ, poCJ, saCJ⟩
  have GcCJ : mg "Joining" = some (.ref CJ) := PySem.W.mg_of KX G gCJ
  have TJ := (⟨ClCJ, nCJ_depth, nCJ_wires, nCJ_views, nCJ_counts, nCJ_asks, nCJ_joint⟩ : TxJ K CJ)
  have Fm0 := fun_mk (st := s_RowWalk___init__) lm0 cm0d km0
  have bm0 := Fm0.binds (ps := ["self"]) fun _ _ _ _ _ _ us hl => match us, hl with | [_], _ => rfl
  have Mm0 : Meth K CW "__init__" fm0 := ⟨im0, ym0, km0⟩
  have Km0 : Mk K CW fm0 := ⟨mkCW, im0, ym0, kcCW⟩
  have Fm1 := fun_mk (st := s_RowWalk_fields) lm1 cm1d km1
  have bm1 := Fm1.binds (ps := ["self", "word"]) fun _ _ _ _ _ _ us hl => match us, hl with | [_, _], _ => rfl
  have Mm1 : Meth K CW "fields" fm1 := ⟨im1, ym1, km1⟩
  have Fm2 := fun_mk (st := s_RowWalk_can_follow) lm2 cm2d km2
  have bm2 := Fm2.binds (ps := ["self", "crossing"]) fun _ _ _ _ _ _ us hl => match us, hl with | [_, _], _ => rfl
  have Mm2 : Meth K CW "can_follow" fm2 := ⟨im2, ym2, km2⟩
  have Fm3 := fun_mk (st := s_RowWalk_take) lm3 cm3d km3
  have bm3 := Fm3.binds (ps := ["self", "crossing"]) fun _ _ _ _ _ _ us hl => match us, hl with | [_, _], _ => rfl
  have Mm3 : Meth K CW "take" fm3 := ⟨im3, ym3, km3⟩
  have Fm4 := fun_mk (st := s_Joining___init__) lm4 cm4d km4
  have bm4 := Fm4.binds (ps := ["self", "face", "views"]) fun _ _ _ _ _ _ us hl => match us, hl with | [_, _, _], _ => rfl
  have Mm4 : Meth K CJ "__init__" fm4 := ⟨im4, ym4, km4⟩
  have Km4 : Mk K CJ fm4 := ⟨mkCJ, im4, ym4, kcCJ⟩
  have Fm5 := fun_mk (st := s_Joining_next_item) lm5 cm5d km5
  have bm5 := Fm5.binds (ps := ["self", "room"]) fun _ _ _ _ _ _ us hl => match us, hl with | [_, _], _ => rfl
  have Mm5 : Meth K CJ "next_item" fm5 := ⟨im5, ym5, km5⟩
  have Fm6 := fun_mk (st := s_Joining_need_item) lm6 cm6d km6
  have bm6 := Fm6.binds (ps := ["self", "room", "item"]) fun _ _ _ _ _ _ us hl => match us, hl with | [_, _, _], _ => rfl
  have Mm6 : Meth K CJ "need_item" fm6 := ⟨im6, ym6, km6⟩
  have Fm7 := fun_mk (st := s_Joining_join_call) lm7 cm7d km7
  have bm7 := Fm7.binds (ps := ["self", "room", "act"]) fun _ _ _ _ _ _ us hl => match us, hl with | [_, _, _], _ => rfl
  have Mm7 : Meth K CJ "join_call" fm7 := ⟨im7, ym7, km7⟩
  have Fm8 := fun_mk (st := s_Joining_join_act) lm8 cm8d km8
  have bm8 := Fm8.binds (ps := ["self", "room"]) fun _ _ _ _ _ _ us hl => match us, hl with | [_, _], _ => rfl
  have Mm8 : Meth K CJ "join_act" fm8 := ⟨im8, ym8, km8⟩
  have Fm9 := fun_mk (st := s_Joining_join) lm9 cm9d km9
  have bm9 := Fm9.binds (ps := ["self"]) fun _ _ _ _ _ _ us hl => match us, hl with | [_], _ => rfl
  have Mm9 : Meth K CJ "join" fm9 := ⟨im9, ym9, km9⟩
  have REBadViews : ErrC K mg "BadViews" EBadViews := ⟨PySem.W.mg_of KX G gEBadViews, xEBadViews, kEBadViews, bEBadViews, tEBadViews⟩
  have XEBadViews : ExcC K EBadViews := ⟨u1EBadViews, u2EBadViews, bEBadViews, u3EBadViews, u4EBadViews, v1, v2, u5EBadViews⟩
  have XEUnfit : ExcC K EUnfit := ⟨u1EUnfit, u2EUnfit, bEUnfit, u3EUnfit, u4EUnfit, v1, v2, u5EUnfit⟩
  have UEUnfit : SupC l.prog K mg EUnfit := { cls := ⟨_, _, _, _, _, _, _, _, _, _, _, _, _, _, _, xEUnfit, rfl⟩, sa := j1EUnfit, exC := bEUnfit, tyC := tEUnfit, kC := kEUnfit, mS := PySem.W.mg_none_of KX G zS, top := zP, any := zT, up := j2EUnfit, ve := j3EUnfit, own := j4EUnfit }
  have REUnfit_room : ErrF l.prog K mg "Unfit" "room" EUnfit := ⟨PySem.W.mg_of KX G gEUnfit, UEUnfit, XEUnfit, j5EUnfit_room⟩
  have REUnfit_at : ErrF l.prog K mg "Unfit" "at" EUnfit := ⟨PySem.W.mg_of KX G gEUnfit, UEUnfit, XEUnfit, j5EUnfit_at⟩
  have VEUnfit : FunS l.prog K "__init__" "Unfit.__init__" s_Unfit___init__ IEUnfit _ EUnfit LEUnfit := ⟨⟨_, _, _, _, _, _, _, _, _, rfl, lEUnfit, cEUnfit, _, _, _, _, _, _, dEUnfit, sEUnfit, rEUnfit⟩, wEUnfit, ⟨_, _, _, nEUnfit⟩, ⟨_, rfl, rfl⟩⟩
  have BEUnfit : Binds K _ ["self", "room", "at"] [] := .all (fd := PySem.W.ksFn "__init__" "Unfit.__init__" (defArgs s_Unfit___init__) (defBody s_Unfit___init__) (defScope s_Unfit___init__) .none kiEUnfit diEUnfit piEUnfit yiEUnfit (.ref DEUnfit) tiEUnfit LEUnfit) fun us hl => match us, hl with | [_, _, _], _ => rfl
  refine ⟨PySem.W.fnOf "law" "law" (defArgs s_law) (defBody s_law) (defScope s_law) .none kV40 dc40 pm40 an40 cd40 ct40, [(c39, P39)], spLawT K ([(P39, "_law_answer_holds.<locals>.<lambda>")] : List (Addr × Str)), fun p hp => ?_, fun s v => .of_eq rfl, fun H a ns hl _ hT hS => ?_, fun base KB GB TB => ?_⟩
  · skip
    obtain rfl := List.mem_singleton.mp hp
    exact ⟨tO39, tN39, PySem.W.codeHd_of_K KX tH39⟩
  · refine ⟨a, ns, rfl, hS, Nat.le_trans hl n63, fun p hp => ?_, fun _ => rfl⟩
    obtain rfl := List.mem_singleton.mp hp
    exact TabS.nil (hT (c39, P39) (List.mem_singleton.mpr rfl))
  · skip
    have TB39 := TB (c39, P39) (List.mem_singleton.mpr rfl)
    have OUnf := ok_Unfit_init (P := l.prog) (w := w) (base := base) VEUnfit REUnfit_room j5EUnfit_at
    have Om0 : FnOk l.prog w K mg base CX0 1 fm0 _ ["self"] (spKInit CW) := ok_RowWalk___init__ Fm0 TW
    have K_m0 : MakF l.prog w K mg base CX0 1 "RowWalk" CW ["self"] (spKInit CW) := ⟨_, _, Om0, Km0, GcCW, bm0⟩
    have Om1 : FnOk l.prog w K mg base CX0 1 fm1 _ ["self", "word"] (spFields K CW) := ok_RowWalk_fields Fm1 TW TC
    have Dm1 : MetF l.prog w K mg base CX0 1 CW "fields" ["self", "word"] (spFields K CW) := ⟨_, _, Om1, Mm1, bm1⟩
    have Om2 : FnOk l.prog w K mg base CX0 2 fm2 _ ["self", "crossing"] (spCan CW) := ok_RowWalk_can_follow Fm2 T TW (PySem.W.mg_none_of KX G z_enumerate) (Dm1.mono (k := 1) (by decide))
    have Dm2 : MetF l.prog w K mg base CX0 2 CW "can_follow" ["self", "crossing"] (spCan CW) := ⟨_, _, Om2, Mm2, bm2⟩
    have Om3 : FnOk l.prog w K mg base CX0 1 fm3 _ ["self", "crossing"] (spTake CW) := ok_RowWalk_take Fm3 TW
    have Dm3 : MetF l.prog w K mg base CX0 1 CW "take" ["self", "crossing"] (spTake CW) := ⟨_, _, Om3, Mm3, bm3⟩
    have Om4 : FnOk l.prog w K mg base CX0 1 fm4 _ ["self", "face", "views"] (spJInit CJ) := ok_Joining___init__ Fm4 TJ (PySem.W.mg_none_of KX G z_len)
    have K_m4 : MakF l.prog w K mg base CX0 1 "Joining" CJ ["self", "face", "views"] (spJInit CJ) := ⟨_, _, Om4, Km4, GcCJ, bm4⟩
    have Om5 : FnOk l.prog w K mg base CX0 1 fm5 _ ["self", "room"] (spNext K CJ) := ok_Joining_next_item Fm5 TJ (PySem.W.mg_none_of KX G z_len)
    have Dm5 : MetF l.prog w K mg base CX0 1 CJ "next_item" ["self", "room"] (spNext K CJ) := ⟨_, _, Om5, Mm5, bm5⟩
    have Om6 : FnOk l.prog w K mg base (L2.CX l.prog w) 3 fm6 _ ["self", "room", "item"] (spNeedI K CJ EUnfit) := ok_Joining_need_item Fm6 TJ REUnfit_room j6EUnfit j7EUnfit OUnf BEUnfit (Dm5.mono (k := 2) (by decide))
    have Dm6 : MetF l.prog w K mg base (L2.CX l.prog w) 3 CJ "need_item" ["self", "room", "item"] (spNeedI K CJ EUnfit) := ⟨_, _, Om6, Mm6, bm6⟩
    have Om7 : FnOk l.prog w K mg base (L2.CX l.prog w) 4 fm7 _ ["self", "room", "act"] (spJCall K CJ EUnfit) := ok_Joining_join_call Fm7 TJ (PySem.W.mg_none_of KX G z_len) REUnfit_room j6EUnfit j7EUnfit OUnf BEUnfit Mm6 Om6 bm6
    have Dm7 : MetF l.prog w K mg base (L2.CX l.prog w) 4 CJ "join_call" ["self", "room", "act"] (spJCall K CJ EUnfit) := ⟨_, _, Om7, Mm7, bm7⟩
    have Om8 : FnOk l.prog w K mg base (L2.CX l.prog w) 5 fm8 _ ["self", "room"] (spJAct K CJ EUnfit) := ok_Joining_join_act Fm8 TJ (Dm5.mono (k := 2) (by decide)) Mm7 Om7 bm7 Mm6 Om6 bm6
    have Dm8 : MetF l.prog w K mg base (L2.CX l.prog w) 5 CJ "join_act" ["self", "room"] (spJAct K CJ EUnfit) := ⟨_, _, Om8, Mm8, bm8⟩
    have Om9 : FnOk l.prog w K mg base (L2.CX l.prog w) 6 fm9 _ ["self"] (spJoinG K CJ EUnfit) := ok_Joining_joinG Fm9 TJ (PySem.W.mg_none_of KX G z_len) (PySem.W.mg_none_of KX G z_enumerate) REUnfit_room j6EUnfit j7EUnfit OUnf BEUnfit (Dm5.mono (k := 2) (by decide)) Mm8 Om8 bm8
    have Dm9 : MetF l.prog w K mg base (L2.CX l.prog w) 6 CJ "join" ["self"] (spJoinG K CJ EUnfit) := ⟨_, _, Om9, Mm9, bm9⟩
    have O0 : FnOk l.prog w K mg base CX0 1 f0 _ ["value", "low", "high"] spWhole := ok_whole F0 T
    have D0 : DefF l.prog w K mg base CX0 1 "is_whole" ["value", "low", "high"] spWhole := ⟨_, _, O0, g0, k0, b0⟩
    have O1 : FnOk l.prog w K mg base CX0 1 f1 _ ["value", "least", "most"] spTuple := ok_tuple F1 T
    have D1 : DefF l.prog w K mg base CX0 1 "is_tuple" ["value", "least", "most"] spTuple := ⟨_, _, O1, g1, k1, b1⟩
    have O2 : FnOk l.prog w K mg base CX0 1 f2 _ ["things"] spUnlike := ok_all_unlike F2 T T3
    have D2 : DefF l.prog w K mg base CX0 1 "all_unlike" ["things"] spUnlike := ⟨_, _, O2, g2, k2, b2⟩
    have O3 : FnOk l.prog w K mg base CX0 6 f3 _ ["room", "many"] spNRoom := ok_need_room_number F3 (D0.mono (k := 5) (by decide))
    have D3 : DefF l.prog w K mg base CX0 6 "need_room_number" ["room", "many"] spNRoom := ⟨_, _, O3, g3, k3, b3⟩
    have O4 : FnOk l.prog w K mg base CX0 2 f4 _ ["value", "own", "doors"] spWires := ok_are_wires F4 T T3 (D1.mono (k := 1) (by decide)) (D0.mono (k := 1) (by decide)) (D2.mono (k := 1) (by decide))
    have D4 : DefF l.prog w K mg base CX0 2 "are_wires" ["value", "own", "doors"] spWires := ⟨_, _, O4, g4, k4, b4⟩
    have O5 : FnOk l.prog w K mg base CX0 4 f5 _ ["value"] spGoodR := ok_good_row F5 T TW (K_m0.mono (k := 2) (by decide)) (Dm2.mono (k := 3) (by decide)) (Dm3.mono (k := 3) (by decide))
    have D5 : DefF l.prog w K mg base CX0 4 "good_row" ["value"] spGoodR := ⟨_, _, O5, g5, k5, b5⟩
    have O6 : FnOk l.prog w K mg base CX0 4 f6 _ ["value"] spGoodF := ok_good_face F6 T T3 ⟨_, PySem.W.mg_of KX G cst1⟩ (PySem.W.mg_none_of KX G z_enumerate) (D1.mono (k := 3) (by decide)) (D0.mono (k := 3) (by decide)) (D4.mono (k := 3) (by decide))
    have D6 : DefF l.prog w K mg base CX0 4 "good_face" ["value"] spGoodF := ⟨_, _, O6, g6, k6, b6⟩
    have O7 : FnOk l.prog w K mg base CX0 1 f7 _ ["values"] (spItemsJ K evOk) := ok_are_eventsJ F7 T ⟨_, PySem.W.mg_of KX G cst1⟩ ⟨_, PySem.W.mg_of KX G cst0⟩
    have D7 : DefF l.prog w K mg base CX0 1 "are_events" ["values"] (spItemsJ K evOk) := ⟨_, _, O7, g7, k7, b7⟩
    have O8 : FnOk l.prog w K mg base CX0 1 f8 _ ["values"] (spItemsJ K acOk) := ok_are_actsJ F8 T ⟨_, PySem.W.mg_of KX G cst4⟩ ⟨_, PySem.W.mg_of KX G cst1⟩ ⟨_, PySem.W.mg_of KX G cst0⟩
    have D8 : DefF l.prog w K mg base CX0 1 "are_acts" ["values"] (spItemsJ K acOk) := ⟨_, _, O8, g8, k8, b8⟩
    have O9 : FnOk l.prog w K mg base CX0 3 f9 _ ["value"] (spGoodVJ K) := ok_good_viewJ F9 T (PySem.W.mg_of KX G aEND) (t1 lEND) (D7.mono (k := 2) (by decide)) (D8.mono (k := 2) (by decide))
    have D9 : DefF l.prog w K mg base CX0 3 "good_view" ["value"] (spGoodVJ K) := ⟨_, _, O9, g9, k9, b9⟩
    have OE0 : FnOk l.prog w K mg base CX0 1 f7 _ ["values"] (spNil0 K) := ok_are_events0 F7
    have DE0 : DefF l.prog w K mg base CX0 1 "are_events" ["values"] (spNil0 K) := ⟨_, _, OE0, g7, k7, b7⟩
    have OA0 : FnOk l.prog w K mg base CX0 1 f8 _ ["values"] (spNil0 K) := ok_are_acts0 F8
    have DA0 : DefF l.prog w K mg base CX0 1 "are_acts" ["values"] (spNil0 K) := ⟨_, _, OA0, g8, k8, b8⟩
    have OG0 : FnOk l.prog w K mg base CX0 3 f9 _ ["value"] spNilT := ok_good_view0 F9 T (PySem.W.mg_of KX G aEND) (t1 lEND) (DE0.mono (k := 2) (by decide)) (DA0.mono (k := 2) (by decide))
    have DG0 : DefF l.prog w K mg base CX0 3 "good_view" ["value"] spNilT := ⟨_, _, OG0, g9, k9, b9⟩
    have OGN : FnOk l.prog w K mg base CX0 3 f9 _ ["value"] (spNoView K) := ok_no_view F9 T (PySem.W.mg_of KX G aEND) (D7.mono (k := 2) (by decide)) (D8.mono (k := 2) (by decide))
    have DGN : DefF l.prog w K mg base CX0 3 "good_view" ["value"] (spNoView K) := ⟨_, _, OGN, g9, k9, b9⟩
    have OVJ : FnOk l.prog w K mg base CX0 5 f10 _ ["value"] (spGoodVJ K) := ok_is_view F10 (D9.mono (k := 4) (by decide))
    have OVN : FnOk l.prog w K mg base CX0 5 f10 _ ["value"] (spNoView K) := ok_is_no_view F10 (DGN.mono (k := 4) (by decide))
    have OV0 : FnOk l.prog w K mg base CX0 5 f10 _ ["value"] spNilT := ok_is_view0 F10 (DG0.mono (k := 4) (by decide))
    have O10 : FnOk l.prog w K mg base CX0 5 f10 _ ["value"] (spIsV K) := OVJ.or (OVN.or OV0)
    have D10 : DefF l.prog w K mg base CX0 5 "is_view" ["value"] (spIsV K) := ⟨_, _, O10, g10, k10, b10⟩
    have O11 : FnOk l.prog w K mg base CX0 5 f11 _ ["row"] spNeedRow := ok_need_row F11 (D5.mono (k := 4) (by decide))
    have D11 : DefF l.prog w K mg base CX0 5 "need_row" ["row"] spNeedRow := ⟨_, _, O11, g11, k11, b11⟩
    have O12 : FnOk l.prog w K mg base CX0 5 f12 _ ["face"] spNeedF := ok_need_face F12 (D6.mono (k := 4) (by decide))
    have D12 : DefF l.prog w K mg base CX0 5 "need_face" ["face"] spNeedF := ⟨_, _, O12, g12, k12, b12⟩
    have O13 : FnOk l.prog w K mg base CX0 1 f13 _ ["row"] (spViewsIn K) := ok_views_in F13 ⟨_, PySem.W.mg_of KX G cst4⟩ (PySem.W.mg_none_of KX G z_range) (PySem.W.mg_of KX G aEND) (t1 lEND)
    have D13 : DefF l.prog w K mg base CX0 1 "views_in" ["row"] (spViewsIn K) := ⟨_, _, O13, g13, k13, b13⟩
    have O14 : FnOk l.prog w K mg base CX0 7 f14 _ ["row", "room"] (spViewOf K) := ok_view_of F14 ⟨_, PySem.W.mg_of KX G cst4⟩ (D11.mono (k := 6) (by decide)) (D3.mono (k := 6) (by decide)) (D13.mono (k := 6) (by decide))
    have D14 : DefF l.prog w K mg base CX0 7 "view_of" ["row", "room"] (spViewOf K) := ⟨_, _, O14, g14, k14, b14⟩
    have O15 : FnOk l.prog w K mg base (L2.CX l.prog w) 8 f15 _ ["face", "views"] (spJoinedG K EUnfit EBadViews) := ok_joinedG F15 T TJ REBadViews (D12.mono (k := 7) (by decide)) (D9.mono (k := 7) (by decide)) (K_m4.mono (k := 6) (by decide)) Mm9 Om9 bm9
    have D15 : DefF l.prog w K mg base (L2.CX l.prog w) 8 "joined" ["face", "views"] (spJoinedG K EUnfit EBadViews) := ⟨_, _, O15, g15, k15, b15⟩
    have O16 : FnOk l.prog w K mg base CX0 1 f16 _ ["script"] (spBegun K) := ok_begun F16 T
    have D16 : DefF l.prog w K mg base CX0 1 "_law_begun" ["script"] (spBegun K) := ⟨_, _, O16, g16, k16, b16⟩
    have O17 : FnOk l.prog w K mg base CX0 1 f17 _ ["state"] spMixed := ok_mixed F17 T
    have D17 : DefF l.prog w K mg base CX0 1 "_law_mixed" ["state"] spMixed := ⟨_, _, O17, g17, k17, b17⟩
    have O18 : FnOk l.prog w K mg base CX0 2 f18 _ ["state", "room"] spDraw := ok_draw F18 T O17 g17 k17 b17
    have D18 : DefF l.prog w K mg base CX0 2 "_law_draw" ["state", "room"] spDraw := ⟨_, _, O18, g18, k18, b18⟩
    have O19 : FnOk l.prog w K mg base CX0 3 f19 _ ["state", "some"] spPick2 := ok_pick2 F19 T O18 g18 k18 b18
    have D19 : DefF l.prog w K mg base CX0 3 "_law_pick" ["state", "some"] spPick2 := ⟨_, _, O19, g19, k19, b19⟩
    have PK : FnOk l.prog w K mg base CX0 3 f19 _ ["state", "some"] spPick := pick_of O19
    have DPK : DefF l.prog w K mg base CX0 3 "_law_pick" ["state", "some"] spPick := ⟨_, _, PK, g19, k19, b19⟩
    have O20 : FnOk l.prog w K mg base CX0 3 f20 _ ["state", "some"] spShuf := ok__law_shuffled F20 T (D18.mono (k := 2) (by decide))
    have D20 : DefF l.prog w K mg base CX0 3 "_law_shuffled" ["state", "some"] spShuf := ⟨_, _, O20, g20, k20, b20⟩
    have O21 : FnOk l.prog w K mg base CX0 4 f21 _ ["state"] (spNo 2) := ok_small F21 O18 g18 k18 b18 PK g19 k19 b19
    have D21 : DefF l.prog w K mg base CX0 4 "_law_small" ["state"] (spNo 2) := ⟨_, _, O21, g21, k21, b21⟩
    have O23 : FnOk l.prog w K mg base CX0 5 f23 _ ["state", "most"] (spFaceD 1 6) := ok__law_drawn_face F23 T (PySem.W.mg_none_of KX G z_enumerate) (D18.mono (k := 4) (by decide)) (D20.mono (k := 4) (by decide)) (DPK.mono (k := 4) (by decide))
    have D23 : DefF l.prog w K mg base CX0 5 "_law_drawn_face" ["state", "most"] (spFaceD 1 6) := ⟨_, _, O23, g23, k23, b23⟩
    have O24 : FnOk l.prog w K mg base CX0 5 f24 _ ["state", "many"] (spFaceD 2 4) := ok__law_open_face F24 T (PySem.W.mg_none_of KX G z_enumerate) (D18.mono (k := 4) (by decide)) (D20.mono (k := 4) (by decide)) (DPK.mono (k := 4) (by decide))
    have D24 : DefF l.prog w K mg base CX0 5 "_law_open_face" ["state", "many"] (spFaceD 2 4) := ⟨_, _, O24, g24, k24, b24⟩
    have O25 : FnOk l.prog w K mg base CX0 5 f25 _ ["state", "face", "control", "asks", "few"] spNextC := ok__law_next F25 T (D18.mono (k := 4) (by decide)) (D19.mono (k := 4) (by decide))
    have D25 : DefF l.prog w K mg base CX0 5 "_law_next" ["state", "face", "control", "asks", "few"] spNextC := ⟨_, _, O25, g25, k25, b25⟩
    have O26 : FnOk l.prog w K mg base CX0 1 f26 _ ["control", "asks", "crossing"] (spBehind K) := ok__law_behind F26
    have D26 : DefF l.prog w K mg base CX0 1 "_law_behind" ["control", "asks", "crossing"] (spBehind K) := ⟨_, _, O26, g26, k26, b26⟩
    have O27 : FnOk l.prog w K mg base CX0 9 f27 _ ["state"] spFew := ok__law_few F27 T (D18.mono (k := 8) (by decide)) (D21.mono (k := 8) (by decide))
    have D27 : DefF l.prog w K mg base CX0 9 "_law_few" ["state"] spFew := ⟨_, _, O27, g27, k27, b27⟩
    have O28 : FnOk l.prog w K mg base CX0 10 f28 _ ["state", "face", "most"] spRowD := ok__law_drawn_row F28 T (D27.mono (k := 9) (by decide)) (D18.mono (k := 9) (by decide)) (D19.mono (k := 9) (by decide)) (D25.mono (k := 9) (by decide)) (D26.mono (k := 9) (by decide))
    have D28 : DefF l.prog w K mg base CX0 10 "_law_drawn_row" ["state", "face", "most"] spRowD := ⟨_, _, O28, g28, k28, b28⟩
    have O29 : FnOk l.prog w K mg base CX0 1 f29 _ ["row", "room"] (spLView K) := ok__law_view F29
    have D29 : DefF l.prog w K mg base CX0 1 "_law_view" ["row", "room"] (spLView K) := ⟨_, _, O29, g29, k29, b29⟩
    have O30 : FnOk l.prog w K mg base CX0 2 f30 _ ["row", "many"] (spLViews K) := ok__law_views F30 (PySem.W.mg_none_of KX G z_range) (D29.mono (k := 1) (by decide))
    have D30 : DefF l.prog w K mg base CX0 2 "_law_views" ["row", "many"] (spLViews K) := ⟨_, _, O30, g30, k30, b30⟩
    have O31 : FnOk l.prog w K mg base CX0 1 f31 _ ["thing", "bound"] spBelow := ok__law_is_below F31 T
    have D31 : DefF l.prog w K mg base CX0 1 "_law_is_below" ["thing", "bound"] spBelow := ⟨_, _, O31, g31, k31, b31⟩
    have O32 : FnOk l.prog w K mg base CX0 2 f32 _ ["thing", "words"] (spItem K) := ok__law_is_item F32 T (D31.mono (k := 1) (by decide))
    have D32 : DefF l.prog w K mg base CX0 2 "_law_is_item" ["thing", "words"] (spItem K) := ⟨_, _, O32, g32, k32, b32⟩
    have O33 : FnOk l.prog w K mg base CX0 4 f33 _ ["thing"] (spJudged K) := ok__law_view_judged F33 T (PySem.W.mg_none_of KX G z_enumerate) (D32.mono (k := 3) (by decide))
    have D33 : DefF l.prog w K mg base CX0 4 "_law_view_judged" ["thing"] (spJudged K) := ⟨_, _, O33, g33, k33, b33⟩
    have O34 : FnOk l.prog w K mg base CX0 1 f34 _ ["views", "places", "room", "item"] (spTakeI K) := ok__law_take_item F34 (PySem.W.mg_none_of KX G z_len)
    have D34 : DefF l.prog w K mg base CX0 1 "_law_take_item" ["views", "places", "room", "item"] (spTakeI K) := ⟨_, _, O34, g34, k34, b34⟩
    have O35 : FnOk l.prog w K mg base CX0 3 f35 _ ["face", "views"] (spFault K) := ok__law_fault F35 (PySem.W.mg_none_of KX G z_len) (PySem.W.mg_none_of KX G z_enumerate) (D34.mono (k := 2) (by decide)) (D26.mono (k := 2) (by decide))
    have D35 : DefF l.prog w K mg base CX0 3 "_law_fault" ["face", "views"] (spFault K) := ⟨_, _, O35, g35, k35, b35⟩
    have O36 : FnOk l.prog w K mg base CX0 5 f36 _ ["state", "item"] (spSpI K) := ok__law_spoilt_item F36 T (D18.mono (k := 4) (by decide)) (D19.mono (k := 4) (by decide)) (D21.mono (k := 4) (by decide))
    have D36 : DefF l.prog w K mg base CX0 5 "_law_spoilt_item" ["state", "item"] (spSpI K) := ⟨_, _, O36, g36, k36, b36⟩
    have O37 : FnOk l.prog w K mg base CX0 7 f37 _ ["state", "views"] (spSpV K) := ok__law_spoilt_views F37 T (D18.mono (k := 6) (by decide)) (D19.mono (k := 6) (by decide)) (D21.mono (k := 6) (by decide)) (D36.mono (k := 6) (by decide))
    have D37 : DefF l.prog w K mg base CX0 7 "_law_spoilt_views" ["state", "views"] (spSpV K) := ⟨_, _, O37, g37, k37, b37⟩
    have O38 : FnOk l.prog w K mg base CX0 5 f38 _ ["state", "face"] spOtherF := ok__law_other_face F38 T (D18.mono (k := 4) (by decide))
    have D38 : DefF l.prog w K mg base CX0 5 "_law_other_face" ["state", "face"] spOtherF := ⟨_, _, O38, g38, k38, b38⟩
    have O39 : FnOk l.prog w K mg base CX0 12 f39 _ ["face", "views"] (spAns K ([(P39, "_law_answer_holds.<locals>.<lambda>")] : List (Addr × Str))) := ok__law_answer_holds l39 c39d T TB39 (List.mem_singleton.mpr rfl) (fun p hp _ => by rw [List.mem_singleton.mp hp]) REBadViews XEBadViews eEBadViews iEBadViews REUnfit_room REUnfit_at (PySem.W.mg_of KX G gCO) eEUnfit iEUnfit (O15.mono (by decide)) g15 k15 b15 F22 g22 b22 (OVJ.mono (by decide)) g10 k10 (kb_is_view F10) (fun _ => rfl) (D33.mono (k := 11) (by decide)) (D35.mono (k := 11) (by decide)) (D14.mono (k := 11) (by decide))
    have D39 : DefF l.prog w K mg base CX0 12 "_law_answer_holds" ["face", "views"] (spAns K ([(P39, "_law_answer_holds.<locals>.<lambda>")] : List (Addr × Str))) := ⟨_, _, O39, g39, k39, b39⟩
    exact FnOk.toG (ok_law F40 T (D16.mono (k := 12) (by decide)) (D18.mono (k := 12) (by decide)) (D23.mono (k := 12) (by decide)) (D24.mono (k := 12) (by decide)) (D28.mono (k := 12) (by decide)) (D30.mono (k := 12) (by decide)) (D37.mono (k := 12) (by decide)) (D38.mono (k := 12) (by decide)) (D39.mono (k := 12) (by decide)) (D10.mono (k := 12) (by decide)))
end OH
end
open PySem PySem.W PyProof.Rows in
set_option Elab.async false in
set_option maxRecDepth 100000 in
set_option maxHeartbeats 0 in
theorem PySem.Challenge.cw_ownharm_k57_views_that_fit_and_the_first_holds : PySem.Challenge.rw_ownharm_k57_views_that_fit_and_the_first.Holds := by
  w_on; o_law; k_head; (case hw => w_witness2)
  k_fill
  refine OH.walk_ofG (n := 63) (k := 13) (x := "script") rfl (by decide) rfl ⟨rfl, by decide, by decide⟩ (fun w h Y => PySem.W.km_in_of Y) ?F
  case F =>
    intro w mg fa h Y KX G hmg
    refine' OH.all_mk (P39 := 454) KX G hmg (by decide) ?a0 ?l0 ?c0d ?k0 ?a1 ?l1 ?c1d ?k1 ?a2 ?l2 ?c2d ?k2 ?a3 ?l3 ?c3d ?k3 ?a4 ?l4 ?c4d ?k4 ?a5 ?l5 ?c5d ?k5 ?a6 ?l6 ?c6d ?k6 ?a7 ?l7 ?c7d ?k7 ?a8 ?l8 ?c8d ?k8 ?a9 ?l9 ?c9d ?k9 ?a10 ?l10 ?c10d ?k10 ?a11 ?l11 ?c11d ?k11 ?a12 ?l12 ?c12d ?k12 ?a13 ?l13 ?c13d ?k13 ?a14 ?l14 ?c14d ?k14 ?a15 ?l15 ?c15d ?k15 ?a16 ?l16 ?c16d ?k16 ?a17 ?l17 ?c17d ?k17 ?a18 ?l18 ?c18d ?k18 ?a19 ?l19 ?c19d ?k19 ?a20 ?l20 ?c20d ?k20 ?a21 ?l21 ?c21d ?k21 ?a22 ?l22 ?c22d ?k22 ?a23 ?l23 ?c23d ?k23 ?a24 ?l24 ?c24d ?k24 ?a25 ?l25 ?c25d ?k25 ?a26 ?l26 ?c26d ?k26 ?a27 ?l27 ?c27d ?k27 ?a28 ?l28 ?c28d ?k28 ?a29 ?l29 ?c29d ?k29 ?a30 ?l30 ?c30d ?k30 ?a31 ?l31 ?c31d ?k31 ?a32 ?l32 ?c32d ?k32 ?a33 ?l33 ?c33d ?k33 ?a34 ?l34 ?c34d ?k34 ?a35 ?l35 ?c35d ?k35 ?a36 ?l36 ?c36d ?k36 ?a37 ?l37 ?c37d ?k37 ?a38 ?l38 ?c38d ?k38 ?a39 ?l39 ?c39d ?k39 ?a40 ?l40 ?c40d ?k40 ?gCW ?pgCW ?hdCW ?poCW ?saCW ?mkCW ?kcCW ?nCW_inside ?nCW_asks ?nCW_over ?gCJ ?pgCJ ?hdCJ ?poCJ ?saCJ ?mkCJ ?kcCJ ?nCJ_depth ?nCJ_wires ?nCJ_views ?nCJ_counts ?nCJ_asks ?nCJ_joint ?im0 ?ym0 ?lm0 ?cm0d ?km0 ?im1 ?ym1 ?lm1 ?cm1d ?km1 ?im2 ?ym2 ?lm2 ?cm2d ?km2 ?im3 ?ym3 ?lm3 ?cm3d ?km3 ?im4 ?ym4 ?lm4 ?cm4d ?km4 ?im5 ?ym5 ?lm5 ?cm5d ?km5 ?im6 ?ym6 ?lm6 ?cm6d ?km6 ?im7 ?ym7 ?lm7 ?cm7d ?km7 ?im8 ?ym8 ?lm8 ?cm8d ?km8 ?im9 ?ym9 ?lm9 ?cm9d ?km9 ?z_isinstance ?z_int ?z_bool ?z_tuple ?z_str ?z_len ?z_all ?z_list ?z_abs ?z_range ?z_zip ?z_sorted ?z_repr ?z_enumerate ?z_set ?cst0 ?cst1 ?cst2 ?cst3 ?cst4 ?gCO ?v1 ?v2 ?gEBadViews ?xEBadViews ?kEBadViews ?gEUnfit ?bEBadViews ?tEBadViews ?u1EBadViews ?u2EBadViews ?u3EBadViews ?u4EBadViews ?u5EBadViews ?iEBadViews ?eEBadViews ?bEUnfit ?tEUnfit ?u1EUnfit ?u2EUnfit ?u3EUnfit ?u4EUnfit ?u5EUnfit ?iEUnfit ?eEUnfit ?zS ?zT ?zP ?xEUnfit ?kEUnfit ?j1EUnfit ?j2EUnfit ?j3EUnfit ?j4EUnfit ?j5EUnfit_room ?j5EUnfit_at ?j6EUnfit ?j7EUnfit ?lEUnfit ?cEUnfit ?wEUnfit ?nEUnfit ?dEUnfit ?sEUnfit ?rEUnfit ?aEND ?lEND ?aNUM ?lNUM ?aDOR ?lDOR ?tH39 ?tN39 (PySem.W.km_tabs_of Y 454 (by simp))
    (case a0 => k_is)
    (case l0 => k_is)
    (case c0d => k_is)
    (case k0 => k_is)
    (case a1 => k_is)
    (case l1 => k_is)
    (case c1d => k_is)
    (case k1 => k_is)
    (case a2 => k_is)
    (case l2 => k_is)
    (case c2d => k_is)
    (case k2 => k_is)
    (case a3 => k_is)
    (case l3 => k_is)
    (case c3d => k_is)
    (case k3 => k_is)
    (case a4 => k_is)
    (case l4 => k_is)
    (case c4d => k_is)
    (case k4 => k_is)
    (case a5 => k_is)
    (case l5 => k_is)
    (case c5d => k_is)
    (case k5 => k_is)
    (case a6 => k_is)
    (case l6 => k_is)
    (case c6d => k_is)
    (case k6 => k_is)
    (case a7 => k_is)
    (case l7 => k_is)
    (case c7d => k_is)
    (case k7 => k_is)
    (case a8 => k_is)
    (case l8 => k_is)
    (case c8d => k_is)
    (case k8 => k_is)
    (case a9 => k_is)
    (case l9 => k_is)
    (case c9d => k_is)
    (case k9 => k_is)
    (case a10 => k_is)
    (case l10 => k_is)
    (case c10d => k_is)
    (case k10 => k_is)
    (case a11 => k_is)
    (case l11 => k_is)
    (case c11d => k_is)
    (case k11 => k_is)
    (case a12 => k_is)
    (case l12 => k_is)
    (case c12d => k_is)
    (case k12 => k_is)
    (case a13 => k_is)
    (case l13 => k_is)
    (case c13d => k_is)
    (case k13 => k_is)
    (case a14 => k_is)
    (case l14 => k_is)
    (case c14d => k_is)
    (case k14 => k_is)
    (case a15 => k_is)
    (case l15 => k_is)
    (case c15d => k_is)
    (case k15 => k_is)
    (case a16 => k_is)
    (case l16 => k_is)
    (case c16d => k_is)
    (case k16 => k_is)
    (case a17 => k_is)
    (case l17 => k_is)
    (case c17d => k_is)
    (case k17 => k_is)
    (case a18 => k_is)
    (case l18 => k_is)
    (case c18d => k_is)
    (case k18 => k_is)
    (case a19 => k_is)
    (case l19 => k_is)
    (case c19d => k_is)
    (case k19 => k_is)
    (case a20 => k_is)
    (case l20 => k_is)
    (case c20d => k_is)
    (case k20 => k_is)
    (case a21 => k_is)
    (case l21 => k_is)
    (case c21d => k_is)
    (case k21 => k_is)
    (case a22 => k_is)
    (case l22 => k_is)
    (case c22d => k_is)
    (case k22 => k_is)
    (case a23 => k_is)
    (case l23 => k_is)
    (case c23d => k_is)
    (case k23 => k_is)
    (case a24 => k_is)
    (case l24 => k_is)
    (case c24d => k_is)
    (case k24 => k_is)
    (case a25 => k_is)
    (case l25 => k_is)
    (case c25d => k_is)
    (case k25 => k_is)
    (case a26 => k_is)
    (case l26 => k_is)
    (case c26d => k_is)
    (case k26 => k_is)
    (case a27 => k_is)
    (case l27 => k_is)
    (case c27d => k_is)
    (case k27 => k_is)
    (case a28 => k_is)
    (case l28 => k_is)
    (case c28d => k_is)
    (case k28 => k_is)
    (case a29 => k_is)
    (case l29 => k_is)
    (case c29d => k_is)
    (case k29 => k_is)
    (case a30 => k_is)
    (case l30 => k_is)
    (case c30d => k_is)
    (case k30 => k_is)
    (case a31 => k_is)
    (case l31 => k_is)
    (case c31d => k_is)
    (case k31 => k_is)
    (case a32 => k_is)
    (case l32 => k_is)
    (case c32d => k_is)
    (case k32 => k_is)
    (case a33 => k_is)
    (case l33 => k_is)
    (case c33d => k_is)
    (case k33 => k_is)
    (case a34 => k_is)
    (case l34 => k_is)
    (case c34d => k_is)
    (case k34 => k_is)
    (case a35 => k_is)
    (case l35 => k_is)
    (case c35d => k_is)
    (case k35 => k_is)
    (case a36 => k_is)
    (case l36 => k_is)
    (case c36d => k_is)
    (case k36 => k_is)
    (case a37 => k_is)
    (case l37 => k_is)
    (case c37d => k_is)
    (case k37 => k_is)
    (case a38 => k_is)
    (case l38 => k_is)
    (case c38d => k_is)
    (case k38 => k_is)
    (case a39 => k_is)
    (case l39 => k_is)
    (case c39d => k_is)
    (case k39 => k_is)
    (case a40 => k_is)
    (case l40 => k_is)
    (case c40d => k_is)
    (case k40 => k_is)
    (case gCW => k_is)
    (case pgCW => k_is)
    (case hdCW => k_is)
    (case poCW => k_is)
    (case saCW => k_is)
    (case mkCW => k_is)
    (case kcCW => k_is)
    (case nCW_inside => k_is)
    (case nCW_asks => k_is)
    (case nCW_over => k_is)
    (case gCJ => k_is)
    (case pgCJ => k_is)
    (case hdCJ => k_is)
    (case poCJ => k_is)
    (case saCJ => k_is)
    (case mkCJ => k_is)
    (case kcCJ => k_is)
    (case nCJ_depth => k_is)
    (case nCJ_wires => k_is)
    (case nCJ_views => k_is)
    (case nCJ_counts => k_is)
    (case nCJ_asks => k_is)
    (case nCJ_joint => k_is)
    (case im0 => k_is)
    (case ym0 => k_is)
    (case lm0 => k_is)
    (case cm0d => k_is)
    (case km0 => k_is)
    (case im1 => k_is)
    (case ym1 => k_is)
    (case lm1 => k_is)
    (case cm1d => k_is)
    (case km1 => k_is)
    (case im2 => k_is)
    (case ym2 => k_is)
    (case lm2 => k_is)
    (case cm2d => k_is)
    (case km2 => k_is)
    (case im3 => k_is)
    (case ym3 => k_is)
    (case lm3 => k_is)
    (case cm3d => k_is)
    (case km3 => k_is)
    (case im4 => k_is)
    (case ym4 => k_is)
    (case lm4 => k_is)
    (case cm4d => k_is)
    (case km4 => k_is)
    (case im5 => k_is)
    (case ym5 => k_is)
    (case lm5 => k_is)
    (case cm5d => k_is)
    (case km5 => k_is)
    (case im6 => k_is)
    (case ym6 => k_is)
    (case lm6 => k_is)
    (case cm6d => k_is)
    (case km6 => k_is)
    (case im7 => k_is)
    (case ym7 => k_is)
    (case lm7 => k_is)
    (case cm7d => k_is)
    (case km7 => k_is)
    (case im8 => k_is)
    (case ym8 => k_is)
    (case lm8 => k_is)
    (case cm8d => k_is)
    (case km8 => k_is)
    (case im9 => k_is)
    (case ym9 => k_is)
    (case lm9 => k_is)
    (case cm9d => k_is)
    (case km9 => k_is)
    (case z_isinstance => k_is)
    (case z_int => k_is)
    (case z_bool => k_is)
    (case z_tuple => k_is)
    (case z_str => k_is)
    (case z_len => k_is)
    (case z_all => k_is)
    (case z_list => k_is)
    (case z_abs => k_is)
    (case z_range => k_is)
    (case z_zip => k_is)
    (case z_sorted => k_is)
    (case z_repr => k_is)
    (case z_enumerate => k_is)
    (case z_set => k_is)
    (case cst0 => k_is)
    (case cst1 => k_is)
    (case cst2 => k_is)
    (case cst3 => k_is)
    (case cst4 => k_is)
    (case gCO => k_is)
    (case v1 => k_is)
    (case v2 => k_is)
    (case gEBadViews => k_is)
    (case xEBadViews => kernel_rfl)
    (case kEBadViews => k_is)
    (case gEUnfit => k_is)
    (case bEBadViews => k_is)
    (case tEBadViews => k_is)
    (case u1EBadViews => k_is)
    (case u2EBadViews => k_is)
    (case u3EBadViews => k_is)
    (case u4EBadViews => k_is)
    (case u5EBadViews => k_is)
    (case iEBadViews => kernel_rfl)
    (case eEBadViews => kernel_rfl)
    (case bEUnfit => k_is)
    (case tEUnfit => k_is)
    (case u1EUnfit => k_is)
    (case u2EUnfit => k_is)
    (case u3EUnfit => k_is)
    (case u4EUnfit => k_is)
    (case u5EUnfit => k_is)
    (case iEUnfit => kernel_rfl)
    (case eEUnfit => kernel_rfl)
    (case zS => k_is)
    (case zT => k_is)
    (case zP => kernel_rfl)
    (case xEUnfit => k_is)
    (case kEUnfit => k_is)
    (case j1EUnfit => k_is)
    (case j2EUnfit => kernel_rfl)
    (case j3EUnfit => k_is)
    (case j4EUnfit => first | k_is | kernel_rfl)
    (case j5EUnfit_room => k_is)
    (case j5EUnfit_at => k_is)
    (case j6EUnfit => k_is)
    (case j7EUnfit => k_is)
    (case lEUnfit => k_is)
    (case cEUnfit => k_is)
    (case wEUnfit => k_is)
    (case nEUnfit => k_is)
    (case dEUnfit => k_is)
    (case sEUnfit => rfl)
    (case rEUnfit => kernel_rfl)
    (case aEND => k_is)
    (case lEND => k_is)
    (case aNUM => k_is)
    (case lNUM => k_is)
    (case aDOR => k_is)
    (case lDOR => k_is)
    (case tH39 => kernel_rfl)
    (case tN39 => kernel_rfl)
