import PyProof.Rows.All
import Wide.All
import OpenK.AllK
import Wide.FinOn
import HandS.ForMost
import HandS.Lambda
import HandS.EndTab
import HandS.WordsExc
import HandS.ExcIs
import HandS.ExcOwn
import HandS.Wide
import HandS.IsInst
import HandS.Star
import HandS.WrittenGet
import HandS.DictTup
import HandS.SortInts
import HandS.RaiseMore
import HandS.TupAny
import HandS.Conv
import HandS.Deep
import HandS.Zip
import HandS.More
import HandS.Property
import HandS.IterVal
import HandS.CallLocal
import HandS.TupSets
import PySem.Challenge.RW_ownharm_k55_rows_judged
import KE.KEqSeq
import HandS.Style
import HandS.Walk
import KE.GoesMore
import HandS.ExcInit
import HandS.FStr
import KE.KExcSuper
import HandS.TupLe
import HandS.Small
section
set_option Elab.async false
set_option linter.all false
set_option maxRecDepth 100000
set_option maxHeartbeats 2000000
/-! Calls that know that no repr is under way (guards = some []). -/
namespace OH
open PySem PySem.Spec PyProof.Rows L2
/-- a def's promise, for callers around whom no guard stands -/
structure FnG (P : Program) (w : World) (K : PySem.W.Frag) (mg : Str → Option Value) (base : Heap)
    (CX : CXT) (k : Nat) (f : Addr) (fd : FuncData) (ps : List Str) (sp : Sp) : Prop where
  len : ∀ vs H Q E, sp vs H Q E → vs.length = ps.length
  go : ∀ (A : Around) (out : List Env) (s : Shared) (H : Hp) (ar : Args) (us : List Value)
    (vs : List V) (Q : VK) (E : XK), A.guards = some [] → Room k A → Env0 P w K mg base A out s H →
    BindsTo s fd ar (ps.zip us) → Vals vs us → sp vs H Q E →
    codeAny (model P w) A (.call (.ref f) ar) (CR CX out P w H s Q E) s
theorem fnG_fun {P : Program} {w : World} {K : PySem.W.Frag} {mg : Str → Option Value} {base : Heap}
    {x qual : Str} {st : Stmt} {f : Addr} {fd : FuncData} {N ps : List Str} {k : Nat} {sp : Sp}
    (F : Fun K x qual st f fd) (S : FnScope N ps (defScope st))
    (len : ∀ vs H Q E, sp vs H Q E → vs.length = ps.length)
    (body : ∀ (cdv : Value) (A : Around) (out : List Env) (s : Shared) (H : Hp) (vs : List V) (Q : VK) (E : XK),
      (A.deeper (envOfC qual (defScope st) s.heap.objs.size f cdv)).guards = some [] →
      Room k (A.deeper (envOfC qual (defScope st) s.heap.objs.size f cdv)) → sp vs H Q E →
      ∃ t, PSs (cxOf CX0 P w K mg base N qual (defScope st) f cdv A out s H E).nox (defBody st) t ∧
        t { nx := fun _ H' => Q .non H', rt := Q } (start N vs) H) :
    FnG P w K mg base CX0 (k + 1) f fd ps sp := by
  obtain ⟨oc, od, kV, doc, pm, an, cdv, ct, osl, rfl, lk, hcd⟩ := F.ex
  refine ⟨len, fun A out s H ar us vs Q E hg hr e0 hb r hs => ?_⟩
  refine LamX.run_ofS lk hcd S hr e0 hb r (len _ _ _ _ hs) fun hr' => ?_
  obtain ⟨t, h1, h2⟩ := body cdv A out s H vs Q E hg hr' hs
  exact ⟨t, h1.nox, h2⟩
section
variable {X : Cx} {CX : CXT} {k : Nat} {f : Addr} {fd : FuncData} {ps : List Str} {sp : Sp} {E : XK}
  {x : Str} {p pos : Pos} {e : Expr} {es : List Expr} {t : TA}
theorem runG {pins : List (Addr × Obj)} {σ : L2.St} {H : Hp} {s : Shared} {Q : VK} {us : List Value}
    {vs : List V} (F : FnG X.prog X.w X.K X.mg X.base CX k f fd ps sp) (gd : X.A.guards = some [])
    (hr : Room k X.A) (hb : Binds X.K fd ps []) (hx : Passes CX X E) (I : Inv X pins σ H s) (r : Vals vs us)
    (h : sp vs H Q E) : wpAny (model X.prog X.w) X.A (call (.ref f) us) (EP X pins σ Q) X.xe s := by
  have n : (us ++ ([] : List Value)).length = ps.length := by
    rw [List.append_nil, ← r.length]
    exact F.len _ _ _ _ h
  have b := hb s us I.kIn n
  rw [List.append_nil] at b
  refine wpAny_call (codeAny_mono (F.go X.A X.stack s H ⟨us, []⟩ us vs Q E gd hr I.env0 b r h) fun res s2 done => ?_)
  rcases res with er | fl
  · exact hx pins σ H s er s2 I done
  · cases fl with
    | ret u => exact I.after done
    | _ => exact False.elim done
theorem pe_callG (F : FnG X.prog X.w X.K X.mg X.base CX k f fd ps sp) (gd : X.A.guards = some [])
    (hr : Room k X.A) (hg : Gl X x) (hm : X.mg x = some (.ref f)) (hk : PySem.W.keepIn X.K (.ref f) = true)
    (hb : Binds X.K fd ps []) (hx : Passes CX X E) (ha : PA X (e :: es) t)
    (hdb : (x == ("__debug__" : Str)) = false := by decide)
    (he : starEach (e :: es) X.env = (false, eval e X.env) :: starEach es X.env := by rfl)
    (hpl : (backTo pos (starEach es X.env)).any (·.1) = false := by rfl) :
    PE X (.Call (.Name x p) (e :: es) [] pos) (tCall sp [] E t) := by
  constructor
  intro pins s σ H Q I h
  refine wpAny_Call_Name_kw (ld_glob I hg hm ?_ hdb)
  refine PySem.W.callWith_K (h₀ := X.base) I.ok.mod.kin hk ?_ he hpl
  refine thn (ha.run pos pins s σ H _ I h) ?_
  rintro us s1 ⟨vs, H1, I1, r, q⟩
  refine ⟨I1.kIn, runG F gd hr hb hx I1 r ?_⟩
  have z : vs ++ ([] : List V) = vs := List.append_nil vs
  have q' : sp (vs ++ []) H1 Q E := q
  rw [z] at q'
  exact q'
end
/-- the law's call at the very caller, tables of code objects told -/
theorem law_callG {P : Program} {w : World} {K : PySem.W.Frag} {mg mb : Str → Option Value} {k : Nat}
    {fa a : Addr} {cs : List (Addr × Addr)} {fd : FuncData} {x : Str} {sp : Sp} {s₁ : Shared} {vs : List Value}
    {ns : List Int} (KX : K.In s₁.heap) (hns : s₁.heap.Ns mainGlobals mg) (hb : s₁.heap.Ns builtinsNs mb)
    (hbb : ∀ x : Str, x ≠ "__name__" → mb x = bootBuiltins x) (hlim : s₁.heap.NoLimit) (hg : s₁.gens = #[])
    (hT : ∀ p ∈ cs, s₁.heap.get? p.2 = some { cls := .none, data := .fields #[] })
    (nT : ∀ p ∈ cs, K.lookup p.2 = none) (C : ∀ p ∈ cs, PySem.W.CodeHd s₁.heap p.1 p.2)
    (hbm : ∃ (bm : Addr) (ob : Obj), mg "__builtins__" = some (.ref bm) ∧ bm ≠ builtinsNs ∧ s₁.heap.get? bm = some ob ∧
      ob.cls = .type "module" ∧ ob.dict = some builtinsNs ∧ ob.data = .plain)
    (ha : s₁.heap.get? a = some { cls := .type "list", data := .seq vs.toArray }) (hi : IntsAre vs ns)
    (hl : ns.length ≤ sizeLine) (hr : Room k callerA)
    (F : ∀ base : Heap, K.In base → base.Ns mainGlobals mg → (∀ p ∈ cs, LamX.TabB base mg p.1 p.2) →
      FnG P w K mg base CX0 k fa fd [x] sp)
    (hbind : ∀ (s : Shared) (u : Value), BindsTo s fd ⟨[u], []⟩ [(x, u)])
    (hsp : ∀ H : Hp, (∀ p ∈ cs, H p.2 = some (.tbl #[])) → SqL K H a (ns.map V.int) →
      sp [.ref a] H (fun v _ => v = .bl true) fun _ _ _ => False) :
    codeAny (model P w) callerA (.call (.ref fa) ⟨[.ref a], []⟩)
      (fun r s' => r = .ok (.ret (.bool true)) ∧ OldK s₁.heap s'.heap ∧ s'.os = s₁.os ∧ AllBare s'.gens) s₁ := by
  have rv := vals_ints hi
  have nvs := hi.length
  let tb : List Addr := cs.map (·.2)
  have tb_of : ∀ {p}, p ∈ cs → p.2 ∈ tb := fun {p} hp => List.mem_map.mpr ⟨p, hp, rfl⟩
  have tbE : ∀ {b}, b ∈ tb → s₁.heap.get? b = some { cls := .none, data := .fields #[] } := fun {b} hb => by
    obtain ⟨p, hp, e⟩ := List.mem_map.mp hb
    exact e ▸ hT p hp
  have aNt : a ∉ tb := fun z => by
    have q := (tbE z).symm.trans ha
    have q2 : Data.fields #[] = Data.seq vs.toArray _ := congrArg Obj.data (Option.some.inj q)
    exact nomatch q2
  let frz : HO := .frz { cls := .type "list", data := .seq vs.toArray } (.lst (ns.map V.int))
  let H : Hp := fun b => if b ∈ tb then some (.tbl #[]) else if b = a ∧ K.lookup a = none then some frz else none
  have H_tb : ∀ {b}, b ∈ tb → H b = some (.tbl #[]) := fun {b} hb => if_pos hb
  have H_cases : ∀ b o, H b = some o → (b ∈ tb ∧ o = .tbl #[]) ∨ (b = a ∧ K.lookup a = none ∧ o = frz) := fun b o e => by
    by_cases h1 : b ∈ tb
    · exact .inl ⟨h1, (Option.some.inj ((H_tb h1).symm.trans e)).symm⟩
    · have e1 : (if b = a ∧ K.lookup a = none then some frz else none) = some o := (if_neg h1).symm.trans e
      by_cases h2 : b = a ∧ K.lookup a = none
      · rw [if_pos h2] at e1
        exact .inr ⟨h2.1, h2.2, (Option.some.inj e1).symm⟩
      · rw [if_neg h2] at e1
        cases e1
  have okA : ObjOk P w H s₁.heap a frz := ⟨ha, by rw [List.length_map]; exact hl, vs, _, rv, ha⟩
  have hok : HOk P w H s₁.heap := fun b o e => by
    rcases H_cases b o e with ⟨h1, rfl⟩ | ⟨rfl, _, rfl⟩
    · exact tbE h1
    · exact okA
  have hS : SqL K H a (ns.map V.int) := by
    cases hk : K.lookup a with
    | none => exact .inl (.inr ⟨_, (if_neg aNt).trans (if_pos ⟨rfl, hk⟩)⟩)
    | some o =>
      have e := KX a o hk
      rw [ha] at e
      cases e
      exact .inr ⟨_, vs.toArray, _, hk, rfl, rfl, rfl, by rw [List.size_toArray, nvs]; exact hl, by simpa using rv⟩
  -- what is no seq and no empty fields is not tracked
  have off : ∀ {b : Addr} {o : Obj}, s₁.heap.get? b = some o → (∀ vs n, o.data ≠ .seq vs n) → o.data ≠ .fields #[] → H b = none := fun {b o} e h1 h2 => by
    cases q : H b with
    | none => rfl
    | some u =>
      rcases H_cases b u q with ⟨z, _⟩ | ⟨z, _, _⟩
      · rw [tbE z] at e
        cases e
        exact (h2 rfl).elim
      · rw [z, ha] at e
        cases e
        exact (h1 _ _ rfl).elim
  have seen : ∀ {b : Addr} {o : Obj}, s₁.heap.get? b = some o → (∀ vs n, o.data ≠ .seq vs n) → o.data ≠ .fields #[] → (hidT s₁.heap H).get? b = some o := fun e h1 h2 => hidT_get e (off e h1 h2)
  have seenNs : ∀ {b : Addr} {m : Str → Option Value}, s₁.heap.Ns b m → (hidT s₁.heap H).Ns b m := fun {b m} ⟨o, es, ep, e, d, r⟩ =>
    ⟨o, es, ep, seen e (fun _ _ z => by rw [d] at z; exact nomatch z) (fun z => by rw [d] at z; exact nomatch z), d, r⟩
  have kin : K.In (hidT s₁.heap H) := fun b o e => hidT_get (KX b o e) (by
    cases q : H b with
    | none => rfl
    | some u =>
      rcases H_cases b u q with ⟨z, _⟩ | ⟨z, z2, _⟩
      · obtain ⟨p, hp, ep⟩ := List.mem_map.mp z
        have n := nT p hp
        rw [ep, e] at n
        cases n
      · rw [z, z2] at e
        cases e)
  have hM : Mod K mg (hidT s₁.heap H) := by
    obtain ⟨mc, l1, l2⟩ := hlim
    exact ⟨kin, seenNs hns, ⟨mb, seenNs hb, hbb⟩, ⟨mc, seenNs l1, l2⟩⟩
  have TB : ∀ p ∈ cs, LamX.TabB (hidT s₁.heap H) mg p.1 p.2 := fun p hp => by
    have hTp := hT p hp
    constructor
    · obtain ⟨o, us, file, tf, flags, tg, inF, text, tt, e1, r1, r2, r3, rest⟩ := C p hp
      refine ⟨o, us, file, tf, flags, tg, inF, text, tt, seen e1 (fun _ _ z => by rw [r2] at z; exact nomatch z) (fun z => ?_), r1, r2, r3, rest⟩
      rw [r2] at z
      cases z
      simp at r3
    · obtain ⟨bm, ob, b1, b2, b3, b4, b5, b6⟩ := hbm
      refine ⟨bm, ob, b1, b2, fun q => ?_, fun q => ?_, seen b3 (fun _ _ z => by rw [b6] at z; exact nomatch z) (fun z => by rw [b6] at z; exact nomatch z), b4, b5, b6⟩
      · obtain ⟨o, es, ep, e, hd, _⟩ := hns
        rw [q, e] at b3
        cases b3
        rw [hd] at b6
        cases b6
      · rw [q, hTp] at b3
        cases b3
        cases b6
    · intro z
      obtain ⟨o, es, ep, e, hd, _⟩ := hns
      rw [z, hTp] at e
      cases e
      cases hd
  have e0 : Env0 P w K mg (hidT s₁.heap H) callerA [] s₁ H :=
    ⟨rfl, hM, fun _ _ e => of_hidT e, Nat.le_of_eq (hidT_size _ _), trivial, fun b z => absurd (show b ∈ ([] : List Addr) from z) List.not_mem_nil, hok, .of_eq hg⟩
  refine codeAny_mono ((F _ kin (seenNs hns) TB).go callerA [] s₁ H ⟨[.ref a], []⟩ [.ref a] [.ref a] _ _ rfl hr e0 (hbind s₁ (.ref a)) (.cons rfl .nil) (hsp H (fun p hp => H_tb (tb_of hp)) hS)) ?_
  rintro (er | fl) s2 h
  · exact False.elim h
  · obtain ⟨u, rfl⟩ : ∃ u, fl = .ret u := by
      cases fl with
      | ret u => exact ⟨u, rfl⟩
      | _ => exact False.elim h
    obtain ⟨v, H', os, bare, un, hok', r', q⟩ := h
    have q' : v = .bl true := q
    subst q'
    obtain rfl : u = Value.bool true := r'
    have grown : ∀ {b}, b ∈ tb → ∃ more : Array Value, s2.heap.get? b = some { cls := .none, data := .fields more } := fun {b} hb => by
      obtain ⟨more, z⟩ := un.tbls b #[] (H_tb hb)
      exact ⟨_, hok' b _ z⟩
    have kept : ∀ {b o}, b ∉ tb → s₁.heap.get? b = some o → s2.heap.get? b = some o := fun {b o} nb e => by
      cases q : H b with
      | none => exact un.keep b o e q (fun z => nomatch (show b ∈ ([] : List Addr) from z)) (by simp)
      | some u =>
        rcases H_cases b u q with ⟨z, _⟩ | ⟨rfl, _, rfl⟩
        · exact absurd z nb
        · have z2 := un.frzs b _ _ q
          obtain ⟨e2, _⟩ := hok' b _ z2
          rw [ha] at e
          cases e
          exact e2
    refine ⟨rfl, ⟨fun b o e => ?_, fun b o e => ?_⟩, os, bare⟩
    · by_cases hb : b ∈ tb
      · obtain ⟨more, hm⟩ := grown hb
        obtain ⟨p, hp, ep⟩ := List.mem_map.mp hb
        have c1 := ((C p hp).tab (hT p hp)).isCodeTable
        rw [tbE hb] at e
        cases e
        rw [← ep] at hm ⊢
        exact .inr (.inl ⟨c1, rfl, #[], more, rfl, by rw [Array.empty_append]; exact hm⟩)
      · exact .inl (kept hb e)
    · by_cases hb : b ∈ tb
      · obtain ⟨more, hm⟩ := grown hb
        exact ⟨_, hm⟩
      · exact ⟨o, kept hb e⟩
/-- what the head must tell of the law -/
def LawAtG (l : PySem.W.OpenLaw) (w : World) (K : PySem.W.Frag) (k n : Nat) (x : Str) (mg : Str → Option Value) (fa : Addr) (h : Heap) : Prop :=
  ∃ (fd : FuncData) (cs : List (Addr × Addr)) (sp : Sp),
    (∀ p ∈ cs, h.get? p.2 = some { cls := .none, data := .fields #[] } ∧ K.lookup p.2 = none ∧ PySem.W.CodeHd h p.1 p.2) ∧
    (∀ (s : Shared) (u : Value), BindsTo s fd ⟨[u], []⟩ [(x, u)]) ∧
    (∀ (H : Hp) (a : Addr) (ns : List Int), ns.length ≤ n → (∀ z ∈ ns, Builtin.Int.intBits z ≤ 1048576) →
      (∀ p ∈ cs, H p.2 = some (.tbl #[])) → SqL K H a (ns.map V.int) → sp [.ref a] H (fun v _ => v = .bl true) fun _ _ _ => False) ∧
    ∀ base : Heap, K.In base → base.Ns mainGlobals mg → (∀ p ∈ cs, LamX.TabB base mg p.1 p.2) → FnG l.prog w K mg base CX0 k fa fd [x] sp
theorem walk_ofG {l : PySem.W.OpenLaw} {n k : Nat} {q : Program} {loose : List Str} {XP : (Str → Option Value) → Heap → Prop}
    {YP : World → Heap → Prop} {d : DefRec} {K : Params → PySem.W.Frag} {x : Str} (hn : l.most = some n) (hn2 : n ≤ sizeLine)
    (hdf : d.params.defaults = []) (hr : Room k callerA) (hY : ∀ (w : World) (h : Heap), YP w h → (K w.params).In h)
    (F : ∀ (w : World) (mg : Str → Option Value) (fa : Addr) (h : Heap), YP w h → (K w.params).In h → h.Ns mainGlobals mg →
      mg d.name = some (.ref fa) → LawAtG l w (K w.params) k n x mg fa h) :
    PySem.W.WalkO q loose XP YP l.row.toRowW d [] (fun f vs => PySem.call f vs) := by
  refine Att.attach_callB hn hdf fun w s₀ s₁ mg mb fa o pm cd doc a vs ns G Y ho hd hcd hmg hobj hints hlen hbits hg => ?_
  have KX := hY w _ Y
  obtain ⟨fd, cs, sp, hT, hb, hsp, hF⟩ := F w mg fa _ Y KX G.T.g hmg
  exact law_callG KX G.T.g G.T.b G.T.builtins G.T.nolimit hg (fun p hp => (hT p hp).1) (fun p hp => (hT p hp).2.1) (fun p hp => (hT p hp).2.2)
    G.T.bmain hobj hints (Nat.le_trans hlen hn2) hr hF hb (fun H hH hS => hsp H a ns hlen hbits hH hS)
end OH
end
section
set_option Elab.async false
set_option linter.all false
set_option maxRecDepth 100000
set_option maxHeartbeats 2000000
/-! An error that a handler keeps under another name: tracked from there on. -/
namespace OH
open PySem PySem.Spec PyProof.Rows L2
/-- an exception object of the class cls that some name holds -/
def ExI (cls : Value) (a : Addr) : HO := .ext fun h => ∃ (oe : Obj) (vs : Array Value), h.get? a = some oe ∧ Zc cls none oe ∧ oe.data = .fields vs
section
variable {X : Cx} {pins : List (Addr × Obj)} {σ : L2.St} {H : Hp} {s : Shared}
/-- an object that nothing tracked so far is tracked from now on -/
theorem track {a : Addr} {oe : Obj} {o : HO} (I : Inv X pins σ H s) (ha : s.heap.get? a = some oe) (na : H a = none)
    (n0 : X.s_0.heap.get? a = none) (nL : a ≠ X.env.locals) (nc : ∀ v, oe.data ≠ .cell v) (np : ∀ p ∈ X.pn ++ pins, p.1 ≠ a)
    (new : ObjOk X.prog X.w (upd H a o) s.heap a o) : Inv X pins σ (upd H a o) s := by
  have off0 : ∀ {b u}, X.s_0.heap.get? b = some u → b ≠ a := fun {b u} e z => by
    rw [z, n0] at e
    cases e
  have offH : ∀ {b u}, H b = some u → b ≠ a := fun {b u} e => ne_of_none e na
  constructor
  · exact I.ok
  · exact I.os
  · exact I.bare
  · constructor
    · exact I.base.keep
    · exact I.base.slot
    · intro b u e n hx
      exact (upd_ne (off0 e)).trans (I.base.free b u e n hx)
    · exact I.base.there
    · intro b xs e
      have q := I.base.tups b xs e
      exact (upd_ne (offH q)).trans q
    · intro b u v e
      have q := I.base.frzs b u v e
      exact (upd_ne (offH q)).trans q
    · intro b ps e
      obtain ⟨more, q⟩ := I.base.tbls b ps e
      exact ⟨more, (upd_ne (offH q)).trans q⟩
  · exact I.loc
  · exact I.cell
  · exact (upd_ne (Ne.symm nL)).trans I.free
  · intro x c e
    obtain ⟨v, oc, q1, q2⟩ := I.cell x c e
    have z : c ≠ a := fun z => by
      rw [z, ha] at q1
      cases q1
      exact nc _ q2
    exact (upd_ne z).trans (I.freeC x c e)
  · intro p hp
    obtain ⟨p1, p2, p3⟩ := I.pin p hp
    exact ⟨p1, (upd_ne (np p hp)).trans p2, p3⟩
  · intro b u e
    by_cases hb : b = a
    · subst hb
      rw [upd_same] at e
      cases e
      exact new
    · rw [upd_ne hb] at e
      exact (I.hok b u e).stay (fun _ _ _ q => q) (fun c q => (upd_ne (offH q)).trans q) (fun c xs q => (upd_ne (offH q)).trans q)
  · exact I.len
/-- what a handler that keeps its error wishes of an error of the body -/
def wKeep (K : PySem.W.Frag) (c : Value) (i : Nat) (ts : Addr → Value → TS) (D : Ends) : WX := fun cls d σ H =>
  d = none ∧ PySem.W.exmOne K cls c = some true ∧ ∀ a, H a = none →
    ts a cls { nx := fun σ' H' => D.nx (σ'.set i none) (upd H' a (ExI cls a)), rt := fun _ _ => False, bk := fun _ _ => False, ct := fun _ _ => False } (σ.set i (some (.ref a))) H
variable {x n : Str} {c : Value} {i : Nat} {body suite : List Stmt} {b₀ : Stmt} {np pos pos' : Pos} {tb : WX → TS} {ts : Addr → Value → TS}
/-- try: body / except x as n: suite, behind which the error is held -/
theorem ps_try_keep (hs : X.stack = X.env :: X.outer) (hf : X.env.frame = some X.env.locals) (hex : X.ex = []) (hN : X.N.Nodup) (hi : X.N[i]? = some n)
    (hln : X.env.kindOf n = some .local) (hc : Names X x c)
    (hb : ∀ (W : WX) (pn : List (Addr × Obj)) (xe : Value → Shared → Prop), Takes (X.tr pn xe) W → PassesOwn (model X.prog X.w) X.A X.env xe → PSs (X.tr pn xe) body (tb W))
    (hsu : ∀ (a : Addr) (oe : Obj) (cls : Value) (pn : List (Addr × Obj)), Zc cls none oe → (∃ vs, oe.data = .fields vs) → PSs (X.suite a ((a, oe) :: pn)) (b₀ :: suite) (ts a cls)) :
    PS X (.Try body [.ExceptHandler (some (.Name x np)) (some n) (b₀ :: suite) pos'] [] [] pos) (fun D σ H => tb (wKeep X.K c i ts D) D σ H) := by
  constructor
  intro pins s σ H D I h
  have ok := I.ok
  have frm : X.A.frames = some (X.env :: X.outer) := ok.frames.trans (by rw [hs])
  apply wpAny_Try_except
  refine wpAny_mono ((hb (wKeep X.K c i ts D) (X.pn ++ pins)
    (fun e s₁ => wpAny (model X.prog X.w) X.A (noteFrame e X.env)
      (fun _ s₂ => wpAny (model X.prog X.w) X.A (setFlight e none)
        (fun _ s₃ => wpAny (model X.prog X.w) X.A (handleBy e X.env [.ExceptHandler (some (.Name x np)) (some n) (b₀ :: suite) pos']) (SP X pins D) X.xe s₃) X.xe s₂) X.xe s₁)
    ?took PassesOwn.looking).run [] s σ H D (I.toTry _) h) ?went (fun _ _ he => he)
  case went =>
    rintro (_ | _ | _ | u) s1 hsp
    · obtain ⟨σ', H', J, q⟩ := hsp
      exact wpAny_execs_nil ⟨σ', H', J.ofTry ok, q⟩
    · obtain ⟨σ', H', J, q⟩ := hsp
      exact ⟨σ', H', J.ofTry ok, q⟩
    · obtain ⟨σ', H', J, q⟩ := hsp
      exact ⟨σ', H', J.ofTry ok, q⟩
    · obtain ⟨v, σ', H', J, r, q⟩ := hsp
      exact ⟨v, σ', H', J.ofTry ok, r, q⟩
  case took =>
    rintro u s' ⟨a, B, sI, pins', σ', H', cls, d, rfl, J', nb, up, sky, na, os, ag, rfl, hm1, hyes⟩
    have J : Inv X pins σ' H' sI := J'.ofTry ok
    rw [show (X.tr (X.pn ++ pins) _).stack = X.env :: X.outer from hs] at sky
    show wpAny (model X.prog X.w) X.A (noteFrame (.ref a) X.env) _ _ _
    refine Sky.land Zc.steady frm hf sky fun h3 fl3 up3 => ?_
    obtain ⟨oe3, vs3, he3, hz3, hd3⟩ := fl3.there
    have Ba : B.get? a = none := fl3.2.1
    have aNf : a ∉ frs (X.env :: X.outer) := fun hm => by
      obtain ⟨_, o', e', hnf⟩ := fl3.2.2.1.mem hm
      rw [he3] at e'
      cases e'
      exact hnf _ hd3
    have aNs : a ∉ frs X.stack := by
      rw [hs]
      exact aNf
    have nL : a ≠ X.env.locals := fun z => aNf (List.mem_filterMap.mpr ⟨X.env, List.mem_cons_self, hf.trans (congrArg some z.symm)⟩)
    have nF : a ∉ X.fs := fun hm => by
      obtain ⟨en, he, q⟩ := List.mem_filterMap.mp hm
      exact aNf (List.mem_filterMap.mpr ⟨en, List.mem_cons_of_mem _ he, q⟩)
    have gI : sI.heap.get? a = none := by
      cases e : sI.heap.get? a with
      | none => rfl
      | some o => exact absurd ((nb a o e aNs).symm.trans Ba) (fun z => nomatch z)
    have g0 : X.s_0.heap.get? a = none := by
      cases e : X.s_0.heap.get? a with
      | none => rfl
      | some o =>
        obtain ⟨o', q⟩ := J.base.there a o e (by rw [hex]; exact List.not_mem_nil)
        rw [gI] at q
        cases q
    have pNa : ∀ p ∈ X.pn ++ pins, p.1 ≠ a := fun p hp z => by
      have q := (J.pin p hp).1
      rw [z, gI] at q
      cases q
    have J3 : Inv X pins σ' H' { s' with heap := h3 } := J.landed nb fl3.1 (up.trans up3) os ag
    have S3 := J3.suite he3 hd3 na nL nF
    refine wpAny_handleBy_cons (codeAny_handlers_test ?_) (by intro q; cases q)
    have tyA : PySem.W.Looks (model X.prog X.w) h3 (typeOf (.ref a)) cls := fun A Q E s k q => wpAny_typeOf_ref (k _ _ he3) (by rw [hz3.1]; exact q)
    have fit := PySem.W.exm_one (M := model X.prog X.w) J3.kIn tyA hm1
    have named : ∀ {Q : Value → Shared → Prop} {E : Value → Shared → Prop}, Q c { s' with heap := h3 } →
        wpAny (model X.prog X.w) (X.A.mark (some (.ref a))) (eval (.Name x np) X.env) Q E { s' with heap := h3 } := fun {Q E} q => by
      obtain ⟨hg, hdbg, hm | ⟨hm, hv, hnn⟩⟩ := hc
      · exact ld_glob (X := X.suite a ((a, oe3) :: (X.pn ++ pins))) S3 hg hm q hdbg
      · exact ld_blt (X := X.suite a ((a, oe3) :: (X.pn ++ pins))) S3 hg hm hv q hnn hdbg
    refine named (fit.here ?_)
    refine codeAny_handlers_suite_as ?_
    refine HandSPX.lands_againZ fl3 fun h4 fl4 up4 => ?_
    obtain ⟨oe4, vs4, he4, hz4, hd4⟩ := fl4.there
    have J4 : Inv X pins σ' H' { s' with heap := h4 } := J.landed nb fl4.1 ((up.trans up3).trans up4) os ag
    have S4 := J4.suite he4 hd4 na nL nF
    refine store_ok (X := X.suite a ((a, oe4) :: (X.pn ++ pins))) (v := .ref a) S4 hN hi (Or.inl hln) rfl (fun s5 S5 => ?_) (.inr hln)
    refine wpAny_mono ((hsu a oe4 cls (X.pn ++ pins) hz4 ⟨_, hd4⟩).run [] s5 _ H' _ S5 (hyes a na)) ?_ (fun _ _ z => False.elim z)
    rintro (_ | _ | _ | u) s6 hsp
    · obtain ⟨σ6, H6, S6, q6⟩ := hsp
      obtain ⟨g6, n6, _⟩ := S6.pin (a, oe4) (List.mem_append_left _ List.mem_cons_self)
      have T6 := track (o := ExI cls a) (S6.unsuite ok) g6 n6 g0 nL (fun v z => nomatch (hd4.symm.trans z)) pNa
        ⟨⟨oe4, vs4, g6, hz4, hd4⟩, ⟨oe4, g6⟩, fun _ _ ⟨o, v, q, r⟩ k => ⟨o, v, k o q, r⟩⟩
      exact gone_ok T6 hN hi hln fun s7 J7 => ⟨_, _, J7, q6⟩
    all_goals
      first
        | (obtain ⟨_, _, _, q6⟩ := hsp; exact False.elim q6)
        | (obtain ⟨_, _, _, _, _, q6⟩ := hsp; exact False.elim q6)
/-- isinstance(e, c), e an error that is held -/
theorem call_isH {D : Addr} (C : ExcC X.K D) : CallR X (.builtin "isinstance") (fun xs H Q => ∃ (a : Addr) (c : V) (cv : Value) (b : Bool),
    xs = [.ref a, c] ∧ H a = some (ExI (.ref D) a) ∧ (∀ u, RelV c u → u = cv) ∧ PySem.W.kitOne X.K (.ref D) cv = some b ∧ Q (.bl b) H) := by
  rintro pins s σ H xs us Q I r ⟨a, c, cv, b, rfl, hA, hcv, e, q⟩
  obtain ⟨⟨oe, vs, g, hz, hd⟩, _, _⟩ := I.hok a _ hA
  rcases r with _ | ⟨rx, rr⟩
  rcases rr with _ | ⟨rt, rr⟩
  cases rr
  obtain rfl : _ = Value.ref a := rx
  obtain rfl := hcv _ rt
  obtain ⟨oc, od, oda, osl⟩ := oe
  obtain ⟨z1, z2⟩ := hz
  dsimp only at z1 z2 hd
  subst z1 z2 hd
  have at_ : PySem.W.InstAt s.heap a ⟨.ref D, none, .fields vs, osl⟩ D none := ⟨g, rfl, rfl, trivial⟩
  exact PySem.W.kia_one (PySem.W.handS_kitx_exc C.hg C.hk C.hs C.hd C.ha C.hn C.ht C.hm) I.kIn at_ e (fun z => nomatch z)
    fun tk => ⟨.bl b, H, I.kept (t' := tk) fun _ _ z => z, rfl, q⟩
/-- told: found = None / try: a() / except x as e: found = e / return found -/
def TTk (K : PySem.W.Frag) (CS : Addr) : (XK → Hp → VK → Prop) → Hp → VK → Prop := fun tl H Q => ∀ Q' : VK, (∀ v H1, Q .non H1 → Q' v H1) →
  tl (fun cls d H' => d = none ∧ PySem.W.exmOne K cls (.ref CS) = some true ∧ ∀ a, H' a = none → Q (.ref a) (upd H' a (ExI cls a))) H Q'
end
end OH
end
section
set_option Elab.async false
set_option linter.all false
set_option maxRecDepth 100000
set_option maxHeartbeats 4000000
namespace OH
open PySem PySem.Spec PyProof.Rows L2
def top (i : Nat) : Stmt := PySem.Challenge.pw_ownharm_k55_rows_judged.main.body.getD i (.Pass ⟨0, 0, 0, 0⟩)
abbrev s_is_whole : Stmt := top 9
abbrev s_is_tuple : Stmt := top 10
abbrev s_all_unlike : Stmt := top 11
abbrev s_are_wires : Stmt := top 13
abbrev s_RowWalk___init__ : Stmt := inClass (top 17) 0
abbrev s_RowWalk_fields : Stmt := inClass (top 17) 1
abbrev s_RowWalk_can_follow : Stmt := inClass (top 17) 2
abbrev s_RowWalk_take : Stmt := inClass (top 17) 3
abbrev s_good_row : Stmt := top 18
abbrev s_walked : Stmt := top 19
abbrev s_good_face : Stmt := top 20
abbrev s_is_row : Stmt := top 22
abbrev s_is_face : Stmt := top 23
abbrev s_need_row : Stmt := top 24
abbrev s_need_face : Stmt := top 25
abbrev s_control_of : Stmt := top 26
abbrev s_open_of : Stmt := top 27
abbrev s_fits_in : Stmt := top 28
abbrev s_fits : Stmt := top 29
abbrev s__law_begun : Stmt := top 31
abbrev s__law_mixed : Stmt := top 32
abbrev s__law_draw : Stmt := top 33
abbrev s__law_pick : Stmt := top 34
abbrev s__law_shuffled : Stmt := top 35
abbrev s__law_small : Stmt := top 36
abbrev s__law_caught : Stmt := top 37
abbrev s__law_drawn_face : Stmt := top 38
abbrev s__law_next : Stmt := top 39
abbrev s__law_behind : Stmt := top 40
abbrev s__law_few : Stmt := top 41
abbrev s__law_drawn_row : Stmt := top 42
abbrev s__law_behind_row : Stmt := top 43
abbrev s__law_is_count : Stmt := top 44
abbrev s__law_is_crossing : Stmt := top 45
abbrev s__law_may_follow : Stmt := top 46
abbrev s__law_judged : Stmt := top 47
abbrev s__law_fitting : Stmt := top 48
abbrev s__law_spoilt_item : Stmt := top 49
abbrev s__law_spoilt_row : Stmt := top 50
abbrev s__law_rows_hold : Stmt := top 51
abbrev s__law_face_judged : Stmt := top 52
abbrev s__law_spoilt_face : Stmt := top 53
abbrev s__law_bound_holds : Stmt := top 54
abbrev s_law : Stmt := top 55
end OH
end
section
set_option Elab.async false
set_option linter.all false
set_option maxRecDepth 100000
set_option maxHeartbeats 8000000
namespace OH
open PySem PySem.Spec PyProof.Rows L2
/-- what stands at the addresses outside S stays -/
def Kept (S : List Addr) (H H' : Hp) : Prop := ∀ q o, H q = some o → q ∉ S → H' q = some o
theorem Kept.refl {S : List Addr} {H : Hp} : Kept S H H := fun _ _ e _ => e
theorem Kept.trans {S : List Addr} {H H' H2 : Hp} (a : Kept S H H') (b : Kept S H' H2) : Kept S H H2 := fun q o e n => b q o (a q o e n) n
theorem Kept.mono {S T : List Addr} {H H' : Hp} (a : Kept S H H') (h : ∀ q ∈ S, q ∈ T) : Kept T H H' := fun q o e n => a q o e fun z => n (h q z)
theorem Kept.upd {S : List Addr} {H H' : Hp} (a : Kept S H H') {p : Addr} {o : HO} (hp : p ∈ S) : Kept S H (upd H' p o) := fun q u e n => by
  have ne : q ≠ p := fun z => n (by rw [z]; exact hp)
  rw [upd_ne ne]
  exact a q u e n
theorem Kept.new {S : List Addr} {H H' : Hp} (a : Kept S H H') {p : Addr} {o : HO} (hp : H' p = none) : Kept S H (L2.upd H' p o) := fun q u e n => by
  have e1 := a q u e n
  rw [upd_ne (ne_of_none e1 hp)]
  exact e1
theorem Kept.same {S : List Addr} {H H' H2 : Hp} (a : Kept S H H') (b : Same H' H2) : Kept S H H2 := fun q u e n => b _ _ (a q u e n)
/-- pairs of whole numbers at addresses -/
inductive PairsAt (H : Hp) : List Addr → List (Int × Int) → Prop where
  | nil : PairsAt H [] []
  | cons {p : Addr} {q : Int × Int} {ps : List Addr} {ws : List (Int × Int)} : H p = some (.tup [.int q.1, .int q.2]) → PairsAt H ps ws → PairsAt H (p :: ps) (q :: ws)
theorem PairsAt.mono {H H' : Hp} {ps : List Addr} {ws : List (Int × Int)} (h : PairsAt H ps ws) (k : ∀ q xs, H q = some (.tup xs) → H' q = some (.tup xs)) : PairsAt H' ps ws := by
  induction h with
  | nil => exact .nil
  | cons a _ ih => exact .cons (k _ _ a) ih
def pairD (q : Int × Int) : PyData := .tuple [.int q.1, .int q.2]
theorem PairsAt.dp {K : PySem.W.Frag} {H : Hp} {ps : List Addr} {ws : List (Int × Int)} (h : PairsAt H ps ws) : DpAll K H (ps.map V.ref) (ws.map pairD) := by
  induction h with
  | nil => exact .nil
  | cons a _ ih => exact .cons (.tup (SqT.of a) (.cons (.int _) (.cons (.int _) .nil))) ih
theorem op_inDT {X : Cx} (hu : X.A.units + 65 < cLine) : OpR X (compareOp .In) (fun x y H Q => ∃ d ds, Dp X.K H x d ∧ Dp X.K H y (.tuple ds) ∧ SeqAt.shaped d = true ∧ SeqAt.shaped (.list ds) = true ∧ Q (.bl (ds.any fun z => PyData.eqv z d)) H) := by
  intro pins s σ H x y v u Q I rx ry h
  obtain ⟨d, ds, hd, he, sd, se, q⟩ := h
  obtain ⟨as, r1⟩ := Dp.reads I d x v hd rx
  obtain ⟨bs, r2⟩ := Dp.reads I (.tuple ds) y u he ry
  exact SeqAt.in_tuple_reads r2 r1 (SeqAt.canLay_of_shaped se) (SeqAt.canLay_of_shaped sd) (room_in_shaped sd hu) ⟨.bl (ds.any fun y => y.eqv d), H, I, rfl, q⟩
theorem any_pair (ws : List (Int × Int)) (a b : Int) : ((ws.map pairD).any fun z => PyData.eqv z (pairD (a, b))) = decide ((a, b) ∈ ws) := by
  induction ws with
  | nil => rfl
  | cons w ws ih =>
    obtain ⟨c, d⟩ := w
    rw [List.map_cons, List.any_cons, ih]
    have e : PyData.eqv (pairD (c, d)) (pairD (a, b)) = (decide (c = a) && decide (d = b)) := by
      show (decide (c = a) && (decide (d = b) && true)) = _
      rw [Bool.and_true]
    rw [e]
    by_cases e1 : (c, d) = (a, b)
    · cases e1
      rw [decide_eq_true rfl, decide_eq_true rfl, decide_eq_true (List.mem_cons_self ..)]
      rfl
    · have ez : (decide (c = a) && decide (d = b)) = false := by
        by_cases z : c = a
        · by_cases z2 : d = b
          · exact absurd (by rw [z, z2]) e1
          · rw [decide_eq_false z2, Bool.and_false]
        · rw [decide_eq_false z]
          rfl
      rw [ez, Bool.false_or]
      by_cases m : (a, b) ∈ ws
      · rw [decide_eq_true m, decide_eq_true (List.mem_cons_of_mem _ m)]
      · rw [decide_eq_false m, decide_eq_false (fun z => (List.mem_cons.mp z).elim (fun y => e1 y.symm) m)]
theorem shaped_pair (a b : Int) : SeqAt.shaped (pairD (a, b)) = true := by rfl
theorem shaped_pairs (ws : List (Int × Int)) : SeqAt.shaped (.list (ws.map pairD)) = true := by
  have h1 : PyData.canLayAll0 (ws.map pairD) = true := by
    induction ws with
    | nil => rfl
    | cons w ws ih =>
      show (true && PyData.canLayAll0 (ws.map pairD)) = true
      rw [ih]
      rfl
  have h2 : PyData.depthAll (ws.map pairD) ≤ 1 := by
    clear h1
    induction ws with
    | nil => exact Nat.zero_le _
    | cons w ws ih =>
      show max (PyData.depth (pairD w)) (PyData.depthAll (ws.map pairD)) ≤ 1
      exact Nat.max_le.mpr ⟨Nat.le_refl 1, ih⟩
  show (PyData.canLayAll0 (ws.map pairD) && decide (PyData.depthAll (ws.map pairD) + 1 ≤ 64)) = true
  rw [h1, decide_eq_true (by omega)]
  rfl
theorem sadd {H H' : Hp} (s : Same H H') {p : Addr} {o : HO} (n : H' p = none) : Same H (upd H' p o) := fun b u e => by
  have e1 := s b u e
  rw [upd_ne (ne_of_none e1 n)]
  exact e1
theorem Room_u65 {k : Nat} {A : Around} (h : L2.Room k A) : A.units + 65 < cLine := by
  have := h.un
  omega
/-- the names of the top and of the built-ins that the text reads -/
structure Txt (K : PySem.W.Frag) (mg : Str → Option Value) : Prop where
  nIsi : mg "isinstance" = none
  nInt : mg "int" = none
  nBool : mg "bool" = none
  nTuple : mg "tuple" = none
  nStr : mg "str" = none
  nLen : mg "len" = none
  nAll : mg "all" = none
  nList : mg "list" = none
  nAbs : mg "abs" = none
  nRange : mg "range" = none
  nZip : mg "zip" = none
  nSorted : mg "sorted" = none
  nRepr : mg "repr" = none
/-- a value that the law hands to the program -/
def PlV (H : Hp) : V → Prop
  | .non => True
  | .bl _ => True
  | .int _ => True
  | .str _ => True
  | .ref a => (∃ xs, H a = some (.tup xs)) ∨ (∃ xs, H a = some (.lst xs))
  | _ => False
theorem PlV.same {H H' : Hp} {v : V} (h : PlV H v) (e : Same H H') : PlV H' v := by
  cases v with
  | ref a =>
    rcases h with ⟨xs, h⟩ | ⟨xs, h⟩
    · exact .inl ⟨xs, e _ _ h⟩
    · exact .inr ⟨xs, e _ _ h⟩
  | byt _ => exact h.elim
  | flt _ => exact h.elim
  | ty _ => exact h.elim
  | _ => trivial
/-- the name of its type -/
def tyn (H : Hp) : V → String
  | .non => "NoneType"
  | .bl _ => "bool"
  | .int _ => "int"
  | .str _ => "str"
  | .ref a => match H a with
    | some (.tup _) => "tuple"
    | _ => "list"
  | _ => "list"
theorem tyX {K : PySem.W.Frag} {H : Hp} {v : V} (h : PlV H v) : TyX K H v (.type (tyn H v)) := by
  cases v with
  | non => exact .base .non
  | bl b => exact .base (.bl b)
  | int i => exact .base (.int i)
  | str x => exact .base (.str x)
  | ref a =>
    rcases h with ⟨xs, h⟩ | ⟨xs, h⟩
    · have e : tyn H (.ref a) = "tuple" := by
        show (match H a with | some (.tup _) => "tuple" | _ => "list") = "tuple"
        rw [h]
      rw [e]
      exact .base (.tup h)
    · have e : tyn H (.ref a) = "list" := by
        show (match H a with | some (.tup _) => "tuple" | _ => "list") = "list"
        rw [h]
      rw [e]
      exact .base (.lst h)
  | _ => exact h.elim
/-- a whole from lo to hi -/
def isW (lo hi : Int) : V → Bool
  | .int i => decide (lo ≤ i) && decide (i ≤ hi)
  | _ => false
def spWhole : Sp := fun vs H Q _ => ∃ (v : V) (lo hi : Int), vs = [v, .int lo, .int hi] ∧ PlV H v ∧ Q (.bl (isW lo hi v)) H
/-- a tuple of lo to hi items -/
def isT (H : Hp) (lo hi : Int) : V → Bool
  | .ref a => match H a with
    | some (.tup xs) => decide (lo ≤ (xs.length : Int)) && decide ((xs.length : Int) ≤ hi)
    | _ => false
  | _ => false
def spTuple : Sp := fun vs H Q _ => ∃ (v : V) (lo hi : Int), vs = [v, .int lo, .int hi] ∧ PlV H v ∧ Q (.bl (isT H lo hi v)) H
section
variable {P : Program} {w : World} {K : PySem.W.Frag} {mg : Str → Option Value} {base : Heap}
theorem scWhole : FnScope ["value", "low", "high"] ["value", "low", "high"] (defScope s_is_whole) := ⟨rfl, rfl, rfl, by decide +kernel, rfl, by decide +kernel, by decide +kernel⟩
theorem ok_whole {f : Addr} {fd : FuncData} (F : Fun K "is_whole" "is_whole" s_is_whole f fd) (T : Txt K mg) : FnOk P w K mg base CX0 1 f fd ["value", "low", "high"] spWhole := by
  refine F.ok scWhole (fun vs H Q E h => ?_) (fun cdv A outer s H vs Q E hr h => ?_)
  · obtain ⟨v, lo, hi, rfl, _⟩ := h
    rfl
  · obtain ⟨v, lo, hi, rfl, hp, k⟩ := h
    refine ⟨_, pss_one (ps_ret (pe_and (pe_callB call_isi (by rfl) T.nIsi (by decide +kernel) (pa_cons (pv 0) (pa_cons (pe_bltn (v := .ty "int") (by rfl) T.nInt (by decide +kernel) rfl) pa_nil)))
      (pe_and (pe_not (pe_callB call_isi (by rfl) T.nIsi (by decide +kernel) (pa_cons (pv 0) (pa_cons (pe_bltn (v := .ty "bool") (by rfl) T.nBool (by decide +kernel) rfl) pa_nil))))
        (pe_one (pe_chain op_le op_le (pv 1) (pv 0) (pv 2)))))), ?_⟩
    cases v with
    | int i =>
      refine ⟨_, rfl, _, _, _, _, _, rfl, .ty "int", .base (.int i), kit_ty (r := true) (by decide +kernel), _, rfl, iteT ?_⟩
      refine ⟨_, rfl, _, _, _, _, _, rfl, .ty "bool", .base (.int i), kit_ty (r := false) (by decide +kernel), _, rfl, _, rfl, iteT ?_⟩
      refine ⟨_, rfl, _, rfl, _, _, rfl, rfl, _, rfl, ?_⟩
      refine ite2 (fun h1 => ?_) (fun h1 => ?_)
      · refine ⟨_, rfl, _, _, rfl, rfl, ?_⟩
        have e : isW lo hi (.int i) = decide (i ≤ hi) := by
          show (decide (lo ≤ i) && decide (i ≤ hi)) = _
          rw [h1, Bool.true_and]
        rw [e] at k
        exact k
      · have e : isW lo hi (.int i) = false := by
          show (decide (lo ≤ i) && decide (i ≤ hi)) = _
          rw [Bool.eq_false_iff.mpr h1, Bool.false_and]
        rw [e] at k
        exact k
    | bl b =>
      refine ⟨_, rfl, _, _, _, _, _, rfl, .ty "int", .base (.bl b), kit_ty (r := true) (by decide +kernel), _, rfl, iteT ?_⟩
      exact ⟨_, rfl, _, _, _, _, _, rfl, .ty "bool", .base (.bl b), kit_ty (r := true) (by decide +kernel), _, rfl, _, rfl, iteF k⟩
    | non => exact ⟨_, rfl, _, _, _, _, _, rfl, .ty "int", .base .non, kit_ty (r := false) (by decide +kernel), _, rfl, iteF k⟩
    | str x => exact ⟨_, rfl, _, _, _, _, _, rfl, .ty "int", .base (.str x), kit_ty (r := false) (by decide +kernel), _, rfl, iteF k⟩
    | ref a =>
      rcases hp with ⟨xs, hx⟩ | ⟨xs, hx⟩
      · exact ⟨_, rfl, _, _, _, _, _, rfl, .ty "int", .base (.tup hx), kit_ty (r := false) (by decide +kernel), _, rfl, iteF k⟩
      · exact ⟨_, rfl, _, _, _, _, _, rfl, .ty "int", .base (.lst hx), kit_ty (r := false) (by decide +kernel), _, rfl, iteF k⟩
    | byt _ => exact hp.elim
    | flt _ => exact hp.elim
    | ty _ => exact hp.elim
theorem scTuple : FnScope ["value", "least", "most"] ["value", "least", "most"] (defScope s_is_tuple) := ⟨rfl, rfl, rfl, by decide +kernel, rfl, by decide +kernel, by decide +kernel⟩
theorem ok_tuple {f : Addr} {fd : FuncData} (F : Fun K "is_tuple" "is_tuple" s_is_tuple f fd) (T : Txt K mg) : FnOk P w K mg base CX0 1 f fd ["value", "least", "most"] spTuple := by
  refine F.ok scTuple (fun vs H Q E h => ?_) (fun cdv A outer s H vs Q E hr h => ?_)
  · obtain ⟨v, lo, hi, rfl, _⟩ := h
    rfl
  · obtain ⟨v, lo, hi, rfl, hp, k⟩ := h
    refine ⟨_, pss_one (ps_ret (pe_and (pe_callB call_isi (by rfl) T.nIsi (by decide +kernel) (pa_cons (pv 0) (pa_cons (pe_bltn (v := .ty "tuple") (by rfl) T.nTuple (by decide +kernel) rfl) pa_nil)))
      (pe_one (pe_chain op_le op_le (pv 1) (pe_callB call_len (by rfl) T.nLen (by decide +kernel) (pa_cons (pv 0) pa_nil)) (pv 2))))), ?_⟩
    cases v with
    | ref a =>
      rcases hp with ⟨xs, hx⟩ | ⟨xs, hx⟩
      · refine ⟨_, rfl, _, _, _, _, _, rfl, .ty "tuple", .base (.tup hx), kit_ty (r := true) (by decide +kernel), _, rfl, iteT ?_⟩
        refine ⟨_, rfl, _, rfl, _, xs.length, rfl, .inr ⟨_, SqT.of hx, rfl⟩, ?_⟩
        have e0 : isT H lo hi (.ref a) = (decide (lo ≤ (xs.length : Int)) && decide ((xs.length : Int) ≤ hi)) := by
          show (match H a with | some (.tup xs) => _ | _ => false) = _
          rw [hx]
        rw [e0] at k
        refine ⟨_, _, rfl, rfl, _, rfl, ?_⟩
        refine ite2 (fun h1 => ?_) (fun h1 => ?_)
        · refine ⟨_, rfl, _, _, rfl, rfl, ?_⟩
          rw [h1, Bool.true_and] at k
          exact k
        · rw [Bool.eq_false_iff.mpr h1, Bool.false_and] at k
          exact k
      · have e0 : isT H lo hi (.ref a) = false := by
          show (match H a with | some (.tup xs) => _ | _ => false) = _
          rw [hx]
        rw [e0] at k
        exact ⟨_, rfl, _, _, _, _, _, rfl, .ty "tuple", .base (.lst hx), kit_ty (r := false) (by decide +kernel), _, rfl, iteF k⟩
    | int i => exact ⟨_, rfl, _, _, _, _, _, rfl, .ty "tuple", .base (.int i), kit_ty (r := false) (by decide +kernel), _, rfl, iteF k⟩
    | bl b => exact ⟨_, rfl, _, _, _, _, _, rfl, .ty "tuple", .base (.bl b), kit_ty (r := false) (by decide +kernel), _, rfl, iteF k⟩
    | non => exact ⟨_, rfl, _, _, _, _, _, rfl, .ty "tuple", .base .non, kit_ty (r := false) (by decide +kernel), _, rfl, iteF k⟩
    | str x => exact ⟨_, rfl, _, _, _, _, _, rfl, .ty "tuple", .base (.str x), kit_ty (r := false) (by decide +kernel), _, rfl, iteF k⟩
    | byt _ => exact hp.elim
    | flt _ => exact hp.elim
    | ty _ => exact hp.elim
end
theorem _root_.L2.Same.none {H H' : Hp} {p : Addr} (s : Same H H') (n : H' p = none) : H p = none := by
  cases q : H p with
  | none => rfl
  | some o =>
    have := s _ _ q
    rw [n] at this
    cases this
theorem isW_of {n : Int} (h0 : 0 ≤ n) (h1 : n ≤ 9999) : isW 0 9999 (.int n) = true := by
  show (decide (0 ≤ n) && decide (n ≤ 9999)) = true
  rw [decide_eq_true h0, decide_eq_true h1]
  rfl
/-- an error class of the program -/
structure ErrC (K : PySem.W.Frag) (mg : Str → Option Value) (x : Str) (C : Addr) : Prop where
  g : mg x = some (.ref C)
  x : PySem.W.excIn K C [.type "ValueError", .type "Exception", .type "BaseException", .type "object"] "ValueError.__new__" = true
  k : PySem.W.keepIn K (.ref C) = true
  b : PySem.W.subIn K (.ref C) (.type "BaseException") = some true
  t : PySem.W.typeIn K (.ref C) = some (.type "type")
end OH
end
section
set_option Elab.async false
set_option linter.all false
set_option maxRecDepth 100000
set_option maxHeartbeats 8000000
namespace OH
open PySem PySem.Spec PyProof.Rows L2
def stK (g c : Addr) (r t : Int) : List (Key × V) := [(.inr "great", .ref g), (.inr "cells", .ref c), (.inr "rest", .int r), (.inr "turn", .int t)]
theorem st_great (g c : Addr) (r t : Int) : valV (stK g c r t) (.inr "great" : Key) = some (.ref g) := rfl
theorem st_cells (g c : Addr) (r t : Int) : valV (stK g c r t) (.inr "cells" : Key) = some (.ref c) := rfl
theorem st_rest (g c : Addr) (r t : Int) : valV (stK g c r t) (.inr "rest" : Key) = some (.int r) := rfl
theorem st_turn (g c : Addr) (r t : Int) : valV (stK g c r t) (.inr "turn" : Key) = some (.int t) := rfl
theorem st_put_rest (g c : Addr) (r t z : Int) : putK (stK g c r t) (.inr "rest" : Key) (.int z) = stK g c z t := rfl
theorem st_put_turn (g c : Addr) (r t z : Int) : putK (stK g c r t) (.inr "turn" : Key) (.int z) = stK g c r z := rfl
theorem st_made (g c : Addr) : mergeK ([] : List (Key × V)) [(.inr "great", .ref g), (.inr "cells", .ref c), (.inr "rest", .int 0), (.inr "turn", .int 0)] = stK g c 0 0 := rfl
/-- the state of the drawing: the dict at st, its lists at g and c; at most n draws were mixed -/
structure SA (H : Hp) (st g c : Addr) (n : Nat) : Prop where
  dc : ∃ r t : Int, 0 ≤ r ∧ 0 ≤ t ∧ t ≤ n ∧ H st = some (.dK (stK g c r t))
  gl : ∃ gs : List Int, H g = some (.lst (gs.map V.int)) ∧ (∀ z ∈ gs, 0 ≤ z) ∧ gs.length ≤ 63
  cl : ∃ cs : List Int, H c = some (.lst (cs.map V.int)) ∧ (∀ z ∈ cs, 0 ≤ z) ∧ cs.length ≤ 63
  gc : g ≠ c
/-- all that was tracked is as it was, but the state's dict and its list of greats -/
def Fr (st g : Addr) (H H' : Hp) : Prop := ∀ b o, H b = some o → b ≠ st → b ≠ g → H' b = some o
theorem Fr.refl (st g : Addr) (H : Hp) : Fr st g H H := fun _ _ e _ _ => e
theorem Fr.trans {st g : Addr} {H H1 H2 : Hp} (a : Fr st g H H1) (b : Fr st g H1 H2) : Fr st g H H2 := fun c o e h1 h2 => b c o (a c o e h1 h2) h1 h2
theorem Fr.of {st g : Addr} {H H' : Hp} (a : Same H H') : Fr st g H H' := fun b o e _ _ => a b o e
theorem SA.same {H H' : Hp} {st g c : Addr} {n : Nat} (s : SA H st g c n) (e : Same H H') : SA H' st g c n := by
  obtain ⟨⟨r, t, h1, h2, h3, h4⟩, ⟨gs, g1, g2, g3⟩, ⟨cs, c1, c2, c3⟩, gc⟩ := s
  exact ⟨⟨r, t, h1, h2, h3, e _ _ h4⟩, ⟨gs, e _ _ g1, g2, g3⟩, ⟨cs, e _ _ c1, c2, c3⟩, gc⟩
theorem SA.mono {H : Hp} {st g c : Addr} {n m : Nat} (s : SA H st g c n) (h : n ≤ m) : SA H st g c m := by
  obtain ⟨⟨r, t, h1, h2, h3, h4⟩, x, y, z⟩ := s
  exact ⟨⟨r, t, h1, h2, by omega, h4⟩, x, y, z⟩
theorem SA.ne_st {H : Hp} {st g c b : Addr} {n : Nat} {o : HO} (s : SA H st g c n) (e : H b = some o) (h : ∀ kvs, o ≠ .dK kvs) : b ≠ st := by
  obtain ⟨⟨r, t, _, _, _, h4⟩, _⟩ := s
  exact ne_of e h4 (h _)
theorem SA.old {H : Hp} {st g c p : Addr} {n : Nat} (s : SA H st g c n) (e : H p = none) : p ≠ st ∧ p ≠ g ∧ p ≠ c := by
  obtain ⟨⟨r, t, _, _, _, h4⟩, ⟨gs, g1, _⟩, ⟨cs, c1, _⟩, _⟩ := s
  exact ⟨(ne_of_none h4 e).symm, (ne_of_none g1 e).symm, (ne_of_none c1 e).symm⟩
theorem sout {H H' : Hp} (s : Same H H') {p : Addr} {o : HO} (n : H p = none) : Same H (upd H' p o) := fun b u e => by
  rw [upd_ne (ne_of_none e n)]
  exact s b u e
def spBegun (K : PySem.W.Frag) : Sp := fun vs H Q _ => ∃ (a : Addr) (ns : List Int), vs = [.ref a] ∧ SqL K H a (ns.map V.int) ∧ ns.length ≤ 63 ∧
  ∀ st g c H', H st = none → H g = none → H c = none → Same H H' → SA H' st g c 0 → Q (.ref st) H'
section
variable {P : Program} {w : World} {K : PySem.W.Frag} {mg : Str → Option Value} {base : Heap}
theorem scBegun : FnScope ["script", "great", "cell"] ["script"] (defScope s__law_begun) := ⟨rfl, rfl, rfl, by decide +kernel, rfl, by decide +kernel, by decide +kernel⟩
theorem ok_begun {f : Addr} {fd : FuncData} (F : Fun K "_law_begun" "_law_begun" s__law_begun f fd) (T : Txt K mg) : FnOk P w K mg base CX0 1 f fd ["script"] (spBegun K) := by
  refine F.ok scBegun (fun vs H Q E h => ?_) (fun cdv A outer s H vs Q E hr h => ?_)
  · obtain ⟨a, ns, rfl, _⟩ := h
    rfl
  · obtain ⟨a, ns, rfl, hS, hl, k⟩ := h
    have nd := scBegun.nd
    refine ⟨_, pss_cons (ps_setLc (i := 1) (own := [("cell", 2)]) (g := gName 2) rfl nd rfl rfl (sw_true rfl rfl rfl (by decide +kernel)) (pi_list (pv 0))
        (blkOk_by (own := [("cell", 2)]) (N := ["script", "great", "cell"]) (sc := defScope s__law_begun) (by decide +kernel))
        (fun _ _ _ _ _ => pg_name (i := 2) nd rfl (Or.inl rfl))
        (fun _ _ _ _ _ => pts_one (pt_cmpR op_ge (pe_callB call_abs (by rfl) T.nAbs (by decide +kernel) (pa_cons (pv 2) pa_nil)) (pe_op op_pow pe_int pe_int) (nomark _)))
        (fun _ _ _ _ _ => pe_op op_sub (pe_callB call_abs (by rfl) T.nAbs (by decide +kernel) (pa_cons (pv 2) pa_nil)) (pe_op op_pow pe_int pe_int)))
      (pss_one (ps_ret (pe_disp (pps_cons pe_str (pv 1) (pps_cons pe_str
        (pe_lc (own := [("cell", 2)]) (g := gName 2) (tt := tYes) rfl nd (pi_list (pv 0)) (blkOk_by (own := [("cell", 2)]) (N := ["script", "great", "cell"]) (sc := defScope s__law_begun) (by decide +kernel))
          (fun _ _ _ _ _ => pg_name (i := 2) nd rfl (Or.inl rfl)) (fun _ _ _ _ _ => pts_nil)
          (fun _ _ _ _ _ => pe_callB call_abs (by rfl) T.nAbs (by decide +kernel) (pa_cons (pv 2) pa_nil)))
        (pps_cons pe_str pe_int (pps_cons pe_str pe_int pps_nil)))) (by rfl) (by rfl) (fun z => by cases z) (by decide)))), ?_⟩
    refine ⟨_, rfl, a, rfl, ⟨_, hS⟩, fun D nD => ?_⟩
    have get : ∀ {i : Nat} {x : V}, (ns.map V.int)[i]? = some x → ∃ z, x = .int z ∧ z ∈ ns ∧ ns[i]? = some z := fun {i x} hx => by
      rw [List.getElem?_map] at hx
      cases e : ns[i]? with
      | none => rw [e] at hx; cases hx
      | some z =>
        rw [e] at hx
        exact ⟨z, (Option.some.inj hx).symm, List.mem_of_getElem? e, rfl⟩
    refine lc_list (K := K) (a := a) (xs := ns.map V.int) (fun i H' => Same H H' ∧ ∃ gs : List Int, H' D = some (.lst (gs.map V.int)) ∧ (∀ z ∈ gs, 0 ≤ z) ∧ gs.length ≤ i)
      ⟨sadd (Same.refl H) nD, [], upd_same, by simp, Nat.le_refl _⟩ (fun i H' _ ⟨s, _⟩ => s.seq hS) ?turn ?done
    case turn =>
      rintro i x H' hx ⟨s, gs, hD, h0, hn⟩
      obtain ⟨z, rfl, _, hz⟩ := get hx
      have hi : i < ns.length := (List.getElem?_eq_some_iff.mp hz).1
      refine ⟨rfl, ?_⟩
      refine ⟨_, rfl, z, rfl, _, _, rfl, rfl, ⟨by decide, by decide, by decide⟩, _, _, rfl, rfl, _, rfl, ?_⟩
      refine ite2 (fun ht => ?_) (fun _ => ?_)
      · have hge := of_decide_eq_true ht
        refine ⟨_, rfl, z, rfl, _, _, rfl, rfl, ⟨by decide, by decide, by decide⟩, _, _, rfl, rfl, _, hD, ?_, sout s nD, gs ++ [(if z < 0 then -z else z) - 10 ^ Int.toNat 18], ?_, ?_, ?_⟩
        · rw [List.length_map, sizeLine_eq]
          omega
        · rw [upd_same, List.map_append]
          rfl
        · intro y hy
          rcases List.mem_append.mp hy with q | q
          · exact h0 y q
          · rw [List.mem_singleton] at q
            rw [q]
            omega
        · rw [List.length_append, List.length_singleton]
          omega
      · exact ⟨s, gs, hD, h0, by omega⟩
    case done =>
      rintro H1 ⟨s1, gs, hD, h0, hn⟩
      rw [List.length_map] at hn
      -- the display
      intro d nd1
      have nd0 : H d = none := s1.free nd1
      have zDd : D ≠ d := ne_of_none hD nd1
      refine ⟨_, rfl, _, rfl, a, rfl, ⟨_, s1.seq hS |> fun q => (sadd (Same.refl H1) nd1).seq q⟩, fun C nC => ?_⟩
      have zC : C ≠ d := fun z => by rw [z, upd_same] at nC; cases nC
      have nC1 : H1 C = none := (upd_ne zC).symm.trans nC
      have nC0 : H C = none := s1.free nC1
      have zDC : D ≠ C := ne_of_none hD nC1
      refine lc_list (K := K) (a := a) (xs := ns.map V.int) (fun i H' => Same (upd H1 d (.dK [])) H' ∧ ∃ cs : List Int, H' C = some (.lst (cs.map V.int)) ∧ (∀ z ∈ cs, 0 ≤ z) ∧ cs.length ≤ i)
        ⟨sadd (Same.refl _) nC, [], upd_same, by simp, Nat.le_refl _⟩ (fun i H' _ ⟨s, _⟩ => s.seq ((sadd (Same.refl H1) nd1).seq (s1.seq hS))) ?turn2 ?done2
      case turn2 =>
        rintro i x H' hx ⟨s, cs, hC, h0', hn'⟩
        obtain ⟨z, rfl, _, hz⟩ := get hx
        have hi : i < ns.length := (List.getElem?_eq_some_iff.mp hz).1
        refine ⟨rfl, ?_⟩
        unfold tYes
        refine iteT ?_
        refine ⟨_, rfl, z, rfl, _, hC, ?_, sout s nC, cs ++ [if z < 0 then -z else z], ?_, ?_, ?_⟩
        · rw [List.length_map, sizeLine_eq]
          omega
        · rw [upd_same, List.map_append]
          rfl
        · intro y hy
          rcases List.mem_append.mp hy with q | q
          · exact h0' y q
          · rw [List.mem_singleton] at q
            rw [q]
            split <;> omega
        · rw [List.length_append, List.length_singleton]
          omega
      case done2 =>
        rintro H2 ⟨s2, cs, hC, h0', hn'⟩
        rw [List.length_map] at hn'
        have hd2 := s2 d _ upd_same
        refine ⟨hd2, [(.inr "great", .ref D), (.inr "cells", .ref C), (.inr "rest", .int 0), (.inr "turn", .int 0)], rfl, (by show 4 ≤ 15; decide), ?_⟩
        rw [st_made]
        have hD2 : H2 D = some (.lst (gs.map V.int)) := s2 D _ ((upd_ne zDd).trans hD)
        refine k d D C _ nd0 nD nC0 (sout ((s1.trans (sadd (Same.refl H1) nd1)).trans s2) nd0) ⟨⟨0, 0, by decide, by decide, by decide, upd_same⟩, ⟨gs, (upd_ne zDd).trans hD2, h0, by omega⟩, ⟨cs, (upd_ne zC).trans hC, h0', by omega⟩, zDC⟩
end

def spMixed : Sp := fun vs H Q _ => ∃ (st g c : Addr) (n : Nat), vs = [.ref st] ∧ SA H st g c n ∧ n ≤ 1000000 ∧
  ∀ z H', 0 ≤ z → SA H' st g c (n + 1) → (∀ b o, H b = some o → b ≠ st → H' b = some o) → Q (.int z) H'
section
variable {P : Program} {w : World} {K : PySem.W.Frag} {mg : Str → Option Value} {base : Heap}
theorem scMixed : FnScope ["state", "turn", "found", "prime", "blend", "cell"] ["state"] (defScope s__law_mixed) := ⟨rfl, rfl, rfl, by decide +kernel, rfl, by decide +kernel, by decide +kernel⟩
theorem ok_mixed {f : Addr} {fd : FuncData} (F : Fun K "_law_mixed" "_law_mixed" s__law_mixed f fd) (T : Txt K mg) : FnOk P w K mg base CX0 1 f fd ["state"] spMixed := by
  refine F.ok scMixed (fun vs H Q E h => ?_) (fun cdv A outer s H vs Q E hr h => ?_)
  · obtain ⟨st, g, c, n, rfl, _⟩ := h
    rfl
  · obtain ⟨st, g, c, n, rfl, S, hn, k⟩ := h
    have nd := scMixed.nd
    have hu := hu_of hr
    refine ⟨_, pss_cons (ps_par (i := 1) (j := 2) rfl nd rfl rfl (by decide) rfl rfl (pa_cons (pe_op op_add (pe_dget hu (pv 0) pe_str (fun _ _ => rfl)) pe_int) (pa_cons pe_int pa_nil)) (by rfl))
      (pss_cons (ps_dput hu (pv 0) pe_str (pv 1) rfl)
      (pss_cons (ps_for PassesOwn.never rfl (pi_list (pe_lst (pa_cons pe_int (pa_cons pe_int (pa_cons pe_int (pa_cons pe_int pa_nil)))))) (pg_name (i := 3) nd rfl (Or.inl rfl))
        (pss_cons (ps_set (i := 4) nd rfl (Or.inl rfl) (pe_op op_add (pe_op op_mul pe_int (pv 1)) (pe_op op_fdiv (pv 3) pe_int)))
        (pss_cons (ps_for PassesOwn.never rfl (pi_list (pe_dget hu (pv 0) pe_str (fun _ _ => rfl))) (pg_name (i := 5) nd rfl (Or.inl rfl))
          (pss_one (ps_set (i := 4) nd rfl (Or.inl rfl) (pe_op op_mod (pe_callTy call_int1 (by rfl) T.nInt (by decide +kernel) (pa_cons (pe_op op_add (pe_op op_add (pe_op op_mul (pv 4) pe_int) (pv 5)) (pv 1)) pa_nil)) (pv 3)))))
        (pss_one (ps_set (i := 2) nd rfl (Or.inl rfl) (pe_op op_add (pe_op op_mul (pv 2) pe_int) (pe_op op_mod (pe_callTy call_int1 (by rfl) T.nInt (by decide +kernel) (pa_cons (pe_op op_pow (pv 4) pe_int) pa_nil)) (pv 3))))))))
      (pss_one (ps_ret (pv 2))))), ?_⟩
    obtain ⟨⟨r, t, r0, t0, tn, hst⟩, ⟨gs, hg, g0, g63⟩, ⟨cs, hc, c0, c63⟩, gc⟩ := S
    refine ⟨_, rfl, st, _, rfl, DGet.k (k := Sum.inr "turn") hst, _, _, rfl, rfl, _, _, rfl, ?_⟩
    -- state['turn'] = turn
    refine ⟨_, rfl, _, rfl, st, _, rfl, DPut.k (k := Sum.inr "turn") hst (by show 4 < sizeLine; decide), ?_⟩
    rw [st_put_turn]
    -- for prime in [..]
    refine ⟨by show 4 ≤ sizeLine; decide, fun l nl => ?_⟩
    have zlst : st ≠ l := fun z => by rw [← z, upd_same] at nl; cases nl
    have nl0 : H l = none := (upd_ne zlst.symm).symm.trans nl
    have zcst : c ≠ st := ne_of hc hst (by intro z; cases z)
    have zgst : g ≠ st := ne_of hg hst (by intro z; cases z)
    have zcl : c ≠ l := ne_of_none hc nl0
    have zgl : g ≠ l := ne_of_none hg nl0
    let Hl : Hp := upd (upd H st (.dK (stK g c r (t + 1)))) l (.lst [.int 2147483629, .int 2147483647, .int 2147483563, .int 2147483587])
    have lc : Hl c = some (.lst (cs.map V.int)) := (upd_ne zcl).trans ((upd_ne zcst).trans hc)
    have lst : Hl st = some (.dK (stK g c r (t + 1))) := (upd_ne zlst).trans upd_same
    refine ⟨l, rfl, ⟨_, SqL.of upd_same⟩, for_list (K := K) (a := l) (xs := [.int 2147483629, .int 2147483647, .int 2147483563, .int 2147483587])
      (fun i σ H2 => Same Hl H2 ∧ ∃ (fnd : Int) (vp vb vc : Option V), 0 ≤ fnd ∧ σ = [some (.ref st), some (.int (t + 1)), some (.int fnd), vp, vb, vc])
      ⟨Same.refl _, 0, none, none, none, by decide, rfl⟩ (fun i σ H2 _ ⟨s, _⟩ => SqL.of (s l _ upd_same)) ?turn ?done⟩
    case turn =>
      rintro i x σ H2 hx ⟨s, fnd, vp, vb, vc, f0, rfl⟩
      obtain ⟨p, rfl, p0, p1⟩ : ∃ p : Int, x = .int p ∧ 0 < p ∧ p < 2 ^ 31 := by
        have hm := List.mem_of_getElem? hx
        simp only [List.mem_cons, List.not_mem_nil, or_false] at hm
        rcases hm with rfl | rfl | rfl | rfl
        all_goals exact ⟨_, rfl, by decide, by decide⟩
      refine ⟨_, rfl, _, _, rfl, rfl, .inl ⟨by decide, by decide⟩, _, rfl, _, _, rfl, rfl, ⟨by decide, by decide⟩, _, _, rfl, rfl, ?_⟩
      refine ⟨_, rfl, st, _, rfl, DGet.k (k := Sum.inr "cells") (s st _ lst), c, rfl, ⟨_, SqL.of (s c _ lc)⟩, for_list (K := K) (a := c) (xs := cs.map V.int)
        (fun j σ' H3 => H3 = H2 ∧ ∃ (bl : Int) (vc : Option V), 0 ≤ bl ∧ bl < 2 ^ 64 ∧ σ' = [some (.ref st), some (.int (t + 1)), some (.int fnd), some (.int p), some (.int bl), vc])
        ⟨rfl, 69621 * (t + 1) + p / 41, vc, ?_, ?_, rfl⟩ (fun j σ' H3 _ ⟨e, _⟩ => SqL.of (e ▸ s c _ lc)) ?turn2 ?done2⟩
      · have := Int.ediv_nonneg (Int.le_of_lt p0) (by decide : (0 : Int) ≤ 41)
        omega
      · have h1 : p / 41 ≤ p := Int.ediv_le_self _ (Int.le_of_lt p0)
        omega
      case turn2 =>
        rintro j y σ' H3 hy ⟨rfl, bl, vc', b0, b1, rfl⟩
        obtain ⟨z, rfl⟩ : ∃ z : Int, y = .int z := by
          rw [List.getElem?_map] at hy
          cases e : cs[j]? with
          | none => rw [e] at hy; cases hy
          | some z =>
            rw [e] at hy
            exact ⟨z, (Option.some.inj hy).symm⟩
        refine ⟨_, rfl, _, _, rfl, rfl, .inr ⟨by decide, by decide⟩, _, rfl, _, _, rfl, rfl, _, rfl, _, _, rfl, rfl, .inl ⟨_, rfl, _, rfl, _, _, rfl, rfl, p0, rfl, _, _, ?_, ?_, rfl⟩⟩
        · exact Int.emod_nonneg _ (by omega)
        · have := Int.emod_lt_of_pos (bl * 48271 + z + (t + 1)) p0
          omega
      case done2 =>
        rintro σ' H3 ⟨rfl, bl, vc', b0, b1, rfl⟩
        refine ⟨_, rfl, _, _, rfl, rfl, .inr ⟨by decide, by decide⟩, _, rfl, _, _, rfl, rfl, ⟨by decide, by decide, by omega⟩, .inl ⟨_, rfl, _, rfl, _, _, rfl, rfl, p0, _, _, rfl, rfl, s, _, _, _, _, ?_, rfl⟩⟩
        have := Int.emod_nonneg (bl ^ Int.toNat 5) (show p ≠ 0 by omega)
        omega
    case done =>
      rintro σ H2 ⟨s, fnd, vp, vb, vc, f0, rfl⟩
      refine ⟨_, rfl, k fnd H2 f0 ⟨⟨r, t + 1, r0, by omega, by omega, s st _ lst⟩, ⟨gs, s g _ ((upd_ne zgl).trans ((upd_ne zgst).trans hg)), g0, g63⟩, ⟨cs, s c _ lc, c0, c63⟩, gc⟩ fun b o e hb => ?_⟩
      exact s b o ((upd_ne (ne_of_none e nl0)).trans ((upd_ne hb).trans e))
end

/-- a draw below room -/
def spDraw : Sp := fun vs H Q _ => ∃ (st g c : Addr) (n : Nat) (room : Int), vs = [.ref st, .int room] ∧ SA H st g c n ∧ n ≤ 1000000 ∧ 0 < room ∧ room ≤ 1000000 ∧
  ∀ z H', 0 ≤ z → z < room → SA H' st g c (n + 1) → Fr st g H H' → Q (.int z) H'
theorem dp_ints {K : PySem.W.Frag} {H : Hp} : ∀ l : List Int, DpAll K H (l.map V.int) (l.map PyData.int)
  | [] => .nil
  | z :: l => .cons (.int z) (dp_ints l)
theorem sh_ints (l : List Int) : SeqAt.shaped (.list (l.map PyData.int)) = true := PySem.W.ke_shaped_ints l
theorem seq0 {α : Type} (z : α) (l : List α) : seqIndex? 0 (z :: l).length = some 0 := by
  have h : ixN (z :: l).length 0 = some 0 := by
    unfold ixN
    rw [if_pos (by decide), if_pos (by rw [List.length_cons]; omega)]
    rfl
  exact (ixN_seq h).1
section
variable {P : Program} {w : World} {K : PySem.W.Frag} {mg : Str → Option Value} {base : Heap}
theorem scDraw : FnScope ["state", "room", "found"] ["state", "room"] (defScope s__law_draw) := ⟨rfl, rfl, rfl, by decide +kernel, rfl, by decide +kernel, by decide +kernel⟩
theorem ok_draw {f fM : Addr} {fd fdM : FuncData} (F : Fun K "_law_draw" "_law_draw" s__law_draw f fd) (T : Txt K mg)
    (FM : FnOk P w K mg base CX0 1 fM fdM ["state"] spMixed) (mM : mg "_law_mixed" = some (.ref fM)) (kM : PySem.W.keepIn K (.ref fM) = true) (bM : Binds K fdM ["state"] []) :
    FnOk P w K mg base CX0 2 f fd ["state", "room"] spDraw := by
  refine F.ok scDraw (fun vs H Q E h => ?_) (fun cdv A outer s H vs Q E hr h => ?_)
  · obtain ⟨st, g, c, n, room, rfl, _⟩ := h
    rfl
  · obtain ⟨st, g, c, n, room, rfl, S, hn, r1, r2, k⟩ := h
    have nd := scDraw.nd
    have hu := hu_of hr
    refine ⟨_, pss_cons (ps_if (pt_cmpR op_eq (pe_dget hu (pv 0) pe_str (fun _ _ => rfl)) pe_int (nomark _))
        (pss_one (ps_dput hu (pv 0) pe_str (pe_ifExp (pt_cmpR (op_neD hr.units) (pe_dget hu (pv 0) pe_str (fun _ _ => rfl)) (pe_lst pa_nil) (nomark _))
          (pe_bm PySem.F.plainAttrs_list PySem.F.slot_list_pop PySem.F.type_list_pop mt_popAt (pe_dget hu (pv 0) pe_str (fun _ _ => rfl)) (pa_cons pe_int pa_nil))
          (pe_call FM hr rfl mM kM bM .nil pass0 (pa_cons (pv 0) pa_nil))) rfl)) pss_nil)
      (pss_cons (ps_set (i := 2) nd rfl (Or.inl rfl) (pe_op op_mod (pe_callTy call_int1 (by rfl) T.nInt (by decide +kernel) (pa_cons (pe_dget hu (pv 0) pe_str (fun _ _ => rfl)) pa_nil)) (pv 1)))
      (pss_cons (ps_dput hu (pv 0) pe_str (pe_op op_fdiv (pe_dget hu (pv 0) pe_str (fun _ _ => rfl)) (pv 1)) rfl)
      (pss_one (ps_ret (pv 2))))), ?_⟩
    obtain ⟨⟨r, t, r0, t0, tn, hst⟩, ⟨gs, hg, g0, g63⟩, ⟨cs, hc, c0, c63⟩, gc⟩ := id S
    have cont : ∀ H1, SA H1 st g c (n + 1) → Fr st g H H1 → tSeq (tAsg (tOp (rI (fun _ j => 0 < j) fun i j => V.int (i % j)) (tCB (fun xs H Q => (∃ i, xs = [V.int i] ∧ Q (V.int i) H) ∨ ∃ k, xs = [V.bl k] ∧ Q (V.int (if k = true then 1 else 0)) H)
        (tCons (tDGet (tVar 0) (tC (V.str (Str.ofString "rest")))) tNil)) (tVar 1)) (gName 2))
        (tSeq (sDPut (tVar 0) (tC (V.str (Str.ofString "rest"))) (tOp (rI CDiv fun i j => V.int (i / j)) (tDGet (tVar 0) (tC (V.str (Str.ofString "rest")))) (tVar 1))) (tRet (tVar 2)))
        { nx := fun x H' => Q V.non H', rt := Q } (L2.start ["state", "room", "found"] [V.ref st, V.int room]) H1 := by
      intro H1 S1 F1
      obtain ⟨⟨r', t', r0', t0', tn', hst'⟩, ⟨gs', hg', g0', g63'⟩, ⟨cs', hc', c0', c63'⟩, gc'⟩ := id S1
      refine ⟨_, rfl, st, _, rfl, DGet.k (k := Sum.inr "rest") hst', .inl ⟨r', rfl, _, rfl, _, _, rfl, rfl, r1, ?_⟩⟩
      refine ⟨_, rfl, st, _, rfl, DGet.k (k := Sum.inr "rest") hst', _, rfl, _, _, rfl, rfl, ⟨r1, by omega⟩, _, rfl, st, _, rfl, DPut.k (k := Sum.inr "rest") hst' (by show 4 < sizeLine; decide), ?_⟩
      rw [st_put_rest]
      have zg : g ≠ st := ne_of hg' hst' (by intro z; cases z)
      have zc : c ≠ st := ne_of hc' hst' (by intro z; cases z)
      refine ⟨_, rfl, k _ _ (Int.emod_nonneg _ (by omega)) (Int.emod_lt_of_pos _ r1) ⟨⟨r' / room, t', Int.ediv_nonneg r0' (by omega), t0', tn', upd_same⟩, ⟨gs', (upd_ne zg).trans hg', g0', g63'⟩, ⟨cs', (upd_ne zc).trans hc', c0', c63'⟩, gc⟩ ?_⟩
      exact F1.trans fun b o e h1 h2 => (upd_ne h1).trans e
    have zg : g ≠ st := ne_of hg hst (by intro z; cases z)
    have zc : c ≠ st := ne_of hc hst (by intro z; cases z)
    refine ⟨_, rfl, st, _, rfl, DGet.k (k := Sum.inr "rest") hst, rfl, _, rfl, ?_⟩
    refine ite2 (fun hz => ?_) (fun hz => ?_)
    · -- a new rest
      refine ⟨_, rfl, st, _, rfl, DGet.k (k := Sum.inr "great") hst, ?_, fun l nl => ?_⟩
      · show 0 ≤ sizeLine
        omega
      have zgl : g ≠ l := ne_of_none hg nl
      have zcl : c ≠ l := ne_of_none hc nl
      have zsl : st ≠ l := ne_of_none hst nl
      have hgl : upd H l (.lst []) g = some (.lst (gs.map V.int)) := (upd_ne zgl).trans hg
      have hstl : upd H l (.lst []) st = some (.dK (stK g c r t)) := (upd_ne zsl).trans hst
      have hcl : upd H l (.lst []) c = some (.lst (cs.map V.int)) := (upd_ne zcl).trans hc
      refine ⟨.list (gs.map PyData.int), .list [], .lst (SqL.of hgl) (dp_ints gs), .lst (SqL.of upd_same) .nil, sh_ints gs, rfl, _, rfl, ?_⟩
      cases gs with
      | nil =>
        refine iteF ?_
        have S' : SA (upd H l (.lst [])) st g c n := S.same (sadd (Same.refl H) nl)
        refine ⟨_, rfl, st, g, c, n, rfl, S', hn, fun z H1 z0 S1 F1 => ?_⟩
        obtain ⟨⟨r', t', r0', t0', tn', hst'⟩, ⟨gs', hg', g0', g63'⟩, ⟨cs', hc', c0', c63'⟩, gc'⟩ := id S1
        refine ⟨_, rfl, st, _, rfl, DPut.k (k := Sum.inr "rest") hst' (by show 4 < sizeLine; decide), ?_⟩
        rw [st_put_rest]
        refine cont _ ⟨⟨z, t', z0, t0', tn', upd_same⟩, ⟨gs', (upd_ne zg).trans hg', g0', g63'⟩, ⟨cs', (upd_ne zc).trans hc', c0', c63'⟩, gc⟩ fun b o e h1 h2 => (upd_ne h1).trans (F1 b o ((upd_ne (ne_of_none e nl)).trans e) h1)
      | cons z gs =>
        refine iteT ?_
        have zgc : c ≠ g := gc.symm
        refine ⟨_, rfl, st, _, rfl, DGet.k (k := Sum.inr "great") hstl, .inl ⟨rfl, _, SqL.of hgl⟩, g, _, 0, 0, _, rfl, rfl, hgl, by decide, by decide, seq0 _ _, rfl, ?_⟩
        have e0 : ((z :: gs).map V.int).eraseIdx 0 = gs.map V.int := rfl
        rw [e0]
        refine ⟨_, rfl, st, _, rfl, DPut.k (k := Sum.inr "rest") ((upd_ne zg.symm).trans hstl) (by show 4 < sizeLine; decide), ?_⟩
        rw [st_put_rest]
        refine cont _ ⟨⟨z, t, g0 z List.mem_cons_self, t0, by omega, upd_same⟩, ⟨gs, (upd_ne zg).trans upd_same, fun y hy => g0 y (List.mem_cons_of_mem _ hy), by rw [List.length_cons] at g63; omega⟩,
          ⟨cs, (upd_ne zc).trans ((upd_ne zgc).trans hcl), c0, c63⟩, gc⟩ fun b o e h1 h2 => (upd_ne h1).trans ((upd_ne h2).trans ((upd_ne (ne_of_none e nl)).trans e))
    · exact cont H (S.mono (Nat.le_succ n)) (Fr.refl st g H)
end
end OH
end
section
set_option Elab.async false
set_option linter.all false
set_option maxRecDepth 100000
set_option maxHeartbeats 8000000
namespace OH
open PySem PySem.Spec PyProof.Rows L2
def spPick : Sp := fun vs H Q _ => ∃ (st g c a : Addr) (n : Nat) (xs : List V), vs = [.ref st, .ref a] ∧ SA H st g c n ∧ n ≤ 1000000 ∧ H a = some (.lst xs) ∧ a ≠ g ∧ 0 < xs.length ∧ xs.length ≤ 1000000 ∧
  ∀ x H', x ∈ xs → SA H' st g c (n + 1) → Fr st g H H' → Q x H'
theorem upd_under {H : Hp} {a b : Addr} {o u : HO} (h : a ≠ b) : upd (upd H a o) b u a = some o := (upd_ne h).trans upd_same
theorem SA.put {H : Hp} {st g c p : Addr} {n : Nat} {o : HO} (s : SA H st g c n) (z : p ≠ st ∧ p ≠ g ∧ p ≠ c) : SA (upd H p o) st g c n := by
  obtain ⟨⟨r, t, h1, h2, h3, h4⟩, ⟨gs, g1, g2, g3⟩, ⟨cs, c1, c2, c3⟩, gc⟩ := s
  exact ⟨⟨r, t, h1, h2, h3, (upd_ne z.1.symm).trans h4⟩, ⟨gs, (upd_ne z.2.1.symm).trans g1, g2, g3⟩, ⟨cs, (upd_ne z.2.2.symm).trans c1, c2, c3⟩, gc⟩
theorem Fr.free {st g l : Addr} {H H' : Hp} (f : Fr st g H H') (n : H' l = none) (z : l ≠ st) (z2 : l ≠ g) : H l = none := by
  cases e : H l with
  | none => rfl
  | some o =>
    have q := f l o e z z2
    rw [n] at q
    cases q
theorem Fr.out {st g l : Addr} {H H' : Hp} {o : HO} (f : Fr st g H H') (n : H l = none) : Fr st g H (upd H' l o) := fun b u e h1 h2 =>
  (upd_ne (ne_of_none e n)).trans (f b u e h1 h2)
/-- a drawn number -/
def spNo (used : Nat) : Sp := fun vs H Q _ => ∃ (st g c : Addr) (n : Nat), vs = [.ref st] ∧ SA H st g c n ∧ n ≤ 900000 ∧
  ∀ z H', 0 ≤ z → z ≤ 9999 → SA H' st g c (n + used) → Fr st g H H' → Q (.int z) H'
theorem ix_both {X : Cx} : IxR X (fun x y H Q => rIxL X.K x y H Q ∨ rIxT X.K x y H Q) := by
  intro value slice pins s σ H x y v u Q I rx ry h hs
  rcases h with h | h
  · exact ix_list value slice pins s σ H x y v u Q I rx ry h hs
  · exact ix_tup value slice pins s σ H x y v u Q I rx ry h hs
/-- xs stands at a, as a list or as a tuple -/
def Holds (H : Hp) (a g : Addr) (xs : List V) : Prop := (H a = some (.lst xs) ∧ a ≠ g) ∨ H a = some (.tup xs)
def spPick2 : Sp := fun vs H Q _ => ∃ (st g c a : Addr) (n : Nat) (xs : List V), vs = [.ref st, .ref a] ∧ SA H st g c n ∧ n ≤ 1000000 ∧ Holds H a g xs ∧ 0 < xs.length ∧ xs.length ≤ 1000000 ∧
  ∀ x H', x ∈ xs → SA H' st g c (n + 1) → Fr st g H H' → Q x H'
section
variable {P : Program} {w : World} {K : PySem.W.Frag} {mg : Str → Option Value} {base : Heap}
theorem scPick : FnScope ["state", "some"] ["state", "some"] (defScope s__law_pick) := ⟨rfl, rfl, rfl, by decide +kernel, rfl, by decide +kernel, by decide +kernel⟩
theorem ok_pick2 {f fD : Addr} {fd fdD : FuncData} (F : Fun K "_law_pick" "_law_pick" s__law_pick f fd) (T : Txt K mg)
    (FD : FnOk P w K mg base CX0 2 fD fdD ["state", "room"] spDraw) (mD : mg "_law_draw" = some (.ref fD)) (kD : PySem.W.keepIn K (.ref fD) = true) (bD : Binds K fdD ["state", "room"] []) :
    FnOk P w K mg base CX0 3 f fd ["state", "some"] spPick2 := by
  refine F.ok scPick (fun vs H Q E h => ?_) (fun cdv A outer s H vs Q E hr h => ?_)
  · obtain ⟨st, g, c, a, n, xs, rfl, _⟩ := h
    rfl
  · obtain ⟨st, g, c, a, n, xs, rfl, S, hn, ha, l0, l1, k⟩ := h
    refine ⟨_, pss_one (ps_ret (pe_ix ix_both (pv 1) (pe_call FD hr rfl mD kD bD .nil pass0 (pa_cons (pv 0) (pa_cons (pe_callB call_len (by rfl) T.nLen (by decide +kernel) (pa_cons (pv 1) pa_nil)) pa_nil))) (fun _ _ => rfl))), ?_⟩
    refine ⟨_, rfl, _, rfl, _, rfl, _, xs.length, rfl, ?_, st, g, c, n, _, rfl, S, hn, by omega, by omega, fun z H1 z0 z1 S1 F1 => ?_⟩
    · rcases ha with ⟨ha, _⟩ | ha
      · exact .inl ⟨_, SqL.of ha, rfl⟩
      · exact .inr ⟨_, SqT.of ha, rfl⟩
    · have hz : z.toNat < xs.length := by omega
      have cast : (z.toNat : Int) = z := Int.toNat_of_nonneg z0
      have hx : xs[z.toNat]? = some xs[z.toNat] := List.getElem?_eq_getElem hz
      have at_ : atI xs z = some xs[z.toNat] := by
        have q := atI_nat hx
        rw [cast] at q
        exact q
      rcases ha with ⟨ha, ag⟩ | ha
      · have ha1 := F1 a _ ha (S.ne_st ha (fun _ q => nomatch q)) ag
        exact .inl ⟨a, _, _, _, rfl, rfl, SqL.of ha1, at_, k _ H1 (List.getElem_mem hz) S1 F1⟩
      · have ag : a ≠ g := by
          obtain ⟨_, ⟨gs, g1, _⟩, _⟩ := S
          exact ne_of ha g1 (fun q => nomatch q)
        have ha1 := F1 a _ ha (S.ne_st ha (fun _ q => nomatch q)) ag
        exact .inr ⟨a, _, _, _, rfl, rfl, SqT.of ha1, at_, k _ H1 (List.getElem_mem hz) S1 F1⟩
/-- the contract for lists alone -/
theorem pick_of {f : Addr} {fd : FuncData} (F : FnOk P w K mg base CX0 3 f fd ["state", "some"] spPick2) : FnOk P w K mg base CX0 3 f fd ["state", "some"] spPick :=
  F.imp fun vs H Q E ⟨st, g, c, a, n, xs, e, S, hn, ha, ag, l0, l1, k⟩ => ⟨st, g, c, a, n, xs, e, S, hn, .inl ⟨ha, ag⟩, l0, l1, k⟩
end
section
variable {P : Program} {w : World} {K : PySem.W.Frag} {mg : Str → Option Value} {base : Heap}
theorem scSmall : FnScope ["state"] ["state"] (defScope s__law_small) := ⟨rfl, rfl, rfl, by decide +kernel, rfl, by decide +kernel, by decide +kernel⟩
theorem ok_small {f fD fP : Addr} {fd fdD fdP : FuncData} (F : Fun K "_law_small" "_law_small" s__law_small f fd)
    (FD : FnOk P w K mg base CX0 2 fD fdD ["state", "room"] spDraw) (mD : mg "_law_draw" = some (.ref fD)) (kD : PySem.W.keepIn K (.ref fD) = true) (bD : Binds K fdD ["state", "room"] [])
    (FP : FnOk P w K mg base CX0 3 fP fdP ["state", "some"] spPick) (mP : mg "_law_pick" = some (.ref fP)) (kP : PySem.W.keepIn K (.ref fP) = true) (bP : Binds K fdP ["state", "some"] []) :
    FnOk P w K mg base CX0 4 f fd ["state"] (spNo 2) := by
  refine F.ok scSmall (fun vs H Q E h => ?_) (fun cdv A outer s H vs Q E hr h => ?_)
  · obtain ⟨st, g, c, n, rfl, _⟩ := h
    rfl
  · obtain ⟨st, g, c, n, rfl, S, hn, k⟩ := h
    have nd := scSmall.nd
    have hr2 : Room 2 _ := hr.mono (by decide)
    refine ⟨_, pss_one (ps_ret (pe_call FP hr rfl mP kP bP .nil pass0 (pa_cons (pv 0) (pa_cons (pe_lst
      (pa_cons pe_int (pa_cons pe_int (pa_cons pe_int (pa_cons pe_int (pa_cons pe_int (pa_cons pe_int (pa_cons pe_int (pa_cons pe_int (pa_cons pe_int (pa_cons pe_int (pa_cons pe_int (pa_cons pe_int (pa_cons pe_int (pa_cons pe_int (pa_cons pe_int
      (pa_cons (pe_op op_add pe_int (pe_call FD hr2 rfl mD kD bD .nil pass0 (pa_cons (pv 0) (pa_cons pe_int pa_nil)))) pa_nil))))))))))))))))) pa_nil)))), ?_⟩
    refine ⟨_, rfl, _, rfl, st, g, c, n, 9999, rfl, S, by omega, by decide, by decide, fun z1 H1 z10 z11 S1 F1 => ?_⟩
    refine ⟨_, _, rfl, rfl, (by show 16 ≤ sizeLine; decide), fun l nl => ?_⟩
    have zl := S1.old nl
    have l0 : H l = none := F1.free nl zl.1 zl.2.1
    refine ⟨st, g, c, l, n + 1, _, rfl, S1.put zl, by omega, upd_same, zl.2.1, (by show 0 < 16; decide), (by show 16 ≤ 1000000; decide), fun x H2 hx S2 F2 => ?_⟩
    have F12 : Fr st g H H2 := (F1.out l0).trans F2
    have hx' : x ∈ ([.int 0, .int 1, .int 2, .int 3, .int 1, .int 0, .int 4, .int 5, .int 2, .int 9999, .int 7, .int 10, .int 9, .int 40, .int 9998, .int (1 + z1)] : List V) := hx
    simp only [List.mem_cons, List.not_mem_nil, or_false] at hx'
    rcases hx' with rfl | rfl | rfl | rfl | rfl | rfl | rfl | rfl | rfl | rfl | rfl | rfl | rfl | rfl | rfl | rfl
    all_goals exact k _ H2 (by omega) (by omega) S2 F12
end
end OH
end
section
set_option Elab.async false
set_option linter.all false
set_option maxRecDepth 100000
set_option maxHeartbeats 4000000
/-! enumerate over a tuple. -/
namespace OH
open PySem PySem.Spec PyProof.Rows L2
/-- what making an enumerate of anything that can be iterated leaves -/
theorem en_meets {v : Value} {o : Obj} {T : Heap → Prop} (B : Begins v o T) :
    Meets (Builtin.«enumerate.__new__» ⟨[.type "enumerate", v], []⟩) (fun _ R s => T s.heap ∧ R (.ok (.ret (.ref (s.heap.push o).objs.size)))
      { s with heap := (s.heap.push o).push { cls := .type "enumerate", data := .fields #[.none, .bool false, .ref s.heap.objs.size, rawInt 0, .none, .none] } }) :=
  Meets.of_wp fun prog w A R s hh => by
    obtain ⟨hp, gs, dr, tk, os⟩ := s
    obtain ⟨ht, hr⟩ := hh
    have hsub := sub_enumerate
    have go : ∀ {A' : Around} {E : Value → Shared → Prop} {Q : Value → Shared → Prop}, Q (.ref hp.objs.size) ⟨hp.push o, gs, dr, tk, os⟩ → wpAny (model prog w) A' (pyIter v) Q E ⟨hp, gs, dr, tk, os⟩ := fun q => B.iter prog w _ _ ⟨hp, gs, dr, tk, os⟩ _ ht q
    wp_walk using go
    refine wpAny_stack_any fun stk => wpAny_pure ?_
    split
    · next c _ _ _ _ _ =>
      cases (c == Value.type "enumerate") <;> (wp_walk using go; exact ⟨_, rfl, hr⟩)
    · wp_walk using go
      exact ⟨_, rfl, hr⟩
theorem en_call {prog : Program} {w : World} {A : Around} {E : Value → Shared → Prop} {s : Shared} {v : Value} {o : Obj} {T : Heap → Prop} {Q : Value → Shared → Prop} (B : Begins v o T) (ht : T s.heap)
    (h : ∀ h', IsEnum h' (s.heap.objs.size + 1) s.heap.objs.size 0 .none → h'.get? s.heap.objs.size = some o → (∀ b u, s.heap.get? b = some u → h'.get? b = some u) → Q (.ref (s.heap.objs.size + 1)) { s with heap := h' }) :
    wpAny (model prog w) A (call (.type "enumerate") [v]) Q E s := by
  refine callType_new F.called_enumerate (by decide) (F.typeCall_enumerate_1 _) (F.newCall_enumerate_1 _) (fun obj => F.args_object_init_2 obj _) F.entry_enumerate_new (en_meets B) ⟨ht, ?_⟩
  have hz : (s.heap.push o).objs.size = s.heap.objs.size + 1 := Heap.size_push ..
  show _ ∧ _
  rw [hz]
  have he : IsEnum ((s.heap.push o).push { cls := .type "enumerate", data := .fields #[.none, .bool false, .ref s.heap.objs.size, rawInt 0, .none, .none] }) (s.heap.objs.size + 1) s.heap.objs.size 0 .none := by
    have q := Heap.get?_push_size (s.heap.push o) (o := { cls := .type "enumerate", data := .fields #[.none, .bool false, .ref s.heap.objs.size, rawInt 0, .none, .none] }) rfl
    rw [hz] at q
    exact q
  exact ⟨⟨_, he, rfl⟩, h _ he (Heap.get?_push_of_some _ (Heap.get?_push_size _ B.free)) fun b u x => Heap.get?_push_of_some _ (Heap.get?_push_of_some _ x)⟩
/-- the tuple at a as it stands at each turn, each item in a new pair -/
def IteT (K : PySem.W.Frag) (a : Addr) : It :=
  ⟨fun i H => ∃ (xs : List V) (x : V), SqT K H a xs ∧ xs[i]? = some x,
   fun i H v H' => ∃ T x, v = .ref T ∧ H T = none ∧ H' = upd H T (.tup [.int (i : Nat), x]) ∧ ∀ ys, SqT K H a ys → ys[i]? = some x,
   fun i H => ∃ xs : List V, SqT K H a xs ∧ xs.length ≤ i⟩
theorem turn_enumT {P : Program} {w : World} {K : PySem.W.Frag} {elts : List Expr} {kk : Nat} {tpos : Pos} (a e it : Addr) :
    Turn P w K (.Tuple elts kk tpos) (IteT K a) [e, it] e (fun i h => (∃ old, IsEnum h e it ((i : Nat) : Int) old) ∧ h.IsTupleIter it a i ∧ e ≠ it) where
  mem := List.mem_cons_self ..
  obj := fun i h st b hb => by
    obtain ⟨⟨old, he⟩, ⟨o, ho, hc, hd⟩, _⟩ := st
    rcases List.mem_cons.mp hb with z | z
    · rw [z]; exact ⟨_, he, fun v q => nomatch q⟩
    · exact ⟨o, (List.mem_singleton.mp z) ▸ ho, fun v q => by rw [hd] at q; cases q⟩
  keep := fun i h h' st k => let ⟨⟨old, he⟩, hi, hne⟩ := st; ⟨⟨old, k e (List.mem_cons_self ..) _ he⟩, hi.at fun o q => k it (List.mem_cons_of_mem _ (List.mem_singleton.mpr rfl)) o q, hne⟩
  item := by
    intro X hP hw hK hc i pins s σ H E I hf st hg
    subst hP hw hK
    obtain ⟨⟨old, he⟩, hit, hne⟩ := st
    obtain ⟨xs, x, hq, hx⟩ := hg
    obtain ⟨its, rv, p, hz⟩ := I.tuple hq
    obtain ⟨u, hu, ru⟩ := rv.get hx
    have hT0 : s.heap.IsTuple a its.toArray := p
    have nai : a ≠ it := fun z => by
      obtain ⟨o1, q1, q2, _⟩ := hT0
      obtain ⟨o2, q3, q4, _⟩ := hit
      rw [z, q3] at q1
      cases q1
      rw [q4] at q2
      exact absurd q2 (by decide)
    have nae : a ≠ e := fun z => by
      obtain ⟨o1, q1, q2, _⟩ := hT0
      rw [z] at q1
      have q5 := (Option.some.inj (q1.symm.trans he))
      rw [q5] at q2
      exact absurd (show Value.type "enumerate" = Value.type "tuple" from q2) (by decide)
    have hel : e < s.heap.objs.size := Heap.lt_size he
    have hil : it < s.heap.objs.size := by obtain ⟨_, q, _⟩ := hit; exact Heap.lt_size q
    have hlt : i < its.toArray.size := by
      rw [List.size_toArray]
      exact (List.getElem?_eq_some_iff.mp hu).1
    refine wpAny_pyNext_enum_itemD (Draws.tuple (prog := X.prog) (w := X.w) (A := X.A.in1) (by have := I.ok.hd hc; simpa using this) it a nai its.toArray) he ⟨hit, hT0⟩ hlt hne (by
      intro z
      rcases List.mem_cons.mp z with z | z
      · exact hne z
      · exact nae (List.mem_singleton.mp z).symm) fun x' h' tk hP ho hst hT hsz hk => ?_
    obtain rfl : x' = u := by
      have q : its.toArray[i]? = some x' := hP
      rw [List.getElem?_toArray, hu] at q
      exact (Option.some.inj q).symm
    refine ⟨_, rfl, wpAny_letOwnedTupleGo_enum (s := { s with heap := h', toks := tk + 1 }) ho fun h'' he' sb => ?_⟩
    have hT2 : h''.get? s.heap.objs.size = some { cls := .type "tuple", data := .seq #[.int i tk, x'] } := (sb.2 _ (Nat.ne_of_gt hel)).trans hT
    have new : ObjOk X.prog X.w (upd H s.heap.objs.size (.tup [.int (i : Nat), x])) h'' s.heap.objs.size (.tup [.int (i : Nat), x]) :=
      ⟨by show 2 ≤ sizeLine; decide, [.int i tk, x'], .cons ⟨_, rfl⟩ (.cons ru .nil), ⟨_, hT2, rfl, _, rfl⟩⟩
    have I1 : Inv X pins σ (upd H s.heap.objs.size (.tup [.int (i : Nat), x])) { s with heap := h'', toks := tk + 1 } :=
      I.turnedNew (ch := [e, it]) (fun b ob hb q => (sb.2 b (fun z => hb (z ▸ List.mem_cons_self ..))).trans (hk b ob (fun z => hb (z ▸ List.mem_cons_self ..)) (fun z => hb (z ▸ List.mem_cons_of_mem _ (List.mem_singleton.mpr rfl))) q)) hf (Nat.le_refl _) new
    refine ⟨.ref s.heap.objs.size, _, I1, rfl, ⟨_, x, rfl, I.hok.fresh (Nat.le_refl _), rfl, fun ys hy => by rw [I.tuple_inj hy hq]; exact hx⟩, ⟨⟨x', ?_⟩, hst.1.at fun o q => (sb.2 it (Ne.symm hne)).trans q, hne⟩, fun b hb => ?_⟩
    · have e1 : ((i + 1 : Nat) : Int) = (i : Int) + 1 := by omega
      rw [e1]
      exact he'
    · have hb' : b < s.heap.objs.size := by
        rcases List.mem_cons.mp hb with z | z
        · rw [z]; exact hel
        · rw [List.mem_singleton.mp z]; exact hil
      rw [upd_ne (Nat.ne_of_lt hb')]
      exact (hf b hb).1
  done := by
    intro X hP hw hK hc i pins s σ H E I hf st hg
    subst hP hw hK
    obtain ⟨⟨old, he⟩, hit, hne⟩ := st
    obtain ⟨xs, hq, hx⟩ := hg
    obtain ⟨its, rv, p, hz⟩ := I.tuple hq
    have hT0 : s.heap.IsTuple a its.toArray := p
    obtain ⟨f0, f1, f2, f3, f4, f5⟩ := hf it (List.mem_cons_of_mem _ (List.mem_singleton.mpr rfl))
    have hl := rv.length
    have hT : s.TypeIs (.ref e) "enumerate" := ⟨_, he, rfl⟩
    unfold pyNext
    refine wpAny_bind (wpAny_attempt (wpAny_callSpecial?_slot (name := Str.ofString "__next__") hT F.slot_enumerate_next (wpAny_call_entry F.slot_enumerate_next hT F.entry_enumerate_next ?_ (F.args_enumerate_next_1 _))))
    show wpAny _ _ (field (.ref e) 2 >>= _) _ _ _
    refine wpAny_bind (wpAny_field he rfl (x := .ref it) rfl ?_)
    refine wpAny_bind (wpAny_nextOf_tuple_end (by have := I.ok.hd hc; simpa using this) hit hT0 (by rw [List.getElem?_toArray]; exact List.getElem?_eq_none (by omega)) fun h' x eb hx' => ?_)
    obtain ⟨o, ho, hcc⟩ := hx'
    refine wpAny_bind (wpAny_isInstance (T := "StopIteration") (b := true) ⟨o, ho, hcc⟩ isSubtype_stop (wpAny_pure ⟨rfl, I.turned (t' := s.toks) (fun b o hb q => eb b o hb q) f0 f1 f3 f4 f5⟩))
  self := fun A i s Q E st h => let ⟨⟨_, he⟩, _⟩ := st; wpAny_pyIter_enum he h
def iEnumT (K : PySem.W.Frag) (ta : TA) : TI := fun σ H R => ta σ H fun vs H1 => ∃ a xs, vs = [.ref a] ∧ SqT K H1 a xs ∧ R (IteT K a) H1
theorem pi_enumT {X : Cx} {e : Expr} {ta : TA} {p pos tpos : Pos} {elts : List Expr} {kk : Nat} (hg : Gl X "enumerate") (hm : X.mg "enumerate" = none) (ha : PA X [e] ta) (hs : starEach [e] X.env = [(false, eval e X.env)] := by rfl) :
    PI X (.Tuple elts kk tpos) (.Call (.Name "enumerate" p) [e] [] pos) (iEnumT X.K ta) := by
  refine ⟨fun pins s σ H R I h => ?_⟩
  refine Call_ (ld_blt I hg hm boot_enumerate (PyProof.Rows.callWith_type1 (thn (ha.run pos pins s σ H _ I h) fun us s1 ⟨vs, H1, I1, r1, a, xs, ex, hq, q⟩ => ?_) hs rfl))
  subst ex
  cases r1 with
  | cons r rr =>
    cases rr
    cases r
    obtain ⟨its, rv, p', hz⟩ := I1.tuple hq
    refine en_call (begins_tuple a its.toArray) p' fun h' he hit hk => wpAny_pyIter_enum he ?_
    have I2 : Inv X pins σ H1 { s1 with heap := h' } := I1.kept (t' := s1.toks) hk
    refine ⟨s1.heap.objs.size + 1, [s1.heap.objs.size + 1, s1.heap.objs.size], _, _, H1, rfl, I2, turn_enumT a (s1.heap.objs.size + 1) s1.heap.objs.size, ⟨⟨.none, he⟩, ⟨_, hit, rfl, rfl⟩, Nat.succ_ne_self _⟩, fun b hb => ?_, q⟩
    have hle : s1.heap.objs.size ≤ b := by
      rcases List.mem_cons.mp hb with z | z
      · rw [z]; exact Nat.le_add_right _ _
      · rw [List.mem_singleton.mp z]; exact Nat.le_refl _
    exact I1.fpOk hle (I1.hok.fresh hle)
/-- n turns of it, while the tuple stands -/
theorem walk_enumT {K : PySem.W.Frag} {a : Addr} {xs : List V} : Walk (IteT K a) xs.length (fun H => SqT K H a xs) (YPair (fun i => some (.int (i : Nat))) (fun i => xs[i]?)) := by
  refine ⟨fun i _ hi q => ⟨xs, xs[i], q, List.getElem?_eq_getElem hi⟩, fun _ q => ⟨xs, q, Nat.le_refl _⟩, fun i H v H' _ q y => ?_⟩
  obtain ⟨T, x, h1, h2, h3, h4⟩ := y
  exact ⟨T, .int (i : Nat), x, h1, h2, h3, rfl, h4 xs q⟩
end OH
end
section
set_option Elab.async false
set_option linter.all false
set_option maxRecDepth 100000
set_option maxHeartbeats 4000000
/-! len(set(t)), t a tuple of tuples of ints. -/
namespace OH
open PySem PySem.Spec PyProof.Rows L2
abbrev set0 (w : World) : Obj := { cls := .type "set", dict := none, data := .set #[] 0 (.fresh 0 0 (!w.params.followText "set-order")) }
section
variable {P : Program} {w : World} {A : Around} {E : Value → Shared → Prop} {s : Shared}
set_option maxHeartbeats 6400000 in
theorem set_of_tup {l : Addr} {its : Array Value} (ks : List (Addr × List Int)) {Q : Value → Shared → Prop} (hh : A.handled = none) (ht : s.heap.IsTuple l its) (hi : its.toList = ks.map fun p => Value.ref p.1)
    (hk : ∀ p ∈ ks, IsT P w s.heap p.2 p.1) (few : ks.length < 64) (hu : A.units + 3 < cLine)
    (kk : ∀ (h' : Heap) (tk : Nat) L es ep t, SetTR P w h' s.heap.objs.size L es ep t → Got ks ks.length L → (∀ b o, s.heap.get? b = some o → h'.get? b = some o) → Q (.ref s.heap.objs.size) { s with heap := h', toks := tk }) :
    wpAny (model P w) A (call (.type "set") [.ref l]) Q E s := by
  have isz : its.size = ks.length := by
    have q := congrArg List.length hi
    rwa [Array.length_toList, List.length_map] at q
  obtain ⟨c, tl, hmro⟩ := PySem.F.called_set.mro
  have m1 := PySem.F.called_set.made
  have m2 := PySem.F.called_set.sub
  have m3 := PySem.F.called_set.notType
  have m4 := PySem.F.called_set.canCreate
  have m5 := PySem.F.typeCall_set_1 (.ref l)
  refine wpAny_call (codeAny_of_tree ?_)
  show wpAny _ _ (callAny (.type "set") _) _ _ _
  refine wpAny_pure ⟨Code.quiet_builtin _ (by decide +kernel), codeAny_builtin PySem.F.entry_type_call ?_⟩
  rw [Around.under_plain (weight_type_call_type "set" [.ref l] []) rfl]
  repeat (any_goals (first | assumption | wp_step))
  refine codeAny_mono (code_set_led1 (.ref l) (E := E) (Q₁ := fun v s₁ => v = .ref s.heap.objs.size ∧ s₁ = { s with heap := s.heap.push (set0 w) }) ⟨rfl, rfl⟩) fun r s₁ hr => ?_
  cases r with
  | error er => exact hr
  | ok fl =>
    cases fl with
    | ret v =>
      obtain ⟨rfl, rfl⟩ := hr
      have hS : (s.heap.push (set0 w)).get? s.heap.objs.size = some (set0 w) := Heap.get?_push_size _ rfl
      have hT : Shared.TypeIs { s with heap := s.heap.push (set0 w) } (.ref s.heap.objs.size) "set" := ⟨_, hS, rfl⟩
      have n1 := PySem.F.called_set.init.lookup
      have n2 := PySem.F.called_set.init.bind (.ref s.heap.objs.size)
      repeat (any_goals (first | assumption | wp_step))
      refine codeAny_mono (codeAny_call_builtin (R := wants (fun r s₂ => r = .none ∧ ∃ h' tk L es ep t, s₂ = { s with heap := h', toks := tk } ∧ SetTR P w h' s.heap.objs.size L es ep t ∧ Got ks ks.length L ∧ (∀ b o, s.heap.get? b = some o → h'.get? b = some o)) E)
        PySem.F.called_set.init.plain PySem.F.entry_set_init (check_set_init_1 hT ?_)) fun r₂ s₂ hr₂ => ?_
      · obtain ⟨⟨c1, c2, c3, c4⟩, hol, hcl, nl, hdl⟩ := ht
        simp only at hcl hdl
        subst hcl hdl
        have hol' : (s.heap.push (set0 w)).get? l = some { cls := .type "tuple", dict := c2, data := .seq its nl, slots := c4 } := Heap.get?_push_of_some _ hol
        have q1 := PySem.F.sub_tuple_set
        have q2 := PySem.F.sub_tuple_frozenset
        have q3 : (Value.type "tuple" == Value.type "dict") = false := by decide
        have ht1 : (s.heap.push (set0 w)).IsTuple l its := ⟨_, hol', rfl, nl, rfl⟩
        unfold Builtin.«set.__init__» noKeywords Builtin.Frozenset.updateFrom
        generalize hPI : pyIter = PI
        wp_walk
        subst hPI
        refine wpAny_pyIter_tuple ht1 (wpAny_bind (wpAny_runValue ?_))
        have below : l < s.heap.objs.size := Heap.lt_size hol
        have h3 : A.in1.in1.in1.handled = none := by simp [hh]
        have szp : (s.heap.push (set0 w)).objs.size = s.heap.objs.size + 1 := Heap.size_push ..
        have apart : l ≠ (s.heap.push (set0 w)).objs.size := by
          rw [szp]
          exact Nat.ne_of_lt (Nat.lt_succ_of_lt below)
        have outS : s.heap.objs.size ∉ [(s.heap.push (set0 w)).objs.size, l] := by
          rw [szp]
          intro z
          rcases List.mem_cons.mp z with z | z
          · exact absurd z (Nat.ne_of_lt (Nat.lt_succ_self _))
          · exact absurd (List.mem_singleton.mp z) (Nat.ne_of_gt below)
        have vals : ∀ (i : Nat) (v : Value), its[i]? = some v → ∃ p, ks[i]? = some p ∧ v = .ref p.1 := fun i v hv => by
          have q : its.toList[i]? = some v := by rw [Array.getElem?_toList]; exact hv
          rw [hi, List.getElem?_map] at q
          obtain ⟨p, e1, e2⟩ := Option.map_eq_some_iff.mp q
          exact ⟨p, e1, e2.symm⟩
        have fresh : ∀ b, s.heap.objs.size ≤ b → s.heap.get? b = none := fun b hb => by
          cases q : s.heap.get? b with
          | none => rfl
          | some o => exact absurd (Nat.lt_of_lt_of_le (Heap.lt_size q) hb) (Nat.lt_irrefl _)
        refine set_update_tups ((Walks.tuple h3 _ l apart its).toS) s.heap.objs.size outS ks isz few vals s.heap hk (fresh _ (Nat.le_refl _)) (fun b hb => fresh b (by
            rw [List.mem_singleton.mp hb, szp]
            exact Nat.le_succ _)) hu (its.size - 0) 0 _ (by omega) (Nat.zero_le _)
          ⟨⟨_, Heap.get?_push_size _ rfl, rfl, rfl⟩, ht1.push _⟩ (fun b o e => Heap.get?_push_of_some _ (Heap.get?_push_of_some _ e)) ?first ?last
        case first =>
          have g0 : ((s.heap.push (set0 w)).push { cls := .type "tuple_iterator", data := .fields #[.ref l, .int 0 0] }).get? s.heap.objs.size = some (set0 w) := Heap.get?_push_of_some _ hS
          exact ⟨[], #[], 0, _, setTR_fresh g0, Got.zero ks⟩
        case last =>
          intro s' L es ep t mv R g kp
          obtain ⟨h', g2, d2, tk, o2⟩ := s'
          have e1 : g2 = s.gens := mv.gens
          have e2 : d2 = s.drawn := mv.drawn
          have e3 : o2 = s.os := mv.os
          subst e1 e2 e3
          show wpAny _ _ _ _ _ _
          refine wpAny_pure ?_
          show wpAny _ _ (ret Value.none) _ _ _
          rw [isz] at g
          exact wpAny_pure ⟨rfl, h', tk, L, es, ep, t, rfl, R, g, kp⟩
      · cases r₂ with
        | error er => exact hr₂
        | ok f₂ =>
          cases f₂ with
          | ret r =>
            obtain ⟨rfl, h', tk, L, es, ep, t, rfl, R, g, kp⟩ := hr₂
            repeat (any_goals (first | assumption | wp_step))
            exact kk _ _ _ _ _ _ R g kp
          | _ => exact hr₂.elim
    | _ => exact hr.elim
end
theorem nodup_le {α : Type} [DecidableEq α] : ∀ (l D : List α), l.Nodup → (∀ x ∈ l, x ∈ D) → l.length ≤ D.length
  | [], _, _, _ => Nat.zero_le _
  | x :: l, D, hn, hs => by
    obtain ⟨h1, h2⟩ := List.nodup_cons.mp hn
    have hx : x ∈ D := hs x List.mem_cons_self
    have ih := nodup_le l (D.erase x) h2 fun y hy => (by
      have ne : y ≠ x := fun e => h1 (by rw [← e]; exact hy)
      exact (List.mem_erase_of_ne ne).2 (hs y (List.mem_cons_of_mem _ hy)))
    rw [List.length_erase_of_mem hx] at ih
    have := List.length_pos_of_mem hx
    rw [List.length_cons]
    omega
/-- a list that holds all of a list without doubles that is as long has none either -/
theorem nodup_of_le {α : Type} [DecidableEq α] : ∀ (l D : List α), D.Nodup → (∀ x ∈ D, x ∈ l) → l.length ≤ D.length → l.Nodup
  | [], _, _, _, _ => List.nodup_nil
  | x :: l, D, hn, hs, hl => by
    have cover : ∀ (T : List α), T.Nodup → (∀ y ∈ T, y ∈ l) → T.length ≤ l.length := fun T h1 h2 => nodup_le T l h1 h2
    by_cases hx : x ∈ l
    · have q := cover D hn fun y hy => (List.mem_cons.mp (hs y hy)).elim (fun e => by rw [e]; exact hx) id
      rw [List.length_cons] at hl
      omega
    · refine List.nodup_cons.mpr ⟨hx, nodup_of_le l (D.erase x) (hn.erase x) (fun y hy => ?_) ?_⟩
      · have hy2 := List.mem_of_mem_erase hy
        rcases List.mem_cons.mp (hs y hy2) with e | z
        · rw [e] at hy
          exact absurd hy (fun h => by rw [List.Nodup.mem_erase_iff hn] at h; exact h.1 rfl)
        · exact z
      · have hxD : x ∈ D := by
          refine Classical.byContradiction fun nx => ?_
          have q := cover D hn fun y hy => (List.mem_cons.mp (hs y hy)).elim (fun e => absurd (show x ∈ D by rw [← e]; exact hy) nx) id
          rw [List.length_cons] at hl
          omega
        rw [List.length_erase_of_mem hxD]
        rw [List.length_cons] at hl
        omega
def tLenSetT (K : PySem.W.Frag) (ta : TE) : TE := fun σ H Q => ta σ H fun x H1 => ∃ (l : Addr) (ks : List (Addr × List Int)), x = .ref l ∧ SqT K H1 l (ks.map fun p => V.ref p.1) ∧ (∀ p ∈ ks, SqT K H1 p.1 (p.2.map V.int)) ∧ ks.length < 64 ∧
  ∀ n : Nat, (n = ks.length ↔ (ks.map (·.2)).Nodup) → Q (.int n) H1
theorem pe_lenSetT {X : Cx} {a : Expr} {ta : TE} {p p2 q pos : Pos} (hu : X.A.units + 64 < cLine) (hg : Gl X "len") (hm : X.mg "len" = none) (hg2 : Gl X "set") (hm2 : X.mg "set" = none) (ha : PE X a ta) (hc : X.calm = true := by rfl)
    (na : starEach [a] X.env = (false, eval a X.env) :: starEach [] X.env := by rfl) : PE X (.Call (.Name "len" p) [.Call (.Name "set" p2) [a] [] q] [] pos) (tLenSetT X.K ta) := by
  refine ⟨fun pins s σ H Q I h => ?_⟩
  refine Call_ (ld_blt I hg hm boot_len (PyProof.Rows.callWith_builtin1 (PyProof.Rows.args_cons ?_ rfl) rfl rfl))
  refine Call_ (ld_blt I hg2 hm2 boot_set (PyProof.Rows.callWith_type1 (PyProof.Rows.args_cons (thn (ha.run pins s σ H _ I h) fun v s1 ⟨x, H1, I1, r1, l, ks, ex, hq, hk, hf, q1⟩ => PyProof.Rows.args_nil ?_) na) na rfl))
  subst ex
  cases r1
  obtain ⟨its, r, pl, hz⟩ := I1.tuple hq
  refine set_of_tup (P := X.prog) (w := X.w) ks (I1.ok.hd hc) pl (by simpa using refs_of_vals r) (fun p hp => I1.isT (hk p hp)) hf (by omega) fun h' tk L es ep t R g kp => ?_
  refine PyProof.Rows.args_nil ?_
  obtain ⟨o, ho, hex, hd⟩ := R.ob
  have I2 : Inv X pins σ H1 { s1 with heap := h', toks := tk } := I1.kept fun b o e => kp b o e
  have es1 : es.size = L.length := R.size (s := { s1 with heap := h', toks := tk })
  have few := R.few
  refine call_len_set ho hex hd (R.fits (s := { s1 with heap := h', toks := tk })) (by rw [es1]; omega) ⟨.int L.length, H1, I2.tok _, ⟨_, by rw [es1]⟩, q1 L.length ⟨fun e => ?_, fun nd => ?_⟩⟩
  · refine nodup_of_le _ (L.map (·.2)) R.nd (fun y hy => ?_) (by rw [List.length_map, List.length_map, e]; exact Nat.le_refl _)
    obtain ⟨p, hp, rfl⟩ := List.mem_map.mp hy
    exact List.mem_map.mpr ⟨p, List.mem_of_mem_take (g.sub p hp), rfl⟩
  · have q1 := nodup_le (ks.map (·.2)) (L.map (·.2)) nd (fun y hy => by
      obtain ⟨p, hp, rfl⟩ := List.mem_map.mp hy
      exact g.all p (by rw [List.take_length]; exact hp))
    rw [List.length_map, List.length_map] at q1
    have := g.len
    omega
end OH
end
section
set_option Elab.async false
set_option linter.all false
set_option maxRecDepth 100000
set_option maxHeartbeats 4000000
/-! enumerate over a list, counted from a start. -/
namespace OH
open PySem PySem.Spec PyProof.Rows L2
theorem tc_en2 (a b : Value) : checkTypeCall "enumerate" ⟨[a, b], []⟩ = pure () := by kernel_rfl
theorem nc_en2 (a b : Value) : checkBuiltinCall "enumerate.__new__" ⟨[.type "enumerate", a, b], []⟩ = pure () := by kernel_rfl
theorem en2_meets {v : Value} {o : Obj} {T : Heap → Prop} (B : Begins v o T) (t : Tok) :
    Meets (Builtin.«enumerate.__new__» ⟨[.type "enumerate", v, .int 1 t], []⟩) (fun _ R s => T s.heap ∧ R (.ok (.ret (.ref (s.heap.push o).objs.size)))
      { s with heap := (s.heap.push o).push { cls := .type "enumerate", data := .fields #[.none, .bool false, .ref s.heap.objs.size, rawInt 1, .none, .none] } }) :=
  Meets.of_wp fun prog w A R s hh => by
    obtain ⟨hp, gs, dr, tk, os⟩ := s
    obtain ⟨ht, hr⟩ := hh
    have hsub := sub_enumerate
    have go : ∀ {A' : Around} {E : Value → Shared → Prop} {Q : Value → Shared → Prop}, Q (.ref hp.objs.size) ⟨hp.push o, gs, dr, tk, os⟩ → wpAny (model prog w) A' (pyIter v) Q E ⟨hp, gs, dr, tk, os⟩ := fun q => B.iter prog w _ _ ⟨hp, gs, dr, tk, os⟩ _ ht q
    wp_walk using go
    refine wpAny_stack_any fun stk => wpAny_pure ?_
    split
    · next c _ _ _ _ _ =>
      cases (c == Value.type "enumerate") <;> (wp_walk using go; exact ⟨_, rfl, hr⟩)
    · wp_walk using go
      exact ⟨_, rfl, hr⟩
theorem en2_call {prog : Program} {w : World} {A : Around} {E : Value → Shared → Prop} {s : Shared} {v : Value} {o : Obj} {T : Heap → Prop} {Q : Value → Shared → Prop} {t : Tok} (B : Begins v o T) (ht : T s.heap)
    (h : ∀ h', IsEnum h' (s.heap.objs.size + 1) s.heap.objs.size 1 .none → h'.get? s.heap.objs.size = some o → (∀ b u, s.heap.get? b = some u → h'.get? b = some u) → Q (.ref (s.heap.objs.size + 1)) { s with heap := h' }) :
    wpAny (model prog w) A (call (.type "enumerate") [v, .int 1 t]) Q E s := by
  refine callType_new F.called_enumerate (by decide) (tc_en2 _ _) (nc_en2 _ _) (fun obj => F.args_object_init_3 obj _ _) F.entry_enumerate_new (en2_meets B t) ⟨ht, ?_⟩
  have hz : (s.heap.push o).objs.size = s.heap.objs.size + 1 := Heap.size_push ..
  show _ ∧ _
  rw [hz]
  have he : IsEnum ((s.heap.push o).push { cls := .type "enumerate", data := .fields #[.none, .bool false, .ref s.heap.objs.size, rawInt 1, .none, .none] }) (s.heap.objs.size + 1) s.heap.objs.size 1 .none := by
    have q := Heap.get?_push_size (s.heap.push o) (o := { cls := .type "enumerate", data := .fields #[.none, .bool false, .ref s.heap.objs.size, rawInt 1, .none, .none] }) rfl
    rw [hz] at q
    exact q
  exact ⟨⟨_, he, rfl⟩, h _ he (Heap.get?_push_of_some _ (Heap.get?_push_size _ B.free)) fun b u x => Heap.get?_push_of_some _ (Heap.get?_push_of_some _ x)⟩
/-- the list at a as it stands at each turn, each item in a new pair, counted from 1 -/
def IteO (K : PySem.W.Frag) (a : Addr) : It :=
  ⟨fun i H => ∃ (xs : List V) (x : V), SqL K H a xs ∧ xs[i]? = some x,
   fun i H v H' => ∃ T x, v = .ref T ∧ H T = none ∧ H' = upd H T (.tup [.int ((i + 1 : Nat) : Int), x]) ∧ ∀ ys, SqL K H a ys → ys[i]? = some x,
   fun i H => ∃ xs : List V, SqL K H a xs ∧ xs.length ≤ i⟩
/-- the same draws, counted from 1 -/
theorem draws_one {prog : Program} {w : World} {A : Around} {it : Addr} {fp : List Addr} {n : Nat} {P : Nat → Value → Prop} {St : Nat → Heap → Prop} (D : Draws prog w A it fp n P St) :
    Draws prog w A it fp (n + 1) (fun i v => ∃ j, i = j + 1 ∧ P j v) (fun i h => ∃ j, i = j + 1 ∧ St j h) where
  live := fun i h ⟨j, _, st⟩ => D.live j h st
  frame := fun i h h' ⟨j, e, st⟩ k => ⟨j, e, D.frame j h h' st k⟩
  item := fun i s Q E hi ⟨j, e, st⟩ hQ => D.item j s Q E (by omega) st fun x h' tk p st' sb => hQ x h' tk ⟨j, e, p⟩ ⟨j + 1, by omega, st'⟩ sb
  done := fun s Q E ⟨j, e, st⟩ hE => D.done s Q E ((Nat.succ.inj e) ▸ st) hE
theorem turn_enumO {P : Program} {w : World} {K : PySem.W.Frag} {elts : List Expr} {kk : Nat} {tpos : Pos} (a e it : Addr) :
    Turn P w K (.Tuple elts kk tpos) (IteO K a) [e, it] e (fun i h => (∃ old, IsEnum h e it ((i + 1 : Nat) : Int) old) ∧ h.IsListIter it a i ∧ e ≠ it) where
  mem := List.mem_cons_self ..
  obj := fun i h st b hb => by
    obtain ⟨⟨old, he⟩, ⟨o, ho, hc, hd⟩, _⟩ := st
    rcases List.mem_cons.mp hb with z | z
    · rw [z]; exact ⟨_, he, fun v q => nomatch q⟩
    · exact ⟨o, (List.mem_singleton.mp z) ▸ ho, fun v q => by rw [hd] at q; cases q⟩
  keep := fun i h h' st k => let ⟨⟨old, he⟩, hi, hne⟩ := st; ⟨⟨old, k e (List.mem_cons_self ..) _ he⟩, hi.at fun o q => k it (List.mem_cons_of_mem _ (List.mem_singleton.mpr rfl)) o q, hne⟩
  item := by
    intro X hP hw hK hc i pins s σ H E I hf st hg
    subst hP hw hK
    obtain ⟨⟨old, he⟩, hit, hne⟩ := st
    obtain ⟨xs, x, hq, hx⟩ := hg
    obtain ⟨its, rv, p, hz⟩ := I.list hq
    obtain ⟨u, hu, ru⟩ := rv.get hx
    have hT0 : s.heap.IsList a its.toArray := p.isList
    have nai : a ≠ it := fun z => by
      obtain ⟨o1, q1, q2, _⟩ := hT0
      obtain ⟨o2, q3, q4, _⟩ := hit
      rw [z, q3] at q1
      cases q1
      rw [q4] at q2
      exact absurd q2 (by decide)
    have nae : a ≠ e := fun z => by
      obtain ⟨o1, q1, q2, _⟩ := hT0
      rw [z] at q1
      have q5 := (Option.some.inj (q1.symm.trans he))
      rw [q5] at q2
      exact absurd (show Value.type "enumerate" = Value.type "list" from q2) (by decide)
    have hel : e < s.heap.objs.size := Heap.lt_size he
    have hil : it < s.heap.objs.size := by obtain ⟨_, q, _⟩ := hit; exact Heap.lt_size q
    have hlt : i + 1 < its.toArray.size + 1 := by
      rw [List.size_toArray]
      have := (List.getElem?_eq_some_iff.mp hu).1
      omega
    refine wpAny_pyNext_enum_itemD (draws_one (Draws.list (prog := X.prog) (w := X.w) (A := X.A.in1) (by have := I.ok.hd hc; simpa using this) it a nai its.toArray)) he ⟨i, rfl, hit, hT0⟩ hlt hne (by
      intro z
      rcases List.mem_cons.mp z with z | z
      · exact hne z
      · exact nae (List.mem_singleton.mp z).symm) fun x' h' tk hP ho hst hT hsz hk => ?_
    obtain ⟨j, ej, hP⟩ := hP
    obtain rfl : j = i := by omega
    obtain rfl : x' = u := by
      have q : its.toArray[j]? = some x' := hP
      rw [List.getElem?_toArray, hu] at q
      exact (Option.some.inj q).symm
    refine ⟨_, rfl, wpAny_letOwnedTupleGo_enum (s := { s with heap := h', toks := tk + 1 }) ho fun h'' he' sb => ?_⟩
    have hT2 : h''.get? s.heap.objs.size = some { cls := .type "tuple", data := .seq #[.int ((j + 1 : Nat) : Int) tk, x'] } := (sb.2 _ (Nat.ne_of_gt hel)).trans hT
    have new : ObjOk X.prog X.w (upd H s.heap.objs.size (.tup [.int ((j + 1 : Nat) : Int), x])) h'' s.heap.objs.size (.tup [.int ((j + 1 : Nat) : Int), x]) :=
      ⟨by show 2 ≤ sizeLine; decide, [.int ((j + 1 : Nat) : Int) tk, x'], .cons ⟨_, rfl⟩ (.cons ru .nil), ⟨_, hT2, rfl, _, rfl⟩⟩
    have I1 : Inv X pins σ (upd H s.heap.objs.size (.tup [.int ((j + 1 : Nat) : Int), x])) { s with heap := h'', toks := tk + 1 } :=
      I.turnedNew (ch := [e, it]) (fun b ob hb q => (sb.2 b (fun z => hb (z ▸ List.mem_cons_self ..))).trans (hk b ob (fun z => hb (z ▸ List.mem_cons_self ..)) (fun z => hb (z ▸ List.mem_cons_of_mem _ (List.mem_singleton.mpr rfl))) q)) hf (Nat.le_refl _) new
    obtain ⟨j2, ej2, hst1, _⟩ := hst
    obtain rfl : j2 = j + 1 := by omega
    refine ⟨.ref s.heap.objs.size, _, I1, rfl, ⟨_, x, rfl, I.hok.fresh (Nat.le_refl _), rfl, fun ys hy => by rw [I.list_inj hy hq]; exact hx⟩, ⟨⟨x', ?_⟩, hst1.at fun o q => (sb.2 it (Ne.symm hne)).trans q, hne⟩, fun b hb => ?_⟩
    · have e1 : ((j + 1 + 1 : Nat) : Int) = ((j + 1 : Nat) : Int) + 1 := by omega
      rw [e1]
      exact he'
    · have hb' : b < s.heap.objs.size := by
        rcases List.mem_cons.mp hb with z | z
        · rw [z]; exact hel
        · rw [List.mem_singleton.mp z]; exact hil
      rw [upd_ne (Nat.ne_of_lt hb')]
      exact (hf b hb).1
  done := by
    intro X hP hw hK hc i pins s σ H E I hf st hg
    subst hP hw hK
    obtain ⟨⟨old, he⟩, hit, hne⟩ := st
    obtain ⟨xs, hq, hx⟩ := hg
    obtain ⟨its, rv, p, hz⟩ := I.list hq
    obtain ⟨f0, f1, f2, f3, f4, f5⟩ := hf it (List.mem_cons_of_mem _ (List.mem_singleton.mpr rfl))
    have hl := rv.length
    have hT : s.TypeIs (.ref e) "enumerate" := ⟨_, he, rfl⟩
    unfold pyNext
    refine wpAny_bind (wpAny_attempt (wpAny_callSpecial?_slot (name := Str.ofString "__next__") hT F.slot_enumerate_next (wpAny_call_entry F.slot_enumerate_next hT F.entry_enumerate_next ?_ (F.args_enumerate_next_1 _))))
    show wpAny _ _ (field (.ref e) 2 >>= _) _ _ _
    refine wpAny_bind (wpAny_field he rfl (x := .ref it) rfl ?_)
    refine wpAny_bind (wpAny_nextOf_list_end (by have := I.ok.hd hc; simpa using this) hit p.isList (by rw [List.getElem?_toArray]; exact List.getElem?_eq_none (by omega)) fun h' x eb hx' => ?_)
    obtain ⟨o, ho, hcc⟩ := hx'
    refine wpAny_bind (wpAny_isInstance (T := "StopIteration") (b := true) ⟨o, ho, hcc⟩ isSubtype_stop (wpAny_pure ⟨rfl, I.turned (t' := s.toks) (fun b o hb q => eb b o hb q) f0 f1 f3 f4 f5⟩))
  self := fun A i s Q E st h => let ⟨⟨_, he⟩, _⟩ := st; wpAny_pyIter_enum he h
def iEnumO (K : PySem.W.Frag) (ta : TA) : TI := fun σ H R => ta σ H fun vs H1 => ∃ a xs, vs = [.ref a, .int 1] ∧ SqL K H1 a xs ∧ R (IteO K a) H1
theorem pi_enumO {X : Cx} {e e2 : Expr} {ta : TA} {p pos tpos : Pos} {elts : List Expr} {kk : Nat} (hg : Gl X "enumerate") (hm : X.mg "enumerate" = none) (ha : PA X [e, e2] ta)
    (hs : starEach [e, e2] X.env = (false, eval e X.env) :: starEach [e2] X.env := by rfl) (hpl : (backTo pos (starEach [e2] X.env)).any (·.1) = false := by rfl) :
    PI X (.Tuple elts kk tpos) (.Call (.Name "enumerate" p) [e, e2] [] pos) (iEnumO X.K ta) := by
  refine ⟨fun pins s σ H R I h => ?_⟩
  refine Call_ (ld_blt I hg hm boot_enumerate (PyProof.Rows.callWith_type1 (thn (ha.run pos pins s σ H _ I h) fun us s1 ⟨vs, H1, I1, r1, a, xs, ex, hq, q⟩ => ?_) hs hpl))
  subst ex
  cases r1 with
  | cons r rr =>
    cases rr with
    | cons r2 rr =>
      cases rr
      cases r
      obtain ⟨t2, rfl⟩ := r2
      obtain ⟨its, rv, p', hz⟩ := I1.list hq
      refine en2_call (begins_list a its.toArray) p'.isList fun h' he hit hk => wpAny_pyIter_enum he ?_
      have I2 : Inv X pins σ H1 { s1 with heap := h' } := I1.kept (t' := s1.toks) hk
      refine ⟨s1.heap.objs.size + 1, [s1.heap.objs.size + 1, s1.heap.objs.size], _, _, H1, rfl, I2, turn_enumO a (s1.heap.objs.size + 1) s1.heap.objs.size, ⟨⟨.none, he⟩, ⟨_, hit, rfl, rfl⟩, Nat.succ_ne_self _⟩, fun b hb => ?_, q⟩
      have hle : s1.heap.objs.size ≤ b := by
        rcases List.mem_cons.mp hb with z | z
        · rw [z]; exact Nat.le_add_right _ _
        · rw [List.mem_singleton.mp z]; exact Nat.le_refl _
      exact I1.fpOk hle (I1.hok.fresh hle)
/-- so many turns of it, while the list stands -/
theorem walk_enumO {K : PySem.W.Frag} {a : Addr} {xs : List V} : Walk (IteO K a) xs.length (fun H => SqL K H a xs) (YPair (fun i => some (.int ((i + 1 : Nat) : Int))) (fun i => xs[i]?)) := by
  refine ⟨fun i _ hi q => ⟨xs, xs[i], q, List.getElem?_eq_getElem hi⟩, fun _ q => ⟨xs, q, Nat.le_refl _⟩, fun i H v H' _ q y => ?_⟩
  obtain ⟨T, x, h1, h2, h3, h4⟩ := y
  exact ⟨T, .int ((i + 1 : Nat) : Int), x, h1, h2, h3, rfl, h4 xs q⟩
end OH
end
section
set_option Elab.async false
set_option linter.all false
set_option maxRecDepth 100000
set_option maxHeartbeats 4000000
/-! xs[::2] and xs[1::2]. -/
namespace OH
open PySem PySem.Spec PyProof.Rows L2
/-- every other item, from the first one on -/
def evs {α : Type} : List α → List α
  | [] => []
  | [a] => [a]
  | a :: _ :: r => a :: evs r
theorem evs_range {α : Type} : ∀ xs : List α, (List.range ((xs.length + 1) / 2)).filterMap (fun k => xs[2 * k]?) = evs xs
  | [] => by simp [evs]
  | [a] => by
    rw [show ([a].length + 1) / 2 = 1 by rw [List.length_singleton], List.range_one]
    unfold evs
    rfl
  | a :: b :: r => by
    have h1 : ((a :: b :: r).length + 1) / 2 = (r.length + 1) / 2 + 1 := by
      show (r.length + 1 + 1 + 1) / 2 = _
      omega
    rw [h1, List.range_succ_eq_map, List.filterMap_cons, List.filterMap_map]
    unfold evs
    rw [← evs_range r]
    rfl
theorem fm_congr {α β : Type} {f g : α → Option β} (h : ∀ x, f x = g x) (l : List α) : l.filterMap f = l.filterMap g := by rw [show f = g from funext h]
theorem evs_vals : ∀ {xs : List V} {us : List Value}, Vals xs us → Vals (evs xs) (evs us)
  | _, _, .nil => by unfold evs; exact .nil
  | _, _, .cons a .nil => by unfold evs; exact .cons a .nil
  | _, _, .cons a (.cons _ r) => by unfold evs; exact .cons a (evs_vals r)
theorem evs_len {α : Type} : ∀ xs : List α, (evs xs).length ≤ xs.length
  | [] => by unfold evs; exact Nat.le_refl _
  | [_] => by unfold evs; exact Nat.le_refl _
  | _ :: _ :: r => by unfold evs; exact Nat.succ_le_succ (Nat.le_succ_of_le (evs_len r))
theorem range2 (lo n : Nat) (h : lo ≤ n) : sliceRange (lo : Int) (n : Int) 2 = (List.range ((n - lo + 1) / 2)).map fun k => lo + 2 * k := by
  unfold sliceRange
  rw [if_pos (by decide : (2 : Int) > 0)]
  have e : (if (lo : Int) < (n : Int) then ((n : Int) - lo + 2 - 1) / 2 else 0).toNat = (n - lo + 1) / 2 := by
    split
    · omega
    · omega
  show (List.range (if (lo : Int) < (n : Int) then ((n : Int) - lo + 2 - 1) / 2 else 0).toNat).map _ = _
  rw [e]
  apply List.map_congr_left
  intro k _
  omega
theorem pick_even (its : List Value) : slicePick its.toArray none none (some 2) = (evs its).toArray := by
  unfold slicePick
  have e : sliceBounds none none (some 2) its.toArray.size = (((0 : Nat) : Int), ((its.length : Nat) : Int), 2) := by
    show (_, _, _) = _
    rw [List.size_toArray]
    rfl
  rw [e]
  show ((sliceRange ((0 : Nat) : Int) (its.length : Int) 2).filterMap (its.toArray[·]?)).toArray = _
  rw [range2 0 its.length (Nat.zero_le _), List.filterMap_map, ← evs_range]
  congr 1
  refine fm_congr (fun k => ?_) _
  show its.toArray[0 + 2 * k]? = _
  rw [Nat.zero_add, List.getElem?_toArray]
theorem pick_odd (its : List Value) : slicePick its.toArray (some 1) none (some 2) = (evs its.tail).toArray := by
  unfold slicePick
  cases its with
  | nil => rfl
  | cons a r =>
    have e : sliceBounds (some 1) none (some 2) (a :: r).toArray.size = (((1 : Nat) : Int), (((a :: r).length : Nat) : Int), 2) := by
      show (_, _, _) = _
      rw [List.size_toArray]
      have : max (0 : Int) (min 1 (((a :: r).length : Nat) : Int)) = 1 := by
        show max (0 : Int) (min 1 ((r.length + 1 : Nat) : Int)) = 1
        omega
      show (max (0 : Int) (min 1 (((a :: r).length : Nat) : Int)), _, _) = _
      rw [this]
      rfl
    rw [e]
    show ((sliceRange ((1 : Nat) : Int) ((a :: r).length : Int) 2).filterMap ((a :: r).toArray[·]?)).toArray = _
    rw [range2 1 (a :: r).length (Nat.succ_le_succ (Nat.zero_le _)), List.filterMap_map]
    show _ = (evs r).toArray
    rw [← evs_range]
    congr 1
    show List.filterMap _ (List.range ((r.length + 1 - 1 + 1) / 2)) = _
    rw [Nat.add_sub_cancel]
    refine fm_congr (fun k => ?_) _
    show (a :: r).toArray[1 + 2 * k]? = _
    rw [List.getElem?_toArray, Nat.add_comm 1]
    rfl
def tEvL (K : PySem.W.Frag) (te : TE) : TE := fun σ H Q => te σ H fun x H1 => ∃ a xs, x = .ref a ∧ SqL K H1 a xs ∧ ∀ p, H1 p = none → Q (.ref p) (upd H1 p (.lst (evs xs)))
def tOdL (K : PySem.W.Frag) (te : TE) : TE := fun σ H Q => te σ H fun x H1 => ∃ a xs, x = .ref a ∧ SqL K H1 a xs ∧ ∀ p, H1 p = none → Q (.ref p) (upd H1 p (.lst (evs xs.tail)))
section
variable {X : Cx} {e : Expr} {te : TE} {k k2 : Nat} {p1 p2 p3 pos : Pos}
theorem pe_evL (he : PE X e te) : PE X (.Subscript e (.Slice none none (some (.Constant (.int 2) k p1)) p3) pos) (tEvL X.K te) := by
  refine ⟨fun pins s σ H Q I h => ?_⟩
  refine Subscript_ (thn (he.run pins s σ H _ I h) fun v s1 ⟨x, H1, I1, r1, a, xs, ex, hx, q⟩ => ?_)
  subst ex
  cases r1
  have hst : PO X (some (.Constant (.int 2) k p1)) (tPart (tC (.int 2))) := po_some pe_int
  refine wpAny_Slice (thn (po_none.run pins s1 σ H1 (fun o H2 => o = none ∧ H2 = H1) I1 ⟨rfl, rfl⟩) fun vl s2 ⟨l, H2, I2, pl, el, e2⟩ => ?_)
  subst el e2
  refine thn (po_none.run pins s2 σ H2 (fun o H3 => o = none ∧ H3 = H2) I2 ⟨rfl, rfl⟩) fun vu s3 ⟨u, H3, I3, pu, eu, e3⟩ => ?_
  subst eu e3
  refine thn (hst.run pins s3 σ H3 (fun o H4 => o = some 2 ∧ H4 = H3) I3 ⟨2, rfl, rfl, rfl⟩) fun vs s4 ⟨o, H4, I4, ps, eo, e4⟩ => ?_
  subst eo e4
  have I5 : Inv X pins σ H4 { s4 with heap := s4.heap.push { cls := .type "slice", data := .fields #[vl, vu, vs] } } := I4.kept (t' := s4.toks) fun b ob q => Heap.get?_push_of_some _ q
  obtain ⟨its, r, ht, hz⟩ := I5.list hx
  have hlen := r.length
  refine tail_any (s := { s4 with heap := s4.heap.push { cls := .type "slice", data := .fields #[vl, vu, vs] } }) (ops := [.ref a, .ref s4.heap.objs.size]) ht.isList.typeIs (PySem.slot_list_getitem.lookup) ?_ (by with_unfolding_all rfl)
  refine wpAny_getItem_list_slice ht.isList (Heap.IsSliceOf.new _ vl vu vs) pl pu ps (by decide) ?_ (by rw [List.size_toArray]; omega)
  rw [pick_even]
  have hz2 := evs_len xs
  exact ⟨.ref _, _, I5.laid (t' := s4.toks) (o := .lst (evs xs)) (fun b ob q => Heap.get?_push_of_some _ q) (Nat.le_refl _) ⟨by omega, _, 0, evs_vals r, Heap.get?_push_size _ rfl⟩, rfl, q _ (I5.hok.fresh (Nat.le_refl _))⟩
theorem pe_odL (he : PE X e te) : PE X (.Subscript e (.Slice (some (.Constant (.int 1) k2 p2)) none (some (.Constant (.int 2) k p1)) p3) pos) (tOdL X.K te) := by
  refine ⟨fun pins s σ H Q I h => ?_⟩
  refine Subscript_ (thn (he.run pins s σ H _ I h) fun v s1 ⟨x, H1, I1, r1, a, xs, ex, hx, q⟩ => ?_)
  subst ex
  cases r1
  have hst : PO X (some (.Constant (.int 2) k p1)) (tPart (tC (.int 2))) := po_some pe_int
  have hlo : PO X (some (.Constant (.int 1) k2 p2)) (tPart (tC (.int 1))) := po_some pe_int
  refine wpAny_Slice (thn (hlo.run pins s1 σ H1 (fun o H2 => o = some 1 ∧ H2 = H1) I1 ⟨1, rfl, rfl, rfl⟩) fun vl s2 ⟨l, H2, I2, pl, el, e2⟩ => ?_)
  subst el e2
  refine thn (po_none.run pins s2 σ H2 (fun o H3 => o = none ∧ H3 = H2) I2 ⟨rfl, rfl⟩) fun vu s3 ⟨u, H3, I3, pu, eu, e3⟩ => ?_
  subst eu e3
  refine thn (hst.run pins s3 σ H3 (fun o H4 => o = some 2 ∧ H4 = H3) I3 ⟨2, rfl, rfl, rfl⟩) fun vs s4 ⟨o, H4, I4, ps, eo, e4⟩ => ?_
  subst eo e4
  have I5 : Inv X pins σ H4 { s4 with heap := s4.heap.push { cls := .type "slice", data := .fields #[vl, vu, vs] } } := I4.kept (t' := s4.toks) fun b ob q => Heap.get?_push_of_some _ q
  obtain ⟨its, r, ht, hz⟩ := I5.list hx
  have hlen := r.length
  refine tail_any (s := { s4 with heap := s4.heap.push { cls := .type "slice", data := .fields #[vl, vu, vs] } }) (ops := [.ref a, .ref s4.heap.objs.size]) ht.isList.typeIs (PySem.slot_list_getitem.lookup) ?_ (by with_unfolding_all rfl)
  refine wpAny_getItem_list_slice ht.isList (Heap.IsSliceOf.new _ vl vu vs) pl pu ps (by decide) ?_ (by rw [List.size_toArray]; omega)
  rw [pick_odd]
  have hz2 := evs_len xs.tail
  rw [List.length_tail] at hz2
  have rt : Vals xs.tail its.tail := by
    cases r with
    | nil => exact .nil
    | cons _ r => exact r
  exact ⟨.ref _, _, I5.laid (t' := s4.toks) (o := .lst (evs xs.tail)) (fun b ob q => Heap.get?_push_of_some _ q) (Nat.le_refl _) ⟨by omega, _, 0, evs_vals rt, Heap.get?_push_size _ rfl⟩, rfl, q _ (I5.hok.fresh (Nat.le_refl _))⟩
end
end OH
end
section
set_option Elab.async false
set_option linter.all false
set_option maxRecDepth 100000
set_option maxHeartbeats 4000000
/-! Defs, methods, classes and properties with all that a call of them asks, in one word each. -/
namespace OH
open PySem PySem.Spec PyProof.Rows L2
section
variable (P : Program) (w : World) (K : PySem.W.Frag) (mg : Str → Option Value) (base : Heap) (CX : CXT) (k : Nat)
/-- the top's def of that name -/
def DefF (x : Str) (ps : List Str) (sp : Sp) : Prop := ∃ (f : Addr) (fd : FuncData), FnOk P w K mg base CX k f fd ps sp ∧ mg x = some (.ref f) ∧ PySem.W.keepIn K (.ref f) = true ∧ Binds K fd ps []
/-- the class's method of that name -/
def MetF (C : Addr) (m : Str) (ps : List Str) (sp : Sp) : Prop := ∃ (f : Addr) (fd : FuncData), FnOk P w K mg base CX k f fd ps sp ∧ Meth K C m f ∧ Binds K fd ps []
/-- the class itself, by its __init__ -/
def MakF (x : Str) (C : Addr) (ps : List Str) (sp : Sp) : Prop := ∃ (f : Addr) (fd : FuncData), FnOk P w K mg base CX k f fd ps sp ∧ Mk K C f ∧ mg x = some (.ref C) ∧ Binds K fd ps []
/-- the class's property of that name -/
def ProF (C : Addr) (m : Str) (sp : Sp) : Prop := ∃ (p g : Addr) (fd : FuncData), FnOk P w K mg base CX k g fd ["self"] sp ∧ PropOf K C m p g ∧ Binds K fd ["self"] []
end
section
variable {P : Program} {w : World} {K : PySem.W.Frag} {mg : Str → Option Value} {base : Heap} {CX : CXT} {j k : Nat} {x m : Str} {C : Addr} {ps : List Str} {sp sp' : Sp}
theorem DefF.mono (D : DefF P w K mg base CX j x ps sp) (h : j ≤ k) : DefF P w K mg base CX k x ps sp := let ⟨f, fd, F, r⟩ := D; ⟨f, fd, F.mono h, r⟩
theorem MetF.mono (D : MetF P w K mg base CX j C m ps sp) (h : j ≤ k) : MetF P w K mg base CX k C m ps sp := let ⟨f, fd, F, r⟩ := D; ⟨f, fd, F.mono h, r⟩
theorem MakF.mono (D : MakF P w K mg base CX j x C ps sp) (h : j ≤ k) : MakF P w K mg base CX k x C ps sp := let ⟨f, fd, F, r⟩ := D; ⟨f, fd, F.mono h, r⟩
theorem ProF.mono (D : ProF P w K mg base CX j C m sp) (h : j ≤ k) : ProF P w K mg base CX k C m sp := let ⟨f, fd, g, F, r⟩ := D; ⟨f, fd, g, F.mono h, r⟩
theorem DefF.imp (D : DefF P w K mg base CX k x ps sp) (h : ∀ vs H Q E, sp' vs H Q E → sp vs H Q E) : DefF P w K mg base CX k x ps sp' := let ⟨f, fd, F, r⟩ := D; ⟨f, fd, F.imp h, r⟩
theorem MetF.imp (D : MetF P w K mg base CX k C m ps sp) (h : ∀ vs H Q E, sp' vs H Q E → sp vs H Q E) : MetF P w K mg base CX k C m ps sp' := let ⟨f, fd, F, r⟩ := D; ⟨f, fd, F.imp h, r⟩
end
section
variable {X : Cx} {CX : CXT} {k : Nat} {C : Addr} {ps : List Str} {sp : Sp} {E : XK} {x m : Str} {p pos apos : Pos} {e o : Expr} {es : List Expr} {ta : TE} {t : TA}
theorem pe_cD (D : DefF X.prog X.w X.K X.mg X.base CX k x ps sp) (hr : Room k X.A) (hg : Gl X x) (hx : Passes CX X E) (ha : PA X (e :: es) t) (hdb : (x == ("__debug__" : Str)) = false := by decide)
    (he : starEach (e :: es) X.env = (false, eval e X.env) :: starEach es X.env := by rfl) (hpl : (backTo pos (starEach es X.env)).any (·.1) = false := by rfl) :
    PE X (.Call (.Name x p) (e :: es) [] pos) (tCall sp [] E t) := by
  obtain ⟨f, fd, F, h1, h2, h3⟩ := D
  exact pe_call F hr hg h1 h2 h3 .nil hx ha hdb he hpl
theorem pe_mD {pl : Sem Bool} (he : PE X o ta) (c : Cls X.K C) (D : MetF X.prog X.w X.K X.mg X.base CX k C m ps sp) (hr : Room k X.A) (hx : Passes CX X E) (ha : PA X (e :: es) t)
    (hst : starEach (e :: es) X.env = (false, eval e X.env) :: starEach es X.env := by rfl) (hpl : (backTo pos (starEach es X.env)).any (·.1) = false := by rfl)
    (ht : eval (.Call (.Attribute o m apos) (e :: es) [] pos) X.env = (do
      let ov ← eval o X.env
      standAt apos.atName
      let (f, first) ← holding [ov] (getMethod ov m pl)
      callWith pos f first (backTo pos (starEach (e :: es) X.env)) (backToKw pos (keywordEach [] X.env))) := by rfl) :
    PE X (.Call (.Attribute o m apos) (e :: es) [] pos) (tMeth C m sp [] E ta t) := by
  obtain ⟨f, fd, F, h1, h2⟩ := D
  exact pe_meth he c h1 F hr h2 .nil hx ha hst hpl ht
theorem pe_mD0 {pl : Sem Bool} (he : PE X o ta) (c : Cls X.K C) (D : MetF X.prog X.w X.K X.mg X.base CX k C m ps sp) (hr : Room k X.A) (hx : Passes CX X E)
    (ht : eval (.Call (.Attribute o m apos) [] [] pos) X.env = (do
      let ov ← eval o X.env
      standAt apos.atName
      let (f, first) ← holding [ov] (getMethod ov m pl)
      callWith pos f first (backTo pos (starEach [] X.env)) (backToKw pos (keywordEach [] X.env))) := by rfl) :
    PE X (.Call (.Attribute o m apos) [] [] pos) (tMeth C m sp [] E ta tNil) := by
  obtain ⟨f, fd, F, h1, h2⟩ := D
  exact pe_meth0 he c h1 F hr h2 .nil hx ht
theorem pe_kD (D : MakF X.prog X.w X.K X.mg X.base CX k x C ps sp) (hr : Room (k + 1) X.A) (hg : Gl X x) (hx : Passes CX X E) (ha : PA X (e :: es) t) (hdb : (x == ("__debug__" : Str)) = false := by decide)
    (he : starEach (e :: es) X.env = (false, eval e X.env) :: starEach es X.env := by rfl) (hpl : (backTo pos (starEach es X.env)).any (·.1) = false := by rfl) :
    PE X (.Call (.Name x p) (e :: es) [] pos) (tMake C sp [] E t) := by
  obtain ⟨f, fd, F, h1, h2, h3⟩ := D
  exact pe_make h1 F hr hg h2 h3 .nil hx ha hdb he hpl
theorem pe_pD (he : PE X e ta) (c : Cls X.K C) (D : ProF X.prog X.w X.K X.mg X.base CX k C m sp) (hr : Room (k + 1) X.A) (hx : Passes CX X.nox E) (hab : attributeBase e m X.env (eval e X.env) = eval e X.env) :
    PE X (.Attribute e m pos) (tProp C sp [] E ta) := by
  obtain ⟨q, g, fd, F, h1, h2⟩ := D
  exact pe_prop he c h1 F hr h2 .nil hx hab
end
end OH
end
section
set_option Elab.async false
set_option linter.all false
set_option maxRecDepth 100000
set_option maxHeartbeats 8000000
namespace OH
open PySem PySem.Spec PyProof.Rows L2
inductive Crs where
  | start (n : Int) | call (a b d n : Int) | back (a b n : Int) | deep (a b d n : Int) | done (n : Int) | fin (a : Int)
deriving DecidableEq
def Crs.vs : Crs → List V
  | .start n => [.str "start", .int n]
  | .call a b d n => [.str "call", .int a, .int b, .int d, .int n]
  | .back a b n => [.str "back", .int a, .int b, .int n]
  | .deep a b d n => [.str "deep", .int a, .int b, .int d, .int n]
  | .done n => [.str "done", .int n]
  | .fin a => [.str "end", .int a]
def Num (z : Int) : Prop := 0 ≤ z ∧ z ≤ 9999
/-- tuples at addresses, told by f -/
inductive AllAt {α : Type} (H : Hp) (f : α → List V) : List Addr → List α → Prop where
  | nil : AllAt H f [] []
  | cons {p : Addr} {x : α} {ps : List Addr} {xs : List α} : H p = some (.tup (f x)) → AllAt H f ps xs → AllAt H f (p :: ps) (x :: xs)
section
variable {α : Type} {H H' : Hp} {f : α → List V} {ps : List Addr} {xs : List α}
theorem AllAt.mono (h : AllAt H f ps xs) (k : ∀ q ys, H q = some (.tup ys) → H' q = some (.tup ys)) : AllAt H' f ps xs := by
  induction h with
  | nil => exact .nil
  | cons a _ ih => exact .cons (k _ _ a) ih
theorem AllAt.len (h : AllAt H f ps xs) : ps.length = xs.length := by
  induction h with
  | nil => rfl
  | cons _ _ ih => exact congrArg (· + 1) ih
theorem AllAt.app (h : AllAt H f ps xs) {p : Addr} {x : α} (hp : H p = some (.tup (f x))) : AllAt H f (ps ++ [p]) (xs ++ [x]) := by
  induction h with
  | nil => exact .cons hp .nil
  | cons a _ ih => exact .cons a ih
theorem AllAt.get (h : AllAt H f ps xs) : ∀ {i : Nat} {x : α}, xs[i]? = some x → ∃ p, ps[i]? = some p ∧ H p = some (.tup (f x)) := by
  induction h with
  | nil => intro i x e; cases i <;> cases e
  | cons a _ ih =>
    intro i x e
    cases i with
    | zero => exact ⟨_, rfl, by cases e; exact a⟩
    | succ i => exact ih e
theorem AllAt.take (h : AllAt H f ps xs) : ∀ n, AllAt H f (ps.take n) (xs.take n) := by
  induction h with
  | nil => intro n; cases n <;> exact .nil
  | cons a _ ih =>
    intro n
    cases n with
    | zero => exact .nil
    | succ n => exact .cons a (ih n)
theorem AllAt.pop (h : AllAt H f ps xs) : AllAt H f ps.dropLast xs.dropLast := by
  rw [List.dropLast_eq_take, List.dropLast_eq_take, h.len]
  exact h.take _
end
def pairV (q : Int × Int) : List V := [.int q.1, .int q.2]
structure Txt3 (mg : Str → Option Value) : Prop where
  gOpen : ∃ t, mg "MOST_OPEN" = some (.int 60 t)
  gRooms : ∃ t, mg "MOST_ROOMS" = some (.int 6 t)
  gImp : ∃ t, mg "MOST_IMPORTS" = some (.int 8 t)
  nSet : mg "set" = none
theorem isT_of {H : Hp} {a : Addr} {xs : List V} {lo hi : Int} (h : H a = some (.tup xs)) (h1 : lo ≤ (xs.length : Int)) (h2 : (xs.length : Int) ≤ hi) : isT H lo hi (.ref a) = true := by
  show (match H a with | some (.tup xs) => decide (lo ≤ (xs.length : Int)) && decide ((xs.length : Int) ≤ hi) | _ => false) = true
  rw [h]
  show (decide (lo ≤ (xs.length : Int)) && decide ((xs.length : Int) ≤ hi)) = true
  rw [decide_eq_true h1, decide_eq_true h2]
  rfl
theorem isW_in {lo hi i : Int} (h1 : lo ≤ i) (h2 : i ≤ hi) : isW lo hi (.int i) = true := by
  show (decide (lo ≤ i) && decide (i ≤ hi)) = true
  rw [decide_eq_true h1, decide_eq_true h2]
  rfl
theorem PairsAt.len {H : Hp} {ps : List Addr} {ws : List (Int × Int)} (h : PairsAt H ps ws) : ps.length = ws.length := by
  induction h with
  | nil => rfl
  | cons _ _ ih => exact congrArg (· + 1) ih
theorem PairsAt.get {H : Hp} {ps : List Addr} {ws : List (Int × Int)} (h : PairsAt H ps ws) : ∀ {i : Nat} {p : Addr}, ps[i]? = some p → ∃ q, ws[i]? = some q ∧ H p = some (.tup [.int q.1, .int q.2]) := by
  induction h with
  | nil => intro i p e; cases i <;> cases e
  | cons a _ ih =>
    intro i p e
    cases i with
    | zero => exact ⟨_, rfl, by cases e; exact a⟩
    | succ i => exact ih e
/-- pairs as lists of two -/
def keysP (ps : List Addr) (ws : List (Int × Int)) : List (Addr × List Int) := ps.zip (ws.map fun q => [q.1, q.2])
theorem keysP_facts {H : Hp} {ps : List Addr} {ws : List (Int × Int)} (h : PairsAt H ps ws) : (keysP ps ws).map (fun p => V.ref p.1) = ps.map V.ref ∧ (∀ p ∈ keysP ps ws, H p.1 = some (.tup (p.2.map V.int))) ∧ (keysP ps ws).map (·.2) = ws.map fun q => [q.1, q.2] := by
  induction h with
  | nil => exact ⟨rfl, fun p hp => absurd hp List.not_mem_nil, rfl⟩
  | @cons p q ps ws a _ ih =>
    obtain ⟨h1, h2, h3⟩ := ih
    refine ⟨?_, fun x hx => ?_, ?_⟩
    · show V.ref p :: (keysP ps ws).map (fun p => V.ref p.1) = V.ref p :: ps.map V.ref
      rw [h1]
    · rcases List.mem_cons.mp (show x ∈ (p, [q.1, q.2]) :: keysP ps ws from hx) with e | e
      · rw [e]; exact a
      · exact h2 x e
    · show [q.1, q.2] :: (keysP ps ws).map (·.2) = [q.1, q.2] :: ws.map fun q => [q.1, q.2]
      rw [h3]
theorem nodup_pairs (ws : List (Int × Int)) : (ws.map fun q => [q.1, q.2]).Nodup ↔ ws.Nodup := by
  constructor
  · exact fun h => L2.nodup_of_map h
  · intro h
    induction ws with
    | nil => exact List.nodup_nil
    | cons w ws ih =>
      obtain ⟨h1, h2⟩ := List.nodup_cons.mp h
      refine List.nodup_cons.mpr ⟨fun z => ?_, ih h2⟩
      obtain ⟨q, hq, e⟩ := List.mem_map.mp z
      refine h1 ?_
      injection e with e1 e2
      injection e2 with e2 _
      rw [show w = q from Prod.ext e1.symm e2.symm]
      exact hq
def spUnlike : Sp := fun vs H Q _ => ∃ (a : Addr) (ps : List Addr) (ws : List (Int × Int)), vs = [.ref a] ∧ H a = some (.tup (ps.map V.ref)) ∧ PairsAt H ps ws ∧ ws.length < 64 ∧ Q (.bl (decide ws.Nodup)) H
def spWires : Sp := fun vs H Q _ => ∃ (a dl : Addr) (own : Int) (ps : List Addr) (ws : List (Int × Int)) (ds : List Int), vs = [.ref a, .int own, .ref dl] ∧ H a = some (.tup (ps.map V.ref)) ∧ PairsAt H ps ws ∧ ws.length ≤ 8 ∧ ws.Nodup ∧ H dl = some (.tup (ds.map V.int)) ∧
  (∀ p ∈ ws, 0 ≤ p.1 ∧ p.1 < (ds.length : Int) ∧ p.1 ≠ own ∧ 0 ≤ p.2 ∧ p.2 < ds.getD p.1.toNat 0) ∧ Q (.bl true) H
def spNeedR : Sp := fun vs H Q _ => ∃ i m : Int, vs = [.int i, .int m] ∧ 0 ≤ i ∧ i < m ∧ Q .non H
section
variable {P : Program} {w : World} {K : PySem.W.Frag} {mg : Str → Option Value} {base : Heap} {CS CR aE : Addr}
theorem sc_all_unlike : FnScope ["things"] ["things"] (defScope s_all_unlike) := ⟨rfl, rfl, rfl, by decide +kernel, rfl, by decide +kernel, by decide +kernel⟩
theorem ok_all_unlike {f : Addr} {fd : FuncData} (F : Fun K "all_unlike" "all_unlike" s_all_unlike f fd) (T : Txt K mg) (T3 : Txt3 mg) : FnOk P w K mg base CX0 1 f fd ["things"] spUnlike := by
  refine F.ok sc_all_unlike (fun vs H Q E h => ?_) (fun cdv A outer s H vs Q E hr h => ?_)
  · obtain ⟨a, ps, ws, rfl, _⟩ := h
    rfl
  · obtain ⟨a, ps, ws, rfl, ha, hp, hl, k⟩ := h
    refine ⟨_, pss_one (ps_ret (pe_or (pe_cmpR op_lt (pe_callB call_len_seq (by rfl) T.nLen PySem.boot_len (pa_cons (pv 0) pa_nil)) pe_int (nomark _))
      (pe_one (pe_cmpR op_eq (pe_lenSetT hr.units rfl T.nLen rfl T3.nSet (pv 0)) (pe_callB call_len_seq (by rfl) T.nLen PySem.boot_len (pa_cons (pv 0) pa_nil)) (nomark _))))), ?_⟩
    refine ⟨_, rfl, a, _, rfl, .inr (SqT.of ha), _, _, rfl, rfl, ?_⟩
    rw [List.length_map, hp.len]
    refine ⟨_, rfl, ite2 (fun qs => ?_) (fun _ => ?_)⟩
    · have l2 : ws.length < 2 := by
        have : (ws.length : Int) < 2 := by simpa using qs
        omega
      have nd : ws.Nodup := by
        match ws, l2 with
        | [], _ => exact List.nodup_nil
        | [x], _ => exact List.nodup_cons.mpr ⟨List.not_mem_nil, List.nodup_nil⟩
      rw [decide_eq_true nd] at k
      exact k
    obtain ⟨f1, f2, f3⟩ := keysP_facts hp
    have l1 : (keysP ps ws).length = ws.length := by
      have := congrArg List.length f3
      rwa [List.length_map, List.length_map] at this
    refine ⟨_, rfl, a, keysP ps ws, rfl, by rw [f1]; exact SqT.of ha, fun p hp => SqT.of (f2 p hp), by omega, fun n hn => ?_⟩
    refine ⟨_, rfl, a, _, rfl, .inr (SqT.of ha), rfl, ?_⟩
    rw [List.length_map, hp.len]
    rw [f3, nodup_pairs, l1] at hn
    have e : decide ((V.int (n : Int)) = V.int (ws.length : Int)) = decide ws.Nodup := by
      by_cases z : ws.Nodup
      · rw [decide_eq_true z, hn.mpr z, decide_eq_true rfl]
      · rw [decide_eq_false z]
        refine decide_eq_false fun y => z (hn.mp ?_)
        injection y with y
        omega
    show Q (.bl (decide ((V.int (n : Int)) = V.int (ws.length : Int)))) H
    rw [e]
    exact k
theorem sc_are_wires : FnScope ["value", "own", "doors", "pair"] ["value", "own", "doors"] (defScope s_are_wires) := ⟨rfl, rfl, rfl, by decide +kernel, rfl, by decide +kernel, by decide +kernel⟩
theorem ok_are_wires {f : Addr} {fd : FuncData} (F : Fun K "are_wires" "are_wires" s_are_wires f fd) (T : Txt K mg) (T3 : Txt3 mg)
    (DT : DefF P w K mg base CX0 1 "is_tuple" ["value", "least", "most"] spTuple) (DW : DefF P w K mg base CX0 1 "is_whole" ["value", "low", "high"] spWhole) (DU : DefF P w K mg base CX0 1 "all_unlike" ["things"] spUnlike) :
    FnOk P w K mg base CX0 2 f fd ["value", "own", "doors"] spWires := by
  refine F.ok sc_are_wires (fun vs H Q E h => ?_) (fun cdv A outer s H vs Q E hr h => ?_)
  · obtain ⟨a, dl, own, ps, ws, ds, rfl, _⟩ := h
    rfl
  · obtain ⟨a, dl, own, ps, ws, ds, rfl, ha, hp, h8, hN, hd, hw, k⟩ := h
    have nd := sc_are_wires.nd
    obtain ⟨t8, g8⟩ := T3.gImp
    refine ⟨_, pss_cons (ps_if (pt_not (pt_val (pe_cD DT hr rfl pass0 (pa_cons (pv 0) (pa_cons pe_int (pa_cons (pe_glob (v := .int 8) rfl g8 ⟨t8, rfl⟩) pa_nil)))))) (pss_one (ps_ret pe_bl)) pss_nil)
      (pss_cons (ps_for PassesOwn.never rfl (pi_tup (pv 0)) (pg_name (i := 3) nd rfl (Or.inl rfl))
        (pss_cons (ps_if (PW.pt (pw_or (pt_not (pt_val (pe_cD DT hr rfl pass0 (pa_cons (pv 3) (pa_cons pe_int (pa_cons pe_int pa_nil))))))
          (pw_or (pt_not (pt_val (pe_cD DW hr rfl pass0 (pa_cons (pe_ix ix_tup (pv 3) pe_int (fun _ _ => rfl)) (pa_cons pe_int (pa_cons (pe_op op_sub (pe_callB call_len_seq (by rfl) T.nLen PySem.boot_len (pa_cons (pv 2) pa_nil)) pe_int) pa_nil))))))
          (pw_or1 (pt_cmpR op_eq (pe_ix ix_tup (pv 3) pe_int (fun _ _ => rfl)) (pv 1) (nomark _)))))) (pss_one (ps_ret pe_bl)) pss_nil)
        (pss_one (ps_if (pt_not (pt_val (pe_cD DW hr rfl pass0 (pa_cons (pe_ix ix_tup (pv 3) pe_int (fun _ _ => rfl)) (pa_cons pe_int (pa_cons (pe_op op_sub (pe_ix ix_tup (pv 2) (pe_ix ix_tup (pv 3) pe_int (fun _ _ => rfl)) (fun _ _ => rfl)) pe_int) pa_nil)))))) (pss_one (ps_ret pe_bl)) pss_nil))))
      (pss_one (ps_ret (pe_cD DU hr rfl pass0 (pa_cons (pv 0) pa_nil))))), ?_⟩
    refine ⟨_, rfl, .ref a, 0, 8, rfl, .inl ⟨_, ha⟩, _, rfl, ?_⟩
    rw [isT_of ha (by omega) (by rw [List.length_map, hp.len]; omega)]
    refine iteF ?_
    refine ⟨_, rfl, a, rfl, ⟨_, SqT.of ha⟩, ?_⟩
    refine for_tup (xs := ps.map V.ref) (fun i σ H' => ∃ o : Option V, σ = [some (.ref a), some (.int own), some (.ref dl), o] ∧ H' = H) ⟨none, rfl, rfl⟩ ?_ ?_ ?_
    · rintro i σ H' _ ⟨o, rfl, rfl⟩
      exact SqT.of ha
    · rintro i x σ H' hx ⟨o, rfl, rfl⟩
      rw [List.getElem?_map] at hx
      obtain ⟨p, hp1, rfl⟩ := Option.map_eq_some_iff.mp hx
      obtain ⟨q, hq, hpp⟩ := hp.get hp1
      obtain ⟨w1, w2, w3, w4, w5⟩ := hw q (List.mem_of_getElem? hq)
      have hi : q.1.toNat < ds.length := by omega
      have cast : (q.1.toNat : Int) = q.1 := Int.toNat_of_nonneg w1
      obtain ⟨z, hz⟩ : ∃ z, ds[q.1.toNat]? = some z := ⟨_, List.getElem?_eq_getElem hi⟩
      have gz : ds.getD q.1.toNat 0 = z := by rw [List.getD_eq_getElem?_getD, hz]; rfl
      rw [gz] at w5
      have at1 : atI (ds.map V.int) q.1 = some (.int z) := by
        rw [← cast]
        exact atI_nat (by rw [List.getElem?_map, hz]; rfl)
      refine ⟨_, rfl, .ref p, 2, 2, rfl, .inl ⟨_, hpp⟩, _, rfl, ?_⟩
      rw [isT_of hpp (Int.le_refl 2) (Int.le_refl 2)]
      refine iteF ?_
      refine ⟨_, rfl, p, _, 0, _, rfl, rfl, SqT.of hpp, rfl, _, rfl, dl, _, rfl, .inr (SqT.of hd), _, _, rfl, rfl, ?_⟩
      refine ⟨.int q.1, 0, _, rfl, trivial, _, rfl, ?_⟩
      rw [List.length_map, isW_in w1 (by omega)]
      refine iteF ?_
      refine ⟨_, rfl, p, _, 0, _, rfl, rfl, SqT.of hpp, rfl, _, rfl, rfl, _, rfl, ?_⟩
      refine ite2 (fun z => absurd (V.int.inj (of_decide_eq_true z)) w3) (fun _ => ?_)
      refine ⟨_, rfl, p, _, 1, _, rfl, rfl, SqT.of hpp, rfl, _, rfl, _, rfl, p, _, 0, _, rfl, rfl, SqT.of hpp, rfl, dl, _, q.1, _, rfl, rfl, SqT.of hd, at1, _, _, rfl, rfl, ?_⟩
      refine ⟨.int q.2, 0, _, rfl, trivial, _, rfl, ?_⟩
      rw [isW_in w4 (by omega)]
      exact iteF ⟨_, rfl, rfl⟩
    · rintro σ H' ⟨o, rfl, rfl⟩
      refine ⟨_, rfl, a, ps, ws, rfl, ha, hp, by omega, ?_⟩
      rw [decide_eq_true hN]
      exact k
end
end OH
end
section
set_option Elab.async false
set_option linter.all false
set_option maxRecDepth 100000
set_option maxHeartbeats 8000000
/-! The law's shuffling. -/
namespace OH
open PySem PySem.Spec PyProof.Rows L2
section
variable {H H' : Hp}
theorem PairsAt.erase {ps : List Addr} {ws : List (Int × Int)} (h : PairsAt H ps ws) : ∀ k, PairsAt H (ps.eraseIdx k) (ws.eraseIdx k) := by
  induction h with
  | nil => intro k; cases k <;> exact .nil
  | cons a b ih =>
    intro k
    cases k with
    | zero => exact b
    | succ k => exact .cons a (ih k)
theorem PairsAt.app {ps : List Addr} {ws : List (Int × Int)} (h : PairsAt H ps ws) {p : Addr} {q : Int × Int} (hp : H p = some (.tup [.int q.1, .int q.2])) : PairsAt H (ps ++ [p]) (ws ++ [q]) := by
  induction h with
  | nil => exact .cons hp .nil
  | cons a _ ih => exact .cons a ih
theorem PairsAt.apps {ps qs : List Addr} {ws us : List (Int × Int)} (h : PairsAt H ps ws) (h2 : PairsAt H qs us) : PairsAt H (ps ++ qs) (ws ++ us) := by
  induction h with
  | nil => exact h2
  | cons a _ ih => exact .cons a ih
theorem PairsAt.taken {ps : List Addr} {ws : List (Int × Int)} (h : PairsAt H ps ws) : ∀ k, PairsAt H (ps.take k) (ws.take k) := by
  induction h with
  | nil => intro k; cases k <;> exact .nil
  | cons a _ ih =>
    intro k
    cases k with
    | zero => exact .nil
    | succ k => exact .cons a (ih k)
theorem map_erase {α β : Type} (f : α → β) : ∀ (l : List α) (k : Nat), (l.map f).eraseIdx k = (l.eraseIdx k).map f
  | [], k => by cases k <;> rfl
  | x :: l, 0 => rfl
  | x :: l, k + 1 => congrArg (f x :: ·) (map_erase f l k)
theorem erase_perm {α : Type} : ∀ (l : List α) (k : Nat) (x : α), l[k]? = some x → (x :: l.eraseIdx k).Perm l
  | [], k, x, h => by cases k <;> cases h
  | y :: l, 0, x, h => by cases h; exact List.Perm.refl _
  | y :: l, k + 1, x, h => ((List.Perm.swap y x _).trans ((erase_perm l k x h).cons y))
theorem fr_tup {st g c : Addr} {n : Nat} (S : SA H st g c n) (F : Fr st g H H') : ∀ q xs, H q = some (.tup xs) → H' q = some (.tup xs) := fun q xs e => by
  obtain ⟨_, ⟨gs, g1, _⟩, _⟩ := id S
  exact F q _ e (S.ne_st e (fun _ z => nomatch z)) (ne_of e g1 (fun z => nomatch z))
/-- a new list of the same pairs in another sequence -/
def spShuf : Sp := fun vs H Q _ => ∃ (st g c a : Addr) (n : Nat) (ps : List Addr) (qs : List (Int × Int)), vs = [.ref st, .ref a] ∧ SA H st g c n ∧ n ≤ 800000 ∧ H a = some (.lst (ps.map V.ref)) ∧ PairsAt H ps qs ∧ a ≠ g ∧ ps.length ≤ 1000 ∧
  ∀ (p : Addr) (ps' : List Addr) (qs' : List (Int × Int)) (H' : Hp), H p = none → p ≠ st → p ≠ g → p ≠ c → H' p = some (.lst (ps'.map V.ref)) → PairsAt H' ps' qs' → qs'.Perm qs → SA H' st g c (n + ps.length) → Fr st g H H' → Q (.ref p) H'
theorem eqv_nil (ws : List PyData) : PyData.eqv (.list ws) (.list []) = ws.isEmpty := by
  cases ws <;> rfl
end
section
variable {P : Program} {w : World} {K : PySem.W.Frag} {mg : Str → Option Value} {base : Heap} {CS CR CM aE : Addr}
theorem sc__law_shuffled : FnScope ["state", "some", "left", "found"] ["state", "some"] (defScope s__law_shuffled) := ⟨rfl, rfl, rfl, by decide +kernel, rfl, by decide +kernel, by decide +kernel⟩
theorem ok__law_shuffled {f : Addr} {fd : FuncData} (F : Fun K "_law_shuffled" "_law_shuffled" s__law_shuffled f fd) (T : Txt K mg)
    (DD : DefF P w K mg base CX0 2 "_law_draw" ["state", "room"] spDraw) : FnOk P w K mg base CX0 3 f fd ["state", "some"] spShuf := by
  refine F.ok sc__law_shuffled (fun vs H Q E h => ?_) (fun cdv A outer s H vs Q E hr h => ?_)
  · obtain ⟨st, g, c, a, n, ps, qs, rfl, _⟩ := h
    rfl
  · obtain ⟨st, g, c, a, n, ps, qs, rfl, S, hn, ha, hp, ag, l1, k⟩ := h
    have nd := sc__law_shuffled.nd
    refine ⟨_, pss_cons (ps_par (i := 2) (j := 3) (by rfl) nd rfl rfl (by decide) rfl rfl (pa_cons (pe_callTy call_list_of (by rfl) T.nList (by decide +kernel) (pa_cons (pv 1) pa_nil)) (pa_cons (pe_lst pa_nil) pa_nil)) (by rfl))
      (pss_cons (ps_while PassesOwn.never (pt_cmpR (op_neD hr.units) (pv 2) (pe_lst pa_nil) (nomark _))
        (pss_one (ps_expr (pe_bm PySem.F.plainAttrs_list PySem.F.slot_list_append PySem.F.type_list_append mt_append (pv 3)
          (pa_cons (pe_bm PySem.F.plainAttrs_list PySem.F.slot_list_pop PySem.F.type_list_pop mt_popAt (pv 2) (pa_cons (pe_cD DD hr rfl pass0 (pa_cons (pv 0) (pa_cons (pe_callB call_len_seq (by rfl) T.nLen PySem.boot_len (pa_cons (pv 2) pa_nil)) pa_nil))) pa_nil)) pa_nil)))))
      (pss_one (ps_ret (pv 3)))), ?_⟩
    refine ⟨_, rfl, a, _, rfl, .inl (SqL.of ha), fun L nL => ⟨(by show 0 ≤ sizeLine; decide), fun D nD => ⟨_, _, rfl, ?_⟩⟩⟩
    have s1 := sadd (o := .lst (ps.map V.ref)) (Same.refl H) nL
    have s2 := sadd (o := .lst []) s1 nD
    have nLD : L ≠ D := ne_of_none upd_same nD
    have zL := S.old nL
    have zD := S.old (s1.free nD)
    have hL0 : upd (upd H L (.lst (ps.map V.ref))) D (.lst []) L = some (.lst (ps.map V.ref)) := upd_under nLD
    have hD0 : upd (upd H L (.lst (ps.map V.ref))) D (.lst []) D = some (.lst []) := upd_same
    have D0 : H D = none := s1.free nD
    generalize upd (upd H L (.lst (ps.map V.ref))) D (.lst []) = H1 at s2 hL0 hD0 ⊢
    refine while_by (fun σ H' => ∃ (p1 p2 : List Addr) (q1 q2 : List (Int × Int)), σ = [some (.ref st), some (.ref a), some (.ref L), some (.ref D)] ∧ H' L = some (.lst (p1.map V.ref)) ∧ H' D = some (.lst (p2.map V.ref)) ∧ PairsAt H' p1 q1 ∧ PairsAt H' p2 q2 ∧
        (q1 ++ q2).Perm qs ∧ p1.length + p2.length = ps.length ∧ SA H' st g c (n + p2.length) ∧ Fr st g H H')
      (fun _ H' => match H' L with | some (.lst xs) => xs.length | _ => 0) ?h0 ?turn ?mono
    case h0 => exact ⟨ps, [], qs, [], rfl, hL0, hD0, hp.mono (fun q xs e => s2 _ _ e), .nil, by rw [List.append_nil], rfl, S.same s2, Fr.of s2⟩
    case mono =>
      rintro σ H' Q1 Q2 hQ ⟨x, e1, hl, f⟩
      refine ⟨x, e1, hl, fun l nl => ?_⟩
      obtain ⟨d, e, h1, h2, h3, h4, kk, e5, q⟩ := f l nl
      exact ⟨d, e, h1, h2, h3, h4, kk, e5, hQ _ _ q⟩
    case turn =>
      rintro σ H2 ⟨p1, p2, q1, q2, rfl, hL, hD, hp1, hp2, pm, hlen, S2, F2⟩
      refine ⟨_, rfl, (by show 0 ≤ sizeLine; decide), fun l nl => ?_⟩
      have sl := sadd (o := .lst []) (Same.refl H2) nl
      have hl1 : upd H2 l (.lst []) l = some (.lst []) := upd_same
      have hL3 := sl _ _ hL
      have hD3 := sl _ _ hD
      have hp13 := hp1.mono fun q xs e => sl _ _ e
      have hp23 := hp2.mono fun q xs e => sl _ _ e
      have S3 := S2.same sl
      have F3 := F2.trans (Fr.of sl)
      have eL : (match H2 L with | some (.lst xs) => xs.length | _ => 0) = p1.length := by rw [hL]; exact List.length_map ..
      generalize upd H2 l (.lst []) = H3 at sl hl1 hL3 hD3 hp13 hp23 S3 F3 ⊢
      refine ⟨.list (q1.map pairD), .list [], .lst (SqL.of hL3) hp13.dp, .lst (SqL.of hl1) .nil, shaped_pairs q1, rfl, _, rfl, ?_⟩
      rw [eqv_nil]
      have l11 := hp13.len
      cases q1 with
      | nil =>
        refine iteF ?_
        have e1 : p1 = [] := List.length_eq_zero_iff.mp l11
        subst e1
        have e2 : p2.length = ps.length := by
          have : ([] : List Addr).length = 0 := rfl
          omega
        refine ⟨_, rfl, k D p2 q2 H3 D0 zD.1 zD.2.1 zD.2.2 hD3 hp23 pm (by rw [← e2]; exact S3) F3⟩
      | cons w q1 =>
        refine iteT ?_
        have pos : 0 < p1.length := by rw [l11]; exact Nat.succ_pos _
        refine ⟨_, rfl, .inl ⟨rfl, _, SqL.of hD3⟩, _, rfl, .inl ⟨rfl, _, SqL.of hL3⟩, ?_⟩
        refine ⟨_, rfl, _, rfl, L, _, rfl, .inl (SqL.of hL3), ?_⟩
        rw [List.length_map]
        refine ⟨st, g, c, n + p2.length, _, rfl, S3, by omega, by omega, by omega, fun z H4 z0 z1 S4 F4 => ?_⟩
        have hL4 := F4 L _ hL3 zL.1 zL.2.1
        have hD4 := F4 D _ hD3 zD.1 zD.2.1
        have hp14 := hp13.mono (fr_tup S3 F4)
        have hp24 := hp23.mono (fr_tup S3 F4)
        have hz : z.toNat < p1.length := by omega
        obtain ⟨r, hr1⟩ : ∃ r, p1[z.toNat]? = some r := ⟨_, List.getElem?_eq_getElem hz⟩
        obtain ⟨v, hv1, hv2⟩ := hp14.get hr1
        have sx : seqIndex? z (p1.map V.ref).length = some z.toNat := (ixN_seq (by unfold L2.ixN; rw [if_pos z0, if_pos (by rw [List.length_map]; omega)])).1
        refine ⟨L, _, z, z.toNat, .ref r, rfl, rfl, hL4, by omega, by omega, sx, (by rw [List.getElem?_map, hr1]; rfl), ?_⟩
        have eE : (p1.map V.ref).eraseIdx z.toNat = (p1.eraseIdx z.toNat).map V.ref := by
          exact map_erase ..
        rw [eE]
        have kt : ∀ (o : List V) q xs, H4 q = some (.tup xs) → upd H4 L (.lst o) q = some (.tup xs) := fun o q xs e => (upd_ne (ne_of e hL4 (fun y => nomatch y))).trans e
        refine ⟨D, _, _, rfl, rfl, (upd_ne nLD.symm).trans hD4, (by rw [List.length_map, sizeLine_eq]; omega), ?_⟩
        have kt2 : ∀ (o o2 : List V) q xs, H4 q = some (.tup xs) → upd (upd H4 L (.lst o)) D (.lst o2) q = some (.tup xs) := fun o o2 q xs e => (upd_ne (ne_of e hD4 (fun y => nomatch y))).trans (kt o q xs e)
        have S5 : SA (upd (upd H4 L (.lst ((p1.eraseIdx z.toNat).map V.ref))) D (.lst (p2.map V.ref ++ [.ref r]))) st g c (n + p2.length + 1) := (S4.put zL).put zD
        have el2 : (p1.eraseIdx z.toNat).length = p1.length - 1 := by rw [List.length_eraseIdx, if_pos hz]
        refine ⟨⟨p1.eraseIdx z.toNat, p2 ++ [r], (w :: q1).eraseIdx z.toNat, q2 ++ [v], rfl, (upd_ne nLD).trans upd_same, by rw [upd_same, List.map_append]; rfl, ?_, ?_, ?_, ?_, ?_, ?_⟩, ?_⟩
        · exact (hp14.erase _).mono (kt2 _ _)
        · exact (hp24.mono (kt2 _ _)).app (kt2 _ _ _ _ hv2)
        · refine List.Perm.trans ?_ pm
          have e1 := erase_perm (w :: q1) z.toNat v hv1
          have e2 : ((w :: q1).eraseIdx z.toNat ++ (q2 ++ [v])).Perm ((w :: q1).eraseIdx z.toNat ++ ([v] ++ q2)) := (List.perm_append_comm).append_left _
          refine e2.trans ?_
          rw [← List.append_assoc]
          exact ((List.perm_append_comm).trans e1).append_right _
        · rw [List.length_append, el2]
          show p1.length - 1 + (p2.length + 1) = _
          omega
        · rw [List.length_append]
          exact S5
        · intro b o e h1 h2
          have e4 := (F3.trans F4) b o e h1 h2
          have nbL : b ≠ L := ne_of_none e nL
          have nbD : b ≠ D := ne_of_none e D0
          exact (upd_ne nbD).trans ((upd_ne nbL).trans e4)
        · show (match upd (upd H4 L (.lst ((p1.eraseIdx z.toNat).map V.ref))) D (.lst (p2.map V.ref ++ [.ref r])) L with | some (.lst xs) => xs.length | _ => 0) < (match H2 L with | some (.lst xs) => xs.length | _ => 0)
          rw [eL, (upd_ne nLD).trans upd_same]
          show ((p1.eraseIdx z.toNat).map V.ref).length < _
          rw [List.length_map, el2]
          omega
end
end OH
end
section
set_option Elab.async false
set_option linter.all false
set_option maxRecDepth 100000
set_option maxHeartbeats 1000000
/-! Rows and views in plain words. -/
namespace OH
open PySem PySem.Spec PyProof.Rows L2
inductive It where
  | inn (d n : Int) | got (n : Int) | calls (a d n : Int) | gives (n : Int) | ends
deriving DecidableEq
def It.vs : It → List V
  | .inn d n => [.str "in", .int d, .int n]
  | .got n => [.str "got", .int n]
  | .calls a d n => [.str "calls", .int a, .int d, .int n]
  | .gives n => [.str "gives", .int n]
  | .ends => [.str "ends"]
/-- a face: its depth, room by room its wires, the counts of doors -/
structure Fc where
  dep : Int
  wir : List (List (Int × Int))
  dor : List Int
def Fc.ws (F : Fc) (i : Nat) : List (Int × Int) := F.wir.getD i []
def Fc.R (F : Fc) : Nat := F.dor.length
structure Fc.Ok (F : Fc) : Prop where
  d1 : 1 ≤ F.dep
  d60 : F.dep ≤ 60
  lw : F.wir.length = F.R
  m1 : 1 ≤ F.R
  m6 : F.R ≤ 6
  dz : ∀ z ∈ F.dor, 1 ≤ z ∧ z ≤ 6
  wi : ∀ i, i < F.R → (F.ws i).length ≤ 8 ∧ (F.ws i).Nodup ∧ ∀ p ∈ F.ws i, 0 ≤ p.1 ∧ p.1 < (F.R : Int) ∧ p.1 ≠ i ∧ 0 ≤ p.2 ∧ p.2 < F.dor.getD p.1.toNat 0
abbrev Rs := Option Int × List (Int × Int)
/-- control and the open asks behind a crossing -/
def bh (s : Rs) : Crs → Rs
  | .start _ => (some 0, s.2)
  | .call a b _ _ => (some b, s.2 ++ [(a, b)])
  | .back _ b _ => (some b, s.2.dropLast)
  | _ => (none, s.2)
/-- what may come next where c has control -/
def Nx (F : Fc) (c : Int) (asks : List (Int × Int)) : Crs → Prop
  | .start _ => False
  | .call a b d n => a = c ∧ (b, d) ∈ F.ws c.toNat ∧ (asks.length : Int) < F.dep ∧ Num n
  | .deep a b d n => a = c ∧ (b, d) ∈ F.ws c.toNat ∧ (asks.length : Int) = F.dep ∧ Num n
  | .back a b n => a = c ∧ (∃ q, asks.getLast? = some q ∧ b = q.1) ∧ Num n
  | .done n => asks = [] ∧ Num n
  | .fin a => a = c
def VRr (F : Fc) : Rs → List Crs → Prop
  | _, [] => True
  | s, x :: xs => (∃ c, s.1 = some c ∧ Nx F c s.2 x) ∧ VRr F (bh s x) xs
def VR (F : Fc) (cs : List Crs) : Prop := ∃ n xs, cs = .start n :: xs ∧ Num n ∧ VRr F (some 0, []) xs
/-- the open asks hang together -/
inductive Chain (F : Fc) : List (Int × Int) → Int → Prop where
  | nil : Chain F [] 0
  | snoc {as : List (Int × Int)} {a b : Int} : Chain F as a → 0 ≤ b → b < (F.R : Int) → a ≠ b → Chain F (as ++ [(a, b)]) b
def stt (s : Rs) (cs : List Crs) : Rs := cs.foldl bh s
structure SOk (F : Fc) (s : Rs) : Prop where
  ch : ∃ c, Chain F s.2 c ∧ (s.1 = some c ∨ s.1 = none)
  le : (s.2.length : Int) ≤ F.dep
theorem Chain.inv {F : Fc} {asks : List (Int × Int)} {c : Int} (h : Chain F asks c) : (asks = [] ∧ c = 0) ∨ ∃ as a, asks = as ++ [(a, c)] ∧ Chain F as a ∧ a ≠ c := by
  cases h with
  | nil => exact .inl ⟨rfl, rfl⟩
  | snoc h h1 h2 h3 => exact .inr ⟨_, _, rfl, h, h3⟩
theorem Chain.rng {F : Fc} (hF : F.Ok) {asks : List (Int × Int)} {c : Int} (h : Chain F asks c) : 0 ≤ c ∧ c < (F.R : Int) := by
  cases h with
  | nil => have := hF.m1; exact ⟨by omega, by omega⟩
  | snoc _ h1 h2 _ => exact ⟨h1, h2⟩
theorem SOk.ctl {F : Fc} {s : Rs} (h : SOk F s) {c : Int} (hc : s.1 = some c) : Chain F s.2 c := by
  obtain ⟨c', h1, h2 | h2⟩ := h.ch
  · rw [hc] at h2
    cases h2
    exact h1
  · rw [hc] at h2
    cases h2
theorem SOk.step {F : Fc} (hF : F.Ok) {s : Rs} (h : SOk F s) {c : Int} (hc : s.1 = some c) {x : Crs} (hx : Nx F c s.2 x) : SOk F (bh s x) := by
  have ch := h.ctl hc
  obtain ⟨c0, c1⟩ := ch.rng hF
  cases x with
  | start n => exact hx.elim
  | call a b d n =>
    obtain ⟨e, hw, hl, _⟩ := hx
    subst e
    obtain ⟨w1, w2, w3, _⟩ := (hF.wi a.toNat (by omega)).2.2 _ hw
    have w1' : 0 ≤ b := w1
    have w2' : b < (F.R : Int) := w2
    have w3' : b ≠ (a.toNat : Int) := w3
    refine ⟨⟨b, .snoc ch w1' w2' (by omega), .inl rfl⟩, ?_⟩
    show ((s.2 ++ [(a, b)]).length : Int) ≤ F.dep
    rw [List.length_append]
    show ((s.2.length + 1 : Nat) : Int) ≤ _
    omega
  | back a b n =>
    obtain ⟨e, ⟨q, hq, hb⟩, _⟩ := hx
    have hl := h.le
    rcases ch.inv with ⟨e0, _⟩ | ⟨as, a', e0, h0, _⟩
    · rw [e0] at hq
      cases hq
    · rw [e0, List.getLast?_concat] at hq
      cases hq
      have hb' : b = a' := hb
      subst hb'
      refine ⟨⟨b, ?_, .inl rfl⟩, ?_⟩
      · show Chain F s.2.dropLast b
        rw [e0, List.dropLast_concat]
        exact h0
      · show (s.2.dropLast.length : Int) ≤ F.dep
        rw [List.length_dropLast]
        omega
  | deep a b d n => exact ⟨⟨c, ch, .inr rfl⟩, h.le⟩
  | done n => exact ⟨⟨c, ch, .inr rfl⟩, h.le⟩
  | fin a => exact ⟨⟨c, ch, .inr rfl⟩, h.le⟩
theorem SOk.init {F : Fc} (hF : F.Ok) : SOk F (some 0, []) := ⟨⟨0, .nil, .inl rfl⟩, by have := hF.d1; show ((0 : Nat) : Int) ≤ F.dep; omega⟩
theorem VRr.ok {F : Fc} (hF : F.Ok) : ∀ {xs : List Crs} {s : Rs}, SOk F s → VRr F s xs → SOk F (stt s xs)
  | [], _, h, _ => h
  | x :: xs, s, h, ⟨⟨c, hc, hx⟩, hr⟩ => VRr.ok (xs := xs) (s := bh s x) hF (h.step hF hc hx) hr
theorem VRr.take {F : Fc} : ∀ {xs : List Crs} {s : Rs}, VRr F s xs → ∀ k, VRr F s (xs.take k)
  | [], _, _, k => by rw [List.take_nil]; trivial
  | x :: xs, s, ⟨h1, h2⟩, 0 => trivial
  | x :: xs, s, ⟨h1, h2⟩, k + 1 => ⟨h1, h2.take k⟩
theorem VRr.snoc {F : Fc} {x : Crs} {c : Int} : ∀ {xs : List Crs} {s : Rs}, VRr F s xs → (stt s xs).1 = some c → Nx F c (stt s xs).2 x → VRr F s (xs ++ [x])
  | [], s, _, h1, h2 => ⟨⟨c, h1, h2⟩, trivial⟩
  | y :: xs, s, ⟨h0, hr⟩, h1, h2 => ⟨h0, hr.snoc h1 h2⟩
theorem VR.take {F : Fc} {cs : List Crs} (h : VR F cs) (k : Nat) : VR F (cs.take (k + 1)) := by
  obtain ⟨n, xs, rfl, hn, hr⟩ := h
  exact ⟨n, xs.take k, rfl, hn, hr.take k⟩
theorem VR.snoc {F : Fc} {cs : List Crs} (h : VR F cs) {x : Crs} {c : Int} (h1 : (stt (none, []) cs).1 = some c) (h2 : Nx F c (stt (none, []) cs).2 x) : VR F (cs ++ [x]) := by
  obtain ⟨n, xs, rfl, hn, hr⟩ := h
  exact ⟨n, xs ++ [x], rfl, hn, hr.snoc h1 h2⟩
theorem VR.ok {F : Fc} (hF : F.Ok) {cs : List Crs} (h : VR F cs) : SOk F (stt (none, []) cs) := by
  obtain ⟨n, xs, rfl, hn, hr⟩ := h
  exact VRr.ok (s := (some 0, [])) (xs := xs) hF (SOk.init hF) hr
theorem stt_snoc (s : Rs) (cs : List Crs) (x : Crs) : stt s (cs ++ [x]) = bh (stt s cs) x := by
  unfold stt
  rw [List.foldl_append]
  rfl
/-- what a crossing shows of a room -/
def shown (r : Int) : Crs → List It
  | .start n => if r = 0 then [.inn 0 n] else []
  | .call a b d n => (if r = a then [It.calls b d n] else []) ++ (if r = b then [It.inn d n] else [])
  | .back a b n => (if r = a then [It.gives n] else []) ++ (if r = b then [It.got n] else [])
  | .deep a b d n => if r = a then [.calls b d n] else []
  | .done n => if r = 0 then [.gives n] else []
  | .fin a => if r = a then [.ends] else []
def vw (r : Int) (cs : List Crs) : List It := cs.flatMap (shown r)
theorem vw_app (r : Int) (xs ys : List Crs) : vw r (xs ++ ys) = vw r xs ++ vw r ys := List.flatMap_append ..
theorem vw_cons (r : Int) (x : Crs) (ys : List Crs) : vw r (x :: ys) = shown r x ++ vw r ys := List.flatMap_cons ..
theorem vw_le (r : Int) {xs ys : List Crs} (h : xs <+: ys) : vw r xs <+: vw r ys := by
  obtain ⟨zs, rfl⟩ := h
  rw [vw_app]
  exact List.prefix_append ..
end OH
end
section
set_option Elab.async false
set_option linter.all false
set_option maxRecDepth 100000
set_option maxHeartbeats 1000000
/-! Views put together. -/
namespace OH
open PySem PySem.Spec PyProof.Rows L2
structure Jn where
  cnt : List Nat
  asks : List Nat
  joint : List Crs
def vat (vs : List (List It)) (r : Nat) : List It := vs.getD r []
def cat_ (cnt : List Nat) (r : Nat) : Nat := cnt.getD r 0
def nextI (vs : List (List It)) (cnt : List Nat) (r : Nat) : Option It := (vat vs r)[cat_ cnt r]?
def bump (cnt : List Nat) (r : Nat) : List Nat := cnt.set r (cat_ cnt r + 1)
inductive JR where
  | err (r at_ : Nat)
  | ok (c : Option Nat) (J : Jn)
def It.num : It → Int
  | .inn d _ => d
  | .got n => n
  | .calls a _ _ => a
  | .gives n => n
  | .ends => 0
def jact (F : Fc) (vs : List (List It)) (J : Jn) (r : Nat) : JR :=
  match nextI vs J.cnt r with
  | none => .ok none J
  | some (.calls a d n) =>
    if (a, d) ∈ F.ws r then
      if (J.asks.length : Int) = F.dep then .ok none ⟨bump J.cnt r, J.asks, J.joint ++ [.deep r a d n]⟩
      else if nextI vs (bump J.cnt r) a.toNat = some (.inn d n) then .ok (some a.toNat) ⟨bump (bump J.cnt r) a.toNat, J.asks ++ [r], J.joint ++ [.call r a d n]⟩
      else .err a.toNat (cat_ (bump J.cnt r) a.toNat)
    else .err r (cat_ J.cnt r)
  | some .ends => .ok none ⟨bump J.cnt r, J.asks, J.joint ++ [.fin r]⟩
  | some i =>
    match J.asks.getLast? with
    | none => .ok none ⟨bump J.cnt r, J.asks, J.joint ++ [.done i.num]⟩
    | some k => if nextI vs (bump J.cnt r) k = some (.got i.num) then .ok (some k) ⟨bump (bump J.cnt r) k, J.asks.dropLast, J.joint ++ [.back r k i.num]⟩
      else .err k (cat_ (bump J.cnt r) k)
inductive JO where
  | bad (r at_ : Nat)
  | fin (J : Jn)
/-- the loop that puts together, so many turns -/
inductive Runs (F : Fc) (vs : List (List It)) : Nat → Jn → Option Nat → JO → Prop where
  | stop {J : Jn} : Runs F vs 0 J none (.fin J)
  | err {J : Jn} {r a b : Nat} : jact F vs J r = .err a b → Runs F vs 1 J (some r) (.bad a b)
  | step {J J' : Jn} {r m : Nat} {c : Option Nat} {o : JO} : jact F vs J r = .ok c J' → Runs F vs m J' c o → Runs F vs (m + 1) J (some r) o
/-- what stands behind a part of a row -/
structure Jat (F : Fc) (pre : List Crs) (s : Rs) (J : Jn) : Prop where
  lc : J.cnt.length = F.R
  cn : ∀ r, r < F.R → cat_ J.cnt r = (vw (r : Int) pre).length
  as : J.asks.map (fun n : Nat => (n : Int)) = s.2.map (·.1)
  jo : J.joint = pre
/-- views of which each one begins that of the row -/
structure Cuts (F : Fc) (row : List Crs) (vs : List (List It)) : Prop where
  len : vs.length = F.R
  pre : ∀ r, r < F.R → vat vs r <+: vw (r : Int) row
def Vs (F : Fc) (vs : List (List It)) (cs : List Crs) : Prop := ∀ r, r < F.R → vat vs r = vw (r : Int) cs
theorem cat_bump {cnt : List Nat} {r j : Nat} (h : r < cnt.length) : cat_ (bump cnt r) j = if r = j then cat_ cnt r + 1 else cat_ cnt j := by
  unfold bump cat_
  rw [List.getD_eq_getElem?_getD, List.getElem?_set, List.getD_eq_getElem?_getD, List.getD_eq_getElem?_getD]
  by_cases e : r = j
  · subst e
    simp [h]
  · simp [e]
theorem len_bump (cnt : List Nat) (r : Nat) : (bump cnt r).length = cnt.length := List.length_set ..
section
variable {F : Fc} {row pre xs : List Crs} {vs : List (List It)} {s : Rs} {J : Jn}
/-- the next item of a room, if there is one, is the row's -/
theorem Jat.next (h : Jat F pre s J) (hc : Cuts F (pre ++ xs) vs) (hp : ∀ r, r < F.R → (vw (r : Int) pre).length ≤ (vat vs r).length) {r : Nat} (hr : r < F.R) : nextI vs J.cnt r = if (vw (r : Int) pre).length < (vat vs r).length then (vw (r : Int) xs)[0]? else none := by
  unfold nextI
  rw [h.cn r hr]
  obtain ⟨zs, e⟩ := hc.pre r hr
  rw [vw_app] at e
  have hl := hp r hr
  have e2 : vat vs r = (vw (r : Int) pre ++ vw (r : Int) xs).take (vat vs r).length := by
    rw [← e, List.take_left]
  split
  · next q =>
    rw [e2, List.getElem?_take_of_lt q, List.getElem?_append_right (Nat.le_refl _), Nat.sub_self]
  · next q => exact List.getElem?_eq_none (by omega)
end
theorem getLast?_map_fst {l : List (Int × Int)} {m : List Nat} (e : m.map (fun n : Nat => (n : Int)) = l.map (·.1)) : (m.getLast? = none ↔ l = []) ∧ (∀ q, l.getLast? = some q → ∃ k : Nat, m.getLast? = some k ∧ (k : Int) = q.1) ∧ m.dropLast.map (fun n : Nat => (n : Int)) = l.dropLast.map (·.1) ∧ m.length = l.length := by
  have hlen : m.length = l.length := by
    have := congrArg List.length e
    rwa [List.length_map, List.length_map] at this
  refine ⟨?_, fun q hq => ?_, ?_, hlen⟩
  · rw [List.getLast?_eq_none_iff]
    constructor
    · intro z; subst z; exact List.length_eq_zero_iff.mp hlen.symm
    · intro z; subst z; exact List.length_eq_zero_iff.mp hlen
  · have h2 : (l.map (·.1)).getLast? = some q.1 := by rw [List.getLast?_map, hq]; rfl
    rw [← e, List.getLast?_map] at h2
    obtain ⟨k, hk, e2⟩ := Option.map_eq_some_iff.mp h2
    exact ⟨k, hk, e2⟩
  · rw [List.map_dropLast, List.map_dropLast, e]
end OH
end
section
set_option Elab.async false
set_option linter.all false
set_option maxRecDepth 100000
set_option maxHeartbeats 1000000
/-! Views of a row, cut anywhere, are put together to a beginning of it, or do not fit. -/
namespace OH
open PySem PySem.Spec PyProof.Rows L2
def actOf : Crs → It
  | .start _ => .ends
  | .call _ b d n => .calls b d n
  | .back _ _ n => .gives n
  | .deep _ b d n => .calls b d n
  | .done n => .gives n
  | .fin _ => .ends
/-- to whom something comes in by a crossing, and what -/
def evOf : Crs → Option (Int × It)
  | .call _ b d n => some (b, .inn d n)
  | .back _ b n => some (b, .got n)
  | _ => none
theorem Nx.shown {F : Fc} (hF : F.Ok) {s : Rs} (hs : SOk F s) {c : Int} (hc : s.1 = some c) {x : Crs} (hx : Nx F c s.2 x) :
    OH.shown c x = [actOf x] ∧ (∀ e, evOf x = some e → e.1 ≠ c ∧ 0 ≤ e.1 ∧ e.1 < (F.R : Int) ∧ OH.shown e.1 x = [e.2]) ∧ ∀ r, r ≠ c → (∀ e, evOf x = some e → r ≠ e.1) → OH.shown r x = [] := by
  have ch := hs.ctl hc
  have st := hs.step hF hc hx
  cases x with
  | start n => exact hx.elim
  | call a b d n =>
    obtain ⟨e, hw, hl, _⟩ := hx
    subst e
    obtain ⟨b0, b1⟩ := (st.ctl (c := b) rfl).rng hF
    have nb : b ≠ a := by
      obtain ⟨w1, w2, w3, _⟩ := (hF.wi a.toNat (by have := (ch.rng hF); omega)).2.2 _ hw
      have w3' : b ≠ (a.toNat : Int) := w3
      have := (ch.rng hF).1
      omega
    refine ⟨?_, fun e he => ?_, fun r h1 h2 => ?_⟩
    · show (if a = a then _ else _) ++ (if a = b then _ else _) = _
      rw [if_pos rfl, if_neg (fun z => nb z.symm)]
      rfl
    · cases he
      refine ⟨nb, b0, b1, ?_⟩
      show (if b = a then _ else _) ++ (if b = b then _ else _) = _
      rw [if_neg nb, if_pos rfl]
      rfl
    · show (if r = a then _ else _) ++ (if r = b then _ else _) = _
      rw [if_neg h1, if_neg (h2 _ rfl)]
      rfl
  | back a b n =>
    obtain ⟨e, ⟨q, hq, hb⟩, _⟩ := hx
    subst e
    obtain ⟨b0, b1⟩ := (st.ctl (c := b) rfl).rng hF
    have nb : b ≠ a := by
      rcases ch.inv with ⟨e0, _⟩ | ⟨as, a', e0, h0, h1⟩
      · rw [e0] at hq; cases hq
      · rw [e0, List.getLast?_concat] at hq
        cases hq
        have hb' : b = a' := hb
        rw [hb']
        exact h1
    refine ⟨?_, fun e he => ?_, fun r h1 h2 => ?_⟩
    · show (if a = a then _ else _) ++ (if a = b then _ else _) = _
      rw [if_pos rfl, if_neg (fun z => nb z.symm)]
      rfl
    · cases he
      refine ⟨nb, b0, b1, ?_⟩
      show (if b = a then _ else _) ++ (if b = b then _ else _) = _
      rw [if_neg nb, if_pos rfl]
      rfl
    · show (if r = a then _ else _) ++ (if r = b then _ else _) = _
      rw [if_neg h1, if_neg (h2 _ rfl)]
      rfl
  | deep a b d n =>
    obtain ⟨e, _⟩ := hx
    subst e
    refine ⟨if_pos rfl, (fun e he => nomatch he), fun r h1 _ => if_neg h1⟩
  | done n =>
    obtain ⟨e, _⟩ := hx
    rcases ch.inv with ⟨_, e0⟩ | ⟨as, a', e0, _⟩
    · subst e0
      refine ⟨?_, (fun e he => nomatch he), fun r h1 _ => if_neg h1⟩
      rfl
    · rw [e] at e0
      have := congrArg List.length e0
      rw [List.length_append] at this
      simp at this
  | fin a =>
    have e : a = c := hx
    subst e
    refine ⟨if_pos rfl, (fun e he => nomatch he), fun r h1 _ => if_neg h1⟩
/-- what came of it -/
def Good (F : Fc) (row : List Crs) (vs : List (List It)) : JO → Prop
  | .fin J => ∃ k s', Jat F (row.take k) s' J ∧ (∀ r, r < F.R → (vw (r : Int) (row.take k)).length ≤ (vat vs r).length) ∧ 1 ≤ k ∧ k ≤ row.length ∧
      (∀ x, row[k]? = some x → ∃ c, c < F.R ∧ (vat vs c).length = (vw (c : Int) (row.take k)).length ∧ shown (c : Int) x ≠ [])
  | .bad r a => r < F.R ∧ a ≤ (vat vs r).length ∧ ∀ j, ¬ Vs F vs (row.take j)
/-- a room whose views end at what has been shown, though more comes of it -/
theorem no_more {F : Fc} {pre xs : List Crs} {x : Crs} {vs : List (List It)} {b c : Nat} (hb : b < F.R) (hc : c < F.R) (h1 : (vat vs b).length ≤ (vw (b : Int) pre).length) (h2 : shown (b : Int) x ≠ []) (h3 : (vw (c : Int) pre).length < (vat vs c).length) : ∀ j, ¬ Vs F vs ((pre ++ x :: xs).take j) := by
  intro j hv
  have e1 := congrArg List.length (hv b hb)
  have e2 := congrArg List.length (hv c hc)
  by_cases hj : j ≤ pre.length
  · rw [List.take_append_of_le_length hj] at e2
    have := (vw_le (c : Int) (List.take_prefix j pre)).length_le
    omega
  · have hp : pre ++ [x] <+: (pre ++ x :: xs).take j := by
      obtain ⟨i, rfl⟩ : ∃ i, j = pre.length + (i + 1) := ⟨j - pre.length - 1, by omega⟩
      rw [List.take_length_add_append]
      exact ⟨xs.take i, by rw [List.append_assoc]; rfl⟩
    have l1 := (vw_le (b : Int) hp).length_le
    rw [vw_app, List.length_append] at l1
    have l2 : 1 ≤ (vw (b : Int) [x]).length := by
      show 1 ≤ ((OH.shown (b : Int) x ++ []).length)
      rw [List.append_nil]
      cases h : OH.shown (b : Int) x with
      | nil => exact absurd h h2
      | cons _ _ => exact Nat.succ_le_succ (Nat.zero_le _)
    omega
theorem join_go {F : Fc} (hF : F.Ok) {vs : List (List It)} : ∀ (xs pre : List Crs) (s : Rs) (J : Jn), pre ≠ [] → SOk F s → VRr F s xs → Jat F pre s J → Cuts F (pre ++ xs) vs → (∀ r, r < F.R → (vw (r : Int) pre).length ≤ (vat vs r).length) →
    ∃ m out, Runs F vs m J (s.1.map Int.toNat) out ∧ Good F (pre ++ xs) vs out
  | [], pre, s, J, hne, hs, hv, hj, hc, hp => by
    have here : Good F (pre ++ []) vs (.fin J) := by
      refine ⟨pre.length, s, ?_, ?_, ?_, ?_, fun x hx => ?_⟩
      · rw [List.append_nil, List.take_length]; exact hj
      · rw [List.append_nil, List.take_length]; exact hp
      · cases pre with
        | nil => exact absurd rfl hne
        | cons _ _ => exact Nat.succ_le_succ (Nat.zero_le _)
      · rw [List.append_nil]; exact Nat.le_refl _
      · rw [List.append_nil, List.getElem?_eq_none (Nat.le_refl _)] at hx
        cases hx
    cases hctl : s.1 with
    | none => exact ⟨0, .fin J, .stop, here⟩
    | some c =>
      obtain ⟨c0, c1⟩ := (hs.ctl hctl).rng hF
      have hcc : c.toNat < F.R := by omega
      have nx := hj.next hc hp hcc
      have e : nextI vs J.cnt c.toNat = none := by
        rw [nx]
        split <;> rfl
      refine ⟨1, .fin J, .step (c := none) (J' := J) ?_ .stop, here⟩
      unfold jact
      rw [e]
  | x :: xs, pre, s, J, hne, hs, ⟨⟨c, hctl, hx⟩, hr⟩, hj, hc, hp => by
    obtain ⟨c0, c1⟩ := (hs.ctl hctl).rng hF
    have hcc : c.toNat < F.R := by omega
    have ce : ((c.toNat : Nat) : Int) = c := Int.toNat_of_nonneg c0
    obtain ⟨sh1, sh2, sh3⟩ := hx.shown hF hs hctl
    have nx := hj.next hc hp hcc
    rw [ce, vw_cons, sh1] at nx
    rw [hctl]
    have hrow : (pre ++ [x]) ++ xs = pre ++ x :: xs := by rw [List.append_assoc]; rfl
    have len1 : ∀ r : Int, (vw r (pre ++ [x])).length = (vw r pre).length + (OH.shown r x).length := fun r => by
      rw [vw_app, List.length_append]
      show _ + (OH.shown r x ++ []).length = _
      rw [List.append_nil]
    by_cases av : (vw c pre).length < (vat vs c.toNat).length
    · rw [if_pos av] at nx
      have nx' : nextI vs J.cnt c.toNat = some (actOf x) := nx
      have rec_ : ∀ J', jact F vs J c.toNat = .ok ((bh s x).1.map Int.toNat) J' → Jat F (pre ++ [x]) (bh s x) J' → (∀ r, r < F.R → (vw (r : Int) (pre ++ [x])).length ≤ (vat vs r).length) →
          ∃ m out, Runs F vs m J ((some c).map Int.toNat) out ∧ Good F (pre ++ x :: xs) vs out := fun J' h1 h2 h3 => by
        obtain ⟨m, out, r1, r2⟩ := join_go hF xs (pre ++ [x]) (bh s x) J' (by simp) (hs.step hF hctl hx) hr h2 (by rw [hrow]; exact hc) h3
        rw [hrow] at r2
        exact ⟨m + 1, out, .step h1 r1, r2⟩
      have lcb : c.toNat < J.cnt.length := by rw [hj.lc]; exact hcc
      -- nothing comes in
      have one : evOf x = none → (∀ r, r < F.R → cat_ (bump J.cnt c.toNat) r = (vw (r : Int) (pre ++ [x])).length) ∧ ∀ r, r < F.R → (vw (r : Int) (pre ++ [x])).length ≤ (vat vs r).length := fun he => by
        refine ⟨fun r hr' => ?_, fun r hr' => ?_⟩
        · rw [cat_bump lcb, len1]
          by_cases e : c.toNat = r
          · subst e
            rw [if_pos rfl, hj.cn _ hr', ce, sh1]
            rfl
          · rw [if_neg e, hj.cn _ hr', sh3 r (by omega) (fun e' h' => by rw [he] at h'; cases h')]
            rfl
        · rw [len1]
          by_cases e : c.toNat = r
          · subst e
            rw [ce, sh1]
            show _ + 1 ≤ _
            omega
          · rw [sh3 r (by omega) (fun e' h' => by rw [he] at h'; cases h')]
            exact hp r hr'
      -- something comes in to a room
      have two : ∀ (b : Nat) (i : It), evOf x = some ((b : Int), i) → (nextI vs (bump J.cnt c.toNat) b = some i ∧ (∀ r, r < F.R → cat_ (bump (bump J.cnt c.toNat) b) r = (vw (r : Int) (pre ++ [x])).length) ∧ ∀ r, r < F.R → (vw (r : Int) (pre ++ [x])).length ≤ (vat vs r).length) ∨
          (nextI vs (bump J.cnt c.toNat) b = none ∧ Good F (pre ++ x :: xs) vs (.bad b (cat_ (bump J.cnt c.toNat) b))) := fun b i he => by
        obtain ⟨e1, e2, e3, e4⟩ := sh2 _ he
        have e1' : (b : Int) ≠ c := e1
        have e3' : (b : Int) < (F.R : Int) := e3
        have e4' : OH.shown (b : Int) x = [i] := e4
        have hb : b < F.R := by omega
        have nb : c.toNat ≠ b := by omega
        have cb : cat_ (bump J.cnt c.toNat) b = (vw (b : Int) pre).length := by rw [cat_bump lcb, if_neg nb, hj.cn b hb]
        have nxb : nextI vs (bump J.cnt c.toNat) b = nextI vs J.cnt b := by
          unfold nextI
          rw [cb, hj.cn b hb]
        have lb := hj.next hc hp hb
        rw [vw_cons, e4'] at lb
        rw [nxb, lb]
        by_cases ab : (vw (b : Int) pre).length < (vat vs b).length
        · refine .inl ⟨by rw [if_pos ab]; rfl, fun r hr' => ?_, fun r hr' => ?_⟩
          · rw [cat_bump (by rw [len_bump, hj.lc]; exact hb), cat_bump lcb, cat_bump lcb, len1]
            by_cases z : b = r
            · subst z
              rw [if_pos rfl, if_neg nb, hj.cn _ hb, e4']
              rfl
            · rw [if_neg z]
              by_cases e : c.toNat = r
              · subst e
                rw [if_pos rfl, hj.cn _ hr', ce, sh1]
                rfl
              · rw [if_neg e, hj.cn _ hr', sh3 r (by omega) (fun e' h' => by rw [he] at h'; cases h'; intro y; exact z (by omega))]
                rfl
          · rw [len1]
            by_cases z : b = r
            · subst z
              rw [e4']
              show _ + 1 ≤ _
              omega
            · by_cases e : c.toNat = r
              · subst e
                rw [ce, sh1]
                show _ + 1 ≤ _
                omega
              · rw [sh3 r (by omega) (fun e' h' => by rw [he] at h'; cases h'; intro y; exact z (by omega))]
                exact hp r hr'
        · refine .inr ⟨by rw [if_neg ab], hb, ?_, ?_⟩
          · rw [cb]
            exact hp b hb
          · refine no_more (b := b) (c := c.toNat) hb hcc (by omega) (by rw [e4']; exact List.cons_ne_nil _ _) (by rw [ce]; exact av)
      cases x with
      | start n => exact hx.elim
      | call a b d n =>
        obtain ⟨ea, hw, hl, _⟩ := hx
        subst ea
        obtain ⟨b', rfl⟩ : ∃ b' : Nat, b = b' := ⟨b.toNat, by have := (sh2 _ rfl).2.1; have this' : 0 ≤ b := this; omega⟩
        have hla : ¬ (J.asks.length : Int) = F.dep := by rw [(getLast?_map_fst hj.as).2.2.2]; omega
        have jj : jact F vs J a.toNat = if nextI vs (bump J.cnt a.toNat) b' = some (.inn d n) then .ok (some b') ⟨bump (bump J.cnt a.toNat) b', J.asks ++ [a.toNat], J.joint ++ [.call a.toNat b' d n]⟩ else .err b' (cat_ (bump J.cnt a.toNat) b') := by
          unfold jact
          rw [nx']
          show (if ((b' : Int), d) ∈ F.ws a.toNat then _ else _) = _
          rw [if_pos hw, if_neg hla]
          rfl
        rcases two b' (.inn d n) rfl with ⟨t1, t2, t3⟩ | ⟨t1, t2⟩
        · rw [if_pos t1] at jj
          refine rec_ _ jj ⟨by rw [len_bump, len_bump, hj.lc], t2, ?_, ?_⟩ t3
          · show (J.asks ++ [a.toNat]).map _ = (s.2 ++ [(a, (b' : Int))]).map _
            rw [List.map_append, List.map_append, hj.as]
            show _ ++ [((a.toNat : Nat) : Int)] = _
            rw [ce]
            rfl
          · show J.joint ++ _ = _
            rw [hj.jo, ce]
        · rw [if_neg (by rw [t1]; exact fun z => nomatch z)] at jj
          exact ⟨1, _, .err jj, t2⟩
      | back a b n =>
        obtain ⟨ea, ⟨q, hq, hb⟩, _⟩ := hx
        subst ea
        have hb' : b = q.1 := hb
        obtain ⟨b', rfl⟩ : ∃ b' : Nat, b = b' := ⟨b.toNat, by have := (sh2 _ rfl).2.1; have this' : 0 ≤ b := this; omega⟩
        obtain ⟨g1, g2, g3, g4⟩ := getLast?_map_fst hj.as
        obtain ⟨k, hk, ek⟩ := g2 q hq
        have ekb : k = b' := by omega
        subst ekb
        have jj : jact F vs J a.toNat = if nextI vs (bump J.cnt a.toNat) k = some (.got n) then .ok (some k) ⟨bump (bump J.cnt a.toNat) k, J.asks.dropLast, J.joint ++ [.back a.toNat k n]⟩ else .err k (cat_ (bump J.cnt a.toNat) k) := by
          unfold jact
          rw [nx']
          show (match J.asks.getLast? with
            | none => _
            | some k => _) = _
          rw [hk]
          rfl
        rcases two k (.got n) rfl with ⟨t1, t2, t3⟩ | ⟨t1, t2⟩
        · rw [if_pos t1] at jj
          refine rec_ _ jj ⟨by rw [len_bump, len_bump, hj.lc], t2, ?_, ?_⟩ t3
          · show J.asks.dropLast.map _ = s.2.dropLast.map _
            exact g3
          · show J.joint ++ _ = _
            rw [hj.jo, ce]
        · rw [if_neg (by rw [t1]; exact fun z => nomatch z)] at jj
          exact ⟨1, _, .err jj, t2⟩
      | deep a b d n =>
        obtain ⟨ea, hw, hl, _⟩ := hx
        subst ea
        have hla : (J.asks.length : Int) = F.dep := by rw [(getLast?_map_fst hj.as).2.2.2]; exact hl
        obtain ⟨t2, t3⟩ := one rfl
        refine rec_ ⟨bump J.cnt a.toNat, J.asks, J.joint ++ [.deep a.toNat b d n]⟩ ?_ ⟨by rw [len_bump, hj.lc], t2, hj.as, by show J.joint ++ _ = _; rw [hj.jo, ce]⟩ t3
        unfold jact
        rw [nx']
        show (if (b, d) ∈ F.ws a.toNat then _ else _) = _
        rw [if_pos hw, if_pos hla]
        rfl
      | done n =>
        obtain ⟨ea, _⟩ := hx
        obtain ⟨t2, t3⟩ := one rfl
        refine rec_ ⟨bump J.cnt c.toNat, J.asks, J.joint ++ [.done n]⟩ ?_ ⟨by rw [len_bump, hj.lc], t2, hj.as, by show J.joint ++ _ = _; rw [hj.jo]⟩ t3
        unfold jact
        rw [nx']
        show (match J.asks.getLast? with
            | none => _
            | some k => _) = _
        rw [(getLast?_map_fst hj.as).1.mpr ea]
        rfl
      | fin a =>
        have ea : a = c := hx
        subst ea
        obtain ⟨t2, t3⟩ := one rfl
        refine rec_ ⟨bump J.cnt a.toNat, J.asks, J.joint ++ [.fin a.toNat]⟩ ?_ ⟨by rw [len_bump, hj.lc], t2, hj.as, by show J.joint ++ _ = _; rw [hj.jo, ce]⟩ t3
        unfold jact
        rw [nx']
        rfl
    · have e : nextI vs J.cnt c.toNat = none := by rw [nx, if_neg av]
      refine ⟨1, .fin J, .step (c := none) (J' := J) ?_ .stop, ?_⟩
      · unfold jact
        rw [e]
      · have tl : (pre ++ x :: xs).take pre.length = pre := List.take_left
        refine ⟨pre.length, s, by rw [tl]; exact hj, by rw [tl]; exact hp, ?_, ?_, fun y hy => ⟨c.toNat, hcc, ?_, ?_⟩⟩
        · cases pre with
          | nil => exact absurd rfl hne
          | cons _ _ => exact Nat.succ_le_succ (Nat.zero_le _)
        · rw [List.length_append]; omega
        · have := hp c.toNat hcc
          rw [ce] at this
          rw [tl, ce]
          omega
        · rw [List.getElem?_append_right (Nat.le_refl _), Nat.sub_self] at hy
          cases hy
          rw [ce, sh1]
          exact List.cons_ne_nil _ _
end OH
end
section
set_option Elab.async false
set_option linter.all false
set_option maxRecDepth 100000
set_option maxHeartbeats 1000000
/-! What is put together at the end; rows told apart by their views. -/
namespace OH
open PySem PySem.Spec PyProof.Rows L2
section
variable {F : Fc} {row : List Crs} {vs : List (List It)} {J : Jn}
theorem join_end (hc : Cuts F row vs) (h : Good F row vs (.fin J)) (he : ∀ r, r < F.R → (vat vs r).length ≤ cat_ J.cnt r) : ∃ k, 1 ≤ k ∧ k ≤ row.length ∧ J.joint = row.take k ∧ Vs F vs (row.take k) := by
  obtain ⟨k, s', hj, hp, k1, k2, _⟩ := h
  refine ⟨k, k1, k2, hj.jo, fun r hr => ?_⟩
  have h1 := hc.pre r hr
  have h2 := vw_le (r : Int) (List.take_prefix k row)
  have h3 := hp r hr
  have h4 := he r hr
  rw [hj.cn r hr] at h4
  have e1 := List.prefix_of_prefix_length_le h1 h2 h4
  exact e1.eq_of_length (Nat.le_antisymm h4 h3)
theorem join_left (h : Good F row vs (.fin J)) {r : Nat} (hr : r < F.R) (hl : cat_ J.cnt r < (vat vs r).length) : ∀ j, ¬ Vs F vs (row.take j) := by
  obtain ⟨k, s', hj, hp, k1, k2, hk⟩ := h
  rw [hj.cn r hr] at hl
  by_cases e : k < row.length
  · obtain ⟨c, c1, c2, c3⟩ := hk _ (List.getElem?_eq_getElem e)
    have q := no_more (xs := row.drop (k + 1)) c1 hr (Nat.le_of_eq c2) c3 hl
    have e2 : row.take k ++ row[k] :: row.drop (k + 1) = row := by
      rw [← List.drop_eq_getElem_cons e, List.take_append_drop]
    rw [e2] at q
    exact q
  · intro j hv
    have e1 := congrArg List.length (hv r hr)
    have e2 : row.take k = row := List.take_of_length_le (by omega)
    rw [e2] at hl
    have := (vw_le (r : Int) (List.take_prefix j row)).length_le
    omega
end
/-- the act tells the crossing -/
theorem Nx.same {F : Fc} {c : Int} {asks : List (Int × Int)} {x y : Crs} (hx : Nx F c asks x) (hy : Nx F c asks y) (e : actOf x = actOf y) : x = y := by
  cases x <;> cases y <;> first
    | exact hx.elim
    | exact hy.elim
    | (injection e with e1 e2 e3; done)
    | skip
  all_goals first
    | (cases e; done)
    | skip
  · obtain ⟨a1, _, a3, _⟩ := hx
    obtain ⟨b1, _, b3, _⟩ := hy
    injection e with e1 e2 e3
    subst a1 b1 e1 e2 e3
    rfl
  · obtain ⟨a1, _, a3, _⟩ := hx
    obtain ⟨b1, _, b3, _⟩ := hy
    omega
  · obtain ⟨a1, ⟨q, q1, q2⟩, _⟩ := hx
    obtain ⟨b1, ⟨p, p1, p2⟩, _⟩ := hy
    injection e with e1
    rw [q1] at p1
    cases p1
    subst a1 b1 e1 q2 p2
    rfl
  · obtain ⟨a1, ⟨q, q1, q2⟩, _⟩ := hx
    obtain ⟨b1, _⟩ := hy
    rw [b1] at q1
    cases q1
  · obtain ⟨a1, _, a3, _⟩ := hx
    obtain ⟨b1, _, b3, _⟩ := hy
    omega
  · obtain ⟨a1, _, a3, _⟩ := hx
    obtain ⟨b1, _, b3, _⟩ := hy
    injection e with e1 e2 e3
    subst a1 b1 e1 e2 e3
    rfl
  · obtain ⟨b1, ⟨q, q1, q2⟩, _⟩ := hy
    obtain ⟨a1, _⟩ := hx
    rw [a1] at q1
    cases q1
  · injection e with e1
    subst e1
    rfl
  · have a1 : _ = c := hx
    have b1 : _ = c := hy
    subst a1 b1
    rfl
def Near (l1 l2 : List It) : Prop := l1 <+: l2 ∨ l2 <+: l1
theorem near_go {F : Fc} (hF : F.Ok) : ∀ (xs ys : List Crs) (s : Rs), SOk F s → VRr F s xs → VRr F s ys → (∀ r : Nat, r < F.R → Near (vw (r : Int) xs) (vw (r : Int) ys)) → xs <+: ys ∨ ys <+: xs
  | [], ys, _, _, _, _, _ => .inl (List.nil_prefix)
  | x :: xs, [], _, _, _, _, _ => .inr (List.nil_prefix)
  | x :: xs, y :: ys, s, hs, ⟨⟨c, hc, hx⟩, hrx⟩, ⟨⟨c', hc', hy⟩, hry⟩, hn => by
    rw [hc] at hc'
    cases hc'
    obtain ⟨c0, c1⟩ := (hs.ctl hc).rng hF
    have ce : ((c.toNat : Nat) : Int) = c := Int.toNat_of_nonneg c0
    obtain ⟨sx, _, _⟩ := hx.shown hF hs hc
    obtain ⟨sy, _, _⟩ := hy.shown hF hs hc
    have h := hn c.toNat (by omega)
    rw [ce, vw_cons, vw_cons, sx, sy] at h
    have ea : actOf x = actOf y := by
      rcases h with h | h
      · exact (List.cons_prefix_cons.mp h).1
      · exact (List.cons_prefix_cons.mp h).1.symm
    have exy := hx.same hy ea
    subst exy
    have ih := near_go hF xs ys (bh s x) (hs.step hF hc hx) hrx hry (fun r hr => by
      have h := hn r hr
      rw [vw_cons, vw_cons] at h
      rcases h with h | h
      · exact .inl ((List.prefix_append_right_inj _).mp h)
      · exact .inr ((List.prefix_append_right_inj _).mp h))
    rcases ih with h | h
    · exact .inl (List.cons_prefix_cons.mpr ⟨rfl, h⟩)
    · exact .inr (List.cons_prefix_cons.mpr ⟨rfl, h⟩)
theorem near_iff {F : Fc} (hF : F.Ok) {a b : List Crs} (ha : VR F a) (hb : VR F b) (h0 : a[0]? = b[0]?) : (∀ r : Nat, r < F.R → Near (vw (r : Int) a) (vw (r : Int) b)) ↔ (a <+: b ∨ b <+: a) := by
  obtain ⟨n, xs, rfl, _, hx⟩ := ha
  obtain ⟨m, ys, rfl, _, hy⟩ := hb
  have e : n = m := by
    have h0' : some (Crs.start n) = some (Crs.start m) := h0
    injection h0' with h0'
    injection h0'
  subst e
  constructor
  · intro h
    have ih := near_go hF xs ys (some 0, []) (SOk.init hF) hx hy (fun r hr => by
      have h := h r hr
      rw [vw_cons, vw_cons] at h
      rcases h with h | h
      · exact .inl ((List.prefix_append_right_inj _).mp h)
      · exact .inr ((List.prefix_append_right_inj _).mp h))
    rcases ih with h | h
    · exact .inl (List.cons_prefix_cons.mpr ⟨rfl, h⟩)
    · exact .inr (List.cons_prefix_cons.mpr ⟨rfl, h⟩)
  · rintro (h | h) r _
    · exact .inl (vw_le _ h)
    · exact .inr (vw_le _ h)
/-- the row is told by its views -/
theorem Vs.one {F : Fc} (hF : F.Ok) {row : List Crs} (h : VR F row) {vs : List (List It)} {i j : Nat} (hi : i ≤ row.length) (hj : j ≤ row.length) (vi : Vs F vs (row.take i)) (vj : Vs F vs (row.take j)) : i = j := by
  have main : ∀ i j, i < j → j ≤ row.length → Vs F vs (row.take i) → Vs F vs (row.take j) → False := fun i j lt hj vi vj => by
    obtain ⟨n, xs, rfl, hn, hr⟩ := h
    cases i with
    | zero =>
      have e1 := vi 0 (by have := hF.m1; omega)
      have e2 := vj 0 (by have := hF.m1; omega)
      rw [List.take_zero] at e1
      obtain ⟨j', rfl⟩ : ∃ j', j = j' + 1 := ⟨j - 1, by omega⟩
      rw [List.take_succ_cons, vw_cons, e1] at e2
      cases e2
    | succ i =>
      have hi : i < xs.length := by simp at hj; omega
      have hv := hr.take (i + 1)
      have ex : xs.take (i + 1) = xs.take i ++ [xs[i]] := by rw [List.take_add_one, List.getElem?_eq_getElem hi]; rfl
      have key : ∀ (ys : List Crs) (s : Rs) (x : Crs), SOk F s → VRr F s (ys ++ [x]) → ∃ c : Nat, c < F.R ∧ shown (c : Int) x ≠ [] := fun ys => by
        induction ys with
        | nil =>
          rintro s x hs ⟨⟨c, hc, hx⟩, _⟩
          obtain ⟨c0, c1⟩ := (hs.ctl hc).rng hF
          refine ⟨c.toNat, by omega, ?_⟩
          rw [Int.toNat_of_nonneg c0, (hx.shown hF hs hc).1]
          exact List.cons_ne_nil _ _
        | cons y ys ih =>
          rintro s x hs ⟨⟨c, hc, hy⟩, hr⟩
          exact ih _ _ (hs.step hF hc hy) hr
      rw [ex] at hv
      obtain ⟨c, c1, c2⟩ := key _ _ _ (SOk.init hF) hv
      have e1 := congrArg List.length (vi c c1)
      have e2 := congrArg List.length (vj c c1)
      have hp : (Crs.start n :: xs).take (i + 1) ++ [xs[i]] <+: (Crs.start n :: xs).take j := by
        rw [List.take_succ_cons, List.cons_append, ← ex]
        obtain ⟨j', rfl⟩ : ∃ j', j = j' + 1 := ⟨j - 1, by omega⟩
        rw [List.take_succ_cons]
        refine List.cons_prefix_cons.mpr ⟨rfl, ?_⟩
        exact List.take_prefix_take_left (by omega)
      have l1 := (vw_le (c : Int) hp).length_le
      rw [vw_app, List.length_append] at l1
      have l2 : 1 ≤ (vw (c : Int) [xs[i]]).length := by
        show 1 ≤ ((shown (c : Int) xs[i] ++ []).length)
        rw [List.append_nil]
        cases h : shown (c : Int) xs[i] with
        | nil => exact absurd h c2
        | cons _ _ => exact Nat.succ_le_succ (Nat.zero_le _)
      omega
  rcases Nat.lt_trichotomy i j with h1 | h1 | h1
  · exact (main i j h1 hj vi vj).elim
  · exact h1
  · exact (main j i h1 hi vj vi).elim
end OH
end
section
set_option Elab.async false
set_option linter.all false
set_option maxRecDepth 100000
set_option maxHeartbeats 4000000
/-! RowWalk. -/
namespace OH
open PySem PySem.Spec PyProof.Rows L2
theorem _root_.L2.SqT.sm {K : PySem.W.Frag} {H H' : Hp} {a : Addr} {xs : List V} (h : SqT K H a xs) (e : Same H H') : SqT K H' a xs :=
  h.elim (fun h => .inl (h.elim (fun h => .inl (e _ _ h)) fun ⟨o, h⟩ => .inr ⟨o, e _ _ h⟩)) fun h => .inr h
/-- tuples at addresses, own ones or the top's, told by f -/
inductive AllQ {α : Type} (K : PySem.W.Frag) (H : Hp) (f : α → List V) : List Addr → List α → Prop where
  | nil : AllQ K H f [] []
  | cons {p : Addr} {x : α} {ps : List Addr} {xs : List α} : SqT K H p (f x) → AllQ K H f ps xs → AllQ K H f (p :: ps) (x :: xs)
section
variable {α : Type} {K : PySem.W.Frag} {H H' : Hp} {f : α → List V} {ps : List Addr} {xs : List α}
theorem AllQ.same (h : AllQ K H f ps xs) (s : Same H H') : AllQ K H' f ps xs := by
  induction h with
  | nil => exact .nil
  | cons a _ ih => exact .cons (a.sm s) ih
theorem AllQ.len (h : AllQ K H f ps xs) : ps.length = xs.length := by
  induction h with
  | nil => rfl
  | cons _ _ ih => exact congrArg (· + 1) ih
theorem AllQ.get (h : AllQ K H f ps xs) : ∀ {i : Nat} {p : Addr}, ps[i]? = some p → ∃ x, xs[i]? = some x ∧ SqT K H p (f x) := by
  induction h with
  | nil => intro i p e; cases i <;> cases e
  | cons a _ ih =>
    intro i p e
    cases i with
    | zero => exact ⟨_, rfl, by cases e; exact a⟩
    | succ i => exact ih e
end
theorem atI_end {α : Type} {xs : List α} {v : α} (h : xs[xs.length - 1]? = some v) : atI xs (-1) = some v := by
  rcases List.eq_nil_or_concat xs with rfl | ⟨ys, y, rfl⟩
  · cases h
  · rw [List.concat_eq_append] at h ⊢
    rw [List.length_append, List.getElem?_append_right (by show ys.length ≤ ys.length + 1 - 1; omega)] at h
    have e : ys.length + [y].length - 1 - ys.length = 0 := by show ys.length + 1 - 1 - ys.length = 0; omega
    rw [e] at h
    cases h
    exact atI_last ys _
def optV : Option Int → V
  | none => .non
  | some i => .int i
structure Wk where
  ins : Option Int
  asks : List (Int × Int)
  over : Bool
abbrev Fd := Int × Int × Option Int
def fdV (f : Fd) : List V := [.int f.1, .int f.2.1, optV f.2.2]
def numF : Fd := (0, 9999, none)
def dorF : Fd := (0, 5, none)
/-- what the fields of a crossing of a kind must be -/
def fld (w : Wk) (x : Str) : Option (List Fd) :=
  if w.over = true then none else
  match w.ins with
  | none => if x = "start" then some [numF] else none
  | some r =>
    if (x = "call" ∧ w.asks.length < 60) ∨ (x = "deep" ∧ 0 < w.asks.length) then some [(r, r, none), (0, 5, some r), dorF, numF]
    else if x = "back" ∧ 0 < w.asks.length then some [(r, r, none), ((w.asks.getLast?.getD (0, 0)).1, (w.asks.getLast?.getD (0, 0)).1, none), numF]
    else if x = "done" ∧ w.asks.length = 0 then some [numF]
    else if x = "end" then some [(r, r, none)] else none
def wkf (w : Wk) (al : Addr) : List (Str × V) := [("inside", optV w.ins), ("asks", .ref al), ("over", .bl w.over)]
structure WkAt (CW : Addr) (H : Hp) (p d al : Addr) (w : Wk) : Prop where
  hp : H p = some (.ins CW d (wkf w al))
  ha : ∃ ps : List Addr, H al = some (.lst (ps.map V.ref)) ∧ AllAt H pairV ps w.asks
structure TxW (K : PySem.W.Frag) (CW : Addr) : Prop where
  cl : Cls K CW
  nI : NoAttr K CW "inside"
  nA : NoAttr K CW "asks"
  nO : NoAttr K CW "over"
structure TxC (K : PySem.W.Frag) (mg : Str → Option Value) (aN aD : Addr) : Prop where
  gN : mg "NUMBER" = some (.ref aN)
  tN : ∀ H, SqT K H aN (fdV numF)
  gD : mg "DOOR" = some (.ref aD)
  tD : ∀ H, SqT K H aD (fdV dorF)
  gO : ∃ t, mg "MOST_OPEN" = some (.int 60 t)
  gR : ∃ t, mg "MOST_ROOMS" = some (.int 6 t)
  nLen : mg "len" = none
def spKInit (CW : Addr) : Sp := fun vs H Q _ => ∃ (p d : Addr), vs = [.ref p] ∧ H p = some (.ins CW d []) ∧ ∀ al H', H al = none → al ≠ p → WkAt CW H' p d al ⟨none, [], false⟩ → Kept [p] H H' → Q .non H'
def spFields (K : PySem.W.Frag) (CW : Addr) : Sp := fun vs H Q _ => ∃ (p d al : Addr) (w : Wk) (x : Str), vs = [.ref p, .str x] ∧ WkAt CW H p d al w ∧ w.asks.length ≤ 1000000 ∧
  (fld w x = none → ∀ H', Same H H' → Q .non H') ∧ ∀ fs, fld w x = some fs → ∀ l ps H', Same H H' → H l = none → H' l = some (.lst (ps.map V.ref)) → AllQ K H' fdV ps fs → Q (.ref l) H'
section
variable {P : Program} {w : World} {K : PySem.W.Frag} {mg : Str → Option Value} {base : Heap} {CW aN aD : Addr}
theorem sc_RowWalk___init__ : FnScope ["self"] ["self"] (defScope s_RowWalk___init__) := ⟨rfl, rfl, rfl, by decide +kernel, rfl, by decide +kernel, by decide +kernel⟩
theorem ok_RowWalk___init__ {f : Addr} {fd : FuncData} (F : Fun K "__init__" "RowWalk.__init__" s_RowWalk___init__ f fd) (T : TxW K CW) : FnOk P w K mg base CX0 1 f fd ["self"] (spKInit CW) := by
  refine F.ok sc_RowWalk___init__ (fun vs H Q E h => ?_) (fun cdv A outer s H vs Q E hr h => ?_)
  · obtain ⟨p, d, rfl, _⟩ := h
    rfl
  · obtain ⟨p, d, rfl, hp, k⟩ := h
    refine ⟨_, pss_cons (ps_fld (pv 0) pe_non rfl)
      (pss_cons (ps_fld (pv 0) (pe_lst pa_nil) rfl)
      (pss_one (ps_fld (pv 0) pe_bl rfl))), ?_⟩
    refine ⟨_, rfl, p, CW, d, _, rfl, hp, T.cl, T.nI, (by show 0 < 1000; decide), ?_⟩
    refine ⟨(by show 0 ≤ sizeLine; decide), fun al nal => ?_⟩
    have nalp : al ≠ p := (ne_of_none upd_same nal).symm
    have nalH : H al = none := by
      rw [upd_ne nalp] at nal
      exact nal
    refine ⟨_, rfl, p, CW, d, _, rfl, (upd_ne nalp.symm).trans upd_same, T.cl, T.nA, (by show 1 < 1000; decide), ?_⟩
    refine ⟨_, rfl, p, CW, d, _, rfl, upd_same, T.cl, T.nO, (by show 2 < 1000; decide), ?_⟩
    refine k al _ nalH nalp ⟨by rw [upd_same]; rfl, [], ?_, .nil⟩ ?_
    · rw [upd_ne nalp, upd_ne nalp]
      exact upd_same
    · exact (((Kept.refl.upd (List.mem_singleton.mpr rfl)).new nal).upd (List.mem_singleton.mpr rfl)).upd (List.mem_singleton.mpr rfl)
abbrev nFields : List Str := ["self", "word", "own", "asked", "asker"]
theorem sc_RowWalk_fields : FnScope nFields ["self", "word"] (defScope s_RowWalk_fields) := ⟨rfl, rfl, rfl, by decide +kernel, rfl, by decide +kernel, by decide +kernel⟩
theorem ok_RowWalk_fields {f : Addr} {fd : FuncData} (F : Fun K "fields" "RowWalk.fields" s_RowWalk_fields f fd) (T : TxW K CW) (G : TxC K mg aN aD) : FnOk P w K mg base CX0 1 f fd ["self", "word"] (spFields K CW) := by
  refine F.ok sc_RowWalk_fields (fun vs H Q E h => ?_) (fun cdv A outer s H vs Q E hr h => ?_)
  · obtain ⟨p, d, al, w, x, rfl, _⟩ := h
    rfl
  · obtain ⟨p, d, al, w, x, rfl, W, hl, k1, k2⟩ := h
    have nd := sc_RowWalk_fields.nd
    obtain ⟨tO, gO⟩ := G.gO
    obtain ⟨tR, gR⟩ := G.gR
    refine ⟨_, pss_cons (ps_if (pt_val (pe_fld (pv 0) rfl)) (pss_one (ps_ret pe_non)) pss_nil)
      (pss_cons (ps_if (pt_cmpR op_isN (pe_fld (pv 0) rfl) pe_non (nomark _)) (pss_one (ps_ret (pe_ifExp (pt_cmpR op_eq (pv 1) pe_str (nomark _)) (pe_lst (pa_cons (pe_glob (v := .ref aN) rfl G.gN rfl) pa_nil)) pe_non))) pss_nil)
      (pss_cons (ps_set (i := 2) nd rfl (Or.inl rfl) (pe_tup (pa_cons (pe_fld (pv 0) rfl) (pa_cons (pe_fld (pv 0) rfl) (pa_cons pe_non pa_nil)))))
      (pss_cons (ps_set (i := 3) nd rfl (Or.inl rfl) (pe_tup (pa_cons pe_int (pa_cons (pe_op op_sub (pe_glob (v := .int 6) rfl gR ⟨tR, rfl⟩) pe_int) (pa_cons (pe_fld (pv 0) rfl) pa_nil)))))
      (pss_cons (ps_if (PW.pt (pw_or (PW.pt (pw_and (pt_cmpR op_eq (pv 1) pe_str (nomark _)) (pw_and1 (pt_cmpR op_lt (pe_callB call_len_seq (by rfl) G.nLen PySem.boot_len (pa_cons (pe_fld (pv 0) rfl) pa_nil)) (pe_glob (v := .int 60) rfl gO ⟨tO, rfl⟩) (nomark _))))) (pw_or1 (PW.pt (pw_and (pt_cmpR op_eq (pv 1) pe_str (nomark _)) (pw_and1 (pt_cmpR op_gt (pe_callB call_len_seq (by rfl) G.nLen PySem.boot_len (pa_cons (pe_fld (pv 0) rfl) pa_nil)) pe_int (nomark _)))))))) (pss_one (ps_ret (pe_lst (pa_cons (pv 2) (pa_cons (pv 3) (pa_cons (pe_glob (v := .ref aD) rfl G.gD rfl) (pa_cons (pe_glob (v := .ref aN) rfl G.gN rfl) pa_nil))))))) pss_nil)
      (pss_cons (ps_if (PW.pt (pw_and (pt_cmpR op_eq (pv 1) pe_str (nomark _)) (pw_and1 (pt_cmpR op_gt (pe_callB call_len_seq (by rfl) G.nLen PySem.boot_len (pa_cons (pe_fld (pv 0) rfl) pa_nil)) pe_int (nomark _))))) (pss_cons (ps_set (i := 4) nd rfl (Or.inl rfl) (pe_ix ix_tup (pe_ix ix_list (pe_fld (pv 0) rfl) (pe_un un_neg pe_int) (fun _ _ => rfl)) pe_int (fun _ _ => rfl)))
      (pss_one (ps_ret (pe_lst (pa_cons (pv 2) (pa_cons (pe_tup (pa_cons (pv 4) (pa_cons (pv 4) (pa_cons pe_non pa_nil)))) (pa_cons (pe_glob (v := .ref aN) rfl G.gN rfl) pa_nil))))))) pss_nil)
      (pss_cons (ps_if (PW.pt (pw_and (pt_cmpR op_eq (pv 1) pe_str (nomark _)) (pw_and1 (pt_cmpR op_eq (pe_callB call_len_seq (by rfl) G.nLen PySem.boot_len (pa_cons (pe_fld (pv 0) rfl) pa_nil)) pe_int (nomark _))))) (pss_one (ps_ret (pe_lst (pa_cons (pe_glob (v := .ref aN) rfl G.gN rfl) pa_nil)))) pss_nil)
      (pss_one (ps_ret (pe_ifExp (pt_cmpR op_eq (pv 1) pe_str (nomark _)) (pe_lst (pa_cons (pv 2) pa_nil)) pe_non))))))))), ?_⟩
    obtain ⟨aps, ha, ha2⟩ := W.ha
    have la := ha2.len
    have fI : ∀ {H' : Hp}, Same H H' → H' p = some (.ins CW d (wkf w al)) := fun s => s _ _ W.hp
    refine ⟨_, rfl, p, CW, d, _, _, rfl, W.hp, T.cl, T.nO, rfl, _, rfl, ?_⟩
    unfold fld at k1 k2
    cases ho : w.over with
    | true =>
      rw [ho, if_pos rfl] at k1
      exact iteT (k1 rfl _ (Same.refl H))
    | false =>
      rw [ho, if_neg Bool.false_ne_true] at k1 k2
      refine iteF ?_
      refine ⟨_, rfl, p, CW, d, _, _, rfl, W.hp, T.cl, T.nI, rfl, rfl, _, rfl, ?_⟩
      cases hi : w.ins with
      | none =>
        rw [hi] at k1 k2
        refine iteT ?_
        refine ⟨_, rfl, rfl, _, rfl, ?_⟩
        refine ite2 (fun q => ?_) (fun q => ?_)
        · have e : x = "start" := by simpa using q
          refine ⟨(by show 1 ≤ sizeLine; decide), fun l nl => ?_⟩
          exact k2 [numF] (if_pos e) l [aN] _ (sadd (Same.refl H) nl) nl upd_same (.cons (G.tN _) .nil)
        · have e : ¬ x = "start" := by simpa using q
          exact k1 (if_neg e) _ (Same.refl H)
      | some r =>
        rw [hi] at k1 k2
        dsimp only at k1 k2
        refine iteF ?_
        have eI : optV w.ins = .int r := by rw [hi]; rfl
        have fl : (wkf w al).lookup ("inside" : Str) = some (.int r) := by rw [← eI]; rfl
        -- own
        refine ⟨_, rfl, p, CW, d, _, _, rfl, W.hp, T.cl, T.nI, fl, _, rfl, p, CW, d, _, _, rfl, W.hp, T.cl, T.nI, fl, (by show 3 ≤ sizeLine; decide), fun o1 n1 => ?_⟩
        have s1 := sadd (o := .tup [.int r, .int r, .non]) (Same.refl H) n1
        have h1 : upd H o1 (.tup [.int r, .int r, .non]) o1 = some (.tup (fdV (r, r, none))) := upd_same
        generalize upd H o1 (.tup [.int r, .int r, .non]) = H1 at s1 h1 ⊢
        -- asked
        refine ⟨_, _, rfl, rfl, _, rfl, p, CW, d, _, _, rfl, fI s1, T.cl, T.nI, fl, (by show 3 ≤ sizeLine; decide), fun o2 n2 => ?_⟩
        have s2 := s1.trans (sadd (o := .tup [.int 0, .int (6 - 1), .int r]) (Same.refl H1) n2)
        have s12 := sadd (o := .tup [.int 0, .int (6 - 1), .int r]) (Same.refl H1) n2
        have h2 : upd H1 o2 (.tup [.int 0, .int (6 - 1), .int r]) o2 = some (.tup (fdV (0, 5, some r))) := upd_same
        have h1' := s12 _ _ h1
        generalize upd H1 o2 (.tup [.int 0, .int (6 - 1), .int r]) = H2 at s2 h2 h1' ⊢
        have hal := s2 _ _ ha
        have hll : (aps.map V.ref).length = w.asks.length := by rw [List.length_map, la]
        -- so many asks are open
        refine ⟨_, rfl, rfl, _, rfl, ?_⟩
        refine ite2 (fun qc => ?_) (fun qc => ?_)
        · have xc : x = "call" := by simpa using qc
          subst xc
          refine ⟨_, rfl, p, CW, d, _, _, rfl, fI s2, T.cl, T.nA, rfl, al, _, rfl, .inl (SqL.of hal), _, _, rfl, rfl, _, rfl, ?_⟩
          refine ite2 (fun ql => ?_) (fun ql => ?_)
          · have l60 : w.asks.length < 60 := by
              have : ((aps.map V.ref).length : Int) < 60 := by simpa using ql
              rw [hll] at this
              omega
            refine iteT ?_
            refine ⟨_, rfl, _, rfl, (by show 4 ≤ sizeLine; decide), fun l nl => ?_⟩
            have s3 := sadd (o := .lst [.ref o1, .ref o2, .ref aD, .ref aN]) (Same.refl H2) nl
            exact k2 _ (if_pos (.inl ⟨rfl, l60⟩)) l [o1, o2, aD, aN] _ (s2.trans s3) (s2.free nl) upd_same (.cons (SqT.of (s3 _ _ h1')) (.cons (SqT.of (s3 _ _ h2)) (.cons (G.tD _) (.cons (G.tN _) .nil))))
          · have l60 : ¬ w.asks.length < 60 := by
              have : ¬ ((aps.map V.ref).length : Int) < 60 := by simpa using ql
              rw [hll] at this
              omega
            refine ⟨_, rfl, rfl, _, rfl, iteF ?_⟩
            refine iteF ?_
            refine ⟨_, rfl, rfl, _, rfl, iteF ?_⟩
            refine ⟨_, rfl, rfl, _, rfl, iteF ?_⟩
            refine ⟨_, rfl, rfl, _, rfl, iteF ?_⟩
            exact k1 (by rw [if_neg (fun z => z.elim (fun z => l60 z.2) (fun z => absurd z.1 (by decide))), if_neg (fun z => absurd z.1 (by decide)), if_neg (fun z => absurd z.1 (by decide)), if_neg (by decide)]) _ s2
        · have xc : ¬ x = "call" := by simpa using qc
          refine iteF ?_
          refine ⟨_, rfl, rfl, _, rfl, ?_⟩
          refine ite2 (fun qd => ?_) (fun qd => ?_)
          · have xd : x = "deep" := by simpa using qd
            subst xd
            refine ⟨_, rfl, p, CW, d, _, _, rfl, fI s2, T.cl, T.nA, rfl, al, _, rfl, .inl (SqL.of hal), _, _, rfl, rfl, _, rfl, ?_⟩
            refine ite2 (fun ql => ?_) (fun ql => ?_)
            · have l0 : 0 < w.asks.length := by
                have : (0 : Int) < ((aps.map V.ref).length : Int) := by simpa using ql
                rw [hll] at this
                omega
              refine ⟨_, rfl, _, rfl, (by show 4 ≤ sizeLine; decide), fun l nl => ?_⟩
              have s3 := sadd (o := .lst [.ref o1, .ref o2, .ref aD, .ref aN]) (Same.refl H2) nl
              exact k2 _ (if_pos (.inr ⟨rfl, l0⟩)) l [o1, o2, aD, aN] _ (s2.trans s3) (s2.free nl) upd_same (.cons (SqT.of (s3 _ _ h1')) (.cons (SqT.of (s3 _ _ h2)) (.cons (G.tD _) (.cons (G.tN _) .nil))))
            · have l0 : ¬ 0 < w.asks.length := by
                have : ¬ (0 : Int) < ((aps.map V.ref).length : Int) := by simpa using ql
                rw [hll] at this
                omega
              refine ⟨_, rfl, rfl, _, rfl, iteF ?_⟩
              refine ⟨_, rfl, rfl, _, rfl, iteF ?_⟩
              refine ⟨_, rfl, rfl, _, rfl, iteF ?_⟩
              exact k1 (by rw [if_neg (fun z => z.elim (fun z => absurd z.1 (by decide)) (fun z => l0 z.2)), if_neg (fun z => absurd z.1 (by decide)), if_neg (fun z => absurd z.1 (by decide)), if_neg (by decide)]) _ s2
          · have xd : ¬ x = "deep" := by simpa using qd
            have nf : ¬ ((x = "call" ∧ w.asks.length < 60) ∨ (x = "deep" ∧ 0 < w.asks.length)) := fun z => z.elim (fun z => xc z.1) (fun z => xd z.1)
            simp only [if_neg nf] at k1 k2
            refine iteF ?_
            refine ⟨_, rfl, rfl, _, rfl, ?_⟩
            refine ite2 (fun qb => ?_) (fun qb => ?_)
            · have xb : x = "back" := by simpa using qb
              subst xb
              refine ⟨_, rfl, p, CW, d, _, _, rfl, fI s2, T.cl, T.nA, rfl, al, _, rfl, .inl (SqL.of hal), _, _, rfl, rfl, _, rfl, ?_⟩
              refine ite2 (fun ql => ?_) (fun ql => ?_)
              · have l0 : 0 < w.asks.length := by
                  have : (0 : Int) < ((aps.map V.ref).length : Int) := by simpa using ql
                  rw [hll] at this
                  omega
                obtain ⟨q, hq⟩ : ∃ q, w.asks.getLast? = some q := by
                  cases e : w.asks.getLast? with
                  | none => rw [List.getLast?_eq_none_iff] at e; rw [e] at l0; exact absurd l0 (by decide)
                  | some q => exact ⟨q, rfl⟩
                rw [List.getLast?_eq_getElem?] at hq
                obtain ⟨lp, hlp, hlp2⟩ := ha2.get hq
                have at1 : atI (aps.map V.ref) (-1) = some (.ref lp) := atI_end (by rw [List.getElem?_map, List.length_map, la, hlp]; rfl)
                have eg : w.asks.getLast?.getD (0, 0) = q := by rw [List.getLast?_eq_getElem?, hq]; rfl
                rw [eg] at k2
                refine ⟨_, rfl, p, CW, d, _, _, rfl, fI s2, T.cl, T.nA, rfl, _, rfl, al, _, -1, _, rfl, rfl, SqL.of hal, at1, lp, _, 0, _, rfl, rfl, SqT.of (s2 _ _ hlp2), rfl, ?_⟩
                refine ⟨_, rfl, _, rfl, _, rfl, (by show 3 ≤ sizeLine; decide), fun o3 n3 => ⟨(by show 3 ≤ sizeLine; decide), fun l nl => ?_⟩⟩
                have s3 := sadd (o := .tup [.int q.1, .int q.1, .non]) (Same.refl H2) n3
                have h3 : upd H2 o3 (.tup [.int q.1, .int q.1, .non]) o3 = some (.tup (fdV (q.1, q.1, none))) := upd_same
                have nl2 : H2 l = none := s3.free nl
                have s4 := sadd (o := .lst [.ref o1, .ref o3, .ref aN]) s3 nl
                have h34 : upd (upd H2 o3 (.tup [.int q.1, .int q.1, .non])) l (.lst [.ref o1, .ref o3, .ref aN]) o3 = some (.tup (fdV (q.1, q.1, none))) := (upd_ne (ne_of_none h3 nl)).trans h3
                exact k2 _ (if_pos ⟨rfl, l0⟩) l [o1, o3, aN] _ (s2.trans s4) (s2.free nl2) upd_same (.cons (SqT.of (s4 _ _ h1')) (.cons (SqT.of h34) (.cons (G.tN _) .nil)))
              · have l0 : ¬ 0 < w.asks.length := by
                  have : ¬ (0 : Int) < ((aps.map V.ref).length : Int) := by simpa using ql
                  rw [hll] at this
                  omega
                refine ⟨_, rfl, rfl, _, rfl, iteF ?_⟩
                refine ⟨_, rfl, rfl, _, rfl, iteF ?_⟩
                exact k1 (by rw [if_neg (fun z => l0 z.2), if_neg (fun z => absurd z.1 (by decide)), if_neg (by decide)]) _ s2
            · have xb : ¬ x = "back" := by simpa using qb
              have nb : ¬ (x = "back" ∧ 0 < w.asks.length) := fun z => xb z.1
              simp only [if_neg nb] at k1 k2
              refine ⟨_, rfl, rfl, _, rfl, ?_⟩
              refine ite2 (fun qe => ?_) (fun qe => ?_)
              · have xe : x = "done" := by simpa using qe
                subst xe
                refine ⟨_, rfl, p, CW, d, _, _, rfl, fI s2, T.cl, T.nA, rfl, al, _, rfl, .inl (SqL.of hal), rfl, _, rfl, ?_⟩
                refine ite2 (fun ql => ?_) (fun ql => ?_)
                · have l0 : w.asks.length = 0 := by
                    have : ((aps.map V.ref).length : Int) = 0 := by simpa using ql
                    rw [hll] at this
                    omega
                  refine ⟨(by show 1 ≤ sizeLine; decide), fun l nl => ?_⟩
                  have s3 := sadd (o := .lst [.ref aN]) (Same.refl H2) nl
                  exact k2 _ (if_pos ⟨rfl, l0⟩) l [aN] _ (s2.trans s3) (s2.free nl) upd_same (.cons (G.tN _) .nil)
                · have l0 : ¬ w.asks.length = 0 := by
                    have : ¬ ((aps.map V.ref).length : Int) = 0 := by simpa using ql
                    rw [hll] at this
                    omega
                  refine ⟨_, rfl, rfl, _, rfl, iteF ?_⟩
                  exact k1 (by rw [if_neg (fun z => l0 z.2), if_neg (by decide)]) _ s2
              · have xe : ¬ x = "done" := by simpa using qe
                have ne : ¬ (x = "done" ∧ w.asks.length = 0) := fun z => xe z.1
                simp only [if_neg ne] at k1 k2
                refine ⟨_, rfl, rfl, _, rfl, ?_⟩
                refine ite2 (fun qz => ?_) (fun qz => ?_)
                · have xz : x = "end" := by simpa using qz
                  refine ⟨_, rfl, (by show 1 ≤ sizeLine; decide), fun l nl => ?_⟩
                  have s3 := sadd (o := .lst [.ref o1]) (Same.refl H2) nl
                  exact k2 _ (if_pos xz) l [o1] _ (s2.trans s3) (s2.free nl) upd_same (.cons (SqT.of (s3 _ _ h1')) .nil)
                · have xz : ¬ x = "end" := by simpa using qz
                  exact k1 (if_neg xz) _ s2
end
end OH
end
section
set_option Elab.async false
set_option linter.all false
set_option maxRecDepth 100000
set_option maxHeartbeats 4000000
/-! RowWalk.can_follow. -/
namespace OH
open PySem PySem.Spec PyProof.Rows L2
/-- a whole number or a truth value compared with a truth value by `is` -/
theorem op_isB {X : Cx} : OpR X (compareOp .Is) (fun x y H Q => ∃ b : Bool, y = .bl b ∧ (((∃ i, x = .int i) ∧ Q (.bl false) H) ∨ ∃ c : Bool, x = .bl c ∧ Q (.bl (decide (c = b))) H)) := by
  intro pins s σ H x y v u Q I rx ry h
  obtain ⟨b, rfl, h⟩ := h
  rcases h with ⟨⟨i, rfl⟩, q⟩ | ⟨c, rfl, q⟩
  · obtain ⟨t, rfl⟩ := rx
    cases (show u = Value.bool b from ry)
    exact wpAny_is_other rfl (fun z => nomatch z) ⟨.bl false, H, I, rfl, q⟩
  · exact op_isBl pins s σ H _ _ v u Q I rx ry ⟨c, b, rfl, rfl, q⟩
def okF (f : Fd) (i : Int) : Bool := decide (f.1 ≤ i) && decide (i ≤ f.2.1) && !decide (f.2.2 = some i)
def canF (w : Wk) (x : Str) (is : List Int) : Bool :=
  match fld w x with
  | none => false
  | some fs => decide (is.length = fs.length) && (fs.zip is).all fun q => okF q.1 q.2
def spCan (CW : Addr) : Sp := fun vs H Q _ => ∃ (p d al c : Addr) (w : Wk) (x : Str) (is : List Int), vs = [.ref p, .ref c] ∧ WkAt CW H p d al w ∧ w.asks.length ≤ 1000000 ∧ H c = some (.tup (.str x :: is.map V.int)) ∧ is.length ≤ 1000 ∧ ∀ H', Same H H' → Q (.bl (canF w x is)) H'
section
variable {P : Program} {w : World} {K : PySem.W.Frag} {mg : Str → Option Value} {base : Heap} {CW aN aD : Addr}
abbrev nCan : List Str := ["self", "crossing", "told", "at", "low", "high", "other", "item"]
theorem sc_RowWalk_can_follow : FnScope nCan ["self", "crossing"] (defScope s_RowWalk_can_follow) := ⟨rfl, rfl, rfl, by decide +kernel, rfl, by decide +kernel, by decide +kernel⟩
theorem ok_RowWalk_can_follow {f : Addr} {fd : FuncData} (F : Fun K "can_follow" "RowWalk.can_follow" s_RowWalk_can_follow f fd) (T : Txt K mg) (TW : TxW K CW) (nEnum : mg "enumerate" = none)
    (DF : MetF P w K mg base CX0 1 CW "fields" ["self", "word"] (spFields K CW)) : FnOk P w K mg base CX0 2 f fd ["self", "crossing"] (spCan CW) := by
  refine F.ok sc_RowWalk_can_follow (fun vs H Q E h => ?_) (fun cdv A outer s H vs Q E hr h => ?_)
  · obtain ⟨p, d, al, c, w, x, is, rfl, _⟩ := h
    rfl
  · obtain ⟨p, d, al, c, w, x, is, rfl, W, hl, hc, hi, k⟩ := h
    have nd := sc_RowWalk_can_follow.nd
    refine ⟨_, pss_cons (ps_if (PW.pt (pw_or (pt_not (pt_val (pe_callB call_isi (by rfl) T.nIsi (by decide +kernel) (pa_cons (pv 1) (pa_cons (pe_bltn (v := .ty "tuple") (by rfl) T.nTuple (by decide +kernel) rfl) pa_nil))))) (pw_or1 (pt_cmpR op_eq (pe_callB call_len_seq (by rfl) T.nLen PySem.boot_len (pa_cons (pv 1) pa_nil)) pe_int (nomark _))))) (pss_one (ps_ret pe_bl)) pss_nil)
      (pss_cons (ps_set (i := 2) nd rfl (Or.inl rfl) (pe_mD (pv 0) TW.cl DF hr pass0 (pa_cons (pe_ix ix_tup (pv 1) pe_int (fun _ _ => rfl)) pa_nil)))
      (pss_cons (ps_if (PW.pt (pw_or (pt_cmpR op_isN (pv 2) pe_non (nomark _)) (pw_or1 (pt_cmpR op_ne (pe_callB call_len_seq (by rfl) T.nLen PySem.boot_len (pa_cons (pv 1) pa_nil)) (pe_op op_add pe_int (pe_callB call_len_seq (by rfl) T.nLen PySem.boot_len (pa_cons (pv 2) pa_nil))) (nomark _))))) (pss_one (ps_ret pe_bl)) pss_nil)
      (pss_cons (ps_for PassesOwn.never rfl (pi_enumO rfl nEnum (pa_cons (pv 2) (pa_cons pe_int pa_nil))) (pg_tup (by rfl) (pgs_cons (pg_name (i := 3) nd rfl (Or.inl rfl)) (pgs_cons (pg_tup (by rfl) (pgs_cons (pg_name (i := 4) nd rfl (Or.inl rfl)) (pgs_cons (pg_name (i := 5) nd rfl (Or.inl rfl)) (pgs_cons (pg_name (i := 6) nd rfl (Or.inl rfl)) pgs_nil)))) pgs_nil)))
        (pss_cons (ps_set (i := 7) nd rfl (Or.inl rfl) (pe_ix ix_tup (pv 1) (pv 3) (fun _ _ => rfl)))
      (pss_one (ps_if (PW.pt (pw_or (pt_not (pt_val (pe_callB call_isi (by rfl) T.nIsi (by decide +kernel) (pa_cons (pv 7) (pa_cons (pe_bltn (v := .ty "int") (by rfl) T.nInt (by decide +kernel) rfl) pa_nil))))) (pw_or (pt_cmpR op_isB (pv 7) pe_bl (nomark _)) (pw_or (pt_cmpR op_isB (pv 7) pe_bl (nomark _)) (pw_or (pt_not (pt_chain op_le op_le (pv 4) (pv 7) (pv 5))) (pw_or1 (pt_cmpR op_eq (pv 7) (pv 6) (nomark _)))))))) (pss_one (ps_ret pe_bl)) pss_nil))))
      (pss_one (ps_ret pe_bl))))), ?_⟩
    have hil : ((.str x :: is.map V.int : List V).length : Int) = (is.length : Int) + 1 := by
      rw [List.length_cons, List.length_map]
      omega
    refine ⟨_, rfl, _, _, _, _, _, rfl, .ty "tuple", .base (.tup hc), kit_ty (r := true) (by decide +kernel), _, rfl, iteF ?_⟩
    refine ⟨_, rfl, c, _, rfl, .inr (SqT.of hc), rfl, _, rfl, ?_⟩
    refine ite2 (fun q => ?_) (fun _ => ?_)
    · have : ((.str x :: is.map V.int : List V).length : Int) = 0 := by simpa using q
      omega
    refine ⟨_, rfl, p, d, _, rfl, W.hp, rfl, _, rfl, c, _, 0, _, rfl, rfl, SqT.of hc, atI_nat (j := 0) rfl, ?_⟩
    refine ⟨p, d, al, w, x, rfl, W, hl, fun hn H1 s1 => ?_, fun fs hf l ps H1 s1 nl hls hq => ?_⟩
    · refine ⟨_, rfl, rfl, _, rfl, iteT ?_⟩
      refine iteT ?_
      have e : canF w x is = false := by
        unfold canF
        rw [hn]
      have k1 := k H1 s1
      rw [e] at k1
      exact k1
    · have hlp : ps.length = fs.length := hq.len
      have hc1 := s1 _ _ hc
      refine ⟨_, rfl, rfl, _, rfl, iteF ?_⟩
      refine ⟨_, rfl, c, _, rfl, .inr (SqT.of hc1), _, rfl, l, _, rfl, .inl (SqL.of hls), _, _, rfl, rfl, rfl, _, rfl, ?_⟩
      have lps : (ps.map V.ref).length = fs.length := by rw [List.length_map, hlp]
      have ke : ∀ b, (decide (is.length = fs.length) && (fs.zip is).all fun q => okF q.1 q.2) = b → ∀ H', Same H H' → Q (.bl b) H' := fun b e H' s => by
        have k1 := k H' s
        unfold canF at k1
        rw [hf] at k1
        dsimp only at k1
        rw [e] at k1
        exact k1
      refine ite2 (fun q => ?_) (fun q => ?_)
      · have q' : ((.str x :: is.map V.int : List V).length : Int) ≠ 1 + ((ps.map V.ref).length : Int) := by simpa using q
        have ne : ¬ is.length = fs.length := by
          rw [lps] at q'
          omega
        refine ke false ?_ _ s1
        rw [decide_eq_false ne, Bool.false_and]
      · have q' : ((.str x :: is.map V.int : List V).length : Int) = 1 + ((ps.map V.ref).length : Int) := by simpa using q
        have el : is.length = fs.length := by
          rw [lps] at q'
          omega
        refine ⟨_, rfl, l, _, rfl, SqL.of hls, ?_⟩
        refine for_it (walk_enumO (K := K) (a := l) (xs := ps.map V.ref)) (fun i σ H' => ∃ o3 o4 o5 o6 o7 : Option V, σ = [some (.ref p), some (.ref c), some (.ref l), o3, o4, o5, o6, o7] ∧ Same H1 H' ∧ (((fs.zip is).take i).all fun q => okF q.1 q.2) = true)
          ⟨none, none, none, none, none, rfl, Same.refl H1, rfl⟩ (fun i σ H' _ ⟨_, _, _, _, _, _, s, _⟩ => SqL.of (s _ _ hls)) ?turn ?done
        case done =>
          rintro σ H2 ⟨o3, o4, o5, o6, o7, rfl, s2, hall⟩
          have lz : (fs.zip is).length = fs.length := by rw [List.length_zip, el, Nat.min_self]
          rw [lps, ← lz, List.take_length] at hall
          refine ke true ?_ _ (s1.trans s2)
          rw [hall, decide_eq_true el]
          rfl
        case turn =>
          rintro i y σ H2 H3 hi' ⟨o3, o4, o5, o6, o7, rfl, s2, hall⟩ ⟨tp, x0, y0, rfl, ntp, rfl, ex, ey⟩
          cases ex
          have hi2 : i < fs.length := by rw [← lps]; exact hi'
          obtain ⟨fp, hfp⟩ : ∃ fp, ps[i]? = some fp := ⟨_, List.getElem?_eq_getElem (by rw [hlp]; exact hi2)⟩
          have ey' : y0 = .ref fp := by
            have ey2 : (ps.map V.ref)[i]? = some y0 := ey
            rw [List.getElem?_map, hfp] at ey2
            exact (Option.some.inj ey2).symm
          subst ey'
          obtain ⟨f, hf2, hfq⟩ := hq.get hfp
          obtain ⟨z, hz⟩ : ∃ z, is[i]? = some z := ⟨_, List.getElem?_eq_getElem (by omega)⟩
          have hzip : (fs.zip is)[i]? = some (f, z) := by rw [List.getElem?_zip_eq_some]; exact ⟨hf2, hz⟩
          have s3 := sadd (o := .tup [.int ((i + 1 : Nat) : Int), .ref fp]) s2 ntp
          have htp : upd H2 tp (.tup [.int ((i + 1 : Nat) : Int), .ref fp]) tp = some (.tup [.int ((i + 1 : Nat) : Int), .ref fp]) := upd_same
          generalize upd H2 tp (.tup [.int ((i + 1 : Nat) : Int), .ref fp]) = H3 at s3 htp ⊢
          have bad : okF f z = false → Q (.bl false) H3 := fun e => by
            refine ke false ?_ _ (s1.trans s3)
            have : ((fs.zip is).all fun q => okF q.1 q.2) = false := List.all_eq_false.mpr ⟨(f, z), List.mem_of_getElem? hzip, by rw [e]; exact Bool.false_ne_true⟩
            rw [this, Bool.and_false]
          have good : okF f z = true → (((fs.zip is).take (i + 1)).all fun q => okF q.1 q.2) = true := fun e => by
            rw [List.take_add_one, hzip, List.all_append, hall]
            show (true && (okF f z && true)) = true
            rw [e]
            rfl
          have hfq3 := hfq.sm s3
          have hc3 := s3 _ _ hc1
          obtain ⟨lo, hi, ot⟩ := f
          refine ⟨tp, _, rfl, SqT.of htp, rfl, _, _, rfl, _, _, rfl, fp, _, rfl, hfq3, rfl, _, _, rfl, _, _, rfl, _, _, rfl, rfl, rfl, ?_⟩
          refine ⟨_, rfl, _, rfl, c, _, ((i + 1 : Nat) : Int), _, rfl, rfl, SqT.of hc3, atI_nat (j := i + 1) (v := .int z) (by rw [List.getElem?_cons_succ, List.getElem?_map, hz]; rfl), ?_⟩
          refine ⟨_, rfl, _, _, _, _, _, rfl, .ty "int", .base (.int z), kit_ty (r := true) (by decide +kernel), _, rfl, iteF ?_⟩
          refine ⟨_, rfl, true, rfl, .inl ⟨⟨z, rfl⟩, _, rfl, iteF ?_⟩⟩
          refine ⟨_, rfl, false, rfl, .inl ⟨⟨z, rfl⟩, _, rfl, iteF ?_⟩⟩
          refine ⟨_, rfl, _, rfl, _, _, rfl, rfl, _, rfl, ?_⟩
          refine ite2 (fun h1 => ?_) (fun h1 => ?_)
          · refine ⟨_, rfl, _, _, rfl, rfl, _, rfl, ?_⟩
            cases h2 : decide (z ≤ hi) with
            | false =>
              refine iteT (iteT (bad ?_))
              show (decide (lo ≤ z) && decide (z ≤ hi) && _) = false
              rw [h2, Bool.and_false, Bool.false_and]
            | true =>
              refine iteF ?_
              refine ⟨_, rfl, _, rfl, ?_⟩
              have sc : scal (V.int z) (optV ot) = true := by cases ot <;> rfl
              have eo : decide (V.int z = optV ot) = decide (ot = some z) := by
                cases ot with
                | none => rfl
                | some o =>
                  show decide (V.int z = V.int o) = _
                  by_cases e : o = z
                  · subst e
                    rw [decide_eq_true rfl, decide_eq_true rfl]
                  · rw [decide_eq_false (fun y => e (Option.some.inj y)), decide_eq_false (fun y => e (V.int.inj y).symm)]
              refine ⟨sc, _, rfl, ?_⟩
              rw [eo]
              have e0 : okF (lo, hi, ot) z = !decide (ot = some z) := by
                show (decide (lo ≤ z) && decide (z ≤ hi) && !decide (ot = some z)) = _
                rw [h1, h2]
                rfl
              refine ite2 (fun h3 => ?_) (fun h3 => ?_)
              · exact bad (by rw [e0, h3]; rfl)
              · exact ⟨_, _, _, _, _, rfl, s3, good (by rw [e0, Bool.eq_false_iff.mpr h3]; rfl)⟩
          · refine ⟨_, rfl, iteT (iteT (bad ?_))⟩
            show (decide (lo ≤ z) && decide (z ≤ hi) && _) = false
            rw [Bool.eq_false_iff.mpr h1, Bool.false_and, Bool.false_and]
end
end OH
end
section
set_option Elab.async false
set_option linter.all false
set_option maxRecDepth 100000
set_option maxHeartbeats 4000000
/-! RowWalk.take, good rows, rows walked. -/
namespace OH
open PySem PySem.Spec PyProof.Rows L2
def tk (w : Wk) : Crs → Wk
  | .start _ => { w with ins := some 0 }
  | .call a b _ _ => { w with asks := w.asks ++ [(a, b)], ins := some b }
  | .back _ b _ => { w with asks := w.asks.dropLast, ins := some b }
  | _ => { w with over := true }
def Crs.wd : Crs → Str
  | .start _ => "start"
  | .call .. => "call"
  | .back .. => "back"
  | .deep .. => "deep"
  | .done _ => "done"
  | .fin _ => "end"
def Crs.is : Crs → List Int
  | .start n => [n]
  | .call a b d n => [a, b, d, n]
  | .back a b n => [a, b, n]
  | .deep a b d n => [a, b, d, n]
  | .done n => [n]
  | .fin a => [a]
theorem Crs.vs_eq (x : Crs) : x.vs = .str x.wd :: x.is.map V.int := by cases x <;> rfl
def canC (w : Wk) (x : Crs) : Bool := canF w x.wd x.is
/-- a back takes an open ask -/
def tkOk (w : Wk) : Crs → Prop
  | .back .. => w.asks ≠ []
  | _ => True
def spTake (CW : Addr) : Sp := fun vs H Q _ => ∃ (p d al c : Addr) (w : Wk) (x : Crs), vs = [.ref p, .ref c] ∧ WkAt CW H p d al w ∧ p ≠ al ∧ w.asks.length ≤ 1000000 ∧ H c = some (.tup x.vs) ∧ tkOk w x ∧ ∀ H', WkAt CW H' p d al (tk w x) → Kept [p, al] H H' → Q .non H'
section
variable {P : Program} {w : World} {K : PySem.W.Frag} {mg : Str → Option Value} {base : Heap} {CW aN aD : Addr}
abbrev nTake : List Str := ["self", "crossing", "word"]
theorem sc_RowWalk_take : FnScope nTake ["self", "crossing"] (defScope s_RowWalk_take) := ⟨rfl, rfl, rfl, by decide +kernel, rfl, by decide +kernel, by decide +kernel⟩
theorem ok_RowWalk_take {f : Addr} {fd : FuncData} (F : Fun K "take" "RowWalk.take" s_RowWalk_take f fd) (TW : TxW K CW) : FnOk P w K mg base CX0 1 f fd ["self", "crossing"] (spTake CW) := by
  refine F.ok sc_RowWalk_take (fun vs H Q E h => ?_) (fun cdv A outer s H vs Q E hr h => ?_)
  · obtain ⟨p, d, al, c, w, x, rfl, _⟩ := h
    rfl
  · obtain ⟨p, d, al, c, w, x, rfl, W, npa, hl, hc, hb, k⟩ := h
    have nd := sc_RowWalk_take.nd
    refine ⟨_, pss_cons (ps_set (i := 2) nd rfl (Or.inl rfl) (pe_ix ix_tup (pv 1) pe_int (fun _ _ => rfl)))
      (pss_one (ps_if (pt_cmpR op_eq (pv 2) pe_str (nomark _)) (pss_one (ps_fld (pv 0) pe_int rfl)) (pss_one (ps_if (pt_cmpR op_eq (pv 2) pe_str (nomark _)) (pss_cons (ps_expr (pe_bm PySem.F.plainAttrs_list PySem.F.slot_list_append PySem.F.type_list_append mt_append (pe_fld (pv 0) rfl) (pa_cons (pe_tup (pa_cons (pe_ix ix_tup (pv 1) pe_int (fun _ _ => rfl)) (pa_cons (pe_ix ix_tup (pv 1) pe_int (fun _ _ => rfl)) pa_nil))) pa_nil)))
      (pss_one (ps_fld (pv 0) (pe_ix ix_tup (pv 1) pe_int (fun _ _ => rfl)) rfl))) (pss_one (ps_if (pt_cmpR op_eq (pv 2) pe_str (nomark _)) (pss_cons (ps_expr (pe_bm0 PySem.F.plainAttrs_list PySem.F.slot_list_pop PySem.F.type_list_pop mt_pop (pe_fld (pv 0) rfl)))
      (pss_one (ps_fld (pv 0) (pe_ix ix_tup (pv 1) pe_int (fun _ _ => rfl)) rfl))) (pss_one (ps_fld (pv 0) pe_bl rfl)))))))), ?_⟩
    obtain ⟨aps, ha, ha2⟩ := W.ha
    have la := ha2.len
    have kp : ∀ {H' : Hp}, Kept [p, al] H H' → ∀ q xs, H q = some (.tup xs) → H' q = some (.tup xs) := fun kk q xs e => kk _ _ e (fun z => by
      rcases List.mem_cons.mp z with z | z
      · rw [z, W.hp] at e; cases e
      · rw [List.mem_singleton.mp z, ha] at e; cases e)
    -- the instance alone changes
    have fin1 : ∀ (i : Option Int) (o : Bool), WkAt CW (upd H p (.ins CW d (wkf { w with ins := i, over := o } al))) p d al { w with ins := i, over := o } := fun i o =>
      ⟨upd_same, aps, (upd_ne npa.symm).trans ha, ha2.mono (kp (Kept.refl.upd (List.mem_cons_self ..)))⟩
    have k1 : ∀ o, Kept [p, al] H (upd H p o) := fun o => Kept.refl.upd (List.mem_cons_self ..)
    cases x with
    | start n =>
      refine ⟨_, rfl, c, _, 0, _, rfl, rfl, SqT.of hc, rfl, ?_⟩
      refine ⟨_, rfl, rfl, _, rfl, iteT ?_⟩
      refine ⟨_, rfl, p, CW, d, _, rfl, W.hp, TW.cl, TW.nI, (by show 3 < 1000; decide), ?_⟩
      exact k _ (fin1 (some 0) w.over) (k1 _)
    | deep a b e n =>
      refine ⟨_, rfl, c, _, 0, _, rfl, rfl, SqT.of hc, rfl, ?_⟩
      refine ⟨_, rfl, rfl, _, rfl, iteF ?_⟩
      refine ⟨_, rfl, rfl, _, rfl, iteF ?_⟩
      refine ⟨_, rfl, rfl, _, rfl, iteF ?_⟩
      refine ⟨_, rfl, p, CW, d, _, rfl, W.hp, TW.cl, TW.nO, (by show 3 < 1000; decide), ?_⟩
      exact k _ (fin1 w.ins true) (k1 _)
    | done n =>
      refine ⟨_, rfl, c, _, 0, _, rfl, rfl, SqT.of hc, rfl, ?_⟩
      refine ⟨_, rfl, rfl, _, rfl, iteF ?_⟩
      refine ⟨_, rfl, rfl, _, rfl, iteF ?_⟩
      refine ⟨_, rfl, rfl, _, rfl, iteF ?_⟩
      refine ⟨_, rfl, p, CW, d, _, rfl, W.hp, TW.cl, TW.nO, (by show 3 < 1000; decide), ?_⟩
      exact k _ (fin1 w.ins true) (k1 _)
    | fin a =>
      refine ⟨_, rfl, c, _, 0, _, rfl, rfl, SqT.of hc, rfl, ?_⟩
      refine ⟨_, rfl, rfl, _, rfl, iteF ?_⟩
      refine ⟨_, rfl, rfl, _, rfl, iteF ?_⟩
      refine ⟨_, rfl, rfl, _, rfl, iteF ?_⟩
      refine ⟨_, rfl, p, CW, d, _, rfl, W.hp, TW.cl, TW.nO, (by show 3 < 1000; decide), ?_⟩
      exact k _ (fin1 w.ins true) (k1 _)
    | call a b e n =>
      refine ⟨_, rfl, c, _, 0, _, rfl, rfl, SqT.of hc, rfl, ?_⟩
      refine ⟨_, rfl, rfl, _, rfl, iteF ?_⟩
      refine ⟨_, rfl, rfl, _, rfl, iteT ?_⟩
      refine ⟨_, rfl, p, CW, d, _, _, rfl, W.hp, TW.cl, TW.nA, rfl, .inl ⟨rfl, _, SqL.of ha⟩, ?_⟩
      refine ⟨_, rfl, c, _, 1, _, rfl, rfl, SqT.of hc, rfl, _, rfl, c, _, 2, _, rfl, rfl, SqT.of hc, rfl, (by show 2 ≤ sizeLine; decide), fun t nt => ?_⟩
      have s1 := sadd (o := .tup [.int a, .int b]) (Same.refl H) nt
      have ht : upd H t (.tup [.int a, .int b]) t = some (.tup (pairV (a, b))) := upd_same
      have na := s1 _ _ ha
      have kk1 : Kept [p, al] H (upd H t (.tup [.int a, .int b])) := Kept.refl.new nt
      have ha3 := ha2.mono (fun q xs e => s1 q _ e)
      refine ⟨al, _, _, rfl, rfl, na, (by rw [List.length_map, la, sizeLine_eq]; omega), ?_⟩
      have hp1 := s1 _ _ W.hp
      have hc1 := s1 _ _ hc
      generalize upd H t (.tup [.int a, .int b]) = H1 at s1 ht na kk1 ha3 hp1 hc1 ⊢
      have nca : c ≠ al := ne_of hc1 na (fun z => nomatch z)
      have hp2 : upd H1 al (.lst (aps.map V.ref ++ [.ref t])) p = some (.ins CW d (wkf w al)) := (upd_ne npa).trans hp1
      have hc2 : upd H1 al (.lst (aps.map V.ref ++ [.ref t])) c = some (.tup (Crs.call a b e n).vs) := (upd_ne nca).trans hc1
      have kk2 : Kept [p, al] H (upd H1 al (.lst (aps.map V.ref ++ [.ref t]))) := kk1.upd (List.mem_cons_of_mem _ (List.mem_singleton.mpr rfl))
      have ha4 : upd H1 al (.lst (aps.map V.ref ++ [.ref t])) al = some (.lst ((aps ++ [t]).map V.ref)) := by rw [upd_same, List.map_append]; rfl
      have tn : ∀ q xs, H1 q = some (.tup xs) → upd H1 al (.lst (aps.map V.ref ++ [.ref t])) q = some (.tup xs) := fun q xs e => (upd_ne (ne_of e na (fun z => nomatch z))).trans e
      have ha5 := AllAt.app (ha3.mono tn) (tn _ _ ht) (x := (a, b))
      generalize upd H1 al (.lst (aps.map V.ref ++ [.ref t])) = H2 at hp2 hc2 kk2 ha4 ha5 ⊢
      refine ⟨_, rfl, c, _, 2, _, rfl, rfl, SqT.of hc2, rfl, _, rfl, p, CW, d, _, rfl, hp2, TW.cl, TW.nI, (by show 3 < 1000; decide), ?_⟩
      refine k _ ⟨upd_same, aps ++ [t], (upd_ne npa.symm).trans ha4, ha5.mono fun q xs e => (upd_ne (ne_of e hp2 (fun z => nomatch z))).trans e⟩ (kk2.upd (List.mem_cons_self ..))
    | back a b n =>
      refine ⟨_, rfl, c, _, 0, _, rfl, rfl, SqT.of hc, rfl, ?_⟩
      refine ⟨_, rfl, rfl, _, rfl, iteF ?_⟩
      refine ⟨_, rfl, rfl, _, rfl, iteF ?_⟩
      refine ⟨_, rfl, rfl, _, rfl, iteT ?_⟩
      have hne : w.asks ≠ [] := hb
      have l0 : 0 < w.asks.length := List.length_pos_iff.mpr hne
      obtain ⟨lp, hlp⟩ : ∃ lp, aps[aps.length - 1]? = some lp := ⟨_, List.getElem?_eq_getElem (by omega)⟩
      refine ⟨_, rfl, p, CW, d, _, _, rfl, W.hp, TW.cl, TW.nA, rfl, .inl ⟨rfl, _, SqL.of ha⟩, al, _, .ref lp, rfl, rfl, ha, (by rw [List.length_map, List.getElem?_map, hlp]; rfl), ?_⟩
      have ed : (aps.map V.ref).dropLast = aps.dropLast.map V.ref := List.map_dropLast.symm
      rw [ed]
      have hp2 : upd H al (.lst (aps.dropLast.map V.ref)) p = some (.ins CW d (wkf w al)) := (upd_ne npa).trans W.hp
      have nca : c ≠ al := ne_of hc ha (fun z => nomatch z)
      have hc2 : upd H al (.lst (aps.dropLast.map V.ref)) c = some (.tup (Crs.back a b n).vs) := (upd_ne nca).trans hc
      have kk2 : Kept [p, al] H (upd H al (.lst (aps.dropLast.map V.ref))) := Kept.refl.upd (List.mem_cons_of_mem _ (List.mem_singleton.mpr rfl))
      have ha4 : upd H al (.lst (aps.dropLast.map V.ref)) al = some (.lst (aps.dropLast.map V.ref)) := upd_same
      have ha5 := (ha2.mono (kp kk2)).pop
      generalize upd H al (.lst (aps.dropLast.map V.ref)) = H2 at hp2 hc2 kk2 ha4 ha5 ⊢
      refine ⟨_, rfl, c, _, 2, _, rfl, rfl, SqT.of hc2, rfl, _, rfl, p, CW, d, _, rfl, hp2, TW.cl, TW.nI, (by show 3 < 1000; decide), ?_⟩
      refine k _ ⟨upd_same, aps.dropLast, (upd_ne npa.symm).trans ha4, ha5.mono fun q xs e => (upd_ne (ne_of e hp2 (fun z => nomatch z))).trans e⟩ (kk2.upd (List.mem_cons_self ..))
end
end OH
end
section
set_option Elab.async false
set_option linter.all false
set_option maxRecDepth 100000
set_option maxHeartbeats 4000000
/-! Good rows, rows walked. -/
namespace OH
open PySem PySem.Spec PyProof.Rows L2
theorem Crs.is_le (x : Crs) : x.is.length ≤ 1000 := by
  cases x <;> (show _ ≤ _; simp [Crs.is])
def w0 : Wk := ⟨none, [], false⟩
def goodGo (w : Wk) : List Crs → Bool
  | [] => true
  | x :: xs => canC w x && goodGo (tk w x) xs
def goodB (cs : List Crs) : Bool := !cs.isEmpty && goodGo w0 cs
def wk (w : Wk) (cs : List Crs) : Wk := cs.foldl tk w
theorem canC_back {w : Wk} {x : Crs} (h : canC w x = true) : tkOk w x := by
  cases x with
  | back a b n =>
    intro e
    unfold canC canF at h
    have hf : fld w "back" = none := by
      unfold fld
      split
      · rfl
      · split
        · rw [if_neg (by decide)]
        · rw [if_neg (fun z => z.elim (fun z => absurd z.1 (by decide)) (fun z => absurd z.1 (by decide))), if_neg (fun z => by rw [e] at z; exact absurd z.2 (by decide)), if_neg (fun z => absurd z.1 (by decide)), if_neg (by decide)]
    rw [show Crs.wd (.back a b n) = "back" from rfl, hf] at h
    cases h
  | _ => trivial
theorem tk_len (w : Wk) (x : Crs) : (tk w x).asks.length ≤ w.asks.length + 1 := by
  cases x with
  | call a b d n => show (w.asks ++ [(a, b)]).length ≤ _; rw [List.length_append]; exact Nat.le_refl _
  | back a b n => show (w.asks.dropLast).length ≤ _; rw [List.length_dropLast]; omega
  | _ => exact Nat.le_succ _
theorem wk_len : ∀ (cs : List Crs) (w : Wk), (wk w cs).asks.length ≤ w.asks.length + cs.length
  | [], w => Nat.le_refl _
  | x :: xs, w => by
    have h1 := wk_len xs (tk w x)
    have h2 := tk_len w x
    show (wk (tk w x) xs).asks.length ≤ _
    rw [List.length_cons]
    omega
theorem wk_snoc (w : Wk) (cs : List Crs) (x : Crs) : wk w (cs ++ [x]) = tk (wk w cs) x := by
  unfold wk
  rw [List.foldl_append]
  rfl
theorem goodGo_app : ∀ (xs ys : List Crs) (w : Wk), goodGo w (xs ++ ys) = (goodGo w xs && goodGo (wk w xs) ys)
  | [], ys, w => rfl
  | x :: xs, ys, w => by
    show (canC w x && goodGo (tk w x) (xs ++ ys)) = ((canC w x && goodGo (tk w x) xs) && goodGo (wk (tk w x) xs) ys)
    rw [goodGo_app xs ys, Bool.and_assoc]
def RwAt (H : Hp) (l : Addr) (cs : List Crs) : Prop := ∃ ps : List Addr, H l = some (.lst (ps.map V.ref)) ∧ AllAt H Crs.vs ps cs
theorem RwAt.same {H H' : Hp} {l : Addr} {cs : List Crs} (h : RwAt H l cs) (s : Same H H') : RwAt H' l cs := by
  obtain ⟨ps, h1, h2⟩ := h
  exact ⟨ps, s _ _ h1, h2.mono fun q xs e => s _ _ e⟩
/-- new objects alone have changed -/
theorem Same.kept {H H1 H2 : Hp} {S : List Addr} (s : Same H H1) (k : Kept S H1 H2) (f : ∀ q ∈ S, H q = none) : Same H H2 := fun q o e => k _ _ (s _ _ e) (fun z => by rw [f q z] at e; cases e)
def spGoodR : Sp := fun vs H Q _ => ∃ (l : Addr) (cs : List Crs), vs = [.ref l] ∧ RwAt H l cs ∧ cs.length ≤ 1000 ∧ ∀ H', Same H H' → Q (.bl (goodB cs)) H'
def spNeedRow : Sp := fun vs H Q _ => ∃ (l : Addr) (cs : List Crs), vs = [.ref l] ∧ RwAt H l cs ∧ cs.length ≤ 1000 ∧ goodB cs = true ∧ ∀ H', Same H H' → Q .non H'
def spWalked (CW : Addr) : Sp := fun vs H Q _ => ∃ (l : Addr) (cs : List Crs), vs = [.ref l] ∧ RwAt H l cs ∧ cs.length ≤ 1000 ∧ goodB cs = true ∧ ∀ p d al H', Same H H' → H p = none → H al = none → p ≠ al → WkAt CW H' p d al (wk w0 cs) → Q (.ref p) H'
def spControl : Sp := fun vs H Q _ => ∃ (l : Addr) (cs : List Crs), vs = [.ref l] ∧ RwAt H l cs ∧ cs.length ≤ 1000 ∧ goodB cs = true ∧ ∀ H', Same H H' → Q (if (wk w0 cs).over = true then .non else optV (wk w0 cs).ins) H'
def spOpen : Sp := fun vs H Q _ => ∃ (l : Addr) (cs : List Crs), vs = [.ref l] ∧ RwAt H l cs ∧ cs.length ≤ 1000 ∧ goodB cs = true ∧ ∀ al ps H', Same H H' → H al = none → H' al = some (.lst (ps.map V.ref)) → AllAt H' pairV ps (wk w0 cs).asks → Q (.ref al) H'
section
variable {X : Cx} {CX : CXT} {k : Nat} {C : Addr} {sp : Sp} {E : XK} {x : Str} {p pos : Pos}
theorem pe_kD0 (D : MakF X.prog X.w X.K X.mg X.base CX k x C ["self"] sp) (hr : Room (k + 1) X.A) (hg : Gl X x) (hx : Passes CX X E) (hdb : (x == ("__debug__" : Str)) = false := by decide) : PE X (.Call (.Name x p) [] [] pos) (tMake C sp [] E tNil) := by
  obtain ⟨f, fd, F, h1, h2, h3⟩ := D
  exact pe_make0 h1 F hr hg h2 h3 .nil hx hdb
end
section
variable {P : Program} {w : World} {K : PySem.W.Frag} {mg : Str → Option Value} {base : Heap} {CW aN aD : Addr}
theorem sc_good_row : FnScope ["value", "walk", "crossing"] ["value"] (defScope s_good_row) := ⟨rfl, rfl, rfl, by decide +kernel, rfl, by decide +kernel, by decide +kernel⟩
theorem ok_good_row {f : Addr} {fd : FuncData} (F : Fun K "good_row" "good_row" s_good_row f fd) (T : Txt K mg) (TW : TxW K CW)
    (DK : MakF P w K mg base CX0 2 "RowWalk" CW ["self"] (spKInit CW)) (DC : MetF P w K mg base CX0 3 CW "can_follow" ["self", "crossing"] (spCan CW)) (DT : MetF P w K mg base CX0 3 CW "take" ["self", "crossing"] (spTake CW)) :
    FnOk P w K mg base CX0 4 f fd ["value"] spGoodR := by
  refine F.ok sc_good_row (fun vs H Q E h => ?_) (fun cdv A outer s H vs Q E hr h => ?_)
  · obtain ⟨l, cs, rfl, _⟩ := h
    rfl
  · obtain ⟨l, cs, rfl, hl, hn, k⟩ := h
    have nd := sc_good_row.nd
    refine ⟨_, pss_cons (ps_if (PW.pt (pw_or (pt_not (pt_val (pe_callB call_isiT (by rfl) T.nIsi (by decide +kernel) (pa_cons (pv 0) (pa_cons (pe_tup (pa_cons (pe_bltn (v := .ty "list") (by rfl) T.nList (by decide +kernel) rfl) (pa_cons (pe_bltn (v := .ty "tuple") (by rfl) T.nTuple (by decide +kernel) rfl) pa_nil))) pa_nil))))) (pw_or1 (pt_cmpR op_eq (pe_callB call_len_seq (by rfl) T.nLen PySem.boot_len (pa_cons (pv 0) pa_nil)) pe_int (nomark _))))) (pss_one (ps_ret pe_bl)) pss_nil)
      (pss_cons (ps_set (i := 1) nd rfl (Or.inl rfl) (pe_kD0 DK hr rfl pass0))
      (pss_cons (ps_for PassesOwn.never rfl (pi_list (pv 0)) (pg_name (i := 2) nd rfl (Or.inl rfl))
        (pss_cons (ps_if (pt_not (pt_val (pe_mD (pv 1) TW.cl DC hr pass0 (pa_cons (pv 2) pa_nil)))) (pss_one (ps_ret pe_bl)) pss_nil)
      (pss_one (ps_expr (pe_mD (pv 1) TW.cl DT hr pass0 (pa_cons (pv 2) pa_nil))))))
      (pss_one (ps_ret pe_bl)))), ?_⟩
    obtain ⟨ps, h1, h2⟩ := hl
    have lp := h2.len
    refine ⟨_, rfl, (by show 2 ≤ sizeLine; decide), fun tp ntp => ?_⟩
    have s1 := sadd (o := .tup [.ty "list", .ty "tuple"]) (Same.refl H) ntp
    have htp : upd H tp (.tup [.ty "list", .ty "tuple"]) tp = some (.tup [.ty "list", .ty "tuple"]) := upd_same
    generalize upd H tp (.tup [.ty "list", .ty "tuple"]) = H1 at s1 htp ⊢
    have hl1 := s1 _ _ h1
    refine ⟨_, tp, _, _, _, _, rfl, htp, .cons (.ty _) (.cons (.ty _) .nil), .base (.lst hl1), kitAny_cons (kit_ty (r := true) (by decide +kernel)) (fun z => nomatch z) (fun _ => rfl), _, rfl, iteF ?_⟩
    refine ⟨_, rfl, l, _, rfl, .inl (SqL.of hl1), rfl, _, rfl, ?_⟩
    refine ite2 (fun q => ?_) (fun q => ?_)
    · have e0 : ((ps.map V.ref).length : Int) = 0 := by simpa using q
      have e : cs = [] := by
        rw [List.length_map, lp] at e0
        exact List.length_eq_zero_iff.mp (by omega)
      subst e
      exact k H1 s1
    · have e0 : ¬ ((ps.map V.ref).length : Int) = 0 := by simpa using q
      have ne : goodB cs = goodGo w0 cs := by
        unfold goodB
        cases cs with
        | nil => rw [List.length_map, lp] at e0; exact absurd rfl e0
        | cons _ _ => rfl
      rw [ne] at k
      intro p d np ndx npd
      have s2 := sadd (o := .ins CW d []) (sadd (o := .own p) (Same.refl H1) ndx) (by rw [upd_ne npd.symm]; exact np)
      have hp2 : upd (upd H1 d (.own p)) p (.ins CW d []) p = some (.ins CW d []) := upd_same
      have npH : H p = none := s1.free np
      generalize upd (upd H1 d (.own p)) p (.ins CW d []) = H2 at s2 hp2 ⊢
      refine ⟨p, d, rfl, hp2, fun al H3 nal alp W k3 => ⟨rfl, ?_⟩⟩
      have s12 := s1.trans s2
      have nalH : H al = none := s12.free nal
      have f2 : ∀ q ∈ [p], H q = none := fun q hq => by rw [List.mem_singleton.mp hq]; exact npH
      have f3 : ∀ q ∈ [p, al], H q = none := fun q hq => by
        rcases List.mem_cons.mp hq with z | z
        · rw [z]; exact npH
        · rw [List.mem_singleton.mp z]; exact nalH
      have s3 : Same H H3 := Same.kept s12 k3 f2
      refine ⟨_, rfl, l, rfl, ⟨_, SqL.of (s3 _ _ h1)⟩, ?_⟩
      refine for_list (xs := ps.map V.ref) (fun i σ H' => ∃ o : Option V, σ = [some (.ref l), some (.ref p), o] ∧ Same H H' ∧ WkAt CW H' p d al (wk w0 (cs.take i)) ∧ goodGo w0 (cs.take i) = true) ⟨none, rfl, s3, W, rfl⟩ (fun i σ H' _ ⟨o, _, s, _⟩ => SqL.of (s _ _ h1)) ?turn ?done
      case done =>
        rintro σ H4 ⟨o, rfl, s4, W4, g4⟩
        have e : cs.take (ps.map V.ref).length = cs := by rw [List.length_map, lp]; exact List.take_length
        rw [e] at g4
        have k4 := k H4 s4
        rw [g4] at k4
        exact k4
      case turn =>
        rintro i y σ H4 hy ⟨o, rfl, s4, W4, g4⟩
        rw [List.getElem?_map] at hy
        obtain ⟨c, hc, rfl⟩ := Option.map_eq_some_iff.mp hy
        have hi : i < cs.length := by rw [← lp]; exact (List.getElem?_eq_some_iff.mp hc).1
        obtain ⟨x, hx⟩ : ∃ x, cs[i]? = some x := ⟨_, List.getElem?_eq_getElem hi⟩
        obtain ⟨c', hc', hcx⟩ := h2.get hx
        rw [hc] at hc'
        cases hc'
        have hc4 := s4 _ _ hcx
        have tki : cs.take (i + 1) = cs.take i ++ [x] := by rw [List.take_add_one, hx]; rfl
        have lw : (wk w0 (cs.take i)).asks.length ≤ 1000000 := by
          have := wk_len (cs.take i) w0
          rw [List.length_take] at this
          have e0 : w0.asks.length = 0 := rfl
          omega
        refine ⟨_, rfl, p, d, _, rfl, W4.hp, rfl, _, rfl, ?_⟩
        refine ⟨p, d, al, c, _, x.wd, x.is, rfl, W4, lw, by rw [← Crs.vs_eq]; exact hc4, x.is_le, fun H5 s5 => ?_⟩
        have W5 : WkAt CW H5 p d al (wk w0 (cs.take i)) := ⟨s5 _ _ W4.hp, by obtain ⟨as, a1, a2⟩ := W4.ha; exact ⟨as, s5 _ _ a1, a2.mono fun q xs e => s5 _ _ e⟩⟩
        refine ⟨_, rfl, ?_⟩
        have ce : canF (wk w0 (cs.take i)) x.wd x.is = canC (wk w0 (cs.take i)) x := rfl
        rw [ce]
        cases hcan : canC (wk w0 (cs.take i)) x with
        | false =>
          refine iteT ?_
          have eg : goodGo w0 cs = false := by
            have e1 : cs = cs.take i ++ cs.drop i := (List.take_append_drop i cs).symm
            have e2 : cs.drop i = x :: cs.drop (i + 1) := by
              have := List.getElem?_eq_some_iff.mp hx
              rw [List.drop_eq_getElem_cons hi, this.2]
            rw [e1, goodGo_app, e2, g4]
            show (true && (canC (wk w0 (cs.take i)) x && _)) = false
            rw [hcan]
            rfl
          have k5 := k H5 (s4.trans s5)
          rw [eg] at k5
          exact k5
        | true =>
          refine iteF ?_
          refine ⟨_, rfl, p, d, _, rfl, W5.hp, rfl, _, rfl, ?_⟩
          refine ⟨p, d, al, c, _, x, rfl, W5, alp.symm, lw, s5 _ _ hc4, canC_back hcan, fun H6 W6 k6 => ?_⟩
          refine ⟨some (.ref c), rfl, Same.kept (s4.trans s5) k6 f3, ?_, ?_⟩
          · rw [tki, wk_snoc]
            exact W6
          · rw [tki, goodGo_app, g4]
            show (true && (canC (wk w0 (cs.take i)) x && true)) = true
            rw [hcan]
            rfl
theorem sc_walked : FnScope ["row", "walk", "crossing"] ["row"] (defScope s_walked) := ⟨rfl, rfl, rfl, by decide +kernel, rfl, by decide +kernel, by decide +kernel⟩
theorem ok_walked {f : Addr} {fd : FuncData} (F : Fun K "walked" "walked" s_walked f fd) (TW : TxW K CW)
    (DK : MakF P w K mg base CX0 2 "RowWalk" CW ["self"] (spKInit CW)) (DT : MetF P w K mg base CX0 3 CW "take" ["self", "crossing"] (spTake CW)) :
    FnOk P w K mg base CX0 4 f fd ["row"] (spWalked CW) := by
  refine F.ok sc_walked (fun vs H Q E h => ?_) (fun cdv A outer s H vs Q E hr h => ?_)
  · obtain ⟨l, cs, rfl, _⟩ := h
    rfl
  · obtain ⟨l, cs, rfl, hl, hn, hg, k⟩ := h
    have nd := sc_walked.nd
    refine ⟨_, pss_cons (ps_set (i := 1) nd rfl (Or.inl rfl) (pe_kD0 DK hr rfl pass0))
      (pss_cons (ps_for PassesOwn.never rfl (pi_list (pv 0)) (pg_name (i := 2) nd rfl (Or.inl rfl))
        (pss_one (ps_expr (pe_mD (pv 1) TW.cl DT hr pass0 (pa_cons (pv 2) pa_nil)))))
      (pss_one (ps_ret (pv 1)))), ?_⟩
    obtain ⟨ps, h1, h2⟩ := hl
    have lp := h2.len
    have hgo : goodGo w0 cs = true := by
      unfold goodB at hg
      exact (Bool.and_eq_true_iff.mp hg).2
    intro p d np ndx npd
    have s2 := sadd (o := .ins CW d []) (sadd (o := .own p) (Same.refl H) ndx) (by rw [upd_ne npd.symm]; exact np)
    have hp2 : upd (upd H d (.own p)) p (.ins CW d []) p = some (.ins CW d []) := upd_same
    generalize upd (upd H d (.own p)) p (.ins CW d []) = H2 at s2 hp2 ⊢
    refine ⟨p, d, rfl, hp2, fun al H3 nal alp W k3 => ⟨rfl, ?_⟩⟩
    have nalH : H al = none := s2.free nal
    have f2 : ∀ q ∈ [p], H q = none := fun q hq => by rw [List.mem_singleton.mp hq]; exact np
    have f3 : ∀ q ∈ [p, al], H q = none := fun q hq => by
      rcases List.mem_cons.mp hq with z | z
      · rw [z]; exact np
      · rw [List.mem_singleton.mp z]; exact nalH
    have s3 : Same H H3 := Same.kept s2 k3 f2
    refine ⟨_, rfl, l, rfl, ⟨_, SqL.of (s3 _ _ h1)⟩, ?_⟩
    refine for_list (xs := ps.map V.ref) (fun i σ H' => ∃ o : Option V, σ = [some (.ref l), some (.ref p), o] ∧ Same H H' ∧ WkAt CW H' p d al (wk w0 (cs.take i))) ⟨none, rfl, s3, W⟩ (fun i σ H' _ ⟨o, _, s, _⟩ => SqL.of (s _ _ h1)) ?turn ?done
    case done =>
      rintro σ H4 ⟨o, rfl, s4, W4⟩
      have e : cs.take (ps.map V.ref).length = cs := by rw [List.length_map, lp]; exact List.take_length
      rw [e] at W4
      exact ⟨_, rfl, k p d al H4 s4 np nalH alp.symm W4⟩
    case turn =>
      rintro i y σ H4 hy ⟨o, rfl, s4, W4⟩
      rw [List.getElem?_map] at hy
      obtain ⟨c, hc, rfl⟩ := Option.map_eq_some_iff.mp hy
      have hi : i < cs.length := by rw [← lp]; exact (List.getElem?_eq_some_iff.mp hc).1
      obtain ⟨x, hx⟩ : ∃ x, cs[i]? = some x := ⟨_, List.getElem?_eq_getElem hi⟩
      obtain ⟨c', hc', hcx⟩ := h2.get hx
      rw [hc] at hc'
      cases hc'
      have hc4 := s4 _ _ hcx
      have tki : cs.take (i + 1) = cs.take i ++ [x] := by rw [List.take_add_one, hx]; rfl
      have lw : (wk w0 (cs.take i)).asks.length ≤ 1000000 := by
        have := wk_len (cs.take i) w0
        rw [List.length_take] at this
        have e0 : w0.asks.length = 0 := rfl
        omega
      have hcan : canC (wk w0 (cs.take i)) x = true := by
        have e1 : cs = cs.take i ++ cs.drop i := (List.take_append_drop i cs).symm
        have e2 : cs.drop i = x :: cs.drop (i + 1) := by
          have := List.getElem?_eq_some_iff.mp hx
          rw [List.drop_eq_getElem_cons hi, this.2]
        rw [e1, goodGo_app, e2] at hgo
        have h3 := (Bool.and_eq_true_iff.mp hgo).2
        exact (Bool.and_eq_true_iff.mp h3).1
      refine ⟨_, rfl, p, d, _, rfl, W4.hp, rfl, _, rfl, ?_⟩
      refine ⟨p, d, al, c, _, x, rfl, W4, alp.symm, lw, hc4, canC_back hcan, fun H6 W6 k6 => ?_⟩
      refine ⟨some (.ref c), rfl, Same.kept s4 k6 f3, ?_⟩
      rw [tki, wk_snoc]
      exact W6
theorem sc_is_row : FnScope ["value"] ["value"] (defScope s_is_row) := ⟨rfl, rfl, rfl, by decide +kernel, rfl, by decide +kernel, by decide +kernel⟩
theorem ok_is_row {f : Addr} {fd : FuncData} (F : Fun K "is_row" "is_row" s_is_row f fd) (DG : DefF P w K mg base CX0 4 "good_row" ["value"] spGoodR) : FnOk P w K mg base CX0 5 f fd ["value"] spGoodR := by
  refine F.ok sc_is_row (fun vs H Q E h => ?_) (fun cdv A outer s H vs Q E hr h => ?_)
  · obtain ⟨l, cs, rfl, _⟩ := h
    rfl
  · obtain ⟨l, cs, rfl, hl, hn, k⟩ := h
    refine ⟨_, pss_one (ps_ret (pe_cD DG hr rfl pass0 (pa_cons (pv 0) pa_nil))), ?_⟩
    exact ⟨_, rfl, l, cs, rfl, hl, hn, k⟩
theorem sc_need_row : FnScope ["row"] ["row"] (defScope s_need_row) := ⟨rfl, rfl, rfl, by decide +kernel, rfl, by decide +kernel, by decide +kernel⟩
theorem ok_need_row {f : Addr} {fd : FuncData} (F : Fun K "need_row" "need_row" s_need_row f fd) (DG : DefF P w K mg base CX0 4 "good_row" ["value"] spGoodR) : FnOk P w K mg base CX0 5 f fd ["row"] spNeedRow := by
  refine F.ok sc_need_row (fun vs H Q E h => ?_) (fun cdv A outer s H vs Q E hr h => ?_)
  · obtain ⟨l, cs, rfl, _⟩ := h
    rfl
  · obtain ⟨l, cs, rfl, hl, hn, hg, k⟩ := h
    refine ⟨_, pss_one (ps_if (pt_not (pt_val (pe_cD DG hr rfl pass0 (pa_cons (pv 0) pa_nil)))) (pss_one ps_never) pss_nil), ?_⟩
    refine ⟨_, rfl, l, cs, rfl, hl, hn, fun H1 s1 => ?_⟩
    rw [hg]
    exact ⟨_, rfl, iteF (k H1 s1)⟩
theorem sc_control_of : FnScope ["row", "walk"] ["row"] (defScope s_control_of) := ⟨rfl, rfl, rfl, by decide +kernel, rfl, by decide +kernel, by decide +kernel⟩
theorem ok_control_of {f : Addr} {fd : FuncData} (F : Fun K "control_of" "control_of" s_control_of f fd) (TW : TxW K CW) (DN : DefF P w K mg base CX0 5 "need_row" ["row"] spNeedRow) (DW : DefF P w K mg base CX0 5 "walked" ["row"] (spWalked CW)) :
    FnOk P w K mg base CX0 6 f fd ["row"] spControl := by
  refine F.ok sc_control_of (fun vs H Q E h => ?_) (fun cdv A outer s H vs Q E hr h => ?_)
  · obtain ⟨l, cs, rfl, _⟩ := h
    rfl
  · obtain ⟨l, cs, rfl, hl, hn, hg, k⟩ := h
    have nd := sc_control_of.nd
    refine ⟨_, pss_cons (ps_expr (pe_cD DN hr rfl pass0 (pa_cons (pv 0) pa_nil)))
      (pss_cons (ps_set (i := 1) nd rfl (Or.inl rfl) (pe_cD DW hr rfl pass0 (pa_cons (pv 0) pa_nil)))
      (pss_one (ps_ret (pe_ifExp (pt_val (pe_fld (pv 1) rfl)) pe_non (pe_fld (pv 1) rfl))))), ?_⟩
    refine ⟨_, rfl, l, cs, rfl, hl, hn, hg, fun H1 s1 => ?_⟩
    refine ⟨_, rfl, l, cs, rfl, hl.same s1, hn, hg, fun p d al H2 s2 np nal npa W => ?_⟩
    refine ⟨_, rfl, p, CW, d, _, _, rfl, W.hp, TW.cl, TW.nO, rfl, _, rfl, ?_⟩
    have k1 := k H2 (s1.trans s2)
    cases ho : (wk w0 cs).over with
    | true =>
      rw [ho, if_pos rfl] at k1
      exact iteT k1
    | false =>
      rw [ho, if_neg Bool.false_ne_true] at k1
      exact iteF ⟨_, rfl, p, CW, d, _, _, rfl, W.hp, TW.cl, TW.nI, rfl, k1⟩
theorem sc_open_of : FnScope ["row"] ["row"] (defScope s_open_of) := ⟨rfl, rfl, rfl, by decide +kernel, rfl, by decide +kernel, by decide +kernel⟩
theorem ok_open_of {f : Addr} {fd : FuncData} (F : Fun K "open_of" "open_of" s_open_of f fd) (TW : TxW K CW) (DN : DefF P w K mg base CX0 5 "need_row" ["row"] spNeedRow) (DW : DefF P w K mg base CX0 5 "walked" ["row"] (spWalked CW)) :
    FnOk P w K mg base CX0 6 f fd ["row"] spOpen := by
  refine F.ok sc_open_of (fun vs H Q E h => ?_) (fun cdv A outer s H vs Q E hr h => ?_)
  · obtain ⟨l, cs, rfl, _⟩ := h
    rfl
  · obtain ⟨l, cs, rfl, hl, hn, hg, k⟩ := h
    refine ⟨_, pss_cons (ps_expr (pe_cD DN hr rfl pass0 (pa_cons (pv 0) pa_nil)))
      (pss_one (ps_ret (pe_fld (pe_cD DW hr rfl pass0 (pa_cons (pv 0) pa_nil)) rfl))), ?_⟩
    refine ⟨_, rfl, l, cs, rfl, hl, hn, hg, fun H1 s1 => ?_⟩
    refine ⟨_, rfl, l, cs, rfl, hl.same s1, hn, hg, fun p d al H2 s2 np nal npa W => ?_⟩
    obtain ⟨ps, h1, h2⟩ := W.ha
    exact ⟨p, CW, d, _, _, rfl, W.hp, TW.cl, TW.nA, rfl, k al ps H2 (s1.trans s2) (s1.free nal) h1 h2⟩
end
end OH
end
section
set_option Elab.async false
set_option linter.all false
set_option maxRecDepth 100000
set_option maxHeartbeats 1000000
/-! Rows of a face are good rows. -/
namespace OH
open PySem PySem.Spec PyProof.Rows L2
structure WR (s : Rs) (w : Wk) : Prop where
  as : w.asks = s.2
  st : s.1 = none → w.over = true
  ru : ∀ c, s.1 = some c → w.over = false ∧ w.ins = some c
theorem okF_num {n : Int} (h : Num n) : okF numF n = true := by
  obtain ⟨h0, h9⟩ := h
  show (decide ((0 : Int) ≤ n) && decide (n ≤ 9999) && !decide ((none : Option Int) = some n)) = true
  rw [decide_eq_true h0, decide_eq_true h9]
  rfl
theorem okF_own (r : Int) : okF (r, r, none) r = true := by
  show (decide (r ≤ r) && decide (r ≤ r) && !decide ((none : Option Int) = some r)) = true
  rw [decide_eq_true (Int.le_refl r)]
  rfl
theorem okF_asked {r b : Int} (b0 : 0 ≤ b) (b5 : b ≤ 5) (ne : b ≠ r) : okF (0, 5, some r) b = true := by
  show (decide ((0 : Int) ≤ b) && decide (b ≤ 5) && !decide (some r = some b)) = true
  rw [decide_eq_true b0, decide_eq_true b5, decide_eq_false (fun z => ne (Option.some.inj z).symm)]
  rfl
theorem okF_dor {d : Int} (d0 : 0 ≤ d) (d5 : d ≤ 5) : okF dorF d = true := by
  show (decide ((0 : Int) ≤ d) && decide (d ≤ 5) && !decide ((none : Option Int) = some d)) = true
  rw [decide_eq_true d0, decide_eq_true d5]
  rfl
theorem canF_of {w : Wk} {x : Str} {is : List Int} {fs : List Fd} (h : fld w x = some fs) (hl : is.length = fs.length) (ha : ((fs.zip is).all fun q => okF q.1 q.2) = true) : canF w x is = true := by
  unfold canF
  rw [h]
  show (decide (is.length = fs.length) && (fs.zip is).all fun q => okF q.1 q.2) = true
  rw [decide_eq_true hl, ha]
  rfl
theorem wire_rng {F : Fc} (hF : F.Ok) {c : Int} (c0 : 0 ≤ c) (c1 : c < (F.R : Int)) {b d : Int} (h : (b, d) ∈ F.ws c.toNat) : 0 ≤ b ∧ b ≤ 5 ∧ b < (F.R : Int) ∧ b ≠ c ∧ 0 ≤ d ∧ d ≤ 5 := by
  obtain ⟨w1, w2, w3, w4, w5⟩ := (hF.wi c.toNat (by omega)).2.2 _ h
  have w1' : 0 ≤ b := w1
  have w2' : b < (F.R : Int) := w2
  have w3' : b ≠ (c.toNat : Int) := w3
  have w4' : 0 ≤ d := w4
  have w5' : d < F.dor.getD b.toNat 0 := w5
  have h6 := hF.m6
  have d6 : F.dor.getD b.toNat 0 ≤ 6 := by
    rw [List.getD_eq_getElem?_getD, List.getElem?_eq_getElem (show b.toNat < F.dor.length by show b.toNat < F.R; omega)]
    exact (hF.dz _ (List.getElem_mem _)).2
  exact ⟨w1', by omega, w2', by omega, w4', by omega⟩
theorem WR.step {F : Fc} (hF : F.Ok) {s : Rs} {w : Wk} (hs : SOk F s) (hw : WR s w) {c : Int} (hc : s.1 = some c) {x : Crs} (hx : Nx F c s.2 x) : canC w x = true ∧ WR (bh s x) (tk w x) := by
  have ch := hs.ctl hc
  obtain ⟨c0, c1⟩ := ch.rng hF
  obtain ⟨ho, hi⟩ := hw.ru c hc
  have fl : ∀ x : Str, fld w x = if (x = "call" ∧ w.asks.length < 60) ∨ (x = "deep" ∧ 0 < w.asks.length) then some [(c, c, none), (0, 5, some c), dorF, numF]
    else if x = "back" ∧ 0 < w.asks.length then some [(c, c, none), ((w.asks.getLast?.getD (0, 0)).1, (w.asks.getLast?.getD (0, 0)).1, none), numF]
    else if x = "done" ∧ w.asks.length = 0 then some [numF]
    else if x = "end" then some [(c, c, none)] else none := fun x => by
    unfold fld
    rw [ho, hi]
    rfl
  have hle := hs.le
  have d60 := hF.d60
  have d1 := hF.d1
  have ea := hw.as
  cases x with
  | start n => exact hx.elim
  | call a b d n =>
    obtain ⟨e, hb, hl, hn⟩ := hx
    subst e
    obtain ⟨b0, b5, _, nb, e0, e5⟩ := wire_rng hF c0 c1 hb
    refine ⟨canF_of (fs := [(a, a, none), (0, 5, some a), dorF, numF]) ?_ rfl ?_, ?_, fun z => ?_, fun c' z => ?_⟩
    · rw [fl, if_pos (.inl ⟨rfl, by rw [ea]; omega⟩)]
    · show (okF (a, a, none) a && (okF (0, 5, some a) b && (okF dorF d && (okF numF n && true)))) = true
      rw [okF_own, okF_asked b0 b5 nb, okF_dor e0 e5, okF_num hn]
      rfl
    · show w.asks ++ [(a, b)] = s.2 ++ [(a, b)]
      rw [ea]
    · cases z
    · cases z
      exact ⟨ho, rfl⟩
  | deep a b d n =>
    obtain ⟨e, hb, hl, hn⟩ := hx
    subst e
    obtain ⟨b0, b5, _, nb, e0, e5⟩ := wire_rng hF c0 c1 hb
    refine ⟨canF_of (fs := [(a, a, none), (0, 5, some a), dorF, numF]) ?_ rfl ?_, ea, fun _ => rfl, fun c' z => by cases z⟩
    · rw [fl, if_pos (.inr ⟨rfl, by rw [ea]; omega⟩)]
    · show (okF (a, a, none) a && (okF (0, 5, some a) b && (okF dorF d && (okF numF n && true)))) = true
      rw [okF_own, okF_asked b0 b5 nb, okF_dor e0 e5, okF_num hn]
      rfl
  | back a b n =>
    obtain ⟨e, ⟨q, hq, hb⟩, hn⟩ := hx
    subst e
    have l0 : 0 < w.asks.length := by
      rw [ea]
      cases h : s.2 with
      | nil => rw [h] at hq; cases hq
      | cons _ _ => exact Nat.succ_pos _
    refine ⟨canF_of (fs := [(a, a, none), (b, b, none), numF]) ?_ rfl ?_, ?_, fun z => ?_, fun c' z => ?_⟩
    · show fld w "back" = _
      rw [fl, if_neg (fun z => z.elim (fun z => absurd z.1 (by decide)) (fun z => absurd z.1 (by decide))), if_pos ⟨rfl, l0⟩, ea, hq]
      show some [(a, a, none), (q.1, q.1, none), numF] = _
      rw [← hb]
    · show (okF (a, a, none) a && (okF (b, b, none) b && (okF numF n && true))) = true
      rw [okF_own, okF_own, okF_num hn]
      rfl
    · show w.asks.dropLast = s.2.dropLast
      rw [ea]
    · cases z
    · cases z
      exact ⟨ho, rfl⟩
  | done n =>
    obtain ⟨e, hn⟩ := hx
    refine ⟨canF_of (fs := [numF]) ?_ rfl ?_, ea, fun _ => rfl, fun c' z => by cases z⟩
    · show fld w "done" = _
      rw [fl, if_neg (fun z => z.elim (fun z => absurd z.1 (by decide)) (fun z => absurd z.1 (by decide))), if_neg (fun z => absurd z.1 (by decide)), if_pos ⟨rfl, by rw [ea, e]; rfl⟩]
    · show (okF numF n && true) = true
      rw [okF_num hn]
      rfl
  | fin a =>
    have e : a = c := hx
    subst e
    refine ⟨canF_of (fs := [(a, a, none)]) ?_ rfl ?_, ea, fun _ => rfl, fun c' z => by cases z⟩
    · show fld w "end" = _
      rw [fl, if_neg (fun z => z.elim (fun z => absurd z.1 (by decide)) (fun z => absurd z.1 (by decide))), if_neg (fun z => absurd z.1 (by decide)), if_neg (fun z => absurd z.1 (by decide)), if_pos rfl]
    · show (okF (a, a, none) a && true) = true
      rw [okF_own]
      rfl
theorem VRr.good {F : Fc} (hF : F.Ok) : ∀ {xs : List Crs} {s : Rs} {w : Wk}, SOk F s → WR s w → VRr F s xs → goodGo w xs = true ∧ WR (stt s xs) (wk w xs)
  | [], _, _, _, hw, _ => ⟨rfl, hw⟩
  | x :: xs, s, w, hs, hw, ⟨⟨c, hc, hx⟩, hr⟩ => by
    obtain ⟨h1, h2⟩ := hw.step hF hs hc hx
    obtain ⟨h3, h4⟩ := VRr.good (xs := xs) (s := bh s x) (w := tk w x) hF (hs.step hF hc hx) h2 hr
    refine ⟨?_, h4⟩
    show (canC w x && goodGo (tk w x) xs) = true
    rw [h1, h3]
    rfl
theorem VR.good {F : Fc} (hF : F.Ok) {cs : List Crs} (h : VR F cs) : goodB cs = true ∧ WR (stt (none, []) cs) (wk w0 cs) := by
  obtain ⟨n, xs, rfl, hn, hr⟩ := h
  have hw : WR (some 0, []) (tk w0 (.start n)) := ⟨rfl, (fun z => nomatch z), (fun c z => by injection z with z; subst z; exact ⟨rfl, rfl⟩)⟩
  obtain ⟨h1, h2⟩ := VRr.good (xs := xs) hF (SOk.init hF) hw hr
  refine ⟨?_, h2⟩
  show (true && (canC w0 (.start n) && goodGo (tk w0 (.start n)) xs)) = true
  have e : canC w0 (.start n) = true := canF_of (fs := [numF]) rfl rfl (by show (okF numF n && true) = true; rw [okF_num hn]; rfl)
  rw [e, h1]
  rfl
/-- what comes behind the begin of a row is no row -/
theorem VR.tail_bad {F : Fc} {cs : List Crs} (h : VR F cs) : goodB cs.tail = false := by
  obtain ⟨n, xs, rfl, hn, hr⟩ := h
  show goodB xs = false
  cases xs with
  | nil => rfl
  | cons x xs =>
    obtain ⟨⟨c, hc, hx⟩, _⟩ := hr
    show (true && (canC w0 x && _)) = false
    have e : canC w0 x = false := by
      cases x with
      | start n => exact hx.elim
      | call a b d n => rfl
      | back a b n => rfl
      | deep a b d n => rfl
      | done n => rfl
      | fin a => rfl
    rw [e]
    rfl
end OH
end
section
set_option Elab.async false
set_option linter.all false
set_option maxRecDepth 100000
set_option maxHeartbeats 8000000
/-! Good faces. -/
namespace OH
open PySem PySem.Spec PyProof.Rows L2
structure FcAt (H : Hp) (a : Addr) (F : Fc) : Prop where
  ex : ∃ (wt dt : Addr) (wps : List Addr), H a = some (.tup [.int F.dep, .ref wt, .ref dt]) ∧ H wt = some (.tup (wps.map V.ref)) ∧ H dt = some (.tup (F.dor.map V.int)) ∧ wps.length = F.R ∧
    ∀ (i : Nat) (q : Addr), wps[i]? = some q → ∃ ps : List Addr, H q = some (.tup (ps.map V.ref)) ∧ PairsAt H ps (F.ws i)
  ok : F.Ok
theorem FcAt.mono {H H' : Hp} {a : Addr} {F : Fc} (h : FcAt H a F) (s : ∀ q xs, H q = some (.tup xs) → H' q = some (.tup xs)) : FcAt H' a F := by
  obtain ⟨⟨wt, dt, wps, h1, h2, h3, h4, h5⟩, ok⟩ := h
  refine ⟨⟨wt, dt, wps, s _ _ h1, s _ _ h2, s _ _ h3, h4, fun i q e => ?_⟩, ok⟩
  obtain ⟨ps, p1, p2⟩ := h5 i q e
  exact ⟨ps, s _ _ p1, p2.mono fun _ _ z => s _ _ z⟩
theorem FcAt.same {H H' : Hp} {a : Addr} {F : Fc} (h : FcAt H a F) (s : Same H H') : FcAt H' a F := h.mono fun q xs e => s _ _ e
def spGoodF : Sp := fun vs H Q _ => ∃ (a : Addr) (F : Fc), vs = [.ref a] ∧ FcAt H a F ∧ ∀ H', Same H H' → Q (.bl true) H'
def spNeedF : Sp := fun vs H Q _ => ∃ (a : Addr) (F : Fc), vs = [.ref a] ∧ FcAt H a F ∧ ∀ H', Same H H' → Q .non H'
theorem all_trueR (n : Nat) : (List.replicate n true).all id = true := by
  rw [List.all_eq_true]
  intro y hy
  rw [List.eq_of_mem_replicate hy]
  rfl
section
variable {P : Program} {w : World} {K : PySem.W.Frag} {mg : Str → Option Value} {base : Heap}
abbrev nGF : List Str := ["value", "wires", "doors", "many", "room", "one"]
theorem sc_good_face : FnScope nGF ["value"] (defScope s_good_face) := ⟨rfl, rfl, rfl, by decide +kernel, rfl, by decide +kernel, by decide +kernel⟩
theorem ok_good_face {f : Addr} {fd : FuncData} (F : Fun K "good_face" "good_face" s_good_face f fd) (T : Txt K mg) (T3 : Txt3 mg) (gD : ∃ t, mg "MOST_DOORS" = some (.int 6 t)) (nEnum : mg "enumerate" = none)
    (DT : DefF P w K mg base CX0 3 "is_tuple" ["value", "least", "most"] spTuple) (DW : DefF P w K mg base CX0 3 "is_whole" ["value", "low", "high"] spWhole) (DA : DefF P w K mg base CX0 3 "are_wires" ["value", "own", "doors"] spWires) :
    FnOk P w K mg base CX0 4 f fd ["value"] spGoodF := by
  refine F.ok sc_good_face (fun vs H Q E h => ?_) (fun cdv A outer s H vs Q E hr h => ?_)
  · obtain ⟨a, F, rfl, _⟩ := h
    rfl
  · obtain ⟨a, F, rfl, hb, k⟩ := h
    have nd := sc_good_face.nd
    obtain ⟨t60, g60⟩ := T3.gOpen
    obtain ⟨t6, g6⟩ := T3.gRooms
    obtain ⟨tD, gD⟩ := gD
    refine ⟨_, pss_cons (ps_if (PW.pt (pw_or (pt_not (pt_val (pe_cD DT hr rfl pass0 (pa_cons (pv 0) (pa_cons pe_int (pa_cons pe_int pa_nil)))))) (pw_or1 (pt_not (pt_val (pe_cD DW hr rfl pass0 (pa_cons (pe_ix ix_tup (pv 0) pe_int (fun _ _ => rfl)) (pa_cons pe_int (pa_cons (pe_glob (v := .int 60) rfl g60 ⟨t60, rfl⟩) pa_nil))))))))) (pss_one (ps_ret pe_bl)) pss_nil)
      (pss_cons (ps_asg (pe_tup (pa_cons (pe_ix ix_tup (pv 0) pe_int (fun _ _ => rfl)) (pa_cons (pe_ix ix_tup (pv 0) pe_int (fun _ _ => rfl)) pa_nil))) (pg_tup (by rfl) (pgs_cons (pg_name (i := 1) nd rfl (Or.inl rfl)) (pgs_cons (pg_name (i := 2) nd rfl (Or.inr rfl)) pgs_nil))))
      (pss_cons (ps_if (PW.pt (pw_or (pt_not (pt_val (pe_cD DT hr rfl pass0 (pa_cons (pv 2) (pa_cons pe_int (pa_cons (pe_glob (v := .int 6) rfl g6 ⟨t6, rfl⟩) pa_nil)))))) (pw_or1 (pt_not (pt_val (pe_cD DT hr rfl pass0 (pa_cons (pv 1) (pa_cons (pe_callB call_len_seq (by rfl) T.nLen PySem.boot_len (pa_cons (pv 2) pa_nil)) (pa_cons (pe_callB call_len_seq (by rfl) T.nLen PySem.boot_len (pa_cons (pv 2) pa_nil)) pa_nil))))))))) (pss_one (ps_ret pe_bl)) pss_nil)
      (pss_cons (ps_if (pt_not (pt_val (pe_callB (cr_all rfl) (by rfl) T.nAll (by decide +kernel) (pa_cons (pe_lc (own := [("many", 3)]) (g := gName 3) (tt := tYes)  rfl nd (pi_tup (pv 2)) (blkOk_by (own := [("many", 3)]) (N := nGF) (sc := defScope s_good_face) (by decide +kernel)) (fun _ _ _ _ _ => (pg_name (i := 3) nd rfl (Or.inl rfl))) (fun _ _ _ _ _ => pts_nil) (fun _ _ _ _ _ => (pe_cD DW hr rfl pass0 (pa_cons (pv 3) (pa_cons pe_int (pa_cons (pe_glob (v := .int 6) rfl gD ⟨tD, rfl⟩) pa_nil)))))) pa_nil)))) (pss_one (ps_ret pe_bl)) pss_nil)
      (pss_one (ps_ret (pe_callB (cr_all rfl) (by rfl) T.nAll (by decide +kernel) (pa_cons (pe_lc (own := [("room", 4), ("one", 5)]) (g := gTup K 2 (gCons (gName 4) (gCons (gName 5) gNil))) (tt := tYes) rfl nd (pi_enumT rfl nEnum (pa_cons (pv 1) pa_nil)) (blkOk_by (own := [("room", 4), ("one", 5)]) (N := nGF) (sc := defScope s_good_face) (by decide +kernel)) (fun _ _ _ _ _ => pg_tup rfl (pgs_cons (pg_name (i := 4) nd rfl (Or.inl rfl)) (pgs_cons (pg_name (i := 5) nd rfl (Or.inl rfl)) pgs_nil))) (fun _ _ _ _ _ => pts_nil) (fun _ _ _ _ _ => (pe_cD DA hr rfl pass0 (pa_cons (pv 5) (pa_cons (pv 4) (pa_cons (pv 2) pa_nil)))))) pa_nil))))))), ?_⟩
    have hF := hb.ok
    obtain ⟨wt, dt, wps, b1, b2, b3, b4, b5⟩ := hb.ex
    have lwp : (wps.map V.ref).length = F.R := by rw [List.length_map, b4]
    have ldr : (F.dor.map V.int).length = F.R := List.length_map ..
    have m1 := hF.m1
    have m6 := hF.m6
    refine ⟨_, rfl, .ref a, 3, 3, rfl, .inl ⟨_, b1⟩, _, rfl, ?_⟩
    rw [isT_of b1 (Int.le_refl 3) (Int.le_refl 3)]
    refine iteF ?_
    refine ⟨_, rfl, a, _, 0, _, rfl, rfl, SqT.of b1, rfl, ?_⟩
    refine ⟨.int F.dep, 1, 60, rfl, trivial, _, rfl, ?_⟩
    rw [isW_in hF.d1 hF.d60]
    refine iteF ?_
    refine ⟨_, rfl, a, _, 1, _, rfl, rfl, SqT.of b1, rfl, _, rfl, a, _, 2, _, rfl, rfl, SqT.of b1, rfl, (by show 2 ≤ sizeLine; decide), fun t0 n0 => ?_⟩
    have s0 := sadd (o := .tup [.ref wt, .ref dt]) (Same.refl H) n0
    have h0 : upd H t0 (.tup [.ref wt, .ref dt]) t0 = some (.tup [.ref wt, .ref dt]) := upd_same
    have c2 := s0 _ _ b2
    have c3 := s0 _ _ b3
    generalize upd H t0 (.tup [.ref wt, .ref dt]) = H0 at s0 h0 c2 c3 ⊢
    refine ⟨t0, _, rfl, SqT.of h0, rfl, _, _, rfl, _, _, rfl, rfl, ?_⟩
    refine ⟨_, rfl, .ref dt, 1, 6, rfl, .inl ⟨_, c3⟩, _, rfl, ?_⟩
    rw [isT_of c3 (by rw [ldr]; omega) (by rw [ldr]; omega)]
    refine iteF ?_
    refine ⟨_, rfl, _, rfl, dt, _, rfl, .inr (SqT.of c3), _, rfl, dt, _, rfl, .inr (SqT.of c3), ?_⟩
    refine ⟨.ref wt, _, _, rfl, .inl ⟨_, c2⟩, _, rfl, ?_⟩
    rw [isT_of c2 (by rw [lwp, ldr]; omega) (by rw [lwp, ldr]; omega)]
    refine iteF ?_
    -- the doors
    refine ⟨_, rfl, dt, rfl, ⟨_, SqT.of c3⟩, fun D nD => ?_⟩
    refine lc_tup (K := K) (a := dt) (xs := F.dor.map V.int) (fun i H' => Same H0 H' ∧ H' D = some (.lst ((List.replicate i true).map V.bl))) ⟨sadd (Same.refl H0) nD, upd_same⟩ (fun i H' _ ⟨s, _⟩ => SqT.of (s _ _ c3)) ?turn ?done
    case turn =>
      rintro i x H4 hx ⟨s4, hD⟩
      rw [List.getElem?_map] at hx
      obtain ⟨z, hz0, rfl⟩ := Option.map_eq_some_iff.mp hx
      have hi : i < F.dor.length := (List.getElem?_eq_some_iff.mp hz0).1
      obtain ⟨z0, z9⟩ := hF.dz z (List.mem_of_getElem? hz0)
      refine ⟨rfl, ?_⟩
      unfold tYes
      refine iteT ?_
      refine ⟨_, rfl, .int z, 1, 6, rfl, trivial, ?_⟩
      rw [isW_in z0 z9]
      refine ⟨_, hD, ?_, sout s4 nD, ?_⟩
      · rw [List.length_map, List.length_replicate, sizeLine_eq]
        have : F.dor.length = F.R := rfl
        omega
      · rw [upd_same, List.replicate_succ', List.map_append]
        rfl
    case done =>
      rintro H4 ⟨s4, hD⟩
      refine ⟨D, _, rfl, SqL.of hD, ?_⟩
      rw [all_trueR]
      refine ⟨_, rfl, iteF ?_⟩
      -- the wires
      have e2 := s4 _ _ c2
      have e3 := s4 _ _ c3
      have sH := s0.trans s4
      refine ⟨_, rfl, wt, _, rfl, SqT.of e2, fun D2 nD2 => ?_⟩
      refine lc_it walk_enumT (fun i H' => Same H4 H' ∧ H' D2 = some (.lst ((List.replicate i true).map V.bl))) ⟨sadd (Same.refl H4) nD2, upd_same⟩ (fun i H' _ ⟨s, _⟩ => SqT.of (s _ _ e2)) ?hs ?hd
      case hs =>
        rintro i x H5 H6 hi ⟨s5, hD5⟩ ⟨tp, x0, y0, rfl, ntp, rfl, ex, ey⟩
        cases ex
        obtain ⟨wp, hwp⟩ : ∃ wp, wps[i]? = some wp := ⟨_, List.getElem?_eq_getElem (by rw [b4, ← lwp]; exact hi)⟩
        have ey' : y0 = .ref wp := by
          have ey2 : (wps.map V.ref)[i]? = some y0 := ey
          rw [List.getElem?_map, hwp] at ey2
          exact (Option.some.inj ey2).symm
        subst ey'
        have hiR : i < F.R := by rw [← lwp]; exact hi
        have s6 := sadd (o := .tup [.int (i : Int), .ref wp]) s5 ntp
        have htp : upd H5 tp (.tup [.int (i : Int), .ref wp]) tp = some (.tup [.int (i : Int), .ref wp]) := upd_same
        have nDt : D2 ≠ tp := ne_of_none hD5 ntp
        have hD6 : upd H5 tp (.tup [.int (i : Int), .ref wp]) D2 = some (.lst ((List.replicate i true).map V.bl)) := (upd_ne nDt).trans hD5
        generalize upd H5 tp (.tup [.int (i : Int), .ref wp]) = H6 at s6 htp hD6 ⊢
        refine ⟨tp, _, rfl, SqT.of htp, rfl, _, _, rfl, _, _, rfl, rfl, rfl, ?_⟩
        unfold tYes
        refine iteT ?_
        obtain ⟨ps, p1, p2⟩ := b5 i wp hwp
        obtain ⟨w8, wn, wr⟩ := hF.wi i hiR
        have up : ∀ {q : Addr} {xs : List V}, H q = some (.tup xs) → H6 q = some (.tup xs) := fun e => s6 _ _ (sH _ _ e)
        refine ⟨_, rfl, _, rfl, _, rfl, ?_⟩
        refine ⟨wp, dt, (i : Int), ps, F.ws i, F.dor, rfl, up p1, p2.mono (fun q xs e => up e), w8, wn, up b3, ?_⟩
        refine ⟨fun p hp => ?_, ⟨_, hD6, ?_, sout s6 nD2, ?_⟩⟩
        · obtain ⟨a1, a2, a3, a4, a5⟩ := wr p hp
          exact ⟨a1, a2, a3, a4, a5⟩
        · rw [List.length_map, List.length_replicate, sizeLine_eq]
          omega
        · rw [upd_same, List.replicate_succ', List.map_append]
          rfl
      case hd =>
        rintro H5 ⟨s5, hD5⟩
        refine ⟨D2, _, rfl, SqL.of hD5, ?_⟩
        rw [all_trueR]
        exact k H5 (sH.trans s5)
theorem sc_need_face : FnScope ["face"] ["face"] (defScope s_need_face) := ⟨rfl, rfl, rfl, by decide +kernel, rfl, by decide +kernel, by decide +kernel⟩
theorem ok_need_face {f : Addr} {fd : FuncData} (F : Fun K "need_face" "need_face" s_need_face f fd) (DG : DefF P w K mg base CX0 4 "good_face" ["value"] spGoodF) : FnOk P w K mg base CX0 5 f fd ["face"] spNeedF := by
  refine F.ok sc_need_face (fun vs H Q E h => ?_) (fun cdv A outer s H vs Q E hr h => ?_)
  · obtain ⟨a, F, rfl, _⟩ := h
    rfl
  · obtain ⟨a, F, rfl, hb, k⟩ := h
    refine ⟨_, pss_one (ps_if (pt_not (pt_val (pe_cD DG hr rfl pass0 (pa_cons (pv 0) pa_nil)))) (pss_one ps_never) pss_nil), ?_⟩
    exact ⟨_, rfl, a, F, rfl, hb, fun H1 s1 => ⟨_, rfl, iteF (k H1 s1)⟩⟩
end
end OH
end
section
set_option Elab.async false
set_option linter.all false
set_option maxRecDepth 100000
set_option maxHeartbeats 8000000
/-! What the law asks of a crossing. -/
namespace OH
open PySem PySem.Spec PyProof.Rows L2
theorem op_notInDT {X : Cx} (hu : X.A.units + 65 < cLine) : OpR X (compareOp .NotIn) (fun x y H Q => ∃ d ds, Dp X.K H x d ∧ Dp X.K H y (.tuple ds) ∧ SeqAt.shaped d = true ∧ SeqAt.shaped (.list ds) = true ∧ Q (.bl (!ds.any fun z => PyData.eqv z d)) H) := by
  intro pins s σ H x y v u Q I rx ry h
  obtain ⟨d, ds, hd, he, sd, se, q⟩ := h
  obtain ⟨as, r1⟩ := Dp.reads I d x v hd rx
  obtain ⟨bs, r2⟩ := Dp.reads I (.tuple ds) y u he ry
  exact SeqAt.notIn_tuple_reads r2 r1 (SeqAt.canLay_of_shaped se) (SeqAt.canLay_of_shaped sd) (room_in_shaped sd hu) ⟨.bl (!ds.any fun y => y.eqv d), H, I, rfl, q⟩
end OH
end
section
set_option Elab.async false
set_option linter.all false
set_option maxRecDepth 100000
set_option maxHeartbeats 8000000
/-! Rows that fit. -/
namespace OH
open PySem PySem.Spec PyProof.Rows L2
theorem VRr.at {F : Fc} (hF : F.Ok) : ∀ {xs : List Crs} {s : Rs} {j : Nat}, SOk F s → VRr F s xs → j < xs.length → ∃ c x, xs[j]? = some x ∧ (stt s (xs.take j)).1 = some c ∧ Nx F c (stt s (xs.take j)).2 x ∧ SOk F (stt s (xs.take j))
  | [], _, j, _, _, h => absurd h (Nat.not_lt_zero j)
  | x :: xs, s, 0, hs, ⟨⟨c, hc, hx⟩, _⟩, _ => ⟨c, x, rfl, hc, hx, hs⟩
  | x :: xs, s, j + 1, hs, ⟨⟨c, hc, hx⟩, hr⟩, h => VRr.at (xs := xs) (s := bh s x) (j := j) hF (hs.step hF hc hx) hr (Nat.lt_of_succ_lt_succ h)
theorem VR.at {F : Fc} (hF : F.Ok) {cs : List Crs} (h : VR F cs) {i : Nat} (hi : i < cs.length) : (i = 0 ∧ ∃ n, cs[i]? = some (.start n) ∧ Num n) ∨
    (∃ c x, cs[i]? = some x ∧ (stt (none, []) (cs.take i)).1 = some c ∧ Nx F c (stt (none, []) (cs.take i)).2 x ∧ SOk F (stt (none, []) (cs.take i))) := by
  obtain ⟨n, xs, rfl, hn, hr⟩ := h
  cases i with
  | zero => exact .inl ⟨rfl, n, rfl, hn⟩
  | succ j => exact .inr (VRr.at (xs := xs) (s := (some 0, [])) (j := j) hF (SOk.init hF) hr (Nat.lt_of_succ_lt_succ hi))
def spFits : Sp := fun vs H Q _ => ∃ (l a : Addr) (F : Fc) (cs : List Crs), vs = [.ref l, .ref a] ∧ RwAt H l cs ∧ FcAt H a F ∧ VR F cs ∧ cs.length ≤ 1000 ∧ ∀ H', Same H H' → Q (.bl true) H'
section
variable {P : Program} {w : World} {K : PySem.W.Frag} {mg : Str → Option Value} {base : Heap}
abbrev nFits : List Str := ["row", "face", "depth", "wires", "_", "many", "crossing", "word"]
theorem sc_fits_in : FnScope nFits ["row", "face"] (defScope s_fits_in) := ⟨rfl, rfl, rfl, by decide +kernel, rfl, by decide +kernel, by decide +kernel⟩
theorem ok_fits_in {f : Addr} {fd : FuncData} (F : Fun K "fits_in" "fits_in" s_fits_in f fd) : FnOk P w K mg base CX0 1 f fd ["row", "face"] spFits := by
  refine F.ok sc_fits_in (fun vs H Q E h => ?_) (fun cdv A outer s H vs Q E hr h => ?_)
  · obtain ⟨l, a, F, cs, rfl, _⟩ := h
    rfl
  · obtain ⟨l, a, F, cs, rfl, hl, hf, hv, hn, k⟩ := h
    have nd := sc_fits_in.nd
    refine ⟨_, pss_cons (ps_asg (pv 1) (pg_tup (by rfl) (pgs_cons (pg_name (i := 2) nd rfl (Or.inl rfl)) (pgs_cons (pg_name (i := 3) nd rfl (Or.inl rfl)) (pgs_cons (pg_name (i := 4) nd rfl (Or.inl rfl)) pgs_nil)))))
      (pss_cons (ps_set (i := 5) nd rfl (Or.inl rfl) pe_int)
      (pss_cons (ps_for PassesOwn.never rfl (pi_list (pv 0)) (pg_name (i := 6) nd rfl (Or.inl rfl))
        (pss_cons (ps_set (i := 7) nd rfl (Or.inl rfl) (pe_ix ix_tup (pv 6) pe_int (fun _ _ => rfl)))
      (pss_one (ps_if (PW.pt (pw_or (pt_cmpR op_eq (pv 7) pe_str (nomark _)) (pw_or1 (pt_cmpR op_eq (pv 7) pe_str (nomark _))))) (pss_cons (ps_if (PW.pt (pw_or (pt_cmpR (op_notInDT (Room_u65 hr)) (pe_tup (pa_cons (pe_ix ix_tup (pv 6) pe_int (fun _ _ => rfl)) (pa_cons (pe_ix ix_tup (pv 6) pe_int (fun _ _ => rfl)) pa_nil))) (pe_ix ix_tup (pv 3) (pe_ix ix_tup (pv 6) pe_int (fun _ _ => rfl)) (fun _ _ => rfl)) (by rfl)) (pw_or1 (pt_cmpR op_ne (pe_cmpR op_eq (pv 5) (pv 2) (nomark _)) (pe_cmpR op_eq (pv 7) pe_str (nomark _)) (nomark _))))) (pss_one (ps_ret pe_bl)) pss_nil)
      (pss_one (ps_aug (i := 5) nd rfl (Or.inl rfl) pe_int ip_add))) (pss_one (ps_if (pt_cmpR op_eq (pv 7) pe_str (nomark _)) (pss_one (ps_aug (i := 5) nd rfl (Or.inl rfl) pe_int ip_sub)) pss_nil))))))
      (pss_one (ps_ret pe_bl)))), ?_⟩
    have hF := hf.ok
    obtain ⟨wt, dt, wps, b1, b2, b3, b4, b5⟩ := hf.ex
    obtain ⟨ps, h1, h2⟩ := hl
    have lp := h2.len
    refine ⟨_, rfl, a, _, rfl, SqT.of b1, rfl, _, _, rfl, _, _, rfl, _, _, rfl, rfl, ?_⟩
    refine ⟨_, rfl, l, rfl, ⟨_, SqL.of h1⟩, ?_⟩
    refine for_list (xs := ps.map V.ref) (fun i σ H' => ∃ (m : Int) (o6 o7 : Option V), σ = [some (.ref l), some (.ref a), some (.int F.dep), some (.ref wt), some (.ref dt), some (.int m), o6, o7] ∧ Same H H' ∧ (i < cs.length → m = ((stt (none, []) (cs.take i)).2.length : Int)))
      ⟨0, none, none, rfl, Same.refl H, fun _ => rfl⟩ (fun i σ H' _ ⟨_, _, _, _, s, _⟩ => SqL.of (s _ _ h1)) ?turn ?done
    case done =>
      rintro σ H4 ⟨m, o6, o7, rfl, s4, _⟩
      exact k H4 s4
    case turn =>
      rintro i y σ H4 hy ⟨m, o6, o7, rfl, s4, hm⟩
      rw [List.getElem?_map] at hy
      obtain ⟨c, hc, rfl⟩ := Option.map_eq_some_iff.mp hy
      have hi : i < cs.length := by rw [← lp]; exact (List.getElem?_eq_some_iff.mp hc).1
      have hm' := hm hi
      obtain ⟨x, hx, hrest⟩ : ∃ x, cs[i]? = some x ∧ ((i = 0 ∧ ∃ n, x = .start n) ∨ ∃ q, (stt (none, []) (cs.take i)).1 = some q ∧ Nx F q (stt (none, []) (cs.take i)).2 x ∧ SOk F (stt (none, []) (cs.take i))) := by
        rcases hv.at hF hi with ⟨e, n, h, _⟩ | ⟨q, x, h, r1, r2, r3⟩
        · exact ⟨_, h, .inl ⟨e, n, rfl⟩⟩
        · exact ⟨_, h, .inr ⟨q, r1, r2, r3⟩⟩
      obtain ⟨c', hc', hcx⟩ := h2.get hx
      rw [hc] at hc'
      cases hc'
      have hc4 := s4 _ _ hcx
      have tki : stt (none, []) (cs.take (i + 1)) = bh (stt (none, []) (cs.take i)) x := by rw [List.take_add_one, hx]; exact stt_snoc _ _ x
      -- nothing stands behind a last crossing
      have last : (bh (stt (none, []) (cs.take i)) x).1 = none → ¬ i + 1 < cs.length := fun e h => by
        rcases hv.at hF h with ⟨e0, _⟩ | ⟨q, x', _, r1, _⟩
        · exact absurd e0 (Nat.succ_ne_zero i)
        · rw [tki, e] at r1
          cases r1
      have nx : ∀ (m' : Int) (H5 : Hp) (o6 o7 : Option V), Same H H5 → (i + 1 < cs.length → m' = ((bh (stt (none, []) (cs.take i)) x).2.length : Int)) →
          ∃ (m : Int) (p6 p7 : Option V), [some (.ref l), some (.ref a), some (.int F.dep), some (.ref wt), some (.ref dt), some (.int m'), o6, o7] = [some (.ref l), some (.ref a), some (.int F.dep), some (.ref wt), some (.ref dt), some (.int m), p6, p7] ∧ Same H H5 ∧ (i + 1 < cs.length → m = ((stt (none, []) (cs.take (i + 1))).2.length : Int)) := fun m' H5 o6 o7 s e => ⟨m', o6, o7, rfl, s, by rw [tki]; exact e⟩
      generalize hst : stt (none, []) (cs.take i) = st at hm' hrest last nx
      have wires : ∀ {q b d : Int}, st.1 = some q → (b, d) ∈ F.ws q.toNat → SOk F st → ∀ {H5 : Hp}, Same H H5 → ∃ wp, atI (wps.map V.ref) q = some (.ref wp) ∧ Dp K H5 (.ref wp) (.tuple ((F.ws q.toNat).map pairD)) := fun {q b d} e1 e2 e3 {H5} s => by
        obtain ⟨q0, q1⟩ := (e3.ctl e1).rng hF
        obtain ⟨wp, hwp⟩ : ∃ wp, wps[q.toNat]? = some wp := ⟨_, List.getElem?_eq_getElem (by rw [b4]; omega)⟩
        obtain ⟨qs, p1, p2⟩ := b5 _ _ hwp
        refine ⟨wp, ?_, .tup (SqT.of (s _ _ p1)) ((p2.mono fun q xs e => s _ _ e).dp)⟩
        have := atI_nat (xs := wps.map V.ref) (j := q.toNat) (v := .ref wp) (by rw [List.getElem?_map, hwp]; rfl)
        rw [Int.toNat_of_nonneg q0] at this
        exact this
      have isin : ∀ {q b d : Int}, (b, d) ∈ F.ws q.toNat → (!((F.ws q.toNat).map pairD).any fun z => PyData.eqv z (pairD (b, d))) = false := fun h => by
        rw [any_pair, decide_eq_true h]
        rfl
      cases x with
      | start n =>
        refine ⟨_, rfl, c, _, 0, _, rfl, rfl, SqT.of hc4, rfl, ?_⟩
        refine ⟨_, rfl, rfl, _, rfl, iteF ?_⟩
        refine ⟨_, rfl, rfl, _, rfl, iteF ?_⟩
        refine ⟨_, rfl, rfl, _, rfl, iteF ?_⟩
        exact nx m _ _ _ s4 (fun _ => hm')
      | done n =>
        refine ⟨_, rfl, c, _, 0, _, rfl, rfl, SqT.of hc4, rfl, ?_⟩
        refine ⟨_, rfl, rfl, _, rfl, iteF ?_⟩
        refine ⟨_, rfl, rfl, _, rfl, iteF ?_⟩
        refine ⟨_, rfl, rfl, _, rfl, iteF ?_⟩
        exact nx m _ _ _ s4 (fun h => absurd h (last rfl))
      | fin n =>
        refine ⟨_, rfl, c, _, 0, _, rfl, rfl, SqT.of hc4, rfl, ?_⟩
        refine ⟨_, rfl, rfl, _, rfl, iteF ?_⟩
        refine ⟨_, rfl, rfl, _, rfl, iteF ?_⟩
        refine ⟨_, rfl, rfl, _, rfl, iteF ?_⟩
        exact nx m _ _ _ s4 (fun h => absurd h (last rfl))
      | back b d n =>
        rcases hrest with ⟨_, n', e⟩ | ⟨q, r1, r2, r3⟩
        · cases e
        obtain ⟨_, ⟨z, hz, _⟩, _⟩ := r2
        refine ⟨_, rfl, c, _, 0, _, rfl, rfl, SqT.of hc4, rfl, ?_⟩
        refine ⟨_, rfl, rfl, _, rfl, iteF ?_⟩
        refine ⟨_, rfl, rfl, _, rfl, iteF ?_⟩
        refine ⟨_, rfl, rfl, _, rfl, iteT ?_⟩
        refine ⟨_, rfl, _, _, rfl, rfl, ?_⟩
        refine nx (m - 1) _ _ _ s4 (fun _ => ?_)
        show m - 1 = (st.2.dropLast.length : Int)
        rw [List.length_dropLast, hm']
        have : 0 < st.2.length := by
          cases h : st.2 with
          | nil => rw [h] at hz; cases hz
          | cons _ _ => exact Nat.succ_pos _
        omega
      | call q' b d n =>
        rcases hrest with ⟨_, n', e⟩ | ⟨q, r1, r2, r3⟩
        · cases e
        obtain ⟨eq, hw, hlt, _⟩ := r2
        subst eq
        refine ⟨_, rfl, c, _, 0, _, rfl, rfl, SqT.of hc4, rfl, ?_⟩
        refine ⟨_, rfl, rfl, _, rfl, iteT (iteT ?_)⟩
        refine ⟨_, rfl, c, _, 2, _, rfl, rfl, SqT.of hc4, rfl, _, rfl, c, _, 3, _, rfl, rfl, SqT.of hc4, rfl, (by show 2 ≤ sizeLine; decide), fun t nt => ?_⟩
        have s5 := sadd (o := .tup [.int b, .int d]) s4 nt
        have s45 := sadd (o := .tup [.int b, .int d]) (Same.refl H4) nt
        have ht : upd H4 t (.tup [.int b, .int d]) t = some (.tup [.int b, .int d]) := upd_same
        have hc5 := s45 _ _ hc4
        generalize upd H4 t (.tup [.int b, .int d]) = H5 at s5 ht hc5 ⊢
        obtain ⟨wp, at1, dp⟩ := wires r1 hw r3 s5
        refine ⟨_, rfl, _, rfl, c, _, 1, _, rfl, rfl, SqT.of hc5, rfl, wt, _, q', _, rfl, rfl, SqT.of (s5 _ _ b2), at1, ?_⟩
        refine ⟨pairD (b, d), _, .tup (SqT.of ht) (.cons (.int _) (.cons (.int _) .nil)), dp, shaped_pair _ _, shaped_pairs _, ?_⟩
        rw [isin hw]
        refine ⟨_, rfl, iteF ?_⟩
        refine ⟨_, rfl, _, rfl, rfl, _, rfl, rfl, rfl, ?_⟩
        have e1 : decide (V.int m = V.int F.dep) = false := decide_eq_false fun z => by
          have := V.int.inj z
          omega
        rw [e1]
        refine ⟨_, rfl, iteF ?_⟩
        refine ⟨_, rfl, _, _, rfl, rfl, ?_⟩
        refine nx (m + 1) _ _ _ s5 (fun _ => ?_)
        show m + 1 = ((st.2 ++ [(q', b)]).length : Int)
        rw [List.length_append, hm']
        rfl
      | deep q' b d n =>
        rcases hrest with ⟨_, n', e⟩ | ⟨q, r1, r2, r3⟩
        · cases e
        obtain ⟨eq, hw, hlt, _⟩ := r2
        subst eq
        refine ⟨_, rfl, c, _, 0, _, rfl, rfl, SqT.of hc4, rfl, ?_⟩
        refine ⟨_, rfl, rfl, _, rfl, iteF ?_⟩
        refine ⟨_, rfl, rfl, _, rfl, iteT ?_⟩
        refine ⟨_, rfl, c, _, 2, _, rfl, rfl, SqT.of hc4, rfl, _, rfl, c, _, 3, _, rfl, rfl, SqT.of hc4, rfl, (by show 2 ≤ sizeLine; decide), fun t nt => ?_⟩
        have s5 := sadd (o := .tup [.int b, .int d]) s4 nt
        have s45 := sadd (o := .tup [.int b, .int d]) (Same.refl H4) nt
        have ht : upd H4 t (.tup [.int b, .int d]) t = some (.tup [.int b, .int d]) := upd_same
        have hc5 := s45 _ _ hc4
        generalize upd H4 t (.tup [.int b, .int d]) = H5 at s5 ht hc5 ⊢
        obtain ⟨wp, at1, dp⟩ := wires r1 hw r3 s5
        refine ⟨_, rfl, _, rfl, c, _, 1, _, rfl, rfl, SqT.of hc5, rfl, wt, _, q', _, rfl, rfl, SqT.of (s5 _ _ b2), at1, ?_⟩
        refine ⟨pairD (b, d), _, .tup (SqT.of ht) (.cons (.int _) (.cons (.int _) .nil)), dp, shaped_pair _ _, shaped_pairs _, ?_⟩
        rw [isin hw]
        refine ⟨_, rfl, iteF ?_⟩
        refine ⟨_, rfl, _, rfl, rfl, _, rfl, rfl, rfl, ?_⟩
        have e1 : decide (V.int m = V.int F.dep) = true := decide_eq_true (by rw [hm', hlt])
        rw [e1]
        refine ⟨_, rfl, iteF ?_⟩
        refine ⟨_, rfl, _, _, rfl, rfl, ?_⟩
        exact nx (m + 1) _ _ _ s5 (fun h => absurd h (last rfl))
end
end OH
end
section
set_option Elab.async false
set_option linter.all false
set_option maxRecDepth 100000
set_option maxHeartbeats 8000000
/-! The views in a row. -/
namespace OH
open PySem PySem.Spec PyProof.Rows L2
/-- a list of items at l -/
def VwAt (K : PySem.W.Frag) (H : Hp) (l : Addr) (v : List It) : Prop := ∃ ps : List Addr, H l = some (.lst (ps.map V.ref)) ∧ AllQ K H It.vs ps v
theorem VwAt.same {K : PySem.W.Frag} {H H' : Hp} {l : Addr} {v : List It} (h : VwAt K H l v) (s : Same H H') : VwAt K H' l v := by
  obtain ⟨ps, h1, h2⟩ := h
  exact ⟨ps, s _ _ h1, h2.same s⟩
/-- so many lists of items -/
structure VsAt (K : PySem.W.Frag) (H : Hp) (D : Addr) (vl : List Addr) (g : Nat → List It) : Prop where
  hd : H D = some (.lst (vl.map V.ref))
  nd : vl.Nodup
  dn : D ∉ vl
  vw : ∀ (r : Nat) (q : Addr), vl[r]? = some q → VwAt K H q (g r)
theorem AllQ.mono {α : Type} {K : PySem.W.Frag} {H H' : Hp} {f : α → List V} {ps : List Addr} {xs : List α} (h : AllQ K H f ps xs) (s : ∀ q zs, SqT K H q zs → SqT K H' q zs) : AllQ K H' f ps xs := by
  induction h with
  | nil => exact .nil
  | cons a _ ih => exact .cons (s _ _ a) ih
theorem AllQ.app {α : Type} {K : PySem.W.Frag} {H : Hp} {f : α → List V} {ps : List Addr} {xs : List α} {t : Addr} {x : α} (h : AllQ K H f ps xs) (ht : SqT K H t (f x)) : AllQ K H f (ps ++ [t]) (xs ++ [x]) := by
  induction h with
  | nil => exact .cons ht .nil
  | cons a _ ih => exact .cons a ih
/-- where a list changes, tuples stay -/
theorem _root_.L2.SqT.upl {K : PySem.W.Frag} {H : Hp} {q a : Addr} {xs ys zs : List V} (h : SqT K H a xs) (e : H q = some (.lst ys)) : SqT K (upd H q (.lst zs)) a xs := by
  rcases h with h | h
  · refine .inl ?_
    rcases h with h | ⟨o, h⟩
    · exact .inl ((upd_ne (ne_of h e (fun z => nomatch z))).trans h)
    · exact .inr ⟨o, (upd_ne (ne_of h e (fun z => nomatch z))).trans h⟩
  · exact .inr h
theorem VsAt.at_ {K : PySem.W.Frag} {H : Hp} {D : Addr} {vl : List Addr} {g : Nat → List It} (Y : VsAt K H D vl g) {a : Int} (h0 : 0 ≤ a) (h1 : a < (vl.length : Int)) : ∃ (q : Addr) (ps : List Addr), vl[a.toNat]? = some q ∧ atI (vl.map V.ref) a = some (.ref q) ∧ H q = some (.lst (ps.map V.ref)) ∧ ps.length = (g a.toNat).length ∧ q ∈ vl := by
  obtain ⟨q, hq⟩ : ∃ q, vl[a.toNat]? = some q := ⟨_, List.getElem?_eq_getElem (by omega)⟩
  obtain ⟨ps, p1, p2⟩ := Y.vw _ _ hq
  refine ⟨q, ps, hq, ?_, p1, p2.len, List.mem_of_getElem? hq⟩
  have := atI_nat (xs := vl.map V.ref) (j := a.toNat) (v := .ref q) (by rw [List.getElem?_map, hq]; rfl)
  rw [Int.toNat_of_nonneg h0] at this
  exact this
theorem VsAt.same {K : PySem.W.Frag} {H H' : Hp} {D : Addr} {vl : List Addr} {g : Nat → List It} (Y : VsAt K H D vl g) (s : Same H H') : VsAt K H' D vl g := ⟨s _ _ Y.hd, Y.nd, Y.dn, fun r q e => (Y.vw r q e).same s⟩
theorem VsAt.congr {K : PySem.W.Frag} {H : Hp} {D : Addr} {vl : List Addr} {g g' : Nat → List It} (Y : VsAt K H D vl g) (e : ∀ r, r < vl.length → g r = g' r) : VsAt K H D vl g' := ⟨Y.hd, Y.nd, Y.dn, fun r q h => by rw [← e r (List.getElem?_eq_some_iff.mp h).1]; exact Y.vw r q h⟩
theorem VsAt.add {K : PySem.W.Frag} {H : Hp} {D : Addr} {vl : List Addr} {g : Nat → List It} (Y : VsAt K H D vl g) {k : Nat} {q t : Addr} {ps : List Addr} {it : It} (hq : vl[k]? = some q) (hp : H q = some (.lst (ps.map V.ref))) (ht : SqT K H t it.vs) :
    VsAt K (upd H q (.lst (ps.map V.ref ++ [.ref t]))) D vl (fun j => g j ++ if j = k then [it] else []) := by
  refine ⟨(upd_ne (fun z => Y.dn (by rw [z]; exact List.mem_of_getElem? hq))).trans Y.hd, Y.nd, Y.dn, fun r q' h => ?_⟩
  by_cases e : r = k
  · subst e
    rw [hq] at h
    cases h
    obtain ⟨ps', p1, p2⟩ := Y.vw _ _ hq
    rw [hp] at p1
    have e2 : ps = ps' := by
      have := HO.lst.inj (Option.some.inj p1)
      exact List.map_inj_right (fun x y z => V.ref.inj z) |>.mp this
    subst e2
    show VwAt K _ q (g r ++ if r = r then [it] else [])
    rw [if_pos rfl]
    refine ⟨ps ++ [t], by rw [upd_same, List.map_append]; rfl, (p2.mono fun a zs z => z.upl hp).app (ht.upl hp)⟩
  · show VwAt K _ q' (g r ++ if r = k then [it] else [])
    rw [if_neg e, List.append_nil]
    have nq : q' ≠ q := fun z => by
      subst z
      have h1 := (List.getElem?_eq_some_iff.mp h)
      have h2 := (List.getElem?_eq_some_iff.mp hq)
      exact e ((List.getElem?_inj h1.1 Y.nd).mp (h.trans hq.symm))
    obtain ⟨ps', p1, p2⟩ := Y.vw _ _ h
    exact ⟨ps', (upd_ne nq).trans p1, p2.mono fun a zs z => z.upl hp⟩
theorem sel_ {α : Type} (j : Nat) {a : Int} (h : 0 ≤ a) (xs : List α) : (if j = a.toNat then xs else []) = if (j : Int) = a then xs else [] := by
  by_cases z : j = a.toNat
  · rw [if_pos z, if_pos (by omega)]
  · rw [if_neg z, if_neg (by omega)]
theorem vw_bound (r : Int) : ∀ cs : List Crs, (OH.vw r cs).length ≤ 2 * cs.length
  | [] => Nat.le_refl _
  | x :: xs => by
    have h := vw_bound r xs
    rw [vw_cons, List.length_append, List.length_cons]
    have : (shown r x).length ≤ 2 := by
      cases x <;> simp only [shown] <;> (repeat' split) <;> simp
    omega
/-- the rooms of a crossing that may come are the face's -/
def rmOk (F : Fc) : Crs → Prop
  | .start _ => False
  | .call a b _ _ | .back a b _ => (0 ≤ a ∧ a < (F.R : Int)) ∧ (0 ≤ b ∧ b < (F.R : Int)) ∧ a ≠ b
  | .deep a _ _ _ | .fin a => 0 ≤ a ∧ a < (F.R : Int)
  | .done _ => True
theorem Nx.rooms {F : Fc} (hF : F.Ok) {s : Rs} (hs : SOk F s) {c : Int} (hc : s.1 = some c) {x : Crs} (hx : Nx F c s.2 x) : rmOk F x := by
  have ch := hs.ctl hc
  obtain ⟨c0, c1⟩ := ch.rng hF
  cases x with
  | start n => exact hx.elim
  | call a b d n =>
    obtain ⟨e, hw, _⟩ := hx
    subst e
    obtain ⟨w1, w2, w3, _⟩ := (hF.wi a.toNat (by omega)).2.2 _ hw
    have w1' : 0 ≤ b := w1
    have w2' : b < (F.R : Int) := w2
    have w3' : b ≠ (a.toNat : Int) := w3
    exact ⟨⟨c0, c1⟩, ⟨w1', w2'⟩, by omega⟩
  | back a b n =>
    obtain ⟨e, ⟨q, hq, hb⟩, _⟩ := hx
    subst e
    rcases ch.inv with ⟨e0, _⟩ | ⟨as, a', e0, h0, hn⟩
    · rw [e0] at hq
      cases hq
    · rw [e0, List.getLast?_concat] at hq
      cases hq
      have hb' : b = a' := hb
      subst hb'
      exact ⟨⟨c0, c1⟩, h0.rng hF, fun z => hn z.symm⟩
  | deep a b d n => obtain ⟨e, _⟩ := hx; subst e; exact ⟨c0, c1⟩
  | done n => trivial
  | fin a => have e : a = c := hx; subst e; exact ⟨c0, c1⟩
def spViewsIn (K : PySem.W.Frag) : Sp := fun vs H Q _ => ∃ (l : Addr) (F : Fc) (cs : List Crs), vs = [.ref l] ∧ RwAt H l cs ∧ F.Ok ∧ VR F cs ∧ cs.length ≤ 1000 ∧
  ∀ D vl H', Same H H' → H D = none → (∀ q ∈ vl, H q = none) → vl.length = 6 → VsAt K H' D vl (fun r => OH.vw (r : Int) cs) → Q (.ref D) H'
section
variable {P : Program} {w : World} {K : PySem.W.Frag} {mg : Str → Option Value} {base : Heap}
abbrev nViews : List Str := ["row", "views", "_", "crossing", "word", "asker", "asked", "door", "number", "giver"]
end
end OH
end
section
set_option Elab.async false
set_option linter.all false
set_option maxRecDepth 100000
set_option maxHeartbeats 4000000
/-! fits, view_of. -/
namespace OH
open PySem PySem.Spec PyProof.Rows L2
def spNRoom : Sp := fun vs H Q _ => ∃ (r m : Int), vs = [.int r, .int m] ∧ 0 ≤ r ∧ r < m ∧ m ≤ 1000 ∧ Q .non H
def spFits2 : Sp := fun vs H Q _ => ∃ (l a : Addr) (F : Fc) (cs : List Crs), vs = [.ref l, .ref a] ∧ RwAt H l cs ∧ FcAt H a F ∧ VR F cs ∧ cs.length ≤ 1000 ∧ ∀ H', Same H H' → Q (.bl true) H'
def spViewOf (K : PySem.W.Frag) : Sp := fun vs H Q _ => ∃ (l : Addr) (r : Int) (F : Fc) (cs : List Crs), vs = [.ref l, .int r] ∧ RwAt H l cs ∧ F.Ok ∧ VR F cs ∧ cs.length ≤ 1000 ∧ 0 ≤ r ∧ r < 6 ∧
  ∀ q H', Same H H' → H q = none → VwAt K H' q (OH.vw r cs) → Q (.ref q) H'
section
variable {P : Program} {w : World} {K : PySem.W.Frag} {mg : Str → Option Value} {base : Heap}
theorem sc_fits : FnScope ["row", "face"] ["row", "face"] (defScope s_fits) := ⟨rfl, rfl, rfl, by decide +kernel, rfl, by decide +kernel, by decide +kernel⟩
theorem ok_fits {f : Addr} {fd : FuncData} (F : Fun K "fits" "fits" s_fits f fd) (DN : DefF P w K mg base CX0 5 "need_row" ["row"] spNeedRow) (DF : DefF P w K mg base CX0 5 "need_face" ["face"] spNeedF) (DI : DefF P w K mg base CX0 5 "fits_in" ["row", "face"] spFits) :
    FnOk P w K mg base CX0 6 f fd ["row", "face"] spFits2 := by
  refine F.ok sc_fits (fun vs H Q E h => ?_) (fun cdv A outer s H vs Q E hr h => ?_)
  · obtain ⟨l, a, F, cs, rfl, _⟩ := h
    rfl
  · obtain ⟨l, a, F, cs, rfl, hl, hf, hv, hn, k⟩ := h
    have nd := sc_fits.nd
    refine ⟨_, pss_cons (ps_expr (pe_cD DN hr rfl pass0 (pa_cons (pv 0) pa_nil)))
      (pss_cons (ps_expr (pe_cD DF hr rfl pass0 (pa_cons (pv 1) pa_nil)))
      (pss_one (ps_ret (pe_cD DI hr rfl pass0 (pa_cons (pv 0) (pa_cons (pv 1) pa_nil)))))), ?_⟩
    refine ⟨_, rfl, l, cs, rfl, hl, hn, (hv.good hf.ok).1, fun H1 s1 => ?_⟩
    refine ⟨_, rfl, a, F, rfl, hf.same s1, fun H2 s2 => ?_⟩
    have s12 := s1.trans s2
    exact ⟨_, rfl, _, rfl, l, a, F, cs, rfl, hl.same s12, hf.same s12, hv, hn, fun H3 s3 => k H3 (s12.trans s3)⟩
end
end OH
end
section
set_option Elab.async false
set_option linter.all false
set_option maxRecDepth 100000
set_option maxHeartbeats 1000000
/-! Views of rows are good views. -/
namespace OH
open PySem PySem.Spec PyProof.Rows L2
def isEv : It → Prop
  | .inn d n => (0 ≤ d ∧ d < 6) ∧ Num n
  | .got n => Num n
  | _ => False
def isAc : It → Prop
  | .calls a d n => (0 ≤ a ∧ a < 6) ∧ (0 ≤ d ∧ d < 6) ∧ Num n
  | .gives n => Num n
  | .ends => True
  | _ => False
def dW : It → Int
  | .calls _ _ _ => 1
  | .got _ => -1
  | _ => 0
def wt (its : List It) : Int := (its.map dW).sum
def kindAt (i : Nat) (it : It) : Prop := if i % 2 = 0 then isEv it else isAc it
structure GV (its : List It) : Prop where
  al : ∀ i it, its[i]? = some it → kindAt i it
  en : ∀ i, its[i]? = some It.ends → i + 1 = its.length
  wt : ∀ k, 0 ≤ wt (its.take k)
theorem GV.le {xs ys : List It} (h : GV ys) (p : xs <+: ys) : GV xs := by
  obtain ⟨zs, rfl⟩ := p
  have g : ∀ i it, xs[i]? = some it → (xs ++ zs)[i]? = some it := fun i it e => by
    rw [List.getElem?_append_left (List.getElem?_eq_some_iff.mp e).1]
    exact e
  refine ⟨fun i it e => h.al i it (g i it e), fun i e => ?_, fun k => ?_⟩
  · have h1 := h.en i (g i _ e)
    have h2 := (List.getElem?_eq_some_iff.mp e).1
    rw [List.length_append] at h1
    omega
  · by_cases q : k ≤ xs.length
    · have := h.wt k
      rwa [List.take_append_of_le_length q] at this
    · have := h.wt xs.length
      rw [List.take_append_of_le_length (Nat.le_refl _)] at this
      rw [List.take_of_length_le (by omega : xs.length ≤ k)]
      rwa [List.take_length] at this
theorem wt_app (xs ys : List It) : OH.wt (xs ++ ys) = OH.wt xs + OH.wt ys := by
  unfold OH.wt
  rw [List.map_append, List.sum_append]
/-- one more item -/
theorem GV.snoc {xs : List It} {it : It} (h : GV xs) (ne : It.ends ∉ xs) (k : kindAt xs.length it) (w : 0 ≤ OH.wt xs + dW it) : GV (xs ++ [it]) := by
  refine ⟨fun i x e => ?_, fun i e => ?_, fun j => ?_⟩
  · rcases Nat.lt_or_ge i xs.length with q | q
    · rw [List.getElem?_append_left q] at e
      exact h.al i x e
    · rw [List.getElem?_append_right q] at e
      have e0 : i = xs.length := by
        have := (List.getElem?_eq_some_iff.mp e).1
        rw [List.length_singleton] at this
        omega
      subst e0
      rw [Nat.sub_self] at e
      cases e
      exact k
  · rcases Nat.lt_or_ge i xs.length with q | q
    · rw [List.getElem?_append_left q] at e
      exact absurd (List.mem_of_getElem? e) ne
    · have := (List.getElem?_eq_some_iff.mp e).1
      rw [List.length_append, List.length_singleton] at this ⊢
      omega
  · by_cases q : j ≤ xs.length
    · rw [List.take_append_of_le_length q]
      exact h.wt j
    · rw [List.take_of_length_le (by rw [List.length_append, List.length_singleton]; omega), wt_app]
      show 0 ≤ OH.wt xs + (dW it + 0)
      omega
def cntA (r : Int) (asks : List (Int × Int)) : Int := ((asks.filter fun p => decide (p.1 = r)).length : Nat)
theorem cntA_snoc (r : Int) (as : List (Int × Int)) (p : Int × Int) : cntA r (as ++ [p]) = cntA r as + if p.1 = r then 1 else 0 := by
  unfold cntA
  rw [List.filter_append, List.length_append]
  by_cases e : p.1 = r
  · rw [if_pos e, List.filter_cons_of_pos (by simpa using e)]
    show ((_ + 1 : Nat) : Int) = _
    omega
  · rw [if_neg e, List.filter_cons_of_neg (by simpa using e)]
    show ((_ + 0 : Nat) : Int) = _
    omega
/-- the view of room r behind a part of a row that goes on -/
structure Vst (r c : Int) (asks : List (Int × Int)) (its : List It) : Prop where
  gv : GV its
  ne : It.ends ∉ its
  pa : its.length % 2 = if c = r then 1 else 0
  wt : OH.wt its = cntA r asks
theorem kind_ev {its : List It} {it : It} (h : its.length % 2 = 0) (e : isEv it) : kindAt its.length it := by
  unfold kindAt
  rw [if_pos h]
  exact e
theorem kind_ac {its : List It} {it : It} (h : its.length % 2 = 1) (e : isAc it) : kindAt its.length it := by
  unfold kindAt
  rw [if_neg (by omega)]
  exact e
theorem cntA_nn (r : Int) (as : List (Int × Int)) : 0 ≤ cntA r as := Int.natCast_nonneg _
theorem Vst.run {F : Fc} (hF : F.Ok) {r : Int} : ∀ {xs : List Crs} {s : Rs} {c : Int} {its : List It}, SOk F s → s.1 = some c → Vst r c s.2 its → VRr F s xs → GV (its ++ vw r xs)
  | [], _, _, its, _, _, v, _ => by
    show GV (its ++ [])
    rw [List.append_nil]
    exact v.gv
  | x :: xs, s, c, its, hs, hc, v, ⟨⟨c', hc', hx⟩, hr⟩ => by
    rw [hc] at hc'
    cases hc'
    have ch := hs.ctl hc
    obtain ⟨c0, c1⟩ := ch.rng hF
    have m6 := hF.m6
    have hs2 := hs.step hF hc hx
    rw [vw_cons, ← List.append_assoc]
    have nn := cntA_nn r s.2
    have vw0 := v.wt
    cases x with
    | start n => exact hx.elim
    | call a b d n =>
      obtain ⟨e, hw, hl, hn⟩ := hx
      subst e
      obtain ⟨b0, b5, bR, bc, d0, d5⟩ := wire_rng hF c0 c1 hw
      refine Vst.run (xs := xs) (s := bh s (.call a b d n)) (c := b) hF hs2 rfl ?_ hr
      show Vst r b (s.2 ++ [(a, b)]) (its ++ ((if r = a then [It.calls b d n] else []) ++ (if r = b then [It.inn d n] else [])))
      have pa := v.pa
      by_cases ea : a = r
      · subst ea
        rw [if_pos rfl, if_neg (fun z => bc z.symm), List.append_nil]
        rw [if_pos rfl] at pa
        refine ⟨v.gv.snoc v.ne (kind_ac pa ⟨⟨b0, by omega⟩, ⟨d0, by omega⟩, hn⟩) (by show 0 ≤ OH.wt its + 1; omega), fun z => (List.mem_append.mp z).elim v.ne (fun z => nomatch List.mem_singleton.mp z), ?_, ?_⟩
        · rw [if_neg bc, List.length_append, List.length_singleton]; omega
        · rw [wt_app, cntA_snoc, if_pos rfl, vw0]; rfl
      · rw [if_neg (fun z => ea z.symm), List.nil_append]
        rw [if_neg ea] at pa
        by_cases eb : r = b
        · subst eb
          rw [if_pos rfl]
          refine ⟨v.gv.snoc v.ne (kind_ev pa ⟨⟨d0, by omega⟩, hn⟩) (by show 0 ≤ OH.wt its + 0; omega), fun z => (List.mem_append.mp z).elim v.ne (fun z => nomatch List.mem_singleton.mp z), ?_, ?_⟩
          · rw [if_pos rfl, List.length_append, List.length_singleton]; omega
          · rw [wt_app, cntA_snoc, if_neg ea, vw0]; rfl
        · rw [if_neg eb, List.append_nil]
          refine ⟨v.gv, v.ne, by rw [if_neg (fun z => eb z.symm)]; exact pa, ?_⟩
          rw [cntA_snoc, if_neg ea, vw0, Int.add_zero]
    | back a b n =>
      obtain ⟨e, ⟨q, hq, hb⟩, hn⟩ := hx
      subst e
      have hq0 := hq
      rcases ch.inv with ⟨e0, _⟩ | ⟨as, a', e0, h0, hne⟩
      · rw [e0] at hq
        cases hq
      rw [e0, List.getLast?_concat] at hq
      cases hq
      have hb' : b = a' := hb
      subst hb'
      have dl : s.2.dropLast = as := by rw [e0, List.dropLast_concat]
      refine Vst.run (xs := xs) (s := bh s (.back a b n)) (c := b) hF hs2 rfl ?_ hr
      show Vst r b s.2.dropLast (its ++ ((if r = a then [It.gives n] else []) ++ (if r = b then [It.got n] else [])))
      have pa := v.pa
      rw [dl]
      rw [e0, cntA_snoc] at vw0
      have nna := cntA_nn r as
      by_cases ea : a = r
      · subst ea
        rw [if_pos rfl, if_neg (fun z => hne z.symm), List.append_nil]
        rw [if_pos rfl] at pa
        rw [if_neg hne] at vw0
        refine ⟨v.gv.snoc v.ne (kind_ac pa hn) (by show 0 ≤ OH.wt its + 0; omega), fun z => (List.mem_append.mp z).elim v.ne (fun z => nomatch List.mem_singleton.mp z), ?_, ?_⟩
        · rw [if_neg hne, List.length_append, List.length_singleton]; omega
        · rw [wt_app, vw0]; show _ + 0 + (0 + 0) = _; omega
      · rw [if_neg (fun z => ea z.symm), List.nil_append]
        rw [if_neg ea] at pa
        by_cases eb : r = b
        · subst eb
          rw [if_pos rfl]
          rw [if_pos rfl] at vw0
          refine ⟨v.gv.snoc v.ne (kind_ev pa hn) (by show 0 ≤ OH.wt its + -1; omega), fun z => (List.mem_append.mp z).elim v.ne (fun z => nomatch List.mem_singleton.mp z), ?_, ?_⟩
          · rw [if_pos rfl, List.length_append, List.length_singleton]; omega
          · rw [wt_app, vw0]; show _ + 1 + (-1 + 0) = _; omega
        · rw [if_neg eb, List.append_nil]
          rw [if_neg (fun z => eb z.symm)] at vw0
          exact ⟨v.gv, v.ne, by rw [if_neg (fun z => eb z.symm)]; exact pa, by rw [vw0, Int.add_zero]⟩
    | deep a b d n =>
      obtain ⟨e, hw, hl, hn⟩ := hx
      subst e
      obtain ⟨b0, b5, bR, bc, d0, d5⟩ := wire_rng hF c0 c1 hw
      have hxs : xs = [] := by
        cases xs with
        | nil => rfl
        | cons y ys => obtain ⟨⟨_, z, _⟩, _⟩ := hr; cases z
      subst hxs
      show GV ((its ++ if r = a then [It.calls b d n] else []) ++ [])
      rw [List.append_nil]
      have pa := v.pa
      by_cases ea : a = r
      · subst ea
        rw [if_pos rfl]
        rw [if_pos rfl] at pa
        exact v.gv.snoc v.ne (kind_ac pa ⟨⟨b0, by omega⟩, ⟨d0, by omega⟩, hn⟩) (by show 0 ≤ OH.wt its + 1; omega)
      · rw [if_neg (fun z => ea z.symm), List.append_nil]
        exact v.gv
    | done n =>
      obtain ⟨e, hn⟩ := hx
      have hxs : xs = [] := by
        cases xs with
        | nil => rfl
        | cons y ys => obtain ⟨⟨_, z, _⟩, _⟩ := hr; cases z
      subst hxs
      show GV ((its ++ if r = 0 then [It.gives n] else []) ++ [])
      rw [List.append_nil]
      have pa := v.pa
      have c00 : c = 0 := by
        rcases ch.inv with ⟨_, z⟩ | ⟨as, a', z, _⟩
        · exact z
        · rw [e] at z
          cases as <;> cases z
      by_cases ea : r = 0
      · subst ea
        rw [if_pos rfl]
        rw [if_pos c00] at pa
        exact v.gv.snoc v.ne (kind_ac pa hn) (by show 0 ≤ OH.wt its + 0; omega)
      · rw [if_neg ea, List.append_nil]
        exact v.gv
    | fin a =>
      have e : a = c := hx
      subst e
      have hxs : xs = [] := by
        cases xs with
        | nil => rfl
        | cons y ys => obtain ⟨⟨_, z, _⟩, _⟩ := hr; cases z
      subst hxs
      show GV ((its ++ if r = a then [It.ends] else []) ++ [])
      rw [List.append_nil]
      have pa := v.pa
      by_cases ea : a = r
      · subst ea
        rw [if_pos rfl]
        rw [if_pos rfl] at pa
        exact v.gv.snoc v.ne (kind_ac pa trivial) (by show 0 ≤ OH.wt its + 0; omega)
      · rw [if_neg (fun z => ea z.symm), List.append_nil]
        exact v.gv
theorem GV.nil : GV [] := ⟨fun i it e => absurd (List.mem_of_getElem? e) List.not_mem_nil, fun i e => absurd (List.mem_of_getElem? e) List.not_mem_nil, fun k => by rw [List.take_nil]; exact Int.le_refl 0⟩
theorem VR.gv {F : Fc} (hF : F.Ok) {cs : List Crs} (h : VR F cs) (r : Int) : GV (vw r cs) := by
  obtain ⟨n, xs, rfl, hn, hr⟩ := h
  rw [vw_cons]
  refine Vst.run (s := (some 0, [])) (c := 0) hF (SOk.init hF) rfl ?_ hr
  show Vst r 0 [] (if r = 0 then [It.inn 0 n] else [])
  by_cases e : r = 0
  · subst e
    rw [if_pos rfl]
    exact ⟨GV.nil.snoc List.not_mem_nil (kind_ev rfl ⟨⟨Int.le_refl 0, by decide⟩, hn⟩) (Int.le_refl 0), fun z => (nomatch List.mem_singleton.mp z), by rw [if_pos rfl]; rfl, rfl⟩
  · rw [if_neg e]
    exact ⟨GV.nil, List.not_mem_nil, by rw [if_neg (fun z => e z.symm)]; rfl, rfl⟩
end OH
end
section
set_option Elab.async false
set_option linter.all false
set_option maxRecDepth 100000
set_option maxHeartbeats 4000000
/-! Events and acts of views. -/
namespace OH
open PySem PySem.Spec PyProof.Rows L2
theorem _root_.L2.SqT.tyx {K : PySem.W.Frag} {H : Hp} {p : Addr} {xs : List V} (h : SqT K H p xs) : TyX K H (.ref p) (.type "tuple") := by
  rcases h with (h | ⟨o, h⟩) | ⟨o, its, n, h1, h2, _⟩
  · exact .base (.tup h)
  · exact .fTuple h
  · exact .kTuple h1 h2
/-- a list of items -/
def spItems (K : PySem.W.Frag) (Ok : It → Prop) : Sp := fun vs H Q _ => ∃ (l : Addr) (its : List It), vs = [.ref l] ∧ VwAt K H l its ∧ (∀ it ∈ its, Ok it) ∧ its.length ≤ 10000 ∧ ∀ H', Same H H' → Q (.bl true) H'
section
variable {P : Program} {w : World} {K : PySem.W.Frag} {mg : Str → Option Value} {base : Heap}
abbrev nEv : List Str := ["values", "value", "many", "word", "number", "door"]
abbrev nAc : List Str := ["values", "value", "many", "word", "number", "door", "room"]
end
end OH
end
section
set_option Elab.async false
set_option linter.all false
set_option maxRecDepth 100000
set_option maxHeartbeats 1000000
/-! Items and crossings as data. -/
namespace OH
open PySem PySem.Spec PyProof.Rows L2
def tD (w : Str) (is : List Int) : PyData := .tuple (.str w :: is.map .int)
theorem eqvAll_int : ∀ xs ys : List Int, PyData.eqvAll (xs.map .int) (ys.map .int) = decide (xs = ys)
  | [], [] => rfl
  | [], _ :: _ => rfl
  | _ :: _, [] => rfl
  | x :: xs, y :: ys => by
    show ((x == y) && PyData.eqvAll (xs.map .int) (ys.map .int)) = _
    rw [eqvAll_int xs ys]
    by_cases e : x = y
    · subst e
      by_cases e2 : xs = ys
      · subst e2; simp
      · simp [e2]
    · simp [e]
theorem tD_eqv (w v : Str) (is js : List Int) : PyData.eqv (tD w is) (tD v js) = decide (w = v ∧ is = js) := by
  show ((w == v) && PyData.eqvAll (is.map .int) (js.map .int)) = _
  rw [eqvAll_int]
  by_cases e : w = v
  · subst e; simp
  · simp [e]
theorem intsDp {K : PySem.W.Frag} {H : Hp} : ∀ is : List Int, DpAll K H (is.map V.int) (is.map .int)
  | [] => .nil
  | i :: is => .cons (.int i) (intsDp is)
theorem tD_dp {K : PySem.W.Frag} {H : Hp} {p : Addr} {w : Str} {is : List Int} (h : SqT K H p (.str w :: is.map V.int)) : Dp K H (.ref p) (tD w is) := .tup h (.cons (.str w) (intsDp is))
theorem ints_lay : ∀ is : List Int, PyData.canLayAll0 (is.map .int) = true ∧ PyData.depthAll (is.map .int) = 0
  | [] => ⟨rfl, rfl⟩
  | i :: is => by
    obtain ⟨h1, h2⟩ := ints_lay is
    refine ⟨?_, ?_⟩
    · show (true && PyData.canLayAll0 (is.map .int)) = true
      rw [h1]
      rfl
    · show max 0 (PyData.depthAll (is.map .int)) = 0
      rw [h2]
      rfl
theorem tD_lay {w : Str} (hw : PyData.canLay0 (.str w) = true) (is : List Int) : PyData.canLay0 (tD w is) = true ∧ PyData.depth (tD w is) = 1 := by
  obtain ⟨h1, h2⟩ := ints_lay is
  refine ⟨?_, ?_⟩
  · show (PyData.canLay0 (.str w) && PyData.canLayAll0 (is.map .int)) = true
    rw [h1, hw]
    rfl
  · show max 0 (PyData.depthAll (is.map .int)) + 1 = 1
    rw [h2]
    rfl
theorem shaped_tD {w : Str} (hw : PyData.canLay0 (.str w) = true) (is : List Int) : SeqAt.shaped (tD w is) = true := by
  obtain ⟨h1, h2⟩ := tD_lay hw is
  show (PyData.canLay0 (tD w is) && decide (PyData.depth (tD w is) ≤ 64)) = true
  rw [h1, h2]
  rfl
theorem shaped_tDs {α : Type} (f : α → Str) (g : α → List Int) (hw : ∀ x, PyData.canLay0 (.str (f x)) = true) (xs : List α) : SeqAt.shaped (.list (xs.map fun x => tD (f x) (g x))) = true := by
  have h : PyData.canLayAll0 (xs.map fun x => tD (f x) (g x)) = true ∧ PyData.depthAll (xs.map fun x => tD (f x) (g x)) ≤ 1 := by
    induction xs with
    | nil => exact ⟨rfl, Nat.zero_le _⟩
    | cons x xs ih =>
      obtain ⟨h1, h2⟩ := tD_lay (hw x) (g x)
      refine ⟨?_, ?_⟩
      · show (PyData.canLay0 (tD (f x) (g x)) && PyData.canLayAll0 _) = true
        rw [h1, ih.1]
        rfl
      · show max (PyData.depth (tD (f x) (g x))) (PyData.depthAll _) ≤ 1
        rw [h2]
        exact Nat.max_le.mpr ⟨Nat.le_refl 1, ih.2⟩
  show (PyData.canLayAll0 _ && decide (PyData.depthAll _ + 1 ≤ 64)) = true
  rw [h.1, decide_eq_true (by have := h.2; omega)]
  rfl
theorem eqvAll_map {α : Type} [DecidableEq α] {d : α → PyData} (h : ∀ x y, PyData.eqv (d x) (d y) = decide (x = y)) : ∀ xs ys : List α, PyData.eqvAll (xs.map d) (ys.map d) = decide (xs = ys)
  | [], [] => rfl
  | [], _ :: _ => rfl
  | _ :: _, [] => rfl
  | x :: xs, y :: ys => by
    show (PyData.eqv (d x) (d y) && PyData.eqvAll (xs.map d) (ys.map d)) = _
    rw [eqvAll_map h xs ys, h]
    by_cases e : x = y
    · subst e
      by_cases e2 : xs = ys
      · subst e2; simp
      · simp [e2]
    · simp [e]
theorem any_map {α : Type} [DecidableEq α] {d : α → PyData} (h : ∀ x y, PyData.eqv (d x) (d y) = decide (x = y)) (xs : List α) (y : α) : ((xs.map d).any fun z => PyData.eqv z (d y)) = decide (y ∈ xs) := by
  induction xs with
  | nil => rfl
  | cons x xs ih =>
    rw [List.map_cons, List.any_cons, ih, h]
    by_cases e : x = y
    · subst e; simp
    · have e2 : ¬ y = x := fun z => e z.symm
      simp [e, e2]
def It.w : It → Str
  | .inn _ _ => "in"
  | .got _ => "got"
  | .calls _ _ _ => "calls"
  | .gives _ => "gives"
  | .ends => "ends"
def It.ns : It → List Int
  | .inn d n => [d, n]
  | .got n => [n]
  | .calls a d n => [a, d, n]
  | .gives n => [n]
  | .ends => []
def It.d (x : It) : PyData := tD x.w x.ns
theorem It.vs_eq (x : It) : x.vs = .str x.w :: x.ns.map V.int := by cases x <;> rfl
theorem It.w_inj {x y : It} : (x.w = y.w ∧ x.ns = y.ns) ↔ x = y := by
  constructor
  · rintro ⟨h1, h2⟩
    cases x <;> cases y <;> first | (simp only [It.w] at h1; exact absurd h1 (by decide +kernel)) | (simp only [It.ns, List.cons.injEq, and_true] at h2; simp_all)
  · rintro rfl
    exact ⟨rfl, rfl⟩
theorem It.eqv (x y : It) : PyData.eqv x.d y.d = decide (x = y) := by
  unfold It.d
  rw [tD_eqv]
  exact decide_eq_decide.mpr It.w_inj
theorem It.dp {K : PySem.W.Frag} {H : Hp} {p : Addr} {x : It} (h : SqT K H p x.vs) : Dp K H (.ref p) x.d := tD_dp (by rw [← It.vs_eq]; exact h)
theorem AllQ.itdp {K : PySem.W.Frag} {H : Hp} {ps : List Addr} {xs : List It} (h : AllQ K H It.vs ps xs) : DpAll K H (ps.map V.ref) (xs.map It.d) := by
  induction h with
  | nil => exact .nil
  | cons e _ ih => exact .cons (It.dp e) ih
theorem shaped_its (xs : List It) : SeqAt.shaped (.list (xs.map It.d)) = true := shaped_tDs It.w It.ns (fun x => by cases x <;> (simp only [It.w]; decide +kernel)) xs
theorem shaped_it (x : It) : SeqAt.shaped x.d = true := shaped_tD (by cases x <;> (simp only [It.w]; decide +kernel)) _
def Crs.d (x : Crs) : PyData := tD x.wd x.is
theorem Crs.w_inj {x y : Crs} : (x.wd = y.wd ∧ x.is = y.is) ↔ x = y := by
  constructor
  · rintro ⟨h1, h2⟩
    cases x <;> cases y <;> first | (simp only [Crs.wd] at h1; exact absurd h1 (by decide +kernel)) | (simp only [Crs.is, List.cons.injEq, and_true] at h2; simp_all)
  · rintro rfl
    exact ⟨rfl, rfl⟩
theorem Crs.eqv (x y : Crs) : PyData.eqv x.d y.d = decide (x = y) := by
  unfold Crs.d
  rw [tD_eqv]
  exact decide_eq_decide.mpr Crs.w_inj
theorem Crs.dp {K : PySem.W.Frag} {H : Hp} {p : Addr} {x : Crs} (h : SqT K H p x.vs) : Dp K H (.ref p) x.d := tD_dp (by rw [← Crs.vs_eq]; exact h)
theorem AllAt.rowdp {K : PySem.W.Frag} {H : Hp} {ps : List Addr} {row : List Crs} (h : AllAt H Crs.vs ps row) : DpAll K H (ps.map V.ref) (row.map Crs.d) := by
  induction h with
  | nil => exact .nil
  | cons e _ ih => exact .cons (Crs.dp (SqT.of e)) ih
theorem shaped_row (xs : List Crs) : SeqAt.shaped (.list (xs.map Crs.d)) = true := shaped_tDs Crs.wd Crs.is (fun x => by cases x <;> (simp only [Crs.wd]; decide +kernel)) xs
/-- rows, views compared -/
theorem row_eqv (xs ys : List Crs) : PyData.eqv (.list (xs.map Crs.d)) (.list (ys.map Crs.d)) = decide (xs = ys) := eqvAll_map Crs.eqv xs ys
theorem its_eqv (xs ys : List It) : PyData.eqv (.list (xs.map It.d)) (.list (ys.map It.d)) = decide (xs = ys) := eqvAll_map It.eqv xs ys
end OH
end
section
set_option Elab.async false
set_option linter.all false
set_option maxRecDepth 100000
set_option maxHeartbeats 4000000
/-! An own error whose __init__ says super().__init__(..) and then sets its fields. -/
namespace OH
open PySem PySem.Spec PyProof.Rows L2
/-- the context of such an __init__, in which the class stands as __class__ -/
def cxS (CX : CXT) (P : Program) (w : World) (K : PySem.W.Frag) (mg : Str → Option Value) (base : Heap) (N : List Str) (qual : Str) (scope : Scope) (f : Addr) (cd : Value) (cc : Addr) (A : Around) (outer : List Env) (s : Shared) (H : Hp) (E : XK) : Cx where
  prog := P
  w := w
  K := K
  mg := mg
  base := base
  A := A.deeper (PySem.W.ksEnv qual scope s.heap.objs.size f cd cc)
  N := N
  s_0 := s
  H_0 := H
  env := PySem.W.ksEnv qual scope s.heap.objs.size f cd cc
  outer := outer
  stack := PySem.W.ksEnv qual scope s.heap.objs.size f cd cc :: outer
  ex := []
  calm := true
  fn := fun _ => false
  pn := []
  xe := fun e s' => wpAny (model P w) (A.deeper (PySem.W.ksEnv qual scope s.heap.objs.size f cd cc)) (leaving (PySem.W.ksEnv qual scope s.heap.objs.size f cd cc) e) (fun _ s'' => CX outer H s E e s'') (fun e' s'' => CX outer H s E e' s'') s'
structure ScopeS (N ps : List Str) (sc : Scope) : Prop where
  kind : sc.kind = .function
  co : sc.isCoroutine = false
  gen : sc.isGenerator = false
  nd : N.Nodup
  pre : N.take ps.length = ps
  par : ∀ x ∈ ps, sc.names.lookup x = some .local
  nocell : ∀ y ∈ sc.names, y.2 ≠ .cell
  free : ∀ y ∈ sc.names, y.2 = .free → y.1 = "__class__"
  sup : sc.names.lookup ("super" : Str) = some .globalImplicit
  cls : sc.names.lookup ("__class__" : Str) = some .free
theorem rev_lookup : ∀ {ps : List Str} {us : List Value} {i : Nat} {y : Str} {u : Value}, ps.Nodup → ps[i]? = some y → us[i]? = some u → (ps.zip us).reverse.lookup y = some u
  | [], _, _, _, _, _, h, _ => by simp at h
  | _ :: _, [], _, _, _, _, _, h => by simp at h
  | p :: ps, v :: us, 0, y, u, nd, h1, h2 => by
    simp at h1 h2
    subst h1
    subst h2
    rw [List.zip_cons_cons, List.reverse_cons, List.lookup_append]
    have e : (ps.zip us).reverse.lookup p = none := by
      refine List.lookup_eq_none_iff.mpr fun q hq => ?_
      have hq' := List.mem_reverse.mp hq
      have hm : q.1 ∈ ps := by
        obtain ⟨q1, q2⟩ := q
        exact (List.of_mem_zip hq').1
      have ne : p ≠ q.1 := fun z => (List.nodup_cons.mp nd).1 (z ▸ hm)
      simpa using ne
    rw [e]
    simp [List.lookup]
  | p :: ps, v :: us, i + 1, y, u, nd, h1, h2 => by
    rw [List.zip_cons_cons, List.reverse_cons, List.lookup_append, rev_lookup (i := i) (List.nodup_cons.mp nd).2 (by simpa using h1) (by simpa using h2)]
    rfl
section
variable {CX : CXT} {P : Program} {w : World} {K : PySem.W.Frag} {mg : Str → Option Value} {base : Heap} {N ps : List Str} {qual : Str} {scope : Scope} {f cc : Addr} {cd : Value} {A : Around} {outer : List Env} {s : Shared} {H : Hp} {E : XK} {us : List Value} {vs : List V}
theorem invS_start {h₁ : Heap} {t : Nat} (S : ScopeS N ps scope) (hd : A.handled = none) (e0 : Env0 P w K mg base A outer s H) (hl : vs.length = ps.length) (r : Vals vs us)
    (hcc : ∃ o v, base.get? cc = some o ∧ o.data = .cell v) (hns : h₁.Ns s.heap.objs.size (fun y => (ps.zip us).reverse.lookup y)) (hk : ∀ b o, s.heap.get? b = some o → h₁.get? b = some o) :
    Inv (cxS CX P w K mg base N qual scope f cd cc A outer s H E) [] (L2.start N vs) H { s with heap := h₁, toks := t } := by
  have hpl : ps.length ≤ N.length := by have := congrArg List.length S.pre; rw [List.length_take] at this; omega
  have noA : ∀ b : Addr, b ∉ (cxS CX P w K mg base N qual scope f cd cc A outer s H E).ex := fun b z => absurd (show b ∈ ([] : List Addr) from z) (by simp)
  have one : ∀ {x : Str} {c : Addr}, (cxS CX P w K mg base N qual scope f cd cc A outer s H E).env.cells.lookup x = some c → x = "__class__" ∧ c = cc := fun {x c} h => by
    have h' : List.lookup x [(("__class__" : Str), cc)] = some c := h
    unfold List.lookup at h'
    split at h'
    · rename_i z
      exact ⟨by simpa using z, (Option.some.inj h').symm⟩
    · cases h'
  obtain ⟨oc, vc, hoc, hdc⟩ := hcc
  obtain ⟨hcs, hcH⟩ := e0.bs cc oc hoc
  have cellOk : ∀ x c, (cxS CX P w K mg base N qual scope f cd cc A outer s H E).env.cells.lookup x = some c → ∃ v, h₁.IsCell c v := fun x c h => by
    obtain ⟨_, rfl⟩ := one h
    exact ⟨vc, oc, hk _ _ hcs, hdc⟩
  refine ⟨⟨e0.mod, S.kind, rfl, rfl, Nat.le_refl _, fun y z c h1 h2 => ?_, fun y hy => ?_, fun y c h _ => ?_, fun _ => hd, Around.frames_deeper e0.frames, .inr ⟨rfl, rfl⟩, fun b z => absurd z (noA b), e0.bs, e0.bsz, fun b _ _ => noA b, fun b z => absurd z (noA b), e0.funs, e0.frf⟩,
    rfl, e0.bare, Un.kept hk, ⟨_, hns, fun i y v h1 h2 h3 => ?_⟩, cellOk, e0.hok.fresh (Nat.le_refl _), fun y c h => ?_, fun p hp => absurd (show p ∈ ([] : List (Addr × Obj)) from hp) (by simp), e0.hok.kept hk, ?_⟩
  · exact (one h1).1.trans (one h2).1.symm
  · have hy : scope.names.lookup y = some .cell ∨ scope.names.lookup y = some .free := hy
    rcases hy with hy | hy
    · exact absurd rfl (S.nocell _ (PySem.mem_of_lookup hy))
    · have e := S.free _ (PySem.mem_of_lookup hy) rfl
      have e' : y = "__class__" := e
      subst e'
      exact ⟨cc, by show List.lookup ("__class__" : Str) [(("__class__" : Str), cc)] = some cc; simp [List.lookup]⟩
  · cases h
  · have hi : i < vs.length := by
      unfold L2.start at h2
      by_cases hi : i < vs.length
      · exact hi
      · rw [List.getElem?_append_right (by simpa using hi)] at h2
        rw [List.getElem?_replicate] at h2
        split at h2 <;> cases h2
    have ha : vs[i]? = some v := by
      unfold L2.start at h2
      rw [List.getElem?_append_left (by simpa using hi), List.getElem?_map] at h2
      cases e : vs[i]? with
      | none => rw [e] at h2; cases h2
      | some a => rw [e] at h2; cases h2; rfl
    obtain ⟨u, hu, rv⟩ := r.get ha
    have hp : ps[i]? = some y := by
      rw [← S.pre, List.getElem?_take_of_lt (by omega)]; exact h1
    have ndP : ps.Nodup := by rw [← S.pre]; exact S.nd.sublist (List.take_sublist _ _)
    exact ⟨u, rv, .inl ⟨S.par y (List.mem_of_getElem? hp), rev_lookup ndP hp hu⟩⟩
  · obtain ⟨_, rfl⟩ := one h
    exact hcH
  · unfold L2.start
    show _ = N.length
    rw [List.length_append, List.length_map, List.length_replicate]
    omega
end
/-- such an __init__ as it stands behind the top: of the class at D, its __class__ in the cell at cc -/
structure FunS (P : Program) (K : PySem.W.Frag) (x qual : Str) (st : Stmt) (f : Addr) (fd : FuncData) (D cc : Addr) : Prop where
  ex : ∃ (oc : Value) (od : Option Addr) (kV doc pm : Value) (an : Option Addr) (cda : Addr) (ct : Value) (osl : Array (Option Value)),
    fd = PySem.W.ksFn x qual (defArgs st) (defBody st) (defScope st) .none kV doc pm an (.ref cda) ct cc ∧ K.lookup f = some ⟨oc, od, .func fd, osl⟩ ∧ PySem.W.codeIn K (.ref cda) qual = true ∧
    ∃ (ccl : Value) (cdd : Option Addr) (cvs : Array Value) (ccs : Array (Option Value)) (file : Str) (tf : Tok), K.lookup cda = some ⟨ccl, cdd, .fields cvs, ccs⟩ ∧ cvs[2]? = some (.str file tf) ∧ ((P.main.file : Str) == file) = true
  kp : PySem.W.keepIn K (.ref f) = true
  cell : ∃ cl cld csl, K.lookup cc = some ⟨cl, cld, .cell (some (.ref D)), csl⟩
  self : ∃ ar, ((defArgs st).posonlyargs ++ (defArgs st).args).head? = some ar ∧ ar.arg = "self"
/-- what super() asks of the class -/
structure SupC (P : Program) (K : PySem.W.Frag) (mg : Str → Option Value) (C : Addr) : Prop extends OexC K C where
  mS : mg "super" = none
  top : (P.main.scope.names.lookup ("super" : Str)).isSome = false
  any : PySem.W.nsIn K PySem.cStatics "thirdparty.any" = some none
  up : PySem.W.ks_superIn K C C "__init__" = some (some (.builtin "ValueError.__init__"))
  ve : PySem.W.subIn K (.ref C) (.type "ValueError") = some true
  own : PySem.W.mroIn K C (.ref C) = some true
theorem boot_super : bootBuiltins "super" = some (.type "super") := by decide +kernel
section
variable {X : Cx} {pins : List (Addr × Obj)} {σ : L2.St} {H : Hp} {s : Shared} {a C u : Addr}
/-- the bound built-in __init__ is called -/
theorem call_mw {us : List Value} {Q : Value → Shared → Prop} {E : Value → Shared → Prop} {A : Around} (T : OexC X.K C) (I : Inv X pins σ H s) (hu : s.heap.get? u = some (PySem.W.kxs_mw "ValueError.__init__" a)) (e : H a = some (exo a C none)) (hl : us.length ≤ sizeLine)
    (h : ∀ s', Inv X pins σ H s' → Q .none s') : wpAny (model X.prog X.w) A (call (.ref u) us) Q E s := by
  obtain ⟨nm, q, N, bs, bm, sn, sub, ab, col, dd, k0, k1, k2, k3, k5, hC, hbm⟩ := T.cls
  obtain ⟨t1, ho⟩ := exo_at I.hok e
  have kI := I.kIn
  obtain ⟨hp, g, d, t, os⟩ := s
  refine wpAny_call (codeAny_of_tree ?_)
  show wpAny _ A.in1 (callAny (.ref u) ⟨us, []⟩) _ _ _
  simp only [callAny]
  refine wpAny_bind (wpAny_load hu ?_)
  simp only [PySem.W.kxs_mw, show (Value.type "method-wrapper" == Value.type "method" || Value.type "method-wrapper" == Value.type "builtin_function_or_method" || Value.type "method-wrapper" == Value.type "method-wrapper") = true by decide, if_true]
  refine PySem.W.KFB.if_so (by decide) ?_
  refine wpAny_bind (PySem.W.check_bound_init F.excBase_ValueError.toExcCallFacts (kI _ _ hC) ho rfl ?_)
  refine wpAny_bind (wpAny_pure (wpAny_pure ?_))
  refine ⟨plainId_quiet F.excBase_ValueError.init.plain _, codeAny_builtin F.excBase_ValueError.initEntry ?_⟩
  refine PySem.W.exc_init_tree (cls := .ref C) (t0 := t1) (dv := none) (c2 := .none) (c3 := .none) (b4 := .bool false) ho hl fun h' k hx _ => ?_
  have J := I.write (t' := t) (x := a) (e := a) (o := exo a C none) (by rw [e]; exact True.intro) (.inl rfl) k ⟨_, hx⟩ (exo_ok hx)
  have eu : upd H a (exo a C none) = H := by
    funext b
    by_cases hb : b = a
    · rw [hb, upd_same, e]
    · rw [upd_ne hb]
  rw [eu] at J
  exact h _ J
end
section
variable {P : Program} {w : World} {K : PySem.W.Frag} {mg : Str → Option Value} {base : Heap}
/-- THE RULE for an __init__ that begins with super().__init__(e) -/
theorem FunS.ok {x qual : Str} {st : Stmt} {f C cc : Addr} {fd : FuncData} {N ps : List Str} {k : Nat} {sp : Sp} {e : Expr} {rest : List Stmt} {p0 p1 p2 p3 p4 : Pos} {pl : Env → Sem Bool} (F : FunS P K x qual st f fd C cc) (T : SupC P K mg C) (S : ScopeS N ps (defScope st))
    (hN : N[0]? = some ("self" : Str)) (h0 : ps[0]? = some ("self" : Str)) (hb : defBody st = .Expr (.Call (.Attribute (.Call (.Name "super" p0) [] [] p1) "__init__" p2) [e] [] p3) p4 :: rest) (len : ∀ vs H Q E, sp vs H Q E → vs.length = ps.length)
    (he : ∀ env, starEach [e] env = (false, eval e env) :: starEach [] env)
    (hev : ∀ env, eval (.Call (.Attribute (.Call (.Name "super" p0) [] [] p1) "__init__" p2) [e] [] p3) env = (do
      let ov ← attributeBase (.Call (.Name "super" p0) [] [] p1) "__init__" env (eval (.Call (.Name "super" p0) [] [] p1) env)
      standAt p2.atName
      let (f, first) ← holding [ov] (getMethod ov "__init__" (pl env))
      callWith p3 f first (backTo p3 (starEach [e] env)) []))
    (hi : ∀ L cd, interactive (PySem.W.ksEnv qual (defScope st) L f cd cc) = false) (hs : ∀ L cd, swapsWith (.Call (.Attribute (.Call (.Name "super" p0) [] [] p1) "__init__" p2) [e] [] p3) none p4.line (PySem.W.ksEnv qual (defScope st) L f cd cc) = pure false)
    (hbody : ∀ (cdv : Value) (A : Around) (outer : List Env) (s : Shared) (H : Hp) (vs : List V) (Q : VK) (E : XK), Room k (A.deeper (PySem.W.ksEnv qual (defScope st) s.heap.objs.size f cdv cc)) → sp vs H Q E →
      ∃ (a : Addr) (ta : TA) (t : TS), vs[0]? = some (.ref a) ∧ H a = some (exo a C none) ∧ PA (cxS CX0 P w K mg base N qual (defScope st) f cdv cc A outer s H E) [e] ta ∧ PSs (cxS CX0 P w K mg base N qual (defScope st) f cdv cc A outer s H E) rest t ∧
        ta (L2.start N vs) H fun ws H1 => ws.length ≤ 1000 ∧ H1 a = some (exo a C none) ∧ t { nx := fun _ H' => Q .non H', rt := Q } (L2.start N vs) H1) :
    FnOk P w K mg base CX0 (k + 1) f fd ps sp := by
  obtain ⟨oc, od, kV, doc, pm, an, cda, ct, osl, rfl, lk, hcd, ccl, cdd, cvs, ccs, file, tf, lc, hvs, hfile⟩ := F.ex
  refine ⟨len, fun A outer s H args us vs Q E hr e0 hbd r hsp => ?_⟩
  have keepB : ∀ b o, base.get? b = some o → s.heap.get? b = some o := fun b o z => (e0.bs b o z).1
  have KX : K.In s.heap := e0.mod.kin.keeps keepB
  have lim : s.heap.NoLimit := e0.mod.nolimit.keeps keepB
  obtain ⟨cl, cld, csl, lcc⟩ := F.cell
  obtain ⟨ar, har, hself⟩ := F.self
  refine ks_codeAny_call_defAt (body := defBody st) (binds := ps.zip us) hr.depth (KX _ _ lk) rfl lim (PySem.W.codeRec_of KX hcd) rfl hbd S.nocell (fun y hy => S.par y.1 (by obtain ⟨y1, y2⟩ := y; exact (List.of_mem_zip hy).1)) (fun h₁ hns hk₁ => ?_) S.co S.gen S.kind
  obtain ⟨a, ta, t, hva, hHa, hA, hR, ht⟩ := hbody (.ref cda) A outer s H vs Q E (hr.deeper _) hsp
  have I : Inv (cxS CX0 P w K mg base N qual (defScope st) f (.ref cda) cc A outer s H E) [] (L2.start N vs) H { s with heap := h₁, toks := s.toks + (ps.zip us).length } :=
    invS_start S hr.hd e0 (len _ _ _ _ hsp) r ⟨_, _, e0.mod.kin _ _ lcc, rfl⟩ hns hk₁
  obtain ⟨u0, hu0, rv0⟩ := r.get hva
  obtain rfl : u0 = Value.ref a := rv0
  have ndP : ps.Nodup := by rw [← S.pre]; exact S.nd.sublist (List.take_sublist _ _)
  have hself' : (fun y => (ps.zip us).reverse.lookup y) "self" = some (Value.ref a) := rev_lookup ndP h0 hu0
  have fin : ∀ {s' : Shared} {σ' : L2.St} {H' : Hp} {v : V} {u : Value}, Inv (cxS CX0 P w K mg base N qual (defScope st) f (.ref cda) cc A outer s H E) [] σ' H' s' → L2.RelV v u → Q v H' → CE outer P w H s Q u s' :=
    fun {s' σ' H' v u} J rv q => ⟨v, H', J.os, J.bare, J.base, J.hok, rv, q⟩
  obtain ⟨nm, q0, N0, bs, bm, sn, sub, ab, col, dd, k0, k1, k2, k3, k5, hC, hbm⟩ := T.cls
  have hcl : PySem.W.clsIn K C = some { name := nm, bases := bs, mro := .ref C :: bm, ns := N0, qualname := q0, hasDict := true, slotNames := sn, subclasses := sub, abstract := ab, collection := col, hasDel := false } := by unfold PySem.W.clsIn; rw [hC] <;> rfl
  have hal : PySem.W.alongIn K "__init__" (((.ref C :: bm).dropWhile (· != .ref C)).drop 1) = some (some (.builtin "ValueError.__init__")) := by
    have z := T.up
    unfold PySem.W.ks_superIn at z
    rw [hcl] at z
    exact z
  show PySem.wpAt _ _ _ (execs (defBody st) _) _ _ _
  rw [hb]
  refine ks_wpAt_execs_cons (ks_wpAt_Expr_any (ks_wpAt_MethodCall ?_ (hev _)) (hi _ _) (hs _ _))
  obtain ⟨t1, ho1⟩ := exo_at I.hok hHa
  have kI : K.In h₁ := KX.keeps hk₁
  have hxC : a ≠ C := fun z => by
    have z1 := kI _ _ hC
    rw [← z, ho1] at z1
    cases z1
  obtain ⟨mb, hmb, hmb2⟩ := e0.mod.blt
  have kb : ∀ b o, base.get? b = some o → h₁.get? b = some o := fun b o z => hk₁ b o (keepB b o z)
  refine ks_wpAt_super_base (env := PySem.W.ksEnv qual (defScope st) s.heap.objs.size f (.ref cda) cc) S.sup S.cls rfl rfl (kI _ _ lk) rfl har rfl (kI _ _ lc) rfl hvs hfile T.top ?_
  refine PySem.W.ks_loadName_global S.kind S.sup (Calls.loadGlobal_builtin (env := PySem.W.ksEnv qual (defScope st) s.heap.objs.size f (.ref cda) cc) (e0.mod.glob.keeps kb) T.mS (hmb.keeps kb) ((hmb2 _ (by decide)).trans boot_super) ⟨rfl, ?_⟩)
  refine wpAny_loadName_free S.kind S.cls (c := cc) (v := .ref C) (by show List.lookup ("__class__" : Str) [(("__class__" : Str), cc)] = some cc; simp [List.lookup]) ⟨_, kI _ _ lcc, rfl⟩ ?_
  rw [hself]
  refine wpAny_loadName_local S.kind (S.par "self" (List.mem_of_getElem? h0)) hns hself' ?_
  refine ks_wpAny_isType_cls (kI _ _ hC) rfl ⟨rfl, ?_⟩
  refine ks_wpAny_call_super (kI _ _ hC) rfl ho1 rfl (fun c z => by cases z) (PySem.W.looks_mroIn kI T.own) (fun h2 e2 k2' => ?_)
  have I2 : Inv (cxS CX0 P w K mg base N qual (defScope st) f (.ref cda) cc A outer s H E) [] (L2.start N vs) H ⟨h2, s.gens, s.drawn, s.toks + (ps.zip us).length, s.os⟩ := I.kept (h' := h2) (t' := s.toks + (ps.zip us).length) k2'
  have kI2 : K.In h2 := kI.keeps k2'
  have IA : PySem.W.InstAt h2 a ({ cls := .ref C, dict := none, data := .fields #[.ref t1, .none, .none, .none, .bool false, .none] } : Obj) C none := ⟨k2' _ _ ho1, rfl, rfl, trivial⟩
  refine PySem.W.kxs_getMethod PySem.W.kxs_ValueError e2 (PySem.W.looks_opaque kI2 T.any) (l₀ := .ref C :: bm) ((PySem.W.looks_clsIn kI2 hcl).andThen .now) rfl kI2 hal (IA.type.andThen (PySem.W.looks_subIn kI2 T.ve)) hxC (by decide) ?_
  have I3 : Inv (cxS CX0 P w K mg base N qual (defScope st) f (.ref cda) cc A outer s H E) [] (L2.start N vs) H ⟨h2.push (PySem.W.kxs_mw "ValueError.__init__" a), s.gens, s.drawn, s.toks + (ps.zip us).length + 1, s.os⟩ := I2.kept (h' := h2.push (PySem.W.kxs_mw "ValueError.__init__" a)) (t' := s.toks + (ps.zip us).length + 1) (fun b o z => Heap.get?_push_of_some _ z)
  have hmw : (h2.push (PySem.W.kxs_mw "ValueError.__init__" a)).get? h2.objs.size = some (PySem.W.kxs_mw "ValueError.__init__" a) := Heap.get?_push_size _ rfl
  have I4 : Inv (cxS CX0 P w K mg base N qual (defScope st) f (.ref cda) cc A outer s H E) [(h2.objs.size, PySem.W.kxs_mw "ValueError.__init__" a)] (L2.start N vs) H ⟨h2.push (PySem.W.kxs_mw "ValueError.__init__" a), s.gens, s.drawn, s.toks + (ps.zip us).length + 1, s.os⟩ := by
    refine I3.pins_of fun p hp => ?_
    obtain rfl := List.mem_singleton.mp hp
    refine ⟨hmw, I2.hok.fresh (Nat.le_refl _), fun z => ?_, I2.nofs (Nat.le_refl _), fun v z => nomatch z⟩
    have z1 := I2.lt
    have z' : h2.objs.size = (cxS CX0 P w K mg base N qual (defScope st) f (.ref cda) cc A outer s H E).env.locals := z
    rw [← z'] at z1
    exact absurd z1 (Nat.lt_irrefl _)
  show wpAny _ _ (callWith p3 (.ref h2.objs.size) [] (backTo p3 (starEach [e] _)) []) _ _ _
  rw [he]
  refine PySem.W.kxs_callWith (i := "ValueError.__init__") (x := a) (by rfl) (Calls.evalArgs_plain ?_)
  have hrun := hA.run p3 _ _ _ _ (fun ws H1 => ws.length ≤ 1000 ∧ H1 a = some (exo a C none) ∧ t { nx := fun _ H' => Q .non H', rt := Q } (L2.start N vs) H1) I4 ht
  rw [he] at hrun
  refine thn hrun fun us1 s1 ⟨ws, H1, I5, r1, hl, ea, q⟩ => ?_
  obtain ⟨g1, _⟩ := I5.pin _ (List.mem_append_right _ List.mem_cons_self)
  refine ⟨g1, ?_⟩
  show wpAny _ _ (call (.ref h2.objs.size) us1) _ _ _
  have I6 := I5.pins_of (pins' := []) fun p hp => absurd hp (by simp)
  refine call_mw (X := cxS CX0 P w K mg base N qual (defScope st) f (.ref cda) cc A outer s H E) T.toOexC I6 g1 ea (by rw [← r1.length, sizeLine_eq]; omega) fun s2 J => ?_
  show PySem.wpAt _ _ _ (execs rest _) _ _ _
  refine wpAt_of_wpAny (wpAny_mono (hR.run [] s2 _ H1 _ J q) (fun fl s' hs => ?_) fun e s' hs => hs)
  cases fl with
  | ret u =>
    obtain ⟨v, σ', H', J', rv, q'⟩ := hs
    exact fin J' rv q'
  | next =>
    obtain ⟨σ', H', J', q'⟩ := hs
    exact fin (v := V.non) (u := Value.none) J' rfl q'
  | brk =>
    obtain ⟨_, _, _, q'⟩ := hs
    exact False.elim q'
  | cont =>
    obtain ⟨_, _, _, q'⟩ := hs
    exact False.elim q'
end
end OH
end
section
set_option Elab.async false
set_option linter.all false
set_option maxRecDepth 100000
set_option maxHeartbeats 4000000
/-! An error that a handler keeps, with the dict of its fields. -/
namespace OH
namespace JX
open PySem PySem.W PySem.Spec PySem.Calls PyProof.Rows
section
variable {prog : Program} {w : World} {A : Around} {E : Value → Shared → Prop} {s : Shared} {K : Frag} {x D : Addr} {ox : Obj} {od : Option Obj} {Q : Option Value → Shared → Prop}
/-- what is handed out as the class of an error, whatever its own dict tells -/
theorem class_seen (C : L2.ExcC K D) (kin : K.In s.heap) (at_ : InstAt s.heap x ox D od) (done : Q (some (.ref D)) { s with toks := s.toks + 1 }) : wpAny (model prog w) A (getAttr? (.ref x) "__class__") Q E s := by
  obtain ⟨cd, hcd, _⟩ := any_some C.hd
  have found : findObj K D od "__class__" = some (.bind (.builtin "getset_descriptor.__get__") (.builtin "object.__class__")) := by
    simp [findObj, hcd, C.ha, C.hn, C.ht]
  obtain ⟨hp, g, d, t, os⟩ := s
  have ty := at_.type (M := model prog w)
  have isB : Looks (model prog w) hp (isInstance (.ref x) (.type "BaseException")) true := ty.andThen (looks_subIn kin C.hs)
  have way := looks_findIn (M := model prog w) kin C.hg
  have hook := looks_findIn (M := model prog w) kin C.hk
  have item := looks_find (M := model prog w) kin at_ found
  have ga := PySem.F.excAttr_ValueError.ga
  have inner : ∀ (A : Around) (Q : Value → Shared → Prop) (E : Value → Shared → Prop) (k : Nat), Q (.ref D) ⟨hp, g, d, k, os⟩ → wpAny (model prog w) A (call (.builtin "BaseException.__getattribute__") [.ref x, .str "__class__" t]) Q E ⟨hp, g, d, k, os⟩ := by
    intro A Q E k q
    refine wpAny_call (codeAny_call_builtin ga.plain PySem.F.entry_bexc_ga ?_)
    have kd : builtinKind "BaseException.__getattribute__" = some .slot := by decide +kernel
    have sp : splitId "BaseException.__getattribute__" = some ("BaseException", "__getattribute__") := by decide +kernel
    refine check_slot (i := "BaseException.__getattribute__") (owner := "BaseException") (n := "__getattribute__") (self := .ref x) (rest := [.str "__class__" t]) (kw := []) kd sp isB (PySem.F.args_bexc_ga (.ref x) (.str "__class__" t)) ?_
    unfold Builtin.«object.__getattribute__»
    refine wpAny_bind (wpAny_of_eq (a := ((Value.ref x : Value), [Value.str "__class__" t])) (by first | rfl | (simp only [slotArgs]; rfl)) (wpAny_bind (wpAny_pure ?_)))
    refine wpAny_bind (ty.at (wpAny_bind (item.at (wpAny_bind (wpAny_holding (wpAny_call (class_get (s := ⟨hp, g, d, k, os⟩) kin at_ C.hm ?_)))))))
    exact wpAny_pure q
  have notObj : (onTheHeap (Value.ref D) && Value.builtin "BaseException.__getattribute__" == Value.builtin "object.__getattribute__") = false := by
    have z : (Value.builtin "BaseException.__getattribute__" == Value.builtin "object.__getattribute__") = false := by decide +kernel
    rw [z]
    rfl
  unfold getAttr? getAttrBy? getAttrBy
  refine wpAny_bind (wpAny_mkText (wpAny_bind (wpAny_attempt (wpAny_holding (wpAny_bind (ty.at (wpAny_bind (way.at ?_))))))))
  dsimp only
  rw [if_neg (by rw [notObj]; exact Bool.false_ne_true)]
  unfold getAttrByItsOwn hookBefore callGetattribute boundAndCalled
  rw [if_pos (show onTheHeap (Value.ref D) = true from rfl)]
  refine wpAny_bind (hook.at (wpAny_bind (wpAny_attempt (wpAny_holding ?_))))
  rw [ga.bind (.ref x)]
  refine wpAny_bind (wpAny_pure (inner _ _ _ _ ?_))
  dsimp only
  rw [handedOut_of (v := .ref D) rfl]
  exact wpAny_pure (wpAny_pure done)
theorem kitx_j (C : L2.ExcC K D) : KitX K (.ref x) (.ref D) (fun h => InstAt h x ox D od) := by
  obtain ⟨cd, hcd, _⟩ := any_some C.hd
  obtain ⟨o, lo, ho⟩ : ∃ o, K.lookup D = some o ∧ o.data = .cls cd := by
    unfold clsIn at hcd
    split at hcd
    · rename_i c' d' cd' sl' ho
      cases hcd
      exact ⟨_, ho, rfl⟩
    · cases hcd
  refine ⟨fun _ _ _ I => I.type, fun _ _ kin _ => ?_, fun h tp dd its n sl kin htp => ?_, fun kin I k => class_seen C kin I k⟩
  · intro A' Q' E' s' k q
    unfold isType loadHead
    refine wpAny_bind (wpAny_loadPart (k _ _ (kin _ _ lo)) ?_)
    rw [ho]
    exact wpAny_pure q
  · cases hq : (Value.ref D == Value.ref tp) with
    | false => rfl
    | true =>
      obtain rfl : D = tp := Value.ref.inj (beq_iff_eq.mp hq)
      have z := (kin _ _ lo).symm.trans htp
      cases z
      cases ho
end
end JX
end OH
namespace OH
open PySem PySem.Spec PyProof.Rows L2
/-- an exception object of the class cls, its own dict at d, that some name holds -/
def ExJ (cls : Value) (d : Option Addr) (a : Addr) : HO := .ext fun h => ∃ (oe : Obj) (vs : Array Value), h.get? a = some oe ∧ Zc cls d oe ∧ oe.data = .fields vs
theorem kitx_any {K : PySem.W.Frag} {x D : Addr} {ox : Obj} {od : Option Obj} (C : ExcC K D) : PySem.W.KitX K (.ref x) (.ref D) (fun h => PySem.W.InstAt h x ox D od) :=
  JX.kitx_j C
section
variable {X : Cx} {pins : List (Addr × Obj)} {σ : L2.St} {H : Hp} {s : Shared}
/-- what a handler that keeps its error wishes of an error of the body -/
def wKeepJ (K : PySem.W.Frag) (c : Value) (i : Nat) (ts : Addr → Value → TS) (D : Ends) : WX := fun cls d σ H =>
  PySem.W.exmOne K cls c = some true ∧ ∀ a, H a = none →
    ts a cls { nx := fun σ' H' => D.nx (σ'.set i none) (upd H' a (ExJ cls d a)), rt := fun _ _ => False, bk := fun _ _ => False, ct := fun _ _ => False } (σ.set i (some (.ref a))) H
variable {x n : Str} {c : Value} {i : Nat} {body suite : List Stmt} {b₀ : Stmt} {np pos pos' : Pos} {tb : WX → TS} {ts : Addr → Value → TS}
/-- try: body / except x as n: suite, behind which the error is held -/
theorem ps_try_keepJ (hs : X.stack = X.env :: X.outer) (hf : X.env.frame = some X.env.locals) (hex : X.ex = []) (hN : X.N.Nodup) (hi : X.N[i]? = some n)
    (hln : X.env.kindOf n = some .local) (hc : Names X x c)
    (hb : ∀ (W : WX) (pn : List (Addr × Obj)) (xe : Value → Shared → Prop), Takes (X.tr pn xe) W → PassesOwn (model X.prog X.w) X.A X.env xe → PSs (X.tr pn xe) body (tb W))
    (hsu : ∀ (a : Addr) (oe : Obj) (cls : Value) (d : Option Addr) (pn : List (Addr × Obj)), Zc cls d oe → (∃ vs, oe.data = .fields vs) → PSs (X.suite a ((a, oe) :: pn)) (b₀ :: suite) (ts a cls)) :
    PS X (.Try body [.ExceptHandler (some (.Name x np)) (some n) (b₀ :: suite) pos'] [] [] pos) (fun D σ H => tb (wKeepJ X.K c i ts D) D σ H) := by
  constructor
  intro pins s σ H D I h
  have ok := I.ok
  have frm : X.A.frames = some (X.env :: X.outer) := ok.frames.trans (by rw [hs])
  apply wpAny_Try_except
  refine wpAny_mono ((hb (wKeepJ X.K c i ts D) (X.pn ++ pins)
    (fun e s₁ => wpAny (model X.prog X.w) X.A (noteFrame e X.env)
      (fun _ s₂ => wpAny (model X.prog X.w) X.A (setFlight e none)
        (fun _ s₃ => wpAny (model X.prog X.w) X.A (handleBy e X.env [.ExceptHandler (some (.Name x np)) (some n) (b₀ :: suite) pos']) (SP X pins D) X.xe s₃) X.xe s₂) X.xe s₁)
    ?took PassesOwn.looking).run [] s σ H D (I.toTry _) h) ?went (fun _ _ he => he)
  case went =>
    rintro (_ | _ | _ | u) s1 hsp
    · obtain ⟨σ', H', J, q⟩ := hsp
      exact wpAny_execs_nil ⟨σ', H', J.ofTry ok, q⟩
    · obtain ⟨σ', H', J, q⟩ := hsp
      exact ⟨σ', H', J.ofTry ok, q⟩
    · obtain ⟨σ', H', J, q⟩ := hsp
      exact ⟨σ', H', J.ofTry ok, q⟩
    · obtain ⟨v, σ', H', J, r, q⟩ := hsp
      exact ⟨v, σ', H', J.ofTry ok, r, q⟩
  case took =>
    rintro u s' ⟨a, B, sI, pins', σ', H', cls, d, rfl, J', nb, up, sky, na, os, ag, hm1, hyes⟩
    have J : Inv X pins σ' H' sI := J'.ofTry ok
    rw [show (X.tr (X.pn ++ pins) _).stack = X.env :: X.outer from hs] at sky
    show wpAny (model X.prog X.w) X.A (noteFrame (.ref a) X.env) _ _ _
    refine Sky.land Zc.steady frm hf sky fun h3 fl3 up3 => ?_
    obtain ⟨oe3, vs3, he3, hz3, hd3⟩ := fl3.there
    have Ba : B.get? a = none := fl3.2.1
    have aNf : a ∉ frs (X.env :: X.outer) := fun hm => by
      obtain ⟨_, o', e', hnf⟩ := fl3.2.2.1.mem hm
      rw [he3] at e'
      cases e'
      exact hnf _ hd3
    have aNs : a ∉ frs X.stack := by
      rw [hs]
      exact aNf
    have nL : a ≠ X.env.locals := fun z => aNf (List.mem_filterMap.mpr ⟨X.env, List.mem_cons_self, hf.trans (congrArg some z.symm)⟩)
    have nF : a ∉ X.fs := fun hm => by
      obtain ⟨en, he, q⟩ := List.mem_filterMap.mp hm
      exact aNf (List.mem_filterMap.mpr ⟨en, List.mem_cons_of_mem _ he, q⟩)
    have gI : sI.heap.get? a = none := by
      cases e : sI.heap.get? a with
      | none => rfl
      | some o => exact absurd ((nb a o e aNs).symm.trans Ba) (fun z => nomatch z)
    have g0 : X.s_0.heap.get? a = none := by
      cases e : X.s_0.heap.get? a with
      | none => rfl
      | some o =>
        obtain ⟨o', q⟩ := J.base.there a o e (by rw [hex]; exact List.not_mem_nil)
        rw [gI] at q
        cases q
    have pNa : ∀ p ∈ X.pn ++ pins, p.1 ≠ a := fun p hp z => by
      have q := (J.pin p hp).1
      rw [z, gI] at q
      cases q
    have J3 : Inv X pins σ' H' { s' with heap := h3 } := J.landed nb fl3.1 (up.trans up3) os ag
    have S3 := J3.suite he3 hd3 na nL nF
    refine wpAny_handleBy_cons (codeAny_handlers_test ?_) (by intro q; cases q)
    have tyA : PySem.W.Looks (model X.prog X.w) h3 (typeOf (.ref a)) cls := fun A Q E s k q => wpAny_typeOf_ref (k _ _ he3) (by rw [hz3.1]; exact q)
    have fit := PySem.W.exm_one (M := model X.prog X.w) J3.kIn tyA hm1
    have named : ∀ {Q : Value → Shared → Prop} {E : Value → Shared → Prop}, Q c { s' with heap := h3 } →
        wpAny (model X.prog X.w) (X.A.mark (some (.ref a))) (eval (.Name x np) X.env) Q E { s' with heap := h3 } := fun {Q E} q => by
      obtain ⟨hg, hdbg, hm | ⟨hm, hv, hnn⟩⟩ := hc
      · exact ld_glob (X := X.suite a ((a, oe3) :: (X.pn ++ pins))) S3 hg hm q hdbg
      · exact ld_blt (X := X.suite a ((a, oe3) :: (X.pn ++ pins))) S3 hg hm hv q hnn hdbg
    refine named (fit.here ?_)
    refine codeAny_handlers_suite_as ?_
    refine HandSPX.lands_againZ fl3 fun h4 fl4 up4 => ?_
    obtain ⟨oe4, vs4, he4, hz4, hd4⟩ := fl4.there
    have J4 : Inv X pins σ' H' { s' with heap := h4 } := J.landed nb fl4.1 ((up.trans up3).trans up4) os ag
    have S4 := J4.suite he4 hd4 na nL nF
    refine store_ok (X := X.suite a ((a, oe4) :: (X.pn ++ pins))) (v := .ref a) S4 hN hi (Or.inl hln) rfl (fun s5 S5 => ?_) (.inr hln)
    refine wpAny_mono ((hsu a oe4 cls d (X.pn ++ pins) hz4 ⟨_, hd4⟩).run [] s5 _ H' _ S5 (hyes a na)) ?_ (fun _ _ z => False.elim z)
    rintro (_ | _ | _ | u) s6 hsp
    · obtain ⟨σ6, H6, S6, q6⟩ := hsp
      obtain ⟨g6, n6, _⟩ := S6.pin (a, oe4) (List.mem_append_left _ List.mem_cons_self)
      have T6 := track (o := ExJ cls d a) (S6.unsuite ok) g6 n6 g0 nL (fun v z => nomatch (hd4.symm.trans z)) pNa
        ⟨⟨oe4, vs4, g6, hz4, hd4⟩, ⟨oe4, g6⟩, fun _ _ ⟨o, v, q, r⟩ k => ⟨o, v, k o q, r⟩⟩
      exact gone_ok T6 hN hi hln fun s7 J7 => ⟨_, _, J7, q6⟩
    all_goals
      first
        | (obtain ⟨_, _, _, q6⟩ := hsp; exact False.elim q6)
        | (obtain ⟨_, _, _, _, _, q6⟩ := hsp; exact False.elim q6)
/-- told: found = None / try: a() / except x as e: found = e / return found -/
def TTj (K : PySem.W.Frag) (CS : Addr) : (XK → Hp → VK → Prop) → Hp → VK → Prop := fun tl H Q => ∀ Q' : VK, (∀ v H1, Q .non H1 → Q' v H1) →
  tl (fun cls d H' => PySem.W.exmOne K cls (.ref CS) = some true ∧ ∀ a, H' a = none → Q (.ref a) (upd H' a (ExJ cls d a))) H Q'
/-- what is at a: an error of the class D that is held, its dict with what fs tells (none: it has none) -/
def Held (H : Hp) (a D : Addr) (fs : Option (List (Str × V))) : Prop := match fs with
  | none => H a = some (ExJ (.ref D) none a)
  | some l => ∃ d, H a = some (ExJ (.ref D) (some d) a) ∧ H d = some (.xd l)
theorem held_inst {a D : Addr} {fs : Option (List (Str × V))} (I : Inv X pins σ H s) (h : Held H a D fs) : ∃ (oe : Obj) (od : Option Obj), PySem.W.InstAt s.heap a oe D od ∧
    ∀ l, fs = some l → ∃ (o : Obj) (mA : Str → Option Value), od = some o ∧ (∀ f, RelO (l.lookup f) (mA f)) ∧ ∀ name, PySem.W.lookIn name o = some (mA name) := by
  cases fs with
  | none =>
    obtain ⟨⟨oe, vs, g, hz, hd⟩, _, _⟩ := I.hok a _ h
    obtain ⟨oc, od, oda, osl⟩ := oe
    obtain ⟨z1, z2⟩ := hz
    dsimp only at z1 z2 hd
    subst z1 z2 hd
    exact ⟨_, none, ⟨g, rfl, rfl, trivial⟩, fun l z => nomatch z⟩
  | some l =>
    obtain ⟨d, ha, hd'⟩ := h
    obtain ⟨⟨oe, vs, g, hz, hd⟩, _, _⟩ := I.hok a _ ha
    have hx : ObjOk X.prog X.w H s.heap d (.xd l) := I.hok d _ hd'
    obtain ⟨mA, hns, hr⟩ := hx
    obtain ⟨od1, ho, hl⟩ := lookIn_ns hns
    obtain ⟨oc, od, oda, osl⟩ := oe
    obtain ⟨z1, z2⟩ := hz
    dsimp only at z1 z2 hd
    subst z1 z2 hd
    refine ⟨_, some od1, ⟨g, rfl, rfl, ho⟩, fun l' z => ?_⟩
    cases z
    exact ⟨od1, mA, rfl, hr, hl⟩
/-- isinstance(e, c), e an error that is held -/
theorem call_isJ {D : Addr} {fs : Option (List (Str × V))} (C : ExcC X.K D) : CallR X (.builtin "isinstance") (fun xs H Q => ∃ (a : Addr) (c : V) (cv : Value) (b : Bool),
    xs = [.ref a, c] ∧ Held H a D fs ∧ (∀ u, RelV c u → u = cv) ∧ PySem.W.kitOne X.K (.ref D) cv = some b ∧ Q (.bl b) H) := by
  rintro pins s σ H xs us Q I r ⟨a, c, cv, b, rfl, hA, hcv, e, q⟩
  obtain ⟨oe, od, J, _⟩ := held_inst I hA
  rcases r with _ | ⟨rx, rr⟩
  rcases rr with _ | ⟨rt, rr⟩
  cases rr
  obtain rfl : _ = Value.ref a := rx
  obtain rfl := hcv _ rt
  exact PySem.W.kia_one (kitx_any (od := od) C) I.kIn J e (fun z => nomatch z)
    fun tk => ⟨.bl b, H, I.kept (t' := tk) fun _ _ z => z, rfl, q⟩
/-- what a class of errors must say, so that a field f of its objects is read rightly -/
structure ExcF (K : PySem.W.Frag) (D : Addr) (f : Str) : Prop where
  ga : PySem.W.findIn K (.ref D) "__getattribute__" = some (some (.builtin "BaseException.__getattribute__"))
  gg : PySem.W.findIn K (.ref D) "__getattr__" = some none
  ex : PySem.W.subIn K (.ref D) (.type "BaseException") = some true
  hd : PySem.W.hasDictIn K D = true
  no : PySem.W.findIn K (.ref D) f = some none
/-- e.f, e an error that is held -/
def tHeld (D : Addr) (f : Str) (te : TE) : TE := fun σ H Q => te σ H fun x H1 => ∃ (a : Addr) (l : List (Str × V)) (v : V), x = .ref a ∧ Held H1 a D (some l) ∧ l.lookup f = some v ∧ Q v H1
theorem pe_heldf {D : Addr} {e : Expr} {f : Str} {te : TE} {pos : Pos} (T : ExcF X.K D f) (he : PE X e te) (hb : attributeBase e f X.env (eval e X.env) = eval e X.env := by rfl) : PE X (.Attribute e f pos) (tHeld D f te) := by
  refine ⟨fun pins s σ H Q I h => ?_⟩
  refine attr_of hb (thn (he.run pins s σ H _ I h) fun u s1 hh => ?_)
  obtain ⟨x, H1, I1, rx, a, l, v, ex, hA, hv, q⟩ := hh
  subst ex
  obtain rfl : u = Value.ref a := rx
  obtain ⟨oe, od, J, hJ⟩ := held_inst I1 hA
  obtain ⟨o, mA, rfl, hr, hl⟩ := hJ l rfl
  obtain ⟨u, hu, ru⟩ := RelO.some_of (v := v) (o := mA f) (by rw [← hv]; exact hr f)
  exact PySem.HandSPX.exc_get I1.kIn J T.ga T.gg T.ex (PySem.W.findObj_own T.hd T.no rfl (by rw [hl, hu])) (handed_of ru) ⟨v, H1, I1.tok _, ru, q⟩
/-- {x}: a text, an int, a bool or None, as a text -/
inductive FmtAs : V → Str → Prop where
  | str (y : Str) (h : y.length ≤ sizeLine) : FmtAs (.str y) y
  | int (i : Int) (h : i.natAbs.log2 < 1920) : FmtAs (.int i) (toString i)
  | non : FmtAs .non "None"
  | bl (b : Bool) : FmtAs (.bl b) (if b then "True" else "False")
def tFmtA (te : TE) : TE := fun σ H Q => te σ H fun x H1 => ∃ y : Str, FmtAs x y ∧ Q (.str y) H1
theorem pe_fmtA {e : Expr} {te : TE} {pos : Pos} (he : PE X e te) : PE X (.FormattedValue e (-1) none pos) (tFmtA te) := by
  refine ⟨fun pins s σ H Q I h => ?_⟩
  refine wpAny_FormattedValue_plain (thn (he.run pins s σ H _ I h) fun v s1 hv => ?_)
  obtain ⟨x, H1, I1, r1, y, f, q⟩ := hv
  cases f with
  | str y hz =>
    obtain ⟨t, rfl⟩ := r1
    exact wpAny_formatField_str ⟨.str y, H1, I1, ⟨t, rfl⟩, q⟩ ⟨.str y, H1, I1.tok _, ⟨_, rfl⟩, q⟩ hz
  | int i hz =>
    obtain ⟨t, rfl⟩ := r1
    exact wpAny_formatField_int hz ⟨.str (toString i), H1, I1.tok _, ⟨_, rfl⟩, q⟩
  | non =>
    cases r1
    exact wpAny_formatField_none ⟨.str "None", H1, I1.tok _, ⟨_, rfl⟩, q⟩
  | bl b =>
    cases r1
    exact wpAny_formatField_bool ⟨.str (if b then "True" else "False"), H1, I1.tok _, ⟨_, rfl⟩, q⟩
end
end OH
namespace OH
open PySem PySem.Spec PyProof.Rows L2
/-! Making such an error. -/
def FmtV (v : V) : Prop := ∃ y, FmtAs v y ∧ y.length ≤ 100000
structure ErrF (P : Program) (K : PySem.W.Frag) (mg : Str → Option Value) (x f : Str) (C : Addr) : Prop where
  g : mg x = some (.ref C)
  s : SupC P K mg C
  i : ExcC K C
  no : PySem.W.findIn K (.ref C) f = some none
theorem ErrF.f {P : Program} {K : PySem.W.Frag} {mg : Str → Option Value} {x f : Str} {C : Addr} (T : ErrF P K mg x f C) : ExcF K C f := ⟨T.i.hg, T.i.hk, T.i.hs, T.i.hd, T.no⟩
/-- what __init__(self, v) with one field f does -/
def spErr1 (C : Addr) (f : Str) : Sp := fun vs H Q _ => ∃ (a : Addr) (v : V), vs = [.ref a, v] ∧ FmtV v ∧ H a = some (exo a C none) ∧
  ∀ dx, H dx = none → dx ≠ a → Q .non (upd (upd H dx (exd dx [(f, v)])) a (exo a C (some dx)))
section
variable {X : Cx} {C fI : Addr} {x f : Str} {e : Expr} {ta : TA} {p pos : Pos} {fd : FuncData}
/-- a reading whose end may be weakened -/
def tUp (ta : TA) : TA := fun σ H Q => ∃ R, ta σ H R ∧ ∀ vs H1, R vs H1 → Q vs H1
theorem pa_up {es : List Expr} (ha : PA X es ta) : PA X es (tUp ta) := ⟨fun pos pins s σ H Q I ⟨R, h, k⟩ => thn (ha.run pos pins s σ H R I h) fun us s1 ⟨vs, H1, I1, r, q⟩ => ⟨vs, H1, I1, r, k vs H1 q⟩⟩
def tMk1 (C : Addr) (f : Str) (ta : TA) : L2.St → Hp → XK → Prop := fun σ H Q => ta σ H fun vs H1 => ∃ v, vs = [v] ∧ FmtV v ∧ ∀ d, H1 d = none → Q (.ref C) (some d) (upd H1 d (.xd [(f, v)]))
theorem pmk_err1 (T : ErrF X.prog X.K X.mg x f C) (iC : PySem.W.findIn X.K (.ref C) "__init__" = some (some (.ref fI))) (tI : PySem.W.typeIn X.K (.ref fI) = some (.type "function"))
    (F1 : FnOk X.prog X.w X.K X.mg X.base CX0 1 fI fd ["self", f] (spErr1 C f)) (hr : Room 2 X.A) (hb : Binds X.K fd ["self", f] []) (hg : Gl X x) (ha : PA X [e] ta)
    (hdb : (x == ("__debug__" : Str)) = false := by decide) (he : starEach [e] X.env = (false, eval e X.env) :: starEach [] X.env := by rfl) (hpl : (backTo pos (starEach [] X.env)).any (·.1) = false := by rfl) :
    PMk X (.Call (.Name x p) [e] [] pos) (tMk1 C f ta) := by
  intro pins s σ H Q I h
  refine pmk_oex (pos := pos) T.s.toOexC iC tI F1 hr hb .nil pass0 hg T.g (pa_up ha) hdb he hpl pins s σ H Q I ⟨_, h, fun vs H1 hv => ?_⟩
  obtain ⟨v, rfl, fm, q⟩ := hv
  refine ⟨by show 1 ≤ 1000; omega, fun a na => ⟨a, v, rfl, fm, upd_same, fun dx n1 n2 => ⟨rfl, dx, [(f, v)], upd_same, (upd_ne n2).trans upd_same, ?_, ?_⟩⟩⟩
  · rw [upd_ne n2] at n1
    exact n1
  · have n0 : H1 dx = none := by
      rw [upd_ne n2] at n1
      exact n1
    have eh : upd (L2.del (upd (upd (upd H1 a (exo a C none)) dx (exd dx [(f, v)])) a (exo a C (some dx))) a) dx (.xd [(f, v)]) = upd H1 dx (.xd [(f, v)]) := by
      funext b
      by_cases h1 : b = dx
      · rw [h1, upd_same, upd_same]
      · rw [upd_ne h1, upd_ne h1]
        by_cases h2 : b = a
        · rw [h2, L2.del_same, na]
        · rw [L2.del_ne h2, upd_ne h2, upd_ne h1, upd_ne h2]
    have eh' : _ = _ := eh
    rw [eh']
    exact q dx n0
end
end OH
end
section
set_option Elab.async false
set_option linter.all false
set_option maxRecDepth 100000
set_option maxHeartbeats 4000000
/-! What the law says of control and asks. -/
namespace OH
open PySem PySem.Spec PyProof.Rows L2
theorem cutV_pop (xs : List V) : cutV xs none (some (-1)) = xs.dropLast := by
  unfold cutV
  have e1 : HT.sIx xs.length 0 none = 0 := by simp [HT.sIx]
  have e2 : HT.sIx xs.length xs.length (some (-1)) = xs.length - 1 := by
    show (if (-1 : Int) < 0 then ((-1 : Int) + (xs.length : Int)).toNat else min (-1 : Int).toNat xs.length) = _
    rw [if_pos (by decide)]
    omega
  rw [e1, e2, List.drop_zero, Nat.sub_zero, List.dropLast_eq_take]
def AkAt (H : Hp) (l : Addr) (as : List (Int × Int)) : Prop := ∃ ps : List Addr, H l = some (.lst (ps.map V.ref)) ∧ AllAt H pairV ps as
theorem AkAt.same {H H' : Hp} {l : Addr} {as : List (Int × Int)} (h : AkAt H l as) (s : Same H H') : AkAt H' l as := by
  obtain ⟨ps, h1, h2⟩ := h
  exact ⟨ps, s _ _ h1, h2.mono fun q xs e => s _ _ e⟩
theorem AllAt.drop_ {α : Type} {H : Hp} {f : α → List V} : ∀ {xs : List α} {ps : List Addr}, AllAt H f ps xs → AllAt H f ps.dropLast xs.dropLast
  | [], _, h => by
    cases h
    exact .nil
  | [a], _, h => by
    cases h with
    | cons e t =>
      cases t
      exact .nil
  | a :: b :: r, _, h => by
    cases h with
    | cons e t =>
      cases t with
      | cons e2 t2 => exact .cons e (AllAt.drop_ (xs := b :: r) (.cons e2 t2))
def spBehind (K : PySem.W.Frag) : Sp := fun vs H Q _ => ∃ (cv : V) (al t : Addr) (c : Option Int) (as : List (Int × Int)) (x : Crs), vs = [cv, .ref al, .ref t] ∧ AkAt H al as ∧ H t = some (.tup x.vs) ∧ as.length ≤ 100000 ∧
  ∀ u al' H', Same H H' → H u = none → (al' = al ∨ H al' = none) → H' u = some (.tup [optV (bh (c, as) x).1, .ref al']) → AkAt H' al' (bh (c, as) x).2 → Q (.ref u) H'
section
variable {P : Program} {w : World} {K : PySem.W.Frag} {mg : Str → Option Value} {base : Heap}
theorem sc__law_behind : FnScope ["control", "asks", "crossing"] ["control", "asks", "crossing"] (defScope s__law_behind) := ⟨rfl, rfl, rfl, by decide +kernel, rfl, by decide +kernel, by decide +kernel⟩
theorem ok__law_behind {f : Addr} {fd : FuncData} (F : Fun K "_law_behind" "_law_behind" s__law_behind f fd) : FnOk P w K mg base CX0 1 f fd ["control", "asks", "crossing"] (spBehind K) := by
  refine F.ok sc__law_behind (fun vs H Q E h => ?_) (fun cdv A outer s H vs Q E hr h => ?_)
  · obtain ⟨cv, al, t, c, as, x, rfl, _⟩ := h
    rfl
  · obtain ⟨cv, al, t, c, as, x, rfl, ha, ht, hn, k⟩ := h
    refine ⟨_, pss_cons (ps_if (pt_cmpR op_eq (pe_ix ix_tup (pv 2) pe_int (fun _ _ => rfl)) pe_str (nomark _)) (pss_one (ps_ret (pe_tup (pa_cons (pe_ix ix_tup (pv 2) pe_int (fun _ _ => rfl)) (pa_cons (pe_op op_cat (pv 1) (pe_lst (pa_cons (pe_tup (pa_cons (pe_ix ix_tup (pv 2) pe_int (fun _ _ => rfl)) (pa_cons (pe_ix ix_tup (pv 2) pe_int (fun _ _ => rfl)) pa_nil))) pa_nil))) pa_nil))))) pss_nil)
      (pss_cons (ps_if (pt_cmpR op_eq (pe_ix ix_tup (pv 2) pe_int (fun _ _ => rfl)) pe_str (nomark _)) (pss_one (ps_ret (pe_tup (pa_cons (pe_ix ix_tup (pv 2) pe_int (fun _ _ => rfl)) (pa_cons (pe_slice sl_list (pv 1) po_none (po_some (pe_un un_neg pe_int))) pa_nil))))) pss_nil)
      (pss_one (ps_ret (pe_tup (pa_cons (pe_ifExp (pt_cmpR op_eq (pe_ix ix_tup (pv 2) pe_int (fun _ _ => rfl)) pe_str (nomark _)) pe_int pe_non) (pa_cons (pv 1) pa_nil)))))), ?_⟩
    obtain ⟨ps, a1, a2⟩ := ha
    have lp := a2.len
    have T : SqT K H t x.vs := SqT.of ht
    have keep : ∀ {v : V} {w0 : Option Int}, v = optV w0 → (bh (c, as) x) = (w0, as) → ∀ u, H u = none → Q (.ref u) (upd H u (.tup [v, .ref al])) := fun {v w0} e1 e2 u nu => by
      have s1 := sadd (o := .tup [v, .ref al]) (Same.refl H) nu
      exact k u al _ s1 nu (.inl rfl) (by rw [e2, upd_same, e1]) (by rw [e2]; exact ⟨ps, s1 _ _ a1, a2.mono fun q xs e => s1 _ _ e⟩)
    cases x with
    | call a b d n =>
      refine ⟨_, rfl, t, _, 0, _, rfl, rfl, T, rfl, rfl, _, rfl, iteT ?_⟩
      refine ⟨_, rfl, t, _, 2, _, rfl, rfl, T, rfl, _, rfl, _, rfl, t, _, 1, _, rfl, rfl, T, rfl, _, rfl, t, _, 2, _, rfl, rfl, T, rfl, (by show 2 ≤ sizeLine; decide), fun pq npq => ?_⟩
      have s1 := sadd (o := .tup [.int a, .int b]) (Same.refl H) npq
      have hpq : upd H pq (.tup [.int a, .int b]) pq = some (.tup (pairV (a, b))) := upd_same
      generalize upd H pq (.tup [.int a, .int b]) = H1 at s1 hpq ⊢
      refine ⟨(by show 1 ≤ sizeLine; decide), fun la nla => ?_⟩
      have s2 := sadd (o := .lst [.ref pq]) s1 nla
      have s12 := sadd (o := .lst [.ref pq]) (Same.refl H1) nla
      have hla : upd H1 la (.lst [.ref pq]) la = some (.lst [.ref pq]) := upd_same
      have hp2 := s12 _ _ hpq
      generalize upd H1 la (.lst [.ref pq]) = H2 at s2 hla hp2 ⊢
      refine ⟨al, la, _, _, rfl, rfl, s2 _ _ a1, hla, (by rw [List.length_map, lp, sizeLine_eq]; show _ + 1 ≤ _; omega), fun ca nca => ?_⟩
      have s3 := sadd (o := .lst (ps.map V.ref ++ [.ref pq])) s2 nca
      have s23 := sadd (o := .lst (ps.map V.ref ++ [.ref pq])) (Same.refl H2) nca
      have hca : upd H2 ca (.lst (ps.map V.ref ++ [.ref pq])) ca = some (.lst ((ps ++ [pq]).map V.ref)) := by rw [upd_same, List.map_append]; rfl
      have hp3 := s23 _ _ hp2
      generalize upd H2 ca (.lst (ps.map V.ref ++ [.ref pq])) = H3 at s3 hca hp3 ⊢
      refine ⟨(by show 2 ≤ sizeLine; decide), fun u nu => ?_⟩
      have s4 := sadd (o := .tup [.int b, .ref ca]) s3 nu
      have s34 := sadd (o := .tup [.int b, .ref ca]) (Same.refl H3) nu
      exact k u ca _ s4 (s3.free nu) (.inr (s2.free nca)) upd_same ⟨ps ++ [pq], s34 _ _ hca, AllAt.app (a2.mono fun q xs e => s4 _ _ e) (s34 _ _ hp3)⟩
    | back a b n =>
      refine ⟨_, rfl, t, _, 0, _, rfl, rfl, T, rfl, rfl, _, rfl, iteF ?_⟩
      refine ⟨_, rfl, t, _, 0, _, rfl, rfl, T, rfl, rfl, _, rfl, iteT ?_⟩
      refine ⟨_, rfl, t, _, 2, _, rfl, rfl, T, rfl, _, rfl, _, rfl, _, rfl, al, _, rfl, SqL.of a1, fun r nr => ?_⟩
      rw [cutV_pop]
      have s1 := sadd (o := .lst (ps.map V.ref).dropLast) (Same.refl H) nr
      have hr1 : upd H r (.lst (ps.map V.ref).dropLast) r = some (.lst (ps.dropLast.map V.ref)) := by rw [upd_same, List.map_dropLast]
      generalize upd H r (.lst (ps.map V.ref).dropLast) = H1 at s1 hr1 ⊢
      refine ⟨(by show 2 ≤ sizeLine; decide), fun u nu => ?_⟩
      have s2 := sadd (o := .tup [.int b, .ref r]) s1 nu
      have s12 := sadd (o := .tup [.int b, .ref r]) (Same.refl H1) nu
      exact k u r _ s2 (s1.free nu) (.inr nr) upd_same ⟨ps.dropLast, s12 _ _ hr1, (a2.mono fun q xs e => s2 _ _ e).drop_⟩
    | start n =>
      refine ⟨_, rfl, t, _, 0, _, rfl, rfl, T, rfl, rfl, _, rfl, iteF ?_⟩
      refine ⟨_, rfl, t, _, 0, _, rfl, rfl, T, rfl, rfl, _, rfl, iteF ?_⟩
      refine ⟨_, rfl, t, _, 0, _, rfl, rfl, T, rfl, rfl, _, rfl, iteT ?_⟩
      exact ⟨_, rfl, (by show 2 ≤ sizeLine; decide), keep (w0 := some 0) rfl rfl⟩
    | _ =>
      refine ⟨_, rfl, t, _, 0, _, rfl, rfl, T, rfl, rfl, _, rfl, iteF ?_⟩
      refine ⟨_, rfl, t, _, 0, _, rfl, rfl, T, rfl, rfl, _, rfl, iteF ?_⟩
      refine ⟨_, rfl, t, _, 0, _, rfl, rfl, T, rfl, rfl, _, rfl, iteF ?_⟩
      exact ⟨_, rfl, (by show 2 ≤ sizeLine; decide), keep (w0 := none) rfl rfl⟩
end
end OH
end
section
set_option Elab.async false
set_option linter.all false
set_option maxRecDepth 100000
set_option maxHeartbeats 4000000
/-! Control and asks behind a row. -/
namespace OH
open PySem PySem.Spec PyProof.Rows L2
theorem stt_len : ∀ (cs : List Crs) (s : Rs), (stt s cs).2.length ≤ s.2.length + cs.length
  | [], s => Nat.le_refl _
  | x :: xs, s => by
    have h1 := stt_len xs (bh s x)
    have h2 : (bh s x).2.length ≤ s.2.length + 1 := by
      cases x with
      | call a b d n => show (s.2 ++ [(a, b)]).length ≤ _; rw [List.length_append]; exact Nat.le_refl _
      | back a b n => show (s.2.dropLast).length ≤ _; rw [List.length_dropLast]; omega
      | _ => exact Nat.le_succ _
    show (stt (bh s x) xs).2.length ≤ _
    rw [List.length_cons]
    omega
def spBehindRow : Sp := fun vs H Q _ => ∃ (l : Addr) (cs : List Crs), vs = [.ref l] ∧ RwAt H l cs ∧ cs.length ≤ 1000 ∧
  ∀ u al' H', Same H H' → H u = none → H al' = none → H' u = some (.tup [optV (stt (none, []) cs).1, .ref al']) → AkAt H' al' (stt (none, []) cs).2 → Q (.ref u) H'
section
variable {P : Program} {w : World} {K : PySem.W.Frag} {mg : Str → Option Value} {base : Heap}
abbrev nBr : List Str := ["row", "control", "asks", "crossing"]
theorem sc__law_behind_row : FnScope nBr ["row"] (defScope s__law_behind_row) := ⟨rfl, rfl, rfl, by decide +kernel, rfl, by decide +kernel, by decide +kernel⟩
theorem ok__law_behind_row {f : Addr} {fd : FuncData} (F : Fun K "_law_behind_row" "_law_behind_row" s__law_behind_row f fd) (DB : DefF P w K mg base CX0 1 "_law_behind" ["control", "asks", "crossing"] (spBehind K)) : FnOk P w K mg base CX0 2 f fd ["row"] spBehindRow := by
  refine F.ok sc__law_behind_row (fun vs H Q E h => ?_) (fun cdv A outer s H vs Q E hr h => ?_)
  · obtain ⟨l, cs, rfl, _⟩ := h
    rfl
  · obtain ⟨l, cs, rfl, hl, hn, k⟩ := h
    have nd := sc__law_behind_row.nd
    refine ⟨_, pss_cons (ps_par (i := 1) (j := 2) (by rfl) nd rfl rfl (by decide) rfl rfl (pa_cons pe_non (pa_cons (pe_lst pa_nil) pa_nil)) (by rfl))
      (pss_cons (ps_for PassesOwn.never rfl (pi_list (pv 0)) (pg_name (i := 3) nd rfl (Or.inl rfl))
        (pss_one (ps_asg (pe_cD DB hr rfl pass0 (pa_cons (pv 1) (pa_cons (pv 2) (pa_cons (pv 3) pa_nil)))) (pg_tup (by rfl) (pgs_cons (pg_name (i := 1) nd rfl (Or.inl rfl)) (pgs_cons (pg_name (i := 2) nd rfl (Or.inl rfl)) pgs_nil))))))
      (pss_one (ps_ret (pe_tup (pa_cons (pv 1) (pa_cons (pv 2) pa_nil)))))), ?_⟩
    obtain ⟨ps, h1, h2⟩ := hl
    have lp := h2.len
    refine ⟨(by show 0 ≤ sizeLine; decide), fun al nal => ⟨_, _, rfl, ?_⟩⟩
    have s1 := sadd (o := .lst []) (Same.refl H) nal
    have hal : upd H al (.lst []) al = some (.lst []) := upd_same
    generalize upd H al (.lst []) = H1 at s1 hal ⊢
    refine ⟨_, rfl, l, rfl, ⟨_, SqL.of (s1 _ _ h1)⟩, ?_⟩
    refine for_list (xs := ps.map V.ref) (fun i σ H' => ∃ (a : Addr) (o : Option V), σ = [some (.ref l), some (optV (stt (none, []) (cs.take i)).1), some (.ref a), o] ∧ Same H H' ∧ H a = none ∧ AkAt H' a (stt (none, []) (cs.take i)).2)
      ⟨al, none, rfl, s1, nal, ⟨[], hal, .nil⟩⟩ (fun i σ H' _ ⟨_, _, _, s, _⟩ => SqL.of (s _ _ h1)) ?turn ?done
    case done =>
      rintro σ H4 ⟨a, o, rfl, s4, na, ha⟩
      have e : cs.take (ps.map V.ref).length = cs := by rw [List.length_map, lp]; exact List.take_length
      rw [e] at ha ⊢
      refine ⟨_, rfl, _, rfl, (by show 2 ≤ sizeLine; decide), fun u nu => ?_⟩
      have s5 := sadd (o := .tup [optV (stt (none, []) cs).1, .ref a]) s4 nu
      exact k u a _ s5 (s4.free nu) na upd_same (ha.same (sadd (Same.refl H4) nu))
    case turn =>
      rintro i y σ H4 hy ⟨a, o, rfl, s4, na, ha⟩
      rw [List.getElem?_map] at hy
      obtain ⟨c, hc, rfl⟩ := Option.map_eq_some_iff.mp hy
      obtain ⟨x, hx⟩ : ∃ x, cs[i]? = some x := ⟨_, List.getElem?_eq_getElem (by rw [← lp]; exact (List.getElem?_eq_some_iff.mp hc).1)⟩
      obtain ⟨c', hc', hcx⟩ := h2.get hx
      rw [hc] at hc'
      cases hc'
      have tki : stt (none, []) (cs.take (i + 1)) = bh (stt (none, []) (cs.take i)) x := by rw [List.take_add_one, hx]; exact stt_snoc _ _ x
      have le := stt_len (cs.take i) (none, [])
      rw [List.length_take] at le
      have le0 : ([] : List (Int × Int)).length = 0 := rfl
      refine ⟨_, rfl, _, rfl, _, rfl, _, a, c, (stt (none, []) (cs.take i)).1, (stt (none, []) (cs.take i)).2, x, rfl, ha, s4 _ _ hcx, ?_, fun u al' H5 s5 nu na' hu ha' => ?_⟩
      · have h0 : ((none, []) : Rs).2.length = 0 := rfl
        omega
      · refine ⟨u, _, rfl, SqT.of hu, rfl, _, _, rfl, _, _, rfl, rfl, ?_⟩
        exact ⟨al', _, by rw [tki]; rfl, s4.trans s5, na'.elim (fun z => z ▸ na) (fun z => s4.free z), by rw [tki]; exact ha'⟩
end
end OH
end
section
set_option Elab.async false
set_option linter.all false
set_option maxRecDepth 100000
set_option maxHeartbeats 4000000
/-! One list a beginning of another. -/
namespace OH
open PySem PySem.Spec PyProof.Rows L2
theorem same_seq {K : PySem.W.Frag} {H H' : Hp} {a : Addr} {xs : List V} (s : Same H H') (h : SqL K H a xs) : SqL K H' a xs := h.elim (fun h => .inl (h.elim (fun h => .inl (s _ _ h)) fun ⟨o, h⟩ => .inr ⟨o, s _ _ h⟩)) fun h => .inr h
mutual
theorem Dp_mono {K : PySem.W.Frag} {H H' : Hp} {v : V} {d : PyData} : Dp K H v d → Same H H' → Dp K H' v d
  | .non, _ => .non
  | .bl b, _ => .bl b
  | .int i, _ => .int i
  | .str x, _ => .str x
  | .lst h hs, s => .lst (same_seq s h) (DpAll_mono hs s)
  | .tup h hs, s => .tup (h.imp (fun e => e.imp (fun q => s _ _ q) fun ⟨o, q⟩ => ⟨o, s _ _ q⟩) id) (DpAll_mono hs s)
theorem DpAll_mono {K : PySem.W.Frag} {H H' : Hp} {vs : List V} {ds : List PyData} : DpAll K H vs ds → Same H H' → DpAll K H' vs ds
  | .nil, _ => .nil
  | .cons h hs, s => .cons (Dp_mono h s) (DpAll_mono hs s)
end
theorem DpAll_take {K : PySem.W.Frag} {H : Hp} : ∀ {n : Nat} {vs : List V} {ds : List PyData}, DpAll K H vs ds → DpAll K H (vs.take n) (ds.take n)
  | 0, _, _, _ => .nil
  | n + 1, [], _, h => by
    cases h
    exact .nil
  | n + 1, v :: vs, _, h => by
    cases h with
    | cons e t => exact .cons e (DpAll_take (n := n) t)
theorem DpAll_len {K : PySem.W.Frag} {H : Hp} : ∀ {vs : List V} {ds : List PyData}, DpAll K H vs ds → vs.length = ds.length
  | [], _, h => by
    cases h
    rfl
  | v :: vs, _, h => by
    cases h with
    | cons e t => exact congrArg (· + 1) (DpAll_len t)
theorem cutV_take (xs : List V) (n : Nat) : cutV xs none (some (n : Int)) = xs.take n := by
  unfold cutV
  have e1 : HT.sIx xs.length 0 none = 0 := by simp [HT.sIx]
  have e2 : HT.sIx xs.length xs.length (some (n : Int)) = min n xs.length := by
    show (if ((n : Int) < 0) then ((n : Int) + (xs.length : Int)).toNat else min ((n : Int)).toNat xs.length) = _
    rw [if_neg (by omega), Int.toNat_natCast]
  rw [e1, e2, List.drop_zero, Nat.sub_zero]
  by_cases h : n ≤ xs.length
  · rw [Nat.min_eq_left h]
  · rw [Nat.min_eq_right (by omega), List.take_length, List.take_of_length_le (by omega)]
def spIsB (K : PySem.W.Frag) : Sp := fun vs H Q _ => ∃ (a b : Addr) (xs ys : List V) (ds es : List PyData), vs = [.ref a, .ref b] ∧ H a = some (.lst xs) ∧ H b = some (.lst ys) ∧ DpAll K H xs ds ∧ DpAll K H ys es ∧ xs.length ≤ 100000 ∧ ys.length ≤ 100000 ∧
  SeqAt.shaped (.list ds) = true ∧ SeqAt.shaped (.list (es.take ds.length)) = true ∧ ∀ H', Same H H' → Q (.bl (PyData.eqv (.list (es.take ds.length)) (.list ds))) H'
section
variable {P : Program} {w : World} {K : PySem.W.Frag} {mg : Str → Option Value} {base : Heap}
end
end OH
end
section
set_option Elab.async false
set_option linter.all false
set_option maxRecDepth 100000
set_option maxHeartbeats 4000000
/-! A few numbers. -/
namespace OH
open PySem PySem.Spec PyProof.Rows L2
def spFew : Sp := fun vs H Q _ => ∃ (st g c : Addr) (n : Nat), vs = [.ref st] ∧ SA H st g c n ∧ n ≤ 800000 ∧
  ∀ (l : Addr) (ns : List Int) (H' : Hp), H l = none → l ≠ st → l ≠ g → l ≠ c → H' l = some (.lst (ns.map V.int)) → 1 ≤ ns.length → ns.length ≤ 3 → (∀ z ∈ ns, Num z) → SA H' st g c (n + 7) → Fr st g H H' → Q (.ref l) H'
section
variable {P : Program} {w : World} {K : PySem.W.Frag} {mg : Str → Option Value} {base : Heap}
abbrev nFew : List Str := ["state", "turn"]
theorem sc__law_few : FnScope nFew ["state"] (defScope s__law_few) := ⟨rfl, rfl, rfl, by decide +kernel, rfl, by decide +kernel, by decide +kernel⟩
theorem ok__law_few {f : Addr} {fd : FuncData} (F : Fun K "_law_few" "_law_few" s__law_few f fd) (T : Txt K mg) (DD : DefF P w K mg base CX0 8 "_law_draw" ["state", "room"] spDraw) (DS : DefF P w K mg base CX0 8 "_law_small" ["state"] (spNo 2)) : FnOk P w K mg base CX0 9 f fd ["state"] spFew := by
  refine F.ok sc__law_few (fun vs H Q E h => ?_) (fun cdv A outer s H vs Q E hr h => ?_)
  · obtain ⟨st, g, c, n, rfl, _⟩ := h
    rfl
  · obtain ⟨st, g, c, n, rfl, S, hn, k⟩ := h
    have nd := sc__law_few.nd
    refine ⟨_, pss_one (ps_ret (pe_lc (own := [("turn", 1)]) (g := gName 1) (tt := tYes) (te := tCall (spNo 2) [] (fun _ _ _ => False) (tCons (tVar 0) tNil)) rfl nd (pi_range1 rfl T.nRange (pa_cons (pe_op op_add pe_int (pe_cD DD hr rfl pass0 (pa_cons (pv 0) (pa_cons pe_int pa_nil)))) pa_nil)) (blkOk_by (own := [("turn", 1)]) (N := nFew) (sc := defScope s__law_few) (by decide +kernel)) (fun _ _ _ _ _ => (pg_name (i := 1) nd rfl (Or.inl rfl))) (fun _ _ _ _ _ => pts_nil) (fun _ _ _ _ _ => (pe_cD DS hr rfl pass0 (pa_cons (pv 0) pa_nil))))), ?_⟩
    refine ⟨_, rfl, st, g, c, n, 3, rfl, S, by omega, by decide, by decide, fun u H1 u0 u3 S1 F1 => ?_⟩
    refine ⟨_, _, rfl, rfl, _, rfl, by omega, by omega, fun D nD => ?_⟩
    obtain ⟨m, em⟩ : ∃ m : Nat, 1 + u = (m : Int) := ⟨(1 + u).toNat, by omega⟩
    rw [em, Int.toNat_natCast]
    have zD := S1.old nD
    have sD := sadd (o := .lst []) (Same.refl H1) nD
    refine lc_range (lo := 0) (n := m) (fun i H' => ∃ ns : List Int, ns.length = i ∧ H' D = some (.lst (ns.map V.int)) ∧ (∀ z ∈ ns, Num z) ∧ SA H' st g c (n + 1 + 2 * i) ∧ Fr st g H1 H') ?h0 ?turn ?done
    case h0 => exact ⟨[], rfl, upd_same, fun z hz => absurd hz List.not_mem_nil, S1.same sD, Fr.of sD⟩
    case turn =>
      rintro i H4 hi ⟨ns, ln, hD, nm, S4, F4⟩
      refine ⟨rfl, ?_⟩
      unfold tYes
      refine iteT ?_
      refine ⟨_, rfl, st, g, c, n + 1 + 2 * i, rfl, S4, by omega, fun z H5 z0 z9 S5 F5 => ?_⟩
      have hD5 : H5 D = some (.lst (ns.map V.int)) := F5 _ _ hD zD.1 zD.2.1
      refine ⟨_, hD5, by rw [List.length_map, sizeLine_eq]; omega, ns ++ [z], by rw [List.length_append, ln]; rfl, by rw [upd_same, List.map_append]; rfl, fun y hy => ?_, (S5.put zD).mono (by omega), (F4.trans F5).out nD⟩
      rcases List.mem_append.mp hy with h | h
      · exact nm y h
      · rw [List.mem_singleton.mp h]
        exact ⟨z0, z9⟩
    case done =>
      rintro H4 ⟨ns, ln, hD, nm, S4, F4⟩
      exact k D ns H4 (F1.free nD zD.1 zD.2.1) zD.1 zD.2.1 zD.2.2 hD (by omega) (by omega) nm (S4.mono (by omega)) (F1.trans F4)
end
end OH
end
section
set_option Elab.async false
set_option linter.all false
set_option maxRecDepth 100000
set_option maxHeartbeats 8000000
/-! An error that is caught. -/
namespace OH
open PySem PySem.Spec PyProof.Rows L2
open LamX (Tabs TabS ExtN TabB CodeO)
theorem sc__law_caught : FnScope ["action", "found", "error"] ["action"] (defScope s__law_caught) := ⟨rfl, rfl, rfl, by decide +kernel, rfl, by decide +kernel, by decide +kernel⟩
/-- what is called gives its error on, whatever fields it has -/
theorem caught_givesJ {X : Cx} {q : Str} {g CS : Addr} {cdg : Value} (hme : X.mg "OwnharmError" = some (.ref CS)) :
    LamX.GivesTo X ["action", "found", "error"] "_law_caught" (defScope s__law_caught) g cdg (defBody s__law_caught) "action" q (TTj X.K CS) := by
  intro f c' s H Q tl act hc h
  have nd := sc__law_caught.nd
  refine ⟨_, pss_cons (ps_set (i := 1) nd rfl (Or.inl rfl) pe_non)
    (pss_cons (ps_try_keepJ (X := (cxOf C8.CX0 X.prog X.w X.K X.mg X.base ["action", "found", "error"] "_law_caught" (defScope s__law_caught) g cdg X.A X.stack s H C8.E0).nox) (i := 2) (c := .ref CS)
      (tb := fun W D σ H => ∃ Ech : XK, (∀ cls d σ' H', σ'.length = 3 → Ech cls d H' → W cls d σ' H') ∧ σ[0]? = some (some (.ref f)) ∧ H c' = some (LamX.CodeO c' q) ∧ tl Ech H (fun _ H1 => D.nx σ H1))
      rfl rfl rfl nd rfl rfl ⟨rfl, by decide, .inl hme⟩ (fun W pn xe tk _ => ?_) (fun a oe cls d pn _ _ => pss_one (ps_set (i := 1) nd rfl (Or.inl rfl) (pv 2))))
    (pss_one (ps_ret (pv 1)))), ?_⟩
  · refine ⟨fun pins s' σ H' D I h' => ?_⟩
    obtain ⟨Ech, hW, h1, h2, h3⟩ := h'
    have tk' : Takes _ (fun cls d σ H => σ.length = 3 → W cls d σ H) := fun u s' ⟨a, B, sI, pins, σ, H, cls, d, e, I, nb, up, sky, na, os, ag, w⟩ =>
      tk u s' ⟨a, B, sI, pins, σ, H, cls, d, e, I, nb, up, sky, na, os, ag, w I.len⟩
    exact (pss_one (ps_expr (act _ pn xe Ech _ _ tk' (fun cls d σ' H' e n => hW cls d σ' H' n e)))).run pins s' σ H' D I ⟨h1, h2, h3⟩
  · refine ⟨_, fun cls d σ' H' n e => ?_, rfl, hc, h _ fun _ _ z => ⟨.non, rfl, z⟩⟩
    obtain ⟨e2, e3⟩ := e
    refine ⟨e2, fun a na => ?_⟩
    match σ', n with
    | [y0, y1, y2], _ => exact ⟨.ref a, rfl, .ref a, rfl, e3 a na⟩
end OH
end
section
set_option Elab.async false
set_option linter.all false
set_option maxRecDepth 100000
set_option maxHeartbeats 8000000
/-! The faces of the law. -/
namespace OH
open PySem PySem.Spec PyProof.Rows L2
/-- wires of room i, where so many doors are -/
def WiOk (ds : List Int) (i : Nat) (ws : List (Int × Int)) : Prop := ws.length ≤ 8 ∧ ws.Nodup ∧ ∀ p ∈ ws, 0 ≤ p.1 ∧ p.1 < (ds.length : Int) ∧ p.1 ≠ i ∧ 0 ≤ p.2 ∧ p.2 < ds.getD p.1.toNat 0
theorem getD_app_last {α : Type} (l : List α) (x d : α) : (l ++ [x]).getD l.length d = x := by
  rw [List.getD_eq_getElem?_getD, List.getElem?_append_right (Nat.le_refl _), Nat.sub_self]
  rfl
theorem getD_app_old {α : Type} (l : List α) (x d : α) {i : Nat} (h : i < l.length) : (l ++ [x]).getD i d = l.getD i d := by
  rw [List.getD_eq_getElem?_getD, List.getElem?_append_left h, List.getD_eq_getElem?_getD]
/-- a new face -/
def spFaceD (m1 : Int) (m2 : Int) : Sp := fun vs H Q _ => ∃ (st g c : Addr) (n : Nat) (most : Int), vs = [.ref st, .int most] ∧ SA H st g c n ∧ n ≤ 700000 ∧ m1 ≤ most ∧ most ≤ m2 ∧
  ∀ (p : Addr) (F : Fc) (H' : Hp), H p = none → FcAt H' p F → SA H' st g c (n + 400) → Fr st g H H' → Q (.ref p) H'
section
variable {P : Program} {w : World} {K : PySem.W.Frag} {mg : Str → Option Value} {base : Heap}
abbrev nDF : List Str := ["state", "most", "doors", "wires", "at", "pool", "room", "many", "door"]
theorem sc__law_drawn_face : FnScope nDF ["state", "most"] (defScope s__law_drawn_face) := ⟨rfl, rfl, rfl, by decide +kernel, rfl, by decide +kernel, by decide +kernel⟩
theorem ok__law_drawn_face {f : Addr} {fd : FuncData} (F : Fun K "_law_drawn_face" "_law_drawn_face" s__law_drawn_face f fd) (T : Txt K mg) (nEnum : mg "enumerate" = none)
    (DD : DefF P w K mg base CX0 4 "_law_draw" ["state", "room"] spDraw) (DS : DefF P w K mg base CX0 4 "_law_shuffled" ["state", "some"] spShuf) (DP : DefF P w K mg base CX0 4 "_law_pick" ["state", "some"] spPick) : FnOk P w K mg base CX0 5 f fd ["state", "most"] (spFaceD 1 6) := by
  refine F.ok sc__law_drawn_face (fun vs H Q E h => ?_) (fun cdv A outer s H vs Q E hr h => ?_)
  · obtain ⟨st, g, c, n, most, rfl, _⟩ := h
    rfl
  · obtain ⟨st, g, c, n, most, rfl, S, hn, m1, m2, k⟩ := h
    have nd := sc__law_drawn_face.nd
    refine ⟨_, pss_cons (ps_set (i := 2) nd rfl (Or.inl rfl) (pe_callTy call_tuple_of (by rfl) T.nTuple (by decide +kernel) (pa_cons (pe_lc (own := [("at", 4)]) (g := gName 4) (tt := tYes) (te := tOp _ _ (tCall spDraw [] (fun _ _ _ => False) (tCons (tVar 0) (tCons (tC (V.int 3)) tNil)))) rfl nd (pi_range1 rfl T.nRange (pa_cons (pe_op op_add pe_int (pe_cD DD hr rfl pass0 (pa_cons (pv 0) (pa_cons (pv 1) pa_nil)))) pa_nil)) (blkOk_by (own := [("at", 4)]) (N := nDF) (sc := defScope s__law_drawn_face) (by decide +kernel)) (fun _ _ _ _ _ => (pg_name (i := 4) nd rfl (Or.inl rfl))) (fun _ _ _ _ _ => pts_nil) (fun _ _ _ _ _ => (pe_op op_add pe_int (pe_cD DD hr rfl pass0 (pa_cons (pv 0) (pa_cons pe_int pa_nil)))))) pa_nil)))
      (pss_cons (ps_set (i := 3) nd rfl (Or.inl rfl) (pe_lst pa_nil))
      (pss_cons (ps_for PassesOwn.never rfl (pi_range1 rfl T.nRange (pa_cons (pe_callB call_len_seq (by rfl) T.nLen PySem.boot_len (pa_cons (pv 2) pa_nil)) pa_nil)) (pg_name (i := 4) nd rfl (Or.inr rfl))
        (pss_cons (ps_set (i := 5) nd rfl (Or.inl rfl) (pe_lst pa_nil))
      (pss_cons (ps_for PassesOwn.never rfl (pi_enumT rfl nEnum (pa_cons (pv 2) pa_nil)) (pg_tup (by rfl) (pgs_cons (pg_name (i := 6) nd rfl (Or.inr rfl)) (pgs_cons (pg_name (i := 7) nd rfl (Or.inl rfl)) pgs_nil)))
        (pss_one (ps_set (i := 5) nd rfl (Or.inl rfl) (pe_op op_cat (pv 5) (pe_lc (own := [("door", 8)]) (g := gName 8)   rfl nd (pi_range1 rfl T.nRange (pa_cons (pv 7) pa_nil)) (blkOk_by (own := [("door", 8)]) (N := nDF) (sc := defScope s__law_drawn_face) (by decide +kernel)) (fun _ _ _ _ _ => (pg_name (i := 8) nd rfl (Or.inl rfl))) (fun _ _ _ _ _ => pts_one (pt_cmpR op_ne (pv 6) (pv 4) (nomark _))) (fun _ _ _ _ _ => (pe_tup (pa_cons (pv 6) (pa_cons (pv 8) pa_nil)))))))))
      (pss_one (ps_expr (pe_bm PySem.F.plainAttrs_list PySem.F.slot_list_append PySem.F.type_list_append mt_append (pv 3) (pa_cons (pe_callTy call_tuple_of (by rfl) T.nTuple (by decide +kernel) (pa_cons (pe_slice sl_list (pe_cD DS hr rfl pass0 (pa_cons (pv 0) (pa_cons (pv 5) pa_nil))) po_none (po_some (pe_cD DP hr rfl pass0 (pa_cons (pv 0) (pa_cons (pe_lst (pa_cons pe_int (pa_cons pe_int (pa_cons pe_int (pa_cons pe_int (pa_cons pe_int (pa_cons pe_int pa_nil))))))) pa_nil))))) pa_nil)) pa_nil)))))))
      (pss_one (ps_ret (pe_tup (pa_cons (pe_cD DP hr rfl pass0 (pa_cons (pv 0) (pa_cons (pe_lst (pa_cons pe_int (pa_cons pe_int (pa_cons pe_int (pa_cons pe_int (pa_cons pe_int (pa_cons pe_int (pa_cons pe_int pa_nil)))))))) pa_nil))) (pa_cons (pe_callTy call_tuple_of (by rfl) T.nTuple (by decide +kernel) (pa_cons (pv 3) pa_nil)) (pa_cons (pv 2) pa_nil)))))))), ?_⟩
    refine ⟨_, rfl, _, rfl, st, g, c, n, most, rfl, S, by omega, by omega, by omega, fun u H1 u0 u1 S1 F1 => ?_⟩
    obtain ⟨m, em⟩ : ∃ m : Nat, 1 + u = (m : Int) := ⟨(1 + u).toNat, by omega⟩
    refine ⟨_, _, rfl, rfl, _, rfl, by omega, by omega, fun D nD => ?_⟩
    rw [em, Int.toNat_natCast]
    have hm1 : 1 ≤ m := by omega
    have hm6 : m ≤ 6 := by omega
    have zD := S1.old nD
    have D0 : H D = none := F1.free nD zD.1 zD.2.1
    have sD := sadd (o := .lst []) (Same.refl H1) nD
    refine lc_range (lo := 0) (n := m) (fun i H' => ∃ ns : List Int, ns.length = i ∧ H' D = some (.lst (ns.map V.int)) ∧ (∀ z ∈ ns, 1 ≤ z ∧ z ≤ 6) ∧ SA H' st g c (n + 1 + i) ∧ Fr st g H1 H') ?d0 ?dturn ?ddone
    case d0 => exact ⟨[], rfl, upd_same, fun z hz => absurd hz List.not_mem_nil, S1.same sD, Fr.of sD⟩
    case dturn =>
      rintro i H4 hi ⟨ns, ln, hD, nm, S4, F4⟩
      refine ⟨rfl, ?_⟩
      unfold tYes
      refine iteT ?_
      refine ⟨_, rfl, st, g, c, n + 1 + i, 3, rfl, S4, by omega, by decide, by decide, fun z H5 z0 z9 S5 F5 => ?_⟩
      have hD5 : H5 D = some (.lst (ns.map V.int)) := F5 _ _ hD zD.1 zD.2.1
      refine ⟨_, _, rfl, rfl, _, hD5, by rw [List.length_map, sizeLine_eq]; omega, ns ++ [1 + z], by rw [List.length_append, ln]; rfl, by rw [upd_same, List.map_append]; rfl, fun y hy => ?_, (S5.put zD).mono (by omega), (F4.trans F5).out nD⟩
      rcases List.mem_append.mp hy with h | h
      · exact nm y h
      · rw [List.mem_singleton.mp h]
        exact ⟨by omega, by omega⟩
    case ddone =>
    rintro H2 ⟨ds, lds, hD, hd, S2, F2⟩
    refine ⟨D, _, rfl, .inl ⟨SqL.of hD, fun dt ndt => ?_⟩⟩
    have zdt := S2.old ndt
    have sdt := sadd (o := .tup (ds.map V.int)) (Same.refl H2) ndt
    have hdt : upd H2 dt (.tup (ds.map V.int)) dt = some (.tup (ds.map V.int)) := upd_same
    have S3 := S2.same sdt
    have F3 := (F1.trans F2).trans (Fr.of (st := st) (g := g) sdt)
    have dt0 : H dt = none := (F1.trans F2).free ndt zdt.1 zdt.2.1
    generalize upd H2 dt (.tup (ds.map V.int)) = Ha at hdt S3 F3
    clear sdt hD F2 S2
    refine ⟨(by show 0 ≤ sizeLine; decide), fun W nW => ?_⟩
    have zW := S3.old nW
    have sW := sadd (o := .lst []) (Same.refl Ha) nW
    have hW0 : upd Ha W (.lst []) W = some (.lst []) := upd_same
    have W0 : H W = none := F3.free nW zW.1 zW.2.1
    have hdtW := sW _ _ hdt
    have ndtW : dt ≠ W := ne_of_none hdt nW
    have SW := S3.same sW
    have FW := F3.trans (Fr.of (st := st) (g := g) sW)
    generalize upd Ha W (.lst []) = Hb at hW0 hdtW SW FW ⊢
    have la : (ds.map V.int).length = ds.length := List.length_map ..
    have lds6 : ds.length ≤ 6 := by omega
    refine ⟨_, rfl, dt, _, rfl, .inr (SqT.of hdtW), _, rfl, (by omega), (by rw [la]; omega), ?_⟩
    rw [la]
    refine for_range (lo := 0) (n := ds.length) (fun i σ H' => ∃ (o4 o5 o6 o7 : Option V) (wps : List Addr) (wss : List (List (Int × Int))), σ = [some (.ref st), some (.int most), some (.ref dt), some (.ref W), o4, o5, o6, o7, none] ∧ wps.length = i ∧ wss.length = i ∧
        H' W = some (.lst (wps.map V.ref)) ∧ (∀ (j : Nat) (q : Addr), wps[j]? = some q → ∃ ps : List Addr, H' q = some (.tup (ps.map V.ref)) ∧ PairsAt H' ps (wss.getD j [])) ∧ (∀ j, j < i → WiOk ds j (wss.getD j [])) ∧
        SA H' st g c (n + 7 + 40 * i) ∧ H' dt = some (.tup (ds.map V.int)) ∧ Fr st g H H') ?h0 ?turn ?done
    case h0 => exact ⟨_, _, _, _, [], [], rfl, rfl, rfl, hW0, (fun j q e => absurd (List.mem_of_getElem? e) List.not_mem_nil), (fun j hj => absurd hj (Nat.not_lt_zero _)), SW.mono (by omega), hdtW, FW⟩
    case turn =>
      rintro i σ H1 hi ⟨o4, o5, o6, o7, wps, wss, rfl, l1, l2, hW1, hw, hok, S1, hdt1, F1⟩
      rw [Int.zero_add]
      refine ⟨(by show 0 ≤ sizeLine; decide), fun L nL => ?_⟩
      have sL := sadd (o := .lst []) (Same.refl H1) nL
      have hL0 : upd H1 L (.lst []) L = some (.lst []) := upd_same
      have zL := S1.old nL
      generalize upd H1 L (.lst []) = H2 at sL hL0 ⊢
      refine ⟨_, rfl, dt, _, rfl, SqT.of (sL _ _ hdt1), ?_⟩
      refine for_it walk_enumT (fun j σ H' => ∃ (o6 o7 : Option V) (L' : Addr) (ps : List Addr) (qs : List (Int × Int)), σ = [some (.ref st), some (.int most), some (.ref dt), some (.ref W), some (.int (i : Int)), some (.ref L'), o6, o7, none] ∧
          Same H1 H' ∧ H1 L' = none ∧ H' L' = some (.lst (ps.map V.ref)) ∧ PairsAt H' ps qs ∧ qs.Nodup ∧ qs.length ≤ 6 * j ∧ ∀ p ∈ qs, 0 ≤ p.1 ∧ p.1 < (j : Int) ∧ p.1 ≠ i ∧ 0 ≤ p.2 ∧ p.2 < ds.getD p.1.toNat 0) ?g0 (fun j σ H' _ ⟨_, _, _, _, _, _, s, _⟩ => SqT.of (s _ _ hdt1)) ?gturn ?gdone
      case g0 => exact ⟨o6, o7, L, [], [], rfl, sL, nL, hL0, .nil, List.nodup_nil, Nat.zero_le _, fun p hp => absurd hp List.not_mem_nil⟩
      case gturn =>
        rintro j x σ H3 H3' hj ⟨o6, o7, L', ps, qs, rfl, s3, nL', hL', hp, nq, lq, hq⟩ ⟨tp, x0, y0, rfl, ntp, rfl, ex, ey⟩
        rw [la] at hj
        cases ex
        obtain ⟨z, hz⟩ : ∃ z, ds[j]? = some z := ⟨_, List.getElem?_eq_getElem hj⟩
        have ey' : y0 = .int z := by
          have ey2 : (ds.map V.int)[j]? = some y0 := ey
          rw [List.getElem?_map, hz] at ey2
          exact (Option.some.inj ey2).symm
        subst ey'
        obtain ⟨z1, z6⟩ := hd z (List.mem_of_getElem? hz)
        have gz : ds.getD j 0 = z := by rw [List.getD_eq_getElem?_getD, hz]; rfl
        obtain ⟨zn, hzn⟩ : ∃ zn : Nat, z = zn := ⟨z.toNat, by omega⟩
        subst hzn
        have st3 := sadd (o := .tup [.int (j : Int), .int (zn : Int)]) (Same.refl H3) ntp
        have htp : upd H3 tp (.tup [.int (j : Int), .int (zn : Int)]) tp = some (.tup [.int (j : Int), .int (zn : Int)]) := upd_same
        replace s3 := s3.trans st3
        replace hL' := st3 _ _ hL'
        replace hp := hp.mono fun q xs e => st3 _ _ e
        generalize upd H3 tp (.tup [.int (j : Int), .int (zn : Int)]) = H3 at s3 hL' hp htp ⊢
        refine ⟨tp, _, rfl, SqT.of htp, rfl, _, _, rfl, _, _, rfl, rfl, ?_⟩
        refine ⟨_, rfl, _, rfl, _, rfl, (by omega), (by omega), fun C nC => ?_⟩
        rw [Int.toNat_natCast]
        refine lc_range (lo := 0) (n := zn) (fun d H' => Same H3 H' ∧ ∃ (p2 : List Addr) (q2 : List (Int × Int)), H' C = some (.lst (p2.map V.ref)) ∧ PairsAt H' p2 q2 ∧ q2.Nodup ∧ q2.length ≤ d ∧ ∀ p ∈ q2, p.1 = j ∧ j ≠ i ∧ 0 ≤ p.2 ∧ p.2 < (d : Int))
          ⟨sadd (Same.refl H3) nC, [], [], upd_same, .nil, List.nodup_nil, Nat.le_refl _, fun p hp => absurd hp List.not_mem_nil⟩ ?cturn ?cdone
        case cturn =>
          rintro d H4 hdz ⟨s4, p2, q2, hC, hp2, n2, l2', hq2⟩
          rw [Int.zero_add]
          refine ⟨rfl, ?_⟩
          refine ⟨_, rfl, _, rfl, rfl, _, rfl, ?_⟩
          refine ite2 (fun ht => ?_) (fun ht => ?_)
          · have hne : j ≠ i := fun e => by
              subst e
              simp at ht
            refine ⟨_, rfl, _, rfl, (by show 2 ≤ sizeLine; decide), fun t nt => ?_⟩
            have s5 := sadd (o := .tup [.int (j : Int), .int (d : Int)]) (Same.refl H4) nt
            have ht5 : upd H4 t (.tup [.int (j : Int), .int (d : Int)]) t = some (.tup [.int (j : Int), .int (d : Int)]) := upd_same
            have hC5 := s5 _ _ hC
            have hp5 := hp2.mono fun q xs e => s5 _ _ e
            generalize upd H4 t (.tup [.int (j : Int), .int (d : Int)]) = H5 at s5 ht5 hC5 hp5 ⊢
            have lp := hp5.len
            have kt : ∀ (o : List V) q xs, H5 q = some (.tup xs) → upd H5 C (.lst o) q = some (.tup xs) := fun o q xs e => (upd_ne (ne_of e hC5 (fun y => nomatch y))).trans e
            refine ⟨_, hC5, (by rw [List.length_map, lp, sizeLine_eq]; omega), sout (s4.trans s5) nC, p2 ++ [t], q2 ++ [((j : Int), (d : Int))], by rw [upd_same, List.map_append]; rfl, (hp5.mono (kt _)).app (kt _ _ _ ht5), ?_, ?_, ?_⟩
            · rw [List.nodup_append]
              refine ⟨n2, List.nodup_cons.mpr ⟨List.not_mem_nil, List.nodup_nil⟩, fun x hx y hy e => ?_⟩
              rw [List.mem_singleton.mp hy] at e
              have := (hq2 x hx).2.2.2
              rw [e] at this
              have this' : (d : Int) < d := this
              omega
            · rw [List.length_append]
              show q2.length + 1 ≤ d + 1
              omega
            · intro p hp
              rcases List.mem_append.mp hp with hp | hp
              · obtain ⟨a1, a2, a3, a4⟩ := hq2 p hp
                exact ⟨a1, a2, a3, by omega⟩
              · rw [List.mem_singleton.mp hp]
                exact ⟨rfl, hne, by show (0 : Int) ≤ (d : Int); omega, by show (d : Int) < ((d + 1 : Nat) : Int); omega⟩
          · exact ⟨s4, p2, q2, hC, hp2, n2, by omega, fun p hp => by
              obtain ⟨a1, a2, a3, a4⟩ := hq2 p hp
              exact ⟨a1, a2, a3, by omega⟩⟩
        case cdone =>
          rintro H4 ⟨s4, p2, q2, hC, hp2, n2, l2', hq2⟩
          have lp := hp.len
          have lp2 := hp2.len
          have zn6 : zn ≤ 6 := by omega
          refine ⟨L', C, _, _, rfl, rfl, s4 _ _ hL', hC, (by rw [List.length_map, List.length_map, lp, lp2, sizeLine_eq]; omega), fun M nM => ?_⟩
          have s5 := sadd (o := .lst (ps.map V.ref ++ p2.map V.ref)) (Same.refl H4) nM
          have M1 : H1 M = none := (s3.trans s4).free nM
          refine ⟨_, _, M, ps ++ p2, qs ++ q2, rfl, (s3.trans s4).trans s5, M1, by rw [upd_same, List.map_append], ?_, ?_, ?_, ?_⟩
          · exact (hp.mono fun q xs e => s5 _ _ (s4 _ _ e)).apps (hp2.mono fun q xs e => s5 _ _ e)
          · rw [List.nodup_append]
            refine ⟨nq, n2, fun x hx y hy e => ?_⟩
            have h1 := (hq x hx).2.1
            have h2 := (hq2 y hy).1
            rw [e, h2] at h1
            omega
          · rw [List.length_append]
            omega
          · intro p hp'
            rcases List.mem_append.mp hp' with hp' | hp'
            · obtain ⟨a1, a2, a3, a4, a5⟩ := hq p hp'
              exact ⟨a1, by omega, a3, a4, a5⟩
            · obtain ⟨a1, a2, a3, a4⟩ := hq2 p hp'
              refine ⟨by omega, by omega, fun e => a2 (by omega), a3, ?_⟩
              rw [a1, Int.toNat_natCast, gz]
              exact a4
      case gdone =>
        rintro σ H3 ⟨o6', o7', L', ps, qs, rfl, s3, nL', hL', hp, nq, lq, hq⟩
        rw [la] at lq hq
        have S3' := S1.same s3
        have lp := hp.len
        refine ⟨_, rfl, .inl ⟨rfl, _, SqL.of (s3 _ _ hW1)⟩, ?_⟩
        have zL' := S1.old nL'
        refine ⟨_, rfl, _, rfl, st, g, c, L', n + 7 + 40 * i, ps, qs, rfl, S3', by omega, hL', hp, zL'.2.1, by omega, fun p ps' qs' H4 np z1 z2 z3 hp4 hps' pm S4 F4 => ?_⟩
        refine ⟨_, rfl, (by show 6 ≤ sizeLine; decide), fun l nl => ?_⟩
        have zl := S4.old nl
        have sl := sadd (o := .lst [.int 1, .int 2, .int 3, .int 8, .int 8, .int 0]) (Same.refl H4) nl
        refine ⟨st, g, c, l, n + 7 + 40 * i + ps.length, _, rfl, S4.put zl, by omega, upd_same, zl.2.1, (by show 0 < 6; decide), (by show 6 ≤ 1000000; decide), fun x H5 hx S5 F5 => ?_⟩
        obtain ⟨kn, rfl, hkn⟩ : ∃ kn : Nat, x = .int (kn : Int) ∧ kn ≤ 8 := by
          have hx' : x ∈ ([.int 1, .int 2, .int 3, .int 8, .int 8, .int 0] : List V) := hx
          simp only [List.mem_cons, List.not_mem_nil, or_false] at hx'
          rcases hx' with rfl | rfl | rfl | rfl | rfl | rfl
          · exact ⟨1, rfl, by decide⟩
          · exact ⟨2, rfl, by decide⟩
          · exact ⟨3, rfl, by decide⟩
          · exact ⟨8, rfl, by decide⟩
          · exact ⟨8, rfl, by decide⟩
          · exact ⟨0, rfl, by decide⟩
        have hp5 := F5 p _ (sl _ _ hp4) z1 z2
        have hps5 := (hps'.mono fun q xs e => sl _ _ e).mono (fr_tup (S4.put zl) F5)
        have F4l : Fr st g H3 (upd H4 l (.lst [.int 1, .int 2, .int 3, .int 8, .int 8, .int 0])) := F4.trans (Fr.of sl)
        have F35 : Fr st g H3 H5 := F4l.trans F5
        refine ⟨_, rfl, p, _, rfl, SqL.of hp5, fun u nu => ?_⟩
        rw [cutV_take, ← List.map_take]
        have su := sadd (o := .lst ((ps'.take kn).map V.ref)) (Same.refl H5) nu
        have hu : upd H5 u (.lst ((ps'.take kn).map V.ref)) u = some (.lst ((ps'.take kn).map V.ref)) := upd_same
        have S6 := S5.same su
        have hps6 := (hps5.taken kn).mono fun q xs e => su _ _ e
        generalize upd H5 u (.lst ((ps'.take kn).map V.ref)) = H6 at su hu S6 hps6 ⊢
        refine ⟨u, _, rfl, .inl ⟨SqL.of hu, fun v nv => ?_⟩⟩
        have sv := sadd (o := .tup ((ps'.take kn).map V.ref)) (Same.refl H6) nv
        have hv : upd H6 v (.tup ((ps'.take kn).map V.ref)) v = some (.tup ((ps'.take kn).map V.ref)) := upd_same
        have S7 := S6.same sv
        have hps7 := hps6.mono fun q xs e => sv _ _ e
        have F15 : Fr st g H1 H5 := (Fr.of s3).trans F35
        have F17 := (F15.trans (Fr.of su)).trans (Fr.of sv)
        generalize upd H6 v (.tup ((ps'.take kn).map V.ref)) = H7 at sv hv S7 hps7 F17 ⊢
        have hD7 := F17 W _ hW1 zW.1 zW.2.1
        refine ⟨W, _, _, rfl, rfl, hD7, (by rw [List.length_map, l1, sizeLine_eq]; omega), ?_⟩
        have kt : ∀ (o : List V) q xs, H7 q = some (.tup xs) → upd H7 W (.lst o) q = some (.tup xs) := fun o q xs e => (upd_ne (ne_of e hD7 (fun y => nomatch y))).trans e
        have lqs : qs.length ≤ 36 := by omega
        refine ⟨_, _, _, _, wps ++ [v], wss ++ [qs'.take kn], rfl, by rw [List.length_append, l1]; rfl, by rw [List.length_append, l2]; rfl, by rw [upd_same, List.map_append]; rfl, fun j q hq' => ?_, fun j hj => ?_, ?_, (upd_ne ndtW).trans (F17 dt _ hdt1 zdt.1 zdt.2.1), ?_⟩
        · by_cases hj : j < wps.length
          · rw [List.getElem?_append_left hj] at hq'
            obtain ⟨ps0, e1, e2⟩ := hw j q hq'
            rw [getD_app_old _ _ _ (by omega)]
            have t17 : ∀ q xs, H1 q = some (.tup xs) → H7 q = some (.tup xs) := fr_tup S1 F17
            exact ⟨ps0, kt _ _ _ (t17 _ _ e1), e2.mono fun q xs e => kt _ _ _ (t17 _ _ e)⟩
          · have ej : j = i := by
              have := (List.getElem?_eq_some_iff.mp hq').1
              rw [List.length_append] at this
              have : ([v] : List Addr).length = 1 := rfl
              omega
            subst ej
            rw [List.getElem?_append_right (by omega), l1, Nat.sub_self] at hq'
            cases hq'
            rw [show (wss ++ [qs'.take kn]).getD j [] = qs'.take kn by rw [← l2]; exact getD_app_last ..]
            exact ⟨ps'.take kn, kt _ _ _ hv, hps7.mono (kt _)⟩
        · by_cases hji : j < i
          · rw [getD_app_old _ _ _ (by omega)]
            exact hok j hji
          · rw [show j = wss.length by omega, getD_app_last, l2]
            refine ⟨by rw [List.length_take]; omega, ((pm.nodup_iff).mpr nq).sublist (List.take_sublist _ _), fun p hp' => hq p (pm.mem_iff.mp (List.mem_of_mem_take hp'))⟩
        · exact (S7.put zW).mono (by omega)
        · intro b o e h1 h2
          have nb : b ≠ W := ne_of_none e W0
          exact (upd_ne nb).trans ((F1.trans F17) b o e h1 h2)
    case done =>
      rintro σ H1 ⟨o4, o5, o6, o7, wps, wss, rfl, l1, l2, hW1, hw, hok, S1, hdt1, F1⟩
      refine ⟨_, rfl, (by show 7 ≤ sizeLine; decide), fun l nl => ?_⟩
      have zl := S1.old nl
      have sl := sadd (o := .lst [.int 1, .int 2, .int 3, .int 4, .int 5, .int 60, .int 7]) (Same.refl H1) nl
      have tl := fr_tup S1 (Fr.of (st := st) (g := g) sl)
      refine ⟨st, g, c, l, n + 7 + 40 * ds.length, _, rfl, S1.put zl, by omega, upd_same, zl.2.1, (by show 0 < 7; decide), (by show 7 ≤ 1000000; decide), fun x H2 hx S2 F2 => ?_⟩
      obtain ⟨dep, rfl, d1, d60⟩ : ∃ dep : Int, x = .int dep ∧ 1 ≤ dep ∧ dep ≤ 60 := by
        have hx' : x ∈ ([.int 1, .int 2, .int 3, .int 4, .int 5, .int 60, .int 7] : List V) := hx
        simp only [List.mem_cons, List.not_mem_nil, or_false] at hx'
        rcases hx' with rfl | rfl | rfl | rfl | rfl | rfl | rfl
        all_goals exact ⟨_, rfl, by decide, by decide⟩
      have tl2 := fr_tup (S1.put (o := .lst [.int 1, .int 2, .int 3, .int 4, .int 5, .int 60, .int 7]) zl) F2
      have F12 : Fr st g H1 H2 := (Fr.of sl).trans F2
      have F02 := F1.trans F12
      have hW2 := F12 W _ hW1 zW.1 zW.2.1
      refine ⟨_, rfl, W, _, rfl, .inl ⟨SqL.of hW2, fun p np => ?_⟩⟩
      have zp := S2.old np
      have sp := sadd (o := .tup (wps.map V.ref)) (Same.refl H2) np
      have hp : upd H2 p (.tup (wps.map V.ref)) p = some (.tup (wps.map V.ref)) := upd_same
      have S3 := S2.same sp
      have F03 := F02.trans (Fr.of (st := st) (g := g) sp)
      have t13 : ∀ q xs, H1 q = some (.tup xs) → upd H2 p (.tup (wps.map V.ref)) q = some (.tup xs) := fun q xs e => sp _ _ (tl2 _ _ (tl _ _ e))
      generalize upd H2 p (.tup (wps.map V.ref)) = H3 at hp S3 F03 t13 ⊢
      refine ⟨_, rfl, (by show 3 ≤ sizeLine; decide), fun u nu => ?_⟩
      have zu := S3.old nu
      have su := sadd (o := .tup [.int dep, .ref p, .ref dt]) (Same.refl H3) nu
      refine k u ⟨dep, wss, ds⟩ _ (F03.free nu zu.1 zu.2.1) ⟨⟨p, dt, wps, upd_same, su _ _ hp, su _ _ (t13 _ _ hdt1), l1, fun i q e => ?_⟩, ?_⟩ ((S3.same su).mono (by omega)) (F03.trans (Fr.of su))
      · obtain ⟨ps, e1, e2⟩ := hw i q e
        exact ⟨ps, su _ _ (t13 _ _ e1), e2.mono fun q xs z => su _ _ (t13 _ _ z)⟩
      · have hl : ds.length = m := lds
        exact ⟨d1, d60, l2, by show 1 ≤ ds.length; omega, by show ds.length ≤ 6; omega, hd, hok⟩
end
end OH
end
section
set_option Elab.async false
set_option linter.all false
set_option maxRecDepth 100000
set_option maxHeartbeats 1000000
/-! A test, an expression whose end may be weakened: what follows is read once, for all its ways. -/
namespace OH
open PySem PySem.Spec PyProof.Rows L2
def tTUp (t : TT) : TT := fun σ H Q => ∃ R : Bool → Hp → Prop, t σ H R ∧ ∀ b H', R b H' → Q b H'
theorem pt_up {X : Cx} {e : Expr} {t : TT} (h : PT X e t) : PT X e (tTUp t) := ⟨fun pins s σ H Q I ⟨R, h1, k⟩ => thn (h.run pins s σ H R I h1) fun b s1 ⟨H1, I1, r⟩ => ⟨H1, I1, k b H1 r⟩⟩
def tEUp (t : TE) : TE := fun σ H Q => ∃ R : V → Hp → Prop, t σ H R ∧ ∀ v H', R v H' → Q v H'
theorem pe_up {X : Cx} {e : Expr} {t : TE} (h : PE X e t) : PE X e (tEUp t) := ⟨fun pins s σ H Q I ⟨R, h1, k⟩ => thn (h.run pins s σ H R I h1) fun u s1 ⟨v, H1, I1, r, q⟩ => ⟨v, H1, I1, r, k v H1 q⟩⟩
theorem ps_up {X : Cx} {st : Stmt} {t : TS} (h : PS X st t) : PS X st (fun D σ H => ∃ A : L2.St → Hp → Prop, t { D with nx := A } σ H ∧ ∀ σ' H', A σ' H' → D.nx σ' H') := by
  refine ⟨fun pins s σ H D I ⟨A, h1, k⟩ => thn (h.run pins s σ H _ I h1) fun fl s' q => ?_⟩
  cases fl with
  | next =>
    obtain ⟨σ', H', J, q⟩ := q
    exact ⟨σ', H', J, k _ _ q⟩
  | brk => exact q
  | cont => exact q
  | ret u => exact q
end OH
end
section
set_option Elab.async false
set_option linter.all false
set_option maxRecDepth 100000
set_option maxHeartbeats 8000000
/-! A crossing that can stand next. -/
namespace OH
open PySem PySem.Spec PyProof.Rows L2
theorem eqv_nilT (ws : List PyData) : PyData.eqv (.tuple ws) (.tuple []) = ws.isEmpty := by
  cases ws <;> rfl
theorem shaped_pairsT (ws : List (Int × Int)) : SeqAt.shaped (.tuple (ws.map pairD)) = true := shaped_pairs ws
theorem PairsAt.of_mem {H : Hp} {ps : List Addr} {ws : List (Int × Int)} (h : PairsAt H ps ws) {p : Addr} (hp : p ∈ ps) : ∃ q ∈ ws, H p = some (.tup [.int q.1, .int q.2]) := by
  obtain ⟨i, hi⟩ := List.mem_iff_getElem?.mp hp
  obtain ⟨q, q1, q2⟩ := h.get hi
  exact ⟨q, List.mem_of_getElem? q1, q2⟩
theorem AkAt.frm {H H' : Hp} {st g c : Addr} {n : Nat} {al : Addr} {as : List (Int × Int)} (h : AkAt H al as) (S : SA H st g c n) (F : Fr st g H H') (ag : al ≠ g) : AkAt H' al as := by
  obtain ⟨ps, h1, h2⟩ := h
  exact ⟨ps, F al _ h1 (S.ne_st h1 (fun _ z => nomatch z)) ag, h2.mono (fr_tup S F)⟩
theorem AllAt.dpp {K : PySem.W.Frag} {H : Hp} {ps : List Addr} {as : List (Int × Int)} (h : AllAt H pairV ps as) : DpAll K H (ps.map V.ref) (as.map pairD) := by
  induction h with
  | nil => exact .nil
  | cons a _ ih => exact .cons (.tup (SqT.of a) (.cons (.int _) (.cons (.int _) .nil))) ih
/-- what stands while a crossing is drawn -/
structure NxA (H : Hp) (st g c : Addr) (n : Nat) (a al fl : Addr) (F : Fc) (as : List (Int × Int)) (ns : List Int) : Prop where
  S : SA H st g c n
  f : FcAt H a F
  k : AkAt H al as
  l : H fl = some (.lst (ns.map V.int))
  ag : al ≠ g
  lg : fl ≠ g
section
variable {H H' : Hp} {st g c : Addr} {n m : Nat} {a al fl : Addr} {F : Fc} {as : List (Int × Int)} {ns : List Int}
theorem NxA.fr (h : NxA H st g c n a al fl F as ns) (G : Fr st g H H') (S : SA H' st g c m) : NxA H' st g c m a al fl F as ns :=
  ⟨S, h.f.mono (fr_tup h.S G), h.k.frm h.S G h.ag, G fl _ h.l (h.S.ne_st h.l (fun _ z => nomatch z)) h.lg, h.ag, h.lg⟩
theorem NxA.same (h : NxA H st g c n a al fl F as ns) (G : Same H H') : NxA H' st g c n a al fl F as ns := h.fr (Fr.of G) (h.S.same G)
end
def spNextC : Sp := fun vs H Q _ => ∃ (st g c a al fl : Addr) (n : Nat) (r : Int) (F : Fc) (as : List (Int × Int)) (ns : List Int), vs = [.ref st, .ref a, .int r, .ref al, .ref fl] ∧ NxA H st g c n a al fl F as ns ∧ n ≤ 700000 ∧
  SOk F (some r, as) ∧ 1 ≤ ns.length ∧ ns.length ≤ 3 ∧ (∀ z ∈ ns, Num z) ∧
  ∀ (t : Addr) (x : Crs) (H' : Hp), H t = none → H' t = some (.tup x.vs) → Nx F r as x → SA H' st g c (n + 4) → Fr st g H H' → Q (.ref t) H'
section
variable {P : Program} {w : World} {K : PySem.W.Frag} {mg : Str → Option Value} {base : Heap}
abbrev nNx : List Str := ["state", "face", "control", "asks", "few", "way", "number", "to", "door"]
theorem sc__law_next : FnScope nNx ["state", "face", "control", "asks", "few"] (defScope s__law_next) := ⟨rfl, rfl, rfl, by decide +kernel, rfl, by decide +kernel, by decide +kernel⟩
theorem ok__law_next {f : Addr} {fd : FuncData} (F : Fun K "_law_next" "_law_next" s__law_next f fd) (T : Txt K mg)
    (DD : DefF P w K mg base CX0 4 "_law_draw" ["state", "room"] spDraw) (DP : DefF P w K mg base CX0 4 "_law_pick" ["state", "some"] spPick2) : FnOk P w K mg base CX0 5 f fd ["state", "face", "control", "asks", "few"] spNextC := by
  refine F.ok sc__law_next (fun vs H Q E h => ?_) (fun cdv A outer s H vs Q E hr h => ?_)
  · obtain ⟨st, g, c, a, al, fl, n, r, F, as, ns, rfl, _⟩ := h
    rfl
  · obtain ⟨st, g, c, a, al, fl, n, r, F, as, ns, rfl, N, hn, hs, l1, l3, hnum, k⟩ := h
    have nd := sc__law_next.nd
    refine ⟨_, pss_cons (ps_par (i := 5) (j := 6) (by rfl) nd rfl rfl (by decide) rfl rfl (pa_cons (pe_cD DD hr rfl pass0 (pa_cons (pv 0) (pa_cons pe_int pa_nil))) (pa_cons (pe_cD DP hr rfl pass0 (pa_cons (pv 0) (pa_cons (pv 4) pa_nil))) pa_nil)) (by rfl))
      (pss_cons (ps_if (pt_up (PW.pt (pw_and (pt_cmpR op_eq (pv 5) pe_int (nomark _)) (pw_and1 (pt_cmpR op_eq (pe_cD DD hr rfl pass0 (pa_cons (pv 0) (pa_cons pe_int pa_nil))) pe_int (nomark _)))))) (pss_one (ps_ret (pe_tup (pa_cons pe_str (pa_cons (pv 2) pa_nil))))) pss_nil)
      (pss_cons (ps_if (pt_up (PW.pt (pw_and (pt_cmpR (op_neD hr.units) (pe_ix ix_tup (pe_ix ix_tup (pv 1) pe_int (fun _ _ => rfl)) (pv 2) (fun _ _ => rfl)) (pe_tup pa_nil) (nomark _)) (pw_and1 (pt_cmpR op_lt (pv 5) (pe_ifExp (pt_cmpR (op_neD hr.units) (pv 3) (pe_lst pa_nil) (nomark _)) pe_int pe_int) (nomark _)))))) (pss_cons (ps_asg (pe_cD DP hr rfl pass0 (pa_cons (pv 0) (pa_cons (pe_ix ix_tup (pe_ix ix_tup (pv 1) pe_int (fun _ _ => rfl)) (pv 2) (fun _ _ => rfl)) pa_nil))) (pg_tup (by rfl) (pgs_cons (pg_name (i := 7) nd rfl (Or.inl rfl)) (pgs_cons (pg_name (i := 8) nd rfl (Or.inl rfl)) pgs_nil))))
      (pss_one (ps_ret (pe_tup (pa_cons (pe_ifExp (pt_cmpR op_lt (pe_callB call_len_seq (by rfl) T.nLen PySem.boot_len (pa_cons (pv 3) pa_nil)) (pe_ix ix_tup (pv 1) pe_int (fun _ _ => rfl)) (nomark _)) pe_str pe_str) (pa_cons (pv 2) (pa_cons (pv 7) (pa_cons (pv 8) (pa_cons (pv 6) pa_nil))))))))) pss_nil)
      (pss_one (ps_ret (pe_ifExp (pt_cmpR (op_neD hr.units) (pv 3) (pe_lst pa_nil) (nomark _)) (pe_tup (pa_cons pe_str (pa_cons (pv 2) (pa_cons (pe_ix ix_tup (pe_ix ix_list (pv 3) (pe_un un_neg pe_int) (fun _ _ => rfl)) pe_int (fun _ _ => rfl)) (pa_cons (pv 6) pa_nil))))) (pe_tup (pa_cons pe_str (pa_cons (pv 6) pa_nil)))))))), ?_⟩
    have hF := N.f.ok
    obtain ⟨r0, r1⟩ := (hs.ctl (c := r) rfl).rng hF
    have hle : (as.length : Int) ≤ F.dep := hs.le
    refine ⟨_, rfl, st, g, c, n, 10, rfl, N.S, by omega, by decide, by decide, fun wy H1 w0 w9 S1 F1 => ?_⟩
    have N1 := N.fr F1 S1
    refine ⟨_, rfl, _, rfl, st, g, c, fl, n + 1, _, rfl, S1, by omega, .inl ⟨N1.l, N.lg⟩, by rw [List.length_map]; omega, by rw [List.length_map]; omega, fun x H2 hx S2 F2 => ?_⟩
    obtain ⟨num, hnm, rfl⟩ := List.mem_map.mp hx
    have hN := hnum num hnm
    have N2 := N1.fr F2 S2
    have F02 := F1.trans F2
    clear hx F1 F2 S1 S2 N1
    refine ⟨_, _, rfl, ?_⟩
    -- the first test
    refine ⟨fun _ H' => NxA H' st g c (n + 3) a al fl F as ns ∧ Fr st g H H', ?_, fun b H3 ⟨N3, F03⟩ => ?_⟩
    · refine ⟨_, rfl, rfl, _, rfl, ite2 (fun z => ?_) (fun z => ?_)⟩
      · refine ⟨_, rfl, st, g, c, n + 1 + 1, 3, rfl, N2.S, by omega, by decide, by decide, fun y H3 y0 y9 S3 F3 => ?_⟩
        refine ⟨rfl, _, rfl, N2.fr F3 S3, F02.trans F3⟩
      · exact ⟨N2.fr (Fr.refl st g H2) (N2.S.mono (by omega)), F02⟩
    have give : ∀ {H3 : Hp} {m : Nat} (x : Crs) (u : Addr), SA H3 st g c m → m ≤ n + 4 → Fr st g H H3 → H3 u = none → Nx F r as x → Q (.ref u) (upd H3 u (.tup x.vs)) := fun x u S3 hm F3 nu hx =>
      k u x _ (F3.free nu (S3.old nu).1 (S3.old nu).2.1) upd_same hx ((S3.same (sadd (Same.refl _) nu)).mono hm) (F3.trans (Fr.of (sadd (Same.refl _) nu)))
    cases b with
    | true =>
      refine iteT ?_
      exact ⟨_, rfl, (by show 2 ≤ sizeLine; decide), fun u nu => give (.fin r) u N3.S (by omega) F03 nu rfl⟩
    | false =>
      refine iteF ?_
      obtain ⟨wt, dt, wps, b1, b2, b3, b4, b5⟩ := N3.f.ex
      obtain ⟨wp, hwp⟩ : ∃ wp, wps[r.toNat]? = some wp := ⟨_, List.getElem?_eq_getElem (by rw [b4]; omega)⟩
      obtain ⟨ps, p1, p2⟩ := b5 _ _ hwp
      obtain ⟨as_, a1, a2⟩ := id N3.k
      have at_ : atI (wps.map V.ref) r = some (.ref wp) := by
        have := atI_nat (xs := wps.map V.ref) (j := r.toNat) (v := .ref wp) (by rw [List.getElem?_map, hwp]; rfl)
        rwa [Int.toNat_of_nonneg r0] at this
      have lw8 : (F.ws r.toNat).length ≤ 8 := (hF.wi r.toNat (by omega)).1
      have sp2 := shaped_pairsT (F.ws r.toNat)
      have spa := shaped_pairs as
      refine ⟨fun b H' => Same H3 H' ∧ (b = true → F.ws r.toNat ≠ []), ?_, fun b H4 ⟨s4, hb⟩ => ?_⟩
      · refine ⟨_, rfl, a, _, 1, _, rfl, rfl, SqT.of b1, rfl, _, rfl, wt, _, r, .ref wp, rfl, rfl, SqT.of b2, at_, (by show 0 ≤ sizeLine; decide), fun e ne => ?_⟩
        have se := sadd (o := .tup []) (Same.refl H3) ne
        have he : upd H3 e (.tup []) e = some (.tup []) := upd_same
        have p13 := se _ _ p1
        have p23 := p2.mono fun q xs z => se _ _ z
        have a13 := se _ _ a1
        have a23 := a2.mono fun q xs z => se _ _ z
        generalize upd H3 e (.tup []) = H4 at se he p13 p23 a13 a23 ⊢
        refine ⟨.tuple ((F.ws r.toNat).map pairD), .tuple [], .tup (SqT.of p13) p23.dp, .tup (SqT.of he) .nil, sp2, rfl, _, rfl, ?_⟩
        rw [eqv_nilT]
        cases hws : ((F.ws r.toNat).map pairD).isEmpty with
        | true => exact iteF ⟨se, fun z => nomatch z⟩
        | false =>
          refine iteT ?_
          have hne : F.ws r.toNat ≠ [] := fun z => by rw [z] at hws; cases hws
          refine ⟨_, rfl, _, rfl, (by show 0 ≤ sizeLine; decide), fun e2 ne2 => ?_⟩
          have se2 := sadd (o := .lst []) (Same.refl H4) ne2
          have he2 : upd H4 e2 (.lst []) e2 = some (.lst []) := upd_same
          refine ⟨.list (as.map pairD), .list [], .lst (SqL.of (se2 _ _ a13)) (a23.mono fun q xs z => se2 _ _ z).dpp, .lst (SqL.of he2) .nil, spa, rfl, _, rfl, ?_⟩
          refine ite2 (fun _ => ?_) (fun _ => ?_)
          · exact ⟨_, _, rfl, rfl, _, rfl, se.trans se2, fun _ => hne⟩
          · exact ⟨_, _, rfl, rfl, _, rfl, se.trans se2, fun _ => hne⟩
      have N4 := N3.same s4
      have F04 := F03.trans (Fr.of s4)
      replace b1 := s4 _ _ b1
      replace b2 := s4 _ _ b2
      replace p1 := s4 _ _ p1
      replace p2 := p2.mono fun q xs z => s4 _ _ z
      replace a1 := s4 _ _ a1
      replace a2 := a2.mono fun q xs z => s4 _ _ z
      have lps := p2.len
      have las := a2.len
      cases b with
      | true =>
        refine iteT ?_
        have pos : 0 < (F.ws r.toNat).length := List.length_pos_iff.mpr (hb rfl)
        refine ⟨_, rfl, _, rfl, a, _, 1, _, rfl, rfl, SqT.of b1, rfl, _, rfl, wt, _, r, .ref wp, rfl, rfl, SqT.of b2, at_, ?_⟩
        refine ⟨st, g, c, wp, n + 3, _, rfl, N4.S, by omega, .inr p1, by rw [List.length_map]; omega, by rw [List.length_map]; omega, fun x H5 hx S5 F5 => ?_⟩
        obtain ⟨q, hq, rfl⟩ := List.mem_map.mp hx
        obtain ⟨v, hv, hqv⟩ := p2.of_mem hq
        have t5 := fr_tup N4.S F5
        refine ⟨q, _, rfl, SqT.of (t5 _ _ hqv), rfl, _, _, rfl, _, _, rfl, rfl, ?_⟩
        have N5 := N4.fr F5 S5
        have F05 := F04.trans F5
        obtain ⟨as5, a15, a25⟩ := id N5.k
        have la5 := a25.len
        refine ⟨_, rfl, al, _, rfl, .inl (SqL.of a15), _, rfl, a, _, 0, _, rfl, rfl, SqT.of (t5 _ _ b1), rfl, _, _, rfl, rfl, _, rfl, ?_⟩
        rw [List.length_map, la5]
        refine ite2 (fun z => ?_) (fun z => ?_)
        · have hlt : (as.length : Int) < F.dep := by simpa using z
          refine ⟨_, rfl, _, rfl, _, rfl, _, rfl, (by show 5 ≤ sizeLine; decide), fun u nu => ?_⟩
          exact give (.call r v.1 v.2 num) u N5.S (by omega) F05 nu ⟨rfl, hv, hlt, hN⟩
        · have hlt : ¬ (as.length : Int) < F.dep := by simpa using z
          refine ⟨_, rfl, _, rfl, _, rfl, _, rfl, (by show 5 ≤ sizeLine; decide), fun u nu => ?_⟩
          exact give (.deep r v.1 v.2 num) u N5.S (by omega) F05 nu ⟨rfl, hv, by omega, hN⟩
      | false =>
        refine iteF ?_
        refine ⟨_, rfl, (by show 0 ≤ sizeLine; decide), fun e2 ne2 => ?_⟩
        have se2 := sadd (o := .lst []) (Same.refl H4) ne2
        have he2 : upd H4 e2 (.lst []) e2 = some (.lst []) := upd_same
        have S5 := N4.S.same se2
        have F05 := F04.trans (Fr.of se2)
        replace a1 := se2 _ _ a1
        replace a2 := a2.mono fun q xs z => se2 _ _ z
        generalize upd H4 e2 (.lst []) = H5 at se2 he2 S5 F05 a1 a2 ⊢
        refine ⟨.list (as.map pairD), .list [], .lst (SqL.of a1) a2.dpp, .lst (SqL.of he2) .nil, spa, rfl, _, rfl, ?_⟩
        rw [eqv_nil]
        cases has : (as.map pairD).isEmpty with
        | true =>
          refine iteF ?_
          have e0 : as = [] := by
            cases as with
            | nil => rfl
            | cons _ _ => cases has
          exact ⟨_, rfl, (by show 2 ≤ sizeLine; decide), fun u nu => give (.done num) u S5 (by omega) F05 nu ⟨e0, hN⟩⟩
        | false =>
          refine iteT ?_
          obtain ⟨q, hq⟩ : ∃ q, as.getLast? = some q := by
            cases h : as.getLast? with
            | none => rw [List.getLast?_eq_none_iff.mp h] at has; cases has
            | some q => exact ⟨q, rfl⟩
          have hq' := hq
          rw [List.getLast?_eq_getElem?] at hq'
          obtain ⟨pq, hpq, e2'⟩ := a2.get hq'
          rw [← las] at hpq
          refine ⟨_, rfl, _, rfl, _, rfl, al, _, -1, .ref pq, rfl, rfl, SqL.of a1, atI_end (by rw [List.length_map, List.getElem?_map, hpq]; rfl), pq, _, 0, _, rfl, rfl, SqT.of e2', rfl, _, rfl, (by show 4 ≤ sizeLine; decide), fun u nu => ?_⟩
          exact give (.back r q.1 num) u S5 (by omega) F05 nu ⟨rfl, ⟨q, hq, rfl⟩, hN⟩
end
end OH
end
section
set_option Elab.async false
set_option linter.all false
set_option maxRecDepth 100000
set_option maxHeartbeats 8000000
/-! A row is drawn. -/
namespace OH
open PySem PySem.Spec PyProof.Rows L2
theorem RwAt.frm {H H' : Hp} {st g c : Addr} {n : Nat} {l : Addr} {cs : List Crs} (h : RwAt H l cs) (S : SA H st g c n) (F : Fr st g H H') (ag : l ≠ g) : RwAt H' l cs := by
  obtain ⟨ps, h1, h2⟩ := h
  exact ⟨ps, F l _ h1 (S.ne_st h1 (fun _ z => nomatch z)) ag, h2.mono (fr_tup S F)⟩
theorem RwAt.add {H : Hp} {l t : Addr} {cs : List Crs} {x : Crs} (h : RwAt H l cs) (ht : H t = some (.tup x.vs)) : ∃ ps : List Addr, H l = some (.lst (ps.map V.ref)) ∧ ps.length = cs.length ∧ RwAt (upd H l (.lst (ps.map V.ref ++ [.ref t]))) l (cs ++ [x]) ∧ ∀ q xs, H q = some (.tup xs) → upd H l (.lst (ps.map V.ref ++ [.ref t])) q = some (.tup xs) := by
  obtain ⟨ps, h1, h2⟩ := h
  have kt : ∀ q xs, H q = some (.tup xs) → upd H l (.lst (ps.map V.ref ++ [.ref t])) q = some (.tup xs) := fun q xs e => (upd_ne (ne_of e h1 (fun z => nomatch z))).trans e
  exact ⟨ps, h1, h2.len, ⟨ps ++ [t], by rw [upd_same, List.map_append]; rfl, (h2.mono kt).app (kt _ _ ht)⟩, kt⟩
def spRowD : Sp := fun vs H Q _ => ∃ (st g c a : Addr) (n : Nat) (F : Fc) (most : Int), vs = [.ref st, .ref a, .int most] ∧ SA H st g c n ∧ FcAt H a F ∧ n ≤ 600000 ∧ 0 ≤ most ∧ most ≤ 100 ∧
  ∀ (l : Addr) (cs : List Crs) (H' : Hp), H l = none → RwAt H' l cs → VR F cs → (cs.length : Int) ≤ most + 1 → SA H' st g c (n + 500) → Fr st g H H' → Q (.ref l) H'
section
variable {P : Program} {w : World} {K : PySem.W.Frag} {mg : Str → Option Value} {base : Heap}
abbrev nDr : List Str := ["state", "face", "most", "few", "row", "control", "asks", "turn"]
theorem sc__law_drawn_row : FnScope nDr ["state", "face", "most"] (defScope s__law_drawn_row) := ⟨rfl, rfl, rfl, by decide +kernel, rfl, by decide +kernel, by decide +kernel⟩
theorem ok__law_drawn_row {f : Addr} {fd : FuncData} (F : Fun K "_law_drawn_row" "_law_drawn_row" s__law_drawn_row f fd) (T : Txt K mg)
    (DF : DefF P w K mg base CX0 9 "_law_few" ["state"] spFew) (DD : DefF P w K mg base CX0 9 "_law_draw" ["state", "room"] spDraw) (DP : DefF P w K mg base CX0 9 "_law_pick" ["state", "some"] spPick2)
    (DN : DefF P w K mg base CX0 9 "_law_next" ["state", "face", "control", "asks", "few"] spNextC) (DB : DefF P w K mg base CX0 9 "_law_behind" ["control", "asks", "crossing"] (spBehind K)) :
    FnOk P w K mg base CX0 10 f fd ["state", "face", "most"] spRowD := by
  refine F.ok sc__law_drawn_row (fun vs H Q E h => ?_) (fun cdv A outer s H vs Q E hr h => ?_)
  · obtain ⟨st, g, c, a, n, F, most, rfl, _⟩ := h
    rfl
  · obtain ⟨st, g, c, a, n, F, most, rfl, S, hf, hn, m0, m1, k⟩ := h
    have nd := sc__law_drawn_row.nd
    refine ⟨_, pss_cons (ps_set (i := 3) nd rfl (Or.inl rfl) (pe_cD DF hr rfl pass0 (pa_cons (pv 0) pa_nil)))
      (pss_cons (ps_par3 (i := 4) (j := 5) (l := 6) rfl nd rfl rfl rfl (by decide) (by decide) (by decide) rfl rfl rfl (pa_cons (pe_lst (pa_cons (pe_tup (pa_cons pe_str (pa_cons (pe_cD DP hr rfl pass0 (pa_cons (pv 0) (pa_cons (pv 3) pa_nil))) pa_nil))) pa_nil)) (pa_cons pe_int (pa_cons (pe_lst pa_nil) pa_nil))) (by rfl))
      (pss_cons (ps_for PassesOwn.never rfl (pi_range1 rfl T.nRange (pa_cons (pe_cD DD hr rfl pass0 (pa_cons (pv 0) (pa_cons (pe_op op_add (pv 2) pe_int) pa_nil))) pa_nil)) (pg_name (i := 7) nd rfl (Or.inl rfl))
        (pss_one (ps_if (pt_cmpR op_notN (pv 5) pe_non (nomark _)) (pss_cons (ps_expr (pe_bm PySem.F.plainAttrs_list PySem.F.slot_list_append PySem.F.type_list_append mt_append (pv 4) (pa_cons (pe_cD DN hr rfl pass0 (pa_cons (pv 0) (pa_cons (pv 1) (pa_cons (pv 5) (pa_cons (pv 6) (pa_cons (pv 3) pa_nil)))))) pa_nil)))
      (pss_one (ps_asg (pe_cD DB hr rfl pass0 (pa_cons (pv 5) (pa_cons (pv 6) (pa_cons (pe_ix ix_list (pv 4) (pe_un un_neg pe_int) (fun _ _ => rfl)) pa_nil)))) (pg_tup (by rfl) (pgs_cons (pg_name (i := 5) nd rfl (Or.inl rfl)) (pgs_cons (pg_name (i := 6) nd rfl (Or.inl rfl)) pgs_nil)))))) pss_nil)))
      (pss_one (ps_ret (pv 4))))), ?_⟩
    have hF := hf.ok
    refine ⟨_, rfl, st, g, c, n, rfl, S, by omega, fun fl ns H1 nfl f1 f2 f3 hfl l1 l3 hnum S1 F1 => ?_⟩
    refine ⟨_, rfl, _, rfl, st, g, c, fl, n + 7, _, rfl, S1, by omega, .inl ⟨hfl, f2⟩, by rw [List.length_map]; omega, by rw [List.length_map]; omega, fun x H2 hx S2 F2 => ?_⟩
    obtain ⟨num, hnm, rfl⟩ := List.mem_map.mp hx
    have hN := hnum num hnm
    have hf2 := (hf.mono (fr_tup S F1)).mono (fr_tup S1 F2)
    have hfl2 := F2 fl _ hfl f1 f2
    have F02 := F1.trans F2
    refine ⟨(by show 2 ≤ sizeLine; decide), fun t0 nt0 => ?_⟩
    have st0 := sadd (o := .tup [.str "start", .int num]) (Same.refl H2) nt0
    have ht0 : upd H2 t0 (.tup [.str "start", .int num]) t0 = some (.tup (Crs.start num).vs) := upd_same
    have S3 := S2.same st0
    have F03 := F02.trans (Fr.of st0)
    have hf3 := hf2.same st0
    have hfl3 := st0 _ _ hfl2
    generalize upd H2 t0 (.tup [.str "start", .int num]) = H3 at ht0 S3 F03 hf3 hfl3 ⊢
    refine ⟨(by show 1 ≤ sizeLine; decide), fun l nl => ?_⟩
    have zl := S3.old nl
    have nfll : fl ≠ l := ne_of_none hfl3 nl
    have l0 := F03.free nl zl.1 zl.2.1
    have sl := sadd (o := .lst [.ref t0]) (Same.refl H3) nl
    have hl : upd H3 l (.lst [.ref t0]) l = some (.lst ([t0].map V.ref)) := upd_same
    have S4 := S3.same sl
    have F04 := F03.trans (Fr.of sl)
    have hf4 := hf3.same sl
    have hfl4 := sl _ _ hfl3
    have ht4 := sl _ _ ht0
    generalize upd H3 l (.lst [.ref t0]) = H4 at hl S4 F04 hf4 hfl4 ht4 ⊢
    refine ⟨(by show 0 ≤ sizeLine; decide), fun al nal => ?_⟩
    have zal := S4.old nal
    have nall0 : al ≠ l := (ne_of_none hl nal).symm
    have sal := sadd (o := .lst []) (Same.refl H4) nal
    have hal : upd H4 al (.lst []) al = some (.lst (([] : List Addr).map V.ref)) := upd_same
    have S5 := S4.same sal
    have F05 := F04.trans (Fr.of sal)
    have hf5 := hf4.same sal
    have hfl5 := sal _ _ hfl4
    have hl5 := sal _ _ hl
    have ht5 := sal _ _ ht4
    generalize upd H4 al (.lst []) = H5 at hal S5 F05 hf5 hfl5 hl5 ht5 ⊢
    have R5 : RwAt H5 l [.start num] := ⟨[t0], hl5, .cons ht5 .nil⟩
    have A5 : AkAt H5 al [] := ⟨[], hal, .nil⟩
    refine ⟨_, _, _, rfl, ?_⟩
    refine ⟨_, rfl, _, rfl, _, _, rfl, rfl, st, g, c, _, most + 1, rfl, S5, by omega, by omega, by omega, fun u H6 u0 u1 S6 F6 => ?_⟩
    refine ⟨_, rfl, by omega, by omega, ?_⟩
    refine for_range (lo := 0) (n := u.toNat) (fun i σ H' => ∃ (cs : List Crs) (al : Addr) (o7 : Option V), σ = [some (.ref st), some (.ref a), some (.int most), some (.ref fl), some (.ref l), some (optV (stt (none, []) cs).1), some (.ref al), o7] ∧
      VR F cs ∧ RwAt H' l cs ∧ cs.length ≤ i + 1 ∧ al ≠ l ∧ NxA H' st g c (n + 9 + 4 * i) a al fl F (stt (none, []) cs).2 ns ∧ Fr st g H H') ?h0 ?turn ?done
    case h0 =>
      have A6 := A5.frm S5 F6 zal.2.1
      exact ⟨[.start num], al, none, rfl, ⟨num, [], rfl, hN, trivial⟩, R5.frm S5 F6 zl.2.1, Nat.le_refl _, nall0, ⟨S6.mono (by omega), hf5.mono (fr_tup S5 F6), A6, F6 fl _ hfl5 f1 f2, zal.2.1, f2⟩, F05.trans F6⟩
    case done =>
      rintro σ H7 ⟨cs, al, o7, rfl, hv, hr7, lc, nall, N7, F7⟩
      exact ⟨_, rfl, k l cs H7 l0 hr7 hv (by omega) (N7.S.mono (by omega)) F7⟩
    case turn =>
      rintro i σ H7 hi ⟨cs, al, o7, rfl, hv, hr7, lc, nall, N7, F7⟩
      refine ⟨_, rfl, rfl, _, rfl, ?_⟩
      cases hc : (stt (none, []) cs).1 with
      | none => exact iteF ⟨cs, al, _, by rw [hc]; rfl, hv, hr7, by omega, nall, N7.fr (Fr.refl st g H7) (N7.S.mono (by omega)), F7⟩
      | some r =>
        refine iteT ?_
        have sok := hv.ok hF
        have hs : SOk F (some r, (stt (none, []) cs).2) := by rw [← hc]; exact sok
        have las : (stt (none, []) cs).2.length ≤ 60 := by
          have h1 := hs.le
          have h2 := hF.d60
          have h3 : ((stt (none, []) cs).2.length : Int) ≤ F.dep := h1
          omega
        obtain ⟨ps7, r1, r2⟩ := id hr7
        refine ⟨_, rfl, .inl ⟨rfl, _, SqL.of r1⟩, ?_⟩
        refine ⟨_, rfl, _, rfl, _, rfl, _, rfl, _, rfl, st, g, c, a, al, fl, n + 9 + 4 * i, r, F, _, ns, rfl, N7, by omega, hs, l1, l3, hnum, fun t x H8 nt8 ht8 hx S8 F8 => ?_⟩
        have N8 := N7.fr F8 S8
        obtain ⟨ps8, q1, q2, q3, q4⟩ := (hr7.frm N7.S F8 zl.2.1).add ht8
        refine ⟨l, _, _, rfl, rfl, q1, (by rw [List.length_map, q2, sizeLine_eq]; omega), ?_⟩
        have k8 : ∀ b o, H8 b = some o → b ≠ l → upd H8 l (.lst (ps8.map V.ref ++ [.ref t])) b = some o := fun b o e nb => (upd_ne nb).trans e
        have ht9 := q4 _ _ ht8
        have S9 := S8.put (o := .lst (ps8.map V.ref ++ [.ref t])) zl
        have hf9 := N8.f.mono q4
        have nfl2 : fl ≠ l := nfll
        have nal2 : al ≠ l := nall
        have hfl9 := k8 fl _ N8.l nfl2
        have ak9 : AkAt (upd H8 l (.lst (ps8.map V.ref ++ [.ref t]))) al (stt (none, []) cs).2 := by
          obtain ⟨as_, a1, a2⟩ := N8.k
          exact ⟨as_, k8 al _ a1 nal2, a2.mono q4⟩
        have F9 : Fr st g H (upd H8 l (.lst (ps8.map V.ref ++ [.ref t]))) := fun b o e h1 h2 => k8 b o ((F7.trans F8) b o e h1 h2) (ne_of_none e l0)
        generalize upd H8 l (.lst (ps8.map V.ref ++ [.ref t])) = H9 at q3 ht9 S9 hf9 hfl9 ak9 F9 ⊢
        obtain ⟨ps9, w1, w2⟩ := id q3
        obtain ⟨t', ht', ht9'⟩ := w2.get (i := cs.length) (x := x) (by rw [List.getElem?_append_right (Nat.le_refl _), Nat.sub_self]; rfl)
        have lw := w2.len
        rw [List.length_append] at lw
        refine ⟨_, rfl, _, rfl, _, rfl, _, rfl, l, _, -1, .ref t', rfl, rfl, SqL.of w1, atI_end (by rw [List.length_map, lw, List.getElem?_map, show cs.length + [x].length - 1 = cs.length from rfl, ht']; rfl), ?_⟩
        refine ⟨_, al, t', some r, (stt (none, []) cs).2, x, rfl, ak9, ht9', by omega, fun u' al' Ha sa nu' ha' hu' ak' => ?_⟩
        refine ⟨u', _, rfl, SqT.of hu', rfl, _, _, rfl, _, _, rfl, rfl, ?_⟩
        have est : stt (none, []) (cs ++ [x]) = bh (some r, (stt (none, []) cs).2) x := by rw [stt_snoc, ← hc]
        have nag : al' ≠ g := by
          rcases ha' with rfl | ha'
          · exact N8.ag
          · exact (S9.old ha').2.1
        have nal9 : al' ≠ l := by
          rcases ha' with rfl | ha'
          · exact nall
          · exact (ne_of_none w1 ha').symm
        refine ⟨cs ++ [x], al', _, by rw [est]; rfl, hv.snoc hc hx, q3.same sa, by rw [List.length_append]; show cs.length + 1 ≤ _; omega, nal9, ⟨(S9.same sa).mono (by omega), hf9.same sa, by rw [est]; exact ak', sa _ _ hfl9, nag, f2⟩, F9.trans (Fr.of sa)⟩
end
end OH
end
section
set_option Elab.async false
set_option linter.all false
set_option maxRecDepth 100000
set_option maxHeartbeats 4000000
/-! A def called by keywords alone. -/
namespace OH
open PySem PySem.Spec PyProof.Rows L2
section
variable {X : Cx} {CX : CXT} {k : Nat} {f : Addr} {fd : FuncData} {ps ks : List Str} {sp : Sp} {E : XK} {x : Str} {p pos : Pos} {kws : List Keyword} {tk : TA}
  {g : List Value → List Value → List Value} {gV : List V → List V → List V}
theorem pe_callK0 (F : FnOk X.prog X.w X.K X.mg X.base CX k f fd ps sp) (hr : Room k X.A) (hg : Gl X x) (hm : X.mg x = some (.ref f)) (hk : PySem.W.keepIn X.K (.ref f) = true)
    (hb : KBinds X.K fd ps ks g gV) (hx : Passes CX X E) (hkw : PK X kws tk)
    (hall : ((backToKw pos (keywordEach kws X.env)).all fun x => x.fst.isSome) = true := by rfl)
    (hks : List.filterMap (fun x => x.fst) (backToKw pos (keywordEach kws X.env)) = ks := by rfl)
    (hdb : (x == ("__debug__" : Str)) = false := by decide)
    (hno : (((backTo pos (starEach [] X.env)).any fun x => x.fst) || (backToKw pos (keywordEach kws X.env)).any fun x => x.fst.isNone) = false := by rfl) :
    PE X (.Call (.Name x p) [] kws pos) (tCallK sp gV E tNil tk) := by
  constructor
  intro pins s σ H Q I h
  refine wpAny_Call_Name_kw (ld_glob I hg hm ?_ hdb)
  refine PySem.W.callWith_KW0 (h₀ := X.base) I.ok.mod.kin hk hall ?_ hno
  have h' : tk σ H fun zs H2 => sp (gV [] zs) H2 Q E := h
  refine thn (hkw.run pos pins s σ H _ I h') ?_
  rintro us s1 ⟨zs, H1, I1, r, q⟩
  refine ⟨I1.kIn, ?_⟩
  rw [hks]
  have rr := hb.rel (vs := []) (us := []) .nil r
  have n : (g [] us).length = ps.length := by
    rw [← rr.length]
    exact F.len _ _ _ _ q
  have b := hb.to s1 [] us I1.kIn n
  refine wpAny_call (codeAny_mono (F.run X.A X.stack s1 H1 ⟨[], ks.zip us⟩ (g [] us) (gV [] zs) Q E hr I1.env0 b rr q) fun res s2 done => ?_)
  rcases res with er | fl
  · exact hx pins σ H1 s1 er s2 I1 done
  · cases fl with
    | ret u => exact I1.after done
    | _ => exact False.elim done
end
end OH
end
section
set_option Elab.async false
set_option linter.all false
set_option maxRecDepth 100000
set_option maxHeartbeats 4000000
/-! Any values in the place of crossings: what stands in tuples; RowWalk.fields for any word. -/
namespace OH
open PySem PySem.Spec PyProof.Rows L2
theorem _root_.L2.FnOk.or {P : Program} {w : World} {K : PySem.W.Frag} {mg : Str → Option Value} {base : Heap} {CX : CXT} {k : Nat} {f : Addr} {fd : FuncData} {ps : List Str} {sp sp' : Sp} (F : FnOk P w K mg base CX k f fd ps sp) (G : FnOk P w K mg base CX k f fd ps sp') : FnOk P w K mg base CX k f fd ps (fun vs H Q E => sp vs H Q E ∨ sp' vs H Q E) :=
  ⟨fun vs H Q E h => h.elim (F.len vs H Q E) (G.len vs H Q E), fun A out s H ar us vs Q E hr he hb hv hs => hs.elim (F.run A out s H ar us vs Q E hr he hb hv) (G.run A out s H ar us vs Q E hr he hb hv)⟩
/-- what may stand in a tuple -/
inductive Ax where
  | n (z : Int)
  | t
  | o
  | s (x : Str)
def Ax.v : Ax → V
  | .n z => .int z
  | .t => .bl true
  | .o => .non
  | .s x => .str x
def axLay : Ax → Bool
  | .s x => PyData.canLay0 (.str x)
  | _ => true
/-- what may stand in a row -/
inductive Ci where
  | tup (xs : List Ax)
  | oth
/-- what is no tuple; Z: what nobody else changes -/
def Oth (Z : Addr → Prop) (H : Hp) (v : V) : Prop := v = .non ∨ (∃ i, v = .int i) ∨ (∃ x, v = .str x) ∨ (∃ p xs, v = .ref p ∧ Z p ∧ H p = some (.lst xs)) ∨ ∃ p kvs, v = .ref p ∧ Z p ∧ H p = some (.dK kvs)
def CiAt (Z : Addr → Prop) (H : Hp) (v : V) : Ci → Prop
  | .tup xs => ∃ p, v = .ref p ∧ H p = some (.tup (xs.map Ax.v)) ∧ xs.length ≤ 1000 ∧ xs.all axLay = true
  | .oth => Oth Z H v
inductive CisAt (Z : Addr → Prop) (H : Hp) : List V → List Ci → Prop where
  | nil : CisAt Z H [] []
  | cons {v : V} {c : Ci} {vs : List V} {cs : List Ci} : CiAt Z H v c → CisAt Z H vs cs → CisAt Z H (v :: vs) (c :: cs)
/-- what may stand for a row -/
inductive Rt where
  | seq (cs : List Ci)
  | oth
def RtAt (Z : Addr → Prop) (H : Hp) (v : V) : Rt → Prop
  | .seq cs => ∃ p vs, v = .ref p ∧ Z p ∧ (H p = some (.lst vs) ∨ H p = some (.tup vs)) ∧ CisAt Z H vs cs ∧ cs.length ≤ 1000
  | .oth => v = .non ∨ (∃ x, v = .str x) ∨ ∃ p kvs, v = .ref p ∧ Z p ∧ H p = some (.dK kvs)
section
variable {Z : Addr → Prop} {H H' : Hp} {v : V} {st g c : Addr} {n : Nat}
theorem Oth.same (h : Oth Z H v) (s : Same H H') : Oth Z H' v := by
  rcases h with h | h | h | ⟨p, xs, e, z, a⟩ | ⟨p, xs, e, z, a⟩
  · exact .inl h
  · exact .inr (.inl h)
  · exact .inr (.inr (.inl h))
  · exact .inr (.inr (.inr (.inl ⟨p, xs, e, z, s _ _ a⟩)))
  · exact .inr (.inr (.inr (.inr ⟨p, xs, e, z, s _ _ a⟩)))
theorem CiAt.same {x : Ci} (h : CiAt Z H v x) (s : Same H H') : CiAt Z H' v x := by
  cases x with
  | tup xs => obtain ⟨p, e, a, l⟩ := h; exact ⟨p, e, s _ _ a, l⟩
  | oth => exact Oth.same h s
theorem CisAt.same {vs : List V} {xs : List Ci} (h : CisAt Z H vs xs) (s : Same H H') : CisAt Z H' vs xs := by
  induction h with
  | nil => exact .nil
  | cons a _ ih => exact .cons (a.same s) ih
theorem CisAt.len {vs : List V} {xs : List Ci} (h : CisAt Z H vs xs) : vs.length = xs.length := by
  induction h with
  | nil => rfl
  | cons _ _ ih => exact congrArg (· + 1) ih
theorem CisAt.get {vs : List V} {xs : List Ci} (h : CisAt Z H vs xs) : ∀ {i : Nat} {v : V}, vs[i]? = some v → ∃ x, xs[i]? = some x ∧ CiAt Z H v x := by
  induction h with
  | nil => intro i p e; cases i <;> cases e
  | cons a _ ih =>
    intro i p e
    cases i with
    | zero => exact ⟨_, rfl, by cases e; exact a⟩
    | succ i => exact ih e
theorem CisAt.app {vs ws : List V} {xs ys : List Ci} (h : CisAt Z H vs xs) (g : CisAt Z H ws ys) : CisAt Z H (vs ++ ws) (xs ++ ys) := by
  induction h with
  | nil => exact g
  | cons a _ ih => exact .cons a ih
theorem CisAt.take_ {vs : List V} {xs : List Ci} (h : CisAt Z H vs xs) (i : Nat) : CisAt Z H (vs.take i) (xs.take i) := by
  induction h generalizing i with
  | nil => rw [List.take_nil, List.take_nil]; exact .nil
  | cons a _ ih =>
    cases i with
    | zero => exact .nil
    | succ i => exact .cons a (ih i)
theorem CisAt.drop_ {vs : List V} {xs : List Ci} (h : CisAt Z H vs xs) (i : Nat) : CisAt Z H (vs.drop i) (xs.drop i) := by
  induction h generalizing i with
  | nil => rw [List.drop_nil, List.drop_nil]; exact .nil
  | cons a r ih =>
    cases i with
    | zero => exact .cons a r
    | succ i => exact ih i
theorem CisAt.rev {vs : List V} {xs : List Ci} (h : CisAt Z H vs xs) : CisAt Z H vs.reverse xs.reverse := by
  induction h with
  | nil => exact .nil
  | cons a _ ih =>
    rw [List.reverse_cons, List.reverse_cons]
    exact ih.app (.cons a .nil)
theorem RtAt.same {r : Rt} (h : RtAt Z H v r) (s : Same H H') : RtAt Z H' v r := by
  cases r with
  | seq cs => obtain ⟨p, vs, e, z, a, b⟩ := h; exact ⟨p, vs, e, z, a.elim (fun a => .inl (s _ _ a)) (fun a => .inr (s _ _ a)), b.1.same s, b.2⟩
  | oth =>
    rcases h with h | h | ⟨p, xs, e, z, a⟩
    · exact .inl h
    · exact .inr (.inl h)
    · exact .inr (.inr ⟨p, xs, e, z, s _ _ a⟩)
def Zs (st g : Addr) : Addr → Prop := fun p => p ≠ st ∧ p ≠ g
theorem Oth.frm (h : Oth (Zs st g) H v) (F : Fr st g H H') : Oth (Zs st g) H' v := by
  rcases h with h | h | h | ⟨p, xs, e, z, a⟩ | ⟨p, xs, e, z, a⟩
  · exact .inl h
  · exact .inr (.inl h)
  · exact .inr (.inr (.inl h))
  · exact .inr (.inr (.inr (.inl ⟨p, xs, e, z, F _ _ a z.1 z.2⟩)))
  · exact .inr (.inr (.inr (.inr ⟨p, xs, e, z, F _ _ a z.1 z.2⟩)))
theorem CiAt.frm {x : Ci} (h : CiAt (Zs st g) H v x) (S : SA H st g c n) (F : Fr st g H H') : CiAt (Zs st g) H' v x := by
  cases x with
  | tup xs => obtain ⟨p, e, a, l⟩ := h; exact ⟨p, e, fr_tup S F _ _ a, l⟩
  | oth => exact Oth.frm h F
theorem CisAt.frm {vs : List V} {xs : List Ci} (h : CisAt (Zs st g) H vs xs) (S : SA H st g c n) (F : Fr st g H H') : CisAt (Zs st g) H' vs xs := by
  induction h with
  | nil => exact .nil
  | cons a _ ih => exact .cons (a.frm S F) ih
theorem RtAt.frm {r : Rt} (h : RtAt (Zs st g) H v r) (S : SA H st g c n) (F : Fr st g H H') : RtAt (Zs st g) H' v r := by
  cases r with
  | seq cs => obtain ⟨p, vs, e, z, a, b⟩ := h; exact ⟨p, vs, e, z, a.elim (fun a => .inl (F _ _ a z.1 z.2)) (fun a => .inr (fr_tup S F _ _ a)), b.1.frm S F, b.2⟩
  | oth =>
    rcases h with h | h | ⟨p, xs, e, z, a⟩
    · exact .inl h
    · exact .inr (.inl h)
    · exact .inr (.inr ⟨p, xs, e, z, F _ _ a z.1 z.2⟩)
end
/-- a crossing as a value -/
def Crs.ci (x : Crs) : Ci := .tup (.s x.wd :: x.is.map Ax.n)
theorem Crs.ax (x : Crs) : (Ax.s x.wd :: x.is.map Ax.n).map Ax.v = x.vs := by
  rw [Crs.vs_eq, List.map_cons, List.map_map]
  rfl
theorem AllAt.cis {Z : Addr → Prop} {H : Hp} {ps : List Addr} {cs : List Crs} (h : AllAt H Crs.vs ps cs) : CisAt Z H (ps.map V.ref) (cs.map Crs.ci) := by
  induction h with
  | nil => exact .nil
  | @cons p x ps xs a _ ih =>
    refine .cons ⟨p, rfl, by rw [Crs.ax]; exact a, ?_, ?_⟩ ih
    · rw [List.length_cons, List.length_map]
      cases x <;> (show _ ≤ _; simp [Crs.is])
    · rw [List.all_cons, show ((x.is.map Ax.n).all axLay) = true by rw [List.all_map]; exact List.all_eq_true.mpr fun _ _ => rfl, Bool.and_true]
      cases x <;> (simp only [Crs.wd, axLay]; decide +kernel)
/-! what a row-walk lets -/
def okA (f : Fd) : Ax → Bool
  | .n i => okF f i
  | _ => false
def canX (w : Wk) : Ci → Bool
  | .tup (.s x :: as) => match fld w x with
    | none => false
    | some fs => decide (as.length = fs.length) && (fs.zip as).all fun q => okA q.1 q.2
  | _ => false
def spFields0 (CW : Addr) : Sp := fun vs H Q _ => ∃ (p d al : Addr) (w : Wk) (v : V), vs = [.ref p, v] ∧ WkAt CW H p d al w ∧ (v = .non ∨ (∃ i, v = .int i) ∨ ∃ b, v = .bl b) ∧ ∀ H', Same H H' → Q .non H'
section
variable {P : Program} {w : World} {K : PySem.W.Frag} {mg : Str → Option Value} {base : Heap} {CW aN aD : Addr}
theorem ok_RowWalk_fields0 {f : Addr} {fd : FuncData} (F : Fun K "fields" "RowWalk.fields" s_RowWalk_fields f fd) (T : TxW K CW) (G : TxC K mg aN aD) : FnOk P w K mg base CX0 1 f fd ["self", "word"] (spFields0 CW) := by
  refine F.ok sc_RowWalk_fields (fun vs H Q E h => ?_) (fun cdv A outer s H vs Q E hr h => ?_)
  · obtain ⟨p, d, al, w, v, rfl, _⟩ := h
    rfl
  · obtain ⟨p, d, al, w, v, rfl, W, hv, k⟩ := h
    have nd := sc_RowWalk_fields.nd
    obtain ⟨tO, gO⟩ := G.gO
    obtain ⟨tR, gR⟩ := G.gR
    refine ⟨_, pss_cons (ps_if (pt_val (pe_fld (pv 0) rfl)) (pss_one (ps_ret pe_non)) pss_nil)
      (pss_cons (ps_if (pt_cmpR op_isN (pe_fld (pv 0) rfl) pe_non (nomark _)) (pss_one (ps_ret (pe_ifExp (pt_cmpR op_eq (pv 1) pe_str (nomark _)) (pe_lst (pa_cons (pe_glob (v := .ref aN) rfl G.gN rfl) pa_nil)) pe_non))) pss_nil)
      (pss_cons (ps_set (i := 2) nd rfl (Or.inl rfl) (pe_tup (pa_cons (pe_fld (pv 0) rfl) (pa_cons (pe_fld (pv 0) rfl) (pa_cons pe_non pa_nil)))))
      (pss_cons (ps_set (i := 3) nd rfl (Or.inl rfl) (pe_tup (pa_cons pe_int (pa_cons (pe_op op_sub (pe_glob (v := .int 6) rfl gR ⟨tR, rfl⟩) pe_int) (pa_cons (pe_fld (pv 0) rfl) pa_nil)))))
      (pss_cons (ps_if (PW.pt (pw_or (PW.pt (pw_and (pt_cmpR op_eq (pv 1) pe_str (nomark _)) (pw_and1 (pt_cmpR op_lt (pe_callB call_len_seq (by rfl) G.nLen PySem.boot_len (pa_cons (pe_fld (pv 0) rfl) pa_nil)) (pe_glob (v := .int 60) rfl gO ⟨tO, rfl⟩) (nomark _))))) (pw_or1 (PW.pt (pw_and (pt_cmpR op_eq (pv 1) pe_str (nomark _)) (pw_and1 (pt_cmpR op_gt (pe_callB call_len_seq (by rfl) G.nLen PySem.boot_len (pa_cons (pe_fld (pv 0) rfl) pa_nil)) pe_int (nomark _)))))))) (pss_one (ps_ret (pe_lst (pa_cons (pv 2) (pa_cons (pv 3) (pa_cons (pe_glob (v := .ref aD) rfl G.gD rfl) (pa_cons (pe_glob (v := .ref aN) rfl G.gN rfl) pa_nil))))))) pss_nil)
      (pss_cons (ps_if (PW.pt (pw_and (pt_cmpR op_eq (pv 1) pe_str (nomark _)) (pw_and1 (pt_cmpR op_gt (pe_callB call_len_seq (by rfl) G.nLen PySem.boot_len (pa_cons (pe_fld (pv 0) rfl) pa_nil)) pe_int (nomark _))))) (pss_cons (ps_set (i := 4) nd rfl (Or.inl rfl) (pe_ix ix_tup (pe_ix ix_list (pe_fld (pv 0) rfl) (pe_un un_neg pe_int) (fun _ _ => rfl)) pe_int (fun _ _ => rfl)))
      (pss_one (ps_ret (pe_lst (pa_cons (pv 2) (pa_cons (pe_tup (pa_cons (pv 4) (pa_cons (pv 4) (pa_cons pe_non pa_nil)))) (pa_cons (pe_glob (v := .ref aN) rfl G.gN rfl) pa_nil))))))) pss_nil)
      (pss_cons (ps_if (PW.pt (pw_and (pt_cmpR op_eq (pv 1) pe_str (nomark _)) (pw_and1 (pt_cmpR op_eq (pe_callB call_len_seq (by rfl) G.nLen PySem.boot_len (pa_cons (pe_fld (pv 0) rfl) pa_nil)) pe_int (nomark _))))) (pss_one (ps_ret (pe_lst (pa_cons (pe_glob (v := .ref aN) rfl G.gN rfl) pa_nil)))) pss_nil)
      (pss_one (ps_ret (pe_ifExp (pt_cmpR op_eq (pv 1) pe_str (nomark _)) (pe_lst (pa_cons (pv 2) pa_nil)) pe_non))))))))), ?_⟩
    have sc : ∀ x : Str, scal v (.str x) = true := fun x => by
      rcases hv with rfl | ⟨i, rfl⟩ | ⟨b, rfl⟩ <;> rfl
    have ne : ∀ x : Str, decide (v = .str x) = false := fun x => by
      rcases hv with rfl | ⟨i, rfl⟩ | ⟨b, rfl⟩ <;> exact decide_eq_false (fun z => by cases z)
    have fI : ∀ {H' : Hp}, Same H H' → H' p = some (.ins CW d (wkf w al)) := fun s => s _ _ W.hp
    refine ⟨_, rfl, p, CW, d, _, _, rfl, W.hp, T.cl, T.nO, rfl, _, rfl, ?_⟩
    cases ho : w.over with
    | true => exact iteT (k _ (Same.refl H))
    | false =>
      refine iteF ?_
      refine ⟨_, rfl, p, CW, d, _, _, rfl, W.hp, T.cl, T.nI, rfl, rfl, _, rfl, ?_⟩
      cases hi : w.ins with
      | none =>
        refine iteT ?_
        refine ⟨_, rfl, sc _, _, rfl, ?_⟩
        rw [ne]
        exact iteF (k _ (Same.refl H))
      | some r =>
        refine iteF ?_
        have eI : optV w.ins = .int r := by rw [hi]; rfl
        have fl : (wkf w al).lookup ("inside" : Str) = some (.int r) := by rw [← eI]; rfl
        refine ⟨_, rfl, p, CW, d, _, _, rfl, W.hp, T.cl, T.nI, fl, _, rfl, p, CW, d, _, _, rfl, W.hp, T.cl, T.nI, fl, (by show 3 ≤ sizeLine; decide), fun o1 n1 => ?_⟩
        have s1 := sadd (o := .tup [.int r, .int r, .non]) (Same.refl H) n1
        generalize upd H o1 (.tup [.int r, .int r, .non]) = H1 at s1 ⊢
        refine ⟨_, _, rfl, rfl, _, rfl, p, CW, d, _, _, rfl, fI s1, T.cl, T.nI, fl, (by show 3 ≤ sizeLine; decide), fun o2 n2 => ?_⟩
        have s2 := s1.trans (sadd (o := .tup [.int 0, .int (6 - 1), .int r]) (Same.refl H1) n2)
        generalize upd H1 o2 (.tup [.int 0, .int (6 - 1), .int r]) = H2 at s2 ⊢
        refine ⟨_, rfl, sc _, _, rfl, ?_⟩
        rw [ne]
        refine iteF (iteF ?_)
        refine ⟨_, rfl, sc _, _, rfl, ?_⟩
        rw [ne]
        refine iteF (iteF ?_)
        refine ⟨_, rfl, sc _, _, rfl, ?_⟩
        rw [ne]
        refine iteF ?_
        refine ⟨_, rfl, sc _, _, rfl, ?_⟩
        rw [ne]
        refine iteF ?_
        refine ⟨_, rfl, sc _, _, rfl, ?_⟩
        rw [ne]
        exact iteF (k _ s2)
end
end OH
end
section
set_option Elab.async false
set_option linter.all false
set_option maxRecDepth 100000
set_option maxHeartbeats 4000000
/-! Whether any value can follow. -/
namespace OH
open PySem PySem.Spec PyProof.Rows L2
theorem canX_s (w : Wk) (x : Str) (as : List Ax) : canX w (.tup (.s x :: as)) = match fld w x with | none => false | some fs => decide (as.length = fs.length) && (fs.zip as).all fun q => okA q.1 q.2 := rfl
def spCanA (CW : Addr) : Sp := fun vs H Q _ => ∃ (Z : Addr → Prop) (p d al : Addr) (v : V) (w : Wk) (ci : Ci), vs = [.ref p, v] ∧ WkAt CW H p d al w ∧ w.asks.length ≤ 1000000 ∧ CiAt Z H v ci ∧ ∀ H', Same H H' → Q (.bl (canX w ci)) H'
section
variable {P : Program} {w : World} {K : PySem.W.Frag} {mg : Str → Option Value} {base : Heap} {CW aN aD : Addr}
theorem ok_can_followA {f : Addr} {fd : FuncData} (F : Fun K "can_follow" "RowWalk.can_follow" s_RowWalk_can_follow f fd) (T : Txt K mg) (TW : TxW K CW) (nEnum : mg "enumerate" = none)
    (DF : MetF P w K mg base CX0 1 CW "fields" ["self", "word"] (fun vs H Q E => spFields K CW vs H Q E ∨ spFields0 CW vs H Q E)) : FnOk P w K mg base CX0 2 f fd ["self", "crossing"] (spCanA CW) := by
  refine F.ok sc_RowWalk_can_follow (fun vs H Q E h => ?_) (fun cdv A outer s H vs Q E hr h => ?_)
  · obtain ⟨Z, p, d, al, v, w, ci, rfl, _⟩ := h
    rfl
  · obtain ⟨Z, p, d, al, v, w, ci, rfl, W, hl, hc, k⟩ := h
    have nd := sc_RowWalk_can_follow.nd
    refine ⟨_, pss_cons (ps_if (PW.pt (pw_or (pt_not (pt_val (pe_callB call_isi (by rfl) T.nIsi (by decide +kernel) (pa_cons (pv 1) (pa_cons (pe_bltn (v := .ty "tuple") (by rfl) T.nTuple (by decide +kernel) rfl) pa_nil))))) (pw_or1 (pt_cmpR op_eq (pe_callB call_len_seq (by rfl) T.nLen PySem.boot_len (pa_cons (pv 1) pa_nil)) pe_int (nomark _))))) (pss_one (ps_ret pe_bl)) pss_nil)
      (pss_cons (ps_set (i := 2) nd rfl (Or.inl rfl) (pe_mD (pv 0) TW.cl DF hr pass0 (pa_cons (pe_ix ix_tup (pv 1) pe_int (fun _ _ => rfl)) pa_nil)))
      (pss_cons (ps_if (PW.pt (pw_or (pt_cmpR op_isN (pv 2) pe_non (nomark _)) (pw_or1 (pt_cmpR op_ne (pe_callB call_len_seq (by rfl) T.nLen PySem.boot_len (pa_cons (pv 1) pa_nil)) (pe_op op_add pe_int (pe_callB call_len_seq (by rfl) T.nLen PySem.boot_len (pa_cons (pv 2) pa_nil))) (nomark _))))) (pss_one (ps_ret pe_bl)) pss_nil)
      (pss_cons (ps_for PassesOwn.never rfl (pi_enumO rfl nEnum (pa_cons (pv 2) (pa_cons pe_int pa_nil))) (pg_tup (by rfl) (pgs_cons (pg_name (i := 3) nd rfl (Or.inl rfl)) (pgs_cons (pg_tup (by rfl) (pgs_cons (pg_name (i := 4) nd rfl (Or.inl rfl)) (pgs_cons (pg_name (i := 5) nd rfl (Or.inl rfl)) (pgs_cons (pg_name (i := 6) nd rfl (Or.inl rfl)) pgs_nil)))) pgs_nil)))
        (pss_cons (ps_set (i := 7) nd rfl (Or.inl rfl) (pe_ix ix_tup (pv 1) (pv 3) (fun _ _ => rfl)))
      (pss_one (ps_if (PW.pt (pw_or (pt_not (pt_val (pe_callB call_isi (by rfl) T.nIsi (by decide +kernel) (pa_cons (pv 7) (pa_cons (pe_bltn (v := .ty "int") (by rfl) T.nInt (by decide +kernel) rfl) pa_nil))))) (pw_or (pt_cmpR op_isB (pv 7) pe_bl (nomark _)) (pw_or (pt_cmpR op_isB (pv 7) pe_bl (nomark _)) (pw_or (pt_not (pt_chain op_le op_le (pv 4) (pv 7) (pv 5))) (pw_or1 (pt_cmpR op_eq (pv 7) (pv 6) (nomark _)))))))) (pss_one (ps_ret pe_bl)) pss_nil))))
      (pss_one (ps_ret pe_bl))))), ?_⟩
    cases ci with
    | oth =>
      have k0 := k H (Same.refl H)
      have hc' : Oth Z H v := hc
      rcases hc' with rfl | ⟨i, rfl⟩ | ⟨x, rfl⟩ | ⟨q, xs, rfl, _, hq⟩ | ⟨q, xs, rfl, _, hq⟩
      · exact ⟨_, rfl, _, _, _, _, _, rfl, .ty "tuple", .base .non, kit_ty (r := false) (by decide +kernel), _, rfl, iteT k0⟩
      · exact ⟨_, rfl, _, _, _, _, _, rfl, .ty "tuple", .base (.int i), kit_ty (r := false) (by decide +kernel), _, rfl, iteT k0⟩
      · exact ⟨_, rfl, _, _, _, _, _, rfl, .ty "tuple", .base (.str x), kit_ty (r := false) (by decide +kernel), _, rfl, iteT k0⟩
      · exact ⟨_, rfl, _, _, _, _, _, rfl, .ty "tuple", .base (.lst hq), kit_ty (r := false) (by decide +kernel), _, rfl, iteT k0⟩
      · exact ⟨_, rfl, _, _, _, _, _, rfl, .ty "tuple", .base (.dK hq), kit_ty (r := false) (by decide +kernel), _, rfl, iteT k0⟩
    | tup xs =>
    obtain ⟨c, rfl, hc, hi⟩ := hc
    cases xs with
    | nil =>
      refine ⟨_, rfl, _, _, _, _, _, rfl, .ty "tuple", .base (.tup hc), kit_ty (r := true) (by decide +kernel), _, rfl, iteF ?_⟩
      refine ⟨_, rfl, c, _, rfl, .inr (SqT.of hc), rfl, _, rfl, ?_⟩
      exact iteT (k H (Same.refl H))
    | cons a as =>
    have hi' : as.length ≤ 1000 := Nat.le_of_succ_le hi.1
    have none_ : (∀ x, a ≠ .s x) → canX w (.tup (a :: as)) = false := fun h => by
      cases a with
      | s x => exact absurd rfl (h x)
      | _ => rfl
    by_cases hs : ∃ x, a = .s x
    case neg =>
      have e : canX w (.tup (a :: as)) = false := none_ (fun x z => hs ⟨x, z⟩)
      have hv : a.v = .non ∨ (∃ i, a.v = .int i) ∨ ∃ b, a.v = .bl b := by
        cases a with
        | o => exact .inl rfl
        | n z => exact .inr (.inl ⟨z, rfl⟩)
        | t => exact .inr (.inr ⟨true, rfl⟩)
        | s x => exact absurd ⟨x, rfl⟩ hs
      rw [e] at k
      have hil : ((a.v :: as.map Ax.v : List V).length : Int) = (as.length : Int) + 1 := by
        rw [List.length_cons, List.length_map]
        omega
      refine ⟨_, rfl, _, _, _, _, _, rfl, .ty "tuple", .base (.tup hc), kit_ty (r := true) (by decide +kernel), _, rfl, iteF ?_⟩
      refine ⟨_, rfl, c, _, rfl, .inr (SqT.of hc), rfl, _, rfl, ?_⟩
      refine ite2 (fun q => ?_) (fun _ => ?_)
      · have : ((a.v :: as.map Ax.v : List V).length : Int) = 0 := by simpa using q
        omega
      refine ⟨_, rfl, p, d, _, rfl, W.hp, rfl, _, rfl, c, _, 0, _, rfl, rfl, SqT.of hc, atI_nat (j := 0) rfl, .inr ⟨p, d, al, w, _, rfl, W, hv, fun H1 s1 => ?_⟩⟩
      exact ⟨_, rfl, rfl, _, rfl, iteT (iteT (k H1 s1))⟩
    case pos =>
    obtain ⟨x, rfl⟩ := hs
    have hil : ((.str x :: as.map Ax.v : List V).length : Int) = (as.length : Int) + 1 := by
      rw [List.length_cons, List.length_map]
      omega
    refine ⟨_, rfl, _, _, _, _, _, rfl, .ty "tuple", .base (.tup hc), kit_ty (r := true) (by decide +kernel), _, rfl, iteF ?_⟩
    refine ⟨_, rfl, c, _, rfl, .inr (SqT.of hc), rfl, _, rfl, ?_⟩
    refine ite2 (fun q => ?_) (fun _ => ?_)
    · have : ((.str x :: as.map Ax.v : List V).length : Int) = 0 := by simpa using q
      omega
    refine ⟨_, rfl, p, d, _, rfl, W.hp, rfl, _, rfl, c, _, 0, _, rfl, rfl, SqT.of hc, atI_nat (j := 0) rfl, ?_⟩
    refine .inl ⟨p, d, al, w, x, rfl, W, hl, fun hn H1 s1 => ?_, fun fs hf l ps H1 s1 nl hls hq => ?_⟩
    · refine ⟨_, rfl, rfl, _, rfl, iteT ?_⟩
      refine iteT ?_
      have e : canX w (.tup (.s x :: as)) = false := by
        rw [canX_s, hn]
      have k1 := k H1 s1
      rw [e] at k1
      exact k1
    · have hlp : ps.length = fs.length := hq.len
      have hc1 := s1 _ _ hc
      refine ⟨_, rfl, rfl, _, rfl, iteF ?_⟩
      refine ⟨_, rfl, c, _, rfl, .inr (SqT.of hc1), _, rfl, l, _, rfl, .inl (SqL.of hls), _, _, rfl, rfl, rfl, _, rfl, ?_⟩
      have lps : (ps.map V.ref).length = fs.length := by rw [List.length_map, hlp]
      have ke : ∀ b, (decide (as.length = fs.length) && (fs.zip as).all fun q => okA q.1 q.2) = b → ∀ H', Same H H' → Q (.bl b) H' := fun b e H' s => by
        have k1 := k H' s
        rw [canX_s] at k1
        rw [hf] at k1
        dsimp only at k1
        rw [e] at k1
        exact k1
      refine ite2 (fun q => ?_) (fun q => ?_)
      · have q' : ((.str x :: as.map Ax.v : List V).length : Int) ≠ 1 + ((ps.map V.ref).length : Int) := by simpa using q
        have ne : ¬ as.length = fs.length := by
          rw [lps] at q'
          omega
        refine ke false ?_ _ s1
        rw [decide_eq_false ne, Bool.false_and]
      · have q' : ((.str x :: as.map Ax.v : List V).length : Int) = 1 + ((ps.map V.ref).length : Int) := by simpa using q
        have el : as.length = fs.length := by
          rw [lps] at q'
          omega
        refine ⟨_, rfl, l, _, rfl, SqL.of hls, ?_⟩
        refine for_it (walk_enumO (K := K) (a := l) (xs := ps.map V.ref)) (fun i σ H' => ∃ o3 o4 o5 o6 o7 : Option V, σ = [some (.ref p), some (.ref c), some (.ref l), o3, o4, o5, o6, o7] ∧ Same H1 H' ∧ (((fs.zip as).take i).all fun q => okA q.1 q.2) = true)
          ⟨none, none, none, none, none, rfl, Same.refl H1, rfl⟩ (fun i σ H' _ ⟨_, _, _, _, _, _, s, _⟩ => SqL.of (s _ _ hls)) ?turn ?done
        case done =>
          rintro σ H2 ⟨o3, o4, o5, o6, o7, rfl, s2, hall⟩
          have lz : (fs.zip as).length = fs.length := by rw [List.length_zip, el, Nat.min_self]
          rw [lps, ← lz, List.take_length] at hall
          refine ke true ?_ _ (s1.trans s2)
          rw [hall, decide_eq_true el]
          rfl
        case turn =>
          rintro i y σ H2 H3 hi' ⟨o3, o4, o5, o6, o7, rfl, s2, hall⟩ ⟨tp, x0, y0, rfl, ntp, rfl, ex, ey⟩
          cases ex
          have hi2 : i < fs.length := by rw [← lps]; exact hi'
          obtain ⟨fp, hfp⟩ : ∃ fp, ps[i]? = some fp := ⟨_, List.getElem?_eq_getElem (by rw [hlp]; exact hi2)⟩
          have ey' : y0 = .ref fp := by
            have ey2 : (ps.map V.ref)[i]? = some y0 := ey
            rw [List.getElem?_map, hfp] at ey2
            exact (Option.some.inj ey2).symm
          subst ey'
          obtain ⟨f, hf2, hfq⟩ := hq.get hfp
          obtain ⟨az, hz⟩ : ∃ az, as[i]? = some az := ⟨_, List.getElem?_eq_getElem (by omega)⟩
          have hzip : (fs.zip as)[i]? = some (f, az) := by rw [List.getElem?_zip_eq_some]; exact ⟨hf2, hz⟩
          have s3 := sadd (o := .tup [.int ((i + 1 : Nat) : Int), .ref fp]) s2 ntp
          have htp : upd H2 tp (.tup [.int ((i + 1 : Nat) : Int), .ref fp]) tp = some (.tup [.int ((i + 1 : Nat) : Int), .ref fp]) := upd_same
          generalize upd H2 tp (.tup [.int ((i + 1 : Nat) : Int), .ref fp]) = H3 at s3 htp ⊢
          have bad : okA f az = false → Q (.bl false) H3 := fun e => by
            refine ke false ?_ _ (s1.trans s3)
            have : ((fs.zip as).all fun q => okA q.1 q.2) = false := List.all_eq_false.mpr ⟨(f, az), List.mem_of_getElem? hzip, by rw [e]; exact Bool.false_ne_true⟩
            rw [this, Bool.and_false]
          have good : okA f az = true → (((fs.zip as).take (i + 1)).all fun q => okA q.1 q.2) = true := fun e => by
            rw [List.take_add_one, hzip, List.all_append, hall]
            show (true && (okA f az && true)) = true
            rw [e]
            rfl
          have hfq3 := hfq.sm s3
          have hc3 := s3 _ _ hc1
          obtain ⟨lo, hi, ot⟩ := f
          refine ⟨tp, _, rfl, SqT.of htp, rfl, _, _, rfl, _, _, rfl, fp, _, rfl, hfq3, rfl, _, _, rfl, _, _, rfl, _, _, rfl, rfl, rfl, ?_⟩
          refine ⟨_, rfl, _, rfl, c, _, ((i + 1 : Nat) : Int), _, rfl, rfl, SqT.of hc3, atI_nat (j := i + 1) (v := az.v) (by show (as.map Ax.v)[i]? = _; rw [List.getElem?_map, hz]; rfl), ?_⟩
          cases az with
          | o => exact ⟨_, rfl, _, _, _, _, _, rfl, .ty "int", .base .non, kit_ty (r := false) (by decide +kernel), _, rfl, iteT (bad rfl)⟩
          | s y => exact ⟨_, rfl, _, _, _, _, _, rfl, .ty "int", .base (.str y), kit_ty (r := false) (by decide +kernel), _, rfl, iteT (bad rfl)⟩
          | t =>
            refine ⟨_, rfl, _, _, _, _, _, rfl, .ty "int", .base (.bl true), kit_ty (r := true) (by decide +kernel), _, rfl, iteF ?_⟩
            exact ⟨_, rfl, true, rfl, .inr ⟨true, rfl, _, rfl, iteT (bad rfl)⟩⟩
          | n z =>
          refine ⟨_, rfl, _, _, _, _, _, rfl, .ty "int", .base (.int z), kit_ty (r := true) (by decide +kernel), _, rfl, iteF ?_⟩
          refine ⟨_, rfl, true, rfl, .inl ⟨⟨z, rfl⟩, _, rfl, iteF ?_⟩⟩
          refine ⟨_, rfl, false, rfl, .inl ⟨⟨z, rfl⟩, _, rfl, iteF ?_⟩⟩
          refine ⟨_, rfl, _, rfl, _, _, rfl, rfl, _, rfl, ?_⟩
          refine ite2 (fun h1 => ?_) (fun h1 => ?_)
          · refine ⟨_, rfl, _, _, rfl, rfl, _, rfl, ?_⟩
            cases h2 : decide (z ≤ hi) with
            | false =>
              refine iteT (iteT (bad ?_))
              show (decide (lo ≤ z) && decide (z ≤ hi) && _) = false
              rw [h2, Bool.and_false, Bool.false_and]
            | true =>
              refine iteF ?_
              refine ⟨_, rfl, _, rfl, ?_⟩
              have sc : scal (V.int z) (optV ot) = true := by cases ot <;> rfl
              have eo : decide ((Ax.n z).v = optV ot) = decide (ot = some z) := by
                cases ot with
                | none => rfl
                | some o =>
                  show decide (V.int z = V.int o) = _
                  by_cases e : o = z
                  · subst e
                    rw [decide_eq_true rfl, decide_eq_true rfl]
                  · rw [decide_eq_false (fun y => e (Option.some.inj y)), decide_eq_false (fun y => e (V.int.inj y).symm)]
              refine ⟨sc, _, rfl, ?_⟩
              rw [eo]
              have e0 : okA (lo, hi, ot) (.n z) = !decide (ot = some z) := by
                show (decide (lo ≤ z) && decide (z ≤ hi) && !decide (ot = some z)) = _
                rw [h1, h2]
                rfl
              refine ite2 (fun h3 => ?_) (fun h3 => ?_)
              · exact bad (by rw [e0, h3]; rfl)
              · exact ⟨_, _, _, _, _, rfl, s3, good (by rw [e0, Bool.eq_false_iff.mpr h3]; rfl)⟩
          · refine ⟨_, rfl, iteT (iteT (bad ?_))⟩
            show (decide (lo ≤ z) && decide (z ≤ hi) && _) = false
            rw [Bool.eq_false_iff.mpr h1, Bool.false_and, Bool.false_and]
end
end OH
end
section
set_option Elab.async false
set_option linter.all false
set_option maxRecDepth 100000
set_option maxHeartbeats 4000000
/-! Any values judged: rows. -/
namespace OH
open PySem PySem.Spec PyProof.Rows L2
def crsX : Ci → Option Crs
  | .tup (.s x :: as) => match as with
    | [.n a] => if x = "start" then some (.start a) else if x = "done" then some (.done a) else if x = "end" then some (.fin a) else none
    | [.n a, .n b, .n c] => if x = "back" then some (.back a b c) else none
    | [.n a, .n b, .n c, .n d] => if x = "call" then some (.call a b c d) else if x = "deep" then some (.deep a b c d) else none
    | _ => none
  | _ => none
theorem crsX_ci (x : Crs) : crsX x.ci = some x := by
  cases x <;> rfl
theorem okA_ints : ∀ (fs : List Fd) (as : List Ax), as.length = fs.length → ((fs.zip as).all fun q => okA q.1 q.2) = true → ∃ is : List Int, as = is.map Ax.n ∧ ((fs.zip is).all fun q => okF q.1 q.2) = true
  | [], [], _, _ => ⟨[], rfl, rfl⟩
  | f :: fs, a :: as, l, h => by
    rw [List.zip_cons_cons, List.all_cons, Bool.and_eq_true] at h
    obtain ⟨is, e, g⟩ := okA_ints fs as (Nat.succ.inj l) h.2
    cases a with
    | n z => exact ⟨z :: is, by rw [e]; rfl, by rw [List.zip_cons_cons, List.all_cons, g, Bool.and_true]; exact h.1⟩
    | _ => exact absurd h.1 Bool.false_ne_true
theorem okA_map : ∀ (fs : List Fd) (is : List Int), ((fs.zip (is.map Ax.n)).all fun q => okA q.1 q.2) = (fs.zip is).all fun q => okF q.1 q.2
  | [], _ => rfl
  | _ :: _, [] => rfl
  | f :: fs, i :: is => by
    show (okF f i && ((fs.zip (is.map Ax.n)).all fun q => okA q.1 q.2)) = (okF f i && ((fs.zip is).all fun q => okF q.1 q.2))
    rw [okA_map fs is]
theorem canX_ci (w : Wk) (x : Crs) : canX w x.ci = canC w x := by
  show canX w (.tup (.s x.wd :: x.is.map Ax.n)) = canF w x.wd x.is
  rw [canX_s]
  unfold canF
  cases fld w x.wd with
  | none => rfl
  | some fs =>
    show (decide ((x.is.map Ax.n).length = fs.length) && _) = _
    rw [List.length_map, okA_map]
theorem fld_cases {w : Wk} {x : Str} {fs : List Fd} (h : fld w x = some fs) : (x = "start" ∧ fs.length = 1) ∨ (x = "call" ∧ fs.length = 4) ∨ (x = "deep" ∧ fs.length = 4) ∨ (x = "back" ∧ fs.length = 3) ∨ (x = "done" ∧ fs.length = 1) ∨ (x = "end" ∧ fs.length = 1) := by
  unfold fld at h
  split at h
  · cases h
  · split at h
    · split at h
      · next e => cases h; exact .inl ⟨e, rfl⟩
      · cases h
    · split at h
      · next e =>
        cases h
        rcases e with e | e
        · exact .inr (.inl ⟨e.1, rfl⟩)
        · exact .inr (.inr (.inl ⟨e.1, rfl⟩))
      · split at h
        · next e => cases h; exact .inr (.inr (.inr (.inl ⟨e.1, rfl⟩)))
        · split at h
          · next e => cases h; exact .inr (.inr (.inr (.inr (.inl ⟨e.1, rfl⟩))))
          · split at h
            · next e => cases h; exact .inr (.inr (.inr (.inr (.inr ⟨e, rfl⟩))))
            · cases h
theorem can_crs {w : Wk} {c : Ci} (h : canX w c = true) : ∃ x : Crs, c = x.ci ∧ canC w x = true := by
  match c, h with
  | .oth, h => cases h
  | .tup [], h => cases h
  | .tup (.n _ :: _), h => cases h
  | .tup (.t :: _), h => cases h
  | .tup (.o :: _), h => cases h
  | .tup (.s x :: as), h =>
    have h0 := h
    rw [canX_s] at h
    cases hf : fld w x with
    | none => rw [hf] at h; cases h
    | some fs =>
      rw [hf] at h
      have h' : (decide (as.length = fs.length) && (fs.zip as).all fun q => okA q.1 q.2) = true := h
      rw [Bool.and_eq_true, decide_eq_true_iff] at h'
      obtain ⟨is, rfl, g⟩ := okA_ints fs as h'.1 h'.2
      have l := h'.1
      rw [List.length_map] at l
      have fin : ∀ y : Crs, y.wd = x → y.is = is → ∃ x_1 : Crs, Ci.tup (.s x :: is.map Ax.n) = x_1.ci ∧ canC w x_1 = true := fun y e1 e2 => by
        subst e1 e2
        exact ⟨y, rfl, by rw [← canX_ci]; exact h0⟩
      rcases fld_cases hf with ⟨e, lf⟩ | ⟨e, lf⟩ | ⟨e, lf⟩ | ⟨e, lf⟩ | ⟨e, lf⟩ | ⟨e, lf⟩
      · rw [lf] at l
        match is, l with
        | [a], _ => exact fin (.start a) e.symm rfl
      · rw [lf] at l
        match is, l with
        | [a, b, c, d], _ => exact fin (.call a b c d) e.symm rfl
      · rw [lf] at l
        match is, l with
        | [a, b, c, d], _ => exact fin (.deep a b c d) e.symm rfl
      · rw [lf] at l
        match is, l with
        | [a, b, c], _ => exact fin (.back a b c) e.symm rfl
      · rw [lf] at l
        match is, l with
        | [a], _ => exact fin (.done a) e.symm rfl
      · rw [lf] at l
        match is, l with
        | [a], _ => exact fin (.fin a) e.symm rfl
def goX : Wk → List Ci → Bool
  | _, [] => true
  | w, c :: cs => canX w c && match crsX c with
    | some x => goX (tk w x) cs
    | none => false
def goodRt : Rt → Bool
  | .seq [] => false
  | .seq (c :: cs) => goX w0 (c :: cs)
  | .oth => false
theorem goX_app : ∀ (xs : List Crs) (ys : List Ci) (w : Wk), goX w (xs.map Crs.ci ++ ys) = (goodGo w xs && goX (wk w xs) ys)
  | [], ys, w => rfl
  | x :: xs, ys, w => by
    show (canX w x.ci && match crsX x.ci with | some x => goX (tk w x) (xs.map Crs.ci ++ ys) | none => false) = ((canC w x && goodGo (tk w x) xs) && goX (wk (tk w x) xs) ys)
    rw [crsX_ci, canX_ci]
    show (canC w x && goX (tk w x) (xs.map Crs.ci ++ ys)) = _
    rw [goX_app xs ys, Bool.and_assoc]
theorem goX_map (xs : List Crs) (w : Wk) : goX w (xs.map Crs.ci) = goodGo w xs := by
  have := goX_app xs [] w
  rw [List.append_nil] at this
  rw [this]
  exact Bool.and_true _
theorem goX_crs : ∀ (cs : List Ci) (w : Wk), goX w cs = true → ∃ xs : List Crs, cs = xs.map Crs.ci ∧ goodGo w xs = true
  | [], w, _ => ⟨[], rfl, rfl⟩
  | c :: cs, w, h => by
    have h' : (canX w c && match crsX c with | some x => goX (tk w x) cs | none => false) = true := h
    rw [Bool.and_eq_true] at h'
    obtain ⟨x, rfl, hx⟩ := can_crs h'.1
    have h2 := h'.2
    rw [crsX_ci] at h2
    obtain ⟨xs, e, g⟩ := goX_crs cs (tk w x) h2
    exact ⟨x :: xs, by rw [e]; rfl, by show (canC w x && goodGo (tk w x) xs) = true; rw [hx, g]; rfl⟩
theorem goodRt_crs {r : Rt} (h : goodRt r = true) : ∃ xs : List Crs, r = .seq (xs.map Crs.ci) ∧ goodB xs = true := by
  match r, h with
  | .seq (c :: cs), h =>
    obtain ⟨xs, e, g⟩ := goX_crs (c :: cs) w0 h
    refine ⟨xs, by rw [e], ?_⟩
    unfold goodB
    rw [g]
    cases xs with
    | nil => cases e
    | cons _ _ => rfl
theorem goodRt_map (xs : List Crs) : goodRt (.seq (xs.map Crs.ci)) = goodB xs := by
  cases xs with
  | nil => rfl
  | cons x xs =>
    show goX w0 ((x :: xs).map Crs.ci) = goodB (x :: xs)
    rw [goX_map]
    rfl
def spGoodX : Sp := fun vs H Q _ => ∃ (Z : Addr → Prop) (v : V) (r : Rt), vs = [v] ∧ RtAt Z H v r ∧ ∀ H', Same H H' → Q (.bl (goodRt r)) H'
section
variable {P : Program} {w : World} {K : PySem.W.Frag} {mg : Str → Option Value} {base : Heap} {CW aN aD : Addr}
theorem ok_good_rowX {f : Addr} {fd : FuncData} (F : Fun K "good_row" "good_row" s_good_row f fd) (T : Txt K mg) (TW : TxW K CW)
    (DK : MakF P w K mg base CX0 2 "RowWalk" CW ["self"] (spKInit CW)) (DC : MetF P w K mg base CX0 3 CW "can_follow" ["self", "crossing"] (spCanA CW)) (DT : MetF P w K mg base CX0 3 CW "take" ["self", "crossing"] (spTake CW)) :
    FnOk P w K mg base CX0 4 f fd ["value"] spGoodX := by
  refine F.ok sc_good_row (fun vs H Q E h => ?_) (fun cdv A outer s H vs Q E hr h => ?_)
  · obtain ⟨Z, v, r, rfl, _⟩ := h
    rfl
  · obtain ⟨Z, v, r, rfl, hv, k⟩ := h
    have nd := sc_good_row.nd
    cases r with
    | oth =>
      refine ⟨_, pss_cons (ps_if (PW.pt (pw_or (pt_not (pt_val (pe_callB call_isiT (by rfl) T.nIsi (by decide +kernel) (pa_cons (pv 0) (pa_cons (pe_tup (pa_cons (pe_bltn (v := .ty "list") (by rfl) T.nList (by decide +kernel) rfl) (pa_cons (pe_bltn (v := .ty "tuple") (by rfl) T.nTuple (by decide +kernel) rfl) pa_nil))) pa_nil))))) (pw_or1 (pt_cmpR op_eq (pe_callB call_len_seq (by rfl) T.nLen PySem.boot_len (pa_cons (pv 0) pa_nil)) pe_int (nomark _))))) (pss_one (ps_ret pe_bl)) pss_nil)
      (pss_cons (ps_set (i := 1) nd rfl (Or.inl rfl) (pe_kD0 DK hr rfl pass0))
      (pss_cons (ps_for PassesOwn.never rfl (pi_list (pv 0)) (pg_name (i := 2) nd rfl (Or.inl rfl))
        (pss_cons (ps_if (pt_not (pt_val (pe_mD (pv 1) TW.cl DC hr pass0 (pa_cons (pv 2) pa_nil)))) (pss_one (ps_ret pe_bl)) pss_nil)
      (pss_one (ps_expr (pe_mD (pv 1) TW.cl DT hr pass0 (pa_cons (pv 2) pa_nil))))))
      (pss_one (ps_ret pe_bl)))), ?_⟩
      refine ⟨_, rfl, (by show 2 ≤ sizeLine; decide), fun tp ntp => ?_⟩
      have s1 := sadd (o := .tup [.ty "list", .ty "tuple"]) (Same.refl H) ntp
      have htp : upd H tp (.tup [.ty "list", .ty "tuple"]) tp = some (.tup [.ty "list", .ty "tuple"]) := upd_same
      generalize upd H tp (.tup [.ty "list", .ty "tuple"]) = H1 at s1 htp ⊢
      rcases hv with rfl | ⟨x, rfl⟩ | ⟨d, kvs, rfl, _, hd⟩
      · refine ⟨_, tp, _, _, _, _, rfl, htp, .cons (.ty _) (.cons (.ty _) .nil), .base .non, kitAny_cons (kit_ty (r := false) (by decide +kernel)) (fun _ => kitAny_cons (kit_ty (r := false) (by decide +kernel)) (fun _ => kitAny_nil) (fun z => nomatch z)) (fun z => nomatch z), _, rfl, iteT ?_⟩
        exact k _ s1
      · refine ⟨_, tp, _, _, _, _, rfl, htp, .cons (.ty _) (.cons (.ty _) .nil), .base (.str x), kitAny_cons (kit_ty (r := false) (by decide +kernel)) (fun _ => kitAny_cons (kit_ty (r := false) (by decide +kernel)) (fun _ => kitAny_nil) (fun z => nomatch z)) (fun z => nomatch z), _, rfl, iteT ?_⟩
        exact k _ s1
      · refine ⟨_, tp, _, _, _, _, rfl, htp, .cons (.ty _) (.cons (.ty _) .nil), .base (.dK (s1 _ _ hd)), kitAny_cons (kit_ty (r := false) (by decide +kernel)) (fun _ => kitAny_cons (kit_ty (r := false) (by decide +kernel)) (fun _ => kitAny_nil) (fun z => nomatch z)) (fun z => nomatch z), _, rfl, iteT ?_⟩
        exact k _ s1
    | seq cs =>
    obtain ⟨l, vs, rfl, _, h1, h2, hn⟩ := hv
    have lp := h2.len
    rcases h1 with h1 | h1
    case inl =>
      refine ⟨_, pss_cons (ps_if (PW.pt (pw_or (pt_not (pt_val (pe_callB call_isiT (by rfl) T.nIsi (by decide +kernel) (pa_cons (pv 0) (pa_cons (pe_tup (pa_cons (pe_bltn (v := .ty "list") (by rfl) T.nList (by decide +kernel) rfl) (pa_cons (pe_bltn (v := .ty "tuple") (by rfl) T.nTuple (by decide +kernel) rfl) pa_nil))) pa_nil))))) (pw_or1 (pt_cmpR op_eq (pe_callB call_len_seq (by rfl) T.nLen PySem.boot_len (pa_cons (pv 0) pa_nil)) pe_int (nomark _))))) (pss_one (ps_ret pe_bl)) pss_nil)
      (pss_cons (ps_set (i := 1) nd rfl (Or.inl rfl) (pe_kD0 DK hr rfl pass0))
      (pss_cons (ps_for PassesOwn.never rfl (pi_list (pv 0)) (pg_name (i := 2) nd rfl (Or.inl rfl))
        (pss_cons (ps_if (pt_not (pt_val (pe_mD (pv 1) TW.cl DC hr pass0 (pa_cons (pv 2) pa_nil)))) (pss_one (ps_ret pe_bl)) pss_nil)
      (pss_one (ps_expr (pe_mD (pv 1) TW.cl DT hr pass0 (pa_cons (pv 2) pa_nil))))))
      (pss_one (ps_ret pe_bl)))), ?_⟩
      refine ⟨_, rfl, (by show 2 ≤ sizeLine; decide), fun tp ntp => ?_⟩
      have s1 := sadd (o := .tup [.ty "list", .ty "tuple"]) (Same.refl H) ntp
      have htp : upd H tp (.tup [.ty "list", .ty "tuple"]) tp = some (.tup [.ty "list", .ty "tuple"]) := upd_same
      generalize upd H tp (.tup [.ty "list", .ty "tuple"]) = H1 at s1 htp ⊢
      have hl1 := s1 _ _ h1
      refine ⟨_, tp, _, _, _, _, rfl, htp, .cons (.ty _) (.cons (.ty _) .nil), .base (.lst hl1), kitAny_cons (kit_ty (r := true) (by decide +kernel)) (fun z => nomatch z) (fun _ => rfl), _, rfl, iteF ?_⟩
      refine ⟨_, rfl, l, _, rfl, .inl (SqL.of hl1), rfl, _, rfl, ?_⟩
      refine ite2 (fun q => ?_) (fun q => ?_)
      · have e0 : (vs.length : Int) = 0 := by simpa using q
        have e : cs = [] := by
          rw [lp] at e0
          exact List.length_eq_zero_iff.mp (by omega)
        subst e
        exact k H1 s1
      · have e0 : ¬ (vs.length : Int) = 0 := by simpa using q
        have ne : goodRt (.seq cs) = goX w0 cs := by
          cases cs with
          | nil => rw [lp] at e0; exact absurd rfl e0
          | cons _ _ => rfl
        rw [ne] at k
        intro p d np ndx npd
        have s2 := sadd (o := .ins CW d []) (sadd (o := .own p) (Same.refl H1) ndx) (by rw [upd_ne npd.symm]; exact np)
        have hp2 : upd (upd H1 d (.own p)) p (.ins CW d []) p = some (.ins CW d []) := upd_same
        have npH : H p = none := s1.free np
        generalize upd (upd H1 d (.own p)) p (.ins CW d []) = H2 at s2 hp2 ⊢
        refine ⟨p, d, rfl, hp2, fun al H3 nal alp W k3 => ⟨rfl, ?_⟩⟩
        have s12 := s1.trans s2
        have nalH : H al = none := s12.free nal
        have f2 : ∀ q ∈ [p], H q = none := fun q hq => by rw [List.mem_singleton.mp hq]; exact npH
        have f3 : ∀ q ∈ [p, al], H q = none := fun q hq => by
          rcases List.mem_cons.mp hq with z | z
          · rw [z]; exact npH
          · rw [List.mem_singleton.mp z]; exact nalH
        have s3 : Same H H3 := Same.kept s12 k3 f2
        refine ⟨_, rfl, l, rfl, ⟨_, SqL.of (s3 _ _ h1)⟩, ?_⟩
        refine for_list (xs := vs) (fun i σ H' => ∃ (o : Option V) (xs : List Crs), σ = [some (.ref l), some (.ref p), o] ∧ Same H H' ∧ cs.take i = xs.map Crs.ci ∧ WkAt CW H' p d al (wk w0 xs) ∧ goodGo w0 xs = true) ⟨none, [], rfl, s3, rfl, W, rfl⟩ (fun i σ H' _ ⟨o, _, _, s, _⟩ => SqL.of (s _ _ h1)) ?turn ?done
        case done =>
          rintro σ H4 ⟨o, xs, rfl, s4, e4, W4, g4⟩
          rw [lp, List.take_length] at e4
          have k4 := k H4 s4
          rw [e4, goX_map, g4] at k4
          exact k4
        case turn =>
          rintro i y σ H4 hy ⟨o, xs, rfl, s4, e4, W4, g4⟩
          have hi : i < cs.length := by rw [← lp]; exact (List.getElem?_eq_some_iff.mp hy).1
          obtain ⟨ci, hci, hcy⟩ := h2.get hy
          have hc4 := hcy.same s4
          have lx : xs.length = i := by
            have := congrArg List.length e4
            rw [List.length_take, List.length_map] at this
            omega
          have lw : (wk w0 xs).asks.length ≤ 1000000 := by
            have := wk_len xs w0
            have e0 : w0.asks.length = 0 := rfl
            omega
          have split : cs = xs.map Crs.ci ++ (ci :: cs.drop (i + 1)) := by
            have e1 : cs = cs.take i ++ cs.drop i := (List.take_append_drop i cs).symm
            have e2 : cs.drop i = ci :: cs.drop (i + 1) := by
              have := List.getElem?_eq_some_iff.mp hci
              rw [List.drop_eq_getElem_cons hi, this.2]
            rw [e2, e4] at e1
            exact e1
          refine ⟨_, rfl, p, d, _, rfl, W4.hp, rfl, _, rfl, ?_⟩
          refine ⟨Z, p, d, al, y, _, ci, rfl, W4, lw, hc4, fun H5 s5 => ?_⟩
          have W5 : WkAt CW H5 p d al (wk w0 xs) := ⟨s5 _ _ W4.hp, by obtain ⟨as, a1, a2⟩ := W4.ha; exact ⟨as, s5 _ _ a1, a2.mono fun q xs e => s5 _ _ e⟩⟩
          refine ⟨_, rfl, ?_⟩
          cases hcan : canX (wk w0 xs) ci with
          | false =>
            refine iteT ?_
            have eg : goX w0 cs = false := by
              rw [split, goX_app, g4]
              show (true && (canX (wk w0 xs) ci && _)) = false
              rw [hcan]
              rfl
            have k5 := k H5 (s4.trans s5)
            rw [eg] at k5
            exact k5
          | true =>
            refine iteF ?_
            obtain ⟨x, rfl, hx⟩ := can_crs hcan
            obtain ⟨c, rfl, hcc, _⟩ := hc4
            rw [Crs.ax] at hcc
            refine ⟨_, rfl, p, d, _, rfl, W5.hp, rfl, _, rfl, ?_⟩
            refine ⟨p, d, al, c, _, x, rfl, W5, alp.symm, lw, s5 _ _ hcc, canC_back hx, fun H6 W6 k6 => ?_⟩
            refine ⟨some (.ref c), xs ++ [x], rfl, Same.kept (s4.trans s5) k6 f3, ?_, ?_, ?_⟩
            · rw [List.take_add_one, hci, e4, List.map_append]
              rfl
            · rw [wk_snoc]
              exact W6
            · rw [goodGo_app, g4]
              show (true && (canC (wk w0 xs) x && true)) = true
              rw [hx]
              rfl
    case inr =>
      refine ⟨_, pss_cons (ps_if (PW.pt (pw_or (pt_not (pt_val (pe_callB call_isiT (by rfl) T.nIsi (by decide +kernel) (pa_cons (pv 0) (pa_cons (pe_tup (pa_cons (pe_bltn (v := .ty "list") (by rfl) T.nList (by decide +kernel) rfl) (pa_cons (pe_bltn (v := .ty "tuple") (by rfl) T.nTuple (by decide +kernel) rfl) pa_nil))) pa_nil))))) (pw_or1 (pt_cmpR op_eq (pe_callB call_len_seq (by rfl) T.nLen PySem.boot_len (pa_cons (pv 0) pa_nil)) pe_int (nomark _))))) (pss_one (ps_ret pe_bl)) pss_nil)
      (pss_cons (ps_set (i := 1) nd rfl (Or.inl rfl) (pe_kD0 DK hr rfl pass0))
      (pss_cons (ps_for PassesOwn.never rfl (pi_tup (pv 0)) (pg_name (i := 2) nd rfl (Or.inl rfl))
        (pss_cons (ps_if (pt_not (pt_val (pe_mD (pv 1) TW.cl DC hr pass0 (pa_cons (pv 2) pa_nil)))) (pss_one (ps_ret pe_bl)) pss_nil)
      (pss_one (ps_expr (pe_mD (pv 1) TW.cl DT hr pass0 (pa_cons (pv 2) pa_nil))))))
      (pss_one (ps_ret pe_bl)))), ?_⟩
      refine ⟨_, rfl, (by show 2 ≤ sizeLine; decide), fun tp ntp => ?_⟩
      have s1 := sadd (o := .tup [.ty "list", .ty "tuple"]) (Same.refl H) ntp
      have htp : upd H tp (.tup [.ty "list", .ty "tuple"]) tp = some (.tup [.ty "list", .ty "tuple"]) := upd_same
      generalize upd H tp (.tup [.ty "list", .ty "tuple"]) = H1 at s1 htp ⊢
      have hl1 := s1 _ _ h1
      refine ⟨_, tp, _, _, _, _, rfl, htp, .cons (.ty _) (.cons (.ty _) .nil), .base (.tup hl1), kitAny_cons (kit_ty (r := false) (by decide +kernel)) (fun _ => kitAny_cons (kit_ty (r := true) (by decide +kernel)) (fun z => nomatch z) (fun _ => rfl)) (fun z => nomatch z), _, rfl, iteF ?_⟩
      refine ⟨_, rfl, l, _, rfl, .inr (SqT.of hl1), rfl, _, rfl, ?_⟩
      refine ite2 (fun q => ?_) (fun q => ?_)
      · have e0 : (vs.length : Int) = 0 := by simpa using q
        have e : cs = [] := by
          rw [lp] at e0
          exact List.length_eq_zero_iff.mp (by omega)
        subst e
        exact k H1 s1
      · have e0 : ¬ (vs.length : Int) = 0 := by simpa using q
        have ne : goodRt (.seq cs) = goX w0 cs := by
          cases cs with
          | nil => rw [lp] at e0; exact absurd rfl e0
          | cons _ _ => rfl
        rw [ne] at k
        intro p d np ndx npd
        have s2 := sadd (o := .ins CW d []) (sadd (o := .own p) (Same.refl H1) ndx) (by rw [upd_ne npd.symm]; exact np)
        have hp2 : upd (upd H1 d (.own p)) p (.ins CW d []) p = some (.ins CW d []) := upd_same
        have npH : H p = none := s1.free np
        generalize upd (upd H1 d (.own p)) p (.ins CW d []) = H2 at s2 hp2 ⊢
        refine ⟨p, d, rfl, hp2, fun al H3 nal alp W k3 => ⟨rfl, ?_⟩⟩
        have s12 := s1.trans s2
        have nalH : H al = none := s12.free nal
        have f2 : ∀ q ∈ [p], H q = none := fun q hq => by rw [List.mem_singleton.mp hq]; exact npH
        have f3 : ∀ q ∈ [p, al], H q = none := fun q hq => by
          rcases List.mem_cons.mp hq with z | z
          · rw [z]; exact npH
          · rw [List.mem_singleton.mp z]; exact nalH
        have s3 : Same H H3 := Same.kept s12 k3 f2
        refine ⟨_, rfl, l, rfl, ⟨_, SqT.of (s3 _ _ h1)⟩, ?_⟩
        refine for_tup (xs := vs) (fun i σ H' => ∃ (o : Option V) (xs : List Crs), σ = [some (.ref l), some (.ref p), o] ∧ Same H H' ∧ cs.take i = xs.map Crs.ci ∧ WkAt CW H' p d al (wk w0 xs) ∧ goodGo w0 xs = true) ⟨none, [], rfl, s3, rfl, W, rfl⟩ (fun i σ H' _ ⟨o, _, _, s, _⟩ => SqT.of (s _ _ h1)) ?turn ?done
        case done =>
          rintro σ H4 ⟨o, xs, rfl, s4, e4, W4, g4⟩
          rw [lp, List.take_length] at e4
          have k4 := k H4 s4
          rw [e4, goX_map, g4] at k4
          exact k4
        case turn =>
          rintro i y σ H4 hy ⟨o, xs, rfl, s4, e4, W4, g4⟩
          have hi : i < cs.length := by rw [← lp]; exact (List.getElem?_eq_some_iff.mp hy).1
          obtain ⟨ci, hci, hcy⟩ := h2.get hy
          have hc4 := hcy.same s4
          have lx : xs.length = i := by
            have := congrArg List.length e4
            rw [List.length_take, List.length_map] at this
            omega
          have lw : (wk w0 xs).asks.length ≤ 1000000 := by
            have := wk_len xs w0
            have e0 : w0.asks.length = 0 := rfl
            omega
          have split : cs = xs.map Crs.ci ++ (ci :: cs.drop (i + 1)) := by
            have e1 : cs = cs.take i ++ cs.drop i := (List.take_append_drop i cs).symm
            have e2 : cs.drop i = ci :: cs.drop (i + 1) := by
              have := List.getElem?_eq_some_iff.mp hci
              rw [List.drop_eq_getElem_cons hi, this.2]
            rw [e2, e4] at e1
            exact e1
          refine ⟨_, rfl, p, d, _, rfl, W4.hp, rfl, _, rfl, ?_⟩
          refine ⟨Z, p, d, al, y, _, ci, rfl, W4, lw, hc4, fun H5 s5 => ?_⟩
          have W5 : WkAt CW H5 p d al (wk w0 xs) := ⟨s5 _ _ W4.hp, by obtain ⟨as, a1, a2⟩ := W4.ha; exact ⟨as, s5 _ _ a1, a2.mono fun q xs e => s5 _ _ e⟩⟩
          refine ⟨_, rfl, ?_⟩
          cases hcan : canX (wk w0 xs) ci with
          | false =>
            refine iteT ?_
            have eg : goX w0 cs = false := by
              rw [split, goX_app, g4]
              show (true && (canX (wk w0 xs) ci && _)) = false
              rw [hcan]
              rfl
            have k5 := k H5 (s4.trans s5)
            rw [eg] at k5
            exact k5
          | true =>
            refine iteF ?_
            obtain ⟨x, rfl, hx⟩ := can_crs hcan
            obtain ⟨c, rfl, hcc, _⟩ := hc4
            rw [Crs.ax] at hcc
            refine ⟨_, rfl, p, d, _, rfl, W5.hp, rfl, _, rfl, ?_⟩
            refine ⟨p, d, al, c, _, x, rfl, W5, alp.symm, lw, s5 _ _ hcc, canC_back hx, fun H6 W6 k6 => ?_⟩
            refine ⟨some (.ref c), xs ++ [x], rfl, Same.kept (s4.trans s5) k6 f3, ?_, ?_, ?_⟩
            · rw [List.take_add_one, hci, e4, List.map_append]
              rfl
            · rw [wk_snoc]
              exact W6
            · rw [goodGo_app, g4]
              show (true && (canC (wk w0 xs) x && true)) = true
              rw [hx]
              rfl
end
end OH
end
section
set_option Elab.async false
set_option linter.all false
set_option maxRecDepth 100000
set_option maxHeartbeats 4000000
/-! Any values judged: is_row, need_row, walked, control_of, open_of. -/
namespace OH
open PySem PySem.Spec PyProof.Rows L2
/-- a row as a list or as a tuple -/
def RwX (H : Hp) (l : Addr) (cs : List Crs) : Prop := ∃ ps : List Addr, (H l = some (.lst (ps.map V.ref)) ∨ H l = some (.tup (ps.map V.ref))) ∧ AllAt H Crs.vs ps cs
theorem RwX.same {H H' : Hp} {l : Addr} {cs : List Crs} (h : RwX H l cs) (s : Same H H') : RwX H' l cs := by
  obtain ⟨ps, h1, h2⟩ := h
  exact ⟨ps, h1.elim (fun h => .inl (s _ _ h)) (fun h => .inr (s _ _ h)), h2.mono fun q xs e => s _ _ e⟩
theorem RwAt.x {H : Hp} {l : Addr} {cs : List Crs} (h : RwAt H l cs) : RwX H l cs := by
  obtain ⟨ps, h1, h2⟩ := h
  exact ⟨ps, .inl h1, h2⟩
theorem CisAt.crs {Z : Addr → Prop} {H : Hp} : ∀ {xs : List Crs} {vs : List V}, CisAt Z H vs (xs.map Crs.ci) → ∃ ps : List Addr, vs = ps.map V.ref ∧ AllAt H Crs.vs ps xs
  | [], _, h => by
    cases h
    exact ⟨[], rfl, .nil⟩
  | x :: xs, _, h => by
    cases h with
    | cons a b =>
      obtain ⟨ps, rfl, h2⟩ := CisAt.crs b
      obtain ⟨p, rfl, hp, _⟩ := a
      rw [Crs.ax] at hp
      exact ⟨p :: ps, rfl, .cons hp h2⟩
theorem RtAt.rwx {Z : Addr → Prop} {H : Hp} {v : V} {xs : List Crs} (h : RtAt Z H v (.seq (xs.map Crs.ci))) : ∃ l, v = .ref l ∧ RwX H l xs ∧ xs.length ≤ 1000 := by
  obtain ⟨l, vs, e, _, h1, h2, hn⟩ := h
  obtain ⟨ps, rfl, h3⟩ := h2.crs
  exact ⟨l, e, ⟨ps, h1, h3⟩, by rwa [List.length_map] at hn⟩
theorem RwX.rt {Z : Addr → Prop} {H : Hp} {l : Addr} {xs : List Crs} (h : RwX H l xs) (z : Z l) (hn : xs.length ≤ 1000) : RtAt Z H (.ref l) (.seq (xs.map Crs.ci)) := by
  obtain ⟨ps, h1, h2⟩ := h
  exact ⟨l, _, rfl, z, h1, h2.cis, by rw [List.length_map]; exact hn⟩
def spWalkX (CW : Addr) : Sp := fun vs H Q _ => ∃ (l : Addr) (cs : List Crs), vs = [.ref l] ∧ RwX H l cs ∧ cs.length ≤ 1000 ∧ goodB cs = true ∧ ∀ p d al H', Same H H' → H p = none → H al = none → p ≠ al → WkAt CW H' p d al (wk w0 cs) → Q (.ref p) H'
def spNeedX (CB : Addr) : Sp := fun vs H Q E => ∃ (Z : Addr → Prop) (v : V) (r : Rt), vs = [v] ∧ RtAt Z H v r ∧ (goodRt r = true → ∀ H', Same H H' → Q .non H') ∧ (goodRt r = false → ∀ H', Same H H' → E (.ref CB) none H')
def spControlX (CB : Addr) : Sp := fun vs H Q E => ∃ (Z : Addr → Prop) (v : V) (r : Rt), vs = [v] ∧ RtAt Z H v r ∧ (∀ cs : List Crs, r = .seq (cs.map Crs.ci) → goodB cs = true → ∀ H', Same H H' → Q (if (wk w0 cs).over = true then .non else optV (wk w0 cs).ins) H') ∧ (goodRt r = false → ∀ H', Same H H' → E (.ref CB) none H')
def spOpenX (CB : Addr) : Sp := fun vs H Q E => ∃ (Z : Addr → Prop) (v : V) (r : Rt), vs = [v] ∧ RtAt Z H v r ∧ (∀ cs : List Crs, r = .seq (cs.map Crs.ci) → goodB cs = true → ∀ al ps H', Same H H' → H al = none → H' al = some (.lst (ps.map V.ref)) → AllAt H' pairV ps (wk w0 cs).asks → Q (.ref al) H') ∧ (goodRt r = false → ∀ H', Same H H' → E (.ref CB) none H')
section
variable {P : Program} {w : World} {K : PySem.W.Frag} {mg : Str → Option Value} {base : Heap} {CW CB fN : Addr} {fdN : FuncData}
theorem ok_walkedX {f : Addr} {fd : FuncData} (F : Fun K "walked" "walked" s_walked f fd) (TW : TxW K CW)
    (DK : MakF P w K mg base CX0 2 "RowWalk" CW ["self"] (spKInit CW)) (DT : MetF P w K mg base CX0 3 CW "take" ["self", "crossing"] (spTake CW)) :
    FnOk P w K mg base CX0 4 f fd ["row"] (spWalkX CW) := by
  refine F.ok sc_walked (fun vs H Q E h => ?_) (fun cdv A outer s H vs Q E hr h => ?_)
  · obtain ⟨l, cs, rfl, _⟩ := h
    rfl
  · obtain ⟨l, cs, rfl, hl, hn, hg, k⟩ := h
    have nd := sc_walked.nd
    obtain ⟨ps, h1, h2⟩ := hl
    have lp := h2.len
    have hgo : goodGo w0 cs = true := by
      unfold goodB at hg
      exact (Bool.and_eq_true_iff.mp hg).2
    rcases h1 with h1 | h1
    case inl =>
      refine ⟨_, pss_cons (ps_set (i := 1) nd rfl (Or.inl rfl) (pe_kD0 DK hr rfl pass0))
        (pss_cons (ps_for PassesOwn.never rfl (pi_list (pv 0)) (pg_name (i := 2) nd rfl (Or.inl rfl))
          (pss_one (ps_expr (pe_mD (pv 1) TW.cl DT hr pass0 (pa_cons (pv 2) pa_nil)))))
        (pss_one (ps_ret (pv 1)))), ?_⟩
      intro p d np ndx npd
      have s2 := sadd (o := .ins CW d []) (sadd (o := .own p) (Same.refl H) ndx) (by rw [upd_ne npd.symm]; exact np)
      have hp2 : upd (upd H d (.own p)) p (.ins CW d []) p = some (.ins CW d []) := upd_same
      generalize upd (upd H d (.own p)) p (.ins CW d []) = H2 at s2 hp2 ⊢
      refine ⟨p, d, rfl, hp2, fun al H3 nal alp W k3 => ⟨rfl, ?_⟩⟩
      have nalH : H al = none := s2.free nal
      have f2 : ∀ q ∈ [p], H q = none := fun q hq => by rw [List.mem_singleton.mp hq]; exact np
      have f3 : ∀ q ∈ [p, al], H q = none := fun q hq => by
        rcases List.mem_cons.mp hq with z | z
        · rw [z]; exact np
        · rw [List.mem_singleton.mp z]; exact nalH
      have s3 : Same H H3 := Same.kept s2 k3 f2
      refine ⟨_, rfl, l, rfl, ⟨_, SqL.of (s3 _ _ h1)⟩, ?_⟩
      refine for_list (xs := ps.map V.ref) (fun i σ H' => ∃ o : Option V, σ = [some (.ref l), some (.ref p), o] ∧ Same H H' ∧ WkAt CW H' p d al (wk w0 (cs.take i))) ⟨none, rfl, s3, W⟩ (fun i σ H' _ ⟨o, _, s, _⟩ => SqL.of (s _ _ h1)) ?turn ?done
      case done =>
        rintro σ H4 ⟨o, rfl, s4, W4⟩
        have e : cs.take (ps.map V.ref).length = cs := by rw [List.length_map, lp]; exact List.take_length
        rw [e] at W4
        exact ⟨_, rfl, k p d al H4 s4 np nalH alp.symm W4⟩
      case turn =>
        rintro i y σ H4 hy ⟨o, rfl, s4, W4⟩
        rw [List.getElem?_map] at hy
        obtain ⟨c, hc, rfl⟩ := Option.map_eq_some_iff.mp hy
        have hi : i < cs.length := by rw [← lp]; exact (List.getElem?_eq_some_iff.mp hc).1
        obtain ⟨x, hx⟩ : ∃ x, cs[i]? = some x := ⟨_, List.getElem?_eq_getElem hi⟩
        obtain ⟨c', hc', hcx⟩ := h2.get hx
        rw [hc] at hc'
        cases hc'
        have hc4 := s4 _ _ hcx
        have tki : cs.take (i + 1) = cs.take i ++ [x] := by rw [List.take_add_one, hx]; rfl
        have lw : (wk w0 (cs.take i)).asks.length ≤ 1000000 := by
          have := wk_len (cs.take i) w0
          rw [List.length_take] at this
          have e0 : w0.asks.length = 0 := rfl
          omega
        have hcan : canC (wk w0 (cs.take i)) x = true := by
          have e1 : cs = cs.take i ++ cs.drop i := (List.take_append_drop i cs).symm
          have e2 : cs.drop i = x :: cs.drop (i + 1) := by
            have := List.getElem?_eq_some_iff.mp hx
            rw [List.drop_eq_getElem_cons hi, this.2]
          rw [e1, goodGo_app, e2] at hgo
          have h3 := (Bool.and_eq_true_iff.mp hgo).2
          exact (Bool.and_eq_true_iff.mp h3).1
        refine ⟨_, rfl, p, d, _, rfl, W4.hp, rfl, _, rfl, ?_⟩
        refine ⟨p, d, al, c, _, x, rfl, W4, alp.symm, lw, hc4, canC_back hcan, fun H6 W6 k6 => ?_⟩
        refine ⟨some (.ref c), rfl, Same.kept s4 k6 f3, ?_⟩
        rw [tki, wk_snoc]
        exact W6
    case inr =>
      refine ⟨_, pss_cons (ps_set (i := 1) nd rfl (Or.inl rfl) (pe_kD0 DK hr rfl pass0))
        (pss_cons (ps_for PassesOwn.never rfl (pi_tup (pv 0)) (pg_name (i := 2) nd rfl (Or.inl rfl))
          (pss_one (ps_expr (pe_mD (pv 1) TW.cl DT hr pass0 (pa_cons (pv 2) pa_nil)))))
        (pss_one (ps_ret (pv 1)))), ?_⟩
      intro p d np ndx npd
      have s2 := sadd (o := .ins CW d []) (sadd (o := .own p) (Same.refl H) ndx) (by rw [upd_ne npd.symm]; exact np)
      have hp2 : upd (upd H d (.own p)) p (.ins CW d []) p = some (.ins CW d []) := upd_same
      generalize upd (upd H d (.own p)) p (.ins CW d []) = H2 at s2 hp2 ⊢
      refine ⟨p, d, rfl, hp2, fun al H3 nal alp W k3 => ⟨rfl, ?_⟩⟩
      have nalH : H al = none := s2.free nal
      have f2 : ∀ q ∈ [p], H q = none := fun q hq => by rw [List.mem_singleton.mp hq]; exact np
      have f3 : ∀ q ∈ [p, al], H q = none := fun q hq => by
        rcases List.mem_cons.mp hq with z | z
        · rw [z]; exact np
        · rw [List.mem_singleton.mp z]; exact nalH
      have s3 : Same H H3 := Same.kept s2 k3 f2
      refine ⟨_, rfl, l, rfl, ⟨_, SqT.of (s3 _ _ h1)⟩, ?_⟩
      refine for_tup (xs := ps.map V.ref) (fun i σ H' => ∃ o : Option V, σ = [some (.ref l), some (.ref p), o] ∧ Same H H' ∧ WkAt CW H' p d al (wk w0 (cs.take i))) ⟨none, rfl, s3, W⟩ (fun i σ H' _ ⟨o, _, s, _⟩ => SqT.of (s _ _ h1)) ?turn ?done
      case done =>
        rintro σ H4 ⟨o, rfl, s4, W4⟩
        have e : cs.take (ps.map V.ref).length = cs := by rw [List.length_map, lp]; exact List.take_length
        rw [e] at W4
        exact ⟨_, rfl, k p d al H4 s4 np nalH alp.symm W4⟩
      case turn =>
        rintro i y σ H4 hy ⟨o, rfl, s4, W4⟩
        rw [List.getElem?_map] at hy
        obtain ⟨c, hc, rfl⟩ := Option.map_eq_some_iff.mp hy
        have hi : i < cs.length := by rw [← lp]; exact (List.getElem?_eq_some_iff.mp hc).1
        obtain ⟨x, hx⟩ : ∃ x, cs[i]? = some x := ⟨_, List.getElem?_eq_getElem hi⟩
        obtain ⟨c', hc', hcx⟩ := h2.get hx
        rw [hc] at hc'
        cases hc'
        have hc4 := s4 _ _ hcx
        have tki : cs.take (i + 1) = cs.take i ++ [x] := by rw [List.take_add_one, hx]; rfl
        have lw : (wk w0 (cs.take i)).asks.length ≤ 1000000 := by
          have := wk_len (cs.take i) w0
          rw [List.length_take] at this
          have e0 : w0.asks.length = 0 := rfl
          omega
        have hcan : canC (wk w0 (cs.take i)) x = true := by
          have e1 : cs = cs.take i ++ cs.drop i := (List.take_append_drop i cs).symm
          have e2 : cs.drop i = x :: cs.drop (i + 1) := by
            have := List.getElem?_eq_some_iff.mp hx
            rw [List.drop_eq_getElem_cons hi, this.2]
          rw [e1, goodGo_app, e2] at hgo
          have h3 := (Bool.and_eq_true_iff.mp hgo).2
          exact (Bool.and_eq_true_iff.mp h3).1
        refine ⟨_, rfl, p, d, _, rfl, W4.hp, rfl, _, rfl, ?_⟩
        refine ⟨p, d, al, c, _, x, rfl, W4, alp.symm, lw, hc4, canC_back hcan, fun H6 W6 k6 => ?_⟩
        refine ⟨some (.ref c), rfl, Same.kept s4 k6 f3, ?_⟩
        rw [tki, wk_snoc]
        exact W6
theorem ok_is_rowX {f : Addr} {fd : FuncData} (F : Fun K "is_row" "is_row" s_is_row f fd) (DG : DefF P w K mg base CX0 4 "good_row" ["value"] spGoodX) : FnOk P w K mg base CX0 5 f fd ["value"] spGoodX := by
  refine F.ok sc_is_row (fun vs H Q E h => ?_) (fun cdv A outer s H vs Q E hr h => ?_)
  · obtain ⟨Z, v, r, rfl, _⟩ := h
    rfl
  · obtain ⟨Z, v, r, rfl, hv, k⟩ := h
    refine ⟨_, pss_one (ps_ret (pe_cD DG hr rfl pass0 (pa_cons (pv 0) pa_nil))), ?_⟩
    exact ⟨_, rfl, Z, v, r, rfl, hv, k⟩
theorem ok_need_rowX {f : Addr} {fd : FuncData} (F : Fun K "need_row" "need_row" s_need_row f fd) (EB : ErrC K mg "BadRow" CB) (DG : DefF P w K mg base CX0 4 "good_row" ["value"] spGoodX) : FnOk P w K mg base (L2.CX P w) 5 f fd ["row"] (spNeedX CB) := by
  refine F.okX sc_need_row (fun vs H Q E h => ?_) (fun cdv A outer s H vs Q E hr h => ?_)
  · obtain ⟨Z, v, r, rfl, _⟩ := h
    rfl
  · obtain ⟨Z, v, r, rfl, hv, k1, k2⟩ := h
    refine ⟨_, pss_one (ps_if (pt_not (pt_val (pe_cD DG hr rfl pass0 (pa_cons (pv 0) pa_nil)))) (pss_one (ps_raise rfl (takes_of rfl rfl rfl rfl) (pmk_own PySem.F.excBase_ValueError EB.x EB.g EB.k (raises_own EB.b EB.t) (by exact rfl)))) pss_nil), ?_⟩
    refine ⟨_, rfl, Z, v, r, rfl, hv, fun H1 s1 => ?_⟩
    cases hg : goodRt r with
    | true => exact ⟨_, rfl, iteF (k1 hg H1 s1)⟩
    | false => exact ⟨_, rfl, iteT (k2 hg H1 s1)⟩
theorem ok_control_ofX {f : Addr} {fd : FuncData} (F : Fun K "control_of" "control_of" s_control_of f fd) (TW : TxW K CW) (FN : FnOk P w K mg base (L2.CX P w) 5 fN fdN ["row"] (spNeedX CB)) (mN : mg "need_row" = some (.ref fN)) (kN : PySem.W.keepIn K (.ref fN) = true) (bN : Binds K fdN ["row"] []) (DW : DefF P w K mg base CX0 5 "walked" ["row"] (spWalkX CW)) :
    FnOk P w K mg base (L2.CX P w) 6 f fd ["row"] (spControlX CB) := by
  refine F.okX sc_control_of (fun vs H Q E h => ?_) (fun cdv A outer s H vs Q E hr h => ?_)
  · obtain ⟨Z, v, r, rfl, _⟩ := h
    rfl
  · obtain ⟨Z, v, r, rfl, hv, k1, k2⟩ := h
    have nd := sc_control_of.nd
    refine ⟨_, pss_cons (ps_expr (pe_callS FN hr rfl mN kN bN (fun σ => L2.passAt (takes_of rfl rfl rfl rfl) σ) (pa_cons (pv 0) pa_nil)))
      (pss_cons (ps_set (i := 1) nd rfl (Or.inl rfl) (pe_cD DW hr rfl pass0 (pa_cons (pv 0) pa_nil)))
      (pss_one (ps_ret (pe_ifExp (pt_val (pe_fld (pv 1) rfl)) pe_non (pe_fld (pv 1) rfl))))), ?_⟩
    refine ⟨_, rfl, Z, v, r, rfl, hv, fun hg H1 s1 => ?_, fun hg H1 s1 => k2 hg H1 s1⟩
    obtain ⟨cs, rfl, hgb⟩ := goodRt_crs hg
    obtain ⟨l, rfl, hx, hn⟩ := hv.rwx
    refine ⟨_, rfl, l, cs, rfl, hx.same s1, hn, hgb, fun p d al H2 s2 np nal npa W => ?_⟩
    refine ⟨_, rfl, p, CW, d, _, _, rfl, W.hp, TW.cl, TW.nO, rfl, _, rfl, ?_⟩
    have kk := k1 cs rfl hgb H2 (s1.trans s2)
    refine ite2 (fun q => ?_) (fun q => ?_)
    · have q' : (wk w0 cs).over = true := by simpa using q
      rw [if_pos q'] at kk
      exact kk
    · have q' : ¬ (wk w0 cs).over = true := by simpa using q
      rw [if_neg q'] at kk
      exact ⟨_, rfl, p, CW, d, _, _, rfl, W.hp, TW.cl, TW.nI, rfl, kk⟩
theorem ok_open_ofX {f : Addr} {fd : FuncData} (F : Fun K "open_of" "open_of" s_open_of f fd) (TW : TxW K CW) (FN : FnOk P w K mg base (L2.CX P w) 5 fN fdN ["row"] (spNeedX CB)) (mN : mg "need_row" = some (.ref fN)) (kN : PySem.W.keepIn K (.ref fN) = true) (bN : Binds K fdN ["row"] []) (DW : DefF P w K mg base CX0 5 "walked" ["row"] (spWalkX CW)) :
    FnOk P w K mg base (L2.CX P w) 6 f fd ["row"] (spOpenX CB) := by
  refine F.okX sc_open_of (fun vs H Q E h => ?_) (fun cdv A outer s H vs Q E hr h => ?_)
  · obtain ⟨Z, v, r, rfl, _⟩ := h
    rfl
  · obtain ⟨Z, v, r, rfl, hv, k1, k2⟩ := h
    refine ⟨_, pss_cons (ps_expr (pe_callS FN hr rfl mN kN bN (fun σ => L2.passAt (takes_of rfl rfl rfl rfl) σ) (pa_cons (pv 0) pa_nil)))
      (pss_one (ps_ret (pe_fld (pe_cD DW hr rfl pass0 (pa_cons (pv 0) pa_nil)) rfl))), ?_⟩
    refine ⟨_, rfl, Z, v, r, rfl, hv, fun hg H1 s1 => ?_, fun hg H1 s1 => k2 hg H1 s1⟩
    obtain ⟨cs, rfl, hgb⟩ := goodRt_crs hg
    obtain ⟨l, rfl, hx, hn⟩ := hv.rwx
    refine ⟨_, rfl, l, cs, rfl, hx.same s1, hn, hgb, fun p d al H2 s2 np nal npa W => ?_⟩
    obtain ⟨aps, a1, a2⟩ := W.ha
    exact ⟨p, CW, d, _, _, rfl, W.hp, TW.cl, TW.nA, rfl, k1 cs rfl hgb al aps H2 (s1.trans s2) (s1.free nal) a1 a2⟩
end
end OH
end
section
set_option Elab.async false
set_option linter.all false
set_option maxRecDepth 100000
set_option maxHeartbeats 4000000
/-! What can follow, in plain words. -/
namespace OH
open PySem PySem.Spec PyProof.Rows L2
def NumB (n : Int) : Bool := decide (0 ≤ n) && decide (n ≤ 9999)
def dorB (n : Int) : Bool := decide (0 ≤ n) && decide (n ≤ 5)
/-- a crossing that can follow where control is r -/
def folB (r : Int) (asks : List (Int × Int)) : Crs → Bool
  | .start _ => false
  | .call a b d n => decide (asks.length < 60) && decide (a = r) && dorB b && decide (b ≠ r) && dorB d && NumB n
  | .deep a b d n => decide (0 < asks.length) && decide (a = r) && dorB b && decide (b ≠ r) && dorB d && NumB n
  | .back a b n => decide (0 < asks.length) && decide (a = r) && decide (b = (asks.getLast?.getD (0, 0)).1) && NumB n
  | .done n => decide (asks.length = 0) && NumB n
  | .fin a => decide (a = r)
theorem okF_own_ (r a : Int) : okF (r, r, none) a = decide (a = r) := by
  show (decide (r ≤ a) && decide (a ≤ r) && !decide ((none : Option Int) = some a)) = _
  rw [decide_eq_false (by simp : ¬ (none : Option Int) = some a)]
  by_cases e : a = r
  · subst e
    simp
  · rw [decide_eq_false e]
    by_cases h : r ≤ a
    · rw [decide_eq_false (by omega : ¬ a ≤ r), Bool.and_false, Bool.false_and]
    · rw [decide_eq_false h, Bool.false_and, Bool.false_and]
theorem okF_num_ (n : Int) : okF numF n = NumB n := by
  show (decide ((0 : Int) ≤ n) && decide (n ≤ 9999) && !decide ((none : Option Int) = some n)) = _
  rw [decide_eq_false (by simp : ¬ (none : Option Int) = some n)]
  exact Bool.and_true _
theorem okF_dor_ (n : Int) : okF dorF n = dorB n := by
  show (decide ((0 : Int) ≤ n) && decide (n ≤ 5) && !decide ((none : Option Int) = some n)) = _
  rw [decide_eq_false (by simp : ¬ (none : Option Int) = some n)]
  exact Bool.and_true _
theorem okF_asked_ (r n : Int) : okF (0, 5, some r) n = (dorB n && decide (n ≠ r)) := by
  show (decide ((0 : Int) ≤ n) && decide (n ≤ 5) && !decide (some r = some n)) = _
  have e : decide (some r = some n) = decide (n = r) := by
    by_cases h : n = r
    · subst h; simp
    · rw [decide_eq_false h, decide_eq_false (fun z => h (Option.some.inj z).symm)]
  rw [e]
  by_cases h : n = r
  · subst h; simp
  · rw [decide_eq_false h, decide_eq_true h]
    rfl
theorem canC_run {w : Wk} {r : Int} (ho : w.over = false) (hi : w.ins = some r) (x : Crs) : canC w x = folB r w.asks x := by
  have fl : ∀ x : Str, fld w x = if (x = "call" ∧ w.asks.length < 60) ∨ (x = "deep" ∧ 0 < w.asks.length) then some [(r, r, none), (0, 5, some r), dorF, numF]
    else if x = "back" ∧ 0 < w.asks.length then some [(r, r, none), ((w.asks.getLast?.getD (0, 0)).1, (w.asks.getLast?.getD (0, 0)).1, none), numF]
    else if x = "done" ∧ w.asks.length = 0 then some [numF]
    else if x = "end" then some [(r, r, none)] else none := fun x => by
    unfold fld
    rw [ho, hi]
    rfl
  have n1 : ¬ ("call" : Str) = "deep" := by decide
  have n2 : ¬ ("call" : Str) = "back" := by decide
  have n3 : ¬ ("call" : Str) = "done" := by decide
  have n4 : ¬ ("call" : Str) = "end" := by decide
  have n5 : ¬ ("deep" : Str) = "call" := by decide
  have n6 : ¬ ("deep" : Str) = "back" := by decide
  have n7 : ¬ ("deep" : Str) = "done" := by decide
  have n8 : ¬ ("deep" : Str) = "end" := by decide
  have n9 : ¬ ("back" : Str) = "call" := by decide
  have m1 : ¬ ("back" : Str) = "deep" := by decide
  have m2 : ¬ ("back" : Str) = "done" := by decide
  have m3 : ¬ ("back" : Str) = "end" := by decide
  have m4 : ¬ ("done" : Str) = "call" := by decide
  have m5 : ¬ ("done" : Str) = "deep" := by decide
  have m6 : ¬ ("done" : Str) = "back" := by decide
  have m7 : ¬ ("done" : Str) = "end" := by decide
  have m8 : ¬ ("end" : Str) = "call" := by decide
  have m9 : ¬ ("end" : Str) = "deep" := by decide
  have k1 : ¬ ("end" : Str) = "back" := by decide
  have k2 : ¬ ("end" : Str) = "done" := by decide
  have k3 : ¬ ("start" : Str) = "call" := by decide
  have k4 : ¬ ("start" : Str) = "deep" := by decide
  have k5 : ¬ ("start" : Str) = "back" := by decide
  have k6 : ¬ ("start" : Str) = "done" := by decide
  have k7 : ¬ ("start" : Str) = "end" := by decide
  unfold canC canF
  cases x with
  | start n => rw [show Crs.wd (.start n) = "start" from rfl, fl]; simp [*, folB]
  | call a b d n =>
    rw [show Crs.wd (.call a b d n) = "call" from rfl, fl]
    by_cases h : w.asks.length < 60
    · rw [if_pos (.inl ⟨rfl, h⟩)]
      show (true && (okF (r, r, none) a && (okF (0, 5, some r) b && (okF dorF d && (okF numF n && true))))) = (decide (w.asks.length < 60) && decide (a = r) && dorB b && decide (b ≠ r) && dorB d && NumB n)
      rw [okF_own_, okF_asked_, okF_dor_, okF_num_, decide_eq_true h]
      simp only [Bool.true_and, Bool.and_true, Bool.and_assoc]
    · simp [*, folB]
  | deep a b d n =>
    rw [show Crs.wd (.deep a b d n) = "deep" from rfl, fl]
    by_cases h : 0 < w.asks.length
    · rw [if_pos (.inr ⟨rfl, h⟩)]
      show (true && (okF (r, r, none) a && (okF (0, 5, some r) b && (okF dorF d && (okF numF n && true))))) = (decide (0 < w.asks.length) && decide (a = r) && dorB b && decide (b ≠ r) && dorB d && NumB n)
      rw [okF_own_, okF_asked_, okF_dor_, okF_num_, decide_eq_true h]
      simp only [Bool.true_and, Bool.and_true, Bool.and_assoc]
    · simp [*, folB]
  | back a b n =>
    rw [show Crs.wd (.back a b n) = "back" from rfl, fl, if_neg (fun z => z.elim (fun z => n9 z.1) (fun z => m1 z.1))]
    by_cases h : 0 < w.asks.length
    · rw [if_pos ⟨rfl, h⟩]
      show (true && (okF (r, r, none) a && (okF _ b && (okF numF n && true)))) = (decide (0 < w.asks.length) && decide (a = r) && decide (b = (w.asks.getLast?.getD (0, 0)).1) && NumB n)
      rw [okF_own_, okF_own_, okF_num_, decide_eq_true h]
      simp only [Bool.true_and, Bool.and_true, Bool.and_assoc]
    · simp [*, folB]
  | done n =>
    rw [show Crs.wd (.done n) = "done" from rfl, fl, if_neg (fun z => z.elim (fun z => m4 z.1) (fun z => m5 z.1)), if_neg (fun z => m6 z.1)]
    by_cases h : w.asks.length = 0
    · rw [if_pos ⟨rfl, h⟩]
      show (true && (okF numF n && true)) = (decide (w.asks.length = 0) && NumB n)
      rw [okF_num_, decide_eq_true h]
      simp only [Bool.true_and, Bool.and_true]
    · simp [*, folB]
  | fin a =>
    rw [show Crs.wd (.fin a) = "end" from rfl, fl, if_neg (fun z => z.elim (fun z => m8 z.1) (fun z => m9 z.1)), if_neg (fun z => k1 z.1), if_neg (fun z => k2 z.1), if_pos rfl]
    show (true && (okF (r, r, none) a && true)) = decide (a = r)
    rw [okF_own_]
    simp only [Bool.true_and, Bool.and_true]
theorem canC_over {w : Wk} (ho : w.over = true) (x : Crs) : canC w x = false := by
  unfold canC canF fld
  rw [ho, if_pos rfl]
theorem canC_first (x : Crs) : canC w0 x = match x with | .start n => NumB n | _ => false := by
  cases x with
  | start n =>
    show (true && (okF numF n && true)) = NumB n
    rw [okF_num_, Bool.and_true]
    rfl
  | _ => rfl
end OH
end
section
set_option Elab.async false
set_option linter.all false
set_option maxRecDepth 100000
set_option maxHeartbeats 8000000
/-! Whether rows fit. -/
namespace OH
open PySem PySem.Spec PyProof.Rows L2
def fitX (F : Fc) (m : Int) : Crs → Bool
  | .call a b d _ => decide ((b, d) ∈ F.ws a.toNat) && !decide (m = F.dep)
  | .deep a b d _ => decide ((b, d) ∈ F.ws a.toNat) && decide (m = F.dep)
  | _ => true
def mX (m : Int) : Crs → Int
  | .call .. => m + 1
  | .deep .. => m + 1
  | .back .. => m - 1
  | _ => m
def fitGo (F : Fc) : Int → List Crs → Bool
  | _, [] => true
  | m, x :: xs => fitX F m x && fitGo F (mX m x) xs
theorem canC_none {w : Wk} (hi : w.ins = none) {x : Crs} (h : canC w x = true) : ∃ n, x = .start n := by
  unfold canC canF fld at h
  cases ho : w.over with
  | true => rw [ho, if_pos rfl] at h; cases h
  | false =>
    rw [ho, if_neg Bool.false_ne_true, hi] at h
    cases x with
    | start n => exact ⟨n, rfl⟩
    | call a b d n => rw [if_neg (show ¬ Crs.wd (.call a b d n) = "start" by show ¬ ("call" : Str) = "start"; decide)] at h; cases h
    | deep a b d n => rw [if_neg (show ¬ Crs.wd (.deep a b d n) = "start" by show ¬ ("deep" : Str) = "start"; decide)] at h; cases h
    | back a b n => rw [if_neg (show ¬ Crs.wd (.back a b n) = "start" by show ¬ ("back" : Str) = "start"; decide)] at h; cases h
    | done n => rw [if_neg (show ¬ Crs.wd (.done n) = "start" by show ¬ ("done" : Str) = "start"; decide)] at h; cases h
    | fin a => rw [if_neg (show ¬ Crs.wd (.fin a) = "start" by show ¬ ("end" : Str) = "start"; decide)] at h; cases h
theorem canC_live {w : Wk} {x : Crs} (h : canC w x = true) : w.over = false := by
  cases ho : w.over with
  | true => rw [canC_over ho] at h; cases h
  | false => rfl
structure CtlOk (F : Fc) (w : Wk) : Prop where
  c : ∀ r, w.ins = some r → 0 ≤ r ∧ r < (F.R : Int)
  a : ∀ p ∈ w.asks, 0 ≤ p.1 ∧ p.1 < (F.R : Int)
theorem CtlOk.init (F : Fc) : CtlOk F w0 := ⟨(fun r e => by cases e), fun p hp => absurd hp List.not_mem_nil⟩
section
variable {F : Fc} {w : Wk} {m : Int}
theorem CtlOk.own (h : CtlOk F w) {x : Crs} (hc : canC w x = true) (hs : ∀ n, x ≠ .start n) : ∃ r, w.ins = some r ∧ folB r w.asks x = true ∧ 0 ≤ r ∧ r < (F.R : Int) := by
  cases hi : w.ins with
  | none =>
    obtain ⟨n, e⟩ := canC_none hi hc
    exact absurd e (hs n)
  | some r =>
    have hr := h.c r hi
    rw [canC_run (canC_live hc) hi] at hc
    exact ⟨r, rfl, hc, hr⟩
theorem fol_call {r a b d n : Int} {as : List (Int × Int)} (h : folB r as (.call a b d n) = true) : as.length < 60 ∧ a = r := by
  have h' : (decide (as.length < 60) && decide (a = r) && dorB b && decide (b ≠ r) && dorB d && NumB n) = true := h
  simp only [Bool.and_eq_true, decide_eq_true_eq] at h'
  exact ⟨h'.1.1.1.1.1, h'.1.1.1.1.2⟩
theorem fol_deep {r a b d n : Int} {as : List (Int × Int)} (h : folB r as (.deep a b d n) = true) : 0 < as.length ∧ a = r := by
  have h' : (decide (0 < as.length) && decide (a = r) && dorB b && decide (b ≠ r) && dorB d && NumB n) = true := h
  simp only [Bool.and_eq_true, decide_eq_true_eq] at h'
  exact ⟨h'.1.1.1.1.1, h'.1.1.1.1.2⟩
theorem fol_back {r a b n : Int} {as : List (Int × Int)} (h : folB r as (.back a b n) = true) : 0 < as.length ∧ a = r ∧ b = (as.getLast?.getD (0, 0)).1 := by
  have h' : (decide (0 < as.length) && decide (a = r) && decide (b = (as.getLast?.getD (0, 0)).1) && NumB n) = true := h
  simp only [Bool.and_eq_true, decide_eq_true_eq] at h'
  exact ⟨h'.1.1.1, h'.1.1.2, h'.1.2⟩
theorem CtlOk.call (h : CtlOk F w) {a b d n : Int} (hc : canC w (.call a b d n) = true) : 0 ≤ a ∧ a < (F.R : Int) := by
  obtain ⟨r, _, hf, h0, h1⟩ := h.own hc (fun _ z => by cases z)
  rw [(fol_call hf).2]
  exact ⟨h0, h1⟩
theorem CtlOk.deep (h : CtlOk F w) {a b d n : Int} (hc : canC w (.deep a b d n) = true) : 0 ≤ a ∧ a < (F.R : Int) := by
  obtain ⟨r, _, hf, h0, h1⟩ := h.own hc (fun _ z => by cases z)
  rw [(fol_deep hf).2]
  exact ⟨h0, h1⟩
theorem last_mem {as : List (Int × Int)} (h : 0 < as.length) : as.getLast?.getD (0, 0) ∈ as := by
  cases e : as.getLast? with
  | none => rw [List.getLast?_eq_none_iff] at e; rw [e] at h; exact absurd h (Nat.lt_irrefl 0)
  | some p => exact List.mem_of_getLast? e
theorem CtlOk.back (h : CtlOk F w) {a b n : Int} (hc : canC w (.back a b n) = true) : (0 ≤ a ∧ a < (F.R : Int)) ∧ 0 ≤ b ∧ b < (F.R : Int) := by
  obtain ⟨r, _, hf, h0, h1⟩ := h.own hc (fun _ z => by cases z)
  obtain ⟨e1, e2, e3⟩ := fol_back hf
  rw [e2, e3]
  exact ⟨⟨h0, h1⟩, h.a _ (last_mem e1)⟩
theorem CtlOk.step (hF : F.Ok) (h : CtlOk F w) {x : Crs} (hc : canC w x = true) (hf : fitX F m x = true) : CtlOk F (tk w x) := by
  have m1 := hF.m1
  cases x with
  | start n => exact ⟨fun r e => by cases e; exact ⟨Int.le_refl 0, by omega⟩, h.a⟩
  | call a b d n =>
    obtain ⟨a0, a1⟩ := h.call hc
    have hw : (b, d) ∈ F.ws a.toNat := by
      have := (Bool.and_eq_true_iff.mp hf).1
      exact of_decide_eq_true this
    obtain ⟨b0, _, b1, _⟩ := wire_rng hF a0 a1 hw
    refine ⟨fun r e => by cases e; exact ⟨b0, b1⟩, fun p hp => ?_⟩
    rcases List.mem_append.mp hp with hp | hp
    · exact h.a p hp
    · rw [List.mem_singleton.mp hp]
      exact ⟨a0, a1⟩
  | back a b n =>
    exact ⟨fun r e => by cases e; exact (h.back hc).2, fun p hp => h.a p (List.dropLast_subset _ hp)⟩
  | deep a b d n => exact ⟨h.c, h.a⟩
  | done n => exact ⟨h.c, h.a⟩
  | fin a => exact ⟨h.c, h.a⟩
end
def spFitsG : Sp := fun vs H Q _ => ∃ (l a : Addr) (F : Fc) (cs : List Crs), vs = [.ref l, .ref a] ∧ RwX H l cs ∧ FcAt H a F ∧ goodB cs = true ∧ cs.length ≤ 1000 ∧ ∀ H', Same H H' → Q (.bl (fitGo F 0 cs)) H'
section
variable {P : Program} {w : World} {K : PySem.W.Frag} {mg : Str → Option Value} {base : Heap}
theorem ok_fits_inG {f : Addr} {fd : FuncData} (F : Fun K "fits_in" "fits_in" s_fits_in f fd) : FnOk P w K mg base CX0 1 f fd ["row", "face"] spFitsG := by
  refine F.ok sc_fits_in (fun vs H Q E h => ?_) (fun cdv A outer s H vs Q E hr h => ?_)
  · obtain ⟨l, a, F, cs, rfl, _⟩ := h
    rfl
  · obtain ⟨l, a, F, cs, rfl, hl, hf, hg, hn, k⟩ := h
    have nd := sc_fits_in.nd
    have hF := hf.ok
    obtain ⟨wt, dt, wps, b1, b2, b3, b4, b5⟩ := hf.ex
    obtain ⟨ps, h1, h2⟩ := hl
    have lp := h2.len
    have hgo : goodGo w0 cs = true := by
      unfold goodB at hg
      exact (Bool.and_eq_true_iff.mp hg).2
    rcases h1 with h1 | h1
    case inl =>
      refine ⟨_, pss_cons (ps_asg (pv 1) (pg_tup (by rfl) (pgs_cons (pg_name (i := 2) nd rfl (Or.inl rfl)) (pgs_cons (pg_name (i := 3) nd rfl (Or.inl rfl)) (pgs_cons (pg_name (i := 4) nd rfl (Or.inl rfl)) pgs_nil)))))
        (pss_cons (ps_set (i := 5) nd rfl (Or.inl rfl) pe_int)
        (pss_cons (ps_for PassesOwn.never rfl (pi_list (pv 0)) (pg_name (i := 6) nd rfl (Or.inl rfl))
          (pss_cons (ps_set (i := 7) nd rfl (Or.inl rfl) (pe_ix ix_tup (pv 6) pe_int (fun _ _ => rfl)))
        (pss_one (ps_if (PW.pt (pw_or (pt_cmpR op_eq (pv 7) pe_str (nomark _)) (pw_or1 (pt_cmpR op_eq (pv 7) pe_str (nomark _))))) (pss_cons (ps_if (PW.pt (pw_or (pt_cmpR (op_notInDT (Room_u65 hr)) (pe_tup (pa_cons (pe_ix ix_tup (pv 6) pe_int (fun _ _ => rfl)) (pa_cons (pe_ix ix_tup (pv 6) pe_int (fun _ _ => rfl)) pa_nil))) (pe_ix ix_tup (pv 3) (pe_ix ix_tup (pv 6) pe_int (fun _ _ => rfl)) (fun _ _ => rfl)) (by rfl)) (pw_or1 (pt_cmpR op_ne (pe_cmpR op_eq (pv 5) (pv 2) (nomark _)) (pe_cmpR op_eq (pv 7) pe_str (nomark _)) (nomark _))))) (pss_one (ps_ret pe_bl)) pss_nil)
        (pss_one (ps_aug (i := 5) nd rfl (Or.inl rfl) pe_int ip_add))) (pss_one (ps_if (pt_cmpR op_eq (pv 7) pe_str (nomark _)) (pss_one (ps_aug (i := 5) nd rfl (Or.inl rfl) pe_int ip_sub)) pss_nil))))))
        (pss_one (ps_ret pe_bl)))), ?_⟩
      refine ⟨_, rfl, a, _, rfl, SqT.of b1, rfl, _, _, rfl, _, _, rfl, _, _, rfl, rfl, ?_⟩
      refine ⟨_, rfl, l, rfl, ⟨_, SqL.of h1⟩, ?_⟩
      refine for_list (xs := ps.map V.ref) (fun i σ H' => ∃ (m : Int) (o6 o7 : Option V), σ = [some (.ref l), some (.ref a), some (.int F.dep), some (.ref wt), some (.ref dt), some (.int m), o6, o7] ∧ Same H H' ∧ CtlOk F (wk w0 (cs.take i)) ∧ fitGo F 0 cs = fitGo F m (cs.drop i))
        ⟨0, none, none, rfl, Same.refl H, CtlOk.init F, rfl⟩ (fun i σ H' _ ⟨_, _, _, _, s, _⟩ => SqL.of (s _ _ h1)) ?turn ?done
      case done =>
        rintro σ H4 ⟨m, o6, o7, rfl, s4, _, e⟩
        rw [List.length_map, lp, List.drop_length] at e
        have k4 := k H4 s4
        rw [e] at k4
        exact k4
      case turn =>
        rintro i y σ H4 hy ⟨m, o6, o7, rfl, s4, hI, eg⟩
        rw [List.getElem?_map] at hy
        obtain ⟨c, hc, rfl⟩ := Option.map_eq_some_iff.mp hy
        have hi : i < cs.length := by rw [← lp]; exact (List.getElem?_eq_some_iff.mp hc).1
        obtain ⟨x, hx⟩ : ∃ x, cs[i]? = some x := ⟨_, List.getElem?_eq_getElem hi⟩
        obtain ⟨c', hc', hcx⟩ := h2.get hx
        rw [hc] at hc'
        cases hc'
        have hc4 := s4 _ _ hcx
        have dr : cs.drop i = x :: cs.drop (i + 1) := by
          have := List.getElem?_eq_some_iff.mp hx
          rw [List.drop_eq_getElem_cons hi, this.2]
        have tki : cs.take (i + 1) = cs.take i ++ [x] := by rw [List.take_add_one, hx]; rfl
        have hcan : canC (wk w0 (cs.take i)) x = true := by
          have hg := hgo
          rw [(List.take_append_drop i cs).symm, goodGo_app, dr] at hg
          exact (Bool.and_eq_true_iff.mp (Bool.and_eq_true_iff.mp hg).2).1
        rw [dr] at eg
        have bad : fitX F m x = false → ∀ H5, Same H H5 → Q (.bl false) H5 := fun e H5 s5 => by
          have k5 := k H5 s5
          rw [eg] at k5
          have : fitGo F m (x :: cs.drop (i + 1)) = false := by
            show (fitX F m x && _) = false
            rw [e]
            rfl
          rw [this] at k5
          exact k5
        have nx : fitX F m x = true → ∀ (H5 : Hp) (o6 o7 : Option V), Same H H5 →
            ∃ (m' : Int) (p6 p7 : Option V), [some (.ref l), some (.ref a), some (.int F.dep), some (.ref wt), some (.ref dt), some (.int (mX m x)), o6, o7] = [some (.ref l), some (.ref a), some (.int F.dep), some (.ref wt), some (.ref dt), some (.int m'), p6, p7] ∧ Same H H5 ∧ CtlOk F (wk w0 (cs.take (i + 1))) ∧ fitGo F 0 cs = fitGo F m' (cs.drop (i + 1)) := fun e H5 o6 o7 s => ⟨_, o6, o7, rfl, s, by
          rw [tki, wk_snoc]
          exact hI.step hF hcan e, by
          rw [eg]
          show (fitX F m x && fitGo F (mX m x) (cs.drop (i + 1))) = _
          rw [e]
          rfl⟩
        have hIc := hI
        generalize hst : wk w0 (cs.take i) = st at hIc hcan
        have wires : ∀ {q : Int}, 0 ≤ q → q < (F.R : Int) → ∀ {H5 : Hp}, Same H H5 → ∃ wp, atI (wps.map V.ref) q = some (.ref wp) ∧ Dp K H5 (.ref wp) (.tuple ((F.ws q.toNat).map pairD)) := fun {q} q0 q1 {H5} s => by
          obtain ⟨wp, hwp⟩ : ∃ wp, wps[q.toNat]? = some wp := ⟨_, List.getElem?_eq_getElem (by rw [b4]; omega)⟩
          obtain ⟨qs, p1, p2⟩ := b5 _ _ hwp
          refine ⟨wp, ?_, .tup (SqT.of (s _ _ p1)) ((p2.mono fun q xs e => s _ _ e).dp)⟩
          have := atI_nat (xs := wps.map V.ref) (j := q.toNat) (v := .ref wp) (by rw [List.getElem?_map, hwp]; rfl)
          rw [Int.toNat_of_nonneg q0] at this
          exact this
        cases x with
        | start n =>
          refine ⟨_, rfl, c, _, 0, _, rfl, rfl, SqT.of hc4, rfl, ?_⟩
          refine ⟨_, rfl, rfl, _, rfl, iteF ?_⟩
          refine ⟨_, rfl, rfl, _, rfl, iteF ?_⟩
          refine ⟨_, rfl, rfl, _, rfl, iteF ?_⟩
          exact nx rfl _ _ _ s4
        | done n =>
          refine ⟨_, rfl, c, _, 0, _, rfl, rfl, SqT.of hc4, rfl, ?_⟩
          refine ⟨_, rfl, rfl, _, rfl, iteF ?_⟩
          refine ⟨_, rfl, rfl, _, rfl, iteF ?_⟩
          refine ⟨_, rfl, rfl, _, rfl, iteF ?_⟩
          exact nx rfl _ _ _ s4
        | fin n =>
          refine ⟨_, rfl, c, _, 0, _, rfl, rfl, SqT.of hc4, rfl, ?_⟩
          refine ⟨_, rfl, rfl, _, rfl, iteF ?_⟩
          refine ⟨_, rfl, rfl, _, rfl, iteF ?_⟩
          refine ⟨_, rfl, rfl, _, rfl, iteF ?_⟩
          exact nx rfl _ _ _ s4
        | back b d n =>
          refine ⟨_, rfl, c, _, 0, _, rfl, rfl, SqT.of hc4, rfl, ?_⟩
          refine ⟨_, rfl, rfl, _, rfl, iteF ?_⟩
          refine ⟨_, rfl, rfl, _, rfl, iteF ?_⟩
          refine ⟨_, rfl, rfl, _, rfl, iteT ?_⟩
          refine ⟨_, rfl, _, _, rfl, rfl, ?_⟩
          exact nx rfl _ _ _ s4
        | call q' b d n =>
          obtain ⟨q0, q1⟩ := hIc.call hcan
          refine ⟨_, rfl, c, _, 0, _, rfl, rfl, SqT.of hc4, rfl, ?_⟩
          refine ⟨_, rfl, rfl, _, rfl, iteT (iteT ?_)⟩
          refine ⟨_, rfl, c, _, 2, _, rfl, rfl, SqT.of hc4, rfl, _, rfl, c, _, 3, _, rfl, rfl, SqT.of hc4, rfl, (by show 2 ≤ sizeLine; decide), fun t nt => ?_⟩
          have s5 := sadd (o := .tup [.int b, .int d]) s4 nt
          have s45 := sadd (o := .tup [.int b, .int d]) (Same.refl H4) nt
          have ht : upd H4 t (.tup [.int b, .int d]) t = some (.tup [.int b, .int d]) := upd_same
          have hc5 := s45 _ _ hc4
          generalize upd H4 t (.tup [.int b, .int d]) = H5 at s5 ht hc5 ⊢
          obtain ⟨wp, at1, dp⟩ := wires q0 q1 s5
          refine ⟨_, rfl, _, rfl, c, _, 1, _, rfl, rfl, SqT.of hc5, rfl, wt, _, q', _, rfl, rfl, SqT.of (s5 _ _ b2), at1, ?_⟩
          refine ⟨pairD (b, d), _, .tup (SqT.of ht) (.cons (.int _) (.cons (.int _) .nil)), dp, shaped_pair _ _, shaped_pairs _, ?_⟩
          rw [any_pair]
          cases hd : decide ((b, d) ∈ F.ws q'.toNat) with
          | false =>
            refine ⟨_, rfl, iteT (bad ?_ H5 s5)⟩
            show (decide ((b, d) ∈ F.ws q'.toNat) && _) = false
            rw [hd]
            rfl
          | true =>
          refine ⟨_, rfl, iteF ?_⟩
          refine ⟨_, rfl, _, rfl, rfl, _, rfl, rfl, rfl, ?_⟩
          cases hm : decide (m = F.dep) with
          | true =>
            have e1 : decide (V.int m = V.int F.dep) = true := by
              exact decide_eq_true (by rw [of_decide_eq_true hm])
            rw [e1]
            refine ⟨_, rfl, iteT (bad ?_ H5 s5)⟩
            show (decide ((b, d) ∈ F.ws q'.toNat) && !decide (m = F.dep)) = false
            rw [hd, hm]
            rfl
          | false =>
            have e1 : decide (V.int m = V.int F.dep) = false := by
              exact decide_eq_false (fun z => of_decide_eq_false hm (V.int.inj z))
            rw [e1]
            refine ⟨_, rfl, iteF ?_⟩
            refine ⟨_, rfl, _, _, rfl, rfl, ?_⟩
            refine nx ?_ _ _ _ s5
            show (decide ((b, d) ∈ F.ws q'.toNat) && !decide (m = F.dep)) = true
            rw [hd, hm]
            rfl
        | deep q' b d n =>
          obtain ⟨q0, q1⟩ := hIc.deep hcan
          refine ⟨_, rfl, c, _, 0, _, rfl, rfl, SqT.of hc4, rfl, ?_⟩
          refine ⟨_, rfl, rfl, _, rfl, iteF ?_⟩
          refine ⟨_, rfl, rfl, _, rfl, iteT ?_⟩
          refine ⟨_, rfl, c, _, 2, _, rfl, rfl, SqT.of hc4, rfl, _, rfl, c, _, 3, _, rfl, rfl, SqT.of hc4, rfl, (by show 2 ≤ sizeLine; decide), fun t nt => ?_⟩
          have s5 := sadd (o := .tup [.int b, .int d]) s4 nt
          have s45 := sadd (o := .tup [.int b, .int d]) (Same.refl H4) nt
          have ht : upd H4 t (.tup [.int b, .int d]) t = some (.tup [.int b, .int d]) := upd_same
          have hc5 := s45 _ _ hc4
          generalize upd H4 t (.tup [.int b, .int d]) = H5 at s5 ht hc5 ⊢
          obtain ⟨wp, at1, dp⟩ := wires q0 q1 s5
          refine ⟨_, rfl, _, rfl, c, _, 1, _, rfl, rfl, SqT.of hc5, rfl, wt, _, q', _, rfl, rfl, SqT.of (s5 _ _ b2), at1, ?_⟩
          refine ⟨pairD (b, d), _, .tup (SqT.of ht) (.cons (.int _) (.cons (.int _) .nil)), dp, shaped_pair _ _, shaped_pairs _, ?_⟩
          rw [any_pair]
          cases hd : decide ((b, d) ∈ F.ws q'.toNat) with
          | false =>
            refine ⟨_, rfl, iteT (bad ?_ H5 s5)⟩
            show (decide ((b, d) ∈ F.ws q'.toNat) && _) = false
            rw [hd]
            rfl
          | true =>
          refine ⟨_, rfl, iteF ?_⟩
          refine ⟨_, rfl, _, rfl, rfl, _, rfl, rfl, rfl, ?_⟩
          cases hm : decide (m = F.dep) with
          | false =>
            have e1 : decide (V.int m = V.int F.dep) = false := by
              exact decide_eq_false (fun z => of_decide_eq_false hm (V.int.inj z))
            rw [e1]
            refine ⟨_, rfl, iteT (bad ?_ H5 s5)⟩
            show (decide ((b, d) ∈ F.ws q'.toNat) && decide (m = F.dep)) = false
            rw [hd, hm]
            rfl
          | true =>
            have e1 : decide (V.int m = V.int F.dep) = true := by
              exact decide_eq_true (by rw [of_decide_eq_true hm])
            rw [e1]
            refine ⟨_, rfl, iteF ?_⟩
            refine ⟨_, rfl, _, _, rfl, rfl, ?_⟩
            refine nx ?_ _ _ _ s5
            show (decide ((b, d) ∈ F.ws q'.toNat) && decide (m = F.dep)) = true
            rw [hd, hm]
            rfl
    case inr =>
      refine ⟨_, pss_cons (ps_asg (pv 1) (pg_tup (by rfl) (pgs_cons (pg_name (i := 2) nd rfl (Or.inl rfl)) (pgs_cons (pg_name (i := 3) nd rfl (Or.inl rfl)) (pgs_cons (pg_name (i := 4) nd rfl (Or.inl rfl)) pgs_nil)))))
        (pss_cons (ps_set (i := 5) nd rfl (Or.inl rfl) pe_int)
        (pss_cons (ps_for PassesOwn.never rfl (pi_tup (pv 0)) (pg_name (i := 6) nd rfl (Or.inl rfl))
          (pss_cons (ps_set (i := 7) nd rfl (Or.inl rfl) (pe_ix ix_tup (pv 6) pe_int (fun _ _ => rfl)))
        (pss_one (ps_if (PW.pt (pw_or (pt_cmpR op_eq (pv 7) pe_str (nomark _)) (pw_or1 (pt_cmpR op_eq (pv 7) pe_str (nomark _))))) (pss_cons (ps_if (PW.pt (pw_or (pt_cmpR (op_notInDT (Room_u65 hr)) (pe_tup (pa_cons (pe_ix ix_tup (pv 6) pe_int (fun _ _ => rfl)) (pa_cons (pe_ix ix_tup (pv 6) pe_int (fun _ _ => rfl)) pa_nil))) (pe_ix ix_tup (pv 3) (pe_ix ix_tup (pv 6) pe_int (fun _ _ => rfl)) (fun _ _ => rfl)) (by rfl)) (pw_or1 (pt_cmpR op_ne (pe_cmpR op_eq (pv 5) (pv 2) (nomark _)) (pe_cmpR op_eq (pv 7) pe_str (nomark _)) (nomark _))))) (pss_one (ps_ret pe_bl)) pss_nil)
        (pss_one (ps_aug (i := 5) nd rfl (Or.inl rfl) pe_int ip_add))) (pss_one (ps_if (pt_cmpR op_eq (pv 7) pe_str (nomark _)) (pss_one (ps_aug (i := 5) nd rfl (Or.inl rfl) pe_int ip_sub)) pss_nil))))))
        (pss_one (ps_ret pe_bl)))), ?_⟩
      refine ⟨_, rfl, a, _, rfl, SqT.of b1, rfl, _, _, rfl, _, _, rfl, _, _, rfl, rfl, ?_⟩
      refine ⟨_, rfl, l, rfl, ⟨_, SqT.of h1⟩, ?_⟩
      refine for_tup (xs := ps.map V.ref) (fun i σ H' => ∃ (m : Int) (o6 o7 : Option V), σ = [some (.ref l), some (.ref a), some (.int F.dep), some (.ref wt), some (.ref dt), some (.int m), o6, o7] ∧ Same H H' ∧ CtlOk F (wk w0 (cs.take i)) ∧ fitGo F 0 cs = fitGo F m (cs.drop i))
        ⟨0, none, none, rfl, Same.refl H, CtlOk.init F, rfl⟩ (fun i σ H' _ ⟨_, _, _, _, s, _⟩ => SqT.of (s _ _ h1)) ?turn ?done
      case done =>
        rintro σ H4 ⟨m, o6, o7, rfl, s4, _, e⟩
        rw [List.length_map, lp, List.drop_length] at e
        have k4 := k H4 s4
        rw [e] at k4
        exact k4
      case turn =>
        rintro i y σ H4 hy ⟨m, o6, o7, rfl, s4, hI, eg⟩
        rw [List.getElem?_map] at hy
        obtain ⟨c, hc, rfl⟩ := Option.map_eq_some_iff.mp hy
        have hi : i < cs.length := by rw [← lp]; exact (List.getElem?_eq_some_iff.mp hc).1
        obtain ⟨x, hx⟩ : ∃ x, cs[i]? = some x := ⟨_, List.getElem?_eq_getElem hi⟩
        obtain ⟨c', hc', hcx⟩ := h2.get hx
        rw [hc] at hc'
        cases hc'
        have hc4 := s4 _ _ hcx
        have dr : cs.drop i = x :: cs.drop (i + 1) := by
          have := List.getElem?_eq_some_iff.mp hx
          rw [List.drop_eq_getElem_cons hi, this.2]
        have tki : cs.take (i + 1) = cs.take i ++ [x] := by rw [List.take_add_one, hx]; rfl
        have hcan : canC (wk w0 (cs.take i)) x = true := by
          have hg := hgo
          rw [(List.take_append_drop i cs).symm, goodGo_app, dr] at hg
          exact (Bool.and_eq_true_iff.mp (Bool.and_eq_true_iff.mp hg).2).1
        rw [dr] at eg
        have bad : fitX F m x = false → ∀ H5, Same H H5 → Q (.bl false) H5 := fun e H5 s5 => by
          have k5 := k H5 s5
          rw [eg] at k5
          have : fitGo F m (x :: cs.drop (i + 1)) = false := by
            show (fitX F m x && _) = false
            rw [e]
            rfl
          rw [this] at k5
          exact k5
        have nx : fitX F m x = true → ∀ (H5 : Hp) (o6 o7 : Option V), Same H H5 →
            ∃ (m' : Int) (p6 p7 : Option V), [some (.ref l), some (.ref a), some (.int F.dep), some (.ref wt), some (.ref dt), some (.int (mX m x)), o6, o7] = [some (.ref l), some (.ref a), some (.int F.dep), some (.ref wt), some (.ref dt), some (.int m'), p6, p7] ∧ Same H H5 ∧ CtlOk F (wk w0 (cs.take (i + 1))) ∧ fitGo F 0 cs = fitGo F m' (cs.drop (i + 1)) := fun e H5 o6 o7 s => ⟨_, o6, o7, rfl, s, by
          rw [tki, wk_snoc]
          exact hI.step hF hcan e, by
          rw [eg]
          show (fitX F m x && fitGo F (mX m x) (cs.drop (i + 1))) = _
          rw [e]
          rfl⟩
        have hIc := hI
        generalize hst : wk w0 (cs.take i) = st at hIc hcan
        have wires : ∀ {q : Int}, 0 ≤ q → q < (F.R : Int) → ∀ {H5 : Hp}, Same H H5 → ∃ wp, atI (wps.map V.ref) q = some (.ref wp) ∧ Dp K H5 (.ref wp) (.tuple ((F.ws q.toNat).map pairD)) := fun {q} q0 q1 {H5} s => by
          obtain ⟨wp, hwp⟩ : ∃ wp, wps[q.toNat]? = some wp := ⟨_, List.getElem?_eq_getElem (by rw [b4]; omega)⟩
          obtain ⟨qs, p1, p2⟩ := b5 _ _ hwp
          refine ⟨wp, ?_, .tup (SqT.of (s _ _ p1)) ((p2.mono fun q xs e => s _ _ e).dp)⟩
          have := atI_nat (xs := wps.map V.ref) (j := q.toNat) (v := .ref wp) (by rw [List.getElem?_map, hwp]; rfl)
          rw [Int.toNat_of_nonneg q0] at this
          exact this
        cases x with
        | start n =>
          refine ⟨_, rfl, c, _, 0, _, rfl, rfl, SqT.of hc4, rfl, ?_⟩
          refine ⟨_, rfl, rfl, _, rfl, iteF ?_⟩
          refine ⟨_, rfl, rfl, _, rfl, iteF ?_⟩
          refine ⟨_, rfl, rfl, _, rfl, iteF ?_⟩
          exact nx rfl _ _ _ s4
        | done n =>
          refine ⟨_, rfl, c, _, 0, _, rfl, rfl, SqT.of hc4, rfl, ?_⟩
          refine ⟨_, rfl, rfl, _, rfl, iteF ?_⟩
          refine ⟨_, rfl, rfl, _, rfl, iteF ?_⟩
          refine ⟨_, rfl, rfl, _, rfl, iteF ?_⟩
          exact nx rfl _ _ _ s4
        | fin n =>
          refine ⟨_, rfl, c, _, 0, _, rfl, rfl, SqT.of hc4, rfl, ?_⟩
          refine ⟨_, rfl, rfl, _, rfl, iteF ?_⟩
          refine ⟨_, rfl, rfl, _, rfl, iteF ?_⟩
          refine ⟨_, rfl, rfl, _, rfl, iteF ?_⟩
          exact nx rfl _ _ _ s4
        | back b d n =>
          refine ⟨_, rfl, c, _, 0, _, rfl, rfl, SqT.of hc4, rfl, ?_⟩
          refine ⟨_, rfl, rfl, _, rfl, iteF ?_⟩
          refine ⟨_, rfl, rfl, _, rfl, iteF ?_⟩
          refine ⟨_, rfl, rfl, _, rfl, iteT ?_⟩
          refine ⟨_, rfl, _, _, rfl, rfl, ?_⟩
          exact nx rfl _ _ _ s4
        | call q' b d n =>
          obtain ⟨q0, q1⟩ := hIc.call hcan
          refine ⟨_, rfl, c, _, 0, _, rfl, rfl, SqT.of hc4, rfl, ?_⟩
          refine ⟨_, rfl, rfl, _, rfl, iteT (iteT ?_)⟩
          refine ⟨_, rfl, c, _, 2, _, rfl, rfl, SqT.of hc4, rfl, _, rfl, c, _, 3, _, rfl, rfl, SqT.of hc4, rfl, (by show 2 ≤ sizeLine; decide), fun t nt => ?_⟩
          have s5 := sadd (o := .tup [.int b, .int d]) s4 nt
          have s45 := sadd (o := .tup [.int b, .int d]) (Same.refl H4) nt
          have ht : upd H4 t (.tup [.int b, .int d]) t = some (.tup [.int b, .int d]) := upd_same
          have hc5 := s45 _ _ hc4
          generalize upd H4 t (.tup [.int b, .int d]) = H5 at s5 ht hc5 ⊢
          obtain ⟨wp, at1, dp⟩ := wires q0 q1 s5
          refine ⟨_, rfl, _, rfl, c, _, 1, _, rfl, rfl, SqT.of hc5, rfl, wt, _, q', _, rfl, rfl, SqT.of (s5 _ _ b2), at1, ?_⟩
          refine ⟨pairD (b, d), _, .tup (SqT.of ht) (.cons (.int _) (.cons (.int _) .nil)), dp, shaped_pair _ _, shaped_pairs _, ?_⟩
          rw [any_pair]
          cases hd : decide ((b, d) ∈ F.ws q'.toNat) with
          | false =>
            refine ⟨_, rfl, iteT (bad ?_ H5 s5)⟩
            show (decide ((b, d) ∈ F.ws q'.toNat) && _) = false
            rw [hd]
            rfl
          | true =>
          refine ⟨_, rfl, iteF ?_⟩
          refine ⟨_, rfl, _, rfl, rfl, _, rfl, rfl, rfl, ?_⟩
          cases hm : decide (m = F.dep) with
          | true =>
            have e1 : decide (V.int m = V.int F.dep) = true := by
              exact decide_eq_true (by rw [of_decide_eq_true hm])
            rw [e1]
            refine ⟨_, rfl, iteT (bad ?_ H5 s5)⟩
            show (decide ((b, d) ∈ F.ws q'.toNat) && !decide (m = F.dep)) = false
            rw [hd, hm]
            rfl
          | false =>
            have e1 : decide (V.int m = V.int F.dep) = false := by
              exact decide_eq_false (fun z => of_decide_eq_false hm (V.int.inj z))
            rw [e1]
            refine ⟨_, rfl, iteF ?_⟩
            refine ⟨_, rfl, _, _, rfl, rfl, ?_⟩
            refine nx ?_ _ _ _ s5
            show (decide ((b, d) ∈ F.ws q'.toNat) && !decide (m = F.dep)) = true
            rw [hd, hm]
            rfl
        | deep q' b d n =>
          obtain ⟨q0, q1⟩ := hIc.deep hcan
          refine ⟨_, rfl, c, _, 0, _, rfl, rfl, SqT.of hc4, rfl, ?_⟩
          refine ⟨_, rfl, rfl, _, rfl, iteF ?_⟩
          refine ⟨_, rfl, rfl, _, rfl, iteT ?_⟩
          refine ⟨_, rfl, c, _, 2, _, rfl, rfl, SqT.of hc4, rfl, _, rfl, c, _, 3, _, rfl, rfl, SqT.of hc4, rfl, (by show 2 ≤ sizeLine; decide), fun t nt => ?_⟩
          have s5 := sadd (o := .tup [.int b, .int d]) s4 nt
          have s45 := sadd (o := .tup [.int b, .int d]) (Same.refl H4) nt
          have ht : upd H4 t (.tup [.int b, .int d]) t = some (.tup [.int b, .int d]) := upd_same
          have hc5 := s45 _ _ hc4
          generalize upd H4 t (.tup [.int b, .int d]) = H5 at s5 ht hc5 ⊢
          obtain ⟨wp, at1, dp⟩ := wires q0 q1 s5
          refine ⟨_, rfl, _, rfl, c, _, 1, _, rfl, rfl, SqT.of hc5, rfl, wt, _, q', _, rfl, rfl, SqT.of (s5 _ _ b2), at1, ?_⟩
          refine ⟨pairD (b, d), _, .tup (SqT.of ht) (.cons (.int _) (.cons (.int _) .nil)), dp, shaped_pair _ _, shaped_pairs _, ?_⟩
          rw [any_pair]
          cases hd : decide ((b, d) ∈ F.ws q'.toNat) with
          | false =>
            refine ⟨_, rfl, iteT (bad ?_ H5 s5)⟩
            show (decide ((b, d) ∈ F.ws q'.toNat) && _) = false
            rw [hd]
            rfl
          | true =>
          refine ⟨_, rfl, iteF ?_⟩
          refine ⟨_, rfl, _, rfl, rfl, _, rfl, rfl, rfl, ?_⟩
          cases hm : decide (m = F.dep) with
          | false =>
            have e1 : decide (V.int m = V.int F.dep) = false := by
              exact decide_eq_false (fun z => of_decide_eq_false hm (V.int.inj z))
            rw [e1]
            refine ⟨_, rfl, iteT (bad ?_ H5 s5)⟩
            show (decide ((b, d) ∈ F.ws q'.toNat) && decide (m = F.dep)) = false
            rw [hd, hm]
            rfl
          | true =>
            have e1 : decide (V.int m = V.int F.dep) = true := by
              exact decide_eq_true (by rw [of_decide_eq_true hm])
            rw [e1]
            refine ⟨_, rfl, iteF ?_⟩
            refine ⟨_, rfl, _, _, rfl, rfl, ?_⟩
            refine nx ?_ _ _ _ s5
            show (decide ((b, d) ∈ F.ws q'.toNat) && decide (m = F.dep)) = true
            rw [hd, hm]
            rfl
end
end OH
end
section
set_option Elab.async false
set_option linter.all false
set_option maxRecDepth 100000
set_option maxHeartbeats 4000000
/-! Any values in the place of faces. -/
namespace OH
open PySem PySem.Spec PyProof.Rows L2
inductive A2 {α : Type} (R : V → α → Prop) : List V → List α → Prop where
  | nil : A2 R [] []
  | cons {v : V} {x : α} {vs : List V} {xs : List α} : R v x → A2 R vs xs → A2 R (v :: vs) (x :: xs)
section
variable {α : Type} {R S : V → α → Prop} {vs ws : List V} {xs ys : List α}
theorem A2.len (h : A2 R vs xs) : vs.length = xs.length := by
  induction h with
  | nil => rfl
  | cons _ _ ih => exact congrArg (· + 1) ih
theorem A2.get (h : A2 R vs xs) : ∀ {i : Nat} {v : V}, vs[i]? = some v → ∃ x, xs[i]? = some x ∧ R v x := by
  induction h with
  | nil => intro i p e; cases i <;> cases e
  | cons a _ ih =>
    intro i p e
    cases i with
    | zero => exact ⟨_, rfl, by cases e; exact a⟩
    | succ i => exact ih e
theorem A2.mono (h : A2 R vs xs) (k : ∀ v x, R v x → S v x) : A2 S vs xs := by
  induction h with
  | nil => exact .nil
  | cons a _ ih => exact .cons (k _ _ a) ih
theorem A2.app (h : A2 R vs xs) (g : A2 R ws ys) : A2 R (vs ++ ws) (xs ++ ys) := by
  induction h with
  | nil => exact g
  | cons a _ ih => exact .cons a ih
theorem A2.take_ (h : A2 R vs xs) (i : Nat) : A2 R (vs.take i) (xs.take i) := by
  induction h generalizing i with
  | nil => rw [List.take_nil, List.take_nil]; exact .nil
  | cons a _ ih =>
    cases i with
    | zero => exact .nil
    | succ i => exact .cons a (ih i)
theorem A2.drop_ (h : A2 R vs xs) (i : Nat) : A2 R (vs.drop i) (xs.drop i) := by
  induction h generalizing i with
  | nil => rw [List.drop_nil, List.drop_nil]; exact .nil
  | cons a r ih =>
    cases i with
    | zero => exact .cons a r
    | succ i => exact ih i
end
/-- what is no tuple, for faces -/
def NTp (Z : Addr → Prop) (H : Hp) (v : V) : Prop := v = .non ∨ (∃ i, v = .int i) ∨ (∃ b, v = .bl b) ∨ ∃ p xs, v = .ref p ∧ Z p ∧ H p = some (.lst xs)
inductive P1 where
  | tup (xs : List Ax)
  | oth
inductive W1 where
  | tup (ps : List P1)
  | oth
inductive Wt where
  | tup (ws : List W1)
  | oth
inductive Dt where
  | tup (xs : List Ax)
  | oth
inductive Fa where
  | three (a : Ax) (w : Wt) (d : Dt)
  | tupn
  | oth
def P1At (Z : Addr → Prop) (H : Hp) (v : V) : P1 → Prop
  | .tup xs => ∃ p, v = .ref p ∧ H p = some (.tup (xs.map Ax.v)) ∧ xs.length ≤ 1000
  | .oth => NTp Z H v
def W1At (Z : Addr → Prop) (H : Hp) (v : V) : W1 → Prop
  | .tup ps => ∃ p vs, v = .ref p ∧ H p = some (.tup vs) ∧ A2 (P1At Z H) vs ps ∧ ps.length ≤ 1000
  | .oth => NTp Z H v
def WtAt (Z : Addr → Prop) (H : Hp) (v : V) : Wt → Prop
  | .tup ws => ∃ p vs, v = .ref p ∧ H p = some (.tup vs) ∧ A2 (W1At Z H) vs ws ∧ ws.length ≤ 1000
  | .oth => NTp Z H v
def DtAt (Z : Addr → Prop) (H : Hp) (v : V) : Dt → Prop
  | .tup xs => ∃ p, v = .ref p ∧ H p = some (.tup (xs.map Ax.v)) ∧ xs.length ≤ 1000
  | .oth => NTp Z H v
def FaAt (Z : Addr → Prop) (H : Hp) (v : V) : Fa → Prop
  | .three a w d => ∃ p v1 v2, v = .ref p ∧ H p = some (.tup [a.v, v1, v2]) ∧ WtAt Z H v1 w ∧ DtAt Z H v2 d
  | .tupn => ∃ p vs, v = .ref p ∧ H p = some (.tup vs) ∧ vs.length ≠ 3 ∧ vs.length ≤ 1000
  | .oth => NTp Z H v
section
variable {Z : Addr → Prop} {H H' : Hp} {v : V}
/-- what one heap keeps for the other -/
structure KpZ (Z : Addr → Prop) (H H' : Hp) : Prop where
  t : ∀ q xs, H q = some (.tup xs) → H' q = some (.tup xs)
  l : ∀ q xs, Z q → H q = some (.lst xs) → H' q = some (.lst xs)
theorem KpZ.same (s : Same H H') : KpZ Z H H' := ⟨fun q xs e => s _ _ e, fun q xs _ e => s _ _ e⟩
theorem KpZ.frm {st g c : Addr} {n : Nat} (S : SA H st g c n) (F : Fr st g H H') : KpZ (Zs st g) H H' := ⟨fun q xs e => fr_tup S F _ _ e, fun q xs z e => F _ _ e z.1 z.2⟩
theorem NTp.kp (h : NTp Z H v) (k : KpZ Z H H') : NTp Z H' v := by
  rcases h with h | h | h | ⟨p, xs, e, z, a⟩
  · exact .inl h
  · exact .inr (.inl h)
  · exact .inr (.inr (.inl h))
  · exact .inr (.inr (.inr ⟨p, xs, e, z, k.l _ _ z a⟩))
theorem P1At.kp {x : P1} (h : P1At Z H v x) (k : KpZ Z H H') : P1At Z H' v x := by
  cases x with
  | tup xs => obtain ⟨p, e, a, l⟩ := h; exact ⟨p, e, k.t _ _ a, l⟩
  | oth => exact NTp.kp h k
theorem W1At.kp {x : W1} (h : W1At Z H v x) (k : KpZ Z H H') : W1At Z H' v x := by
  cases x with
  | tup xs => obtain ⟨p, vs, e, a, b, l⟩ := h; exact ⟨p, vs, e, k.t _ _ a, b.mono fun _ _ z => z.kp k, l⟩
  | oth => exact NTp.kp h k
theorem WtAt.kp {x : Wt} (h : WtAt Z H v x) (k : KpZ Z H H') : WtAt Z H' v x := by
  cases x with
  | tup xs => obtain ⟨p, vs, e, a, b, l⟩ := h; exact ⟨p, vs, e, k.t _ _ a, b.mono fun _ _ z => z.kp k, l⟩
  | oth => exact NTp.kp h k
theorem DtAt.kp {x : Dt} (h : DtAt Z H v x) (k : KpZ Z H H') : DtAt Z H' v x := by
  cases x with
  | tup xs => obtain ⟨p, e, a, l⟩ := h; exact ⟨p, e, k.t _ _ a, l⟩
  | oth => exact NTp.kp h k
theorem FaAt.kp {x : Fa} (h : FaAt Z H v x) (k : KpZ Z H H') : FaAt Z H' v x := by
  cases x with
  | three a w d => obtain ⟨p, v1, v2, e, a, b, c⟩ := h; exact ⟨p, v1, v2, e, k.t _ _ a, b.kp k, c.kp k⟩
  | tupn => obtain ⟨p, vs, e, a, l⟩ := h; exact ⟨p, vs, e, k.t _ _ a, l⟩
  | oth => exact NTp.kp h k
theorem NTp.pl (h : NTp Z H v) : PlV H v := by
  rcases h with rfl | ⟨i, rfl⟩ | ⟨b, rfl⟩ | ⟨p, xs, rfl, _, a⟩
  · trivial
  · trivial
  · trivial
  · exact .inr ⟨xs, a⟩
theorem NTp.noT (h : NTp Z H v) (lo hi : Int) : isT H lo hi v = false := by
  rcases h with rfl | ⟨i, rfl⟩ | ⟨b, rfl⟩ | ⟨p, xs, rfl, _, a⟩
  · rfl
  · rfl
  · rfl
  · show (match H p with | some (.tup xs) => _ | _ => false) = false
    rw [a]
theorem isT_at {a : Addr} {xs : List V} {lo hi : Int} (h : H a = some (.tup xs)) : isT H lo hi (.ref a) = (decide (lo ≤ (xs.length : Int)) && decide ((xs.length : Int) ≤ hi)) := by
  show (match H a with | some (.tup xs) => decide (lo ≤ (xs.length : Int)) && decide ((xs.length : Int) ≤ hi) | _ => false) = _
  rw [h]
theorem Ax.pl (H : Hp) (a : Ax) : PlV H a.v := by
  cases a <;> trivial
end
def axW (lo hi : Int) : Ax → Bool
  | .n i => decide (lo ≤ i) && decide (i ≤ hi)
  | _ => false
theorem isW_ax (lo hi : Int) (a : Ax) : isW lo hi a.v = axW lo hi a := by
  cases a <;> rfl
/-- whether a pair is a wire; ds: the counts of doors -/
def okP (own : Int) (ds : List Int) : P1 → Bool
  | .tup [.n a, .n b] => decide (0 ≤ a) && decide (a ≤ (ds.length : Int) - 1) && !decide (a = own) && (decide (0 ≤ b) && decide (b ≤ ds.getD a.toNat 0 - 1))
  | _ => false
def p1w : P1 → Int × Int
  | .tup [.n a, .n b] => (a, b)
  | _ => (0, 0)
def okW (own : Int) (ds : List Int) : W1 → Bool
  | .tup ps => decide (ps.length ≤ 8) && ps.all (okP own ds) && decide (ps.map p1w).Nodup
  | .oth => false
theorem okP_of {own : Int} {ds : List Int} {p : P1} (h : okP own ds p = true) : ∃ a b : Int, p = .tup [.n a, .n b] ∧ 0 ≤ a ∧ a < (ds.length : Int) ∧ a ≠ own ∧ 0 ≤ b ∧ b < ds.getD a.toNat 0 := by
  match p, h with
  | .tup [.n a, .n b], h =>
    have h' : (decide (0 ≤ a) && decide (a ≤ (ds.length : Int) - 1) && !decide (a = own) && (decide (0 ≤ b) && decide (b ≤ ds.getD a.toNat 0 - 1))) = true := h
    simp only [Bool.and_eq_true, decide_eq_true_eq, Bool.not_eq_true', decide_eq_false_iff_not] at h'
    exact ⟨a, b, rfl, h'.1.1.1, by omega, h'.1.2, h'.2.1, by omega⟩
theorem A2.pairs {Z : Addr → Prop} {H : Hp} {own : Int} {ds : List Int} : ∀ {ps : List P1} {vs : List V}, A2 (P1At Z H) vs ps → ps.all (okP own ds) = true → ∃ qs : List Addr, vs = qs.map V.ref ∧ PairsAt H qs (ps.map p1w)
  | [], _, h, _ => by
    cases h
    exact ⟨[], rfl, .nil⟩
  | p :: ps, _, h, g => by
    cases h with
    | cons a b =>
      rw [List.all_cons, Bool.and_eq_true] at g
      obtain ⟨qs, rfl, h2⟩ := A2.pairs b g.2
      obtain ⟨x, y, rfl, _⟩ := okP_of g.1
      obtain ⟨q, rfl, hq, _⟩ := a
      exact ⟨q :: qs, rfl, .cons hq h2⟩
def spWiresX : Sp := fun vs H Q _ => ∃ (Z : Addr → Prop) (v : V) (dl : Addr) (own : Int) (w : W1) (ds : List Int), vs = [v, .int own, .ref dl] ∧ W1At Z H v w ∧ H dl = some (.tup (ds.map V.int)) ∧ ds.length ≤ 1000 ∧ Q (.bl (okW own ds w)) H
section
variable {P : Program} {w : World} {K : PySem.W.Frag} {mg : Str → Option Value} {base : Heap}
theorem ok_are_wiresX {f : Addr} {fd : FuncData} (F : Fun K "are_wires" "are_wires" s_are_wires f fd) (T : Txt K mg) (T3 : Txt3 mg)
    (DT : DefF P w K mg base CX0 1 "is_tuple" ["value", "least", "most"] spTuple) (DW : DefF P w K mg base CX0 1 "is_whole" ["value", "low", "high"] spWhole) (DU : DefF P w K mg base CX0 1 "all_unlike" ["things"] spUnlike) :
    FnOk P w K mg base CX0 2 f fd ["value", "own", "doors"] spWiresX := by
  refine F.ok sc_are_wires (fun vs H Q E h => ?_) (fun cdv A outer s H vs Q E hr h => ?_)
  · obtain ⟨Z, v, dl, own, w, ds, rfl, _⟩ := h
    rfl
  · obtain ⟨Z, v, dl, own, w, ds, rfl, hv, hd, hl, k⟩ := h
    have nd := sc_are_wires.nd
    obtain ⟨t8, g8⟩ := T3.gImp
    refine ⟨_, pss_cons (ps_if (pt_not (pt_val (pe_cD DT hr rfl pass0 (pa_cons (pv 0) (pa_cons pe_int (pa_cons (pe_glob (v := .int 8) rfl g8 ⟨t8, rfl⟩) pa_nil)))))) (pss_one (ps_ret pe_bl)) pss_nil)
      (pss_cons (ps_for PassesOwn.never rfl (pi_tup (pv 0)) (pg_name (i := 3) nd rfl (Or.inl rfl))
        (pss_cons (ps_if (PW.pt (pw_or (pt_not (pt_val (pe_cD DT hr rfl pass0 (pa_cons (pv 3) (pa_cons pe_int (pa_cons pe_int pa_nil))))))
          (pw_or (pt_not (pt_val (pe_cD DW hr rfl pass0 (pa_cons (pe_ix ix_tup (pv 3) pe_int (fun _ _ => rfl)) (pa_cons pe_int (pa_cons (pe_op op_sub (pe_callB call_len_seq (by rfl) T.nLen PySem.boot_len (pa_cons (pv 2) pa_nil)) pe_int) pa_nil))))))
          (pw_or1 (pt_cmpR op_eq (pe_ix ix_tup (pv 3) pe_int (fun _ _ => rfl)) (pv 1) (nomark _)))))) (pss_one (ps_ret pe_bl)) pss_nil)
        (pss_one (ps_if (pt_not (pt_val (pe_cD DW hr rfl pass0 (pa_cons (pe_ix ix_tup (pv 3) pe_int (fun _ _ => rfl)) (pa_cons pe_int (pa_cons (pe_op op_sub (pe_ix ix_tup (pv 2) (pe_ix ix_tup (pv 3) pe_int (fun _ _ => rfl)) (fun _ _ => rfl)) pe_int) pa_nil)))))) (pss_one (ps_ret pe_bl)) pss_nil))))
      (pss_one (ps_ret (pe_cD DU hr rfl pass0 (pa_cons (pv 0) pa_nil))))), ?_⟩
    cases w with
    | oth =>
      have hv' : NTp Z H v := hv
      refine ⟨_, rfl, v, 0, 8, rfl, hv'.pl, _, rfl, ?_⟩
      rw [hv'.noT]
      exact iteT k
    | tup ps =>
    obtain ⟨a, vs, rfl, ha, hp, hn⟩ := hv
    have lp := hp.len
    refine ⟨_, rfl, .ref a, 0, 8, rfl, .inl ⟨_, ha⟩, _, rfl, ?_⟩
    rw [isT_at ha, decide_eq_true (by omega : (0 : Int) ≤ (vs.length : Int)), Bool.true_and]
    cases h8 : decide ((vs.length : Int) ≤ 8) with
    | false =>
      refine iteT ?_
      have e : okW own ds (.tup ps) = false := by
        show (decide (ps.length ≤ 8) && _ && _) = false
        rw [decide_eq_false (by have := of_decide_eq_false h8; omega), Bool.false_and, Bool.false_and]
      rw [e] at k
      exact k
    | true =>
    refine iteF ?_
    have h8' : ps.length ≤ 8 := by have := of_decide_eq_true h8; omega
    refine ⟨_, rfl, a, rfl, ⟨_, SqT.of ha⟩, ?_⟩
    refine for_tup (xs := vs) (fun i σ H' => ∃ o : Option V, σ = [some (.ref a), some (.int own), some (.ref dl), o] ∧ H' = H ∧ (ps.take i).all (okP own ds) = true) ⟨none, rfl, rfl, rfl⟩ ?_ ?_ ?_
    · rintro i σ H' _ ⟨o, rfl, rfl, _⟩
      exact SqT.of ha
    · rintro i x σ H' hx ⟨o, rfl, rfl, hal⟩
      obtain ⟨pr, hpr, hxp⟩ := hp.get hx
      have bad : okP own ds pr = false → Q (.bl false) H' := fun e => by
        have e2 : okW own ds (.tup ps) = false := by
          show (decide (ps.length ≤ 8) && ps.all (okP own ds) && _) = false
          have : ps.all (okP own ds) = false := List.all_eq_false.mpr ⟨pr, List.mem_of_getElem? hpr, by rw [e]; exact Bool.false_ne_true⟩
          rw [this, Bool.and_false, Bool.false_and]
        rw [e2] at k
        exact k
      have good : okP own ds pr = true → (ps.take (i + 1)).all (okP own ds) = true := fun e => by
        rw [List.take_add_one, hpr, List.all_append, hal]
        show (true && (okP own ds pr && true)) = true
        rw [e]
        rfl
      cases pr with
      | oth =>
        have hx' : NTp Z H' x := hxp
        refine ⟨_, rfl, x, 2, 2, rfl, hx'.pl, _, rfl, ?_⟩
        rw [hx'.noT]
        exact iteT (bad rfl)
      | tup xs =>
      obtain ⟨p, rfl, hpp, _⟩ := hxp
      refine ⟨_, rfl, .ref p, 2, 2, rfl, .inl ⟨_, hpp⟩, _, rfl, ?_⟩
      rw [isT_at hpp, List.length_map]
      by_cases l2 : xs.length = 2
      case neg =>
        have e : (decide ((2 : Int) ≤ (xs.length : Int)) && decide ((xs.length : Int) ≤ 2)) = false := by
          by_cases z : (2 : Int) ≤ (xs.length : Int)
          · rw [decide_eq_false (by omega : ¬ (xs.length : Int) ≤ 2), Bool.and_false]
          · rw [decide_eq_false z, Bool.false_and]
        rw [e]
        refine iteT (bad ?_)
        match xs, l2 with
        | [], _ => rfl
        | [.n _], _ => rfl
        | [.t], _ => rfl
        | [.o], _ => rfl
        | [.s _], _ => rfl
        | [_, _], l2 => exact absurd rfl l2
        | .n _ :: .n _ :: _ :: _, _ => rfl
        | .n _ :: .t :: _ :: _, _ => rfl
        | .n _ :: .o :: _ :: _, _ => rfl
        | .n _ :: .s _ :: _ :: _, _ => rfl
        | .t :: _ :: _ :: _, _ => rfl
        | .o :: _ :: _ :: _, _ => rfl
        | .s _ :: _ :: _ :: _, _ => rfl
      case pos =>
      have e : (decide ((2 : Int) ≤ (xs.length : Int)) && decide ((xs.length : Int) ≤ 2)) = true := by
        rw [l2]
        rfl
      rw [e]
      refine iteF ?_
      match xs, l2, hpp, bad, good with
      | [x1, x2], _, hpp, bad, good =>
      have hpp' : H' p = some (.tup [x1.v, x2.v]) := hpp
      refine ⟨_, rfl, p, _, 0, _, rfl, rfl, SqT.of hpp', rfl, _, rfl, dl, _, rfl, .inr (SqT.of hd), _, _, rfl, rfl, ?_⟩
      refine ⟨x1.v, 0, _, rfl, x1.pl H', _, rfl, ?_⟩
      rw [List.length_map, isW_ax]
      cases x1 with
      | t => exact iteT (bad rfl)
      | o => exact iteT (bad rfl)
      | s x => exact iteT (bad rfl)
      | n a1 =>
      show (if _ then _ else _)
      cases h1 : axW 0 ((ds.length : Int) - 1) (.n a1) with
      | false =>
        refine iteT (bad ?_)
        cases x2 with
        | n b1 =>
          show (axW 0 ((ds.length : Int) - 1) (.n a1) && _ && _) = false
          rw [h1, Bool.false_and, Bool.false_and]
        | _ => rfl
      | true =>
      refine iteF ?_
      have h1' : (decide (0 ≤ a1) && decide (a1 ≤ (ds.length : Int) - 1)) = true := h1
      rw [Bool.and_eq_true, decide_eq_true_eq, decide_eq_true_eq] at h1'
      refine ⟨_, rfl, p, _, 0, _, rfl, rfl, SqT.of hpp', rfl, _, rfl, rfl, _, rfl, ?_⟩
      refine ite2 (fun z => bad ?_) (fun z => ?_)
      · have z' : a1 = own := V.int.inj (of_decide_eq_true z)
        cases x2 with
        | n b1 =>
          show (_ && !decide (a1 = own) && _) = false
          rw [decide_eq_true z']
          simp
        | _ => rfl
      have z' : ¬ a1 = own := fun e => z (decide_eq_true (by rw [e]; rfl))
      have hi : a1.toNat < ds.length := by omega
      have cast : (a1.toNat : Int) = a1 := Int.toNat_of_nonneg h1'.1
      obtain ⟨y, hy⟩ : ∃ y, ds[a1.toNat]? = some y := ⟨_, List.getElem?_eq_getElem hi⟩
      have gy : ds.getD a1.toNat 0 = y := by rw [List.getD_eq_getElem?_getD, hy]; rfl
      have at1 : atI (ds.map V.int) a1 = some (.int y) := by
        rw [← cast]
        exact atI_nat (by rw [List.getElem?_map, hy]; rfl)
      refine ⟨_, rfl, p, _, 1, _, rfl, rfl, SqT.of hpp', rfl, _, rfl, _, rfl, p, _, 0, _, rfl, rfl, SqT.of hpp', rfl, dl, _, a1, _, rfl, rfl, SqT.of hd, at1, _, _, rfl, rfl, ?_⟩
      refine ⟨x2.v, 0, _, rfl, x2.pl H', _, rfl, ?_⟩
      rw [isW_ax]
      cases x2 with
      | t => exact iteT (bad rfl)
      | o => exact iteT (bad rfl)
      | s x => exact iteT (bad rfl)
      | n b1 =>
      have ew : okP own ds (.tup [.n a1, .n b1]) = axW 0 (y - 1) (.n b1) := by
        show (decide (0 ≤ a1) && decide (a1 ≤ (ds.length : Int) - 1) && !decide (a1 = own) && (decide (0 ≤ b1) && decide (b1 ≤ ds.getD a1.toNat 0 - 1))) = _
        rw [gy, decide_eq_true h1'.1, decide_eq_true h1'.2, decide_eq_false z']
        rfl
      cases h2 : axW 0 (y - 1) (.n b1) with
      | false => exact iteT (bad (by rw [ew, h2]))
      | true => exact iteF ⟨_, rfl, rfl, good (by rw [ew, h2])⟩
    · rintro σ H' ⟨o, rfl, rfl, hal⟩
      rw [lp, List.take_length] at hal
      obtain ⟨qs, rfl, hps⟩ := hp.pairs hal
      refine ⟨_, rfl, a, qs, _, rfl, ha, hps, by rw [List.length_map]; omega, ?_⟩
      have e2 : okW own ds (.tup ps) = decide (ps.map p1w).Nodup := by
        show (decide (ps.length ≤ 8) && ps.all (okP own ds) && _) = _
        rw [decide_eq_true h8', hal]
        rfl
      rw [← e2]
      exact k
end
end OH
end
section
set_option Elab.async false
set_option linter.all false
set_option maxRecDepth 100000
set_option maxHeartbeats 8000000
/-! Faces judged; what fits. -/
namespace OH
open PySem PySem.Spec PyProof.Rows L2
def axI : Ax → Int
  | .n z => z
  | _ => 0
def wiB (ds : List Int) (ws : List W1) : Bool := ((List.range ws.length).map fun r : Nat => okW (r : Int) ds (ws.getD r .oth)).all id
def goodFa : Fa → Bool
  | .three a (.tup ws) (.tup ds) => axW 1 60 a && (decide (1 ≤ ds.length) && decide (ds.length ≤ 6)) && decide (ws.length = ds.length) && (ds.map (axW 1 6)).all id && wiB (ds.map axI) ws
  | _ => false
theorem ax_ints : ∀ {ds : List Ax} {lo hi : Int}, (ds.map (axW lo hi)).all id = true → ds.map Ax.v = (ds.map axI).map V.int ∧ ∀ z ∈ ds.map axI, lo ≤ z ∧ z ≤ hi
  | [], _, _, _ => ⟨rfl, fun _ h => absurd h List.not_mem_nil⟩
  | a :: ds, lo, hi, h => by
    rw [List.map_cons, List.all_cons, Bool.and_eq_true] at h
    obtain ⟨e, g⟩ := ax_ints (ds := ds) h.2
    cases a with
    | n z =>
      have hz : (decide (lo ≤ z) && decide (z ≤ hi)) = true := h.1
      rw [Bool.and_eq_true, decide_eq_true_eq, decide_eq_true_eq] at hz
      refine ⟨by rw [List.map_cons, List.map_cons, List.map_cons, e]; rfl, fun y hy => ?_⟩
      rcases List.mem_cons.mp hy with hy | hy
      · rw [hy]; exact hz
      · exact g y hy
    | _ => exact absurd h.1 Bool.false_ne_true
/-- the face that a good value is -/
def faF : Fa → Fc
  | .three a (.tup ws) (.tup ds) => ⟨axI a, ws.map fun w => match w with | .tup ps => ps.map p1w | .oth => [], ds.map axI⟩
  | _ => ⟨0, [], []⟩
theorem goodFa_at {Z : Addr → Prop} {H : Hp} {v : V} {x : Fa} (h : FaAt Z H v x) (g : goodFa x = true) : ∃ a, v = .ref a ∧ FcAt H a (faF x) := by
  match x, h, g with
  | .three a (.tup ws) (.tup ds), h, g =>
    obtain ⟨p, v1, v2, e, hp, ⟨wt, wvs, e1, hwt, hws, _⟩, ⟨dt, e2, hdt, _⟩⟩ := h
    subst e1 e2
    have g' : (axW 1 60 a && (decide (1 ≤ ds.length) && decide (ds.length ≤ 6)) && decide (ws.length = ds.length) && (ds.map (axW 1 6)).all id && wiB (ds.map axI) ws) = true := g
    simp only [Bool.and_eq_true, decide_eq_true_eq] at g'
    obtain ⟨⟨⟨⟨ga, g1, g6⟩, gl⟩, gd⟩, gw⟩ := g'
    obtain ⟨ed, hd⟩ := ax_ints gd
    obtain ⟨z, rfl, z0, z1⟩ : ∃ z, a = .n z ∧ 1 ≤ z ∧ z ≤ 60 := by
      cases a with
      | n z =>
        have hz : (decide (1 ≤ z) && decide (z ≤ 60)) = true := ga
        rw [Bool.and_eq_true, decide_eq_true_eq, decide_eq_true_eq] at hz
        exact ⟨z, rfl, hz.1, hz.2⟩
      | _ => cases ga
    have each : ∀ (r : Nat) (w : W1), ws[r]? = some w → ∃ ps, w = .tup ps ∧ ps.length ≤ 8 ∧ ps.all (okP (r : Int) (ds.map axI)) = true ∧ (ps.map p1w).Nodup := fun r w hr => by
      have hr' : r < ws.length := (List.getElem?_eq_some_iff.mp hr).1
      have h1 := List.all_eq_true.mp gw _ (List.mem_map.mpr ⟨r, List.mem_range.mpr hr', rfl⟩)
      rw [List.getD_eq_getElem?_getD, hr] at h1
      cases w with
      | oth => cases h1
      | tup ps =>
        have h2 : (decide (ps.length ≤ 8) && ps.all (okP (r : Int) (ds.map axI)) && decide (ps.map p1w).Nodup) = true := h1
        simp only [Bool.and_eq_true, decide_eq_true_eq] at h2
        exact ⟨ps, rfl, h2.1.1, h2.1.2, h2.2⟩
    -- the wires of each room
    obtain ⟨wps, ewv⟩ : ∃ wps : List Addr, wvs = wps.map V.ref := by
      have : ∀ y ∈ wvs, ∃ q, y = V.ref q := fun y hy => by
        obtain ⟨r, hr⟩ := List.getElem?_of_mem hy
        obtain ⟨w, hw, hwy⟩ := hws.get hr
        obtain ⟨ps, rfl, _⟩ := each r w hw
        obtain ⟨q, _, e, _⟩ := hwy
        exact ⟨q, e⟩
      clear hwt hws
      induction wvs with
      | nil => exact ⟨[], rfl⟩
      | cons y ys ih =>
        obtain ⟨q, rfl⟩ := this y List.mem_cons_self
        obtain ⟨qs, rfl⟩ := ih fun u hu => this u (List.mem_cons_of_mem _ hu)
        exact ⟨q :: qs, rfl⟩
    subst ewv
    have lw := hws.len
    rw [List.length_map] at lw
    have wsi : ∀ i : Nat, (faF (.three (.n z) (.tup ws) (.tup ds))).ws i = match ws[i]? with | some (.tup ps) => ps.map p1w | _ => [] := fun i => by
      show (ws.map _).getD i [] = _
      rw [List.getD_eq_getElem?_getD, List.getElem?_map]
      cases e : ws[i]? with
      | none => rfl
      | some w => cases w <;> rfl
    have lR : (faF (.three (.n z) (.tup ws) (.tup ds))).R = ds.length := List.length_map ..
    refine ⟨p, e, ⟨wt, dt, wps, hp, hwt, by rw [ed] at hdt; exact hdt, by rw [lR]; omega, fun i q hq => ?_⟩, ?_⟩
    · obtain ⟨w, hw, hwy⟩ := hws.get (i := i) (v := .ref q) (by rw [List.getElem?_map, hq]; rfl)
      obtain ⟨ps, rfl, _, hall, _⟩ := each i w hw
      obtain ⟨q', vs, e1, hq', h2, _⟩ := hwy
      cases e1
      obtain ⟨qs, rfl, h3⟩ := h2.pairs hall
      rw [wsi, hw]
      exact ⟨qs, hq', h3⟩
    · refine ⟨z0, z1, ?_, by rw [lR]; exact g1, by rw [lR]; exact g6, hd, fun i hi => ?_⟩
      · rw [lR]
        show (ws.map _).length = _
        rw [List.length_map, gl]
      · rw [lR] at hi
        obtain ⟨w, hw⟩ : ∃ w, ws[i]? = some w := ⟨_, List.getElem?_eq_getElem (by omega)⟩
        obtain ⟨ps, rfl, h8, hall, hnd⟩ := each i w hw
        rw [wsi, hw]
        refine ⟨by rw [List.length_map]; exact h8, hnd, fun y hy => ?_⟩
        obtain ⟨pr, hpr, rfl⟩ := List.mem_map.mp hy
        obtain ⟨a, b, rfl, k1, k2, k3, k4, k5⟩ := okP_of (List.all_eq_true.mp hall pr hpr)
        exact ⟨k1, k2, k3, k4, k5⟩
def spGoodFX : Sp := fun vs H Q _ => ∃ (Z : Addr → Prop) (v : V) (x : Fa), vs = [v] ∧ FaAt Z H v x ∧ ∀ H', Same H H' → Q (.bl (goodFa x)) H'
def spNeedFX (CB : Addr) : Sp := fun vs H Q E => ∃ (Z : Addr → Prop) (v : V) (x : Fa), vs = [v] ∧ FaAt Z H v x ∧ (goodFa x = true → ∀ H', Same H H' → Q .non H') ∧ (goodFa x = false → ∀ H', Same H H' → E (.ref CB) none H')
def spFitsX (CR CF : Addr) : Sp := fun vs H Q E => ∃ (Z : Addr → Prop) (v u : V) (r : Rt) (x : Fa), vs = [v, u] ∧ RtAt Z H v r ∧ FaAt Z H u x ∧ (goodRt r = false → ∀ H', Same H H' → E (.ref CR) none H') ∧ (goodRt r = true → goodFa x = false → ∀ H', Same H H' → E (.ref CF) none H') ∧
  (∀ cs : List Crs, r = .seq (cs.map Crs.ci) → goodB cs = true → goodFa x = true → ∀ H', Same H H' → Q (.bl (fitGo (faF x) 0 cs)) H')
section
variable {P : Program} {w : World} {K : PySem.W.Frag} {mg : Str → Option Value} {base : Heap} {CR CF fN fM : Addr} {fdN fdM : FuncData}
theorem ok_good_faceX {f : Addr} {fd : FuncData} (F : Fun K "good_face" "good_face" s_good_face f fd) (T : Txt K mg) (T3 : Txt3 mg) (gD : ∃ t, mg "MOST_DOORS" = some (.int 6 t)) (nEnum : mg "enumerate" = none)
    (DT : DefF P w K mg base CX0 3 "is_tuple" ["value", "least", "most"] spTuple) (DW : DefF P w K mg base CX0 3 "is_whole" ["value", "low", "high"] spWhole) (DA : DefF P w K mg base CX0 3 "are_wires" ["value", "own", "doors"] spWiresX) :
    FnOk P w K mg base CX0 4 f fd ["value"] spGoodFX := by
  refine F.ok sc_good_face (fun vs H Q E h => ?_) (fun cdv A outer s H vs Q E hr h => ?_)
  · obtain ⟨Z, v, x, rfl, _⟩ := h
    rfl
  · obtain ⟨Z, v, x, rfl, hb, k⟩ := h
    have nd := sc_good_face.nd
    obtain ⟨t60, g60⟩ := T3.gOpen
    obtain ⟨t6, g6⟩ := T3.gRooms
    obtain ⟨tD, gD⟩ := gD
    refine ⟨_, pss_cons (ps_if (PW.pt (pw_or (pt_not (pt_val (pe_cD DT hr rfl pass0 (pa_cons (pv 0) (pa_cons pe_int (pa_cons pe_int pa_nil)))))) (pw_or1 (pt_not (pt_val (pe_cD DW hr rfl pass0 (pa_cons (pe_ix ix_tup (pv 0) pe_int (fun _ _ => rfl)) (pa_cons pe_int (pa_cons (pe_glob (v := .int 60) rfl g60 ⟨t60, rfl⟩) pa_nil))))))))) (pss_one (ps_ret pe_bl)) pss_nil)
      (pss_cons (ps_asg (pe_tup (pa_cons (pe_ix ix_tup (pv 0) pe_int (fun _ _ => rfl)) (pa_cons (pe_ix ix_tup (pv 0) pe_int (fun _ _ => rfl)) pa_nil))) (pg_tup (by rfl) (pgs_cons (pg_name (i := 1) nd rfl (Or.inl rfl)) (pgs_cons (pg_name (i := 2) nd rfl (Or.inr rfl)) pgs_nil))))
      (pss_cons (ps_if (PW.pt (pw_or (pt_not (pt_val (pe_cD DT hr rfl pass0 (pa_cons (pv 2) (pa_cons pe_int (pa_cons (pe_glob (v := .int 6) rfl g6 ⟨t6, rfl⟩) pa_nil)))))) (pw_or1 (pt_not (pt_val (pe_cD DT hr rfl pass0 (pa_cons (pv 1) (pa_cons (pe_callB call_len_seq (by rfl) T.nLen PySem.boot_len (pa_cons (pv 2) pa_nil)) (pa_cons (pe_callB call_len_seq (by rfl) T.nLen PySem.boot_len (pa_cons (pv 2) pa_nil)) pa_nil))))))))) (pss_one (ps_ret pe_bl)) pss_nil)
      (pss_cons (ps_if (pt_not (pt_val (pe_callB (cr_all rfl) (by rfl) T.nAll (by decide +kernel) (pa_cons (pe_lc (own := [("many", 3)]) (g := gName 3) (tt := tYes)  rfl nd (pi_tup (pv 2)) (blkOk_by (own := [("many", 3)]) (N := nGF) (sc := defScope s_good_face) (by decide +kernel)) (fun _ _ _ _ _ => (pg_name (i := 3) nd rfl (Or.inl rfl))) (fun _ _ _ _ _ => pts_nil) (fun _ _ _ _ _ => (pe_cD DW hr rfl pass0 (pa_cons (pv 3) (pa_cons pe_int (pa_cons (pe_glob (v := .int 6) rfl gD ⟨tD, rfl⟩) pa_nil)))))) pa_nil)))) (pss_one (ps_ret pe_bl)) pss_nil)
      (pss_one (ps_ret (pe_callB (cr_all rfl) (by rfl) T.nAll (by decide +kernel) (pa_cons (pe_lc (own := [("room", 4), ("one", 5)]) (g := gTup K 2 (gCons (gName 4) (gCons (gName 5) gNil))) (tt := tYes) rfl nd (pi_enumT rfl nEnum (pa_cons (pv 1) pa_nil)) (blkOk_by (own := [("room", 4), ("one", 5)]) (N := nGF) (sc := defScope s_good_face) (by decide +kernel)) (fun _ _ _ _ _ => pg_tup rfl (pgs_cons (pg_name (i := 4) nd rfl (Or.inl rfl)) (pgs_cons (pg_name (i := 5) nd rfl (Or.inl rfl)) pgs_nil))) (fun _ _ _ _ _ => pts_nil) (fun _ _ _ _ _ => (pe_cD DA hr rfl pass0 (pa_cons (pv 5) (pa_cons (pv 4) (pa_cons (pv 2) pa_nil)))))) pa_nil))))))), ?_⟩
    cases x with
    | oth =>
      have hv' : NTp Z H v := hb
      refine ⟨_, rfl, v, 3, 3, rfl, hv'.pl, _, rfl, ?_⟩
      rw [hv'.noT]
      exact iteT (k H (Same.refl H))
    | tupn =>
      obtain ⟨a, vs, rfl, ha, n3, _⟩ := hb
      refine ⟨_, rfl, .ref a, 3, 3, rfl, .inl ⟨_, ha⟩, _, rfl, ?_⟩
      have e : (decide ((3 : Int) ≤ (vs.length : Int)) && decide ((vs.length : Int) ≤ 3)) = false := by
        by_cases z : (3 : Int) ≤ (vs.length : Int)
        · rw [decide_eq_false (by omega : ¬ (vs.length : Int) ≤ 3), Bool.and_false]
        · rw [decide_eq_false z, Bool.false_and]
      rw [isT_at ha, e]
      exact iteT (k H (Same.refl H))
    | three d0 wx dx =>
    obtain ⟨a, v1, v2, rfl, b1, hw, hd⟩ := hb
    have k0 : goodFa (.three d0 wx dx) = false → ∀ H', Same H H' → Q (.bl false) H' := fun e H' s => by
      have := k H' s
      rwa [e] at this
    refine ⟨_, rfl, .ref a, 3, 3, rfl, .inl ⟨_, b1⟩, _, rfl, ?_⟩
    rw [isT_of b1 (Int.le_refl 3) (Int.le_refl 3)]
    refine iteF ?_
    refine ⟨_, rfl, a, _, 0, _, rfl, rfl, SqT.of b1, rfl, ?_⟩
    refine ⟨d0.v, 1, 60, rfl, d0.pl H, _, rfl, ?_⟩
    rw [isW_ax]
    cases h0 : axW 1 60 d0 with
    | false =>
      refine iteT (k0 ?_ H (Same.refl H))
      match wx, dx with
      | .tup ws, .tup ds =>
        show (axW 1 60 d0 && _ && _ && _ && _) = false
        rw [h0]
        rfl
      | .oth, _ => rfl
      | .tup _, .oth => rfl
    | true =>
    refine iteF ?_
    refine ⟨_, rfl, a, _, 1, _, rfl, rfl, SqT.of b1, rfl, _, rfl, a, _, 2, _, rfl, rfl, SqT.of b1, rfl, (by show 2 ≤ sizeLine; decide), fun t0 n0 => ?_⟩
    have s0 := sadd (o := .tup [v1, v2]) (Same.refl H) n0
    have h0t : upd H t0 (.tup [v1, v2]) t0 = some (.tup [v1, v2]) := upd_same
    have hw0 := hw.kp (KpZ.same s0)
    have hd0 := hd.kp (KpZ.same s0)
    generalize upd H t0 (.tup [v1, v2]) = H0 at s0 h0t hw0 hd0 ⊢
    refine ⟨t0, _, rfl, SqT.of h0t, rfl, _, _, rfl, _, _, rfl, rfl, ?_⟩
    cases dx with
    | oth =>
      have hd' : NTp Z H0 v2 := hd0
      refine ⟨_, rfl, v2, 1, 6, rfl, hd'.pl, _, rfl, ?_⟩
      rw [hd'.noT]
      refine iteT (k0 ?_ H0 s0)
      cases wx <;> rfl
    | tup ds =>
    obtain ⟨dt, rfl, c3, _⟩ := hd0
    refine ⟨_, rfl, .ref dt, 1, 6, rfl, .inl ⟨_, c3⟩, _, rfl, ?_⟩
    rw [isT_at c3, List.length_map]
    have e16 : (decide ((1 : Int) ≤ (ds.length : Int)) && decide ((ds.length : Int) ≤ 6)) = (decide (1 ≤ ds.length) && decide (ds.length ≤ 6)) := by
      congr 1
      · exact decide_eq_decide.mpr (by omega)
      · exact decide_eq_decide.mpr (by omega)
    rw [e16]
    cases h16 : (decide (1 ≤ ds.length) && decide (ds.length ≤ 6)) with
    | false =>
      refine iteT (k0 ?_ H0 s0)
      match wx with
      | .tup ws =>
        show (axW 1 60 d0 && _ && _ && _ && _) = false
        rw [h16, Bool.and_false, Bool.false_and, Bool.false_and, Bool.false_and]
      | .oth => rfl
    | true =>
    refine iteF ?_
    have h16' := h16
    rw [Bool.and_eq_true, decide_eq_true_eq, decide_eq_true_eq] at h16'
    refine ⟨_, rfl, _, rfl, dt, _, rfl, .inr (SqT.of c3), _, rfl, dt, _, rfl, .inr (SqT.of c3), ?_⟩
    cases wx with
    | oth =>
      have hw' : NTp Z H0 v1 := hw0
      refine ⟨v1, _, _, rfl, hw'.pl, _, rfl, ?_⟩
      rw [hw'.noT]
      exact iteT (k0 rfl H0 s0)
    | tup ws =>
    obtain ⟨wt, wvs, rfl, c2, hws, _⟩ := hw0
    have lwp := hws.len
    refine ⟨.ref wt, _, _, rfl, .inl ⟨_, c2⟩, _, rfl, ?_⟩
    rw [isT_at c2, List.length_map, lwp]
    have ell : (decide ((ds.length : Int) ≤ (ws.length : Int)) && decide ((ws.length : Int) ≤ (ds.length : Int))) = decide (ws.length = ds.length) := by
      by_cases z : ws.length = ds.length
      · rw [decide_eq_true z, decide_eq_true (by omega), decide_eq_true (by omega)]
        rfl
      · rw [decide_eq_false z]
        by_cases z2 : (ds.length : Int) ≤ (ws.length : Int)
        · rw [decide_eq_false (by omega : ¬ (ws.length : Int) ≤ (ds.length : Int)), Bool.and_false]
        · rw [decide_eq_false z2, Bool.false_and]
    rw [ell]
    cases hll : decide (ws.length = ds.length) with
    | false =>
      refine iteT (k0 ?_ H0 s0)
      show (_ && decide (ws.length = ds.length) && _ && _) = false
      rw [hll, Bool.and_false, Bool.false_and, Bool.false_and]
    | true =>
    refine iteF ?_
    have hll' := of_decide_eq_true hll
    -- the doors
    refine ⟨_, rfl, dt, rfl, ⟨_, SqT.of c3⟩, fun D nD => ?_⟩
    refine lc_tup (K := K) (a := dt) (xs := ds.map Ax.v) (fun i H' => Same H0 H' ∧ H' D = some (.lst (((ds.take i).map (axW 1 6)).map V.bl))) ⟨sadd (Same.refl H0) nD, upd_same⟩ (fun i H' _ ⟨s, _⟩ => SqT.of (s _ _ c3)) ?turn ?done
    case turn =>
      rintro i x H4 hx ⟨s4, hD⟩
      rw [List.getElem?_map] at hx
      obtain ⟨z, hz0, rfl⟩ := Option.map_eq_some_iff.mp hx
      have hi : i < ds.length := (List.getElem?_eq_some_iff.mp hz0).1
      refine ⟨rfl, ?_⟩
      unfold tYes
      refine iteT ?_
      refine ⟨_, rfl, z.v, 1, 6, rfl, z.pl H4, ?_⟩
      rw [isW_ax]
      refine ⟨_, hD, ?_, sout s4 nD, ?_⟩
      · rw [List.length_map, List.length_map, List.length_take, sizeLine_eq]
        omega
      · rw [upd_same, List.take_add_one, hz0, List.map_append, List.map_append]
        rfl
    case done =>
      rintro H4 ⟨s4, hD⟩
      rw [List.length_map, List.take_length] at hD
      refine ⟨D, _, rfl, SqL.of hD, ?_⟩
      cases had : (ds.map (axW 1 6)).all id with
      | false =>
        refine ⟨_, rfl, iteT (k0 ?_ H4 (s0.trans s4))⟩
        show (_ && (ds.map (axW 1 6)).all id && _) = false
        rw [had, Bool.and_false, Bool.false_and]
      | true =>
      refine ⟨_, rfl, iteF ?_⟩
      have e2 := s4 _ _ c2
      have e3 := s4 _ _ c3
      have hws4 := hws.mono fun v x (z : W1At Z H0 v x) => z.kp (KpZ.same s4)
      rw [(ax_ints had).1] at e3
      have sH := s0.trans s4
      refine ⟨_, rfl, wt, _, rfl, SqT.of e2, fun D2 nD2 => ?_⟩
      refine lc_it walk_enumT (fun i H' => Same H4 H' ∧ H' D2 = some (.lst (((List.range i).map fun r : Nat => okW (r : Int) (ds.map axI) (ws.getD r .oth)).map V.bl))) ⟨sadd (Same.refl H4) nD2, upd_same⟩ (fun i H' _ ⟨s, _⟩ => SqT.of (s _ _ e2)) ?hs ?hd
      case hs =>
        rintro i x H5 H6 hi ⟨s5, hD5⟩ ⟨tp, x0, y0, rfl, ntp, rfl, ex, ey⟩
        cases ex
        obtain ⟨wx, hwx, hwy⟩ := hws4.get (i := i) (v := y0) ey
        have gwx : ws.getD i .oth = wx := by rw [List.getD_eq_getElem?_getD, hwx]; rfl
        have hiR : i < ws.length := (List.getElem?_eq_some_iff.mp hwx).1
        have s6 := sadd (o := .tup [.int (i : Int), y0]) s5 ntp
        have htp : upd H5 tp (.tup [.int (i : Int), y0]) tp = some (.tup [.int (i : Int), y0]) := upd_same
        have nDt : D2 ≠ tp := ne_of_none hD5 ntp
        have hD6 : upd H5 tp (.tup [.int (i : Int), y0]) D2 = some (.lst (((List.range i).map fun r : Nat => okW (r : Int) (ds.map axI) (ws.getD r .oth)).map V.bl)) := (upd_ne nDt).trans hD5
        generalize upd H5 tp (.tup [.int (i : Int), y0]) = H6 at s6 htp hD6 ⊢
        refine ⟨tp, _, rfl, SqT.of htp, rfl, _, _, rfl, _, _, rfl, rfl, rfl, ?_⟩
        unfold tYes
        refine iteT ?_
        refine ⟨_, rfl, _, rfl, _, rfl, ?_⟩
        refine ⟨Z, y0, dt, (i : Int), wx, ds.map axI, rfl, hwy.kp (KpZ.same s6), s6 _ _ e3, by rw [List.length_map]; omega, ?_⟩
        refine ⟨_, hD6, ?_, sout s6 nD2, ?_⟩
        · rw [List.length_map, List.length_map, List.length_range, sizeLine_eq]
          omega
        · rw [upd_same, List.range_succ, List.map_append, List.map_append, ← gwx]
          rfl
      case hd =>
        rintro H5 ⟨s5, hD5⟩
        rw [lwp] at hD5
        refine ⟨D2, _, rfl, SqL.of hD5, ?_⟩
        have k5 := k H5 (sH.trans s5)
        have eg : goodFa (.three d0 (.tup ws) (.tup ds)) = wiB (ds.map axI) ws := by
          show (axW 1 60 d0 && (decide (1 ≤ ds.length) && decide (ds.length ≤ 6)) && decide (ws.length = ds.length) && (ds.map (axW 1 6)).all id && wiB (ds.map axI) ws) = _
          rw [h0, h16, hll, had]
          rfl
        rw [eg] at k5
        exact k5
theorem sc_is_face : FnScope ["value"] ["value"] (defScope s_is_face) := ⟨rfl, rfl, rfl, by decide +kernel, rfl, by decide +kernel, by decide +kernel⟩
theorem ok_is_faceX {f : Addr} {fd : FuncData} (F : Fun K "is_face" "is_face" s_is_face f fd) (DG : DefF P w K mg base CX0 4 "good_face" ["value"] spGoodFX) : FnOk P w K mg base CX0 5 f fd ["value"] spGoodFX := by
  refine F.ok sc_is_face (fun vs H Q E h => ?_) (fun cdv A outer s H vs Q E hr h => ?_)
  · obtain ⟨Z, v, x, rfl, _⟩ := h
    rfl
  · obtain ⟨Z, v, x, rfl, hv, k⟩ := h
    refine ⟨_, pss_one (ps_ret (pe_cD DG hr rfl pass0 (pa_cons (pv 0) pa_nil))), ?_⟩
    exact ⟨_, rfl, Z, v, x, rfl, hv, k⟩
theorem ok_need_faceX {f : Addr} {fd : FuncData} (F : Fun K "need_face" "need_face" s_need_face f fd) (EB : ErrC K mg "BadFace" CF) (DG : DefF P w K mg base CX0 4 "good_face" ["value"] spGoodFX) : FnOk P w K mg base (L2.CX P w) 5 f fd ["face"] (spNeedFX CF) := by
  refine F.okX sc_need_face (fun vs H Q E h => ?_) (fun cdv A outer s H vs Q E hr h => ?_)
  · obtain ⟨Z, v, x, rfl, _⟩ := h
    rfl
  · obtain ⟨Z, v, x, rfl, hv, k1, k2⟩ := h
    refine ⟨_, pss_one (ps_if (pt_not (pt_val (pe_cD DG hr rfl pass0 (pa_cons (pv 0) pa_nil)))) (pss_one (ps_raise rfl (takes_of rfl rfl rfl rfl) (pmk_own PySem.F.excBase_ValueError EB.x EB.g EB.k (raises_own EB.b EB.t) (by exact rfl)))) pss_nil), ?_⟩
    refine ⟨_, rfl, Z, v, x, rfl, hv, fun H1 s1 => ?_⟩
    cases hg : goodFa x with
    | true => exact ⟨_, rfl, iteF (k1 hg H1 s1)⟩
    | false => exact ⟨_, rfl, iteT (k2 hg H1 s1)⟩
theorem ok_fitsX {f : Addr} {fd : FuncData} (F : Fun K "fits" "fits" s_fits f fd) (FN : FnOk P w K mg base (L2.CX P w) 5 fN fdN ["row"] (spNeedX CR)) (mN : mg "need_row" = some (.ref fN)) (kN : PySem.W.keepIn K (.ref fN) = true) (bN : Binds K fdN ["row"] [])
    (FM : FnOk P w K mg base (L2.CX P w) 5 fM fdM ["face"] (spNeedFX CF)) (mM : mg "need_face" = some (.ref fM)) (kM : PySem.W.keepIn K (.ref fM) = true) (bM : Binds K fdM ["face"] []) (DI : DefF P w K mg base CX0 5 "fits_in" ["row", "face"] spFitsG) :
    FnOk P w K mg base (L2.CX P w) 6 f fd ["row", "face"] (spFitsX CR CF) := by
  refine F.okX sc_fits (fun vs H Q E h => ?_) (fun cdv A outer s H vs Q E hr h => ?_)
  · obtain ⟨Z, v, u, r, x, rfl, _⟩ := h
    rfl
  · obtain ⟨Z, v, u, r, x, rfl, hv, hu, k1, k2, k3⟩ := h
    have nd := sc_fits.nd
    refine ⟨_, pss_cons (ps_expr (pe_callS FN hr rfl mN kN bN (fun σ => L2.passAt (takes_of rfl rfl rfl rfl) σ) (pa_cons (pv 0) pa_nil)))
      (pss_cons (ps_expr (pe_callS FM hr rfl mM kM bM (fun σ => L2.passAt (takes_of rfl rfl rfl rfl) σ) (pa_cons (pv 1) pa_nil)))
      (pss_one (ps_ret (pe_cD DI hr rfl pass0 (pa_cons (pv 0) (pa_cons (pv 1) pa_nil)))))), ?_⟩
    refine ⟨_, rfl, Z, v, r, rfl, hv, fun hg H1 s1 => ?_, fun hg H1 s1 => k1 hg H1 s1⟩
    refine ⟨_, rfl, Z, u, x, rfl, hu.kp (KpZ.same s1), fun hx H2 s2 => ?_, fun hx H2 s2 => k2 hg hx H2 (s1.trans s2)⟩
    have s12 := s1.trans s2
    obtain ⟨cs, rfl, hgb⟩ := goodRt_crs hg
    obtain ⟨l, rfl, hl, hn⟩ := hv.rwx
    obtain ⟨a, rfl, hf⟩ := goodFa_at (hu.kp (KpZ.same s12)) hx
    exact ⟨_, rfl, _, rfl, l, a, faF x, cs, rfl, hl.same s12, hf, hgb, hn, fun H3 s3 => k3 cs rfl hgb hx H3 (s12.trans s3)⟩
end
end OH
end
section
set_option Elab.async false
set_option linter.all false
set_option maxRecDepth 100000
set_option maxHeartbeats 8000000
/-! The law's own look at crossings. -/
namespace OH
open PySem PySem.Spec PyProof.Rows L2
theorem lay_tup {ds : List PyData} {k : Nat} (h : ∀ d ∈ ds, PyData.canLay0 d = true ∧ PyData.depth d ≤ k) : PyData.canLay0 (.tuple ds) = true ∧ PyData.depth (.tuple ds) ≤ k + 1 := by
  have h1 : PyData.canLayAll0 ds = true := by
    induction ds with
    | nil => rfl
    | cons c cs ih =>
      show (PyData.canLay0 c && PyData.canLayAll0 cs) = true
      rw [ih fun d hd => h d (List.mem_cons_of_mem _ hd), (h c List.mem_cons_self).1]
      rfl
  have h2 : PyData.depthAll ds ≤ k := by
    clear h1
    induction ds with
    | nil => exact Nat.zero_le _
    | cons c cs ih =>
      show max (PyData.depth c) (PyData.depthAll cs) ≤ k
      exact Nat.max_le.mpr ⟨(h c List.mem_cons_self).2, ih fun d hd => h d (List.mem_cons_of_mem _ hd)⟩
  exact ⟨h1, Nat.succ_le_succ h2⟩
theorem shaped_tup {ds : List PyData} {k : Nat} (hk : k ≤ 63) (h : ∀ d ∈ ds, PyData.canLay0 d = true ∧ PyData.depth d ≤ k) : SeqAt.shaped (.tuple ds) = true := by
  obtain ⟨h1, h2⟩ := lay_tup h
  show (PyData.canLay0 (.tuple ds) && decide (PyData.depth (.tuple ds) ≤ 64)) = true
  rw [h1, decide_eq_true (by omega)]
  rfl
theorem shaped_lst {ds : List PyData} {k : Nat} (hk : k ≤ 63) (h : ∀ d ∈ ds, PyData.canLay0 d = true ∧ PyData.depth d ≤ k) : SeqAt.shaped (.list ds) = true := by
  obtain ⟨h1, h2⟩ := lay_tup h
  show (PyData.canLay0 (.tuple ds) && decide (PyData.depth (.tuple ds) ≤ 64)) = true
  rw [h1, decide_eq_true (by omega)]
  rfl
open RZ (ItzT pi_zipA)
theorem walk_zipT {K : PySem.W.Frag} {a b : Addr} {xs ys : List V} {n : Nat} (hn : n = min xs.length ys.length) : Walk (ItzT K a b) n (fun H => SqT K H a xs ∧ SqT K H b ys) (YPair (fun i => xs[i]?) (fun i => ys[i]?)) := by
  subst hn
  refine ⟨fun i _ hi q => ?_, fun _ q => ⟨xs, ys, q.1, q.2, by omega⟩, fun i H v H' _ q y => ?_⟩
  · have h1 : i < xs.length := by omega
    have h2 : i < ys.length := by omega
    exact ⟨xs, ys, xs[i], ys[i], q.1, q.2, List.getElem?_eq_getElem h1, List.getElem?_eq_getElem h2⟩
  · obtain ⟨T, x, y, h1, h2, h3, h4, h5⟩ := y
    exact ⟨T, x, y, h1, h2, h3, h4 xs q.1, h5 ys q.2⟩
theorem same_seq2 {K : PySem.W.Frag} {H H' : Hp} {a : Addr} {xs : List V} (s : Same H H') (h : SqT K H a xs) : SqT K H' a xs := h.elim (fun h => .inl (h.elim (fun e => .inl (s _ _ e)) (fun ⟨o, e⟩ => .inr ⟨o, s _ _ e⟩))) .inr
theorem sIx_cons (x : V) (xs : List V) : HT.sIx (x :: xs).length 0 (some (1 : Int)) = 1 := by
  rw [show (1 : Int) = ((1 : Nat) : Int) from rfl, HT.sIx_nat, List.length_cons]
  omega
theorem cutV_tail1 (x : V) (xs : List V) : cutV (x :: xs) (some 1) none = xs := by
  unfold cutV
  have e1 : HT.sIx (x :: xs).length 0 (some (1 : Int)) = 1 := by
    rw [show (1 : Int) = ((1 : Nat) : Int) from rfl, HT.sIx_nat, List.length_cons]
    omega
  have e2 : HT.sIx (x :: xs).length (x :: xs).length none = (x :: xs).length := by simp [HT.sIx]
  rw [e1, e2]
  exact List.take_of_length_le (by rw [List.length_drop]; exact Nat.le_refl _)
def Ax.d : Ax → PyData
  | .n z => .int z
  | .t => .bool true
  | .o => .none
  | .s x => .str x
theorem Ax.dp {K : PySem.W.Frag} {H : Hp} (a : Ax) : Dp K H a.v a.d := by
  cases a with
  | n z => exact .int z
  | t => exact .bl true
  | o => exact .non
  | s x => exact .str x
theorem axs_dp {K : PySem.W.Frag} {H : Hp} : ∀ xs : List Ax, DpAll K H (xs.map Ax.v) (xs.map Ax.d)
  | [] => .nil
  | a :: xs => .cons a.dp (axs_dp xs)
theorem axs_shaped {xs : List Ax} (h : xs.all axLay = true) : SeqAt.shaped (.tuple (xs.map Ax.d)) = true := shaped_tup (k := 0) (by decide) fun d hd => by
  obtain ⟨a, ha, rfl⟩ := List.mem_map.mp hd
  have := List.all_eq_true.mp h a ha
  cases a with
  | s x => exact ⟨this, Nat.le_refl 0⟩
  | _ => exact ⟨rfl, Nat.le_refl 0⟩
def axB (hi : Int) : Ax → Bool
  | .n i => decide (0 ≤ i) && decide (i < hi)
  | _ => false
theorem axB_int {hi : Int} {a : Ax} (h : axB hi a = true) : ∃ i, a = .n i := by
  cases a with
  | n i => exact ⟨i, rfl⟩
  | _ => cases h
def cwB (x : Str) : Option (List Int) :=
  if x = "start" then some [10000] else if x = "call" then some [6, 6, 6, 10000] else if x = "back" then some [6, 6, 10000] else if x = "deep" then some [6, 6, 6, 10000] else if x = "done" then some [10000] else if x = "end" then some [6] else none
/-- the first two are not equal -/
def apart : List Ax → Bool
  | .n i :: .n j :: _ => !decide (i = j)
  | _ => true
/-- whether a value has the form of a crossing -/
def lawC : Ci → Bool
  | .tup (.s x :: as) => match cwB x with
    | none => false
    | some bs => decide (as.length = bs.length) && ((as.zip bs).all fun p => axB p.2 p.1) && (decide (as.length + 1 < 4) || apart as)
  | _ => false
structure CwAt (H : Hp) (wd : Addr) : Prop where
  ex : ∃ kvs : List (Key × V), H wd = some (.dK kvs) ∧ ∀ x : Str, (cwB x = none → valV kvs (Sum.inr x) = none) ∧ ∀ bs, cwB x = some bs → ∃ t, valV kvs (Sum.inr x) = some (.ref t) ∧ H t = some (.tup (bs.map V.int))
theorem CwAt.same {H H' : Hp} {wd : Addr} (h : CwAt H wd) (s : Same H H') : CwAt H' wd := by
  obtain ⟨kvs, h1, h2⟩ := h.ex
  exact ⟨kvs, s _ _ h1, fun x => ⟨(h2 x).1, fun bs e => let ⟨t, a, b⟩ := (h2 x).2 bs e; ⟨t, a, s _ _ b⟩⟩⟩
theorem valV_cons (k k' : Key) (v : V) (r : List (Key × V)) : valV ((k, v) :: r) k' = if k = k' then some v else valV r k' := by
  unfold valV
  rw [List.find?_cons]
  by_cases e : k = k'
  · rw [if_pos e, decide_eq_true e]
    rfl
  · rw [if_neg e, decide_eq_false e]
theorem cw_of {G : Hp} {wd t0 t1 t2 t3 t4 t5 : Addr} (h : G wd = some (.dK [(.inr "start", .ref t0), (.inr "call", .ref t1), (.inr "back", .ref t2), (.inr "deep", .ref t3), (.inr "done", .ref t4), (.inr "end", .ref t5)]))
    (f0 : G t0 = some (.tup [.int 10000])) (f1 : G t1 = some (.tup [.int 6, .int 6, .int 6, .int 10000])) (f2 : G t2 = some (.tup [.int 6, .int 6, .int 10000])) (f3 : G t3 = some (.tup [.int 6, .int 6, .int 6, .int 10000])) (f4 : G t4 = some (.tup [.int 10000])) (f5 : G t5 = some (.tup [.int 6])) : CwAt G wd := by
  refine ⟨_, h, fun x => ?_⟩
  have inj : ∀ y : Str, ((Sum.inr y : Key) = Sum.inr x) ↔ x = y := fun y => ⟨fun z => (Sum.inr.inj z).symm, fun z => by rw [z]⟩
  simp only [valV_cons, inj]
  unfold cwB
  refine ⟨fun e => ?_, fun bs e => ?_⟩
  · split at e
    · cases e
    · next g1 =>
      rw [if_neg g1]
      split at e
      · cases e
      · next g2 =>
        rw [if_neg g2]
        split at e
        · cases e
        · next g3 =>
          rw [if_neg g3]
          split at e
          · cases e
          · next g4 =>
            rw [if_neg g4]
            split at e
            · cases e
            · next g5 =>
              rw [if_neg g5]
              split at e
              · cases e
              · next g6 =>
                rw [if_neg g6]
                rfl
  · split at e
    · next g => cases e; exact ⟨t0, by rw [if_pos g], f0⟩
    · next g1 =>
      rw [if_neg g1]
      split at e
      · next g => cases e; exact ⟨t1, by rw [if_pos g], f1⟩
      · next g2 =>
        rw [if_neg g2]
        split at e
        · next g => cases e; exact ⟨t2, by rw [if_pos g], f2⟩
        · next g3 =>
          rw [if_neg g3]
          split at e
          · next g => cases e; exact ⟨t3, by rw [if_pos g], f3⟩
          · next g4 =>
            rw [if_neg g4]
            split at e
            · next g => cases e; exact ⟨t4, by rw [if_pos g], f4⟩
            · next g5 =>
              rw [if_neg g5]
              split at e
              · next g => cases e; exact ⟨t5, by rw [if_pos g], f5⟩
              · cases e
theorem two_ints {x : Ax} {as : List Ax} {bs : List Int} (el : as.length = bs.length) (l : ¬ as.length + 1 < 4) (ha : (as.zip bs).all (fun p => axB p.2 p.1) = true) : ∃ i1 i2 : Int, ((x :: as).map Ax.v)[1]? = some (.int i1) ∧ ((x :: as).map Ax.v)[2]? = some (.int i2) ∧ apart as = !decide (V.int i1 = V.int i2) := by
  match as, bs, el, l, ha with
  | a1 :: a2 :: r, b1 :: b2 :: bs', _, _, ha =>
    rw [List.zip_cons_cons, List.zip_cons_cons, List.all_cons, List.all_cons, Bool.and_eq_true, Bool.and_eq_true] at ha
    obtain ⟨i1, rfl⟩ := axB_int ha.1
    obtain ⟨i2, rfl⟩ := axB_int ha.2.1
    refine ⟨i1, i2, rfl, rfl, ?_⟩
    show (!decide (i1 = i2)) = _
    congr 1
    by_cases e : i1 = i2
    · rw [decide_eq_true e, e, decide_eq_true rfl]
    · rw [decide_eq_false e, decide_eq_false (fun y => e (V.int.inj y))]
  | [], _, _, l, _ => exact absurd (by decide) l
  | [_], _, _, l, _ => exact absurd (by simp) l
def spCount : Sp := fun vs H Q _ => ∃ (a : Ax) (hi : Int), vs = [a.v, .int hi] ∧ Q (.bl (axB hi a)) H
def spCross : Sp := fun vs H Q _ => ∃ (Z : Addr → Prop) (v : V) (ci : Ci), vs = [v] ∧ CiAt Z H v ci ∧ ∀ H', Same H H' → Q (.bl (lawC ci)) H'
section
variable {P : Program} {w : World} {K : PySem.W.Frag} {mg : Str → Option Value} {base : Heap}
theorem sc__law_is_count : FnScope ["thing", "bound"] ["thing", "bound"] (defScope s__law_is_count) := ⟨rfl, rfl, rfl, by decide +kernel, rfl, by decide +kernel, by decide +kernel⟩
theorem ok__law_is_count {f : Addr} {fd : FuncData} (F : Fun K "_law_is_count" "_law_is_count" s__law_is_count f fd) (T : Txt K mg) : FnOk P w K mg base CX0 1 f fd ["thing", "bound"] spCount := by
  refine F.ok sc__law_is_count (fun vs H Q E h => ?_) (fun cdv A outer s H vs Q E hr h => ?_)
  · obtain ⟨a, hi, rfl, _⟩ := h
    rfl
  · obtain ⟨a, hi, rfl, k⟩ := h
    refine ⟨_, (pss_one (ps_ret (pe_and (pe_callB call_isi (by rfl) T.nIsi (by decide +kernel) (pa_cons (pv 0) (pa_cons (pe_bltn (v := .ty "int") (by rfl) T.nInt (by decide +kernel) rfl) pa_nil))) (pe_and (pe_not (pe_callB call_isi (by rfl) T.nIsi (by decide +kernel) (pa_cons (pv 0) (pa_cons (pe_bltn (v := .ty "bool") (by rfl) T.nBool (by decide +kernel) rfl) pa_nil)))) (pe_one (pe_chain op_le op_lt pe_int (pv 0) (pv 1))))))), ?_⟩
    cases a with
    | n i =>
      refine ⟨_, rfl, _, _, _, _, _, rfl, .ty "int", .base (.int i), kit_ty (r := true) (by decide +kernel), _, rfl, iteT ?_⟩
      refine ⟨_, rfl, _, _, _, _, _, rfl, .ty "bool", .base (.int i), kit_ty (r := false) (by decide +kernel), _, rfl, _, rfl, iteT ?_⟩
      refine ⟨_, rfl, _, _, rfl, rfl, _, rfl, ?_⟩
      refine ite2 (fun h1 => ?_) (fun h1 => ?_)
      · refine ⟨_, rfl, _, _, rfl, rfl, ?_⟩
        have e : axB hi (.n i) = decide (i < hi) := by
          show (decide (0 ≤ i) && decide (i < hi)) = _
          rw [h1, Bool.true_and]
        rw [e] at k
        exact k
      · have e : axB hi (.n i) = false := by
          show (decide (0 ≤ i) && decide (i < hi)) = _
          rw [Bool.eq_false_iff.mpr h1, Bool.false_and]
        rw [e] at k
        exact k
    | t =>
      refine ⟨_, rfl, _, _, _, _, _, rfl, .ty "int", .base (.bl true), kit_ty (r := true) (by decide +kernel), _, rfl, iteT ?_⟩
      exact ⟨_, rfl, _, _, _, _, _, rfl, .ty "bool", .base (.bl true), kit_ty (r := true) (by decide +kernel), _, rfl, _, rfl, iteF k⟩
    | o => exact ⟨_, rfl, _, _, _, _, _, rfl, .ty "int", .base .non, kit_ty (r := false) (by decide +kernel), _, rfl, iteF k⟩
    | s x => exact ⟨_, rfl, _, _, _, _, _, rfl, .ty "int", .base (.str x), kit_ty (r := false) (by decide +kernel), _, rfl, iteF k⟩
abbrev nIc : List Str := ["thing", "words", "bounds", "item", "bound"]
theorem sc__law_is_crossing : FnScope nIc ["thing"] (defScope s__law_is_crossing) := ⟨rfl, rfl, rfl, by decide +kernel, rfl, by decide +kernel, by decide +kernel⟩
theorem ok__law_is_crossing {f : Addr} {fd : FuncData} (F : Fun K "_law_is_crossing" "_law_is_crossing" s__law_is_crossing f fd) (T : Txt K mg) (DB : DefF P w K mg base CX0 1 "_law_is_count" ["thing", "bound"] spCount) : FnOk P w K mg base CX0 2 f fd ["thing"] spCross := by
  refine F.ok sc__law_is_crossing (fun vs H Q E h => ?_) (fun cdv A outer s H vs Q E hr h => ?_)
  · obtain ⟨Z, v, ci, rfl, _⟩ := h
    rfl
  · obtain ⟨Z, v, ci, rfl, hc, k⟩ := h
    have nd := sc__law_is_crossing.nd
    have hu := hu_of hr
    refine ⟨_, pss_cons (ps_set (i := 1) nd rfl (Or.inl rfl) (pe_disp (pps_cons pe_str (pe_tup (pa_cons pe_int pa_nil)) (pps_cons pe_str (pe_tup (pa_cons pe_int (pa_cons pe_int (pa_cons pe_int (pa_cons pe_int pa_nil))))) (pps_cons pe_str (pe_tup (pa_cons pe_int (pa_cons pe_int (pa_cons pe_int pa_nil)))) (pps_cons pe_str (pe_tup (pa_cons pe_int (pa_cons pe_int (pa_cons pe_int (pa_cons pe_int pa_nil))))) pps_nil)))) (by rfl) rfl (by simp) (by decide)))
      (pss_cons (ps_asg (pe_tup (pa_cons (pe_tup (pa_cons pe_int pa_nil)) (pa_cons (pe_tup (pa_cons pe_int pa_nil)) pa_nil))) (pg_tup (by rfl) (pgs_cons (pg_sub (pv 1) pe_str (set_dict hu)) (pgs_cons (pg_sub (pv 1) pe_str (set_dict hu)) pgs_nil))))
      (pss_cons (ps_if (PW.pt (pw_or (pt_not (pt_val (pe_callB call_isi (by rfl) T.nIsi (by decide +kernel) (pa_cons (pv 0) (pa_cons (pe_bltn (v := .ty "tuple") (by rfl) T.nTuple (by decide +kernel) rfl) pa_nil))))) (pw_or (pt_cmpR (op_eqD hr.units) (pv 0) (pe_tup pa_nil) (nomark _)) (pw_or (pt_not (pt_val (pe_callB call_isi (by rfl) T.nIsi (by decide +kernel) (pa_cons (pe_ix ix_tup (pv 0) pe_int (fun _ _ => rfl)) (pa_cons (pe_bltn (v := .ty "str") (by rfl) T.nStr (by decide +kernel) rfl) pa_nil))))) (pw_or1 (pt_cmp (pc_dnotin hu (pe_ix ix_tup (pv 0) pe_int (fun _ _ => rfl)) (pv 1)))))))) (pss_one (ps_ret pe_bl)) pss_nil)
      (pss_cons (ps_set (i := 2) nd rfl (Or.inl rfl) (pe_dget hu (pv 1) (pe_ix ix_tup (pv 0) pe_int (fun _ _ => rfl)) (fun _ _ => rfl)))
      (pss_cons (ps_if (pt_cmpR op_ne (pe_callB call_len_seq (by rfl) T.nLen PySem.boot_len (pa_cons (pv 0) pa_nil)) (pe_op op_add (pe_callB call_len_seq (by rfl) T.nLen PySem.boot_len (pa_cons (pv 2) pa_nil)) pe_int) (nomark _)) (pss_one (ps_ret pe_bl)) pss_nil)
      (pss_cons (ps_for PassesOwn.never rfl (pi_zipA (by rfl) T.nZip (pa_cons (pe_slice sl_tup (pv 0) (po_some pe_int) po_none) (pa_cons (pv 2) pa_nil))) (pg_tup (by rfl) (pgs_cons (pg_name (i := 3) nd rfl (Or.inl rfl)) (pgs_cons (pg_name (i := 4) nd rfl (Or.inl rfl)) pgs_nil)))
        (pss_one (ps_if (pt_not (pt_val (pe_cD DB hr rfl pass0 (pa_cons (pv 3) (pa_cons (pv 4) pa_nil))))) (pss_one (ps_ret pe_bl)) pss_nil)))
      (pss_one (ps_ret (pe_or (pe_cmpR op_lt (pe_callB call_len_seq (by rfl) T.nLen PySem.boot_len (pa_cons (pv 0) pa_nil)) pe_int (nomark _)) (pe_one (pe_cmpR op_ne (pe_ix ix_tup (pv 0) pe_int (fun _ _ => rfl)) (pe_ix ix_tup (pv 0) pe_int (fun _ _ => rfl)) (nomark _))))))))))), ?_⟩
    refine fun wd nwd => ?_
    have D0 : upd H wd (.dK []) wd = some (.dK []) := upd_same
    have S0 := sadd (o := .dK []) (Same.refl H) nwd
    generalize upd H wd (.dK []) = G0 at D0 S0 ⊢
    refine ⟨(by show 1 ≤ sizeLine; decide), fun t0 nt0 => ?_⟩
    have b0 := sadd (o := .tup [.int 10000]) (Same.refl G0) nt0
    have D1 := b0 _ _ D0
    have S1 := S0.trans b0
    have f0 : upd G0 t0 (.tup [.int 10000]) t0 = some (.tup [.int 10000]) := upd_same
    have x0 : t0 ≠ wd := (ne_of_none D0 nt0).symm
    generalize upd G0 t0 (.tup [.int 10000]) = G1 at f0 D1 S1 b0 ⊢
    refine ⟨(by show 4 ≤ sizeLine; decide), fun t1 nt1 => ?_⟩
    have b1 := sadd (o := .tup [.int 6, .int 6, .int 6, .int 10000]) (Same.refl G1) nt1
    have D2 := b1 _ _ D1
    have S2 := S1.trans b1
    replace f0 := b1 _ _ f0
    have f1 : upd G1 t1 (.tup [.int 6, .int 6, .int 6, .int 10000]) t1 = some (.tup [.int 6, .int 6, .int 6, .int 10000]) := upd_same
    have x1 : t1 ≠ wd := (ne_of_none D1 nt1).symm
    generalize upd G1 t1 (.tup [.int 6, .int 6, .int 6, .int 10000]) = G2 at f0 f1 D2 S2 b1 ⊢
    refine ⟨(by show 3 ≤ sizeLine; decide), fun t2 nt2 => ?_⟩
    have b2 := sadd (o := .tup [.int 6, .int 6, .int 10000]) (Same.refl G2) nt2
    have D3 := b2 _ _ D2
    have S3 := S2.trans b2
    replace f0 := b2 _ _ f0
    replace f1 := b2 _ _ f1
    have f2 : upd G2 t2 (.tup [.int 6, .int 6, .int 10000]) t2 = some (.tup [.int 6, .int 6, .int 10000]) := upd_same
    have x2 : t2 ≠ wd := (ne_of_none D2 nt2).symm
    generalize upd G2 t2 (.tup [.int 6, .int 6, .int 10000]) = G3 at f0 f1 f2 D3 S3 b2 ⊢
    refine ⟨(by show 4 ≤ sizeLine; decide), fun t3 nt3 => ?_⟩
    have b3 := sadd (o := .tup [.int 6, .int 6, .int 6, .int 10000]) (Same.refl G3) nt3
    have D4 := b3 _ _ D3
    have S4 := S3.trans b3
    replace f0 := b3 _ _ f0
    replace f1 := b3 _ _ f1
    replace f2 := b3 _ _ f2
    have f3 : upd G3 t3 (.tup [.int 6, .int 6, .int 6, .int 10000]) t3 = some (.tup [.int 6, .int 6, .int 6, .int 10000]) := upd_same
    have x3 : t3 ≠ wd := (ne_of_none D3 nt3).symm
    generalize upd G3 t3 (.tup [.int 6, .int 6, .int 6, .int 10000]) = G4 at f0 f1 f2 f3 D4 S4 b3 ⊢
    refine ⟨D4, [(.inr "start", .ref t0), (.inr "call", .ref t1), (.inr "back", .ref t2), (.inr "deep", .ref t3)], rfl, (by show 4 ≤ 15; decide), ?_⟩
    rw [show mergeK ([] : List (Key × V)) [(.inr "start", .ref t0), (.inr "call", .ref t1), (.inr "back", .ref t2), (.inr "deep", .ref t3)] = [(.inr "start", .ref t0), (.inr "call", .ref t1), (.inr "back", .ref t2), (.inr "deep", .ref t3)] from rfl]
    have S5 : Same H (upd G4 wd (.dK [(.inr "start", .ref t0), (.inr "call", .ref t1), (.inr "back", .ref t2), (.inr "deep", .ref t3)])) := sout S4 nwd
    have D5 : upd G4 wd (.dK [(.inr "start", .ref t0), (.inr "call", .ref t1), (.inr "back", .ref t2), (.inr "deep", .ref t3)]) wd = some (.dK [(.inr "start", .ref t0), (.inr "call", .ref t1), (.inr "back", .ref t2), (.inr "deep", .ref t3)]) := upd_same
    replace f0 := (upd_ne (o := .dK [(.inr "start", .ref t0), (.inr "call", .ref t1), (.inr "back", .ref t2), (.inr "deep", .ref t3)]) x0).trans f0
    replace f1 := (upd_ne (o := .dK [(.inr "start", .ref t0), (.inr "call", .ref t1), (.inr "back", .ref t2), (.inr "deep", .ref t3)]) x1).trans f1
    replace f2 := (upd_ne (o := .dK [(.inr "start", .ref t0), (.inr "call", .ref t1), (.inr "back", .ref t2), (.inr "deep", .ref t3)]) x2).trans f2
    replace f3 := (upd_ne (o := .dK [(.inr "start", .ref t0), (.inr "call", .ref t1), (.inr "back", .ref t2), (.inr "deep", .ref t3)]) x3).trans f3
    generalize upd G4 wd (.dK [(.inr "start", .ref t0), (.inr "call", .ref t1), (.inr "back", .ref t2), (.inr "deep", .ref t3)]) = G5 at f0 f1 f2 f3 D5 S5 ⊢
    refine ⟨(by show 1 ≤ sizeLine; decide), fun t4 nt4 => ?_⟩
    have b4 := sadd (o := .tup [.int 10000]) (Same.refl G5) nt4
    have D6 := b4 _ _ D5
    have S6 := S5.trans b4
    replace f0 := b4 _ _ f0
    replace f1 := b4 _ _ f1
    replace f2 := b4 _ _ f2
    replace f3 := b4 _ _ f3
    have f4 : upd G5 t4 (.tup [.int 10000]) t4 = some (.tup [.int 10000]) := upd_same
    have x4 : t4 ≠ wd := (ne_of_none D5 nt4).symm
    generalize upd G5 t4 (.tup [.int 10000]) = G6 at f0 f1 f2 f3 f4 D6 S6 b4 ⊢
    refine ⟨(by show 1 ≤ sizeLine; decide), fun t5 nt5 => ?_⟩
    have b5 := sadd (o := .tup [.int 6]) (Same.refl G6) nt5
    have D7 := b5 _ _ D6
    have S7 := S6.trans b5
    replace f0 := b5 _ _ f0
    replace f1 := b5 _ _ f1
    replace f2 := b5 _ _ f2
    replace f3 := b5 _ _ f3
    replace f4 := b5 _ _ f4
    have f5 : upd G6 t5 (.tup [.int 6]) t5 = some (.tup [.int 6]) := upd_same
    have x5 : t5 ≠ wd := (ne_of_none D6 nt5).symm
    generalize upd G6 t5 (.tup [.int 6]) = G7 at f0 f1 f2 f3 f4 f5 D7 S7 b5 ⊢
    refine ⟨(by show 2 ≤ sizeLine; decide), fun pt npt => ?_⟩
    have b6 := sadd (o := .tup [.ref t4, .ref t5]) (Same.refl G7) npt
    have D8 := b6 _ _ D7
    have S8 := S7.trans b6
    replace f0 := b6 _ _ f0
    replace f1 := b6 _ _ f1
    replace f2 := b6 _ _ f2
    replace f3 := b6 _ _ f3
    replace f4 := b6 _ _ f4
    replace f5 := b6 _ _ f5
    have fpt : upd G7 pt (.tup [.ref t4, .ref t5]) pt = some (.tup [.ref t4, .ref t5]) := upd_same
    generalize upd G7 pt (.tup [.ref t4, .ref t5]) = G8 at f0 f1 f2 f3 f4 f5 D8 S8 fpt b6 ⊢
    refine ⟨pt, _, rfl, SqT.of fpt, rfl, _, _, rfl, ?_⟩
    refine ⟨_, rfl, wd, _, rfl, DPut.k (k := Sum.inr "done") D8 (by show 4 < sizeLine; decide), _, _, rfl, ?_⟩
    rw [show putK [(.inr "start", .ref t0), (.inr "call", .ref t1), (.inr "back", .ref t2), (.inr "deep", .ref t3)] (Sum.inr ("done" : Str)) (.ref t4) = ([(.inr "start", .ref t0), (.inr "call", .ref t1), (.inr "back", .ref t2), (.inr "deep", .ref t3), (.inr "done", .ref t4)] : List (Key × V)) from rfl]
    have D9 : upd G8 wd (.dK [(.inr "start", .ref t0), (.inr "call", .ref t1), (.inr "back", .ref t2), (.inr "deep", .ref t3), (.inr "done", .ref t4)]) wd = some (.dK [(.inr "start", .ref t0), (.inr "call", .ref t1), (.inr "back", .ref t2), (.inr "deep", .ref t3), (.inr "done", .ref t4)]) := upd_same
    refine ⟨_, rfl, wd, _, rfl, DPut.k (k := Sum.inr "end") D9 (by show 5 < sizeLine; decide), rfl, ?_⟩
    rw [show putK [(.inr "start", .ref t0), (.inr "call", .ref t1), (.inr "back", .ref t2), (.inr "deep", .ref t3), (.inr "done", .ref t4)] (Sum.inr ("end" : Str)) (.ref t5) = ([(.inr "start", .ref t0), (.inr "call", .ref t1), (.inr "back", .ref t2), (.inr "deep", .ref t3), (.inr "done", .ref t4), (.inr "end", .ref t5)] : List (Key × V)) from rfl, upd_upd]
    have s0 : Same H (upd G8 wd (.dK [(.inr "start", .ref t0), (.inr "call", .ref t1), (.inr "back", .ref t2), (.inr "deep", .ref t3), (.inr "done", .ref t4), (.inr "end", .ref t5)])) := sout S8 nwd
    have D10 : upd G8 wd (.dK [(.inr "start", .ref t0), (.inr "call", .ref t1), (.inr "back", .ref t2), (.inr "deep", .ref t3), (.inr "done", .ref t4), (.inr "end", .ref t5)]) wd = some (.dK [(.inr "start", .ref t0), (.inr "call", .ref t1), (.inr "back", .ref t2), (.inr "deep", .ref t3), (.inr "done", .ref t4), (.inr "end", .ref t5)]) := upd_same
    replace f0 := (upd_ne (o := .dK [(.inr "start", .ref t0), (.inr "call", .ref t1), (.inr "back", .ref t2), (.inr "deep", .ref t3), (.inr "done", .ref t4), (.inr "end", .ref t5)]) x0).trans f0
    replace f1 := (upd_ne (o := .dK [(.inr "start", .ref t0), (.inr "call", .ref t1), (.inr "back", .ref t2), (.inr "deep", .ref t3), (.inr "done", .ref t4), (.inr "end", .ref t5)]) x1).trans f1
    replace f2 := (upd_ne (o := .dK [(.inr "start", .ref t0), (.inr "call", .ref t1), (.inr "back", .ref t2), (.inr "deep", .ref t3), (.inr "done", .ref t4), (.inr "end", .ref t5)]) x2).trans f2
    replace f3 := (upd_ne (o := .dK [(.inr "start", .ref t0), (.inr "call", .ref t1), (.inr "back", .ref t2), (.inr "deep", .ref t3), (.inr "done", .ref t4), (.inr "end", .ref t5)]) x3).trans f3
    replace f4 := (upd_ne (o := .dK [(.inr "start", .ref t0), (.inr "call", .ref t1), (.inr "back", .ref t2), (.inr "deep", .ref t3), (.inr "done", .ref t4), (.inr "end", .ref t5)]) x4).trans f4
    replace f5 := (upd_ne (o := .dK [(.inr "start", .ref t0), (.inr "call", .ref t1), (.inr "back", .ref t2), (.inr "deep", .ref t3), (.inr "done", .ref t4), (.inr "end", .ref t5)]) x5).trans f5
    generalize upd G8 wd (.dK [(.inr "start", .ref t0), (.inr "call", .ref t1), (.inr "back", .ref t2), (.inr "deep", .ref t3), (.inr "done", .ref t4), (.inr "end", .ref t5)]) = G at f0 f1 f2 f3 f4 f5 D10 s0 ⊢
    have hw : CwAt G wd := cw_of D10 f0 f1 f2 f3 f4 f5
    clear D0 D1 D2 D3 D4 D5 D6 D7 D8 D9 S0 S1 S2 S3 S4 S5 S6 S7 S8 b0 b1 b2 b3 b4 b5 b6 fpt npt x0 x1 x2 x3 x4 x5 nt0 nt1 nt2 nt3 nt4 nt5 D10 f0 f1 f2 f3 f4 f5
    cases ci with
    | oth =>
      have k0 := k G s0
      have hc' : Oth Z G v := Oth.same hc s0
      rcases hc' with rfl | ⟨i, rfl⟩ | ⟨x, rfl⟩ | ⟨q, xs, rfl, _, hq⟩ | ⟨q, xs, rfl, _, hq⟩
      · exact ⟨_, rfl, _, _, _, _, _, rfl, .ty "tuple", .base .non, kit_ty (r := false) (by decide +kernel), _, rfl, iteT k0⟩
      · exact ⟨_, rfl, _, _, _, _, _, rfl, .ty "tuple", .base (.int i), kit_ty (r := false) (by decide +kernel), _, rfl, iteT k0⟩
      · exact ⟨_, rfl, _, _, _, _, _, rfl, .ty "tuple", .base (.str x), kit_ty (r := false) (by decide +kernel), _, rfl, iteT k0⟩
      · exact ⟨_, rfl, _, _, _, _, _, rfl, .ty "tuple", .base (.lst hq), kit_ty (r := false) (by decide +kernel), _, rfl, iteT k0⟩
      · exact ⟨_, rfl, _, _, _, _, _, rfl, .ty "tuple", .base (.dK hq), kit_ty (r := false) (by decide +kernel), _, rfl, iteT k0⟩
    | tup xs =>
    obtain ⟨c, rfl, hc0, hi, hlay⟩ := hc
    have hcx := s0 _ _ hc0
    refine ⟨_, rfl, _, _, _, _, _, rfl, .ty "tuple", .base (.tup hcx), kit_ty (r := true) (by decide +kernel), _, rfl, iteF ?_⟩
    refine ⟨_, rfl, (by show 0 ≤ sizeLine; decide), fun p np => ?_⟩
    have s1' := sadd (o := .tup []) (Same.refl G) np
    have s1 := s0.trans s1'
    refine ⟨.tuple (xs.map Ax.d), .tuple [], .tup (SqT.of (s1' _ _ hcx)) (axs_dp xs), .tup (SqT.of upd_same) .nil, axs_shaped hlay, rfl, ?_⟩
    cases xs with
    | nil =>
      refine ⟨_, rfl, iteT ?_⟩
      exact k _ s1
    | cons a as =>
    rw [show PyData.eqv (.tuple ((a :: as).map Ax.d)) (.tuple []) = false from rfl]
    refine ⟨_, rfl, iteF ?_⟩
    have hcv1 := SqT.of (K := K) (s1' _ _ hcx)
    have hw1 := hw.same s1'
    generalize upd G p (.tup []) = H1 at s1 hcv1 hw1 ⊢
    have at0 : atI ((a :: as).map Ax.v) 0 = some a.v := atI_nat (j := 0) rfl
    refine ⟨_, rfl, c, _, 0, a.v, rfl, rfl, hcv1, at0, ?_⟩
    have kno : (∀ x, a ≠ .s x) → Q (.bl false) H1 := fun h => by
      have := k H1 s1
      cases a with
      | s x => exact absurd rfl (h x)
      | _ => exact this
    cases a with
    | n z => exact ⟨_, _, _, _, _, rfl, .ty "str", .base (.int z), kit_ty (r := false) (by decide +kernel), _, rfl, iteT (kno (fun _ e => by cases e))⟩
    | t => exact ⟨_, _, _, _, _, rfl, .ty "str", .base (.bl true), kit_ty (r := false) (by decide +kernel), _, rfl, iteT (kno (fun _ e => by cases e))⟩
    | o => exact ⟨_, _, _, _, _, rfl, .ty "str", .base .non, kit_ty (r := false) (by decide +kernel), _, rfl, iteT (kno (fun _ e => by cases e))⟩
    | s x =>
    clear kno
    obtain ⟨kvs, hwd1, hb⟩ := hw1.ex
    refine ⟨_, _, _, _, _, rfl, .ty "str", .base (.str x), kit_ty (r := true) (by decide +kernel), _, rfl, iteF ?_⟩
    refine ⟨_, rfl, c, _, 0, .str x, rfl, rfl, hcv1, at0, _, rfl, wd, valV kvs (Sum.inr x), rfl, DGet.k (k := Sum.inr x) hwd1, _, rfl, ?_⟩
    cases hbn : cwB x with
    | none =>
      rw [(hb x).1 hbn]
      refine iteT ?_
      have e : lawC (.tup (.s x :: as)) = false := by
        show (match cwB x with | none => false | some bs => _) = false
        rw [hbn]
      rw [e] at k
      exact k _ s1
    | some bs =>
    obtain ⟨t, ht, hbt⟩ := (hb x).2 bs hbn
    have el : lawC (.tup (.s x :: as)) = (decide (as.length = bs.length) && ((as.zip bs).all fun p => axB p.2 p.1) && (decide (as.length + 1 < 4) || apart as)) := by
      show (match cwB x with | none => false | some bs => _) = _
      rw [hbn]
    rw [el] at k
    rw [ht]
    refine iteF ?_
    have hbt1 : SqT K H1 t (bs.map V.int) := SqT.of hbt
    refine ⟨_, rfl, _, rfl, c, _, 0, .str x, rfl, rfl, hcv1, at0, wd, _, rfl, (by have g := DGet.k (k := Sum.inr x) hwd1; rw [ht] at g; exact g), ?_⟩
    refine ⟨_, rfl, c, _, rfl, .inr hcv1, _, rfl, t, _, rfl, .inr hbt1, _, _, rfl, rfl, rfl, _, rfl, ?_⟩
    have e1 : (!decide (V.int ((((Ax.s x :: as).map Ax.v).length : Nat) : Int) = V.int ((((bs.map V.int).length : Nat) : Int) + 1))) = !decide (as.length = bs.length) := by
      congr 1
      rw [List.length_map, List.length_map, List.length_cons]
      by_cases z : as.length = bs.length
      · rw [decide_eq_true z, decide_eq_true (by rw [z]; rfl)]
      · rw [decide_eq_false z, decide_eq_false (fun y => z (by have := V.int.inj y; omega))]
    rw [e1]
    cases hel : decide (as.length = bs.length) with
    | false =>
      rw [hel] at k
      exact iteT (k _ s1)
    | true =>
    rw [hel] at k
    have hel' := of_decide_eq_true hel
    refine iteF ?_
    refine ⟨_, rfl, _, rfl, c, _, rfl, hcv1, ?_, fun q nq => ?_⟩
    · rintro ⟨z, _⟩
      rw [List.map_cons, sIx_cons] at z
      cases z
    have ec : cutV ((Ax.s x :: as).map Ax.v) (some 1) none = as.map Ax.v := cutV_tail1 _ _
    rw [ec]
    have s2 := sadd (o := .tup (as.map Ax.v)) s1 nq
    have s12 := sadd (o := .tup (as.map Ax.v)) (Same.refl H1) nq
    have hq : upd H1 q (.tup (as.map Ax.v)) q = some (.tup (as.map Ax.v)) := upd_same
    have hcv2 := same_seq2 s12 hcv1
    have hbt2 := same_seq2 s12 hbt1
    generalize upd H1 q (.tup (as.map Ax.v)) = H2 at s2 hq hcv2 hbt2 s12 ⊢
    refine ⟨_, rfl, q, t, _, _, rfl, .inr ⟨SqT.of hq, hbt2, ?_⟩⟩
    refine for_it (walk_zipT (K := K) (a := q) (b := t) (xs := as.map Ax.v) (ys := bs.map V.int) (n := bs.length) (by rw [List.length_map, List.length_map, hel', Nat.min_self])) (fun i σ H' => ∃ (o3 o4 : Option V), σ = [some (.ref c), some (.ref wd), some (.ref t), o3, o4] ∧ Same H2 H' ∧ SqT K H' q (as.map Ax.v) ∧ ((as.zip bs).take i).all (fun p => axB p.2 p.1) = true)
      ⟨none, none, rfl, Same.refl H2, SqT.of hq, rfl⟩ (fun i σ H' _ ⟨_, _, _, s, a, _⟩ => ⟨a, same_seq2 s hbt2⟩) ?turn ?done
    case done =>
      rintro σ H3 ⟨o3, o4, rfl, s3, _, ha⟩
      have lz : (as.zip bs).length = bs.length := by rw [List.length_zip, hel', Nat.min_self]
      rw [← lz, List.take_length] at ha
      rw [ha] at k
      have hcv3 := same_seq2 s3 hcv2
      have s03 := s2.trans s3
      refine ⟨_, rfl, c, _, rfl, .inr hcv3, _, _, rfl, rfl, _, rfl, ?_⟩
      rw [List.length_map, List.length_cons]
      have k3 : ∀ b, (decide (as.length + 1 < 4) || apart as) = b → Q (.bl b) H3 := fun b e => by
        have := k H3 s03
        rw [e] at this
        exact this
      refine ite2 (fun z => ?_) (fun z => ?_)
      · have z' : as.length + 1 < 4 := by have := of_decide_eq_true z; omega
        exact k3 true (by rw [decide_eq_true z']; rfl)
      · have z' : ¬ as.length + 1 < 4 := fun h => z (decide_eq_true (by omega))
        obtain ⟨i1, i2, e1', e2', ea⟩ := two_ints hel' z' ha
        refine ⟨_, rfl, c, _, 1, .int i1, rfl, rfl, hcv3, atI_nat (j := 1) e1', _, rfl, c, _, 2, .int i2, rfl, rfl, hcv3, atI_nat (j := 2) e2', rfl, ?_⟩
        exact k3 (!decide (V.int i1 = V.int i2)) (by rw [decide_eq_false z', Bool.false_or, ea])
    case turn =>
      rintro i y σ H3 H4 hi ⟨o3, o4, rfl, s3, hq3, ha⟩ ⟨tp, y1, y2, rfl, ntp, rfl, e1, e2⟩
      replace e1 : (as.map Ax.v)[i]? = some y1 := e1
      replace e2 : (bs.map V.int)[i]? = some y2 := e2
      rw [List.getElem?_map] at e1 e2
      obtain ⟨av, h1, rfl⟩ := Option.map_eq_some_iff.mp e1
      obtain ⟨b, h2, rfl⟩ := Option.map_eq_some_iff.mp e2
      have s4 := sadd (o := .tup [av.v, .int b]) s3 ntp
      have hq4 := same_seq2 (sadd (o := .tup [av.v, .int b]) (Same.refl H3) ntp) hq3
      refine ⟨tp, _, rfl, SqT.of upd_same, rfl, _, _, rfl, _, _, rfl, rfl, ?_⟩
      generalize upd H3 tp (.tup [av.v, .int b]) = H4 at s4 hq4 ⊢
      refine ⟨_, rfl, _, rfl, av, b, rfl, ?_⟩
      have hz : (as.zip bs)[i]? = some (av, b) := by rw [List.getElem?_zip_eq_some]; exact ⟨h1, h2⟩
      cases hav : axB b av with
      | false =>
        refine ⟨_, rfl, iteT ?_⟩
        have e : (as.zip bs).all (fun p => axB p.2 p.1) = false := by
          rw [List.all_eq_false]
          exact ⟨_, List.mem_of_getElem? hz, by show ¬ axB b av = true; rw [hav]; decide⟩
        rw [e] at k
        exact k _ (s2.trans s4)
      | true =>
        refine ⟨_, rfl, iteF ?_⟩
        exact ⟨_, _, rfl, s4, hq4, by rw [List.take_add_one, hz, List.all_append, ha]; simp [hav]⟩
end
end OH
end
section
set_option Elab.async false
set_option linter.all false
set_option maxRecDepth 100000
set_option maxHeartbeats 4000000
/-! The law's judging of rows, in plain words, is that of the walk. -/
namespace OH
open PySem PySem.Spec PyProof.Rows L2
def bB (hi i : Int) : Bool := decide (0 ≤ i) && decide (i < hi)
def formB : Crs → Bool
  | .start n => bB 10000 n
  | .call a b d n => bB 6 a && bB 6 b && bB 6 d && bB 10000 n && !decide (a = b)
  | .back a b n => bB 6 a && bB 6 b && bB 10000 n && !decide (a = b)
  | .deep a b d n => bB 6 a && bB 6 b && bB 6 d && bB 10000 n && !decide (a = b)
  | .done n => bB 10000 n
  | .fin a => bB 6 a
theorem cw_start : cwB "start" = some [10000] := by decide +kernel
theorem cw_call : cwB "call" = some [6, 6, 6, 10000] := by decide +kernel
theorem cw_back : cwB "back" = some [6, 6, 10000] := by decide +kernel
theorem cw_deep : cwB "deep" = some [6, 6, 6, 10000] := by decide +kernel
theorem cw_done : cwB "done" = some [10000] := by decide +kernel
theorem cw_end : cwB "end" = some [6] := by decide +kernel
theorem lawC_s (x : Str) (as : List Ax) : lawC (.tup (.s x :: as)) = match cwB x with | none => false | some bs => decide (as.length = bs.length) && ((as.zip bs).all fun p => axB p.2 p.1) && (decide (as.length + 1 < 4) || apart as) := rfl
theorem lawC_ci (x : Crs) : lawC x.ci = formB x := by
  cases x with
  | start n =>
    rw [show Crs.ci (.start n) = .tup (.s "start" :: [.n n]) from rfl, lawC_s, cw_start]
    show (true && (bB 10000 n && true) && (true || _)) = bB 10000 n
    simp
  | call a b d n =>
    rw [show Crs.ci (.call a b d n) = .tup (.s "call" :: [.n a, .n b, .n d, .n n]) from rfl, lawC_s, cw_call]
    show (true && (bB 6 a && (bB 6 b && (bB 6 d && (bB 10000 n && true)))) && (false || !decide (a = b))) = (bB 6 a && bB 6 b && bB 6 d && bB 10000 n && !decide (a = b))
    simp only [Bool.true_and, Bool.and_true, Bool.false_or, Bool.and_assoc]
  | back a b n =>
    rw [show Crs.ci (.back a b n) = .tup (.s "back" :: [.n a, .n b, .n n]) from rfl, lawC_s, cw_back]
    show (true && (bB 6 a && (bB 6 b && (bB 10000 n && true))) && (false || !decide (a = b))) = (bB 6 a && bB 6 b && bB 10000 n && !decide (a = b))
    simp only [Bool.true_and, Bool.and_true, Bool.false_or, Bool.and_assoc]
  | deep a b d n =>
    rw [show Crs.ci (.deep a b d n) = .tup (.s "deep" :: [.n a, .n b, .n d, .n n]) from rfl, lawC_s, cw_deep]
    show (true && (bB 6 a && (bB 6 b && (bB 6 d && (bB 10000 n && true)))) && (false || !decide (a = b))) = (bB 6 a && bB 6 b && bB 6 d && bB 10000 n && !decide (a = b))
    simp only [Bool.true_and, Bool.and_true, Bool.false_or, Bool.and_assoc]
  | done n =>
    rw [show Crs.ci (.done n) = .tup (.s "done" :: [.n n]) from rfl, lawC_s, cw_done]
    show (true && (bB 10000 n && true) && (true || _)) = bB 10000 n
    simp
  | fin a =>
    rw [show Crs.ci (.fin a) = .tup (.s "end" :: [.n a]) from rfl, lawC_s, cw_end]
    show (true && (bB 6 a && true) && (true || _)) = bB 6 a
    simp
theorem axB_ints : ∀ (as : List Ax) (bs : List Int), as.length = bs.length → ((as.zip bs).all fun p => axB p.2 p.1) = true → ∃ is : List Int, as = is.map Ax.n
  | [], [], _, _ => ⟨[], rfl⟩
  | a :: as, b :: bs, l, h => by
    rw [List.zip_cons_cons, List.all_cons, Bool.and_eq_true] at h
    obtain ⟨is, e⟩ := axB_ints as bs (Nat.succ.inj l) h.2
    obtain ⟨i, rfl⟩ := axB_int h.1
    exact ⟨i :: is, by rw [e]; rfl⟩
theorem law_crs {c : Ci} (h : lawC c = true) : ∃ x : Crs, c = x.ci ∧ formB x = true := by
  match c, h with
  | .oth, h => cases h
  | .tup [], h => cases h
  | .tup (.n _ :: _), h => cases h
  | .tup (.t :: _), h => cases h
  | .tup (.o :: _), h => cases h
  | .tup (.s x :: as), h =>
    have h0 := h
    rw [lawC_s] at h
    cases hf : cwB x with
    | none => rw [hf] at h; cases h
    | some bs =>
      rw [hf] at h
      have h' : (decide (as.length = bs.length) && ((as.zip bs).all fun p => axB p.2 p.1) && (decide (as.length + 1 < 4) || apart as)) = true := h
      rw [Bool.and_eq_true, Bool.and_eq_true, decide_eq_true_iff] at h'
      obtain ⟨is, rfl⟩ := axB_ints as bs h'.1.1 h'.1.2
      have l := h'.1.1
      rw [List.length_map] at l
      have fin : ∀ y : Crs, y.wd = x → y.is = is → ∃ x_1 : Crs, Ci.tup (.s x :: is.map Ax.n) = x_1.ci ∧ formB x_1 = true := fun y e1 e2 => by
        subst e1 e2
        exact ⟨y, rfl, by rw [← lawC_ci]; exact h0⟩
      unfold cwB at hf
      split at hf
      · next e =>
        cases hf
        match is, l with
        | [a], _ => exact fin (.start a) e.symm rfl
      · split at hf
        · next e =>
          cases hf
          match is, l with
          | [a, b, c, d], _ => exact fin (.call a b c d) e.symm rfl
        · split at hf
          · next e =>
            cases hf
            match is, l with
            | [a, b, c], _ => exact fin (.back a b c) e.symm rfl
          · split at hf
            · next e =>
              cases hf
              match is, l with
              | [a, b, c, d], _ => exact fin (.deep a b c d) e.symm rfl
            · split at hf
              · next e =>
                cases hf
                match is, l with
                | [a], _ => exact fin (.done a) e.symm rfl
              · split at hf
                · next e =>
                  cases hf
                  match is, l with
                  | [a], _ => exact fin (.fin a) e.symm rfl
                · cases hf
def mayB (s : Rs) : Crs → Bool
  | .start _ => false
  | .done _ => s.1.isSome && decide (s.2.length = 0)
  | .call a _ _ _ => match s.1 with
    | none => false
    | some r => decide (a = r) && decide (s.2.length < 60)
  | .back a b _ => match s.1 with
    | none => false
    | some r => decide (a = r) && (decide (0 < s.2.length) && decide ((s.2.getLast?.getD (0, 0)).1 = b))
  | .fin a => match s.1 with
    | none => false
    | some r => decide (a = r)
  | .deep a _ _ _ => match s.1 with
    | none => false
    | some r => decide (a = r) && decide (0 < s.2.length)
/-- open asks behind which r is in control -/
inductive AOk : Int → List (Int × Int) → Prop where
  | nil {r : Int} : 0 ≤ r → r ≤ 5 → AOk r []
  | snoc {p r : Int} {as : List (Int × Int)} : p ≠ r → 0 ≤ r → r ≤ 5 → AOk p as → AOk r (as ++ [(p, r)])
theorem AOk.rng {r : Int} {as : List (Int × Int)} (h : AOk r as) : 0 ≤ r ∧ r ≤ 5 := by
  cases h with
  | nil h0 h1 => exact ⟨h0, h1⟩
  | snoc _ h0 h1 _ => exact ⟨h0, h1⟩
theorem AOk.last {r : Int} {as : List (Int × Int)} (h : AOk r as) (hl : 0 < as.length) : (as.getLast?.getD (0, 0)).1 ≠ r ∧ AOk (as.getLast?.getD (0, 0)).1 as.dropLast := by
  cases h with
  | nil _ _ => exact absurd hl (Nat.lt_irrefl 0)
  | @snoc p r as hp h0 h1 ha =>
    rw [List.getLast?_append, List.dropLast_concat]
    exact ⟨hp, ha⟩
theorem bB6 {i : Int} (h0 : 0 ≤ i) (h5 : i ≤ 5) : bB 6 i = true := by
  show (decide (0 ≤ i) && decide (i < 6)) = true
  rw [decide_eq_true h0, decide_eq_true (by omega)]
  rfl
theorem dorB_6 (i : Int) : dorB i = bB 6 i := by
  show (decide (0 ≤ i) && decide (i ≤ 5)) = (decide (0 ≤ i) && decide (i < 6))
  congr 1
  exact decide_eq_decide.mpr (by omega)
theorem NumB_4 (i : Int) : NumB i = bB 10000 i := by
  show (decide (0 ≤ i) && decide (i ≤ 9999)) = (decide (0 ≤ i) && decide (i < 10000))
  congr 1
  exact decide_eq_decide.mpr (by omega)
/-- what can follow is what may follow, of the form of a crossing -/
theorem fol_may {r : Int} {as : List (Int × Int)} (ha : AOk r as) (x : Crs) : folB r as x = (formB x && mayB (some r, as) x) := by
  obtain ⟨r0, r5⟩ := ha.rng
  have b6 := bB6 r0 r5
  cases x with
  | start n =>
    show false = (_ && false)
    rw [Bool.and_false]
  | call a b d n =>
    show (decide (as.length < 60) && decide (a = r) && dorB b && decide (b ≠ r) && dorB d && NumB n) = ((bB 6 a && bB 6 b && bB 6 d && bB 10000 n && !decide (a = b)) && (decide (a = r) && decide (as.length < 60)))
    rw [dorB_6, dorB_6, NumB_4]
    by_cases e : a = r
    · subst e
      rw [b6]
      have e2 : decide (b ≠ a) = !decide (a = b) := by
        by_cases z : a = b
        · subst z; simp
        · have z' : ¬ b = a := fun y => z y.symm
          simp [z, z']
      rw [e2, decide_eq_true rfl]
      cases decide (as.length < 60) <;> cases bB 6 b <;> cases bB 6 d <;> cases bB 10000 n <;> cases decide (a = b) <;> rfl
    · rw [decide_eq_false e]
      simp
  | deep a b d n =>
    show (decide (0 < as.length) && decide (a = r) && dorB b && decide (b ≠ r) && dorB d && NumB n) = ((bB 6 a && bB 6 b && bB 6 d && bB 10000 n && !decide (a = b)) && (decide (a = r) && decide (0 < as.length)))
    rw [dorB_6, dorB_6, NumB_4]
    by_cases e : a = r
    · subst e
      rw [b6]
      have e2 : decide (b ≠ a) = !decide (a = b) := by
        by_cases z : a = b
        · subst z; simp
        · have z' : ¬ b = a := fun y => z y.symm
          simp [z, z']
      rw [e2, decide_eq_true rfl]
      cases decide (0 < as.length) <;> cases bB 6 b <;> cases bB 6 d <;> cases bB 10000 n <;> cases decide (a = b) <;> rfl
    · rw [decide_eq_false e]
      simp
  | back a b n =>
    show (decide (0 < as.length) && decide (a = r) && decide (b = (as.getLast?.getD (0, 0)).1) && NumB n) = ((bB 6 a && bB 6 b && bB 10000 n && !decide (a = b)) && (decide (a = r) && (decide (0 < as.length) && decide ((as.getLast?.getD (0, 0)).1 = b))))
    rw [NumB_4]
    by_cases e : a = r
    · subst e
      by_cases hl : 0 < as.length
      · obtain ⟨l1, l2⟩ := ha.last hl
        by_cases z : b = (as.getLast?.getD (0, 0)).1
        · subst z
          obtain ⟨q0, q5⟩ := l2.rng
          rw [b6, bB6 q0 q5, (decide_eq_false (fun y => l1 y.symm) : decide (a = (as.getLast?.getD (0, 0)).1) = false), decide_eq_true hl, (decide_eq_true rfl : decide (a = a) = true), (decide_eq_true rfl : decide ((as.getLast?.getD (0, 0)).1 = (as.getLast?.getD (0, 0)).1) = true)]
          cases bB 10000 n <;> rfl
        · rw [decide_eq_false z, (decide_eq_false (fun y => z y.symm) : decide ((as.getLast?.getD (0, 0)).1 = b) = false)]
          simp
      · rw [decide_eq_false hl]
        simp
    · rw [decide_eq_false e]
      simp
  | done n =>
    show (decide (as.length = 0) && NumB n) = (bB 10000 n && (true && decide (as.length = 0)))
    rw [NumB_4, Bool.true_and, Bool.and_comm]
  | fin a =>
    show decide (a = r) = (bB 6 a && decide (a = r))
    by_cases e : a = r
    · subst e
      rw [b6]
      rfl
    · rw [decide_eq_false e, Bool.and_false]
/-- the state that the law keeps of a walk -/
def WS (w : Wk) (s : Rs) : Prop := (w.over = true ∧ s.1 = none) ∨ ∃ r, w.over = false ∧ w.ins = some r ∧ s = (some r, w.asks) ∧ AOk r w.asks
theorem WS.can {w : Wk} {s : Rs} (h : WS w s) (x : Crs) : canC w x = (formB x && mayB s x) := by
  rcases h with ⟨h1, h2⟩ | ⟨r, h1, h2, rfl, h3⟩
  · rw [canC_over h1]
    have : mayB s x = false := by
      cases x <;> (unfold mayB; rw [h2]; try rfl)
    rw [this, Bool.and_false]
  · rw [canC_run h1 h2, fol_may h3]
theorem WS.step {w : Wk} {s : Rs} (h : WS w s) {x : Crs} (hc : canC w x = true) : WS (tk w x) (bh s x) := by
  rcases h with ⟨h1, h2⟩ | ⟨r, h1, h2, rfl, h3⟩
  · rw [canC_over h1] at hc
    cases hc
  · rw [canC_run h1 h2] at hc
    obtain ⟨r0, r5⟩ := h3.rng
    cases x with
    | start n => cases hc
    | call a b d n =>
      have hc' : (decide (w.asks.length < 60) && decide (a = r) && dorB b && decide (b ≠ r) && dorB d && NumB n) = true := hc
      simp only [Bool.and_eq_true, decide_eq_true_eq] at hc'
      obtain ⟨⟨⟨⟨⟨_, rfl⟩, hb⟩, hne⟩, _⟩, _⟩ := hc'
      have hb' : (decide (0 ≤ b) && decide (b ≤ 5)) = true := hb
      rw [Bool.and_eq_true, decide_eq_true_eq, decide_eq_true_eq] at hb'
      exact .inr ⟨b, h1, rfl, rfl, .snoc (fun z => hne z.symm) hb'.1 hb'.2 h3⟩
    | back a b n =>
      obtain ⟨e1, e2, e3⟩ := fol_back hc
      subst e3
      exact .inr ⟨_, h1, rfl, rfl, (h3.last e1).2⟩
    | deep a b d n => exact .inl ⟨rfl, rfl⟩
    | done n => exact .inl ⟨rfl, rfl⟩
    | fin a => exact .inl ⟨rfl, rfl⟩
def mayGo : Rs → List Crs → Bool
  | _, [] => true
  | s, x :: xs => mayB s x && mayGo (bh s x) xs
theorem go_may : ∀ (xs : List Crs) (w : Wk) (s : Rs), WS w s → xs.all formB = true → goodGo w xs = mayGo s xs
  | [], _, _, _, _ => rfl
  | x :: xs, w, s, h, hf => by
    rw [List.all_cons, Bool.and_eq_true] at hf
    show (canC w x && goodGo (tk w x) xs) = (mayB s x && mayGo (bh s x) xs)
    have e : canC w x = mayB s x := by rw [h.can, hf.1, Bool.true_and]
    cases hc : canC w x with
    | false => rw [← e, hc]; rfl
    | true => rw [← e, hc, go_may xs _ _ (h.step hc) hf.2]
theorem go_form : ∀ (xs : List Crs) (w : Wk) (s : Rs), WS w s → goodGo w xs = true → xs.all formB = true
  | [], _, _, _, _ => rfl
  | x :: xs, w, s, h, hg => by
    have hg' : (canC w x && goodGo (tk w x) xs) = true := hg
    rw [Bool.and_eq_true] at hg'
    have h1 := hg'.1
    rw [h.can, Bool.and_eq_true] at h1
    rw [List.all_cons, h1.1, go_form xs _ _ (h.step hg'.1) hg'.2]
    rfl
/-- what the law says of a list of crossings -/
def lawJ : List Crs → Bool
  | .start n :: xs => mayGo (some 0, []) xs
  | _ => false
theorem ws_start (n : Int) : WS (tk w0 (.start n)) (some 0, []) := .inr ⟨0, rfl, rfl, rfl, .nil (by decide) (by decide)⟩
theorem good_lawJ {xs : List Crs} (hf : xs.all formB = true) : goodB xs = lawJ xs := by
  cases xs with
  | nil => rfl
  | cons x xs =>
    rw [List.all_cons, Bool.and_eq_true] at hf
    show (true && (canC w0 x && goodGo (tk w0 x) xs)) = lawJ (x :: xs)
    rw [canC_first]
    cases x with
    | start n =>
      have hn : NumB n = true := by rw [NumB_4]; exact hf.1
      show (true && (NumB n && _)) = mayGo (some 0, []) xs
      rw [hn, go_may xs _ _ (ws_start n) hf.2]
      rfl
    | _ => rfl
theorem good_form {xs : List Crs} (h : goodB xs = true) : xs.all formB = true := by
  cases xs with
  | nil => rfl
  | cons x xs =>
    have h' : (true && (canC w0 x && goodGo (tk w0 x) xs)) = true := h
    rw [Bool.true_and, Bool.and_eq_true, canC_first] at h'
    cases x with
    | start n =>
      have hn : NumB n = true := h'.1
      rw [List.all_cons, go_form xs _ _ (ws_start n) h'.2]
      rw [show formB (.start n) = bB 10000 n from rfl, ← NumB_4, hn]
      rfl
    | _ => exact absurd h'.1 Bool.false_ne_true
theorem law_all : ∀ {cs : List Ci}, cs.all lawC = true → ∃ xs : List Crs, cs = xs.map Crs.ci ∧ xs.all formB = true
  | [], _ => ⟨[], rfl, rfl⟩
  | c :: cs, h => by
    rw [List.all_cons, Bool.and_eq_true] at h
    obtain ⟨x, rfl, hx⟩ := law_crs h.1
    obtain ⟨xs, rfl, hxs⟩ := law_all h.2
    exact ⟨x :: xs, rfl, by rw [List.all_cons, hx, hxs]; rfl⟩
theorem law_none {cs : List Ci} (h : cs.all lawC = false) : goodRt (.seq cs) = false := by
  cases hg : goodRt (.seq cs) with
  | false => rfl
  | true =>
    obtain ⟨xs, e, g⟩ := goodRt_crs hg
    cases e
    have := good_form g
    rw [List.all_map] at h
    rw [show (lawC ∘ Crs.ci) = formB from funext lawC_ci, this] at h
    cases h
end OH
end
section
set_option Elab.async false
set_option linter.all false
set_option maxRecDepth 100000
set_option maxHeartbeats 8000000
/-! What may follow, by the law. -/
namespace OH
open PySem PySem.Spec PyProof.Rows L2
def spMay : Sp := fun vs H Q _ => ∃ (al c : Addr) (s : Rs) (x : Crs), vs = [optV s.1, .ref al, .ref c] ∧ AkAt H al s.2 ∧ H c = some (.tup x.vs) ∧ s.2.length ≤ 100000 ∧ ∀ H', Same H H' → Q (.bl (mayB s x)) H'
section
variable {P : Program} {w : World} {K : PySem.W.Frag} {mg : Str → Option Value} {base : Heap}
theorem sc__law_may_follow : FnScope ["control", "asks", "crossing"] ["control", "asks", "crossing"] (defScope s__law_may_follow) := ⟨rfl, rfl, rfl, by decide +kernel, rfl, by decide +kernel, by decide +kernel⟩
theorem ok__law_may_follow {f : Addr} {fd : FuncData} (F : Fun K "_law_may_follow" "_law_may_follow" s__law_may_follow f fd) (nLen : mg "len" = none) : FnOk P w K mg base CX0 1 f fd ["control", "asks", "crossing"] spMay := by
  refine F.ok sc__law_may_follow (fun vs H Q E h => ?_) (fun cdv A outer s0 H vs Q E hr h => ?_)
  · obtain ⟨al, c, s, x, rfl, _⟩ := h
    rfl
  · obtain ⟨al, c, s, x, rfl, ha, hc, hn, k⟩ := h
    have nd := sc__law_may_follow.nd
    refine ⟨_, pss_cons (ps_if (PW.pt (pw_or (pt_cmpR op_isN (pv 0) pe_non (nomark _)) (pw_or1 (pt_cmpR op_eq (pe_ix ix_tup (pv 2) pe_int (fun _ _ => rfl)) pe_str (nomark _))))) (pss_one (ps_ret pe_bl)) pss_nil)
      (pss_cons (ps_if (pt_cmpR op_eq (pe_ix ix_tup (pv 2) pe_int (fun _ _ => rfl)) pe_str (nomark _)) (pss_one (ps_ret (pe_cmpR (op_eqD hr.units) (pv 1) (pe_lst pa_nil) (nomark _)))) pss_nil)
      (pss_cons (ps_if (pt_cmpR op_ne (pe_ix ix_tup (pv 2) pe_int (fun _ _ => rfl)) (pv 0) (nomark _)) (pss_one (ps_ret pe_bl)) pss_nil)
      (pss_cons (ps_if (pt_cmpR op_eq (pe_ix ix_tup (pv 2) pe_int (fun _ _ => rfl)) pe_str (nomark _)) (pss_one (ps_ret (pe_cmpR op_lt (pe_callB call_len_seq (by rfl) nLen PySem.boot_len (pa_cons (pv 1) pa_nil)) pe_int (nomark _)))) pss_nil)
      (pss_cons (ps_if (pt_cmpR op_eq (pe_ix ix_tup (pv 2) pe_int (fun _ _ => rfl)) pe_str (nomark _)) (pss_one (ps_ret (pe_and (pe_cmpR (op_neD hr.units) (pv 1) (pe_lst pa_nil) (nomark _)) (pe_one (pe_cmpR op_eq (pe_ix ix_tup (pe_ix ix_list (pv 1) (pe_un un_neg pe_int) (fun _ _ => rfl)) pe_int (fun _ _ => rfl)) (pe_ix ix_tup (pv 2) pe_int (fun _ _ => rfl)) (nomark _)))))) pss_nil)
      (pss_one (ps_ret (pe_or (pe_cmpR op_eq (pe_ix ix_tup (pv 2) pe_int (fun _ _ => rfl)) pe_str (nomark _)) (pe_one (pe_cmpR (op_neD hr.units) (pv 1) (pe_lst pa_nil) (nomark _)))))))))), ?_⟩
    obtain ⟨s1, as⟩ := s
    obtain ⟨ps, a1, a2⟩ := ha
    replace a1 : H al = some (.lst (ps.map V.ref)) := a1
    replace a2 : AllAt H pairV ps as := a2
    have lp := a2.len
    have T0 : SqT K H c x.vs := SqT.of hc
    refine ⟨_, rfl, rfl, _, rfl, ?_⟩
    cases s1 with
    | none =>
      refine iteT (iteT ?_)
      have em : mayB (none, as) x = false := by cases x <;> rfl
      rw [em] at k
      exact k H (Same.refl H)
    | some r =>
    refine iteF ?_
    have er : ∀ y : Int, decide (V.int y = optV (some r)) = decide (y = r) := fun y => by
      show decide (V.int y = V.int r) = _
      by_cases e : y = r
      · rw [decide_eq_true e, e, decide_eq_true rfl]
      · rw [decide_eq_false e, decide_eq_false (fun z => e (V.int.inj z))]
    cases x with
    | start n =>
      refine ⟨_, rfl, c, _, 0, _, rfl, rfl, T0, rfl, rfl, _, rfl, iteT ?_⟩
      exact k H (Same.refl H)
    | done n =>
      refine ⟨_, rfl, c, _, 0, _, rfl, rfl, T0, rfl, rfl, _, rfl, iteF ?_⟩
      refine ⟨_, rfl, c, _, 0, _, rfl, rfl, T0, rfl, rfl, _, rfl, iteT ?_⟩
      refine ⟨_, rfl, (by show 0 ≤ sizeLine; decide), fun e ne => ?_⟩
      have se := sadd (o := .lst []) (Same.refl H) ne
      refine ⟨.list (as.map pairD), .list [], .lst (SqL.of (se _ _ a1)) (a2.mono fun q xs z => se _ _ z).dpp, .lst (SqL.of upd_same) .nil, shaped_pairs _, rfl, ?_⟩
      rw [eqv_nil]
      have em : mayB (some r, as) (.done n) = (as.map pairD).isEmpty := by show (true && decide (as.length = 0)) = _; cases as <;> rfl
      rw [← em]
      exact k _ se
    | call a b d n =>
      refine ⟨_, rfl, c, _, 0, _, rfl, rfl, T0, rfl, rfl, _, rfl, iteF ?_⟩
      refine ⟨_, rfl, c, _, 0, _, rfl, rfl, T0, rfl, rfl, _, rfl, iteF ?_⟩
      refine ⟨_, rfl, c, _, 1, _, rfl, rfl, T0, rfl, _, rfl, rfl, _, rfl, ?_⟩
      rw [er]
      cases ha : decide (a = r) with
      | false =>
        refine iteT ?_
        have em : mayB (some r, as) (.call a b d n) = false := by show (decide (a = r) && _) = false; rw [ha]; rfl
        rw [em] at k
        exact k H (Same.refl H)
      | true =>
      refine iteF ?_
      refine ⟨_, rfl, c, _, 0, _, rfl, rfl, T0, rfl, rfl, _, rfl, iteT ?_⟩
      refine ⟨_, rfl, al, _, rfl, .inl (SqL.of a1), _, _, rfl, rfl, ?_⟩
      rw [List.length_map, lp]
      have em : mayB (some r, as) (.call a b d n) = decide ((as.length : Int) < 60) := by
        show (decide (a = r) && decide (as.length < 60)) = _
        rw [ha, Bool.true_and]
        exact decide_eq_decide.mpr (by omega)
      rw [em] at k
      exact k H (Same.refl H)
    | back a b n =>
      refine ⟨_, rfl, c, _, 0, _, rfl, rfl, T0, rfl, rfl, _, rfl, iteF ?_⟩
      refine ⟨_, rfl, c, _, 0, _, rfl, rfl, T0, rfl, rfl, _, rfl, iteF ?_⟩
      refine ⟨_, rfl, c, _, 1, _, rfl, rfl, T0, rfl, _, rfl, rfl, _, rfl, ?_⟩
      rw [er]
      cases ha : decide (a = r) with
      | false =>
        refine iteT ?_
        have em : mayB (some r, as) (.back a b n) = false := by show (decide (a = r) && _) = false; rw [ha]; rfl
        rw [em] at k
        exact k H (Same.refl H)
      | true =>
      refine iteF ?_
      refine ⟨_, rfl, c, _, 0, _, rfl, rfl, T0, rfl, rfl, _, rfl, iteF ?_⟩
      refine ⟨_, rfl, c, _, 0, _, rfl, rfl, T0, rfl, rfl, _, rfl, iteT ?_⟩
      refine ⟨_, rfl, (by show 0 ≤ sizeLine; decide), fun e ne => ?_⟩
      have se := sadd (o := .lst []) (Same.refl H) ne
      refine ⟨.list (as.map pairD), .list [], .lst (SqL.of (se _ _ a1)) (a2.mono fun q xs z => se _ _ z).dpp, .lst (SqL.of upd_same) .nil, shaped_pairs _, rfl, _, rfl, ?_⟩
      rw [eqv_nil]
      have a1' := se _ _ a1
      have T1 : SqT K (upd H e (.lst [])) c (Crs.vs (.back a b n)) := SqT.of (se _ _ hc)
      have a2' := a2.mono fun q xs z => se _ _ z
      generalize upd H e (.lst []) = He at se a1' T1 a2' ⊢
      have em : mayB (some r, as) (.back a b n) = (decide (0 < as.length) && decide ((as.getLast?.getD (0, 0)).1 = b)) := by
        show (decide (a = r) && _) = _
        rw [ha, Bool.true_and]
      rw [em] at k
      by_cases hl : 0 < as.length
      case neg =>
        have e0 : as = [] := List.length_eq_zero_iff.mp (by omega)
        subst e0
        exact iteF (k _ se)
      have ne0 : (as.map pairD).isEmpty = false := by cases as with | nil => exact absurd hl (Nat.lt_irrefl 0) | cons _ _ => rfl
      rw [ne0]
      refine iteT ?_
      obtain ⟨lp', hlp⟩ : ∃ q, ps[ps.length - 1]? = some q := ⟨_, List.getElem?_eq_getElem (by omega)⟩
      obtain ⟨pr, hpr⟩ : ∃ pr, as[as.length - 1]? = some pr := ⟨_, List.getElem?_eq_getElem (by omega)⟩
      have hq : He lp' = some (.tup (pairV pr)) := by
        obtain ⟨q', h1, h2⟩ := a2'.get hpr
        rw [← lp, hlp] at h1
        cases h1
        exact h2
      have el : as.getLast?.getD (0, 0) = pr := by rw [List.getLast?_eq_getElem?, hpr]; rfl
      refine ⟨_, rfl, _, rfl, al, _, (-1 : Int), .ref lp', rfl, rfl, SqL.of a1', atI_end (by rw [List.getElem?_map, List.length_map, hlp]; rfl), lp', _, 0, _, rfl, rfl, SqT.of hq, rfl, _, rfl, c, _, 2, _, rfl, rfl, T1, rfl, rfl, ?_⟩
      have e3 : (decide (0 < as.length) && decide ((as.getLast?.getD (0, 0)).1 = b)) = decide (V.int pr.1 = V.int b) := by
        rw [decide_eq_true hl, el, Bool.true_and]
        by_cases z : pr.1 = b
        · rw [decide_eq_true z, decide_eq_true (by rw [z])]
        · rw [decide_eq_false z, decide_eq_false (fun y => z (V.int.inj y))]
      rw [e3] at k
      exact k He se
    | fin a =>
      refine ⟨_, rfl, c, _, 0, _, rfl, rfl, T0, rfl, rfl, _, rfl, iteF ?_⟩
      refine ⟨_, rfl, c, _, 0, _, rfl, rfl, T0, rfl, rfl, _, rfl, iteF ?_⟩
      refine ⟨_, rfl, c, _, 1, _, rfl, rfl, T0, rfl, _, rfl, rfl, _, rfl, ?_⟩
      rw [er]
      cases ha : decide (a = r) with
      | false =>
        refine iteT ?_
        have em : mayB (some r, as) (.fin a) = false := by show (decide (a = r)) = false; rw [ha]
        rw [em] at k
        exact k H (Same.refl H)
      | true =>
      refine iteF ?_
      refine ⟨_, rfl, c, _, 0, _, rfl, rfl, T0, rfl, rfl, _, rfl, iteF ?_⟩
      refine ⟨_, rfl, c, _, 0, _, rfl, rfl, T0, rfl, rfl, _, rfl, iteF ?_⟩
      refine ⟨_, rfl, c, _, 0, _, rfl, rfl, T0, rfl, rfl, _, rfl, iteT ?_⟩
      have em : mayB (some r, as) (.fin a) = true := ha
      rw [em] at k
      exact k H (Same.refl H)
    | deep a b d n =>
      refine ⟨_, rfl, c, _, 0, _, rfl, rfl, T0, rfl, rfl, _, rfl, iteF ?_⟩
      refine ⟨_, rfl, c, _, 0, _, rfl, rfl, T0, rfl, rfl, _, rfl, iteF ?_⟩
      refine ⟨_, rfl, c, _, 1, _, rfl, rfl, T0, rfl, _, rfl, rfl, _, rfl, ?_⟩
      rw [er]
      cases ha : decide (a = r) with
      | false =>
        refine iteT ?_
        have em : mayB (some r, as) (.deep a b d n) = false := by show (decide (a = r) && _) = false; rw [ha]; rfl
        rw [em] at k
        exact k H (Same.refl H)
      | true =>
      refine iteF ?_
      refine ⟨_, rfl, c, _, 0, _, rfl, rfl, T0, rfl, rfl, _, rfl, iteF ?_⟩
      refine ⟨_, rfl, c, _, 0, _, rfl, rfl, T0, rfl, rfl, _, rfl, iteF ?_⟩
      refine ⟨_, rfl, c, _, 0, _, rfl, rfl, T0, rfl, rfl, _, rfl, iteF ?_⟩
      refine ⟨_, rfl, (by show 0 ≤ sizeLine; decide), fun e ne => ?_⟩
      have se := sadd (o := .lst []) (Same.refl H) ne
      refine ⟨.list (as.map pairD), .list [], .lst (SqL.of (se _ _ a1)) (a2.mono fun q xs z => se _ _ z).dpp, .lst (SqL.of upd_same) .nil, shaped_pairs _, rfl, ?_⟩
      rw [eqv_nil]
      have em : mayB (some r, as) (.deep a b d n) = !(as.map pairD).isEmpty := by
        show (decide (a = r) && decide (0 < as.length)) = _
        rw [ha]
        cases as <;> rfl
      rw [← em]
      exact k _ se
end
end OH
end
section
set_option Elab.async false
set_option linter.all false
set_option maxRecDepth 100000
set_option maxHeartbeats 8000000
/-! The law's judging of rows; control and asks behind a row, list or tuple. -/
namespace OH
open PySem PySem.Spec PyProof.Rows L2
def spBehindRowX : Sp := fun vs H Q _ => ∃ (l : Addr) (cs : List Crs), vs = [.ref l] ∧ RwX H l cs ∧ cs.length ≤ 1000 ∧
  ∀ u al' H', Same H H' → H u = none → H al' = none → H' u = some (.tup [optV (stt (none, []) cs).1, .ref al']) → AkAt H' al' (stt (none, []) cs).2 → Q (.ref u) H'
section
variable {P : Program} {w : World} {K : PySem.W.Frag} {mg : Str → Option Value} {base : Heap}
theorem ok__law_behind_rowX {f : Addr} {fd : FuncData} (F : Fun K "_law_behind_row" "_law_behind_row" s__law_behind_row f fd) (DB : DefF P w K mg base CX0 1 "_law_behind" ["control", "asks", "crossing"] (spBehind K)) : FnOk P w K mg base CX0 2 f fd ["row"] spBehindRowX := by
  refine F.ok sc__law_behind_row (fun vs H Q E h => ?_) (fun cdv A outer s H vs Q E hr h => ?_)
  · obtain ⟨l, cs, rfl, _⟩ := h
    rfl
  · obtain ⟨l, cs, rfl, hl, hn, k⟩ := h
    have nd := sc__law_behind_row.nd
    obtain ⟨ps, h1, h2⟩ := hl
    have lp := h2.len
    rcases h1 with h1 | h1
    case inl =>
      refine ⟨_, pss_cons (ps_par (i := 1) (j := 2) (by rfl) nd rfl rfl (by decide) rfl rfl (pa_cons pe_non (pa_cons (pe_lst pa_nil) pa_nil)) (by rfl))
        (pss_cons (ps_for PassesOwn.never rfl (pi_list (pv 0)) (pg_name (i := 3) nd rfl (Or.inl rfl))
          (pss_one (ps_asg (pe_cD DB hr rfl pass0 (pa_cons (pv 1) (pa_cons (pv 2) (pa_cons (pv 3) pa_nil)))) (pg_tup (by rfl) (pgs_cons (pg_name (i := 1) nd rfl (Or.inl rfl)) (pgs_cons (pg_name (i := 2) nd rfl (Or.inl rfl)) pgs_nil))))))
        (pss_one (ps_ret (pe_tup (pa_cons (pv 1) (pa_cons (pv 2) pa_nil)))))), ?_⟩
      refine ⟨(by show 0 ≤ sizeLine; decide), fun al nal => ⟨_, _, rfl, ?_⟩⟩
      have s1 := sadd (o := .lst []) (Same.refl H) nal
      have hal : upd H al (.lst []) al = some (.lst []) := upd_same
      generalize upd H al (.lst []) = H1 at s1 hal ⊢
      refine ⟨_, rfl, l, rfl, ⟨_, SqL.of (s1 _ _ h1)⟩, ?_⟩
      refine for_list (xs := ps.map V.ref) (fun i σ H' => ∃ (a : Addr) (o : Option V), σ = [some (.ref l), some (optV (stt (none, []) (cs.take i)).1), some (.ref a), o] ∧ Same H H' ∧ H a = none ∧ AkAt H' a (stt (none, []) (cs.take i)).2)
        ⟨al, none, rfl, s1, nal, ⟨[], hal, .nil⟩⟩ (fun i σ H' _ ⟨_, _, _, s, _⟩ => SqL.of (s _ _ h1)) ?turn ?done
      case done =>
        rintro σ H4 ⟨a, o, rfl, s4, na, ha⟩
        have e : cs.take (ps.map V.ref).length = cs := by rw [List.length_map, lp]; exact List.take_length
        rw [e] at ha ⊢
        refine ⟨_, rfl, _, rfl, (by show 2 ≤ sizeLine; decide), fun u nu => ?_⟩
        have s5 := sadd (o := .tup [optV (stt (none, []) cs).1, .ref a]) s4 nu
        exact k u a _ s5 (s4.free nu) na upd_same (ha.same (sadd (Same.refl H4) nu))
      case turn =>
        rintro i y σ H4 hy ⟨a, o, rfl, s4, na, ha⟩
        rw [List.getElem?_map] at hy
        obtain ⟨c, hc, rfl⟩ := Option.map_eq_some_iff.mp hy
        obtain ⟨x, hx⟩ : ∃ x, cs[i]? = some x := ⟨_, List.getElem?_eq_getElem (by rw [← lp]; exact (List.getElem?_eq_some_iff.mp hc).1)⟩
        obtain ⟨c', hc', hcx⟩ := h2.get hx
        rw [hc] at hc'
        cases hc'
        have tki : stt (none, []) (cs.take (i + 1)) = bh (stt (none, []) (cs.take i)) x := by rw [List.take_add_one, hx]; exact stt_snoc _ _ x
        have le := stt_len (cs.take i) (none, [])
        rw [List.length_take] at le
        have le0 : ([] : List (Int × Int)).length = 0 := rfl
        refine ⟨_, rfl, _, rfl, _, rfl, _, a, c, (stt (none, []) (cs.take i)).1, (stt (none, []) (cs.take i)).2, x, rfl, ha, s4 _ _ hcx, ?_, fun u al' H5 s5 nu na' hu ha' => ?_⟩
        · have h0 : ((none, []) : Rs).2.length = 0 := rfl
          omega
        · refine ⟨u, _, rfl, SqT.of hu, rfl, _, _, rfl, _, _, rfl, rfl, ?_⟩
          exact ⟨al', _, by rw [tki]; rfl, s4.trans s5, na'.elim (fun z => z ▸ na) (fun z => s4.free z), by rw [tki]; exact ha'⟩
    case inr =>
      refine ⟨_, pss_cons (ps_par (i := 1) (j := 2) (by rfl) nd rfl rfl (by decide) rfl rfl (pa_cons pe_non (pa_cons (pe_lst pa_nil) pa_nil)) (by rfl))
        (pss_cons (ps_for PassesOwn.never rfl (pi_tup (pv 0)) (pg_name (i := 3) nd rfl (Or.inl rfl))
          (pss_one (ps_asg (pe_cD DB hr rfl pass0 (pa_cons (pv 1) (pa_cons (pv 2) (pa_cons (pv 3) pa_nil)))) (pg_tup (by rfl) (pgs_cons (pg_name (i := 1) nd rfl (Or.inl rfl)) (pgs_cons (pg_name (i := 2) nd rfl (Or.inl rfl)) pgs_nil))))))
        (pss_one (ps_ret (pe_tup (pa_cons (pv 1) (pa_cons (pv 2) pa_nil)))))), ?_⟩
      refine ⟨(by show 0 ≤ sizeLine; decide), fun al nal => ⟨_, _, rfl, ?_⟩⟩
      have s1 := sadd (o := .lst []) (Same.refl H) nal
      have hal : upd H al (.lst []) al = some (.lst []) := upd_same
      generalize upd H al (.lst []) = H1 at s1 hal ⊢
      refine ⟨_, rfl, l, rfl, ⟨_, SqT.of (s1 _ _ h1)⟩, ?_⟩
      refine for_tup (xs := ps.map V.ref) (fun i σ H' => ∃ (a : Addr) (o : Option V), σ = [some (.ref l), some (optV (stt (none, []) (cs.take i)).1), some (.ref a), o] ∧ Same H H' ∧ H a = none ∧ AkAt H' a (stt (none, []) (cs.take i)).2)
        ⟨al, none, rfl, s1, nal, ⟨[], hal, .nil⟩⟩ (fun i σ H' _ ⟨_, _, _, s, _⟩ => SqT.of (s _ _ h1)) ?turn ?done
      case done =>
        rintro σ H4 ⟨a, o, rfl, s4, na, ha⟩
        have e : cs.take (ps.map V.ref).length = cs := by rw [List.length_map, lp]; exact List.take_length
        rw [e] at ha ⊢
        refine ⟨_, rfl, _, rfl, (by show 2 ≤ sizeLine; decide), fun u nu => ?_⟩
        have s5 := sadd (o := .tup [optV (stt (none, []) cs).1, .ref a]) s4 nu
        exact k u a _ s5 (s4.free nu) na upd_same (ha.same (sadd (Same.refl H4) nu))
      case turn =>
        rintro i y σ H4 hy ⟨a, o, rfl, s4, na, ha⟩
        rw [List.getElem?_map] at hy
        obtain ⟨c, hc, rfl⟩ := Option.map_eq_some_iff.mp hy
        obtain ⟨x, hx⟩ : ∃ x, cs[i]? = some x := ⟨_, List.getElem?_eq_getElem (by rw [← lp]; exact (List.getElem?_eq_some_iff.mp hc).1)⟩
        obtain ⟨c', hc', hcx⟩ := h2.get hx
        rw [hc] at hc'
        cases hc'
        have tki : stt (none, []) (cs.take (i + 1)) = bh (stt (none, []) (cs.take i)) x := by rw [List.take_add_one, hx]; exact stt_snoc _ _ x
        have le := stt_len (cs.take i) (none, [])
        rw [List.length_take] at le
        have le0 : ([] : List (Int × Int)).length = 0 := rfl
        refine ⟨_, rfl, _, rfl, _, rfl, _, a, c, (stt (none, []) (cs.take i)).1, (stt (none, []) (cs.take i)).2, x, rfl, ha, s4 _ _ hcx, ?_, fun u al' H5 s5 nu na' hu ha' => ?_⟩
        · have h0 : ((none, []) : Rs).2.length = 0 := rfl
          omega
        · refine ⟨u, _, rfl, SqT.of hu, rfl, _, _, rfl, _, _, rfl, rfl, ?_⟩
          exact ⟨al', _, by rw [tki]; rfl, s4.trans s5, na'.elim (fun z => z ▸ na) (fun z => s4.free z), by rw [tki]; exact ha'⟩
abbrev nJu : List Str := ["thing", "item", "control", "asks", "crossing"]
theorem sc__law_judged : FnScope nJu ["thing"] (defScope s__law_judged) := ⟨rfl, rfl, rfl, by decide +kernel, rfl, by decide +kernel, by decide +kernel⟩
theorem ok__law_judged {f : Addr} {fd : FuncData} (F : Fun K "_law_judged" "_law_judged" s__law_judged f fd) (T : Txt K mg) (DC : DefF P w K mg base CX0 3 "_law_is_crossing" ["thing"] spCross) (DM : DefF P w K mg base CX0 3 "_law_may_follow" ["control", "asks", "crossing"] spMay) (DB : DefF P w K mg base CX0 3 "_law_behind" ["control", "asks", "crossing"] (spBehind K)) : FnOk P w K mg base CX0 4 f fd ["thing"] spGoodX := by
  refine F.ok sc__law_judged (fun vs H Q E h => ?_) (fun cdv A outer s H vs Q E hr h => ?_)
  · obtain ⟨Z, v, r, rfl, _⟩ := h
    rfl
  · obtain ⟨Z, v, r, rfl, hv, k⟩ := h
    have nd := sc__law_judged.nd
    cases r with
    | oth =>
      refine ⟨_, pss_cons (ps_if (PW.pt (pw_or (pt_not (pt_val (pe_callB call_isiT (by rfl) T.nIsi (by decide +kernel) (pa_cons (pv 0) (pa_cons (pe_tup (pa_cons (pe_bltn (v := .ty "list") (by rfl) T.nList (by decide +kernel) rfl) (pa_cons (pe_bltn (v := .ty "tuple") (by rfl) T.nTuple (by decide +kernel) rfl) pa_nil))) pa_nil))))) (pw_or1 (pt_cmpR op_eq (pe_callB call_len_seq (by rfl) T.nLen PySem.boot_len (pa_cons (pv 0) pa_nil)) pe_int (nomark _))))) (pss_one (ps_ret pe_bl)) pss_nil)
      (pss_cons (ps_for PassesOwn.never rfl (pi_list (pv 0)) (pg_name (i := 1) nd rfl (Or.inl rfl))
        (pss_one (ps_if (pt_not (pt_val (pe_cD DC hr rfl pass0 (pa_cons (pv 1) pa_nil)))) (pss_one (ps_ret pe_bl)) pss_nil)))
      (pss_cons (ps_if (pt_cmpR op_ne (pe_ix ix_tup (pe_ix ix_list (pv 0) pe_int (fun _ _ => rfl)) pe_int (fun _ _ => rfl)) pe_str (nomark _)) (pss_one (ps_ret pe_bl)) pss_nil)
      (pss_cons (ps_par (i := 2) (j := 3) (by rfl) nd rfl rfl (by decide) rfl rfl (pa_cons pe_int (pa_cons (pe_lst pa_nil) pa_nil)) (by rfl))
      (pss_cons (ps_for PassesOwn.never rfl (pi_list (pe_slice sl_list (pv 0) (po_some pe_int) po_none)) (pg_name (i := 4) nd rfl (Or.inl rfl))
        (pss_cons (ps_if (pt_not (pt_val (pe_cD DM hr rfl pass0 (pa_cons (pv 2) (pa_cons (pv 3) (pa_cons (pv 4) pa_nil)))))) (pss_one (ps_ret pe_bl)) pss_nil)
      (pss_one (ps_asg (pe_cD DB hr rfl pass0 (pa_cons (pv 2) (pa_cons (pv 3) (pa_cons (pv 4) pa_nil)))) (pg_tup (by rfl) (pgs_cons (pg_name (i := 2) nd rfl (Or.inl rfl)) (pgs_cons (pg_name (i := 3) nd rfl (Or.inl rfl)) pgs_nil)))))))
      (pss_one (ps_ret pe_bl)))))), ?_⟩
      refine ⟨_, rfl, (by show 2 ≤ sizeLine; decide), fun tp ntp => ?_⟩
      have s1 := sadd (o := .tup [.ty "list", .ty "tuple"]) (Same.refl H) ntp
      have htp : upd H tp (.tup [.ty "list", .ty "tuple"]) tp = some (.tup [.ty "list", .ty "tuple"]) := upd_same
      generalize upd H tp (.tup [.ty "list", .ty "tuple"]) = H1 at s1 htp ⊢
      rcases hv with rfl | ⟨x, rfl⟩ | ⟨d, kvs, rfl, _, hd⟩
      · refine ⟨_, tp, _, _, _, _, rfl, htp, .cons (.ty _) (.cons (.ty _) .nil), .base .non, kitAny_cons (kit_ty (r := false) (by decide +kernel)) (fun _ => kitAny_cons (kit_ty (r := false) (by decide +kernel)) (fun _ => kitAny_nil) (fun z => nomatch z)) (fun z => nomatch z), _, rfl, iteT ?_⟩
        exact k _ s1
      · refine ⟨_, tp, _, _, _, _, rfl, htp, .cons (.ty _) (.cons (.ty _) .nil), .base (.str x), kitAny_cons (kit_ty (r := false) (by decide +kernel)) (fun _ => kitAny_cons (kit_ty (r := false) (by decide +kernel)) (fun _ => kitAny_nil) (fun z => nomatch z)) (fun z => nomatch z), _, rfl, iteT ?_⟩
        exact k _ s1
      · refine ⟨_, tp, _, _, _, _, rfl, htp, .cons (.ty _) (.cons (.ty _) .nil), .base (.dK (s1 _ _ hd)), kitAny_cons (kit_ty (r := false) (by decide +kernel)) (fun _ => kitAny_cons (kit_ty (r := false) (by decide +kernel)) (fun _ => kitAny_nil) (fun z => nomatch z)) (fun z => nomatch z), _, rfl, iteT ?_⟩
        exact k _ s1
    | seq cs =>
    obtain ⟨l, vs, rfl, _, h1, h2, hn⟩ := hv
    have lp := h2.len
    rcases h1 with h1 | h1
    case inl =>
      refine ⟨_, pss_cons (ps_if (PW.pt (pw_or (pt_not (pt_val (pe_callB call_isiT (by rfl) T.nIsi (by decide +kernel) (pa_cons (pv 0) (pa_cons (pe_tup (pa_cons (pe_bltn (v := .ty "list") (by rfl) T.nList (by decide +kernel) rfl) (pa_cons (pe_bltn (v := .ty "tuple") (by rfl) T.nTuple (by decide +kernel) rfl) pa_nil))) pa_nil))))) (pw_or1 (pt_cmpR op_eq (pe_callB call_len_seq (by rfl) T.nLen PySem.boot_len (pa_cons (pv 0) pa_nil)) pe_int (nomark _))))) (pss_one (ps_ret pe_bl)) pss_nil)
        (pss_cons (ps_for PassesOwn.never rfl (pi_list (pv 0)) (pg_name (i := 1) nd rfl (Or.inl rfl))
          (pss_one (ps_if (pt_not (pt_val (pe_cD DC hr rfl pass0 (pa_cons (pv 1) pa_nil)))) (pss_one (ps_ret pe_bl)) pss_nil)))
        (pss_cons (ps_if (pt_cmpR op_ne (pe_ix ix_tup (pe_ix ix_list (pv 0) pe_int (fun _ _ => rfl)) pe_int (fun _ _ => rfl)) pe_str (nomark _)) (pss_one (ps_ret pe_bl)) pss_nil)
        (pss_cons (ps_par (i := 2) (j := 3) (by rfl) nd rfl rfl (by decide) rfl rfl (pa_cons pe_int (pa_cons (pe_lst pa_nil) pa_nil)) (by rfl))
        (pss_cons (ps_for PassesOwn.never rfl (pi_list (pe_slice sl_list (pv 0) (po_some pe_int) po_none)) (pg_name (i := 4) nd rfl (Or.inl rfl))
          (pss_cons (ps_if (pt_not (pt_val (pe_cD DM hr rfl pass0 (pa_cons (pv 2) (pa_cons (pv 3) (pa_cons (pv 4) pa_nil)))))) (pss_one (ps_ret pe_bl)) pss_nil)
        (pss_one (ps_asg (pe_cD DB hr rfl pass0 (pa_cons (pv 2) (pa_cons (pv 3) (pa_cons (pv 4) pa_nil)))) (pg_tup (by rfl) (pgs_cons (pg_name (i := 2) nd rfl (Or.inl rfl)) (pgs_cons (pg_name (i := 3) nd rfl (Or.inl rfl)) pgs_nil)))))))
        (pss_one (ps_ret pe_bl)))))), ?_⟩
      refine ⟨_, rfl, (by show 2 ≤ sizeLine; decide), fun tp ntp => ?_⟩
      have s1 := sadd (o := .tup [.ty "list", .ty "tuple"]) (Same.refl H) ntp
      have htp : upd H tp (.tup [.ty "list", .ty "tuple"]) tp = some (.tup [.ty "list", .ty "tuple"]) := upd_same
      generalize upd H tp (.tup [.ty "list", .ty "tuple"]) = H1 at s1 htp ⊢
      have hl1 := s1 _ _ h1
      refine ⟨_, tp, _, _, _, _, rfl, htp, .cons (.ty _) (.cons (.ty _) .nil), .base (.lst hl1), kitAny_cons (kit_ty (r := true) (by decide +kernel)) (fun z => nomatch z) (fun _ => rfl), _, rfl, iteF ?_⟩
      refine ⟨_, rfl, l, _, rfl, .inl (SqL.of hl1), rfl, _, rfl, ?_⟩
      refine ite2 (fun q => ?_) (fun q => ?_)
      · have e0 : (vs.length : Int) = 0 := by simpa using q
        have e : cs = [] := by
          rw [lp] at e0
          exact List.length_eq_zero_iff.mp (by omega)
        subst e
        exact k H1 s1
      have e0 : ¬ (vs.length : Int) = 0 := by simpa using q
      refine ⟨_, rfl, l, rfl, ⟨_, SqL.of hl1⟩, ?_⟩
      refine for_list (xs := vs) (fun i σ H' => ∃ (o : Option V), σ = [some (.ref l), o, none, none, none] ∧ Same H1 H' ∧ (cs.take i).all lawC = true) ⟨none, rfl, Same.refl _, rfl⟩ (fun i σ H' _ ⟨o, _, s, _⟩ => SqL.of (s _ _ hl1)) ?turn ?done
      case turn =>
        rintro i y σ H4 hy ⟨o, rfl, s4, hal⟩
        obtain ⟨ci, hci, hcy⟩ := h2.get hy
        refine ⟨_, rfl, Z, y, ci, rfl, (hcy.same s1).same s4, fun H5 s5 => ?_⟩
        cases hlc : lawC ci with
        | false =>
          refine ⟨_, rfl, iteT ?_⟩
          have : cs.all lawC = false := List.all_eq_false.mpr ⟨ci, List.mem_of_getElem? hci, by rw [hlc]; exact Bool.false_ne_true⟩
          have k5 := k H5 ((s1.trans s4).trans s5)
          rw [law_none this] at k5
          exact k5
        | true =>
          refine ⟨_, rfl, iteF ?_⟩
          refine ⟨_, rfl, s4.trans s5, ?_⟩
          rw [List.take_add_one, hci, List.all_append, hal]
          show (true && (lawC ci && true)) = true
          rw [hlc]
          rfl
      case done =>
      rintro σ H4 ⟨o, rfl, s4, hal⟩
      rw [lp, List.take_length] at hal
      obtain ⟨xs, rfl, hf⟩ := law_all hal
      obtain ⟨ps, rfl, h3⟩ := h2.crs
      rw [goodRt_map, good_lawJ hf] at k
      have hl4 := s4 _ _ hl1
      have s14 := s1.trans s4
      have h34 := h3.mono fun q xs e => s14 _ _ e
      cases h34 with
      | nil => exact absurd rfl e0
      | @cons p x ps xs hx hxs =>
      refine ⟨_, rfl, l, _, 0, .ref p, rfl, rfl, SqL.of hl4, atI_nat (j := 0) rfl, p, _, 0, .str x.wd, rfl, rfl, SqT.of hx, by rw [Crs.vs_eq]; exact atI_nat (j := 0) rfl, rfl, _, rfl, ?_⟩
      have nos : (∀ n, x ≠ .start n) → (!decide (V.str x.wd = V.str "start")) = true ∧ lawJ (x :: xs) = false := fun h => by
        cases x with
        | start n => exact absurd rfl (h n)
        | call a b d n => exact ⟨by show (!decide (V.str "call" = V.str "start")) = true; decide +kernel, rfl⟩
        | back a b n => exact ⟨by show (!decide (V.str "back" = V.str "start")) = true; decide +kernel, rfl⟩
        | deep a b d n => exact ⟨by show (!decide (V.str "deep" = V.str "start")) = true; decide +kernel, rfl⟩
        | done n => exact ⟨by show (!decide (V.str "done" = V.str "start")) = true; decide +kernel, rfl⟩
        | fin a => exact ⟨by show (!decide (V.str "end" = V.str "start")) = true; decide +kernel, rfl⟩
      by_cases hst : ∃ n, x = .start n
      case neg =>
        obtain ⟨e1, e2⟩ := nos fun n e => hst ⟨n, e⟩
        rw [e1]
        rw [e2] at k
        exact iteT (k H4 s14)
      obtain ⟨n, rfl⟩ := hst
      clear nos
      refine iteF ?_
      refine ⟨(by show 0 ≤ sizeLine; decide), fun al nal => ⟨_, _, rfl, ?_⟩⟩
      have s5 := sadd (o := .lst []) s14 nal
      have b5 := sadd (o := .lst []) (Same.refl H4) nal
      have hal5 : upd H4 al (.lst []) al = some (.lst []) := upd_same
      have hl5 := b5 _ _ hl4
      have hxs5 := hxs.mono fun q xs e => b5 _ _ e
      generalize upd H4 al (.lst []) = H5 at s5 hal5 hl5 hxs5 ⊢
      refine ⟨_, rfl, _, rfl, l, _, rfl, SqL.of hl5, fun r nr => ?_⟩
      rw [show cutV ((p :: ps).map V.ref) (some 1) none = ps.map V.ref from cutV_tail1 _ _]
      have b6 := sadd (o := .lst (ps.map V.ref)) (Same.refl H5) nr
      have s6 := s5.trans b6
      have hr6 : upd H5 r (.lst (ps.map V.ref)) r = some (.lst (ps.map V.ref)) := upd_same
      have hal6 := b6 _ _ hal5
      have hxs6 := hxs5.mono fun q xs e => b6 _ _ e
      generalize upd H5 r (.lst (ps.map V.ref)) = H6 at s6 hr6 hal6 hxs6 ⊢
      refine ⟨r, rfl, ⟨_, SqL.of hr6⟩, ?_⟩
      have lps := hxs.len
      have lxs : xs.length ≤ 1000 := by rw [List.length_map] at hn; exact Nat.le_of_succ_le hn
      refine for_list (xs := ps.map V.ref) (fun i σ H' => ∃ (a : Addr) (o4 : Option V), σ = [some (.ref l), o, some (optV (stt (some 0, []) (xs.take i)).1), some (.ref a), o4] ∧ Same H6 H' ∧ AkAt H' a (stt (some 0, []) (xs.take i)).2 ∧ mayGo (some 0, []) xs = mayGo (stt (some 0, []) (xs.take i)) (xs.drop i))
        ⟨al, none, rfl, Same.refl _, ⟨[], hal6, .nil⟩, rfl⟩ (fun i σ H' _ ⟨_, _, _, s, _⟩ => SqL.of (s _ _ hr6)) ?turn2 ?done2
      case done2 =>
        rintro σ H7 ⟨a, o4, rfl, s7, _, eg⟩
        rw [List.length_map, lps, List.drop_length] at eg
        have k7 := k H7 (s6.trans s7)
        rw [show lawJ (.start n :: xs) = mayGo (some 0, []) xs from rfl, eg] at k7
        exact k7
      case turn2 =>
        rintro i y σ H7 hy ⟨a, o4, rfl, s7, ha, eg⟩
        rw [List.getElem?_map] at hy
        obtain ⟨c, hc, rfl⟩ := Option.map_eq_some_iff.mp hy
        obtain ⟨z, hz⟩ : ∃ z, xs[i]? = some z := ⟨_, List.getElem?_eq_getElem (by rw [← lps]; exact (List.getElem?_eq_some_iff.mp hc).1)⟩
        have hi := (List.getElem?_eq_some_iff.mp hz).1
        obtain ⟨c', hc', hcx⟩ := hxs6.get hz
        rw [hc] at hc'
        cases hc'
        have dr : xs.drop i = z :: xs.drop (i + 1) := by
          rw [List.drop_eq_getElem_cons hi, (List.getElem?_eq_some_iff.mp hz).2]
        have tki : stt (some 0, []) (xs.take (i + 1)) = bh (stt (some 0, []) (xs.take i)) z := by rw [List.take_add_one, hz]; exact stt_snoc _ _ z
        rw [dr] at eg
        have ll : (stt (some 0, []) (xs.take i)).2.length ≤ 100000 := by
          have := stt_len (xs.take i) (some 0, [])
          rw [List.length_take] at this
          have e0 : ((some 0, []) : Rs).2.length = 0 := rfl
          omega
        generalize hst : stt (some 0, []) (xs.take i) = st at ha eg ll tki ⊢
        refine ⟨_, rfl, _, rfl, _, rfl, a, c, st, z, rfl, ha, s7 _ _ hcx, ll, fun H8 s8 => ?_⟩
        cases hm : mayB st z with
        | false =>
          refine ⟨_, rfl, iteT ?_⟩
          have k8 := k H8 ((s6.trans s7).trans s8)
          have : mayGo st (z :: xs.drop (i + 1)) = false := by
            show (mayB st z && _) = false
            rw [hm]
            rfl
          rw [show lawJ (.start n :: xs) = mayGo (some 0, []) xs from rfl, eg, this] at k8
          exact k8
        | true =>
        refine ⟨_, rfl, iteF ?_⟩
        refine ⟨_, rfl, _, rfl, _, rfl, _, a, c, st.1, st.2, z, rfl, ha.same s8, (s7.trans s8) _ _ hcx, ll, fun u al' H9 s9 nu _ hu ha9 => ?_⟩
        refine ⟨u, _, rfl, SqT.of hu, rfl, _, _, rfl, _, _, rfl, rfl, ?_⟩
        refine ⟨al', _, by rw [tki]; rfl, (s7.trans s8).trans s9, by rw [tki]; exact ha9, ?_⟩
        rw [eg, tki]
        show (mayB st z && mayGo (bh st z) (xs.drop (i + 1))) = _
        rw [hm]
        rfl
    case inr =>
      refine ⟨_, pss_cons (ps_if (PW.pt (pw_or (pt_not (pt_val (pe_callB call_isiT (by rfl) T.nIsi (by decide +kernel) (pa_cons (pv 0) (pa_cons (pe_tup (pa_cons (pe_bltn (v := .ty "list") (by rfl) T.nList (by decide +kernel) rfl) (pa_cons (pe_bltn (v := .ty "tuple") (by rfl) T.nTuple (by decide +kernel) rfl) pa_nil))) pa_nil))))) (pw_or1 (pt_cmpR op_eq (pe_callB call_len_seq (by rfl) T.nLen PySem.boot_len (pa_cons (pv 0) pa_nil)) pe_int (nomark _))))) (pss_one (ps_ret pe_bl)) pss_nil)
        (pss_cons (ps_for PassesOwn.never rfl (pi_tup (pv 0)) (pg_name (i := 1) nd rfl (Or.inl rfl))
          (pss_one (ps_if (pt_not (pt_val (pe_cD DC hr rfl pass0 (pa_cons (pv 1) pa_nil)))) (pss_one (ps_ret pe_bl)) pss_nil)))
        (pss_cons (ps_if (pt_cmpR op_ne (pe_ix ix_tup (pe_ix ix_tup (pv 0) pe_int (fun _ _ => rfl)) pe_int (fun _ _ => rfl)) pe_str (nomark _)) (pss_one (ps_ret pe_bl)) pss_nil)
        (pss_cons (ps_par (i := 2) (j := 3) (by rfl) nd rfl rfl (by decide) rfl rfl (pa_cons pe_int (pa_cons (pe_lst pa_nil) pa_nil)) (by rfl))
        (pss_cons (ps_for PassesOwn.never rfl (pi_tup (pe_slice sl_tup (pv 0) (po_some pe_int) po_none)) (pg_name (i := 4) nd rfl (Or.inl rfl))
          (pss_cons (ps_if (pt_not (pt_val (pe_cD DM hr rfl pass0 (pa_cons (pv 2) (pa_cons (pv 3) (pa_cons (pv 4) pa_nil)))))) (pss_one (ps_ret pe_bl)) pss_nil)
        (pss_one (ps_asg (pe_cD DB hr rfl pass0 (pa_cons (pv 2) (pa_cons (pv 3) (pa_cons (pv 4) pa_nil)))) (pg_tup (by rfl) (pgs_cons (pg_name (i := 2) nd rfl (Or.inl rfl)) (pgs_cons (pg_name (i := 3) nd rfl (Or.inl rfl)) pgs_nil)))))))
        (pss_one (ps_ret pe_bl)))))), ?_⟩
      refine ⟨_, rfl, (by show 2 ≤ sizeLine; decide), fun tp ntp => ?_⟩
      have s1 := sadd (o := .tup [.ty "list", .ty "tuple"]) (Same.refl H) ntp
      have htp : upd H tp (.tup [.ty "list", .ty "tuple"]) tp = some (.tup [.ty "list", .ty "tuple"]) := upd_same
      generalize upd H tp (.tup [.ty "list", .ty "tuple"]) = H1 at s1 htp ⊢
      have hl1 := s1 _ _ h1
      refine ⟨_, tp, _, _, _, _, rfl, htp, .cons (.ty _) (.cons (.ty _) .nil), .base (.tup hl1), kitAny_cons (kit_ty (r := false) (by decide +kernel)) (fun _ => kitAny_cons (kit_ty (r := true) (by decide +kernel)) (fun z => nomatch z) (fun _ => rfl)) (fun z => nomatch z), _, rfl, iteF ?_⟩
      refine ⟨_, rfl, l, _, rfl, .inr (SqT.of hl1), rfl, _, rfl, ?_⟩
      refine ite2 (fun q => ?_) (fun q => ?_)
      · have e0 : (vs.length : Int) = 0 := by simpa using q
        have e : cs = [] := by
          rw [lp] at e0
          exact List.length_eq_zero_iff.mp (by omega)
        subst e
        exact k H1 s1
      have e0 : ¬ (vs.length : Int) = 0 := by simpa using q
      refine ⟨_, rfl, l, rfl, ⟨_, SqT.of hl1⟩, ?_⟩
      refine for_tup (xs := vs) (fun i σ H' => ∃ (o : Option V), σ = [some (.ref l), o, none, none, none] ∧ Same H1 H' ∧ (cs.take i).all lawC = true) ⟨none, rfl, Same.refl _, rfl⟩ (fun i σ H' _ ⟨o, _, s, _⟩ => SqT.of (s _ _ hl1)) ?turnA ?doneA
      case turnA =>
        rintro i y σ H4 hy ⟨o, rfl, s4, hal⟩
        obtain ⟨ci, hci, hcy⟩ := h2.get hy
        refine ⟨_, rfl, Z, y, ci, rfl, (hcy.same s1).same s4, fun H5 s5 => ?_⟩
        cases hlc : lawC ci with
        | false =>
          refine ⟨_, rfl, iteT ?_⟩
          have : cs.all lawC = false := List.all_eq_false.mpr ⟨ci, List.mem_of_getElem? hci, by rw [hlc]; exact Bool.false_ne_true⟩
          have k5 := k H5 ((s1.trans s4).trans s5)
          rw [law_none this] at k5
          exact k5
        | true =>
          refine ⟨_, rfl, iteF ?_⟩
          refine ⟨_, rfl, s4.trans s5, ?_⟩
          rw [List.take_add_one, hci, List.all_append, hal]
          show (true && (lawC ci && true)) = true
          rw [hlc]
          rfl
      case doneA =>
      rintro σ H4 ⟨o, rfl, s4, hal⟩
      rw [lp, List.take_length] at hal
      obtain ⟨xs, rfl, hf⟩ := law_all hal
      obtain ⟨ps, rfl, h3⟩ := h2.crs
      rw [goodRt_map, good_lawJ hf] at k
      have hl4 := s4 _ _ hl1
      have s14 := s1.trans s4
      have h34 := h3.mono fun q xs e => s14 _ _ e
      cases h34 with
      | nil => exact absurd rfl e0
      | @cons p x ps xs hx hxs =>
      refine ⟨_, rfl, l, _, 0, .ref p, rfl, rfl, SqT.of hl4, atI_nat (j := 0) rfl, p, _, 0, .str x.wd, rfl, rfl, SqT.of hx, by rw [Crs.vs_eq]; exact atI_nat (j := 0) rfl, rfl, _, rfl, ?_⟩
      have nos : (∀ n, x ≠ .start n) → (!decide (V.str x.wd = V.str "start")) = true ∧ lawJ (x :: xs) = false := fun h => by
        cases x with
        | start n => exact absurd rfl (h n)
        | call a b d n => exact ⟨by show (!decide (V.str "call" = V.str "start")) = true; decide +kernel, rfl⟩
        | back a b n => exact ⟨by show (!decide (V.str "back" = V.str "start")) = true; decide +kernel, rfl⟩
        | deep a b d n => exact ⟨by show (!decide (V.str "deep" = V.str "start")) = true; decide +kernel, rfl⟩
        | done n => exact ⟨by show (!decide (V.str "done" = V.str "start")) = true; decide +kernel, rfl⟩
        | fin a => exact ⟨by show (!decide (V.str "end" = V.str "start")) = true; decide +kernel, rfl⟩
      by_cases hst : ∃ n, x = .start n
      case neg =>
        obtain ⟨e1, e2⟩ := nos fun n e => hst ⟨n, e⟩
        rw [e1]
        rw [e2] at k
        exact iteT (k H4 s14)
      obtain ⟨n, rfl⟩ := hst
      clear nos
      refine iteF ?_
      refine ⟨(by show 0 ≤ sizeLine; decide), fun al nal => ⟨_, _, rfl, ?_⟩⟩
      have s5 := sadd (o := .lst []) s14 nal
      have b5 := sadd (o := .lst []) (Same.refl H4) nal
      have hal5 : upd H4 al (.lst []) al = some (.lst []) := upd_same
      have hl5 := b5 _ _ hl4
      have hxs5 := hxs.mono fun q xs e => b5 _ _ e
      generalize upd H4 al (.lst []) = H5 at s5 hal5 hl5 hxs5 ⊢
      refine ⟨_, rfl, _, rfl, l, _, rfl, SqT.of hl5, (fun z => by rw [List.map_cons, sIx_cons] at z; exact absurd z.1 (by decide)), fun r nr => ?_⟩
      rw [show cutV ((p :: ps).map V.ref) (some 1) none = ps.map V.ref from cutV_tail1 _ _]
      have b6 := sadd (o := .tup (ps.map V.ref)) (Same.refl H5) nr
      have s6 := s5.trans b6
      have hr6 : upd H5 r (.tup (ps.map V.ref)) r = some (.tup (ps.map V.ref)) := upd_same
      have hal6 := b6 _ _ hal5
      have hxs6 := hxs5.mono fun q xs e => b6 _ _ e
      generalize upd H5 r (.tup (ps.map V.ref)) = H6 at s6 hr6 hal6 hxs6 ⊢
      refine ⟨r, rfl, ⟨_, SqT.of hr6⟩, ?_⟩
      have lps := hxs.len
      have lxs : xs.length ≤ 1000 := by rw [List.length_map] at hn; exact Nat.le_of_succ_le hn
      refine for_tup (xs := ps.map V.ref) (fun i σ H' => ∃ (a : Addr) (o4 : Option V), σ = [some (.ref l), o, some (optV (stt (some 0, []) (xs.take i)).1), some (.ref a), o4] ∧ Same H6 H' ∧ AkAt H' a (stt (some 0, []) (xs.take i)).2 ∧ mayGo (some 0, []) xs = mayGo (stt (some 0, []) (xs.take i)) (xs.drop i))
        ⟨al, none, rfl, Same.refl _, ⟨[], hal6, .nil⟩, rfl⟩ (fun i σ H' _ ⟨_, _, _, s, _⟩ => SqT.of (s _ _ hr6)) ?turnB ?doneB
      case doneB =>
        rintro σ H7 ⟨a, o4, rfl, s7, _, eg⟩
        rw [List.length_map, lps, List.drop_length] at eg
        have k7 := k H7 (s6.trans s7)
        rw [show lawJ (.start n :: xs) = mayGo (some 0, []) xs from rfl, eg] at k7
        exact k7
      case turnB =>
        rintro i y σ H7 hy ⟨a, o4, rfl, s7, ha, eg⟩
        rw [List.getElem?_map] at hy
        obtain ⟨c, hc, rfl⟩ := Option.map_eq_some_iff.mp hy
        obtain ⟨z, hz⟩ : ∃ z, xs[i]? = some z := ⟨_, List.getElem?_eq_getElem (by rw [← lps]; exact (List.getElem?_eq_some_iff.mp hc).1)⟩
        have hi := (List.getElem?_eq_some_iff.mp hz).1
        obtain ⟨c', hc', hcx⟩ := hxs6.get hz
        rw [hc] at hc'
        cases hc'
        have dr : xs.drop i = z :: xs.drop (i + 1) := by
          rw [List.drop_eq_getElem_cons hi, (List.getElem?_eq_some_iff.mp hz).2]
        have tki : stt (some 0, []) (xs.take (i + 1)) = bh (stt (some 0, []) (xs.take i)) z := by rw [List.take_add_one, hz]; exact stt_snoc _ _ z
        rw [dr] at eg
        have ll : (stt (some 0, []) (xs.take i)).2.length ≤ 100000 := by
          have := stt_len (xs.take i) (some 0, [])
          rw [List.length_take] at this
          have e0 : ((some 0, []) : Rs).2.length = 0 := rfl
          omega
        generalize hst : stt (some 0, []) (xs.take i) = st at ha eg ll tki ⊢
        refine ⟨_, rfl, _, rfl, _, rfl, a, c, st, z, rfl, ha, s7 _ _ hcx, ll, fun H8 s8 => ?_⟩
        cases hm : mayB st z with
        | false =>
          refine ⟨_, rfl, iteT ?_⟩
          have k8 := k H8 ((s6.trans s7).trans s8)
          have : mayGo st (z :: xs.drop (i + 1)) = false := by
            show (mayB st z && _) = false
            rw [hm]
            rfl
          rw [show lawJ (.start n :: xs) = mayGo (some 0, []) xs from rfl, eg, this] at k8
          exact k8
        | true =>
        refine ⟨_, rfl, iteF ?_⟩
        refine ⟨_, rfl, _, rfl, _, rfl, _, a, c, st.1, st.2, z, rfl, ha.same s8, (s7.trans s8) _ _ hcx, ll, fun u al' H9 s9 nu _ hu ha9 => ?_⟩
        refine ⟨u, _, rfl, SqT.of hu, rfl, _, _, rfl, _, _, rfl, rfl, ?_⟩
        refine ⟨al', _, by rw [tki]; rfl, (s7.trans s8).trans s9, by rw [tki]; exact ha9, ?_⟩
        rw [eg, tki]
        show (mayB st z && mayGo (bh st z) (xs.drop (i + 1))) = _
        rw [hm]
        rfl
end
end OH
end
section
set_option Elab.async false
set_option linter.all false
set_option maxRecDepth 100000
set_option maxHeartbeats 8000000
/-! Whether rows fit, by the law. -/
namespace OH
open PySem PySem.Spec PyProof.Rows L2
/-- the rooms that the law looks at -/
def rooms : Crs → List Int
  | .fin a => [a]
  | .call a b _ _ => [a, b]
  | .back a b _ => [a, b]
  | .deep a b _ _ => [a, b]
  | _ => []
theorem rooms_bad {F : Fc} {w : Wk} {m : Int} (hF : F.Ok) (hI : CtlOk F w) {x : Crs} (hc : canC w x = true) (h : ∃ r ∈ rooms x, ((F.dor.length : Nat) : Int) ≤ r) : fitX F m x = false := by
  obtain ⟨r, hr, hl⟩ := h
  have hl' : (F.R : Int) ≤ r := hl
  cases x with
  | start n => exact absurd hr List.not_mem_nil
  | done n => exact absurd hr List.not_mem_nil
  | fin a =>
    rw [List.mem_singleton.mp hr] at hl'
    obtain ⟨q, _, hf, h0, h1⟩ := hI.own hc (fun _ z => by cases z)
    have e : a = q := of_decide_eq_true hf
    omega
  | back a b n =>
    obtain ⟨⟨a0, a1⟩, b0, b1⟩ := hI.back hc
    rcases List.mem_cons.mp hr with e | e
    · omega
    · rw [List.mem_singleton.mp e] at hl'
      omega
  | call a b d n =>
    obtain ⟨a0, a1⟩ := hI.call hc
    show (decide ((b, d) ∈ F.ws a.toNat) && _) = false
    rcases List.mem_cons.mp hr with e | e
    · omega
    · rw [List.mem_singleton.mp e] at hl'
      rw [decide_eq_false (fun z => by have := (wire_rng hF a0 a1 z).2.2.1; omega), Bool.false_and]
  | deep a b d n =>
    obtain ⟨a0, a1⟩ := hI.deep hc
    show (decide ((b, d) ∈ F.ws a.toNat) && _) = false
    rcases List.mem_cons.mp hr with e | e
    · omega
    · rw [List.mem_singleton.mp e] at hl'
      rw [decide_eq_false (fun z => by have := (wire_rng hF a0 a1 z).2.2.1; omega), Bool.false_and]
theorem fit_next {F : Fc} {w : Wk} {m : Int} (hI : CtlOk F w) {x : Crs} (hc : canC w x = true) (hf : fitX F m x = true) (h1 : m = (w.asks.length : Int)) (h2 : m ≤ F.dep) : (tk w x).over = false → mX m x = ((tk w x).asks.length : Int) ∧ mX m x ≤ F.dep := by
  intro ho
  cases x with
  | start n => exact ⟨h1, h2⟩
  | done n => cases ho
  | fin a => cases ho
  | deep a b d n => cases ho
  | call a b d n =>
    have h3 : (decide ((b, d) ∈ F.ws a.toNat) && !decide (m = F.dep)) = true := hf
    rw [Bool.and_eq_true, Bool.not_eq_true', decide_eq_false_iff_not] at h3
    refine ⟨?_, ?_⟩
    · show m + 1 = ((w.asks ++ [(a, b)]).length : Int)
      rw [List.length_append, h1]
      rfl
    · show m + 1 ≤ F.dep
      have := h3.2
      omega
  | back a b n =>
    obtain ⟨r, _, hfo, _⟩ := hI.own hc (fun _ z => by cases z)
    have hl := (fol_back hfo).1
    refine ⟨?_, ?_⟩
    · show m - 1 = ((w.asks.dropLast).length : Int)
      rw [List.length_dropLast, h1]
      omega
    · show m - 1 ≤ F.dep
      omega
theorem bh_asks (c : Option Int) (w : Wk) (x : Crs) : (bh (c, w.asks) x).2 = (tk w x).asks := by
  cases x <;> rfl
theorem shaped_ones (is : List Int) : SeqAt.shaped (.list (is.map .int)) = true := shaped_lst (k := 0) (by decide) fun d hd => by
  obtain ⟨a, _, rfl⟩ := List.mem_map.mp hd
  exact ⟨rfl, Nat.le_refl 0⟩
section
variable {P : Program} {w : World} {K : PySem.W.Frag} {mg : Str → Option Value} {base : Heap}
abbrev nFl : List Str := ["row", "face", "asks", "count", "crossing", "rooms", "room"]
theorem sc__law_fitting : FnScope nFl ["row", "face"] (defScope s__law_fitting) := ⟨rfl, rfl, rfl, by decide +kernel, rfl, by decide +kernel, by decide +kernel⟩
theorem ok__law_fitting {f : Addr} {fd : FuncData} (F : Fun K "_law_fitting" "_law_fitting" s__law_fitting f fd) (nLen : mg "len" = none) (nList : mg "list" = none) (DB : DefF P w K mg base CX0 3 "_law_behind" ["control", "asks", "crossing"] (spBehind K)) : FnOk P w K mg base CX0 4 f fd ["row", "face"] spFitsG := by
  refine F.ok sc__law_fitting (fun vs H Q E h => ?_) (fun cdv A outer s H vs Q E hr h => ?_)
  · obtain ⟨l, a, F, cs, rfl, _⟩ := h
    rfl
  · obtain ⟨l, a, F, cs, rfl, hl, hf, hg, hn, k⟩ := h
    have nd := sc__law_fitting.nd
    have hF := hf.ok
    have m6 := hF.m6
    obtain ⟨wt, dt, wps, b1, b2, b3, b4, b5⟩ := hf.ex
    obtain ⟨ps, h1, h2⟩ := hl
    have lp := h2.len
    have hgo : goodGo w0 cs = true := by
      unfold goodB at hg
      exact (Bool.and_eq_true_iff.mp hg).2
    rcases h1 with h1 | h1
    case inl =>
      refine ⟨_, pss_cons (ps_asg (pe_tup (pa_cons (pe_lst pa_nil) (pa_cons (pe_callB call_len_seq (by rfl) nLen PySem.boot_len (pa_cons (pe_ix ix_tup (pv 1) pe_int (fun _ _ => rfl)) pa_nil)) pa_nil))) (pg_tup (by rfl) (pgs_cons (pg_name (i := 2) nd rfl (Or.inl rfl)) (pgs_cons (pg_name (i := 3) nd rfl (Or.inr rfl)) pgs_nil))))
        (pss_cons (ps_for PassesOwn.never rfl (pi_list (pv 0)) (pg_name (i := 4) nd rfl (Or.inl rfl))
          (pss_cons (ps_set (i := 5) nd rfl (Or.inl rfl) (pe_up (pe_ifExp (pt_cmpR op_eq (pe_ix ix_tup (pv 4) pe_int (fun _ _ => rfl)) pe_str (nomark _)) (pe_lst (pa_cons (pe_ix ix_tup (pv 4) pe_int (fun _ _ => rfl)) pa_nil)) (pe_ifExp (pt_cmpR op_gt (pe_callB call_len_seq (by rfl) nLen PySem.boot_len (pa_cons (pv 4) pa_nil)) pe_int (nomark _)) (pe_callTy call_list_of (by rfl) nList (by decide +kernel) (pa_cons (pe_slice sl_tup (pv 4) (po_some pe_int) (po_some pe_int)) pa_nil)) (pe_lst pa_nil)))))
        (pss_cons (ps_if (pt_cmpR (op_neD hr.units) (pe_lc (own := [("room", 6)]) (g := gName 6) rfl nd (pi_list (pv 5)) (blkOk_by (own := [("room", 6)]) (N := nFl) (sc := defScope s__law_fitting) (by decide +kernel)) (fun _ _ _ _ _ => (pg_name (i := 6) nd rfl (Or.inl rfl))) (fun _ _ _ _ _ => pts_one (pt_cmpR op_ge (pv 6) (pv 3) (nomark _))) (fun _ _ _ _ _ => pe_int)) (pe_lst pa_nil) (nomark _)) (pss_one (ps_ret pe_bl)) pss_nil)
        (pss_cons (ps_up (ps_if (pt_cmpR op_in_seq (pe_ix ix_tup (pv 4) pe_int (fun _ _ => rfl)) (pe_lst (pa_cons pe_str (pa_cons pe_str pa_nil))) (by rfl)) (pss_cons (ps_if (pt_cmpR (op_notInDT (Room_u65 hr)) (pe_tup (pa_cons (pe_ix ix_tup (pv 4) pe_int (fun _ _ => rfl)) (pa_cons (pe_ix ix_tup (pv 4) pe_int (fun _ _ => rfl)) pa_nil))) (pe_ix ix_tup (pe_ix ix_tup (pv 1) pe_int (fun _ _ => rfl)) (pe_ix ix_tup (pv 4) pe_int (fun _ _ => rfl)) (fun _ _ => rfl)) (by rfl)) (pss_one (ps_ret pe_bl)) pss_nil)
        (pss_one (ps_if (PW.pt (pw_or (pt_cmpR op_ne (pe_cmpR op_lt (pe_callB call_len_seq (by rfl) nLen PySem.boot_len (pa_cons (pv 2) pa_nil)) (pe_ix ix_tup (pv 1) pe_int (fun _ _ => rfl)) (nomark _)) (pe_cmpR op_eq (pe_ix ix_tup (pv 4) pe_int (fun _ _ => rfl)) pe_str (nomark _)) (nomark _)) (pw_or1 (pt_cmpR op_gt (pe_callB call_len_seq (by rfl) nLen PySem.boot_len (pa_cons (pv 2) pa_nil)) (pe_ix ix_tup (pv 1) pe_int (fun _ _ => rfl)) (nomark _))))) (pss_one (ps_ret pe_bl)) pss_nil))) pss_nil))
        (pss_one (ps_set (i := 2) nd rfl (Or.inl rfl) (pe_ix ix_tup (pe_cD DB hr rfl pass0 (pa_cons pe_int (pa_cons (pv 2) (pa_cons (pv 4) pa_nil)))) pe_int (fun _ _ => rfl))))))))
        (pss_one (ps_ret pe_bl))), ?_⟩
      refine ⟨(by show 0 ≤ sizeLine; decide), fun al nal => ?_⟩
      have s1 := sadd (o := .lst []) (Same.refl H) nal
      have hal : upd H al (.lst []) al = some (.lst []) := upd_same
      generalize upd H al (.lst []) = H1 at s1 hal ⊢
      refine ⟨_, rfl, a, _, 2, _, rfl, rfl, SqT.of (s1 _ _ b1), rfl, dt, _, rfl, .inr (SqT.of (s1 _ _ b3)), (by show 2 ≤ sizeLine; decide), fun t0 n0 => ?_⟩
      rw [List.length_map]
      have b1x := sadd (o := .tup [.ref al, .int ((F.dor.length : Nat) : Int)]) (Same.refl H1) n0
      have f0 : upd H1 t0 (.tup [.ref al, .int ((F.dor.length : Nat) : Int)]) t0 = some (.tup [.ref al, .int ((F.dor.length : Nat) : Int)]) := upd_same
      replace s1 := s1.trans b1x
      replace hal := b1x _ _ hal
      generalize upd H1 t0 (.tup [.ref al, .int ((F.dor.length : Nat) : Int)]) = H1' at s1 f0 hal ⊢
      refine ⟨t0, _, rfl, SqT.of f0, rfl, _, _, rfl, _, _, rfl, rfl, ?_⟩
      refine ⟨_, rfl, l, rfl, ⟨_, SqL.of (s1 _ _ h1)⟩, ?_⟩
      refine for_list (xs := ps.map V.ref) (fun i σ H' => ∃ (al' : Addr) (o4 o5 : Option V) (m : Int), σ = [some (.ref l), some (.ref a), some (.ref al'), some (.int ((F.dor.length : Nat) : Int)), o4, o5, none] ∧ Same H H' ∧ AkAt H' al' (wk w0 (cs.take i)).asks ∧ CtlOk F (wk w0 (cs.take i)) ∧
          ((wk w0 (cs.take i)).over = false → m = ((wk w0 (cs.take i)).asks.length : Int) ∧ m ≤ F.dep) ∧ fitGo F 0 cs = fitGo F m (cs.drop i))
        ⟨al, none, none, 0, rfl, s1, ⟨[], hal, .nil⟩, CtlOk.init F, fun _ => ⟨rfl, by have := hF.d1; omega⟩, rfl⟩ (fun i σ H' _ ⟨_, _, _, _, _, s, _⟩ => SqL.of (s _ _ h1)) ?turnlist ?donelist
      case donelist =>
        rintro σ H4 ⟨al', o4, o5, m, rfl, s4, _, _, _, e⟩
        rw [List.length_map, lp, List.drop_length] at e
        have k4 := k H4 s4
        rw [e] at k4
        exact k4
      case turnlist =>
        rintro i y σ H4 hy ⟨al', o4, o5, m, rfl, s4, hak, hI, hM, eg⟩
        rw [List.getElem?_map] at hy
        obtain ⟨c, hc, rfl⟩ := Option.map_eq_some_iff.mp hy
        have hi : i < cs.length := by rw [← lp]; exact (List.getElem?_eq_some_iff.mp hc).1
        obtain ⟨x, hx⟩ : ∃ x, cs[i]? = some x := ⟨_, List.getElem?_eq_getElem hi⟩
        obtain ⟨c', hc', hcx⟩ := h2.get hx
        rw [hc] at hc'
        cases hc'
        have hc4 := s4 _ _ hcx
        have dr : cs.drop i = x :: cs.drop (i + 1) := by
          have := List.getElem?_eq_some_iff.mp hx
          rw [List.drop_eq_getElem_cons hi, this.2]
        have tki : cs.take (i + 1) = cs.take i ++ [x] := by rw [List.take_add_one, hx]; rfl
        have hcan : canC (wk w0 (cs.take i)) x = true := by
          have hg := hgo
          rw [(List.take_append_drop i cs).symm, goodGo_app, dr] at hg
          exact (Bool.and_eq_true_iff.mp (Bool.and_eq_true_iff.mp hg).2).1
        have lw : (wk w0 (cs.take i)).asks.length ≤ 100000 := by
          have := wk_len (cs.take i) w0
          rw [List.length_take] at this
          have e0 : w0.asks.length = 0 := rfl
          omega
        rw [dr] at eg
        have bad : fitX F m x = false → ∀ H5, Same H H5 → Q (.bl false) H5 := fun e H5 s5 => by
          have k5 := k H5 s5
          rw [eg] at k5
          have : fitGo F m (x :: cs.drop (i + 1)) = false := by
            show (fitX F m x && _) = false
            rw [e]
            rfl
          rw [this] at k5
          exact k5
        rw [tki, wk_snoc]
        obtain ⟨hm1, hm2⟩ := hM (canC_live hcan)
        generalize wk w0 (cs.take i) = st at hak hI hcan hm1 lw ⊢
        have nx : fitX F m x = true → CtlOk F (tk st x) ∧ ((tk st x).over = false → mX m x = ((tk st x).asks.length : Int) ∧ mX m x ≤ F.dep) ∧ fitGo F 0 cs = fitGo F (mX m x) (cs.drop (i + 1)) := fun e => ⟨hI.step hF hcan e, fit_next hI hcan e hm1 hm2, by
          rw [eg]
          show (fitX F m x && fitGo F (mX m x) (cs.drop (i + 1))) = _
          rw [e]
          rfl⟩
        have T4 : ∀ {H5 : Hp}, Same H4 H5 → SqT K H5 c x.vs := fun s => SqT.of (s _ _ hc4)
        -- the rooms
        refine ⟨fun v H5 => ∃ rl, v = .ref rl ∧ Same H4 H5 ∧ H5 rl = some (.lst ((rooms x).map V.int)), ?_, ?_⟩
        · cases x with
          | start n =>
            refine ⟨_, rfl, c, _, 0, _, rfl, rfl, T4 (Same.refl _), rfl, rfl, _, rfl, iteF ?_⟩
            refine ⟨_, rfl, c, _, rfl, .inr (T4 (Same.refl _)), _, _, rfl, rfl, _, rfl, iteF ?_⟩
            exact ⟨(by show 0 ≤ sizeLine; decide), fun rl nrl => ⟨rl, rfl, sadd (Same.refl H4) nrl, upd_same⟩⟩
          | done n =>
            refine ⟨_, rfl, c, _, 0, _, rfl, rfl, T4 (Same.refl _), rfl, rfl, _, rfl, iteF ?_⟩
            refine ⟨_, rfl, c, _, rfl, .inr (T4 (Same.refl _)), _, _, rfl, rfl, _, rfl, iteF ?_⟩
            exact ⟨(by show 0 ≤ sizeLine; decide), fun rl nrl => ⟨rl, rfl, sadd (Same.refl H4) nrl, upd_same⟩⟩
          | fin n =>
            refine ⟨_, rfl, c, _, 0, _, rfl, rfl, T4 (Same.refl _), rfl, rfl, _, rfl, iteT ?_⟩
            refine ⟨_, rfl, c, _, 1, _, rfl, rfl, T4 (Same.refl _), rfl, (by show 1 ≤ sizeLine; decide), fun rl nrl => ⟨rl, rfl, sadd (Same.refl H4) nrl, upd_same⟩⟩
          | back p b n =>
            refine ⟨_, rfl, c, _, 0, _, rfl, rfl, T4 (Same.refl _), rfl, rfl, _, rfl, iteF ?_⟩
            refine ⟨_, rfl, c, _, rfl, .inr (T4 (Same.refl _)), _, _, rfl, rfl, _, rfl, iteT ?_⟩
            refine ⟨_, rfl, _, rfl, _, rfl, c, _, rfl, T4 (Same.refl _), (fun z => absurd z.1 (by show ¬ HT.sIx 4 0 (some 1) = 0; decide)), fun t nt => ?_⟩
            have s5 := sadd (o := .tup (cutV ([.str "back", .int p, .int b, .int n] : List V) (some 1) (some 3))) (Same.refl H4) nt
            refine ⟨t, _, rfl, .inr (SqT.of upd_same), fun rl nrl => ⟨rl, rfl, sadd s5 nrl, ?_⟩⟩
            rw [upd_same]
            rfl
          | call p b d n =>
            refine ⟨_, rfl, c, _, 0, _, rfl, rfl, T4 (Same.refl _), rfl, rfl, _, rfl, iteF ?_⟩
            refine ⟨_, rfl, c, _, rfl, .inr (T4 (Same.refl _)), _, _, rfl, rfl, _, rfl, iteT ?_⟩
            refine ⟨_, rfl, _, rfl, _, rfl, c, _, rfl, T4 (Same.refl _), (fun z => absurd z.1 (by show ¬ HT.sIx 5 0 (some 1) = 0; decide)), fun t nt => ?_⟩
            have s5 := sadd (o := .tup (cutV ([.str "call", .int p, .int b, .int d, .int n] : List V) (some 1) (some 3))) (Same.refl H4) nt
            refine ⟨t, _, rfl, .inr (SqT.of upd_same), fun rl nrl => ⟨rl, rfl, sadd s5 nrl, ?_⟩⟩
            rw [upd_same]
            rfl
          | deep p b d n =>
            refine ⟨_, rfl, c, _, 0, _, rfl, rfl, T4 (Same.refl _), rfl, rfl, _, rfl, iteF ?_⟩
            refine ⟨_, rfl, c, _, rfl, .inr (T4 (Same.refl _)), _, _, rfl, rfl, _, rfl, iteT ?_⟩
            refine ⟨_, rfl, _, rfl, _, rfl, c, _, rfl, T4 (Same.refl _), (fun z => absurd z.1 (by show ¬ HT.sIx 5 0 (some 1) = 0; decide)), fun t nt => ?_⟩
            have s5 := sadd (o := .tup (cutV ([.str "deep", .int p, .int b, .int d, .int n] : List V) (some 1) (some 3))) (Same.refl H4) nt
            refine ⟨t, _, rfl, .inr (SqT.of upd_same), fun rl nrl => ⟨rl, rfl, sadd s5 nrl, ?_⟩⟩
            rw [upd_same]
            rfl
        rintro v H5 ⟨rl, rfl, s5, hrl⟩
        refine ⟨_, rfl, rl, rfl, ⟨_, SqL.of hrl⟩, fun D nD => ?_⟩
        refine lc_list (K := K) (a := rl) (xs := (rooms x).map V.int) (fun i H' => Same H5 H' ∧ H' D = some (.lst ((List.replicate (((rooms x).take i).countP fun r => decide (((F.dor.length : Nat) : Int) ≤ r)) (1 : Int)).map V.int))) ⟨sadd (Same.refl H5) nD, upd_same⟩ (fun i H' _ ⟨s, _⟩ => SqL.of (s _ _ hrl)) ?trlist ?drlist
        case trlist =>
          rintro j v H6 hv ⟨s6, hD⟩
          rw [List.getElem?_map] at hv
          obtain ⟨r, hr0, rfl⟩ := Option.map_eq_some_iff.mp hv
          have lr : j < (rooms x).length := (List.getElem?_eq_some_iff.mp hr0).1
          have l2 : (rooms x).length ≤ 2 := by cases x <;> simp [rooms]
          refine ⟨rfl, ?_⟩
          refine ⟨_, rfl, _, rfl, _, _, rfl, rfl, _, rfl, ?_⟩
          refine ite2 (fun q => ?_) (fun q => ?_)
          · refine ⟨_, hD, ?_, sout s6 nD, ?_⟩
            · rw [List.length_map, List.length_replicate, sizeLine_eq]
              have := List.countP_le_length (p := fun r => decide (((F.dor.length : Nat) : Int) ≤ r)) (l := (rooms x).take j)
              rw [List.length_take] at this
              omega
            · rw [upd_same, List.take_add_one, hr0, List.countP_append]
              show _ = some (HO.lst ((List.replicate (_ + List.countP _ [r]) (1 : Int)).map V.int))
              rw [List.countP_singleton, if_pos q, List.replicate_succ', List.map_append]
              rfl
          · refine ⟨s6, ?_⟩
            rw [List.take_add_one, hr0, List.countP_append]
            show _ = some (HO.lst ((List.replicate (_ + List.countP _ [r]) (1 : Int)).map V.int))
            rw [List.countP_singleton, if_neg q]
            exact hD
        case drlist =>
        rintro H6 ⟨s6, hD⟩
        rw [List.length_map, List.take_length] at hD
        refine ⟨(by show 0 ≤ sizeLine; decide), fun e ne => ?_⟩
        have se := sadd (o := .lst []) (Same.refl H6) ne
        refine ⟨.list ((List.replicate _ (1 : Int)).map .int), .list [], .lst (SqL.of (se _ _ hD)) (intsDp _), .lst (SqL.of upd_same) .nil, shaped_ones _, rfl, _, rfl, ?_⟩
        have s47 : Same H4 (upd H6 e (.lst [])) := (s5.trans s6).trans se
        rw [eqv_nil]
        generalize upd H6 e (.lst []) = H7 at s47 ⊢
        clear hD hrl se
        by_cases hbig : ∃ r ∈ rooms x, ((F.dor.length : Nat) : Int) ≤ r
        case pos =>
          have ec : ((List.replicate ((rooms x).countP fun r => decide (((F.dor.length : Nat) : Int) ≤ r)) (1 : Int)).map PyData.int).isEmpty = false := by
            obtain ⟨r, h1, h2⟩ := hbig
            have := (List.countP_pos_iff (p := fun r => decide (((F.dor.length : Nat) : Int) ≤ r))).mpr ⟨r, h1, decide_eq_true h2⟩
            cases e : (rooms x).countP fun r => decide (((F.dor.length : Nat) : Int) ≤ r) with
            | zero => rw [e] at this; exact absurd this (Nat.lt_irrefl 0)
            | succ n => rfl
          rw [ec]
          exact iteT (bad (rooms_bad hF hI hcan hbig) _ (s4.trans s47))
        have ec : ((List.replicate ((rooms x).countP fun r => decide (((F.dor.length : Nat) : Int) ≤ r)) (1 : Int)).map PyData.int).isEmpty = true := by
          have : (rooms x).countP (fun r => decide (((F.dor.length : Nat) : Int) ≤ r)) = 0 := List.countP_eq_zero.mpr fun r h1 h2 => hbig ⟨r, h1, of_decide_eq_true h2⟩
          rw [this]
          rfl
        rw [ec]
        refine iteF ?_
        have hc7 := s47 _ _ hc4
        have T7 : ∀ {H8 : Hp}, Same H7 H8 → SqT K H8 c x.vs := fun s => SqT.of (s _ _ hc7)
        have hak7 := hak.same s47
        have s7 := s4.trans s47
        clear hak hc4 T4 s47 s6 s5 ec
        refine ⟨fun σ' H8 => σ' = [some (.ref l), some (.ref a), some (.ref al'), some (.int ((F.dor.length : Nat) : Int)), some (.ref c), some (.ref rl), none] ∧ Same H7 H8 ∧ fitX F m x = true, ?_, ?_⟩
        · refine ⟨_, rfl, c, _, 0, .str x.wd, rfl, rfl, T7 (Same.refl _), by rw [Crs.vs_eq]; exact atI_nat (j := 0) rfl, (by show 2 ≤ sizeLine; decide), fun wl nwl => ⟨wl, _, rfl, .inl (SqL.of upd_same), rfl, rfl, _, rfl, ?_⟩⟩
          have s8 := sadd (o := .lst [.str "call", .str "deep"]) (Same.refl H7) nwl
          generalize upd H7 wl (.lst [.str "call", .str "deep"]) = H8 at s8 ⊢
          cases x with
          | start n =>
            refine ite2 (fun q => absurd q (by show ¬ inV (V.str "start") [V.str "call", V.str "deep"] = true; decide +kernel)) (fun _ => ?_)
            exact ⟨rfl, s8, rfl⟩
          | done n =>
            refine ite2 (fun q => absurd q (by show ¬ inV (V.str "done") [V.str "call", V.str "deep"] = true; decide +kernel)) (fun _ => ?_)
            exact ⟨rfl, s8, rfl⟩
          | fin n =>
            refine ite2 (fun q => absurd q (by show ¬ inV (V.str "end") [V.str "call", V.str "deep"] = true; decide +kernel)) (fun _ => ?_)
            exact ⟨rfl, s8, rfl⟩
          | back p b n =>
            refine ite2 (fun q => absurd q (by show ¬ inV (V.str "back") [V.str "call", V.str "deep"] = true; decide +kernel)) (fun _ => ?_)
            exact ⟨rfl, s8, rfl⟩
          | call p b d n =>
            refine ite2 (fun _ => ?_) (fun q => absurd (show inV (V.str "call") [V.str "call", V.str "deep"] = true by decide +kernel) q)
            obtain ⟨q0, q1⟩ := hI.call hcan
            refine ⟨_, rfl, c, _, 2, _, rfl, rfl, T7 s8, rfl, _, rfl, c, _, 3, _, rfl, rfl, T7 s8, rfl, (by show 2 ≤ sizeLine; decide), fun t nt => ?_⟩
            have s9 := sadd (o := .tup [.int b, .int d]) s8 nt
            have ht : upd H8 t (.tup [.int b, .int d]) t = some (.tup [.int b, .int d]) := upd_same
            generalize upd H8 t (.tup [.int b, .int d]) = H9 at s9 ht ⊢
            have s09 := s7.trans s9
            obtain ⟨wp, hwp⟩ : ∃ wp, wps[p.toNat]? = some wp := ⟨_, List.getElem?_eq_getElem (by rw [b4]; omega)⟩
            obtain ⟨qs, p1, p2⟩ := b5 _ _ hwp
            have at1 : atI (wps.map V.ref) p = some (.ref wp) := by
              have := atI_nat (xs := wps.map V.ref) (j := p.toNat) (v := .ref wp) (by rw [List.getElem?_map, hwp]; rfl)
              rw [Int.toNat_of_nonneg q0] at this
              exact this
            refine ⟨_, rfl, a, _, 1, _, rfl, rfl, SqT.of (s09 _ _ b1), rfl, _, rfl, c, _, 1, _, rfl, rfl, T7 s9, rfl, wt, _, p, _, rfl, rfl, SqT.of (s09 _ _ b2), at1, ?_⟩
            refine ⟨pairD (b, d), (F.ws p.toNat).map pairD, .tup (SqT.of ht) (.cons (.int _) (.cons (.int _) .nil)), .tup (SqT.of (s09 _ _ p1)) ((p2.mono fun q xs e => s09 _ _ e).dp), shaped_pair _ _, shaped_pairs _, ?_⟩
            rw [any_pair]
            cases hd : decide ((b, d) ∈ F.ws p.toNat) with
            | false =>
              refine ⟨_, rfl, iteT (bad ?_ H9 s09)⟩
              show (decide ((b, d) ∈ F.ws p.toNat) && _) = false
              rw [hd]
              rfl
            | true =>
            refine ⟨_, rfl, iteF ?_⟩
            obtain ⟨aps, a1, a2⟩ := hak7.same s9
            have la := a2.len
            refine ⟨_, rfl, al', _, rfl, .inl (SqL.of a1), _, rfl, a, _, 0, _, rfl, rfl, SqT.of (s09 _ _ b1), rfl, _, _, rfl, rfl, _, rfl, c, _, 0, _, rfl, rfl, T7 s9, rfl, rfl, rfl, _, rfl, ?_⟩
            rw [List.length_map, la]
            cases hm : decide (m = F.dep) with
            | true =>
              have e1 : decide ((st.asks.length : Int) < F.dep) = false := decide_eq_false (by have := of_decide_eq_true hm; omega)
              have e2 : (!decide (V.bl (decide ((st.asks.length : Int) < F.dep)) = V.bl (decide (V.str "call" = V.str "call")))) = true := by rw [e1]; decide +kernel
              refine ite2 (fun _ => iteT (bad ?_ H9 s09)) (fun q => absurd e2 q)
              show (decide ((b, d) ∈ F.ws p.toNat) && !decide (m = F.dep)) = false
              rw [hd, hm]
              rfl
            | false =>
              have e1 : decide ((st.asks.length : Int) < F.dep) = true := decide_eq_true (by have := of_decide_eq_false hm; omega)
              have e2 : (!decide (V.bl (decide ((st.asks.length : Int) < F.dep)) = V.bl (decide (V.str "call" = V.str "call")))) = false := by rw [e1]; decide +kernel
              refine ite2 (fun q => ?_) (fun _ => ?_)
              · have q' : (!decide (V.bl (decide ((st.asks.length : Int) < F.dep)) = V.bl (decide (V.str "call" = V.str "call")))) = true := q
                rw [e2] at q'
                cases q'
              refine ⟨_, rfl, al', _, rfl, .inl (SqL.of a1), _, rfl, a, _, 0, _, rfl, rfl, SqT.of (s09 _ _ b1), rfl, _, _, rfl, rfl, _, rfl, ?_⟩
              rw [List.length_map, la]
              refine ite2 (fun q => absurd (of_decide_eq_true q) (by omega)) (fun _ => ?_)
              refine ⟨rfl, s9, ?_⟩
              show (decide ((b, d) ∈ F.ws p.toNat) && !decide (m = F.dep)) = true
              rw [hd, hm]
              rfl
          | deep p b d n =>
            refine ite2 (fun _ => ?_) (fun q => absurd (show inV (V.str "deep") [V.str "call", V.str "deep"] = true by decide +kernel) q)
            obtain ⟨q0, q1⟩ := hI.deep hcan
            refine ⟨_, rfl, c, _, 2, _, rfl, rfl, T7 s8, rfl, _, rfl, c, _, 3, _, rfl, rfl, T7 s8, rfl, (by show 2 ≤ sizeLine; decide), fun t nt => ?_⟩
            have s9 := sadd (o := .tup [.int b, .int d]) s8 nt
            have ht : upd H8 t (.tup [.int b, .int d]) t = some (.tup [.int b, .int d]) := upd_same
            generalize upd H8 t (.tup [.int b, .int d]) = H9 at s9 ht ⊢
            have s09 := s7.trans s9
            obtain ⟨wp, hwp⟩ : ∃ wp, wps[p.toNat]? = some wp := ⟨_, List.getElem?_eq_getElem (by rw [b4]; omega)⟩
            obtain ⟨qs, p1, p2⟩ := b5 _ _ hwp
            have at1 : atI (wps.map V.ref) p = some (.ref wp) := by
              have := atI_nat (xs := wps.map V.ref) (j := p.toNat) (v := .ref wp) (by rw [List.getElem?_map, hwp]; rfl)
              rw [Int.toNat_of_nonneg q0] at this
              exact this
            refine ⟨_, rfl, a, _, 1, _, rfl, rfl, SqT.of (s09 _ _ b1), rfl, _, rfl, c, _, 1, _, rfl, rfl, T7 s9, rfl, wt, _, p, _, rfl, rfl, SqT.of (s09 _ _ b2), at1, ?_⟩
            refine ⟨pairD (b, d), (F.ws p.toNat).map pairD, .tup (SqT.of ht) (.cons (.int _) (.cons (.int _) .nil)), .tup (SqT.of (s09 _ _ p1)) ((p2.mono fun q xs e => s09 _ _ e).dp), shaped_pair _ _, shaped_pairs _, ?_⟩
            rw [any_pair]
            cases hd : decide ((b, d) ∈ F.ws p.toNat) with
            | false =>
              refine ⟨_, rfl, iteT (bad ?_ H9 s09)⟩
              show (decide ((b, d) ∈ F.ws p.toNat) && _) = false
              rw [hd]
              rfl
            | true =>
            refine ⟨_, rfl, iteF ?_⟩
            obtain ⟨aps, a1, a2⟩ := hak7.same s9
            have la := a2.len
            refine ⟨_, rfl, al', _, rfl, .inl (SqL.of a1), _, rfl, a, _, 0, _, rfl, rfl, SqT.of (s09 _ _ b1), rfl, _, _, rfl, rfl, _, rfl, c, _, 0, _, rfl, rfl, T7 s9, rfl, rfl, rfl, _, rfl, ?_⟩
            rw [List.length_map, la]
            cases hm : decide (m = F.dep) with
            | false =>
              have e1 : decide ((st.asks.length : Int) < F.dep) = true := decide_eq_true (by have := of_decide_eq_false hm; omega)
              have e2 : (!decide (V.bl (decide ((st.asks.length : Int) < F.dep)) = V.bl (decide (V.str "deep" = V.str "call")))) = true := by rw [e1]; decide +kernel
              refine ite2 (fun _ => iteT (bad ?_ H9 s09)) (fun q => absurd e2 q)
              show (decide ((b, d) ∈ F.ws p.toNat) && decide (m = F.dep)) = false
              rw [hd, hm]
              rfl
            | true =>
              have e1 : decide ((st.asks.length : Int) < F.dep) = false := decide_eq_false (by have := of_decide_eq_true hm; omega)
              have e2 : (!decide (V.bl (decide ((st.asks.length : Int) < F.dep)) = V.bl (decide (V.str "deep" = V.str "call")))) = false := by rw [e1]; decide +kernel
              refine ite2 (fun q => ?_) (fun _ => ?_)
              · have q' : (!decide (V.bl (decide ((st.asks.length : Int) < F.dep)) = V.bl (decide (V.str "deep" = V.str "call")))) = true := q
                rw [e2] at q'
                cases q'
              refine ⟨_, rfl, al', _, rfl, .inl (SqL.of a1), _, rfl, a, _, 0, _, rfl, rfl, SqT.of (s09 _ _ b1), rfl, _, _, rfl, rfl, _, rfl, ?_⟩
              rw [List.length_map, la]
              refine ite2 (fun q => absurd (of_decide_eq_true q) (by omega)) (fun _ => ?_)
              refine ⟨rfl, s9, ?_⟩
              show (decide ((b, d) ∈ F.ws p.toNat) && decide (m = F.dep)) = true
              rw [hd, hm]
              rfl
        rintro σ' H8 ⟨rfl, s8, hfx⟩
        obtain ⟨n1, n2, n3⟩ := nx hfx
        refine ⟨_, rfl, _, rfl, .int 0, al', c, some 0, st.asks, x, rfl, hak7.same s8, s8 _ _ hc7, lw, fun u al2 H9 s9 nu _ hu hak9 => ⟨u, _, 1, _, rfl, rfl, SqT.of hu, rfl, ?_⟩⟩
        rw [bh_asks] at hak9
        exact ⟨al2, _, _, _, rfl, (s7.trans s8).trans s9, hak9, n1, n2, n3⟩
    case inr =>
      refine ⟨_, pss_cons (ps_asg (pe_tup (pa_cons (pe_lst pa_nil) (pa_cons (pe_callB call_len_seq (by rfl) nLen PySem.boot_len (pa_cons (pe_ix ix_tup (pv 1) pe_int (fun _ _ => rfl)) pa_nil)) pa_nil))) (pg_tup (by rfl) (pgs_cons (pg_name (i := 2) nd rfl (Or.inl rfl)) (pgs_cons (pg_name (i := 3) nd rfl (Or.inr rfl)) pgs_nil))))
        (pss_cons (ps_for PassesOwn.never rfl (pi_tup (pv 0)) (pg_name (i := 4) nd rfl (Or.inl rfl))
          (pss_cons (ps_set (i := 5) nd rfl (Or.inl rfl) (pe_up (pe_ifExp (pt_cmpR op_eq (pe_ix ix_tup (pv 4) pe_int (fun _ _ => rfl)) pe_str (nomark _)) (pe_lst (pa_cons (pe_ix ix_tup (pv 4) pe_int (fun _ _ => rfl)) pa_nil)) (pe_ifExp (pt_cmpR op_gt (pe_callB call_len_seq (by rfl) nLen PySem.boot_len (pa_cons (pv 4) pa_nil)) pe_int (nomark _)) (pe_callTy call_list_of (by rfl) nList (by decide +kernel) (pa_cons (pe_slice sl_tup (pv 4) (po_some pe_int) (po_some pe_int)) pa_nil)) (pe_lst pa_nil)))))
        (pss_cons (ps_if (pt_cmpR (op_neD hr.units) (pe_lc (own := [("room", 6)]) (g := gName 6) rfl nd (pi_list (pv 5)) (blkOk_by (own := [("room", 6)]) (N := nFl) (sc := defScope s__law_fitting) (by decide +kernel)) (fun _ _ _ _ _ => (pg_name (i := 6) nd rfl (Or.inl rfl))) (fun _ _ _ _ _ => pts_one (pt_cmpR op_ge (pv 6) (pv 3) (nomark _))) (fun _ _ _ _ _ => pe_int)) (pe_lst pa_nil) (nomark _)) (pss_one (ps_ret pe_bl)) pss_nil)
        (pss_cons (ps_up (ps_if (pt_cmpR op_in_seq (pe_ix ix_tup (pv 4) pe_int (fun _ _ => rfl)) (pe_lst (pa_cons pe_str (pa_cons pe_str pa_nil))) (by rfl)) (pss_cons (ps_if (pt_cmpR (op_notInDT (Room_u65 hr)) (pe_tup (pa_cons (pe_ix ix_tup (pv 4) pe_int (fun _ _ => rfl)) (pa_cons (pe_ix ix_tup (pv 4) pe_int (fun _ _ => rfl)) pa_nil))) (pe_ix ix_tup (pe_ix ix_tup (pv 1) pe_int (fun _ _ => rfl)) (pe_ix ix_tup (pv 4) pe_int (fun _ _ => rfl)) (fun _ _ => rfl)) (by rfl)) (pss_one (ps_ret pe_bl)) pss_nil)
        (pss_one (ps_if (PW.pt (pw_or (pt_cmpR op_ne (pe_cmpR op_lt (pe_callB call_len_seq (by rfl) nLen PySem.boot_len (pa_cons (pv 2) pa_nil)) (pe_ix ix_tup (pv 1) pe_int (fun _ _ => rfl)) (nomark _)) (pe_cmpR op_eq (pe_ix ix_tup (pv 4) pe_int (fun _ _ => rfl)) pe_str (nomark _)) (nomark _)) (pw_or1 (pt_cmpR op_gt (pe_callB call_len_seq (by rfl) nLen PySem.boot_len (pa_cons (pv 2) pa_nil)) (pe_ix ix_tup (pv 1) pe_int (fun _ _ => rfl)) (nomark _))))) (pss_one (ps_ret pe_bl)) pss_nil))) pss_nil))
        (pss_one (ps_set (i := 2) nd rfl (Or.inl rfl) (pe_ix ix_tup (pe_cD DB hr rfl pass0 (pa_cons pe_int (pa_cons (pv 2) (pa_cons (pv 4) pa_nil)))) pe_int (fun _ _ => rfl))))))))
        (pss_one (ps_ret pe_bl))), ?_⟩
      refine ⟨(by show 0 ≤ sizeLine; decide), fun al nal => ?_⟩
      have s1 := sadd (o := .lst []) (Same.refl H) nal
      have hal : upd H al (.lst []) al = some (.lst []) := upd_same
      generalize upd H al (.lst []) = H1 at s1 hal ⊢
      refine ⟨_, rfl, a, _, 2, _, rfl, rfl, SqT.of (s1 _ _ b1), rfl, dt, _, rfl, .inr (SqT.of (s1 _ _ b3)), (by show 2 ≤ sizeLine; decide), fun t0 n0 => ?_⟩
      rw [List.length_map]
      have b1x := sadd (o := .tup [.ref al, .int ((F.dor.length : Nat) : Int)]) (Same.refl H1) n0
      have f0 : upd H1 t0 (.tup [.ref al, .int ((F.dor.length : Nat) : Int)]) t0 = some (.tup [.ref al, .int ((F.dor.length : Nat) : Int)]) := upd_same
      replace s1 := s1.trans b1x
      replace hal := b1x _ _ hal
      generalize upd H1 t0 (.tup [.ref al, .int ((F.dor.length : Nat) : Int)]) = H1' at s1 f0 hal ⊢
      refine ⟨t0, _, rfl, SqT.of f0, rfl, _, _, rfl, _, _, rfl, rfl, ?_⟩
      refine ⟨_, rfl, l, rfl, ⟨_, SqT.of (s1 _ _ h1)⟩, ?_⟩
      refine for_tup (xs := ps.map V.ref) (fun i σ H' => ∃ (al' : Addr) (o4 o5 : Option V) (m : Int), σ = [some (.ref l), some (.ref a), some (.ref al'), some (.int ((F.dor.length : Nat) : Int)), o4, o5, none] ∧ Same H H' ∧ AkAt H' al' (wk w0 (cs.take i)).asks ∧ CtlOk F (wk w0 (cs.take i)) ∧
          ((wk w0 (cs.take i)).over = false → m = ((wk w0 (cs.take i)).asks.length : Int) ∧ m ≤ F.dep) ∧ fitGo F 0 cs = fitGo F m (cs.drop i))
        ⟨al, none, none, 0, rfl, s1, ⟨[], hal, .nil⟩, CtlOk.init F, fun _ => ⟨rfl, by have := hF.d1; omega⟩, rfl⟩ (fun i σ H' _ ⟨_, _, _, _, _, s, _⟩ => SqT.of (s _ _ h1)) ?turntup ?donetup
      case donetup =>
        rintro σ H4 ⟨al', o4, o5, m, rfl, s4, _, _, _, e⟩
        rw [List.length_map, lp, List.drop_length] at e
        have k4 := k H4 s4
        rw [e] at k4
        exact k4
      case turntup =>
        rintro i y σ H4 hy ⟨al', o4, o5, m, rfl, s4, hak, hI, hM, eg⟩
        rw [List.getElem?_map] at hy
        obtain ⟨c, hc, rfl⟩ := Option.map_eq_some_iff.mp hy
        have hi : i < cs.length := by rw [← lp]; exact (List.getElem?_eq_some_iff.mp hc).1
        obtain ⟨x, hx⟩ : ∃ x, cs[i]? = some x := ⟨_, List.getElem?_eq_getElem hi⟩
        obtain ⟨c', hc', hcx⟩ := h2.get hx
        rw [hc] at hc'
        cases hc'
        have hc4 := s4 _ _ hcx
        have dr : cs.drop i = x :: cs.drop (i + 1) := by
          have := List.getElem?_eq_some_iff.mp hx
          rw [List.drop_eq_getElem_cons hi, this.2]
        have tki : cs.take (i + 1) = cs.take i ++ [x] := by rw [List.take_add_one, hx]; rfl
        have hcan : canC (wk w0 (cs.take i)) x = true := by
          have hg := hgo
          rw [(List.take_append_drop i cs).symm, goodGo_app, dr] at hg
          exact (Bool.and_eq_true_iff.mp (Bool.and_eq_true_iff.mp hg).2).1
        have lw : (wk w0 (cs.take i)).asks.length ≤ 100000 := by
          have := wk_len (cs.take i) w0
          rw [List.length_take] at this
          have e0 : w0.asks.length = 0 := rfl
          omega
        rw [dr] at eg
        have bad : fitX F m x = false → ∀ H5, Same H H5 → Q (.bl false) H5 := fun e H5 s5 => by
          have k5 := k H5 s5
          rw [eg] at k5
          have : fitGo F m (x :: cs.drop (i + 1)) = false := by
            show (fitX F m x && _) = false
            rw [e]
            rfl
          rw [this] at k5
          exact k5
        rw [tki, wk_snoc]
        obtain ⟨hm1, hm2⟩ := hM (canC_live hcan)
        generalize wk w0 (cs.take i) = st at hak hI hcan hm1 lw ⊢
        have nx : fitX F m x = true → CtlOk F (tk st x) ∧ ((tk st x).over = false → mX m x = ((tk st x).asks.length : Int) ∧ mX m x ≤ F.dep) ∧ fitGo F 0 cs = fitGo F (mX m x) (cs.drop (i + 1)) := fun e => ⟨hI.step hF hcan e, fit_next hI hcan e hm1 hm2, by
          rw [eg]
          show (fitX F m x && fitGo F (mX m x) (cs.drop (i + 1))) = _
          rw [e]
          rfl⟩
        have T4 : ∀ {H5 : Hp}, Same H4 H5 → SqT K H5 c x.vs := fun s => SqT.of (s _ _ hc4)
        -- the rooms
        refine ⟨fun v H5 => ∃ rl, v = .ref rl ∧ Same H4 H5 ∧ H5 rl = some (.lst ((rooms x).map V.int)), ?_, ?_⟩
        · cases x with
          | start n =>
            refine ⟨_, rfl, c, _, 0, _, rfl, rfl, T4 (Same.refl _), rfl, rfl, _, rfl, iteF ?_⟩
            refine ⟨_, rfl, c, _, rfl, .inr (T4 (Same.refl _)), _, _, rfl, rfl, _, rfl, iteF ?_⟩
            exact ⟨(by show 0 ≤ sizeLine; decide), fun rl nrl => ⟨rl, rfl, sadd (Same.refl H4) nrl, upd_same⟩⟩
          | done n =>
            refine ⟨_, rfl, c, _, 0, _, rfl, rfl, T4 (Same.refl _), rfl, rfl, _, rfl, iteF ?_⟩
            refine ⟨_, rfl, c, _, rfl, .inr (T4 (Same.refl _)), _, _, rfl, rfl, _, rfl, iteF ?_⟩
            exact ⟨(by show 0 ≤ sizeLine; decide), fun rl nrl => ⟨rl, rfl, sadd (Same.refl H4) nrl, upd_same⟩⟩
          | fin n =>
            refine ⟨_, rfl, c, _, 0, _, rfl, rfl, T4 (Same.refl _), rfl, rfl, _, rfl, iteT ?_⟩
            refine ⟨_, rfl, c, _, 1, _, rfl, rfl, T4 (Same.refl _), rfl, (by show 1 ≤ sizeLine; decide), fun rl nrl => ⟨rl, rfl, sadd (Same.refl H4) nrl, upd_same⟩⟩
          | back p b n =>
            refine ⟨_, rfl, c, _, 0, _, rfl, rfl, T4 (Same.refl _), rfl, rfl, _, rfl, iteF ?_⟩
            refine ⟨_, rfl, c, _, rfl, .inr (T4 (Same.refl _)), _, _, rfl, rfl, _, rfl, iteT ?_⟩
            refine ⟨_, rfl, _, rfl, _, rfl, c, _, rfl, T4 (Same.refl _), (fun z => absurd z.1 (by show ¬ HT.sIx 4 0 (some 1) = 0; decide)), fun t nt => ?_⟩
            have s5 := sadd (o := .tup (cutV ([.str "back", .int p, .int b, .int n] : List V) (some 1) (some 3))) (Same.refl H4) nt
            refine ⟨t, _, rfl, .inr (SqT.of upd_same), fun rl nrl => ⟨rl, rfl, sadd s5 nrl, ?_⟩⟩
            rw [upd_same]
            rfl
          | call p b d n =>
            refine ⟨_, rfl, c, _, 0, _, rfl, rfl, T4 (Same.refl _), rfl, rfl, _, rfl, iteF ?_⟩
            refine ⟨_, rfl, c, _, rfl, .inr (T4 (Same.refl _)), _, _, rfl, rfl, _, rfl, iteT ?_⟩
            refine ⟨_, rfl, _, rfl, _, rfl, c, _, rfl, T4 (Same.refl _), (fun z => absurd z.1 (by show ¬ HT.sIx 5 0 (some 1) = 0; decide)), fun t nt => ?_⟩
            have s5 := sadd (o := .tup (cutV ([.str "call", .int p, .int b, .int d, .int n] : List V) (some 1) (some 3))) (Same.refl H4) nt
            refine ⟨t, _, rfl, .inr (SqT.of upd_same), fun rl nrl => ⟨rl, rfl, sadd s5 nrl, ?_⟩⟩
            rw [upd_same]
            rfl
          | deep p b d n =>
            refine ⟨_, rfl, c, _, 0, _, rfl, rfl, T4 (Same.refl _), rfl, rfl, _, rfl, iteF ?_⟩
            refine ⟨_, rfl, c, _, rfl, .inr (T4 (Same.refl _)), _, _, rfl, rfl, _, rfl, iteT ?_⟩
            refine ⟨_, rfl, _, rfl, _, rfl, c, _, rfl, T4 (Same.refl _), (fun z => absurd z.1 (by show ¬ HT.sIx 5 0 (some 1) = 0; decide)), fun t nt => ?_⟩
            have s5 := sadd (o := .tup (cutV ([.str "deep", .int p, .int b, .int d, .int n] : List V) (some 1) (some 3))) (Same.refl H4) nt
            refine ⟨t, _, rfl, .inr (SqT.of upd_same), fun rl nrl => ⟨rl, rfl, sadd s5 nrl, ?_⟩⟩
            rw [upd_same]
            rfl
        rintro v H5 ⟨rl, rfl, s5, hrl⟩
        refine ⟨_, rfl, rl, rfl, ⟨_, SqL.of hrl⟩, fun D nD => ?_⟩
        refine lc_list (K := K) (a := rl) (xs := (rooms x).map V.int) (fun i H' => Same H5 H' ∧ H' D = some (.lst ((List.replicate (((rooms x).take i).countP fun r => decide (((F.dor.length : Nat) : Int) ≤ r)) (1 : Int)).map V.int))) ⟨sadd (Same.refl H5) nD, upd_same⟩ (fun i H' _ ⟨s, _⟩ => SqL.of (s _ _ hrl)) ?trtup ?drtup
        case trtup =>
          rintro j v H6 hv ⟨s6, hD⟩
          rw [List.getElem?_map] at hv
          obtain ⟨r, hr0, rfl⟩ := Option.map_eq_some_iff.mp hv
          have lr : j < (rooms x).length := (List.getElem?_eq_some_iff.mp hr0).1
          have l2 : (rooms x).length ≤ 2 := by cases x <;> simp [rooms]
          refine ⟨rfl, ?_⟩
          refine ⟨_, rfl, _, rfl, _, _, rfl, rfl, _, rfl, ?_⟩
          refine ite2 (fun q => ?_) (fun q => ?_)
          · refine ⟨_, hD, ?_, sout s6 nD, ?_⟩
            · rw [List.length_map, List.length_replicate, sizeLine_eq]
              have := List.countP_le_length (p := fun r => decide (((F.dor.length : Nat) : Int) ≤ r)) (l := (rooms x).take j)
              rw [List.length_take] at this
              omega
            · rw [upd_same, List.take_add_one, hr0, List.countP_append]
              show _ = some (HO.lst ((List.replicate (_ + List.countP _ [r]) (1 : Int)).map V.int))
              rw [List.countP_singleton, if_pos q, List.replicate_succ', List.map_append]
              rfl
          · refine ⟨s6, ?_⟩
            rw [List.take_add_one, hr0, List.countP_append]
            show _ = some (HO.lst ((List.replicate (_ + List.countP _ [r]) (1 : Int)).map V.int))
            rw [List.countP_singleton, if_neg q]
            exact hD
        case drtup =>
        rintro H6 ⟨s6, hD⟩
        rw [List.length_map, List.take_length] at hD
        refine ⟨(by show 0 ≤ sizeLine; decide), fun e ne => ?_⟩
        have se := sadd (o := .lst []) (Same.refl H6) ne
        refine ⟨.list ((List.replicate _ (1 : Int)).map .int), .list [], .lst (SqL.of (se _ _ hD)) (intsDp _), .lst (SqL.of upd_same) .nil, shaped_ones _, rfl, _, rfl, ?_⟩
        have s47 : Same H4 (upd H6 e (.lst [])) := (s5.trans s6).trans se
        rw [eqv_nil]
        generalize upd H6 e (.lst []) = H7 at s47 ⊢
        clear hD hrl se
        by_cases hbig : ∃ r ∈ rooms x, ((F.dor.length : Nat) : Int) ≤ r
        case pos =>
          have ec : ((List.replicate ((rooms x).countP fun r => decide (((F.dor.length : Nat) : Int) ≤ r)) (1 : Int)).map PyData.int).isEmpty = false := by
            obtain ⟨r, h1, h2⟩ := hbig
            have := (List.countP_pos_iff (p := fun r => decide (((F.dor.length : Nat) : Int) ≤ r))).mpr ⟨r, h1, decide_eq_true h2⟩
            cases e : (rooms x).countP fun r => decide (((F.dor.length : Nat) : Int) ≤ r) with
            | zero => rw [e] at this; exact absurd this (Nat.lt_irrefl 0)
            | succ n => rfl
          rw [ec]
          exact iteT (bad (rooms_bad hF hI hcan hbig) _ (s4.trans s47))
        have ec : ((List.replicate ((rooms x).countP fun r => decide (((F.dor.length : Nat) : Int) ≤ r)) (1 : Int)).map PyData.int).isEmpty = true := by
          have : (rooms x).countP (fun r => decide (((F.dor.length : Nat) : Int) ≤ r)) = 0 := List.countP_eq_zero.mpr fun r h1 h2 => hbig ⟨r, h1, of_decide_eq_true h2⟩
          rw [this]
          rfl
        rw [ec]
        refine iteF ?_
        have hc7 := s47 _ _ hc4
        have T7 : ∀ {H8 : Hp}, Same H7 H8 → SqT K H8 c x.vs := fun s => SqT.of (s _ _ hc7)
        have hak7 := hak.same s47
        have s7 := s4.trans s47
        clear hak hc4 T4 s47 s6 s5 ec
        refine ⟨fun σ' H8 => σ' = [some (.ref l), some (.ref a), some (.ref al'), some (.int ((F.dor.length : Nat) : Int)), some (.ref c), some (.ref rl), none] ∧ Same H7 H8 ∧ fitX F m x = true, ?_, ?_⟩
        · refine ⟨_, rfl, c, _, 0, .str x.wd, rfl, rfl, T7 (Same.refl _), by rw [Crs.vs_eq]; exact atI_nat (j := 0) rfl, (by show 2 ≤ sizeLine; decide), fun wl nwl => ⟨wl, _, rfl, .inl (SqL.of upd_same), rfl, rfl, _, rfl, ?_⟩⟩
          have s8 := sadd (o := .lst [.str "call", .str "deep"]) (Same.refl H7) nwl
          generalize upd H7 wl (.lst [.str "call", .str "deep"]) = H8 at s8 ⊢
          cases x with
          | start n =>
            refine ite2 (fun q => absurd q (by show ¬ inV (V.str "start") [V.str "call", V.str "deep"] = true; decide +kernel)) (fun _ => ?_)
            exact ⟨rfl, s8, rfl⟩
          | done n =>
            refine ite2 (fun q => absurd q (by show ¬ inV (V.str "done") [V.str "call", V.str "deep"] = true; decide +kernel)) (fun _ => ?_)
            exact ⟨rfl, s8, rfl⟩
          | fin n =>
            refine ite2 (fun q => absurd q (by show ¬ inV (V.str "end") [V.str "call", V.str "deep"] = true; decide +kernel)) (fun _ => ?_)
            exact ⟨rfl, s8, rfl⟩
          | back p b n =>
            refine ite2 (fun q => absurd q (by show ¬ inV (V.str "back") [V.str "call", V.str "deep"] = true; decide +kernel)) (fun _ => ?_)
            exact ⟨rfl, s8, rfl⟩
          | call p b d n =>
            refine ite2 (fun _ => ?_) (fun q => absurd (show inV (V.str "call") [V.str "call", V.str "deep"] = true by decide +kernel) q)
            obtain ⟨q0, q1⟩ := hI.call hcan
            refine ⟨_, rfl, c, _, 2, _, rfl, rfl, T7 s8, rfl, _, rfl, c, _, 3, _, rfl, rfl, T7 s8, rfl, (by show 2 ≤ sizeLine; decide), fun t nt => ?_⟩
            have s9 := sadd (o := .tup [.int b, .int d]) s8 nt
            have ht : upd H8 t (.tup [.int b, .int d]) t = some (.tup [.int b, .int d]) := upd_same
            generalize upd H8 t (.tup [.int b, .int d]) = H9 at s9 ht ⊢
            have s09 := s7.trans s9
            obtain ⟨wp, hwp⟩ : ∃ wp, wps[p.toNat]? = some wp := ⟨_, List.getElem?_eq_getElem (by rw [b4]; omega)⟩
            obtain ⟨qs, p1, p2⟩ := b5 _ _ hwp
            have at1 : atI (wps.map V.ref) p = some (.ref wp) := by
              have := atI_nat (xs := wps.map V.ref) (j := p.toNat) (v := .ref wp) (by rw [List.getElem?_map, hwp]; rfl)
              rw [Int.toNat_of_nonneg q0] at this
              exact this
            refine ⟨_, rfl, a, _, 1, _, rfl, rfl, SqT.of (s09 _ _ b1), rfl, _, rfl, c, _, 1, _, rfl, rfl, T7 s9, rfl, wt, _, p, _, rfl, rfl, SqT.of (s09 _ _ b2), at1, ?_⟩
            refine ⟨pairD (b, d), (F.ws p.toNat).map pairD, .tup (SqT.of ht) (.cons (.int _) (.cons (.int _) .nil)), .tup (SqT.of (s09 _ _ p1)) ((p2.mono fun q xs e => s09 _ _ e).dp), shaped_pair _ _, shaped_pairs _, ?_⟩
            rw [any_pair]
            cases hd : decide ((b, d) ∈ F.ws p.toNat) with
            | false =>
              refine ⟨_, rfl, iteT (bad ?_ H9 s09)⟩
              show (decide ((b, d) ∈ F.ws p.toNat) && _) = false
              rw [hd]
              rfl
            | true =>
            refine ⟨_, rfl, iteF ?_⟩
            obtain ⟨aps, a1, a2⟩ := hak7.same s9
            have la := a2.len
            refine ⟨_, rfl, al', _, rfl, .inl (SqL.of a1), _, rfl, a, _, 0, _, rfl, rfl, SqT.of (s09 _ _ b1), rfl, _, _, rfl, rfl, _, rfl, c, _, 0, _, rfl, rfl, T7 s9, rfl, rfl, rfl, _, rfl, ?_⟩
            rw [List.length_map, la]
            cases hm : decide (m = F.dep) with
            | true =>
              have e1 : decide ((st.asks.length : Int) < F.dep) = false := decide_eq_false (by have := of_decide_eq_true hm; omega)
              have e2 : (!decide (V.bl (decide ((st.asks.length : Int) < F.dep)) = V.bl (decide (V.str "call" = V.str "call")))) = true := by rw [e1]; decide +kernel
              refine ite2 (fun _ => iteT (bad ?_ H9 s09)) (fun q => absurd e2 q)
              show (decide ((b, d) ∈ F.ws p.toNat) && !decide (m = F.dep)) = false
              rw [hd, hm]
              rfl
            | false =>
              have e1 : decide ((st.asks.length : Int) < F.dep) = true := decide_eq_true (by have := of_decide_eq_false hm; omega)
              have e2 : (!decide (V.bl (decide ((st.asks.length : Int) < F.dep)) = V.bl (decide (V.str "call" = V.str "call")))) = false := by rw [e1]; decide +kernel
              refine ite2 (fun q => ?_) (fun _ => ?_)
              · have q' : (!decide (V.bl (decide ((st.asks.length : Int) < F.dep)) = V.bl (decide (V.str "call" = V.str "call")))) = true := q
                rw [e2] at q'
                cases q'
              refine ⟨_, rfl, al', _, rfl, .inl (SqL.of a1), _, rfl, a, _, 0, _, rfl, rfl, SqT.of (s09 _ _ b1), rfl, _, _, rfl, rfl, _, rfl, ?_⟩
              rw [List.length_map, la]
              refine ite2 (fun q => absurd (of_decide_eq_true q) (by omega)) (fun _ => ?_)
              refine ⟨rfl, s9, ?_⟩
              show (decide ((b, d) ∈ F.ws p.toNat) && !decide (m = F.dep)) = true
              rw [hd, hm]
              rfl
          | deep p b d n =>
            refine ite2 (fun _ => ?_) (fun q => absurd (show inV (V.str "deep") [V.str "call", V.str "deep"] = true by decide +kernel) q)
            obtain ⟨q0, q1⟩ := hI.deep hcan
            refine ⟨_, rfl, c, _, 2, _, rfl, rfl, T7 s8, rfl, _, rfl, c, _, 3, _, rfl, rfl, T7 s8, rfl, (by show 2 ≤ sizeLine; decide), fun t nt => ?_⟩
            have s9 := sadd (o := .tup [.int b, .int d]) s8 nt
            have ht : upd H8 t (.tup [.int b, .int d]) t = some (.tup [.int b, .int d]) := upd_same
            generalize upd H8 t (.tup [.int b, .int d]) = H9 at s9 ht ⊢
            have s09 := s7.trans s9
            obtain ⟨wp, hwp⟩ : ∃ wp, wps[p.toNat]? = some wp := ⟨_, List.getElem?_eq_getElem (by rw [b4]; omega)⟩
            obtain ⟨qs, p1, p2⟩ := b5 _ _ hwp
            have at1 : atI (wps.map V.ref) p = some (.ref wp) := by
              have := atI_nat (xs := wps.map V.ref) (j := p.toNat) (v := .ref wp) (by rw [List.getElem?_map, hwp]; rfl)
              rw [Int.toNat_of_nonneg q0] at this
              exact this
            refine ⟨_, rfl, a, _, 1, _, rfl, rfl, SqT.of (s09 _ _ b1), rfl, _, rfl, c, _, 1, _, rfl, rfl, T7 s9, rfl, wt, _, p, _, rfl, rfl, SqT.of (s09 _ _ b2), at1, ?_⟩
            refine ⟨pairD (b, d), (F.ws p.toNat).map pairD, .tup (SqT.of ht) (.cons (.int _) (.cons (.int _) .nil)), .tup (SqT.of (s09 _ _ p1)) ((p2.mono fun q xs e => s09 _ _ e).dp), shaped_pair _ _, shaped_pairs _, ?_⟩
            rw [any_pair]
            cases hd : decide ((b, d) ∈ F.ws p.toNat) with
            | false =>
              refine ⟨_, rfl, iteT (bad ?_ H9 s09)⟩
              show (decide ((b, d) ∈ F.ws p.toNat) && _) = false
              rw [hd]
              rfl
            | true =>
            refine ⟨_, rfl, iteF ?_⟩
            obtain ⟨aps, a1, a2⟩ := hak7.same s9
            have la := a2.len
            refine ⟨_, rfl, al', _, rfl, .inl (SqL.of a1), _, rfl, a, _, 0, _, rfl, rfl, SqT.of (s09 _ _ b1), rfl, _, _, rfl, rfl, _, rfl, c, _, 0, _, rfl, rfl, T7 s9, rfl, rfl, rfl, _, rfl, ?_⟩
            rw [List.length_map, la]
            cases hm : decide (m = F.dep) with
            | false =>
              have e1 : decide ((st.asks.length : Int) < F.dep) = true := decide_eq_true (by have := of_decide_eq_false hm; omega)
              have e2 : (!decide (V.bl (decide ((st.asks.length : Int) < F.dep)) = V.bl (decide (V.str "deep" = V.str "call")))) = true := by rw [e1]; decide +kernel
              refine ite2 (fun _ => iteT (bad ?_ H9 s09)) (fun q => absurd e2 q)
              show (decide ((b, d) ∈ F.ws p.toNat) && decide (m = F.dep)) = false
              rw [hd, hm]
              rfl
            | true =>
              have e1 : decide ((st.asks.length : Int) < F.dep) = false := decide_eq_false (by have := of_decide_eq_true hm; omega)
              have e2 : (!decide (V.bl (decide ((st.asks.length : Int) < F.dep)) = V.bl (decide (V.str "deep" = V.str "call")))) = false := by rw [e1]; decide +kernel
              refine ite2 (fun q => ?_) (fun _ => ?_)
              · have q' : (!decide (V.bl (decide ((st.asks.length : Int) < F.dep)) = V.bl (decide (V.str "deep" = V.str "call")))) = true := q
                rw [e2] at q'
                cases q'
              refine ⟨_, rfl, al', _, rfl, .inl (SqL.of a1), _, rfl, a, _, 0, _, rfl, rfl, SqT.of (s09 _ _ b1), rfl, _, _, rfl, rfl, _, rfl, ?_⟩
              rw [List.length_map, la]
              refine ite2 (fun q => absurd (of_decide_eq_true q) (by omega)) (fun _ => ?_)
              refine ⟨rfl, s9, ?_⟩
              show (decide ((b, d) ∈ F.ws p.toNat) && decide (m = F.dep)) = true
              rw [hd, hm]
              rfl
        rintro σ' H8 ⟨rfl, s8, hfx⟩
        obtain ⟨n1, n2, n3⟩ := nx hfx
        refine ⟨_, rfl, _, rfl, .int 0, al', c, some 0, st.asks, x, rfl, hak7.same s8, s8 _ _ hc7, lw, fun u al2 H9 s9 nu _ hu hak9 => ⟨u, _, 1, _, rfl, rfl, SqT.of hu, rfl, ?_⟩⟩
        rw [bh_asks] at hak9
        exact ⟨al2, _, _, _, rfl, (s7.trans s8).trans s9, hak9, n1, n2, n3⟩
end
end OH
end
section
set_option Elab.async false
set_option linter.all false
set_option maxRecDepth 100000
set_option maxHeartbeats 8000000
/-! Faces judged by the law. -/
namespace OH
open PySem PySem.Spec PyProof.Rows L2
theorem axB_W {hi : Int} {a : Ax} (h : axB (hi + 1) a = true) : ∃ z, a = .n z ∧ 0 ≤ z ∧ z < hi + 1 ∧ axW 1 hi a = decide (1 ≤ z) := by
  cases a with
  | n z =>
    have h' : (decide (0 ≤ z) && decide (z < hi + 1)) = true := h
    rw [Bool.and_eq_true, decide_eq_true_eq, decide_eq_true_eq] at h'
    refine ⟨z, rfl, h'.1, h'.2, ?_⟩
    show (decide (1 ≤ z) && decide (z ≤ hi)) = _
    rw [decide_eq_true (by omega : z ≤ hi), Bool.and_true]
  | _ => cases h
theorem axB_no {hi : Int} {a : Ax} (h : axB (hi + 1) a = false) : axW 1 hi a = false := by
  cases a with
  | n z =>
    have h' : (decide (0 ≤ z) && decide (z < hi + 1)) = false := h
    show (decide (1 ≤ z) && decide (z ≤ hi)) = false
    by_cases z1 : 1 ≤ z
    · rw [decide_eq_true (by omega : (0 : Int) ≤ z), Bool.true_and] at h'
      have := of_decide_eq_false h'
      rw [decide_eq_false (by omega : ¬ z ≤ hi), Bool.and_false]
    · rw [decide_eq_false z1, Bool.false_and]
  | _ => rfl
theorem okP_eq (own : Int) (ds : List Int) (x1 x2 : Ax) : okP own ds (.tup [x1, x2]) = (axB (ds.length : Int) x1 && match x1 with | .n a => !decide (a = own) && axB (ds.getD a.toNat 0) x2 | _ => false) := by
  cases x1 with
  | n a =>
    cases x2 with
    | n b =>
      show (decide (0 ≤ a) && decide (a ≤ (ds.length : Int) - 1) && !decide (a = own) && (decide (0 ≤ b) && decide (b ≤ ds.getD a.toNat 0 - 1))) = ((decide (0 ≤ a) && decide (a < (ds.length : Int))) && (!decide (a = own) && (decide (0 ≤ b) && decide (b < ds.getD a.toNat 0))))
      rw [decide_eq_decide.mpr (by omega : a ≤ (ds.length : Int) - 1 ↔ a < (ds.length : Int)), decide_eq_decide.mpr (by omega : b ≤ ds.getD a.toNat 0 - 1 ↔ b < ds.getD a.toNat 0), Bool.and_assoc]
    | _ =>
      show false = _
      show false = (axB (ds.length : Int) (.n a) && (!decide (a = own) && false))
      rw [Bool.and_false, Bool.and_false]
  | _ => cases x2 <;> rfl
section
variable {P : Program} {w : World} {K : PySem.W.Frag} {mg : Str → Option Value} {base : Heap}
abbrev nFj : List Str := ["thing", "many", "at", "some", "pair"]
theorem sc__law_face_judged : FnScope nFj ["thing"] (defScope s__law_face_judged) := ⟨rfl, rfl, rfl, by decide +kernel, rfl, by decide +kernel, by decide +kernel⟩
theorem ok__law_face_judged {f : Addr} {fd : FuncData} (F : Fun K "_law_face_judged" "_law_face_judged" s__law_face_judged f fd) (T : Txt K mg) (T3 : Txt3 mg) (nEnum : mg "enumerate" = none) (DC : DefF P w K mg base CX0 3 "_law_is_count" ["thing", "bound"] spCount) : FnOk P w K mg base CX0 4 f fd ["thing"] spGoodFX := by
  refine F.ok sc__law_face_judged (fun vs H Q E h => ?_) (fun cdv A outer s H vs Q E hr h => ?_)
  · obtain ⟨Z, v, x, rfl, _⟩ := h
    rfl
  · obtain ⟨Z, v, x, rfl, hb, k⟩ := h
    have nd := sc__law_face_judged.nd
    refine ⟨_, pss_cons (ps_if (PW.pt (pw_or (pt_not (pt_val (pe_callB call_isi (by rfl) T.nIsi (by decide +kernel) (pa_cons (pv 0) (pa_cons (pe_bltn (v := .ty "tuple") (by rfl) T.nTuple (by decide +kernel) rfl) pa_nil))))) (pw_or (pt_cmpR op_ne (pe_callB call_len_seq (by rfl) T.nLen PySem.boot_len (pa_cons (pv 0) pa_nil)) pe_int (nomark _)) (pw_or (pt_not (pt_val (pe_cD DC hr rfl pass0 (pa_cons (pe_ix ix_tup (pv 0) pe_int (fun _ _ => rfl)) (pa_cons pe_int pa_nil))))) (pw_or1 (pt_cmpR op_lt (pe_ix ix_tup (pv 0) pe_int (fun _ _ => rfl)) pe_int (nomark _))))))) (pss_one (ps_ret pe_bl)) pss_nil)
      (pss_cons (ps_if (PW.pt (pw_or (pt_not (pt_val (pe_callB call_isi (by rfl) T.nIsi (by decide +kernel) (pa_cons (pe_ix ix_tup (pv 0) pe_int (fun _ _ => rfl)) (pa_cons (pe_bltn (v := .ty "tuple") (by rfl) T.nTuple (by decide +kernel) rfl) pa_nil))))) (pw_or (pt_not (pt_val (pe_callB call_isi (by rfl) T.nIsi (by decide +kernel) (pa_cons (pe_ix ix_tup (pv 0) pe_int (fun _ _ => rfl)) (pa_cons (pe_bltn (v := .ty "tuple") (by rfl) T.nTuple (by decide +kernel) rfl) pa_nil))))) (pw_or1 (pt_not (pt_chain op_le op_le pe_int (pe_callB call_len_seq (by rfl) T.nLen PySem.boot_len (pa_cons (pe_ix ix_tup (pv 0) pe_int (fun _ _ => rfl)) pa_nil)) pe_int)))))) (pss_one (ps_ret pe_bl)) pss_nil)
      (pss_cons (ps_if (pt_cmpR op_ne (pe_callB call_len_seq (by rfl) T.nLen PySem.boot_len (pa_cons (pe_ix ix_tup (pv 0) pe_int (fun _ _ => rfl)) pa_nil)) (pe_callB call_len_seq (by rfl) T.nLen PySem.boot_len (pa_cons (pe_ix ix_tup (pv 0) pe_int (fun _ _ => rfl)) pa_nil)) (nomark _)) (pss_one (ps_ret pe_bl)) pss_nil)
      (pss_cons (ps_for PassesOwn.never rfl (pi_tup (pe_ix ix_tup (pv 0) pe_int (fun _ _ => rfl))) (pg_name (i := 1) nd rfl (Or.inl rfl))
        (pss_one (ps_if (PW.pt (pw_or (pt_not (pt_val (pe_cD DC hr rfl pass0 (pa_cons (pv 1) (pa_cons pe_int pa_nil))))) (pw_or1 (pt_cmpR op_lt (pv 1) pe_int (nomark _))))) (pss_one (ps_ret pe_bl)) pss_nil)))
      (pss_cons (ps_for PassesOwn.never rfl (pi_enumT rfl nEnum (pa_cons (pe_ix ix_tup (pv 0) pe_int (fun _ _ => rfl)) pa_nil)) (pg_tup (by rfl) (pgs_cons (pg_name (i := 2) nd rfl (Or.inl rfl)) (pgs_cons (pg_name (i := 3) nd rfl (Or.inl rfl)) pgs_nil)))
        (pss_cons (ps_if (PW.pt (pw_or (pt_not (pt_val (pe_callB call_isi (by rfl) T.nIsi (by decide +kernel) (pa_cons (pv 3) (pa_cons (pe_bltn (v := .ty "tuple") (by rfl) T.nTuple (by decide +kernel) rfl) pa_nil))))) (pw_or1 (pt_cmpR op_gt (pe_callB call_len_seq (by rfl) T.nLen PySem.boot_len (pa_cons (pv 3) pa_nil)) pe_int (nomark _))))) (pss_one (ps_ret pe_bl)) pss_nil)
      (pss_cons (ps_for PassesOwn.never rfl (pi_tup (pv 3)) (pg_name (i := 4) nd rfl (Or.inl rfl))
        (pss_cons (ps_if (PW.pt (pw_or (pt_not (pt_val (pe_callB call_isi (by rfl) T.nIsi (by decide +kernel) (pa_cons (pv 4) (pa_cons (pe_bltn (v := .ty "tuple") (by rfl) T.nTuple (by decide +kernel) rfl) pa_nil))))) (pw_or (pt_cmpR op_ne (pe_callB call_len_seq (by rfl) T.nLen PySem.boot_len (pa_cons (pv 4) pa_nil)) pe_int (nomark _)) (pw_or1 (pt_not (pt_val (pe_cD DC hr rfl pass0 (pa_cons (pe_ix ix_tup (pv 4) pe_int (fun _ _ => rfl)) (pa_cons (pe_callB call_len_seq (by rfl) T.nLen PySem.boot_len (pa_cons (pe_ix ix_tup (pv 0) pe_int (fun _ _ => rfl)) pa_nil)) pa_nil))))))))) (pss_one (ps_ret pe_bl)) pss_nil)
      (pss_one (ps_if (PW.pt (pw_or (pt_cmpR op_eq (pe_ix ix_tup (pv 4) pe_int (fun _ _ => rfl)) (pv 2) (nomark _)) (pw_or1 (pt_not (pt_val (pe_cD DC hr rfl pass0 (pa_cons (pe_ix ix_tup (pv 4) pe_int (fun _ _ => rfl)) (pa_cons (pe_ix ix_tup (pe_ix ix_tup (pv 0) pe_int (fun _ _ => rfl)) (pe_ix ix_tup (pv 4) pe_int (fun _ _ => rfl)) (fun _ _ => rfl)) pa_nil)))))))) (pss_one (ps_ret pe_bl)) pss_nil))))
      (pss_one (ps_if (pt_cmpR op_ne (pe_lenSetT hr.units rfl T.nLen rfl T3.nSet (pv 3)) (pe_callB call_len_seq (by rfl) T.nLen PySem.boot_len (pa_cons (pv 3) pa_nil)) (nomark _)) (pss_one (ps_ret pe_bl)) pss_nil)))))
      (pss_one (ps_ret pe_bl)))))), ?_⟩
    cases x with
    | oth =>
      have hv' : NTp Z H v := hb
      rcases hv' with rfl | ⟨i', rfl⟩ | ⟨b', rfl⟩ | ⟨p', xs', rfl, _, hq'⟩
      · exact ⟨_, rfl, _, _, _, _, _, rfl, .ty "tuple", .base .non, kit_ty (r := false) (by decide +kernel), _, rfl, iteT (k H (Same.refl H))⟩
      · exact ⟨_, rfl, _, _, _, _, _, rfl, .ty "tuple", .base (.int i'), kit_ty (r := false) (by decide +kernel), _, rfl, iteT (k H (Same.refl H))⟩
      · exact ⟨_, rfl, _, _, _, _, _, rfl, .ty "tuple", .base (.bl b'), kit_ty (r := false) (by decide +kernel), _, rfl, iteT (k H (Same.refl H))⟩
      · exact ⟨_, rfl, _, _, _, _, _, rfl, .ty "tuple", .base (.lst hq'), kit_ty (r := false) (by decide +kernel), _, rfl, iteT (k H (Same.refl H))⟩
    | tupn =>
      obtain ⟨a, vs, rfl, ha, n3, _⟩ := hb
      refine ⟨_, rfl, _, _, _, _, _, rfl, .ty "tuple", .base (.tup ha), kit_ty (r := true) (by decide +kernel), _, rfl, iteF ?_⟩
      refine ⟨_, rfl, a, _, rfl, .inr (SqT.of ha), rfl, _, rfl, ?_⟩
      have e : (!decide (V.int (vs.length : Nat) = V.int 3)) = true := by
        rw [decide_eq_false (fun z => n3 (by have := V.int.inj z; omega))]
        rfl
      rw [e]
      exact iteT (k H (Same.refl H))
    | three d0 wx dx =>
    obtain ⟨a, v1, v2, rfl, b1, hw, hd⟩ := hb
    have kn : goodFa (.three d0 wx dx) = false → ∀ H', Same H H' → Q (.bl false) H' := fun e H' s => by
      have := k H' s
      rwa [e] at this
    have k0 : goodFa (.three d0 wx dx) = false → Q (.bl false) H := fun e => kn e H (Same.refl H)
    refine ⟨_, rfl, _, _, _, _, _, rfl, .ty "tuple", .base (.tup b1), kit_ty (r := true) (by decide +kernel), _, rfl, iteF ?_⟩
    refine ⟨_, rfl, a, _, rfl, .inr (SqT.of b1), rfl, _, rfl, iteF ?_⟩
    refine ⟨_, rfl, a, _, 0, _, rfl, rfl, SqT.of b1, rfl, d0, 61, rfl, ?_⟩
    have noD : axW 1 60 d0 = false → goodFa (.three d0 wx dx) = false := fun e => by
      match wx, dx with
      | .tup ws, .tup ds =>
        show (axW 1 60 d0 && _ && _ && _ && _) = false
        rw [e]
        rfl
      | .oth, _ => rfl
      | .tup _, .oth => rfl
    cases h0 : axB 61 d0 with
    | false => exact ⟨_, rfl, iteT (k0 (noD (axB_no (hi := 60) h0)))⟩
    | true =>
    obtain ⟨z, rfl, z0, z61, hz⟩ := axB_W (hi := 60) h0
    refine ⟨_, rfl, iteF ?_⟩
    refine ⟨_, rfl, a, _, 0, _, rfl, rfl, SqT.of b1, rfl, _, _, rfl, rfl, _, rfl, ?_⟩
    refine ite2 (fun q => ?_) (fun q => ?_)
    · exact k0 (noD (by rw [hz, decide_eq_false (by have := of_decide_eq_true q; omega)]))
    have z1 : 1 ≤ z := by
      have : ¬ z < 1 := fun y => q (decide_eq_true y)
      omega
    have hd0 : axW 1 60 (.n z) = true := by rw [hz, decide_eq_true z1]
    clear noD
    refine ⟨_, rfl, a, _, 1, _, rfl, rfl, SqT.of b1, rfl, ?_⟩
    cases wx with
    | oth =>
      have hw' : NTp Z H v1 := hw
      rcases hw' with rfl | ⟨i', rfl⟩ | ⟨b', rfl⟩ | ⟨p', xs', rfl, _, hq'⟩
      · exact ⟨_, _, _, _, _, rfl, .ty "tuple", .base .non, kit_ty (r := false) (by decide +kernel), _, rfl, iteT (k0 rfl)⟩
      · exact ⟨_, _, _, _, _, rfl, .ty "tuple", .base (.int i'), kit_ty (r := false) (by decide +kernel), _, rfl, iteT (k0 rfl)⟩
      · exact ⟨_, _, _, _, _, rfl, .ty "tuple", .base (.bl b'), kit_ty (r := false) (by decide +kernel), _, rfl, iteT (k0 rfl)⟩
      · exact ⟨_, _, _, _, _, rfl, .ty "tuple", .base (.lst hq'), kit_ty (r := false) (by decide +kernel), _, rfl, iteT (k0 rfl)⟩
    | tup ws =>
    obtain ⟨wt, wvs, rfl, c2, hws, lws⟩ := hw
    have lwp := hws.len
    refine ⟨_, _, _, _, _, rfl, .ty "tuple", .base (.tup c2), kit_ty (r := true) (by decide +kernel), _, rfl, iteF ?_⟩
    refine ⟨_, rfl, a, _, 2, _, rfl, rfl, SqT.of b1, rfl, ?_⟩
    cases dx with
    | oth =>
      have hd' : NTp Z H v2 := hd
      rcases hd' with rfl | ⟨i', rfl⟩ | ⟨b', rfl⟩ | ⟨p', xs', rfl, _, hq'⟩
      · exact ⟨_, _, _, _, _, rfl, .ty "tuple", .base .non, kit_ty (r := false) (by decide +kernel), _, rfl, iteT (k0 rfl)⟩
      · exact ⟨_, _, _, _, _, rfl, .ty "tuple", .base (.int i'), kit_ty (r := false) (by decide +kernel), _, rfl, iteT (k0 rfl)⟩
      · exact ⟨_, _, _, _, _, rfl, .ty "tuple", .base (.bl b'), kit_ty (r := false) (by decide +kernel), _, rfl, iteT (k0 rfl)⟩
      · exact ⟨_, _, _, _, _, rfl, .ty "tuple", .base (.lst hq'), kit_ty (r := false) (by decide +kernel), _, rfl, iteT (k0 rfl)⟩
    | tup ds =>
    obtain ⟨dt, rfl, c3, _⟩ := hd
    refine ⟨_, _, _, _, _, rfl, .ty "tuple", .base (.tup c3), kit_ty (r := true) (by decide +kernel), _, rfl, iteF ?_⟩
    have eg : goodFa (.three (.n z) (.tup ws) (.tup ds)) = ((decide (1 ≤ ds.length) && decide (ds.length ≤ 6)) && decide (ws.length = ds.length) && (ds.map (axW 1 6)).all id && wiB (ds.map axI) ws) := by
      show (axW 1 60 (.n z) && (decide (1 ≤ ds.length) && decide (ds.length ≤ 6)) && decide (ws.length = ds.length) && (ds.map (axW 1 6)).all id && wiB (ds.map axI) ws) = _
      rw [hd0, Bool.true_and]
    rw [eg] at k k0 kn
    clear eg
    refine ⟨_, rfl, a, _, 2, _, rfl, rfl, SqT.of b1, rfl, dt, _, rfl, .inr (SqT.of c3), _, _, rfl, rfl, _, rfl, ?_⟩
    rw [List.length_map]
    by_cases l1 : 1 ≤ ds.length
    case neg =>
      refine ite2 (fun q => absurd (of_decide_eq_true q) (by omega)) (fun _ => ?_)
      refine ⟨_, rfl, iteT (k0 ?_)⟩
      rw [decide_eq_false l1, Bool.false_and, Bool.false_and, Bool.false_and, Bool.false_and]
    refine ite2 (fun _ => ?_) (fun q => absurd (decide_eq_true (by omega)) q)
    refine ⟨_, _, rfl, rfl, _, rfl, ?_⟩
    by_cases l6 : ds.length ≤ 6
    case neg =>
      rw [decide_eq_false (by omega : ¬ ((ds.length : Nat) : Int) ≤ 6)]
      refine iteT (k0 ?_)
      rw [decide_eq_false l6, Bool.and_false, Bool.false_and, Bool.false_and, Bool.false_and]
    rw [decide_eq_true (by omega : ((ds.length : Nat) : Int) ≤ 6)]
    refine iteF ?_
    refine ⟨_, rfl, a, _, 1, _, rfl, rfl, SqT.of b1, rfl, wt, _, rfl, .inr (SqT.of c2), _, rfl, a, _, 2, _, rfl, rfl, SqT.of b1, rfl, dt, _, rfl, .inr (SqT.of c3), rfl, _, rfl, ?_⟩
    rw [List.length_map, lwp]
    by_cases ll : ws.length = ds.length
    case neg =>
      rw [decide_eq_false (fun y => ll (by have := V.int.inj y; omega))]
      refine iteT (k0 ?_)
      rw [decide_eq_false ll, Bool.and_false, Bool.false_and, Bool.false_and]
    rw [decide_eq_true (by rw [ll])]
    refine iteF ?_
    -- the doors
    refine ⟨_, rfl, a, _, 2, _, rfl, rfl, SqT.of b1, rfl, dt, rfl, ⟨_, SqT.of c3⟩, ?_⟩
    refine for_tup (xs := ds.map Ax.v) (fun i σ H' => ∃ o1 : Option V, σ = [some (.ref a), o1, none, none, none] ∧ H' = H ∧ ((ds.take i).map (axW 1 6)).all id = true) ⟨none, rfl, rfl, rfl⟩ (fun i σ H' _ ⟨_, _, e, _⟩ => by rw [e]; exact SqT.of c3) ?t1 ?d1
    case t1 =>
      rintro i y σ H' hy ⟨o1, rfl, rfl, hal⟩
      rw [List.getElem?_map] at hy
      obtain ⟨x, hx, rfl⟩ := Option.map_eq_some_iff.mp hy
      have bad : axW 1 6 x = false → Q (.bl false) H' := fun e => by
        refine k0 ?_
        have : (ds.map (axW 1 6)).all id = false := List.all_eq_false.mpr ⟨false, List.mem_map.mpr ⟨x, List.mem_of_getElem? hx, e⟩, Bool.false_ne_true⟩
        rw [this, Bool.and_false, Bool.false_and]
      refine ⟨_, rfl, x, 7, rfl, ?_⟩
      cases hx7 : axB 7 x with
      | false => exact ⟨_, rfl, iteT (bad (axB_no (hi := 6) hx7))⟩
      | true =>
      obtain ⟨u, rfl, u0, u7, hu⟩ := axB_W (hi := 6) hx7
      refine ⟨_, rfl, iteF ?_⟩
      refine ⟨_, rfl, _, _, rfl, rfl, _, rfl, ?_⟩
      refine ite2 (fun q => ?_) (fun q => ?_)
      · exact bad (by rw [hu, decide_eq_false (by have := of_decide_eq_true q; omega)])
      have u1 : 1 ≤ u := by
        have : ¬ u < 1 := fun y => q (decide_eq_true y)
        omega
      refine ⟨_, rfl, rfl, ?_⟩
      rw [List.take_add_one, hx, List.map_append, List.all_append, hal]
      show (true && (axW 1 6 (.n u) && true)) = true
      rw [hu, decide_eq_true u1]
      rfl
    case d1 =>
    rintro σ H' ⟨o1, rfl, rfl, had⟩
    rw [List.length_map, List.take_length] at had
    have ei := (ax_ints had).1
    rw [ei] at c3
    obtain ⟨is, his⟩ : ∃ is, is = ds.map axI := ⟨_, rfl⟩
    have lis : is.length = ds.length := by rw [his, List.length_map]
    have isok : ∀ z ∈ is, 1 ≤ z ∧ z ≤ 6 := by rw [his]; exact (ax_ints had).2
    rw [← his] at c3 k0 k kn
    have eg2 : ((decide (1 ≤ ds.length) && decide (ds.length ≤ 6)) && decide (ws.length = ds.length) && (ds.map (axW 1 6)).all id && wiB is ws) = wiB is ws := by
      rw [decide_eq_true l1, decide_eq_true l6, decide_eq_true ll, had]
      rfl
    rw [eg2] at k k0 kn
    -- the wires
    refine ⟨_, rfl, a, _, 1, _, rfl, rfl, SqT.of b1, rfl, wt, _, rfl, SqT.of c2, ?_⟩
    refine for_it walk_enumT (fun i σ H4 => ∃ o2 o3 o4 : Option V, σ = [some (.ref a), o1, o2, o3, o4] ∧ Same H' H4 ∧ ∀ r : Nat, r < i → okW (r : Int) is (ws.getD r .oth) = true) ⟨none, none, none, rfl, Same.refl _, fun r hr => absurd hr (Nat.not_lt_zero r)⟩ (fun i σ H4 _ ⟨_, _, _, _, s, _⟩ => SqT.of (s _ _ c2)) ?t2 ?d2
    case d2 =>
      rintro σ H4 ⟨o2, o3, o4, rfl, s4, hall⟩
      rw [lwp] at hall
      have : wiB is ws = true := by
        unfold wiB
        rw [List.all_eq_true]
        intro b hb
        obtain ⟨r, hr, rfl⟩ := List.mem_map.mp hb
        exact hall r (List.mem_range.mp hr)
      rw [this] at k
      exact k H4 s4
    case t2 =>
      rintro i y σ H4 H5 hi ⟨o2, o3, o4, rfl, s4, hall⟩ ⟨tp, x0, y0, rfl, ntp, rfl, ex, ey⟩
      cases ex
      obtain ⟨wx, hwx, hwy⟩ := hws.get (i := i) (v := y0) ey
      have gwx : ws.getD i .oth = wx := by rw [List.getD_eq_getElem?_getD, hwx]; rfl
      have hiR : i < ws.length := (List.getElem?_eq_some_iff.mp hwx).1
      have s6 := sadd (o := .tup [.int (i : Int), y0]) s4 ntp
      have htp : upd H4 tp (.tup [.int (i : Int), y0]) tp = some (.tup [.int (i : Int), y0]) := upd_same
      generalize upd H4 tp (.tup [.int (i : Int), y0]) = H6 at s6 htp ⊢
      have hwy6 := hwy.kp (KpZ.same s6)
      have bad : okW (i : Int) is wx = false → ∀ H7, Same H' H7 → Q (.bl false) H7 := fun e H7 s7 => by
        refine kn ?_ H7 s7
        unfold wiB
        exact List.all_eq_false.mpr ⟨false, List.mem_map.mpr ⟨i, List.mem_range.mpr hiR, by rw [gwx]; exact e⟩, Bool.false_ne_true⟩
      refine ⟨tp, _, rfl, SqT.of htp, rfl, _, _, rfl, _, _, rfl, rfl, ?_⟩
      cases wx with
      | oth =>
        have hw' : NTp Z H6 y0 := hwy6
        rcases hw' with rfl | ⟨i', rfl⟩ | ⟨b', rfl⟩ | ⟨p', xs', rfl, _, hq'⟩
        · exact ⟨_, rfl, _, _, _, _, _, rfl, .ty "tuple", .base .non, kit_ty (r := false) (by decide +kernel), _, rfl, iteT (bad rfl H6 s6)⟩
        · exact ⟨_, rfl, _, _, _, _, _, rfl, .ty "tuple", .base (.int i'), kit_ty (r := false) (by decide +kernel), _, rfl, iteT (bad rfl H6 s6)⟩
        · exact ⟨_, rfl, _, _, _, _, _, rfl, .ty "tuple", .base (.bl b'), kit_ty (r := false) (by decide +kernel), _, rfl, iteT (bad rfl H6 s6)⟩
        · exact ⟨_, rfl, _, _, _, _, _, rfl, .ty "tuple", .base (.lst hq'), kit_ty (r := false) (by decide +kernel), _, rfl, iteT (bad rfl H6 s6)⟩
      | tup prs =>
      obtain ⟨wp, pvs, rfl, hwp, hprs, _⟩ := hwy6
      have lpr := hprs.len
      refine ⟨_, rfl, _, _, _, _, _, rfl, .ty "tuple", .base (.tup hwp), kit_ty (r := true) (by decide +kernel), _, rfl, iteF ?_⟩
      refine ⟨_, rfl, wp, _, rfl, .inr (SqT.of hwp), _, _, rfl, rfl, _, rfl, ?_⟩
      rw [lpr]
      by_cases l8 : prs.length ≤ 8
      case neg =>
        refine ite2 (fun _ => ?_) (fun q => absurd (decide_eq_true (by omega)) q)
        refine bad ?_ H6 s6
        show (decide (prs.length ≤ 8) && _ && _) = false
        rw [decide_eq_false l8, Bool.false_and, Bool.false_and]
      refine ite2 (fun q => absurd (of_decide_eq_true q) (by omega)) (fun _ => ?_)
      refine ⟨_, rfl, wp, rfl, ⟨_, SqT.of hwp⟩, ?_⟩
      refine for_tup (xs := pvs) (fun j σ H7 => ∃ o4 : Option V, σ = [some (.ref a), o1, some (.int (i : Int)), some (.ref wp), o4] ∧ H7 = H6 ∧ (prs.take j).all (okP (i : Int) is) = true) ⟨o4, rfl, rfl, rfl⟩ (fun j σ H7 _ ⟨_, _, e, _⟩ => by rw [e]; exact SqT.of hwp) ?t3 ?d3
      case d3 =>
        rintro σ H7 ⟨o4', rfl, rfl, hal⟩
        rw [lpr, List.take_length] at hal
        obtain ⟨qs, rfl, hps⟩ := hprs.pairs hal
        obtain ⟨f1, f2, f3⟩ := keysP_facts hps
        have lk : (keysP qs (prs.map p1w)).length = prs.length := by
          have := congrArg List.length f3
          rwa [List.length_map, List.length_map, List.length_map] at this
        refine ⟨_, rfl, wp, keysP qs (prs.map p1w), rfl, by rw [f1]; exact SqT.of hwp, fun p hp => SqT.of (f2 p hp), by omega, fun n hn => ?_⟩
        refine ⟨_, rfl, wp, _, rfl, .inr (SqT.of hwp), rfl, _, rfl, ?_⟩
        rw [lpr]
        rw [f3, nodup_pairs, lk] at hn
        have ew : okW (i : Int) is (.tup prs) = decide (prs.map p1w).Nodup := by
          show (decide (prs.length ≤ 8) && prs.all (okP (i : Int) is) && _) = _
          rw [decide_eq_true l8, hal]
          rfl
        by_cases z : (prs.map p1w).Nodup
        · rw [hn.mpr z, decide_eq_true rfl]
          refine iteF ?_
          refine ⟨_, _, _, rfl, s6, fun r hr => ?_⟩
          rcases Nat.lt_or_ge r i with h | h
          · exact hall r h
          · have e : r = i := by omega
            subst e
            rw [gwx, ew, decide_eq_true z]
        · rw [decide_eq_false (fun y => z (hn.mp (by injection y with y; omega)))]
          exact iteT (bad (by rw [ew, decide_eq_false z]) _ s6)
      case t3 =>
        rintro j y σ H7 hy ⟨o4', rfl, rfl, hal⟩
        obtain ⟨pr, hpr, hpy⟩ := hprs.get hy
        have badp : okP (i : Int) is pr = false → Q (.bl false) H7 := fun e => by
          refine bad ?_ H7 s6
          show (decide (prs.length ≤ 8) && prs.all (okP (i : Int) is) && _) = false
          have : prs.all (okP (i : Int) is) = false := List.all_eq_false.mpr ⟨pr, List.mem_of_getElem? hpr, by rw [e]; exact Bool.false_ne_true⟩
          rw [this, Bool.and_false, Bool.false_and]
        cases pr with
        | oth =>
          have hw' : NTp Z H7 y := hpy
          rcases hw' with rfl | ⟨i', rfl⟩ | ⟨b', rfl⟩ | ⟨p', xs', rfl, _, hq'⟩
          · exact ⟨_, rfl, _, _, _, _, _, rfl, .ty "tuple", .base .non, kit_ty (r := false) (by decide +kernel), _, rfl, iteT (badp rfl)⟩
          · exact ⟨_, rfl, _, _, _, _, _, rfl, .ty "tuple", .base (.int i'), kit_ty (r := false) (by decide +kernel), _, rfl, iteT (badp rfl)⟩
          · exact ⟨_, rfl, _, _, _, _, _, rfl, .ty "tuple", .base (.bl b'), kit_ty (r := false) (by decide +kernel), _, rfl, iteT (badp rfl)⟩
          · exact ⟨_, rfl, _, _, _, _, _, rfl, .ty "tuple", .base (.lst hq'), kit_ty (r := false) (by decide +kernel), _, rfl, iteT (badp rfl)⟩
        | tup xs =>
        obtain ⟨p, rfl, hpp, _⟩ := hpy
        refine ⟨_, rfl, _, _, _, _, _, rfl, .ty "tuple", .base (.tup hpp), kit_ty (r := true) (by decide +kernel), _, rfl, iteF ?_⟩
        refine ⟨_, rfl, p, _, rfl, .inr (SqT.of hpp), rfl, _, rfl, ?_⟩
        rw [List.length_map]
        by_cases lx : xs.length = 2
        case neg =>
          rw [decide_eq_false (fun y => lx (by have := V.int.inj y; omega))]
          refine iteT (badp ?_)
          match xs, lx with
          | [], _ => rfl
          | [.n _], _ => rfl
          | [.t], _ => rfl
          | [.o], _ => rfl
          | [.s _], _ => rfl
          | [_, _], lx => exact absurd rfl lx
          | .n _ :: .n _ :: _ :: _, _ => rfl
          | .n _ :: .t :: _ :: _, _ => rfl
          | .n _ :: .o :: _ :: _, _ => rfl
          | .n _ :: .s _ :: _ :: _, _ => rfl
          | .t :: _ :: _ :: _, _ => rfl
          | .o :: _ :: _ :: _, _ => rfl
          | .s _ :: _ :: _ :: _, _ => rfl
        rw [decide_eq_true (by rw [lx]; rfl)]
        refine iteF ?_
        obtain ⟨x1, x2, rfl⟩ : ∃ x1 x2, xs = [x1, x2] := by
          match xs, lx with
          | [x1, x2], _ => exact ⟨x1, x2, rfl⟩
        have hpp' : H7 p = some (.tup [x1.v, x2.v]) := hpp
        have b17 := s6 _ _ b1
        have c37 := s6 _ _ c3
        rw [okP_eq] at badp
        refine ⟨_, rfl, p, _, 0, _, rfl, rfl, SqT.of hpp', rfl, _, rfl, a, _, 2, _, rfl, rfl, SqT.of b17, rfl, dt, _, rfl, .inr (SqT.of c37), x1, _, rfl, ?_⟩
        rw [List.length_map]
        cases h1 : axB (is.length : Int) x1 with
        | false => exact ⟨_, rfl, iteT (badp (by rw [h1]; rfl))⟩
        | true =>
        obtain ⟨a1, rfl⟩ := axB_int h1
        have h1' : (decide (0 ≤ a1) && decide (a1 < (is.length : Int))) = true := h1
        rw [Bool.and_eq_true, decide_eq_true_eq, decide_eq_true_eq] at h1'
        refine ⟨_, rfl, iteF ?_⟩
        refine ⟨_, rfl, p, _, 0, _, rfl, rfl, SqT.of hpp', rfl, _, rfl, rfl, _, rfl, ?_⟩
        have z1 : decide ((Ax.n a1).v = V.int (i : Int)) = decide (a1 = (i : Int)) := by
          show decide (V.int a1 = V.int (i : Int)) = _
          by_cases e : a1 = (i : Int)
          · rw [decide_eq_true e, e, decide_eq_true rfl]
          · rw [decide_eq_false e, decide_eq_false (fun y => e (V.int.inj y))]
        rw [z1]
        cases h2 : decide (a1 = (i : Int)) with
        | true => exact iteT (iteT (badp (by show (_ && (!decide (a1 = (i : Int)) && _)) = false; rw [h2, Bool.not_true, Bool.false_and, Bool.and_false])))
        | false =>
        refine iteF ?_
        have hi1 : a1.toNat < is.length := by omega
        obtain ⟨y, hy1⟩ : ∃ y, is[a1.toNat]? = some y := ⟨_, List.getElem?_eq_getElem hi1⟩
        have gy : is.getD a1.toNat 0 = y := by rw [List.getD_eq_getElem?_getD, hy1]; rfl
        have at1 : atI (is.map V.int) a1 = some (.int y) := by
          have := atI_nat (xs := is.map V.int) (j := a1.toNat) (v := .int y) (by rw [List.getElem?_map, hy1]; rfl)
          rwa [Int.toNat_of_nonneg h1'.1] at this
        refine ⟨_, rfl, p, _, 1, _, rfl, rfl, SqT.of hpp', rfl, _, rfl, a, _, 2, _, rfl, rfl, SqT.of b17, rfl, _, rfl, p, _, 0, _, rfl, rfl, SqT.of hpp', rfl, dt, _, a1, _, rfl, rfl, SqT.of c37, at1, x2, y, rfl, ?_⟩
        have eo : okP (i : Int) is (.tup [.n a1, x2]) = axB y x2 := by
          rw [okP_eq, h1]
          show (true && (!decide (a1 = (i : Int)) && axB (is.getD a1.toNat 0) x2)) = _
          rw [h2, gy]
          rfl
        rw [← okP_eq, eo] at badp
        cases h3 : axB y x2 with
        | false => exact ⟨_, rfl, iteT (badp h3)⟩
        | true =>
          refine ⟨_, rfl, iteF ?_⟩
          refine ⟨_, rfl, rfl, ?_⟩
          rw [List.take_add_one, hpr, List.all_append, hal]
          show (true && (okP (i : Int) is (.tup [.n a1, x2]) && true)) = true
          rw [eo, h3]
          rfl
end
end OH
end
section
set_option Elab.async false
set_option linter.all false
set_option maxRecDepth 100000
set_option maxHeartbeats 8000000
/-! Parts of tuples; spoilt crossings. -/
namespace OH
open PySem PySem.Spec PyProof.Rows L2
/-- t + u of tuples -/
theorem op_catU {X : Cx} : OpR X (binaryOp .Add) (fun x y H Q => ∃ a b xs ys, x = .ref a ∧ y = .ref b ∧ H a = some (.tup xs) ∧ H b = some (.tup ys) ∧ xs.length + ys.length ≤ sizeLine ∧ ∀ p H', Same H H' → H' p = some (.tup (xs ++ ys)) → Q (.ref p) H') := by
  intro pins s σ H x y v u Q I rx ry h
  obtain ⟨a, b, xs, ys, rfl, rfl, ha, hb, hl, q⟩ := h
  refine op_catA pins s σ H _ _ v u Q I rx ry ⟨a, b, xs, ys, rfl, rfl, SqT.of ha, SqT.of hb, hl, fun e => ?_, fun _ e => ?_, fun _ _ p np => ?_⟩
  · exact q b H (Same.refl H) (by rw [e]; exact hb)
  · exact q a H (Same.refl H) (by rw [e, List.append_nil]; exact ha)
  · exact q p _ (sadd (Same.refl H) np) upd_same
/-- t[a:b] of tuples -/
theorem sl_tupU {X : Cx} : SlR X (fun x lo hi H Q => ∃ a xs, x = .ref a ∧ H a = some (.tup xs) ∧ ∀ p H', Same H H' → H' p = some (.tup (cutV xs lo hi)) → Q (.ref p) H') := by
  intro pins s σ H x v vl vu lo hi sl Q I rx hs pl pu h
  obtain ⟨a, xs, rfl, ha, q⟩ := h
  refine sl_tupA pins s σ H _ v vl vu lo hi sl Q I rx hs pl pu ⟨a, xs, rfl, SqT.of ha, fun e => ?_, fun _ p np => ?_⟩
  · refine q a H (Same.refl H) ?_
    unfold cutV
    rw [e.1, e.2, List.drop_zero, Nat.sub_zero, List.take_length]
    exact ha
  · exact q p _ (sadd (Same.refl H) np) upd_same
theorem cutV_fromZ (xs : List V) (n : Nat) (h : n ≤ xs.length) : cutV xs (some (n : Int)) none = xs.drop n := by
  unfold cutV
  have e1 : HT.sIx xs.length 0 (some (n : Int)) = n := by
    rw [HT.sIx_nat]
    omega
  have e2 : HT.sIx xs.length xs.length none = xs.length := by simp [HT.sIx]
  rw [e1, e2]
  exact List.take_of_length_le (by rw [List.length_drop]; exact Nat.le_refl _)
def Crs.axs (x : Crs) : List Ax := .s x.wd :: x.is.map Ax.n
theorem Crs.axs_v (x : Crs) : x.vs = x.axs.map Ax.v := (Crs.ax x).symm
theorem Crs.axs_lay (x : Crs) : x.axs.all axLay = true := by
  unfold Crs.axs
  rw [List.all_cons, show ((x.is.map Ax.n).all axLay) = true by rw [List.all_map]; exact List.all_eq_true.mpr fun _ _ => rfl, Bool.and_true]
  cases x <;> (simp only [Crs.wd, axLay]; decide +kernel)
theorem Crs.axs_len (x : Crs) : 1 ≤ x.axs.length ∧ x.axs.length ≤ 5 := by
  cases x <;> simp [Crs.axs, Crs.is]
theorem Crs.axs_int (x : Crs) {i : Nat} (h : 1 ≤ i) (h2 : i < x.axs.length) : ∃ z : Int, x.axs[i]? = some (.n z) := by
  obtain ⟨j, rfl⟩ : ∃ j, i = j + 1 := ⟨i - 1, by omega⟩
  unfold Crs.axs at h2 ⊢
  rw [List.length_cons, List.length_map] at h2
  refine ⟨x.is[j]'(by omega), ?_⟩
  rw [List.getElem?_cons_succ, List.getElem?_map, List.getElem?_eq_getElem (by omega)]
  rfl
theorem lay_take {xs : List Ax} (h : xs.all axLay = true) (i : Nat) : (xs.take i).all axLay = true := List.all_eq_true.mpr fun a ha => List.all_eq_true.mp h a (List.mem_of_mem_take ha)
theorem lay_drop {xs : List Ax} (h : xs.all axLay = true) (i : Nat) : (xs.drop i).all axLay = true := List.all_eq_true.mpr fun a ha => List.all_eq_true.mp h a (List.mem_of_mem_drop ha)
def spSpoI : Sp := fun vs H Q _ => ∃ (st g c u : Addr) (n : Nat) (x : Crs), vs = [.ref st, .ref u] ∧ SA H st g c n ∧ n ≤ 700000 ∧ H u = some (.tup x.vs) ∧
  ∀ (v : V) (ci : Ci) H', CiAt (Zs st g) H' v ci → SA H' st g c (n + 6) → Fr st g H H' → Q v H'
section
variable {P : Program} {w : World} {K : PySem.W.Frag} {mg : Str → Option Value} {base : Heap}
abbrev nSp : List Str := ["state", "crossing", "way", "at", "fresh"]
theorem sc__law_spoilt_item : FnScope nSp ["state", "crossing"] (defScope s__law_spoilt_item) := ⟨rfl, rfl, rfl, by decide +kernel, rfl, by decide +kernel, by decide +kernel⟩
theorem ok__law_spoilt_item {f : Addr} {fd : FuncData} (F : Fun K "_law_spoilt_item" "_law_spoilt_item" s__law_spoilt_item f fd) (T : Txt K mg) (DD : DefF P w K mg base CX0 4 "_law_draw" ["state", "room"] spDraw) (DP : DefF P w K mg base CX0 4 "_law_pick" ["state", "some"] spPick2) : FnOk P w K mg base CX0 5 f fd ["state", "crossing"] spSpoI := by
  refine F.ok sc__law_spoilt_item (fun vs H Q E h => ?_) (fun cdv A outer s H vs Q E hr h => ?_)
  · obtain ⟨st, g, c, u, n, x, rfl, _⟩ := h
    rfl
  · obtain ⟨st, g, c, u, n, x, rfl, S, hn, hu, k⟩ := h
    have nd := sc__law_spoilt_item.nd
    refine ⟨_, pss_cons (ps_par (i := 2) (j := 3) (by rfl) nd rfl rfl (by decide) rfl rfl (pa_cons (pe_cD DD hr rfl pass0 (pa_cons (pv 0) (pa_cons pe_int pa_nil))) (pa_cons (pe_cD DD hr rfl pass0 (pa_cons (pv 0) (pa_cons (pe_callB call_len_seq (by rfl) T.nLen PySem.boot_len (pa_cons (pv 1) pa_nil)) pa_nil))) pa_nil)) (by rfl))
      (pss_cons (ps_if (pt_cmpR op_eq (pv 2) pe_int (nomark _)) (pss_one (ps_ret (pe_callTy call_list_of (by rfl) T.nList (by decide +kernel) (pa_cons (pv 1) pa_nil)))) pss_nil)
      (pss_cons (ps_if (pt_cmpR op_eq (pv 2) pe_int (nomark _)) (pss_one (ps_ret (pe_op op_catU (pv 1) (pe_tup (pa_cons pe_int pa_nil))))) pss_nil)
      (pss_cons (ps_if (pt_cmpR op_eq (pv 2) pe_int (nomark _)) (pss_one (ps_ret (pe_slice sl_tupU (pv 1) po_none (po_some (pe_un un_neg pe_int))))) pss_nil)
      (pss_cons (ps_if (pt_cmpR op_eq (pv 2) pe_int (nomark _)) (pss_one (ps_ret (pe_cD DP hr rfl pass0 (pa_cons (pv 0) (pa_cons (pe_lst (pa_cons pe_non (pa_cons (pe_tup pa_nil) (pa_cons pe_str (pa_cons pe_int (pa_cons pe_dnewK pa_nil)))))) pa_nil))))) pss_nil)
      (pss_cons (ps_if (pt_cmpR op_eq (pv 3) pe_int (nomark _)) (pss_one (ps_ret (pe_op op_catU (pe_tup (pa_cons (pe_cD DP hr rfl pass0 (pa_cons (pv 0) (pa_cons (pe_lst (pa_cons pe_str (pa_cons pe_str (pa_cons pe_str (pa_cons pe_str (pa_cons pe_str (pa_cons pe_str (pa_cons pe_str (pa_cons pe_non (pa_cons pe_int pa_nil)))))))))) pa_nil))) pa_nil)) (pe_slice sl_tupU (pv 1) (po_some pe_int) po_none)))) pss_nil)
      (pss_cons (ps_set (i := 4) nd rfl (Or.inl rfl) (pe_cD DP hr rfl pass0 (pa_cons (pv 0) (pa_cons (pe_lst (pa_cons pe_int (pa_cons pe_int (pa_cons pe_int (pa_cons pe_int (pa_cons pe_int (pa_cons pe_int (pa_cons pe_int (pa_cons (pe_un un_neg pe_int) (pa_cons pe_bl (pa_cons pe_non (pa_cons pe_str (pa_cons (pe_op op_add (pe_ix ix_tup (pv 1) (pv 3) (fun _ _ => rfl)) pe_int) pa_nil))))))))))))) pa_nil))))
      (pss_one (ps_ret (pe_op op_catU (pe_op op_catU (pe_slice sl_tupU (pv 1) po_none (po_some (pv 3))) (pe_tup (pa_cons (pv 4) pa_nil))) (pe_slice sl_tupU (pv 1) (po_some (pe_op op_add (pv 3) pe_int)) po_none)))))))))), ?_⟩
    obtain ⟨l1, l5⟩ := x.axs_len
    have hlay := x.axs_lay
    have hint := @Crs.axs_int x
    rw [Crs.axs_v] at hu
    generalize x.axs = xs at hu l1 l5 hlay hint
    have z9 : (100 : Nat) ≤ sizeLine := by rw [sizeLine_eq]; decide
    refine ⟨_, rfl, st, g, c, _, 8, rfl, S, by omega, by decide, by decide, fun way H1 w0 w4 S1 F1 => ?_⟩
    have hu1 := fr_tup S F1 _ _ hu
    refine ⟨_, rfl, _, rfl, u, _, rfl, .inr (SqT.of hu1), st, g, c, _, (((xs.map Ax.v).length : Nat) : Int), rfl, S1, by omega, by rw [List.length_map]; omega, by rw [List.length_map]; omega, fun z H2 z0 zR S2 F2 => ⟨_, _, rfl, ?_⟩⟩
    rw [List.length_map] at zR
    obtain ⟨i, rfl⟩ := Int.eq_ofNat_of_zero_le z0
    have hi : i < xs.length := by omega
    have hu2 := fr_tup S1 F2 _ _ hu1
    replace F2 := F1.trans F2
    clear F1 S1 hu1 hu S
    have out : ∀ (ys : List Ax) (p : Addr) (H' : Hp) (m : Nat), H' p = some (.tup (ys.map Ax.v)) → ys.length ≤ 20 → ys.all axLay = true → SA H' st g c m → m ≤ n + 6 → Fr st g H H' → Q (.ref p) H' := fun ys p H' m hp hl hy S' hm F' => k _ (.tup ys) H' ⟨p, rfl, hp, by omega, hy⟩ (S'.mono hm) F'
    -- a list
    refine ⟨_, rfl, rfl, _, rfl, ite2 (fun _ => ?_) (fun _ => ?_)⟩
    · refine ⟨_, rfl, u, _, rfl, .inr (SqT.of hu2), fun l nl => ?_⟩
      have ol := S2.old nl
      exact k _ .oth _ (.inr (.inr (.inr (.inl ⟨l, _, rfl, ⟨ol.1, ol.2.1⟩, upd_same⟩)))) ((S2.put ol).mono (by omega)) (F2.trans (Fr.of (sadd (Same.refl H2) nl)))
    -- one more
    refine ⟨_, rfl, rfl, _, rfl, ite2 (fun _ => ?_) (fun _ => ?_)⟩
    · refine ⟨_, rfl, (by show 1 ≤ sizeLine; decide), fun t nt => ?_⟩
      have a1 := sadd (o := .tup [.int 0]) (Same.refl H2) nt
      refine ⟨u, t, _, _, rfl, rfl, a1 _ _ hu2, upd_same, by rw [List.length_map]; show xs.length + 1 ≤ _; omega, fun p H' s' hp => ?_⟩
      refine out (xs ++ [.n 0]) p H' _ (by rw [List.map_append]; exact hp) (by rw [List.length_append]; show xs.length + 1 ≤ 20; omega) (by rw [List.all_append, hlay]; rfl) ((S2.same a1).same s') (by omega) (F2.trans (Fr.of (a1.trans s')))
    -- one less
    refine ⟨_, rfl, rfl, _, rfl, ite2 (fun _ => ?_) (fun _ => ?_)⟩
    · refine ⟨_, rfl, _, rfl, _, rfl, u, _, rfl, hu2, fun p H' s' hp => ?_⟩
      rw [cutV_pop, ← List.map_dropLast] at hp
      refine out xs.dropLast p H' _ hp (by rw [List.length_dropLast]; omega) (by rw [List.dropLast_eq_take]; exact lay_take hlay _) (S2.same s') (by omega) (F2.trans (Fr.of s'))
    -- another value
    refine ⟨_, rfl, rfl, _, rfl, ite2 (fun _ => ?_) (fun _ => ?_)⟩
    · refine ⟨_, rfl, (by show 0 ≤ sizeLine; decide), fun t nt => ?_⟩
      have a1 := sadd (o := .tup []) (Same.refl H2) nt
      have f1 : upd H2 t (.tup []) t = some (.tup []) := upd_same
      generalize upd H2 t (.tup []) = H3 at a1 f1 ⊢
      refine fun d nd' => ?_
      have b2 := sadd (o := .dK []) (Same.refl H3) nd'
      have f2 : upd H3 d (.dK []) d = some (.dK []) := upd_same
      have od := (S2.same a1).old nd'
      replace f1 := b2 _ _ f1
      have a2 := a1.trans b2
      generalize upd H3 d (.dK []) = H4 at a2 f1 f2 ⊢
      refine ⟨(by show 5 ≤ sizeLine; decide), fun l nl => ?_⟩
      have ol := (S2.same a2).old nl
      have b3 := sadd (o := .lst [.non, .ref t, .str "start", .int 0, .ref d]) (Same.refl H4) nl
      have f3 : upd H4 l (.lst [.non, .ref t, .str "start", .int 0, .ref d]) l = some (.lst [.non, .ref t, .str "start", .int 0, .ref d]) := upd_same
      replace f1 := b3 _ _ f1
      replace f2 := b3 _ _ f2
      have a3 := a2.trans b3
      generalize upd H4 l (.lst [.non, .ref t, .str "start", .int 0, .ref d]) = H5 at a3 f1 f2 f3 ⊢
      have S5 := S2.same a3
      refine ⟨st, g, c, l, _, _, rfl, S5, by omega, .inl ⟨f3, ol.2.1⟩, (by show 0 < 5; decide), (by show 5 ≤ 1000000; decide), fun v H6 hv S6 F6 => ?_⟩
      have F06 := (F2.trans (Fr.of a3)).trans F6
      have hv' : v ∈ [V.non, .ref t, .str "start", .int 0, .ref d] := hv
      simp only [List.mem_cons, List.not_mem_nil, or_false] at hv'
      rcases hv' with rfl | rfl | rfl | rfl | rfl
      · exact k _ .oth _ (.inl rfl) (S6.mono (by omega)) F06
      · exact out [] t H6 _ (fr_tup S5 F6 _ _ f1) (Nat.zero_le _) rfl S6 (by omega) F06
      · exact k _ .oth _ (.inr (.inr (.inl ⟨_, rfl⟩))) (S6.mono (by omega)) F06
      · exact k _ .oth _ (.inr (.inl ⟨_, rfl⟩)) (S6.mono (by omega)) F06
      · exact k _ .oth _ (.inr (.inr (.inr (.inr ⟨d, _, rfl, ⟨od.1, od.2.1⟩, F6 _ _ f2 od.1 od.2.1⟩)))) (S6.mono (by omega)) F06
    -- another word
    refine ⟨_, rfl, rfl, _, rfl, ite2 (fun _ => ?_) (fun q0 => ?_)⟩
    · refine ⟨_, rfl, (by show 9 ≤ sizeLine; decide), fun l nl => ?_⟩
      have ol := S2.old nl
      have a1 := sadd (o := .lst [.str "start", .str "call", .str "back", .str "deep", .str "done", .str "end", .str "ends", .non, .int 0]) (Same.refl H2) nl
      have f1 : upd H2 l (.lst [.str "start", .str "call", .str "back", .str "deep", .str "done", .str "end", .str "ends", .non, .int 0]) l = some (.lst [.str "start", .str "call", .str "back", .str "deep", .str "done", .str "end", .str "ends", .non, .int 0]) := upd_same
      have hu3 := a1 _ _ hu2
      generalize upd H2 l (.lst [.str "start", .str "call", .str "back", .str "deep", .str "done", .str "end", .str "ends", .non, .int 0]) = H3 at a1 f1 hu3 ⊢
      have S3 := S2.same a1
      refine ⟨st, g, c, l, _, _, rfl, S3, by omega, .inl ⟨f1, ol.2.1⟩, (by show 0 < 9; decide), (by show 9 ≤ 1000000; decide), fun v H4 hv S4 F4 => ?_⟩
      obtain ⟨a, rfl, ha⟩ : ∃ a : Ax, v = a.v ∧ axLay a = true := by
        have hv' : v ∈ [V.str "start", .str "call", .str "back", .str "deep", .str "done", .str "end", .str "ends", .non, .int 0] := hv
        simp only [List.mem_cons, List.not_mem_nil, or_false] at hv'
        rcases hv' with rfl | rfl | rfl | rfl | rfl | rfl | rfl | rfl | rfl
        · exact ⟨.s "start", rfl, by decide +kernel⟩
        · exact ⟨.s "call", rfl, by decide +kernel⟩
        · exact ⟨.s "back", rfl, by decide +kernel⟩
        · exact ⟨.s "deep", rfl, by decide +kernel⟩
        · exact ⟨.s "done", rfl, by decide +kernel⟩
        · exact ⟨.s "end", rfl, by decide +kernel⟩
        · exact ⟨.s "ends", rfl, by decide +kernel⟩
        · exact ⟨.o, rfl, rfl⟩
        · exact ⟨.n 0, rfl, rfl⟩
      have hu4 := fr_tup S3 F4 _ _ hu3
      have F04 := (F2.trans (Fr.of a1)).trans F4
      refine ⟨(by show 1 ≤ sizeLine; decide), fun t nt => ?_⟩
      have a5 := sadd (o := .tup [a.v]) (Same.refl H4) nt
      have f5 : upd H4 t (.tup [a.v]) t = some (.tup [a.v]) := upd_same
      have hu5 := a5 _ _ hu4
      generalize upd H4 t (.tup [a.v]) = H5 at a5 f5 hu5 ⊢
      refine ⟨_, rfl, _, rfl, u, _, rfl, hu5, fun p H6 s6 hp => ?_⟩
      have ec : cutV (xs.map Ax.v) (some 1) none = (xs.drop 1).map Ax.v := by
        rw [show (1 : Int) = ((1 : Nat) : Int) from rfl, cutV_fromZ _ _ (by rw [List.length_map]; exact l1), ← List.map_drop]
      rw [ec] at hp
      refine ⟨t, p, _, _, rfl, rfl, s6 _ _ f5, hp, by rw [List.length_map, List.length_drop]; show 1 + (xs.length - 1) ≤ _; omega, fun p2 H7 s7 hp2 => ?_⟩
      refine out (a :: xs.drop 1) p2 H7 _ hp2 (by rw [List.length_cons, List.length_drop]; omega) (by rw [List.all_cons, ha, lay_drop hlay]; rfl) (((S4.same a5).same s6).same s7) (by omega) (F04.trans (Fr.of ((a5.trans s6).trans s7)))
    -- another item
    have i1 : 1 ≤ i := by
      rcases Nat.eq_zero_or_pos i with e | e
      · exact absurd (decide_eq_true (by rw [e]; rfl)) q0
      · exact e
    obtain ⟨zi, hzi⟩ := hint i1 hi
    have ati : atI (xs.map Ax.v) (i : Int) = some (.int zi) := atI_nat (by rw [List.getElem?_map, hzi]; rfl)
    refine ⟨_, rfl, _, rfl, _, rfl, _, rfl, u, _, (i : Int), .int zi, rfl, rfl, SqT.of hu2, ati, _, _, rfl, rfl, (by show 12 ≤ sizeLine; decide), fun l nl => ?_⟩
    have ol := S2.old nl
    have a1 := sadd (o := .lst [.int 0, .int 1, .int 2, .int 5, .int 6, .int 9999, .int 10000, .int (-1), .bl true, .non, .str "1", .int (zi + 1)]) (Same.refl H2) nl
    have f1 : upd H2 l (.lst [.int 0, .int 1, .int 2, .int 5, .int 6, .int 9999, .int 10000, .int (-1), .bl true, .non, .str "1", .int (zi + 1)]) l = some (.lst [.int 0, .int 1, .int 2, .int 5, .int 6, .int 9999, .int 10000, .int (-1), .bl true, .non, .str "1", .int (zi + 1)]) := upd_same
    have hu3 := a1 _ _ hu2
    generalize upd H2 l (.lst [.int 0, .int 1, .int 2, .int 5, .int 6, .int 9999, .int 10000, .int (-1), .bl true, .non, .str "1", .int (zi + 1)]) = H3 at a1 f1 hu3 ⊢
    have S3 := S2.same a1
    refine ⟨st, g, c, l, _, _, rfl, S3, by omega, .inl ⟨f1, ol.2.1⟩, (by show 0 < 12; decide), (by show 12 ≤ 1000000; decide), fun v H4 hv S4 F4 => ?_⟩
    obtain ⟨a, rfl, ha⟩ : ∃ a : Ax, v = a.v ∧ axLay a = true := by
      have hv' : v ∈ [V.int 0, .int 1, .int 2, .int 5, .int 6, .int 9999, .int 10000, .int (-1), .bl true, .non, .str "1", .int (zi + 1)] := hv
      simp only [List.mem_cons, List.not_mem_nil, or_false] at hv'
      rcases hv' with rfl | rfl | rfl | rfl | rfl | rfl | rfl | rfl | rfl | rfl | rfl | rfl
      · exact ⟨.n 0, rfl, rfl⟩
      · exact ⟨.n 1, rfl, rfl⟩
      · exact ⟨.n 2, rfl, rfl⟩
      · exact ⟨.n 5, rfl, rfl⟩
      · exact ⟨.n 6, rfl, rfl⟩
      · exact ⟨.n 9999, rfl, rfl⟩
      · exact ⟨.n 10000, rfl, rfl⟩
      · exact ⟨.n (-1), rfl, rfl⟩
      · exact ⟨.t, rfl, rfl⟩
      · exact ⟨.o, rfl, rfl⟩
      · exact ⟨.s "1", rfl, by decide +kernel⟩
      · exact ⟨.n (zi + 1), rfl, rfl⟩
    have hu4 := fr_tup S3 F4 _ _ hu3
    have F04 := (F2.trans (Fr.of a1)).trans F4
    refine ⟨_, rfl, _, rfl, _, rfl, u, _, rfl, hu4, fun p1 H5 s5 hp1 => ?_⟩
    rw [cutV_take, ← List.map_take] at hp1
    refine ⟨_, rfl, (by show 1 ≤ sizeLine; decide), fun t nt => ?_⟩
    have a6 := sadd (o := .tup [a.v]) (Same.refl H5) nt
    have f6 : upd H5 t (.tup [a.v]) t = some (.tup [a.v]) := upd_same
    have hu6 := a6 _ _ (s5 _ _ hu4)
    have hp6 := a6 _ _ hp1
    generalize upd H5 t (.tup [a.v]) = H6 at a6 f6 hu6 hp6 ⊢
    refine ⟨p1, t, _, _, rfl, rfl, hp6, f6, by rw [List.length_map, List.length_take]; show min i xs.length + 1 ≤ _; omega, fun p2 H7 s7 hp2 => ?_⟩
    refine ⟨_, rfl, _, rfl, _, _, rfl, rfl, _, rfl, u, _, rfl, s7 _ _ hu6, fun p3 H8 s8 hp3 => ?_⟩
    rw [show (i : Int) + 1 = ((i + 1 : Nat) : Int) from rfl, cutV_fromZ _ _ (by rw [List.length_map]; omega), ← List.map_drop] at hp3
    refine ⟨p2, p3, _, _, rfl, rfl, s8 _ _ hp2, hp3, by rw [List.length_append, List.length_map, List.length_take, List.length_map, List.length_drop]; show min i xs.length + 1 + (xs.length - (i + 1)) ≤ _; omega, fun p4 H9 s9 hp4 => ?_⟩
    refine out (xs.take i ++ [a] ++ xs.drop (i + 1)) p4 H9 _ (by rw [List.map_append, List.map_append]; exact hp4) (by rw [List.length_append, List.length_append, List.length_take, List.length_drop]; show min i xs.length + 1 + _ ≤ 20; omega) (by rw [List.all_append, List.all_append, lay_take hlay, lay_drop hlay, List.all_cons, ha]; rfl) (((((S4.same s5).same a6).same s7).same s8).same s9) (by omega) (F04.trans (Fr.of ((((s5.trans a6).trans s7).trans s8).trans s9)))
end
end OH
end
section
set_option Elab.async false
set_option linter.all false
set_option maxRecDepth 100000
set_option maxHeartbeats 16000000
/-! Spoilt rows. -/
namespace OH
open PySem PySem.Spec PyProof.Rows L2
section
variable {Z : Addr → Prop} {H : Hp}
theorem CisAt.getx {vs : List V} {xs : List Ci} (h : CisAt Z H vs xs) {i : Nat} {v : V} {x : Ci} (h1 : vs[i]? = some v) (h2 : xs[i]? = some x) : CiAt Z H v x := by
  obtain ⟨y, e, r⟩ := h.get h1
  rw [h2] at e
  cases e
  exact r
theorem CisAt.set_ {vs : List V} {xs : List Ci} (h : CisAt Z H vs xs) (i : Nat) {v : V} {x : Ci} (hx : CiAt Z H v x) : CisAt Z H (vs.set i v) (xs.set i x) := by
  induction h generalizing i with
  | nil => exact .nil
  | cons a b ih =>
    cases i with
    | zero => exact .cons hx b
    | succ i => exact .cons a (ih i)
end
/-- crossings stay where a list or a dict changes that none of them is -/
theorem CisAt.crs_put {Z : Addr → Prop} {H : Hp} {q : Addr} {u o : HO} (e : H q = some o) (ho : ∀ xs, o ≠ .tup xs) : ∀ {xs : List Crs} {vs : List V}, CisAt Z H vs (xs.map Crs.ci) → CisAt Z (upd H q u) vs (xs.map Crs.ci)
  | [], _, h => by
    cases h
    exact .nil
  | x :: xs, _, h => by
    cases h with
    | cons a b =>
      refine .cons ?_ (CisAt.crs_put e ho b)
      obtain ⟨p, e1, hp, r⟩ := a
      exact ⟨p, e1, (upd_ne (fun z => by rw [z, e] at hp; exact ho _ (Option.some.inj hp))).trans hp, r⟩
theorem vs_oth {Z : Addr → Prop} {H : Hp} (x : Crs) : CisAt Z H x.vs (x.vs.map fun _ => Ci.oth) := by
  have : ∀ vs : List V, (∀ v ∈ vs, Oth Z H v) → CisAt Z H vs (vs.map fun _ => Ci.oth) := fun vs => by
    induction vs with
    | nil => intro _; exact .nil
    | cons v vs ih => intro h; exact .cons (h v List.mem_cons_self) (ih fun u hu => h u (List.mem_cons_of_mem _ hu))
  refine this _ fun v hv => ?_
  rw [Crs.vs_eq] at hv
  rcases List.mem_cons.mp hv with e | e
  · exact .inr (.inr (.inl ⟨_, e⟩))
  · obtain ⟨i, _, rfl⟩ := List.mem_map.mp e
    exact .inr (.inl ⟨_, rfl⟩)
def spSpoR : Sp := fun vs H Q _ => ∃ (st g c l : Addr) (n : Nat) (cs : List Crs), vs = [.ref st, .ref l] ∧ SA H st g c n ∧ n ≤ 600000 ∧ RwAt H l cs ∧ l ≠ g ∧ 1 ≤ cs.length ∧ cs.length ≤ 100 ∧
  ∀ (v : V) (r : Rt) H', RtAt (Zs st g) H' v r → SA H' st g c (n + 20) → Fr st g H H' → Q v H'
section
variable {P : Program} {w : World} {K : PySem.W.Frag} {mg : Str → Option Value} {base : Heap}
abbrev nSr : List Str := ["state", "row", "at", "way", "other", "found"]
theorem sc__law_spoilt_row : FnScope nSr ["state", "row"] (defScope s__law_spoilt_row) := ⟨rfl, rfl, rfl, by decide +kernel, rfl, by decide +kernel, by decide +kernel⟩
theorem ok__law_spoilt_row {f : Addr} {fd : FuncData} (F : Fun K "_law_spoilt_row" "_law_spoilt_row" s__law_spoilt_row f fd) (T : Txt K mg) (DD : DefF P w K mg base CX0 6 "_law_draw" ["state", "room"] spDraw) (DP : DefF P w K mg base CX0 6 "_law_pick" ["state", "some"] spPick2) (DS : DefF P w K mg base CX0 6 "_law_spoilt_item" ["state", "crossing"] spSpoI) : FnOk P w K mg base CX0 7 f fd ["state", "row"] spSpoR := by
  refine F.ok sc__law_spoilt_row (fun vs H Q E h => ?_) (fun cdv A outer s H vs Q E hr h => ?_)
  · obtain ⟨st, g, c, l, n, cs, rfl, _⟩ := h
    rfl
  · obtain ⟨st, g, c, l, n, cs, rfl, S, hn, hrow, lg, l1, l100, k⟩ := h
    have nd := sc__law_spoilt_row.nd
    refine ⟨_, pss_cons (ps_par (i := 2) (j := 3) (by rfl) nd rfl rfl (by decide) rfl rfl (pa_cons (pe_cD DD hr rfl pass0 (pa_cons (pv 0) (pa_cons (pe_callB call_len_seq (by rfl) T.nLen PySem.boot_len (pa_cons (pv 1) pa_nil)) pa_nil))) (pa_cons (pe_cD DD hr rfl pass0 (pa_cons (pv 0) (pa_cons pe_int pa_nil))) pa_nil)) (by rfl))
      (pss_cons (ps_if (pt_cmpR op_lt (pv 3) pe_int (nomark _)) (pss_one (ps_ret (pe_op op_cat (pe_op op_cat (pe_slice sl_list (pv 1) po_none (po_some (pv 2))) (pe_lst (pa_cons (pe_cD DS hr rfl pass0 (pa_cons (pv 0) (pa_cons (pe_ix ix_list (pv 1) (pv 2) (fun _ _ => rfl)) pa_nil))) pa_nil))) (pe_slice sl_list (pv 1) (po_some (pe_op op_add (pv 2) pe_int)) po_none)))) pss_nil)
      (pss_cons (ps_if (pt_cmpR op_eq (pv 3) pe_int (nomark _)) (pss_one (ps_ret (pe_op op_cat (pe_slice sl_list (pv 1) po_none (po_some (pv 2))) (pe_slice sl_list (pv 1) (po_some (pe_op op_add (pv 2) pe_int)) po_none)))) pss_nil)
      (pss_cons (ps_if (pt_cmpR op_eq (pv 3) pe_int (nomark _)) (pss_one (ps_ret (pe_op op_cat (pe_op op_cat (pe_slice sl_list (pv 1) po_none (po_some (pv 2))) (pe_lst (pa_cons (pe_ix ix_list (pv 1) (pv 2) (fun _ _ => rfl)) (pa_cons (pe_ix ix_list (pv 1) (pv 2) (fun _ _ => rfl)) pa_nil)))) (pe_slice sl_list (pv 1) (po_some (pe_op op_add (pv 2) pe_int)) po_none)))) pss_nil)
      (pss_cons (ps_if (pt_cmpR op_eq (pv 3) pe_int (nomark _)) (pss_cons (ps_set (i := 4) nd rfl (Or.inl rfl) (pe_cD DD hr rfl pass0 (pa_cons (pv 0) (pa_cons (pe_callB call_len_seq (by rfl) T.nLen PySem.boot_len (pa_cons (pv 1) pa_nil)) pa_nil))))
      (pss_cons (ps_set (i := 5) nd rfl (Or.inl rfl) (pe_callTy call_list_of (by rfl) T.nList (by decide +kernel) (pa_cons (pv 1) pa_nil)))
      (pss_cons (ps_asg (pe_tup (pa_cons (pe_ix ix_list (pv 1) (pv 4) (fun _ _ => rfl)) (pa_cons (pe_ix ix_list (pv 1) (pv 2) (fun _ _ => rfl)) pa_nil))) (pg_tup (by rfl) (pgs_cons (pg_sub (pv 5) (pv 2) set_list) (pgs_cons (pg_sub (pv 5) (pv 4) set_list) pgs_nil))))
      (pss_one (ps_ret (pv 5)))))) pss_nil)
      (pss_cons (ps_set (i := 4) nd rfl (Or.inl rfl) (pe_lst (pa_cons (pe_lst pa_nil) (pa_cons (pe_tup pa_nil) (pa_cons pe_non (pa_cons pe_str (pa_cons (pe_disp (pps_cons pe_int (pe_ix ix_list (pv 1) pe_int (fun _ _ => rfl)) pps_nil) (by rfl) rfl (by simp) (by decide)) (pa_cons (pe_ix ix_list (pv 1) pe_int (fun _ _ => rfl)) (pa_cons (pe_revL (pv 1)) (pa_cons (pe_op op_cat (pv 1) (pe_lst (pa_cons (pe_tup (pa_cons pe_str (pa_cons pe_int pa_nil))) pa_nil))) (pa_cons (pe_op op_cat (pv 1) (pe_lst (pa_cons (pe_tup (pa_cons pe_str (pa_cons pe_int pa_nil))) pa_nil))) pa_nil)))))))))))
      (pss_one (ps_ret (pe_cD DP hr rfl pass0 (pa_cons (pv 0) (pa_cons (pv 4) pa_nil)))))))))), ?_⟩
    obtain ⟨ps, h1, h2⟩ := hrow
    have hC : CisAt (Zs st g) H (ps.map V.ref) (cs.map Crs.ci) := h2.cis
    have lC := hC.len
    have zl : l ≠ st ∧ l ≠ g := ⟨S.ne_st h1 (fun _ z => nomatch z), lg⟩
    obtain ⟨vs, ev⟩ : ∃ vs, vs = ps.map V.ref := ⟨_, rfl⟩
    obtain ⟨cis, ec⟩ : ∃ cis, cis = cs.map Crs.ci := ⟨_, rfl⟩
    rw [← ev] at h1 hC lC
    rw [← ec] at hC lC
    have lcis : cis.length = cs.length := by rw [ec, List.length_map]
    have hcrs : ∀ (i : Nat) (ci : Ci), cis[i]? = some ci → ∃ x : Crs, ci = x.ci := fun i ci e => by
      rw [ec, List.getElem?_map] at e
      obtain ⟨x, _, rfl⟩ := Option.map_eq_some_iff.mp e
      exact ⟨x, rfl⟩
    have putx : ∀ {Hx : Hp} {q : Addr} {u o : HO}, CisAt (Zs st g) Hx vs cis → Hx q = some o → (∀ xs, o ≠ .tup xs) → CisAt (Zs st g) (upd Hx q u) vs cis := fun h e ho => by
      rw [ec] at h ⊢
      exact h.crs_put e ho
    have z9 : (1000 : Nat) ≤ sizeLine := by rw [sizeLine_eq]; decide
    refine ⟨_, rfl, _, rfl, l, _, rfl, .inl (SqL.of h1), st, g, c, _, ((vs.length : Nat) : Int), rfl, S, by omega, by omega, by omega, fun z H1 z0 zR S1 F1 => ?_⟩
    obtain ⟨i, rfl⟩ := Int.eq_ofNat_of_zero_le z0
    have hi : i < vs.length := by omega
    refine ⟨_, rfl, st, g, c, _, 7, rfl, S1, by omega, by decide, by decide, fun way H2 _ _ SH2 F2 => ⟨_, _, rfl, ?_⟩⟩
    have hl := F2 _ _ (F1 _ _ h1 zl.1 zl.2) zl.1 zl.2
    replace hC := (hC.frm S F1).frm S1 F2
    replace F2 := F1.trans F2
    clear S S1 F1 h1 h2
    obtain ⟨v0, hv0⟩ : ∃ v0, vs[i]? = some v0 := ⟨_, List.getElem?_eq_getElem hi⟩
    obtain ⟨c0, hc0⟩ : ∃ c0, cis[i]? = some c0 := ⟨_, List.getElem?_eq_getElem (by omega)⟩
    obtain ⟨x0, rfl⟩ := hcrs i c0 hc0
    obtain ⟨w0, hw0⟩ : ∃ w0, vs[0]? = some w0 := ⟨_, List.getElem?_eq_getElem (by omega)⟩
    obtain ⟨d0, hd0⟩ : ∃ d0, cis[0]? = some d0 := ⟨_, List.getElem?_eq_getElem (by omega)⟩
    obtain ⟨x1, rfl⟩ := hcrs 0 d0 hd0
    obtain ⟨p0, rfl⟩ : ∃ p0, v0 = .ref p0 := by
      obtain ⟨p, e, _⟩ := hC.getx hv0 hc0
      exact ⟨p, e⟩
    have ati : atI vs (i : Int) = some (.ref p0) := atI_nat hv0
    have out : ∀ (q : Addr) (us : List V) (ds : List Ci) (H' : Hp) {m : Nat}, H' q = some (.lst us) → CisAt (Zs st g) H' us ds → ds.length ≤ 1000 → q ≠ st ∧ q ≠ g → SA H' st g c m → m ≤ n + 20 → Fr st g H H' → Q (.ref q) H' := fun q us ds H' {m} hq hc hl zq S' hm F' => k _ (.seq ds) H' ⟨q, us, rfl, zq, .inl hq, hc, hl⟩ (S'.mono hm) F'
    refine ⟨_, rfl, _, _, rfl, rfl, _, rfl, ite2 (fun _ => ?_) (fun _ => ?_)⟩
    · have F0 := Same.refl H2
      refine ⟨_, rfl, _, rfl, _, rfl, l, _, rfl, SqL.of hl, fun q1 nq1 => ?_⟩
      rw [cutV_take]
      have a1 := sadd (o := .lst (vs.take i)) (Same.refl H2) nq1
      have oq1 := SH2.old nq1
      have SJ1 := SH2.same a1
      have fq1 : upd H2 q1 (.lst (vs.take i)) q1 = some (.lst (vs.take i)) := upd_same
      replace hl := a1 _ _ hl
      replace hC := hC.same a1
      replace F0 := F0.trans a1
      generalize upd H2 q1 (.lst (vs.take i)) = J1 at *
      refine ⟨_, rfl, _, rfl, _, rfl, l, _, (i : Int), (.ref p0), rfl, rfl, SqL.of hl, ati, st, g, c, p0, _, x0, rfl, SJ1, by omega, (by obtain ⟨p, e, h, _⟩ := hC.getx hv0 hc0; cases e; rw [Crs.ax] at h; exact h), fun v ci Ha hci SHa FHa => ?_⟩
      have zl' := zl
      replace hl := FHa _ _ hl zl.1 zl.2
      replace fq1 := FHa _ _ fq1 oq1.1 oq1.2.1
      replace hC := hC.frm SJ1 FHa
      replace F2 := (F2.trans (Fr.of F0)).trans FHa
      have F0' := Same.refl Ha
      clear F0
      have F0 := Same.refl Ha
      refine ⟨(by show 1 ≤ sizeLine; decide), fun q2 nq2 => ?_⟩
      have a2 := sadd (o := .lst [v]) (Same.refl Ha) nq2
      have oq2 := SHa.old nq2
      have SJ2 := SHa.same a2
      have fq2 : upd Ha q2 (.lst [v]) q2 = some (.lst [v]) := upd_same
      replace hl := a2 _ _ hl
      replace hC := hC.same a2
      replace F0 := F0.trans a2
      replace fq1 := a2 _ _ fq1
      replace hci := hci.same a2
      generalize upd Ha q2 (.lst [v]) = J2 at *
      refine ⟨q1, q2, _, _, rfl, rfl, fq1, fq2, by rw [List.length_take]; show min i vs.length + 1 ≤ _; omega, fun q3 nq3 => ?_⟩
      have a3 := sadd (o := .lst (vs.take i ++ [v])) (Same.refl J2) nq3
      have oq3 := SJ2.old nq3
      have SJ3 := SJ2.same a3
      have fq3 : upd J2 q3 (.lst (vs.take i ++ [v])) q3 = some (.lst (vs.take i ++ [v])) := upd_same
      replace hl := a3 _ _ hl
      replace hC := hC.same a3
      replace F0 := F0.trans a3
      replace hci := hci.same a3
      generalize upd J2 q3 (.lst (vs.take i ++ [v])) = J3 at *
      refine ⟨_, rfl, _, rfl, _, _, rfl, rfl, _, rfl, l, _, rfl, SqL.of hl, fun q9 nq9 => ?_⟩
      rw [show (i : Int) + 1 = ((i + 1 : Nat) : Int) from rfl, cutV_fromZ _ _ (by omega)]
      have a4 := sadd (o := .lst (vs.drop (i + 1))) (Same.refl J3) nq9
      have oq9 := SJ3.old nq9
      have SJ4 := SJ3.same a4
      have fq9 : upd J3 q9 (.lst (vs.drop (i + 1))) q9 = some (.lst (vs.drop (i + 1))) := upd_same
      replace hl := a4 _ _ hl
      replace hC := hC.same a4
      replace F0 := F0.trans a4
      replace fq3 := a4 _ _ fq3
      replace hci := hci.same a4
      generalize upd J3 q9 (.lst (vs.drop (i + 1))) = J4 at *
      refine ⟨q3, q9, _, _, rfl, rfl, fq3, fq9, by rw [List.length_append, List.length_take, List.length_drop]; show min i vs.length + 1 + _ ≤ _; omega, fun q4 nq4 => ?_⟩
      have a5 := sadd (o := .lst (vs.take i ++ [v] ++ vs.drop (i + 1))) (Same.refl J4) nq4
      have oq4 := SJ4.old nq4
      have SJ5 := SJ4.same a5
      have fq4 : upd J4 q4 (.lst (vs.take i ++ [v] ++ vs.drop (i + 1))) q4 = some (.lst (vs.take i ++ [v] ++ vs.drop (i + 1))) := upd_same
      replace hl := a5 _ _ hl
      replace hC := hC.same a5
      replace F0 := F0.trans a5
      replace hci := hci.same a5
      generalize upd J4 q4 (.lst (vs.take i ++ [v] ++ vs.drop (i + 1))) = J5 at *
      exact out q4 _ _ J5 fq4 (((hC.take_ i).app (.cons hci .nil)).app (hC.drop_ (i + 1))) (by simp only [List.length_append, List.length_take, List.length_drop, List.length_singleton]; omega) ⟨oq4.1, oq4.2.1⟩ SJ5 (by omega) (F2.trans (Fr.of F0))
    refine ⟨_, rfl, rfl, _, rfl, ite2 (fun _ => ?_) (fun _ => ?_)⟩
    · have F0 := Same.refl H2
      refine ⟨_, rfl, _, rfl, _, rfl, l, _, rfl, SqL.of hl, fun q1 nq1 => ?_⟩
      rw [cutV_take]
      have a6 := sadd (o := .lst (vs.take i)) (Same.refl H2) nq1
      have oq1 := SH2.old nq1
      have SJ6 := SH2.same a6
      have fq1 : upd H2 q1 (.lst (vs.take i)) q1 = some (.lst (vs.take i)) := upd_same
      replace hl := a6 _ _ hl
      replace hC := hC.same a6
      replace F0 := F0.trans a6
      generalize upd H2 q1 (.lst (vs.take i)) = J6 at *
      refine ⟨_, rfl, _, rfl, _, _, rfl, rfl, _, rfl, l, _, rfl, SqL.of hl, fun q9 nq9 => ?_⟩
      rw [show (i : Int) + 1 = ((i + 1 : Nat) : Int) from rfl, cutV_fromZ _ _ (by omega)]
      have a7 := sadd (o := .lst (vs.drop (i + 1))) (Same.refl J6) nq9
      have oq9 := SJ6.old nq9
      have SJ7 := SJ6.same a7
      have fq9 : upd J6 q9 (.lst (vs.drop (i + 1))) q9 = some (.lst (vs.drop (i + 1))) := upd_same
      replace hl := a7 _ _ hl
      replace hC := hC.same a7
      replace F0 := F0.trans a7
      replace fq1 := a7 _ _ fq1
      generalize upd J6 q9 (.lst (vs.drop (i + 1))) = J7 at *
      refine ⟨q1, q9, _, _, rfl, rfl, fq1, fq9, by rw [List.length_take, List.length_drop]; omega, fun q4 nq4 => ?_⟩
      have a8 := sadd (o := .lst (vs.take i ++ vs.drop (i + 1))) (Same.refl J7) nq4
      have oq4 := SJ7.old nq4
      have SJ8 := SJ7.same a8
      have fq4 : upd J7 q4 (.lst (vs.take i ++ vs.drop (i + 1))) q4 = some (.lst (vs.take i ++ vs.drop (i + 1))) := upd_same
      replace hl := a8 _ _ hl
      replace hC := hC.same a8
      replace F0 := F0.trans a8
      generalize upd J7 q4 (.lst (vs.take i ++ vs.drop (i + 1))) = J8 at *
      exact out q4 _ _ J8 fq4 ((hC.take_ i).app (hC.drop_ (i + 1))) (by simp only [List.length_append, List.length_take, List.length_drop]; omega) ⟨oq4.1, oq4.2.1⟩ SJ8 (by omega) (F2.trans (Fr.of F0))
    refine ⟨_, rfl, rfl, _, rfl, ite2 (fun _ => ?_) (fun _ => ?_)⟩
    · have F0 := Same.refl H2
      refine ⟨_, rfl, _, rfl, _, rfl, l, _, rfl, SqL.of hl, fun q1 nq1 => ?_⟩
      rw [cutV_take]
      have a9 := sadd (o := .lst (vs.take i)) (Same.refl H2) nq1
      have oq1 := SH2.old nq1
      have SJ9 := SH2.same a9
      have fq1 : upd H2 q1 (.lst (vs.take i)) q1 = some (.lst (vs.take i)) := upd_same
      replace hl := a9 _ _ hl
      replace hC := hC.same a9
      replace F0 := F0.trans a9
      generalize upd H2 q1 (.lst (vs.take i)) = J9 at *
      refine ⟨_, rfl, _, rfl, l, _, (i : Int), (.ref p0), rfl, rfl, SqL.of hl, ati, _, rfl, _, rfl, l, _, (i : Int), (.ref p0), rfl, rfl, SqL.of hl, ati, (by show 2 ≤ sizeLine; decide), fun q2 nq2 => ?_⟩
      have a10 := sadd (o := .lst [.ref p0, .ref p0]) (Same.refl J9) nq2
      have oq2 := SJ9.old nq2
      have SJ10 := SJ9.same a10
      have fq2 : upd J9 q2 (.lst [.ref p0, .ref p0]) q2 = some (.lst [.ref p0, .ref p0]) := upd_same
      replace hl := a10 _ _ hl
      replace hC := hC.same a10
      replace F0 := F0.trans a10
      replace fq1 := a10 _ _ fq1
      generalize upd J9 q2 (.lst [.ref p0, .ref p0]) = J10 at *
      refine ⟨q1, q2, _, _, rfl, rfl, fq1, fq2, by rw [List.length_take]; show min i vs.length + 2 ≤ _; omega, fun q3 nq3 => ?_⟩
      have a11 := sadd (o := .lst (vs.take i ++ [.ref p0, .ref p0])) (Same.refl J10) nq3
      have oq3 := SJ10.old nq3
      have SJ11 := SJ10.same a11
      have fq3 : upd J10 q3 (.lst (vs.take i ++ [.ref p0, .ref p0])) q3 = some (.lst (vs.take i ++ [.ref p0, .ref p0])) := upd_same
      replace hl := a11 _ _ hl
      replace hC := hC.same a11
      replace F0 := F0.trans a11
      generalize upd J10 q3 (.lst (vs.take i ++ [.ref p0, .ref p0])) = J11 at *
      refine ⟨_, rfl, _, rfl, _, _, rfl, rfl, _, rfl, l, _, rfl, SqL.of hl, fun q9 nq9 => ?_⟩
      rw [show (i : Int) + 1 = ((i + 1 : Nat) : Int) from rfl, cutV_fromZ _ _ (by omega)]
      have a12 := sadd (o := .lst (vs.drop (i + 1))) (Same.refl J11) nq9
      have oq9 := SJ11.old nq9
      have SJ12 := SJ11.same a12
      have fq9 : upd J11 q9 (.lst (vs.drop (i + 1))) q9 = some (.lst (vs.drop (i + 1))) := upd_same
      replace hl := a12 _ _ hl
      replace hC := hC.same a12
      replace F0 := F0.trans a12
      replace fq3 := a12 _ _ fq3
      generalize upd J11 q9 (.lst (vs.drop (i + 1))) = J12 at *
      refine ⟨q3, q9, _, _, rfl, rfl, fq3, fq9, by rw [List.length_append, List.length_take, List.length_drop]; show min i vs.length + 2 + _ ≤ _; omega, fun q4 nq4 => ?_⟩
      have a13 := sadd (o := .lst (vs.take i ++ [.ref p0, .ref p0] ++ vs.drop (i + 1))) (Same.refl J12) nq4
      have oq4 := SJ12.old nq4
      have SJ13 := SJ12.same a13
      have fq4 : upd J12 q4 (.lst (vs.take i ++ [.ref p0, .ref p0] ++ vs.drop (i + 1))) q4 = some (.lst (vs.take i ++ [.ref p0, .ref p0] ++ vs.drop (i + 1))) := upd_same
      replace hl := a13 _ _ hl
      replace hC := hC.same a13
      replace F0 := F0.trans a13
      generalize upd J12 q4 (.lst (vs.take i ++ [.ref p0, .ref p0] ++ vs.drop (i + 1))) = J13 at *
      exact out q4 _ _ J13 fq4 (((hC.take_ i).app (.cons (hC.getx hv0 hc0) (.cons (hC.getx hv0 hc0) .nil))).app (hC.drop_ (i + 1))) (by simp only [List.length_append, List.length_take, List.length_drop, List.length_cons, List.length_nil]; omega) ⟨oq4.1, oq4.2.1⟩ SJ13 (by omega) (F2.trans (Fr.of F0))
    refine ⟨_, rfl, rfl, _, rfl, ite2 (fun _ => ?_) (fun _ => ?_)⟩
    · refine ⟨_, rfl, _, rfl, l, _, rfl, .inl (SqL.of hl), st, g, c, _, ((vs.length : Nat) : Int), rfl, SH2, by omega, by omega, by omega, fun z2 Ha y0 yR SHa FHa => ?_⟩
      obtain ⟨j, rfl⟩ := Int.eq_ofNat_of_zero_le y0
      have hj : j < vs.length := by omega
      obtain ⟨v1, hv1⟩ : ∃ v1, vs[j]? = some v1 := ⟨_, List.getElem?_eq_getElem hj⟩
      obtain ⟨c1, hc1⟩ : ∃ c1, cis[j]? = some c1 := ⟨_, List.getElem?_eq_getElem (by omega)⟩
      have atj : atI vs (j : Int) = some v1 := atI_nat hv1
      replace hl := FHa _ _ hl zl.1 zl.2
      replace hC := hC.frm SH2 FHa
      replace F2 := F2.trans FHa
      have F0 := Same.refl Ha
      refine ⟨_, rfl, l, _, rfl, .inl (SqL.of hl), fun q2 nq2 => ?_⟩
      have a14 := sadd (o := .lst vs) (Same.refl Ha) nq2
      have nq2' := nq2
      have oq2 := SHa.old nq2
      have SJ14 := SHa.same a14
      have fq2 : upd Ha q2 (.lst vs) q2 = some (.lst vs) := upd_same
      replace hl := a14 _ _ hl
      replace hC := hC.same a14
      replace F0 := F0.trans a14
      generalize upd Ha q2 (.lst vs) = J14 at *
      refine ⟨_, rfl, _, rfl, l, _, (j : Int), v1, rfl, rfl, SqL.of hl, atj, _, rfl, _, rfl, l, _, (i : Int), (.ref p0), rfl, rfl, SqL.of hl, ati, (by show 2 ≤ sizeLine; decide), fun q3 nq3 => ?_⟩
      have a15 := sadd (o := .tup [v1, .ref p0]) (Same.refl J14) nq3
      have oq3 := SJ14.old nq3
      have SJ15 := SJ14.same a15
      have fq3 : upd J14 q3 (.tup [v1, .ref p0]) q3 = some (.tup [v1, .ref p0]) := upd_same
      replace hl := a15 _ _ hl
      replace hC := hC.same a15
      replace F0 := F0.trans a15
      replace fq2 := a15 _ _ fq2
      generalize upd J14 q3 (.tup [v1, .ref p0]) = J15 at *
      have ixi : ∀ xs : List V, xs.length = vs.length → ixN xs.length (i : Int) = some i := fun xs e => by
        unfold ixN
        rw [if_pos (by omega), if_pos (by omega)]
        congr 1
      have ixj : ∀ xs : List V, xs.length = vs.length → ixN xs.length (j : Int) = some j := fun xs e => by
        unfold ixN
        rw [if_pos (by omega), if_pos (by omega)]
        congr 1
      refine ⟨q3, _, rfl, SqT.of fq3, rfl, _, _, rfl, _, rfl, _, rfl, q2, _, (i : Int), i, rfl, rfl, fq2, ixi _ rfl, _, _, rfl, _, rfl, _, rfl, q2, _, (j : Int), j, rfl, rfl, upd_same, ixj _ (by rw [List.length_set]), rfl, ?_⟩
      rw [upd_upd]
      refine ⟨_, rfl, out q2 _ ((cis.set i c1).set j x0.ci) _ upd_same ?_ (by rw [List.length_set, List.length_set]; omega) ⟨oq2.1, oq2.2.1⟩ (SJ15.put oq2) (by omega) (F2.trans (fun b' o e s1 s2 => (upd_ne (fun w => by rw [w] at e; rw [nq2'] at e; cases e)).trans (F0 b' o e)))⟩
      have hP := putx (u := .lst ((vs.set i v1).set j (.ref p0))) hC fq2 (fun _ z => nomatch z)
      exact (hP.set_ i (hP.getx hv1 hc1)).set_ j (hP.getx hv0 hc0)
    have ati0 : atI vs 0 = some w0 := atI_nat hw0
    have F0 := Same.refl H2
    refine ⟨(by show 0 ≤ sizeLine; decide), fun q1 nq1 => ?_⟩
    have a16 := sadd (o := .lst []) (Same.refl H2) nq1
    have oq1 := SH2.old nq1
    have SJ16 := SH2.same a16
    have fq1 : upd H2 q1 (.lst []) q1 = some (.lst []) := upd_same
    replace hl := a16 _ _ hl
    replace hC := hC.same a16
    replace F0 := F0.trans a16
    generalize upd H2 q1 (.lst []) = J16 at *
    refine ⟨(by show 0 ≤ sizeLine; decide), fun q2 nq2 => ?_⟩
    have a17 := sadd (o := .tup []) (Same.refl J16) nq2
    have oq2 := SJ16.old nq2
    have SJ17 := SJ16.same a17
    have fq2 : upd J16 q2 (.tup []) q2 = some (.tup []) := upd_same
    replace hl := a17 _ _ hl
    replace hC := hC.same a17
    replace F0 := F0.trans a17
    replace fq1 := a17 _ _ fq1
    generalize upd J16 q2 (.tup []) = J17 at *
    refine fun q3 nq3 => ?_
    have nq3x := F0.free nq3
    have a18 := sadd (o := .dK []) (Same.refl J17) nq3
    have oq3 := SJ17.old nq3
    have SJ18 := SJ17.same a18
    have fq3 : upd J17 q3 (.dK []) q3 = some (.dK []) := upd_same
    replace hl := a18 _ _ hl
    replace hC := hC.same a18
    replace F0 := F0.trans a18
    replace fq1 := a18 _ _ fq1
    replace fq2 := a18 _ _ fq2
    generalize upd J17 q3 (.dK []) = J18 at *
    refine ⟨_, rfl, l, _, 0, w0, rfl, rfl, SqL.of hl, ati0, ⟨fq3, [(.inl 0, w0)], rfl, (by show 1 ≤ 15; decide), ?_⟩⟩
    rw [show mergeK ([] : List (Key × V)) [(.inl 0, w0)] = [(.inl 0, w0)] from rfl]
    have kq : Kept [q3] J18 (upd J18 q3 (.dK [(.inl 0, w0)])) := Kept.refl.upd (List.mem_singleton.mpr rfl)
    have nn : ∀ {q : Addr} {o : HO}, J18 q = some o → (∀ kvs, o ≠ .dK kvs) → q ∉ [q3] := fun e h z => by rw [List.mem_singleton.mp z, fq3] at e; cases e; exact h _ rfl
    replace hl := kq _ _ hl (nn hl (fun _ z => nomatch z))
    replace fq1 := kq _ _ fq1 (nn fq1 (fun _ z => nomatch z))
    replace fq2 := kq _ _ fq2 (nn fq2 (fun _ z => nomatch z))
    have hC3 := putx (u := .dK [(.inl 0, w0)]) hC fq3 (fun _ z => nomatch z)
    have S3 := SJ18.put (o := .dK [(.inl 0, w0)]) oq3
    have Fq : ∀ q o, H2 q = some o → upd J18 q3 (.dK [(.inl 0, w0)]) q = some o := fun q o e => (upd_ne (fun z => by rw [z, nq3x] at e; cases e)).trans (F0 _ _ e)
    replace fq3 : upd J18 q3 (.dK [(.inl 0, w0)]) q3 = some (.dK [(.inl 0, w0)]) := upd_same
    clear nn kq hC
    generalize upd J18 q3 (.dK [(.inl 0, w0)]) = Hd at *
    have hC := hC3
    clear F0
    have F0 : Same H2 Hd := Fq
    have SHd := S3
    refine ⟨_, rfl, l, _, 0, w0, rfl, rfl, SqL.of hl, ati0, _, rfl, l, _, rfl, SqL.of hl, fun q4 nq4 => ?_⟩
    have a19 := sadd (o := .lst vs.reverse) (Same.refl Hd) nq4
    have oq4 := SHd.old nq4
    have SJ19 := SHd.same a19
    have fq4 : upd Hd q4 (.lst vs.reverse) q4 = some (.lst vs.reverse) := upd_same
    replace hl := a19 _ _ hl
    replace hC := hC.same a19
    replace F0 := F0.trans a19
    replace fq1 := a19 _ _ fq1
    replace fq2 := a19 _ _ fq2
    replace fq3 := a19 _ _ fq3
    generalize upd Hd q4 (.lst vs.reverse) = J19 at *
    refine ⟨_, rfl, (by show 2 ≤ sizeLine; decide), fun q5 nq5 => ?_⟩
    have a20 := sadd (o := .tup [.str "done", .int 3]) (Same.refl J19) nq5
    have oq5 := SJ19.old nq5
    have SJ20 := SJ19.same a20
    have fq5 : upd J19 q5 (.tup [.str "done", .int 3]) q5 = some (.tup [.str "done", .int 3]) := upd_same
    replace hl := a20 _ _ hl
    replace hC := hC.same a20
    replace F0 := F0.trans a20
    replace fq1 := a20 _ _ fq1
    replace fq2 := a20 _ _ fq2
    replace fq3 := a20 _ _ fq3
    replace fq4 := a20 _ _ fq4
    generalize upd J19 q5 (.tup [.str "done", .int 3]) = J20 at *
    refine ⟨(by show 1 ≤ sizeLine; decide), fun q6 nq6 => ?_⟩
    have a21 := sadd (o := .lst [.ref q5]) (Same.refl J20) nq6
    have oq6 := SJ20.old nq6
    have SJ21 := SJ20.same a21
    have fq6 : upd J20 q6 (.lst [.ref q5]) q6 = some (.lst [.ref q5]) := upd_same
    replace hl := a21 _ _ hl
    replace hC := hC.same a21
    replace F0 := F0.trans a21
    replace fq1 := a21 _ _ fq1
    replace fq2 := a21 _ _ fq2
    replace fq3 := a21 _ _ fq3
    replace fq4 := a21 _ _ fq4
    replace fq5 := a21 _ _ fq5
    generalize upd J20 q6 (.lst [.ref q5]) = J21 at *
    refine ⟨l, q6, _, _, rfl, rfl, hl, fq6, by show vs.length + 1 ≤ _; omega, fun q7 nq7 => ?_⟩
    have a22 := sadd (o := .lst (vs ++ [.ref q5])) (Same.refl J21) nq7
    have oq7 := SJ21.old nq7
    have SJ22 := SJ21.same a22
    have fq7 : upd J21 q7 (.lst (vs ++ [.ref q5])) q7 = some (.lst (vs ++ [.ref q5])) := upd_same
    replace hl := a22 _ _ hl
    replace hC := hC.same a22
    replace F0 := F0.trans a22
    replace fq1 := a22 _ _ fq1
    replace fq2 := a22 _ _ fq2
    replace fq3 := a22 _ _ fq3
    replace fq4 := a22 _ _ fq4
    replace fq5 := a22 _ _ fq5
    replace fq6 := a22 _ _ fq6
    generalize upd J21 q7 (.lst (vs ++ [.ref q5])) = J22 at *
    refine ⟨_, rfl, (by show 2 ≤ sizeLine; decide), fun q8 nq8 => ?_⟩
    have a23 := sadd (o := .tup [.str "end", .int 0]) (Same.refl J22) nq8
    have oq8 := SJ22.old nq8
    have SJ23 := SJ22.same a23
    have fq8 : upd J22 q8 (.tup [.str "end", .int 0]) q8 = some (.tup [.str "end", .int 0]) := upd_same
    replace hl := a23 _ _ hl
    replace hC := hC.same a23
    replace F0 := F0.trans a23
    replace fq1 := a23 _ _ fq1
    replace fq2 := a23 _ _ fq2
    replace fq3 := a23 _ _ fq3
    replace fq4 := a23 _ _ fq4
    replace fq5 := a23 _ _ fq5
    replace fq6 := a23 _ _ fq6
    replace fq7 := a23 _ _ fq7
    generalize upd J22 q8 (.tup [.str "end", .int 0]) = J23 at *
    refine ⟨(by show 1 ≤ sizeLine; decide), fun q10 nq10 => ?_⟩
    have a24 := sadd (o := .lst [.ref q8]) (Same.refl J23) nq10
    have oq10 := SJ23.old nq10
    have SJ24 := SJ23.same a24
    have fq10 : upd J23 q10 (.lst [.ref q8]) q10 = some (.lst [.ref q8]) := upd_same
    replace hl := a24 _ _ hl
    replace hC := hC.same a24
    replace F0 := F0.trans a24
    replace fq1 := a24 _ _ fq1
    replace fq2 := a24 _ _ fq2
    replace fq3 := a24 _ _ fq3
    replace fq4 := a24 _ _ fq4
    replace fq5 := a24 _ _ fq5
    replace fq6 := a24 _ _ fq6
    replace fq7 := a24 _ _ fq7
    replace fq8 := a24 _ _ fq8
    generalize upd J23 q10 (.lst [.ref q8]) = J24 at *
    refine ⟨l, q10, _, _, rfl, rfl, hl, fq10, by show vs.length + 1 ≤ _; omega, fun q11 nq11 => ?_⟩
    have a25 := sadd (o := .lst (vs ++ [.ref q8])) (Same.refl J24) nq11
    have oq11 := SJ24.old nq11
    have SJ25 := SJ24.same a25
    have fq11 : upd J24 q11 (.lst (vs ++ [.ref q8])) q11 = some (.lst (vs ++ [.ref q8])) := upd_same
    replace hl := a25 _ _ hl
    replace hC := hC.same a25
    replace F0 := F0.trans a25
    replace fq1 := a25 _ _ fq1
    replace fq2 := a25 _ _ fq2
    replace fq3 := a25 _ _ fq3
    replace fq4 := a25 _ _ fq4
    replace fq5 := a25 _ _ fq5
    replace fq6 := a25 _ _ fq6
    replace fq7 := a25 _ _ fq7
    replace fq8 := a25 _ _ fq8
    replace fq10 := a25 _ _ fq10
    generalize upd J24 q11 (.lst (vs ++ [.ref q8])) = J25 at *
    refine ⟨(by show 9 ≤ sizeLine; decide), fun q12 nq12 => ?_⟩
    have a26 := sadd (o := .lst [.ref q1, .ref q2, .non, .str "start 0", .ref q3, w0, .ref q4, .ref q7, .ref q11]) (Same.refl J25) nq12
    have oq12 := SJ25.old nq12
    have SJ26 := SJ25.same a26
    have fq12 : upd J25 q12 (.lst [.ref q1, .ref q2, .non, .str "start 0", .ref q3, w0, .ref q4, .ref q7, .ref q11]) q12 = some (.lst [.ref q1, .ref q2, .non, .str "start 0", .ref q3, w0, .ref q4, .ref q7, .ref q11]) := upd_same
    replace hl := a26 _ _ hl
    replace hC := hC.same a26
    replace F0 := F0.trans a26
    replace fq1 := a26 _ _ fq1
    replace fq2 := a26 _ _ fq2
    replace fq3 := a26 _ _ fq3
    replace fq4 := a26 _ _ fq4
    replace fq5 := a26 _ _ fq5
    replace fq6 := a26 _ _ fq6
    replace fq7 := a26 _ _ fq7
    replace fq8 := a26 _ _ fq8
    replace fq10 := a26 _ _ fq10
    replace fq11 := a26 _ _ fq11
    generalize upd J25 q12 (.lst [.ref q1, .ref q2, .non, .str "start 0", .ref q3, w0, .ref q4, .ref q7, .ref q11]) = J26 at *
    refine ⟨_, rfl, _, rfl, st, g, c, q12, _, _, rfl, SJ26, by omega, .inl ⟨fq12, oq12.2.1⟩, (by show 0 < 9; decide), (by show 9 ≤ 1000000; decide), fun v He hv SHe FHe => ?_⟩
    have hv' : v ∈ [V.ref q1, .ref q2, .non, .str "start 0", .ref q3, w0, .ref q4, .ref q7, .ref q11] := hv
    simp only [List.mem_cons, List.not_mem_nil, or_false] at hv'
    have FF := (F2.trans (Fr.of F0)).trans FHe
    have hC' := hC.frm SJ26 FHe
    have Z : ∀ {q : Addr}, q ≠ st ∧ q ≠ g ∧ q ≠ c → Zs st g q := fun o => ⟨o.1, o.2.1⟩
    have two : ∀ (q : Addr) (w : Str) (n : Int), J26 q = some (.tup [.str w, .int n]) → axLay (.s w) = true → CiAt (Zs st g) He (.ref q) (.tup [.s w, .n n]) := fun q w n e h => ⟨q, rfl, fr_tup SJ26 FHe _ _ e, (by show 2 ≤ 1000; decide), by rw [List.all_cons, h]; rfl⟩
    rcases hv' with rfl | rfl | rfl | rfl | rfl | rfl | rfl | rfl | rfl
    · exact out q1 _ _ _ (FHe _ _ fq1 oq1.1 oq1.2.1) .nil (Nat.zero_le _) ⟨oq1.1, oq1.2.1⟩ SHe (by omega) FF
    · exact k _ (.seq []) _ ⟨q2, [], rfl, Z oq2, .inr (fr_tup SJ26 FHe _ _ fq2), .nil, Nat.zero_le _⟩ (SHe.mono (by omega)) FF
    · exact k _ .oth _ (.inl rfl) (SHe.mono (by omega)) FF
    · exact k _ .oth _ (.inr (.inl ⟨_, rfl⟩)) (SHe.mono (by omega)) FF
    · exact k _ .oth _ (.inr (.inr ⟨q3, _, rfl, Z oq3, FHe _ _ fq3 oq3.1 oq3.2.1⟩)) (SHe.mono (by omega)) FF
    · obtain ⟨p, e, hp, _⟩ := hC'.getx hw0 hd0
      subst e
      rw [Crs.ax] at hp
      have zp : Zs st g p := ⟨SHe.ne_st hp (fun _ z => nomatch z), by obtain ⟨_, ⟨gs, g1, _⟩, _⟩ := id SHe; exact ne_of hp g1 (fun z => nomatch z)⟩
      exact k _ (.seq (x1.vs.map fun _ => .oth)) _ ⟨p, x1.vs, rfl, zp, .inr hp, vs_oth x1, by rw [List.length_map]; cases x1 <;> simp [Crs.vs]⟩ (SHe.mono (by omega)) FF
    · exact out q4 _ _ _ (FHe _ _ fq4 oq4.1 oq4.2.1) hC'.rev (by rw [List.length_reverse]; omega) ⟨oq4.1, oq4.2.1⟩ SHe (by omega) FF
    · exact out q7 _ _ _ (FHe _ _ fq7 oq7.1 oq7.2.1) (hC'.app (.cons (two q5 _ _ fq5 (by decide +kernel)) .nil)) (by rw [List.length_append]; show cis.length + 1 ≤ _; omega) ⟨oq7.1, oq7.2.1⟩ SHe (by omega) FF
    · exact out q11 _ _ _ (FHe _ _ fq11 oq11.1 oq11.2.1) (hC'.app (.cons (two q8 _ _ fq8 (by decide +kernel)) .nil)) (by rw [List.length_append]; show cis.length + 1 ≤ _; omega) ⟨oq11.1, oq11.2.1⟩ SHe (by omega) FF
end
end OH
end
section
set_option Elab.async false
set_option linter.all false
set_option maxRecDepth 100000
set_option maxHeartbeats 8000000
/-! Rows judged and answered. -/
namespace OH
open PySem PySem.Spec PyProof.Rows L2
open LamX (Tabs TabS ExtN TabB CodeO)
theorem call_isJA {X : Cx} {D : Addr} (C : ExcC X.K D) : CallR X (.builtin "isinstance") (fun xs H Q => ∃ (fs : Option (List (Str × V))) (a : Addr) (c : V) (cv : Value) (b : Bool),
    xs = [.ref a, c] ∧ Held H a D fs ∧ (∀ u, RelV c u → u = cv) ∧ PySem.W.kitOne X.K (.ref D) cv = some b ∧ Q (.bl b) H) :=
  fun pins s σ H xs us Q I r ⟨fs, h⟩ => call_isJ (fs := fs) C pins s σ H xs us Q I r h
theorem extN_of {H H' : Hp} (s : Same H H') : ExtN H H' := ExtN.of fun q o e => s q o e
def kw0 {α : Type} (us ws : List α) : List α := match us, ws with
  | [], [x] => [x]
  | _, _ => []
theorem kb1 {K : PySem.W.Frag} {fd : FuncData} {p : Str} (h : ∀ (s : Shared) (x : Value), K.In s.heap → BindsTo s fd ⟨[], [(p, x)]⟩ [(p, x)]) : KBinds K fd [p] [p] kw0 kw0 := by
  refine ⟨fun s us ws k l => ?_, fun {vs us zs ws} a b => ?_⟩
  · match us, ws, l with
    | [], [x], _ => exact h s x k
    | [], [], l => cases l
    | [], _ :: _ :: _, l => cases l
    | _ :: _, _, l => cases l
  · match vs, us, a, zs, ws, b with
    | [], [], _, [x], [x'], .cons h1 _ => exact .cons h1 .nil
    | [], [], _, [], [], _ => exact .nil
    | [], [], _, _ :: _ :: _, _ :: _ :: _, _ => exact .nil
    | _ :: _, _ :: _, _, _, _, _ => exact .nil
def kwT {α : Type} (us ws : List α) : List α := match us, ws with
  | [], [x, y] => [x, y]
  | _, _ => []
theorem kb2 {K : PySem.W.Frag} {fd : FuncData} {p q : Str} (h : ∀ (s : Shared) (x y : Value), K.In s.heap → BindsTo s fd ⟨[], [(p, x), (q, y)]⟩ [(p, x), (q, y)]) : KBinds K fd [p, q] [p, q] kwT kwT := by
  refine ⟨fun s us ws k l => ?_, fun {vs us zs ws} a b => ?_⟩
  · match us, ws, l with
    | [], [x, y], _ => exact h s x y k
    | [], [], l => cases l
    | [], [_], l => cases l
    | [], _ :: _ :: _ :: _, l => cases l
    | _ :: _, _, l => cases l
  · match vs, us, a, zs, ws, b with
    | [], [], _, [x, y], [x', y'], .cons h1 (.cons h2 _) => exact .cons h1 (.cons h2 .nil)
    | [], [], _, [], [], _ => exact .nil
    | [], [], _, [_], [_], _ => exact .nil
    | [], [], _, _ :: _ :: _ :: _, _ :: _ :: _ :: _, _ => exact .nil
    | _ :: _, _ :: _, _, _, _, _ => exact .nil
theorem kb_is_row {K : PySem.W.Frag} {f : Addr} {fd : FuncData} (F : Fun K "is_row" "is_row" s_is_row f fd) : KBinds K fd ["value"] ["value"] kw0 kw0 := by
  obtain ⟨oc, od, kV, doc, pm, an, cdv, ct, osl, rfl, lk, hcd⟩ := F.ex
  exact kb1 fun s x k => .of_eq rfl
theorem kb_is_face {K : PySem.W.Frag} {f : Addr} {fd : FuncData} (F : Fun K "is_face" "is_face" s_is_face f fd) : KBinds K fd ["value"] ["value"] kw0 kw0 := by
  obtain ⟨oc, od, kV, doc, pm, an, cdv, ct, osl, rfl, lk, hcd⟩ := F.ex
  exact kb1 fun s x k => .of_eq rfl
theorem kb_control_of {K : PySem.W.Frag} {f : Addr} {fd : FuncData} (F : Fun K "control_of" "control_of" s_control_of f fd) : KBinds K fd ["row"] ["row"] kw0 kw0 := by
  obtain ⟨oc, od, kV, doc, pm, an, cdv, ct, osl, rfl, lk, hcd⟩ := F.ex
  exact kb1 fun s x k => .of_eq rfl
theorem kb_open_of {K : PySem.W.Frag} {f : Addr} {fd : FuncData} (F : Fun K "open_of" "open_of" s_open_of f fd) : KBinds K fd ["row"] ["row"] kw0 kw0 := by
  obtain ⟨oc, od, kV, doc, pm, an, cdv, ct, osl, rfl, lk, hcd⟩ := F.ex
  exact kb1 fun s x k => .of_eq rfl
theorem kb_fits {K : PySem.W.Frag} {f : Addr} {fd : FuncData} (F : Fun K "fits" "fits" s_fits f fd) : KBinds K fd ["row", "face"] ["row", "face"] kwT kwT := by
  obtain ⟨oc, od, kV, doc, pm, an, cdv, ct, osl, rfl, lk, hcd⟩ := F.ex
  exact kb2 fun s x y k => .of_eq rfl
section
variable {Z : Addr → Prop} {H H' : Hp} {v : V}
theorem Oth.ext (h : Oth Z H v) (s : ExtN H H') : Oth Z H' v := by
  rcases h with h | h | h | ⟨p, xs, e, z, a⟩ | ⟨p, xs, e, z, a⟩
  · exact .inl h
  · exact .inr (.inl h)
  · exact .inr (.inr (.inl h))
  · exact .inr (.inr (.inr (.inl ⟨p, xs, e, z, s _ _ a (fun _ z => nomatch z)⟩)))
  · exact .inr (.inr (.inr (.inr ⟨p, xs, e, z, s _ _ a (fun _ z => nomatch z)⟩)))
theorem CiAt.ext {x : Ci} (h : CiAt Z H v x) (s : ExtN H H') : CiAt Z H' v x := by
  cases x with
  | tup xs => obtain ⟨p, e, a, l⟩ := h; exact ⟨p, e, s _ _ a (fun _ z => nomatch z), l⟩
  | oth => exact Oth.ext h s
theorem CisAt.ext {vs : List V} {xs : List Ci} (h : CisAt Z H vs xs) (s : ExtN H H') : CisAt Z H' vs xs := by
  induction h with
  | nil => exact .nil
  | cons a _ ih => exact .cons (a.ext s) ih
theorem RtAt.ext {r : Rt} (h : RtAt Z H v r) (s : ExtN H H') : RtAt Z H' v r := by
  cases r with
  | seq cs => obtain ⟨p, vs, e, z, a, b⟩ := h; exact ⟨p, vs, e, z, a.elim (fun a => .inl (s _ _ a (fun _ z => nomatch z))) (fun a => .inr (s _ _ a (fun _ z => nomatch z))), b.1.ext s, b.2⟩
  | oth =>
    rcases h with h | h | ⟨p, xs, e, z, a⟩
    · exact .inl h
    · exact .inr (.inl h)
    · exact .inr (.inr ⟨p, xs, e, z, s _ _ a (fun _ z => nomatch z)⟩)
end
theorem stt_asks : ∀ (xs : List Crs) (c : Option Int) (w : Wk), (stt (c, w.asks) xs).2 = (wk w xs).asks
  | [], _, _ => rfl
  | x :: xs, c, w => by
    show (stt (bh (c, w.asks) x) xs).2 = (wk (tk w x) xs).asks
    have h := stt_asks xs (bh (c, w.asks) x).1 (tk w x)
    rw [← bh_asks c w x] at h
    exact h
theorem ws_walk : ∀ (xs : List Crs) (w : Wk) (s : Rs), WS w s → goodGo w xs = true → WS (wk w xs) (stt s xs)
  | [], _, _, h, _ => h
  | x :: xs, w, s, h, hg => by
    have hg' : (canC w x && goodGo (tk w x) xs) = true := hg
    rw [Bool.and_eq_true] at hg'
    exact ws_walk xs _ _ (h.step hg'.1) hg'.2
theorem good_ctl {cs : List Crs} (h : goodB cs = true) : (if (wk w0 cs).over = true then V.non else optV (wk w0 cs).ins) = optV (stt (none, []) cs).1 := by
  cases cs with
  | nil => cases h
  | cons x xs =>
    have h' : (true && (canC w0 x && goodGo (tk w0 x) xs)) = true := h
    rw [Bool.true_and, Bool.and_eq_true, canC_first] at h'
    cases x with
    | start n =>
      have h3 := ws_walk xs _ _ (ws_start n) h'.2
      show (if (wk (tk w0 (.start n)) xs).over = true then V.non else optV (wk (tk w0 (.start n)) xs).ins) = optV (stt (some 0, []) xs).1
      rcases h3 with ⟨e1, e2⟩ | ⟨r, e1, e2, e3, _⟩
      · rw [e1, if_pos rfl, e2]
        rfl
      · rw [e1, if_neg Bool.false_ne_true, e2, e3]
    | _ => exact absurd h'.1 Bool.false_ne_true
theorem eqv_sh {d : PyData} (h : SeqAt.shaped d = true) : PyData.eqv d d = true := SeqAt.eqv_refl d (by unfold SeqAt.shaped at h; rw [Bool.and_eq_true] at h; exact h.1)
def spRowsH (T : List (Addr × Str)) : Sp := fun vs H Q _ => ∃ (Z : Addr → Prop) (sv v : V) (r : Rt), vs = [sv, v] ∧ RtAt Z H v r ∧ Tabs T H ∧ ∀ H', ExtN H H' → Tabs T H' → Q (.bl true) H'
section
variable {P : Program} {w : World} {K : PySem.W.Frag} {mg : Str → Option Value} {base : Heap}
abbrev nRh : List Str := ["state", "row", "told", "control", "asks"]
theorem sc__law_rows_hold : FnScope nRh ["state", "row"] (defScope s__law_rows_hold) := ⟨rfl, rfl, rfl, by decide +kernel, rfl, by decide +kernel, by decide +kernel⟩
theorem ok__law_rows_hold {f c0 Pt CO CB CF fC fI fK fO fF : Addr} {fdC fdI fdK fdO fdF : FuncData} {Ts : List (Addr × Str)} {oc : Value} {od an : Option Addr} {kV doc pm ct : Value} {osl : Array (Option Value)}
    (lk : K.lookup f = some ⟨oc, od, .func (PySem.W.fnOf "_law_rows_hold" "_law_rows_hold" (defArgs s__law_rows_hold) (defBody s__law_rows_hold) (defScope s__law_rows_hold) .none kV doc pm an (.ref c0) ct), osl⟩) (hcd : PySem.W.codeIn K (.ref c0) "_law_rows_hold" = true)
    (T : Txt K mg) (TB : TabB base mg c0 Pt) (hT : ((Pt, "_law_rows_hold.<locals>.<lambda>") : Addr × Str) ∈ Ts) (hu : ∀ p ∈ Ts, p.1 = Pt → p.2 = "_law_rows_hold.<locals>.<lambda>")
    (EB : ErrC K mg "BadRow" CB) (XB : ExcC K CB) (mOB : PySem.W.exmOne K (.ref CB) (.ref CO) = some true) (iBB : PySem.W.kitOne K (.ref CB) (.ref CB) = some true) (gO : mg "OwnharmError" = some (.ref CO))
    (FC : Fun K "_law_caught" "_law_caught" s__law_caught fC fdC) (mC : mg "_law_caught" = some (.ref fC)) (bC : Binds K fdC ["action"] [])
    (FI : FnOk P w K mg base CX0 9 fI fdI ["value"] spGoodX) (mI : mg "is_row" = some (.ref fI)) (kI : PySem.W.keepIn K (.ref fI) = true) (kbI : KBinds K fdI ["value"] ["value"] kw0 kw0)
    (FK : FnOk P w K mg base (L2.CX P w) 9 fK fdK ["row"] (spControlX CB)) (mK : mg "control_of" = some (.ref fK)) (kK : PySem.W.keepIn K (.ref fK) = true) (bK : Binds K fdK ["row"] []) (kbK : KBinds K fdK ["row"] ["row"] kw0 kw0)
    (FO : FnOk P w K mg base (L2.CX P w) 9 fO fdO ["row"] (spOpenX CB)) (mO2 : mg "open_of" = some (.ref fO)) (kO : PySem.W.keepIn K (.ref fO) = true) (bO : Binds K fdO ["row"] []) (kbO : KBinds K fdO ["row"] ["row"] kw0 kw0)
    (FF : FnOk P w K mg base (L2.CX P w) 9 fF fdF ["row", "face"] (spFitsX CB CF)) (mF : mg "fits" = some (.ref fF)) (kF : PySem.W.keepIn K (.ref fF) = true) (bF : Binds K fdF ["row", "face"] [])
    (DJ : DefF P w K mg base CX0 11 "_law_judged" ["thing"] spGoodX) (DR : DefF P w K mg base CX0 11 "_law_behind_row" ["row"] spBehindRowX) :
    FnOk P w K mg base CX0 12 f (PySem.W.fnOf "_law_rows_hold" "_law_rows_hold" (defArgs s__law_rows_hold) (defBody s__law_rows_hold) (defScope s__law_rows_hold) .none kV doc pm an (.ref c0) ct) ["state", "row"] (spRowsH Ts) := by
  obtain ⟨oC, oD, kVC, docC, pmC, anC, cdC, ctC, oslC, rfl, lkC, cgC⟩ := FC.ex
  refine fn_of lk hcd sc__law_rows_hold (fun vs H Q E h => ?_) fun A outer s H vs Q E hr h => ?_
  · obtain ⟨Z, sv, v, r, rfl, _⟩ := h
    rfl
  obtain ⟨Z, sv, v, r, rfl, hv, hTb, k⟩ := h
  have nd := sc__law_rows_hold.nd
  refine (fun (main : ∃ t, PSs (cxOf CX0 P w K mg base nRh "_law_rows_hold" (defScope s__law_rows_hold) f (.ref c0) A outer s H E).nox (defBody s__law_rows_hold) t ∧
      t { nx := fun _ H' => Q .non H', rt := Q } (L2.start nRh [sv, v]) H) => (by obtain ⟨t, h1, h2⟩ := main; exact ⟨t, h1.nox, h2⟩)) ?_
  refine ⟨_, pss_cons (ps_set (i := 2) nd rfl (Or.inl rfl) (pe_callK0 FI (hr.mono (by decide)) rfl mI kI kbI pass0 (pk_cons (pv 1) pk_nil)))
      (pss_cons (ps_if (PW.pt (pw_or (pt_not (pt_val (pe_callB call_isi (by rfl) T.nIsi (by decide +kernel) (pa_cons (pv 2) (pa_cons (pe_bltn (v := .ty "bool") (by rfl) T.nBool (by decide +kernel) rfl) pa_nil))))) (pw_or1 (pt_cmpR op_ne (pv 2) (pe_cD DJ hr rfl pass0 (pa_cons (pv 1) pa_nil)) (nomark _))))) (pss_one (ps_ret pe_bl)) pss_nil)
      (pss_cons (ps_if (pt_not (pt_val (pv 2))) (pss_cons (ps_if (pt_not (pt_val (pe_callB (call_isJA XB) (by rfl) T.nIsi (by decide +kernel) (pa_cons (LamX.pe_lamcall (k := 9) (params := _) (t := fun E => _) rfl mC FC.kp lkC cgC bC sc__law_caught rfl (Or.inl rfl) (caught_givesJ gO) TB rfl hT hu hr
        (LamX.lamS_by (by show LamX.lamSB (defScope s__law_rows_hold) _ = true; decide +kernel)) rfl (fun _ _ _ _ _ => rfl)
        (fun A outer s H E f c' hr2 => (pe_callS FK hr2 rfl mK kK bK (fun σ => L2.passAt (takes_of rfl rfl rfl rfl) σ) (pa_cons (pv 1) pa_nil)))) (pa_cons (pe_glob (v := .ref CB) rfl EB.g rfl) pa_nil))))) (pss_one (ps_ret pe_bl)) pss_nil)
      (pss_cons (ps_if (pt_not (pt_val (pe_callB (call_isJA XB) (by rfl) T.nIsi (by decide +kernel) (pa_cons (LamX.pe_lamcall (k := 9) (params := _) (t := fun E => _) rfl mC FC.kp lkC cgC bC sc__law_caught rfl (Or.inl rfl) (caught_givesJ gO) TB rfl hT hu hr
        (LamX.lamS_by (by show LamX.lamSB (defScope s__law_rows_hold) _ = true; decide +kernel)) rfl (fun _ _ _ _ _ => rfl)
        (fun A outer s H E f c' hr2 => (pe_callS FO hr2 rfl mO2 kO bO (fun σ => L2.passAt (takes_of rfl rfl rfl rfl) σ) (pa_cons (pv 1) pa_nil)))) (pa_cons (pe_glob (v := .ref CB) rfl EB.g rfl) pa_nil))))) (pss_one (ps_ret pe_bl)) pss_nil)
      (pss_one (ps_ret (pe_callB (call_isJA XB) (by rfl) T.nIsi (by decide +kernel) (pa_cons (LamX.pe_lamcall (k := 9) (params := _) (t := fun E => _) rfl mC FC.kp lkC cgC bC sc__law_caught rfl (Or.inl rfl) (caught_givesJ gO) TB rfl hT hu hr
        (LamX.lamS_by (by show LamX.lamSB (defScope s__law_rows_hold) _ = true; decide +kernel)) rfl (fun _ _ _ _ _ => rfl)
        (fun A outer s H E f c' hr2 => (pe_callS FF hr2 rfl mF kF bF (fun σ => L2.passAt (takes_of rfl rfl rfl rfl) σ) (pa_cons (pv 1) (pa_cons pe_non pa_nil))))) (pa_cons (pe_glob (v := .ref CB) rfl EB.g rfl) pa_nil))))))) pss_nil)
      (pss_cons (ps_asg (pe_cD DR hr rfl pass0 (pa_cons (pv 1) pa_nil)) (pg_tup (by rfl) (pgs_cons (pg_name (i := 3) nd rfl (Or.inl rfl)) (pgs_cons (pg_name (i := 4) nd rfl (Or.inl rfl)) pgs_nil))))
      (pss_one (ps_ret (pe_and (pe_cmpR op_eq (pe_callK0 FK (hr.mono (by decide)) rfl mK kK kbK passL (pk_cons (pv 1) pk_nil)) (pv 3) (nomark _)) (pe_one (pe_cmpR (op_eqD hr.units) (pe_callK0 FO (hr.mono (by decide)) rfl mO2 kO kbO passL (pk_cons (pv 1) pk_nil)) (pv 4) (nomark _))))))))), ?_⟩
  refine ⟨_, rfl, Z, v, r, rfl, hv, fun H1 s1 => ?_⟩
  refine ⟨_, rfl, _, _, _, _, _, rfl, .ty "bool", .base (.bl _), kit_ty (r := true) (by decide +kernel), _, rfl, iteF ?_⟩
  refine ⟨_, rfl, _, rfl, Z, v, r, rfl, hv.same s1, fun H2 s2 => ?_⟩
  have s02 := s1.trans s2
  refine ⟨rfl, _, rfl, ite2 (fun z => absurd z (by simp)) (fun _ => ?_)⟩
  refine ⟨_, rfl, _, rfl, ?_⟩
  cases hg : goodRt r with
  | false =>
    refine iteT ?_
    have hv2 := hv.same s02
    refine ⟨hTb.ext s02, fun H3 e3 T3 Q1 hQ1 => ⟨_, rfl, Z, v, r, rfl, hv2.ext e3, fun cs e1 e2 => absurd hg (by rw [e1, goodRt_map, e2]; decide), fun _ H4 s4 => ⟨mOB, fun ea nea => ?_⟩⟩⟩
    have s5 := sadd (o := ExJ (.ref CB) none ea) s4 nea
    refine ⟨none, ea, .ref CB, .ref CB, true, rfl, upd_same, fun u r => r, iBB, _, rfl, iteF ?_⟩
    have T5 := T3.ext s5
    have x5 := ((extN_of s02).trans e3).trans (extN_of s5)
    generalize upd H4 ea (ExJ (.ref CB) none ea) = H5 at T5 x5 ⊢
    clear s5 s4 T3 e3 nea
    refine ⟨T5, fun H6 e6 T6 Q2 hQ2 => ⟨_, rfl, Z, v, r, rfl, (hv.ext x5).ext e6, fun cs e1 e2 => absurd hg (by rw [e1, goodRt_map, e2]; decide), fun _ H7 s7 => ⟨mOB, fun eb neb => ?_⟩⟩⟩
    have s8 := sadd (o := ExJ (.ref CB) none eb) s7 neb
    refine ⟨none, eb, .ref CB, .ref CB, true, rfl, upd_same, fun u r => r, iBB, _, rfl, iteF ?_⟩
    have T8 := T6.ext s8
    have x8 := (x5.trans e6).trans (extN_of s8)
    generalize upd H7 eb (ExJ (.ref CB) none eb) = H8 at T8 x8 ⊢
    clear s8 s7 T6 e6 neb
    refine ⟨T8, fun H9 e9 T9 Q3 hQ3 => ⟨_, rfl, Z, v, .non, r, .oth, rfl, (hv.ext x8).ext e9, .inl rfl, fun _ H10 s10 => ⟨mOB, fun ec nec => ?_⟩, fun h1 => absurd h1 (by rw [hg]; decide), fun cs e1 e2 => absurd hg (by rw [e1, goodRt_map, e2]; decide)⟩⟩
    have s11 := sadd (o := ExJ (.ref CB) none ec) s10 nec
    refine ⟨none, ec, .ref CB, .ref CB, true, rfl, upd_same, fun u r => r, iBB, ?_⟩
    exact k _ ((x8.trans e9).trans (extN_of s11)) (T9.ext s11)
  | true =>
    refine iteF ?_
    obtain ⟨cs, rfl, hgb⟩ := goodRt_crs hg
    obtain ⟨l, rfl, hx, hn⟩ := hv.rwx
    refine ⟨_, rfl, l, cs, rfl, hx.same s02, hn, fun u al' H3 s3 nu na hu3 hak => ?_⟩
    refine ⟨u, _, rfl, SqT.of hu3, rfl, _, _, rfl, _, _, rfl, rfl, ?_⟩
    have s03 := s02.trans s3
    refine ⟨_, rfl, Z, .ref l, _, rfl, hv.same s03, fun cs' e1 g1 H4 s4 => ?_, fun h1 => absurd h1 (by rw [hg]; decide)⟩
    have ecs : cs' = cs := by
      have := congrArg (fun r => match r with | Rt.seq xs => xs.filterMap crsX | _ => []) e1
      simp only [List.filterMap_map, Function.comp_def, crsX_ci, List.filterMap_some] at this
      exact this.symm
    subst ecs
    rw [good_ctl g1]
    refine ⟨_, rfl, ?_, _, rfl, ?_⟩
    · cases (stt (none, []) cs').1 <;> rfl
    rw [decide_eq_true rfl]
    refine iteT ?_
    have s04 := s03.trans s4
    refine ⟨_, rfl, Z, .ref l, _, rfl, hv.same s04, fun cs2 e1 g1 al2 ps2 H5 s5 nal h5 ha5 => ?_, fun h1 => absurd h1 (by rw [hg]; decide)⟩
    have ecs : cs2 = cs' := by
      have := congrArg (fun r => match r with | Rt.seq xs => xs.filterMap crsX | _ => []) e1
      simp only [List.filterMap_map, Function.comp_def, crsX_ci, List.filterMap_some] at this
      exact this.symm
    subst ecs
    obtain ⟨aps, a1, a2⟩ := hak.same (s4.trans s5)
    have ea : (stt (none, []) cs2).2 = (wk w0 cs2).asks := stt_asks cs2 none w0
    rw [ea] at a2
    refine ⟨_, rfl, .list ((wk w0 cs2).asks.map pairD), .list ((wk w0 cs2).asks.map pairD), .lst (SqL.of h5) ha5.dpp, .lst (SqL.of a1) a2.dpp, shaped_pairs _, shaped_pairs _, ?_⟩
    rw [eqv_sh (shaped_pairs _)]
    exact k _ (extN_of (s04.trans s5)) (hTb.ext (s04.trans s5))
end
end OH
end
section
set_option Elab.async false
set_option linter.all false
set_option maxRecDepth 100000
set_option maxHeartbeats 16000000
/-! Spoilt faces. -/
namespace OH
open PySem PySem.Spec PyProof.Rows L2
theorem PairsAt.p1 {Z : Addr → Prop} {H : Hp} {ps : List Addr} {ws : List (Int × Int)} (h : PairsAt H ps ws) : A2 (P1At Z H) (ps.map V.ref) (ws.map fun p => P1.tup [.n p.1, .n p.2]) := by
  induction h with
  | nil => exact .nil
  | cons a _ ih => exact .cons ⟨_, rfl, a, by show 2 ≤ 1000; decide⟩ ih
theorem FcAt.wl {Z : Addr → Prop} {H : Hp} {F : Fc} {wps : List Addr} (hF : F.Ok) (l : wps.length = F.R) (h : ∀ (i : Nat) (q : Addr), wps[i]? = some q → ∃ ps : List Addr, H q = some (.tup (ps.map V.ref)) ∧ PairsAt H ps (F.ws i)) :
    A2 (W1At Z H) (wps.map V.ref) ((List.range wps.length).map fun i => W1.tup ((F.ws i).map fun p => P1.tup [.n p.1, .n p.2])) := by
  have go : ∀ (qs : List Addr) (k : Nat), (∀ (i : Nat) (q : Addr), qs[i]? = some q → k + i < F.R ∧ ∃ ps : List Addr, H q = some (.tup (ps.map V.ref)) ∧ PairsAt H ps (F.ws (k + i))) → A2 (W1At Z H) (qs.map V.ref) ((List.range qs.length).map fun i => W1.tup ((F.ws (k + i)).map fun p => P1.tup [.n p.1, .n p.2])) := fun qs => by
    induction qs with
    | nil => intro k _; exact .nil
    | cons q qs ih =>
      intro k hq
      rw [List.length_cons, List.range_succ_eq_map, List.map_cons, List.map_cons, List.map_map]
      refine .cons ?_ ?_
      · obtain ⟨h1, ps, h2, h3⟩ := hq 0 q rfl
        refine ⟨q, _, rfl, h2, h3.p1, ?_⟩
        rw [List.length_map]
        have := (hF.wi (k + 0) h1).1
        omega
      · have := ih (k + 1) fun i u e => by
          have := hq (i + 1) u e
          rw [show k + (i + 1) = k + 1 + i by omega] at this
          exact this
        have e : ((fun i => W1.tup ((F.ws (k + i)).map fun p => P1.tup [.n p.1, .n p.2])) ∘ Nat.succ) = fun i => W1.tup ((F.ws (k + 1 + i)).map fun p => P1.tup [.n p.1, .n p.2]) := by
          funext i
          show W1.tup ((F.ws (k + (i + 1))).map _) = _
          rw [show k + (i + 1) = k + 1 + i by omega]
        rw [e]
        exact this
  have := go wps 0 fun i q e => ⟨by rw [← l, Nat.zero_add]; exact (List.getElem?_eq_some_iff.mp e).1, by rw [Nat.zero_add]; exact h i q e⟩
  simpa only [Nat.zero_add] using this
def spSpoF : Sp := fun vs H Q _ => ∃ (st g c a : Addr) (n : Nat) (F : Fc), vs = [.ref st, .ref a] ∧ SA H st g c n ∧ n ≤ 700000 ∧ FcAt H a F ∧
  ∀ (v : V) (x : Fa) H', FaAt (Zs st g) H' v x → SA H' st g c (n + 6) → Fr st g H H' → Q v H'
section
variable {P : Program} {w : World} {K : PySem.W.Frag} {mg : Str → Option Value} {base : Heap}
abbrev nSf : List Str := ["state", "face", "depth", "wires", "doors", "way", "at", "fresh", "more", "other"]
theorem sc__law_spoilt_face : FnScope nSf ["state", "face"] (defScope s__law_spoilt_face) := ⟨rfl, rfl, rfl, by decide +kernel, rfl, by decide +kernel, by decide +kernel⟩
theorem ok__law_spoilt_face {f : Addr} {fd : FuncData} (F : Fun K "_law_spoilt_face" "_law_spoilt_face" s__law_spoilt_face f fd) (T : Txt K mg) (DD : DefF P w K mg base CX0 6 "_law_draw" ["state", "room"] spDraw) (DP : DefF P w K mg base CX0 6 "_law_pick" ["state", "some"] spPick2) : FnOk P w K mg base CX0 7 f fd ["state", "face"] spSpoF := by
  refine F.ok sc__law_spoilt_face (fun vs H Q E h => ?_) (fun cdv A outer s H vs Q E hr h => ?_)
  · obtain ⟨st, g, c, a, n, F, rfl, _⟩ := h
    rfl
  · obtain ⟨st, g, c, a, n, F, rfl, S, hn, hf, k⟩ := h
    have nd := sc__law_spoilt_face.nd
    refine ⟨_, pss_cons (ps_asg (pv 1) (pg_tup (by rfl) (pgs_cons (pg_name (i := 2) nd rfl (Or.inl rfl)) (pgs_cons (pg_name (i := 3) nd rfl (Or.inl rfl)) (pgs_cons (pg_name (i := 4) nd rfl (Or.inl rfl)) pgs_nil)))))
      (pss_cons (ps_par (i := 5) (j := 6) (by rfl) nd rfl rfl (by decide) rfl rfl (pa_cons (pe_cD DD hr rfl pass0 (pa_cons (pv 0) (pa_cons pe_int pa_nil))) (pa_cons (pe_cD DD hr rfl pass0 (pa_cons (pv 0) (pa_cons (pe_callB call_len_seq (by rfl) T.nLen PySem.boot_len (pa_cons (pv 4) pa_nil)) pa_nil))) pa_nil)) (by rfl))
      (pss_cons (ps_if (pt_cmpR op_eq (pv 5) pe_int (nomark _)) (pss_one (ps_ret (pe_tup (pa_cons (pe_cD DP hr rfl pass0 (pa_cons (pv 0) (pa_cons (pe_lst (pa_cons pe_int (pa_cons pe_int (pa_cons pe_int (pa_cons pe_bl (pa_cons pe_non (pa_cons (pe_un un_neg pe_int) pa_nil))))))) pa_nil))) (pa_cons (pv 3) (pa_cons (pv 4) pa_nil)))))) pss_nil)
      (pss_cons (ps_if (pt_cmpR op_eq (pv 5) pe_int (nomark _)) (pss_one (ps_ret (pe_tup (pa_cons (pv 2) (pa_cons (pv 3) (pa_cons (pe_op op_catU (pe_op op_catU (pe_slice sl_tupU (pv 4) po_none (po_some (pv 6))) (pe_tup (pa_cons (pe_cD DP hr rfl pass0 (pa_cons (pv 0) (pa_cons (pe_lst (pa_cons pe_int (pa_cons pe_int (pa_cons pe_int (pa_cons pe_int (pa_cons pe_bl (pa_cons pe_non pa_nil))))))) pa_nil))) pa_nil))) (pe_slice sl_tupU (pv 4) (po_some (pe_op op_add (pv 6) pe_int)) po_none)) pa_nil)))))) pss_nil)
      (pss_cons (ps_if (pt_cmpR op_eq (pv 5) pe_int (nomark _)) (pss_cons (ps_set (i := 7) nd rfl (Or.inl rfl) (pe_cD DP hr rfl pass0 (pa_cons (pv 0) (pa_cons (pe_lst (pa_cons (pe_tup (pa_cons (pv 6) (pa_cons pe_int pa_nil))) (pa_cons (pe_tup (pa_cons pe_int (pa_cons pe_int pa_nil))) (pa_cons (pe_tup (pa_cons pe_int (pa_cons pe_int pa_nil))) (pa_cons (pe_tup (pa_cons pe_int (pa_cons pe_int pa_nil))) (pa_cons (pe_tup (pa_cons pe_int (pa_cons pe_int pa_nil))) (pa_cons (pe_lst (pa_cons pe_int (pa_cons pe_int pa_nil))) (pa_cons (pe_tup (pa_cons pe_int (pa_cons pe_bl pa_nil))) (pa_cons (pe_tup (pa_cons pe_int pa_nil)) (pa_cons pe_non pa_nil)))))))))) pa_nil))))
      (pss_one (ps_ret (pe_tup (pa_cons (pv 2) (pa_cons (pe_op op_catU (pe_op op_catU (pe_slice sl_tupU (pv 3) po_none (po_some (pv 6))) (pe_tup (pa_cons (pe_op op_catU (pe_ix ix_tup (pv 3) (pv 6) (fun _ _ => rfl)) (pe_tup (pa_cons (pv 7) pa_nil))) pa_nil))) (pe_slice sl_tupU (pv 3) (po_some (pe_op op_add (pv 6) pe_int)) po_none)) (pa_cons (pv 4) pa_nil))))))) pss_nil)
      (pss_cons (ps_if (pt_cmpR op_eq (pv 5) pe_int (nomark _)) (pss_one (ps_ret (pe_tup (pa_cons (pv 2) (pa_cons (pe_op op_catU (pe_op op_catU (pe_slice sl_tupU (pv 3) po_none (po_some (pv 6))) (pe_tup (pa_cons (pe_op op_catU (pe_ix ix_tup (pv 3) (pv 6) (fun _ _ => rfl)) (pe_slice sl_tupU (pe_ix ix_tup (pv 3) (pv 6) (fun _ _ => rfl)) po_none (po_some pe_int))) pa_nil))) (pe_slice sl_tupU (pv 3) (po_some (pe_op op_add (pv 6) pe_int)) po_none)) (pa_cons (pv 4) pa_nil)))))) pss_nil)
      (pss_cons (ps_if (pt_cmpR op_eq (pv 5) pe_int (nomark _)) (pss_one (ps_ret (pe_tup (pa_cons (pv 2) (pa_cons (pe_op op_catU (pe_op op_catU (pe_slice sl_tupU (pv 3) po_none (po_some (pv 6))) (pe_tup (pa_cons (pe_callTy call_list_of (by rfl) T.nList (by decide +kernel) (pa_cons (pe_ix ix_tup (pv 3) (pv 6) (fun _ _ => rfl)) pa_nil)) pa_nil))) (pe_slice sl_tupU (pv 3) (po_some (pe_op op_add (pv 6) pe_int)) po_none)) (pa_cons (pv 4) pa_nil)))))) pss_nil)
      (pss_cons (ps_if (pt_cmpR op_eq (pv 5) pe_int (nomark _)) (pss_cons (ps_set (i := 8) nd rfl (Or.inl rfl) (pe_lst (pa_cons (pe_tup (pa_cons (pv 2) (pa_cons (pe_op op_catU (pv 3) (pe_tup (pa_cons (pe_tup pa_nil) pa_nil))) (pa_cons (pv 4) pa_nil)))) (pa_cons (pe_tup (pa_cons (pv 2) (pa_cons (pv 3) (pa_cons (pe_op op_catU (pv 4) (pe_tup (pa_cons pe_int pa_nil))) pa_nil)))) (pa_cons (pe_tup (pa_cons (pv 2) (pa_cons (pe_op op_catU (pv 3) (pe_tup (pa_cons (pe_tup pa_nil) pa_nil))) (pa_cons (pe_op op_catU (pv 4) (pe_tup (pa_cons pe_int pa_nil))) pa_nil)))) pa_nil)))))
      (pss_one (ps_ret (pe_cD DP hr rfl pass0 (pa_cons (pv 0) (pa_cons (pv 8) pa_nil)))))) pss_nil)
      (pss_cons (ps_set (i := 9) nd rfl (Or.inl rfl) (pe_lst (pa_cons (pe_callTy call_list_of (by rfl) T.nList (by decide +kernel) (pa_cons (pv 1) pa_nil)) (pa_cons (pe_slice sl_tupU (pv 1) po_none (po_some pe_int)) (pa_cons (pe_op op_catU (pv 1) (pe_tup (pa_cons pe_int pa_nil))) (pa_cons pe_non (pa_cons (pe_tup pa_nil) (pa_cons (pe_tup (pa_cons (pv 2) (pa_cons (pe_callTy call_list_of (by rfl) T.nList (by decide +kernel) (pa_cons (pv 3) pa_nil)) (pa_cons (pv 4) pa_nil)))) (pa_cons (pe_tup (pa_cons (pv 2) (pa_cons (pv 3) (pa_cons (pe_callTy call_list_of (by rfl) T.nList (by decide +kernel) (pa_cons (pv 4) pa_nil)) pa_nil)))) pa_nil)))))))))
      (pss_one (ps_ret (pe_cD DP hr rfl pass0 (pa_cons (pv 0) (pa_cons (pv 9) pa_nil))))))))))))), ?_⟩
    have hF := hf.ok
    have m1 := hF.m1
    have m6 : F.dor.length ≤ 6 := hF.m6
    obtain ⟨wt, dt, wps, b1, c2, c3, b4, b5⟩ := hf.ex
    have b4' : wps.length = F.dor.length := b4
    have hW : A2 (W1At (Zs st g) H) (wps.map V.ref) _ := FcAt.wl hF b4 b5
    generalize ((List.range wps.length).map fun i => W1.tup ((F.ws i).map fun p => P1.tup [.n p.1, .n p.2])) = wl at hW
    have lwl := hW.len
    rw [List.length_map] at lwl
    have z9 : (1000 : Nat) ≤ sizeLine := by rw [sizeLine_eq]; decide
    refine ⟨_, rfl, a, _, rfl, SqT.of b1, rfl, _, _, rfl, _, _, rfl, _, _, rfl, rfl, ?_⟩
    refine ⟨_, rfl, st, g, c, _, 8, rfl, S, by omega, by decide, by decide, fun way H1 _ _ S1 F1 => ?_⟩
    have tk1 := fr_tup S F1
    refine ⟨_, rfl, _, rfl, dt, _, rfl, .inr (SqT.of (tk1 _ _ c3)), st, g, c, _, (((F.dor.map V.int).length : Nat) : Int), rfl, S1, by omega, by rw [List.length_map]; have : F.R = F.dor.length := rfl; omega, by rw [List.length_map]; omega, fun z H2 z0 zR SH2 F2 => ⟨_, _, rfl, ?_⟩⟩
    rw [List.length_map] at zR
    obtain ⟨i, rfl⟩ := Int.eq_ofNat_of_zero_le z0
    have hi : i < wps.length := by omega
    have tk2 := fr_tup S1 F2
    obtain ⟨wp, hwp⟩ : ∃ wp, wps[i]? = some wp := ⟨_, List.getElem?_eq_getElem hi⟩
    have atw : atI (wps.map V.ref) (i : Int) = some (.ref wp) := atI_nat (by rw [List.getElem?_map, hwp]; rfl)
    obtain ⟨pps, pp1, pp2⟩ := b5 i wp hwp
    have hP : A2 (P1At (Zs st g) H) (pps.map V.ref) ((F.ws i).map fun p => P1.tup [.n p.1, .n p.2]) := pp2.p1
    have l8 : ((F.ws i).map fun p => P1.tup [.n p.1, .n p.2]).length ≤ 8 := by rw [List.length_map]; exact (hF.wi i (by omega)).1
    generalize ((F.ws i).map fun p => P1.tup [.n p.1, .n p.2]) = pl at hP l8
    obtain ⟨pv, epv⟩ : ∃ pv, pv = pps.map V.ref := ⟨_, rfl⟩
    rw [← epv] at hP pp1
    have lpv := hP.len
    have cw := tk2 _ _ (tk1 _ _ pp1)
    replace b1 := tk2 _ _ (tk1 _ _ b1)
    replace c2 := tk2 _ _ (tk1 _ _ c2)
    replace c3 := tk2 _ _ (tk1 _ _ c3)
    replace hW := (hW.mono fun _ _ z => z.kp (KpZ.frm S F1)).mono fun _ _ z => z.kp (KpZ.frm S1 F2)
    replace hP := (hP.mono fun _ _ z => z.kp (KpZ.frm S F1)).mono fun _ _ z => z.kp (KpZ.frm S1 F2)
    have F0 := F1.trans F2
    clear S S1 F1 F2 tk1 tk2 b5 pp1 pp2 hf epv
    have out3 : ∀ (p : Addr) (a0 : Ax) (w : Wt) (d : Dt) (v1 v2 : V) (m : Nat) (_ : Unit) (H' : Hp), H' p = some (.tup [a0.v, v1, v2]) → WtAt (Zs st g) H' v1 w → DtAt (Zs st g) H' v2 d → SA H' st g c m → m ≤ n + 6 → Fr st g H H' → Q (.ref p) H' := fun p a0 w d v1 v2 m _ H' hp hw hd S' hm F' => k _ (.three a0 w d) H' ⟨p, v1, v2, rfl, hp, hw, hd⟩ (S'.mono hm) F'
    refine ⟨_, rfl, rfl, _, rfl, ite2 (fun _ => ?_) (fun _ => ?_)⟩
    · refine ⟨_, rfl, _, rfl, (by show 6 ≤ sizeLine; decide), fun l nl => ?_⟩
      have a1 := sadd (o := .lst [.int 0, .int 61, .int 60, .bl true, .non, .int (-1)]) (Same.refl H2) nl
      have ol := SH2.old nl
      have SK1 := SH2.same a1
      have fl : upd H2 l (.lst [.int 0, .int 61, .int 60, .bl true, .non, .int (-1)]) l = some (.lst [.int 0, .int 61, .int 60, .bl true, .non, .int (-1)]) := upd_same
      replace b1 := a1 _ _ b1
      replace c2 := a1 _ _ c2
      replace c3 := a1 _ _ c3
      replace cw := a1 _ _ cw
      replace hW := hW.mono fun _ _ z => z.kp (KpZ.same a1)
      replace hP := hP.mono fun _ _ z => z.kp (KpZ.same a1)
      replace F0 := F0.trans (Fr.of a1)
      generalize upd H2 l (.lst [.int 0, .int 61, .int 60, .bl true, .non, .int (-1)]) = K1 at *
      refine ⟨st, g, c, l, _, _, rfl, SK1, by omega, .inl ⟨fl, ol.2.1⟩, (by show 0 < 6; decide), (by show 6 ≤ 1000000; decide), fun v K2 hv SK2 G2 => ?_⟩
      have hv' : v ∈ [V.int 0, .int 61, .int 60, .bl true, .non, .int (-1)] := hv
      simp only [List.mem_cons, List.not_mem_nil, or_false] at hv'
      have tk := fr_tup SK1 G2
      replace b1 := tk _ _ b1
      replace c2 := tk _ _ c2
      replace c3 := tk _ _ c3
      replace cw := tk _ _ cw
      replace hW := hW.mono fun _ _ z => z.kp (KpZ.frm SK1 G2)
      replace hP := hP.mono fun _ _ z => z.kp (KpZ.frm SK1 G2)
      replace F0 := F0.trans G2
      obtain ⟨a0, rfl⟩ : ∃ a : Ax, v = a.v := by
        rcases hv' with rfl | rfl | rfl | rfl | rfl | rfl
        · exact ⟨.n 0, rfl⟩
        · exact ⟨.n 61, rfl⟩
        · exact ⟨.n 60, rfl⟩
        · exact ⟨.t, rfl⟩
        · exact ⟨.o, rfl⟩
        · exact ⟨.n (-1), rfl⟩
      refine ⟨_, rfl, _, rfl, (by show 3 ≤ sizeLine; decide), fun p np => ?_⟩
      have a3 := sadd (o := .tup [a0.v, .ref wt, .ref dt]) (Same.refl K2) np
      have op := SK2.old np
      have SK3 := SK2.same a3
      have fp : upd K2 p (.tup [a0.v, .ref wt, .ref dt]) p = some (.tup [a0.v, .ref wt, .ref dt]) := upd_same
      replace b1 := a3 _ _ b1
      replace c2 := a3 _ _ c2
      replace c3 := a3 _ _ c3
      replace cw := a3 _ _ cw
      replace hW := hW.mono fun _ _ z => z.kp (KpZ.same a3)
      replace hP := hP.mono fun _ _ z => z.kp (KpZ.same a3)
      replace F0 := F0.trans (Fr.of a3)
      generalize upd K2 p (.tup [a0.v, .ref wt, .ref dt]) = K3 at *
      exact out3 p a0 (.tup wl) (.tup (F.dor.map Ax.n)) _ _ _ () K3 fp ⟨wt, _, rfl, c2, hW, by omega⟩ ⟨dt, rfl, by rw [List.map_map]; exact c3, by rw [List.length_map]; omega⟩ SK3 (by omega) F0
    refine ⟨_, rfl, rfl, _, rfl, ite2 (fun _ => ?_) (fun _ => ?_)⟩
    · refine ⟨_, rfl, _, rfl, _, rfl, _, rfl, _, rfl, dt, _, rfl, c3, fun p1 K1 a1 fp1 => ?_⟩
      rw [cutV_take, ← List.map_take] at fp1
      have SK1 := SH2.same a1
      replace b1 := a1 _ _ b1
      replace c2 := a1 _ _ c2
      replace c3 := a1 _ _ c3
      replace cw := a1 _ _ cw
      replace hW := hW.mono fun _ _ z => z.kp (KpZ.same a1)
      replace hP := hP.mono fun _ _ z => z.kp (KpZ.same a1)
      replace F0 := F0.trans (Fr.of a1)
      refine ⟨_, rfl, (by show 6 ≤ sizeLine; decide), fun l nl => ?_⟩
      have a2 := sadd (o := .lst [.int 0, .int 7, .int 6, .int 1, .bl true, .non]) (Same.refl K1) nl
      have ol := SK1.old nl
      have SK2 := SK1.same a2
      have fl : upd K1 l (.lst [.int 0, .int 7, .int 6, .int 1, .bl true, .non]) l = some (.lst [.int 0, .int 7, .int 6, .int 1, .bl true, .non]) := upd_same
      replace b1 := a2 _ _ b1
      replace c2 := a2 _ _ c2
      replace c3 := a2 _ _ c3
      replace cw := a2 _ _ cw
      replace fp1 := a2 _ _ fp1
      replace hW := hW.mono fun _ _ z => z.kp (KpZ.same a2)
      replace hP := hP.mono fun _ _ z => z.kp (KpZ.same a2)
      replace F0 := F0.trans (Fr.of a2)
      generalize upd K1 l (.lst [.int 0, .int 7, .int 6, .int 1, .bl true, .non]) = K2 at *
      refine ⟨st, g, c, l, _, _, rfl, SK2, by omega, .inl ⟨fl, ol.2.1⟩, (by show 0 < 6; decide), (by show 6 ≤ 1000000; decide), fun v K3 hv SK3 G3 => ?_⟩
      have hv' : v ∈ [V.int 0, .int 7, .int 6, .int 1, .bl true, .non] := hv
      simp only [List.mem_cons, List.not_mem_nil, or_false] at hv'
      have tk := fr_tup SK2 G3
      replace b1 := tk _ _ b1
      replace c2 := tk _ _ c2
      replace c3 := tk _ _ c3
      replace cw := tk _ _ cw
      replace fp1 := tk _ _ fp1
      replace hW := hW.mono fun _ _ z => z.kp (KpZ.frm SK2 G3)
      replace hP := hP.mono fun _ _ z => z.kp (KpZ.frm SK2 G3)
      replace F0 := F0.trans G3
      obtain ⟨a0, rfl⟩ : ∃ a : Ax, v = a.v := by
        rcases hv' with rfl | rfl | rfl | rfl | rfl | rfl
        · exact ⟨.n 0, rfl⟩
        · exact ⟨.n 7, rfl⟩
        · exact ⟨.n 6, rfl⟩
        · exact ⟨.n 1, rfl⟩
        · exact ⟨.t, rfl⟩
        · exact ⟨.o, rfl⟩
      refine ⟨(by show 1 ≤ sizeLine; decide), fun p2 np2 => ?_⟩
      have a4 := sadd (o := .tup [a0.v]) (Same.refl K3) np2
      have op2 := SK3.old np2
      have SK4 := SK3.same a4
      have fp2 : upd K3 p2 (.tup [a0.v]) p2 = some (.tup [a0.v]) := upd_same
      replace b1 := a4 _ _ b1
      replace c2 := a4 _ _ c2
      replace c3 := a4 _ _ c3
      replace cw := a4 _ _ cw
      replace fp1 := a4 _ _ fp1
      replace hW := hW.mono fun _ _ z => z.kp (KpZ.same a4)
      replace hP := hP.mono fun _ _ z => z.kp (KpZ.same a4)
      replace F0 := F0.trans (Fr.of a4)
      generalize upd K3 p2 (.tup [a0.v]) = K4 at *
      refine ⟨p1, p2, _, _, rfl, rfl, fp1, fp2, by rw [List.length_map, List.length_take]; show min i F.dor.length + 1 ≤ _; omega, fun p3 K5 a5 fp3 => ?_⟩
      have SK5 := SK4.same a5
      replace b1 := a5 _ _ b1
      replace c2 := a5 _ _ c2
      replace c3 := a5 _ _ c3
      replace cw := a5 _ _ cw
      replace fp1 := a5 _ _ fp1
      replace fp2 := a5 _ _ fp2
      replace hW := hW.mono fun _ _ z => z.kp (KpZ.same a5)
      replace hP := hP.mono fun _ _ z => z.kp (KpZ.same a5)
      replace F0 := F0.trans (Fr.of a5)
      refine ⟨_, rfl, _, rfl, _, _, rfl, rfl, _, rfl, dt, _, rfl, c3, fun p4 K6 a6 fp4 => ?_⟩
      rw [show (i : Int) + 1 = ((i + 1 : Nat) : Int) from rfl, cutV_fromZ _ _ (by rw [List.length_map]; omega), ← List.map_drop] at fp4
      have SK6 := SK5.same a6
      replace b1 := a6 _ _ b1
      replace c2 := a6 _ _ c2
      replace c3 := a6 _ _ c3
      replace cw := a6 _ _ cw
      replace fp1 := a6 _ _ fp1
      replace fp2 := a6 _ _ fp2
      replace fp3 := a6 _ _ fp3
      replace hW := hW.mono fun _ _ z => z.kp (KpZ.same a6)
      replace hP := hP.mono fun _ _ z => z.kp (KpZ.same a6)
      replace F0 := F0.trans (Fr.of a6)
      refine ⟨p3, p4, _, _, rfl, rfl, fp3, fp4, by rw [List.length_append, List.length_map, List.length_take, List.length_map, List.length_drop]; show min i F.dor.length + 1 + _ ≤ _; omega, fun p5 K7 a7 fp5 => ?_⟩
      have SK7 := SK6.same a7
      replace b1 := a7 _ _ b1
      replace c2 := a7 _ _ c2
      replace c3 := a7 _ _ c3
      replace cw := a7 _ _ cw
      replace fp1 := a7 _ _ fp1
      replace fp2 := a7 _ _ fp2
      replace fp3 := a7 _ _ fp3
      replace fp4 := a7 _ _ fp4
      replace hW := hW.mono fun _ _ z => z.kp (KpZ.same a7)
      replace hP := hP.mono fun _ _ z => z.kp (KpZ.same a7)
      replace F0 := F0.trans (Fr.of a7)
      refine ⟨(by show 3 ≤ sizeLine; decide), fun p np => ?_⟩
      have a8 := sadd (o := .tup [.int F.dep, .ref wt, .ref p5]) (Same.refl K7) np
      have op := SK7.old np
      have SK8 := SK7.same a8
      have fp : upd K7 p (.tup [.int F.dep, .ref wt, .ref p5]) p = some (.tup [.int F.dep, .ref wt, .ref p5]) := upd_same
      replace b1 := a8 _ _ b1
      replace c2 := a8 _ _ c2
      replace c3 := a8 _ _ c3
      replace cw := a8 _ _ cw
      replace fp1 := a8 _ _ fp1
      replace fp2 := a8 _ _ fp2
      replace fp3 := a8 _ _ fp3
      replace fp4 := a8 _ _ fp4
      replace fp5 := a8 _ _ fp5
      replace hW := hW.mono fun _ _ z => z.kp (KpZ.same a8)
      replace hP := hP.mono fun _ _ z => z.kp (KpZ.same a8)
      replace F0 := F0.trans (Fr.of a8)
      generalize upd K7 p (.tup [.int F.dep, .ref wt, .ref p5]) = K8 at *
      have ed : ((F.dor.map Ax.n).take i ++ [a0] ++ (F.dor.map Ax.n).drop (i + 1)).map Ax.v = (F.dor.take i).map V.int ++ [a0.v] ++ (F.dor.drop (i + 1)).map V.int := by rw [List.map_append, List.map_append, ← List.map_take, ← List.map_drop, List.map_map, List.map_map]; rfl
      exact out3 p (.n F.dep) (.tup wl) (.tup ((F.dor.map Ax.n).take i ++ [a0] ++ (F.dor.map Ax.n).drop (i + 1))) _ _ _ () K8 fp ⟨wt, _, rfl, c2, hW, by omega⟩ ⟨p5, rfl, by rw [ed]; exact fp5, by simp only [List.length_append, List.length_take, List.length_drop, List.length_map, List.length_singleton]; omega⟩ SK8 (by omega) F0
    refine ⟨_, rfl, rfl, _, rfl, ite2 (fun _ => ?_) (fun _ => ?_)⟩
    · refine ⟨_, rfl, _, rfl, (by show 2 ≤ sizeLine; decide), fun t1 nt1 => ?_⟩
      have a1 := sadd (o := .tup [.int (i : Int), .int 0]) (Same.refl H2) nt1
      have ot1 := SH2.old nt1
      have SK1 := SH2.same a1
      have ft1 : upd H2 t1 (.tup [.int (i : Int), .int 0]) t1 = some (.tup [.int (i : Int), .int 0]) := upd_same
      replace b1 := a1 _ _ b1
      replace c2 := a1 _ _ c2
      replace c3 := a1 _ _ c3
      replace cw := a1 _ _ cw
      replace hW := hW.mono fun _ _ z => z.kp (KpZ.same a1)
      replace hP := hP.mono fun _ _ z => z.kp (KpZ.same a1)
      replace F0 := F0.trans (Fr.of a1)
      generalize upd H2 t1 (.tup [.int (i : Int), .int 0]) = K1 at *
      refine ⟨(by show 2 ≤ sizeLine; decide), fun t2 nt2 => ?_⟩
      have a2 := sadd (o := .tup [.int 5, .int 0]) (Same.refl K1) nt2
      have ot2 := SK1.old nt2
      have SK2 := SK1.same a2
      have ft2 : upd K1 t2 (.tup [.int 5, .int 0]) t2 = some (.tup [.int 5, .int 0]) := upd_same
      replace b1 := a2 _ _ b1
      replace c2 := a2 _ _ c2
      replace c3 := a2 _ _ c3
      replace cw := a2 _ _ cw
      replace ft1 := a2 _ _ ft1
      replace hW := hW.mono fun _ _ z => z.kp (KpZ.same a2)
      replace hP := hP.mono fun _ _ z => z.kp (KpZ.same a2)
      replace F0 := F0.trans (Fr.of a2)
      generalize upd K1 t2 (.tup [.int 5, .int 0]) = K2 at *
      refine ⟨(by show 2 ≤ sizeLine; decide), fun t3 nt3 => ?_⟩
      have a3 := sadd (o := .tup [.int 0, .int 0]) (Same.refl K2) nt3
      have ot3 := SK2.old nt3
      have SK3 := SK2.same a3
      have ft3 : upd K2 t3 (.tup [.int 0, .int 0]) t3 = some (.tup [.int 0, .int 0]) := upd_same
      replace b1 := a3 _ _ b1
      replace c2 := a3 _ _ c2
      replace c3 := a3 _ _ c3
      replace cw := a3 _ _ cw
      replace ft1 := a3 _ _ ft1
      replace ft2 := a3 _ _ ft2
      replace hW := hW.mono fun _ _ z => z.kp (KpZ.same a3)
      replace hP := hP.mono fun _ _ z => z.kp (KpZ.same a3)
      replace F0 := F0.trans (Fr.of a3)
      generalize upd K2 t3 (.tup [.int 0, .int 0]) = K3 at *
      refine ⟨(by show 2 ≤ sizeLine; decide), fun t4 nt4 => ?_⟩
      have a4 := sadd (o := .tup [.int 1, .int 3]) (Same.refl K3) nt4
      have ot4 := SK3.old nt4
      have SK4 := SK3.same a4
      have ft4 : upd K3 t4 (.tup [.int 1, .int 3]) t4 = some (.tup [.int 1, .int 3]) := upd_same
      replace b1 := a4 _ _ b1
      replace c2 := a4 _ _ c2
      replace c3 := a4 _ _ c3
      replace cw := a4 _ _ cw
      replace ft1 := a4 _ _ ft1
      replace ft2 := a4 _ _ ft2
      replace ft3 := a4 _ _ ft3
      replace hW := hW.mono fun _ _ z => z.kp (KpZ.same a4)
      replace hP := hP.mono fun _ _ z => z.kp (KpZ.same a4)
      replace F0 := F0.trans (Fr.of a4)
      generalize upd K3 t4 (.tup [.int 1, .int 3]) = K4 at *
      refine ⟨(by show 2 ≤ sizeLine; decide), fun t5 nt5 => ?_⟩
      have a5 := sadd (o := .tup [.int 0, .int 5]) (Same.refl K4) nt5
      have ot5 := SK4.old nt5
      have SK5 := SK4.same a5
      have ft5 : upd K4 t5 (.tup [.int 0, .int 5]) t5 = some (.tup [.int 0, .int 5]) := upd_same
      replace b1 := a5 _ _ b1
      replace c2 := a5 _ _ c2
      replace c3 := a5 _ _ c3
      replace cw := a5 _ _ cw
      replace ft1 := a5 _ _ ft1
      replace ft2 := a5 _ _ ft2
      replace ft3 := a5 _ _ ft3
      replace ft4 := a5 _ _ ft4
      replace hW := hW.mono fun _ _ z => z.kp (KpZ.same a5)
      replace hP := hP.mono fun _ _ z => z.kp (KpZ.same a5)
      replace F0 := F0.trans (Fr.of a5)
      generalize upd K4 t5 (.tup [.int 0, .int 5]) = K5 at *
      refine ⟨(by show 2 ≤ sizeLine; decide), fun t6 nt6 => ?_⟩
      have a6 := sadd (o := .lst [.int 0, .int 0]) (Same.refl K5) nt6
      have ot6 := SK5.old nt6
      have SK6 := SK5.same a6
      have ft6 : upd K5 t6 (.lst [.int 0, .int 0]) t6 = some (.lst [.int 0, .int 0]) := upd_same
      replace b1 := a6 _ _ b1
      replace c2 := a6 _ _ c2
      replace c3 := a6 _ _ c3
      replace cw := a6 _ _ cw
      replace ft1 := a6 _ _ ft1
      replace ft2 := a6 _ _ ft2
      replace ft3 := a6 _ _ ft3
      replace ft4 := a6 _ _ ft4
      replace ft5 := a6 _ _ ft5
      replace hW := hW.mono fun _ _ z => z.kp (KpZ.same a6)
      replace hP := hP.mono fun _ _ z => z.kp (KpZ.same a6)
      replace F0 := F0.trans (Fr.of a6)
      generalize upd K5 t6 (.lst [.int 0, .int 0]) = K6 at *
      refine ⟨(by show 2 ≤ sizeLine; decide), fun t7 nt7 => ?_⟩
      have a7 := sadd (o := .tup [.int 0, .bl true]) (Same.refl K6) nt7
      have ot7 := SK6.old nt7
      have SK7 := SK6.same a7
      have ft7 : upd K6 t7 (.tup [.int 0, .bl true]) t7 = some (.tup [.int 0, .bl true]) := upd_same
      replace b1 := a7 _ _ b1
      replace c2 := a7 _ _ c2
      replace c3 := a7 _ _ c3
      replace cw := a7 _ _ cw
      replace ft1 := a7 _ _ ft1
      replace ft2 := a7 _ _ ft2
      replace ft3 := a7 _ _ ft3
      replace ft4 := a7 _ _ ft4
      replace ft5 := a7 _ _ ft5
      replace ft6 := a7 _ _ ft6
      replace hW := hW.mono fun _ _ z => z.kp (KpZ.same a7)
      replace hP := hP.mono fun _ _ z => z.kp (KpZ.same a7)
      replace F0 := F0.trans (Fr.of a7)
      generalize upd K6 t7 (.tup [.int 0, .bl true]) = K7 at *
      refine ⟨(by show 1 ≤ sizeLine; decide), fun t8 nt8 => ?_⟩
      have a8 := sadd (o := .tup [.int 0]) (Same.refl K7) nt8
      have ot8 := SK7.old nt8
      have SK8 := SK7.same a8
      have ft8 : upd K7 t8 (.tup [.int 0]) t8 = some (.tup [.int 0]) := upd_same
      replace b1 := a8 _ _ b1
      replace c2 := a8 _ _ c2
      replace c3 := a8 _ _ c3
      replace cw := a8 _ _ cw
      replace ft1 := a8 _ _ ft1
      replace ft2 := a8 _ _ ft2
      replace ft3 := a8 _ _ ft3
      replace ft4 := a8 _ _ ft4
      replace ft5 := a8 _ _ ft5
      replace ft6 := a8 _ _ ft6
      replace ft7 := a8 _ _ ft7
      replace hW := hW.mono fun _ _ z => z.kp (KpZ.same a8)
      replace hP := hP.mono fun _ _ z => z.kp (KpZ.same a8)
      replace F0 := F0.trans (Fr.of a8)
      generalize upd K7 t8 (.tup [.int 0]) = K8 at *
      refine ⟨(by show 9 ≤ sizeLine; decide), fun l nl => ?_⟩
      have a9 := sadd (o := .lst [.ref t1, .ref t2, .ref t3, .ref t4, .ref t5, .ref t6, .ref t7, .ref t8, .non]) (Same.refl K8) nl
      have ol := SK8.old nl
      have SK9 := SK8.same a9
      have fl : upd K8 l (.lst [.ref t1, .ref t2, .ref t3, .ref t4, .ref t5, .ref t6, .ref t7, .ref t8, .non]) l = some (.lst [.ref t1, .ref t2, .ref t3, .ref t4, .ref t5, .ref t6, .ref t7, .ref t8, .non]) := upd_same
      replace b1 := a9 _ _ b1
      replace c2 := a9 _ _ c2
      replace c3 := a9 _ _ c3
      replace cw := a9 _ _ cw
      replace ft1 := a9 _ _ ft1
      replace ft2 := a9 _ _ ft2
      replace ft3 := a9 _ _ ft3
      replace ft4 := a9 _ _ ft4
      replace ft5 := a9 _ _ ft5
      replace ft6 := a9 _ _ ft6
      replace ft7 := a9 _ _ ft7
      replace ft8 := a9 _ _ ft8
      replace hW := hW.mono fun _ _ z => z.kp (KpZ.same a9)
      replace hP := hP.mono fun _ _ z => z.kp (KpZ.same a9)
      replace F0 := F0.trans (Fr.of a9)
      generalize upd K8 l (.lst [.ref t1, .ref t2, .ref t3, .ref t4, .ref t5, .ref t6, .ref t7, .ref t8, .non]) = K9 at *
      refine ⟨st, g, c, l, _, _, rfl, SK9, by omega, .inl ⟨fl, ol.2.1⟩, (by show 0 < 9; decide), (by show 9 ≤ 1000000; decide), fun v K10 hv SK10 G10 => ?_⟩
      have hv' : v ∈ [V.ref t1, .ref t2, .ref t3, .ref t4, .ref t5, .ref t6, .ref t7, .ref t8, .non] := hv
      simp only [List.mem_cons, List.not_mem_nil, or_false] at hv'
      have tk := fr_tup SK9 G10
      replace b1 := tk _ _ b1
      replace c2 := tk _ _ c2
      replace c3 := tk _ _ c3
      replace cw := tk _ _ cw
      replace ft1 := tk _ _ ft1
      replace ft2 := tk _ _ ft2
      replace ft3 := tk _ _ ft3
      replace ft4 := tk _ _ ft4
      replace ft5 := tk _ _ ft5
      replace ft7 := tk _ _ ft7
      replace ft8 := tk _ _ ft8
      replace hW := hW.mono fun _ _ z => z.kp (KpZ.frm SK9 G10)
      replace hP := hP.mono fun _ _ z => z.kp (KpZ.frm SK9 G10)
      replace F0 := F0.trans G10
      obtain ⟨p1v, hp1v⟩ : ∃ x : P1, P1At (Zs st g) K10 v x := by
        rcases hv' with rfl | rfl | rfl | rfl | rfl | rfl | rfl | rfl | rfl
        · exact ⟨.tup [.n (i : Int), .n 0], t1, rfl, ft1, by show 2 ≤ 1000; decide⟩
        · exact ⟨.tup [.n 5, .n 0], t2, rfl, ft2, by show 2 ≤ 1000; decide⟩
        · exact ⟨.tup [.n 0, .n 0], t3, rfl, ft3, by show 2 ≤ 1000; decide⟩
        · exact ⟨.tup [.n 1, .n 3], t4, rfl, ft4, by show 2 ≤ 1000; decide⟩
        · exact ⟨.tup [.n 0, .n 5], t5, rfl, ft5, by show 2 ≤ 1000; decide⟩
        · exact ⟨.oth, .inr (.inr (.inr ⟨t6, _, rfl, ⟨ot6.1, ot6.2.1⟩, G10 _ _ ft6 ot6.1 ot6.2.1⟩))⟩
        · exact ⟨.tup [.n 0, .t], t7, rfl, ft7, by show 2 ≤ 1000; decide⟩
        · exact ⟨.tup [.n 0], t8, rfl, ft8, by show 1 ≤ 1000; decide⟩
        · exact ⟨.oth, .inl rfl⟩
      clear ft1 ft2 ft3 ft4 ft5 ft7 ft8 ft6 fl hv hv'
      have hQ : A2 (P1At (Zs st g) K10) [v] [p1v] := .cons hp1v .nil
      clear hp1v
      refine ⟨_, rfl, _, rfl, _, rfl, _, rfl, wt, _, rfl, c2, fun p1 K11 a11 fp1 => ?_⟩
      rw [cutV_take, ← List.map_take] at fp1
      have SK11 := SK10.same a11
      replace b1 := a11 _ _ b1
      replace c2 := a11 _ _ c2
      replace c3 := a11 _ _ c3
      replace cw := a11 _ _ cw
      replace hW := hW.mono fun _ _ z => z.kp (KpZ.same a11)
      replace hP := hP.mono fun _ _ z => z.kp (KpZ.same a11)
      replace hQ := hQ.mono fun _ _ z => z.kp (KpZ.same a11)
      replace F0 := F0.trans (Fr.of a11)
      refine ⟨_, rfl, _, rfl, wt, _, (i : Int), .ref wp, rfl, rfl, SqT.of c2, atw, _, rfl, (by show 1 ≤ sizeLine; decide), fun e1 ne1 => ?_⟩
      have a12 := sadd (o := .tup [v]) (Same.refl K11) ne1
      have oe1 := SK11.old ne1
      have SK12 := SK11.same a12
      have fe1 : upd K11 e1 (.tup [v]) e1 = some (.tup [v]) := upd_same
      replace b1 := a12 _ _ b1
      replace c2 := a12 _ _ c2
      replace c3 := a12 _ _ c3
      replace cw := a12 _ _ cw
      replace fp1 := a12 _ _ fp1
      replace hW := hW.mono fun _ _ z => z.kp (KpZ.same a12)
      replace hP := hP.mono fun _ _ z => z.kp (KpZ.same a12)
      replace hQ := hQ.mono fun _ _ z => z.kp (KpZ.same a12)
      replace F0 := F0.trans (Fr.of a12)
      generalize upd K11 e1 (.tup [v]) = K12 at *
      refine ⟨wp, e1, _, _, rfl, rfl, cw, fe1, by show pv.length + 1 ≤ _; omega, fun e2 K13 a13 fe2 => ?_⟩
      have SK13 := SK12.same a13
      replace b1 := a13 _ _ b1
      replace c2 := a13 _ _ c2
      replace c3 := a13 _ _ c3
      replace cw := a13 _ _ cw
      replace fp1 := a13 _ _ fp1
      replace fe1 := a13 _ _ fe1
      replace hW := hW.mono fun _ _ z => z.kp (KpZ.same a13)
      replace hP := hP.mono fun _ _ z => z.kp (KpZ.same a13)
      replace hQ := hQ.mono fun _ _ z => z.kp (KpZ.same a13)
      replace F0 := F0.trans (Fr.of a13)
      refine ⟨(by show 1 ≤ sizeLine; decide), fun p2 np2 => ?_⟩
      have a14 := sadd (o := .tup [.ref e2]) (Same.refl K13) np2
      have op2 := SK13.old np2
      have SK14 := SK13.same a14
      have fp2 : upd K13 p2 (.tup [.ref e2]) p2 = some (.tup [.ref e2]) := upd_same
      replace b1 := a14 _ _ b1
      replace c2 := a14 _ _ c2
      replace c3 := a14 _ _ c3
      replace cw := a14 _ _ cw
      replace fp1 := a14 _ _ fp1
      replace fe1 := a14 _ _ fe1
      replace fe2 := a14 _ _ fe2
      replace hW := hW.mono fun _ _ z => z.kp (KpZ.same a14)
      replace hP := hP.mono fun _ _ z => z.kp (KpZ.same a14)
      replace hQ := hQ.mono fun _ _ z => z.kp (KpZ.same a14)
      replace F0 := F0.trans (Fr.of a14)
      generalize upd K13 p2 (.tup [.ref e2]) = K14 at *
      refine ⟨p1, p2, _, _, rfl, rfl, fp1, fp2, by rw [List.length_map, List.length_take]; show min i wps.length + 1 ≤ _; omega, fun p3 K15 a15 fp3 => ?_⟩
      have SK15 := SK14.same a15
      replace b1 := a15 _ _ b1
      replace c2 := a15 _ _ c2
      replace c3 := a15 _ _ c3
      replace cw := a15 _ _ cw
      replace fp1 := a15 _ _ fp1
      replace fe1 := a15 _ _ fe1
      replace fe2 := a15 _ _ fe2
      replace fp2 := a15 _ _ fp2
      replace hW := hW.mono fun _ _ z => z.kp (KpZ.same a15)
      replace hP := hP.mono fun _ _ z => z.kp (KpZ.same a15)
      replace hQ := hQ.mono fun _ _ z => z.kp (KpZ.same a15)
      replace F0 := F0.trans (Fr.of a15)
      refine ⟨_, rfl, _, rfl, _, _, rfl, rfl, _, rfl, wt, _, rfl, c2, fun p4 K16 a16 fp4 => ?_⟩
      rw [show (i : Int) + 1 = ((i + 1 : Nat) : Int) from rfl, cutV_fromZ _ _ (by rw [List.length_map]; omega), ← List.map_drop] at fp4
      have SK16 := SK15.same a16
      replace b1 := a16 _ _ b1
      replace c2 := a16 _ _ c2
      replace c3 := a16 _ _ c3
      replace cw := a16 _ _ cw
      replace fp1 := a16 _ _ fp1
      replace fe1 := a16 _ _ fe1
      replace fe2 := a16 _ _ fe2
      replace fp2 := a16 _ _ fp2
      replace fp3 := a16 _ _ fp3
      replace hW := hW.mono fun _ _ z => z.kp (KpZ.same a16)
      replace hP := hP.mono fun _ _ z => z.kp (KpZ.same a16)
      replace hQ := hQ.mono fun _ _ z => z.kp (KpZ.same a16)
      replace F0 := F0.trans (Fr.of a16)
      refine ⟨p3, p4, _, _, rfl, rfl, fp3, fp4, by rw [List.length_append, List.length_map, List.length_take, List.length_map, List.length_drop]; show min i wps.length + 1 + _ ≤ _; omega, fun p5 K17 a17 fp5 => ?_⟩
      have SK17 := SK16.same a17
      replace b1 := a17 _ _ b1
      replace c2 := a17 _ _ c2
      replace c3 := a17 _ _ c3
      replace cw := a17 _ _ cw
      replace fp1 := a17 _ _ fp1
      replace fe1 := a17 _ _ fe1
      replace fe2 := a17 _ _ fe2
      replace fp2 := a17 _ _ fp2
      replace fp3 := a17 _ _ fp3
      replace fp4 := a17 _ _ fp4
      replace hW := hW.mono fun _ _ z => z.kp (KpZ.same a17)
      replace hP := hP.mono fun _ _ z => z.kp (KpZ.same a17)
      replace hQ := hQ.mono fun _ _ z => z.kp (KpZ.same a17)
      replace F0 := F0.trans (Fr.of a17)
      refine ⟨_, rfl, (by show 3 ≤ sizeLine; decide), fun p np => ?_⟩
      have a18 := sadd (o := .tup [.int F.dep, .ref p5, .ref dt]) (Same.refl K17) np
      have op := SK17.old np
      have SK18 := SK17.same a18
      have fp : upd K17 p (.tup [.int F.dep, .ref p5, .ref dt]) p = some (.tup [.int F.dep, .ref p5, .ref dt]) := upd_same
      replace b1 := a18 _ _ b1
      replace c2 := a18 _ _ c2
      replace c3 := a18 _ _ c3
      replace cw := a18 _ _ cw
      replace fp1 := a18 _ _ fp1
      replace fe1 := a18 _ _ fe1
      replace fe2 := a18 _ _ fe2
      replace fp2 := a18 _ _ fp2
      replace fp3 := a18 _ _ fp3
      replace fp4 := a18 _ _ fp4
      replace fp5 := a18 _ _ fp5
      replace hW := hW.mono fun _ _ z => z.kp (KpZ.same a18)
      replace hP := hP.mono fun _ _ z => z.kp (KpZ.same a18)
      replace hQ := hQ.mono fun _ _ z => z.kp (KpZ.same a18)
      replace F0 := F0.trans (Fr.of a18)
      generalize upd K17 p (.tup [.int F.dep, .ref p5, .ref dt]) = K18 at *
      have hW5 := ((hW.take_ i).app (.cons (x := (W1.tup (pl ++ [p1v]))) ⟨e2, _, rfl, fe2, hP.app hQ, by rw [List.length_append]; show pl.length + 1 ≤ _; omega⟩ .nil)).app (hW.drop_ (i + 1))
      rw [← List.map_take, ← List.map_drop] at hW5
      exact out3 p (.n F.dep) (.tup (wl.take i ++ [(W1.tup (pl ++ [p1v]))] ++ wl.drop (i + 1))) (.tup (F.dor.map Ax.n)) _ _ _ () K18 fp ⟨p5, _, rfl, fp5, hW5, by simp only [List.length_append, List.length_take, List.length_drop, List.length_singleton]; omega⟩ ⟨dt, rfl, by rw [List.map_map]; exact c3, by rw [List.length_map]; omega⟩ SK18 (by omega) F0
    refine ⟨_, rfl, rfl, _, rfl, ite2 (fun _ => ?_) (fun _ => ?_)⟩
    · refine ⟨_, rfl, _, rfl, _, rfl, _, rfl, wt, _, rfl, c2, fun p1 K1 a1 fp1 => ?_⟩
      rw [cutV_take, ← List.map_take] at fp1
      have SK1 := SH2.same a1
      replace b1 := a1 _ _ b1
      replace c2 := a1 _ _ c2
      replace c3 := a1 _ _ c3
      replace cw := a1 _ _ cw
      replace hW := hW.mono fun _ _ z => z.kp (KpZ.same a1)
      replace hP := hP.mono fun _ _ z => z.kp (KpZ.same a1)
      replace F0 := F0.trans (Fr.of a1)
      refine ⟨_, rfl, _, rfl, wt, _, (i : Int), .ref wp, rfl, rfl, SqT.of c2, atw, _, rfl, _, rfl, wt, _, (i : Int), .ref wp, rfl, rfl, SqT.of c2, atw, _, rfl, wp, _, rfl, cw, fun e1 K2 a2 fe1 => ?_⟩
      rw [show (1 : Int) = ((1 : Nat) : Int) from rfl, cutV_take] at fe1
      have SK2 := SK1.same a2
      replace b1 := a2 _ _ b1
      replace c2 := a2 _ _ c2
      replace c3 := a2 _ _ c3
      replace cw := a2 _ _ cw
      replace fp1 := a2 _ _ fp1
      replace hW := hW.mono fun _ _ z => z.kp (KpZ.same a2)
      replace hP := hP.mono fun _ _ z => z.kp (KpZ.same a2)
      replace F0 := F0.trans (Fr.of a2)
      refine ⟨wp, e1, _, _, rfl, rfl, cw, fe1, by rw [List.length_take]; omega, fun e2 K3 a3 fe2 => ?_⟩
      have SK3 := SK2.same a3
      replace b1 := a3 _ _ b1
      replace c2 := a3 _ _ c2
      replace c3 := a3 _ _ c3
      replace cw := a3 _ _ cw
      replace fp1 := a3 _ _ fp1
      replace fe1 := a3 _ _ fe1
      replace hW := hW.mono fun _ _ z => z.kp (KpZ.same a3)
      replace hP := hP.mono fun _ _ z => z.kp (KpZ.same a3)
      replace F0 := F0.trans (Fr.of a3)
      refine ⟨(by show 1 ≤ sizeLine; decide), fun p2 np2 => ?_⟩
      have a4 := sadd (o := .tup [.ref e2]) (Same.refl K3) np2
      have op2 := SK3.old np2
      have SK4 := SK3.same a4
      have fp2 : upd K3 p2 (.tup [.ref e2]) p2 = some (.tup [.ref e2]) := upd_same
      replace b1 := a4 _ _ b1
      replace c2 := a4 _ _ c2
      replace c3 := a4 _ _ c3
      replace cw := a4 _ _ cw
      replace fp1 := a4 _ _ fp1
      replace fe1 := a4 _ _ fe1
      replace fe2 := a4 _ _ fe2
      replace hW := hW.mono fun _ _ z => z.kp (KpZ.same a4)
      replace hP := hP.mono fun _ _ z => z.kp (KpZ.same a4)
      replace F0 := F0.trans (Fr.of a4)
      generalize upd K3 p2 (.tup [.ref e2]) = K4 at *
      refine ⟨p1, p2, _, _, rfl, rfl, fp1, fp2, by rw [List.length_map, List.length_take]; show min i wps.length + 1 ≤ _; omega, fun p3 K5 a5 fp3 => ?_⟩
      have SK5 := SK4.same a5
      replace b1 := a5 _ _ b1
      replace c2 := a5 _ _ c2
      replace c3 := a5 _ _ c3
      replace cw := a5 _ _ cw
      replace fp1 := a5 _ _ fp1
      replace fe1 := a5 _ _ fe1
      replace fe2 := a5 _ _ fe2
      replace fp2 := a5 _ _ fp2
      replace hW := hW.mono fun _ _ z => z.kp (KpZ.same a5)
      replace hP := hP.mono fun _ _ z => z.kp (KpZ.same a5)
      replace F0 := F0.trans (Fr.of a5)
      refine ⟨_, rfl, _, rfl, _, _, rfl, rfl, _, rfl, wt, _, rfl, c2, fun p4 K6 a6 fp4 => ?_⟩
      rw [show (i : Int) + 1 = ((i + 1 : Nat) : Int) from rfl, cutV_fromZ _ _ (by rw [List.length_map]; omega), ← List.map_drop] at fp4
      have SK6 := SK5.same a6
      replace b1 := a6 _ _ b1
      replace c2 := a6 _ _ c2
      replace c3 := a6 _ _ c3
      replace cw := a6 _ _ cw
      replace fp1 := a6 _ _ fp1
      replace fe1 := a6 _ _ fe1
      replace fe2 := a6 _ _ fe2
      replace fp2 := a6 _ _ fp2
      replace fp3 := a6 _ _ fp3
      replace hW := hW.mono fun _ _ z => z.kp (KpZ.same a6)
      replace hP := hP.mono fun _ _ z => z.kp (KpZ.same a6)
      replace F0 := F0.trans (Fr.of a6)
      refine ⟨p3, p4, _, _, rfl, rfl, fp3, fp4, by rw [List.length_append, List.length_map, List.length_take, List.length_map, List.length_drop]; show min i wps.length + 1 + _ ≤ _; omega, fun p5 K7 a7 fp5 => ?_⟩
      have SK7 := SK6.same a7
      replace b1 := a7 _ _ b1
      replace c2 := a7 _ _ c2
      replace c3 := a7 _ _ c3
      replace cw := a7 _ _ cw
      replace fp1 := a7 _ _ fp1
      replace fe1 := a7 _ _ fe1
      replace fe2 := a7 _ _ fe2
      replace fp2 := a7 _ _ fp2
      replace fp3 := a7 _ _ fp3
      replace fp4 := a7 _ _ fp4
      replace hW := hW.mono fun _ _ z => z.kp (KpZ.same a7)
      replace hP := hP.mono fun _ _ z => z.kp (KpZ.same a7)
      replace F0 := F0.trans (Fr.of a7)
      refine ⟨_, rfl, (by show 3 ≤ sizeLine; decide), fun p np => ?_⟩
      have a8 := sadd (o := .tup [.int F.dep, .ref p5, .ref dt]) (Same.refl K7) np
      have op := SK7.old np
      have SK8 := SK7.same a8
      have fp : upd K7 p (.tup [.int F.dep, .ref p5, .ref dt]) p = some (.tup [.int F.dep, .ref p5, .ref dt]) := upd_same
      replace b1 := a8 _ _ b1
      replace c2 := a8 _ _ c2
      replace c3 := a8 _ _ c3
      replace cw := a8 _ _ cw
      replace fp1 := a8 _ _ fp1
      replace fe1 := a8 _ _ fe1
      replace fe2 := a8 _ _ fe2
      replace fp2 := a8 _ _ fp2
      replace fp3 := a8 _ _ fp3
      replace fp4 := a8 _ _ fp4
      replace fp5 := a8 _ _ fp5
      replace hW := hW.mono fun _ _ z => z.kp (KpZ.same a8)
      replace hP := hP.mono fun _ _ z => z.kp (KpZ.same a8)
      replace F0 := F0.trans (Fr.of a8)
      generalize upd K7 p (.tup [.int F.dep, .ref p5, .ref dt]) = K8 at *
      have hW5 := ((hW.take_ i).app (.cons (x := (W1.tup (pl ++ pl.take 1))) ⟨e2, _, rfl, fe2, hP.app (hP.take_ 1), by rw [List.length_append, List.length_take]; omega⟩ .nil)).app (hW.drop_ (i + 1))
      rw [← List.map_take, ← List.map_drop] at hW5
      exact out3 p (.n F.dep) (.tup (wl.take i ++ [(W1.tup (pl ++ pl.take 1))] ++ wl.drop (i + 1))) (.tup (F.dor.map Ax.n)) _ _ _ () K8 fp ⟨p5, _, rfl, fp5, hW5, by simp only [List.length_append, List.length_take, List.length_drop, List.length_singleton]; omega⟩ ⟨dt, rfl, by rw [List.map_map]; exact c3, by rw [List.length_map]; omega⟩ SK8 (by omega) F0
    refine ⟨_, rfl, rfl, _, rfl, ite2 (fun _ => ?_) (fun _ => ?_)⟩
    · refine ⟨_, rfl, _, rfl, _, rfl, _, rfl, wt, _, rfl, c2, fun p1 K1 a1 fp1 => ?_⟩
      rw [cutV_take, ← List.map_take] at fp1
      have SK1 := SH2.same a1
      replace b1 := a1 _ _ b1
      replace c2 := a1 _ _ c2
      replace c3 := a1 _ _ c3
      replace cw := a1 _ _ cw
      replace hW := hW.mono fun _ _ z => z.kp (KpZ.same a1)
      replace hP := hP.mono fun _ _ z => z.kp (KpZ.same a1)
      replace F0 := F0.trans (Fr.of a1)
      refine ⟨_, rfl, _, rfl, wt, _, (i : Int), .ref wp, rfl, rfl, SqT.of c2, atw, wp, _, rfl, .inr (SqT.of cw), fun e1 ne1 => ?_⟩
      have a2 := sadd (o := .lst pv) (Same.refl K1) ne1
      have oe1 := SK1.old ne1
      have SK2 := SK1.same a2
      have fe1 : upd K1 e1 (.lst pv) e1 = some (.lst pv) := upd_same
      replace b1 := a2 _ _ b1
      replace c2 := a2 _ _ c2
      replace c3 := a2 _ _ c3
      replace cw := a2 _ _ cw
      replace fp1 := a2 _ _ fp1
      replace hW := hW.mono fun _ _ z => z.kp (KpZ.same a2)
      replace hP := hP.mono fun _ _ z => z.kp (KpZ.same a2)
      replace F0 := F0.trans (Fr.of a2)
      generalize upd K1 e1 (.lst pv) = K2 at *
      refine ⟨(by show 1 ≤ sizeLine; decide), fun p2 np2 => ?_⟩
      have a3 := sadd (o := .tup [.ref e1]) (Same.refl K2) np2
      have op2 := SK2.old np2
      have SK3 := SK2.same a3
      have fp2 : upd K2 p2 (.tup [.ref e1]) p2 = some (.tup [.ref e1]) := upd_same
      replace b1 := a3 _ _ b1
      replace c2 := a3 _ _ c2
      replace c3 := a3 _ _ c3
      replace cw := a3 _ _ cw
      replace fp1 := a3 _ _ fp1
      replace fe1 := a3 _ _ fe1
      replace hW := hW.mono fun _ _ z => z.kp (KpZ.same a3)
      replace hP := hP.mono fun _ _ z => z.kp (KpZ.same a3)
      replace F0 := F0.trans (Fr.of a3)
      generalize upd K2 p2 (.tup [.ref e1]) = K3 at *
      refine ⟨p1, p2, _, _, rfl, rfl, fp1, fp2, by rw [List.length_map, List.length_take]; show min i wps.length + 1 ≤ _; omega, fun p3 K4 a4 fp3 => ?_⟩
      have SK4 := SK3.same a4
      replace b1 := a4 _ _ b1
      replace c2 := a4 _ _ c2
      replace c3 := a4 _ _ c3
      replace cw := a4 _ _ cw
      replace fp1 := a4 _ _ fp1
      replace fe1 := a4 _ _ fe1
      replace fp2 := a4 _ _ fp2
      replace hW := hW.mono fun _ _ z => z.kp (KpZ.same a4)
      replace hP := hP.mono fun _ _ z => z.kp (KpZ.same a4)
      replace F0 := F0.trans (Fr.of a4)
      refine ⟨_, rfl, _, rfl, _, _, rfl, rfl, _, rfl, wt, _, rfl, c2, fun p4 K5 a5 fp4 => ?_⟩
      rw [show (i : Int) + 1 = ((i + 1 : Nat) : Int) from rfl, cutV_fromZ _ _ (by rw [List.length_map]; omega), ← List.map_drop] at fp4
      have SK5 := SK4.same a5
      replace b1 := a5 _ _ b1
      replace c2 := a5 _ _ c2
      replace c3 := a5 _ _ c3
      replace cw := a5 _ _ cw
      replace fp1 := a5 _ _ fp1
      replace fe1 := a5 _ _ fe1
      replace fp2 := a5 _ _ fp2
      replace fp3 := a5 _ _ fp3
      replace hW := hW.mono fun _ _ z => z.kp (KpZ.same a5)
      replace hP := hP.mono fun _ _ z => z.kp (KpZ.same a5)
      replace F0 := F0.trans (Fr.of a5)
      refine ⟨p3, p4, _, _, rfl, rfl, fp3, fp4, by rw [List.length_append, List.length_map, List.length_take, List.length_map, List.length_drop]; show min i wps.length + 1 + _ ≤ _; omega, fun p5 K6 a6 fp5 => ?_⟩
      have SK6 := SK5.same a6
      replace b1 := a6 _ _ b1
      replace c2 := a6 _ _ c2
      replace c3 := a6 _ _ c3
      replace cw := a6 _ _ cw
      replace fp1 := a6 _ _ fp1
      replace fe1 := a6 _ _ fe1
      replace fp2 := a6 _ _ fp2
      replace fp3 := a6 _ _ fp3
      replace fp4 := a6 _ _ fp4
      replace hW := hW.mono fun _ _ z => z.kp (KpZ.same a6)
      replace hP := hP.mono fun _ _ z => z.kp (KpZ.same a6)
      replace F0 := F0.trans (Fr.of a6)
      refine ⟨_, rfl, (by show 3 ≤ sizeLine; decide), fun p np => ?_⟩
      have a7 := sadd (o := .tup [.int F.dep, .ref p5, .ref dt]) (Same.refl K6) np
      have op := SK6.old np
      have SK7 := SK6.same a7
      have fp : upd K6 p (.tup [.int F.dep, .ref p5, .ref dt]) p = some (.tup [.int F.dep, .ref p5, .ref dt]) := upd_same
      replace b1 := a7 _ _ b1
      replace c2 := a7 _ _ c2
      replace c3 := a7 _ _ c3
      replace cw := a7 _ _ cw
      replace fp1 := a7 _ _ fp1
      replace fe1 := a7 _ _ fe1
      replace fp2 := a7 _ _ fp2
      replace fp3 := a7 _ _ fp3
      replace fp4 := a7 _ _ fp4
      replace fp5 := a7 _ _ fp5
      replace hW := hW.mono fun _ _ z => z.kp (KpZ.same a7)
      replace hP := hP.mono fun _ _ z => z.kp (KpZ.same a7)
      replace F0 := F0.trans (Fr.of a7)
      generalize upd K6 p (.tup [.int F.dep, .ref p5, .ref dt]) = K7 at *
      have hW5 := ((hW.take_ i).app (.cons (x := W1.oth) (.inr (.inr (.inr ⟨e1, _, rfl, ⟨oe1.1, oe1.2.1⟩, fe1⟩))) .nil)).app (hW.drop_ (i + 1))
      rw [← List.map_take, ← List.map_drop] at hW5
      exact out3 p (.n F.dep) (.tup (wl.take i ++ [W1.oth] ++ wl.drop (i + 1))) (.tup (F.dor.map Ax.n)) _ _ _ () K7 fp ⟨p5, _, rfl, fp5, hW5, by simp only [List.length_append, List.length_take, List.length_drop, List.length_singleton]; omega⟩ ⟨dt, rfl, by rw [List.map_map]; exact c3, by rw [List.length_map]; omega⟩ SK7 (by omega) F0
    refine ⟨_, rfl, rfl, _, rfl, ite2 (fun _ => ?_) (fun _ => ?_)⟩
    · refine ⟨_, rfl, _, rfl, (by show 0 ≤ sizeLine; decide), fun u1 nu1 => ?_⟩
      have a1 := sadd (o := .tup []) (Same.refl H2) nu1
      have ou1 := SH2.old nu1
      have SK1 := SH2.same a1
      have fu1 : upd H2 u1 (.tup []) u1 = some (.tup []) := upd_same
      replace b1 := a1 _ _ b1
      replace c2 := a1 _ _ c2
      replace c3 := a1 _ _ c3
      replace cw := a1 _ _ cw
      replace hW := hW.mono fun _ _ z => z.kp (KpZ.same a1)
      replace hP := hP.mono fun _ _ z => z.kp (KpZ.same a1)
      replace F0 := F0.trans (Fr.of a1)
      generalize upd H2 u1 (.tup []) = K1 at *
      refine ⟨(by show 1 ≤ sizeLine; decide), fun x1 nx1 => ?_⟩
      have a2 := sadd (o := .tup [.ref u1]) (Same.refl K1) nx1
      have ox1 := SK1.old nx1
      have SK2 := SK1.same a2
      have fx1 : upd K1 x1 (.tup [.ref u1]) x1 = some (.tup [.ref u1]) := upd_same
      replace b1 := a2 _ _ b1
      replace c2 := a2 _ _ c2
      replace c3 := a2 _ _ c3
      replace cw := a2 _ _ cw
      replace fu1 := a2 _ _ fu1
      replace hW := hW.mono fun _ _ z => z.kp (KpZ.same a2)
      replace hP := hP.mono fun _ _ z => z.kp (KpZ.same a2)
      replace F0 := F0.trans (Fr.of a2)
      generalize upd K1 x1 (.tup [.ref u1]) = K2 at *
      refine ⟨wt, x1, _, _, rfl, rfl, c2, fx1, by rw [List.length_map]; show wps.length + 1 ≤ _; omega, fun y1 K3 a3 fy1 => ?_⟩
      have SK3 := SK2.same a3
      replace b1 := a3 _ _ b1
      replace c2 := a3 _ _ c2
      replace c3 := a3 _ _ c3
      replace cw := a3 _ _ cw
      replace fu1 := a3 _ _ fu1
      replace fx1 := a3 _ _ fx1
      replace hW := hW.mono fun _ _ z => z.kp (KpZ.same a3)
      replace hP := hP.mono fun _ _ z => z.kp (KpZ.same a3)
      replace F0 := F0.trans (Fr.of a3)
      refine ⟨_, rfl, (by show 3 ≤ sizeLine; decide), fun r1 nr1 => ?_⟩
      have a4 := sadd (o := .tup [.int F.dep, .ref y1, .ref dt]) (Same.refl K3) nr1
      have or1 := SK3.old nr1
      have SK4 := SK3.same a4
      have fr1 : upd K3 r1 (.tup [.int F.dep, .ref y1, .ref dt]) r1 = some (.tup [.int F.dep, .ref y1, .ref dt]) := upd_same
      replace b1 := a4 _ _ b1
      replace c2 := a4 _ _ c2
      replace c3 := a4 _ _ c3
      replace cw := a4 _ _ cw
      replace fu1 := a4 _ _ fu1
      replace fx1 := a4 _ _ fx1
      replace fy1 := a4 _ _ fy1
      replace hW := hW.mono fun _ _ z => z.kp (KpZ.same a4)
      replace hP := hP.mono fun _ _ z => z.kp (KpZ.same a4)
      replace F0 := F0.trans (Fr.of a4)
      generalize upd K3 r1 (.tup [.int F.dep, .ref y1, .ref dt]) = K4 at *
      refine ⟨_, rfl, _, rfl, _, rfl, (by show 1 ≤ sizeLine; decide), fun v1 nv1 => ?_⟩
      have a5 := sadd (o := .tup [.int 1]) (Same.refl K4) nv1
      have ov1 := SK4.old nv1
      have SK5 := SK4.same a5
      have fv1 : upd K4 v1 (.tup [.int 1]) v1 = some (.tup [.int 1]) := upd_same
      replace b1 := a5 _ _ b1
      replace c2 := a5 _ _ c2
      replace c3 := a5 _ _ c3
      replace cw := a5 _ _ cw
      replace fu1 := a5 _ _ fu1
      replace fx1 := a5 _ _ fx1
      replace fy1 := a5 _ _ fy1
      replace fr1 := a5 _ _ fr1
      replace hW := hW.mono fun _ _ z => z.kp (KpZ.same a5)
      replace hP := hP.mono fun _ _ z => z.kp (KpZ.same a5)
      replace F0 := F0.trans (Fr.of a5)
      generalize upd K4 v1 (.tup [.int 1]) = K5 at *
      refine ⟨dt, v1, _, _, rfl, rfl, c3, fv1, by rw [List.length_map]; show F.dor.length + 1 ≤ _; omega, fun z1 K6 a6 fz1 => ?_⟩
      have SK6 := SK5.same a6
      replace b1 := a6 _ _ b1
      replace c2 := a6 _ _ c2
      replace c3 := a6 _ _ c3
      replace cw := a6 _ _ cw
      replace fu1 := a6 _ _ fu1
      replace fx1 := a6 _ _ fx1
      replace fy1 := a6 _ _ fy1
      replace fr1 := a6 _ _ fr1
      replace fv1 := a6 _ _ fv1
      replace hW := hW.mono fun _ _ z => z.kp (KpZ.same a6)
      replace hP := hP.mono fun _ _ z => z.kp (KpZ.same a6)
      replace F0 := F0.trans (Fr.of a6)
      refine ⟨(by show 3 ≤ sizeLine; decide), fun r2 nr2 => ?_⟩
      have a7 := sadd (o := .tup [.int F.dep, .ref wt, .ref z1]) (Same.refl K6) nr2
      have or2 := SK6.old nr2
      have SK7 := SK6.same a7
      have fr2 : upd K6 r2 (.tup [.int F.dep, .ref wt, .ref z1]) r2 = some (.tup [.int F.dep, .ref wt, .ref z1]) := upd_same
      replace b1 := a7 _ _ b1
      replace c2 := a7 _ _ c2
      replace c3 := a7 _ _ c3
      replace cw := a7 _ _ cw
      replace fu1 := a7 _ _ fu1
      replace fx1 := a7 _ _ fx1
      replace fy1 := a7 _ _ fy1
      replace fr1 := a7 _ _ fr1
      replace fv1 := a7 _ _ fv1
      replace fz1 := a7 _ _ fz1
      replace hW := hW.mono fun _ _ z => z.kp (KpZ.same a7)
      replace hP := hP.mono fun _ _ z => z.kp (KpZ.same a7)
      replace F0 := F0.trans (Fr.of a7)
      generalize upd K6 r2 (.tup [.int F.dep, .ref wt, .ref z1]) = K7 at *
      refine ⟨_, rfl, _, rfl, (by show 0 ≤ sizeLine; decide), fun u2 nu2 => ?_⟩
      have a8 := sadd (o := .tup []) (Same.refl K7) nu2
      have ou2 := SK7.old nu2
      have SK8 := SK7.same a8
      have fu2 : upd K7 u2 (.tup []) u2 = some (.tup []) := upd_same
      replace b1 := a8 _ _ b1
      replace c2 := a8 _ _ c2
      replace c3 := a8 _ _ c3
      replace cw := a8 _ _ cw
      replace fu1 := a8 _ _ fu1
      replace fx1 := a8 _ _ fx1
      replace fy1 := a8 _ _ fy1
      replace fr1 := a8 _ _ fr1
      replace fv1 := a8 _ _ fv1
      replace fz1 := a8 _ _ fz1
      replace fr2 := a8 _ _ fr2
      replace hW := hW.mono fun _ _ z => z.kp (KpZ.same a8)
      replace hP := hP.mono fun _ _ z => z.kp (KpZ.same a8)
      replace F0 := F0.trans (Fr.of a8)
      generalize upd K7 u2 (.tup []) = K8 at *
      refine ⟨(by show 1 ≤ sizeLine; decide), fun x2 nx2 => ?_⟩
      have a9 := sadd (o := .tup [.ref u2]) (Same.refl K8) nx2
      have ox2 := SK8.old nx2
      have SK9 := SK8.same a9
      have fx2 : upd K8 x2 (.tup [.ref u2]) x2 = some (.tup [.ref u2]) := upd_same
      replace b1 := a9 _ _ b1
      replace c2 := a9 _ _ c2
      replace c3 := a9 _ _ c3
      replace cw := a9 _ _ cw
      replace fu1 := a9 _ _ fu1
      replace fx1 := a9 _ _ fx1
      replace fy1 := a9 _ _ fy1
      replace fr1 := a9 _ _ fr1
      replace fv1 := a9 _ _ fv1
      replace fz1 := a9 _ _ fz1
      replace fr2 := a9 _ _ fr2
      replace fu2 := a9 _ _ fu2
      replace hW := hW.mono fun _ _ z => z.kp (KpZ.same a9)
      replace hP := hP.mono fun _ _ z => z.kp (KpZ.same a9)
      replace F0 := F0.trans (Fr.of a9)
      generalize upd K8 x2 (.tup [.ref u2]) = K9 at *
      refine ⟨wt, x2, _, _, rfl, rfl, c2, fx2, by rw [List.length_map]; show wps.length + 1 ≤ _; omega, fun y2 K10 a10 fy2 => ?_⟩
      have SK10 := SK9.same a10
      replace b1 := a10 _ _ b1
      replace c2 := a10 _ _ c2
      replace c3 := a10 _ _ c3
      replace cw := a10 _ _ cw
      replace fu1 := a10 _ _ fu1
      replace fx1 := a10 _ _ fx1
      replace fy1 := a10 _ _ fy1
      replace fr1 := a10 _ _ fr1
      replace fv1 := a10 _ _ fv1
      replace fz1 := a10 _ _ fz1
      replace fr2 := a10 _ _ fr2
      replace fu2 := a10 _ _ fu2
      replace fx2 := a10 _ _ fx2
      replace hW := hW.mono fun _ _ z => z.kp (KpZ.same a10)
      replace hP := hP.mono fun _ _ z => z.kp (KpZ.same a10)
      replace F0 := F0.trans (Fr.of a10)
      refine ⟨_, rfl, (by show 1 ≤ sizeLine; decide), fun v2 nv2 => ?_⟩
      have a11 := sadd (o := .tup [.int 1]) (Same.refl K10) nv2
      have ov2 := SK10.old nv2
      have SK11 := SK10.same a11
      have fv2 : upd K10 v2 (.tup [.int 1]) v2 = some (.tup [.int 1]) := upd_same
      replace b1 := a11 _ _ b1
      replace c2 := a11 _ _ c2
      replace c3 := a11 _ _ c3
      replace cw := a11 _ _ cw
      replace fu1 := a11 _ _ fu1
      replace fx1 := a11 _ _ fx1
      replace fy1 := a11 _ _ fy1
      replace fr1 := a11 _ _ fr1
      replace fv1 := a11 _ _ fv1
      replace fz1 := a11 _ _ fz1
      replace fr2 := a11 _ _ fr2
      replace fu2 := a11 _ _ fu2
      replace fx2 := a11 _ _ fx2
      replace fy2 := a11 _ _ fy2
      replace hW := hW.mono fun _ _ z => z.kp (KpZ.same a11)
      replace hP := hP.mono fun _ _ z => z.kp (KpZ.same a11)
      replace F0 := F0.trans (Fr.of a11)
      generalize upd K10 v2 (.tup [.int 1]) = K11 at *
      refine ⟨dt, v2, _, _, rfl, rfl, c3, fv2, by rw [List.length_map]; show F.dor.length + 1 ≤ _; omega, fun z2 K12 a12 fz2 => ?_⟩
      have SK12 := SK11.same a12
      replace b1 := a12 _ _ b1
      replace c2 := a12 _ _ c2
      replace c3 := a12 _ _ c3
      replace cw := a12 _ _ cw
      replace fu1 := a12 _ _ fu1
      replace fx1 := a12 _ _ fx1
      replace fy1 := a12 _ _ fy1
      replace fr1 := a12 _ _ fr1
      replace fv1 := a12 _ _ fv1
      replace fz1 := a12 _ _ fz1
      replace fr2 := a12 _ _ fr2
      replace fu2 := a12 _ _ fu2
      replace fx2 := a12 _ _ fx2
      replace fy2 := a12 _ _ fy2
      replace fv2 := a12 _ _ fv2
      replace hW := hW.mono fun _ _ z => z.kp (KpZ.same a12)
      replace hP := hP.mono fun _ _ z => z.kp (KpZ.same a12)
      replace F0 := F0.trans (Fr.of a12)
      refine ⟨(by show 3 ≤ sizeLine; decide), fun r3 nr3 => ?_⟩
      have a13 := sadd (o := .tup [.int F.dep, .ref y2, .ref z2]) (Same.refl K12) nr3
      have or3 := SK12.old nr3
      have SK13 := SK12.same a13
      have fr3 : upd K12 r3 (.tup [.int F.dep, .ref y2, .ref z2]) r3 = some (.tup [.int F.dep, .ref y2, .ref z2]) := upd_same
      replace b1 := a13 _ _ b1
      replace c2 := a13 _ _ c2
      replace c3 := a13 _ _ c3
      replace cw := a13 _ _ cw
      replace fu1 := a13 _ _ fu1
      replace fx1 := a13 _ _ fx1
      replace fy1 := a13 _ _ fy1
      replace fr1 := a13 _ _ fr1
      replace fv1 := a13 _ _ fv1
      replace fz1 := a13 _ _ fz1
      replace fr2 := a13 _ _ fr2
      replace fu2 := a13 _ _ fu2
      replace fx2 := a13 _ _ fx2
      replace fy2 := a13 _ _ fy2
      replace fv2 := a13 _ _ fv2
      replace fz2 := a13 _ _ fz2
      replace hW := hW.mono fun _ _ z => z.kp (KpZ.same a13)
      replace hP := hP.mono fun _ _ z => z.kp (KpZ.same a13)
      replace F0 := F0.trans (Fr.of a13)
      generalize upd K12 r3 (.tup [.int F.dep, .ref y2, .ref z2]) = K13 at *
      refine ⟨(by show 3 ≤ sizeLine; decide), fun l nl => ?_⟩
      have a14 := sadd (o := .lst [.ref r1, .ref r2, .ref r3]) (Same.refl K13) nl
      have ol := SK13.old nl
      have SK14 := SK13.same a14
      have fl : upd K13 l (.lst [.ref r1, .ref r2, .ref r3]) l = some (.lst [.ref r1, .ref r2, .ref r3]) := upd_same
      replace b1 := a14 _ _ b1
      replace c2 := a14 _ _ c2
      replace c3 := a14 _ _ c3
      replace cw := a14 _ _ cw
      replace fu1 := a14 _ _ fu1
      replace fx1 := a14 _ _ fx1
      replace fy1 := a14 _ _ fy1
      replace fr1 := a14 _ _ fr1
      replace fv1 := a14 _ _ fv1
      replace fz1 := a14 _ _ fz1
      replace fr2 := a14 _ _ fr2
      replace fu2 := a14 _ _ fu2
      replace fx2 := a14 _ _ fx2
      replace fy2 := a14 _ _ fy2
      replace fv2 := a14 _ _ fv2
      replace fz2 := a14 _ _ fz2
      replace fr3 := a14 _ _ fr3
      replace hW := hW.mono fun _ _ z => z.kp (KpZ.same a14)
      replace hP := hP.mono fun _ _ z => z.kp (KpZ.same a14)
      replace F0 := F0.trans (Fr.of a14)
      generalize upd K13 l (.lst [.ref r1, .ref r2, .ref r3]) = K14 at *
      refine ⟨_, rfl, _, rfl, st, g, c, l, _, _, rfl, SK14, by omega, .inl ⟨fl, ol.2.1⟩, (by show 0 < 3; decide), (by show 3 ≤ 1000000; decide), fun v K15 hv SK15 G15 => ?_⟩
      have hv' : v ∈ [V.ref r1, .ref r2, .ref r3] := hv
      simp only [List.mem_cons, List.not_mem_nil, or_false] at hv'
      have tk := fr_tup SK14 G15
      replace b1 := tk _ _ b1
      replace c2 := tk _ _ c2
      replace c3 := tk _ _ c3
      replace cw := tk _ _ cw
      replace fu1 := tk _ _ fu1
      replace fx1 := tk _ _ fx1
      replace fy1 := tk _ _ fy1
      replace fr1 := tk _ _ fr1
      replace fv1 := tk _ _ fv1
      replace fz1 := tk _ _ fz1
      replace fr2 := tk _ _ fr2
      replace fu2 := tk _ _ fu2
      replace fx2 := tk _ _ fx2
      replace fy2 := tk _ _ fy2
      replace fv2 := tk _ _ fv2
      replace fz2 := tk _ _ fz2
      replace fr3 := tk _ _ fr3
      replace hW := hW.mono fun _ _ z => z.kp (KpZ.frm SK14 G15)
      replace hP := hP.mono fun _ _ z => z.kp (KpZ.frm SK14 G15)
      replace F0 := F0.trans G15
      rcases hv' with rfl | rfl | rfl
      · exact out3 r1 (.n F.dep) (.tup (wl ++ [W1.tup []])) (.tup (F.dor.map Ax.n)) _ _ _ () K15 fr1 ⟨y1, _, rfl, fy1, hW.app (.cons (x := W1.tup []) ⟨u1, [], rfl, fu1, .nil, Nat.zero_le _⟩ .nil), by rw [List.length_append]; show wl.length + 1 ≤ _; omega⟩ ⟨dt, rfl, by rw [List.map_map]; exact c3, by rw [List.length_map]; omega⟩ SK15 (by omega) F0
      · exact out3 r2 (.n F.dep) (.tup wl) (.tup (F.dor.map Ax.n ++ [.n 1])) _ _ _ () K15 fr2 ⟨wt, _, rfl, c2, hW, by omega⟩ ⟨z1, rfl, by rw [List.map_append, List.map_map]; exact fz1, by rw [List.length_append, List.length_map]; show F.dor.length + 1 ≤ _; omega⟩ SK15 (by omega) F0
      · exact out3 r3 (.n F.dep) (.tup (wl ++ [W1.tup []])) (.tup (F.dor.map Ax.n ++ [.n 1])) _ _ _ () K15 fr3 ⟨y2, _, rfl, fy2, hW.app (.cons (x := W1.tup []) ⟨u2, [], rfl, fu2, .nil, Nat.zero_le _⟩ .nil), by rw [List.length_append]; show wl.length + 1 ≤ _; omega⟩ ⟨z2, rfl, by rw [List.map_append, List.map_map]; exact fz2, by rw [List.length_append, List.length_map]; show F.dor.length + 1 ≤ _; omega⟩ SK15 (by omega) F0
    refine ⟨_, rfl, a, _, rfl, .inr (SqT.of b1), fun q1 nq1 => ?_⟩
    have a1 := sadd (o := .lst [.int F.dep, .ref wt, .ref dt]) (Same.refl H2) nq1
    have oq1 := SH2.old nq1
    have SK1 := SH2.same a1
    have fq1 : upd H2 q1 (.lst [.int F.dep, .ref wt, .ref dt]) q1 = some (.lst [.int F.dep, .ref wt, .ref dt]) := upd_same
    replace b1 := a1 _ _ b1
    replace c2 := a1 _ _ c2
    replace c3 := a1 _ _ c3
    replace cw := a1 _ _ cw
    replace hW := hW.mono fun _ _ z => z.kp (KpZ.same a1)
    replace hP := hP.mono fun _ _ z => z.kp (KpZ.same a1)
    replace F0 := F0.trans (Fr.of a1)
    generalize upd H2 q1 (.lst [.int F.dep, .ref wt, .ref dt]) = K1 at *
    refine ⟨_, rfl, _, rfl, a, _, rfl, b1, fun q2 K2 a2 fq2 => ?_⟩
    rw [show cutV [V.int F.dep, .ref wt, .ref dt] none (some 2) = [V.int F.dep, .ref wt] from rfl] at fq2
    have SK2 := SK1.same a2
    replace b1 := a2 _ _ b1
    replace c2 := a2 _ _ c2
    replace c3 := a2 _ _ c3
    replace cw := a2 _ _ cw
    replace fq1 := a2 _ _ fq1
    replace hW := hW.mono fun _ _ z => z.kp (KpZ.same a2)
    replace hP := hP.mono fun _ _ z => z.kp (KpZ.same a2)
    replace F0 := F0.trans (Fr.of a2)
    refine ⟨_, rfl, (by show 1 ≤ sizeLine; decide), fun q3 nq3 => ?_⟩
    have a3 := sadd (o := .tup [.int 0]) (Same.refl K2) nq3
    have oq3 := SK2.old nq3
    have SK3 := SK2.same a3
    have fq3 : upd K2 q3 (.tup [.int 0]) q3 = some (.tup [.int 0]) := upd_same
    replace b1 := a3 _ _ b1
    replace c2 := a3 _ _ c2
    replace c3 := a3 _ _ c3
    replace cw := a3 _ _ cw
    replace fq1 := a3 _ _ fq1
    replace fq2 := a3 _ _ fq2
    replace hW := hW.mono fun _ _ z => z.kp (KpZ.same a3)
    replace hP := hP.mono fun _ _ z => z.kp (KpZ.same a3)
    replace F0 := F0.trans (Fr.of a3)
    generalize upd K2 q3 (.tup [.int 0]) = K3 at *
    refine ⟨a, q3, _, _, rfl, rfl, b1, fq3, (by show 4 ≤ sizeLine; decide), fun q4 K4 a4 fq4 => ?_⟩
    have SK4 := SK3.same a4
    replace b1 := a4 _ _ b1
    replace c2 := a4 _ _ c2
    replace c3 := a4 _ _ c3
    replace cw := a4 _ _ cw
    replace fq1 := a4 _ _ fq1
    replace fq2 := a4 _ _ fq2
    replace fq3 := a4 _ _ fq3
    replace hW := hW.mono fun _ _ z => z.kp (KpZ.same a4)
    replace hP := hP.mono fun _ _ z => z.kp (KpZ.same a4)
    replace F0 := F0.trans (Fr.of a4)
    refine ⟨(by show 0 ≤ sizeLine; decide), fun q5 nq5 => ?_⟩
    have a5 := sadd (o := .tup []) (Same.refl K4) nq5
    have oq5 := SK4.old nq5
    have SK5 := SK4.same a5
    have fq5 : upd K4 q5 (.tup []) q5 = some (.tup []) := upd_same
    replace b1 := a5 _ _ b1
    replace c2 := a5 _ _ c2
    replace c3 := a5 _ _ c3
    replace cw := a5 _ _ cw
    replace fq1 := a5 _ _ fq1
    replace fq2 := a5 _ _ fq2
    replace fq3 := a5 _ _ fq3
    replace fq4 := a5 _ _ fq4
    replace hW := hW.mono fun _ _ z => z.kp (KpZ.same a5)
    replace hP := hP.mono fun _ _ z => z.kp (KpZ.same a5)
    replace F0 := F0.trans (Fr.of a5)
    generalize upd K4 q5 (.tup []) = K5 at *
    refine ⟨_, rfl, _, rfl, wt, _, rfl, .inr (SqT.of c2), fun q6 nq6 => ?_⟩
    have a6 := sadd (o := .lst (wps.map V.ref)) (Same.refl K5) nq6
    have oq6 := SK5.old nq6
    have SK6 := SK5.same a6
    have fq6 : upd K5 q6 (.lst (wps.map V.ref)) q6 = some (.lst (wps.map V.ref)) := upd_same
    replace b1 := a6 _ _ b1
    replace c2 := a6 _ _ c2
    replace c3 := a6 _ _ c3
    replace cw := a6 _ _ cw
    replace fq1 := a6 _ _ fq1
    replace fq2 := a6 _ _ fq2
    replace fq3 := a6 _ _ fq3
    replace fq4 := a6 _ _ fq4
    replace fq5 := a6 _ _ fq5
    replace hW := hW.mono fun _ _ z => z.kp (KpZ.same a6)
    replace hP := hP.mono fun _ _ z => z.kp (KpZ.same a6)
    replace F0 := F0.trans (Fr.of a6)
    generalize upd K5 q6 (.lst (wps.map V.ref)) = K6 at *
    refine ⟨_, rfl, (by show 3 ≤ sizeLine; decide), fun q7 nq7 => ?_⟩
    have a7 := sadd (o := .tup [.int F.dep, .ref q6, .ref dt]) (Same.refl K6) nq7
    have oq7 := SK6.old nq7
    have SK7 := SK6.same a7
    have fq7 : upd K6 q7 (.tup [.int F.dep, .ref q6, .ref dt]) q7 = some (.tup [.int F.dep, .ref q6, .ref dt]) := upd_same
    replace b1 := a7 _ _ b1
    replace c2 := a7 _ _ c2
    replace c3 := a7 _ _ c3
    replace cw := a7 _ _ cw
    replace fq1 := a7 _ _ fq1
    replace fq2 := a7 _ _ fq2
    replace fq3 := a7 _ _ fq3
    replace fq4 := a7 _ _ fq4
    replace fq5 := a7 _ _ fq5
    replace fq6 := a7 _ _ fq6
    replace hW := hW.mono fun _ _ z => z.kp (KpZ.same a7)
    replace hP := hP.mono fun _ _ z => z.kp (KpZ.same a7)
    replace F0 := F0.trans (Fr.of a7)
    generalize upd K6 q7 (.tup [.int F.dep, .ref q6, .ref dt]) = K7 at *
    refine ⟨_, rfl, _, rfl, _, rfl, dt, _, rfl, .inr (SqT.of c3), fun q8 nq8 => ?_⟩
    have a8 := sadd (o := .lst (F.dor.map V.int)) (Same.refl K7) nq8
    have oq8 := SK7.old nq8
    have SK8 := SK7.same a8
    have fq8 : upd K7 q8 (.lst (F.dor.map V.int)) q8 = some (.lst (F.dor.map V.int)) := upd_same
    replace b1 := a8 _ _ b1
    replace c2 := a8 _ _ c2
    replace c3 := a8 _ _ c3
    replace cw := a8 _ _ cw
    replace fq1 := a8 _ _ fq1
    replace fq2 := a8 _ _ fq2
    replace fq3 := a8 _ _ fq3
    replace fq4 := a8 _ _ fq4
    replace fq5 := a8 _ _ fq5
    replace fq6 := a8 _ _ fq6
    replace fq7 := a8 _ _ fq7
    replace hW := hW.mono fun _ _ z => z.kp (KpZ.same a8)
    replace hP := hP.mono fun _ _ z => z.kp (KpZ.same a8)
    replace F0 := F0.trans (Fr.of a8)
    generalize upd K7 q8 (.lst (F.dor.map V.int)) = K8 at *
    refine ⟨(by show 3 ≤ sizeLine; decide), fun q9 nq9 => ?_⟩
    have a9 := sadd (o := .tup [.int F.dep, .ref wt, .ref q8]) (Same.refl K8) nq9
    have oq9 := SK8.old nq9
    have SK9 := SK8.same a9
    have fq9 : upd K8 q9 (.tup [.int F.dep, .ref wt, .ref q8]) q9 = some (.tup [.int F.dep, .ref wt, .ref q8]) := upd_same
    replace b1 := a9 _ _ b1
    replace c2 := a9 _ _ c2
    replace c3 := a9 _ _ c3
    replace cw := a9 _ _ cw
    replace fq1 := a9 _ _ fq1
    replace fq2 := a9 _ _ fq2
    replace fq3 := a9 _ _ fq3
    replace fq4 := a9 _ _ fq4
    replace fq5 := a9 _ _ fq5
    replace fq6 := a9 _ _ fq6
    replace fq7 := a9 _ _ fq7
    replace fq8 := a9 _ _ fq8
    replace hW := hW.mono fun _ _ z => z.kp (KpZ.same a9)
    replace hP := hP.mono fun _ _ z => z.kp (KpZ.same a9)
    replace F0 := F0.trans (Fr.of a9)
    generalize upd K8 q9 (.tup [.int F.dep, .ref wt, .ref q8]) = K9 at *
    refine ⟨(by show 7 ≤ sizeLine; decide), fun l nl => ?_⟩
    have a10 := sadd (o := .lst [.ref q1, .ref q2, .ref q4, .non, .ref q5, .ref q7, .ref q9]) (Same.refl K9) nl
    have ol := SK9.old nl
    have SK10 := SK9.same a10
    have fl : upd K9 l (.lst [.ref q1, .ref q2, .ref q4, .non, .ref q5, .ref q7, .ref q9]) l = some (.lst [.ref q1, .ref q2, .ref q4, .non, .ref q5, .ref q7, .ref q9]) := upd_same
    replace b1 := a10 _ _ b1
    replace c2 := a10 _ _ c2
    replace c3 := a10 _ _ c3
    replace cw := a10 _ _ cw
    replace fq1 := a10 _ _ fq1
    replace fq2 := a10 _ _ fq2
    replace fq3 := a10 _ _ fq3
    replace fq4 := a10 _ _ fq4
    replace fq5 := a10 _ _ fq5
    replace fq6 := a10 _ _ fq6
    replace fq7 := a10 _ _ fq7
    replace fq8 := a10 _ _ fq8
    replace fq9 := a10 _ _ fq9
    replace hW := hW.mono fun _ _ z => z.kp (KpZ.same a10)
    replace hP := hP.mono fun _ _ z => z.kp (KpZ.same a10)
    replace F0 := F0.trans (Fr.of a10)
    generalize upd K9 l (.lst [.ref q1, .ref q2, .ref q4, .non, .ref q5, .ref q7, .ref q9]) = K10 at *
    refine ⟨_, rfl, _, rfl, st, g, c, l, _, _, rfl, SK10, by omega, .inl ⟨fl, ol.2.1⟩, (by show 0 < 7; decide), (by show 7 ≤ 1000000; decide), fun v K11 hv SK11 G11 => ?_⟩
    have hv' : v ∈ [V.ref q1, .ref q2, .ref q4, .non, .ref q5, .ref q7, .ref q9] := hv
    simp only [List.mem_cons, List.not_mem_nil, or_false] at hv'
    have tk := fr_tup SK10 G11
    replace b1 := tk _ _ b1
    replace c2 := tk _ _ c2
    replace c3 := tk _ _ c3
    replace cw := tk _ _ cw
    replace fq2 := tk _ _ fq2
    replace fq3 := tk _ _ fq3
    replace fq4 := tk _ _ fq4
    replace fq5 := tk _ _ fq5
    replace fq7 := tk _ _ fq7
    replace fq9 := tk _ _ fq9
    replace hW := hW.mono fun _ _ z => z.kp (KpZ.frm SK10 G11)
    replace hP := hP.mono fun _ _ z => z.kp (KpZ.frm SK10 G11)
    replace F0 := F0.trans G11
    rcases hv' with rfl | rfl | rfl | rfl | rfl | rfl | rfl
    · exact k _ .oth _ (.inr (.inr (.inr ⟨q1, _, rfl, ⟨oq1.1, oq1.2.1⟩, G11 _ _ fq1 oq1.1 oq1.2.1⟩))) (SK11.mono (by omega)) F0
    · exact k _ .tupn _ ⟨q2, _, rfl, fq2, (by show ¬ 2 = 3; decide), (by show 2 ≤ 1000; decide)⟩ (SK11.mono (by omega)) F0
    · exact k _ .tupn _ ⟨q4, _, rfl, fq4, (by show ¬ 4 = 3; decide), (by show 4 ≤ 1000; decide)⟩ (SK11.mono (by omega)) F0
    · exact k _ .oth _ (.inl rfl) (SK11.mono (by omega)) F0
    · exact k _ .tupn _ ⟨q5, _, rfl, fq5, (by show ¬ 0 = 3; decide), (by show 0 ≤ 1000; decide)⟩ (SK11.mono (by omega)) F0
    · exact out3 q7 (.n F.dep) .oth (.tup (F.dor.map Ax.n)) _ _ _ () K11 fq7 (.inr (.inr (.inr ⟨q6, _, rfl, ⟨oq6.1, oq6.2.1⟩, G11 _ _ fq6 oq6.1 oq6.2.1⟩))) ⟨dt, rfl, by rw [List.map_map]; exact c3, by rw [List.length_map]; omega⟩ SK11 (by omega) F0
    · exact out3 q9 (.n F.dep) (.tup wl) .oth _ _ _ () K11 fq9 ⟨wt, _, rfl, c2, hW, by omega⟩ (.inr (.inr (.inr ⟨q8, _, rfl, ⟨oq8.1, oq8.2.1⟩, G11 _ _ fq8 oq8.1 oq8.2.1⟩))) SK11 (by omega) F0
end
end OH
end
section
set_option Elab.async false
set_option linter.all false
set_option maxRecDepth 100000
set_option maxHeartbeats 8000000
/-! Sixty open asks, in plain words. -/
namespace OH
open PySem PySem.Spec PyProof.Rows L2
def cl (n : Int) (i : Nat) : Crs := .call ((i : Int) % 2) (1 - (i : Int) % 2) ((i : Int) % 6) n
def pr (i : Nat) : Int × Int := ((i : Int) % 2, 1 - (i : Int) % 2)
def fullk (n : Int) (k : Nat) : List Crs := .start n :: (List.range k).map (cl n)
theorem fol_call_eq (r : Int) (as : List (Int × Int)) (a b d n : Int) : folB r as (.call a b d n) = (decide (as.length < 60) && decide (a = r) && dorB b && decide (b ≠ r) && dorB d && NumB n) := rfl
theorem fitX_call (F : Fc) (m a b d n : Int) : fitX F m (.call a b d n) = (decide ((b, d) ∈ F.ws a.toNat) && !decide (m = F.dep)) := rfl
theorem fullk_succ (n : Int) (k : Nat) : fullk n (k + 1) = fullk n k ++ [cl n k] := by
  unfold fullk
  rw [List.range_succ, List.map_append]
  rfl
theorem fullk_len (n : Int) (k : Nat) : (fullk n k).length = k + 1 := by
  unfold fullk
  rw [List.length_cons, List.length_map, List.length_range]
theorem run_k {n : Int} (hn : NumB n = true) : ∀ k : Nat, k ≤ 60 → goodGo w0 (fullk n k) = true ∧ wk w0 (fullk n k) = ⟨some ((k : Int) % 2), (List.range k).map pr, false⟩
  | 0, _ => by
    refine ⟨?_, rfl⟩
    show (canC w0 (.start n) && true) = true
    rw [canC_first, Bool.and_true]
    exact hn
  | k + 1, h => by
    obtain ⟨h1, h2⟩ := run_k hn k (Nat.le_of_succ_le h)
    have hc : canC (wk w0 (fullk n k)) (cl n k) = true := by
      rw [h2, canC_run rfl rfl]
      show (decide (((List.range k).map pr).length < 60) && decide ((k : Int) % 2 = (k : Int) % 2) && dorB (1 - (k : Int) % 2) && decide (1 - (k : Int) % 2 ≠ (k : Int) % 2) && dorB ((k : Int) % 6) && NumB n) = true
      have e1 : dorB (1 - (k : Int) % 2) = true := by
        show (decide ((0 : Int) ≤ 1 - (k : Int) % 2) && decide (1 - (k : Int) % 2 ≤ 5)) = true
        rw [decide_eq_true (by omega), decide_eq_true (by omega)]
        rfl
      have e2 : dorB ((k : Int) % 6) = true := by
        show (decide ((0 : Int) ≤ (k : Int) % 6) && decide ((k : Int) % 6 ≤ 5)) = true
        rw [decide_eq_true (by omega), decide_eq_true (by omega)]
        rfl
      rw [e1, e2, hn, List.length_map, List.length_range, decide_eq_true (by omega : k < 60), decide_eq_true rfl, decide_eq_true (by omega : 1 - (k : Int) % 2 ≠ (k : Int) % 2)]
      rfl
    refine ⟨?_, ?_⟩
    · rw [fullk_succ, goodGo_app, h1]
      show (true && (canC (wk w0 (fullk n k)) (cl n k) && true)) = true
      rw [hc]
      rfl
    · rw [fullk_succ, wk_snoc, h2, List.range_succ, List.map_append]
      show (⟨some (1 - (k : Int) % 2), (List.range k).map pr ++ [pr k], false⟩ : Wk) = ⟨some (((k + 1 : Nat) : Int) % 2), (List.range k).map pr ++ [pr k], false⟩
      rw [show 1 - (k : Int) % 2 = ((k + 1 : Nat) : Int) % 2 by omega]
section
variable {n : Int} (hn : NumB n = true)
include hn
theorem good_app (k : Nat) (hk : k ≤ 60) (ys : List Crs) : goodB (fullk n k ++ ys) = goodGo ⟨some ((k : Int) % 2), (List.range k).map pr, false⟩ ys := by
  obtain ⟨h1, h2⟩ := run_k hn k hk
  show (true && goodGo w0 (fullk n k ++ ys)) = _
  rw [goodGo_app, h1, h2]
  rfl
theorem good_full : goodB (fullk n 60) = true := by
  have := good_app hn 60 (by decide) []
  rw [List.append_nil] at this
  rw [this]
  rfl
theorem can_deep (k : Nat) (a b : Int) (hk : 0 < k) (ha : a = (k : Int) % 2) (hb : dorB b = true) (hne : b ≠ a) : canC ⟨some ((k : Int) % 2), (List.range k).map pr, false⟩ (.deep a b 5 n) = true := by
  rw [canC_run rfl rfl]
  show (decide (0 < ((List.range k).map pr).length) && decide (a = (k : Int) % 2) && dorB b && decide (b ≠ (k : Int) % 2) && dorB 5 && NumB n) = true
  rw [hb, hn, List.length_map, List.length_range, decide_eq_true hk, decide_eq_true ha, decide_eq_true (by rw [← ha]; exact hne)]
  decide +kernel
theorem good_deep : goodB (fullk n 60 ++ [.deep 0 1 5 n]) = true := by
  rw [good_app hn 60 (by decide)]
  show (canC _ _ && true) = true
  rw [can_deep hn 60 0 1 (by decide) (by decide) (by decide +kernel) (by decide)]
  rfl
theorem good_short : goodB (fullk n 59 ++ [.deep 1 0 5 n]) = true := by
  rw [good_app hn 59 (by decide)]
  show (canC _ _ && true) = true
  rw [can_deep hn 59 1 0 (by decide) (by decide) (by decide +kernel) (by decide)]
  rfl
theorem good_deep2 : goodB (fullk n 60 ++ [.deep 0 1 5 n, .deep 0 1 5 n]) = false := by
  rw [good_app hn 60 (by decide)]
  show (canC _ _ && (canC (tk _ _) _ && _)) = false
  rw [canC_over (w := tk _ _) rfl, Bool.false_and, Bool.and_false]
theorem good_more : goodB (fullk n 60 ++ [.call 0 1 5 n]) = false := by
  rw [good_app hn 60 (by decide)]
  show (canC _ _ && true) = false
  rw [canC_run rfl rfl, fol_call_eq]
  have e : decide (((List.range 60).map pr).length < 60) = false := by rw [List.length_map, List.length_range]; rfl
  rw [e]
  rfl
theorem good_wrong : goodB (fullk n 59 ++ [.call 0 1 5 n]) = false := by
  rw [good_app hn 59 (by decide)]
  show (canC _ _ && true) = false
  rw [canC_run rfl rfl, fol_call_eq]
  have e : decide ((0 : Int) = ((59 : Nat) : Int) % 2) = false := by decide
  rw [e, Bool.and_false]
  rfl
theorem ctl_full : (wk w0 (fullk n 60)).over = false ∧ (wk w0 (fullk n 60)).ins = some 0 := by
  rw [(run_k hn 60 (Nat.le_refl _)).2]
  exact ⟨rfl, rfl⟩
theorem ctl_deep : (wk w0 (fullk n 60 ++ [.deep 0 1 5 n])).over = true ∧ (wk w0 (fullk n 60 ++ [.deep 0 1 5 n])).asks = (List.range 60).map pr := by
  rw [wk_snoc, (run_k hn 60 (Nat.le_refl _)).2]
  exact ⟨rfl, rfl⟩
end
def dlP (a : Int) : List P1 := (List.range 6).map fun d : Nat => .tup [.n a, .n (d : Int)]
def faD (k : Int) : Fa := .three (.n k) (.tup [.tup (dlP 1), .tup (dlP 0)]) (.tup [.n 6, .n 6])
theorem good_60 : goodFa (faD 60) = true := by decide +kernel
theorem good_59 : goodFa (faD 59) = true := by decide +kernel
theorem faD_dep (k : Int) : (faF (faD k)).dep = k := rfl
theorem faD_ws (k : Int) : (faF (faD k)).ws 0 = [(1, 0), (1, 1), (1, 2), (1, 3), (1, 4), (1, 5)] ∧ (faF (faD k)).ws 1 = [(0, 0), (0, 1), (0, 2), (0, 3), (0, 4), (0, 5)] := ⟨rfl, rfl⟩
theorem faD_mem (k : Int) (i : Nat) : (1 - (i : Int) % 2, (i : Int) % 6) ∈ (faF (faD k)).ws ((i : Int) % 2).toNat := by
  have h2 : (i : Int) % 2 = 0 ∨ (i : Int) % 2 = 1 := by omega
  have h6 : (i : Int) % 6 = 0 ∨ (i : Int) % 6 = 1 ∨ (i : Int) % 6 = 2 ∨ (i : Int) % 6 = 3 ∨ (i : Int) % 6 = 4 ∨ (i : Int) % 6 = 5 := by omega
  rcases h2 with e | e
  · rw [e, show (0 : Int).toNat = 0 from rfl, (faD_ws k).1]
    rcases h6 with e | e | e | e | e | e <;> (rw [e]; decide)
  · rw [e, show (1 : Int).toNat = 1 from rfl, (faD_ws k).2]
    rcases h6 with e | e | e | e | e | e <;> (rw [e]; decide)
theorem fit_k (n k : Int) : ∀ (j : Nat) (rest : List Crs), (j : Int) ≤ k → fitGo (faF (faD k)) 0 (fullk n j ++ rest) = fitGo (faF (faD k)) (j : Int) rest
  | 0, rest, _ => rfl
  | j + 1, rest, h => by
    rw [fullk_succ, List.append_assoc, fit_k n k j _ (by omega)]
    show (fitX (faF (faD k)) (j : Int) (cl n j) && fitGo (faF (faD k)) ((j : Int) + 1) rest) = _
    have e : fitX (faF (faD k)) (j : Int) (cl n j) = true := by
      show (decide ((1 - (j : Int) % 2, (j : Int) % 6) ∈ (faF (faD k)).ws ((j : Int) % 2).toNat) && !decide ((j : Int) = k)) = true
      rw [decide_eq_true (faD_mem k j), decide_eq_false (by omega : ¬ (j : Int) = k)]
      rfl
    rw [e]
    rfl
theorem fit_full60 (n : Int) : fitGo (faF (faD 60)) 0 (fullk n 60) = true := by
  have := fit_k n 60 60 [] (by decide)
  rw [List.append_nil] at this
  rw [this]
  rfl
theorem fit_deep60 (n : Int) : fitGo (faF (faD 60)) 0 (fullk n 60 ++ [.deep 0 1 5 n]) = true := by
  rw [fit_k n 60 60 _ (by decide)]
  show (decide (((1 : Int), (5 : Int)) ∈ (faF (faD 60)).ws 0) && decide ((60 : Int) = 60) && true) = true
  decide +kernel
theorem fit_short60 (n : Int) : fitGo (faF (faD 60)) 0 (fullk n 59 ++ [.deep 1 0 5 n]) = false := by
  rw [fit_k n 60 59 _ (by decide)]
  show (decide (((0 : Int), (5 : Int)) ∈ (faF (faD 60)).ws 1) && decide ((59 : Int) = 60) && true) = false
  decide +kernel
theorem fit_over59 (n : Int) (rest : List Crs) : fitGo (faF (faD 59)) 0 (fullk n 60 ++ rest) = false := by
  rw [fullk_succ, List.append_assoc, fit_k n 59 59 _ (by decide)]
  show (fitX (faF (faD 59)) 59 (cl n 59) && _) = false
  have e : fitX (faF (faD 59)) 59 (cl n 59) = false := by
    unfold cl
    rw [fitX_call, faD_dep, decide_eq_true rfl, Bool.not_true, Bool.and_false]
  rw [e]
  rfl
theorem fit_short59 (n : Int) : fitGo (faF (faD 59)) 0 (fullk n 59 ++ [.deep 1 0 5 n]) = true := by
  rw [fit_k n 59 59 _ (by decide)]
  show (decide (((0 : Int), (5 : Int)) ∈ (faF (faD 59)).ws 1) && decide ((59 : Int) = 59) && true) = true
  decide +kernel
end OH
end
section
set_option Elab.async false
set_option linter.all false
set_option maxRecDepth 100000
set_option maxHeartbeats 16000000
/-! Sixty open asks. -/
namespace OH
open PySem PySem.Spec PyProof.Rows L2
open LamX (Tabs TabS ExtN TabB CodeO)
theorem ci_inj {cs cs' : List Crs} (e : Rt.seq (cs.map Crs.ci) = .seq (cs'.map Crs.ci)) : cs' = cs := by
  have := congrArg (fun r => match r with | Rt.seq xs => xs.filterMap crsX | _ => []) e
  simp only [List.filterMap_map, Function.comp_def, crsX_ci, List.filterMap_some] at this
  exact this.symm
theorem cutV_last1 (xs : List V) (x : V) : cutV (xs ++ [x]) (some (-1)) none = [x] := by
  unfold cutV
  have e1 : HT.sIx (xs ++ [x]).length 0 (some (-1)) = xs.length := by
    show (if (-1 : Int) < 0 then ((-1 : Int) + ((xs ++ [x]).length : Int)).toNat else min (-1 : Int).toNat (xs ++ [x]).length) = _
    rw [if_pos (by decide), List.length_append, List.length_singleton]
    omega
  have e2 : HT.sIx (xs ++ [x]).length (xs ++ [x]).length none = (xs ++ [x]).length := by simp [HT.sIx]
  rw [e1, e2, List.drop_left, List.length_append, List.length_singleton]
  have : xs.length + 1 - xs.length = 1 := by omega
  rw [this]
  rfl
theorem p1_put {Z : Addr → Prop} {H H' : Hp} {us : List V} {a : Int} {is : List Nat} (h : A2 (P1At Z H) us (is.map fun d : Nat => P1.tup [.n a, .n (d : Int)])) (k : ∀ q xs, H q = some (.tup xs) → H' q = some (.tup xs)) : A2 (P1At Z H') us (is.map fun d : Nat => P1.tup [.n a, .n (d : Int)]) := by
  induction is generalizing us with
  | nil => cases h; exact .nil
  | cons i is ih =>
    cases h with
    | cons x y =>
      obtain ⟨p, e, hp, l⟩ := x
      exact .cons ⟨p, e, k _ _ hp, l⟩ (ih y)
def spBound (T : List (Addr × Str)) : Sp := fun vs H Q _ => ∃ n : Int, vs = [.int n] ∧ NumB n = true ∧ Tabs T H ∧ ∀ H', Q (.bl true) H'
section
variable {P : Program} {w : World} {K : PySem.W.Frag} {mg : Str → Option Value} {base : Heap}
abbrev nBh : List Str := ["number", "full", "deep", "doors", "other", "wires", "deepest", "lower", "short", "at", "door"]
theorem sc__law_bound_holds : FnScope nBh ["number"] (defScope s__law_bound_holds) := ⟨rfl, rfl, rfl, by decide +kernel, rfl, by decide +kernel, by decide +kernel⟩
theorem ok__law_bound_holds {f c0 Pt CO CB CF fC fK fO fF : Addr} {fdC fdK fdO fdF : FuncData} {Ts : List (Addr × Str)} {oc : Value} {od an : Option Addr} {kV doc pm ct : Value} {osl : Array (Option Value)}
    (lk : K.lookup f = some ⟨oc, od, .func (PySem.W.fnOf "_law_bound_holds" "_law_bound_holds" (defArgs s__law_bound_holds) (defBody s__law_bound_holds) (defScope s__law_bound_holds) .none kV doc pm an (.ref c0) ct), osl⟩) (hcd : PySem.W.codeIn K (.ref c0) "_law_bound_holds" = true)
    (T : Txt K mg) (TB : TabB base mg c0 Pt) (hT : ((Pt, "_law_bound_holds.<locals>.<lambda>") : Addr × Str) ∈ Ts) (hu : ∀ p ∈ Ts, p.1 = Pt → p.2 = "_law_bound_holds.<locals>.<lambda>")
    (EB : ErrC K mg "BadRow" CB) (XB : ExcC K CB) (mOB : PySem.W.exmOne K (.ref CB) (.ref CO) = some true) (iBB : PySem.W.kitOne K (.ref CB) (.ref CB) = some true) (gO : mg "OwnharmError" = some (.ref CO))
    (FC : Fun K "_law_caught" "_law_caught" s__law_caught fC fdC) (mC : mg "_law_caught" = some (.ref fC)) (bC : Binds K fdC ["action"] [])
    (DI : DefF P w K mg base CX0 11 "is_row" ["value"] spGoodX)
    (FK : FnOk P w K mg base (L2.CX P w) 9 fK fdK ["row"] (spControlX CB)) (mK : mg "control_of" = some (.ref fK)) (kK : PySem.W.keepIn K (.ref fK) = true) (bK : Binds K fdK ["row"] [])
    (FO : FnOk P w K mg base (L2.CX P w) 9 fO fdO ["row"] (spOpenX CB)) (mO2 : mg "open_of" = some (.ref fO)) (kO : PySem.W.keepIn K (.ref fO) = true) (bO : Binds K fdO ["row"] [])
    (FF : FnOk P w K mg base (L2.CX P w) 9 fF fdF ["row", "face"] (spFitsX CB CF)) (mF : mg "fits" = some (.ref fF)) (kF : PySem.W.keepIn K (.ref fF) = true) (bF : Binds K fdF ["row", "face"] []) :
    FnOk P w K mg base CX0 12 f (PySem.W.fnOf "_law_bound_holds" "_law_bound_holds" (defArgs s__law_bound_holds) (defBody s__law_bound_holds) (defScope s__law_bound_holds) .none kV doc pm an (.ref c0) ct) ["number"] (spBound Ts) := by
  obtain ⟨oC, oD, kVC, docC, pmC, anC, cdC, ctC, oslC, rfl, lkC, cgC⟩ := FC.ex
  refine fn_of lk hcd sc__law_bound_holds (fun vs H Q E h => ?_) fun A outer s H vs Q E hr h => ?_
  · obtain ⟨n, rfl, _⟩ := h
    rfl
  obtain ⟨n, rfl, hn, hTb, k⟩ := h
  have nd := sc__law_bound_holds.nd
  refine (fun (main : ∃ t, PSs (cxOf CX0 P w K mg base nBh "_law_bound_holds" (defScope s__law_bound_holds) f (.ref c0) A outer s H E).nox (defBody s__law_bound_holds) t ∧
      t { nx := fun _ H' => Q .non H', rt := Q } (L2.start nBh [.int n]) H) => (by obtain ⟨t, h1, h2⟩ := main; exact ⟨t, h1.nox, h2⟩)) ?_
  refine ⟨_, pss_cons (ps_set (i := 1) nd rfl (Or.inl rfl) (pe_op op_cat (pe_lst (pa_cons (pe_tup (pa_cons pe_str (pa_cons (pv 0) pa_nil))) pa_nil)) (pe_lc (own := [("at", 9)]) (g := gName 9) (tt := tYes) rfl nd (pi_range1 rfl T.nRange (pa_cons pe_int pa_nil)) (blkOk_by (own := [("at", 9)]) (N := nBh) (sc := defScope s__law_bound_holds) (by decide +kernel)) (fun _ _ _ _ _ => (pg_name (i := 9) nd rfl (Or.inl rfl))) (fun _ _ _ _ _ => pts_nil) (fun _ _ _ _ _ => (pe_tup (pa_cons pe_str (pa_cons (pe_op op_mod (pv 9) pe_int) (pa_cons (pe_op op_sub pe_int (pe_op op_mod (pv 9) pe_int)) (pa_cons (pe_op op_mod (pv 9) pe_int) (pa_cons (pv 0) pa_nil))))))))))
      (pss_cons (ps_par (i := 2) (j := 3) (by rfl) nd rfl rfl (by decide) rfl rfl (pa_cons (pe_op op_cat (pv 1) (pe_lst (pa_cons (pe_tup (pa_cons pe_str (pa_cons pe_int (pa_cons pe_int (pa_cons pe_int (pa_cons (pv 0) pa_nil)))))) pa_nil))) (pa_cons (pe_tupRg (by rfl) rfl T.nTuple (prg_1 rfl T.nRange pe_int)) pa_nil)) (by rfl))
      (pss_cons (ps_if (PW.pt (pw_or (pt_cmpR op_isnot_bl (pe_cD DI hr rfl pass0 (pa_cons (pv 1) pa_nil)) pe_bl (nomark _)) (pw_or (pt_cmpR op_isnot_bl (pe_cD DI hr rfl pass0 (pa_cons (pv 2) pa_nil)) pe_bl (nomark _)) (pw_or (pt_cmpR op_ne (pe_call FK (hr.mono (by decide)) rfl mK kK bK .nil passL (pa_cons (pv 1) pa_nil)) pe_int (nomark _)) (pw_or1 (pt_cmpR op_notN (pe_call FK (hr.mono (by decide)) rfl mK kK bK .nil passL (pa_cons (pv 2) pa_nil)) pe_non (nomark _))))))) (pss_one (ps_ret pe_bl)) pss_nil)
      (pss_cons (ps_if (PW.pt (pw_or (pt_cmpR (op_neD hr.units) (pe_call FO (hr.mono (by decide)) rfl mO2 kO bO .nil passL (pa_cons (pv 2) pa_nil)) (pe_lc (own := [("at", 9)]) (g := gName 9) (tt := tYes) rfl nd (pi_range1 rfl T.nRange (pa_cons pe_int pa_nil)) (blkOk_by (own := [("at", 9)]) (N := nBh) (sc := defScope s__law_bound_holds) (by decide +kernel)) (fun _ _ _ _ _ => (pg_name (i := 9) nd rfl (Or.inl rfl))) (fun _ _ _ _ _ => pts_nil) (fun _ _ _ _ _ => (pe_tup (pa_cons (pe_op op_mod (pv 9) pe_int) (pa_cons (pe_op op_sub pe_int (pe_op op_mod (pv 9) pe_int)) pa_nil))))) (nomark _)) (pw_or1 (pt_cmpR op_isnot_bl (pe_cD DI hr rfl pass0 (pa_cons (pe_op op_cat (pv 2) (pe_slice sl_list (pv 2) (po_some (pe_un un_neg pe_int)) po_none)) pa_nil)) pe_bl (nomark _))))) (pss_one (ps_ret pe_bl)) pss_nil)
      (pss_cons (ps_for PassesOwn.never rfl (pi_list (pe_lst (pa_cons (pe_op op_cat (pv 1) (pe_lst (pa_cons (pe_tup (pa_cons pe_str (pa_cons pe_int (pa_cons pe_int (pa_cons pe_int (pa_cons (pv 0) pa_nil)))))) pa_nil))) (pa_cons (pe_op op_cat (pe_slice sl_list (pv 1) po_none (po_some (pe_un un_neg pe_int))) (pe_lst (pa_cons (pe_tup (pa_cons pe_str (pa_cons pe_int (pa_cons pe_int (pa_cons pe_int (pa_cons (pv 0) pa_nil)))))) pa_nil))) pa_nil)))) (pg_name (i := 4) nd rfl (Or.inr rfl))
        (pss_one (ps_if (PW.pt (pw_or (pt_cmpR op_isnot_bl (pe_cD DI hr rfl pass0 (pa_cons (pv 4) pa_nil)) pe_bl (nomark _)) (pw_or1 (pt_not (pt_val (pe_callB (call_isJA XB) (by rfl) T.nIsi (by decide +kernel) (pa_cons (LamX.pe_lamcall (k := 9) (params := _) (t := fun E => _) rfl mC FC.kp lkC cgC bC sc__law_caught rfl (Or.inl rfl) (caught_givesJ gO) TB rfl hT hu hr
        (LamX.lamS_by (by show LamX.lamSB (defScope s__law_bound_holds) _ = true; decide +kernel)) rfl (fun _ _ _ _ _ => rfl)
        (fun A outer s H E f c' hr2 => (pe_callS FO hr2 rfl mO2 kO bO (fun σ => L2.passAt (takes_of rfl rfl rfl rfl) σ) (pa_cons (pv 4) pa_nil)))) (pa_cons (pe_glob (v := .ref CB) rfl EB.g rfl) pa_nil)))))))) (pss_one (ps_ret pe_bl)) pss_nil)))
      (pss_cons (ps_set (i := 5) nd rfl (Or.inl rfl) (pe_tup (pa_cons (pe_callTy call_tuple_of (by rfl) T.nTuple (by decide +kernel) (pa_cons (pe_lc (own := [("door", 10)]) (g := gName 10) (tt := tYes) rfl nd (pi_tup (pv 3)) (blkOk_by (own := [("door", 10)]) (N := nBh) (sc := defScope s__law_bound_holds) (by decide +kernel)) (fun _ _ _ _ _ => (pg_name (i := 10) nd rfl (Or.inl rfl))) (fun _ _ _ _ _ => pts_nil) (fun _ _ _ _ _ => (pe_tup (pa_cons pe_int (pa_cons (pv 10) pa_nil))))) pa_nil)) (pa_cons (pe_callTy call_tuple_of (by rfl) T.nTuple (by decide +kernel) (pa_cons (pe_lc (own := [("door", 10)]) (g := gName 10) (tt := tYes) rfl nd (pi_tup (pv 3)) (blkOk_by (own := [("door", 10)]) (N := nBh) (sc := defScope s__law_bound_holds) (by decide +kernel)) (fun _ _ _ _ _ => (pg_name (i := 10) nd rfl (Or.inl rfl))) (fun _ _ _ _ _ => pts_nil) (fun _ _ _ _ _ => (pe_tup (pa_cons pe_int (pa_cons (pv 10) pa_nil))))) pa_nil)) pa_nil))))
      (pss_cons (ps_par (i := 6) (j := 7) (by rfl) nd rfl rfl (by decide) rfl rfl (pa_cons (pe_tup (pa_cons pe_int (pa_cons (pv 5) (pa_cons (pe_tup (pa_cons pe_int (pa_cons pe_int pa_nil))) pa_nil)))) (pa_cons (pe_tup (pa_cons pe_int (pa_cons (pv 5) (pa_cons (pe_tup (pa_cons pe_int (pa_cons pe_int pa_nil))) pa_nil)))) pa_nil)) (by rfl))
      (pss_cons (ps_set (i := 8) nd rfl (Or.inl rfl) (pe_op op_cat (pe_slice sl_list (pv 1) po_none (po_some (pe_un un_neg pe_int))) (pe_lst (pa_cons (pe_tup (pa_cons pe_str (pa_cons pe_int (pa_cons pe_int (pa_cons pe_int (pa_cons (pv 0) pa_nil)))))) pa_nil))))
      (pss_cons (ps_if (PW.pt (pw_or (pt_cmpR op_isnot_bl (pe_call FF (hr.mono (by decide)) rfl mF kF bF .nil passL (pa_cons (pv 1) (pa_cons (pv 6) pa_nil))) pe_bl (nomark _)) (pw_or (pt_cmpR op_isnot_bl (pe_call FF (hr.mono (by decide)) rfl mF kF bF .nil passL (pa_cons (pv 2) (pa_cons (pv 6) pa_nil))) pe_bl (nomark _)) (pw_or1 (pt_cmpR op_isnot_bl (pe_call FF (hr.mono (by decide)) rfl mF kF bF .nil passL (pa_cons (pv 8) (pa_cons (pv 6) pa_nil))) pe_bl (nomark _)))))) (pss_one (ps_ret pe_bl)) pss_nil)
      (pss_one (ps_ret (pe_and (pe_cmpR op_is_bl (pe_call FF (hr.mono (by decide)) rfl mF kF bF .nil passL (pa_cons (pv 1) (pa_cons (pv 7) pa_nil))) pe_bl (nomark _)) (pe_and (pe_cmpR op_is_bl (pe_call FF (hr.mono (by decide)) rfl mF kF bF .nil passL (pa_cons (pv 2) (pa_cons (pv 7) pa_nil))) pe_bl (nomark _)) (pe_one (pe_cmpR op_is_bl (pe_call FF (hr.mono (by decide)) rfl mF kF bF .nil passL (pa_cons (pv 8) (pa_cons (pv 7) pa_nil))) pe_bl (nomark _))))))))))))))), ?_⟩
  have s0 := Same.refl H
  refine ⟨_, rfl, (by show 2 ≤ sizeLine; decide), fun t0 nt0 => ?_⟩
  have a1 := sadd (o := .tup [.str "start", .int n]) (Same.refl H) nt0
  have ft0 : upd H t0 (.tup [.str "start", .int n]) t0 = some (.tup [.str "start", .int n]) := upd_same
  replace s0 := s0.trans a1
  replace hTb := hTb.ext a1
  generalize upd H t0 (.tup [.str "start", .int n]) = J1 at *
  refine ⟨(by show 1 ≤ sizeLine; decide), fun l0 nl0 => ?_⟩
  have a2 := sadd (o := .lst [.ref t0]) (Same.refl J1) nl0
  have fl0 : upd J1 l0 (.lst [.ref t0]) l0 = some (.lst [.ref t0]) := upd_same
  replace s0 := s0.trans a2
  replace hTb := hTb.ext a2
  replace ft0 := a2 _ _ ft0
  generalize upd J1 l0 (.lst [.ref t0]) = J2 at *
  refine ⟨60, rfl, by decide, by decide, fun D1 nD1 => ?_⟩
  refine lc_range (lo := 0) (n := 60) (fun i H' => Same J2 H' ∧ ∃ ps : List Addr, ps.length = i ∧ H' D1 = some (.lst (ps.map V.ref)) ∧ AllAt H' Crs.vs ps ((List.range i).map (cl n))) ⟨sadd (Same.refl J2) nD1, [], rfl, upd_same, .nil⟩ ?tc1 ?dc1
  case tc1 =>
    rintro i H4 hi ⟨s4, ps, lp, hD, hA⟩
    rw [Int.zero_add]
    refine ⟨rfl, ?_⟩
    unfold tYes
    refine iteT ?_
    refine ⟨_, rfl, _, _, rfl, rfl, (by show (0 : Int) < 2; decide), _, rfl, _, _, rfl, rfl, (by show (0 : Int) < 2; decide), _, _, rfl, rfl, _, rfl, _, _, rfl, rfl, (by show (0 : Int) < 6; decide), _, rfl, (by show 5 ≤ sizeLine; decide), fun t nt => ?_⟩
    have a5 := sadd (o := .tup [.str "call", .int ((i : Int) % 2), .int (1 - (i : Int) % 2), .int ((i : Int) % 6), .int n]) (Same.refl H4) nt
    have f5 : upd H4 t (.tup [.str "call", .int ((i : Int) % 2), .int (1 - (i : Int) % 2), .int ((i : Int) % 6), .int n]) t = some (.tup [.str "call", .int ((i : Int) % 2), .int (1 - (i : Int) % 2), .int ((i : Int) % 6), .int n]) := upd_same
    have hD5 := a5 _ _ hD
    have hA5 := hA.mono fun q xs e => a5 _ _ e
    generalize upd H4 t (.tup [.str "call", .int ((i : Int) % 2), .int (1 - (i : Int) % 2), .int ((i : Int) % 6), .int n]) = H5 at a5 f5 hD5 hA5 ⊢
    have kt : ∀ (o : List V) q xs, H5 q = some (.tup xs) → upd H5 D1 (.lst o) q = some (.tup xs) := fun o q xs e => (upd_ne (ne_of e hD5 (fun y => nomatch y))).trans e
    refine ⟨_, hD5, (by rw [List.length_map, lp, sizeLine_eq]; omega), sout (s4.trans a5) nD1, ps ++ [t], by rw [List.length_append, lp]; rfl, by rw [upd_same, List.map_append]; rfl, ?_⟩
    rw [List.range_succ, List.map_append]
    exact (hA5.mono (kt _)).app (kt _ _ _ f5)
  case dc1 =>
  rintro Gc1 ⟨bc1, psc1, lpc1, hc1, Ac1⟩
  replace s0 := s0.trans bc1
  replace hTb := hTb.ext bc1
  replace ft0 := bc1 _ _ ft0
  replace fl0 := bc1 _ _ fl0
  refine ⟨l0, D1, _, _, rfl, rfl, fl0, hc1, by rw [List.length_map, lpc1]; show 1 + 60 ≤ _; rw [sizeLine_eq]; decide, fun fl nfl => ?_⟩
  have a3 := sadd (o := .lst ([.ref t0] ++ psc1.map V.ref)) (Same.refl Gc1) nfl
  have ffl : upd Gc1 fl (.lst ([.ref t0] ++ psc1.map V.ref)) fl = some (.lst ([.ref t0] ++ psc1.map V.ref)) := upd_same
  replace s0 := s0.trans a3
  replace hTb := hTb.ext a3
  replace ft0 := a3 _ _ ft0
  replace fl0 := a3 _ _ fl0
  replace hc1 := a3 _ _ hc1
  replace Ac1 := Ac1.mono fun q xs e => a3 _ _ e
  generalize upd Gc1 fl (.lst ([.ref t0] ++ psc1.map V.ref)) = J3 at *
  have RA : AllAt J3 Crs.vs (t0 :: psc1) (fullk n 60) := .cons ft0 Ac1
  replace ffl : J3 fl = some (.lst ((t0 :: psc1).map V.ref)) := ffl
  have lps : (t0 :: psc1).length = 61 := by rw [List.length_cons, lpc1]
  generalize hps : t0 :: psc1 = ps at RA ffl lps
  clear hc1 Ac1 fl0 ft0
  refine ⟨_, rfl, _, rfl, (by show 5 ≤ sizeLine; decide), fun x1 nx1 => ?_⟩
  have a4 := sadd (o := .tup [.str "deep", .int 0, .int 1, .int 5, .int n]) (Same.refl J3) nx1
  have fx1 : upd J3 x1 (.tup [.str "deep", .int 0, .int 1, .int 5, .int n]) x1 = some (.tup [.str "deep", .int 0, .int 1, .int 5, .int n]) := upd_same
  replace s0 := s0.trans a4
  replace hTb := hTb.ext a4
  replace ffl := a4 _ _ ffl
  replace RA := RA.mono fun q xs e => a4 _ _ e
  generalize upd J3 x1 (.tup [.str "deep", .int 0, .int 1, .int 5, .int n]) = J4 at *
  refine ⟨(by show 1 ≤ sizeLine; decide), fun y1 ny1 => ?_⟩
  have a5 := sadd (o := .lst [.ref x1]) (Same.refl J4) ny1
  have fy1 : upd J4 y1 (.lst [.ref x1]) y1 = some (.lst [.ref x1]) := upd_same
  replace s0 := s0.trans a5
  replace hTb := hTb.ext a5
  replace ffl := a5 _ _ ffl
  replace RA := RA.mono fun q xs e => a5 _ _ e
  replace fx1 := a5 _ _ fx1
  generalize upd J4 y1 (.lst [.ref x1]) = J5 at *
  refine ⟨fl, y1, _, _, rfl, rfl, ffl, fy1, by rw [List.length_map, lps]; show 61 + 1 ≤ _; rw [sizeLine_eq]; decide, fun dl ndl => ?_⟩
  have a6 := sadd (o := .lst (ps.map V.ref ++ [.ref x1])) (Same.refl J5) ndl
  have fdl : upd J5 dl (.lst (ps.map V.ref ++ [.ref x1])) dl = some (.lst (ps.map V.ref ++ [.ref x1])) := upd_same
  replace s0 := s0.trans a6
  replace hTb := hTb.ext a6
  replace ffl := a6 _ _ ffl
  replace RA := RA.mono fun q xs e => a6 _ _ e
  replace fx1 := a6 _ _ fx1
  replace fy1 := a6 _ _ fy1
  generalize upd J5 dl (.lst (ps.map V.ref ++ [.ref x1])) = J6 at *
  have DA : AllAt J6 Crs.vs (ps ++ [x1]) (fullk n 60 ++ [.deep 0 1 5 n]) := RA.app fx1
  replace fdl : J6 dl = some (.lst ((ps ++ [x1]).map V.ref)) := by rw [fdl, List.map_append]; rfl
  refine ⟨6, rfl, by unfold RgOk; decide, fun dt ndt => ⟨_, _, rfl, ?_⟩⟩
  have erg : rgV 0 6 = (List.range 6).map fun d : Nat => V.int (d : Int) := rfl
  rw [erg]
  have a7 := sadd (o := .tup ((List.range 6).map fun d : Nat => V.int (d : Int))) (Same.refl J6) ndt
  have fdt : upd J6 dt (.tup ((List.range 6).map fun d : Nat => V.int (d : Int))) dt = some (.tup ((List.range 6).map fun d : Nat => V.int (d : Int))) := upd_same
  replace s0 := s0.trans a7
  replace hTb := hTb.ext a7
  replace ffl := a7 _ _ ffl
  replace RA := RA.mono fun q xs e => a7 _ _ e
  replace fx1 := a7 _ _ fx1
  replace fy1 := a7 _ _ fy1
  replace fdl := a7 _ _ fdl
  replace DA := DA.mono fun q xs e => a7 _ _ e
  generalize upd J6 dt (.tup ((List.range 6).map fun d : Nat => V.int (d : Int))) = J7 at *
  have rt : ∀ {Hx : Hp} {l : Addr} {qs : List Addr} {cs : List Crs}, Hx l = some (.lst (qs.map V.ref)) → AllAt Hx Crs.vs qs cs → cs.length ≤ 1000 → RtAt (fun _ => True) Hx (.ref l) (.seq (cs.map Crs.ci)) := fun {Hx l qs cs} h1 h2 h3 => RwX.rt ⟨qs, .inl h1, h2⟩ trivial h3
  have lf : (fullk n 60).length ≤ 1000 := by rw [fullk_len]; decide
  have ld : (fullk n 60 ++ [Crs.deep 0 1 5 n]).length ≤ 1000 := by rw [List.length_append, fullk_len]; show 61 + 1 ≤ 1000; decide
  refine ⟨_, rfl, fun _ => True, .ref fl, _, rfl, rt ffl RA lf, fun M1 sm1 => ?_⟩
  rw [goodRt_map, good_full hn]
  replace s0 := s0.trans sm1
  replace hTb := hTb.ext sm1
  replace ffl := sm1 _ _ ffl
  replace RA := RA.mono fun q xs e => sm1 _ _ e
  replace fx1 := sm1 _ _ fx1
  replace fy1 := sm1 _ _ fy1
  replace fdl := sm1 _ _ fdl
  replace DA := DA.mono fun q xs e => sm1 _ _ e
  replace fdt := sm1 _ _ fdt
  refine ⟨_, _, rfl, rfl, _, rfl, iteF ?_⟩
  refine ⟨_, rfl, fun _ => True, .ref dl, _, rfl, rt fdl DA ld, fun M2 sm2 => ?_⟩
  rw [goodRt_map, good_deep hn]
  replace s0 := s0.trans sm2
  replace hTb := hTb.ext sm2
  replace ffl := sm2 _ _ ffl
  replace RA := RA.mono fun q xs e => sm2 _ _ e
  replace fx1 := sm2 _ _ fx1
  replace fy1 := sm2 _ _ fy1
  replace fdl := sm2 _ _ fdl
  replace DA := DA.mono fun q xs e => sm2 _ _ e
  replace fdt := sm2 _ _ fdt
  refine ⟨_, _, rfl, rfl, _, rfl, iteF ?_⟩
  refine ⟨_, rfl, fun _ => True, .ref fl, _, rfl, rt ffl RA lf, fun cs' e1 g1 M3 sm3 => ?_, fun h1 => absurd h1 (by rw [goodRt_map, good_full hn]; decide)⟩
  obtain rfl := ci_inj e1
  replace s0 := s0.trans sm3
  replace hTb := hTb.ext sm3
  replace ffl := sm3 _ _ ffl
  replace RA := RA.mono fun q xs e => sm3 _ _ e
  replace fx1 := sm3 _ _ fx1
  replace fy1 := sm3 _ _ fy1
  replace fdl := sm3 _ _ fdl
  replace DA := DA.mono fun q xs e => sm3 _ _ e
  replace fdt := sm3 _ _ fdt
  rw [(ctl_full hn).1, if_neg Bool.false_ne_true, (ctl_full hn).2]
  refine ⟨rfl, _, rfl, iteF ?_⟩
  refine ⟨_, rfl, fun _ => True, .ref dl, _, rfl, rt fdl DA ld, fun cs' e1 g1 M4 sm4 => ?_, fun h1 => absurd h1 (by rw [goodRt_map, good_deep hn]; decide)⟩
  obtain rfl := ci_inj e1
  replace s0 := s0.trans sm4
  replace hTb := hTb.ext sm4
  replace ffl := sm4 _ _ ffl
  replace RA := RA.mono fun q xs e => sm4 _ _ e
  replace fx1 := sm4 _ _ fx1
  replace fy1 := sm4 _ _ fy1
  replace fdl := sm4 _ _ fdl
  replace DA := DA.mono fun q xs e => sm4 _ _ e
  replace fdt := sm4 _ _ fdt
  rw [(ctl_deep hn).1, if_pos rfl]
  refine ⟨rfl, _, rfl, iteF ?_⟩
  refine ⟨_, rfl, fun _ => True, .ref dl, _, rfl, rt fdl DA ld, fun cs' e1 g1 al qs5 M5 sm5 nal hal5 hak5 => ?_, fun h1 => absurd h1 (by rw [goodRt_map, good_deep hn]; decide)⟩
  obtain rfl := ci_inj e1
  rw [(ctl_deep hn).2] at hak5
  replace s0 := s0.trans sm5
  replace hTb := hTb.ext sm5
  replace ffl := sm5 _ _ ffl
  replace RA := RA.mono fun q xs e => sm5 _ _ e
  replace fx1 := sm5 _ _ fx1
  replace fy1 := sm5 _ _ fy1
  replace fdl := sm5 _ _ fdl
  replace DA := DA.mono fun q xs e => sm5 _ _ e
  replace fdt := sm5 _ _ fdt
  refine ⟨60, rfl, by decide, by decide, fun D2 nD2 => ?_⟩
  refine lc_range (lo := 0) (n := 60) (fun i H' => Same M5 H' ∧ ∃ ps : List Addr, ps.length = i ∧ H' D2 = some (.lst (ps.map V.ref)) ∧ AllAt H' pairV ps ((List.range i).map pr)) ⟨sadd (Same.refl M5) nD2, [], rfl, upd_same, .nil⟩ ?tc2 ?dc2
  case tc2 =>
    rintro i H4 hi ⟨s4, ps, lp, hD, hA⟩
    rw [Int.zero_add]
    refine ⟨rfl, ?_⟩
    unfold tYes
    refine iteT ?_
    refine ⟨_, rfl, _, _, rfl, rfl, (by show (0 : Int) < 2; decide), _, rfl, _, _, rfl, rfl, (by show (0 : Int) < 2; decide), _, _, rfl, rfl, (by show 2 ≤ sizeLine; decide), fun t nt => ?_⟩
    have a5 := sadd (o := .tup [.int ((i : Int) % 2), .int (1 - (i : Int) % 2)]) (Same.refl H4) nt
    have f5 : upd H4 t (.tup [.int ((i : Int) % 2), .int (1 - (i : Int) % 2)]) t = some (.tup [.int ((i : Int) % 2), .int (1 - (i : Int) % 2)]) := upd_same
    have hD5 := a5 _ _ hD
    have hA5 := hA.mono fun q xs e => a5 _ _ e
    generalize upd H4 t (.tup [.int ((i : Int) % 2), .int (1 - (i : Int) % 2)]) = H5 at a5 f5 hD5 hA5 ⊢
    have kt : ∀ (o : List V) q xs, H5 q = some (.tup xs) → upd H5 D2 (.lst o) q = some (.tup xs) := fun o q xs e => (upd_ne (ne_of e hD5 (fun y => nomatch y))).trans e
    refine ⟨_, hD5, (by rw [List.length_map, lp, sizeLine_eq]; omega), sout (s4.trans a5) nD2, ps ++ [t], by rw [List.length_append, lp]; rfl, by rw [upd_same, List.map_append]; rfl, ?_⟩
    rw [List.range_succ, List.map_append]
    exact (hA5.mono (kt _)).app (kt _ _ _ f5)
  case dc2 =>
  rintro Gc2 ⟨bc2, psc2, lpc2, hc2, Ac2⟩
  replace s0 := s0.trans bc2
  replace hTb := hTb.ext bc2
  replace ffl := bc2 _ _ ffl
  replace RA := RA.mono fun q xs e => bc2 _ _ e
  replace fx1 := bc2 _ _ fx1
  replace fy1 := bc2 _ _ fy1
  replace fdl := bc2 _ _ fdl
  replace DA := DA.mono fun q xs e => bc2 _ _ e
  replace fdt := bc2 _ _ fdt
  replace hal5 := bc2 _ _ hal5
  replace hak5 := hak5.mono fun q xs e => bc2 _ _ e
  refine ⟨.list (((List.range 60).map pr).map pairD), .list (((List.range 60).map pr).map pairD), .lst (SqL.of hal5) hak5.dpp, .lst (SqL.of hc2) Ac2.dpp, shaped_pairs _, shaped_pairs _, _, rfl, ?_⟩
  rw [eqv_sh (shaped_pairs _)]
  refine iteF ?_
  clear hc2 Ac2 hal5 hak5
  refine ⟨_, rfl, _, rfl, _, rfl, _, rfl, dl, _, rfl, SqL.of fdl, fun q1 nq1 => ?_⟩
  rw [show cutV ((ps ++ [x1]).map V.ref) (some (-1)) none = [.ref x1] by rw [List.map_append]; exact cutV_last1 _ _]
  have a8 := sadd (o := .lst [.ref x1]) (Same.refl Gc2) nq1
  have fq1 : upd Gc2 q1 (.lst [.ref x1]) q1 = some (.lst [.ref x1]) := upd_same
  replace s0 := s0.trans a8
  replace hTb := hTb.ext a8
  replace ffl := a8 _ _ ffl
  replace RA := RA.mono fun q xs e => a8 _ _ e
  replace fx1 := a8 _ _ fx1
  replace fy1 := a8 _ _ fy1
  replace fdl := a8 _ _ fdl
  replace DA := DA.mono fun q xs e => a8 _ _ e
  replace fdt := a8 _ _ fdt
  generalize upd Gc2 q1 (.lst [.ref x1]) = J8 at *
  refine ⟨dl, q1, _, _, rfl, rfl, fdl, fq1, by rw [List.length_map, List.length_append, lps]; show 61 + 1 + 1 ≤ _; rw [sizeLine_eq]; decide, fun q2 nq2 => ?_⟩
  have a9 := sadd (o := .lst ((ps ++ [x1]).map V.ref ++ [.ref x1])) (Same.refl J8) nq2
  have fq2 : upd J8 q2 (.lst ((ps ++ [x1]).map V.ref ++ [.ref x1])) q2 = some (.lst ((ps ++ [x1]).map V.ref ++ [.ref x1])) := upd_same
  replace s0 := s0.trans a9
  replace hTb := hTb.ext a9
  replace ffl := a9 _ _ ffl
  replace RA := RA.mono fun q xs e => a9 _ _ e
  replace fx1 := a9 _ _ fx1
  replace fy1 := a9 _ _ fy1
  replace fdl := a9 _ _ fdl
  replace DA := DA.mono fun q xs e => a9 _ _ e
  replace fdt := a9 _ _ fdt
  replace fq1 := a9 _ _ fq1
  generalize upd J8 q2 (.lst ((ps ++ [x1]).map V.ref ++ [.ref x1])) = J9 at *
  have DA2 : AllAt J9 Crs.vs ((ps ++ [x1]) ++ [x1]) ((fullk n 60 ++ [.deep 0 1 5 n]) ++ [.deep 0 1 5 n]) := DA.app fx1
  have fq2' : J9 q2 = some (.lst (((ps ++ [x1]) ++ [x1]).map V.ref)) := by rw [fq2]; simp only [List.map_append, List.map_cons, List.map_nil]
  refine ⟨fun _ => True, .ref q2, _, rfl, rt fq2' DA2 (by rw [List.length_append, List.length_append, fullk_len]; show 61 + 1 + 1 ≤ 1000; decide), fun M6 sm6 => ?_⟩
  rw [goodRt_map, List.append_assoc, show ([Crs.deep 0 1 5 n] ++ [Crs.deep 0 1 5 n]) = [.deep 0 1 5 n, .deep 0 1 5 n] from rfl, good_deep2 hn]
  replace s0 := s0.trans sm6
  replace hTb := hTb.ext sm6
  replace ffl := sm6 _ _ ffl
  replace RA := RA.mono fun q xs e => sm6 _ _ e
  replace fx1 := sm6 _ _ fx1
  replace fy1 := sm6 _ _ fy1
  replace fdl := sm6 _ _ fdl
  replace DA := DA.mono fun q xs e => sm6 _ _ e
  replace fdt := sm6 _ _ fdt
  replace fq1 := sm6 _ _ fq1
  replace fq2 := sm6 _ _ fq2
  refine ⟨_, _, rfl, rfl, _, rfl, iteF ?_⟩
  clear fq2' DA2 fq1 fq2
  refine ⟨_, rfl, _, rfl, (by show 5 ≤ sizeLine; decide), fun x2 nx2 => ?_⟩
  have a10 := sadd (o := .tup [.str "call", .int 0, .int 1, .int 5, .int n]) (Same.refl M6) nx2
  have fx2 : upd M6 x2 (.tup [.str "call", .int 0, .int 1, .int 5, .int n]) x2 = some (.tup [.str "call", .int 0, .int 1, .int 5, .int n]) := upd_same
  replace s0 := s0.trans a10
  replace hTb := hTb.ext a10
  replace ffl := a10 _ _ ffl
  replace RA := RA.mono fun q xs e => a10 _ _ e
  replace fx1 := a10 _ _ fx1
  replace fy1 := a10 _ _ fy1
  replace fdl := a10 _ _ fdl
  replace DA := DA.mono fun q xs e => a10 _ _ e
  replace fdt := a10 _ _ fdt
  generalize upd M6 x2 (.tup [.str "call", .int 0, .int 1, .int 5, .int n]) = J10 at *
  refine ⟨(by show 1 ≤ sizeLine; decide), fun y2 ny2 => ?_⟩
  have a11 := sadd (o := .lst [.ref x2]) (Same.refl J10) ny2
  have fy2 : upd J10 y2 (.lst [.ref x2]) y2 = some (.lst [.ref x2]) := upd_same
  replace s0 := s0.trans a11
  replace hTb := hTb.ext a11
  replace ffl := a11 _ _ ffl
  replace RA := RA.mono fun q xs e => a11 _ _ e
  replace fx1 := a11 _ _ fx1
  replace fy1 := a11 _ _ fy1
  replace fdl := a11 _ _ fdl
  replace DA := DA.mono fun q xs e => a11 _ _ e
  replace fdt := a11 _ _ fdt
  replace fx2 := a11 _ _ fx2
  generalize upd J10 y2 (.lst [.ref x2]) = J11 at *
  refine ⟨fl, y2, _, _, rfl, rfl, ffl, fy2, by rw [List.length_map, lps]; show 61 + 1 ≤ _; rw [sizeLine_eq]; decide, fun o1 no1 => ?_⟩
  have a12 := sadd (o := .lst (ps.map V.ref ++ [.ref x2])) (Same.refl J11) no1
  have fo1 : upd J11 o1 (.lst (ps.map V.ref ++ [.ref x2])) o1 = some (.lst (ps.map V.ref ++ [.ref x2])) := upd_same
  replace s0 := s0.trans a12
  replace hTb := hTb.ext a12
  replace ffl := a12 _ _ ffl
  replace RA := RA.mono fun q xs e => a12 _ _ e
  replace fx1 := a12 _ _ fx1
  replace fy1 := a12 _ _ fy1
  replace fdl := a12 _ _ fdl
  replace DA := DA.mono fun q xs e => a12 _ _ e
  replace fdt := a12 _ _ fdt
  replace fx2 := a12 _ _ fx2
  replace fy2 := a12 _ _ fy2
  generalize upd J11 o1 (.lst (ps.map V.ref ++ [.ref x2])) = J12 at *
  refine ⟨_, rfl, _, rfl, _, rfl, fl, _, rfl, SqL.of ffl, fun k1 nk1 => ?_⟩
  rw [cutV_pop, ← List.map_dropLast]
  have a13 := sadd (o := .lst (ps.dropLast.map V.ref)) (Same.refl J12) nk1
  have fk1 : upd J12 k1 (.lst (ps.dropLast.map V.ref)) k1 = some (.lst (ps.dropLast.map V.ref)) := upd_same
  replace s0 := s0.trans a13
  replace hTb := hTb.ext a13
  replace ffl := a13 _ _ ffl
  replace RA := RA.mono fun q xs e => a13 _ _ e
  replace fx1 := a13 _ _ fx1
  replace fy1 := a13 _ _ fy1
  replace fdl := a13 _ _ fdl
  replace DA := DA.mono fun q xs e => a13 _ _ e
  replace fdt := a13 _ _ fdt
  replace fx2 := a13 _ _ fx2
  replace fy2 := a13 _ _ fy2
  replace fo1 := a13 _ _ fo1
  generalize upd J12 k1 (.lst (ps.dropLast.map V.ref)) = J13 at *
  refine ⟨_, rfl, (by show 5 ≤ sizeLine; decide), fun x3 nx3 => ?_⟩
  have a14 := sadd (o := .tup [.str "call", .int 0, .int 1, .int 5, .int n]) (Same.refl J13) nx3
  have fx3 : upd J13 x3 (.tup [.str "call", .int 0, .int 1, .int 5, .int n]) x3 = some (.tup [.str "call", .int 0, .int 1, .int 5, .int n]) := upd_same
  replace s0 := s0.trans a14
  replace hTb := hTb.ext a14
  replace ffl := a14 _ _ ffl
  replace RA := RA.mono fun q xs e => a14 _ _ e
  replace fx1 := a14 _ _ fx1
  replace fy1 := a14 _ _ fy1
  replace fdl := a14 _ _ fdl
  replace DA := DA.mono fun q xs e => a14 _ _ e
  replace fdt := a14 _ _ fdt
  replace fx2 := a14 _ _ fx2
  replace fy2 := a14 _ _ fy2
  replace fo1 := a14 _ _ fo1
  replace fk1 := a14 _ _ fk1
  generalize upd J13 x3 (.tup [.str "call", .int 0, .int 1, .int 5, .int n]) = J14 at *
  refine ⟨(by show 1 ≤ sizeLine; decide), fun y3 ny3 => ?_⟩
  have a15 := sadd (o := .lst [.ref x3]) (Same.refl J14) ny3
  have fy3 : upd J14 y3 (.lst [.ref x3]) y3 = some (.lst [.ref x3]) := upd_same
  replace s0 := s0.trans a15
  replace hTb := hTb.ext a15
  replace ffl := a15 _ _ ffl
  replace RA := RA.mono fun q xs e => a15 _ _ e
  replace fx1 := a15 _ _ fx1
  replace fy1 := a15 _ _ fy1
  replace fdl := a15 _ _ fdl
  replace DA := DA.mono fun q xs e => a15 _ _ e
  replace fdt := a15 _ _ fdt
  replace fx2 := a15 _ _ fx2
  replace fy2 := a15 _ _ fy2
  replace fo1 := a15 _ _ fo1
  replace fk1 := a15 _ _ fk1
  replace fx3 := a15 _ _ fx3
  generalize upd J14 y3 (.lst [.ref x3]) = J15 at *
  refine ⟨k1, y3, _, _, rfl, rfl, fk1, fy3, by rw [List.length_map, List.length_dropLast, lps]; show 60 + 1 ≤ _; rw [sizeLine_eq]; decide, fun o2 no2 => ?_⟩
  have a16 := sadd (o := .lst (ps.dropLast.map V.ref ++ [.ref x3])) (Same.refl J15) no2
  have fo2 : upd J15 o2 (.lst (ps.dropLast.map V.ref ++ [.ref x3])) o2 = some (.lst (ps.dropLast.map V.ref ++ [.ref x3])) := upd_same
  replace s0 := s0.trans a16
  replace hTb := hTb.ext a16
  replace ffl := a16 _ _ ffl
  replace RA := RA.mono fun q xs e => a16 _ _ e
  replace fx1 := a16 _ _ fx1
  replace fy1 := a16 _ _ fy1
  replace fdl := a16 _ _ fdl
  replace DA := DA.mono fun q xs e => a16 _ _ e
  replace fdt := a16 _ _ fdt
  replace fx2 := a16 _ _ fx2
  replace fy2 := a16 _ _ fy2
  replace fo1 := a16 _ _ fo1
  replace fk1 := a16 _ _ fk1
  replace fx3 := a16 _ _ fx3
  replace fy3 := a16 _ _ fy3
  generalize upd J15 o2 (.lst (ps.dropLast.map V.ref ++ [.ref x3])) = J16 at *
  have edl : (fullk n 60).dropLast = fullk n 59 := by rw [fullk_succ, List.dropLast_concat]
  have PA : AllAt J16 Crs.vs ps.dropLast (fullk n 59) := by rw [← edl]; exact RA.pop
  have O1 : RtAt (fun _ => True) J16 (.ref o1) (.seq ((fullk n 60 ++ [Crs.call 0 1 5 n]).map Crs.ci)) := rt (by rw [fo1, List.map_append]; rfl) (RA.app fx2) (by rw [List.length_append, fullk_len]; show 61 + 1 ≤ 1000; decide)
  have O2 : RtAt (fun _ => True) J16 (.ref o2) (.seq ((fullk n 59 ++ [Crs.call 0 1 5 n]).map Crs.ci)) := rt (by rw [fo2, List.map_append]; rfl) (PA.app fx3) (by rw [List.length_append, fullk_len]; show 60 + 1 ≤ 1000; decide)
  refine ⟨(by show 2 ≤ sizeLine; decide), fun ol nol => ?_⟩
  have a17 := sadd (o := .lst [.ref o1, .ref o2]) (Same.refl J16) nol
  have fol : upd J16 ol (.lst [.ref o1, .ref o2]) ol = some (.lst [.ref o1, .ref o2]) := upd_same
  replace s0 := s0.trans a17
  replace hTb := hTb.ext a17
  replace ffl := a17 _ _ ffl
  replace RA := RA.mono fun q xs e => a17 _ _ e
  replace fx1 := a17 _ _ fx1
  replace fy1 := a17 _ _ fy1
  replace fdl := a17 _ _ fdl
  replace DA := DA.mono fun q xs e => a17 _ _ e
  replace fdt := a17 _ _ fdt
  replace fx2 := a17 _ _ fx2
  replace fy2 := a17 _ _ fy2
  replace fo1 := a17 _ _ fo1
  replace fk1 := a17 _ _ fk1
  replace fx3 := a17 _ _ fx3
  replace fy3 := a17 _ _ fy3
  replace fo2 := a17 _ _ fo2
  replace PA := PA.mono fun q xs e => a17 _ _ e
  replace O1 := O1.same a17
  replace O2 := O2.same a17
  generalize upd J16 ol (.lst [.ref o1, .ref o2]) = J17 at *
  have OO : ∀ v ∈ [V.ref o1, V.ref o2], ∃ r, RtAt (fun _ => True) J17 v r ∧ goodRt r = false := fun v hv => by
    simp only [List.mem_cons, List.not_mem_nil, or_false] at hv
    rcases hv with rfl | rfl
    · exact ⟨_, O1, by rw [goodRt_map, good_more hn]⟩
    · exact ⟨_, O2, by rw [goodRt_map, good_wrong hn]⟩
  refine ⟨ol, rfl, ⟨_, SqL.of fol⟩, ?_⟩
  refine for_list (xs := [.ref o1, .ref o2]) (fun i σ H' => ∃ o4 : Option V, σ = [some (.int n), some (.ref fl), some (.ref dl), some (.ref dt), o4, none, none, none, none, none, none] ∧ ExtN J17 H' ∧ Tabs Ts H') ⟨none, rfl, extN_of (Same.refl _), hTb⟩ (fun i σ H' _ ⟨_, _, e, _⟩ => SqL.of (e _ _ fol (fun _ z => nomatch z))) ?tfor ?dfor
  case tfor =>
    rintro i y σ Ha hy ⟨o4, rfl, ea, Ta⟩
    obtain ⟨r, hr0, hg⟩ := OO y (List.mem_of_getElem? hy)
    have hra := hr0.ext ea
    refine ⟨_, rfl, fun _ => True, y, r, rfl, hra, fun Hb sb => ?_⟩
    rw [hg]
    refine ⟨_, _, rfl, rfl, _, rfl, iteF ?_⟩
    have hrb := hra.same sb
    refine ⟨Ta.ext sb, fun Hc ec Tc Q1 hQ1 => ⟨_, rfl, fun _ => True, y, r, rfl, hrb.ext ec, fun cs e1 e2 => absurd hg (by rw [e1, goodRt_map, e2]; decide), fun _ Hd sd => ⟨mOB, fun eb neb => ?_⟩⟩⟩
    have sx := sadd (o := ExJ (.ref CB) none eb) sd neb
    refine ⟨none, eb, .ref CB, .ref CB, true, rfl, upd_same, fun u r => r, iBB, _, rfl, iteF ?_⟩
    exact ⟨_, rfl, ((ea.trans (extN_of sb)).trans ec).trans (extN_of sx), Tc.ext sx⟩
  case dfor =>
  rintro σ G ⟨o4, rfl, eG, TG⟩
  have up : ∀ q xs, J17 q = some (.tup xs) → G q = some (.tup xs) := fun q xs e => eG _ _ e (fun _ z => nomatch z)
  have ul : ∀ q xs, J17 q = some (.lst xs) → G q = some (.lst xs) := fun q xs e => eG _ _ e (fun _ z => nomatch z)
  replace RA := RA.mono up
  replace DA := DA.mono up
  replace PA := PA.mono up
  replace ffl := ul _ _ ffl
  replace fdl := ul _ _ fdl
  replace fdt := up _ _ fdt
  clear OO O1 O2 fol fo1 fo2 fk1 fx1 fx2 fx3 fy1 fy2 fy3 up ul eG
  refine ⟨_, rfl, dt, rfl, ⟨_, SqT.of fdt⟩, fun E1 nE1 => ?_⟩
  refine lc_tup (K := K) (a := dt) (xs := (List.range 6).map fun d : Nat => V.int (d : Int)) (fun i H' => Same G H' ∧ ∃ us : List V, us.length = i ∧ H' E1 = some (.lst us) ∧ A2 (P1At (fun _ => True) H') us ((List.range i).map fun d : Nat => P1.tup [.n 1, .n (d : Int)])) ⟨sadd (Same.refl G) nE1, [], rfl, upd_same, .nil⟩ (fun i H' _ ⟨s, _⟩ => SqT.of (s _ _ fdt)) ?tw1 ?dw1
  case tw1 =>
    rintro i x H4 hx ⟨s4, us, lu, hD, hA⟩
    rw [List.getElem?_map] at hx
    obtain ⟨d, hd, rfl⟩ := Option.map_eq_some_iff.mp hx
    have hi : i < 6 := by have := (List.getElem?_eq_some_iff.mp hd).1; rwa [List.length_range] at this
    rw [List.getElem?_range hi] at hd
    cases hd
    refine ⟨rfl, ?_⟩
    unfold tYes
    refine iteT ?_
    refine ⟨_, rfl, (by show 2 ≤ sizeLine; decide), fun t nt => ?_⟩
    have a5 := sadd (o := .tup [.int 1, .int (i : Int)]) (Same.refl H4) nt
    have f5 : upd H4 t (.tup [.int 1, .int (i : Int)]) t = some (.tup [.int 1, .int (i : Int)]) := upd_same
    have hD5 := a5 _ _ hD
    have hA5 := hA.mono fun _ _ z => z.kp (KpZ.same a5)
    generalize upd H4 t (.tup [.int 1, .int (i : Int)]) = H5 at a5 f5 hD5 hA5 ⊢
    have kt : ∀ (o : List V) q xs, H5 q = some (.tup xs) → upd H5 E1 (.lst o) q = some (.tup xs) := fun o q xs e => (upd_ne (ne_of e hD5 (fun y => nomatch y))).trans e
    refine ⟨_, hD5, (by rw [lu, sizeLine_eq]; omega), sout (s4.trans a5) nE1, us ++ [.ref t], by rw [List.length_append, lu]; rfl, by rw [upd_same], ?_⟩
    rw [List.range_succ, List.map_append]
    refine A2.app (p1_put hA5 (kt _)) (.cons ⟨t, rfl, kt _ _ _ f5, by show 2 ≤ 1000; decide⟩ .nil)
  case dw1 =>
  rintro Gw1 ⟨bw1, usw1, luw1, hw1, Aw1⟩
  replace ffl := bw1 _ _ ffl
  replace fdl := bw1 _ _ fdl
  replace fdt := bw1 _ _ fdt
  replace RA := RA.mono fun q xs e => bw1 _ _ e
  replace DA := DA.mono fun q xs e => bw1 _ _ e
  replace PA := PA.mono fun q xs e => bw1 _ _ e
  refine ⟨E1, _, rfl, .inl ⟨SqL.of hw1, fun u1 nu1 => ?_⟩⟩
  have a18 := sadd (o := .tup usw1) (Same.refl Gw1) nu1
  have fu1 : upd Gw1 u1 (.tup usw1) u1 = some (.tup usw1) := upd_same
  replace ffl := a18 _ _ ffl
  replace fdl := a18 _ _ fdl
  replace fdt := a18 _ _ fdt
  replace RA := RA.mono fun q xs e => a18 _ _ e
  replace DA := DA.mono fun q xs e => a18 _ _ e
  replace PA := PA.mono fun q xs e => a18 _ _ e
  replace hw1 := a18 _ _ hw1
  replace Aw1 := Aw1.mono fun _ _ z => z.kp (KpZ.same a18)
  generalize upd Gw1 u1 (.tup usw1) = J18 at *
  refine ⟨_, rfl, dt, rfl, ⟨_, SqT.of fdt⟩, fun E2 nE2 => ?_⟩
  refine lc_tup (K := K) (a := dt) (xs := (List.range 6).map fun d : Nat => V.int (d : Int)) (fun i H' => Same J18 H' ∧ ∃ us : List V, us.length = i ∧ H' E2 = some (.lst us) ∧ A2 (P1At (fun _ => True) H') us ((List.range i).map fun d : Nat => P1.tup [.n 0, .n (d : Int)])) ⟨sadd (Same.refl J18) nE2, [], rfl, upd_same, .nil⟩ (fun i H' _ ⟨s, _⟩ => SqT.of (s _ _ fdt)) ?tw0 ?dw0
  case tw0 =>
    rintro i x H4 hx ⟨s4, us, lu, hD, hA⟩
    rw [List.getElem?_map] at hx
    obtain ⟨d, hd, rfl⟩ := Option.map_eq_some_iff.mp hx
    have hi : i < 6 := by have := (List.getElem?_eq_some_iff.mp hd).1; rwa [List.length_range] at this
    rw [List.getElem?_range hi] at hd
    cases hd
    refine ⟨rfl, ?_⟩
    unfold tYes
    refine iteT ?_
    refine ⟨_, rfl, (by show 2 ≤ sizeLine; decide), fun t nt => ?_⟩
    have a5 := sadd (o := .tup [.int 0, .int (i : Int)]) (Same.refl H4) nt
    have f5 : upd H4 t (.tup [.int 0, .int (i : Int)]) t = some (.tup [.int 0, .int (i : Int)]) := upd_same
    have hD5 := a5 _ _ hD
    have hA5 := hA.mono fun _ _ z => z.kp (KpZ.same a5)
    generalize upd H4 t (.tup [.int 0, .int (i : Int)]) = H5 at a5 f5 hD5 hA5 ⊢
    have kt : ∀ (o : List V) q xs, H5 q = some (.tup xs) → upd H5 E2 (.lst o) q = some (.tup xs) := fun o q xs e => (upd_ne (ne_of e hD5 (fun y => nomatch y))).trans e
    refine ⟨_, hD5, (by rw [lu, sizeLine_eq]; omega), sout (s4.trans a5) nE2, us ++ [.ref t], by rw [List.length_append, lu]; rfl, by rw [upd_same], ?_⟩
    rw [List.range_succ, List.map_append]
    refine A2.app (p1_put hA5 (kt _)) (.cons ⟨t, rfl, kt _ _ _ f5, by show 2 ≤ 1000; decide⟩ .nil)
  case dw0 =>
  rintro Gw0 ⟨bw0, usw0, luw0, hw0, Aw0⟩
  replace ffl := bw0 _ _ ffl
  replace fdl := bw0 _ _ fdl
  replace fdt := bw0 _ _ fdt
  replace RA := RA.mono fun q xs e => bw0 _ _ e
  replace DA := DA.mono fun q xs e => bw0 _ _ e
  replace PA := PA.mono fun q xs e => bw0 _ _ e
  replace hw1 := bw0 _ _ hw1
  replace Aw1 := Aw1.mono fun _ _ z => z.kp (KpZ.same bw0)
  replace fu1 := bw0 _ _ fu1
  refine ⟨E2, _, rfl, .inl ⟨SqL.of hw0, fun u2 nu2 => ?_⟩⟩
  have a19 := sadd (o := .tup usw0) (Same.refl Gw0) nu2
  have fu2 : upd Gw0 u2 (.tup usw0) u2 = some (.tup usw0) := upd_same
  replace ffl := a19 _ _ ffl
  replace fdl := a19 _ _ fdl
  replace fdt := a19 _ _ fdt
  replace RA := RA.mono fun q xs e => a19 _ _ e
  replace DA := DA.mono fun q xs e => a19 _ _ e
  replace PA := PA.mono fun q xs e => a19 _ _ e
  replace hw1 := a19 _ _ hw1
  replace Aw1 := Aw1.mono fun _ _ z => z.kp (KpZ.same a19)
  replace fu1 := a19 _ _ fu1
  replace hw0 := a19 _ _ hw0
  replace Aw0 := Aw0.mono fun _ _ z => z.kp (KpZ.same a19)
  generalize upd Gw0 u2 (.tup usw0) = J19 at *
  refine ⟨(by show 2 ≤ sizeLine; decide), fun wt nwt => ?_⟩
  have a20 := sadd (o := .tup [.ref u1, .ref u2]) (Same.refl J19) nwt
  have fwt : upd J19 wt (.tup [.ref u1, .ref u2]) wt = some (.tup [.ref u1, .ref u2]) := upd_same
  replace ffl := a20 _ _ ffl
  replace fdl := a20 _ _ fdl
  replace fdt := a20 _ _ fdt
  replace RA := RA.mono fun q xs e => a20 _ _ e
  replace DA := DA.mono fun q xs e => a20 _ _ e
  replace PA := PA.mono fun q xs e => a20 _ _ e
  replace hw1 := a20 _ _ hw1
  replace Aw1 := Aw1.mono fun _ _ z => z.kp (KpZ.same a20)
  replace fu1 := a20 _ _ fu1
  replace hw0 := a20 _ _ hw0
  replace Aw0 := Aw0.mono fun _ _ z => z.kp (KpZ.same a20)
  replace fu2 := a20 _ _ fu2
  generalize upd J19 wt (.tup [.ref u1, .ref u2]) = J20 at *
  refine ⟨_, rfl, (by show 2 ≤ sizeLine; decide), fun e1 ne1 => ?_⟩
  have a21 := sadd (o := .tup [.int 6, .int 6]) (Same.refl J20) ne1
  have fe1 : upd J20 e1 (.tup [.int 6, .int 6]) e1 = some (.tup [.int 6, .int 6]) := upd_same
  replace ffl := a21 _ _ ffl
  replace fdl := a21 _ _ fdl
  replace fdt := a21 _ _ fdt
  replace RA := RA.mono fun q xs e => a21 _ _ e
  replace DA := DA.mono fun q xs e => a21 _ _ e
  replace PA := PA.mono fun q xs e => a21 _ _ e
  replace hw1 := a21 _ _ hw1
  replace Aw1 := Aw1.mono fun _ _ z => z.kp (KpZ.same a21)
  replace fu1 := a21 _ _ fu1
  replace hw0 := a21 _ _ hw0
  replace Aw0 := Aw0.mono fun _ _ z => z.kp (KpZ.same a21)
  replace fu2 := a21 _ _ fu2
  replace fwt := a21 _ _ fwt
  generalize upd J20 e1 (.tup [.int 6, .int 6]) = J21 at *
  refine ⟨(by show 3 ≤ sizeLine; decide), fun p1 np1 => ?_⟩
  have a22 := sadd (o := .tup [.int 60, .ref wt, .ref e1]) (Same.refl J21) np1
  have fp1 : upd J21 p1 (.tup [.int 60, .ref wt, .ref e1]) p1 = some (.tup [.int 60, .ref wt, .ref e1]) := upd_same
  replace ffl := a22 _ _ ffl
  replace fdl := a22 _ _ fdl
  replace fdt := a22 _ _ fdt
  replace RA := RA.mono fun q xs e => a22 _ _ e
  replace DA := DA.mono fun q xs e => a22 _ _ e
  replace PA := PA.mono fun q xs e => a22 _ _ e
  replace hw1 := a22 _ _ hw1
  replace Aw1 := Aw1.mono fun _ _ z => z.kp (KpZ.same a22)
  replace fu1 := a22 _ _ fu1
  replace hw0 := a22 _ _ hw0
  replace Aw0 := Aw0.mono fun _ _ z => z.kp (KpZ.same a22)
  replace fu2 := a22 _ _ fu2
  replace fwt := a22 _ _ fwt
  replace fe1 := a22 _ _ fe1
  generalize upd J21 p1 (.tup [.int 60, .ref wt, .ref e1]) = J22 at *
  refine ⟨_, rfl, (by show 2 ≤ sizeLine; decide), fun e2 ne2 => ?_⟩
  have a23 := sadd (o := .tup [.int 6, .int 6]) (Same.refl J22) ne2
  have fe2 : upd J22 e2 (.tup [.int 6, .int 6]) e2 = some (.tup [.int 6, .int 6]) := upd_same
  replace ffl := a23 _ _ ffl
  replace fdl := a23 _ _ fdl
  replace fdt := a23 _ _ fdt
  replace RA := RA.mono fun q xs e => a23 _ _ e
  replace DA := DA.mono fun q xs e => a23 _ _ e
  replace PA := PA.mono fun q xs e => a23 _ _ e
  replace hw1 := a23 _ _ hw1
  replace Aw1 := Aw1.mono fun _ _ z => z.kp (KpZ.same a23)
  replace fu1 := a23 _ _ fu1
  replace hw0 := a23 _ _ hw0
  replace Aw0 := Aw0.mono fun _ _ z => z.kp (KpZ.same a23)
  replace fu2 := a23 _ _ fu2
  replace fwt := a23 _ _ fwt
  replace fe1 := a23 _ _ fe1
  replace fp1 := a23 _ _ fp1
  generalize upd J22 e2 (.tup [.int 6, .int 6]) = J23 at *
  refine ⟨(by show 3 ≤ sizeLine; decide), fun p2 np2 => ?_⟩
  have a24 := sadd (o := .tup [.int 59, .ref wt, .ref e2]) (Same.refl J23) np2
  have fp2 : upd J23 p2 (.tup [.int 59, .ref wt, .ref e2]) p2 = some (.tup [.int 59, .ref wt, .ref e2]) := upd_same
  replace ffl := a24 _ _ ffl
  replace fdl := a24 _ _ fdl
  replace fdt := a24 _ _ fdt
  replace RA := RA.mono fun q xs e => a24 _ _ e
  replace DA := DA.mono fun q xs e => a24 _ _ e
  replace PA := PA.mono fun q xs e => a24 _ _ e
  replace hw1 := a24 _ _ hw1
  replace Aw1 := Aw1.mono fun _ _ z => z.kp (KpZ.same a24)
  replace fu1 := a24 _ _ fu1
  replace hw0 := a24 _ _ hw0
  replace Aw0 := Aw0.mono fun _ _ z => z.kp (KpZ.same a24)
  replace fu2 := a24 _ _ fu2
  replace fwt := a24 _ _ fwt
  replace fe1 := a24 _ _ fe1
  replace fp1 := a24 _ _ fp1
  replace fe2 := a24 _ _ fe2
  generalize upd J23 p2 (.tup [.int 59, .ref wt, .ref e2]) = J24 at *
  refine ⟨_, _, rfl, ?_⟩
  refine ⟨_, rfl, _, rfl, _, rfl, fl, _, rfl, SqL.of ffl, fun k2 nk2 => ?_⟩
  rw [cutV_pop, ← List.map_dropLast]
  have a25 := sadd (o := .lst (ps.dropLast.map V.ref)) (Same.refl J24) nk2
  have fk2 : upd J24 k2 (.lst (ps.dropLast.map V.ref)) k2 = some (.lst (ps.dropLast.map V.ref)) := upd_same
  replace ffl := a25 _ _ ffl
  replace fdl := a25 _ _ fdl
  replace fdt := a25 _ _ fdt
  replace RA := RA.mono fun q xs e => a25 _ _ e
  replace DA := DA.mono fun q xs e => a25 _ _ e
  replace PA := PA.mono fun q xs e => a25 _ _ e
  replace hw1 := a25 _ _ hw1
  replace Aw1 := Aw1.mono fun _ _ z => z.kp (KpZ.same a25)
  replace fu1 := a25 _ _ fu1
  replace hw0 := a25 _ _ hw0
  replace Aw0 := Aw0.mono fun _ _ z => z.kp (KpZ.same a25)
  replace fu2 := a25 _ _ fu2
  replace fwt := a25 _ _ fwt
  replace fe1 := a25 _ _ fe1
  replace fp1 := a25 _ _ fp1
  replace fe2 := a25 _ _ fe2
  replace fp2 := a25 _ _ fp2
  generalize upd J24 k2 (.lst (ps.dropLast.map V.ref)) = J25 at *
  refine ⟨_, rfl, (by show 5 ≤ sizeLine; decide), fun x4 nx4 => ?_⟩
  have a26 := sadd (o := .tup [.str "deep", .int 1, .int 0, .int 5, .int n]) (Same.refl J25) nx4
  have fx4 : upd J25 x4 (.tup [.str "deep", .int 1, .int 0, .int 5, .int n]) x4 = some (.tup [.str "deep", .int 1, .int 0, .int 5, .int n]) := upd_same
  replace ffl := a26 _ _ ffl
  replace fdl := a26 _ _ fdl
  replace fdt := a26 _ _ fdt
  replace RA := RA.mono fun q xs e => a26 _ _ e
  replace DA := DA.mono fun q xs e => a26 _ _ e
  replace PA := PA.mono fun q xs e => a26 _ _ e
  replace hw1 := a26 _ _ hw1
  replace Aw1 := Aw1.mono fun _ _ z => z.kp (KpZ.same a26)
  replace fu1 := a26 _ _ fu1
  replace hw0 := a26 _ _ hw0
  replace Aw0 := Aw0.mono fun _ _ z => z.kp (KpZ.same a26)
  replace fu2 := a26 _ _ fu2
  replace fwt := a26 _ _ fwt
  replace fe1 := a26 _ _ fe1
  replace fp1 := a26 _ _ fp1
  replace fe2 := a26 _ _ fe2
  replace fp2 := a26 _ _ fp2
  replace fk2 := a26 _ _ fk2
  generalize upd J25 x4 (.tup [.str "deep", .int 1, .int 0, .int 5, .int n]) = J26 at *
  refine ⟨(by show 1 ≤ sizeLine; decide), fun y4 ny4 => ?_⟩
  have a27 := sadd (o := .lst [.ref x4]) (Same.refl J26) ny4
  have fy4 : upd J26 y4 (.lst [.ref x4]) y4 = some (.lst [.ref x4]) := upd_same
  replace ffl := a27 _ _ ffl
  replace fdl := a27 _ _ fdl
  replace fdt := a27 _ _ fdt
  replace RA := RA.mono fun q xs e => a27 _ _ e
  replace DA := DA.mono fun q xs e => a27 _ _ e
  replace PA := PA.mono fun q xs e => a27 _ _ e
  replace hw1 := a27 _ _ hw1
  replace Aw1 := Aw1.mono fun _ _ z => z.kp (KpZ.same a27)
  replace fu1 := a27 _ _ fu1
  replace hw0 := a27 _ _ hw0
  replace Aw0 := Aw0.mono fun _ _ z => z.kp (KpZ.same a27)
  replace fu2 := a27 _ _ fu2
  replace fwt := a27 _ _ fwt
  replace fe1 := a27 _ _ fe1
  replace fp1 := a27 _ _ fp1
  replace fe2 := a27 _ _ fe2
  replace fp2 := a27 _ _ fp2
  replace fk2 := a27 _ _ fk2
  replace fx4 := a27 _ _ fx4
  generalize upd J26 y4 (.lst [.ref x4]) = J27 at *
  refine ⟨k2, y4, _, _, rfl, rfl, fk2, fy4, by rw [List.length_map, List.length_dropLast, lps]; show 60 + 1 ≤ _; rw [sizeLine_eq]; decide, fun sl nsl => ?_⟩
  have a28 := sadd (o := .lst (ps.dropLast.map V.ref ++ [.ref x4])) (Same.refl J27) nsl
  have fsl : upd J27 sl (.lst (ps.dropLast.map V.ref ++ [.ref x4])) sl = some (.lst (ps.dropLast.map V.ref ++ [.ref x4])) := upd_same
  replace ffl := a28 _ _ ffl
  replace fdl := a28 _ _ fdl
  replace fdt := a28 _ _ fdt
  replace RA := RA.mono fun q xs e => a28 _ _ e
  replace DA := DA.mono fun q xs e => a28 _ _ e
  replace PA := PA.mono fun q xs e => a28 _ _ e
  replace hw1 := a28 _ _ hw1
  replace Aw1 := Aw1.mono fun _ _ z => z.kp (KpZ.same a28)
  replace fu1 := a28 _ _ fu1
  replace hw0 := a28 _ _ hw0
  replace Aw0 := Aw0.mono fun _ _ z => z.kp (KpZ.same a28)
  replace fu2 := a28 _ _ fu2
  replace fwt := a28 _ _ fwt
  replace fe1 := a28 _ _ fe1
  replace fp1 := a28 _ _ fp1
  replace fe2 := a28 _ _ fe2
  replace fp2 := a28 _ _ fp2
  replace fk2 := a28 _ _ fk2
  replace fx4 := a28 _ _ fx4
  replace fy4 := a28 _ _ fy4
  generalize upd J27 sl (.lst (ps.dropLast.map V.ref ++ [.ref x4])) = J28 at *
  have SA_ : AllAt J28 Crs.vs (ps.dropLast ++ [x4]) (fullk n 59 ++ [.deep 1 0 5 n]) := PA.app fx4
  replace fsl : J28 sl = some (.lst ((ps.dropLast ++ [x4]).map V.ref)) := by rw [fsl, List.map_append]; rfl
  have lsh : (fullk n 59 ++ [Crs.deep 1 0 5 n]).length ≤ 1000 := by rw [List.length_append, fullk_len]; show 60 + 1 ≤ 1000; decide
  refine ⟨_, rfl, _, rfl, fun _ => True, .ref fl, .ref p1, _, faD 60, rfl, rt ffl RA lf, (⟨p1, .ref wt, .ref e1, rfl, fp1, ⟨wt, _, rfl, fwt, .cons ⟨u1, _, rfl, fu1, Aw1, by decide⟩ (.cons ⟨u2, _, rfl, fu2, Aw0, by decide⟩ .nil), by decide⟩, ⟨e1, rfl, fe1, by decide⟩⟩ : FaAt (fun _ => True) _ (.ref p1) (faD 60)), fun h1 => absurd h1 (by rw [goodRt_map, good_full hn]; decide), fun _ h1 => absurd h1 (by rw [good_60]; decide), fun cs' e1' g1 _ Na0 sna0 => ?_⟩
  obtain rfl := ci_inj e1'
  rw [fit_full60]
  replace ffl := sna0 _ _ ffl
  replace fdl := sna0 _ _ fdl
  replace fdt := sna0 _ _ fdt
  replace RA := RA.mono fun q xs e => sna0 _ _ e
  replace DA := DA.mono fun q xs e => sna0 _ _ e
  replace PA := PA.mono fun q xs e => sna0 _ _ e
  replace hw1 := sna0 _ _ hw1
  replace Aw1 := Aw1.mono fun _ _ z => z.kp (KpZ.same sna0)
  replace fu1 := sna0 _ _ fu1
  replace hw0 := sna0 _ _ hw0
  replace Aw0 := Aw0.mono fun _ _ z => z.kp (KpZ.same sna0)
  replace fu2 := sna0 _ _ fu2
  replace fwt := sna0 _ _ fwt
  replace fe1 := sna0 _ _ fe1
  replace fp1 := sna0 _ _ fp1
  replace fe2 := sna0 _ _ fe2
  replace fp2 := sna0 _ _ fp2
  replace fk2 := sna0 _ _ fk2
  replace fx4 := sna0 _ _ fx4
  replace fy4 := sna0 _ _ fy4
  replace fsl := sna0 _ _ fsl
  replace SA_ := SA_.mono fun q xs e => sna0 _ _ e
  refine ⟨_, _, rfl, rfl, _, rfl, iteF ?_⟩
  refine ⟨_, rfl, _, rfl, fun _ => True, .ref dl, .ref p1, _, faD 60, rfl, rt fdl DA ld, (⟨p1, .ref wt, .ref e1, rfl, fp1, ⟨wt, _, rfl, fwt, .cons ⟨u1, _, rfl, fu1, Aw1, by decide⟩ (.cons ⟨u2, _, rfl, fu2, Aw0, by decide⟩ .nil), by decide⟩, ⟨e1, rfl, fe1, by decide⟩⟩ : FaAt (fun _ => True) _ (.ref p1) (faD 60)), fun h1 => absurd h1 (by rw [goodRt_map, good_deep hn]; decide), fun _ h1 => absurd h1 (by rw [good_60]; decide), fun cs' e1' g1 _ Na1 sna1 => ?_⟩
  obtain rfl := ci_inj e1'
  rw [fit_deep60]
  replace ffl := sna1 _ _ ffl
  replace fdl := sna1 _ _ fdl
  replace fdt := sna1 _ _ fdt
  replace RA := RA.mono fun q xs e => sna1 _ _ e
  replace DA := DA.mono fun q xs e => sna1 _ _ e
  replace PA := PA.mono fun q xs e => sna1 _ _ e
  replace hw1 := sna1 _ _ hw1
  replace Aw1 := Aw1.mono fun _ _ z => z.kp (KpZ.same sna1)
  replace fu1 := sna1 _ _ fu1
  replace hw0 := sna1 _ _ hw0
  replace Aw0 := Aw0.mono fun _ _ z => z.kp (KpZ.same sna1)
  replace fu2 := sna1 _ _ fu2
  replace fwt := sna1 _ _ fwt
  replace fe1 := sna1 _ _ fe1
  replace fp1 := sna1 _ _ fp1
  replace fe2 := sna1 _ _ fe2
  replace fp2 := sna1 _ _ fp2
  replace fk2 := sna1 _ _ fk2
  replace fx4 := sna1 _ _ fx4
  replace fy4 := sna1 _ _ fy4
  replace fsl := sna1 _ _ fsl
  replace SA_ := SA_.mono fun q xs e => sna1 _ _ e
  refine ⟨_, _, rfl, rfl, _, rfl, iteF ?_⟩
  refine ⟨_, rfl, _, rfl, fun _ => True, .ref sl, .ref p1, _, faD 60, rfl, rt fsl SA_ lsh, (⟨p1, .ref wt, .ref e1, rfl, fp1, ⟨wt, _, rfl, fwt, .cons ⟨u1, _, rfl, fu1, Aw1, by decide⟩ (.cons ⟨u2, _, rfl, fu2, Aw0, by decide⟩ .nil), by decide⟩, ⟨e1, rfl, fe1, by decide⟩⟩ : FaAt (fun _ => True) _ (.ref p1) (faD 60)), fun h1 => absurd h1 (by rw [goodRt_map, good_short hn]; decide), fun _ h1 => absurd h1 (by rw [good_60]; decide), fun cs' e1' g1 _ Na2 sna2 => ?_⟩
  obtain rfl := ci_inj e1'
  rw [fit_short60]
  replace ffl := sna2 _ _ ffl
  replace fdl := sna2 _ _ fdl
  replace fdt := sna2 _ _ fdt
  replace RA := RA.mono fun q xs e => sna2 _ _ e
  replace DA := DA.mono fun q xs e => sna2 _ _ e
  replace PA := PA.mono fun q xs e => sna2 _ _ e
  replace hw1 := sna2 _ _ hw1
  replace Aw1 := Aw1.mono fun _ _ z => z.kp (KpZ.same sna2)
  replace fu1 := sna2 _ _ fu1
  replace hw0 := sna2 _ _ hw0
  replace Aw0 := Aw0.mono fun _ _ z => z.kp (KpZ.same sna2)
  replace fu2 := sna2 _ _ fu2
  replace fwt := sna2 _ _ fwt
  replace fe1 := sna2 _ _ fe1
  replace fp1 := sna2 _ _ fp1
  replace fe2 := sna2 _ _ fe2
  replace fp2 := sna2 _ _ fp2
  replace fk2 := sna2 _ _ fk2
  replace fx4 := sna2 _ _ fx4
  replace fy4 := sna2 _ _ fy4
  replace fsl := sna2 _ _ fsl
  replace SA_ := SA_.mono fun q xs e => sna2 _ _ e
  refine ⟨_, _, rfl, rfl, _, rfl, iteF ?_⟩
  refine ⟨_, rfl, _, rfl, fun _ => True, .ref fl, .ref p2, _, faD 59, rfl, rt ffl RA lf, (⟨p2, .ref wt, .ref e2, rfl, fp2, ⟨wt, _, rfl, fwt, .cons ⟨u1, _, rfl, fu1, Aw1, by decide⟩ (.cons ⟨u2, _, rfl, fu2, Aw0, by decide⟩ .nil), by decide⟩, ⟨e2, rfl, fe2, by decide⟩⟩ : FaAt (fun _ => True) _ (.ref p2) (faD 59)), fun h1 => absurd h1 (by rw [goodRt_map, good_full hn]; decide), fun _ h1 => absurd h1 (by rw [good_59]; decide), fun cs' e1' g1 _ Nb0 snb0 => ?_⟩
  obtain rfl := ci_inj e1'
  rw [(show fitGo (faF (faD 59)) 0 (fullk n 60) = false by have := fit_over59 n []; rwa [List.append_nil] at this)]
  replace ffl := snb0 _ _ ffl
  replace fdl := snb0 _ _ fdl
  replace fdt := snb0 _ _ fdt
  replace RA := RA.mono fun q xs e => snb0 _ _ e
  replace DA := DA.mono fun q xs e => snb0 _ _ e
  replace PA := PA.mono fun q xs e => snb0 _ _ e
  replace hw1 := snb0 _ _ hw1
  replace Aw1 := Aw1.mono fun _ _ z => z.kp (KpZ.same snb0)
  replace fu1 := snb0 _ _ fu1
  replace hw0 := snb0 _ _ hw0
  replace Aw0 := Aw0.mono fun _ _ z => z.kp (KpZ.same snb0)
  replace fu2 := snb0 _ _ fu2
  replace fwt := snb0 _ _ fwt
  replace fe1 := snb0 _ _ fe1
  replace fp1 := snb0 _ _ fp1
  replace fe2 := snb0 _ _ fe2
  replace fp2 := snb0 _ _ fp2
  replace fk2 := snb0 _ _ fk2
  replace fx4 := snb0 _ _ fx4
  replace fy4 := snb0 _ _ fy4
  replace fsl := snb0 _ _ fsl
  replace SA_ := SA_.mono fun q xs e => snb0 _ _ e
  refine ⟨_, _, rfl, rfl, _, rfl, iteT ?_⟩
  refine ⟨_, rfl, _, rfl, fun _ => True, .ref dl, .ref p2, _, faD 59, rfl, rt fdl DA ld, (⟨p2, .ref wt, .ref e2, rfl, fp2, ⟨wt, _, rfl, fwt, .cons ⟨u1, _, rfl, fu1, Aw1, by decide⟩ (.cons ⟨u2, _, rfl, fu2, Aw0, by decide⟩ .nil), by decide⟩, ⟨e2, rfl, fe2, by decide⟩⟩ : FaAt (fun _ => True) _ (.ref p2) (faD 59)), fun h1 => absurd h1 (by rw [goodRt_map, good_deep hn]; decide), fun _ h1 => absurd h1 (by rw [good_59]; decide), fun cs' e1' g1 _ Nb1 snb1 => ?_⟩
  obtain rfl := ci_inj e1'
  rw [fit_over59]
  replace ffl := snb1 _ _ ffl
  replace fdl := snb1 _ _ fdl
  replace fdt := snb1 _ _ fdt
  replace RA := RA.mono fun q xs e => snb1 _ _ e
  replace DA := DA.mono fun q xs e => snb1 _ _ e
  replace PA := PA.mono fun q xs e => snb1 _ _ e
  replace hw1 := snb1 _ _ hw1
  replace Aw1 := Aw1.mono fun _ _ z => z.kp (KpZ.same snb1)
  replace fu1 := snb1 _ _ fu1
  replace hw0 := snb1 _ _ hw0
  replace Aw0 := Aw0.mono fun _ _ z => z.kp (KpZ.same snb1)
  replace fu2 := snb1 _ _ fu2
  replace fwt := snb1 _ _ fwt
  replace fe1 := snb1 _ _ fe1
  replace fp1 := snb1 _ _ fp1
  replace fe2 := snb1 _ _ fe2
  replace fp2 := snb1 _ _ fp2
  replace fk2 := snb1 _ _ fk2
  replace fx4 := snb1 _ _ fx4
  replace fy4 := snb1 _ _ fy4
  replace fsl := snb1 _ _ fsl
  replace SA_ := SA_.mono fun q xs e => snb1 _ _ e
  refine ⟨_, _, rfl, rfl, _, rfl, iteT ?_⟩
  refine ⟨_, rfl, _, rfl, fun _ => True, .ref sl, .ref p2, _, faD 59, rfl, rt fsl SA_ lsh, (⟨p2, .ref wt, .ref e2, rfl, fp2, ⟨wt, _, rfl, fwt, .cons ⟨u1, _, rfl, fu1, Aw1, by decide⟩ (.cons ⟨u2, _, rfl, fu2, Aw0, by decide⟩ .nil), by decide⟩, ⟨e2, rfl, fe2, by decide⟩⟩ : FaAt (fun _ => True) _ (.ref p2) (faD 59)), fun h1 => absurd h1 (by rw [goodRt_map, good_short hn]; decide), fun _ h1 => absurd h1 (by rw [good_59]; decide), fun cs' e1' g1 _ Nb2 snb2 => ?_⟩
  obtain rfl := ci_inj e1'
  rw [fit_short59]
  replace ffl := snb2 _ _ ffl
  replace fdl := snb2 _ _ fdl
  replace fdt := snb2 _ _ fdt
  replace RA := RA.mono fun q xs e => snb2 _ _ e
  replace DA := DA.mono fun q xs e => snb2 _ _ e
  replace PA := PA.mono fun q xs e => snb2 _ _ e
  replace hw1 := snb2 _ _ hw1
  replace Aw1 := Aw1.mono fun _ _ z => z.kp (KpZ.same snb2)
  replace fu1 := snb2 _ _ fu1
  replace hw0 := snb2 _ _ hw0
  replace Aw0 := Aw0.mono fun _ _ z => z.kp (KpZ.same snb2)
  replace fu2 := snb2 _ _ fu2
  replace fwt := snb2 _ _ fwt
  replace fe1 := snb2 _ _ fe1
  replace fp1 := snb2 _ _ fp1
  replace fe2 := snb2 _ _ fe2
  replace fp2 := snb2 _ _ fp2
  replace fk2 := snb2 _ _ fk2
  replace fx4 := snb2 _ _ fx4
  replace fy4 := snb2 _ _ fy4
  replace fsl := snb2 _ _ fsl
  replace SA_ := SA_.mono fun q xs e => snb2 _ _ e
  exact ⟨_, _, rfl, rfl, k _⟩
end
end OH
end
section
set_option Elab.async false
set_option linter.all false
set_option maxRecDepth 100000
set_option maxHeartbeats 16000000
/-! The law. -/
namespace OH
open PySem PySem.Spec PyProof.Rows L2
open LamX (Tabs TabS ExtN TabB CodeO)
theorem tabs_frZ {T : List (Addr × Str)} {H H' : Hp} {st g c : Addr} {n : Nat} (t : Tabs T H) (S : SA H st g c n) (f : Fr st g H H') : Tabs T H' := fun p hp => by
  obtain ⟨ps, h1, h2, h3⟩ := t p hp
  obtain ⟨⟨r, tt, _, _, _, e1⟩, ⟨gs, e2, _⟩, _⟩ := S
  refine ⟨ps, f _ _ h1 (ne_of h1 e1 (fun z => nomatch z)) (ne_of h1 e2 (fun z => nomatch z)), h2, fun pos cv hc => ?_⟩
  obtain ⟨cc, q1, q2⟩ := h3 pos cv hc
  exact ⟨cc, q1, f _ _ q2 (ne_of q2 e1 (fun z => by unfold CodeO at z; cases z)) (ne_of q2 e2 (fun z => by unfold CodeO at z; cases z))⟩
theorem SA.extZ {H H' : Hp} {st g c : Addr} {n : Nat} (s : SA H st g c n) (e : ExtN H H') : SA H' st g c n := by
  obtain ⟨⟨r, t, h1, h2, h3, h4⟩, ⟨gs, g1, g2, g3⟩, ⟨cs, c1, c2, c3⟩, gc⟩ := s
  exact ⟨⟨r, t, h1, h2, h3, e _ _ h4 (fun _ z => nomatch z)⟩, ⟨gs, e _ _ g1 (fun _ z => nomatch z), g2, g3⟩, ⟨cs, e _ _ c1 (fun _ z => nomatch z), c2, c3⟩, gc⟩
theorem FcAt.extZ {H H' : Hp} {a : Addr} {F : Fc} (h : FcAt H a F) (x : ExtN H H') : FcAt H' a F := h.mono fun q xs e => x _ _ e (fun _ z => nomatch z)
theorem RwAt.extZ {H H' : Hp} {l : Addr} {cs : List Crs} (h : RwAt H l cs) (x : ExtN H H') : RwAt H' l cs := by
  obtain ⟨ps, h1, h2⟩ := h
  exact ⟨ps, x _ _ h1 (fun _ z => nomatch z), h2.mono fun q xs e => x _ _ e (fun _ z => nomatch z)⟩
/-- a face is a value that is judged a face, this one -/
theorem fa_of {Z : Addr → Prop} {H : Hp} {a : Addr} {F : Fc} (h : FcAt H a F) : ∃ x, FaAt Z H (.ref a) x ∧ goodFa x = true ∧ faF x = F := by
  have hF := h.ok
  have m1 := hF.m1
  have m6 := hF.m6
  obtain ⟨wt, dt, wps, b1, b2, b3, b4, b5⟩ := h.ex
  have hW : A2 (W1At Z H) (wps.map V.ref) _ := FcAt.wl hF b4 b5
  have lR : F.dor.length = F.R := rfl
  have ed : (F.dor.map Ax.n).map axI = F.dor := by
    rw [List.map_map]
    exact (List.map_congr_left fun _ _ => rfl).trans (List.map_id _)
  refine ⟨.three (.n F.dep) (.tup ((List.range wps.length).map fun i => W1.tup ((F.ws i).map fun p => P1.tup [.n p.1, .n p.2]))) (.tup (F.dor.map Ax.n)), ⟨a, .ref wt, .ref dt, rfl, b1, ⟨wt, _, rfl, b2, hW, by rw [List.length_map, List.length_range]; omega⟩, ⟨dt, rfl, by rw [List.map_map]; exact b3, by rw [List.length_map]; omega⟩⟩, ?_, ?_⟩
  · show (axW 1 60 (.n F.dep) && (decide (1 ≤ (F.dor.map Ax.n).length) && decide ((F.dor.map Ax.n).length ≤ 6)) && decide (((List.range wps.length).map fun i => W1.tup ((F.ws i).map fun p => P1.tup [.n p.1, .n p.2])).length = (F.dor.map Ax.n).length) && ((F.dor.map Ax.n).map (axW 1 6)).all id && wiB ((F.dor.map Ax.n).map axI) _) = true
    have e1 : axW 1 60 (.n F.dep) = true := by
      show (decide (1 ≤ F.dep) && decide (F.dep ≤ 60)) = true
      rw [decide_eq_true hF.d1, decide_eq_true hF.d60]
      rfl
    have e2 : ((F.dor.map Ax.n).map (axW 1 6)).all id = true := by
      rw [List.all_eq_true]
      intro b hb
      rw [List.map_map] at hb
      obtain ⟨z, hz, rfl⟩ := List.mem_map.mp hb
      obtain ⟨z1, z6⟩ := hF.dz z hz
      show (decide (1 ≤ z) && decide (z ≤ 6)) = true
      rw [decide_eq_true z1, decide_eq_true z6]
      rfl
    have e3 : wiB ((F.dor.map Ax.n).map axI) ((List.range wps.length).map fun i => W1.tup ((F.ws i).map fun p => P1.tup [.n p.1, .n p.2])) = true := by
      rw [ed]
      unfold wiB
      rw [List.all_eq_true]
      intro b hb
      obtain ⟨r, hr, rfl⟩ := List.mem_map.mp hb
      rw [List.mem_range, List.length_map, List.length_range] at hr
      rw [List.getD_eq_getElem?_getD, List.getElem?_map, List.getElem?_range hr]
      obtain ⟨w8, wn, wr⟩ := hF.wi r (by omega)
      show (decide (((F.ws r).map fun p => P1.tup [.n p.1, .n p.2]).length ≤ 8) && ((F.ws r).map fun p => P1.tup [.n p.1, .n p.2]).all (okP (r : Int) F.dor) && decide (((F.ws r).map fun p => P1.tup [.n p.1, .n p.2]).map p1w).Nodup) = true
      have en : ((F.ws r).map fun p => P1.tup [.n p.1, .n p.2]).map p1w = F.ws r := by
        rw [List.map_map]
        exact (List.map_congr_left fun _ _ => rfl).trans (List.map_id _)
      have eo : ((F.ws r).map fun p => P1.tup [.n p.1, .n p.2]).all (okP (r : Int) F.dor) = true := by
        rw [List.all_map, List.all_eq_true]
        intro p hp
        obtain ⟨k1, k2, k3, k4, k5⟩ := wr p hp
        show (decide (0 ≤ p.1) && decide (p.1 ≤ (F.dor.length : Int) - 1) && !decide (p.1 = (r : Int)) && (decide (0 ≤ p.2) && decide (p.2 ≤ F.dor.getD p.1.toNat 0 - 1))) = true
        rw [decide_eq_true k1, decide_eq_true (by omega : p.1 ≤ (F.dor.length : Int) - 1), decide_eq_false k3, decide_eq_true k4, decide_eq_true (by omega : p.2 ≤ F.dor.getD p.1.toNat 0 - 1)]
        rfl
      rw [en, eo, List.length_map, decide_eq_true w8, decide_eq_true wn]
      rfl
    rw [e1, e2, e3, List.length_map, List.length_map, List.length_range, decide_eq_true (by omega : 1 ≤ F.dor.length), decide_eq_true (by omega : F.dor.length ≤ 6), decide_eq_true (by omega : wps.length = F.dor.length)]
    rfl
  · show (⟨F.dep, ((List.range wps.length).map fun i => W1.tup ((F.ws i).map fun p => P1.tup [.n p.1, .n p.2])).map _, (F.dor.map Ax.n).map axI⟩ : Fc) = F
    rw [ed, List.map_map]
    have ew : (List.range wps.length).map ((fun w => match w with | W1.tup ps => ps.map p1w | .oth => []) ∘ fun i => W1.tup ((F.ws i).map fun p => P1.tup [.n p.1, .n p.2])) = F.wir := by
      have lw := hF.lw
      refine List.ext_getElem? fun i => ?_
      rw [List.getElem?_map]
      by_cases hi : i < F.wir.length
      · rw [List.getElem?_range (by omega), List.getElem?_eq_getElem hi]
        show some (((F.ws i).map fun p => P1.tup [.n p.1, .n p.2]).map p1w) = _
        rw [List.map_map]
        congr 1
        refine ((List.map_congr_left fun _ _ => rfl).trans (List.map_id _)).trans ?_
        show F.wir.getD i [] = _
        rw [List.getD_eq_getElem?_getD, List.getElem?_eq_getElem hi]
        rfl
      · rw [List.getElem?_eq_none (l := List.range wps.length) (by rw [List.length_range]; omega), List.getElem?_eq_none (l := F.wir) (by omega)]
        rfl
    exact congrArg (fun w => (⟨F.dep, w, F.dor⟩ : Fc)) ew
theorem vrr_fit {F : Fc} : ∀ (xs : List Crs) (s : Rs), VRr F s xs → fitGo F (s.2.length : Int) xs = true
  | [], _, _ => rfl
  | x :: xs, s, ⟨⟨c, hc, hx⟩, hr⟩ => by
    have fin : s.1 = some c → (bh s x).1 = none → xs = [] := fun _ e => by
      cases xs with
      | nil => rfl
      | cons y ys =>
        obtain ⟨⟨c', hc', _⟩, _⟩ := hr
        rw [e] at hc'
        cases hc'
    have ih := vrr_fit xs (bh s x) hr
    show (fitX F (s.2.length : Int) x && fitGo F (mX (s.2.length : Int) x) xs) = true
    cases x with
    | start n => exact absurd hx (fun z => z)
    | call a b d n =>
      obtain ⟨rfl, hw, hl, _⟩ := hx
      rw [fitX_call, decide_eq_true hw, decide_eq_false (by omega : ¬ (s.2.length : Int) = F.dep)]
      have e : ((bh s (.call a b d n)).2.length : Int) = mX (s.2.length : Int) (.call a b d n) := by
        show ((s.2 ++ [(a, b)]).length : Int) = (s.2.length : Int) + 1
        rw [List.length_append]
        rfl
      rw [e] at ih
      rw [ih]
      rfl
    | deep a b d n =>
      obtain ⟨rfl, hw, hl, _⟩ := hx
      have e0 := fin hc rfl
      subst e0
      show ((decide ((b, d) ∈ F.ws a.toNat) && decide ((s.2.length : Int) = F.dep)) && true) = true
      rw [decide_eq_true hw, decide_eq_true hl]
      rfl
    | back a b n =>
      obtain ⟨_, ⟨q, hq, _⟩, _⟩ := hx
      have e : ((bh s (.back a b n)).2.length : Int) = mX (s.2.length : Int) (.back a b n) := by
        show ((s.2.dropLast).length : Int) = (s.2.length : Int) - 1
        rw [List.length_dropLast]
        have : 0 < s.2.length := by
          cases h : s.2 with
          | nil => rw [h] at hq; cases hq
          | cons _ _ => exact Nat.succ_pos _
        omega
      rw [e] at ih
      rw [ih]
      rfl
    | done n =>
      have e0 := fin hc rfl
      subst e0
      rfl
    | fin a =>
      have e0 := fin hc rfl
      subst e0
      rfl
theorem vr_fit {F : Fc} {cs : List Crs} (h : VR F cs) : fitGo F 0 cs = true := by
  obtain ⟨n, xs, rfl, _, hr⟩ := h
  exact vrr_fit xs (some 0, []) hr
section
variable {a b c : Str} {P1 P2 P3 : Addr}
theorem hu_1 (h2 : P1 ≠ P2) (h3 : P1 ≠ P3) : ∀ p ∈ ([(P1, a), (P2, b), (P3, c)] : List (Addr × Str)), p.1 = P1 → p.2 = a := fun p hp e => by
  simp only [List.mem_cons, List.not_mem_nil, or_false] at hp
  rcases hp with rfl | rfl | rfl
  · rfl
  · exact absurd e.symm h2
  · exact absurd e.symm h3
theorem hu_2 (h1 : P1 ≠ P2) (h3 : P2 ≠ P3) : ∀ p ∈ ([(P1, a), (P2, b), (P3, c)] : List (Addr × Str)), p.1 = P2 → p.2 = b := fun p hp e => by
  simp only [List.mem_cons, List.not_mem_nil, or_false] at hp
  rcases hp with rfl | rfl | rfl
  · exact absurd e h1
  · rfl
  · exact absurd e.symm h3
theorem hu_3 (h1 : P1 ≠ P3) (h2 : P2 ≠ P3) : ∀ p ∈ ([(P1, a), (P2, b), (P3, c)] : List (Addr × Str)), p.1 = P3 → p.2 = c := fun p hp e => by
  simp only [List.mem_cons, List.not_mem_nil, or_false] at hp
  rcases hp with rfl | rfl | rfl
  · exact absurd e h1
  · exact absurd e h2
  · rfl
end
theorem NTp.ext_ {Z : Addr → Prop} {H H' : Hp} {v : V} (h : NTp Z H v) (e : ExtN H H') : NTp Z H' v := h.kp ⟨fun q xs x => e _ _ x (fun _ z => nomatch z), fun q xs _ x => e _ _ x (fun _ z => nomatch z)⟩
theorem faExt {Z : Addr → Prop} {H H' : Hp} {v : V} {x : Fa} (h : FaAt Z H v x) (e : ExtN H H') : FaAt Z H' v x := h.kp ⟨fun q xs x => e _ _ x (fun _ z => nomatch z), fun q xs _ x => e _ _ x (fun _ z => nomatch z)⟩
def spLawT (K : PySem.W.Frag) (T : List (Addr × Str)) : Sp := fun vs H Q _ => ∃ (a : Addr) (ns : List Int), vs = [.ref a] ∧ SqL K H a (ns.map V.int) ∧ ns.length ≤ 63 ∧ Tabs T H ∧ ∀ H', Q (.bl true) H'
section
variable {P : Program} {w : World} {K : PySem.W.Frag} {mg : Str → Option Value} {base : Heap}
abbrev nLaw : List Str := ["script", "state", "face", "row", "turn", "spoilt", "told", "other", "answer"]
theorem sc_law : FnScope nLaw ["script"] (defScope s_law) := ⟨rfl, rfl, rfl, by decide +kernel, rfl, by decide +kernel, by decide +kernel⟩
theorem ok_law {f c0 Pt CO CR CF fC fA fF : Addr} {fdC fdA fdF : FuncData} {Ts : List (Addr × Str)} {oc : Value} {od an : Option Addr} {kV doc pm ct : Value} {osl : Array (Option Value)}
    (lk : K.lookup f = some ⟨oc, od, .func (PySem.W.fnOf "law" "law" (defArgs s_law) (defBody s_law) (defScope s_law) .none kV doc pm an (.ref c0) ct), osl⟩) (hcd : PySem.W.codeIn K (.ref c0) "law" = true)
    (T : Txt K mg) (TB : TabB base mg c0 Pt) (hT : ((Pt, "law.<locals>.<lambda>") : Addr × Str) ∈ Ts) (hu : ∀ p ∈ Ts, p.1 = Pt → p.2 = "law.<locals>.<lambda>")
    (EF : ErrC K mg "BadFace" CF) (XF : ExcC K CF) (mOF : PySem.W.exmOne K (.ref CF) (.ref CO) = some true) (iFF : PySem.W.kitOne K (.ref CF) (.ref CF) = some true) (gO : mg "OwnharmError" = some (.ref CO))
    (FC : Fun K "_law_caught" "_law_caught" s__law_caught fC fdC) (mC : mg "_law_caught" = some (.ref fC)) (bC : Binds K fdC ["action"] [])
    (FF : FnOk P w K mg base (L2.CX P w) 10 fF fdF ["row", "face"] (spFitsX CR CF)) (mF : mg "fits" = some (.ref fF)) (kF : PySem.W.keepIn K (.ref fF) = true) (bF : Binds K fdF ["row", "face"] []) (kbF : KBinds K fdF ["row", "face"] ["row", "face"] kwT kwT)
    (FA : FnOk P w K mg base CX0 9 fA fdA ["value"] spGoodFX) (mA : mg "is_face" = some (.ref fA)) (kA : PySem.W.keepIn K (.ref fA) = true) (kbA : KBinds K fdA ["value"] ["value"] kw0 kw0)
    (DB : DefF P w K mg base CX0 12 "_law_begun" ["script"] (spBegun K)) (DM : DefF P w K mg base CX0 12 "_law_small" ["state"] (spNo 2))
    (DFc : DefF P w K mg base CX0 12 "_law_drawn_face" ["state", "most"] (spFaceD 1 6)) (DRw : DefF P w K mg base CX0 12 "_law_drawn_row" ["state", "face", "most"] spRowD)
    (DH : DefF P w K mg base CX0 12 "_law_rows_hold" ["state", "row"] (spRowsH Ts)) (DSr : DefF P w K mg base CX0 12 "_law_spoilt_row" ["state", "row"] spSpoR) (DJ : DefF P w K mg base CX0 12 "_law_judged" ["thing"] spGoodX)
    (DFt : DefF P w K mg base CX0 12 "_law_fitting" ["row", "face"] spFitsG) (DSf : DefF P w K mg base CX0 12 "_law_spoilt_face" ["state", "face"] spSpoF) (DFj : DefF P w K mg base CX0 12 "_law_face_judged" ["thing"] spGoodFX)
    (DBd : DefF P w K mg base CX0 12 "_law_bound_holds" ["number"] (spBound Ts)) :
    FnOk P w K mg base CX0 13 f (PySem.W.fnOf "law" "law" (defArgs s_law) (defBody s_law) (defScope s_law) .none kV doc pm an (.ref c0) ct) ["script"] (spLawT K Ts) := by
  obtain ⟨oC, oD, kVC, docC, pmC, anC, cdC, ctC, oslC, rfl, lkC, cgC⟩ := FC.ex
  refine fn_of lk hcd sc_law (fun vs H Q E h => ?_) fun A outer s H vs Q E hr h => ?_
  · obtain ⟨a, ns, rfl, _⟩ := h
    rfl
  obtain ⟨a, ns, rfl, ha, hns, hTb, k⟩ := h
  have nd := sc_law.nd
  refine (fun (main : ∃ t, PSs (cxOf CX0 P w K mg base nLaw "law" (defScope s_law) f (.ref c0) A outer s H E).nox (defBody s_law) t ∧
      t { nx := fun _ H' => Q .non H', rt := Q } (L2.start nLaw [.ref a]) H) => (by obtain ⟨t, h1, h2⟩ := main; exact ⟨t, h1.nox, h2⟩)) ?_
  refine ⟨_, pss_cons (ps_set (i := 1) nd rfl (Or.inl rfl) (pe_cD DB hr rfl pass0 (pa_cons (pv 0) pa_nil)))
      (pss_cons (ps_set (i := 2) nd rfl (Or.inl rfl) (pe_cD DFc hr rfl pass0 (pa_cons (pv 1) (pa_cons pe_int pa_nil))))
      (pss_cons (ps_set (i := 3) nd rfl (Or.inr rfl) (pe_cD DRw hr rfl pass0 (pa_cons (pv 1) (pa_cons (pv 2) (pa_cons pe_int pa_nil)))))
      (pss_cons (ps_if (PW.pt (pw_or (pt_cmpR op_isnot_bl (pe_callK0 FF (hr.mono (by decide)) rfl mF kF kbF passL (pk_cons (pv 3) (pk_cons (pv 2) pk_nil))) pe_bl (nomark _)) (pw_or (pt_not (pt_val (pe_cD DH hr rfl pass0 (pa_cons (pv 1) (pa_cons (pv 3) pa_nil))))) (pw_or1 (pt_not (pt_val (pe_cD DH hr rfl pass0 (pa_cons (pv 1) (pa_cons (pe_callTy call_tuple_of (by rfl) T.nTuple (by decide +kernel) (pa_cons (pv 3) pa_nil)) pa_nil))))))))) (pss_one (ps_ret pe_bl)) pss_nil)
      (pss_cons (ps_for PassesOwn.never rfl (pi_range1 rfl T.nRange (pa_cons pe_int pa_nil)) (pg_name (i := 4) nd rfl (Or.inl rfl))
        (pss_cons (ps_set (i := 5) nd rfl (Or.inl rfl) (pe_cD DSr hr rfl pass0 (pa_cons (pv 1) (pa_cons (pv 3) pa_nil))))
      (pss_cons (ps_if (pt_not (pt_val (pe_cD DH hr rfl pass0 (pa_cons (pv 1) (pa_cons (pv 5) pa_nil))))) (pss_one (ps_ret pe_bl)) pss_nil)
      (pss_one (ps_if (pt_val (pe_cD DJ hr rfl pass0 (pa_cons (pv 5) pa_nil))) (pss_cons (ps_set (i := 6) nd rfl (Or.inl rfl) (pe_call FF (hr.mono (by decide)) rfl mF kF bF .nil passL (pa_cons (pv 5) (pa_cons (pv 2) pa_nil))))
      (pss_one (ps_if (PW.pt (pw_or (pt_not (pt_val (pe_callB call_isi (by rfl) T.nIsi (by decide +kernel) (pa_cons (pv 6) (pa_cons (pe_bltn (v := .ty "bool") (by rfl) T.nBool (by decide +kernel) rfl) pa_nil))))) (pw_or1 (pt_cmpR op_ne (pv 6) (pe_cD DFt hr rfl pass0 (pa_cons (pv 5) (pa_cons (pv 2) pa_nil))) (nomark _))))) (pss_one (ps_ret pe_bl)) pss_nil))) pss_nil)))))
      (pss_cons (ps_for PassesOwn.never rfl (pi_range1 rfl T.nRange (pa_cons pe_int pa_nil)) (pg_name (i := 4) nd rfl (Or.inl rfl))
        (pss_cons (ps_set (i := 7) nd rfl (Or.inr rfl) (pe_cD DSf hr rfl pass0 (pa_cons (pv 1) (pa_cons (pv 2) pa_nil))))
      (pss_cons (ps_set (i := 6) nd rfl (Or.inl rfl) (pe_callK0 FA (hr.mono (by decide)) rfl mA kA kbA pass0 (pk_cons (pv 7) pk_nil)))
      (pss_cons (ps_if (PW.pt (pw_or (pt_not (pt_val (pe_callB call_isi (by rfl) T.nIsi (by decide +kernel) (pa_cons (pv 6) (pa_cons (pe_bltn (v := .ty "bool") (by rfl) T.nBool (by decide +kernel) rfl) pa_nil))))) (pw_or1 (pt_cmpR op_ne (pv 6) (pe_cD DFj hr rfl pass0 (pa_cons (pv 7) pa_nil)) (nomark _))))) (pss_one (ps_ret pe_bl)) pss_nil)
      (pss_one (ps_if (pt_val (pv 6)) (pss_cons (ps_set (i := 8) nd rfl (Or.inl rfl) (pe_call FF (hr.mono (by decide)) rfl mF kF bF .nil passL (pa_cons (pv 3) (pa_cons (pv 7) pa_nil))))
      (pss_one (ps_if (PW.pt (pw_or (pt_not (pt_val (pe_callB call_isi (by rfl) T.nIsi (by decide +kernel) (pa_cons (pv 8) (pa_cons (pe_bltn (v := .ty "bool") (by rfl) T.nBool (by decide +kernel) rfl) pa_nil))))) (pw_or1 (pt_cmpR op_ne (pv 8) (pe_cD DFt hr rfl pass0 (pa_cons (pv 3) (pa_cons (pv 7) pa_nil))) (nomark _))))) (pss_one (ps_ret pe_bl)) pss_nil))) (pss_one (ps_if (pt_not (pt_val (pe_callB (call_isJA XF) (by rfl) T.nIsi (by decide +kernel) (pa_cons (LamX.pe_lamcall (k := 10) (params := _) (t := fun E => _) rfl mC FC.kp lkC cgC bC sc__law_caught rfl (Or.inl rfl) (caught_givesJ gO) TB rfl hT hu hr
        (LamX.lamS_by (by show LamX.lamSB (defScope s_law) _ = true; decide +kernel)) rfl (fun _ _ _ _ _ => rfl)
        (fun A outer s H E f c' hr2 => (pe_callS FF hr2 rfl mF kF bF (fun σ => L2.passAt (takes_of rfl rfl rfl rfl) σ) (pa_cons (pv 3) (pa_cons (pv 7) pa_nil))))) (pa_cons (pe_glob (v := .ref CF) rfl EF.g rfl) pa_nil))))) (pss_one (ps_ret pe_bl)) pss_nil))))))))
      (pss_one (ps_ret (pe_cD DBd hr rfl pass0 (pa_cons (pe_cD DM hr rfl pass0 (pa_cons (pv 1) pa_nil)) pa_nil))))))))), ?_⟩
  refine ⟨_, rfl, a, ns, rfl, ha, hns, fun st g c H1 n1 n2 n3 s1 S1 => ?_⟩
  have T1 := hTb.ext s1
  refine ⟨_, rfl, st, g, c, _, 6, rfl, S1, by omega, by decide, by decide, fun p F H2 np hf S2 F2 => ?_⟩
  have T2 := tabs_frZ T1 S1 F2
  have hF := hf.ok
  refine ⟨_, rfl, _, rfl, st, g, c, p, _, F, 14, rfl, S2, hf, by omega, by decide, by decide, fun l cs H3 nl hl hv hc S3 F3 => ?_⟩
  have zl := S2.old nl
  have T3 := tabs_frZ T2 S2 F3
  have hf3 := hf.mono (fr_tup S2 F3)
  have hg := (hv.good hF).1
  have hc1000 : cs.length ≤ 1000 := by omega
  have l1 : 1 ≤ cs.length := by obtain ⟨n, xs, rfl, _⟩ := hv; exact Nat.succ_pos _
  have zZ : Zs st g l := ⟨zl.1, zl.2.1⟩
  have S3' := S3.mono (m := 1000) (by omega)
  clear S3 S2 F2 F3 T1 T2 S1 hf nl np hTb
  -- fits(row=row, face=face)
  obtain ⟨x, hx, gx, ex⟩ := fa_of (Z := Zs st g) hf3
  refine ⟨_, rfl, _, rfl, Zs st g, .ref l, .ref p, _, x, rfl, hl.x.rt zZ hc1000, hx, fun h1 => absurd h1 (by rw [goodRt_map, hg]; decide), fun _ h1 => absurd h1 (by rw [gx]; decide), fun cs' e1 g1 _ H4 s4 => ?_⟩
  obtain rfl := ci_inj e1
  rw [ex, vr_fit hv]
  refine ⟨_, _, rfl, rfl, _, rfl, iteF ?_⟩
  -- the row, as a list and as a tuple
  have hl4 := hl.same s4
  have hf4 := hf3.same s4
  have S4 := S3'.same s4
  have T4 := T3.ext s4
  clear S3' hf3 hl T3 hx
  refine ⟨_, rfl, _, rfl, Zs st g, .ref st, .ref l, _, rfl, hl4.x.rt zZ hc1000, T4, fun H5 e5 T5 => ⟨_, rfl, iteF ?_⟩⟩
  have hl5 := hl4.extZ e5
  have hf5 := hf4.extZ e5
  have S5 := S4.extZ e5
  obtain ⟨ps, h1, h2⟩ := hl5
  refine ⟨_, rfl, _, rfl, l, _, rfl, .inl ⟨SqL.of h1, fun t nt => ?_⟩⟩
  have ot := S5.old nt
  have s6 := sadd (o := .tup (ps.map V.ref)) (Same.refl H5) nt
  have ft : upd H5 t (.tup (ps.map V.ref)) t = some (.tup (ps.map V.ref)) := upd_same
  have hx6 : RwX (upd H5 t (.tup (ps.map V.ref))) t cs' := ⟨ps, .inr ft, h2.mono fun q xs e => s6 _ _ e⟩
  have hl6 : RwAt (upd H5 t (.tup (ps.map V.ref))) l cs' := ⟨ps, s6 _ _ h1, h2.mono fun q xs e => s6 _ _ e⟩
  have hf6 := hf5.same s6
  have S6 := S5.same s6
  have T6 := T5.ext s6
  generalize upd H5 t (.tup (ps.map V.ref)) = H6 at hx6 hl6 hf6 S6 T6
  clear s6 ft h1 h2 hf5 S5 T5 nt e5 hl4 hf4 S4 T4
  refine ⟨Zs st g, .ref st, .ref t, _, rfl, hx6.rt ⟨ot.1, ot.2.1⟩ hc1000, T6, fun H7 e7 T7 => ⟨_, rfl, iteF ?_⟩⟩
  have hl7 := hl6.extZ e7
  have hf7 := hf6.extZ e7
  have S7 := S6.extZ e7
  clear hx6 hl6 hf6 S6 T6 e7
  -- spoilt rows
  refine ⟨_, rfl, by decide, by decide, ?_⟩
  refine for_range (lo := 0) (n := 6) (fun i σ H' => ∃ o4 o5 o6 : Option V, σ = [some (.ref a), some (.ref st), some (.ref p), some (.ref l), o4, o5, o6, none, none] ∧ RwAt H' l cs' ∧ FcAt H' p F ∧ SA H' st g c (1000 + 100 * i) ∧ Tabs Ts H') ⟨none, none, none, rfl, hl7, hf7, S7.mono (by omega), T7⟩ ?turn ?done
  case turn =>
    rintro i σ Ha hi ⟨o4, o5, o6, rfl, hla, hfa, Sa, Ta⟩
    refine ⟨_, rfl, _, rfl, st, g, c, l, _, cs', rfl, Sa, by omega, hla, zl.2.1, l1, by omega, fun v r Hb hr0 Sb Fb => ?_⟩
    have hlb := hla.frm Sa Fb zl.2.1
    have hfb := hfa.mono (fr_tup Sa Fb)
    have Tb := tabs_frZ Ta Sa Fb
    refine ⟨_, rfl, _, rfl, Zs st g, .ref st, v, r, rfl, hr0, Tb, fun Hc ec Tc => ⟨_, rfl, iteF ?_⟩⟩
    have hrc := hr0.ext ec
    have hlc := hlb.extZ ec
    have hfc := hfb.extZ ec
    have Sc := Sb.extZ ec
    refine ⟨_, rfl, Zs st g, v, r, rfl, hrc, fun Hd sd => ⟨_, rfl, ?_⟩⟩
    have hrd := hrc.same sd
    have hld := hlc.same sd
    have hfd := hfc.same sd
    have Sd := Sc.same sd
    have Td := Tc.ext sd
    cases hgr : goodRt r with
    | false => exact iteF ⟨_, _, _, rfl, hld, hfd, Sd.mono (by omega), Td⟩
    | true =>
    refine iteT ?_
    obtain ⟨x, hx, gx, ex⟩ := fa_of (Z := Zs st g) hfd
    refine ⟨_, rfl, _, rfl, Zs st g, v, .ref p, r, x, rfl, hrd, hx, fun h1 => absurd h1 (by rw [hgr]; decide), fun _ h1 => absurd h1 (by rw [gx]; decide), fun ds e1 g1 _ He se => ?_⟩
    subst e1
    obtain ⟨lr, rfl, hrx, hrl⟩ := hrd.rwx
    refine ⟨_, rfl, _, _, _, _, _, rfl, .ty "bool", .base (.bl _), kit_ty (r := true) (by decide +kernel), _, rfl, iteF ?_⟩
    refine ⟨_, rfl, _, rfl, _, rfl, lr, p, F, ds, rfl, hrx.same se, hfd.same se, g1, hrl, fun Hf sf => ?_⟩
    rw [ex]
    refine ⟨rfl, _, rfl, ite2 (fun z => absurd z (by simp)) (fun _ => ?_)⟩
    have sx := se.trans sf
    exact ⟨_, _, _, rfl, hld.same sx, hfd.same sx, (Sd.same sx).mono (by omega), Td.ext sx⟩
  case done =>
  rintro σ H8 ⟨o4, o5, o6, rfl, hl8, hf8, S8, T8⟩
  clear hl7 hf7 S7 T7
  -- spoilt faces
  refine ⟨_, rfl, by decide, by decide, ?_⟩
  refine for_range (lo := 0) (n := 4) (fun i σ H' => ∃ o4 o6 o7 o8 : Option V, σ = [some (.ref a), some (.ref st), some (.ref p), some (.ref l), o4, o5, o6, o7, o8] ∧ RwAt H' l cs' ∧ FcAt H' p F ∧ SA H' st g c (2000 + 100 * i) ∧ Tabs Ts H') ⟨_, _, _, _, rfl, hl8, hf8, S8.mono (by decide), T8⟩ ?turn2 ?done2
  case turn2 =>
    rintro i σ Ha hi ⟨o4, o6, o7, o8, rfl, hla, hfa, Sa, Ta⟩
    refine ⟨_, rfl, _, rfl, st, g, c, p, _, F, rfl, Sa, by omega, hfa, fun v x Hb hx Sb Fb => ?_⟩
    have hlb := hla.frm Sa Fb zl.2.1
    have hfb := hfa.mono (fr_tup Sa Fb)
    have Tb := tabs_frZ Ta Sa Fb
    refine ⟨_, rfl, Zs st g, v, x, rfl, hx, fun Hc sc => ?_⟩
    refine ⟨_, rfl, _, _, _, _, _, rfl, .ty "bool", .base (.bl _), kit_ty (r := true) (by decide +kernel), _, rfl, iteF ?_⟩
    refine ⟨_, rfl, _, rfl, Zs st g, v, x, rfl, hx.kp (KpZ.same sc), fun Hd sd => ?_⟩
    refine ⟨rfl, _, rfl, ite2 (fun z => absurd z (by simp)) (fun _ => ?_)⟩
    have s2 := sc.trans sd
    have hxd := hx.kp (KpZ.same s2)
    have hld := hlb.same s2
    have hfd := hfb.same s2
    have Sd := Sb.same s2
    have Td := Tb.ext s2
    refine ⟨_, rfl, _, rfl, ?_⟩
    cases hgx : goodFa x with
    | true =>
      refine iteT ?_
      refine ⟨_, rfl, _, rfl, Zs st g, .ref l, v, _, x, rfl, hld.x.rt zZ hc1000, hxd, fun h1 => absurd h1 (by rw [goodRt_map, hg]; decide), fun _ h1 => absurd h1 (by rw [hgx]; decide), fun ds e1 g1 _ He se => ?_⟩
      obtain rfl := ci_inj e1
      obtain ⟨q, rfl, hq⟩ := goodFa_at (hxd.kp (KpZ.same se)) hgx
      refine ⟨_, rfl, _, _, _, _, _, rfl, .ty "bool", .base (.bl _), kit_ty (r := true) (by decide +kernel), _, rfl, iteF ?_⟩
      refine ⟨_, rfl, _, rfl, _, rfl, l, q, faF x, ds, rfl, (hld.same se).x, hq, g1, hc1000, fun Hf sf => ?_⟩
      refine ⟨rfl, _, rfl, ite2 (fun z => absurd z (by simp)) (fun _ => ?_)⟩
      have sx := se.trans sf
      exact ⟨_, _, _, _, rfl, hld.same sx, hfd.same sx, (Sd.same sx).mono (by omega), Td.ext sx⟩
    | false =>
      refine iteF ?_
      refine ⟨Td, fun He ee Te Q1 hQ1 => ⟨_, rfl, _, rfl, Zs st g, .ref l, v, _, x, rfl, (hld.extZ ee).x.rt zZ hc1000, faExt hxd ee, fun h1 => absurd h1 (by rw [goodRt_map, hg]; decide), fun _ _ Hf sf => ⟨mOF, fun ea nea => ?_⟩, fun _ _ _ h1 => absurd h1 (by rw [hgx]; decide)⟩⟩
      have sx := sadd (o := ExJ (.ref CF) none ea) sf nea
      refine ⟨none, ea, .ref CF, .ref CF, true, rfl, upd_same, fun u r => r, iFF, _, rfl, iteF ?_⟩
      have xx := ee.trans (extN_of sx)
      exact ⟨_, _, _, _, rfl, hld.extZ xx, hfd.extZ xx, (Sd.extZ xx).mono (by omega), Te.ext sx⟩
  case done2 =>
  rintro σ H9 ⟨o4', o6', o7', o8', rfl, hl9, hf9, S9, T9⟩
  refine ⟨_, rfl, st, g, c, _, rfl, S9, by omega, fun z H10 z0 z9 S10 F10 => ?_⟩
  refine ⟨z, rfl, ?_, tabs_frZ T9 S9 F10, fun H' => k H'⟩
  show (decide (0 ≤ z) && decide (z ≤ 9999)) = true
  rw [decide_eq_true z0, decide_eq_true z9]
  rfl
end
end OH
end
section
set_option Elab.async false
set_option linter.all false
set_option maxRecDepth 100000
set_option maxHeartbeats 16000000
/-! The facts of the head put together. -/
namespace OH
open PySem PySem.Spec PyProof.Rows L2
open LamX (Tabs TabS ExtN TabB CodeO)
theorem _root_.L2.FnOk.toG {P : Program} {w : World} {K : PySem.W.Frag} {mg : Str → Option Value} {base : Heap} {CX : CXT} {k : Nat} {f : Addr} {fd : FuncData} {ps : List Str} {sp : Sp} (F : FnOk P w K mg base CX k f fd ps sp) : FnG P w K mg base CX k f fd ps sp :=
  ⟨F.len, fun A out s H ar us vs Q E _ hr he hb hv hs => F.run A out s H ar us vs Q E hr he hb hv hs⟩
theorem t3n {K : PySem.W.Frag} {p : Addr} {dd : Option Addr} {a b : Int} {ta tb : Tok} {n : Nat} {sl : Array (Option Value)} (hl : K.lookup p = some ⟨.type "tuple", dd, .seq #[.int a ta, .int b tb, .none] n, sl⟩) : ∀ H, SqT K H p [.int a, .int b, .non] := fun H =>
  .inr ⟨_, _, _, hl, rfl, rfl, by show 3 ≤ sizeLine; decide, .cons ⟨ta, rfl⟩ (.cons ⟨tb, rfl⟩ (.cons rfl .nil))⟩
theorem all_mk {l : PySem.W.OpenLaw} {w : World} {K : PySem.W.Frag} {mg : Str → Option Value} {fa : Addr} {h : Heap} {n : Nat}
    {f0 : Addr} {oc0 kV0 dc0 pm0 ct0 cd0 : Value} {od0 an0 : Option Addr} {sl0 : Array (Option Value)}
    {f1 : Addr} {oc1 kV1 dc1 pm1 ct1 cd1 : Value} {od1 an1 : Option Addr} {sl1 : Array (Option Value)}
    {f2 : Addr} {oc2 kV2 dc2 pm2 ct2 cd2 : Value} {od2 an2 : Option Addr} {sl2 : Array (Option Value)}
    {f3 : Addr} {oc3 kV3 dc3 pm3 ct3 cd3 : Value} {od3 an3 : Option Addr} {sl3 : Array (Option Value)}
    {f4 : Addr} {oc4 kV4 dc4 pm4 ct4 cd4 : Value} {od4 an4 : Option Addr} {sl4 : Array (Option Value)}
    {f5 : Addr} {oc5 kV5 dc5 pm5 ct5 cd5 : Value} {od5 an5 : Option Addr} {sl5 : Array (Option Value)}
    {f6 : Addr} {oc6 kV6 dc6 pm6 ct6 cd6 : Value} {od6 an6 : Option Addr} {sl6 : Array (Option Value)}
    {f7 : Addr} {oc7 kV7 dc7 pm7 ct7 cd7 : Value} {od7 an7 : Option Addr} {sl7 : Array (Option Value)}
    {f8 : Addr} {oc8 kV8 dc8 pm8 ct8 cd8 : Value} {od8 an8 : Option Addr} {sl8 : Array (Option Value)}
    {f9 : Addr} {oc9 kV9 dc9 pm9 ct9 cd9 : Value} {od9 an9 : Option Addr} {sl9 : Array (Option Value)}
    {f10 : Addr} {oc10 kV10 dc10 pm10 ct10 cd10 : Value} {od10 an10 : Option Addr} {sl10 : Array (Option Value)}
    {f11 : Addr} {oc11 kV11 dc11 pm11 ct11 cd11 : Value} {od11 an11 : Option Addr} {sl11 : Array (Option Value)}
    {f12 : Addr} {oc12 kV12 dc12 pm12 ct12 cd12 : Value} {od12 an12 : Option Addr} {sl12 : Array (Option Value)}
    {f13 : Addr} {oc13 kV13 dc13 pm13 ct13 cd13 : Value} {od13 an13 : Option Addr} {sl13 : Array (Option Value)}
    {f14 : Addr} {oc14 kV14 dc14 pm14 ct14 cd14 : Value} {od14 an14 : Option Addr} {sl14 : Array (Option Value)}
    {f15 : Addr} {oc15 kV15 dc15 pm15 ct15 cd15 : Value} {od15 an15 : Option Addr} {sl15 : Array (Option Value)}
    {f16 : Addr} {oc16 kV16 dc16 pm16 ct16 cd16 : Value} {od16 an16 : Option Addr} {sl16 : Array (Option Value)}
    {f17 : Addr} {oc17 kV17 dc17 pm17 ct17 cd17 : Value} {od17 an17 : Option Addr} {sl17 : Array (Option Value)}
    {f18 : Addr} {oc18 kV18 dc18 pm18 ct18 cd18 : Value} {od18 an18 : Option Addr} {sl18 : Array (Option Value)}
    {f19 : Addr} {oc19 kV19 dc19 pm19 ct19 cd19 : Value} {od19 an19 : Option Addr} {sl19 : Array (Option Value)}
    {f20 : Addr} {oc20 kV20 dc20 pm20 ct20 cd20 : Value} {od20 an20 : Option Addr} {sl20 : Array (Option Value)}
    {f21 : Addr} {oc21 kV21 dc21 pm21 ct21 cd21 : Value} {od21 an21 : Option Addr} {sl21 : Array (Option Value)}
    {f22 : Addr} {oc22 kV22 dc22 pm22 ct22 cd22 : Value} {od22 an22 : Option Addr} {sl22 : Array (Option Value)}
    {f23 : Addr} {oc23 kV23 dc23 pm23 ct23 cd23 : Value} {od23 an23 : Option Addr} {sl23 : Array (Option Value)}
    {f24 : Addr} {oc24 kV24 dc24 pm24 ct24 cd24 : Value} {od24 an24 : Option Addr} {sl24 : Array (Option Value)}
    {f25 : Addr} {oc25 kV25 dc25 pm25 ct25 cd25 : Value} {od25 an25 : Option Addr} {sl25 : Array (Option Value)}
    {f26 : Addr} {oc26 kV26 dc26 pm26 ct26 cd26 : Value} {od26 an26 : Option Addr} {sl26 : Array (Option Value)}
    {f27 : Addr} {oc27 kV27 dc27 pm27 ct27 cd27 : Value} {od27 an27 : Option Addr} {sl27 : Array (Option Value)}
    {f28 : Addr} {oc28 kV28 dc28 pm28 ct28 cd28 : Value} {od28 an28 : Option Addr} {sl28 : Array (Option Value)}
    {f29 : Addr} {oc29 kV29 dc29 pm29 ct29 cd29 : Value} {od29 an29 : Option Addr} {sl29 : Array (Option Value)}
    {f30 : Addr} {oc30 kV30 dc30 pm30 ct30 cd30 : Value} {od30 an30 : Option Addr} {sl30 : Array (Option Value)}
    {f31 : Addr} {oc31 kV31 dc31 pm31 ct31 cd31 : Value} {od31 an31 : Option Addr} {sl31 : Array (Option Value)}
    {f32 : Addr} {oc32 kV32 dc32 pm32 ct32 cd32 : Value} {od32 an32 : Option Addr} {sl32 : Array (Option Value)}
    {f33 : Addr} {oc33 kV33 dc33 pm33 ct33 cd33 : Value} {od33 an33 : Option Addr} {sl33 : Array (Option Value)}
    {f34 : Addr} {oc34 kV34 dc34 pm34 ct34 cd34 : Value} {od34 an34 : Option Addr} {sl34 : Array (Option Value)}
    {f35 c35 P35 : Addr} {oc35 kV35 dc35 pm35 ct35 : Value} {od35 an35 : Option Addr} {sl35 : Array (Option Value)}
    {f36 : Addr} {oc36 kV36 dc36 pm36 ct36 cd36 : Value} {od36 an36 : Option Addr} {sl36 : Array (Option Value)}
    {f37 : Addr} {oc37 kV37 dc37 pm37 ct37 cd37 : Value} {od37 an37 : Option Addr} {sl37 : Array (Option Value)}
    {f38 c38 P38 : Addr} {oc38 kV38 dc38 pm38 ct38 : Value} {od38 an38 : Option Addr} {sl38 : Array (Option Value)}
    {f39 c39 P39 : Addr} {oc39 kV39 dc39 pm39 ct39 : Value} {od39 an39 : Option Addr} {sl39 : Array (Option Value)}
    {CW : Addr}
    {fm0 : Addr} {ocm0 kVm0 dcm0 pmm0 ctm0 cdm0 : Value} {odm0 anm0 : Option Addr} {slm0 : Array (Option Value)}
    {fm1 : Addr} {ocm1 kVm1 dcm1 pmm1 ctm1 cdm1 : Value} {odm1 anm1 : Option Addr} {slm1 : Array (Option Value)}
    {fm2 : Addr} {ocm2 kVm2 dcm2 pmm2 ctm2 cdm2 : Value} {odm2 anm2 : Option Addr} {slm2 : Array (Option Value)}
    {fm3 : Addr} {ocm3 kVm3 dcm3 pmm3 ctm3 cdm3 : Value} {odm3 anm3 : Option Addr} {slm3 : Array (Option Value)}
    {mt0 : Tok}
    {mt1 : Tok}
    {mt2 : Tok}
    {mt3 : Tok}
    {CO : Addr}
    {EBadRow : Addr}
    {EBadFace : Addr}
    {aN : Addr} {nNu : Nat} {dNu : Option Addr} {sNu : Array (Option Value)} {tNu tNv : Tok}
    {aD : Addr} {nDo : Nat} {dDo : Option Addr} {sDo : Array (Option Value)} {tDo tDp : Tok}
    (KX : K.In h) (G : h.Ns mainGlobals mg) (hfa : mg "law" = some (.ref fa)) (n63 : n ≤ 63)
    (a0 : PySem.W.nsIn K mainGlobals "is_whole" = some (some (.ref f0)))
    (l0 : K.lookup f0 = some ⟨oc0, od0, .func (PySem.W.fnOf "is_whole" "is_whole" (defArgs s_is_whole) (defBody s_is_whole) (defScope s_is_whole) .none kV0 dc0 pm0 an0 cd0 ct0), sl0⟩)
    (c0d : PySem.W.codeIn K cd0 "is_whole" = true)
    (k0 : PySem.W.keepIn K (.ref f0) = true)
    (a1 : PySem.W.nsIn K mainGlobals "is_tuple" = some (some (.ref f1)))
    (l1 : K.lookup f1 = some ⟨oc1, od1, .func (PySem.W.fnOf "is_tuple" "is_tuple" (defArgs s_is_tuple) (defBody s_is_tuple) (defScope s_is_tuple) .none kV1 dc1 pm1 an1 cd1 ct1), sl1⟩)
    (c1d : PySem.W.codeIn K cd1 "is_tuple" = true)
    (k1 : PySem.W.keepIn K (.ref f1) = true)
    (a2 : PySem.W.nsIn K mainGlobals "all_unlike" = some (some (.ref f2)))
    (l2 : K.lookup f2 = some ⟨oc2, od2, .func (PySem.W.fnOf "all_unlike" "all_unlike" (defArgs s_all_unlike) (defBody s_all_unlike) (defScope s_all_unlike) .none kV2 dc2 pm2 an2 cd2 ct2), sl2⟩)
    (c2d : PySem.W.codeIn K cd2 "all_unlike" = true)
    (k2 : PySem.W.keepIn K (.ref f2) = true)
    (a3 : PySem.W.nsIn K mainGlobals "are_wires" = some (some (.ref f3)))
    (l3 : K.lookup f3 = some ⟨oc3, od3, .func (PySem.W.fnOf "are_wires" "are_wires" (defArgs s_are_wires) (defBody s_are_wires) (defScope s_are_wires) .none kV3 dc3 pm3 an3 cd3 ct3), sl3⟩)
    (c3d : PySem.W.codeIn K cd3 "are_wires" = true)
    (k3 : PySem.W.keepIn K (.ref f3) = true)
    (a4 : PySem.W.nsIn K mainGlobals "good_row" = some (some (.ref f4)))
    (l4 : K.lookup f4 = some ⟨oc4, od4, .func (PySem.W.fnOf "good_row" "good_row" (defArgs s_good_row) (defBody s_good_row) (defScope s_good_row) .none kV4 dc4 pm4 an4 cd4 ct4), sl4⟩)
    (c4d : PySem.W.codeIn K cd4 "good_row" = true)
    (k4 : PySem.W.keepIn K (.ref f4) = true)
    (a5 : PySem.W.nsIn K mainGlobals "walked" = some (some (.ref f5)))
    (l5 : K.lookup f5 = some ⟨oc5, od5, .func (PySem.W.fnOf "walked" "walked" (defArgs s_walked) (defBody s_walked) (defScope s_walked) .none kV5 dc5 pm5 an5 cd5 ct5), sl5⟩)
    (c5d : PySem.W.codeIn K cd5 "walked" = true)
    (k5 : PySem.W.keepIn K (.ref f5) = true)
    (a6 : PySem.W.nsIn K mainGlobals "good_face" = some (some (.ref f6)))
    (l6 : K.lookup f6 = some ⟨oc6, od6, .func (PySem.W.fnOf "good_face" "good_face" (defArgs s_good_face) (defBody s_good_face) (defScope s_good_face) .none kV6 dc6 pm6 an6 cd6 ct6), sl6⟩)
    (c6d : PySem.W.codeIn K cd6 "good_face" = true)
    (k6 : PySem.W.keepIn K (.ref f6) = true)
    (a7 : PySem.W.nsIn K mainGlobals "is_row" = some (some (.ref f7)))
    (l7 : K.lookup f7 = some ⟨oc7, od7, .func (PySem.W.fnOf "is_row" "is_row" (defArgs s_is_row) (defBody s_is_row) (defScope s_is_row) .none kV7 dc7 pm7 an7 cd7 ct7), sl7⟩)
    (c7d : PySem.W.codeIn K cd7 "is_row" = true)
    (k7 : PySem.W.keepIn K (.ref f7) = true)
    (a8 : PySem.W.nsIn K mainGlobals "is_face" = some (some (.ref f8)))
    (l8 : K.lookup f8 = some ⟨oc8, od8, .func (PySem.W.fnOf "is_face" "is_face" (defArgs s_is_face) (defBody s_is_face) (defScope s_is_face) .none kV8 dc8 pm8 an8 cd8 ct8), sl8⟩)
    (c8d : PySem.W.codeIn K cd8 "is_face" = true)
    (k8 : PySem.W.keepIn K (.ref f8) = true)
    (a9 : PySem.W.nsIn K mainGlobals "need_row" = some (some (.ref f9)))
    (l9 : K.lookup f9 = some ⟨oc9, od9, .func (PySem.W.fnOf "need_row" "need_row" (defArgs s_need_row) (defBody s_need_row) (defScope s_need_row) .none kV9 dc9 pm9 an9 cd9 ct9), sl9⟩)
    (c9d : PySem.W.codeIn K cd9 "need_row" = true)
    (k9 : PySem.W.keepIn K (.ref f9) = true)
    (a10 : PySem.W.nsIn K mainGlobals "need_face" = some (some (.ref f10)))
    (l10 : K.lookup f10 = some ⟨oc10, od10, .func (PySem.W.fnOf "need_face" "need_face" (defArgs s_need_face) (defBody s_need_face) (defScope s_need_face) .none kV10 dc10 pm10 an10 cd10 ct10), sl10⟩)
    (c10d : PySem.W.codeIn K cd10 "need_face" = true)
    (k10 : PySem.W.keepIn K (.ref f10) = true)
    (a11 : PySem.W.nsIn K mainGlobals "control_of" = some (some (.ref f11)))
    (l11 : K.lookup f11 = some ⟨oc11, od11, .func (PySem.W.fnOf "control_of" "control_of" (defArgs s_control_of) (defBody s_control_of) (defScope s_control_of) .none kV11 dc11 pm11 an11 cd11 ct11), sl11⟩)
    (c11d : PySem.W.codeIn K cd11 "control_of" = true)
    (k11 : PySem.W.keepIn K (.ref f11) = true)
    (a12 : PySem.W.nsIn K mainGlobals "open_of" = some (some (.ref f12)))
    (l12 : K.lookup f12 = some ⟨oc12, od12, .func (PySem.W.fnOf "open_of" "open_of" (defArgs s_open_of) (defBody s_open_of) (defScope s_open_of) .none kV12 dc12 pm12 an12 cd12 ct12), sl12⟩)
    (c12d : PySem.W.codeIn K cd12 "open_of" = true)
    (k12 : PySem.W.keepIn K (.ref f12) = true)
    (a13 : PySem.W.nsIn K mainGlobals "fits_in" = some (some (.ref f13)))
    (l13 : K.lookup f13 = some ⟨oc13, od13, .func (PySem.W.fnOf "fits_in" "fits_in" (defArgs s_fits_in) (defBody s_fits_in) (defScope s_fits_in) .none kV13 dc13 pm13 an13 cd13 ct13), sl13⟩)
    (c13d : PySem.W.codeIn K cd13 "fits_in" = true)
    (k13 : PySem.W.keepIn K (.ref f13) = true)
    (a14 : PySem.W.nsIn K mainGlobals "fits" = some (some (.ref f14)))
    (l14 : K.lookup f14 = some ⟨oc14, od14, .func (PySem.W.fnOf "fits" "fits" (defArgs s_fits) (defBody s_fits) (defScope s_fits) .none kV14 dc14 pm14 an14 cd14 ct14), sl14⟩)
    (c14d : PySem.W.codeIn K cd14 "fits" = true)
    (k14 : PySem.W.keepIn K (.ref f14) = true)
    (a15 : PySem.W.nsIn K mainGlobals "_law_begun" = some (some (.ref f15)))
    (l15 : K.lookup f15 = some ⟨oc15, od15, .func (PySem.W.fnOf "_law_begun" "_law_begun" (defArgs s__law_begun) (defBody s__law_begun) (defScope s__law_begun) .none kV15 dc15 pm15 an15 cd15 ct15), sl15⟩)
    (c15d : PySem.W.codeIn K cd15 "_law_begun" = true)
    (k15 : PySem.W.keepIn K (.ref f15) = true)
    (a16 : PySem.W.nsIn K mainGlobals "_law_mixed" = some (some (.ref f16)))
    (l16 : K.lookup f16 = some ⟨oc16, od16, .func (PySem.W.fnOf "_law_mixed" "_law_mixed" (defArgs s__law_mixed) (defBody s__law_mixed) (defScope s__law_mixed) .none kV16 dc16 pm16 an16 cd16 ct16), sl16⟩)
    (c16d : PySem.W.codeIn K cd16 "_law_mixed" = true)
    (k16 : PySem.W.keepIn K (.ref f16) = true)
    (a17 : PySem.W.nsIn K mainGlobals "_law_draw" = some (some (.ref f17)))
    (l17 : K.lookup f17 = some ⟨oc17, od17, .func (PySem.W.fnOf "_law_draw" "_law_draw" (defArgs s__law_draw) (defBody s__law_draw) (defScope s__law_draw) .none kV17 dc17 pm17 an17 cd17 ct17), sl17⟩)
    (c17d : PySem.W.codeIn K cd17 "_law_draw" = true)
    (k17 : PySem.W.keepIn K (.ref f17) = true)
    (a18 : PySem.W.nsIn K mainGlobals "_law_pick" = some (some (.ref f18)))
    (l18 : K.lookup f18 = some ⟨oc18, od18, .func (PySem.W.fnOf "_law_pick" "_law_pick" (defArgs s__law_pick) (defBody s__law_pick) (defScope s__law_pick) .none kV18 dc18 pm18 an18 cd18 ct18), sl18⟩)
    (c18d : PySem.W.codeIn K cd18 "_law_pick" = true)
    (k18 : PySem.W.keepIn K (.ref f18) = true)
    (a19 : PySem.W.nsIn K mainGlobals "_law_shuffled" = some (some (.ref f19)))
    (l19 : K.lookup f19 = some ⟨oc19, od19, .func (PySem.W.fnOf "_law_shuffled" "_law_shuffled" (defArgs s__law_shuffled) (defBody s__law_shuffled) (defScope s__law_shuffled) .none kV19 dc19 pm19 an19 cd19 ct19), sl19⟩)
    (c19d : PySem.W.codeIn K cd19 "_law_shuffled" = true)
    (k19 : PySem.W.keepIn K (.ref f19) = true)
    (a20 : PySem.W.nsIn K mainGlobals "_law_small" = some (some (.ref f20)))
    (l20 : K.lookup f20 = some ⟨oc20, od20, .func (PySem.W.fnOf "_law_small" "_law_small" (defArgs s__law_small) (defBody s__law_small) (defScope s__law_small) .none kV20 dc20 pm20 an20 cd20 ct20), sl20⟩)
    (c20d : PySem.W.codeIn K cd20 "_law_small" = true)
    (k20 : PySem.W.keepIn K (.ref f20) = true)
    (a21 : PySem.W.nsIn K mainGlobals "_law_caught" = some (some (.ref f21)))
    (l21 : K.lookup f21 = some ⟨oc21, od21, .func (PySem.W.fnOf "_law_caught" "_law_caught" (defArgs s__law_caught) (defBody s__law_caught) (defScope s__law_caught) .none kV21 dc21 pm21 an21 cd21 ct21), sl21⟩)
    (c21d : PySem.W.codeIn K cd21 "_law_caught" = true)
    (k21 : PySem.W.keepIn K (.ref f21) = true)
    (a22 : PySem.W.nsIn K mainGlobals "_law_drawn_face" = some (some (.ref f22)))
    (l22 : K.lookup f22 = some ⟨oc22, od22, .func (PySem.W.fnOf "_law_drawn_face" "_law_drawn_face" (defArgs s__law_drawn_face) (defBody s__law_drawn_face) (defScope s__law_drawn_face) .none kV22 dc22 pm22 an22 cd22 ct22), sl22⟩)
    (c22d : PySem.W.codeIn K cd22 "_law_drawn_face" = true)
    (k22 : PySem.W.keepIn K (.ref f22) = true)
    (a23 : PySem.W.nsIn K mainGlobals "_law_next" = some (some (.ref f23)))
    (l23 : K.lookup f23 = some ⟨oc23, od23, .func (PySem.W.fnOf "_law_next" "_law_next" (defArgs s__law_next) (defBody s__law_next) (defScope s__law_next) .none kV23 dc23 pm23 an23 cd23 ct23), sl23⟩)
    (c23d : PySem.W.codeIn K cd23 "_law_next" = true)
    (k23 : PySem.W.keepIn K (.ref f23) = true)
    (a24 : PySem.W.nsIn K mainGlobals "_law_behind" = some (some (.ref f24)))
    (l24 : K.lookup f24 = some ⟨oc24, od24, .func (PySem.W.fnOf "_law_behind" "_law_behind" (defArgs s__law_behind) (defBody s__law_behind) (defScope s__law_behind) .none kV24 dc24 pm24 an24 cd24 ct24), sl24⟩)
    (c24d : PySem.W.codeIn K cd24 "_law_behind" = true)
    (k24 : PySem.W.keepIn K (.ref f24) = true)
    (a25 : PySem.W.nsIn K mainGlobals "_law_few" = some (some (.ref f25)))
    (l25 : K.lookup f25 = some ⟨oc25, od25, .func (PySem.W.fnOf "_law_few" "_law_few" (defArgs s__law_few) (defBody s__law_few) (defScope s__law_few) .none kV25 dc25 pm25 an25 cd25 ct25), sl25⟩)
    (c25d : PySem.W.codeIn K cd25 "_law_few" = true)
    (k25 : PySem.W.keepIn K (.ref f25) = true)
    (a26 : PySem.W.nsIn K mainGlobals "_law_drawn_row" = some (some (.ref f26)))
    (l26 : K.lookup f26 = some ⟨oc26, od26, .func (PySem.W.fnOf "_law_drawn_row" "_law_drawn_row" (defArgs s__law_drawn_row) (defBody s__law_drawn_row) (defScope s__law_drawn_row) .none kV26 dc26 pm26 an26 cd26 ct26), sl26⟩)
    (c26d : PySem.W.codeIn K cd26 "_law_drawn_row" = true)
    (k26 : PySem.W.keepIn K (.ref f26) = true)
    (a27 : PySem.W.nsIn K mainGlobals "_law_behind_row" = some (some (.ref f27)))
    (l27 : K.lookup f27 = some ⟨oc27, od27, .func (PySem.W.fnOf "_law_behind_row" "_law_behind_row" (defArgs s__law_behind_row) (defBody s__law_behind_row) (defScope s__law_behind_row) .none kV27 dc27 pm27 an27 cd27 ct27), sl27⟩)
    (c27d : PySem.W.codeIn K cd27 "_law_behind_row" = true)
    (k27 : PySem.W.keepIn K (.ref f27) = true)
    (a28 : PySem.W.nsIn K mainGlobals "_law_is_count" = some (some (.ref f28)))
    (l28 : K.lookup f28 = some ⟨oc28, od28, .func (PySem.W.fnOf "_law_is_count" "_law_is_count" (defArgs s__law_is_count) (defBody s__law_is_count) (defScope s__law_is_count) .none kV28 dc28 pm28 an28 cd28 ct28), sl28⟩)
    (c28d : PySem.W.codeIn K cd28 "_law_is_count" = true)
    (k28 : PySem.W.keepIn K (.ref f28) = true)
    (a29 : PySem.W.nsIn K mainGlobals "_law_is_crossing" = some (some (.ref f29)))
    (l29 : K.lookup f29 = some ⟨oc29, od29, .func (PySem.W.fnOf "_law_is_crossing" "_law_is_crossing" (defArgs s__law_is_crossing) (defBody s__law_is_crossing) (defScope s__law_is_crossing) .none kV29 dc29 pm29 an29 cd29 ct29), sl29⟩)
    (c29d : PySem.W.codeIn K cd29 "_law_is_crossing" = true)
    (k29 : PySem.W.keepIn K (.ref f29) = true)
    (a30 : PySem.W.nsIn K mainGlobals "_law_may_follow" = some (some (.ref f30)))
    (l30 : K.lookup f30 = some ⟨oc30, od30, .func (PySem.W.fnOf "_law_may_follow" "_law_may_follow" (defArgs s__law_may_follow) (defBody s__law_may_follow) (defScope s__law_may_follow) .none kV30 dc30 pm30 an30 cd30 ct30), sl30⟩)
    (c30d : PySem.W.codeIn K cd30 "_law_may_follow" = true)
    (k30 : PySem.W.keepIn K (.ref f30) = true)
    (a31 : PySem.W.nsIn K mainGlobals "_law_judged" = some (some (.ref f31)))
    (l31 : K.lookup f31 = some ⟨oc31, od31, .func (PySem.W.fnOf "_law_judged" "_law_judged" (defArgs s__law_judged) (defBody s__law_judged) (defScope s__law_judged) .none kV31 dc31 pm31 an31 cd31 ct31), sl31⟩)
    (c31d : PySem.W.codeIn K cd31 "_law_judged" = true)
    (k31 : PySem.W.keepIn K (.ref f31) = true)
    (a32 : PySem.W.nsIn K mainGlobals "_law_fitting" = some (some (.ref f32)))
    (l32 : K.lookup f32 = some ⟨oc32, od32, .func (PySem.W.fnOf "_law_fitting" "_law_fitting" (defArgs s__law_fitting) (defBody s__law_fitting) (defScope s__law_fitting) .none kV32 dc32 pm32 an32 cd32 ct32), sl32⟩)
    (c32d : PySem.W.codeIn K cd32 "_law_fitting" = true)
    (k32 : PySem.W.keepIn K (.ref f32) = true)
    (a33 : PySem.W.nsIn K mainGlobals "_law_spoilt_item" = some (some (.ref f33)))
    (l33 : K.lookup f33 = some ⟨oc33, od33, .func (PySem.W.fnOf "_law_spoilt_item" "_law_spoilt_item" (defArgs s__law_spoilt_item) (defBody s__law_spoilt_item) (defScope s__law_spoilt_item) .none kV33 dc33 pm33 an33 cd33 ct33), sl33⟩)
    (c33d : PySem.W.codeIn K cd33 "_law_spoilt_item" = true)
    (k33 : PySem.W.keepIn K (.ref f33) = true)
    (a34 : PySem.W.nsIn K mainGlobals "_law_spoilt_row" = some (some (.ref f34)))
    (l34 : K.lookup f34 = some ⟨oc34, od34, .func (PySem.W.fnOf "_law_spoilt_row" "_law_spoilt_row" (defArgs s__law_spoilt_row) (defBody s__law_spoilt_row) (defScope s__law_spoilt_row) .none kV34 dc34 pm34 an34 cd34 ct34), sl34⟩)
    (c34d : PySem.W.codeIn K cd34 "_law_spoilt_row" = true)
    (k34 : PySem.W.keepIn K (.ref f34) = true)
    (a35 : PySem.W.nsIn K mainGlobals "_law_rows_hold" = some (some (.ref f35)))
    (l35 : K.lookup f35 = some ⟨oc35, od35, .func (PySem.W.fnOf "_law_rows_hold" "_law_rows_hold" (defArgs s__law_rows_hold) (defBody s__law_rows_hold) (defScope s__law_rows_hold) .none kV35 dc35 pm35 an35 (.ref c35) ct35), sl35⟩)
    (c35d : PySem.W.codeIn K (.ref c35) "_law_rows_hold" = true)
    (k35 : PySem.W.keepIn K (.ref f35) = true)
    (a36 : PySem.W.nsIn K mainGlobals "_law_face_judged" = some (some (.ref f36)))
    (l36 : K.lookup f36 = some ⟨oc36, od36, .func (PySem.W.fnOf "_law_face_judged" "_law_face_judged" (defArgs s__law_face_judged) (defBody s__law_face_judged) (defScope s__law_face_judged) .none kV36 dc36 pm36 an36 cd36 ct36), sl36⟩)
    (c36d : PySem.W.codeIn K cd36 "_law_face_judged" = true)
    (k36 : PySem.W.keepIn K (.ref f36) = true)
    (a37 : PySem.W.nsIn K mainGlobals "_law_spoilt_face" = some (some (.ref f37)))
    (l37 : K.lookup f37 = some ⟨oc37, od37, .func (PySem.W.fnOf "_law_spoilt_face" "_law_spoilt_face" (defArgs s__law_spoilt_face) (defBody s__law_spoilt_face) (defScope s__law_spoilt_face) .none kV37 dc37 pm37 an37 cd37 ct37), sl37⟩)
    (c37d : PySem.W.codeIn K cd37 "_law_spoilt_face" = true)
    (k37 : PySem.W.keepIn K (.ref f37) = true)
    (a38 : PySem.W.nsIn K mainGlobals "_law_bound_holds" = some (some (.ref f38)))
    (l38 : K.lookup f38 = some ⟨oc38, od38, .func (PySem.W.fnOf "_law_bound_holds" "_law_bound_holds" (defArgs s__law_bound_holds) (defBody s__law_bound_holds) (defScope s__law_bound_holds) .none kV38 dc38 pm38 an38 (.ref c38) ct38), sl38⟩)
    (c38d : PySem.W.codeIn K (.ref c38) "_law_bound_holds" = true)
    (k38 : PySem.W.keepIn K (.ref f38) = true)
    (a39 : PySem.W.nsIn K mainGlobals "law" = some (some (.ref f39)))
    (l39 : K.lookup f39 = some ⟨oc39, od39, .func (PySem.W.fnOf "law" "law" (defArgs s_law) (defBody s_law) (defScope s_law) .none kV39 dc39 pm39 an39 (.ref c39) ct39), sl39⟩)
    (c39d : PySem.W.codeIn K (.ref c39) "law" = true)
    (k39 : PySem.W.keepIn K (.ref f39) = true)
    (gCW : PySem.W.nsIn K mainGlobals "RowWalk" = some (some (.ref CW)))
    (pgCW : PySem.W.plainGet K CW Str.empty = true)
    (hdCW : PySem.W.hasDictIn K CW = true)
    (poCW : PySem.W.plainOver K CW = true)
    (saCW : PySem.W.findIn K (.ref CW) "__setattr__" = some (some (.builtin "object.__setattr__")))
    (mkCW : PySem.W.makesIn K CW = true)
    (kcCW : PySem.W.keepIn K (.ref CW) = true)
    (nCW_inside : PySem.W.findIn K (.ref CW) "inside" = some none)
    (nCW_asks : PySem.W.findIn K (.ref CW) "asks" = some none)
    (nCW_over : PySem.W.findIn K (.ref CW) "over" = some none)
    (im0 : PySem.W.findIn K (.ref CW) "__init__" = some (some (.ref fm0)))
    (ym0 : PySem.W.isFn K (.ref fm0) = true)
    (lm0 : K.lookup fm0 = some ⟨ocm0, odm0, .func (PySem.W.fnOf "__init__" "RowWalk.__init__" (defArgs s_RowWalk___init__) (defBody s_RowWalk___init__) (defScope s_RowWalk___init__) .none kVm0 dcm0 pmm0 anm0 cdm0 ctm0), slm0⟩)
    (cm0d : PySem.W.codeIn K cdm0 "RowWalk.__init__" = true)
    (km0 : PySem.W.keepIn K (.ref fm0) = true)
    (im1 : PySem.W.findIn K (.ref CW) "fields" = some (some (.ref fm1)))
    (ym1 : PySem.W.isFn K (.ref fm1) = true)
    (lm1 : K.lookup fm1 = some ⟨ocm1, odm1, .func (PySem.W.fnOf "fields" "RowWalk.fields" (defArgs s_RowWalk_fields) (defBody s_RowWalk_fields) (defScope s_RowWalk_fields) .none kVm1 dcm1 pmm1 anm1 cdm1 ctm1), slm1⟩)
    (cm1d : PySem.W.codeIn K cdm1 "RowWalk.fields" = true)
    (km1 : PySem.W.keepIn K (.ref fm1) = true)
    (im2 : PySem.W.findIn K (.ref CW) "can_follow" = some (some (.ref fm2)))
    (ym2 : PySem.W.isFn K (.ref fm2) = true)
    (lm2 : K.lookup fm2 = some ⟨ocm2, odm2, .func (PySem.W.fnOf "can_follow" "RowWalk.can_follow" (defArgs s_RowWalk_can_follow) (defBody s_RowWalk_can_follow) (defScope s_RowWalk_can_follow) .none kVm2 dcm2 pmm2 anm2 cdm2 ctm2), slm2⟩)
    (cm2d : PySem.W.codeIn K cdm2 "RowWalk.can_follow" = true)
    (km2 : PySem.W.keepIn K (.ref fm2) = true)
    (im3 : PySem.W.findIn K (.ref CW) "take" = some (some (.ref fm3)))
    (ym3 : PySem.W.isFn K (.ref fm3) = true)
    (lm3 : K.lookup fm3 = some ⟨ocm3, odm3, .func (PySem.W.fnOf "take" "RowWalk.take" (defArgs s_RowWalk_take) (defBody s_RowWalk_take) (defScope s_RowWalk_take) .none kVm3 dcm3 pmm3 anm3 cdm3 ctm3), slm3⟩)
    (cm3d : PySem.W.codeIn K cdm3 "RowWalk.take" = true)
    (km3 : PySem.W.keepIn K (.ref fm3) = true)
    (z_isinstance : PySem.W.nsIn K mainGlobals "isinstance" = some none)
    (z_int : PySem.W.nsIn K mainGlobals "int" = some none)
    (z_bool : PySem.W.nsIn K mainGlobals "bool" = some none)
    (z_tuple : PySem.W.nsIn K mainGlobals "tuple" = some none)
    (z_str : PySem.W.nsIn K mainGlobals "str" = some none)
    (z_len : PySem.W.nsIn K mainGlobals "len" = some none)
    (z_all : PySem.W.nsIn K mainGlobals "all" = some none)
    (z_list : PySem.W.nsIn K mainGlobals "list" = some none)
    (z_abs : PySem.W.nsIn K mainGlobals "abs" = some none)
    (z_range : PySem.W.nsIn K mainGlobals "range" = some none)
    (z_zip : PySem.W.nsIn K mainGlobals "zip" = some none)
    (z_sorted : PySem.W.nsIn K mainGlobals "sorted" = some none)
    (z_repr : PySem.W.nsIn K mainGlobals "repr" = some none)
    (z_enumerate : PySem.W.nsIn K mainGlobals "enumerate" = some none)
    (z_set : PySem.W.nsIn K mainGlobals "set" = some none)
    (cst0 : PySem.W.nsIn K mainGlobals "MOST_DOORS" = some (some (.int 6 mt0)))
    (cst1 : PySem.W.nsIn K mainGlobals "MOST_OPEN" = some (some (.int 60 mt1)))
    (cst2 : PySem.W.nsIn K mainGlobals "MOST_IMPORTS" = some (some (.int 8 mt2)))
    (cst3 : PySem.W.nsIn K mainGlobals "MOST_ROOMS" = some (some (.int 6 mt3)))
    (gCO : PySem.W.nsIn K mainGlobals "OwnharmError" = some (some (.ref CO)))
    (v1 : PySem.W.specialIn K (.builtin "object.__class__") "__get__" = some (some (.builtin "getset_descriptor.__get__")))
    (v2 : PySem.W.takesIn K (.builtin "object.__class__") = some true)
    (gEBadRow : PySem.W.nsIn K mainGlobals "BadRow" = some (some (.ref EBadRow)))
    (xEBadRow : PySem.W.excIn K EBadRow [.type "ValueError", .type "Exception", .type "BaseException", .type "object"] "ValueError.__new__" = true)
    (kEBadRow : PySem.W.keepIn K (.ref EBadRow) = true)
    (gEBadFace : PySem.W.nsIn K mainGlobals "BadFace" = some (some (.ref EBadFace)))
    (xEBadFace : PySem.W.excIn K EBadFace [.type "ValueError", .type "Exception", .type "BaseException", .type "object"] "ValueError.__new__" = true)
    (kEBadFace : PySem.W.keepIn K (.ref EBadFace) = true)
    (bEBadRow : PySem.W.subIn K (.ref EBadRow) (.type "BaseException") = some true)
    (tEBadRow : PySem.W.typeIn K (.ref EBadRow) = some (.type "type"))
    (u1EBadRow : PySem.W.findIn K (.ref EBadRow) "__getattribute__" = some (some (.builtin "BaseException.__getattribute__")))
    (u2EBadRow : PySem.W.findIn K (.ref EBadRow) "__getattr__" = some none)
    (u3EBadRow : PySem.W.hasDictIn K EBadRow = true)
    (u4EBadRow : PySem.W.findIn K (.ref EBadRow) "__class__" = some (some (.builtin "object.__class__")))
    (u5EBadRow : PySem.W.mroIn K EBadRow (.type "object") = some true)
    (iEBadRow : PySem.W.kitOne K (.ref EBadRow) (.ref EBadRow) = some true)
    (eEBadRow : PySem.W.exmOne K (.ref EBadRow) (.ref CO) = some true)
    (bEBadFace : PySem.W.subIn K (.ref EBadFace) (.type "BaseException") = some true)
    (tEBadFace : PySem.W.typeIn K (.ref EBadFace) = some (.type "type"))
    (u1EBadFace : PySem.W.findIn K (.ref EBadFace) "__getattribute__" = some (some (.builtin "BaseException.__getattribute__")))
    (u2EBadFace : PySem.W.findIn K (.ref EBadFace) "__getattr__" = some none)
    (u3EBadFace : PySem.W.hasDictIn K EBadFace = true)
    (u4EBadFace : PySem.W.findIn K (.ref EBadFace) "__class__" = some (some (.builtin "object.__class__")))
    (u5EBadFace : PySem.W.mroIn K EBadFace (.type "object") = some true)
    (iEBadFace : PySem.W.kitOne K (.ref EBadFace) (.ref EBadFace) = some true)
    (eEBadFace : PySem.W.exmOne K (.ref EBadFace) (.ref CO) = some true)
    (aNUM : PySem.W.nsIn K mainGlobals "NUMBER" = some (some (.ref aN)))
    (lNUM : K.lookup aN = some ⟨.type "tuple", dNu, .seq #[.int 0 tNu, .int 9999 tNv, .none] nNu, sNu⟩)
    (aDOR : PySem.W.nsIn K mainGlobals "DOOR" = some (some (.ref aD)))
    (lDOR : K.lookup aD = some ⟨.type "tuple", dDo, .seq #[.int 0 tDo, .int 5 tDp, .none] nDo, sDo⟩)
    (ne12 : P35 ≠ P38)
    (ne13 : P35 ≠ P39)
    (ne23 : P38 ≠ P39)
    (tH35 : PySem.W.codeHdIn K c35 P35 = true)
    (tN35 : K.lookup P35 = none)
    (tO35 : h.get? P35 = some { cls := .none, data := .fields #[] })
    (tH38 : PySem.W.codeHdIn K c38 P38 = true)
    (tN38 : K.lookup P38 = none)
    (tO38 : h.get? P38 = some { cls := .none, data := .fields #[] })
    (tH39 : PySem.W.codeHdIn K c39 P39 = true)
    (tN39 : K.lookup P39 = none)
    (tO39 : h.get? P39 = some { cls := .none, data := .fields #[] }) :
    LawAtG l w K 13 n "script" mg fa h := by
  have e := hfa.symm.trans (PySem.W.mg_of KX G a39)
  cases e
  have T : Txt K mg := ⟨PySem.W.mg_none_of KX G z_isinstance, PySem.W.mg_none_of KX G z_int, PySem.W.mg_none_of KX G z_bool, PySem.W.mg_none_of KX G z_tuple, PySem.W.mg_none_of KX G z_str, PySem.W.mg_none_of KX G z_len, PySem.W.mg_none_of KX G z_all, PySem.W.mg_none_of KX G z_list, PySem.W.mg_none_of KX G z_abs, PySem.W.mg_none_of KX G z_range, PySem.W.mg_none_of KX G z_zip, PySem.W.mg_none_of KX G z_sorted, PySem.W.mg_none_of KX G z_repr⟩
  have T3 : Txt3 mg := ⟨⟨_, PySem.W.mg_of KX G cst1⟩, ⟨_, PySem.W.mg_of KX G cst3⟩, ⟨_, PySem.W.mg_of KX G cst2⟩, PySem.W.mg_none_of KX G z_set⟩
  have TC : TxC K mg aN aD := ⟨PySem.W.mg_of KX G aNUM, t3n lNUM, PySem.W.mg_of KX G aDOR, t3n lDOR, ⟨_, PySem.W.mg_of KX G cst1⟩, ⟨_, PySem.W.mg_of KX G cst3⟩, PySem.W.mg_none_of KX G z_len⟩
  have F0 := fun_mk (st := s_is_whole) l0 c0d k0
  have b0 := F0.binds (ps := ["value", "low", "high"]) fun _ _ _ _ _ _ us hl => match us, hl with | [_, _, _], _ => rfl
  have g0 : mg "is_whole" = some (.ref f0) := PySem.W.mg_of KX G a0
  have F1 := fun_mk (st := s_is_tuple) l1 c1d k1
  have b1 := F1.binds (ps := ["value", "least", "most"]) fun _ _ _ _ _ _ us hl => match us, hl with | [_, _, _], _ => rfl
  have g1 : mg "is_tuple" = some (.ref f1) := PySem.W.mg_of KX G a1
  have F2 := fun_mk (st := s_all_unlike) l2 c2d k2
  have b2 := F2.binds (ps := ["things"]) fun _ _ _ _ _ _ us hl => match us, hl with | [_], _ => rfl
  have g2 : mg "all_unlike" = some (.ref f2) := PySem.W.mg_of KX G a2
  have F3 := fun_mk (st := s_are_wires) l3 c3d k3
  have b3 := F3.binds (ps := ["value", "own", "doors"]) fun _ _ _ _ _ _ us hl => match us, hl with | [_, _, _], _ => rfl
  have g3 : mg "are_wires" = some (.ref f3) := PySem.W.mg_of KX G a3
  have F4 := fun_mk (st := s_good_row) l4 c4d k4
  have b4 := F4.binds (ps := ["value"]) fun _ _ _ _ _ _ us hl => match us, hl with | [_], _ => rfl
  have g4 : mg "good_row" = some (.ref f4) := PySem.W.mg_of KX G a4
  have F5 := fun_mk (st := s_walked) l5 c5d k5
  have b5 := F5.binds (ps := ["row"]) fun _ _ _ _ _ _ us hl => match us, hl with | [_], _ => rfl
  have g5 : mg "walked" = some (.ref f5) := PySem.W.mg_of KX G a5
  have F6 := fun_mk (st := s_good_face) l6 c6d k6
  have b6 := F6.binds (ps := ["value"]) fun _ _ _ _ _ _ us hl => match us, hl with | [_], _ => rfl
  have g6 : mg "good_face" = some (.ref f6) := PySem.W.mg_of KX G a6
  have F7 := fun_mk (st := s_is_row) l7 c7d k7
  have b7 := F7.binds (ps := ["value"]) fun _ _ _ _ _ _ us hl => match us, hl with | [_], _ => rfl
  have g7 : mg "is_row" = some (.ref f7) := PySem.W.mg_of KX G a7
  have F8 := fun_mk (st := s_is_face) l8 c8d k8
  have b8 := F8.binds (ps := ["value"]) fun _ _ _ _ _ _ us hl => match us, hl with | [_], _ => rfl
  have g8 : mg "is_face" = some (.ref f8) := PySem.W.mg_of KX G a8
  have F9 := fun_mk (st := s_need_row) l9 c9d k9
  have b9 := F9.binds (ps := ["row"]) fun _ _ _ _ _ _ us hl => match us, hl with | [_], _ => rfl
  have g9 : mg "need_row" = some (.ref f9) := PySem.W.mg_of KX G a9
  have F10 := fun_mk (st := s_need_face) l10 c10d k10
  have b10 := F10.binds (ps := ["face"]) fun _ _ _ _ _ _ us hl => match us, hl with | [_], _ => rfl
  have g10 : mg "need_face" = some (.ref f10) := PySem.W.mg_of KX G a10
  have F11 := fun_mk (st := s_control_of) l11 c11d k11
  have b11 := F11.binds (ps := ["row"]) fun _ _ _ _ _ _ us hl => match us, hl with | [_], _ => rfl
  have g11 : mg "control_of" = some (.ref f11) := PySem.W.mg_of KX G a11
  have F12 := fun_mk (st := s_open_of) l12 c12d k12
  have b12 := F12.binds (ps := ["row"]) fun _ _ _ _ _ _ us hl => match us, hl with | [_], _ => rfl
  have g12 : mg "open_of" = some (.ref f12) := PySem.W.mg_of KX G a12
  have F13 := fun_mk (st := s_fits_in) l13 c13d k13
  have b13 := F13.binds (ps := ["row", "face"]) fun _ _ _ _ _ _ us hl => match us, hl with | [_, _], _ => rfl
  have g13 : mg "fits_in" = some (.ref f13) := PySem.W.mg_of KX G a13
  have F14 := fun_mk (st := s_fits) l14 c14d k14
  have b14 := F14.binds (ps := ["row", "face"]) fun _ _ _ _ _ _ us hl => match us, hl with | [_, _], _ => rfl
  have g14 : mg "fits" = some (.ref f14) := PySem.W.mg_of KX G a14
  have F15 := fun_mk (st := s__law_begun) l15 c15d k15
  have b15 := F15.binds (ps := ["script"]) fun _ _ _ _ _ _ us hl => match us, hl with | [_], _ => rfl
  have g15 : mg "_law_begun" = some (.ref f15) := PySem.W.mg_of KX G a15
  have F16 := fun_mk (st := s__law_mixed) l16 c16d k16
  have b16 := F16.binds (ps := ["state"]) fun _ _ _ _ _ _ us hl => match us, hl with | [_], _ => rfl
  have g16 : mg "_law_mixed" = some (.ref f16) := PySem.W.mg_of KX G a16
  have F17 := fun_mk (st := s__law_draw) l17 c17d k17
  have b17 := F17.binds (ps := ["state", "room"]) fun _ _ _ _ _ _ us hl => match us, hl with | [_, _], _ => rfl
  have g17 : mg "_law_draw" = some (.ref f17) := PySem.W.mg_of KX G a17
  have F18 := fun_mk (st := s__law_pick) l18 c18d k18
  have b18 := F18.binds (ps := ["state", "some"]) fun _ _ _ _ _ _ us hl => match us, hl with | [_, _], _ => rfl
  have g18 : mg "_law_pick" = some (.ref f18) := PySem.W.mg_of KX G a18
  have F19 := fun_mk (st := s__law_shuffled) l19 c19d k19
  have b19 := F19.binds (ps := ["state", "some"]) fun _ _ _ _ _ _ us hl => match us, hl with | [_, _], _ => rfl
  have g19 : mg "_law_shuffled" = some (.ref f19) := PySem.W.mg_of KX G a19
  have F20 := fun_mk (st := s__law_small) l20 c20d k20
  have b20 := F20.binds (ps := ["state"]) fun _ _ _ _ _ _ us hl => match us, hl with | [_], _ => rfl
  have g20 : mg "_law_small" = some (.ref f20) := PySem.W.mg_of KX G a20
  have F21 := fun_mk (st := s__law_caught) l21 c21d k21
  have b21 := F21.binds (ps := ["action"]) fun _ _ _ _ _ _ us hl => match us, hl with | [_], _ => rfl
  have g21 : mg "_law_caught" = some (.ref f21) := PySem.W.mg_of KX G a21
  have F22 := fun_mk (st := s__law_drawn_face) l22 c22d k22
  have b22 := F22.binds (ps := ["state", "most"]) fun _ _ _ _ _ _ us hl => match us, hl with | [_, _], _ => rfl
  have g22 : mg "_law_drawn_face" = some (.ref f22) := PySem.W.mg_of KX G a22
  have F23 := fun_mk (st := s__law_next) l23 c23d k23
  have b23 := F23.binds (ps := ["state", "face", "control", "asks", "few"]) fun _ _ _ _ _ _ us hl => match us, hl with | [_, _, _, _, _], _ => rfl
  have g23 : mg "_law_next" = some (.ref f23) := PySem.W.mg_of KX G a23
  have F24 := fun_mk (st := s__law_behind) l24 c24d k24
  have b24 := F24.binds (ps := ["control", "asks", "crossing"]) fun _ _ _ _ _ _ us hl => match us, hl with | [_, _, _], _ => rfl
  have g24 : mg "_law_behind" = some (.ref f24) := PySem.W.mg_of KX G a24
  have F25 := fun_mk (st := s__law_few) l25 c25d k25
  have b25 := F25.binds (ps := ["state"]) fun _ _ _ _ _ _ us hl => match us, hl with | [_], _ => rfl
  have g25 : mg "_law_few" = some (.ref f25) := PySem.W.mg_of KX G a25
  have F26 := fun_mk (st := s__law_drawn_row) l26 c26d k26
  have b26 := F26.binds (ps := ["state", "face", "most"]) fun _ _ _ _ _ _ us hl => match us, hl with | [_, _, _], _ => rfl
  have g26 : mg "_law_drawn_row" = some (.ref f26) := PySem.W.mg_of KX G a26
  have F27 := fun_mk (st := s__law_behind_row) l27 c27d k27
  have b27 := F27.binds (ps := ["row"]) fun _ _ _ _ _ _ us hl => match us, hl with | [_], _ => rfl
  have g27 : mg "_law_behind_row" = some (.ref f27) := PySem.W.mg_of KX G a27
  have F28 := fun_mk (st := s__law_is_count) l28 c28d k28
  have b28 := F28.binds (ps := ["thing", "bound"]) fun _ _ _ _ _ _ us hl => match us, hl with | [_, _], _ => rfl
  have g28 : mg "_law_is_count" = some (.ref f28) := PySem.W.mg_of KX G a28
  have F29 := fun_mk (st := s__law_is_crossing) l29 c29d k29
  have b29 := F29.binds (ps := ["thing"]) fun _ _ _ _ _ _ us hl => match us, hl with | [_], _ => rfl
  have g29 : mg "_law_is_crossing" = some (.ref f29) := PySem.W.mg_of KX G a29
  have F30 := fun_mk (st := s__law_may_follow) l30 c30d k30
  have b30 := F30.binds (ps := ["control", "asks", "crossing"]) fun _ _ _ _ _ _ us hl => match us, hl with | [_, _, _], _ => rfl
  have g30 : mg "_law_may_follow" = some (.ref f30) := PySem.W.mg_of KX G a30
  have F31 := fun_mk (st := s__law_judged) l31 c31d k31
  have b31 := F31.binds (ps := ["thing"]) fun _ _ _ _ _ _ us hl => match us, hl with | [_], _ => rfl
  have g31 : mg "_law_judged" = some (.ref f31) := PySem.W.mg_of KX G a31
  have F32 := fun_mk (st := s__law_fitting) l32 c32d k32
  have b32 := F32.binds (ps := ["row", "face"]) fun _ _ _ _ _ _ us hl => match us, hl with | [_, _], _ => rfl
  have g32 : mg "_law_fitting" = some (.ref f32) := PySem.W.mg_of KX G a32
  have F33 := fun_mk (st := s__law_spoilt_item) l33 c33d k33
  have b33 := F33.binds (ps := ["state", "crossing"]) fun _ _ _ _ _ _ us hl => match us, hl with | [_, _], _ => rfl
  have g33 : mg "_law_spoilt_item" = some (.ref f33) := PySem.W.mg_of KX G a33
  have F34 := fun_mk (st := s__law_spoilt_row) l34 c34d k34
  have b34 := F34.binds (ps := ["state", "row"]) fun _ _ _ _ _ _ us hl => match us, hl with | [_, _], _ => rfl
  have g34 : mg "_law_spoilt_row" = some (.ref f34) := PySem.W.mg_of KX G a34
  have F35 := fun_mk (st := s__law_rows_hold) l35 c35d k35
  have b35 := F35.binds (ps := ["state", "row"]) fun _ _ _ _ _ _ us hl => match us, hl with | [_, _], _ => rfl
  have g35 : mg "_law_rows_hold" = some (.ref f35) := PySem.W.mg_of KX G a35
  have F36 := fun_mk (st := s__law_face_judged) l36 c36d k36
  have b36 := F36.binds (ps := ["thing"]) fun _ _ _ _ _ _ us hl => match us, hl with | [_], _ => rfl
  have g36 : mg "_law_face_judged" = some (.ref f36) := PySem.W.mg_of KX G a36
  have F37 := fun_mk (st := s__law_spoilt_face) l37 c37d k37
  have b37 := F37.binds (ps := ["state", "face"]) fun _ _ _ _ _ _ us hl => match us, hl with | [_, _], _ => rfl
  have g37 : mg "_law_spoilt_face" = some (.ref f37) := PySem.W.mg_of KX G a37
  have F38 := fun_mk (st := s__law_bound_holds) l38 c38d k38
  have b38 := F38.binds (ps := ["number"]) fun _ _ _ _ _ _ us hl => match us, hl with | [_], _ => rfl
  have g38 : mg "_law_bound_holds" = some (.ref f38) := PySem.W.mg_of KX G a38
  have ClCW : Cls K CW := ⟨pgCW, hdCW, poCW, saCW⟩
  have GcCW : mg "RowWalk" = some (.ref CW) := PySem.W.mg_of KX G gCW
  have TW := (⟨ClCW, nCW_inside, nCW_asks, nCW_over⟩ : TxW K CW)
  have Fm0 := fun_mk (st := s_RowWalk___init__) lm0 cm0d km0
  have bm0 := Fm0.binds (ps := ["self"]) fun _ _ _ _ _ _ us hl => match us, hl with | [_], _ => rfl
  have Mm0 : Meth K CW "__init__" fm0 := ⟨im0, ym0, km0⟩
  have Km0 : Mk K CW fm0 := ⟨mkCW, im0, ym0, kcCW⟩
  have Fm1 := fun_mk (st := s_RowWalk_fields) lm1 cm1d km1
  have bm1 := Fm1.binds (ps := ["self", "word"]) fun _ _ _ _ _ _ us hl => match us, hl with | [_, _], _ => rfl
  have Mm1 : Meth K CW "fields" fm1 := ⟨im1, ym1, km1⟩
  have Fm2 := fun_mk (st := s_RowWalk_can_follow) lm2 cm2d km2
  have bm2 := Fm2.binds (ps := ["self", "crossing"]) fun _ _ _ _ _ _ us hl => match us, hl with | [_, _], _ => rfl
  have Mm2 : Meth K CW "can_follow" fm2 := ⟨im2, ym2, km2⟩
  have Fm3 := fun_mk (st := s_RowWalk_take) lm3 cm3d km3
  have bm3 := Fm3.binds (ps := ["self", "crossing"]) fun _ _ _ _ _ _ us hl => match us, hl with | [_, _], _ => rfl
  have Mm3 : Meth K CW "take" fm3 := ⟨im3, ym3, km3⟩
  have REBadRow : ErrC K mg "BadRow" EBadRow := ⟨PySem.W.mg_of KX G gEBadRow, xEBadRow, kEBadRow, bEBadRow, tEBadRow⟩
  have REBadFace : ErrC K mg "BadFace" EBadFace := ⟨PySem.W.mg_of KX G gEBadFace, xEBadFace, kEBadFace, bEBadFace, tEBadFace⟩
  have XEBadRow : ExcC K EBadRow := ⟨u1EBadRow, u2EBadRow, bEBadRow, u3EBadRow, u4EBadRow, v1, v2, u5EBadRow⟩
  have XEBadFace : ExcC K EBadFace := ⟨u1EBadFace, u2EBadFace, bEBadFace, u3EBadFace, u4EBadFace, v1, v2, u5EBadFace⟩
  refine ⟨PySem.W.fnOf "law" "law" (defArgs s_law) (defBody s_law) (defScope s_law) .none kV39 dc39 pm39 an39 (.ref c39) ct39, [(c35, P35), (c38, P38), (c39, P39)], spLawT K ([(P35, "_law_rows_hold.<locals>.<lambda>"), (P38, "_law_bound_holds.<locals>.<lambda>"), (P39, "law.<locals>.<lambda>")] : List (Addr × Str)), fun p hp => ?_, fun s v => .of_eq rfl, fun H a ns hl _ hT hS => ?_, fun base KB GB TB => ?_⟩
  · skip
    rcases List.mem_cons.mp hp with rfl | hp
    · exact ⟨tO35, tN35, PySem.W.codeHd_of_K KX tH35⟩
    rcases List.mem_cons.mp hp with rfl | hp
    · exact ⟨tO38, tN38, PySem.W.codeHd_of_K KX tH38⟩
    obtain rfl := List.mem_singleton.mp hp
    exact ⟨tO39, tN39, PySem.W.codeHd_of_K KX tH39⟩
  · refine ⟨a, ns, rfl, hS, Nat.le_trans hl n63, fun p hp => ?_, fun _ => rfl⟩
    rcases List.mem_cons.mp hp with rfl | hp
    · exact TabS.nil (hT (c35, P35) (List.mem_cons_self))
    rcases List.mem_cons.mp hp with rfl | hp
    · exact TabS.nil (hT (c38, P38) (List.mem_cons_of_mem _ (List.mem_cons_self)))
    obtain rfl := List.mem_singleton.mp hp
    exact TabS.nil (hT (c39, P39) (List.mem_cons_of_mem _ (List.mem_cons_of_mem _ (List.mem_singleton.mpr rfl))))
  · skip
    have TB35 := TB (c35, P35) (List.mem_cons_self)
    have TB38 := TB (c38, P38) (List.mem_cons_of_mem _ (List.mem_cons_self))
    have TB39 := TB (c39, P39) (List.mem_cons_of_mem _ (List.mem_cons_of_mem _ (List.mem_singleton.mpr rfl)))
    have Om0 : FnOk l.prog w K mg base CX0 1 fm0 _ ["self"] (spKInit CW) := ok_RowWalk___init__ Fm0 TW
    have K_m0 : MakF l.prog w K mg base CX0 1 "RowWalk" CW ["self"] (spKInit CW) := ⟨_, _, Om0, Km0, GcCW, bm0⟩
    have Om1 : FnOk l.prog w K mg base CX0 1 fm1 _ ["self", "word"] (fun vs H Q E => spFields K CW vs H Q E ∨ spFields0 CW vs H Q E) := (ok_RowWalk_fields Fm1 TW TC).or (ok_RowWalk_fields0 Fm1 TW TC)
    have Dm1 : MetF l.prog w K mg base CX0 1 CW "fields" ["self", "word"] (fun vs H Q E => spFields K CW vs H Q E ∨ spFields0 CW vs H Q E) := ⟨_, _, Om1, Mm1, bm1⟩
    have Om2 : FnOk l.prog w K mg base CX0 2 fm2 _ ["self", "crossing"] (spCanA CW) := ok_can_followA Fm2 T TW (PySem.W.mg_none_of KX G z_enumerate) (Dm1.mono (k := 1) (by decide))
    have Dm2 : MetF l.prog w K mg base CX0 2 CW "can_follow" ["self", "crossing"] (spCanA CW) := ⟨_, _, Om2, Mm2, bm2⟩
    have Om3 : FnOk l.prog w K mg base CX0 1 fm3 _ ["self", "crossing"] (spTake CW) := ok_RowWalk_take Fm3 TW
    have Dm3 : MetF l.prog w K mg base CX0 1 CW "take" ["self", "crossing"] (spTake CW) := ⟨_, _, Om3, Mm3, bm3⟩
    have O0 : FnOk l.prog w K mg base CX0 1 f0 _ ["value", "low", "high"] spWhole := ok_whole F0 T
    have D0 : DefF l.prog w K mg base CX0 1 "is_whole" ["value", "low", "high"] spWhole := ⟨_, _, O0, g0, k0, b0⟩
    have O1 : FnOk l.prog w K mg base CX0 1 f1 _ ["value", "least", "most"] spTuple := ok_tuple F1 T
    have D1 : DefF l.prog w K mg base CX0 1 "is_tuple" ["value", "least", "most"] spTuple := ⟨_, _, O1, g1, k1, b1⟩
    have O2 : FnOk l.prog w K mg base CX0 1 f2 _ ["things"] spUnlike := ok_all_unlike F2 T T3
    have D2 : DefF l.prog w K mg base CX0 1 "all_unlike" ["things"] spUnlike := ⟨_, _, O2, g2, k2, b2⟩
    have O3 : FnOk l.prog w K mg base CX0 2 f3 _ ["value", "own", "doors"] spWiresX := ok_are_wiresX F3 T T3 (D1.mono (k := 1) (by decide)) (D0.mono (k := 1) (by decide)) (D2.mono (k := 1) (by decide))
    have D3 : DefF l.prog w K mg base CX0 2 "are_wires" ["value", "own", "doors"] spWiresX := ⟨_, _, O3, g3, k3, b3⟩
    have O4 : FnOk l.prog w K mg base CX0 4 f4 _ ["value"] spGoodX := ok_good_rowX F4 T TW (K_m0.mono (k := 2) (by decide)) (Dm2.mono (k := 3) (by decide)) (Dm3.mono (k := 3) (by decide))
    have D4 : DefF l.prog w K mg base CX0 4 "good_row" ["value"] spGoodX := ⟨_, _, O4, g4, k4, b4⟩
    have O5 : FnOk l.prog w K mg base CX0 4 f5 _ ["row"] (spWalkX CW) := ok_walkedX F5 TW (K_m0.mono (k := 2) (by decide)) (Dm3.mono (k := 3) (by decide))
    have D5 : DefF l.prog w K mg base CX0 4 "walked" ["row"] (spWalkX CW) := ⟨_, _, O5, g5, k5, b5⟩
    have O6 : FnOk l.prog w K mg base CX0 4 f6 _ ["value"] spGoodFX := ok_good_faceX F6 T T3 ⟨_, PySem.W.mg_of KX G cst0⟩ (PySem.W.mg_none_of KX G z_enumerate) (D1.mono (k := 3) (by decide)) (D0.mono (k := 3) (by decide)) (D3.mono (k := 3) (by decide))
    have D6 : DefF l.prog w K mg base CX0 4 "good_face" ["value"] spGoodFX := ⟨_, _, O6, g6, k6, b6⟩
    have O7 : FnOk l.prog w K mg base CX0 5 f7 _ ["value"] spGoodX := ok_is_rowX F7 (D4.mono (k := 4) (by decide))
    have D7 : DefF l.prog w K mg base CX0 5 "is_row" ["value"] spGoodX := ⟨_, _, O7, g7, k7, b7⟩
    have O8 : FnOk l.prog w K mg base CX0 5 f8 _ ["value"] spGoodFX := ok_is_faceX F8 (D6.mono (k := 4) (by decide))
    have D8 : DefF l.prog w K mg base CX0 5 "is_face" ["value"] spGoodFX := ⟨_, _, O8, g8, k8, b8⟩
    have O9 : FnOk l.prog w K mg base (L2.CX l.prog w) 5 f9 _ ["row"] (spNeedX EBadRow) := ok_need_rowX F9 REBadRow (D4.mono (k := 4) (by decide))
    have O10 : FnOk l.prog w K mg base (L2.CX l.prog w) 5 f10 _ ["face"] (spNeedFX EBadFace) := ok_need_faceX F10 REBadFace (D6.mono (k := 4) (by decide))
    have O11 : FnOk l.prog w K mg base (L2.CX l.prog w) 6 f11 _ ["row"] (spControlX EBadRow) := ok_control_ofX F11 TW O9 g9 k9 b9 (D5.mono (k := 5) (by decide))
    have O12 : FnOk l.prog w K mg base (L2.CX l.prog w) 6 f12 _ ["row"] (spOpenX EBadRow) := ok_open_ofX F12 TW O9 g9 k9 b9 (D5.mono (k := 5) (by decide))
    have O13 : FnOk l.prog w K mg base CX0 1 f13 _ ["row", "face"] spFitsG := ok_fits_inG F13
    have D13 : DefF l.prog w K mg base CX0 1 "fits_in" ["row", "face"] spFitsG := ⟨_, _, O13, g13, k13, b13⟩
    have O14 : FnOk l.prog w K mg base (L2.CX l.prog w) 6 f14 _ ["row", "face"] (spFitsX EBadRow EBadFace) := ok_fitsX F14 O9 g9 k9 b9 O10 g10 k10 b10 (D13.mono (k := 5) (by decide))
    have O15 : FnOk l.prog w K mg base CX0 1 f15 _ ["script"] (spBegun K) := ok_begun F15 T
    have D15 : DefF l.prog w K mg base CX0 1 "_law_begun" ["script"] (spBegun K) := ⟨_, _, O15, g15, k15, b15⟩
    have O16 : FnOk l.prog w K mg base CX0 1 f16 _ ["state"] spMixed := ok_mixed F16 T
    have D16 : DefF l.prog w K mg base CX0 1 "_law_mixed" ["state"] spMixed := ⟨_, _, O16, g16, k16, b16⟩
    have O17 : FnOk l.prog w K mg base CX0 2 f17 _ ["state", "room"] spDraw := ok_draw F17 T O16 g16 k16 b16
    have D17 : DefF l.prog w K mg base CX0 2 "_law_draw" ["state", "room"] spDraw := ⟨_, _, O17, g17, k17, b17⟩
    have O18 : FnOk l.prog w K mg base CX0 3 f18 _ ["state", "some"] spPick2 := ok_pick2 F18 T O17 g17 k17 b17
    have D18 : DefF l.prog w K mg base CX0 3 "_law_pick" ["state", "some"] spPick2 := ⟨_, _, O18, g18, k18, b18⟩
    have PK : FnOk l.prog w K mg base CX0 3 f18 _ ["state", "some"] spPick := pick_of O18
    have DPK : DefF l.prog w K mg base CX0 3 "_law_pick" ["state", "some"] spPick := ⟨_, _, PK, g18, k18, b18⟩
    have O19 : FnOk l.prog w K mg base CX0 3 f19 _ ["state", "some"] spShuf := ok__law_shuffled F19 T (D17.mono (k := 2) (by decide))
    have D19 : DefF l.prog w K mg base CX0 3 "_law_shuffled" ["state", "some"] spShuf := ⟨_, _, O19, g19, k19, b19⟩
    have O20 : FnOk l.prog w K mg base CX0 4 f20 _ ["state"] (spNo 2) := ok_small F20 O17 g17 k17 b17 PK g18 k18 b18
    have D20 : DefF l.prog w K mg base CX0 4 "_law_small" ["state"] (spNo 2) := ⟨_, _, O20, g20, k20, b20⟩
    have O22 : FnOk l.prog w K mg base CX0 5 f22 _ ["state", "most"] (spFaceD 1 6) := ok__law_drawn_face F22 T (PySem.W.mg_none_of KX G z_enumerate) (D17.mono (k := 4) (by decide)) (D19.mono (k := 4) (by decide)) (DPK.mono (k := 4) (by decide))
    have D22 : DefF l.prog w K mg base CX0 5 "_law_drawn_face" ["state", "most"] (spFaceD 1 6) := ⟨_, _, O22, g22, k22, b22⟩
    have O23 : FnOk l.prog w K mg base CX0 5 f23 _ ["state", "face", "control", "asks", "few"] spNextC := ok__law_next F23 T (D17.mono (k := 4) (by decide)) (D18.mono (k := 4) (by decide))
    have D23 : DefF l.prog w K mg base CX0 5 "_law_next" ["state", "face", "control", "asks", "few"] spNextC := ⟨_, _, O23, g23, k23, b23⟩
    have O24 : FnOk l.prog w K mg base CX0 1 f24 _ ["control", "asks", "crossing"] (spBehind K) := ok__law_behind F24
    have D24 : DefF l.prog w K mg base CX0 1 "_law_behind" ["control", "asks", "crossing"] (spBehind K) := ⟨_, _, O24, g24, k24, b24⟩
    have O25 : FnOk l.prog w K mg base CX0 9 f25 _ ["state"] spFew := ok__law_few F25 T (D17.mono (k := 8) (by decide)) (D20.mono (k := 8) (by decide))
    have D25 : DefF l.prog w K mg base CX0 9 "_law_few" ["state"] spFew := ⟨_, _, O25, g25, k25, b25⟩
    have O26 : FnOk l.prog w K mg base CX0 10 f26 _ ["state", "face", "most"] spRowD := ok__law_drawn_row F26 T (D25.mono (k := 9) (by decide)) (D17.mono (k := 9) (by decide)) (D18.mono (k := 9) (by decide)) (D23.mono (k := 9) (by decide)) (D24.mono (k := 9) (by decide))
    have D26 : DefF l.prog w K mg base CX0 10 "_law_drawn_row" ["state", "face", "most"] spRowD := ⟨_, _, O26, g26, k26, b26⟩
    have O27 : FnOk l.prog w K mg base CX0 2 f27 _ ["row"] spBehindRowX := ok__law_behind_rowX F27 (D24.mono (k := 1) (by decide))
    have D27 : DefF l.prog w K mg base CX0 2 "_law_behind_row" ["row"] spBehindRowX := ⟨_, _, O27, g27, k27, b27⟩
    have O28 : FnOk l.prog w K mg base CX0 1 f28 _ ["thing", "bound"] spCount := ok__law_is_count F28 T
    have D28 : DefF l.prog w K mg base CX0 1 "_law_is_count" ["thing", "bound"] spCount := ⟨_, _, O28, g28, k28, b28⟩
    have O29 : FnOk l.prog w K mg base CX0 2 f29 _ ["thing"] spCross := ok__law_is_crossing F29 T (D28.mono (k := 1) (by decide))
    have D29 : DefF l.prog w K mg base CX0 2 "_law_is_crossing" ["thing"] spCross := ⟨_, _, O29, g29, k29, b29⟩
    have O30 : FnOk l.prog w K mg base CX0 1 f30 _ ["control", "asks", "crossing"] spMay := ok__law_may_follow F30 (PySem.W.mg_none_of KX G z_len)
    have D30 : DefF l.prog w K mg base CX0 1 "_law_may_follow" ["control", "asks", "crossing"] spMay := ⟨_, _, O30, g30, k30, b30⟩
    have O31 : FnOk l.prog w K mg base CX0 4 f31 _ ["thing"] spGoodX := ok__law_judged F31 T (D29.mono (k := 3) (by decide)) (D30.mono (k := 3) (by decide)) (D24.mono (k := 3) (by decide))
    have D31 : DefF l.prog w K mg base CX0 4 "_law_judged" ["thing"] spGoodX := ⟨_, _, O31, g31, k31, b31⟩
    have O32 : FnOk l.prog w K mg base CX0 4 f32 _ ["row", "face"] spFitsG := ok__law_fitting F32 (PySem.W.mg_none_of KX G z_len) (PySem.W.mg_none_of KX G z_list) (D24.mono (k := 3) (by decide))
    have D32 : DefF l.prog w K mg base CX0 4 "_law_fitting" ["row", "face"] spFitsG := ⟨_, _, O32, g32, k32, b32⟩
    have O33 : FnOk l.prog w K mg base CX0 5 f33 _ ["state", "crossing"] spSpoI := ok__law_spoilt_item F33 T (D17.mono (k := 4) (by decide)) (D18.mono (k := 4) (by decide))
    have D33 : DefF l.prog w K mg base CX0 5 "_law_spoilt_item" ["state", "crossing"] spSpoI := ⟨_, _, O33, g33, k33, b33⟩
    have O34 : FnOk l.prog w K mg base CX0 7 f34 _ ["state", "row"] spSpoR := ok__law_spoilt_row F34 T (D17.mono (k := 6) (by decide)) (D18.mono (k := 6) (by decide)) (D33.mono (k := 6) (by decide))
    have D34 : DefF l.prog w K mg base CX0 7 "_law_spoilt_row" ["state", "row"] spSpoR := ⟨_, _, O34, g34, k34, b34⟩
    have O35 : FnOk l.prog w K mg base CX0 12 f35 _ ["state", "row"] (spRowsH ([(P35, "_law_rows_hold.<locals>.<lambda>"), (P38, "_law_bound_holds.<locals>.<lambda>"), (P39, "law.<locals>.<lambda>")] : List (Addr × Str))) := ok__law_rows_hold l35 c35d T TB35 List.mem_cons_self (hu_1 ne12 ne13) REBadRow XEBadRow eEBadRow iEBadRow (PySem.W.mg_of KX G gCO) F21 g21 b21 (O7.mono (k := 9) (by decide)) g7 k7 (kb_is_row F7) (O11.mono (k := 9) (by decide)) g11 k11 b11 (kb_control_of F11) (O12.mono (k := 9) (by decide)) g12 k12 b12 (kb_open_of F12) (O14.mono (k := 9) (by decide)) g14 k14 b14 (D31.mono (k := 11) (by decide)) (D27.mono (k := 11) (by decide))
    have D35 : DefF l.prog w K mg base CX0 12 "_law_rows_hold" ["state", "row"] (spRowsH ([(P35, "_law_rows_hold.<locals>.<lambda>"), (P38, "_law_bound_holds.<locals>.<lambda>"), (P39, "law.<locals>.<lambda>")] : List (Addr × Str))) := ⟨_, _, O35, g35, k35, b35⟩
    have O36 : FnOk l.prog w K mg base CX0 4 f36 _ ["thing"] spGoodFX := ok__law_face_judged F36 T T3 (PySem.W.mg_none_of KX G z_enumerate) (D28.mono (k := 3) (by decide))
    have D36 : DefF l.prog w K mg base CX0 4 "_law_face_judged" ["thing"] spGoodFX := ⟨_, _, O36, g36, k36, b36⟩
    have O37 : FnOk l.prog w K mg base CX0 7 f37 _ ["state", "face"] spSpoF := ok__law_spoilt_face F37 T (D17.mono (k := 6) (by decide)) (D18.mono (k := 6) (by decide))
    have D37 : DefF l.prog w K mg base CX0 7 "_law_spoilt_face" ["state", "face"] spSpoF := ⟨_, _, O37, g37, k37, b37⟩
    have O38 : FnOk l.prog w K mg base CX0 12 f38 _ ["number"] (spBound ([(P35, "_law_rows_hold.<locals>.<lambda>"), (P38, "_law_bound_holds.<locals>.<lambda>"), (P39, "law.<locals>.<lambda>")] : List (Addr × Str))) := ok__law_bound_holds l38 c38d T TB38 (List.mem_cons_of_mem _ List.mem_cons_self) (hu_2 ne12 ne23) REBadRow XEBadRow eEBadRow iEBadRow (PySem.W.mg_of KX G gCO) F21 g21 b21 (D7.mono (k := 11) (by decide)) (O11.mono (k := 9) (by decide)) g11 k11 b11 (O12.mono (k := 9) (by decide)) g12 k12 b12 (O14.mono (k := 9) (by decide)) g14 k14 b14
    have D38 : DefF l.prog w K mg base CX0 12 "_law_bound_holds" ["number"] (spBound ([(P35, "_law_rows_hold.<locals>.<lambda>"), (P38, "_law_bound_holds.<locals>.<lambda>"), (P39, "law.<locals>.<lambda>")] : List (Addr × Str))) := ⟨_, _, O38, g38, k38, b38⟩
    exact FnOk.toG (ok_law l39 c39d T TB39 (List.mem_cons_of_mem _ (List.mem_cons_of_mem _ (List.mem_singleton.mpr rfl))) (hu_3 ne13 ne23) REBadFace XEBadFace eEBadFace iEBadFace (PySem.W.mg_of KX G gCO) F21 g21 b21 (O14.mono (k := 10) (by decide)) g14 k14 b14 (kb_fits F14) (O8.mono (k := 9) (by decide)) g8 k8 (kb_is_face F8) (D15.mono (k := 12) (by decide)) (D20.mono (k := 12) (by decide)) (D22.mono (k := 12) (by decide)) (D26.mono (k := 12) (by decide)) (D35.mono (k := 12) (by decide)) (D34.mono (k := 12) (by decide)) (D31.mono (k := 12) (by decide)) (D32.mono (k := 12) (by decide)) (D37.mono (k := 12) (by decide)) (D36.mono (k := 12) (by decide)) (D38.mono (k := 12) (by decide)))
end OH
end
open PySem PySem.W PyProof.Rows in
set_option Elab.async false in
set_option maxRecDepth 100000 in
set_option maxHeartbeats 0 in
theorem PySem.Challenge.cw_ownharm_k55_rows_judged_holds : PySem.Challenge.rw_ownharm_k55_rows_judged.Holds := by
  w_on; o_law; k_head; (case hw => w_witness2)
  k_fill
  refine OH.walk_ofG (n := 63) (k := 13) (x := "script") rfl (by decide) rfl ⟨rfl, by decide, by decide⟩ (fun w h Y => PySem.W.km_in_of Y) ?F
  case F =>
    intro w mg fa h Y KX G hmg
    refine' OH.all_mk (P35 := 332) (P38 := 353) (P39 := 358) KX G hmg (by decide) ?a0 ?l0 ?c0d ?k0 ?a1 ?l1 ?c1d ?k1 ?a2 ?l2 ?c2d ?k2 ?a3 ?l3 ?c3d ?k3 ?a4 ?l4 ?c4d ?k4 ?a5 ?l5 ?c5d ?k5 ?a6 ?l6 ?c6d ?k6 ?a7 ?l7 ?c7d ?k7 ?a8 ?l8 ?c8d ?k8 ?a9 ?l9 ?c9d ?k9 ?a10 ?l10 ?c10d ?k10 ?a11 ?l11 ?c11d ?k11 ?a12 ?l12 ?c12d ?k12 ?a13 ?l13 ?c13d ?k13 ?a14 ?l14 ?c14d ?k14 ?a15 ?l15 ?c15d ?k15 ?a16 ?l16 ?c16d ?k16 ?a17 ?l17 ?c17d ?k17 ?a18 ?l18 ?c18d ?k18 ?a19 ?l19 ?c19d ?k19 ?a20 ?l20 ?c20d ?k20 ?a21 ?l21 ?c21d ?k21 ?a22 ?l22 ?c22d ?k22 ?a23 ?l23 ?c23d ?k23 ?a24 ?l24 ?c24d ?k24 ?a25 ?l25 ?c25d ?k25 ?a26 ?l26 ?c26d ?k26 ?a27 ?l27 ?c27d ?k27 ?a28 ?l28 ?c28d ?k28 ?a29 ?l29 ?c29d ?k29 ?a30 ?l30 ?c30d ?k30 ?a31 ?l31 ?c31d ?k31 ?a32 ?l32 ?c32d ?k32 ?a33 ?l33 ?c33d ?k33 ?a34 ?l34 ?c34d ?k34 ?a35 ?l35 ?c35d ?k35 ?a36 ?l36 ?c36d ?k36 ?a37 ?l37 ?c37d ?k37 ?a38 ?l38 ?c38d ?k38 ?a39 ?l39 ?c39d ?k39 ?gCW ?pgCW ?hdCW ?poCW ?saCW ?mkCW ?kcCW ?nCW_inside ?nCW_asks ?nCW_over ?im0 ?ym0 ?lm0 ?cm0d ?km0 ?im1 ?ym1 ?lm1 ?cm1d ?km1 ?im2 ?ym2 ?lm2 ?cm2d ?km2 ?im3 ?ym3 ?lm3 ?cm3d ?km3 ?z_isinstance ?z_int ?z_bool ?z_tuple ?z_str ?z_len ?z_all ?z_list ?z_abs ?z_range ?z_zip ?z_sorted ?z_repr ?z_enumerate ?z_set ?cst0 ?cst1 ?cst2 ?cst3 ?gCO ?v1 ?v2 ?gEBadRow ?xEBadRow ?kEBadRow ?gEBadFace ?xEBadFace ?kEBadFace ?bEBadRow ?tEBadRow ?u1EBadRow ?u2EBadRow ?u3EBadRow ?u4EBadRow ?u5EBadRow ?iEBadRow ?eEBadRow ?bEBadFace ?tEBadFace ?u1EBadFace ?u2EBadFace ?u3EBadFace ?u4EBadFace ?u5EBadFace ?iEBadFace ?eEBadFace ?aNUM ?lNUM ?aDOR ?lDOR ?ne12 ?ne13 ?ne23 ?tH35 ?tN35 (PySem.W.km_tabs_of Y 332 (by simp)) ?tH38 ?tN38 (PySem.W.km_tabs_of Y 353 (by simp)) ?tH39 ?tN39 (PySem.W.km_tabs_of Y 358 (by simp))
    (case a0 => k_is)
    (case l0 => k_is)
    (case c0d => k_is)
    (case k0 => k_is)
    (case a1 => k_is)
    (case l1 => k_is)
    (case c1d => k_is)
    (case k1 => k_is)
    (case a2 => k_is)
    (case l2 => k_is)
    (case c2d => k_is)
    (case k2 => k_is)
    (case a3 => k_is)
    (case l3 => k_is)
    (case c3d => k_is)
    (case k3 => k_is)
    (case a4 => k_is)
    (case l4 => k_is)
    (case c4d => k_is)
    (case k4 => k_is)
    (case a5 => k_is)
    (case l5 => k_is)
    (case c5d => k_is)
    (case k5 => k_is)
    (case a6 => k_is)
    (case l6 => k_is)
    (case c6d => k_is)
    (case k6 => k_is)
    (case a7 => k_is)
    (case l7 => k_is)
    (case c7d => k_is)
    (case k7 => k_is)
    (case a8 => k_is)
    (case l8 => k_is)
    (case c8d => k_is)
    (case k8 => k_is)
    (case a9 => k_is)
    (case l9 => k_is)
    (case c9d => k_is)
    (case k9 => k_is)
    (case a10 => k_is)
    (case l10 => k_is)
    (case c10d => k_is)
    (case k10 => k_is)
    (case a11 => k_is)
    (case l11 => k_is)
    (case c11d => k_is)
    (case k11 => k_is)
    (case a12 => k_is)
    (case l12 => k_is)
    (case c12d => k_is)
    (case k12 => k_is)
    (case a13 => k_is)
    (case l13 => k_is)
    (case c13d => k_is)
    (case k13 => k_is)
    (case a14 => k_is)
    (case l14 => k_is)
    (case c14d => k_is)
    (case k14 => k_is)
    (case a15 => k_is)
    (case l15 => k_is)
    (case c15d => k_is)
    (case k15 => k_is)
    (case a16 => k_is)
    (case l16 => k_is)
    (case c16d => k_is)
    (case k16 => k_is)
    (case a17 => k_is)
    (case l17 => k_is)
    (case c17d => k_is)
    (case k17 => k_is)
    (case a18 => k_is)
    (case l18 => k_is)
    (case c18d => k_is)
    (case k18 => k_is)
    (case a19 => k_is)
    (case l19 => k_is)
    (case c19d => k_is)
    (case k19 => k_is)
    (case a20 => k_is)
    (case l20 => k_is)
    (case c20d => k_is)
    (case k20 => k_is)
    (case a21 => k_is)
    (case l21 => k_is)
    (case c21d => k_is)
    (case k21 => k_is)
    (case a22 => k_is)
    (case l22 => k_is)
    (case c22d => k_is)
    (case k22 => k_is)
    (case a23 => k_is)
    (case l23 => k_is)
    (case c23d => k_is)
    (case k23 => k_is)
    (case a24 => k_is)
    (case l24 => k_is)
    (case c24d => k_is)
    (case k24 => k_is)
    (case a25 => k_is)
    (case l25 => k_is)
    (case c25d => k_is)
    (case k25 => k_is)
    (case a26 => k_is)
    (case l26 => k_is)
    (case c26d => k_is)
    (case k26 => k_is)
    (case a27 => k_is)
    (case l27 => k_is)
    (case c27d => k_is)
    (case k27 => k_is)
    (case a28 => k_is)
    (case l28 => k_is)
    (case c28d => k_is)
    (case k28 => k_is)
    (case a29 => k_is)
    (case l29 => k_is)
    (case c29d => k_is)
    (case k29 => k_is)
    (case a30 => k_is)
    (case l30 => k_is)
    (case c30d => k_is)
    (case k30 => k_is)
    (case a31 => k_is)
    (case l31 => k_is)
    (case c31d => k_is)
    (case k31 => k_is)
    (case a32 => k_is)
    (case l32 => k_is)
    (case c32d => k_is)
    (case k32 => k_is)
    (case a33 => k_is)
    (case l33 => k_is)
    (case c33d => k_is)
    (case k33 => k_is)
    (case a34 => k_is)
    (case l34 => k_is)
    (case c34d => k_is)
    (case k34 => k_is)
    (case a35 => k_is)
    (case l35 => k_is)
    (case c35d => k_is)
    (case k35 => k_is)
    (case a36 => k_is)
    (case l36 => k_is)
    (case c36d => k_is)
    (case k36 => k_is)
    (case a37 => k_is)
    (case l37 => k_is)
    (case c37d => k_is)
    (case k37 => k_is)
    (case a38 => k_is)
    (case l38 => k_is)
    (case c38d => k_is)
    (case k38 => k_is)
    (case a39 => k_is)
    (case l39 => k_is)
    (case c39d => k_is)
    (case k39 => k_is)
    (case gCW => k_is)
    (case pgCW => k_is)
    (case hdCW => k_is)
    (case poCW => k_is)
    (case saCW => k_is)
    (case mkCW => k_is)
    (case kcCW => k_is)
    (case nCW_inside => k_is)
    (case nCW_asks => k_is)
    (case nCW_over => k_is)
    (case im0 => k_is)
    (case ym0 => k_is)
    (case lm0 => k_is)
    (case cm0d => k_is)
    (case km0 => k_is)
    (case im1 => k_is)
    (case ym1 => k_is)
    (case lm1 => k_is)
    (case cm1d => k_is)
    (case km1 => k_is)
    (case im2 => k_is)
    (case ym2 => k_is)
    (case lm2 => k_is)
    (case cm2d => k_is)
    (case km2 => k_is)
    (case im3 => k_is)
    (case ym3 => k_is)
    (case lm3 => k_is)
    (case cm3d => k_is)
    (case km3 => k_is)
    (case z_isinstance => k_is)
    (case z_int => k_is)
    (case z_bool => k_is)
    (case z_tuple => k_is)
    (case z_str => k_is)
    (case z_len => k_is)
    (case z_all => k_is)
    (case z_list => k_is)
    (case z_abs => k_is)
    (case z_range => k_is)
    (case z_zip => k_is)
    (case z_sorted => k_is)
    (case z_repr => k_is)
    (case z_enumerate => k_is)
    (case z_set => k_is)
    (case cst0 => k_is)
    (case cst1 => k_is)
    (case cst2 => k_is)
    (case cst3 => k_is)
    (case gCO => k_is)
    (case v1 => k_is)
    (case v2 => k_is)
    (case gEBadRow => k_is)
    (case xEBadRow => kernel_rfl)
    (case kEBadRow => k_is)
    (case gEBadFace => k_is)
    (case xEBadFace => kernel_rfl)
    (case kEBadFace => k_is)
    (case bEBadRow => k_is)
    (case tEBadRow => k_is)
    (case u1EBadRow => k_is)
    (case u2EBadRow => k_is)
    (case u3EBadRow => k_is)
    (case u4EBadRow => k_is)
    (case u5EBadRow => k_is)
    (case iEBadRow => kernel_rfl)
    (case eEBadRow => kernel_rfl)
    (case bEBadFace => k_is)
    (case tEBadFace => k_is)
    (case u1EBadFace => k_is)
    (case u2EBadFace => k_is)
    (case u3EBadFace => k_is)
    (case u4EBadFace => k_is)
    (case u5EBadFace => k_is)
    (case iEBadFace => kernel_rfl)
    (case eEBadFace => kernel_rfl)
    (case aNUM => k_is)
    (case lNUM => k_is)
    (case aDOR => k_is)
    (case lDOR => k_is)
    (case ne12 => decide)
    (case ne13 => decide)
    (case ne23 => decide)
    (case tH35 => kernel_rfl)
    (case tN35 => kernel_rfl)
    (case tH38 => kernel_rfl)
    (case tN38 => kernel_rfl)
    (case tH39 => kernel_rfl)
    (case tN39 => kernel_rfl)
